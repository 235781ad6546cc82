import PyProof.Rows.All
import Wide.All
import OpenK.AllK
import Wide.FinOn
import Lean
import PyProof.EqAt
import PyProof.EqKinds
import PyProof.TupleCall
import PySem.Challenge.RW_stayprice_k33_night_not_sold
set_option Elab.async false
set_option linter.all false
set_option maxRecDepth 100000
def zm4 := @_root_.PySem.wpAny_bind
def zm5 := @_root_.PySem.Heap.get?_push_of_some
def zm6 := @_root_.List.length_map
def zm7 := @_root_.PySem.wpAny_pure
def zm8 := @_root_.List.getElem?_eq_some_iff
def zm9 := @_root_.List.getElem?_eq_getElem
def zn0 := @_root_.Nat.le_refl
def zn1 := @_root_.PySem.Heap.lt_size
def zn2 := @_root_.List.mem_cons
def zn3 := @_root_.List.size_toArray
def zn4 := @_root_.Bool.false_ne_true
def zn5 := @_root_.List.getD_eq_getElem?_getD
def zn6 := @_root_.List.mem_cons_of_mem
def zn7 := @_root_.List.length_cons
def zn8 := @_root_.PySem.Heap.get?_push_size
def zn9 := @_root_.PySem.Heap.get?_update_other
def zo0 := @_root_.List.getElem?_map
def zo1 := @_root_.Nat.lt_of_lt_of_le
def zo2 := @_root_.Nat.ne_of_lt
def zo3 := @_root_.Nat.zero_le
def zo4 := @_root_.List.not_mem_nil
def zo5 := @_root_.List.mem_cons_self
def zo6 := @_root_.Bool.and_eq_true
def zo7 := @_root_.PySem.W.mg_none_of
def zo8 := @_root_.List.mem_singleton
def zo9 := @_root_.Option.some.inj
def zp0 := @_root_.Option.map_eq_some_iff
def zp1 := @_root_.Bool.eq_false_iff
def zp2 := @_root_.PySem.W.mg_of
def zp3 := @_root_.PySem.wpAny_mono
def zp4 := @_root_.Ne.symm
def zp5 := @_root_.decide_eq_false
def zp6 := @_root_.List.lookup_cons
def zp7 := @_root_.decide_eq_true
def zp8 := @_root_.List.map_cons
def zp9 := @_root_.List.getElem?_set_ne
def zq0 := @_root_.PySem.sizeLine_eq
def zq1 := @_root_.List.length_append
def zq2 := @_root_.List.mem_append_right
def zq3 := @_root_.List.length_set
def zq4 := @_root_.decide_eq_true_eq
def zq5 := @_root_.List.getElem?_append_left
def zq6 := @_root_.or_false
def zq7 := @_root_.PySem.mem_of_lookup
def zq8 := @_root_.PyProof.Rows.callWith_type1
def zq9 := @_root_.PySem.wpAny_holding
def zr0 := @_root_.List.getElem?_append_right
def zr1 := @_root_.PySem.W.kia_one
def zr2 := @_root_.Nat.le_trans
def zr3 := @_root_.Bool.false_and
def zr4 := @_root_.PySem.Heap.get?_update_self
def zr5 := @_root_.Nat.le_of_ble_eq_true
def zr6 := @_root_.PySem.wpAny_field
def zr7 := @_root_.PySem.wpAny_truthy_bool
def zr8 := @_root_.List.find?_cons
def zr9 := @_root_.List.map_append
def zs0 := @_root_.PySem.F.slot_zip_next
def zs1 := @_root_.PySem.strLen_append
def zs2 := @_root_.List.mem_of_getElem?
def zs3 := @_root_.List.getElem?_replicate
def zs4 := @_root_.List.getElem?_set_self
def zs5 := @_root_.PySem.wpAny_nextOf_list_item
def zs6 := @_root_.Nat.lt_irrefl
def zs7 := @_root_.Bool.true_and
def zs8 := @_root_.List.length_take
def zs9 := @_root_.PySem.Heap.size_push
def zt0 := @_root_.PySem.wpAny_Call_Name_kw
def zt1 := @_root_.Bool.false_eq_true
def zt2 := @_root_.PySem.F.plain_extend_loop
def zt3 := @_root_.Nat.le_of_lt
def zt4 := @_root_.beq_iff_eq
def zt5 := @_root_.List.append_nil
def zt6 := @_root_.Int.eq_ofNat_of_zero_le
def zt7 := @_root_.PySem.wpAny_seqItems
def zt8 := @_root_.Nat.ne_of_gt
def zt9 := @_root_.PySem.Obj.data_mapFields
def zu0 := @_root_.List.mem_append
def zu1 := @_root_.PySem.wpAny_passesOwn
def zu2 := @_root_.PyProof.Rows.get?_update_seq
def zu3 := @_root_.PySem.PassesOwn.never
def zu4 := @_root_.PySem.Obj.isFreed_of_fields
def zu5 := @_root_.PyProof.Rows.boot_isinstance
def zu6 := @_root_.Array.getElem?_eq_some_iff
def zu7 := @_root_.PySem.F.excBase_ValueError
def zu8 := @_root_.List.take_add_one
def zu9 := @_root_.PySem.wpAny_loadPart_at
def zv0 := @_root_.List.drop_eq_getElem_cons
def zv1 := @_root_.Nat.le_succ
def zv2 := @_root_.PySem.boot_len
def zv3 := @_root_.List.all_eq_true
def zv4 := @_root_.Nat.lt_or_ge
def zv5 := @_root_.Option.bind_some
def zv6 := @_root_.beq_eq_false_iff_ne
def zv7 := @_root_.List.getElem?_cons_succ
def zv8 := @_root_.decide_eq_false_iff_not
def zv9 := @_root_.List.any_cons
def zw0 := @_root_.PySem.wpAny_call
def zw1 := @_root_.PySem.W.callWith_K
def zw2 := @_root_.Bool.or_eq_true
def zw3 := @_root_.Int.emod_lt_of_pos
def zw4 := @_root_.if_false
def zw5 := @_root_.PySem.W.methodCall_KW
def zw6 := @_root_.PySem.codeAny_mono
def zw7 := @_root_.Nat.lt_succ_self
def zw8 := @_root_.List.filter_cons
def zw9 := @_root_.List.cons_append
def zx0 := @_root_.List.take_length
def zx1 := @_root_.PySem.wpAny_standAt
def zx2 := @_root_.PySem.wpAny_attempt
def zx3 := @_root_.List.length_reverse
def zx4 := @_root_.PySem.Heap.SameBut.update
def zx5 := @_root_.PySem.wpAny_execs_nil
def zx6 := @_root_.List.forIn_cons
def zx7 := @_root_.Array.Perm.refl
def zx8 := @_root_.Nat.div_add_mod
def zx9 := @_root_.PySem.wpAny_updateSeq
def zy0 := @_root_.Int.emod_nonneg
def zy1 := @_root_.PySem.wpAny_setField_rec
def zy2 := @_root_.PySem.wpAny_callSpecial?_slot
def zy3 := @_root_.PySem.F.args_zip_next_1
def zy4 := @_root_.PySem.wpAny_pyIter_list
def zy5 := @_root_.Int.toNat_natCast
def zy6 := @_root_.PySem.F.entry_zip_next
def zy7 := @_root_.Bool.false_or
def zy8 := @_root_.List.drop_length
def zy9 := @_root_.List.getElem_mem
def zz0 := @_root_.PySem.wpAny_call_entry
def zz1 := @_root_.List.length_replicate
def zz2 := @_root_.List.length_singleton
def zz3 := @_root_.List.getElem?_eq_none
def zz4 := @_root_.List.mem_append_left
def zz5 := @_root_.Bool.eq_iff_iff
def zz6 := @_root_.Nat.le_of_eq
def zz7 := @_root_.List.nodup_cons
def zz8 := @_root_.List.nil_append
def zz9 := @_root_.Bool.true_or
def zA0 := @_root_.List.filterMap_cons
def zA1 := @_root_.PySem.W.plainGet_of
def zA2 := @_root_.Bool.and_false
def zA3 := @_root_.List.forIn_nil
def zA4 := @_root_.List.forIn_toArray
def zA5 := @_root_.Bool.or_false
def zA6 := @_root_.List.all_cons
namespace L2
open PySem PySem.Spec PyProof.Rows
abbrev Key :=Sum Int Str
def rD :Key→Value→Bool
 |.inl k,v=>Value.isInt k v
 |.inr x,v=>Value.isStrOf x v
def zm2 (w:World):Key→Int
 |.inl k=>hashInt k
 |.inr x=>hashStr w x
theorem yb :∀{k:Key} {v:Value},rD k v=true→(∃i t,k=Sum.inl i∧v=Value.int i t)∨(∃x t,k=Sum.inr x∧v=Value.str x t)
 |.inl i,v,h=>by
  obtain⟨t,e⟩:=Value.isInt_shape (k:=i) (v:=v) h
  exact .inl ⟨i,t,rfl,e⟩
 |.inr x,v,h=>by
  obtain⟨t,e⟩:=Value.isStrOf_shape (x:=x) (v:=v) h
  exact .inr ⟨x,t,rfl,e⟩
theorem kQ (i:Int)(t:Tok):rD (.inl i) (.int i t)=true:=by simp[rD,Value.isInt]
theorem kZ (x:Str)(t:Tok):rD (.inr x) (.str x t)=true:=by simp[rD,Value.isStrOf]
theorem aH (a b:Int):decide ((Sum.inl a:Key)=Sum.inl b)=(a == b):=by
 by_cases e:a=b
 ·subst e;simp
 ·have h:¬(Sum.inl a:Key)=Sum.inl b:=fun q=>e (Sum.inl.inj q)
  rw[zp5 h]
  exact (zv6.mpr e).symm
theorem aW (a b:Str):decide ((Sum.inr a:Key)=Sum.inr b)=decide (a=b):=by
 by_cases e:a=b
 ·subst e;simp
 ·have h:¬(Sum.inr a:Key)=Sum.inr b:=fun q=>e (Sum.inr.inj q)
  rw[zp5 h,zp5 e]
theorem ag (a:Int)(b:Str):decide ((Sum.inl a:Key)=Sum.inr b)=false:=zp5 (fun q=>nomatch q)
theorem za9 (a:Str)(b:Int):decide ((Sum.inr a:Key)=Sum.inl b)=false:=zp5 (fun q=>nomatch q)
def yM (prog:Program)(w:World):PySem.KeyKind prog w Key where
 is:=rD
 hash:=zm2 w
 inj:=fun v a b ha hb=>by
  rcases yb ha with ⟨i,t,rfl,rfl⟩|⟨x,t,rfl,rfl⟩
  ·rcases yb hb with ⟨j,u,rfl,e⟩|⟨y,u,rfl,e⟩
   ·injection e with e1 _;rw[e1]
   ·exact nomatch e
  ·rcases yb hb with ⟨j,u,rfl,e⟩|⟨y,u,rfl,e⟩
   ·exact nomatch e
   ·injection e with e1 _;rw[e1]
 byValue:=fun k v h=>by
  rcases yb h with ⟨i,t,rfl,rfl⟩|⟨x,t,rfl,rfl⟩<;>rfl
 pyHash:=fun hv h=>by
  rcases yb hv with ⟨i,t,rfl,rfl⟩|⟨x,t,rfl,rfl⟩
  ·exact wpAny_pyHash_int h
  ·exact wpAny_pyHash_str h
 eqBool:=fun hu hv h=>by
  rcases yb hu with ⟨i,t,rfl,rfl⟩|⟨x,t,rfl,rfl⟩
  ·rcases yb hv with ⟨j,u,rfl,rfl⟩|⟨y,u,rfl,rfl⟩
   ·rw[aH] at h;exact wpAny_eqBool_int h
   ·rw[ag] at h;exact SeqAt.EqAt.int_str i t y u _ _ _ _ h
  ·rcases yb hv with ⟨j,u,rfl,rfl⟩|⟨y,u,rfl,rfl⟩
   ·rw[za9] at h;exact SeqAt.EqAt.str_int x t j u _ _ _ _ h
   ·rw[aW] at h;exact wpAny_eqBool_str h
 «strs»:=fun k x t v h=>by
  rcases yb h with ⟨i,u,rfl,e⟩|⟨y,u,rfl,e⟩
  ·exact nomatch e
  ·injection e with e1 _
   subst e1
   cases v<;>rfl
theorem pM (prog:Program)(w:World)(i:Int)(t:Tok):(yM prog w).is (.inl i) (.int i t)=true:=kQ i t
theorem pU (prog:Program)(w:World)(x:Str)(t:Tok):(yM prog w).is (.inr x) (.str x t)=true:=kZ x t
inductive V where
 |non|bl (b:Bool)|int (i:Int)|str (x:Str)|byt (b:Array UInt8)|flt (b:UInt64)|ref (a:Addr)|ty (n:String)
 deriving DecidableEq
def RelV :V→Value→Prop
 |.non,u=>u=Value.none
 |.bl b,u=>u=Value.bool b
 |.int i,u=>∃t,u=Value.int i t
 |.str x,u=>∃t,u=Value.str x t
 |.byt b,u=>∃t,u=Value.bytes b t
 |.flt b,u=>∃t,u=Value.float b t
 |.ref a,u=>u=Value.ref a
 |.ty n,u=>u=Value.type n
abbrev Vals :List V→List Value→Prop:=Paired RelV
theorem Vals.length {xs:List V}{us:List Value}(r:Vals xs us):xs.length=us.length:=Paired.length r
theorem Vals.get :∀{xs:List V} {us:List Value} {i:Nat} {x:V},Vals xs us→xs[i]?=some x→∃u,us[i]?=some u∧RelV x u
 |_,_,_,_,.nil,e=>by simp at e
 |_,_,0,_,.cons r _,e=>by simp at e;subst e;exact⟨_,rfl,r⟩
 |_,_,i+1,x,.cons _ t,e=>by
  obtain⟨u,h1,h2⟩:=Vals.get (i:=i) (x:=x) t (by simpa using e)
  exact⟨u,by simpa using h1,h2⟩
theorem Vals.set {x:V}{u:Value}(r:RelV x u):∀{xs:List V} {us:List Value} (i:Nat),Vals xs us→Vals (xs.set i x) (us.set i u)
 |_,_,_,.nil=>.nil
 |_,_,0,.cons _ t=>.cons r t
 |_,_,i+1,.cons q t=>.cons q (Vals.set r i t)
theorem Vals.append :∀{xs ys:List V} {us ws:List Value},Vals xs us→Vals ys ws→Vals (xs++ys) (us++ws)
 |_,_,_,_,.nil,s=>s
 |_,_,_,_,.cons r t,s=>.cons r (Vals.append t s)
theorem Vals.take :∀{xs:List V} {us:List Value} (n:Nat),Vals xs us→Vals (xs.take n) (us.take n)
 |_,_,0,_=>.nil
 |_,_,_+1,.nil=>.nil
 |_,_,n+1,.cons r t=>.cons r (Vals.take n t)
theorem Vals.drop :∀{xs:List V} {us:List Value} (n:Nat),Vals xs us→Vals (xs.drop n) (us.drop n)
 |_,_,0,r=>r
 |_,_,_+1,.nil=>.nil
 |_,_,n+1,.cons _ t=>Vals.drop n t
def wj :Option V→Option Value→Prop
 |some v,some u=>RelV v u
 |none,none=>True
 |_,_=>False
def KV {κ:Type}:List (κ×V)→List (κ×Value)→Prop:=Paired fun (p:κ×V) (q:κ×Value)=>p.1=q.1∧RelV p.2 q.2
def kV :Key→V
 |.inl i=>.int i
 |.inr x=>.str x
inductive HO where
  |lst (xs:List V)
  |tup (xs:List V)
  |dK (kvs:List (Key×V))|dT (kvs:List (List Key×V))
  |set (S:Int→Bool) (n:Nat)
  |ins (C dx:Addr) (fs:List (Str×V))
  |own (x:Addr)
  |xd (fs:List (Str×V))
  |met (f x:Addr)
  |rng (lo hi:Int)
  |frz (o:Obj) (u:HO)
  |tbl (ps:Array Value)
  |ext (φ:Heap→Prop)
abbrev Hp :=Addr→Option HO
def upd (H:Hp)(a:Addr)(o:HO):Hp:=fun b=>if b=a then some o else H b
theorem zf {H:Hp}{a:Addr}{o:HO}:upd H a o a=some o:=by unfold upd;rw[if_pos rfl]
theorem zd {H:Hp}{a b:Addr}{o:HO}(h:b≠a):upd H a o b=H b:=by unfold upd;rw[if_neg h]
theorem vB {H:Hp}{a:Addr}{o u:HO}:upd (upd H a o) a u=upd H a u:=by
 funext b;unfold upd;split<;>rfl
theorem bh {H:Hp}{a b:Addr}{o u:HO}(h:H a=some o)(h':H b=some u)(d:o≠u):a≠b:=by
 intro e;subst e;rw[h] at h';exact d (zo9 h')
theorem zk {H:Hp}{a b:Addr}{o:HO}(h:H a=some o)(h':H b=none):a≠b:=by
 intro e;subst e;rw[h] at h';cases h'
section
variable (P:Program)(w:World)
def zV (H:Hp)(h:Heap)(a:Addr):HO→Prop
 |.lst xs=>xs.length≤sizeLine∧∃(its:List Value) (n:Nat),Vals xs its∧h.get? a=some {cls:=.type "list",data:=.seq its.toArray n}
 |.tup xs=>xs.length≤sizeLine∧∃its:List Value,Vals xs its∧IsTup h a its.toArray
 |.dK kvs=>kvs.length≤sizeLine∧(a == sysModules)=false∧∃vs,KV kvs vs∧h.DictOf (yM P w) a vs
 |.dT kvs=>kvs.length≤sizeLine∧(a == sysModules)=false∧∃xs:List (List Key×Addr×Value),
   Paired (fun (p:List Key×V) (q:List Key×Addr×Value)=>p.1=q.1∧H q.2.1=some (.tup (p.1.map kV))∧RelV p.2 q.2.2) kvs xs∧
   ∃o es ep,h.get? a=some o∧o.ExactDict∧o.data=.dict es ep∧es.toList=xs.map (entryOfKey (tupleKind (yM P w)))∧(xs.map (·.1)).Nodup
 |.set S n=>h.SetOf (intKind P w) a S n
 |.ins C dx fs=>H dx=some (.own a)∧fs.length≤1000∧dx≠a∧h.get? a=some (PySem.W.instObj C dx)∧
   ∃mA,h.Ns1 dx mA∧(∀f,wj (fs.lookup f) (mA f))∧PySem.Within mA (fs.map (·.1))
 |.own _=>∃o,h.get? a=some o
 |.xd fs=>∃mA,h.Ns1 a mA∧∀f,wj (fs.lookup f) (mA f)
 |.rng lo hi=>∃t u v,h.get? a=some {cls:=.type "range",data:=.fields #[.int lo t,.int hi u,.int 1 v]}
 |.frz o u=>h.get? a=some o∧zV H h a u
 |.tbl ps=>h.get? a=some {cls:=.none,data:=.fields ps}
 |.met f x=>h.get? a=some (PySem.W.methodObj (.ref f) (.ref x))
 |.ext φ=>φ h∧(∃o,h.get? a=some o)∧∀h1 h2:Heap,φ h1→(∀o,h1.get? a=some o→h2.get? a=some o)→φ h2
def HOk (H:Hp)(h:Heap):Prop:=∀a o,H a=some o→zV P w H h a o
end
section
variable {P:Program}{w:World}{H H':Hp}{h h':Heap}{a:Addr}{o:HO}
theorem zV.lt (x:zV P w H h a o):a<h.objs.size:=by
 cases o with
 |lst xs=>obtain⟨_,_,_,_,e⟩:=x;exact zn1 e
 |tup xs=>obtain⟨_,_,_,p⟩:=x;exact p.lt
 |dK kvs=>obtain⟨_,_,_,_,o,_,_,e,_⟩:=x;exact zn1 e
 |dT kvs=>obtain⟨_,_,_,_,o,_,_,e,_⟩:=x;exact zn1 e
 |set S n=>obtain⟨o,_,_,_,e,_⟩:=x;exact zn1 e
 |ins C dx fs=>obtain⟨_,_,_,e,_⟩:=x;exact zn1 e
 |own y=>obtain⟨_,e⟩:=x;exact zn1 e
 |xd fs=>obtain⟨_,⟨_,_,_,e,_⟩,_⟩:=x;exact zn1 e
 |rng lo hi=>obtain⟨_,_,_,e⟩:=x;exact zn1 e
 |frz ob u=>obtain⟨e,_⟩:=x;exact zn1 e
 |tbl ps=>exact zn1 (show h.get? a=some _ from x)
 |met f y=>exact zn1 (show h.get? a=some _ from x)
 |ext φ=>obtain⟨_,⟨_,e⟩,_⟩:=x;exact zn1 e
theorem Paired.mapP {α β:Type}{F G:α→β→Prop}:∀{l₁:List α} {l₂:List β},Paired F l₁ l₂→(∀a b,F a b→G a b)→Paired G l₁ l₂
 |_,_,.nil,_=>.nil
 |_,_,.cons r t,f=>.cons (f _ _ r) (Paired.mapP t f)
theorem zV.stay (x:zV P w H h a o)(k:∀b u,(b=a∨H b=some (.own a))→h.get? b=some u→h'.get? b=some u)
  (ho:∀b,H b=some (.own a)→H' b=some (.own a)) (ht:∀b xs,H b=some (.tup xs)→H' b=some (.tup xs)):zV P w H' h' a o:=by
 induction o with
 |lst xs=>obtain⟨z,its,n,r,e⟩:=x;exact⟨z,its,n,r,k _ _ (.inl rfl) e⟩
 |tup xs=>obtain⟨z,its,r,ob,e,c⟩:=x;exact⟨z,its,r,ob,k _ _ (.inl rfl) e,c⟩
 |dK kvs=>obtain⟨z,y,vs,r,ob,es,ep,e,c⟩:=x;exact⟨z,y,vs,r,ob,es,ep,k _ _ (.inl rfl) e,c⟩
 |dT kvs=>
  obtain⟨z,y,xs,r,ob,es,ep,e,c⟩:=x
  exact⟨z,y,xs,Paired.mapP r fun p q z=>⟨z.1,ht _ _ z.2.1,z.2.2⟩,ob,es,ep,k _ _ (.inl rfl) e,c⟩
 |set S n=>obtain⟨ob,es,ep,t,e,c⟩:=x;exact⟨ob,es,ep,t,k _ _ (.inl rfl) e,c⟩
 |ins C dx fs=>
  obtain⟨d,z,ne,e,mA,⟨od,es,ep,e2,c⟩,r⟩:=x
  exact⟨ho _ d,z,ne,k _ _ (.inl rfl) e,mA,⟨od,es,ep,k _ _ (.inr d) e2,c⟩,r⟩
 |own y=>obtain⟨ob,e⟩:=x;exact⟨ob,k _ _ (.inl rfl) e⟩
 |xd fs=>obtain⟨mA,⟨od,es,ep,e,c⟩,r⟩:=x;exact⟨mA,⟨od,es,ep,k _ _ (.inl rfl) e,c⟩,r⟩
 |rng lo hi=>obtain⟨t,u,v,e⟩:=x;exact⟨t,u,v,k _ _ (.inl rfl) e⟩
 |frz ob u ih=>obtain⟨e,q⟩:=x;exact⟨k _ _ (.inl rfl) e,ih q⟩
 |tbl ps=>
  have e:h.get? a=some {cls:=.none,data:=.fields ps}:=x
  show h'.get? a=some {cls:=.none,data:=.fields ps}
  exact k a _ (.inl rfl) e
 |met f y=>
  have e:h.get? a=some (PySem.W.methodObj (.ref f) (.ref y)):=x
  show h'.get? a=some (PySem.W.methodObj (.ref f) (.ref y))
  exact k a _ (.inl rfl) e
 |ext φ=>obtain⟨p,⟨o,e⟩,st⟩:=x;exact⟨st _ _ p fun o q=>k _ _ (.inl rfl) q,⟨o,k _ _ (.inl rfl) e⟩,st⟩
theorem HOk.lt (x:HOk P w H h)(e:H a=some o):a<h.objs.size:=(x a o e).lt
theorem HOk.fresh (x:HOk P w H h)(e:h.objs.size≤a):H a=none:=by
 cases q:H a with
 |none=>rfl
 |some u=>exact absurd (zo1 (x.lt q) e) (zs6 _)
theorem HOk.kept (x:HOk P w H h)(k:∀b u,h.get? b=some u→h'.get? b=some u):HOk P w H h':=fun a o e=>
 (x a o e).stay (fun b u _ q=>k b u q) (fun _ q=>q) fun _ _ q=>q
theorem HOk.laid (x:HOk P w H h)(k:∀b u,h.get? b=some u→h'.get? b=some u)(hp:h.objs.size≤a)(new:zV P w (upd H a o) h' a o):HOk P w (upd H a o) h':=fun b u e=>by
 have hn:=x.fresh hp
 by_cases hb:b=a
 ·subst hb;rw[zf] at e;cases e;exact new
 ·rw[zd hb] at e
  exact (x b u e).stay (fun c v _ q=>k c v q) (fun c q=>by rw[zd (zk q hn)];exact q) fun c xs q=>by rw[zd (zk q hn)];exact q
end
def Rd (H:Hp)(a:Addr)(u:HO):Prop:=H a=some u∨∃o,H a=some (.frz o u)
theorem Rd.ok {P:Program}{w:World}{H:Hp}{h:Heap}{a:Addr}{u:HO}(r:Rd H a u)(x:HOk P w H h):zV P w H h a u:=by
 rcases r with r|⟨o,r⟩
 ·exact x a u r
 ·obtain⟨_,q⟩:=x a _ r
  exact q
def Mut :Option HO→Prop
 |some (.lst _)=>True
 |some (.dK _)=>True
 |some (.dT _)=>True
 |some (.set _ _)=>True
 |some (.ins _ _ _)=>True
 |some (.ext _)=>True
 |_=>False
section
variable {P:Program}{w:World}{H:Hp}{h h':Heap}{x e:Addr}{o':HO}
theorem HOk.write (ok:HOk P w H h)(mu:Mut (H x))(he:e=x∨H e=some (.own x))(k:∀b u,b≠e→h.get? b=some u→h'.get? b=some u)(heo:∃u,h'.get? e=some u)
  (new:zV P w (upd H x o') h' x o'):HOk P w (upd H x o') h':=fun b u q=>by
 have nown:∀c y,H c=some (.own y)→c≠x:=fun c y r z=>by subst z;rw[r] at mu;exact mu
 have ntup:∀c xs,H c=some (.tup xs)→c≠x:=fun c xs r z=>by subst z;rw[r] at mu;exact mu
 by_cases hb:b=x
 ·subst hb;rw[zf] at q;cases q;exact new
 ·rw[zd hb] at q
  by_cases hbe:b=e
  ·have q':H b=some (.own x):=by
    rcases he with z|z
    ·exact absurd (hbe.trans z) hb
    ·rw[hbe];exact z
   rw[q] at q';cases q'
   obtain⟨v,hv⟩:=heo
   exact⟨v,by rw[hbe];exact hv⟩
  ·refine (ok b u q).stay (fun c v hc r=>k c v ?_ r) (fun c r=>by rw[zd (nown c b r)];exact r) fun c xs r=>by rw[zd (ntup c xs r)];exact r
   rcases hc with rfl|hc
   ·exact hbe
   ·rintro rfl
    rcases he with z|z
    ·exact nown c b hc z
    ·rw[hc] at z;cases z;exact hb rfl
end
structure Un (fs ex:List Addr)(H H':Hp)(h h':Heap):Prop where
 keep:∀b o,h.get? b=some o→H b=none→b∉fs→b∉ex→h'.get? b=some o
 slot:∀b o,h.get? b=some o→H b=none→b∈fs→b∉ex→∃sl,h'.get? b=some {o with slots:=sl}
 free:∀b o,h.get? b=some o→H b=none→b∉ex→H' b=none
 there:∀b o,h.get? b=some o→b∉ex→∃o',h'.get? b=some o'
 tups:∀b xs,H b=some (.tup xs)→H' b=some (.tup xs)
 frzs:∀b o u,H b=some (.frz o u)→H' b=some (.frz o u)
 tbls:∀b ps,H b=some (.tbl ps)→∃more,H' b=some (.tbl (ps++more))
section
variable {fs fs' ex ex':List Addr}{H H1 H2:Hp}{h h1 h2 h':Heap}{a x e:Addr}{o:HO}
theorem Un.any (u:Un fs ex H H1 h h1){b:Addr}{ob:Obj}(q:h.get? b=some ob)(n:H b=none)(hx:b∉ex):∃sl,h1.get? b=some {ob with slots:=sl}:=by
 by_cases hb:b∈fs
 ·exact u.slot b ob q n hb hx
 ·exact⟨ob.slots,u.keep b ob q n hb hx⟩
theorem Un.kept (k:∀b u,h.get? b=some u→h'.get? b=some u):Un fs ex H H h h':=
 ⟨fun b ob q _ _ _=>k b ob q,fun b ob q _ _ _=>⟨ob.slots,k b ob q⟩,fun _ _ _ n _=>n,fun b ob q _=>⟨ob,k b ob q⟩,fun _ _ q=>q,fun _ _ _ q=>q,fun _ ps q=>⟨#[],by rw[q];simp⟩⟩
theorem Un.refl :Un fs ex H H h h:=Un.kept fun _ _ q=>q
theorem Un.laid (k:∀b u,h.get? b=some u→h'.get? b=some u)(hp:h.objs.size≤a)(hn:H a=none):Un fs ex H (upd H a o) h h' where
 keep:=fun b u q _ _ _=>k b u q
 slot:=fun b u q _ _ _=>⟨u.slots,k b u q⟩
 free:=fun b u q n _=>by rw[zd (zo2 (zo1 (zn1 q) hp))];exact n
 there:=fun b u q _=>⟨u,k b u q⟩
 tups:=fun b xs q=>by rw[zd (zk q hn)];exact q
 frzs:=fun b u xs q=>by rw[zd (zk q hn)];exact q
 tbls:=fun b ps q=>⟨#[],by rw[zd (zk q hn),q];simp⟩
theorem Un.write (mu:Mut (H x))(he:e=x∨H e=some (.own x))(k:∀b u,b≠e→h.get? b=some u→h'.get? b=some u)(heo:∃u,h'.get? e=some u):Un fs ex H (upd H x o) h h':=by
 have hx:∀b,H b=none→b≠x:=fun b n z=>by subst z;rw[n] at mu;exact mu
 have hb:∀b,H b=none→b≠e:=fun b n z=>by
  subst z
  rcases he with r|r
  ·exact hx b n r
  ·rw[n] at r;cases r
 have hm:∀b u,H b=some u→¬Mut (some u)→b≠x:=fun b u q nm z=>by subst z;rw[q] at mu;exact nm mu
 refine⟨fun b u q n _ _=>k b u (hb b n) q,fun b u q n _ _=>⟨u.slots,k b u (hb b n) q⟩,fun b u q n _=>by rw[zd (hx b n)];exact n,fun b u q _=>?_,
  fun b xs q=>by rw[zd (hm b _ q fun z=>z)];exact q,fun b u xs q=>by rw[zd (hm b _ q fun z=>z)];exact q,fun b ps q=>⟨#[],by rw[zd (hm b _ q fun z=>z),q];simp⟩⟩
 by_cases hbe:b=e
 ·subst hbe;exact heo
 ·exact⟨u,k b u hbe q⟩
end
def trk (h:Heap)(H:Hp):List Addr:=(List.range h.objs.size).filter fun a=>(H a).isSome
def sC (h:Heap)(H:Hp):Heap:=PySem.W.hideAll h (trk h H)
theorem jn (h:Heap)(H:Hp):(sC h H).objs.size=h.objs.size:=PySem.W.hideAll_size _ _
theorem fZ {h:Heap}{H:Hp}{b:Addr}{o:Obj}(e:h.get? b=some o)(n:H b=none):(sC h H).get? b=some o:=
 PySem.W.hideAll_get _ e fun hm=>by
  have q:(H b).isSome=true:=(List.mem_filter.mp hm).2
  rw[n] at q;simp at q
theorem dQ {h:Heap}{H:Hp}{b:Addr}{o:Obj}(e:(sC h H).get? b=some o):h.get? b=some o∧H b=none:=by
 have e':h.get? b=some o:=PySem.W.of_hideAll (trk h H) e
 refine⟨e',?_⟩
 cases q:H b with
 |none=>rfl
 |some x=>
  have hm:b∈trk h H:=List.mem_filter.mpr ⟨List.mem_range.mpr (zn1 e'),by simp[q]⟩
  have z:(sC h H).get? b=none:=PySem.W.hideAll_none (trk h H) hm
  rw[z] at e;cases e
structure Mod (K:PySem.W.Frag)(mg:Str→Option Value)(base:Heap):Prop where
 kin:K.In base
 glob:base.Ns mainGlobals mg
 blt:∃mb,base.Ns builtinsNs mb∧∀x:Str,x≠"__name__"→mb x=bootBuiltins x
 nolimit:base.NoLimit
structure Cx where
 prog:Program
 w:World
 K:PySem.W.Frag
 mg:Str→Option Value
 base:Heap
 A:Around
 N:List Str
 s₀:Shared
 H₀:Hp
 env:Env
 outer:List Env
 stack:List Env
 ex:List Addr
 fn:Str→Bool
 calm:Bool
 pn:List (Addr×Obj)
 xe:Value→Shared→Prop
def frs (l:List Env):List Addr:=l.filterMap (·.frame)
abbrev Cx.fs (X:Cx):List Addr:=frs X.outer
def Vis (sc:Scope)(x:Str):Prop:=sc.names.lookup x=some .local∨sc.names.lookup x=some .cell∨sc.names.lookup x=some .free
def Loc (sc:Scope)(x:Str):Prop:=sc.names.lookup x=some .local∨sc.names.lookup x=some .cell
def Look (env:Env)(h:Heap)(m:Str→Option Value)(x:Str)(u:Value):Prop:=
 (env.kindOf x=some .local∧m x=some u)∨((env.kindOf x=some .cell∨env.kindOf x=some .free)∧∃c,env.cells.lookup x=some c∧h.IsCell c (some u))
structure Cx.Ok (X:Cx):Prop where
 mod:Mod X.K X.mg X.base
 kind:X.env.scope.kind=.function
 glob:X.env.globals=mainGlobals
 blt:X.env.builtins=builtinsNs
 above:X.s₀.heap.objs.size≤X.env.locals
 inj:∀x y c,X.env.cells.lookup x=some c→X.env.cells.lookup y=some c→x=y
 has:∀x,(X.env.kindOf x=some .cell∨X.env.kindOf x=some .free)→∃c,X.env.cells.lookup x=some c
 cab:∀x c,X.fn x=true→X.env.cells.lookup x=some c→X.s₀.heap.objs.size≤c
 hd:X.calm=true→X.A.handled=none
 frames:X.A.frames=some X.stack
 stk:X.stack=X.outer∨(X.stack=X.env::X.outer∧X.env.frame=some X.env.locals)
 exf:∀b∈X.ex,b≠X.env.locals∧∀x c,X.env.cells.lookup x=some c→c≠b
 bs:∀b o,X.base.get? b=some o→X.s₀.heap.get? b=some o∧X.H₀ b=none
 bsz:X.base.objs.size≤X.s₀.heap.objs.size
 noex:∀b o,X.base.get? b=some o→b∉X.ex
 exfs:∀b∈X.ex,b∉X.fs
 funs:X.s₀.heap.FunFrames X.base X.outer
 frf:∀b∈X.fs,X.H₀ b=none
structure Inv (X:Cx)(pins:List (Addr×Obj))(σ:List (Option V))(H:Hp)(s:Shared):Prop where
 ok:X.Ok
 os:s.os=X.s₀.os
 bare:AllBare s.gens
 base:Un X.fs X.ex X.H₀ H X.s₀.heap s.heap
 loc:∃m,s.heap.Ns X.env.locals m∧∀(i:Nat) (x:Str) (v:V),X.N[i]?=some x→σ[i]?=some (some v)→Vis X.env.scope x→∃u,RelV v u∧Look X.env s.heap m x u
 cell:∀x c,X.env.cells.lookup x=some c→∃v,s.heap.IsCell c v
 free:H X.env.locals=none
 freeC:∀x c,X.env.cells.lookup x=some c→H c=none
 pin:∀p∈X.pn++pins,s.heap.get? p.1=some p.2∧H p.1=none∧p.1≠X.env.locals∧p.1∉X.fs∧∀v,p.2.data≠.cell v
 hok:HOk X.prog X.w H s.heap
 len:σ.length=X.N.length
section
variable {X:Cx}{pins:List (Addr×Obj)}{σ:List (Option V)}{H H':Hp}{s:Shared}{h':Heap}
theorem Cx.Ok.nofr (ok:X.Ok){b:Addr}{o:Obj}(e:X.base.get? b=some o):b∉X.fs:=fun hb=>by
 have:=(ok.funs.mem hb).1
 rw[e] at this;cases this
theorem Inv.bs (I:Inv X pins σ H s):∀b o,X.base.get? b=some o→s.heap.get? b=some o∧H b=none:=fun b o e=>
 ⟨I.base.keep b o (I.ok.bs b o e).1 (I.ok.bs b o e).2 (I.ok.nofr e) (I.ok.noex b o e),I.base.free b o (I.ok.bs b o e).1 (I.ok.bs b o e).2 (I.ok.noex b o e)⟩
theorem Inv.bk (I:Inv X pins σ H s):∀b o,X.base.get? b=some o→s.heap.get? b=some o:=fun b o e=>(I.bs b o e).1
theorem Inv.mod (I:Inv X pins σ H s):Mod X.K X.mg X.base:=I.ok.mod
theorem Inv.kIn (I:Inv X pins σ H s):X.K.In s.heap:=I.ok.mod.kin.keeps I.bk
theorem Inv.lt (I:Inv X pins σ H s):X.env.locals<s.heap.objs.size:=let ⟨_,hn,_⟩:=I.loc;hn.lt
theorem Inv.sz (I:Inv X pins σ H s):X.s₀.heap.objs.size≤s.heap.objs.size:=zr2 I.ok.above (zt3 I.lt)
theorem Inv.nofs (I:Inv X pins σ H s){a:Addr}(h:s.heap.objs.size≤a):a∉X.fs:=fun hb=>by
 obtain⟨_,o,ho,_⟩:=I.ok.funs.mem hb
 exact absurd (zo1 (zn1 ho) (zr2 I.sz h)) (zs6 _)
theorem Inv.cne (I:Inv X pins σ H s):∀x c,X.env.cells.lookup x=some c→c≠X.env.locals:=fun x c e z=>by
 obtain⟨v,o,ho,hd⟩:=I.cell x c e
 obtain⟨m,⟨o',es,ep,ho',hd',_⟩,_⟩:=I.loc
 rw[z,ho'] at ho;cases ho;rw[hd'] at hd;cases hd
theorem Inv.funs (I:Inv X pins σ H s):s.heap.FunFrames X.base X.outer:=by
 have all:∀(l:List Env),(∀b∈frs l,b∈X.fs)→X.s₀.heap.FunFrames X.base l→s.heap.FunFrames X.base l:=by
  intro l
  induction l with
  |nil=>intro _ _;trivial
  |cons env r ih=>
   intro hs hl
   obtain⟨hk,⟨L,o,hf,hn,ho,hd⟩,hr⟩:=hl
   have hL:L∈X.fs:=hs L (by unfold frs;rw[zA0,hf];exact zo5)
   obtain⟨sl,e⟩:=I.base.slot L o ho (I.ok.frf L hL) hL fun z=>I.ok.exfs L z hL
   exact⟨hk,⟨L,_,hf,hn,e,hd⟩,ih (fun b hb=>hs b (by unfold frs;rw[zA0,hf];exact zn6 _ hb)) hr⟩
 exact all X.outer (fun _ hb=>hb) I.ok.funs
theorem Inv.stack (I:Inv X pins σ H s):s.heap.FunFrames X.base X.stack:=by
 rcases I.ok.stk with e|⟨e,hf⟩
 ·rw[e];exact I.funs
 ·rw[e]
  obtain⟨m,hn,_⟩:=I.loc
  refine .cons (by rw[I.ok.kind];decide) hf hn ?_ I.funs
  exact Heap.get?_none_of_le (zr2 I.ok.bsz I.ok.above)
theorem Inv.stkSub (I:Inv X pins σ H s):∀b∈frs X.stack,b∈X.env.locals::X.fs:=fun b hb=>by
 rcases I.ok.stk with e|⟨e,hf⟩
 ·rw[e] at hb;exact zn6 _ hb
 ·rw[e] at hb
  unfold frs at hb
  rw[zA0,hf] at hb
  exact hb
theorem Inv.stkFree (I:Inv X pins σ H s):∀b∈frs X.stack,H b=none:=fun b hb=>by
 rcases zn2.mp (I.stkSub b hb) with e|hb
 ·rw[e];exact I.free
 ·obtain⟨_,o,ho,_⟩:=I.ok.funs.mem hb
  exact I.base.free b o ho (I.ok.frf b hb) fun z=>I.ok.exfs b z hb
theorem Inv.step {g':Array GenState}{t':Nat}{d':Drawn}{ch:List Addr}(I:Inv X pins σ H s)
  (hch:∀b∈ch,(b∈X.ex∨X.s₀.heap.objs.size≤b)∧b≠X.env.locals∧(∀x c,X.env.cells.lookup x=some c→c≠b)∧∀p∈X.pn++pins,p.1≠b)
  (keep:∀b o,b≠X.env.locals→b∉X.fs→b∉ch→s.heap.get? b=some o→H b=none→h'.get? b=some o)
  (slot:∀b o,b≠X.env.locals→b∈X.fs→b∉ch→s.heap.get? b=some o→H b=none→∃sl,h'.get? b=some {o with slots:=sl}) (free:∀b o,b∉ch→s.heap.get? b=some o→H b=none→H' b=none)
  (there:∀b o,b∉ch→s.heap.get? b=some o→∃o',h'.get? b=some o')
  (tups:∀b xs,H b=some (.tup xs)→H' b=some (.tup xs)) (frzs:∀b o u,H b=some (.frz o u)→H' b=some (.frz o u)) (tbls:∀b ps,H b=some (.tbl ps)→∃more,H' b=some (.tbl (ps++more)))
  (ns:∀m,s.heap.Ns X.env.locals m→h'.Ns X.env.locals m) (hok:HOk X.prog X.w H' h') (hg:AllBare g'):
  Inv X pins σ H' {s with heap:=h',gens:=g',drawn:=d',toks:=t'}:=by
 have neL:∀b o,X.s₀.heap.get? b=some o→b≠X.env.locals:=fun b o e=>zo2 (zo1 (zn1 e) I.ok.above)
 have neC:∀b o,X.s₀.heap.get? b=some o→b∉X.ex→b∉ch:=fun b o e hx hb=>by
  rcases (hch b hb).1 with z|z
  ·exact hx z
  ·exact absurd (zo1 (zn1 e) z) (zs6 _)
 have cellK:∀x c,X.env.cells.lookup x=some c→∀v,s.heap.IsCell c v→h'.IsCell c v:=fun x c e v ⟨o,ho,hd⟩=>by
  have nch:c∉ch:=fun z=>(hch c z).2.2.1 x c e rfl
  by_cases hc:c∈X.fs
  ·obtain⟨sl,q⟩:=slot c o (I.cne x c e) hc nch ho (I.freeC x c e)
   exact⟨_,q,hd⟩
  ·exact⟨o,keep c o (I.cne x c e) hc nch ho (I.freeC x c e),hd⟩
 refine⟨I.ok,I.os,hg,⟨fun b o e n hb hx=>?_,fun b o e n hb hx=>?_,fun b o e n hx=>?_,fun b o e hx=>?_,fun b xs e=>tups b xs (I.base.tups b xs e),fun b o xs e=>frzs b o xs (I.base.frzs b o xs e),fun b ps e=>?_⟩,?_,fun x c e=>?_,?_,fun x c e=>?_,fun p hp=>?_,hok,I.len⟩
 ·exact keep b o (neL b o e) hb (neC b o e hx) (I.base.keep b o e n hb hx) (I.base.free b o e n hx)
 ·obtain⟨sl,e1⟩:=I.base.slot b o e n hb hx
  obtain⟨sl',e2⟩:=slot b _ (neL b o e) hb (neC b o e hx) e1 (I.base.free b o e n hx)
  exact⟨sl',e2⟩
 ·obtain⟨o',e1⟩:=I.base.there b o e hx
  exact free b o' (neC b o e hx) e1 (I.base.free b o e n hx)
 ·obtain⟨o',e1⟩:=I.base.there b o e hx
  exact there b o' (neC b o e hx) e1
 ·obtain⟨m1,e1⟩:=I.base.tbls b ps e
  obtain⟨m2,e2⟩:=tbls b _ e1
  exact⟨m1++m2,by rw[e2,Array.append_assoc]⟩
 ·obtain⟨m,hn,hl⟩:=I.loc
  refine⟨m,ns m hn,fun i x v e1 e2 e3=>?_⟩
  obtain⟨u,r,l⟩:=hl i x v e1 e2 e3
  refine⟨u,r,?_⟩
  rcases l with l|⟨k,c,e,z⟩
  ·exact .inl l
  ·exact .inr ⟨k,c,e,cellK x c e _ z⟩
 ·obtain⟨v,z⟩:=I.cell x c e
  exact⟨v,cellK x c e v z⟩
 ·obtain⟨m,⟨o,_,_,ho,_⟩,_⟩:=I.loc
  exact free _ o (fun z=>(hch _ z).2.1 rfl) ho I.free
 ·obtain⟨v,o,ho,hd⟩:=I.cell x c e
  exact free c o (fun z=>(hch c z).2.2.1 x c e rfl) ho (I.freeC x c e)
 ·obtain⟨e,n,ne,nf,d⟩:=I.pin p hp
  have nch:p.1∉ch:=fun z=>(hch p.1 z).2.2.2 p hp rfl
  exact⟨keep p.1 p.2 ne nf nch e n,free p.1 p.2 nch e n,ne,nf,d⟩
theorem Inv.un {t':Nat}(I:Inv X pins σ H s)(u:Un X.fs [] H H' s.heap h')(hok:HOk X.prog X.w H' h'):Inv X pins σ H' {s with heap:=h',toks:=t'}:=by
 obtain⟨m,⟨o,es,ep,ho,r⟩,_⟩:=id I.loc
 obtain⟨sl,hL⟩:=u.any ho I.free (by simp)
 exact I.step (g':=s.gens) (d':=s.drawn) (ch:=[]) (fun _ z=>nomatch z) (fun b o _ hb _ e n=>u.keep b o e n hb (by simp)) (fun b o _ hb _ e n=>u.slot b o e n hb (by simp)) (fun b o _ e n=>u.free b o e n (by simp)) (fun b o _ e=>u.there b o e (by simp)) u.tups u.frzs u.tbls (fun m' hm=>by
  obtain⟨o',es',ep',ho',r'⟩:=hm
  rw[ho] at ho';cases ho'
  exact⟨_,es',ep',hL,r'⟩) hok I.bare
theorem Inv.call {g':Array GenState}{t':Nat}{d':Drawn}{ch:List Addr}(I:Inv X pins σ H s)(u:Un (frs X.stack) ch H H' s.heap h')(hok:HOk X.prog X.w H' h')(hg:AllBare g')
  (hch:∀b∈ch,(b∈X.ex∨X.s₀.heap.objs.size≤b)∧b≠X.env.locals∧(∀x c,X.env.cells.lookup x=some c→c≠b)∧∀p∈X.pn++pins,p.1≠b):
  Inv X pins σ H' {s with heap:=h',gens:=g',drawn:=d',toks:=t'}:=by
 obtain⟨m,⟨o,es,ep,ho,r⟩,_⟩:=id I.loc
 obtain⟨sl,hL⟩:=u.any ho I.free fun z=>(hch _ z).2.1 rfl
 exact I.step (ch:=ch) hch (fun b o hL hb hc e n=>u.keep b o e n (fun z=>(zn2.mp (I.stkSub b z)).elim hL hb) hc) (fun b o _ _ hc e n=>u.any e n hc) (fun b o hc e n=>u.free b o e n hc) (fun b o hc e=>u.there b o e hc) u.tups u.frzs u.tbls (fun m' hm=>by
  obtain⟨o',es',ep',ho',r'⟩:=hm
  rw[ho] at ho';cases ho'
  exact⟨_,es',ep',hL,r'⟩) hok hg
theorem Inv.turned {t':Nat}{it:Addr}(I:Inv X pins σ H s)(k:∀b o,b≠it→s.heap.get? b=some o→h'.get? b=some o)(hn:H it=none)(hL:it≠X.env.locals)
  (h1:it∈X.ex∨X.s₀.heap.objs.size≤it) (h2:∀x c,X.env.cells.lookup x=some c→c≠it) (h3:∀p∈X.pn++pins,p.1≠it):Inv X pins σ H {s with heap:=h',toks:=t'}:=by
 have nit:∀b u,H b=some u→b≠it:=fun b u e z=>by rw[z,hn] at e;cases e
 refine I.step (g':=s.gens) (d':=s.drawn) (ch:=[it]) (fun b hb=>?_) (fun b o _ _ hc e _=>k b o (fun z=>hc (by simp[z])) e) (fun b o _ _ hc e _=>⟨o.slots,k b o (fun z=>hc (by simp[z])) e⟩) (fun _ _ _ _ n=>n)
  (fun b o hc e=>⟨o,k b o (fun z=>hc (by simp[z])) e⟩) (fun _ _ e=>e) (fun _ _ _ e=>e) (fun b ps e=>⟨#[],by rw[e];simp⟩) (fun m hm=>?_) (fun b u e=>?_) I.bare
 ·have e:b=it:=by simpa using hb
  subst e
  exact⟨h1,hL,h2,h3⟩
 ·obtain⟨o,es,ep,ho,r⟩:=hm
  exact⟨o,es,ep,k _ o (zp4 hL) ho,r⟩
 ·refine (I.hok b u e).stay (fun c v hc q=>k c v ?_ q) (fun _ q=>q) fun _ _ q=>q
  rcases hc with z|z
  ·rw[z];exact nit b u e
  ·exact nit c _ z
theorem Inv.tok (I:Inv X pins σ H s)(t:Nat):Inv X pins σ H {s with toks:=t}:=I.un (h':=s.heap) (t':=t) Un.refl I.hok
theorem Inv.kept {t':Nat}(I:Inv X pins σ H s)(k:∀b u,s.heap.get? b=some u→h'.get? b=some u):Inv X pins σ H {s with heap:=h',toks:=t'}:=I.un (Un.kept k) (I.hok.kept k)
theorem Inv.laid {a:Addr}{o:HO}{t':Nat}(I:Inv X pins σ H s)(k:∀b u,s.heap.get? b=some u→h'.get? b=some u)(hp:s.heap.objs.size≤a)(new:zV X.prog X.w (upd H a o) h' a o):
  Inv X pins σ (upd H a o) {s with heap:=h',toks:=t'}:=I.un (Un.laid k hp (I.hok.fresh hp)) (I.hok.laid k hp new)
theorem Inv.write {x e:Addr}{o:HO}{t':Nat}(I:Inv X pins σ H s)(mu:Mut (H x))(he:e=x∨H e=some (.own x))(k:∀b u,b≠e→s.heap.get? b=some u→h'.get? b=some u)(heo:∃u,h'.get? e=some u)
  (new:zV X.prog X.w (upd H x o) h' x o):Inv X pins σ (upd H x o) {s with heap:=h',toks:=t'}:=I.un (Un.write mu he k heo) (I.hok.write mu he k heo new)
theorem Inv.pins_of {pins':List (Addr×Obj)}(I:Inv X pins σ H s)(h:∀p∈pins',s.heap.get? p.1=some p.2∧H p.1=none∧p.1≠X.env.locals∧p.1∉X.fs∧∀v,p.2.data≠.cell v):Inv X pins' σ H s:=
 ⟨I.ok,I.os,I.bare,I.base,I.loc,I.cell,I.free,I.freeC,fun p hp=>(zu0.mp hp).elim (fun z=>I.pin p (zz4 _ z)) (h p),I.hok,I.len⟩
theorem sr {N:List Str}(hN:N.Nodup){i j:Nat}{x:Str}(a:N[i]?=some x)(b:N[j]?=some x):i=j:=by
 obtain⟨h1,e1⟩:=zm8.mp a
 obtain⟨h2,e2⟩:=zm8.mp b
 exact (List.getElem_inj hN).mp (e1.trans e2.symm)
theorem sP {M:Model}{A:Around}{E:Value→Shared→Prop}{i:Nat}{x:Str}{v:V}{u:Value}{Q:Unit→Shared→Prop}(I:Inv X pins σ H s)(hN:X.N.Nodup)(hi:X.N[i]?=some x)(hx:Loc X.env.scope x)(r:RelV v u)
  (h:∀s',Inv X pins (σ.set i (some v)) H s'→(∃a,Heap.SameBut a s.heap s'.heap∧(a=X.env.locals∨X.env.cells.lookup x=some a))→Q () s') (hf:X.fn x=true∨X.env.scope.names.lookup x=some .local:=by first|exact .inl rfl|exact .inr rfl|assumption):wpAny M A (storeName X.env x u) Q E s:=by
 obtain⟨m,hn,hl⟩:=id I.loc
 have hcls:(X.env.scope.kind == .class||(X.env.scope.kind == .module&&X.env.locals != X.env.globals))=false:=by rw[I.ok.kind];rfl
 have hiσ:i<σ.length:=by rw[I.len];exact (zm8.mp hi).1
 have cne:=I.cne
 have tracked:∀{a:Addr} {h':Heap},(∃o,s.heap.get? a=some o∧H a=none)→Heap.SameBut a s.heap h'→HOk X.prog X.w H h':=fun {a h'} ha hs b ob e=>by
  obtain⟨_,_,hfree⟩:=ha
  refine (I.hok b ob e).stay (fun c w' hc q=>(hs.2 c ?_).trans q) (fun _ q=>q) fun _ _ q=>q
  rintro rfl
  rcases hc with rfl|hc
  ·rw[hfree] at e;cases e
  ·rw[hfree] at hc;cases hc
 rcases hx with hk|hk
 ·refine wpAny_storeName_local hk hn (fun h' hn' hs=>?_) hcls
  obtain⟨oL,_,_,hoL,_⟩:=id hn
  refine h _ ⟨I.ok,I.os,I.bare,⟨fun b o e n hb hx=>?_,fun b o e n hb hx=>?_,I.base.free,fun b o e hx=>?_,I.base.tups,I.base.frzs,I.base.tbls⟩,⟨_,hn',fun j y v' e1 e2 e3=>?_⟩,fun y c e=>?_,I.free,I.freeC,fun p hp=>?_,tracked ⟨oL,hoL,I.free⟩ hs,by simpa using I.len⟩ ⟨_,hs,.inl rfl⟩
  ·exact (hs.2 b (zo2 (zo1 (zn1 e) I.ok.above))).trans (I.base.keep b o e n hb hx)
  ·obtain⟨sl,e1⟩:=I.base.slot b o e n hb hx
   exact⟨sl,(hs.2 b (zo2 (zo1 (zn1 e) I.ok.above))).trans e1⟩
  ·obtain⟨o',e1⟩:=I.base.there b o e hx
   exact⟨o',(hs.2 b (zo2 (zo1 (zn1 e) I.ok.above))).trans e1⟩
  ·by_cases hj:j=i
   ·subst hj
    rw[hi] at e1;cases e1
    rw[zs4 hiσ] at e2
    cases e2
    exact⟨u,r,.inl ⟨hk,by simp⟩⟩
   ·rw[zp9 (zp4 hj)] at e2
    obtain⟨u',r',q⟩:=hl j y v' e1 e2 e3
    refine⟨u',r',?_⟩
    rcases q with ⟨k,e⟩|⟨k,c,e,z⟩
    ·refine .inl ⟨k,?_⟩
     have:y≠x:=fun e=>hj (sr hN e1 (e▸hi))
     simp[this,e]
    ·exact .inr ⟨k,c,e,z.sameBut hs (cne y c e)⟩
  ·obtain⟨w',z⟩:=I.cell y c e
   exact⟨w',z.sameBut hs (cne y c e)⟩
  ·obtain⟨e,n,ne,nf,d⟩:=I.pin p hp
   exact⟨(hs.2 p.1 ne).trans e,n,ne,nf,d⟩
 ·have hfn:X.fn x=true:=by
   rcases hf with z|z
   ·exact z
   ·rw[z] at hk;cases hk
  obtain⟨c,hc⟩:=I.ok.has x (.inl hk)
  obtain⟨w',z⟩:=I.cell x c hc
  refine wpAny_storeName_cell I.ok.kind hk hc z (fun h' hc' hs=>?_)
  obtain⟨oc,hoc,hocd⟩:=id z
  refine h {s with heap:=h'} ⟨I.ok,I.os,I.bare,⟨fun b o e n hb hx=>?_,fun b o e n hb hx=>?_,I.base.free,fun b o e hx=>?_,I.base.tups,I.base.frzs,I.base.tbls⟩,⟨m,hn.sameBut hs (zp4 (cne x c hc)),fun j y v' e1 e2 e3=>?_⟩,fun y c' e=>?_,I.free,I.freeC,fun p hp=>?_,tracked ⟨oc,hoc,I.freeC x c hc⟩ hs,by simpa using I.len⟩ ⟨c,hs,.inr hc⟩
  ·exact (hs.2 b (zo2 (zo1 (zn1 e) (I.ok.cab x c hfn hc)))).trans (I.base.keep b o e n hb hx)
  ·obtain⟨sl,e1⟩:=I.base.slot b o e n hb hx
   exact⟨sl,(hs.2 b (zo2 (zo1 (zn1 e) (I.ok.cab x c hfn hc)))).trans e1⟩
  ·obtain⟨o',e1⟩:=I.base.there b o e hx
   exact⟨o',(hs.2 b (zo2 (zo1 (zn1 e) (I.ok.cab x c hfn hc)))).trans e1⟩
  ·by_cases hj:j=i
   ·subst hj
    rw[hi] at e1;cases e1
    rw[zs4 hiσ] at e2
    cases e2
    exact⟨u,r,.inr ⟨.inl hk,c,hc,hc'⟩⟩
   ·rw[zp9 (zp4 hj)] at e2
    obtain⟨u',r',q⟩:=hl j y v' e1 e2 e3
    refine⟨u',r',?_⟩
    rcases q with q|⟨k,c',e,z'⟩
    ·exact .inl q
    ·refine .inr ⟨k,c',e,z'.sameBut hs ?_⟩
     rintro rfl
     exact hj (sr hN e1 (I.ok.inj _ _ _ e hc▸hi))
  ·by_cases hcc:c'=c
   ·subst hcc;exact⟨_,hc'⟩
   ·obtain⟨w2,z2⟩:=I.cell y c' e
    exact⟨w2,z2.sameBut hs hcc⟩
  ·obtain⟨e,n,ne,nf,d⟩:=I.pin p hp
   refine⟨(hs.2 p.1 ?_).trans e,n,ne,nf,d⟩
   intro q
   rw[q,hoc] at e
   have q':oc=p.2:=zo9 e
   exact d w' (by rw[←q'];exact hocd)
theorem tW {M:Model}{A:Around}{E:Value→Shared→Prop}{i:Nat}{x:Str}{v:V}{u:Value}{Q:Unit→Shared→Prop}(I:Inv X pins σ H s)(hN:X.N.Nodup)(hi:X.N[i]?=some x)(hx:Loc X.env.scope x)(r:RelV v u)
  (h:∀s',Inv X pins (σ.set i (some v)) H s'→Q () s') (hf:X.fn x=true∨X.env.scope.names.lookup x=some .local:=by first|exact .inl rfl|exact .inr rfl|assumption):wpAny M A (storeName X.env x u) Q E s:=
 sP I hN hi hx r (fun s' I' _=>h s' I') hf
theorem Inv.call' {s':Shared}{ch:List Addr}(I:Inv X pins σ H s)(ho:s'.os=s.os)(u:Un (frs X.stack) ch H H' s.heap s'.heap)(hok:HOk X.prog X.w H' s'.heap)(hg:AllBare s'.gens)
  (hch:∀b∈ch,(b∈X.ex∨X.s₀.heap.objs.size≤b)∧b≠X.env.locals∧(∀x c,X.env.cells.lookup x=some c→c≠b)∧∀p∈X.pn++pins,p.1≠b):Inv X pins σ H' s':=by
 obtain⟨h',g',d',t',o'⟩:=s'
 have e:o'=s.os:=ho
 subst e
 exact I.call (g':=g') (t':=t') (d':=d') u hok hg hch
end
abbrev XK :=Value→Option Addr→Hp→Prop
abbrev St :=List (Option V)
abbrev VK :=V→Hp→Prop
abbrev TE :=St→Hp→VK→Prop
abbrev TT :=St→Hp→(Bool→Hp→Prop)→Prop
abbrev TA :=St→Hp→(List V→Hp→Prop)→Prop
structure Ends where
 nx:St→Hp→Prop
 rt:VK
 bk:St→Hp→Prop:=fun _ _=>False
 ct:St→Hp→Prop:=fun _ _=>False
abbrev TS :=Ends→St→Hp→Prop
def EP (X:Cx)(pins:List (Addr×Obj))(σ:St)(Q:VK)(u:Value)(s':Shared):Prop:=∃v H',Inv X pins σ H' s'∧RelV v u∧Q v H'
def TP (X:Cx)(pins:List (Addr×Obj))(σ:St)(Q:Bool→Hp→Prop)(b:Bool)(s':Shared):Prop:=∃H',Inv X pins σ H' s'∧Q b H'
def AP (X:Cx)(pins:List (Addr×Obj))(σ:St)(Q:List V→Hp→Prop)(us:List Value)(s':Shared):Prop:=∃vs H',Inv X pins σ H' s'∧Vals vs us∧Q vs H'
def SP (X:Cx)(pins:List (Addr×Obj))(D:Ends)(f:Flow)(s':Shared):Prop:=
 match f with
 |.next=>∃σ' H',Inv X pins σ' H' s'∧D.nx σ' H'
 |.brk=>∃σ' H',Inv X pins σ' H' s'∧D.bk σ' H'
 |.cont=>∃σ' H',Inv X pins σ' H' s'∧D.ct σ' H'
 |.ret u=>∃v σ' H',Inv X pins σ' H' s'∧RelV v u∧D.rt v H'
def PE (X:Cx)(e:Expr)(t:TE):Prop:=
 ∀(pins:List (Addr×Obj)) (s:Shared) (σ:St) (H:Hp) (Q:VK),Inv X pins σ H s→t σ H Q→wpAny (model X.prog X.w) X.A (eval e X.env) (EP X pins σ Q) X.xe s
def PT (X:Cx)(e:Expr)(t:TT):Prop:=
 ∀(pins:List (Addr×Obj)) (s:Shared) (σ:St) (H:Hp) (Q:Bool→Hp→Prop),Inv X pins σ H s→t σ H Q→wpAny (model X.prog X.w) X.A (isTrue e X.env (eval e X.env)) (TP X pins σ Q) X.xe s
def PW (X:Cx)(e:Expr)(t:TT):Prop:=
 ∀(whole:Sem Value) (pins:List (Addr×Obj)) (s:Shared) (σ:St) (H:Hp) (Q:Bool→Hp→Prop),Inv X pins σ H s→t σ H Q→wpAny (model X.prog X.w) X.A (isTrue e X.env whole) (TP X pins σ Q) X.xe s
theorem PW.pt {X:Cx}{e:Expr}{t:TT}(h:PW X e t):PT X e t:=h _
def PA (X:Cx)(es:List Expr)(t:TA):Prop:=
 ∀(pos:Pos) (pins:List (Addr×Obj)) (s:Shared) (σ:St) (H:Hp) (Q:List V→Hp→Prop),Inv X pins σ H s→t σ H Q→wpAny (model X.prog X.w) X.A (spliced (backTo pos (starEach es X.env))) (AP X pins σ Q) X.xe s
def PS (X:Cx)(st:Stmt)(t:TS):Prop:=
 ∀(pins:List (Addr×Obj)) (s:Shared) (σ:St) (H:Hp) (D:Ends),Inv X pins σ H s→t D σ H→wpAny (model X.prog X.w) X.A (exec st X.env) (SP X pins D) X.xe s
def PSs (X:Cx)(st:List Stmt)(t:TS):Prop:=
 ∀(pins:List (Addr×Obj)) (s:Shared) (σ:St) (H:Hp) (D:Ends),Inv X pins σ H s→t D σ H→wpAny (model X.prog X.w) X.A (execs st X.env) (SP X pins D) X.xe s
theorem thn {α:Type}{t:Sem α}{Q Q':α→Shared→Prop}{M:Model}{A:Around}{E:Value→Shared→Prop}{s:Shared}(h:wpAny M A t Q E s)(hQ:∀a s,Q a s→Q' a s):wpAny M A t Q' E s:=zp3 h hQ fun _ _ x=>x
section
variable {X:Cx}
theorem bin {a b:Expr}{ta tb:TE}(ha:PE X a ta)(hb:PE X b tb){pins:List (Addr×Obj)}{s:Shared}{σ:St}{H:Hp}{R:V→V→Hp→Prop}(I:Inv X pins σ H s)(h:ta σ H fun x H1=>tb σ H1 fun y H2=>R x y H2)
  {α:Type} {Q:α→Shared→Prop} {f:Value→Value→Sem α}
  (hf:∀v u s2 x y H2,Inv X pins σ H2 s2→RelV x v→RelV y u→R x y H2→wpAny (model X.prog X.w) X.A (f v u) Q X.xe s2):
  wpAny (model X.prog X.w) X.A (eval a X.env) (fun v s₁=>wpAny (model X.prog X.w) X.A (eval b X.env) (fun u s₂=>wpAny (model X.prog X.w) X.A (f v u) Q X.xe s₂) X.xe s₁) X.xe s:=by
 refine thn (ha pins s σ H _ I h) fun v s1 ⟨x,H1,I1,r1,q1⟩=>?_
 refine thn (hb pins s1 σ H1 _ I1 q1) fun u s2 ⟨y,H2,I2,r2,q2⟩=>?_
 exact hf v u s2 x y H2 I2 r1 r2 q2
def zb5 (i:Nat):TE:=fun σ H Q=>∃v,σ[i]?=some (some v)∧Q v H
def tC (v:V):TE:=fun _ H Q=>Q v H
theorem yB {i:Nat}{x:Str}{pos:Pos}(hN:X.N[i]?=some x)(hv:Vis X.env.scope x)(hd:(x == ("__debug__":Str))=false:=by decide)(hcd:(x == ("__classdict__":Str))=false:=by decide):PE X (.Name x pos) (zb5 i):=by
 intro pins s σ H Q I h
 obtain⟨v,e,h⟩:=h
 obtain⟨m,hn,hl⟩:=I.loc
 obtain⟨u,r,l⟩:=hl i x v hN e hv
 have fin:EP X pins σ Q u s:=⟨v,H,I,r,h⟩
 rcases l with ⟨hk,hm⟩|⟨hk,c,hc,hcell⟩
 ·exact wpAny_Name (wpAny_loadName_local I.ok.kind hk hn hm fin) hd
 ·rcases hk with hk|hk
  ·exact wpAny_Name (wpAny_loadName_cell I.ok.kind hk hc hcell fin) hd
  ·exact wpAny_Name (wpAny_loadName_free I.ok.kind hk hc hcell fin hcd) hd
theorem zm {i j pos}:PE X (.Constant (.int i) j pos) (tC (.int i)):=fun _ _ _ H _ I h=>wpAny_Constant_int ⟨.int i,H,I.tok _,⟨_,rfl⟩,h⟩
theorem ze9 {b j pos}:PE X (.Constant (.bool b) j pos) (tC (.bl b)):=fun _ _ _ H _ I h=>Constant_bool ⟨.bl b,H,I,rfl,h⟩
theorem qF {j pos}:PE X (.Constant .none j pos) (tC .non):=fun _ _ _ H _ I h=>Constant_none ⟨.non,H,I,rfl,h⟩
theorem zX {x j pos}:PE X (.Constant (.str x) j pos) (tC (.str x)):=fun _ _ _ H _ I h=>Calls.Constant_str ⟨.str x,H,I.tok _,⟨_,rfl⟩,h⟩
def Gl (X:Cx)(x:Str):Prop:=X.env.kindOf x=some .globalImplicit
theorem xl {E:Value→Shared→Prop}{pins:List (Addr×Obj)}{s:Shared}{σ:St}{H:Hp}{x:Str}{u:Value}{pos:Pos}{Q:Value→Shared→Prop}(I:Inv X pins σ H s)(hg:Gl X x)(hm:X.mg x=some u)(h:Q u s)
  (hd:(x == ("__debug__":Str))=false:=by decide):wpAny (model X.prog X.w) X.A (eval (.Name x pos) X.env) Q E s:=
 Calls.Name_function_global I.ok.kind hg (Calls.loadGlobal_global (by rw[I.ok.glob];exact I.mod.glob.keeps I.bk) hm h) hd
theorem xF {E:Value→Shared→Prop}{pins:List (Addr×Obj)}{s:Shared}{σ:St}{H:Hp}{x:Str}{u:Value}{pos:Pos}{Q:Value→Shared→Prop}(I:Inv X pins σ H s)(hg:Gl X x)(hm:X.mg x=none)(hv:bootBuiltins x=some u)(h:Q u s)
  (hn:x≠"__name__":=by decide) (hd:(x == ("__debug__":Str))=false:=by decide):wpAny (model X.prog X.w) X.A (eval (.Name x pos) X.env) Q E s:=by
 obtain⟨mb,h1,h2⟩:=I.mod.blt
 exact Calls.Name_function_global I.ok.kind hg (Calls.loadGlobal_builtin (by rw[I.ok.glob];exact I.mod.glob.keeps I.bk) hm (by rw[I.ok.blt];exact h1.keeps I.bk) ((h2 x hn).trans hv) h) hd
theorem wQ {x:Str}{v:V}{u:Value}{pos:Pos}(hg:Gl X x)(hm:X.mg x=some u)(r:RelV v u)(hd:(x == ("__debug__":Str))=false:=by decide):PE X (.Name x pos) (tC v):=
 fun _ _ _ H _ I h=>xl I hg hm ⟨v,H,I,r,h⟩ hd
theorem wJ {x:Str}{v:V}{u:Value}{pos:Pos}(hg:Gl X x)(hm:X.mg x=none)(hv:bootBuiltins x=some u)(r:RelV v u)(hn:x≠"__name__":=by decide)(hd:(x == ("__debug__":Str))=false:=by decide):PE X (.Name x pos) (tC v):=
 fun _ _ _ H _ I h=>xF I hg hm hv ⟨v,H,I,r,h⟩ hn hd
variable {a b:Expr}{ta tb:TE}{pos:Pos}
def PC (X:Cx)(op:CmpOp)(a b:Expr)(t:TE):Prop:=
 ∀(pins:List (Addr×Obj)) (s:Shared) (σ:St) (H:Hp) (Q:VK),Inv X pins σ H s→t σ H Q→
  wpAny (model X.prog X.w) X.A (eval a X.env) (fun v s₁=>wpAny (model X.prog X.w) X.A (eval b X.env) (fun u s₂=>wpAny (model X.prog X.w) X.A (compareOp op v u) (EP X pins σ Q) X.xe s₂) X.xe s₁) X.xe s
def tB (t:TE):TT:=fun σ H Q=>t σ H fun x H1=>∃c,x=.bl c∧Q c H1
theorem zl6 {op:CmpOp}{t:TE}(h:PC X op a b t)(h1:behindInMarks op b=false:=by first|exact nobehind _ (by decide) (by decide)|rfl):PT X (.Compare a [op] [b] pos) (tB t):=by
 intro pins s σ H Q I hw
 refine wpAny_isTrue_Compare1 (thn (h pins s σ H _ I hw) fun v s1 h1=>thn h1 fun u s2 h2=>thn h2 fun c s3 ⟨x,H1,I1,r1,q1⟩=>?_) h1
 obtain⟨d,rfl,q⟩:=q1
 cases r1
 exact zr7 ⟨H1,I1,q⟩
theorem gF {e:Expr}{t:TE}(h:PE X e t)(he:∀whole,isTrue e X.env whole=(do let v ←whole;standAt e.pos;holding [v] (truthy v)):=by intro _;rfl):PT X e (tB t):=by
 intro pins s σ H Q I hw
 refine isTrue_plain (thn (h pins s σ H _ I hw) fun v s1 ⟨x,H1,I1,r1,q1⟩=>?_) (he _)
 obtain⟨d,rfl,q⟩:=q1
 cases r1
 exact zr7 ⟨H1,I1,q⟩
variable {tA tB':TT}{rest:List Expr}
def zj7 (t u:TT):TT:=fun σ H Q=>t σ H fun c H1=>if c=true then u σ H1 Q else Q false H1
def tOr (t u:TT):TT:=fun σ H Q=>t σ H fun c H1=>if c=true then Q true H1 else u σ H1 Q
def zl8 (t:TT):TT:=fun σ H Q=>t σ H fun c H1=>Q (!c) H1
theorem mK (ha:PT X a tA):PW X (.BoolOp .And [a] pos) tA:=by
 intro wh pins s σ H Q I h
 refine isTrue_and (thn (ha pins s σ H Q I h) fun c s1 e=>?_)
 cases c with
 |true=>exact isTrue_and_nil e
 |false=>exact e
theorem mn (ha:PT X a tA):PW X (.BoolOp .Or [a] pos) tA:=by
 intro wh pins s σ H Q I h
 refine isTrue_or (thn (ha pins s σ H Q I h) fun c s1 e=>?_)
 cases c with
 |false=>exact isTrue_or_nil e
 |true=>exact e
theorem gg (ha:PT X a tA)(hb:PW X (.BoolOp .And (b::rest) pos) tB'):PW X (.BoolOp .And (a::b::rest) pos) (zj7 tA tB'):=by
 intro wh pins s σ H Q I h
 refine isTrue_and (thn (ha pins s σ H _ I h) fun c s1 ⟨H1,I1,q1⟩=>?_)
 cases c with
 |true=>exact hb wh pins s1 σ H1 Q I1 q1
 |false=>exact⟨H1,I1,q1⟩
theorem jZ (ha:PT X a tA)(hb:PW X (.BoolOp .Or (b::rest) pos) tB'):PW X (.BoolOp .Or (a::b::rest) pos) (tOr tA tB'):=by
 intro wh pins s σ H Q I h
 refine isTrue_or (thn (ha pins s σ H _ I h) fun c s1 ⟨H1,I1,q1⟩=>?_)
 cases c with
 |true=>exact⟨H1,I1,q1⟩
 |false=>exact hb wh pins s1 σ H1 Q I1 q1
theorem iu (ha:PT X a tA):PT X (.UnaryOp .Not a pos) (zl8 tA):=by
 intro pins s σ H Q I h
 exact isTrue_not (ha pins s σ H (fun c H1=>Q (!c) H1) I h)
def zi3 (ta tb:TE):TE:=fun σ H Q=>ta σ H fun x H1=>∃c,x=.bl c∧if c=true then tb σ H1 Q else Q (.bl false) H1
def zl1 (ta tb:TE):TE:=fun σ H Q=>ta σ H fun x H1=>∃c,x=.bl c∧if c=true then Q (.bl true) H1 else tb σ H1 Q
def ze1 (ta:TE):TE:=fun σ H Q=>ta σ H fun x H1=>∃c,x=.bl c∧Q (.bl (!c)) H1
theorem xy {op}{t:TE}(h:PE X a t):PE X (.BoolOp op [a] pos) t:=fun pins s σ H Q I hw=>BoolOp_one (h pins s σ H Q I hw)
theorem yP (ha:PE X a ta)(hb:PE X (.BoolOp .And (b::rest) pos) tb):PE X (.BoolOp .And (a::b::rest) pos) (zi3 ta tb):=by
 intro pins s σ H Q I h
 refine BoolOp_and (thn (ha pins s σ H _ I h) fun v s1 ⟨x,H1,I1,r1,q1⟩=>?_)
 obtain⟨c,rfl,q1⟩:=q1
 cases r1
 refine zr7 ?_
 cases c with
 |true=>exact hb pins s1 σ H1 Q I1 q1
 |false=>exact⟨.bl false,H1,I1,rfl,q1⟩
theorem bc (ha:PE X a ta)(hb:PE X (.BoolOp .Or (b::rest) pos) tb):PE X (.BoolOp .Or (a::b::rest) pos) (zl1 ta tb):=by
 intro pins s σ H Q I h
 refine BoolOp_or (thn (ha pins s σ H _ I h) fun v s1 ⟨x,H1,I1,r1,q1⟩=>?_)
 obtain⟨c,rfl,q1⟩:=q1
 cases r1
 refine zr7 ?_
 cases c with
 |false=>exact hb pins s1 σ H1 Q I1 q1
 |true=>exact⟨.bl true,H1,I1,rfl,q1⟩
theorem za4 (ha:PE X a ta):PE X (.UnaryOp .Not a pos) (ze1 ta):=by
 intro pins s σ H Q I h
 refine UnaryOp_ (thn (ha pins s σ H _ I h) fun v s1 ⟨x,H1,I1,r1,q1⟩=>?_)
 obtain⟨c,rfl,q1⟩:=q1
 cases r1
 exact not_of (zr7 ⟨.bl (!c),H1,I1,rfl,q1⟩)
def tIf (t:TT)(ta tb:TE):TE:=fun σ H Q=>t σ H fun c H1=>if c=true then ta σ H1 Q else tb σ H1 Q
theorem jX {c:Expr}(hc:PT X c tA)(ha:PE X a ta)(hb:PE X b tb):PE X (.IfExp c a b pos) (tIf tA ta tb):=by
 intro pins s σ H Q I h
 refine wpAny_IfExp (thn (hc pins s σ H _ I h) fun d s1 ⟨H1,I1,q1⟩=>?_)
 cases d with
 |true=>exact ha pins s1 σ H1 Q I1 q1
 |false=>exact hb pins s1 σ H1 Q I1 q1
end
def SqL (K:PySem.W.Frag)(H:Hp)(a:Addr)(xs:List V):Prop:=
 Rd H a (.lst xs)∨
  ∃(o:Obj) (its:Array Value) (n:Nat),K.lookup a=some o∧o.cls=.type "list"∧o.dict=none∧o.data=.seq its n∧its.size≤sizeLine∧Vals xs its.toList
def SqT (K:PySem.W.Frag)(H:Hp)(a:Addr)(xs:List V):Prop:=
 Rd H a (.tup xs)∨
  ∃(o:Obj) (its:Array Value) (n:Nat),K.lookup a=some o∧o.cls=.type "tuple"∧o.data=.seq its n∧its.size≤sizeLine∧Vals xs its.toList
def zm0 :Value→Option V
 |.none=>some .non
 |.bool b=>some (.bl b)
 |.int i _=>some (.int i)
 |.str x _=>some (.str x)
 |.bytes b _=>some (.byt b)
 |.float b _=>some (.flt b)
 |.ref a=>some (.ref a)
 |.type n=>some (.ty n)
 |_=>none
theorem RelV.abs {x:V}{u:Value}(r:RelV x u):zm0 u=some x:=by
 cases x with
 |non=>cases r;rfl
 |bl _=>cases r;rfl
 |int _=>obtain⟨t,rfl⟩:=r;rfl
 |str _=>obtain⟨t,rfl⟩:=r;rfl
 |byt _=>obtain⟨t,rfl⟩:=r;rfl
 |flt _=>obtain⟨t,rfl⟩:=r;rfl
 |ref _=>cases r;rfl
 |ty _=>cases r;rfl
theorem RelV.inj {x y:V}{u:Value}(r:RelV x u)(q:RelV y u):x=y:=zo9 (r.abs.symm.trans q.abs)
theorem Vals.inj :∀{xs ys:List V} {us:List Value},Vals xs us→Vals ys us→xs=ys
 |_,_,_,.nil,.nil=>rfl
 |_,_,_,.cons r t,.cons r' t'=>by rw[r.inj r',Vals.inj t t']
section
variable {X:Cx}{pins:List (Addr×Obj)}{σ:St}{H:Hp}{s:Shared}{a:Addr}{xs ys:List V}
theorem SqL.of {K:PySem.W.Frag}(h:H a=some (.lst xs)):SqL K H a xs:=.inl (.inl h)
theorem SqT.of {K:PySem.W.Frag}(h:H a=some (.tup xs)):SqT K H a xs:=.inl (.inl h)
theorem Inv.list (I:Inv X pins σ H s)(h:SqL X.K H a xs):∃its:List Value,Vals xs its∧PlainL s.heap a its.toArray∧xs.length≤sizeLine:=by
 rcases h with h|⟨o,its,n,hk,hc,hd,hs,hz,r⟩
 ·obtain⟨z,its,n,r,e⟩:=h.ok I.hok
  exact⟨its,r,⟨_,n,e,rfl,rfl,rfl⟩,z⟩
 ·refine⟨its.toList,r,⟨o,n,I.kIn a o hk,hc,hd,by simpa using hs⟩,?_⟩
  have e:=r.length
  simp only[Array.length_toList] at e
  omega
theorem Inv.tuple (I:Inv X pins σ H s)(h:SqT X.K H a xs):∃its:List Value,Vals xs its∧IsTup s.heap a its.toArray∧xs.length≤sizeLine:=by
 rcases h with h|⟨o,its,n,hk,hc,hs,hz,r⟩
 ·obtain⟨z,its,r,p⟩:=h.ok I.hok
  exact⟨its,r,p,z⟩
 ·refine⟨its.toList,r,⟨o,I.kIn a o hk,hc,n,by simpa using hs⟩,?_⟩
  have e:=r.length
  simp only[Array.length_toList] at e
  omega
theorem Inv.list_inj (I:Inv X pins σ H s)(h:SqL X.K H a xs)(h':SqL X.K H a ys):xs=ys:=by
 obtain⟨its,r,⟨o,n,e,_,_,d⟩,_⟩:=I.list h
 obtain⟨its',r',⟨o',n',e',_,_,d'⟩,_⟩:=I.list h'
 rw[e] at e';cases e'
 rw[d] at d'
 injection d' with d1 _
 have:its=its':=by simpa using congrArg Array.toList d1
 subst this
 exact r.inj r'
end
abbrev Cx.wish (X:Cx)(E:Value→Shared→Prop):Cx:={X with xe:=E}
abbrev Cx.nox (X:Cx):Cx:=X.wish fun _ _=>False
theorem Cx.Ok.wish {X:Cx}(ok:X.Ok)(E:Value→Shared→Prop):(X.wish E).Ok:=
 ⟨ok.mod,ok.kind,ok.glob,ok.blt,ok.above,ok.inj,ok.has,ok.cab,ok.hd,ok.frames,ok.stk,ok.exf,ok.bs,ok.bsz,ok.noex,ok.exfs,ok.funs,ok.frf⟩
theorem Cx.Ok.unwish {X:Cx}{E:Value→Shared→Prop}(ok:(X.wish E).Ok):X.Ok:=
 ⟨ok.mod,ok.kind,ok.glob,ok.blt,ok.above,ok.inj,ok.has,ok.cab,ok.hd,ok.frames,ok.stk,ok.exf,ok.bs,ok.bsz,ok.noex,ok.exfs,ok.funs,ok.frf⟩
section
variable {X:Cx}{pins:List (Addr×Obj)}{σ:St}{H:Hp}{s:Shared}{E:Value→Shared→Prop}
theorem Inv.wish (I:Inv X pins σ H s)(E:Value→Shared→Prop):Inv (X.wish E) pins σ H s:=⟨I.ok.wish E,I.os,I.bare,I.base,I.loc,I.cell,I.free,I.freeC,I.pin,I.hok,I.len⟩
theorem Inv.unwish (I:Inv (X.wish E) pins σ H s):Inv X pins σ H s:=⟨I.ok.unwish,I.os,I.bare,I.base,I.loc,I.cell,I.free,I.freeC,I.pin,I.hok,I.len⟩
theorem SP.unwish {D:Ends}{f:Flow}{s':Shared}(h:SP (X.wish E) pins D f s'):SP X pins D f s':=by
 cases f with
 |next=>obtain⟨σ',H',I,q⟩:=h;exact⟨σ',H',I.unwish,q⟩
 |brk=>obtain⟨σ',H',I,q⟩:=h;exact⟨σ',H',I.unwish,q⟩
 |cont=>obtain⟨σ',H',I,q⟩:=h;exact⟨σ',H',I.unwish,q⟩
 |ret u=>obtain⟨v,σ',H',I,r,q⟩:=h;exact⟨v,σ',H',I.unwish,r,q⟩
theorem PSs.nox {st:List Stmt}{t:TS}(h:PSs X.nox st t):PSs X st t:=fun pins s σ H D I hw=>
 zp3 (h pins s σ H D (I.wish _) hw) (fun _ _ q=>q.unwish) fun _ _ z=>False.elim z
end
section
variable {X:Cx}{st:Stmt}{rest:List Stmt}{t u:TS}{e:Expr}{te:TE}{pos:Pos}
def zi8 :TS:=fun D σ H=>D.nx σ H
def zh2 (t u:TS):TS:=fun D σ H=>t {D with nx:=u D} σ H
theorem yi :PSs X [] zi8:=fun _ _ σ H _ I h=>zx5 ⟨σ,H,I,h⟩
theorem zG (h1:PS X st t)(h2:PSs X rest u):PSs X (st::rest) (zh2 t u):=by
 intro pins s σ H D I h
 refine wpAny_execs_cons (thn (h1 pins s σ H {D with nx:=u D} I h) fun f s1 q=>?_)
 cases f with
 |next=>
  obtain⟨σ',H',I',q⟩:=q
  exact h2 pins s1 σ' H' D I' q
 |ret v=>exact q
 |brk=>exact q
 |cont=>exact q
theorem zu (h1:PS X st t):PSs X [st] t:=by
 intro pins s σ H D I h
 refine wpAny_execs_cons (thn (h1 pins s σ H D I h) fun f s1 q=>?_)
 cases f with
 |next=>exact zx5 q
 |ret v=>exact q
 |brk=>exact q
 |cont=>exact q
theorem Inv.quiet {pins:List (Addr×Obj)}{σ:St}{H:Hp}{s:Shared}(I:Inv X pins σ H s):interactive X.env=false:=by simp[interactive,I.ok.kind]
def zf3 (te:TE):TS:=fun D σ H=>te σ H fun _ H1=>D.nx σ H1
theorem uF (he:PE X e te)(hs:swapsWith e none pos.line X.env=pure false:=by rfl):PS X (.Expr e pos) (zf3 te):=by
 intro pins s σ H D I h
 exact wpAny_Expr_any (thn (he pins s σ H _ I h) fun v s1 ⟨x,H1,I1,r1,q1⟩=>⟨σ,H1,I1,q1⟩) I.quiet hs
def zk6 (te:TE):TS:=fun D σ H=>te σ H D.rt
theorem zA (he:PE X e te):PS X (.Return (some e) pos) (zk6 te):=by
 intro pins s σ H D I h
 exact wpAny_Return_some (thn (he pins s σ H _ I h) fun v s1 ⟨x,H1,I1,r1,q1⟩=>⟨x,σ,H1,I1,r1,q1⟩)
def zm1 (c:TT)(t u:TS):TS:=fun D σ H=>c σ H fun b H1=>if b=true then t D σ H1 else u D σ H1
theorem xq {c:Expr}{a b:List Stmt}{tc:TT}(hc:PT X c tc)(ha:PSs X a t)(hb:PSs X b u):PS X (.If c a b pos) (zm1 tc t u):=by
 intro pins s σ H D I h
 refine wpAny_If (thn (hc pins s σ H _ I h) fun d s1 ⟨H1,I1,q1⟩=>?_)
 cases d with
 |true=>exact ha pins s1 σ H1 D I1 q1
 |false=>exact hb pins s1 σ H1 D I1 q1
end
abbrev TG :=V→St→Hp→(St→Hp→Prop)→Prop
abbrev TGs :=List V→St→Hp→(St→Hp→Prop)→Prop
def PG (X:Cx)(target:Expr)(t:TG):Prop:=
 ∀(pins:List (Addr×Obj)) (s:Shared) (σ:St) (H:Hp) (v:V) (u:Value) (Q:St→Hp→Prop),Inv X pins σ H s→RelV v u→t v σ H Q→
  wpAny (model X.prog X.w) X.A (assign target X.env u) (fun _ s'=>∃σ' H',Inv X pins σ' H' s'∧Q σ' H') X.xe s
def PGs (X:Cx)(ts:List Expr)(t:TGs):Prop:=
 ∀(pins:List (Addr×Obj)) (s:Shared) (σ:St) (H:Hp) (vs:List V) (us:List Value) (Q:St→Hp→Prop),Inv X pins σ H s→Vals vs us→t vs σ H Q→
  wpAny (model X.prog X.w) X.A (assignInOrder ((assignEach ts X.env).map (·.2)) us) (fun _ s'=>∃σ' H',Inv X pins σ' H' s'∧Q σ' H') X.xe s
abbrev zc5 :=V→V→V→Hp→(Hp→Prop)→Prop
def zi5 (X:Cx)(t:zc5):Prop:=
 ∀(pins:List (Addr×Obj)) (s:Shared) (σ:St) (H:Hp) (o i v:V) (ov iv u:Value) (Q:Hp→Prop),Inv X pins σ H s→RelV o ov→RelV i iv→RelV v u→t o i v H Q→
  wpAny (model X.prog X.w) X.A (setItem ov iv u) (fun _ s'=>∃H',Inv X pins σ H' s'∧Q H') X.xe s
section
variable {X:Cx}{pos:Pos}
def sY (i:Nat):TG:=fun v σ H Q=>Q (σ.set i (some v)) H
theorem zY {i:Nat}{x:Str}(hN:X.N.Nodup)(hi:X.N[i]?=some x)(hx:Loc X.env.scope x)(hf:X.fn x=true∨X.env.scope.names.lookup x=some .local:=by first|exact .inl rfl|exact .inr rfl|assumption):PG X (.Name x pos) (sY i):=by
 intro pins s σ H v u Q I r h
 exact wpAny_assign_Name (tW I hN hi hx r (fun s' I'=>⟨_,H,I',h⟩) hf)
def zh1 :TGs:=fun vs σ H Q=>vs=[]∧Q σ H
def cY (t:TG)(u:TGs):TGs:=fun vs σ H Q=>∃v r,vs=v::r∧t v σ H fun σ' H'=>u r σ' H' Q
theorem uJ :PGs X [] zh1:=by
 intro pins s σ H vs us Q I r h
 obtain⟨e,h⟩:=h
 subst e
 cases r
 exact assignInOrder_nil ⟨σ,H,I,h⟩
theorem xG {e:Expr}{es:List Expr}{t:TG}{u:TGs}(h1:PG X e t)(h2:PGs X es u)
  (hs:(assignEach (e::es) X.env).map (·.2)=assign e X.env::(assignEach es X.env).map (·.2):=by rfl):PGs X (e::es) (cY t u):=by
 intro pins s σ H vs us Q I r h
 obtain⟨v,vr,e1,h⟩:=h
 subst e1
 cases r with
 |cons r rr=>
  rw[hs]
  refine assignInOrder_cons (thn (h1 pins s σ H _ _ _ I r h) fun _ s1 ⟨σ1,H1,I1,q1⟩=>?_)
  exact h2 pins s1 σ1 H1 _ _ Q I1 rr q1
def aa (K:PySem.W.Frag)(n:Nat)(t:TGs):TG:=fun v σ H Q=>∃a xs,v=.ref a∧SqT K H a xs∧xs.length=n∧t xs σ H Q
theorem aJ {es:List Expr}{k:Nat}{t:TGs}{n:Nat}(hc:X.calm=true)(h:PGs X es t)
  (hn:(assignEach es X.env).length=n:=by rfl) (hst:(assignEach es X.env).findIdx? (·.1)=none:=by rfl):PG X (.Tuple es k pos) (aa X.K n t):=by
 intro pins s σ H v u Q I r hw
 obtain⟨a,xs,e1,hq,hl,hw⟩:=hw
 subst e1
 cases r
 obtain⟨its,rv,ht,hz⟩:=I.tuple hq
 refine assign_Tuple_tuple (I.ok.hd hc) ht (by simp[hn,←hl,rv.length]) hst fun h' hx=>?_
 have I1:Inv X pins σ H {s with heap:=h'}:=I.kept (t':=s.toks) fun b o e=>hx b o (zo2 (zn1 e)) e
 exact h pins _ σ H xs _ Q I1 (by simpa using rv) hw
def zg0 (to ti:TE)(t:zc5):TG:=fun v σ H Q=>to σ H fun o H1=>ti σ H1 fun i H2=>t o i v H2 fun H3=>Q σ H3
theorem nQ {o i:Expr}{to ti:TE}{t:zc5}(ho:PE X o to)(hi:PE X i ti)(hs:zi5 X t)
  (ha:∀v,assign (.Subscript o i pos) X.env v=(do
   let ov ←holding [v] (eval o X.env)
   let iv ←holding [v,ov] (eval i X.env)
   standAt pos
   holding [v,ov,iv] (setItem ov iv v)
   release [v,ov,iv] []):=by intro _;rfl):PG X (.Subscript o i pos) (zg0 to ti t):=by
 intro pins s σ H v u Q I r h
 rw[ha]
 refine zm4 (zq9 (thn (ho pins s σ H _ I h) fun ov s1 ⟨x,H1,I1,r1,q1⟩=>?_))
 refine zm4 (zq9 (thn (hi pins s1 σ H1 _ I1 q1) fun iv s2 ⟨y,H2,I2,r2,q2⟩=>?_))
 refine zm4 (zx1 (zm4 (zq9 (thn (hs pins s2 σ H2 x y v ov iv u _ I2 r1 r2 r q2) fun _ s3 ⟨H3,I3,q3⟩=>?_))))
 exact wpAny_release ⟨σ,H3,I3,q3⟩
def za2 (te:TE)(g:TG):TS:=fun D σ H=>te σ H fun x H1=>g x σ H1 D.nx
theorem nj {tg e:Expr}{te:TE}{g:TG}(he:PE X e te)(hg:PG X tg g)(hs:swapsWithSole [tg] e pos.line X.env=pure false:=by rfl)(hw:swappedStores [tg] e X.env=pure none:=by rfl)
  (h1:(assignEach [tg] X.env).map (·.2)=[assign tg X.env]:=by rfl):PS X (.Assign [tg] e pos) (za2 te g):=by
 intro pins s σ H D I h
 refine wpAny_Assign_stores (thn (he pins s σ H _ I h) fun v s1 ⟨x,H1,I1,r1,q1⟩=>?_) hs hw
 rw[h1]
 exact thn (hg pins s1 σ H1 x v _ I1 r1 q1) fun _ s2 q=>q
theorem wk {i:Nat}{x:Str}{e:Expr}{te:TE}{pos':Pos}(hN:X.N.Nodup)(hi:X.N[i]?=some x)(hx:Loc X.env.scope x)(he:PE X e te)(hs:swapsWith e (some (.Name x pos')) pos.line X.env=pure false:=by rfl)(hf:X.fn x=true∨X.env.scope.names.lookup x=some .local:=by first|exact .inl rfl|exact .inr rfl|assumption):
  PS X (.Assign [.Name x pos'] e pos) (za2 te (sY i)):=by
 intro pins s σ H D I h
 refine wpAny_Assign_Name (thn (he pins s σ H _ I h) fun v s1 ⟨y,H1,I1,r1,q1⟩=>?_) hs
 exact tW I1 hN hi hx r1 (fun s2 I2=>⟨_,H1,I2,q1⟩) hf
end
section
variable {X:Cx}{pos:Pos}
def zd0 (c:TT)(tb:TS):TS:=fun D σ H=>∃W:Nat→St→Hp→Prop,(∃m,W m σ H)∧∀m σ H,W m σ H→
 c σ H fun b H1=>if b=true then ∃N:St→Hp→Prop,(∀σ' H',N σ' H'→∃m',m'<m∧W m' σ' H')∧tb {D with nx:=N,ct:=N,bk:=D.nx} σ H1 else D.nx σ H1
theorem gI {c:Expr}{body:List Stmt}{tc:TT}{tb:TS}(hp:PassesOwn (model X.prog X.w) X.A X.env X.xe)(hc:PT X c tc)(hb:PSs X body tb):PS X (.While c body [] pos) (zd0 tc tb):=by
 intro pins s σ H D I h
 obtain⟨W,⟨m0,w0⟩,turn⟩:=h
 refine wpAny_While (codeAny_whileLoop (fun n s'=>∃σ' H',Inv X pins σ' H' s'∧W n σ' H') ?_ m0 ⟨σ,H,I,w0⟩)
 rintro n s1 ⟨σ1,H1,I1,w1⟩
 refine zu1 hp (thn (hc pins s1 σ1 H1 _ I1 (turn n σ1 H1 w1)) fun b s2 ⟨H2,I2,q2⟩=>?_)
 cases b with
 |true=>
  obtain⟨N,hN,q2⟩:=q2
  rw[if_pos rfl]
  refine zu1 hp (thn (hb pins s2 σ1 H2 _ I2 q2) fun f s3 q3=>?_)
  cases f with
  |next=>
   obtain⟨σ3,H3,I3,n3⟩:=q3
   obtain⟨m',hm,w3⟩:=hN σ3 H3 n3
   exact⟨m',hm,σ3,H3,I3,w3⟩
  |cont=>
   obtain⟨σ3,H3,I3,n3⟩:=q3
   obtain⟨m',hm,w3⟩:=hN σ3 H3 n3
   exact⟨m',hm,σ3,H3,I3,w3⟩
  |brk=>exact q3
  |ret v=>exact q3
 |false=>
  rw[if_neg zn4]
  exact zx5 ⟨σ1,H2,I2,q2⟩
end
structure It where
 go:Nat→Hp→Prop
 yld:Nat→Hp→V→Hp→Prop
 stop:Nat→Hp→Prop
def yR (X:Cx)(pins:List (Addr×Obj))(H:Hp)(b:Addr):Prop:=
 H b=none∧b≠X.env.locals∧b∉X.fs∧(b∈X.ex∨X.s₀.heap.objs.size≤b)∧(∀x c,X.env.cells.lookup x=some c→c≠b)∧∀p∈X.pn++pins,p.1≠b
theorem Inv.fpOk {X:Cx}{pins:List (Addr×Obj)}{σ:St}{H H':Hp}{s:Shared}{b:Addr}(I:Inv X pins σ H s)(hb:s.heap.objs.size≤b)(hn:H' b=none):yR X pins H' b:=by
 refine⟨hn,zt8 (zo1 I.lt hb),I.nofs hb,.inr (zr2 I.sz hb),fun x c e z=>?_,fun p hp z=>?_⟩
 ·obtain⟨v,q⟩:=I.cell x c e
  exact absurd (zo1 q.lt (by rw[z];exact hb)) (zs6 _)
 ·exact absurd (zo1 (zn1 (I.pin p hp).1) (by rw[z];exact hb)) (zs6 _)
structure Turn (P:Program)(w:World)(K:PySem.W.Frag)(tg:Expr)(J:It)(fp:List Addr)(it:Addr)(tn:Nat→Heap→Prop):Prop where
 mem:it∈fp
 obj:∀i h,tn i h→∀b∈fp,∃o,h.get? b=some o∧∀v,o.data≠.cell v
 keep:∀i h h',tn i h→(∀b∈fp,∀o,h.get? b=some o→h'.get? b=some o)→tn i h'
 item:∀(X:Cx),X.prog=P→X.w=w→X.K=K→X.calm=true→∀(i:Nat) (pins:List (Addr×Obj)) (s:Shared) (σ:St) (H:Hp) (E:Value→Shared→Prop),Inv X pins σ H s→(∀b∈fp,yR X pins H b)→tn i s.heap→J.go i H→
  wpAny (model P w) X.A (pyNext (.ref it)) (fun r s1=>∃u,r=some u∧
   wpAny (model P w) X.A (letOwnedTupleGo tg (.ref it) u) (fun _ s2=>∃x H',Inv X pins σ H' s2∧RelV x u∧J.yld i H x H'∧tn (i+1) s2.heap∧∀b∈fp,H' b=none) E s1) E s
 done:∀(X:Cx),X.prog=P→X.w=w→X.K=K→X.calm=true→∀(i:Nat) (pins:List (Addr×Obj)) (s:Shared) (σ:St) (H:Hp) (E:Value→Shared→Prop),Inv X pins σ H s→(∀b∈fp,yR X pins H b)→tn i s.heap→J.stop i H→
  wpAny (model P w) X.A (pyNext (.ref it)) (fun r s1=>r=none∧Inv X pins σ H s1) E s
 self:∀(A:Around) (i:Nat) (s:Shared) (Q:Value→Shared→Prop) (E:Value→Shared→Prop),tn i s.heap→Q (.ref it) s→wpAny (model P w) A (pyIter (.ref it)) Q E s
abbrev TI :=St→Hp→(It→Hp→Prop)→Prop
def PIE (X:Cx)(pins:List (Addr×Obj))(σ:St)(tg:Expr)(R:It→Hp→Prop)(itv:Value)(s2:Shared):Prop:=
 ∃(it:Addr) (fp:List Addr) (tn:Nat→Heap→Prop) (J:It) (H':Hp),itv=.ref it∧Inv X pins σ H' s2∧Turn X.prog X.w X.K tg J fp it tn∧tn 0 s2.heap∧(∀b∈fp,yR X pins H' b)∧R J H'
def PI (X:Cx)(tg iter:Expr)(wi:TI):Prop:=
 ∀(pins:List (Addr×Obj)) (s:Shared) (σ:St) (H:Hp) (R:It→Hp→Prop),Inv X pins σ H s→wi σ H R→
  wpAny (model X.prog X.w) X.A (eval iter X.env) (fun v s1=>wpAny (model X.prog X.w) X.A (pyIter v) (PIE X pins σ tg R) X.xe s1) X.xe s
theorem mY {M:Model}{A:Around}{E:Value→Shared→Prop}{s:Shared}{tg:Expr}{it:Addr}{u:Value}{o:Obj}{n:String}{vs:Array Value}{Q:Unit→Shared→Prop}(ho:s.heap.get? it=some o)(hc:o.cls=.type n)(hd:o.data=.fields vs)
  (hn:["enumerate","zip","dict_itemiterator","dict_reverseitemiterator","odict_iterator","itertools.zip_longest","itertools.pairwise"].contains n=false) (hQ:Q () s):wpAny M A (letOwnedTupleGo tg (.ref it) u) Q E s:=by
 unfold letOwnedTupleGo
 cases tg<;>first
  |exact zm7 hQ
  |(cases u<;>first
    |exact zm7 hQ
    |(refine zm4 (wpAny_load ho ?_)
      rw[hc,hd]
      show wpAny M A (if (["enumerate","zip","dict_itemiterator","dict_reverseitemiterator","odict_iterator","itertools.zip_longest","itertools.pairwise"].contains n&&vs[0]? == some (rawInt _))=true then _ else _) Q E s
      rw[if_neg (by intro h;rw[hn,zr3] at h;cases h)]
      exact zm7 hQ))
def Itl (K:PySem.W.Frag)(a:Addr):It:=
 ⟨fun i H=>∃xs x,SqL K H a xs∧xs[i]?=some x,fun i H x H'=>H'=H∧∀xs,SqL K H a xs→xs[i]?=some x,fun i H=>∃xs,SqL K H a xs∧xs.length≤i⟩
def Itr (lo:Int)(n:Nat):It:=⟨fun i _=>i<n,fun i H x H'=>H'=H∧x=.int (lo+i),fun i _=>n≤i⟩
theorem ji {P:Program}{w:World}{K:PySem.W.Frag}{tg:Expr}(a it:Addr):Turn P w K tg (Itl K a) [it] it (fun i h=>h.IsListIter it a i) where
 mem:=by simp
 obj:=fun i h st b hb=>by
  have e:b=it:=by simpa using hb
  subst e
  obtain⟨o,e,c,d⟩:=st
  exact⟨o,e,fun v z=>by rw[d] at z;cases z⟩
 keep:=fun i h h' st k=>st.at fun o e=>k it (by simp) o e
 item:=by
  intro X hP hw hK hc i pins s σ H E I hf st hg
  subst hP hw hK
  obtain⟨xs,x,hq,hx⟩:=hg
  obtain⟨its,rv,p,hz⟩:=I.list hq
  obtain⟨u,hu,ru⟩:=rv.get hx
  obtain⟨f0,f1,f2,f3,f4,f5⟩:=hf it (by simp)
  refine wpAny_pyNext_list_item st p.isList (x:=u) (by simpa using hu) fun h' st' sb=>?_
  have I1:Inv X pins σ H {s with heap:=h'}:=I.turned (t':=s.toks) (fun b o hb e=>(sb.2 b hb).trans e) f0 f1 f3 f4 f5
  obtain⟨o,e,c,d⟩:=id st'
  exact⟨u,rfl,mY (s:={s with heap:=h'}) e c d (by decide) ⟨x,H,I1,ru,⟨rfl,fun ys hy=>by rw[I.list_inj hy hq];exact hx⟩,st',fun b hb=>(hf b hb).1⟩⟩
 done:=by
  intro X hP hw hK hc i pins s σ H E I hf st hg
  subst hP hw hK
  obtain⟨xs,hq,hx⟩:=hg
  obtain⟨its,rv,p,hz⟩:=I.list hq
  obtain⟨f0,f1,f2,f3,f4,f5⟩:=hf it (by simp)
  have hl:=rv.length
  exact wpAny_pyNext_list_end (I.ok.hd hc) st p.isList (by simp;omega) fun h' eb=>⟨rfl,I.turned (t':=s.toks) (fun b o hb e=>eb b o hb e) f0 f1 f3 f4 f5⟩
 self:=fun _ _ _ _ _ st h=>wpAny_pyIter_listiter st h
theorem nG {P:Program}{w:World}{K:PySem.W.Frag}{tg:Expr}(it:Addr)(lo:Int)(n:Nat):Turn P w K tg (Itr lo n) [it] it (fun i h=>IsRangeIter h it (lo+(i:Nat)*1) ((n:Int)-(i:Nat)) 1) where
 mem:=by simp
 obj:=fun i h st b hb=>by
  have e:b=it:=by simpa using hb
  subst e
  exact⟨_,st,fun v z=>by
   have z':Data.fields _=Data.cell v:=z
   cases z'⟩
 keep:=fun i h h' st k=>k it (by simp) _ st
 item:=by
  intro X hP hw hK hc i pins s σ H E I hf st hg
  subst hP hw hK
  obtain⟨f0,f1,f2,f3,f4,f5⟩:=hf it (by simp)
  have W:=Walks.range (prog:=X.prog) (w:=X.w) (I.ok.hd hc) it lo 1 n
  refine W.item i s _ _ hg st fun v h' tk hv st' kk=>?_
  obtain⟨t,rfl⟩:=hv
  have I1:Inv X pins σ H {s with heap:=h',toks:=tk}:=I.turned (fun b o hb e=>kk b o (by simpa using hb) e) f0 f1 f3 f4 f5
  refine⟨_,rfl,mY (s:={s with heap:=h',toks:=tk}) (n:="range_iterator") st' rfl rfl (by decide) ⟨.int (lo+i),H,I1,⟨t,?_⟩,⟨rfl,rfl⟩,st',fun b hb=>(hf b hb).1⟩⟩
  rw[Int.mul_one]
 done:=by
  intro X hP hw hK hc i pins s σ H E I hf st hg
  subst hP hw hK
  obtain⟨f0,f1,f2,f3,f4,f5⟩:=hf it (by simp)
  exact wpAny_pyNext_range_end (I.ok.hd hc) st (by have:n≤i:=hg;omega) fun h' eb=>⟨rfl,I.turned (t':=s.toks) (fun b o hb e=>eb b o hb e) f0 f1 f3 f4 f5⟩
 self:=fun _ _ _ _ _ st h=>wpAny_pyIter_rangeiter st h
section
variable {X:Cx}{tg:Expr}
def zf4 (K:PySem.W.Frag)(tl:TE):TI:=fun σ H R=>tl σ H fun x H1=>∃a,x=.ref a∧(∃xs,SqL K H1 a xs)∧R (Itl K a) H1
theorem lQ {l:Expr}{tl:TE}(hl:PE X l tl):PI X tg l (zf4 X.K tl):=by
 intro pins s σ H R I h
 refine thn (hl pins s σ H _ I h) fun v s1 ⟨x,H1,I1,r1,q1⟩=>?_
 obtain⟨a,e,⟨xs,hq⟩,q⟩:=q1
 subst e
 cases r1
 obtain⟨its,rv,p,hz⟩:=I1.list hq
 refine zy4 p.isList ?_
 refine⟨s1.heap.objs.size,[s1.heap.objs.size],_,_,H1,rfl,I1.kept (t':=s1.toks) fun b o e=>zm5 _ e,ji a _,⟨_,zn8 _ rfl,rfl,rfl⟩,fun b hb=>?_,q⟩
 have e:b=s1.heap.objs.size:=by simpa using hb
 subst e
 exact I1.fpOk (zn0 _) (I1.hok.fresh (zn0 _))
theorem iA {pins:List (Addr×Obj)}{σ:St}{H:Hp}{s:Shared}{R:It→Hp→Prop}{E:Value→Shared→Prop}{lo hi:Int}{t u v:Tok}{tk:Nat}(I:Inv X pins σ H s)(h1:-(2 ^ 62)≤lo)(h2:lo<2 ^ 62)(h3:-(2 ^ 62)≤hi)(h4:hi<2 ^ 62)
  (q:R (Itr lo (hi-lo).toNat) H):wpAny (model X.prog X.w) X.A (pyIter (.ref s.heap.objs.size)) (PIE X pins σ tg R) E {s with heap:=s.heap.push {cls:=.type "range",data:=.fields #[.int lo t,.int hi u,.int 1 v]},toks:=tk}:=by
 refine wpAny_pyIter_range (IsRange.new ..) (small_one h1 h2 h3 h4) ?_
 have I1:Inv X pins σ H {s with heap:=s.heap.push {cls:=.type "range",data:=.fields #[.int lo t,.int hi u,.int 1 v]},toks:=tk}:=I.kept fun b o e=>zm5 _ e
 refine⟨(s.heap.push {cls:=.type "range",data:=.fields #[.int lo t,.int hi u,.int 1 v]}).objs.size,[(s.heap.push {cls:=.type "range",data:=.fields #[.int lo t,.int hi u,.int 1 v]}).objs.size],_,_,H,rfl,
  I1.kept (t':=tk) fun b o e=>zm5 _ e,nG _ lo (hi-lo).toNat,?_,fun b hb=>?_,q⟩
 ·have e1:lo+((0:Nat):Int)*1=lo:=by simp
  have e2:(((hi-lo).toNat:Nat):Int)-((0:Nat):Int)=Builtin.Range.rangeSize lo hi 1:=by rw[rangeSize_one];split<;>omega
  show IsRangeIter _ _ (lo+((0:Nat):Int)*1) ((((hi-lo).toNat:Nat):Int)-((0:Nat):Int)) 1
  rw[e1,e2]
  exact zn8 _ rfl
 ·have e:b=(s.heap.push {cls:=.type "range",data:=.fields #[.int lo t,.int hi u,.int 1 v]}).objs.size:=by simpa using hb
  subst e
  exact I1.fpOk (zn0 _) (I1.hok.fresh (zn0 _))
def zd4 (ta:TA):TI:=fun σ H R=>ta σ H fun vs H1=>∃j:Int,vs=[.int j]∧-(2 ^ 62)≤j∧j<2 ^ 62∧R (Itr 0 j.toNat) H1
theorem kK {a:Expr}{ta:TA}{p pos:Pos}(hg:Gl X "range")(hm:X.mg "range"=none)(ha:PA X [a] ta)(hs:starEach [a] X.env=[(false,eval a X.env)]:=by rfl):PI X tg (.Call (.Name "range" p) [a] [] pos) (zd4 ta):=by
 intro pins s σ H R I h
 refine Call_ (xF I hg hm boot_range (zq8 (thn (ha pos pins s σ H _ I h) fun us s1 ⟨vs,H1,I1,r1,q1⟩=>?_) hs rfl))
 obtain⟨j,e,q1,q2,q⟩:=q1
 subst e
 cases r1 with
 |cons r rr=>
  cases rr
  obtain⟨t,rfl⟩:=r
  exact call_range_1 (iA I1 (by omega) (by omega) q1 q2 (by simpa using q))
def zj3 (wi:TI)(g:TG)(tb:TS):TS:=fun D σ H=>wi σ H fun J H1=>∃W:Nat→Nat→St→Hp→Prop,(∃m,W 0 m σ H1)∧∀i m σ H,W i m σ H→
 (J.stop i H∧D.nx σ H)∨(J.go i H∧∃N:St→Hp→Prop,(∀σ' H',N σ' H'→∃m',m'<m∧W (i+1) m' σ' H')∧∀x H',J.yld i H x H'→g x σ H' fun σ2 H2=>tb {D with nx:=N,ct:=N,bk:=D.nx} σ2 H2)
def uX (fp:List Addr)(h:Heap):List (Addr×Obj):=fp.filterMap fun b=>(h.get? b).map fun o=>(b,o)
theorem xY {fp:List Addr}{h:Heap}{b:Addr}{o:Obj}(hb:b∈fp)(e:h.get? b=some o):(b,o)∈uX fp h:=List.mem_filterMap.mpr ⟨b,hb,by rw[e];rfl⟩
theorem jb {fp:List Addr}{h:Heap}{p:Addr×Obj}(hp:p∈uX fp h):p.1∈fp∧h.get? p.1=some p.2:=by
 obtain⟨b,hb,e⟩:=List.mem_filterMap.mp hp
 cases q:h.get? b with
 |none=>rw[q] at e;cases e
 |some o=>
  rw[q] at e
  have e':(b,o)=p:=zo9 e
  subst e'
  exact⟨hb,q⟩
theorem Inv.pinned {pins:List (Addr×Obj)}{σ:St}{H:Hp}{s:Shared}{fp:List Addr}(I:Inv X pins σ H s)(hf:∀b∈fp,yR X pins H b)(ho:∀b∈fp,∃o,s.heap.get? b=some o∧∀v,o.data≠.cell v):Inv X (pins++uX fp s.heap) σ H s:=
 I.pins_of fun p hp=>(zu0.mp hp).elim (fun z=>I.pin p (zq2 _ z)) fun z=>by
  obtain⟨hb,e⟩:=jb z
  obtain⟨f0,f1,f2,_⟩:=hf p.1 hb
  obtain⟨o,e',d⟩:=ho p.1 hb
  rw[e] at e';cases e'
  exact⟨e,f0,f1,f2,d⟩
theorem Inv.unpinned {pins pl:List (Addr×Obj)}{σ:St}{H:Hp}{s:Shared}(I:Inv X (pins++pl) σ H s):Inv X pins σ H s:=I.pins_of fun p hp=>I.pin p (zq2 _ (zz4 _ hp))
theorem aP {iter:Expr}{body:List Stmt}{wi:TI}{g:TG}{tb:TS}{pos:Pos}(hp:PassesOwn (model X.prog X.w) X.A X.env X.xe)(hc:X.calm=true)(hi:PI X tg iter wi)(hg:PG X tg g)(hb:PSs X body tb)
  (hs:∀x,foldedSetIterable iter X.env x=pure x:=by intro _;rfl):PS X (.For tg iter body [] pos) (zj3 wi g tb):=by
 intro pins s σ H D I h
 refine wpAny_For (thn (hi pins s σ H _ I h) fun v s1 h1=>thn h1 fun itv s2 h2=>?_) hs
 obtain⟨it,fp,tn,J,H2,e,I2,T,st2,f2,W,⟨m0,w0⟩,turn⟩:=h2
 subst e
 -- what stays true of the iterator's objects through the loop
 have stat:∀{H':Hp},(∀b∈fp,H' b=none)→∀b∈fp,yR X pins H' b:=fun hn b hb=>⟨hn b hb,(f2 b hb).2⟩
 refine codeAny_forLoop_any (fun n s'=>∃i σ' H',Inv X pins σ' H' s'∧tn i s'.heap∧(∀b∈fp,H' b=none)∧W i n σ' H') ?_ m0 ⟨0,σ,H2,I2,st2,fun b hb=>(f2 b hb).1,w0⟩
 rintro n s3 ⟨i,σ3,H3,I3,st3,fr3,w3⟩
 rcases turn i n σ3 H3 w3 with ⟨stop,qn⟩|⟨go,N,hN,step⟩
 ·refine zu1 hp (thn (T.done X rfl rfl rfl hc i pins s3 σ3 H3 X.xe I3 (stat fr3) st3 stop) fun r s4 ⟨hr,I4⟩=>?_)
  subst hr
  exact zx5 ⟨σ3,H3,I4,qn⟩
 ·refine zu1 hp (thn (T.item X rfl rfl rfl hc i pins s3 σ3 H3 X.xe I3 (stat fr3) st3 go) fun r s4 ⟨u,hr,h4⟩=>?_)
  subst hr
  refine zu1 hp (thn h4 fun _ s5 ⟨x,H5,I5,r5,y5,st5,fr5⟩=>?_)
  have I5':=I5.pinned (stat fr5) (T.obj _ _ st5)
  refine zu1 hp (thn (hg _ s5 σ3 H5 x u _ I5' r5 (step x H5 y5)) fun _ s6 ⟨σ6,H6,I6,q6⟩=>?_)
  refine zu1 hp (thn (hb _ s6 σ6 H6 _ I6 q6) fun f s7 q7=>?_)
  have again:∀{σ7:St} {H7:Hp},Inv X (pins++uX fp s5.heap) σ7 H7 s7→N σ7 H7→∃m,m<n∧∃i σ' H',Inv X pins σ' H' s7∧tn i s7.heap∧(∀b∈fp,H' b=none)∧W i m σ' H':=fun {σ7 H7} I7 n7=>by
   obtain⟨m',hm,w7⟩:=hN σ7 H7 n7
   refine⟨m',hm,i+1,σ7,H7,I7.unpinned,T.keep _ _ _ st5 fun b hb o e=>(I7.pin (b,o) (zq2 _ (zq2 _ (xY hb e)))).1,fun b hb=>?_,w7⟩
   obtain⟨o,e,d⟩:=T.obj _ _ st5 b hb
   exact (I7.pin (b,o) (zq2 _ (zq2 _ (xY hb e)))).2.1
  cases f with
  |next=>obtain⟨σ7,H7,I7,n7⟩:=q7;exact again I7 n7
  |cont=>obtain⟨σ7,H7,I7,n7⟩:=q7;exact again I7 n7
  |brk=>obtain⟨σ7,H7,I7,q7⟩:=q7;exact⟨σ7,H7,I7.unpinned,q7⟩
  |ret v=>obtain⟨x7,σ7,H7,I7,r7,q7⟩:=q7;exact⟨x7,σ7,H7,I7.unpinned,r7,q7⟩
end
abbrev R2 :=V→V→Hp→VK→Prop
def OpR (X:Cx)(f:Value→Value→Sem Value)(r:R2):Prop:=
 ∀(pins:List (Addr×Obj)) (s:Shared) (σ:St) (H:Hp) (x y:V) (v u:Value) (Q:VK),Inv X pins σ H s→RelV x v→RelV y u→r x y H Q→
  wpAny (model X.prog X.w) X.A (f v u) (EP X pins σ Q) X.xe s
def UnR (X:Cx)(f:Value→Sem Value)(r:V→Hp→VK→Prop):Prop:=
 ∀(pins:List (Addr×Obj)) (s:Shared) (σ:St) (H:Hp) (x:V) (v:Value) (Q:VK),Inv X pins σ H s→RelV x v→r x H Q→
  wpAny (model X.prog X.w) X.A (f v) (EP X pins σ Q) X.xe s
def yX (X:Cx)(f:Value)(r:List V→Hp→VK→Prop):Prop:=
 ∀(pins:List (Addr×Obj)) (s:Shared) (σ:St) (H:Hp) (xs:List V) (us:List Value) (Q:VK),Inv X pins σ H s→Vals xs us→r xs H Q→
  wpAny (model X.prog X.w) X.A (call f us) (EP X pins σ Q) X.xe s
def tOp (r:R2)(ta tb:TE):TE:=fun σ H Q=>ta σ H fun x H1=>tb σ H1 fun y H2=>r x y H2 Q
def tUn (r:V→Hp→VK→Prop)(ta:TE):TE:=fun σ H Q=>ta σ H fun x H1=>r x H1 Q
def rI (C:Int→Int→Prop)(g:Int→Int→V):R2:=fun x y H Q=>∃i j,x=.int i∧y=.int j∧C i j∧Q (g i j) H
def rI0 (g:Int→Int→V):R2:=fun x y H Q=>∃i j,x=.int i∧y=.int j∧Q (g i j) H
def rU (g:Int→V):V→Hp→VK→Prop:=fun x H Q=>∃i,x=.int i∧Q (g i) H
section
variable {X:Cx}{a b c:Expr}{ta tb tc:TE}{pos:Pos}
theorem aO (ha:PE X a ta)(hb:PE X b tb){pins:List (Addr×Obj)}{s:Shared}{σ:St}{H:Hp}{R:V→V→Hp→Prop}(I:Inv X pins σ H s)
  (h:ta σ H fun x H1=>tb σ H1 fun y H2=>R x y H2) {Q:Value→Shared→Prop} {f:Value→Value→Sem Value}
  (hf:∀v u s2 x y H2,Inv X pins σ H2 s2→RelV x v→RelV y u→R x y H2→wpAny (model X.prog X.w) X.A (f v u) Q X.xe s2):
  wpAny (model X.prog X.w) X.A (eval a X.env) (fun v s₁=>wpAny (model X.prog X.w) X.A (eval b X.env) (fun u s₂=>wpAny (model X.prog X.w) X.A (f v u) Q X.xe s₂) X.xe s₁) X.xe s:=by
 refine thn (ha pins s σ H _ I h) fun v s1 ⟨x,H1,I1,r1,q1⟩=>?_
 refine thn (hb pins s1 σ H1 _ I1 q1) fun u s2 ⟨y,H2,I2,r2,q2⟩=>?_
 exact hf v u s2 x y H2 I2 r1 r2 q2
theorem yg {op:Operator}{r:R2}(ho:OpR X (binaryOp op) r)(ha:PE X a ta)(hb:PE X b tb):PE X (.BinOp a op b pos) (tOp r ta tb):=by
 intro pins s σ H Q I h
 exact wpAny_BinOp (aO ha hb I h fun v u s2 x y H2 I2 rx ry q=>ho pins s2 σ H2 x y v u Q I2 rx ry q)
theorem bw {op:UnaryOp}{r:V→Hp→VK→Prop}(ho:UnR X (unaryOp op) r)(ha:PE X a ta):PE X (.UnaryOp op a pos) (tUn r ta):=by
 intro pins s σ H Q I h
 exact UnaryOp_ (thn (ha pins s σ H _ I h) fun v s1 ⟨x,H1,I1,r1,q1⟩=>ho pins s1 σ H1 x v Q I1 r1 q1)
theorem opI {f:Value→Value→Sem Value}{C:Int→Int→Prop}{g:Int→Int→Int}
  (rule:∀(i j:Int) (t u:Tok) (s:Shared) (Q:Value→Shared→Prop) (E:Value→Shared→Prop),C i j→Q (.int (g i j) s.toks) {s with toks:=s.toks+1}→wpAny (model X.prog X.w) X.A (f (.int i t) (.int j u)) Q E s):
  OpR X f (rI C fun i j=>.int (g i j)):=by
 intro pins s σ H x y v u Q I rx ry h
 obtain⟨i,j,rfl,rfl,hc,q⟩:=h
 obtain⟨t,rfl⟩:=rx
 obtain⟨t',rfl⟩:=ry
 exact rule i j t t' s _ _ hc ⟨.int (g i j),H,I.tok _,⟨_,rfl⟩,q⟩
theorem zg6 {f:Value→Value→Sem Value}{g:Int→Int→Int}
  (rule:∀(i j:Int) (t u:Tok) (s:Shared) (Q:Value→Shared→Prop) (E:Value→Shared→Prop),Q (.int (g i j) s.toks) {s with toks:=s.toks+1}→wpAny (model X.prog X.w) X.A (f (.int i t) (.int j u)) Q E s):
  OpR X f (rI0 fun i j=>.int (g i j)):=by
 intro pins s σ H x y v u Q I rx ry h
 obtain⟨i,j,rfl,rfl,q⟩:=h
 obtain⟨t,rfl⟩:=rx
 obtain⟨t',rfl⟩:=ry
 exact rule i j t t' s _ _ ⟨.int (g i j),H,I.tok _,⟨_,rfl⟩,q⟩
theorem dE {f:Value→Value→Sem Value}{g:Int→Int→Bool}
  (rule:∀(i j:Int) (t u:Tok) (s:Shared) (Q:Value→Shared→Prop) (E:Value→Shared→Prop),Q (.bool (g i j)) s→wpAny (model X.prog X.w) X.A (f (.int i t) (.int j u)) Q E s):
  OpR X f (rI0 fun i j=>.bl (g i j)):=by
 intro pins s σ H x y v u Q I rx ry h
 obtain⟨i,j,rfl,rfl,q⟩:=h
 obtain⟨t,rfl⟩:=rx
 obtain⟨t',rfl⟩:=ry
 exact rule i j t t' s _ _ ⟨.bl (g i j),H,I,rfl,q⟩
def zb1 (i j:Int):Prop:=0≤j∧j≤1000000∧i.natAbs<2 ^ 64
def aB (i j:Int):Prop:=(-(2 ^ 64)<i∧i<2 ^ 64)∨(-(2 ^ 64)<j∧j<2 ^ 64)
theorem aB.ok {i j:Int}(h:aB i j):IntMulOk i j:=by
 rcases h with ⟨h1,h2⟩|⟨h1,h2⟩
 ·exact .of_left (intBits_le_64 h1 h2)
 ·exact .of_right (intBits_le_64 h1 h2)
theorem uc :OpR X (binaryOp .Add) (rI0 fun i j=>.int (i+j)):=zg6 fun _ _ _ _ _ _ _ q=>add_int q
theorem fO :OpR X (binaryOp .Sub) (rI0 fun i j=>.int (i-j)):=zg6 fun _ _ _ _ _ _ _ q=>sub_int q
theorem sg :OpR X (binaryOp .Mult) (rI aB fun i j=>.int (i*j)):=opI fun _ _ _ _ _ _ _ hc q=>mul_int q hc.ok
theorem vf :OpR X (binaryOp .Mod) (rI (fun _ j=>0<j) fun i j=>.int (i % j)):=opI fun i j _ _ _ _ _ hc q=>by
 have h1:(0:Int)<j:=hc
 exact mod_int' (by omega) (by rw[Int.fmod_eq_emod_of_nonneg i (by omega)];exact q)
theorem iV :OpR X (binaryOp .Pow) (rI zb1 fun i j=>.int (i ^ j.toNat)):=opI fun _ _ _ _ _ _ _ hc q=>pow_int_small hc.1 hc.2.1 hc.2.2 q
theorem unI {f:Value→Sem Value}{g:Int→Int}
  (rule:∀(i:Int) (t:Tok) (s:Shared) (Q:Value→Shared→Prop) (E:Value→Shared→Prop),Q (.int (g i) s.toks) {s with toks:=s.toks+1}→wpAny (model X.prog X.w) X.A (f (.int i t)) Q E s):
  UnR X f (rU fun i=>.int (g i)):=by
 intro pins s σ H x v Q I rx h
 obtain⟨i,rfl,q⟩:=h
 obtain⟨t,rfl⟩:=rx
 exact rule i t s _ _ ⟨.int (g i),H,I.tok _,⟨_,rfl⟩,q⟩
theorem fc :UnR X (unaryOp .USub) (rU fun i=>.int (-i)):=unI fun _ _ _ _ _ q=>neg_int q
end
def zd2 :V→V→Bool
 |.non,.non=>true|.non,.int _=>true|.int _,.non=>true|.non,.bl _=>true|.bl _,.non=>true|.non,.str _=>true|.str _,.non=>true
 |.int _,.int _=>true|.bl _,.bl _=>true|.str _,.str _=>true|.byt _,.byt _=>true
 |.int _,.str _=>true|.str _,.int _=>true|.bl _,.str _=>true|.str _,.bl _=>true
 |_,_=>false
def rEq :R2:=fun x y H Q=>zd2 x y=true∧Q (.bl (decide (x=y))) H
def rNe :R2:=fun x y H Q=>zd2 x y=true∧Q (.bl (!decide (x=y))) H
theorem mQ {i j:Int}:decide (V.int i=V.int j)=(i == j):=by
 rw[zz5]
 simp
theorem gY {i j:Bool}:decide (V.bl i=V.bl j)=(i == j):=by
 rw[zz5]
 simp
theorem lE {i j:Str}:decide (V.str i=V.str j)=(i == j):=by
 rw[zz5]
 simp
theorem mH {i j:Array UInt8}:decide (V.byt i=V.byt j)=(i.toList == j.toList):=by
 rw[zz5]
 cases i
 cases j
 simp
section
variable {X:Cx}{a b c:Expr}{ta tb tc:TE}{pos:Pos}
theorem zC {pins:List (Addr×Obj)}{σ:St}{H:Hp}{s:Shared}{Q:VK}{k k':Bool}(I:Inv X pins σ H s)(q:Q (.bl k) H)(e:k=k'):EP X pins σ Q (.bool k') s:=by
 subst e
 exact⟨.bl k,H,I,rfl,q⟩
theorem wa :OpR X (compareOp .Eq) rEq:=by
 intro pins s σ H x y v u Q I rx ry h
 obtain⟨hs,q⟩:=h
 cases x with
 |non=>
  cases rx
  cases y with
  |non=>cases ry;exact PySem.EqNone.eq_none_none (zC I q (by simp))
  |bl j=>cases ry;exact PySem.EqNone.eq_none_bool (zC I q (by simp))
  |int j=>obtain⟨t',rfl⟩:=ry;exact PySem.EqNone.eq_none_int (zC I q (by simp))
  |str j=>obtain⟨t',rfl⟩:=ry;exact PySem.EqNone.eq_none_str (zC I q (by simp))
  |_=>exact absurd (show false=true from hs) zn4
 |bl i=>
  cases rx
  cases y with
  |non=>cases ry;exact PySem.EqNone.eq_bool_none (zC I q (by simp))
  |bl j=>cases ry;exact eq_bool (zC I q gY)
  |str j=>obtain⟨t',rfl⟩:=ry;exact PySem.EqMixed.eq_bool_str (zC I q (by simp))
  |_=>exact absurd (show false=true from hs) zn4
 |int i=>
  obtain⟨t,rfl⟩:=rx
  cases y with
  |non=>cases ry;exact PySem.EqNone.eq_int_none (zC I q (by simp))
  |int j=>obtain⟨t',rfl⟩:=ry;exact eq_int (zC I q mQ)
  |str j=>obtain⟨t',rfl⟩:=ry;exact PySem.EqMixed.eq_int_str (zC I q (by simp))
  |_=>exact absurd (show false=true from hs) zn4
 |str i=>
  obtain⟨t,rfl⟩:=rx
  cases y with
  |non=>cases ry;exact PySem.EqNone.eq_str_none (zC I q (by simp))
  |bl j=>cases ry;exact PySem.EqMixed.eq_str_bool (zC I q (by simp))
  |int j=>obtain⟨t',rfl⟩:=ry;exact PySem.EqMixed.eq_str_int (zC I q (by simp))
  |str j=>obtain⟨t',rfl⟩:=ry;exact eq_str (zC I q lE)
  |_=>exact absurd (show false=true from hs) zn4
 |byt i=>
  obtain⟨t,rfl⟩:=rx
  cases y with
  |byt j=>obtain⟨t',rfl⟩:=ry;exact PySem.W.eq_bytes (zC I q mH)
  |_=>exact absurd (show false=true from hs) zn4
 |_=>cases y<;>exact absurd (show false=true from hs) zn4
theorem zg5 :OpR X (compareOp .NotEq) rNe:=by
 intro pins s σ H x y v u Q I rx ry h
 obtain⟨hs,q⟩:=h
 cases x with
 |non=>
  cases rx
  cases y with
  |non=>cases ry;exact PySem.EqNone.ne_none_none (zC I q (by simp))
  |bl j=>cases ry;exact PySem.EqNone.ne_none_bool (zC I q (by simp))
  |int j=>obtain⟨t',rfl⟩:=ry;exact PySem.EqNone.ne_none_int (zC I q (by simp))
  |str j=>obtain⟨t',rfl⟩:=ry;exact PySem.EqNone.ne_none_str (zC I q (by simp))
  |_=>exact absurd (show false=true from hs) zn4
 |bl i=>
  cases rx
  cases y with
  |non=>cases ry;exact PySem.EqNone.ne_bool_none (zC I q (by simp))
  |bl j=>cases ry;exact ne_bool (zC I q (congrArg not gY))
  |str j=>obtain⟨t',rfl⟩:=ry;exact PySem.EqMixed.ne_bool_str (zC I q (by simp))
  |_=>exact absurd (show false=true from hs) zn4
 |int i=>
  obtain⟨t,rfl⟩:=rx
  cases y with
  |non=>cases ry;exact PySem.EqNone.ne_int_none (zC I q (by simp))
  |int j=>obtain⟨t',rfl⟩:=ry;exact ne_int (zC I q (congrArg not mQ))
  |str j=>obtain⟨t',rfl⟩:=ry;exact PySem.EqMixed.ne_int_str (zC I q (by simp))
  |_=>exact absurd (show false=true from hs) zn4
 |str i=>
  obtain⟨t,rfl⟩:=rx
  cases y with
  |non=>cases ry;exact PySem.EqNone.ne_str_none (zC I q (by simp))
  |bl j=>cases ry;exact PySem.EqMixed.ne_str_bool (zC I q (by simp))
  |int j=>obtain⟨t',rfl⟩:=ry;exact PySem.EqMixed.ne_str_int (zC I q (by simp))
  |str j=>obtain⟨t',rfl⟩:=ry;exact ne_str (zC I q (congrArg not lE))
  |_=>exact absurd (show false=true from hs) zn4
 |byt i=>
  obtain⟨t,rfl⟩:=rx
  cases y with
  |byt j=>obtain⟨t',rfl⟩:=ry;exact PySem.W.ne_bytes (zC I q (congrArg not mH))
  |_=>exact absurd (show false=true from hs) zn4
 |_=>cases y<;>exact absurd (show false=true from hs) zn4
theorem bE :OpR X (compareOp .Lt) (rI0 fun i j=>.bl (decide (i<j))):=dE fun _ _ _ _ _ _ _ q=>lt_int q
theorem uh :OpR X (compareOp .LtE) (rI0 fun i j=>.bl (decide (i≤j))):=dE fun _ _ _ _ _ _ _ q=>le_int q
theorem mE :OpR X (compareOp .Gt) (rI0 fun i j=>.bl (decide (j<i))):=dE fun _ _ _ _ _ _ _ q=>gt_int q
theorem zg7 :OpR X (compareOp .GtE) (rI0 fun i j=>.bl (decide (j≤i))):=dE fun _ _ _ _ _ _ _ q=>ge_int q
theorem mq :OpR X (compareOp .Is) (fun x y H Q=>y=.non∧Q (.bl (decide (x=.non))) H):=by
 intro pins s σ H x y v u Q I rx ry h
 obtain⟨rfl,q⟩:=h
 cases ry
 refine is_none_gen (zC I q ?_)
 cases x<;>first
  |(cases rx;rfl)
  |(obtain⟨t,rfl⟩:=rx;rfl)
theorem zF (b:Expr){op:CmpOp}(h:op≠.In:=by decide)(h2:op≠.NotIn:=by decide):behindInMarks op b=false:=by
 have e1:(op == CmpOp.In)=false:=by cases op<;>first|rfl|exact absurd rfl h
 have e2:(op == CmpOp.NotIn)=false:=by cases op<;>first|rfl|exact absurd rfl h2
 cases b<;>simp[behindInMarks,e1,e2]
theorem xp {op:CmpOp}{r:R2}(ho:OpR X (compareOp op) r)(ha:PE X a ta)(hb:PE X b tb)(hm:behindInMarks op b=false):PE X (.Compare a [op] [b] pos) (tOp r ta tb):=by
 intro pins s σ H Q I h
 exact wpAny_Compare1 (aO ha hb I h fun v u s2 x y H2 I2 rx ry q=>ho pins s2 σ H2 x y v u Q I2 rx ry q) hm
def bz (t:TE):TT:=fun σ H Q=>t σ H fun x H'=>∃k,x=.bl k∧Q k H'
theorem zZ {op:CmpOp}{r:R2}(ho:OpR X (compareOp op) r)(ha:PE X a ta)(hb:PE X b tb)(hm:behindInMarks op b=false):PT X (.Compare a [op] [b] pos) (bz (tOp r ta tb)):=by
 intro pins s σ H Q I h
 refine wpAny_isTrue_Compare1 (thn (ha pins s σ H _ I h) fun v s1 ⟨x,H1,I1,r1,q1⟩=>thn (hb pins s1 σ H1 _ I1 q1) fun u s2 ⟨y,H2,I2,r2,q2⟩=>
  thn (ho pins s2 σ H2 x y v u _ I2 r1 r2 q2) fun c s3 ⟨z,H3,I3,r3,k,e,q3⟩=>?_) hm
 subst e
 cases r3
 exact zr7 ⟨H3,I3,q3⟩
def fQ (r r':R2)(ta tb tc:TE):TE:=fun σ H Q=>ta σ H fun x H1=>tb σ H1 fun y H2=>r x y H2 fun z H3=>∃k,z=.bl k∧
 (if k=true then tc σ H3 fun w' H4=>r' y w' H4 Q else Q (.bl false) H3)
theorem uU {op op':CmpOp}{r r':R2}(ho:OpR X (compareOp op) r)(ho':OpR X (compareOp op') r')(ha:PE X a ta)(hb:PE X b tb)(hc:PE X c tc)
  (hm:lastMarks [op,op'] [b,c]=false:=by with_unfolding_all rfl):PE X (.Compare a [op,op'] [b,c] pos) (fQ r r' ta tb tc):=by
 intro pins s σ H Q I h
 refine Compare_chain (thn (ha pins s σ H _ I h) fun v s1 ⟨x,H1,I1,r1,q1⟩=>chain_link (thn (hb pins s1 σ H1 _ I1 q1) fun u s2 ⟨y,H2,I2,r2,q2⟩=>
  thn (ho pins s2 σ H2 x y v u _ I2 r1 r2 q2) fun d s3 ⟨z,H3,I3,r3,k,e,q3⟩=>?_)) hm
 subst e
 cases r3
 refine zr7 ?_
 cases k with
 |false=>exact ite_ff ⟨.bl false,H3,I3,rfl,q3⟩
 |true=>exact ite_tt (chain_last (thn (hc pins s3 σ H3 _ I3 q3) fun w' s4 ⟨z',H4,I4,r4,q4⟩=>ho' pins s4 σ H4 y z' u w' Q I4 r2 r4 q4))
theorem ik {op op':CmpOp}{r r':R2}(ho:OpR X (compareOp op) r)(ho':OpR X (compareOp op') r')(ha:PE X a ta)(hb:PE X b tb)(hc:PE X c tc)
  (hm:lastMarks [op,op'] [b,c]=false:=by with_unfolding_all rfl):PT X (.Compare a [op,op'] [b,c] pos) (bz (fQ r r' ta tb tc)):=by
 intro pins s σ H Q I h
 refine isTrue_chain (thn (ha pins s σ H _ I h) fun v s1 ⟨x,H1,I1,r1,q1⟩=>test_link (thn (hb pins s1 σ H1 _ I1 q1) fun u s2 ⟨y,H2,I2,r2,q2⟩=>
  thn (ho pins s2 σ H2 x y v u _ I2 r1 r2 q2) fun d s3 ⟨z,H3,I3,r3,k,e,q3⟩=>?_)) hm
 subst e
 cases r3
 refine zr7 ?_
 cases k with
 |false=>
  obtain⟨k',e',q'⟩:=q3
  cases e'
  exact ite_ff ⟨H3,I3,q'⟩
 |true=>
  refine ite_tt (test_last (thn (hc pins s3 σ H3 _ I3 q3) fun w' s4 ⟨z',H4,I4,r4,q4⟩=>thn (ho' pins s4 σ H4 y z' u w' _ I4 r2 r4 q4) fun d' s5 ⟨z2,H5,I5,r5,k2,e2,q5⟩=>?_))
  subst e2
  cases r5
  exact zr7 ⟨H5,I5,q5⟩
theorem tX :(sizeLine:Nat)<2 ^ 63:=by rw[zq0];decide
theorem vals1 {x:V}{us:List Value}(r:Vals [x] us):∃u,us=[u]∧RelV x u:=by
 cases r with
 |cons r1 r2=>cases r2;exact⟨_,rfl,r1⟩
theorem vals2 {x y:V}{us:List Value}(r:Vals [x,y] us):∃u w',us=[u,w']∧RelV x u∧RelV y w':=by
 cases r with
 |cons r1 r2=>
  cases r2 with
  |cons r3 r4=>cases r4;exact⟨_,_,rfl,r1,r3⟩
theorem pC :yX X (.builtin "abs") (fun xs H Q=>∃i,xs=[.int i]∧Q (.int (if i<0 then -i else i)) H):=by
 intro pins s σ H xs us Q I r h
 obtain⟨i,rfl,q⟩:=h
 obtain⟨u,rfl,t,rfl⟩:=vals1 r
 exact call_abs_int fun u tk=>⟨.int (if i<0 then -i else i),H,I.tok _,⟨_,rfl⟩,q⟩
theorem jv (hc:X.calm=true):yX X (.builtin "min") (fun xs H Q=>∃i j,xs=[.int i,.int j]∧Q (.int (if j<i then j else i)) H):=by
 intro pins s σ H xs us Q I r h
 obtain⟨i,j,rfl,q⟩:=h
 obtain⟨u,w',rfl,⟨t,rfl⟩,⟨t',rfl⟩⟩:=vals2 r
 refine min_two_ints (I.ok.hd hc) fun h' tk k=>⟨_,H,I.kept k,?_,q⟩
 by_cases hj:j<i
 ·rw[if_pos hj,if_pos hj];exact⟨_,rfl⟩
 ·rw[if_neg hj,if_neg hj];exact⟨_,rfl⟩
end
structure nI (h:Heap)(x dx C:Addr)(mA:Str→Option Value):Prop where
 obj:h.get? x=some (PySem.W.instObj C dx)
 ns:h.Ns1 dx mA
 ne:dx≠x
theorem sS {h:Heap}{dx:Addr}{mA:Str→Option Value}(n:h.Ns1 dx mA):∃od,h.get? dx=some od∧∀name,PySem.W.lookIn name od=some (mA name):=by
 obtain⟨o,es,ep,ho,hd,hk,_,hm⟩:=n
 refine⟨o,ho,fun name=>?_⟩
 have e:=hm name
 unfold nsFind findBy at e
 rw[←Array.find?_toList] at e
 unfold PySem.W.lookIn
 rw[hd]
 dsimp only
 split
 ·rename_i y q
  rw[q] at e
  exact congrArg some e
 ·rename_i q
  rw[q] at e
  have a:es.toList.any (·.refKey)=false:=by
   rw[List.any_eq_false]
   intro y hy
   obtain⟨z,t,hkey⟩:=hk y (Array.mem_toList_iff.mp hy)
   simp[DictEntry.refKey,hkey]
  have a':¬es.toList.any (·.refKey)=true:=by rw[a];exact zn4
  rw[if_neg a']
  exact congrArg some e
theorem nI.look {h:Heap}{x dx C:Addr}{mA:Str→Option Value}(I:nI h x dx C mA):∃od,PySem.W.InstAt h x (PySem.W.instObj C dx) C (some od)∧∀name,PySem.W.lookIn name od=some (mA name):=
 let ⟨od,ho,hl⟩:=sS I.ns
 ⟨od,⟨I.obj,rfl,rfl,ho⟩,hl⟩
section
variable {prog:Program}{w:World}{A:Around}{E:Value→Shared→Prop}{s:Shared}{K:PySem.W.Frag}{x dx C f:Addr}{mA:Str→Option Value}{name:Str}{v:Value}
theorem get_map {expr:Bool}{Q:Value→Shared→Prop}(X:K.In s.heap)(I:nI s.heap x dx C mA)(hg:PySem.W.plainGet K C name=true)(hh:PySem.W.hasDictIn K C=true)
  (ha:PySem.W.findIn K (.ref C) name=some none) (hv:mA name=some v) (hv':PySem.W.handedIn v=true) (h:Q v {s with toks:=s.toks+1}):
  wpAny (model prog w) A (getAttr (.ref x) name expr) Q E s:=by
 obtain⟨od,J,hl⟩:=I.look
 exact PySem.W.get_value X J (zA1 hg).1 (PySem.W.findObj_own hh ha rfl (by rw[hl,hv])) hv' h
theorem gZ {pl:Sem Bool}{Q:Value×List Value→Shared→Prop}(X:K.In s.heap)(I:nI s.heap x dx C mA)(hg:PySem.W.plainGet K C name=true)
  (hf:PySem.W.findIn K (.ref C) name=some (some (.ref f))) (ht:PySem.W.isFn K (.ref f)=true) (hv:mA name=none) (h:Q (.ref f,[.ref x]) s):
  wpAny (model prog w) A (getMethod (.ref x) name pl) Q E s:=by
 obtain⟨od,J,hl⟩:=I.look
 exact PySem.W.method_fn X J (zA1 hg).1 (zA1 hg).2 hf (zt4.mp ht) (by show (PySem.W.lookIn name od).map (·.isSome)=some false;rw[hl,hv];rfl) h
theorem di {ns:List Str}{Q:Unit→Shared→Prop}(X:K.In s.heap)(I:nI s.heap x dx C mA)
  (hs:PySem.W.findIn K (.ref C) "__setattr__"=some (some (.builtin "object.__setattr__"))) (hp:PySem.W.plainOver K C=true) (ht:PySem.W.takerIn K C name=some none) (hh:PySem.W.hasDictIn K C=true)
  (hw:PySem.Within mA ns) (hsz:ns.length≤sizeLine)
  (h:∀h',nI h' x dx C (fun y=>if y=name then some v else mA y)→Heap.SameBut dx s.heap h'→Q () {s with heap:=h',toks:=s.toks+2}):
  wpAny (model prog w) A (setAttr (.ref x) name v) Q E s:=by
 obtain⟨od,J,hl⟩:=I.look
 refine PySem.W.set_plain X J hs (PySem.W.osa_open (s:={s with toks:=s.toks+1}) (r:=none) X J hp ht fun b=>?_)
 obtain⟨cd,hc,hd'⟩:=PySem.W.any_some hh
 have hx:s.heap.get? x=some ⟨.ref C,some dx,.plain,#[]⟩:=I.obj
 refine zm4 (zm7 (zm4 (zm4 (wpAny_loadPart hx (zm4 (PySem.W.Looks.here (s:={s with toks:=s.toks+1}) (PySem.W.looks_clsIn X hc) ?_))))))
 rw[hd']
 refine zm7 (a:=some dx) (zm4 (zm7 (zm4 ?_)))
 refine wpAny_nsSet1 (s:={s with toks:=s.toks+1}) I.ns fun h' hn2 hs2=>?_
 obtain⟨oD,esD,epD,hoD,hdD,hcD⟩:=hn2.count (PySem.Within.cons name v hw)
 refine zm4 (wpAny_lookBehind hoD (by rw[hdD];exact pastItsLine_dict (zr2 hcD (by rw[zn7];omega))) ?_)
 exact zm7 (h _ ⟨(hs2.2 _ (zp4 I.ne)).trans I.obj,hn2,I.ne⟩ hs2)
theorem ir {R:Result→Shared→Prop}{vs:List Value}{kw:List (Str×Value)}(X:K.In s.heap)(hm:PySem.W.makesIn K C=true)
  (hi:PySem.W.findIn K (.ref C) "__init__"=some (some (.ref f))) (hf:PySem.W.typeIn K (.ref f)=some (.type "function"))
  (h:codeAny (model prog w) (A.under (.builtin "type.__call__" ⟨.ref C::vs,kw⟩)) (.call (.ref f) ⟨.ref (s.heap.objs.size+1)::vs,kw⟩) (PySem.W.InitBack (s.heap.objs.size+1) R)
   {s with heap:=(s.heap.push PySem.W.emptyDict).push (PySem.W.instObj C s.heap.objs.size)}):
  codeAny (model prog w) A (.call (.ref C) ⟨vs,kw⟩) R s:=by
 obtain⟨hh,g,d,t,os⟩:=s
 exact PySem.W.make_core (PySem.W.makes_of X hm) (PySem.W.looks_findIn X hi) (fun self=>PySem.W.bind_fn X self hf) (.inl rfl) h
end
def xj (f:Str)(v:V):List (Str×V)→List (Str×V)
 |[]=>[(f,v)]
 |(g,x)::r=>if g=f then (g,v)::r else (g,x)::xj f v r
theorem zM (f g:Str)(v:V):∀fs:List (Str×V),(xj f v fs).lookup g=if g=f then some v else fs.lookup g
 |[]=>by
  show List.lookup g [(f,v)]=_
  by_cases h:g=f
  ·have hb:(g == f)=true:=zt4.mpr h
   simp only[List.lookup,hb,if_pos h]
  ·have hb:(g == f)=false:=zv6.mpr h
   simp only[List.lookup,hb,if_neg h]
 |(k,x)::r=>by
  have ih:=zM f g v r
  rw[show xj f v ((k,x)::r)=(if k=f then (k,v)::r else (k,x)::xj f v r) from rfl]
  by_cases hk:k=f
  ·rw[if_pos hk]
   by_cases h:g=k
   ·have hb:(g == k)=true:=zt4.mpr h
    simp only[List.lookup,hb,if_pos (h.trans hk)]
   ·have hb:(g == k)=false:=zv6.mpr h
    simp only[List.lookup,hb,if_neg (fun e:g=f=>h (e.trans hk.symm))]
  ·rw[if_neg hk]
   by_cases h:g=k
   ·have hb:(g == k)=true:=zt4.mpr h
    simp only[List.lookup,hb,if_neg (fun e:g=f=>hk (h.symm.trans e))]
   ·have hb:(g == k)=false:=zv6.mpr h
    simp only[List.lookup,hb]
    exact ih
theorem vZ (f:Str)(v:V):∀fs:List (Str×V),f∈(xj f v fs).map (·.1)∧∀g,g∈fs.map (·.1)→g∈(xj f v fs).map (·.1)
 |[]=>⟨by simp[xj],fun g h=>by simp at h⟩
 |(k,x)::r=>by
  obtain⟨i1,i2⟩:=vZ f v r
  rw[show xj f v ((k,x)::r)=(if k=f then (k,v)::r else (k,x)::xj f v r) from rfl]
  by_cases hk:k=f
  ·rw[if_pos hk]
   subst hk
   exact⟨by simp,fun g h=>by simpa using h⟩
  ·rw[if_neg hk]
   refine⟨?_,fun g h=>?_⟩
   ·rw[zp8]
    exact zn6 _ i1
   ·rw[zp8] at h ⊢
    rcases zn2.mp h with e|e
    ·exact zn2.mpr (.inl e)
    ·exact zn6 _ (i2 g e)
theorem uf (f:Str)(v:V):∀fs:List (Str×V),(xj f v fs).length≤fs.length+1
 |[]=>by simp[xj]
 |(k,x)::r=>by
  have ih:=uf f v r
  rw[show xj f v ((k,x)::r)=(if k=f then (k,v)::r else (k,x)::xj f v r) from rfl]
  by_cases hk:k=f
  ·rw[if_pos hk,zn7,zn7];omega
  ·rw[if_neg hk,zn7,zn7];omega
theorem wj.some_of {v:V}{o:Option Value}(r:wj (some v) o):∃u,o=some u∧RelV v u:=by
 cases o with
 |none=>exact (show False from r).elim
 |some u=>exact⟨u,rfl,r⟩
theorem wj.none_of {o:Option Value}(r:wj none o):o=none:=by
 cases o with
 |none=>rfl
 |some u=>exact (show False from r).elim
theorem sL {v:V}{u:Value}(r:RelV v u):PySem.W.handedIn u=true:=by
 cases v with
 |non=>cases (show u=Value.none from r);rfl
 |bl b=>cases (show u=Value.bool b from r);rfl
 |int i=>obtain⟨t,e⟩:=(show ∃t,u=Value.int i t from r);cases e;rfl
 |str x=>obtain⟨t,e⟩:=(show ∃t,u=Value.str x t from r);cases e;rfl
 |byt b=>obtain⟨t,e⟩:=(show ∃t,u=Value.bytes b t from r);cases e;rfl
 |flt b=>obtain⟨t,e⟩:=(show ∃t,u=Value.float b t from r);cases e;rfl
 |ref a=>cases (show u=Value.ref a from r);rfl
 |ty n=>cases (show u=Value.type n from r);rfl
section
variable {P:Program}{w:World}{H H':Hp}{h h':Heap}{a C dx:Addr}{fs fs':List (Str×V)}
theorem uD (hok:HOk P w H h)(e:H a=some (.ins C dx fs)):∃mA,nI h a dx C mA∧(∀f,wj (fs.lookup f) (mA f))∧PySem.Within mA (fs.map (·.1))∧fs.length≤1000∧H dx=some (.own a):=by
 obtain⟨d,z,ne,ob,mA,n,r,q⟩:=(show zV P w H h a (.ins C dx fs) from hok a _ e)
 exact⟨mA,⟨ob,n,ne⟩,r,q,z,d⟩
end
structure Cls (K:PySem.W.Frag)(C:Addr):Prop where
 pg:PySem.W.plainGet K C Str.empty=true
 hd:PySem.W.hasDictIn K C=true
 po:PySem.W.plainOver K C=true
 sa:PySem.W.findIn K (.ref C) "__setattr__"=some (some (.builtin "object.__setattr__"))
theorem Cls.get {K:PySem.W.Frag}{C:Addr}(c:Cls K C)(f:Str):PySem.W.plainGet K C f=true:=c.pg
def yq (K:PySem.W.Frag)(C:Addr)(f:Str):Prop:=PySem.W.findIn K (.ref C) f=some none
theorem yq.taker {K:PySem.W.Frag}{C:Addr}{f:Str}(n:yq K C f):PySem.W.takerIn K C f=some none:=by
 unfold PySem.W.takerIn
 rw[show PySem.W.findIn K (.ref C) f=some none from n]
 rfl
structure Meth (K:PySem.W.Frag)(C:Addr)(m:Str)(f:Addr):Prop where
 at_:PySem.W.findIn K (.ref C) m=some (some (.ref f))
 fn:PySem.W.isFn K (.ref f)=true
 kp:PySem.W.keepIn K (.ref f)=true
section
variable {X:Cx}{pins:List (Addr×Obj)}{σ:St}{H:Hp}{s:Shared}{a C dx:Addr}{fs:List (Str×V)}{f:Str}{v:V}{A:Around}{E:Value→Shared→Prop}
theorem ou {b:Bool}{Q:Value→Shared→Prop}(I:Inv X pins σ H s)(e:H a=some (.ins C dx fs))(c:Cls X.K C)(n:yq X.K C f)(l:fs.lookup f=some v)
  (h:∀u s',Inv X pins σ H s'→RelV v u→Q u s'):wpAny (model X.prog X.w) A (getAttr (.ref a) f b) Q E s:=by
 obtain⟨mA,O,r,_,_,_⟩:=uD I.hok e
 obtain⟨u,hu,ru⟩:=wj.some_of (v:=v) (o:=mA f) (by rw[←l];exact r f)
 exact get_map I.kIn O (c.get f) c.hd n hu (sL ru) (h u _ (I.tok _) ru)
theorem vm {m:Str}{g:Addr}{pl:Sem Bool}{Q:Value×List Value→Shared→Prop}(I:Inv X pins σ H s)(e:H a=some (.ins C dx fs))(c:Cls X.K C)(k:Meth X.K C m g)(l:fs.lookup m=none)
  (h:Q (.ref g,[.ref a]) s):wpAny (model X.prog X.w) A (getMethod (.ref a) m pl) Q E s:=by
 obtain⟨mA,O,r,_,_,_⟩:=uD I.hok e
 have hn:mA m=none:=wj.none_of (by rw[←l];exact r m)
 exact gZ I.kIn O (c.get m) k.at_ k.fn hn h
theorem om {y:V}{u:Value}{Q:Unit→Shared→Prop}(I:Inv X pins σ H s)(e:H a=some (.ins C dx fs))(c:Cls X.K C)(n:yq X.K C f)(hl:fs.length<1000)(ry:RelV y u)
  (h:∀s',Inv X pins σ (upd H a (.ins C dx (xj f y fs))) s'→Q () s'):wpAny (model X.prog X.w) A (setAttr (.ref a) f u) Q E s:=by
 obtain⟨mA,O,r,wi,_,ho⟩:=uD I.hok e
 have hz:(fs.map (·.1)).length≤sizeLine:=by rw[zm6,zq0];omega
 refine di I.kIn O c.sa c.po n.taker c.hd wi hz fun h' O' sb=>h _ ?_
 have hd:∃o,h'.get? dx=some o:=let ⟨o,_,_,e',_⟩:=O'.ns;⟨o,e'⟩
 refine I.write (x:=a) (e:=dx) (by rw[e];exact True.intro) (.inr ho) (fun b q hb z=>(sb.2 b hb).trans z) hd ?_
 refine⟨by rw[zd O.ne];exact ho,?_,O.ne,O'.obj,_,O'.ns,fun g=>?_,fun g hg=>?_⟩
 ·have:=uf f y fs;omega
 ·show wj ((xj f y fs).lookup g) (if g=f then some u else mA g)
  rw[zM]
  by_cases q:g=f
  ·rw[if_pos q,if_pos q];exact ry
  ·rw[if_neg q,if_neg q];exact r g
 ·by_cases q:g=f
  ·rw[q];exact (vZ f y fs).1
  ·refine (vZ f y fs).2 g (wi g fun z=>hg ?_)
   show (if g=f then some u else mA g)=none
   rw[if_neg q];exact z
theorem Inv.made (I:Inv X pins σ H s):Inv X pins σ (upd (upd H s.heap.objs.size (.own (s.heap.objs.size+1))) (s.heap.objs.size+1) (.ins C s.heap.objs.size []))
  {s with heap:=(s.heap.push PySem.W.emptyDict).push (PySem.W.instObj C s.heap.objs.size)}:=by
 have e1:(s.heap.push PySem.W.emptyDict).get? s.heap.objs.size=some PySem.W.emptyDict:=zn8 s.heap rfl
 have e2:((s.heap.push PySem.W.emptyDict).push (PySem.W.instObj C s.heap.objs.size)).get? (s.heap.objs.size+1)=some (PySem.W.instObj C s.heap.objs.size):=by
  have:=zn8 (s.heap.push PySem.W.emptyDict) (o:=PySem.W.instObj C s.heap.objs.size) rfl
  rwa [zs9] at this
 have e3:(s.heap.push PySem.W.emptyDict).Ns s.heap.objs.size (fun _=>none):=⟨PySem.W.emptyDict,#[],_,e1,rfl,(fun e he=>absurd he (by simp)),fun _=>rfl⟩
 have I1:=I.laid (a:=s.heap.objs.size) (o:=.own (s.heap.objs.size+1)) (h':=s.heap.push PySem.W.emptyDict) (t':=s.toks) (fun b u q=>zm5 _ q) (zn0 _) ⟨_,e1⟩
 refine I1.laid (a:=s.heap.objs.size+1) (o:=.ins C s.heap.objs.size []) (t':=s.toks) (fun b u q=>zm5 _ q) (zz6 (zs9 _ _)) ?_
 have ne:s.heap.objs.size≠s.heap.objs.size+1:=zo2 (zw7 _)
 refine⟨by rw[zd ne,zf],zo3 _,ne,e2,fun _=>none,(Heap.Ns1.of_empty e3).at fun o q=>zm5 _ q,fun _=>True.intro,fun y hy=>absurd rfl hy⟩
theorem lu {prog:Program}{w:World}{env:Env}{e:Expr}{f:Str}{pos:Pos}{s:Shared}{Q:Value→Shared→Prop}(hb:attributeBase e f env (eval e env)=eval e env)
  (h:wpAny (model prog w) A (eval e env) (fun o s₁=>wpAny (model prog w) A (getAttr o f true) Q E s₁) E s):wpAny (model prog w) A (eval (.Attribute e f pos) env) Q E s:=
 Attribute_any_ h (by rw[arm_eval_Attribute,hb])
end
def zk4 (K:PySem.W.Frag)(ta:TE)(f:Str):TE:=fun σ H Q=>ta σ H fun x H1=>∃a C dx fs v,x=.ref a∧H1 a=some (.ins C dx fs)∧Cls K C∧yq K C f∧fs.lookup f=some v∧Q v H1
def zj9 (K:PySem.W.Frag)(ta tv:TE)(f:Str):TS:=fun D σ H=>tv σ H fun y H1=>ta σ H1 fun x H2=>∃a C dx fs,x=.ref a∧H2 a=some (.ins C dx fs)∧Cls K C∧yq K C f∧fs.length<1000∧
 D.nx σ (upd H2 a (.ins C dx (xj f y fs)))
section
variable {X:Cx}{o e value:Expr}{f:Str}{pos pos' tpos:Pos}{ta tv:TE}
theorem vN (he:PE X e ta)(hb:attributeBase e f X.env (eval e X.env)=eval e X.env):PE X (.Attribute e f pos) (zk4 X.K ta f):=by
 intro pins s σ H Q I h
 refine lu hb (thn (he pins s σ H _ I h) fun u s1 ⟨x,H1,I1,rx,a,C,dx,fs,v,ex,ea,c,n,l,q⟩=>?_)
 subst ex
 obtain rfl:u=Value.ref a:=rx
 exact ou I1 ea c n l fun u' s2 I2 ru=>⟨v,H1,I2,ru,q⟩
theorem rT (ha:PE X o ta)(hv:PE X value tv)(hs:swapsWith value (some (.Attribute o f pos')) pos.line X.env=pure false):PS X (.Assign [.Attribute o f pos'] value pos) (zj9 X.K ta tv f):=by
 intro pins s σ H D I h
 refine plainObj_wpAny_Assign_Attribute (thn (hv pins s σ H _ I h) fun u s1 ⟨y,H1,I1,ry,q⟩=>thn (ha pins s1 σ H1 _ I1 q) fun ov s2 ⟨x,H2,I2,rx,a,C,dx,fs,ex,ea,c,n,l,q2⟩=>?_) hs
 subst ex
 obtain rfl:ov=Value.ref a:=rx
 exact om I2 ea c n l ry fun s3 I3=>⟨σ,_,I3,q2⟩
theorem br {pl:Sem Bool}{m:Str}{apos:Pos}{args:List Expr}{pins:List (Addr×Obj)}{s:Shared}{σ:St}{H:Hp}{Q:Value→Shared→Prop}{te:TE}(he:PE X e te)(I:Inv X pins σ H s)
  (h:te σ H fun x H1=>∃a C dx fs g,x=.ref a∧H1 a=some (.ins C dx fs)∧Cls X.K C∧Meth X.K C m g∧fs.lookup m=none∧
   ∀s1,Inv X pins σ H1 s1→wpAny (model X.prog X.w) X.A (callWith pos (.ref g) [.ref a] (backTo pos (starEach args X.env)) (backToKw pos (keywordEach [] X.env))) Q X.xe s1)
  (ht:eval (.Call (.Attribute e m apos) args [] pos) X.env=(do
   let ov ←eval e X.env
   standAt apos.atName
   let (f,first) ←holding [ov] (getMethod ov m pl)
   callWith pos f first (backTo pos (starEach args X.env)) (backToKw pos (keywordEach [] X.env)))):
  wpAny (model X.prog X.w) X.A (eval (.Call (.Attribute e m apos) args [] pos) X.env) Q X.xe s:=by
 refine zw5 (pl:=pl) (thn (he pins s σ H _ I h) fun u s1 ⟨x,H1,I1,rx,a,C,dx,fs,g,ex,ea,c,k,l,q⟩=>?_) ht
 subst ex
 obtain rfl:u=Value.ref a:=rx
 exact vm I1 ea c k l (q s1 I1)
end
section
variable {X:Cx}{pins:List (Addr×Obj)}{σ:St}{H:Hp}{s:Shared}{A:Around}{E:Value→Shared→Prop}{Q:Value→Shared→Prop}{c:Value}{b:Bool}
inductive vH (K:PySem.W.Frag)(H:Hp):V→Value→Prop where
 |non:vH K H .non (.type "NoneType")
 |bl (x:Bool):vH K H (.bl x) (.type "bool")
 |int (i:Int):vH K H (.int i) (.type "int")
 |str (x:Str):vH K H (.str x) (.type "str")
 |flt (x:UInt64):vH K H (.flt x) (.type "float")
 |lst {a:Addr} {xs:List V} (e:H a=some (.lst xs)):vH K H (.ref a) (.type "list")
 |frz {a:Addr} {o:Obj} {xs:List V} (e:H a=some (.frz o (.lst xs))):vH K H (.ref a) (.type "list")
 |tup {a:Addr} {xs:List V} (e:H a=some (.tup xs)):vH K H (.ref a) (.type "tuple")
 |dK {a:Addr} {kvs:List (Key×V)} (e:H a=some (.dK kvs)):vH K H (.ref a) (.type "dict")
 |dT {a:Addr} {kvs:List (List Key×V)} (e:H a=some (.dT kvs)):vH K H (.ref a) (.type "dict")
 |ins {a C dx:Addr} {fs:List (Str×V)} (e:H a=some (.ins C dx fs)) (cl:Cls K C) (ha:PySem.W.findIn K (.ref C) "__class__"=some (some (.builtin "object.__class__")))
   (hn:PySem.W.specialIn K (.builtin "object.__class__") "__get__"=some (some (.builtin "getset_descriptor.__get__"))) (htk:PySem.W.takesIn K (.builtin "object.__class__")=some true)
   (hm:PySem.W.mroIn K C (.type "object")=some true):vH K H (.ref a) (.ref C)
theorem jM {x:V}{u t:Value}(I:Inv X pins σ H s)(rx:RelV x u)(ty:vH X.K H x t)(e:PySem.W.kitOne X.K t c=some b)(h:∀tk,Q (.bool b) {s with toks:=tk}):
  wpAny (model X.prog X.w) A (call (.builtin "isinstance") [u,c]) Q E s:=by
 cases ty with
 |non=>cases (show u=Value.none from rx);exact zr1 PySem.W.kitx_none I.kIn True.intro e (fun z=>nomatch z) h
 |bl y=>cases (show u=Value.bool y from rx);exact zr1 PySem.W.kitx_bool I.kIn True.intro e (fun z=>nomatch z) h
 |int i=>obtain⟨t,q⟩:=(show ∃t,u=Value.int i t from rx);cases q;exact zr1 PySem.W.kitx_int I.kIn True.intro e (fun z=>nomatch z) h
 |str y=>obtain⟨t,q⟩:=(show ∃t,u=Value.str y t from rx);cases q;exact zr1 PySem.W.kitx_str I.kIn True.intro e (fun z=>nomatch z) h
 |flt y=>obtain⟨t,q⟩:=(show ∃t,u=Value.float y t from rx);cases q;exact zr1 PySem.W.kitx_float I.kIn True.intro e (fun z=>nomatch z) h
 |@lst a xs ea=>
  cases (show u=Value.ref a from rx)
  obtain⟨_,_,n,_,h1⟩:=(show zV X.prog X.w H s.heap a (.lst xs) from I.hok a _ ea)
  exact zr1 PySem.W.kitx_list I.kIn ⟨_,h1,rfl⟩ e (fun z=>nomatch z) h
 |@frz a ob xs ea=>
  cases (show u=Value.ref a from rx)
  obtain⟨_,_,_,n,_,h1⟩:=(show zV X.prog X.w H s.heap a (.frz ob (.lst xs)) from I.hok a _ ea)
  exact zr1 PySem.W.kitx_list I.kIn ⟨_,h1,rfl⟩ e (fun z=>nomatch z) h
 |@tup a xs ea=>
  cases (show u=Value.ref a from rx)
  obtain⟨_,_,_,p⟩:=(show zV X.prog X.w H s.heap a (.tup xs) from I.hok a _ ea)
  obtain⟨o,h1,h2,_⟩:=p
  exact zr1 PySem.W.kitx_tuple I.kIn ⟨o,h1,h2⟩ e (fun z=>nomatch z) h
 |@dK a kvs ea=>
  cases (show u=Value.ref a from rx)
  obtain⟨_,_,vs,_,p⟩:=(show zV X.prog X.w H s.heap a (.dK kvs) from I.hok a _ ea)
  obtain⟨o,es,ep,h1,h2,_⟩:=p
  exact zr1 PySem.W.kitx_dict I.kIn ⟨o,h1,h2.1⟩ e (fun z=>nomatch z) h
 |@dT a kvs ea=>
  cases (show u=Value.ref a from rx)
  obtain⟨_,_,xs,_,o,es,ep,h1,h2,_⟩:=(show zV X.prog X.w H s.heap a (.dT kvs) from I.hok a _ ea)
  exact zr1 PySem.W.kitx_dict I.kIn ⟨o,h1,h2.1⟩ e (fun z=>nomatch z) h
 |@ins a C dx fs ea cl ha hn htk hm=>
  cases (show u=Value.ref a from rx)
  obtain⟨mA,O,_⟩:=uD I.hok ea
  obtain⟨od,J,_⟩:=O.look
  exact zr1 (PySem.W.kitx_own (cl.get _) cl.hd ha hn htk hm) I.kIn J e (fun z=>nomatch z) h
end
structure zE (k:Nat)(A:Around):Prop where
 hd:A.handled=none
 dp:A.depth+3*k+5<recursionLimit
 un:A.units+16*k+200<cLine
 gd:A.guards=some []
theorem zE.mono {j k:Nat}{A:Around}(r:zE k A)(h:j≤k):zE j A:=⟨r.hd,by have:=r.dp;omega,by have:=r.un;omega,r.gd⟩
theorem zE.deeper {k:Nat}{A:Around}(r:zE (k+1) A)(env:Env):zE k (A.deeper env):=
 ⟨r.hd,by have:=r.dp;show A.depth+1+3*k+5<_;omega,by have:=r.un;show A.units+3+16*k+200<_;omega,r.gd⟩
theorem zE.in1 {k:Nat}{A:Around}(r:zE (k+1) A):zE k A.in1:=
 ⟨r.hd,by have:=r.dp;show A.depth+3*k+5<_;omega,by have:=r.un;show A.units+1+16*k+200<_;omega,r.gd⟩
theorem nE {A:Around}{C:Addr}{us:List Value}{kw:List (Str×Value)}:(A.under (.builtin "type.__call__" ⟨.ref C::us,kw⟩)).depth=A.depth+1:=by
 first|rfl|simp[Around.under,Code.weight,Code.isCreation,Code.isGuard,Code.isCaller,Code.frames,Code.isFrame,guardIds]
theorem oy {A:Around}{C:Addr}{us:List Value}{kw:List (Str×Value)}:(A.under (.builtin "type.__call__" ⟨.ref C::us,kw⟩)).units=A.units+1:=by
 first|rfl|simp[Around.under,Code.cUnits,Code.frames,Code.isFrame]
theorem pT {A:Around}{C:Addr}{us:List Value}{kw:List (Str×Value)}:(A.under (.builtin "type.__call__" ⟨.ref C::us,kw⟩)).guards=A.guards:=by
 first|rfl|simp[Around.under,Code.guards,Code.isGuard,guardIds,pushGuards]
theorem zE.make {k:Nat}{A:Around}(r:zE (k+1) A)(C:Addr)(us:List Value)(kw:List (Str×Value)):zE k (A.under (.builtin "type.__call__" ⟨.ref C::us,kw⟩)):=
 ⟨r.hd,by have:=r.dp;rw[nE];omega,by have:=r.un;rw[oy];omega,(pT (A:=A)).trans r.gd⟩
theorem zE.depth {k:Nat}{A:Around}(r:zE k A):A.depth<recursionLimit:=by have:=r.dp;omega
theorem zE.units {k:Nat}{A:Around}(r:zE k A):A.units+64<cLine:=by have:=r.un;omega
def zh8 :TA:=fun _ H Q=>Q [] H
def zf1 (ta:TE)(tr:TA):TA:=fun σ H Q=>ta σ H fun x H1=>tr σ H1 fun xs H2=>Q (x::xs) H2
section
variable {X:Cx}{e:Expr}{es:List Expr}{te:TE}{t:TA}{pos:Pos}
theorem zp :PA X [] zh8:=fun _ _ _ _ H Q I h=>Calls.spliced_nil ⟨[],H,I,.nil,h⟩
theorem zc (ha:PE X e te)(hr:PA X es t)(hs:starEach (e::es) X.env=(false,eval e X.env)::starEach es X.env:=by rfl):PA X (e::es) (zf1 te t):=by
 intro pos pins s σ H Q I h
 rw[hs]
 show wpAny _ _ (spliced ((false,eval e X.env)::backTo pos (starEach es X.env))) _ _ s
 refine Calls.spliced_cons (thn (ha pins s σ H _ I h) fun u s1 ⟨x,H1,I1,r1,q1⟩=>?_)
 exact thn (hr pos pins s1 σ H1 _ I1 q1) fun us s2 ⟨xs,H2,I2,r2,q2⟩=>⟨x::xs,H2,I2,.cons r1 r2,q2⟩
def zk3 (t:TA):TE:=fun σ H Q=>t σ H fun xs H1=>xs.length≤sizeLine∧∀p,H1 p=none→Q (.ref p) (upd H1 p (.tup xs))
def zl0 (t:TA):TE:=fun σ H Q=>t σ H fun xs H1=>xs.length≤sizeLine∧∀p,H1 p=none→Q (.ref p) (upd H1 p (.lst xs))
theorem rP {x1}(h:PA X es t):PE X (.Tuple es x1 pos) (zk3 t):=by
 intro pins s σ H Q I hq
 refine wpAny_Tuple_spliced (thn (h pos pins s σ H _ I hq) fun us s1 ⟨xs,H1,I1,r,z,q⟩=>⟨by rw[←r.length];exact z,?_⟩)
 have hf:H1 s1.heap.objs.size=none:=I1.hok.fresh (zn0 _)
 refine⟨.ref s1.heap.objs.size,upd H1 s1.heap.objs.size (.tup xs),I1.laid (t':=s1.toks) (fun b u e=>zm5 _ e) (zn0 _) ?_,rfl,q _ hf⟩
 exact⟨z,us,r,⟨_,zn8 _ rfl,rfl,_,rfl⟩⟩
theorem eA (h:PA X es t):PE X (.List es pos) (zl0 t):=by
 intro pins s σ H Q I hq
 refine wpAny_List_spliced (thn (h pos pins s σ H _ I hq) fun us s1 ⟨xs,H1,I1,r,z,q⟩=>⟨by rw[←r.length];exact z,?_⟩)
 have hf:H1 s1.heap.objs.size=none:=I1.hok.fresh (zn0 _)
 refine⟨.ref s1.heap.objs.size,upd H1 s1.heap.objs.size (.lst xs),I1.laid (t':=s1.toks) (fun b u e=>zm5 _ e) (zn0 _) ?_,rfl,q _ hf⟩
 exact⟨z,us,0,r,zn8 _ rfl⟩
end
abbrev Sp :=List V→Hp→VK→XK→Prop
abbrev CXT :=List Env→Hp→Shared→XK→Value→Shared→Prop
structure vW (P:Program)(w:World)(K:PySem.W.Frag)(mg:Str→Option Value)(base:Heap)(A:Around)(outer:List Env)(s:Shared)(H:Hp):Prop where
 frames:A.frames=some outer
 mod:Mod K mg base
 bs:∀b o,base.get? b=some o→s.heap.get? b=some o∧H b=none
 bsz:base.objs.size≤s.heap.objs.size
 funs:s.heap.FunFrames base outer
 frf:∀b∈frs outer,H b=none
 hok:HOk P w H s.heap
 bare:AllBare s.gens
def CE (outer:List Env)(P:Program)(w:World)(H:Hp)(s:Shared)(Q:VK)(u:Value)(s':Shared):Prop:=
 ∃v H',s'.os=s.os∧AllBare s'.gens∧Un (frs outer) [] H H' s.heap s'.heap∧HOk P w H' s'.heap∧RelV v u∧Q v H'
def CR (CX:CXT)(outer:List Env)(P:Program)(w:World)(H:Hp)(s:Shared)(Q:VK)(E:XK)(r:Result)(s':Shared):Prop:=
 match r with
 |.ok (.ret u)=>CE outer P w H s Q u s'
 |.ok _=>False
 |.error e=>CX outer H s E e s'
structure zy (P:Program)(w:World)(K:PySem.W.Frag)(mg:Str→Option Value)(base:Heap)(CX:CXT)(k:Nat)(f:Addr)(fd:FuncData)(ps:List Str)(sp:Sp):Prop where
 len:∀vs H Q E,sp vs H Q E→vs.length=ps.length
 run:∀(A:Around) (outer:List Env) (s:Shared) (H:Hp) (args:Args) (us:List Value) (vs:List V) (Q:VK) (E:XK),zE k A→vW P w K mg base A outer s H→BindsTo s fd args (ps.zip us)→Vals vs us→sp vs H Q E→
  codeAny (model P w) A (.call (.ref f) args) (CR CX outer P w H s Q E) s
theorem zy.imp {P:Program}{w:World}{K:PySem.W.Frag}{mg:Str→Option Value}{base:Heap}{CX:CXT}{k:Nat}{f:Addr}{fd:FuncData}{ps:List Str}{sp sp':Sp}(F:zy P w K mg base CX k f fd ps sp)
  (h:∀vs H Q E,sp' vs H Q E→sp vs H Q E):zy P w K mg base CX k f fd ps sp':=
 ⟨fun vs H Q E q=>F.len vs H Q E (h _ _ _ _ q),fun A outer s H args us vs Q E hr he hb hv hs=>F.run A outer s H args us vs Q E hr he hb hv (h _ _ _ _ hs)⟩
theorem vW.make {P:Program}{w:World}{K:PySem.W.Frag}{mg:Str→Option Value}{base:Heap}{A:Around}{outer:List Env}{s:Shared}{H:Hp}(e:vW P w K mg base A outer s H)(C:Addr)(us:List Value)(kw:List (Str×Value)):
  vW P w K mg base (A.under (.builtin "type.__call__" ⟨.ref C::us,kw⟩)) outer s H:=⟨by first|exact e.frames|(simpa[Around.under,Code.envs,Code.isFrame,pushEnvs] using e.frames),e.mod,e.bs,e.bsz,e.funs,e.frf,e.hok,e.bare⟩
theorem vW.in1 {P:Program}{w:World}{K:PySem.W.Frag}{mg:Str→Option Value}{base:Heap}{A:Around}{outer:List Env}{s:Shared}{H:Hp}(e:vW P w K mg base A outer s H):
  vW P w K mg base A.in1 outer s H:=⟨e.frames,e.mod,e.bs,e.bsz,e.funs,e.frf,e.hok,e.bare⟩
section
variable {X:Cx}{pins:List (Addr×Obj)}{σ:St}{H:Hp}{s s':Shared}
theorem Inv.env0 (I:Inv X pins σ H s):vW X.prog X.w X.K X.mg X.base X.A X.stack s H:=
 ⟨I.ok.frames,I.ok.mod,I.bs,zr2 I.ok.bsz I.sz,I.stack,I.stkFree,I.hok,I.bare⟩
theorem Inv.after {Q:VK}{u:Value}(I:Inv X pins σ H s)(h:CE X.stack X.prog X.w H s Q u s'):EP X pins σ Q u s':=by
 obtain⟨v,H',os,bare,un,hok,r,q⟩:=h
 obtain⟨hh,g,d,t,os'⟩:=s'
 obtain rfl:os'=s.os:=os
 exact⟨v,H',I.call (h':=hh) (g':=g) (d':=d) (t':=t) (ch:=[]) un hok bare (fun b z=>absurd z (by simp)),r,q⟩
end
def zi7 (sp:Sp)(dvs:List V)(E:XK)(t:TA):TE:=fun σ H Q=>t σ H fun vs H1=>sp (vs++dvs) H1 Q E
def bx (C:Addr)(m:Str)(sp:Sp)(dvs:List V)(E:XK)(ta:TE)(t:TA):TE:=fun σ H Q=>ta σ H fun x H1=>∃a dx fs,x=.ref a∧H1 a=some (.ins C dx fs)∧fs.lookup m=none∧
 t σ H1 fun vs H2=>sp (x::(vs++dvs)) H2 Q E
def zf9 (C:Addr)(sp:Sp)(dvs:List V)(E:XK)(t:TA):TE:=fun σ H Q=>t σ H fun vs H1=>∀x dx,H1 x=none→H1 dx=none→dx≠x→
 sp (.ref x::(vs++dvs)) (upd (upd H1 dx (.own x)) x (.ins C dx [])) (fun v H2=>v=.non∧Q (.ref x) H2) E
def Binds (K:PySem.W.Frag)(fd:FuncData)(ps:List Str)(ds:List Value):Prop:=
 ∀(s:Shared) (us:List Value),K.In s.heap→(us++ds).length=ps.length→BindsTo s fd ⟨us,[]⟩ (ps.zip (us++ds))
theorem Binds.all {K:PySem.W.Frag}{fd:FuncData}{ps:List Str}(h:∀us:List Value,us.length=ps.length→bindArgs fd ⟨us,[]⟩=pure (ps.zip us)):Binds K fd ps []:=fun s us _ hl=>by
 rw[zt5] at hl ⊢
 exact .of_eq (h us hl)
def Passes (CX:CXT)(X:Cx)(E:XK):Prop:=∀(pins:List (Addr×Obj)) (σ:St) (H:Hp) (s:Shared) (e:Value) (s':Shared),Inv X pins σ H s→CX X.stack H s E e s'→X.xe e s'
section
variable {X:Cx}{CX:CXT}{k:Nat}{f C:Addr}{fd:FuncData}{ps:List Str}{sp:Sp}{dvs:List V}{ds:List Value}{E:XK}{x m:Str}{p pos apos:Pos}{e o:Expr}{es:List Expr}{ta:TE}{t:TA}
theorem oK {pins:List (Addr×Obj)}{σ:St}{H:Hp}{s:Shared}{Q:VK}{us:List Value}{vs:List V}(F:zy X.prog X.w X.K X.mg X.base CX k f fd ps sp)(hr:zE k X.A)(hb:Binds X.K fd ps ds)(hd:Vals dvs ds)(hx:Passes CX X E)
  (I:Inv X pins σ H s) (r:Vals vs us) (h:sp (vs++dvs) H Q E):wpAny (model X.prog X.w) X.A (call (.ref f) us) (EP X pins σ Q) X.xe s:=by
 have r2:Vals (vs++dvs) (us++ds):=r.append hd
 have hl:(us++ds).length=ps.length:=by rw[←r2.length];exact F.len _ _ _ _ h
 refine zw0 (zw6 (F.run X.A X.stack s H ⟨us,[]⟩ (us++ds) (vs++dvs) Q E hr I.env0 (hb s us I.kIn hl) r2 h) fun r s' hq=>?_)
 cases r with
 |error e=>exact hx pins σ H s e s' I hq
 |ok fl=>
  cases fl with
  |ret u=>exact I.after hq
  |next=>exact False.elim hq
  |brk=>exact False.elim hq
  |cont=>exact False.elim hq
theorem zL (F:zy X.prog X.w X.K X.mg X.base CX k f fd ps sp)(hr:zE k X.A)(hg:Gl X x)(hm:X.mg x=some (.ref f))(hk:PySem.W.keepIn X.K (.ref f)=true)(hb:Binds X.K fd ps ds)(hd:Vals dvs ds)(hx:Passes CX X E)
  (ha:PA X (e::es) t) (hdb:(x == ("__debug__":Str))=false:=by decide) (he:starEach (e::es) X.env=(false,eval e X.env)::starEach es X.env:=by rfl) (hpl:(backTo pos (starEach es X.env)).any (·.1)=false:=by rfl):
  PE X (.Call (.Name x p) (e::es) [] pos) (zi7 sp dvs E t):=by
 intro pins s σ H Q I h
 refine zt0 (xl I hg hm ?_ hdb)
 refine zw1 (h₀:=X.base) I.ok.mod.kin hk (thn (ha pos pins s σ H _ I h) fun us s1 ⟨vs,H1,I1,r,q⟩=>⟨I1.kIn,?_⟩) he hpl
 exact oK F hr hb hd hx I1 r q
theorem cp {pl:Sem Bool}(he:PE X o ta)(c:Cls X.K C)(hm:Meth X.K C m f)(F:zy X.prog X.w X.K X.mg X.base CX k f fd ps sp)(hr:zE k X.A)(hb:Binds X.K fd ps ds)(hd:Vals dvs ds)(hx:Passes CX X E)(ha:PA X (e::es) t)
  (hst:starEach (e::es) X.env=(false,eval e X.env)::starEach es X.env:=by rfl) (hpl:(backTo pos (starEach es X.env)).any (·.1)=false:=by rfl)
  (ht:eval (.Call (.Attribute o m apos) (e::es) [] pos) X.env=(do
   let ov ←eval o X.env
   standAt apos.atName
   let (f,first) ←holding [ov] (getMethod ov m pl)
   callWith pos f first (backTo pos (starEach (e::es) X.env)) (backToKw pos (keywordEach [] X.env))):=by rfl):
  PE X (.Call (.Attribute o m apos) (e::es) [] pos) (bx C m sp dvs E ta t):=by
 intro pins s σ H Q I h
 refine zw5 (pl:=pl) (thn (he pins s σ H _ I h) fun u s1 ⟨x,H1,I1,rx,a,dx,fs,ex,ea,l,q⟩=>?_) ht
 subst ex
 obtain rfl:u=Value.ref a:=rx
 refine vm I1 ea c hm l ?_
 refine zw1 (first:=[.ref a]) (h₀:=X.base) I.ok.mod.kin hm.kp (thn (ha pos pins s1 σ H1 _ I1 q) fun us s2 ⟨vs,H2,I2,r,q2⟩=>⟨I2.kIn,?_⟩) hst hpl
 exact oK (us:=.ref a::us) (vs:=.ref a::vs) F hr hb hd hx I2 (.cons rfl r) q2
theorem pw {pl:Sem Bool}(he:PE X o ta)(c:Cls X.K C)(hm:Meth X.K C m f)(F:zy X.prog X.w X.K X.mg X.base CX k f fd ps sp)(hr:zE k X.A)(hb:Binds X.K fd ps ds)(hd:Vals dvs ds)(hx:Passes CX X E)
  (ht:eval (.Call (.Attribute o m apos) [] [] pos) X.env=(do
   let ov ←eval o X.env
   standAt apos.atName
   let (f,first) ←holding [ov] (getMethod ov m pl)
   callWith pos f first (backTo pos (starEach [] X.env)) (backToKw pos (keywordEach [] X.env))):=by rfl):
  PE X (.Call (.Attribute o m apos) [] [] pos) (bx C m sp dvs E ta zh8):=by
 intro pins s σ H Q I h
 refine zw5 (pl:=pl) (thn (he pins s σ H _ I h) fun u s1 ⟨x,H1,I1,rx,a,dx,fs,ex,ea,l,q⟩=>?_) ht
 subst ex
 obtain rfl:u=Value.ref a:=rx
 refine vm I1 ea c hm l ?_
 exact PySem.W.callWith_K0 (first:=[.ref a]) I1.kIn hm.kp (oK (us:=[.ref a]) (vs:=[.ref a]) F hr hb hd hx I1 (.cons rfl .nil) q)
structure Mk (K:PySem.W.Frag)(C f:Addr):Prop where
 makes:PySem.W.makesIn K C=true
 init:PySem.W.findIn K (.ref C) "__init__"=some (some (.ref f))
 fn:PySem.W.isFn K (.ref f)=true
 kp:PySem.W.keepIn K (.ref C)=true
theorem gq {pins:List (Addr×Obj)}{σ:St}{H:Hp}{s:Shared}{Q:VK}{us:List Value}{vs:List V}(M:Mk X.K C f)(F:zy X.prog X.w X.K X.mg X.base CX k f fd ps sp)(hr:zE (k+1) X.A)(hb:Binds X.K fd ps ds)(hd:Vals dvs ds)
  (hx:Passes CX X E) (I:Inv X pins σ H s) (r:Vals vs us)
  (h:∀x dx,H x=none→H dx=none→dx≠x→sp (.ref x::(vs++dvs)) (upd (upd H dx (.own x)) x (.ins C dx [])) (fun v H2=>v=.non∧Q (.ref x) H2) E):
  wpAny (model X.prog X.w) X.A (call (.ref C) us) (EP X pins σ Q) X.xe s:=by
 have hq:=h (s.heap.objs.size+1) s.heap.objs.size (I.hok.fresh (zv1 _)) (I.hok.fresh (zn0 _)) (zo2 (zw7 _))
 have I2:=Inv.made (C:=C) I
 have r2:Vals (V.ref (s.heap.objs.size+1)::(vs++dvs)) (Value.ref (s.heap.objs.size+1)::(us++ds)):=.cons rfl (r.append hd)
 have hl:(Value.ref (s.heap.objs.size+1)::us++ds).length=ps.length:=by
  have e:=r2.length
  rw[F.len _ _ _ _ hq] at e
  exact e.symm
 refine zw0 (ir (f:=f) I.kIn M.makes M.init (zt4.mp M.fn) (zw6 (F.run _ X.stack _ _ ⟨Value.ref (s.heap.objs.size+1)::us,[]⟩ (Value.ref (s.heap.objs.size+1)::(us++ds)) _ _ E (hr.make C us [])
  (I2.env0.make C us []) (hb _ (Value.ref (s.heap.objs.size+1)::us) I2.kIn hl) r2 hq) fun r s' hq'=>?_))
 cases r with
 |error e=>exact hx pins σ _ _ e s' I2 hq'
 |ok fl=>
  cases fl with
  |ret u=>
   obtain⟨v,H',I3,rv,ev,q3⟩:=I2.after hq'
   subst ev
   exact⟨rv,⟨V.ref (s.heap.objs.size+1),H',I3,rfl,q3⟩⟩
  |next=>exact False.elim hq'
  |brk=>exact False.elim hq'
  |cont=>exact False.elim hq'
theorem xr (M:Mk X.K C f)(F:zy X.prog X.w X.K X.mg X.base CX k f fd ps sp)(hr:zE (k+1) X.A)(hg:Gl X x)(hm:X.mg x=some (.ref C))(hb:Binds X.K fd ps ds)(hd:Vals dvs ds)(hx:Passes CX X E)
  (ha:PA X (e::es) t) (hdb:(x == ("__debug__":Str))=false:=by decide) (he:starEach (e::es) X.env=(false,eval e X.env)::starEach es X.env:=by rfl) (hpl:(backTo pos (starEach es X.env)).any (·.1)=false:=by rfl):
  PE X (.Call (.Name x p) (e::es) [] pos) (zf9 C sp dvs E t):=by
 intro pins s σ H Q I h
 refine zt0 (xl I hg hm ?_ hdb)
 refine zw1 (h₀:=X.base) I.ok.mod.kin M.kp (thn (ha pos pins s σ H _ I h) fun us s1 ⟨vs,H1,I1,r,q⟩=>⟨I1.kIn,?_⟩) he hpl
 exact gq M F hr hb hd hx I1 r q
end
section
variable {X:Cx}{CX:CXT}{k:Nat}{f C:Addr}{fd:FuncData}{ps ks:List Str}{sp:Sp}{E:XK}{x m:Str}{p pos apos kpos:Pos}{e o:Expr}{es:List Expr}{kws:List Keyword}{te ta:TE}{t tk:TA}{nm:Option Str}
variable {g:List Value→List Value→List Value}{gV:List V→List V→List V}
end
structure zo (N P:List Str)(sc:Scope):Prop where
 kind:sc.kind=.function
 co:sc.isCoroutine=false
 gen:sc.isGenerator=false
 nd:N.Nodup
 pre:N.take P.length=P
 par:∀x∈P,sc.names.lookup x=some .local∨sc.names.lookup x=some .cell
 nofree:∀y∈sc.names,y.2≠.free
theorem sT {kindOf:Str→Option NameKind}{x:Str}:∀{binds:List (Str×Value)} {m:Str→Option Value},(∀v,(x,v)∉binds)→bindL kindOf binds m x=m x
 |[],_,_=>rfl
 |(n,v)::r,m,h=>by
  unfold bindL
  rw[sT fun w hw=>h w (zn6 _ hw)]
  split
  ·have:x≠n:=by rintro rfl;exact h v zo5
   simp[this]
  ·rfl
theorem sW {kindOf:Str→Option NameKind}{x:Str}:∀{binds:List (Str×Value)} {m:Str→Option Value},(∀v,(x,v)∉binds)→bindC kindOf binds m x=m x
 |[],_,_=>rfl
 |(n,v)::r,m,h=>by
  unfold bindC
  rw[sW fun w hw=>h w (zn6 _ hw)]
  split
  ·rfl
  ·have:x≠n:=by rintro rfl;exact h v zo5
   simp[this]
theorem rC {kindOf:Str→Option NameKind}{x:Str}{v:Value}:∀{P:List Str} {vs:List Value} {i:Nat} {m:Str→Option Value},P.Nodup→P[i]?=some x→vs[i]?=some v→kindOf x=some .local→
  bindL kindOf (P.zip vs) m x=some v
 |[],_,_,_,_,h,_,_=>by simp at h
 |_::_,[],_,_,_,_,h,_=>by simp at h
 |p::P,w::vs,0,m,nd,h1,h2,hk=>by
  simp at h1 h2;subst h1;subst h2
  show bindL kindOf ((p,w)::P.zip vs) m p=_
  unfold bindL
  rw[sT fun v hv=>(zz7.mp nd).1 (List.of_mem_zip hv).1,if_pos hk]
  simp
 |p::P,w::vs,i+1,m,nd,h1,h2,hk=>by
  show bindL kindOf ((p,w)::P.zip vs) m x=_
  unfold bindL
  exact rC (i:=i) (zz7.mp nd).2 (by simpa using h1) (by simpa using h2) hk
theorem rh {kindOf:Str→Option NameKind}{x:Str}{v:Value}:∀{P:List Str} {vs:List Value} {i:Nat} {m:Str→Option Value},P.Nodup→P[i]?=some x→vs[i]?=some v→kindOf x≠some .local→
  bindC kindOf (P.zip vs) m x=some v
 |[],_,_,_,_,h,_,_=>by simp at h
 |_::_,[],_,_,_,_,h,_=>by simp at h
 |p::P,w::vs,0,m,nd,h1,h2,hk=>by
  simp at h1 h2;subst h1;subst h2
  show bindC kindOf ((p,w)::P.zip vs) m p=_
  unfold bindC
  rw[sW fun v hv=>(zz7.mp nd).1 (List.of_mem_zip hv).1,if_neg hk]
  simp
 |p::P,w::vs,i+1,m,nd,h1,h2,hk=>by
  show bindC kindOf ((p,w)::P.zip vs) m x=_
  unfold bindC
  exact rh (i:=i) (zz7.mp nd).2 (by simpa using h1) (by simpa using h2) hk
def start (N:List Str)(vs:List V):St:=vs.map some++List.replicate (N.length-vs.length) none
def yV (CX:CXT)(P:Program)(w:World)(K:PySem.W.Frag)(mg:Str→Option Value)(base:Heap)(N:List Str)(qual:Str)(scope:Scope)(f:Addr)(cd:Value)(A:Around)(outer:List Env)(s:Shared)(H:Hp)(E:XK):Cx where
 prog:=P
 w:=w
 K:=K
 mg:=mg
 base:=base
 A:=A.deeper (envOfC qual scope s.heap.objs.size f cd)
 N:=N
 s₀:=s
 H₀:=H
 env:=envOfC qual scope s.heap.objs.size f cd
 outer:=outer
 stack:=envOfC qual scope s.heap.objs.size f cd::outer
 ex:=[]
 calm:=true
 fn:=fun _=>true
 pn:=[]
 xe:=fun e s'=>wpAny (model P w) (A.deeper (envOfC qual scope s.heap.objs.size f cd)) (leaving (envOfC qual scope s.heap.objs.size f cd) e) (fun _ s''=>CX outer H s E e s'') (fun e' s''=>CX outer H s E e' s'') s'
theorem pN {sc:Scope}{n:Nat}{x:Str}(h:sc.names.lookup x=some .cell):∃c,(cellsFrom n sc.names []).lookup x=some c:=by
 have q:=PySem.W.cellsFrom_some sc.names n [] (.inl h)
 exact Option.isSome_iff_exists.mp q
theorem kb {CX:CXT}{P:Program}{w:World}{K:PySem.W.Frag}{mg:Str→Option Value}{base:Heap}{N ps:List Str}{qual:Str}{scope:Scope}{f:Addr}{cd:Value}{A:Around}{outer:List Env}{s s1:Shared}{H:Hp}{E:XK}{us:List Value}{vs:List V}
  (S:zo N ps scope) (hd:A.handled=none) (e0:vW P w K mg base A outer s H) (hl:vs.length=ps.length) (r:Vals vs us)
  (x:InCallC s s.heap.objs.size (bindL (envOfC qual scope s.heap.objs.size f cd).kindOf (ps.zip us) fun _=>none) (cellsFrom (s.heap.objs.size+1) scope.names []) (bindC (envOfC qual scope s.heap.objs.size f cd).kindOf (ps.zip us) fun _=>none) s1):
  Inv (yV CX P w K mg base N qual scope f cd A outer s H E) [] (start N vs) H s1:=by
 have hpl:ps.length≤N.length:=by have:=congrArg List.length S.pre;rw[zs8] at this;omega
 obtain⟨h1,tk,rfl,hk⟩:=x.done
 have noA:∀b:Addr,b∉(yV CX P w K mg base N qual scope f cd A outer s H E).ex:=fun b z=>absurd (show b∈([]:List Addr) from z) (by simp)
 refine⟨⟨e0.mod,S.kind,rfl,rfl,zn0 _,fun y z c h1 h2=>?_,fun y hy=>?_,fun y c _ h=>?_,fun _=>hd,Around.frames_deeper e0.frames,.inr ⟨rfl,rfl⟩,fun b z=>absurd z (noA b),e0.bs,e0.bsz,fun b _ _=>noA b,fun b z=>absurd z (noA b),e0.funs,e0.frf⟩,
  rfl,e0.bare,Un.kept hk,⟨_,x.toInCall.ns,fun i y v h1 h2 h3=>?_⟩,fun y c h=>⟨_,x.cell y c h⟩,e0.hok.fresh (zn0 _),fun y c h=>?_,fun p hp=>absurd (show p∈([]:List (Addr×Obj)) from hp) (by simp),e0.hok.kept hk,?_⟩
 ·exact name_of_addr x.apart (zq7 h1) (zq7 h2)
 ·have hy:scope.names.lookup y=some .cell∨scope.names.lookup y=some .free:=hy
  rcases hy with hy|hy
  ·exact pN hy
  ·exact absurd rfl (S.nofree _ (zq7 hy))
 ·exact zt3 (x.above y c (zq7 h))
 ·have hi:i<vs.length:=by
   unfold start at h2
   by_cases hi:i<vs.length
   ·exact hi
   ·rw[zr0 (by simpa using hi)] at h2
    rw[zs3] at h2
    split at h2<;>cases h2
  have ha:vs[i]?=some v:=by
   unfold start at h2
   rw[zq5 (by simpa using hi),zo0] at h2
   cases e:vs[i]? with
   |none=>rw[e] at h2;cases h2
   |some a=>rw[e] at h2;cases h2;rfl
  obtain⟨u,hu,rv⟩:=r.get ha
  have hp:ps[i]?=some y:=by
   rw[←S.pre,List.getElem?_take_of_lt (by omega)];exact h1
  have ndP:ps.Nodup:=by rw[←S.pre];exact S.nd.sublist (List.take_sublist _ _)
  refine⟨u,rv,?_⟩
  rcases S.par y (zs2 hp) with k|k
  ·exact .inl ⟨k,rC ndP hp hu k⟩
  ·obtain⟨c,e⟩:=pN (n:=s.heap.objs.size+1) k
   refine .inr ⟨.inl k,c,e,?_⟩
   have q:=x.cell y c e
   rw[rh ndP hp hu (by show scope.names.lookup y≠_;rw[k];decide)] at q
   exact q
 ·exact e0.hok.fresh (zt3 (x.above y c (zq7 h)))
 ·unfold start
  show _=N.length
  rw[zq1,zm6,zz1]
  omega
theorem lG {CX:CXT}{P:Program}{w:World}{K:PySem.W.Frag}{mg:Str→Option Value}{base:Heap}{k:Nat}{f:Addr}{name qual:Str}{params:Arguments}{body:List Stmt}{scope:Scope}{dV kV doc pm cdv ct oc:Value}{an od:Option Addr}
  {osl:Array (Option Value)} {N ps:List Str} {sp:Sp} (lk:K.lookup f=some ⟨oc,od,.func (PySem.W.fnOf name qual params body scope dV kV doc pm an cdv ct),osl⟩) (hcd:PySem.W.codeIn K cdv qual=true) (S:zo N ps scope)
  (len:∀vs H Q E,sp vs H Q E→vs.length=ps.length)
  (hbody:∀(A:Around) (outer:List Env) (s:Shared) (H:Hp) (vs:List V) (Q:VK) (E:XK),zE k (A.deeper (envOfC qual scope s.heap.objs.size f cdv))→sp vs H Q E→
   ∃t,PSs (yV CX P w K mg base N qual scope f cdv A outer s H E) body t∧t {nx:=fun _ H'=>Q .non H',rt:=Q} (start N vs) H):
  zy P w K mg base CX (k+1) f (PySem.W.fnOf name qual params body scope dV kV doc pm an cdv ct) ps sp:=by
 refine⟨len,fun A outer s H args us vs Q E hr e0 hb r hsp=>?_⟩
 have hl:=len _ _ _ _ hsp
 have KX:K.In s.heap:=e0.mod.kin.keeps fun b o e=>(e0.bs b o e).1
 have lim:s.heap.NoLimit:=e0.mod.nolimit.keeps fun b o e=>(e0.bs b o e).1
 have hkind:∀y∈ps.zip us,scope.names.lookup y.1=some .local∨(scope.names.lookup y.1=some .cell∧((cellsFrom (s.heap.objs.size+1) scope.names []).lookup y.1).isSome=true):=fun⟨n,v⟩ hy=>by
  rcases S.par n (List.of_mem_zip hy).1 with q|q
  ·exact .inl q
  ·exact .inr ⟨q,PySem.W.cellsFrom_some _ _ _ (.inl q)⟩
 refine codeAny_call_function hr.depth (KX _ _ lk) rfl S.co S.gen rfl (PySem.W.codeRec_of KX hcd) (hb _ _ _ _ ?_)
 refine wpAny_newFunctionEnv_cells S.kind hkind fun env he s1 x=>?_
 subst he
 refine⟨lim.keeps x.toInCall.keep,codeAny_func ?_⟩
 obtain⟨t,ht,hq⟩:=hbody A outer s H vs Q E (hr.deeper _) hsp
 have I:Inv (yV CX P w K mg base N qual scope f cdv A outer s H E) [] (start N vs) H s1:=kb S hr.hd e0 hl r x
 refine zp3 (ht [] s1 (start N vs) H _ I hq) (fun fl s' hs=>?_) fun e s' hs=>hs
 have fin:∀{σ':St} {H':Hp} {v:V} {u:Value},Inv (yV CX P w K mg base N qual scope f cdv A outer s H E) [] σ' H' s'→RelV v u→Q v H'→CE outer P w H s Q u s':=
  fun {σ' H' v u} J rv q=>⟨v,H',J.os,J.bare,J.base,J.hok,rv,q⟩
 cases fl with
 |ret u=>
  obtain⟨v,σ',H',J,rv,q⟩:=hs
  exact fin J rv q
 |next=>
  obtain⟨σ',H',J,q⟩:=hs
  exact fin (v:=V.non) (u:=Value.none) J rfl q
 |brk=>
  obtain⟨_,_,_,q⟩:=hs
  exact False.elim q
 |cont=>
  obtain⟨_,_,_,q⟩:=hs
  exact False.elim q
section
variable {X:Cx}{x:Str}{p pos:Pos}{e:Expr}{es:List Expr}{t:TA}{id T:String}{r:List V→Hp→VK→Prop}
def tCB (r:List V→Hp→VK→Prop)(t:TA):TE:=fun σ H Q=>t σ H fun vs H1=>r vs H1 Q
theorem zQ (hc:yX X (.builtin id) r)(hg:Gl X x)(hm:X.mg x=none)(hv:bootBuiltins x=some (.builtin id))(ha:PA X (e::es) t)(hn:x≠"__name__":=by decide)(hdb:(x == ("__debug__":Str))=false:=by decide)
  (he:starEach (e::es) X.env=(false,eval e X.env)::starEach es X.env:=by rfl) (hpl:(backTo pos (starEach es X.env)).any (·.1)=false:=by rfl):PE X (.Call (.Name x p) (e::es) [] pos) (tCB r t):=by
 intro pins s σ H Q I h
 refine zt0 (xF I hg hm hv ?_ hn hdb)
 exact PyProof.Rows.callWith_builtin1 (thn (ha pos pins s σ H _ I h) fun us s1 ⟨vs,H1,I1,r1,q1⟩=>hc pins s1 σ H1 vs us Q I1 r1 q1) he hpl
theorem wN (hc:yX X (.type T) r)(hg:Gl X x)(hm:X.mg x=none)(hv:bootBuiltins x=some (.type T))(ha:PA X (e::es) t)(hn:x≠"__name__":=by decide)(hdb:(x == ("__debug__":Str))=false:=by decide)
  (he:starEach (e::es) X.env=(false,eval e X.env)::starEach es X.env:=by rfl) (hpl:(backTo pos (starEach es X.env)).any (·.1)=false:=by rfl):PE X (.Call (.Name x p) (e::es) [] pos) (tCB r t):=by
 intro pins s σ H Q I h
 refine zt0 (xF I hg hm hv ?_ hn hdb)
 exact zq8 (thn (ha pos pins s σ H _ I h) fun us s1 ⟨vs,H1,I1,r1,q1⟩=>hc pins s1 σ H1 vs us Q I1 r1 q1) he hpl
end
end L2
namespace HT
open PySem PyProof.Rows
section
open PySem.SeqAt
open PySem.AutoSeq1 (wpAny_loadPart')
open PySem.MeetsSeq PySem.MeetsSeq2 PySem.MeetsSeq3
end
section
variable {prog:Program}{w:World}{A:Around}{E:Value→Shared→Prop}{s:Shared}
def sIx (n d:Nat):Option Int→Nat
 |none=>d
 |some v=>if v<0 then (v+(n:Int)).toNat else min v.toNat n
theorem fg (n d:Nat):sIx n d none=d:=rfl
theorem eU (n d k:Nat):sIx n d (some (k:Int))=min k n:=by
 show (if (k:Int)<0 then ((k:Int)+(n:Int)).toNat else min (k:Int).toNat n)=min k n
 rw[if_neg (by omega),zy5]
end
end HT
namespace L2
open PySem PySem.Spec PyProof.Rows
abbrev TO :=St→Hp→(Option Int→Hp→Prop)→Prop
def PO (X:Cx)(e:Option Expr)(t:TO):Prop:=
 ∀(pins:List (Addr×Obj)) (s:Shared) (σ:St) (H:Hp) (Q:Option Int→Hp→Prop),Inv X pins σ H s→t σ H Q→
  wpAny (model X.prog X.w) X.A (evalPart e X.env) (fun u s'=>∃o H',Inv X pins σ H' s'∧IsPart u o∧Q o H') X.xe s
def dH :TO:=fun _ H Q=>Q none H
def zi4 (t:TE):TO:=fun σ H Q=>t σ H fun x H1=>∃i,x=.int i∧Q (some i) H1
section
variable {X:Cx}{e:Expr}{te:TE}{lo hi:Option Expr}{tl th:TO}{pos p2:Pos}
theorem qm :PO X none dH:=by
 intro pins s σ H Q I h
 rw[evalPart_none]
 exact zm7 ⟨none,H,I,.none,h⟩
theorem rJ (h:PE X e te):PO X (some e) (zi4 te):=by
 intro pins s σ H Q I hw
 rw[evalPart_some]
 refine thn (h pins s σ H _ I hw) fun u s1 ⟨x,H1,I1,r1,q1⟩=>?_
 obtain⟨i,rfl,q⟩:=q1
 obtain⟨t,rfl⟩:=r1
 exact⟨some i,H1,I1,.int i t,q⟩
def SlR (X:Cx)(r:V→Option Int→Option Int→Hp→VK→Prop):Prop:=
 ∀(pins:List (Addr×Obj)) (s:Shared) (σ:St) (H:Hp) (x:V) (v vl vu:Value) (lo hi:Option Int) (sl:Addr) (Q:VK),Inv X pins σ H s→RelV x v→s.heap.IsSliceOf sl vl vu .none→IsPart vl lo→IsPart vu hi→r x lo hi H Q→
  ∃T id,typeLookup (.type T) "__getitem__"=pure (some (.builtin id))∧s.TypeIs v T∧wpAny (model X.prog X.w) X.A (getItem v (.ref sl)) (EP X pins σ Q) X.xe s
def tSl (r:V→Option Int→Option Int→Hp→VK→Prop)(te:TE)(tl th:TO):TE:=fun σ H Q=>te σ H fun x H1=>tl σ H1 fun l H2=>th σ H2 fun u H3=>r x l u H3 Q
theorem si {r:V→Option Int→Option Int→Hp→VK→Prop}(hr:SlR X r)(he:PE X e te)(hl:PO X lo tl)(hu:PO X hi th):PE X (.Subscript e (.Slice lo hi none p2) pos) (tSl r te tl th):=by
 intro pins s σ H Q I h
 refine Subscript_ (thn (he pins s σ H _ I h) fun v s1 ⟨x,H1,I1,r1,q1⟩=>?_)
 refine wpAny_Slice (thn (hl pins s1 σ H1 _ I1 q1) fun vl s2 ⟨l,H2,I2,pl,q2⟩=>thn (hu pins s2 σ H2 _ I2 q2) fun vu s3 ⟨u,H3,I3,pu,q3⟩=>?_)
 rw[evalPart_none]
 refine zm7 ?_
 have I4:Inv X pins σ H3 {s3 with heap:=s3.heap.push {cls:=.type "slice",data:=.fields #[vl,vu,.none]}}:=I3.kept (t':=s3.toks) fun b ob q=>zm5 _ q
 obtain⟨T,id,hT,ht,hg⟩:=hr pins {s3 with heap:=s3.heap.push {cls:=.type "slice",data:=.fields #[vl,vu,.none]}} σ H3 x v vl vu l u s3.heap.objs.size Q I4 r1 (Heap.IsSliceOf.new ..) pl pu q3
 show wpAny (model X.prog X.w) X.A (subscriptTail e (.Slice lo hi none p2) v (.ref s3.heap.objs.size)) (EP X pins σ Q) X.xe {s3 with heap:=s3.heap.push {cls:=.type "slice",data:=.fields #[vl,vu,.none]}}
 exact tail_any (ops:=[.ref s3.heap.objs.size,v]) ht hT hg (by with_unfolding_all rfl)
def qP (xs:List V)(lo hi:Option Int):List V:=(xs.drop (HT.sIx xs.length 0 lo)).take (HT.sIx xs.length xs.length hi-HT.sIx xs.length 0 lo)
theorem pq (xs:List V)(lo hi:Option Int):(qP xs lo hi).length≤xs.length:=by
 unfold qP
 rw[zs8,List.length_drop]
 omega
end
def ixN (n:Nat)(i:Int):Option Nat:=if 0≤i then (if i<n then some i.toNat else none) else if -(n:Int)≤i then some (i+n).toNat else none
def atI {α:Type}(xs:List α)(i:Int):Option α:=(ixN xs.length i).bind fun j=>xs[j]?
theorem qB {n:Nat}{i:Int}{j:Nat}(h:ixN n i=some j):seqIndex? i n=some j∧j<n∧-(n:Int)≤i∧i<n:=by
 unfold ixN at h
 by_cases h0:0≤i
 ·rw[if_pos h0] at h
  by_cases h1:i<n
  ·rw[if_pos h1] at h
   have e:i.toNat=j:=zo9 h
   exact⟨by rw[seqIndex_of h0 h1,e],by omega,by omega,h1⟩
  ·rw[if_neg h1] at h;cases h
 ·rw[if_neg h0] at h
  by_cases h1:-(n:Int)≤i
  ·rw[if_pos h1] at h
   have e:(i+n).toNat=j:=zo9 h
   exact⟨by rw[seqIndex_neg (by omega) h1,e],by omega,h1,by omega⟩
  ·rw[if_neg h1] at h;cases h
theorem qC {α:Type}{xs:List α}{i:Int}{v:α}(h:atI xs i=some v):∃j,seqIndex? i xs.length=some j∧xs[j]?=some v∧j<xs.length∧-(xs.length:Int)≤i∧i<xs.length:=by
 unfold atI at h
 cases e:ixN xs.length i with
 |none=>rw[e] at h;cases h
 |some j=>
  rw[e] at h
  obtain⟨h1,h2,h3,h4⟩:=qB e
  exact⟨j,h1,h,h2,h3,h4⟩
theorem xV {α:Type}{xs:List α}{j:Nat}{v:α}(h:xs[j]?=some v):atI xs (j:Int)=some v:=by
 have hj:j<xs.length:=(zm8.mp h).1
 have e:ixN xs.length (j:Int)=some j:=by
  unfold ixN
  rw[if_pos (by omega),if_pos (by omega)];simp
 unfold atI;rw[e];exact h
def rH (b:Expr):Prop:=∀o i,subscripted b false o i=operate [o,i] (getItem o i)
def IxR (X:Cx)(r:R2):Prop:=
 ∀(value slice:Expr) (pins:List (Addr×Obj)) (s:Shared) (σ:St) (H:Hp) (x y:V) (v u:Value) (Q:VK),Inv X pins σ H s→RelV x v→RelV y u→r x y H Q→
  subscripted slice false v u=operate [v,u] (getItem v u)→wpAny (model X.prog X.w) X.A (subscriptTail value slice v u) (EP X pins σ Q) X.xe s
def MtR (X:Cx)(id:String)(r:V→List V→Hp→VK→Prop):Prop:=
 ∀(pins:List (Addr×Obj)) (s:Shared) (σ:St) (H:Hp) (x:V) (xs:List V) (v:Value) (us:List Value) (Q:VK),Inv X pins σ H s→RelV x v→Vals xs us→r x xs H Q→
  wpAny (model X.prog X.w) X.A (call (.builtin id) (v::us)) (EP X pins σ Q) X.xe s
section
variable {X:Cx}{a b:Expr}{ta tb:TE}{pos:Pos}
theorem IxR.or {r r':R2}(h:IxR X r)(h':IxR X r'):IxR X (fun x y H Q=>r x y H Q∨r' x y H Q):=by
 intro value slice pins s σ H x y v u Q I rx ry q hs
 rcases q with q|q
 ·exact h value slice pins s σ H x y v u Q I rx ry q hs
 ·exact h' value slice pins s σ H x y v u Q I rx ry q hs
theorem zJ {r:R2}(hr:IxR X r)(ha:PE X a ta)(hb:PE X b tb)(hs:rH b):PE X (.Subscript a b pos) (tOp r ta tb):=by
 intro pins s σ H Q I h
 exact Subscript_ (aO ha hb I h fun v u s2 x y H2 I2 rx ry q=>hr a b pins s2 σ H2 x y v u Q I2 rx ry q (hs _ _))
def zh0 (K:PySem.W.Frag):R2:=fun x y H Q=>∃p xs i v,x=.ref p∧y=.int i∧SqL K H p xs∧atI xs i=some v∧Q v H
def bN (K:PySem.W.Frag):R2:=fun x y H Q=>∃p xs i v,x=.ref p∧y=.int i∧SqT K H p xs∧atI xs i=some v∧Q v H
def zg8 :R2:=fun x y H Q=>∃z i c,x=.str z∧y=.int i∧z.length≤sizeLine∧atI z.cps.toList i=some c∧Q (.str ⟨#[c]⟩) H
theorem zN :IxR X (zh0 X.K):=by
 intro value slice pins s σ H x y v u Q I rx ry h hs
 obtain⟨p,xs,i,z,rfl,rfl,hq,he,q⟩:=h
 cases rx
 obtain⟨t,rfl⟩:=ry
 obtain⟨its,r,pl,hz⟩:=I.list hq
 obtain⟨j,h1,h2,h3,h4,h5⟩:=qC he
 obtain⟨w,ew,rw'⟩:=r.get h2
 have hl:=r.length
 have hn:=tX
 have fin:EP X pins σ Q w s:=⟨z,H,I,rw',q⟩
 by_cases h0:0≤i
 ·have hj:i.toNat=j:=by
   rw[seqIndex_of h0 h5] at h1
   exact zo9 h1
  exact item_listR pl.isList h0 (by omega) (by rw[hj];simpa using ew) fin hs
 ·have hj:(i+(its.toArray.size:Int)).toNat=j:=by
   rw[seqIndex_neg (by omega) h4] at h1
   rw[zn3,←hl]
   exact zo9 h1
  exact subscriptTail_builtinR (x:=w) pl.isList.typeIs slot_list_getitem.lookup
   (wpAny_getItem_list_neg (Q:=fun r s'=>r=w∧EP X pins σ Q r s') pl.isList (by omega) (by rw[zn3]<;>omega) (by omega) (by rw[hj];simpa using ew) ⟨rfl,fin⟩) hs
theorem yn :IxR X (bN X.K):=by
 intro value slice pins s σ H x y v u Q I rx ry h hs
 obtain⟨p,xs,i,z,rfl,rfl,hq,he,q⟩:=h
 cases rx
 obtain⟨t,rfl⟩:=ry
 obtain⟨its,r,pl,hz⟩:=I.tuple hq
 obtain⟨j,h1,h2,h3,h4,h5⟩:=qC he
 obtain⟨w,ew,rw'⟩:=r.get h2
 have hl:=r.length
 have hn:=tX
 have fin:EP X pins σ Q w s:=⟨z,H,I,rw',q⟩
 exact subscriptTail_builtinR (x:=w) pl.typeIs slot_tuple_getitem.lookup
  (getItem_tuple (j:=j) (Q:=fun r s'=>r=w∧EP X pins σ Q r s') pl (by omega) (by omega) (by rw[zn3,←hl];exact h1) (by simpa using ew) ⟨rfl,fin⟩) hs
theorem za7 :IxR X zg8:=by
 intro value slice pins s σ H x y v u Q I rx ry h hs
 obtain⟨z,i,c,rfl,rfl,hz,he,q⟩:=h
 obtain⟨t,rfl⟩:=rx
 obtain⟨t',rfl⟩:=ry
 obtain⟨j,h1,h2,h3,h4,h5⟩:=qC he
 have hl:z.cps.toList.length=z.length:=by simp[Str.length]
 rw[hl] at h1 h4 h5
 have hn:=tX
 exact tail_any (typeIs_str s z t) slot_str_getitem.lookup (getItem_str (c:=c) (by
  have e1:decide (i < -(2 ^ 63:Int))=false:=zp5 (by omega)
  have e2:decide (i≥2 ^ 63)=false:=zp5 (by omega)
  rw[e1,e2,zA5]) (by rw[h1];simpa using h2) ⟨.str ⟨#[c]⟩,H,I.tok _,⟨_,rfl⟩,q⟩) hs
def rIx (K:PySem.W.Frag):R2:=fun x y H Q=>zh0 K x y H Q∨bN K x y H Q∨zg8 x y H Q
theorem zc6 :IxR X (rIx X.K):=zN.or (yn.or za7)
theorem nv (its:List Value)(n j:Nat)(u:Value):Obj.mapSeq (·.setIfInBounds j u) {cls:=.type "list",data:=.seq its.toArray n}={cls:=.type "list",data:=.seq (its.set j u).toArray n}:=by
 simp[Obj.mapSeq]
theorem Inv.lst {pins:List (Addr×Obj)}{σ:St}{H:Hp}{s:Shared}{p:Addr}{xs:List V}(I:Inv X pins σ H s)(h:H p=some (.lst xs)):
  ∃(its:List Value) (n:Nat),Vals xs its∧s.heap.get? p=some {cls:=.type "list",data:=.seq its.toArray n}∧xs.length≤sizeLine:=by
 obtain⟨z,its,n,r,e⟩:=I.hok p _ h
 exact⟨its,n,r,e,z⟩
theorem Inv.lstUpd {pins:List (Addr×Obj)}{σ:St}{H:Hp}{s:Shared}{p:Addr}{xs ys:List V}{its its':List Value}{n n':Nat}{f:Obj→Obj}(I:Inv X pins σ H s)(h:H p=some (.lst xs))
  (ho:s.heap.get? p=some {cls:=.type "list",data:=.seq its.toArray n}) (hf:f {cls:=.type "list",data:=.seq its.toArray n}={cls:=.type "list",data:=.seq its'.toArray n'}) (r:Vals ys its') (hz:ys.length≤sizeLine) (t:Nat):
  Inv X pins σ (upd H p (.lst ys)) {s with heap:=s.heap.update p f,toks:=t}:=by
 have e:(s.heap.update p f).get? p=some {cls:=.type "list",data:=.seq its'.toArray n'}:=by
  rw[zr4 f ho (by rw[hf]<;>rfl),hf]
 refine I.write (x:=p) (e:=p) (by rw[h];trivial) (.inl rfl) (fun b u hb q=>(zn9 _ _ (zp4 hb)).trans q) ⟨_,e⟩ ?_
 exact⟨hz,its',n',r,e⟩
def bu :V→V→V→Hp→(Hp→Prop)→Prop:=fun o i v H Q=>∃p xs k j,o=.ref p∧i=.int k∧H p=some (.lst xs)∧ixN xs.length k=some j∧Q (upd H p (.lst (xs.set j v)))
theorem set_list :zi5 X bu:=by
 intro pins s σ H o i v ov iv u Q I ro ri rv h
 obtain⟨p,xs,k,j,rfl,rfl,hp,hj,q⟩:=h
 cases ro
 obtain⟨t,rfl⟩:=ri
 obtain⟨its,n,r,ho,hz⟩:=I.lst hp
 obtain⟨h1,h2,h3,h4⟩:=qB hj
 have hl:=r.length
 have hn:=tX
 have I':Inv X pins σ (upd H p (.lst (xs.set j v))) {s with heap:=s.heap.update p (Obj.mapSeq (·.setIfInBounds j u))}:=
  I.lstUpd hp ho (nv its n j u) (r.set rv j) (by rw[zq3];exact hz) s.toks
 by_cases h0:0≤k
 ·have hk:k.toNat=j:=by
   rw[seqIndex_of h0 h4] at h1
   exact zo9 h1
  exact PySem.W.ki_setAt ho h0 (by omega) (by rw[zn3,←hl];exact h4) (by rw[hk];exact⟨_,I',q⟩)
 ·have hk:(k+(its.toArray.size:Int)).toNat=j:=by
   rw[seqIndex_neg (by omega) h3] at h1
   rw[zn3,←hl]
   exact zo9 h1
  exact PySem.W.ki_setBack ho (by omega) (by rw[zn3,←hl];exact h3) (by omega) (by rw[hk];exact⟨_,I',q⟩)
theorem rO (lo hi:Option Int)(n:Nat):(sliceBounds lo hi none n).1=((HT.sIx n 0 lo:Nat):Int)∧(sliceBounds lo hi none n).2.1=((HT.sIx n n hi:Nat):Int)∧(sliceBounds lo hi none n).2.2=1:=by
 refine⟨?_,?_,rfl⟩
 ·cases lo with
  |none=>simp[sliceBounds,HT.sIx]
  |some i=>
   simp only[sliceBounds,HT.sIx,Option.getD_none,show (1:Int) > 0 by decide,if_true]
   by_cases h:i<0
   ·simp only[h,if_true]<;>omega
   ·simp only[h,zw4]<;>omega
 ·cases hi with
  |none=>simp[sliceBounds,HT.sIx]
  |some i=>
   simp only[sliceBounds,HT.sIx,Option.getD_none,show (1:Int) > 0 by decide,if_true]
   by_cases h:i<0
   ·simp only[h,if_true]<;>omega
   ·simp only[h,zw4]<;>omega
theorem sF (its:List Value)(lo hi:Option Int):slicePick its.toArray lo hi none=((its.drop (HT.sIx its.length 0 lo)).take (HT.sIx its.length its.length hi-HT.sIx its.length 0 lo)).toArray:=by
 obtain⟨h1,h2,h3⟩:=rO lo hi its.toArray.size
 unfold slicePick
 rw[h1,h2,h3]
 simp only[sliceRange_one,pick_run,zn3]<;>rfl
def zl7 (K:PySem.W.Frag):V→Option Int→Option Int→Hp→VK→Prop:=fun x lo hi H Q=>∃a xs,x=.ref a∧SqL K H a xs∧∀p,H p=none→Q (.ref p) (upd H p (.lst (qP xs lo hi)))
theorem qp :SlR X (zl7 X.K):=by
 intro pins s σ H x v vl vu lo hi sl Q I rx hs pl pu h
 obtain⟨a,xs,rfl,hx,q⟩:=h
 cases rx
 obtain⟨its,r,ht,hz⟩:=I.list hx
 have hlen:=r.length
 refine⟨"list",_,slot_list_getitem.lookup,ht.isList.typeIs,?_⟩
 refine wpAny_getItem_list_slice ht.isList hs pl pu .none (by simp) ?_ (by rw[zn3]<;>omega)
 rw[sF,←hlen]
 refine⟨.ref s.heap.objs.size,_,I.laid (t':=s.toks) (o:=.lst (qP xs lo hi)) (fun b ob q=>zm5 _ q) (zn0 _) ?_,rfl,q _ (I.hok.fresh (zn0 _))⟩
 exact⟨zr2 (pq xs lo hi) hz,_,0,(r.drop (HT.sIx xs.length 0 lo)).take (HT.sIx xs.length xs.length hi-HT.sIx xs.length 0 lo),zn8 _ rfl⟩
def va :V→Bool
 |.non=>true
 |.bl _=>true
 |.int _=>true
 |.str _=>true
 |_=>false
def eqV :V→V→Bool
 |.non,.non=>true
 |.bl a,.bl b=>a == b
 |.bl a,.int b=>(if a then 1 else 0)==b
 |.int a,.bl b=>a == (if b then 1 else 0)
 |.int a,.int b=>a == b
 |.str a,.str b=>a == b
 |_,_=>false
theorem za5 {A:Around}{s:Shared}{y x:V}{u v:Value}(ry:RelV y u)(rx:RelV x v)(fy:va y=true)(fx:va x=true):SeqAt.EqAt A s u v (eqV y x):=by
 cases y with
 |non=>
  cases ry
  cases x with
  |non=>cases rx;exact SeqAt.EqAt.same _
  |bl b=>cases rx;exact SeqAt.EqAt.none_bool b
  |int b=>obtain⟨t,rfl⟩:=rx;exact SeqAt.EqAt.none_int b t
  |str b=>obtain⟨t,rfl⟩:=rx;exact SeqAt.EqAt.none_str b t
  |_=>exact absurd (show false=true from fx) zn4
 |bl a=>
  cases ry
  cases x with
  |non=>cases rx;exact SeqAt.EqAt.bool_none a
  |bl b=>cases rx;exact SeqAt.EqAt.bool_bool a b
  |int b=>obtain⟨t,rfl⟩:=rx;exact SeqAt.EqAt.bool_int a b t
  |str b=>obtain⟨t,rfl⟩:=rx;exact SeqAt.EqAt.bool_str a b t
  |_=>exact absurd (show false=true from fx) zn4
 |int a=>
  obtain⟨t',rfl⟩:=ry
  cases x with
  |non=>cases rx;exact SeqAt.EqAt.int_none a t'
  |bl b=>cases rx;exact SeqAt.EqAt.int_bool a t' b
  |int b=>obtain⟨t,rfl⟩:=rx;exact SeqAt.EqAt.int_int a t' b t
  |str b=>obtain⟨t,rfl⟩:=rx;exact SeqAt.EqAt.int_str a t' b t
  |_=>exact absurd (show false=true from fx) zn4
 |str a=>
  obtain⟨t',rfl⟩:=ry
  cases x with
  |non=>cases rx;exact SeqAt.EqAt.str_none a t'
  |bl b=>cases rx;exact SeqAt.EqAt.str_bool a t' b
  |int b=>obtain⟨t,rfl⟩:=rx;exact SeqAt.EqAt.str_int a t' b t
  |str b=>obtain⟨t,rfl⟩:=rx;exact SeqAt.EqAt.str_str a t' b t
  |_=>exact absurd (show false=true from fx) zn4
 |_=>exact absurd (show false=true from fy) zn4
def eqU (x:V)(u:Value):Bool:=match u with
 |.none=>eqV .non x
 |.bool b=>eqV (.bl b) x
 |.int i _=>eqV (.int i) x
 |.str z _=>eqV (.str z) x
 |_=>false
theorem gD {x y:V}{u:Value}(r:RelV y u)(f:va y=true):eqU x u=eqV y x:=by
 cases y with
 |non=>cases r;rfl
 |bl b=>cases r;rfl
 |int i=>obtain⟨t,rfl⟩:=r;rfl
 |str z=>obtain⟨t,rfl⟩:=r;rfl
 |_=>exact absurd (show false=true from f) zn4
theorem rW {x:V}:∀{xs:List V} {us:List Value},Vals xs us→xs.all va=true→us.any (eqU x)=xs.any fun y=>eqV y x
 |_,_,.nil,_=>rfl
 |y::xs,u::us,.cons r t,f=>by
  rw[zA6,zo6] at f
  rw[zv9,zv9,gD r f.1,rW t f.2]
theorem uY {A:Around}{s:Shared}{x:V}{v:Value}(rx:RelV x v)(fx:va x=true):∀{xs:List V} {us:List Value},Vals xs us→xs.all va=true→∀u∈us,SeqAt.EqAt A s u v (eqU x u)
 |_,_,.nil,_=>fun u hu=>by cases hu
 |y::xs,u::us,.cons r t,f=>fun u' hu=>by
  rw[zA6,zo6] at f
  rcases zn2.mp hu with rfl|hu
  ·rw[gD r f.1];exact za5 r rx f.1 fx
  ·exact uY rx fx t f.2 u' hu
def inV (x:V)(xs:List V):Bool:=xs.any fun y=>eqV y x
def rIn (K:PySem.W.Frag)(neg:Bool):R2:=fun x y H Q=>∃p xs,y=.ref p∧(SqL K H p xs∨SqT K H p xs)∧va x=true∧xs.all va=true∧Q (.bl (if neg then !inV x xs else inV x xs)) H
theorem kg :OpR X (compareOp .In) (rIn X.K false):=by
 intro pins s σ H x y v u Q I rx ry h
 obtain⟨p,xs,rfl,hq,fx,fs,q⟩:=h
 cases ry
 rcases hq with hq|hq
 ·obtain⟨its,r,pl,hz⟩:=I.list hq
  refine SeqAt.in_listAt (eqU x) pl.isList (fun w hw=>uY rx fx r fs w (by simpa using hw)) ⟨.bl _,H,I,rfl,?_⟩
  rw[show its.toArray.any (eqU x)=its.any (eqU x) by simp,rW r fs]
  exact q
 ·obtain⟨its,r,pl,hz⟩:=I.tuple hq
  refine SeqAt.in_tupleAt (eqU x) pl (fun w hw=>uY rx fx r fs w (by simpa using hw)) ⟨.bl _,H,I,rfl,?_⟩
  rw[show its.toArray.any (eqU x)=its.any (eqU x) by simp,rW r fs]
  exact q
theorem yf :yX X (.builtin "len") (fun xs H Q=>∃p ys,xs=[.ref p]∧(SqL X.K H p ys∨SqT X.K H p ys)∧Q (.int ys.length) H):=by
 intro pins s σ H xs us Q I r h
 obtain⟨p,ys,rfl,hq,q⟩:=h
 obtain⟨u,rfl,rx⟩:=vals1 r
 cases rx
 have hn:=tX
 rcases hq with hq|hq
 ·obtain⟨its,r',pl,hz⟩:=I.list hq
  have hlen:=r'.length
  exact Calls.call_len_list pl.isList (by simp only[zn3]<;>omega) ⟨.int ys.length,H,I.tok _,⟨s.toks+1,by rw[zn3,hlen]⟩,q⟩
 ·obtain⟨its,r',pl,hz⟩:=I.tuple hq
  have hlen:=r'.length
  exact len_tuple pl (by simp only[zn3]<;>omega) ⟨.int ys.length,H,I.tok _,⟨s.toks+1,by rw[zn3,hlen]⟩,q⟩
theorem vK :yX X (.type "list") (fun xs H Q=>∃p ys,xs=[.ref p]∧(SqL X.K H p ys∨SqT X.K H p ys)∧∀l,H l=none→Q (.ref l) (upd H l (.lst ys))):=by
 intro pins s σ H xs us Q I r h
 obtain⟨p,ys,rfl,hq,q⟩:=h
 obtain⟨u,rfl,rx⟩:=vals1 r
 cases rx
 have fin:∀(its:List Value),Vals ys its→ys.length≤sizeLine→∀(h':Heap) (c':Nat),(∀b o',s.heap.get? b=some o'→h'.get? b=some o')→
   h'.get? s.heap.objs.size=some {cls:=.type "list",dict:=none,data:=.seq its.toArray c',slots:=#[]}→EP X pins σ Q (.ref s.heap.objs.size) {s with heap:=h'}:=fun its r' hz h' c' kp e=>
  ⟨.ref s.heap.objs.size,_,I.laid (t':=s.toks) kp (zn0 _) (show zV X.prog X.w _ h' _ (.lst ys) from ⟨hz,its,c',r',e⟩),rfl,q _ (I.hok.fresh (zn0 _))⟩
 rcases hq with hq|hq
 ·obtain⟨its,r',pl,hz⟩:=I.list hq
  have hlen:=r'.length
  obtain⟨o,ho,hc,n,hd⟩:=pl.isList
  exact call_list_seq p (.inl rfl) ho hc hd (fun h' c' kp e=>fin its r' hz h' c' kp e) (by simp only[zn3]<;>omega)
 ·obtain⟨its,r',pl,hz⟩:=I.tuple hq
  have hlen:=r'.length
  obtain⟨o,ho,hc,n,hd⟩:=pl
  exact call_list_seq p (.inr rfl) ho hc hd (fun h' c' kp e=>fin its r' hz h' c' kp e) (by simp only[zn3]<;>omega)
def tyV (K:PySem.W.Frag)(T:String)(x:V)(H:Hp):Prop:=match x with
 |.str _=>T="str"
 |.int _=>T="int"
 |.ref p=>(T="list"∧∃xs,SqL K H p xs)∨(T="tuple"∧∃o,K.lookup p=some o∧o.cls=.type "tuple"∧o.dict=none)∨
   (T="dict"∧((∃kvs,H p=some (.dK kvs))∨∃kvs,H p=some (.dT kvs)))∨(T="set"∧∃S n,H p=some (.set S n))
 |_=>False
theorem bG {pins:List (Addr×Obj)}{σ:St}{H:Hp}{s:Shared}{T:String}{x:V}{v:Value}(I:Inv X pins σ H s)(r:RelV x v)(ty:tyV X.K T x H):
  s.TypeIs v T∧∀a,v=.ref a→∃ob,s.heap.get? a=some ob∧ob.dict=none:=by
 cases x with
 |str z=>
  obtain⟨t,rfl⟩:=r
  cases (show T="str" from ty)
  exact⟨typeIs_str s z t,fun _ e=>nomatch e⟩
 |int i=>
  obtain⟨t,rfl⟩:=r
  cases (show T="int" from ty)
  exact⟨typeIs_int s i t,fun _ e=>nomatch e⟩
 |ref p=>
  cases r
  rcases ty with ⟨rfl,xs,hq⟩|⟨rfl,o,hk,hc,hd⟩|⟨rfl,hk⟩|⟨rfl,S,n,hk⟩
  ·obtain⟨its,_,pl,_⟩:=I.list hq
   refine⟨pl.isList.typeIs,fun a e=>?_⟩
   cases e
   obtain⟨o,n,e,c,hd,_⟩:=pl
   exact⟨o,e,hd⟩
  ·refine⟨⟨o,I.kIn p o hk,hc⟩,fun a e=>?_⟩
   cases e
   exact⟨o,I.kIn _ o hk,hd⟩
  ·have z:∃o,s.heap.get? p=some o∧o.ExactDict:=by
    rcases hk with ⟨kvs,hk⟩|⟨kvs,hk⟩
    ·obtain⟨_,_,_,_,o,_,_,e,ex,_⟩:=I.hok p _ hk
     exact⟨o,e,ex⟩
    ·obtain⟨_,_,_,_,o,_,_,e,ex,_⟩:=I.hok p _ hk
     exact⟨o,e,ex⟩
   obtain⟨o,e,ex⟩:=z
   refine⟨⟨o,e,ex.1⟩,fun a e2=>?_⟩
   cases e2
   exact⟨o,e,ex.2.1⟩
  ·obtain⟨o,_,_,_,e,ex,_⟩:=I.hok p _ hk
   refine⟨⟨o,e,ex.1⟩,fun a e2=>?_⟩
   cases e2
   exact⟨o,e,ex.2.1⟩
 |_=>exact False.elim ty
def tBM (K:PySem.W.Frag)(T:String)(r:V→List V→Hp→VK→Prop)(to:TE)(t:TA):TE:=fun σ H Q=>to σ H fun x H1=>tyV K T x H1∧t σ H1 fun xs H2=>r x xs H2 Q
variable {o e:Expr}{es:List Expr}{to:TE}{t:TA}{name:Str}{apos cpos:Pos}{T id:String}{r:V→List V→Hp→VK→Prop}
theorem bq (pa:PlainAttrs T)(slot:Slot T name id)(hty:typeOf (.builtin id)=pure (.type "method_descriptor"))(hm:MtR X id r)(ho:PE X o to)(ha:PA X (e::es) t)
  (hbase:attributeBase o name X.env (eval o X.env)=eval o X.env:=by rfl)
  (hfew:((backTo cpos (starEach (e::es) X.env)).all (fun x=>!x.1)&&(backToKw cpos (keywordEach [] X.env)).all (fun x=>x.1.isSome)
   &&decide ((e::es).length+([]:List Keyword).length+(if ([]:List Keyword).isEmpty then 0 else 1)<30))=true:=by rfl)
  (hline:(apos.endLine == cpos.line)=true:=by rfl) (hs:starEach (e::es) X.env=(false,eval e X.env)::starEach es X.env:=by rfl) (hplain:(backTo cpos (starEach es X.env)).any (·.1)=false:=by rfl):
  PE X (.Call (.Attribute o name apos) (e::es) [] cpos) (tBM X.K T r to t):=by
 intro pins s σ H Q I h
 refine wpAny_Call_method_late hbase hfew hline rfl (thn (ho pins s σ H _ I h) fun v s1 ⟨x,H1,I1,r1,ty,q1⟩=>?_)
 obtain⟨h1,h2⟩:=bG I1 r1 ty
 refine⟨T,id,pa,slot,hty,h1,h2,?_⟩
 have hA:=ha cpos pins s1 σ H1 _ I1 q1
 rw[hs] at hA ⊢
 refine Calls.callWith_builtin (by show (false||(backTo cpos (starEach es X.env)).any (·.1))=false;rw[hplain]<;>rfl) (Calls.evalArgs_plain ?_)
 exact thn hA fun us s2 ⟨vs,H2,I2,r2,q2⟩=>hm pins s2 σ H2 x vs v us Q I2 r1 r2 q2
/- xs.append(e),list.index on a module's tuple .. are MtR facts of 06m -/
end
def MtM (X:Cx)(id:String)(r:V→List V→Hp→VK→Prop):Prop:=
 ∀(pins:List (Addr×Obj)) (s:Shared) (σ:St) (H:Hp) (x:V) (xs:List V) (v:Value) (us:List Value) (Q:VK),Inv X pins σ H s→RelV x v→Vals xs us→r x xs H Q→
  wpAny (model X.prog X.w) X.A (call (.builtin id) (v::us)) (EP X pins σ Q) X.xe s
theorem Vals.one :∀{x:V} {us:List Value},Vals [x] us→∃u,us=[u]∧RelV x u
 |_,_,.cons r .nil=>⟨_,rfl,r⟩
theorem Vals.two :∀{x y:V} {us:List Value},Vals [x,y] us→∃u v,us=[u,v]∧RelV x u∧RelV y v
 |_,_,_,.cons r (.cons q .nil)=>⟨_,_,rfl,r,q⟩
theorem Vals.eraseIdx :∀{xs:List V} {us:List Value} (i:Nat),Vals xs us→Vals (xs.eraseIdx i) (us.eraseIdx i)
 |_,_,_,.nil=>.nil
 |_,_,0,.cons _ t=>t
 |_,_,i+1,.cons r t=>.cons r (Vals.eraseIdx i t)
theorem rf {α:Type}:∀(l:List α) (i:Nat),(l.eraseIdx i).length≤l.length
 |[],_=>zn0 _
 |_::_,0=>zv1 _
 |_::r,i+1=>Nat.succ_le_succ (rf r i)
section
variable {X:Cx}{pins:List (Addr×Obj)}{σ:St}{H:Hp}{s:Shared}{l b:Addr}{xs ys zs:List V}
theorem Inv.lset {its its':List Value}{n:Nat}{f:Array Value→Array Value}{t':Nat}(I:Inv X pins σ H s)(hH:H l=some (.lst xs))
  (e:s.heap.get? l=some {cls:=.type "list",data:=.seq its.toArray n}) (hf:f its.toArray=its'.toArray) (hv:Vals ys its') (hz:ys.length≤sizeLine):
  Inv X pins σ (upd H l (.lst ys)) {s with heap:=s.heap.update l (Obj.mapSeq f),toks:=t'}:=by
 have q:=PySem.IsL.update e f
 rw[hf] at q
 refine I.write (x:=l) (e:=l) (by rw[hH];exact trivial) (.inl rfl) (fun b' u hb hu=>(zn9 s.heap (Obj.mapSeq f) (zp4 hb)).trans hu) ⟨_,q⟩ ?_
 exact⟨hz,its',_,hv,q⟩
theorem Inv.lnew {its:List Value}{t':Nat}(I:Inv X pins σ H s)(hv:Vals ys its)(hz:ys.length≤sizeLine):
  Inv X pins σ (upd H s.heap.objs.size (.lst ys)) {s with heap:=s.heap.push {cls:=.type "list",data:=.seq its.toArray},toks:=t'}:=
 I.laid (fun _ _ q=>zm5 _ q) (zn0 _) ⟨hz,its,0,hv,zn8 _ rfl⟩
theorem Inv.fresh (I:Inv X pins σ H s):H s.heap.objs.size=none:=I.hok.fresh (zn0 _)
theorem Inv.lstM (I:Inv X pins σ H s)(hH:H l=some (.lst xs)):xs.length≤sizeLine∧∃(its:List Value) (n:Nat),Vals xs its∧xs.length=its.length∧s.heap.get? l=some {cls:=.type "list",data:=.seq its.toArray n}:=by
 obtain⟨z,its,n,r,e⟩:=I.hok l _ hH
 exact⟨z,its,n,r,r.length,e⟩
theorem gf {n:Nat}(h:n≤sizeLine):Builtin.List.listTooLong n=false:=by
 unfold Builtin.List.listTooLong
 exact zp5 (by omega)
end
section
variable {X:Cx}
def cn :V→List V→Hp→VK→Prop:=fun x vs H Q=>∃l xs y,x=.ref l∧vs=[y]∧H l=some (.lst xs)∧xs.length<sizeLine∧Q .non (upd H l (.lst (xs++[y])))
theorem sJ :MtM X "list.append" cn:=by
 intro pins s σ H x vs v us Q I rx rv h
 obtain⟨l,xs,y,rfl,rfl,hH,hz,q⟩:=h
 cases rx
 obtain⟨u,rfl,ru⟩:=rv.one
 obtain⟨z,its,n,r,hl,e⟩:=I.lstM hH
 refine call_meets F.slot_list_append ⟨_,e,rfl⟩ F.entry_list_append (F.args_list_append_2 _ _) (PySem.list_append l its.toArray n u (by rw[zn3];omega)) ⟨e,?_⟩
 refine⟨.non,_,I.lset (its':=its++[u]) hH e (by simp) (r.append (.cons ru .nil)) ?_,rfl,q⟩
 rw[zq1,zz2]
 omega
def eV :V→List V→Hp→VK→Prop:=fun x vs H Q=>∃l b xs zs,x=.ref l∧vs=[.ref b]∧H l=some (.lst xs)∧H b=some (.lst zs)∧xs.length+zs.length≤sizeLine∧Q .non (upd H l (.lst (xs++zs)))
theorem zd1 :MtM X "list.extend" eV:=by
 intro pins s σ H x vs v us Q I rx rv h
 obtain⟨l,b,xs,zs,rfl,rfl,hH,hB,hz,q⟩:=h
 cases rx
 obtain⟨u,rfl,ru⟩:=rv.one
 cases ru
 obtain⟨z,its,n,r,hl,e⟩:=I.lstM hH
 obtain⟨z2,its2,n2,r2,hl2,e2⟩:=I.lstM hB
 have hsz:its.toArray.size+its2.toArray.size≤sizeLine:=by rw[zn3,zn3];omega
 have hlong:¬(!its.toArray.isEmpty&&Builtin.List.listTooLong (its.toArray.size+its2.toArray.size))=true:=by
  rw[gf hsz,zA2]
  exact zn4
 refine call_meets F.slot_list_extend ⟨_,e,rfl⟩ F.entry_list_extend (F.args_list_extend_2 _ _)
  (AutoSeq1.list_extend_list_list_0 l its.toArray n b its2.toArray n2 hlong (by rw[zn3];omega) (by omega)) ⟨e,e2,?_⟩
 refine⟨.non,_,I.lset (its':=its++its2) hH e (by simp) (r.append r2) ?_,rfl,q⟩
 rw[zq1]
 omega
def zc3 :V→List V→Hp→VK→Prop:=fun x vs H Q=>∃l xs i k y,x=.ref l∧vs=[.int i]∧H l=some (.lst xs)∧-(2 ^ 63)≤i∧i<2 ^ 63∧seqIndex? i xs.length=some k∧xs[k]?=some y∧Q y (upd H l (.lst (xs.eraseIdx k)))
theorem iB :MtM X "list.pop" zc3:=by
 intro pins s σ H x vs v us Q I rx rv h
 obtain⟨l,xs,i,k,y,rfl,rfl,hH,h1,h2,hk,hy,q⟩:=h
 cases rx
 obtain⟨u,rfl,ru⟩:=rv.one
 obtain⟨t,rfl⟩:=ru
 obtain⟨z,its,n,r,hl,e⟩:=I.lstM hH
 obtain⟨w,hw,rw'⟩:=r.get hy
 refine call_meets F.slot_list_pop ⟨_,e,rfl⟩ F.entry_list_pop (F.args_list_pop_2 _ _)
  (MeetsSeq.list_pop_at l its.toArray n i t k w (fitsIndex_both h1 h2) (by rw[zn3,←hl];exact hk) (by rw[←Array.getElem?_toList];exact hw) (by rw[zn3];omega)) ⟨e,?_⟩
 refine⟨y,_,I.lset (its':=its.eraseIdx k) hH e ?_ (r.eraseIdx k) ?_,rw',q⟩
 ·show its.toArray.eraseIdxIfInBounds k=(its.eraseIdx k).toArray
  rw[List.eraseIdxIfInBounds_toArray]
 ·have:=rf xs k
  omega
def zm3 :R2:=fun x y H Q=>∃l b xs zs,x=.ref l∧y=.ref b∧H l=some (.lst xs)∧H b=some (.lst zs)∧xs.length+zs.length≤sizeLine∧∀p,H p=none→Q (.ref p) (upd H p (.lst (xs++zs)))
theorem zc9 :OpR X (binaryOp .Add) zm3:=by
 intro pins s σ H x y v u Q I rx ry h
 obtain⟨l,b,xs,zs,rfl,rfl,hH,hB,hz,q⟩:=h
 cases rx
 cases ry
 obtain⟨z,its,n,r,hl,e⟩:=I.lstM hH
 obtain⟨z2,its2,n2,r2,hl2,e2⟩:=I.lstM hB
 refine PySem.P.add_list e e2 ?_ (by rw[zn3,zn3];omega)
 have ea:its.toArray++its2.toArray=(its++its2).toArray:=by simp
 rw[ea]
 exact⟨.ref _,_,I.lnew (t':=s.toks) (r.append r2) (by rw[zq1];omega),rfl,q _ I.fresh⟩
end
section
variable {prog:Program}{w:World}{A:Around}{E:Value→Shared→Prop}{s:Shared}
end
section
variable {X:Cx}
end
end L2
namespace Att
open PySem PySem.W PySem.Calls PyProof.Rows
theorem uy {P:Params}{h:Heap}:∀(ns:List Int) (vs:List Value),WellAll P h vs (ns.map WData.int)→IntsAre vs ns:=by
 intro ns
 induction ns with
 |nil=>
  intro vs w
  rw[List.map_nil] at w
  cases w
  exact .nil
 |cons n ns ih=>
  intro vs w
  rw[zp8] at w
  cases w with
  |cons a b=>
   cases a
   exact .cons _ _ (ih _ b)
theorem jr {l:OpenLaw}{n:Nat}(hn:l.most=some n){P:Params}{h:Heap}{args:List WData}{vals:List Value}
  (hpre:l.row.toRowW.claim.pre args=true) (hwl:WellAll P h vals args):
  ∃a vs ns,vals=[Value.ref a]∧args=[WData.list (ns.map WData.int)]∧h.get? a=some {cls:=.type "list",data:=.seq vs.toArray}∧IntsAre vs ns∧ns.length≤n:=by
 have hsh:WShape.hasAll [] args [.list .int]=true:=(pre_splitW hpre).1
 have hc:l.pre.holds [] {args:=args}=true:=(pre_splitW hpre).2
 obtain⟨d,r,rfl,h1,h2⟩:=hasAllW_cons hsh
 obtain rfl:=hasAllW_nil h2
 obtain⟨xs,rfl,h3⟩:=hasW_list h1
 obtain⟨ns,rfl⟩:=items_int h3
 have hlen:ns.length≤n:=by
  unfold OpenLaw.pre at hc
  have h4:(WTm.not (.lt (.lit (.int (n:Int))) (.len (.arg 0)))).holds [] {args:=[.list (ns.map .int)]}=true:=by
   have h4:=(holds_andW hc).1
   rw[hn] at h4
   exact h4
  have h5:=condW_of h4 (w_not (w_lt w_lit (w_len_list (w_arg rfl))))
  rw[zm6] at h5
  refine Nat.le_of_not_lt fun q=>?_
  have q':(n:Int)<((ns.length:Nat):Int):=by omega
  first
   |(rw[zp7 q'] at h5;exact absurd h5 (by decide))
   |(simp at h5;omega)
 cases hwl with
 |cons w1 w2=>
  cases w2
  cases w1 with
  |list ho hall=>exact⟨_,_,ns,rfl,rfl,ho,uy ns _ hall,hlen⟩
theorem kj (l:OpenLaw)(args:List WData):l.row.toRowW.claim.post args (.bool true) args=true:=
 postW_of (r:=l.row.toRowW) (X:=(true == true))
  (show WShape.has [] (.bool true) .bool=true by first|rfl|decide|simp[WShape.has,WShape.arms,WShape.armsAll])
  (show (WTm.eq .res (.lit (.bool true))).value [] {args:=args,res:=some (.bool true),after:=args}=some (.bool (true == true)) from w_eq_bool (w_res rfl) w_lit) rfl
theorem attach_call {l:OpenLaw}{n:Nat}{q:Program}{loose:List Str}{XP:(Str→Option Value)→Heap→Prop}{YP:World→Heap→Prop}{d:DefRec}
  (hn:l.most=some n) (hdf:d.params.defaults=[])
  (call:∀(w:World) (s₀ s₁:Shared) (mg mb:Str→Option Value) (fa:Addr) (o:Obj) (pm cd doc:Value) (a:Addr) (vs:List Value) (ns:List Int),
   Ground q loose [] XP w s₀ mg mb s₁.heap→YP w s₁.heap→
   s₁.heap.get? fa=some o→o.data=.func (docDef d.name d.params d.body d.scope pm cd doc)→s₁.heap.CodeRec cd d.name→mg d.name=some (.ref fa)→
   s₁.heap.get? a=some {cls:=.type "list",data:=.seq vs.toArray}→IntsAre vs ns→ns.length≤n→s₁.gens=#[]→
   codeAny (model l.prog w) callerA (.call (.ref fa) ⟨[.ref a],[]⟩) (fun r s'=>r=.ok (.ret (.bool true))∧OldK s₁.heap s'.heap∧s'.os=s₁.os∧AllBare s'.gens) s₁):
  WalkO q loose XP YP l.row.toRowW d [] (fun f vs=>PySem.call f vs):=by
 intro w s₀ s₁ mg mb G Y fa o pm cd doc dV kV ho hd hcd hD hmg hg args vals as hpre hlay hrd hwl hlo
 obtain rfl:dV=.none:=Dflts.none hD hdf
 obtain rfl:kV=.none:=Dflts.noKw hD
 obtain⟨a,vs,ns,rfl,rfl,hobj,hints,hlen⟩:=jr hn hpre hwl
 refine enter_call (zw6 (call w s₀ s₁ mg mb fa o pm cd doc a vs ns G Y ho (fd_plain hd) hcd hmg hobj hints hlen hg) fun r s' hq=>?_)
 obtain⟨rfl,h2,h3,h4⟩:=hq
 exact⟨.inl ⟨.bool true,.bool true,[],rfl,fun _=>rfl,.bool true,kj l _,fun _=>⟨List.Pairwise.nil,fun _ hm=>(nomatch hm)⟩⟩,h2,h3,h4⟩
section
variable {prog:Program}{w:World}{A:Around}{E:Value→Shared→Prop}{s:Shared}{K:Frag}
end
end Att
namespace L2
open PySem PySem.Spec PyProof.Rows
theorem rA :∀{vs:List Value} {ns:List Int},IntsAre vs ns→Vals (ns.map V.int) vs
 |_,_,.nil=>.nil
 |_,_,.cons n t h=>.cons ⟨t,rfl⟩ (rA h)
def inClass (s:Stmt)(j:Nat):Stmt:=match s with
 |.ClassDef _ _ _ body _ _ _ _ _ _ _=>body.getD j (.Pass ⟨0,0,0,0⟩)
 |_=>.Pass ⟨0,0,0,0⟩
def zH (s:Stmt):Arguments:=match s with
 |.FunctionDef _ a _ _ _ _ _ _ _ _=>a
 |_=>{posonlyargs:=[],args:=[],vararg:=none,kwonlyargs:=[],kw_defaults:=[],kwarg:=none,defaults:=[]}
def zv (s:Stmt):List Stmt:=match s with
 |.FunctionDef _ _ b _ _ _ _ _ _ _=>b
 |_=>[]
def zb (s:Stmt):Scope:=match s with
 |.FunctionDef _ _ _ _ _ _ sc _ _ _=>sc
 |_=>{kind:=.function,names:=[],isGenerator:=false,isCoroutine:=false}
abbrev CX0 :CXT:=fun _ _ _ _ _ _=>False
abbrev E0 :XK:=fun _ _ _=>False
theorem zS {X:Cx}:Passes CX0 X E0:=fun _ _ _ _ _ _ _ h=>h.elim
structure Fun (K:PySem.W.Frag)(x qual:Str)(st:Stmt)(f:Addr)(fd:FuncData):Prop where
 ex:∃(oc:Value) (od:Option Addr) (kV doc pm:Value) (an:Option Addr) (cdv ct:Value) (osl:Array (Option Value)),
  fd=PySem.W.fnOf x qual (zH st) (zv st) (zb st) .none kV doc pm an cdv ct∧K.lookup f=some ⟨oc,od,.func fd,osl⟩∧PySem.W.codeIn K cdv qual=true
 kp:PySem.W.keepIn K (.ref f)=true
section
variable {P:Program}{w:World}{K:PySem.W.Frag}{mg:Str→Option Value}{base:Heap}
theorem Fun.ok {x qual:Str}{st:Stmt}{f:Addr}{fd:FuncData}{N ps:List Str}{k:Nat}{sp:Sp}(F:Fun K x qual st f fd)(S:zo N ps (zb st))(len:∀vs H Q E,sp vs H Q E→vs.length=ps.length)
  (hbody:∀(cdv:Value) (A:Around) (outer:List Env) (s:Shared) (H:Hp) (vs:List V) (Q:VK) (E:XK),zE k (A.deeper (envOfC qual (zb st) s.heap.objs.size f cdv))→sp vs H Q E→
   ∃t,PSs (yV CX0 P w K mg base N qual (zb st) f cdv A outer s H E).nox (zv st) t∧t {nx:=fun _ H'=>Q .non H',rt:=Q} (start N vs) H):zy P w K mg base CX0 (k+1) f fd ps sp:=by
 obtain⟨oc,od,kV,doc,pm,an,cdv,ct,osl,rfl,lk,hcd⟩:=F.ex
 refine lG lk hcd S len fun A outer s H vs Q E hr hsp=>?_
 obtain⟨t,h,q⟩:=hbody cdv A outer s H vs Q E hr hsp
 exact⟨t,h.nox,q⟩
theorem Fun.binds {x qual:Str}{st:Stmt}{f:Addr}{fd:FuncData}{ps:List Str}(F:Fun K x qual st f fd)
  (h:∀(kV doc pm:Value) (an:Option Addr) (cdv ct:Value) (us:List Value),us.length=ps.length→bindArgs (PySem.W.fnOf x qual (zH st) (zv st) (zb st) .none kV doc pm an cdv ct) ⟨us,[]⟩=pure (ps.zip us)):Binds K fd ps []:=by
 obtain⟨oc,od,kV,doc,pm,an,cdv,ct,osl,rfl,lk,hcd⟩:=F.ex
 exact .all (h kV doc pm an cdv ct)
theorem nO {x qual:Str}{st:Stmt}{f:Addr}{oc:Value}{od an:Option Addr}{osl:Array (Option Value)}{kV doc pm cdv ct:Value}(l:K.lookup f=some ⟨oc,od,.func (PySem.W.fnOf x qual (zH st) (zv st) (zb st) .none kV doc pm an cdv ct),osl⟩)
  (c:PySem.W.codeIn K cdv qual=true) (k:PySem.W.keepIn K (.ref f)=true):Fun K x qual st f (PySem.W.fnOf x qual (zH st) (zv st) (zb st) .none kV doc pm an cdv ct):=⟨⟨oc,od,kV,doc,pm,an,cdv,ct,osl,rfl,l,c⟩,k⟩
end
theorem yK {n:Nat}(h:n≤1000):n<sizeLine:=Nat.lt_of_le_of_lt h (by decide)
section
variable {X:Cx}
theorem pv (i:Nat){x:Str}{pos:Pos}(hN:X.N[i]?=some x:=by rfl)(hv:Vis X.env.scope x:=by first|exact Or.inl rfl|exact Or.inr (Or.inl rfl)|exact Or.inr (Or.inr rfl))(hd:(x == ("__debug__":Str))=false:=by decide)
  (hcd:(x == ("__classdict__":Str))=false:=by decide):PE X (.Name x pos) (zb5 i):=yB hN hv hd hcd
end
theorem uw {A B:Prop}(h:B):if false=true then A else B:=by
 rw[if_neg zn4]
 exact h
theorem vS {A B:Prop}(h:A):if true=true then A else B:=by
 rw[if_pos rfl]
 exact h
theorem yj {c A B:Prop}[Decidable c](h1:c→A)(h2:¬c→B):if c then A else B:=by
 by_cases h:c
 ·rw[if_pos h]
  exact h1 h
 ·rw[if_neg h]
  exact h2 h
def zx (H H':Hp):Prop:=∀b o,H b=some o→H' b=some o
theorem zx.refl (H:Hp):zx H H:=fun _ _ h=>h
theorem zx.trans {H H1 H2:Hp}(a:zx H H1)(b:zx H1 H2):zx H H2:=fun c o h=>b c o (a c o h)
theorem zx.free {H H':Hp}(e:zx H H'){l:Addr}(h:H' l=Option.none):H l=Option.none:=by
 cases q:H l with
 |none=>rfl
 |some o=>
  rw[e l o q] at h
  cases h
theorem zx.seq {K:PySem.W.Frag}{H H':Hp}{a:Addr}{xs:List V}(e:zx H H')(h:SqL K H a xs):SqL K H' a xs:=by
 rcases h with (h|⟨o,h⟩)|h
 ·exact .inl (.inl (e _ _ h))
 ·exact .inl (.inr ⟨o,e _ _ h⟩)
 ·exact .inr h
def vj (cells:List (Str×Addr)):List (Str×NameKind)→List (Str×Addr)→List (Str×Addr)
 |[],acc=>acc
 |(n,k)::r,acc=>vj cells r (if k=.free then (n,(cells.lookup n).getD 0)::acc else acc)
theorem wY {env:Env}{scope:Scope}(h:∀y∈scope.names,y.2=.free→∃c,env.cells.lookup y.1=some c):
  closureFor scope env=pure (vj env.cells scope.names []):=by
 have key:∀(ns:List (Str×NameKind)) (acc:List (Str×Addr)),(∀y∈ns,y.2=.free→∃c,env.cells.lookup y.1=some c)→
   (forIn ns acc fun (x:Str×NameKind) (r:List (Str×Addr))=>(if (x.2 == NameKind.free)=true then (do let a ←cellOf env x.1;pure (ForInStep.yield ((x.1,a)::r))) else pure (ForInStep.yield r):Sem (ForInStep (List (Str×Addr)))))=pure (vj env.cells ns acc):=by
  intro ns
  induction ns with
  |nil=>intro acc _;rfl
  |cons y r ih=>
   intro acc hy
   obtain⟨n,k⟩:=y
   rw[zx6]
   have hr:∀z∈r,z.2=.free→∃c,env.cells.lookup z.1=some c:=fun z hz=>hy z (zn6 _ hz)
   by_cases hk:k=.free
   ·subst hk
    obtain⟨c,hc⟩:=hy (n,.free) zo5 rfl
    have e1:cellOf env n=pure c:=by
     unfold cellOf
     rw[hc]
    have e2:((NameKind.free == NameKind.free)=true):=rfl
    simp only[e2,if_true,e1,pure_bind]
    rw[ih _ hr]
    show _=pure (vj env.cells r (if NameKind.free=NameKind.free then (n,(env.cells.lookup n).getD 0)::acc else acc))
    rw[if_pos rfl,hc]
    rfl
   ·have e2:(k == NameKind.free)=false:=by simpa using hk
    simp only[e2,zt1,zw4,pure_bind]
    rw[ih _ hr]
    show _=pure (vj env.cells r (if k=NameKind.free then (n,(env.cells.lookup n).getD 0)::acc else acc))
    rw[if_neg hk]
 have q:=key scope.names [] h
 unfold closureFor
 simp only[] at q ⊢
 rw[show (forIn scope.names ([]:List (Str×Addr)) fun (x:Str×NameKind) (r:List (Str×Addr))=>_)=_ from q]
 rfl
theorem pV {cells:List (Str×Addr)}:∀(ns:List (Str×NameKind)) (acc:List (Str×Addr)),(∀y∈ns,y.2=.free→∃c,cells.lookup y.1=some c)→
  ∀x c,(x,c)∈vj cells ns acc→(x,c)∈acc∨((x,NameKind.free)∈ns∧cells.lookup x=some c)
 |[],acc,_,x,c,h=>.inl h
 |(n,k)::r,acc,hy,x,c,h=>by
  have hr:∀z∈r,z.2=.free→∃c,cells.lookup z.1=some c:=fun z hz=>hy z (zn6 _ hz)
  have h':(x,c)∈vj cells r (if k=.free then (n,(cells.lookup n).getD 0)::acc else acc):=h
  rcases pV r _ hr x c h' with q|⟨q1,q2⟩
  ·by_cases hk:k=.free
   ·rw[if_pos hk] at q
    rcases zn2.mp q with e|q
    ·obtain⟨c',hc⟩:=hy (n,k) zo5 hk
     have e1:x=n:=congrArg Prod.fst e
     have e2:c=(cells.lookup n).getD 0:=congrArg Prod.snd e
     have hc':cells.lookup n=some c':=hc
     rw[hc'] at e2
     have e3:c=c':=e2
     subst e1 e3 hk
     exact .inr ⟨zo5,hc'⟩
    ·exact .inl q
   ·rw[if_neg hk] at q
    exact .inl q
  ·exact .inr ⟨zn6 _ q1,q2⟩
theorem pk {cells:List (Str×Addr)}:∀(ns:List (Str×NameKind)) (acc:List (Str×Addr)) (p:Str×Addr),p∈acc→p∈vj cells ns acc
 |[],_,_,h=>h
 |(n,k)::r,acc,p,h=>by
  show p∈vj cells r (if k=.free then (n,(cells.lookup n).getD 0)::acc else acc)
  refine pk r _ p ?_
  split
  ·exact zn6 _ h
  ·exact h
theorem qO {cells:List (Str×Addr)}:∀(ns:List (Str×NameKind)) (acc:List (Str×Addr)) (x:Str),(x,NameKind.free)∈ns→∃c,(x,c)∈vj cells ns acc
 |[],_,_,h=>by simp at h
 |(n,k)::r,acc,x,h=>by
  show ∃c,(x,c)∈vj cells r (if k=.free then (n,(cells.lookup n).getD 0)::acc else acc)
  rcases zn2.mp h with e|h
  ·have e1:x=n:=congrArg Prod.fst e
   have e2:NameKind.free=k:=congrArg Prod.snd e
   subst e1 e2
   rw[if_pos rfl]
   exact⟨_,pk r _ _ zo5⟩
  ·exact qO r _ x h
theorem mem_lookup {x:Str}{c:Addr}:∀{l:List (Str×Addr)},(x,c)∈l→∃d,l.lookup x=some d
 |[],h=>by simp at h
 |(n,a)::r,h=>by
  rw[zp6]
  cases e:x == n with
  |true=>exact⟨a,rfl⟩
  |false=>
   rcases zn2.mp h with q|q
   ·have e1:x=n:=congrArg Prod.fst q
    rw[e1] at e
    simp at e
   ·exact mem_lookup q
structure zI (XN:List Str)(xs:Scope)(N:List Str)(imp:List (Option Nat))(scope:Scope):Prop where
 kind:scope.kind=.function
 nd:N.Nodup
 nocell:∀y∈scope.names,y.2≠.cell
 locs:∀y∈scope.names,y.2=.local→scope.names.lookup y.1=some .local
 frees:∀y∈scope.names,y.2=.free→xs.names.lookup y.1=some .cell∨xs.names.lookup y.1=some .free
 len:imp.length=N.length
 impsB:((imp.zip N).all fun p=>match p.1 with|none=>true|some j=>XN[j]? == some p.2&&scope.names.lookup p.2 == some .free)=true
theorem zI.imps {XN N:List Str}{xs scope:Scope}{imp:List (Option Nat)}(S:zI XN xs N imp scope):∀(i j:Nat),imp[i]?=some (some j)→∃x,N[i]?=some x∧XN[j]?=some x∧scope.names.lookup x=some .free:=by
 intro i j h
 have hi:i<imp.length:=(zm8.mp h).1
 have hn:i<N.length:=by rw[←S.len];exact hi
 have hx:N[i]?=some N[i]:=zm9 hn
 have hm:(some j,N[i])∈imp.zip N:=by
  have hz:(imp.zip N)[i]?=some (some j,N[i]):=by
   rw[List.getElem?_zip_eq_some]
   exact⟨h,hx⟩
  exact zs2 hz
 have q:=zv3.mp S.impsB _ hm
 have q':(XN[j]? == some N[i]&&scope.names.lookup N[i]==some .free)=true:=q
 rw[zo6] at q'
 exact⟨N[i],hx,eq_of_beq q'.1,eq_of_beq q'.2⟩
def xN (imp:List (Option Nat))(σ:St):St:=imp.map fun o=>o.bind fun j=>(σ[j]?).bind id
theorem jt {imp:List (Option Nat)}{σ:St}{i:Nat}{v:V}(h:(xN imp σ)[i]?=some (some v)):∃j,imp[i]?=some (some j)∧σ[j]?=some (some v):=by
 unfold xN at h
 rw[zo0] at h
 cases e:imp[i]? with
 |none=>rw[e] at h;cases h
 |some o=>
  rw[e] at h
  have h':(o.bind fun j=>(σ[j]?).bind id)=some v:=zo9 h
  cases o with
  |none=>cases h'
  |some j=>
   have h2:(σ[j]?).bind id=some v:=h'
   cases e2:σ[j]? with
   |none=>rw[e2] at h2;cases h2
   |some w=>
    rw[e2] at h2
    have h3:w=some v:=h2
    exact⟨j,rfl,by rw[e2,h3]⟩
def Cx.comp (X:Cx)(N:List Str)(scope:Scope)(C:Addr)(s2:Shared)(H2:Hp)(fp:List Addr):Cx where
 prog:=X.prog
 w:=X.w
 K:=X.K
 mg:=X.mg
 base:=X.base
 A:=X.A
 N:=N
 s₀:=s2
 H₀:=H2
 env:=compEnvC scope (vj X.env.cells scope.names []) C X.env
 outer:=X.stack
 stack:=X.stack
 ex:=fp
 fn:=fun _=>false
 calm:=X.calm
 pn:=[]
 xe:=fun _ _=>False
theorem vF {env:Env}:∀{names:List (Str×NameKind)} {x:Str},
  (names.map fun (n,k)=>if (k == NameKind.free&&env.scope.kind == .function&&env.kindOf n == some .cell) then (n,NameKind.cell) else (n,k)).lookup x=some .cell∨
  (names.map fun (n,k)=>if (k == NameKind.free&&env.scope.kind == .function&&env.kindOf n == some .cell) then (n,NameKind.cell) else (n,k)).lookup x=some .free→
  (∀y∈names,y.2≠.cell)→(x,NameKind.free)∈names
 |[],x,h,_=>by simp at h
 |(n,k)::r,x,h,hc=>by
  have ih:=@vF env r x
  rw[zp8] at h
  dsimp only at h
  by_cases hx:x=n
  ·subst hx
   by_cases hk:k=.free
   ·subst hk;exact zo5
   ·have hk':(k == NameKind.free)=false:=by simpa using hk
    simp only[hk',zr3,zt1,zw4,zp6,beq_self_eq_true,if_true] at h
    rcases h with h|h
    ·have e:k=.cell:=zo9 h
     exact absurd e (hc (x,k) zo5)
    ·have e:k=.free:=zo9 h
     exact absurd e hk
  ·have hxn:(x == n)=false:=by simpa using hx
   have step:∀(b:Bool) (l:List (Str×NameKind)),List.lookup x ((if b=true then (n,NameKind.cell) else (n,k))::l)=l.lookup x:=fun b l=>by
    cases b<;>simp[zp6,hxn]
   rw[step] at h
   exact zn6 _ (ih h fun y hy=>hc y (zn6 _ hy))
theorem ug {env:Env}:∀{names:List (Str×NameKind)} {x:Str},names.lookup x=some .free→
  (names.map fun (n,k)=>if (k == NameKind.free&&env.scope.kind == .function&&env.kindOf n == some .cell) then (n,NameKind.cell) else (n,k)).lookup x=some .cell∨
  (names.map fun (n,k)=>if (k == NameKind.free&&env.scope.kind == .function&&env.kindOf n == some .cell) then (n,NameKind.cell) else (n,k)).lookup x=some .free
 |[],x,h=>by simp at h
 |(n,k)::r,x,h=>by
  have ih:=@ug env r x
  rw[zp8]
  dsimp only
  rw[zp6] at h
  cases hx:x == n with
  |true=>
   rw[hx] at h
   have e:k=.free:=zo9 h
   subst e
   by_cases hb:(NameKind.free == NameKind.free&&env.scope.kind == .function&&env.kindOf n == some .cell)=true
   ·left;rw[if_pos hb];simp[zp6,hx]
   ·right;rw[if_neg hb];simp[zp6,hx]
  |false=>
   rw[hx] at h
   have step:∀(b:Bool) (l:List (Str×NameKind)),List.lookup x ((if b=true then (n,NameKind.cell) else (n,k))::l)=l.lookup x:=fun b l=>by
    cases b<;>simp[zp6,hx]
   rw[step]
   exact ih h
section
variable {X:Cx}{pins:List (Addr×Obj)}{σ:St}{H2 H':Hp}{s2 s':Shared}{fp:List Addr}{N:List Str}{imp:List (Option Nat)}{scope:Scope}{C acc:Addr}
theorem vd (I:Inv X pins σ H2 s2)(S:zI X.N X.env.scope N imp scope):∀y∈scope.names,y.2=.free→∃c,X.env.cells.lookup y.1=some c:=fun y hy hk=>I.ok.has y.1 (S.frees y hy hk)
theorem yT (I:Inv X pins σ H2 s2)(S:zI X.N X.env.scope N imp scope){x:Str}{c:Addr}(h:(vj X.env.cells scope.names []).lookup x=some c):(x,NameKind.free)∈scope.names∧X.env.cells.lookup x=some c:=by
 rcases pV scope.names [] (vd I S) x c (zq7 h) with q|q
 ·exact absurd q (by simp)
 ·exact q
theorem vq (I:Inv X pins σ H2 s2)(S:zI X.N X.env.scope N imp scope){x:Str}(h:(x,NameKind.free)∈scope.names):∃c,(vj X.env.cells scope.names []).lookup x=some c:=by
 obtain⟨c,hc⟩:=qO (cells:=X.env.cells) scope.names [] x h
 exact mem_lookup hc
theorem gG {h1:Heap}{tk:Nat}{m:Str→Option Value}{n0:Nat}(I:Inv X pins σ H2 s2)(S:zI X.N X.env.scope N imp scope)(hf:∀b∈fp,yR X pins H2 b)(ho:∀b∈fp,∃o,s2.heap.get? b=some o)
  (hacc:acc=s2.heap.objs.size) (hC:C=s2.heap.objs.size+1) (old:∀b o,s2.heap.get? b=some o→h1.get? b=some o) (hn:h1.Ns C m)
  (hl:h1.get? acc=some {cls:=.type "list",data:=.seq ([]:List Value).toArray n0}):
  Inv (X.comp N scope C s2 H2 fp) [] (xN imp σ) (upd H2 acc (.lst [])) {s2 with heap:=h1,toks:=tk}:=by
 have fa:H2 acc=none:=I.hok.fresh (by rw[hacc];exact zn0 _)
 have cac:C≠acc:=by rw[hC,hacc];exact Nat.succ_ne_self _
 have clt:∀x c,X.env.cells.lookup x=some c→c<s2.heap.objs.size:=fun x c e=>by
  obtain⟨v,q⟩:=I.cell x c e
  exact q.lt
 refine⟨⟨I.ok.mod,S.kind,I.ok.glob,I.ok.blt,?above,?inj,?has,?cab,I.ok.hd,I.ok.frames,.inl rfl,?exf,fun b o e=>I.bs b o e,zr2 I.ok.bsz I.sz,?noex,?exfs,I.stack,I.stkFree⟩,
  rfl,I.bare,Un.laid old (by rw[hacc];exact zn0 _) fa,⟨m,hn,?loc⟩,?cell,?free,?freeC,fun p hp=>absurd (show p∈([]:List (Addr×Obj)) from hp) (by simp),I.hok.laid old (by rw[hacc];exact zn0 _) ⟨zo3 _,[],n0,.nil,hl⟩,?len⟩
 case above=>show s2.heap.objs.size≤C;rw[hC];exact zv1 _
 case inj=>exact fun x y c h1 h2=>I.ok.inj x y c (yT I S h1).2 (yT I S h2).2
 case has=>exact fun x hx=>vq I S (vF (env:=X.env) hx S.nocell)
 case cab=>exact fun x c h _=>absurd h (by show ¬(false=true);simp)
 case exf=>
  intro b hb
  obtain⟨o,hob⟩:=ho b hb
  refine⟨?_,fun x c e=>(hf b hb).2.2.2.2.1 x c (yT I S e).2⟩
  show b≠C
  rw[hC]
  exact zo2 (Nat.lt_succ_of_lt (zn1 hob))
 case noex=>
  intro b o e hb
  rcases (hf b hb).2.2.2.1 with z|z
  ·exact I.ok.noex b o e z
  ·exact absurd (zo1 (zn1 e) (zr2 I.ok.bsz z)) (zs6 _)
 case exfs=>
  intro b hb hz
  rcases zn2.mp (I.stkSub b hz) with e|e
  ·exact (hf b hb).2.1 e
  ·exact (hf b hb).2.2.1 e
 case loc=>
  intro i x v e1 e2 e3
  obtain⟨j,q1,q2⟩:=jt e2
  obtain⟨y,n1,n2,n3⟩:=S.imps i j q1
  have n1':(X.comp N scope C s2 H2 fp).N[i]?=some y:=n1
  rw[n1'] at e1
  have exy:y=x:=zo9 e1
  subst exy
  have hfr:=S.frees (y,.free) (zq7 n3) rfl
  obtain⟨mX,hnX,hlX⟩:=I.loc
  obtain⟨u,r,l⟩:=hlX j y v n2 q2 (.inr hfr)
  refine⟨u,r,?_⟩
  rcases l with ⟨k,_⟩|⟨k,c,e,z⟩
  ·have k':X.env.scope.names.lookup y=some .local:=k
   rcases hfr with z|z
   ·have z':X.env.scope.names.lookup y=some .cell:=z
    rw[k'] at z';cases z'
   ·have z':X.env.scope.names.lookup y=some .free:=z
    rw[k'] at z';cases z'
  ·obtain⟨d,hd⟩:=vq I S (zq7 n3)
   have hd2:=(yT I S hd).2
   rw[e] at hd2
   have edc:c=d:=zo9 hd2
   subst edc
   exact .inr ⟨ug (env:=X.env) n3,c,hd,z.keeps old⟩
 case cell=>
  intro x c e
  obtain⟨v,q⟩:=I.cell x c (yT I S e).2
  exact⟨v,q.keeps old⟩
 case free=>
  show upd H2 acc _ C=none
  rw[zd cac]
  exact I.hok.fresh (by rw[hC];exact zv1 _)
 case freeC=>
  intro x c e
  have e':=(yT I S e).2
  have hlt:=clt x c e'
  show upd H2 acc _ c=none
  rw[zd (by rw[hacc];exact zo2 hlt)]
  exact I.freeC x c e'
 case len=>
  show (xN imp σ).length=N.length
  unfold xN
  rw[zm6]
  exact S.len
theorem jq {pl:List (Addr×Obj)}{τ:St}(I:Inv X pins σ H2 s2)(hf:∀b∈fp,yR X pins H2 b)(J:Inv (X.comp N scope C s2 H2 fp) pl τ H' s'):Inv X pins σ H' s':=
 I.call' (ch:=fp) J.os J.base J.hok J.bare fun b hb=>⟨(hf b hb).2.2.2.1,(hf b hb).2.1,(hf b hb).2.2.2.2.1,(hf b hb).2.2.2.2.2⟩
end
section
variable {prog:Program}{w:World}{A:Around}{R:Result→Shared→Prop}{s:Shared}
theorem qo {elt target iter:Expr}{ifs:List Expr}{scope:Scope}{pos:Pos}{it acc:Value}{env:Env}(I:Nat→Shared→Prop)
  (turn:∀n s,I n s→wpAny (model prog w) A (pyNext it) (fun r s1=>match r with
   |none=>R (.ok .next) s1
   |some v=>wpAny (model prog w) A (letOwnedTupleGo target it v) (fun _ s2=>wpAny (model prog w) A (assign target env v) (fun _ s3=>
     wpAny (model prog w) A (forIn ifs true fun c r=>if r=true then do let ok ←isTrue c env (eval c env);pure (ForInStep.yield ok) else pure (ForInStep.yield r)) (fun ok s4=>
      if ok=true then wpAny (model prog w) A (eval elt env) (fun x s5=>
       wpAny (model prog w) A (call (.builtin "list.append") [acc,x]) (fun _ s6=>∃m,m<n∧I m s6) (fun _ _=>False) s5) (fun _ _=>False) s4
      else ∃m,m<n∧I m s4) (fun _ _=>False) s3) (fun _ _=>False) s2) (fun _ _=>False) s1) (fun _ _=>False) s)
  (n:Nat) (h:I n s):codeAny (model prog w) A (.compLoop (.ListComp elt [⟨target,iter,ifs,0⟩] scope pos) 0 it acc env) R s:=by
 refine codeAny_loop rfl I (fun n s hI=>?_) n h
 show wpAny _ A ((compTurn (.ListComp elt [⟨target,iter,ifs,0⟩] scope pos) 0 it acc env).onRaise (fun x=>do noteFrame x env;theTreesLotGoes x)) _ _ s
 refine wpAny_noted ?_
 rw[compTurn_list]
 refine zm4 (zx1 (zm4 (zp3 (turn n s hI) (fun r s1 h1=>?_) fun _ _ h'=>False.elim h')))
 cases r with
 |none=>exact zm7 h1
 |some v=>
  refine zm4 (zp3 h1 (fun _ s2 h2=>?_) fun _ _ h'=>False.elim h')
  refine zm4 (zp3 h2 (fun _ s3 h3=>zm4 (zp3 h3 (fun ok s4 h4=>?_) fun _ _ h'=>False.elim h')) fun _ _ h'=>False.elim h')
  cases ok with
  |false=>exact zm7 ⟨rfl,h4⟩
  |true=>
   exact zm4 (zm4 (zp3 h4 (fun x s5 h5=>zm4 (zp3 h5 (fun _ s6 h6=>zm7 (zm7 ⟨rfl,h6⟩)) fun _ _ h'=>False.elim h')) fun _ _ h'=>False.elim h'))
end
def wB (Y:Cx)(ifs:List Expr)(t:TT):Prop:=
 ∀(pins:List (Addr×Obj)) (s:Shared) (σ:St) (H:Hp) (Q:Bool→Hp→Prop),Inv Y pins σ H s→t σ H Q→
  wpAny (model Y.prog Y.w) Y.A (forIn ifs true fun c r=>if r=true then do let ok ←isTrue c Y.env (eval c Y.env);pure (ForInStep.yield ok) else pure (ForInStep.yield r)) (TP Y pins σ Q) Y.xe s
def zl3 :TT:=fun _ H Q=>Q true H
theorem cX {Y:Cx}:wB Y [] zl3:=fun _ _ _ H _ I h=>wpAny_tests_nil ⟨H,I,h⟩
theorem mJ {Y:Cx}{c:Expr}{t:TT}(h:PT Y c t):wB Y [c] t:=fun pins s σ H Q I q=>wpAny_tests_one (h pins s σ H Q I q)
def qc (J:It)(acc:Addr)(g:TG)(tt:TT)(te:TE)(τ0:St)(H0:Hp)(Q:VK):Prop:=
 ∃W:Nat→Nat→List V→St→Hp→Prop,(∃m,W 0 m [] τ0 H0)∧∀i m ys τ H2,W i m ys τ H2→
  (J.stop i H2∧Q (.ref acc) H2)∨(J.go i H2∧∃N:List V→St→Hp→Prop,(∀ys' τ' H',N ys' τ' H'→∃m',m'<m∧W (i+1) m' ys' τ' H')∧
   ∀x H3,J.yld i H2 x H3→g x τ H3 fun τ2 H4=>tt τ2 H4 fun c H5=>
    if c=true then te τ2 H5 fun y H6=>H6 acc=some (.lst ys)∧ys.length<sizeLine∧N (ys++[y]) τ2 (upd H6 acc (.lst (ys++[y]))) else N ys τ2 H5)
def gp (wi:TI)(imp:List (Option Nat))(g:TG)(tt:TT)(te:TE):TE:=fun σ H Q=>wi σ H fun J H1=>∀acc,H1 acc=none→qc J acc g tt te (xN imp σ) (upd H1 acc (.lst [])) Q
section
variable {X:Cx}{pins:List (Addr×Obj)}{σ:St}{elt iter tg:Expr}{ifs:List Expr}{scope:Scope}{pos:Pos}{wi:TI}{g:TG}{tt:TT}{te:TE}{N:List Str}{imp:List (Option Nat)}
theorem uO {H2:Hp}{s2:Shared}{it:Addr}{fp:List Addr}{tn:Nat→Heap→Prop}{J:It}{RR:Value→Addr→Result→Shared→Prop}{E:Value→Shared→Prop}{Q:VK}
  (hc:X.calm=true) (S:zI X.N X.env.scope N imp scope) (hg:∀C s2 H2 fp,PG (X.comp N scope C s2 H2 fp) tg g) (ht:∀C s2 H2 fp,wB (X.comp N scope C s2 H2 fp) ifs tt) (he:∀C s2 H2 fp,PE (X.comp N scope C s2 H2 fp) elt te)
  (I2:Inv X pins σ H2 s2) (T:Turn X.prog X.w X.K tg J fp it tn) (st2:tn 0 s2.heap) (f2:∀b∈fp,yR X pins H2 b)
  (hW:∀acc,H2 acc=none→qc J acc g tt te (xN imp σ) (upd H2 acc (.lst [])) Q)
  (hRR:∀a C H' s' m,Inv X pins σ H' s'→s'.heap.Ns C m→yR X pins H' C→Q (.ref a) H'→RR (.ref a) C (.ok .next) s'):
  wpAny (model X.prog X.w) X.A (newList []) (fun acc s3=>wpAny (model X.prog X.w) X.A (newFunctionEnv scope X.env.globals (vj X.env.cells scope.names []) [] X.env.qual none .none (some X.env)) (fun cenv s4=>
   codeAny (model X.prog X.w) X.A (.compStart (.ListComp elt [⟨tg,iter,ifs,0⟩] scope pos) 0 (.ref it) acc {cenv with scope:=relabel scope X.env}) (RR acc cenv.locals) s4) E s3) E s2:=by
 refine wpAny_newObj_type (wpAny_newFunctionEnv S.nocell (by intro y hy;simp at hy) (fun h1 hns1 hsb1=>?_) S.kind)
 dsimp only at hns1 hsb1 ⊢
 generalize hHH:s2.heap.push {cls:=.type "list",dict:=none,data:=.seq ([]:List Value).toArray}=HH at hns1 hsb1 ⊢
 have hC:HH.objs.size=s2.heap.objs.size+1:=by rw[←hHH,zs9]
 have hDC:s2.heap.objs.size≠HH.objs.size:=by rw[hC];exact zo2 (zw7 _)
 have old:∀b o,s2.heap.get? b=some o→h1.get? b=some o:=fun b o e=>hsb1.extBut b o (by rw[hC];exact zo2 (Nat.lt_succ_of_lt (zn1 e))) (zm5 _ (hHH▸zm5 _ e))
 have hacc:h1.get? s2.heap.objs.size=some {cls:=.type "list",data:=.seq ([]:List Value).toArray}:=hsb1.extBut _ _ hDC (zm5 _ (hHH▸zn8 _ rfl))
 obtain⟨W,⟨m0,w0⟩,turn⟩:=hW s2.heap.objs.size I2.fresh
 generalize hCC:HH.objs.size=C at hns1 hsb1 hC hDC ⊢
 have ho:∀b∈fp,∃o,s2.heap.get? b=some o:=fun b hb=>let ⟨o,e,_⟩:=T.obj 0 _ st2 b hb;⟨o,e⟩
 generalize hacc0:s2.heap.objs.size=acc at *
 have loop:∀s3:Shared,s3={s2 with heap:=h1,toks:=s2.toks+([]:List (Str×Value)).length}→
   codeAny (model X.prog X.w) X.A (.compLoop (.ListComp elt [⟨tg,iter,ifs,0⟩] scope pos) 0 (.ref it) (.ref acc) (X.comp N scope C s2 H2 fp).env) (RR (.ref acc) C) s3:=by
  rintro s3 rfl
  have I3:Inv (X.comp N scope C s2 H2 fp) [] (xN imp σ) (upd H2 acc (.lst [])) {s2 with heap:=h1,toks:=s2.toks+([]:List (Str×Value)).length}:=
   gG I2 S f2 ho hacc0.symm (by rw[hC,hacc0]) old hns1 hacc
  have fpn:∀b∈fp,upd H2 acc (.lst []) b=none:=fun b hb=>by
   obtain⟨o,e⟩:=ho b hb
   rw[zd (by rw[←hacc0];exact zo2 (zn1 e))]
   exact (f2 b hb).1
  have stat:∀{H':Hp},(∀b∈fp,H' b=none)→∀b∈fp,yR (X.comp N scope C s2 H2 fp) [] H' b:=fun hn b hb=>by
   obtain⟨e1,e2⟩:=I3.ok.exf b hb
   exact⟨hn b hb,e1,I3.ok.exfs b hb,.inl hb,e2,fun p hp=>absurd (show p∈([]:List (Addr×Obj)) from hp) (by simp)⟩
  refine qo (fun n s'=>∃i ys τ H',Inv (X.comp N scope C s2 H2 fp) [] τ H' s'∧tn i s'.heap∧(∀b∈fp,H' b=none)∧W i n ys τ H') ?_ m0
   ⟨0,[],_,_,I3,T.keep _ _ _ st2 fun b _ o e=>old b o e,fpn,w0⟩
  rintro n s4 ⟨i,ys,τ,H4,I4,st4,fr4,w4⟩
  rcases turn i n ys τ H4 w4 with ⟨stop,qn⟩|⟨go,NN,hN,step⟩
  ·refine zp3 (T.done (X.comp N scope C s2 H2 fp) rfl rfl rfl hc i [] s4 τ H4 (fun _ _=>False) I4 (stat fr4) st4 stop) (fun r s5 ⟨hr,I5⟩=>?_) fun _ _ z=>z
   subst hr
   obtain⟨m5,hn5,_⟩:=id I5.loc
   exact hRR acc C H4 s5 m5 (jq I2 f2 I5) hn5 (I2.fpOk (by rw[hC,hacc0];exact zv1 _) I5.free) qn
  ·refine zp3 (T.item (X.comp N scope C s2 H2 fp) rfl rfl rfl hc i [] s4 τ H4 (fun _ _=>False) I4 (stat fr4) st4 go) (fun r s5 ⟨u,hr,h5⟩=>?_) fun _ _ z=>z
   subst hr
   refine zp3 h5 (fun _ s6 ⟨x,H6,I6,r6,y6,st6,fr6⟩=>?_) fun _ _ z=>z
   have I6':=I6.pinned (stat fr6) (T.obj _ _ st6)
   refine zp3 (hg C s2 H2 fp _ s6 τ H6 x u _ I6' r6 (step x H6 y6)) (fun _ s7 ⟨τ7,H7,I7,q7⟩=>?_) fun _ _ z=>z
   refine zp3 (ht C s2 H2 fp _ s7 τ7 H7 _ I7 q7) (fun ok s8 ⟨H8,I8,q8⟩=>?_) fun _ _ z=>z
   have again:∀{ys9:List V} {H9:Hp} {s9:Shared},Inv (X.comp N scope C s2 H2 fp) ([]++uX fp s6.heap) τ7 H9 s9→NN ys9 τ7 H9→∃m,m<n∧∃i ys τ H',Inv (X.comp N scope C s2 H2 fp) [] τ H' s9∧tn i s9.heap∧(∀b∈fp,H' b=none)∧W i m ys τ H':=fun {ys9 H9 s9} I9 n9=>by
    obtain⟨m',hm,w9⟩:=hN ys9 τ7 H9 n9
    refine⟨m',hm,i+1,ys9,τ7,H9,I9.unpinned,T.keep _ _ _ st6 fun b hb o e=>(I9.pin (b,o) (zq2 _ (zq2 _ (xY hb e)))).1,fun b hb=>?_,w9⟩
    obtain⟨o,e,d⟩:=T.obj _ _ st6 b hb
    exact (I9.pin (b,o) (zq2 _ (zq2 _ (xY hb e)))).2.1
   cases ok with
   |false=>
    have q8':NN ys τ7 H8:=by
     have z:=q8
     rw[if_neg zn4] at z
     exact z
    rw[if_neg zn4]
    exact again I8 q8'
   |true=>
    rw[if_pos rfl] at q8 ⊢
    refine zp3 (he C s2 H2 fp _ s8 τ7 H8 _ I8 q8) (fun v s9 ⟨y,H9,I9,r9,a9,z9,q9⟩=>?_) fun _ _ z=>z
    refine zp3 (sJ (X:=X.comp N scope C s2 H2 fp) _ s9 τ7 H9 (.ref acc) [y] (.ref acc) [v] (fun _ H10=>H10=upd H9 acc (.lst (ys++[y]))) I9 rfl (.cons r9 .nil) ⟨acc,ys,y,rfl,rfl,a9,z9,rfl⟩) (fun _ s10 ⟨_,H10,I10,_,e10⟩=>?_) fun _ _ z=>z
    subst e10
    exact again I10 q9
 exact codeAny_compStart_list (loop _ rfl) (T.self X.A 0 _ _ _ (T.keep _ _ _ st2 fun b _ o e=>old b o e) (loop _ rfl))
theorem bo (hc:X.calm=true)(S:zI X.N X.env.scope N imp scope)(hi:PI X tg iter wi)(hg:∀C s2 H2 fp,PG (X.comp N scope C s2 H2 fp) tg g)(ht:∀C s2 H2 fp,wB (X.comp N scope C s2 H2 fp) ifs tt)
  (he:∀C s2 H2 fp,PE (X.comp N scope C s2 H2 fp) elt te) (hs:∀x,foldedSetIterable iter X.env x=pure x:=by intro _;rfl):
  PE X (.ListComp elt [⟨tg,iter,ifs,0⟩] scope pos) (gp wi imp g tt te):=by
 intro pins s σ H Q I h
 rw[eval_ListComp]
 refine wpAny_comprehension_free (use:=none) rfl hs (wY (vd I S)) S.kind S.locs (thn (hi pins s σ H _ I h) fun v s1 h1=>thn h1 fun itv s2 h2=>?_)
 obtain⟨it,fp,tn,J,H2,e,I2,T,st2,f2,hW⟩:=h2
 subst e
 refine uO (RR:=fun acc C=>compPost (model X.prog X.w) X.A X.xe none (EP X pins σ Q) acc C) hc S hg ht he I2 T st2 f2 hW fun a C H' s' m I' hn f q=>?_
 refine⟨m,hn,fun h' sb=>?_⟩
 obtain⟨g0,g1,g2,g3,g4,g5⟩:=f
 exact⟨.ref a,H',I'.turned (t':=s'.toks) (it:=C) (fun b o hb e=>(sb.2 b hb).trans e) g0 g1 g3 g4 g5,rfl,q⟩
theorem fL {i:Nat}{x:Str}{px:Pos}{spos:Pos}(hc:X.calm=true)(S:zI X.N X.env.scope N imp scope)(hi:PI X tg iter wi)(hg:∀C s2 H2 fp,PG (X.comp N scope C s2 H2 fp) tg g)(ht:∀C s2 H2 fp,wB (X.comp N scope C s2 H2 fp) ifs tt)
  (he:∀C s2 H2 fp,PE (X.comp N scope C s2 H2 fp) elt te) (hN:X.N.Nodup) (hx:X.N[i]?=some x) (hl:Loc X.env.scope x) (hsw:swapsWith (.ListComp elt [⟨tg,iter,ifs,0⟩] scope pos) (some (.Name x px)) spos.line X.env=pure true:=by rfl)
  (hf:X.fn x=true∨X.env.scope.names.lookup x=some .local:=by first|exact .inl rfl|exact .inr rfl|assumption) (hs:∀x,foldedSetIterable iter X.env x=pure x:=by intro _;rfl):
  PS X (.Assign [.Name x px] (.ListComp elt [⟨tg,iter,ifs,0⟩] scope pos) spos) (za2 (gp wi imp g tt te) (sY i)):=by
 intro pins s σ H D I h
 rw[exec_Assign_Name_used _ _ _ _ hsw]
 refine zm4 (zx1 (zm4 ?_))
 show wpAny _ X.A (do let _ ←comprehension (.ListComp elt [⟨tg,iter,ifs,0⟩] scope pos) scope X.env _ (newList []) false (eval iter X.env) (some (assign (.Name x px) X.env))) _ _ s
 refine zm4 (zp3 (wpAny_comprehension_free (use:=some (assign (.Name x px) X.env)) (Q:=fun _ s'=>SP X pins D .next s') rfl hs (wY (vd I S)) S.kind S.locs (thn (hi pins s σ H _ I h) fun v s1 h1=>thn h1 fun itv s2 h2=>?_))
  (fun _ s' hq=>zm7 (zm7 hq)) fun _ _ e=>e)
 obtain⟨it,fp,tn,J,H2,e,I2,T,st2,f2,hW⟩:=h2
 subst e
 refine uO (Q:=fun x H1=>sY i x σ H1 D.nx) (RR:=fun acc C=>compPost (model X.prog X.w) X.A X.xe (some (assign (.Name x px) X.env)) (fun _ s'=>SP X pins D .next s') acc C) hc S hg ht he I2 T st2 f2 hW fun a C H' s' m I' hn f q=>?_
 show wpAny _ X.A (assign (.Name x px) X.env (.ref a)) _ _ _
 obtain⟨g0,g1,g2,g3,g4,g5⟩:=f
 refine wpAny_assign_Name (sP I' hN hx hl (show RelV (.ref a) (.ref a) from rfl) (fun s4 I4 hch=>?_) hf)
 obtain⟨ad,sb,had⟩:=hch
 have hCa:C≠ad:=by
  rcases had with e|e
  ·rw[e];exact g1
  ·exact (g4 x ad e).symm
 refine⟨m,hn.sameBut sb hCa,fun h' sb2=>?_⟩
 exact⟨_,H',I4.turned (t':=s4.toks) (it:=C) (fun b o hb e=>(sb2.2 b hb).trans e) g0 g1 g3 g4 g5,q⟩
end
mutual
inductive DV (H:Hp):V→PyData→Prop where
 |non:DV H .non .none
 |bl (b:Bool):DV H (.bl b) (.bool b)
 |int (i:Int):DV H (.int i) (.int i)
 |str (x:Str):DV H (.str x) (.str x)
 |lst {a:Addr} {xs:List V} {ds:List PyData}:H a=some (.lst xs)→DVs H xs ds→DV H (.ref a) (.list ds)
 |tup {a:Addr} {xs:List V} {ds:List PyData}:H a=some (.tup xs)→DVs H xs ds→DV H (.ref a) (.tuple ds)
inductive DVs (H:Hp):List V→List PyData→Prop where
 |nil:DVs H [] []
 |cons {x:V} {xs:List V} {d:PyData} {ds:List PyData}:DV H x d→DVs H xs ds→DVs H (x::xs) (d::ds)
end
section
variable {X:Cx}{pins:List (Addr×Obj)}{σ:St}{H:Hp}{s:Shared}
mutual
theorem DV.reads (I:Inv X pins σ H s):∀{x:V} {d:PyData} {u:Value},DV H x d→RelV x u→∃as,Reads s.heap u d as
 |_,_,u,.non,r=>by cases (show u=Value.none from r);exact⟨_,.none⟩
 |_,_,u,.bl b,r=>by cases (show u=Value.bool b from r);exact⟨_,.bool b⟩
 |_,_,u,.int i,r=>by obtain⟨t,rfl⟩:=(show ∃t,u=Value.int i t from r);exact⟨_,.int i t⟩
 |_,_,u,.str x,r=>by obtain⟨t,rfl⟩:=(show ∃t,u=Value.str x t from r);exact⟨_,.str x t⟩
 |_,_,u,.lst (a:=a) hq hs,r=>by
  cases (show u=Value.ref a from r)
  obtain⟨its,rv,p,hz⟩:=I.list (SqL.of hq)
  obtain⟨o,ho,hc,n,hd⟩:=p.isList
  obtain⟨as,ra⟩:=DVs.reads I hs rv
  exact⟨_,.list ho hc hd (by simpa using ra)⟩
 |_,_,u,.tup (a:=a) hq hs,r=>by
  cases (show u=Value.ref a from r)
  obtain⟨its,rv,p,hz⟩:=I.tuple (SqT.of hq)
  obtain⟨o,ho,hc,n,hd⟩:=p
  obtain⟨as,ra⟩:=DVs.reads I hs rv
  exact⟨_,.tuple ho hc hd (by simpa using ra)⟩
theorem DVs.reads (I:Inv X pins σ H s):∀{xs:List V} {ds:List PyData} {us:List Value},DVs H xs ds→Vals xs us→∃as,ReadsAll s.heap us ds as
 |_,_,_,.nil,.nil=>⟨_,.nil⟩
 |_,_,_,.cons h hs,.cons r rs=>by
  obtain⟨as,ra⟩:=DV.reads I h r
  obtain⟨bs,rb⟩:=DVs.reads I hs rs
  exact⟨_,.cons ra rb⟩
end
end
mutual
theorem DV.same {H H':Hp}(e:zx H H'):∀{x:V} {d:PyData},DV H x d→DV H' x d
 |_,_,.non=>.non
 |_,_,.bl b=>.bl b
 |_,_,.int i=>.int i
 |_,_,.str x=>.str x
 |_,_,.lst hq hs=>.lst (e _ _ hq) (DVs.same e hs)
 |_,_,.tup hq hs=>.tup (e _ _ hq) (DVs.same e hs)
theorem DVs.same {H H':Hp}(e:zx H H'):∀{xs:List V} {ds:List PyData},DVs H xs ds→DVs H' xs ds
 |_,_,.nil=>.nil
 |_,_,.cons h hs=>.cons (DV.same e h) (DVs.same e hs)
end
theorem DVs.length {H:Hp}:∀{xs:List V} {ds:List PyData},DVs H xs ds→xs.length=ds.length
 |_,_,.nil=>rfl
 |_,_,.cons _ hs=>by rw[zn7,zn7,DVs.length hs]
def tyD :PyData→String
 |.none=>"NoneType"
 |.bool _=>"bool"
 |.int _=>"int"
 |.str _=>"str"
 |.list _=>"list"
 |.tuple _=>"tuple"
 |.dict _=>"dict"
theorem DV.ty {K:PySem.W.Frag}{H:Hp}{x:V}{d:PyData}(h:DV H x d):vH K H x (.type (tyD d)):=by
 cases h with
 |non=>exact .non
 |bl b=>exact .bl b
 |int i=>exact .int i
 |str x=>exact .str x
 |lst e _=>exact .lst e
 |tup e _=>exact .tup e
def isInt :PyData→Bool
 |.int _=>true
 |.bool _=>true
 |_=>false
def isBool :PyData→Bool
 |.bool _=>true
 |_=>false
def isStr :PyData→Bool
 |.str _=>true
 |_=>false
def isList :PyData→Bool
 |.list _=>true
 |_=>false
def lL :PyData→Bool
 |.tuple _=>true
 |_=>false
def qg (T:String)(d:PyData):Option Bool:=
 if T="int" then some (isInt d) else if T="bool" then some (isBool d) else if T="str" then some (isStr d) else if T="list" then some (isList d) else if T="tuple" then some (lL d) else none
def zc7 (t T:String):Option Bool:=if (Value.type t == Value.type T)=true then some true else if PySem.W.kitMeta T=true then (fastBuiltinMro t).map (·.contains (Value.type T)) else none
theorem ec (K:PySem.W.Frag)(t T:String):PySem.W.kitOne K (.type t) (.type T)=zc7 t T:=rfl
theorem fH :(["NoneType","bool","int","str","list","tuple"].all fun t=>["int","bool","str","list","tuple"].all fun T=>
  zc7 t T == some (if T="int" then t == "int"||t == "bool" else t == T))=true:=by decide +kernel
theorem zf6 (K:PySem.W.Frag){H:Hp}{x:V}{d:PyData}(h:DV H x d){T:String}{b:Bool}(e:qg T d=some b):PySem.W.kitOne K (.type (tyD d)) (.type T)=some b:=by
 rw[ec]
 have key:∀t∈["NoneType","bool","int","str","list","tuple"],∀T∈["int","bool","str","list","tuple"],zc7 t T=some (if T="int" then t == "int"||t == "bool" else t == T):=fun t ht T hT=>
  eq_of_beq (zv3.mp (zv3.mp fH t ht) T hT)
 have hd:tyD d∈["NoneType","bool","int","str","list","tuple"]:=by cases h<;>simp[tyD]
 unfold qg at e
 split at e
 ·rename_i eT
  subst eT
  rw[key _ hd "int" (by decide)]
  cases e
  cases h<;>rfl
 ·split at e
  ·rename_i eT
   subst eT
   rw[key _ hd "bool" (by decide)]
   cases e
   cases h<;>rfl
  ·split at e
   ·rename_i eT
    subst eT
    rw[key _ hd "str" (by decide)]
    cases e
    cases h<;>rfl
   ·split at e
    ·rename_i eT
     subst eT
     rw[key _ hd "list" (by decide)]
     cases e
     cases h<;>rfl
    ·split at e
     ·rename_i eT
      subst eT
      rw[key _ hd "tuple" (by decide)]
      cases e
      cases h<;>rfl
     ·cases e
section
variable {X:Cx}
def zg9 :R2:=fun x y H Q=>∃d e,DV H x d∧DV H y e∧SeqAt.shaped d=true∧SeqAt.shaped e=true∧Q (.bl (PyData.eqv d e)) H
def zg3 :R2:=fun x y H Q=>∃d e,DV H x d∧DV H y e∧SeqAt.shaped d=true∧SeqAt.shaped e=true∧Q (.bl (!PyData.eqv d e)) H
theorem wu (hu:X.A.units+64<cLine):OpR X (compareOp .Eq) zg9:=by
 intro pins s σ H x y v u Q I rx ry h
 obtain⟨d,e,hd,he,sd,se,q⟩:=h
 obtain⟨as,ra⟩:=hd.reads I rx
 obtain⟨bs,rb⟩:=he.reads I ry
 exact SeqAt.compareEq_shaped ra rb sd se hu ⟨.bl _,H,I,rfl,q⟩
theorem zb0 (hu:X.A.units+64<cLine):OpR X (compareOp .NotEq) zg3:=by
 intro pins s σ H x y v u Q I rx ry h
 obtain⟨d,e,hd,he,sd,se,q⟩:=h
 obtain⟨as,ra⟩:=hd.reads I rx
 obtain⟨bs,rb⟩:=he.reads I ry
 exact SeqAt.compareNe_shaped ra rb sd se hu ⟨.bl _,H,I,rfl,q⟩
theorem fJ :yX X (.builtin "isinstance") (fun xs H Q=>∃x T t b,xs=[x,.ty T]∧vH X.K H x t∧PySem.W.kitOne X.K t (.type T)=some b∧Q (.bl b) H):=by
 intro pins s σ H xs us Q I r h
 obtain⟨x,T,t,b,rfl,ty,e,q⟩:=h
 obtain⟨u,v,rfl,rx,ry⟩:=Vals.two r
 cases (show v=Value.type T from ry)
 exact jM I rx ty e fun tk=>⟨.bl b,H,I.tok tk,rfl,q⟩
theorem xH :yX X (.builtin "isinstance") (fun xs H Q=>∃x T d b,xs=[x,.ty T]∧DV H x d∧qg T d=some b∧Q (.bl b) H):=by
 intro pins s σ H xs us Q I r h
 obtain⟨x,T,d,b,e,hd,ht,q⟩:=h
 exact fJ pins s σ H xs us Q I r ⟨x,T,_,b,e,hd.ty,zf6 X.K hd ht,q⟩
def zj1 (i j:Int):Prop:=0<j∧j.natAbs.log2<9000
theorem sv :OpR X (binaryOp .FloorDiv) (rI zj1 fun i j=>.int (i / j)):=opI fun i j _ _ _ _ _ hc q=>by
 have h1:(0:Int)<j:=hc.1
 refine floordiv_int (Int.ne_of_gt h1) ?_ (.inl (PyProof.noPylong_of_log2 hc.2))
 rw[Int.fdiv_eq_ediv_of_nonneg _ (Int.le_of_lt h1)]
 exact q
abbrev big :Int:=115792089237316195423570985008687907853269984665640564039457584007913129639936
theorem log2_small {j:Int}(h0:0<j)(h:j<big):j.natAbs.log2<9000:=by
 have hn:j.natAbs≠0:=by omega
 have h2:j.natAbs<2 ^ 256:=by
  have e:(2:Nat) ^ 256=115792089237316195423570985008687907853269984665640564039457584007913129639936:=by decide +kernel
  rw[e]
  unfold big at h
  omega
 have h3:j.natAbs.log2<256:=(Nat.log2_lt hn).mpr h2
 omega
theorem pB :yX X (.type "range") (fun xs H Q=>∃i j:Int,xs=[.int i,.int j]∧∀p,H p=none→Q (.ref p) (upd H p (.rng i j))):=by
 intro pins s σ H xs us Q I r h
 obtain⟨i,j,rfl,q⟩:=h
 obtain⟨u,v,rfl,⟨t,rfl⟩,⟨t',rfl⟩⟩:=Vals.two r
 refine call_range_2 ⟨.ref s.heap.objs.size,_,I.laid (o:=.rng i j) (fun b u e=>zm5 _ e) (zn0 _) ⟨t,t',s.toks,zn8 _ rfl⟩,rfl,q _ (I.hok.fresh (zn0 _))⟩
def zw (lo:Int)(n:Nat):List Int:=(List.range n).map fun i=>lo+(i:Nat)
theorem zh (lo:Int)(n:Nat):(zw lo n).length=n:=by simp[zw]
theorem yy {lo:Int}{n i:Nat}(h:i<n):(zw lo n)[i]?=some (lo+(i:Nat)):=by simp[zw,h]
theorem sH {lo:Int}{n:Nat}{acc:Array Value}(h:ItemsOf (fun i v=>∃t,v=.int (lo+i*1) t) acc n):Vals ((zw lo n).map V.int) acc.toList:=by
 obtain⟨h1,h2⟩:=h
 have key:∀(xs:List V) (us:List Value),xs.length=us.length→(∀(i:Nat) (x:V) (u:Value),xs[i]?=some x→us[i]?=some u→RelV x u)→Vals xs us:=by
  intro xs
  induction xs with
  |nil=>intro us hl _;cases us with|nil=>exact .nil|cons _ _=>simp at hl
  |cons x xs ih=>
   intro us hl hr
   cases us with
   |nil=>simp at hl
   |cons u us=>exact .cons (hr 0 x u rfl rfl) (ih us (by simpa using hl) fun i x' u' e1 e2=>hr (i+1) x' u' (by simpa using e1) (by simpa using e2))
 refine key _ _ ?_ fun i x u e1 e2=>?_
 ·rw[zm6,zh]
  simp[h1]
 ·rw[zo0] at e1
  have hi:i<n:=by
   have:=(zm8.mp e2).1
   simp[h1] at this
   exact this
  rw[yy hi] at e1
  have e1':V.int (lo+(i:Nat))=x:=zo9 e1
  subst e1'
  obtain⟨t,ht⟩:=h2 i u (by simpa using e2)
  refine⟨t,?_⟩
  rw[ht,Int.mul_one]
theorem sE (hc:X.calm=true):yX X (.type "list") (fun xs H Q=>∃(p:Addr) (lo hi:Int),xs=[.ref p]∧H p=some (.rng lo hi)∧(-(2 ^ 62)≤lo∧lo<2 ^ 62∧-(2 ^ 62)≤hi∧hi<2 ^ 62)∧(hi-lo).toNat≤sizeLine∧(hi-lo).toNat≤2 ^ 24∧
  ∀l,H l=none→Q (.ref l) (upd H l (.lst ((zw lo (hi-lo).toNat).map V.int)))):=by
 intro pins s σ H xs us Q I r h
 obtain⟨p,lo,hi,rfl,hp,⟨b1,b2,b3,b4⟩,hz,hz2,q⟩:=h
 obtain⟨u,rfl,rx⟩:=Vals.one r
 cases (show u=Value.ref p from rx)
 obtain⟨t,t',t'',e⟩:=(show zV X.prog X.w H s.heap p (.rng lo hi) from I.hok p _ hp)
 refine call_list_range (I.ok.hd hc) e (small_one b1 b2 b3 b4) (n:=(hi-lo).toNat) (by rw[rangeSize_one];split<;>omega) hz2 fun h' tk acc' c' hk hl hit=>?_
 refine⟨.ref s.heap.objs.size,_,I.laid (o:=.lst ((zw lo (hi-lo).toNat).map V.int)) (t':=tk) hk (zn0 _) ⟨by rw[zm6,zh];exact hz,acc'.toList,c',sH hit,by simpa using hl⟩,rfl,q _ (I.hok.fresh (zn0 _))⟩
end
def kq (X:Cx)(body:List Stmt):TS:=fun D σ H=>∃t,PSs X body t∧t D σ H
theorem yc {X:Cx}{body:List Stmt}:PSs X body (kq X body):=fun pins s σ H D I ⟨t,p,q⟩=>p pins s σ H D I q
theorem zP {X:Cx}{st:Stmt}{rest:List Stmt}{D:Ends}{σ:St}{H:Hp}(M:St→Hp→Prop)(h1:∃t,PS X st t∧t {D with nx:=M} σ H)(h2:∀σ' H',M σ' H'→∃t,PSs X rest t∧t D σ' H'):
  ∃t,PSs X (st::rest) t∧t D σ H:=by
 obtain⟨t1,p1,q1⟩:=h1
 refine⟨fun D' σ' H'=>D'=D∧σ'=σ∧H'=H,?_,rfl,rfl,rfl⟩
 intro pins s σ' H' D' I h
 obtain⟨e1,e2,e3⟩:=h
 subst e1 e2 e3
 have step:PSs X (st::rest) (zh2 t1 fun D2 σ2 H2=>D2=D'∧M σ2 H2):=zG p1 fun pins s σ2 H2 D2 I2 ⟨e,m⟩=>by
  subst e
  obtain⟨t2,p2,q2⟩:=h2 σ2 H2 m
  exact p2 pins s σ2 H2 _ I2 q2
 refine step pins s _ _ _ I ?_
 show t1 {D' with nx:=fun σ2 H2=>D'=D'∧M σ2 H2} _ _
 have e:(fun (σ2:St) (H2:Hp)=>D'=D'∧M σ2 H2)=M:=by
  funext σ2 H2
  exact propext ⟨fun z=>z.2,fun z=>⟨rfl,z⟩⟩
 rw[e]
 exact q1
theorem ja {K:PySem.W.Frag}{a acc:Addr}{xs:List V}{g:TG}{tt:TT}{te:TE}{Q:VK}{τ0:St}{H0:Hp}(Pv:Nat→List V→St→Hp→Prop)(h0:Pv 0 [] τ0 H0)(hl:∀i ys τ H,i≤xs.length→Pv i ys τ H→SqL K H a xs)
  (hs:∀i x ys τ H,xs[i]?=some x→Pv i ys τ H→g x τ H fun τ2 H4=>tt τ2 H4 fun c H5=>
   if c=true then te τ2 H5 fun y H6=>H6 acc=some (.lst ys)∧ys.length<sizeLine∧Pv (i+1) (ys++[y]) τ2 (upd H6 acc (.lst (ys++[y]))) else Pv (i+1) ys τ2 H5)
  (hd:∀ys τ H,Pv xs.length ys τ H→Q (.ref acc) H):
  qc (Itl K a) acc g tt te τ0 H0 Q:=by
 refine⟨fun i m ys τ H=>m=xs.length-i∧i≤xs.length∧Pv i ys τ H,⟨xs.length,by simp,zo3 _,h0⟩,?_⟩
 rintro i m ys τ H ⟨rfl,hi,p⟩
 have q:=hl i ys τ H hi p
 by_cases hlt:i<xs.length
 ·refine .inr ⟨⟨xs,xs[i],q,by simp[hlt]⟩,Pv (i+1),fun ys' τ' H' p'=>⟨xs.length-(i+1),by omega,rfl,hlt,p'⟩,fun x H' y=>?_⟩
  obtain⟨e,y⟩:=y
  subst e
  exact hs i x ys τ _ (y xs q) p
 ·have e:i=xs.length:=by omega
  subst e
  exact .inl ⟨⟨xs,q,zn0 _⟩,hd ys τ H p⟩
theorem at0 {α:Type}{x:α}{xs:List α}:atI (x::xs) 0=some x:=xV (j:=0) rfl
theorem ix0 {α:Type}{x:α}{xs:List α}:ixN (x::xs).length 0=some 0:=by
 unfold ixN
 rw[if_pos (Int.le_refl _),if_pos (by rw[zn7];omega)]
 rfl
theorem zj6 {α:Type}{x:α}{xs:List α}:seqIndex? 0 (x::xs).length=some 0:=(qB ix0).1
theorem gu (ns:List Int)(lo hi:Option Int):∃ms:List Int,qP (ns.map V.int) lo hi=ms.map V.int∧ms.length≤ns.length:=by
 refine⟨(ns.drop (HT.sIx (ns.map V.int).length 0 lo)).take (HT.sIx (ns.map V.int).length (ns.map V.int).length hi-HT.sIx (ns.map V.int).length 0 lo),?_,?_⟩
 ·unfold qP
  rw[List.map_take,List.map_drop]
 ·rw[zs8,List.length_drop]
  omega
structure yr (H:Hp)(t b c:Addr):Prop where
 ex:∃(n:Int) (bs cs:List Int),b≠c∧H t=some (.lst [.ref b,.ref c,.int n])∧H b=some (.lst (bs.map V.int))∧H c=some (.lst (cs.map V.int))∧bs.length≤63∧cs.length≤63
theorem lS {b c:Addr}{n:Int}(bs:List Int):HO.lst [.ref b,.ref c,.int n]≠HO.lst (bs.map V.int):=by
 intro z
 injection z with z
 cases bs with
 |nil=>cases z
 |cons x r=>cases z
def qK (t b:Addr)(H H':Hp):Prop:=∀a,a≠t→a≠b→H' a=H a
theorem qK.trans {t b:Addr}{H H1 H2:Hp}(h:qK t b H H1)(k:qK t b H1 H2):qK t b H H2:=fun a h1 h2=>(k a h1 h2).trans (h a h1 h2)
def nM (K:PySem.W.Frag):Sp:=fun vs H Q _=>∃(a:Addr) (ns:List Int),vs=[.ref a]∧SqL K H a (ns.map V.int)∧ns.length≤63∧
 ∀(t b c:Addr) (H':Hp),yr H' t b c→H t=none→H b=none→H c=none→zx H H'→Q (.ref t) H'
def jV :Sp:=fun vs H Q _=>∃(t b c:Addr) (many:Int),vs=[.ref t,.int many]∧yr H t b c∧0<many∧many<big∧
 ∀(v:Int) (H':Hp),0≤v→v<many→yr H' t b c→qK t b H H'→Q (.int v) H'
theorem yr.free {H:Hp}{t b c l:Addr}(T:yr H t b c)(h:H l=none):l≠t∧l≠b∧l≠c:=by
 obtain⟨n,bs,cs,n1,e1,e2,e3,l1,l2⟩:=T.ex
 exact⟨(zk e1 h).symm,(zk e2 h).symm,(zk e3 h).symm⟩
theorem yr.off {H H':Hp}{t b c:Addr}(T:yr H t b c)(h:∀a,a=t∨a=b∨a=c→H' a=H a):yr H' t b c:=by
 obtain⟨n,bs,cs,n1,e1,e2,e3,l1,l2⟩:=T.ex
 exact⟨n,bs,cs,n1,by rw[h t (.inl rfl)];exact e1,by rw[h b (.inr (.inl rfl))];exact e2,by rw[h c (.inr (.inr rfl))];exact e3,l1,l2⟩
theorem iD {H:Hp}{t b c l:Addr}{o:HO}(T:yr H t b c)(h:l≠t∧l≠b∧l≠c):yr (upd H l o) t b c:=
 T.off fun a ha=>zd (ha.elim (fun e=>e▸h.1.symm) fun ha=>ha.elim (fun e=>e▸h.2.1.symm) fun e=>e▸h.2.2.symm)
theorem kJ {H H':Hp}{t b c:Addr}(T:yr H t b c)(s:zx H H'):yr H' t b c:=by
 obtain⟨n,bs,cs,n1,e1,e2,e3,l1,l2⟩:=T.ex
 exact⟨n,bs,cs,n1,s _ _ e1,s _ _ e2,s _ _ e3,l1,l2⟩
theorem ym {H:Hp}{p:Addr}{o:HO}(h:H p=none):zx H (upd H p o):=fun b u e=>by rw[zd (zk e h)];exact e
def yh :Addr:=(166:Nat)
def xk :Str:="cheapest_first.<locals>.<lambda>"
def uL (x:Addr):Prop:=x=yh
def um (c:Addr):HO:=.ext fun h=>h.CodeRec (.ref c) xk
structure TabAt (H:Hp):Prop where
 ex:∃ps:Array Value,H yh=some (.tbl ps)∧TriplesOk ps.toList∧∀pos cv,codeAmong pos ps.toList=some cv→∃c,cv=.ref c∧H c=some (um c)
theorem uR {H H':Hp}(T:TabAt H)(h:∀a o,(∀xs,o≠.lst xs)→H a=some o→H' a=some o):TabAt H':=by
 obtain⟨ps,e1,e2,e3⟩:=T.ex
 refine⟨ps,h _ _ (fun xs z=>nomatch z) e1,e2,fun pos cv hc=>?_⟩
 obtain⟨c,rfl,e4⟩:=e3 pos cv hc
 exact⟨c,rfl,h _ _ (fun xs z=>nomatch z) e4⟩
def Plain (H:Hp)(l:Addr):Prop:=∀o,H l=some o→o≠um l∧∀ps,o≠.tbl ps
theorem cD {H:Hp}{l:Addr}{o:HO}(T:TabAt H)(h:Plain H l):TabAt (upd H l o):=by
 obtain⟨ps,e1,e2,e3⟩:=T.ex
 have n1:yh≠l:=fun z=>by rw[z] at e1;exact (h _ e1).2 ps rfl
 refine⟨ps,by rw[zd n1];exact e1,e2,fun pos cv hc=>?_⟩
 obtain⟨c,rfl,e4⟩:=e3 pos cv hc
 have n2:c≠l:=fun z=>by subst z;exact (h _ e4).1 rfl
 exact⟨c,rfl,by rw[zd n2];exact e4⟩
theorem jG {ps:Array Value}:∀ts,HO.tbl ps≠HO.tup ts:=fun _ z=>by cases z
theorem rQ {H:Hp}{x:Addr}(T:TabAt H)(h:uL x):∃o,H x=some o∧(∀ts,o≠.tup ts)∧∀xs,o≠.lst xs:=by
 obtain⟨ps,e1,_⟩:=T.ex
 exact⟨_,by rw[h];exact e1,jG,fun _ z=>by cases z⟩
theorem sZ {H:Hp}{l:Addr}{xs:List V}(h:H l=some (.lst xs)):Plain H l:=fun o e=>by
 rw[h] at e;cases e
 exact⟨(fun z=>by cases z),fun ps z=>by cases z⟩
theorem gE {H:Hp}{l:Addr}{xs:List (Key×V)}(h:H l=some (.dK xs)):Plain H l:=fun o e=>by
 rw[h] at e;cases e
 exact⟨(fun z=>by cases z),fun ps z=>by cases z⟩
theorem jJ {H:Hp}{l C dx:Addr}{fs:List (Str×V)}(h:H l=some (.ins C dx fs)):Plain H l:=fun o e=>by
 rw[h] at e;cases e
 exact⟨(fun z=>by cases z),fun ps z=>by cases z⟩
theorem pA {H:Hp}{l:Addr}(T:TabAt H)(h:H l=none):¬uL l:=fun z=>by
 obtain⟨o,e,_⟩:=rQ T z
 rw[h] at e;cases e
theorem eW {H H':Hp}{t b:Addr}{xs ys:List V}(T:TabAt H)(ht:H t=some (.lst xs))(hb:H b=some (.lst ys))(off:qK t b H H'):TabAt H':=uR T fun a o no e=>by
 have n1:a≠t:=fun z=>by rw[z,ht] at e;cases e;exact no _ rfl
 have n2:a≠b:=fun z=>by rw[z,hb] at e;cases e;exact no _ rfl
 rw[off a n1 n2];exact e
theorem hU {H H':Hp}(T:TabAt H)(h:zx H H'):TabAt H':=uR T fun a o _ e=>h a o e
def pZ (K:PySem.W.Frag):Sp:=fun vs H Q _=>∃(a:Addr) (ns:List Int),vs=[.ref a]∧SqL K H a (ns.map V.int)∧ns.length≤63∧TabAt H∧∀H',Q (.bl true) H'
structure aQ (mg:Str→Option Value):Prop where
 abs:mg "abs"=none
 list:mg "list"=none
 len:mg "len"=none
theorem cM (d:PyData):qg "int" d=some (isInt d):=by unfold qg;rw[if_pos rfl]
theorem tj (d:PyData):qg "bool" d=some (isBool d):=by unfold qg;rw[if_neg (by decide),if_pos rfl]
theorem sM (d:PyData):qg "tuple" d=some (lL d):=by unfold qg;rw[if_neg (by decide),if_neg (by decide),if_neg (by decide),if_neg (by decide),if_pos rfl]
structure yp (n:Nat)(d:PyData):Prop where
 shw:d.showable=true
 nod:d.hasDict=false
 dep:d.depth≤8
 len:d.shown.length≤n
 lay:d.canLay0=true
theorem yp.mono {m n:Nat}{d:PyData}(h:yp m d)(e:m≤n):yp n d:=⟨h.shw,h.nod,h.dep,zr2 h.len e,h.lay⟩
theorem uk :∀(ts:List Str) (k:Nat) (acc:Str),(textFrom k acc ts).length≤acc.length+piled ts
 |[],_,acc=>by rw[piled_nil];exact zn0 _
 |t::r,k,acc=>by
  have h:=uk r (k+1) (acc++(if k > 0 then ", " else "":String)++t)
  rw[piled_cons]
  have e2:(Str.ofString (if k > 0 then ", " else "":String)).length≤2:=by
   split
   ·exact zz6 rfl
   ·exact zo3 _
  have e3:=zs1 (acc++Str.ofString (if k > 0 then ", " else "":String)) t
  have e4:=zs1 acc (Str.ofString (if k > 0 then ", " else "":String))
  show (textFrom (k+1) (acc++Str.ofString (if k > 0 then ", " else "":String)++t) r).length≤_
  have h':(textFrom (k+1) (acc++Str.ofString (if k > 0 then ", " else "":String)++t) r).length≤(acc++Str.ofString (if k > 0 then ", " else "":String)++t).length+piled r:=h
  omega
theorem qN (ts:List Str):(listText ts).length≤piled ts+2:=by
 unfold listText
 rw[zs1]
 have h:=uk ts 0 (Str.ofString "[")
 have e1:(Str.ofString "[").length=1:=rfl
 have e2:(Str.ofString "]").length=1:=rfl
 show (textFrom 0 (Str.ofString "[") ts).length+(Str.ofString "]").length≤_
 omega
theorem qD (ts:List Str):(tupleText ts).length≤piled ts+3:=by
 cases ts with
 |nil=>decide +kernel
 |cons t r=>
  have h:=join_length_add (t::r) (by simp)
  unfold tupleText
  rw[zs1,zs1]
  have e1:(Str.ofString "(").length=1:=rfl
  have e2:(Str.ofString (if (t::r).length == 1 then ",)" else ")":String)).length≤2:=by
   split
   ·exact zz6 rfl
   ·exact zt3 (show 1<2 by decide)
  show (Str.ofString "(").length+(Str.join ", " (t::r)).length+(Str.ofString (if (t::r).length == 1 then ",)" else ")":String)).length≤_
  omega
theorem wG {n:Nat}:∀(ds:List PyData),(∀d∈ds,yp n d)→piled (PyData.shownAll ds)≤ds.length*(n+2)
 |[],_=>zo3 _
 |d::r,h=>by
  have h1:=(h d zo5).len
  have h2:=wG r fun e he=>h e (zn6 _ he)
  show piled (d.shown::PyData.shownAll r)≤_
  rw[piled_cons,zn7,Nat.succ_mul]
  omega
structure yw (n:Nat)(ds:List PyData):Prop where
 all:∀d∈ds,yp n d
 dep:∀d∈ds,d.depth≤7
theorem yw.parts {n:Nat}:∀{ds:List PyData},yw n ds→PyData.showableAll ds=true∧PyData.hasDictAll ds=false∧PyData.depthAll ds≤7∧PyData.canLayAll0 ds=true
 |[],_=>⟨rfl,rfl,zo3 _,rfl⟩
 |d::r,h=>by
  obtain⟨a,b,c,e⟩:=yw.parts (ds:=r) ⟨fun x hx=>h.all x (zn6 _ hx),fun x hx=>h.dep x (zn6 _ hx)⟩
  have hd:=h.all d zo5
  have hp:=h.dep d zo5
  refine⟨?_,?_,?_,?_⟩
  ·simp only[PyData.showableAll,hd.shw,a,Bool.and_self]
  ·simp only[PyData.hasDictAll,hd.nod,b,Bool.or_self]
  ·simp only[PyData.depthAll];omega
  ·simp only[PyData.canLayAll0,hd.lay,e,Bool.and_self]
theorem yp.list {n m:Nat}{ds:List PyData}(h:yw n ds)(e:ds.length*(n+2)+2≤m):yp m (.list ds):=by
 obtain⟨a,b,c,f⟩:=h.parts
 refine⟨by simp only[PyData.showable,a],by simp only[PyData.hasDict,b],by simp only[PyData.depth];omega,?_,by simp only[PyData.canLay0,f]⟩
 show (listText (PyData.shownAll ds)).length≤m
 have h1:=qN (PyData.shownAll ds)
 have h2:=wG ds h.all
 omega
theorem yp.tuple {n m:Nat}{ds:List PyData}(h:yw n ds)(e:ds.length*(n+2)+3≤m):yp m (.tuple ds):=by
 obtain⟨a,b,c,f⟩:=h.parts
 refine⟨by simp only[PyData.showable,a],by simp only[PyData.hasDict,b],by simp only[PyData.depth];omega,?_,by simp only[PyData.canLay0,f]⟩
 show (tupleText (PyData.shownAll ds)).length≤m
 have h1:=qD (PyData.shownAll ds)
 have h2:=wG ds h.all
 omega
theorem fv {i:Int}(h0:-big<i)(h1:i<big):i.natAbs.log2<1920:=by
 by_cases hn:i.natAbs=0
 ·rw[hn];decide
 ·have h2:i.natAbs<2 ^ 256:=by
   have e:(2:Nat) ^ 256=115792089237316195423570985008687907853269984665640564039457584007913129639936:=by decide +kernel
   rw[e]
   unfold big at h0 h1
   omega
  have h3:i.natAbs.log2<256:=(Nat.log2_lt hn).mpr h2
  omega
theorem yp.int {i:Int}(h0:-big<i)(h1:i<big):yp 2000 (.int i):=by
 have hl:=fv h0 h1
 refine⟨by simp only[PyData.showable,zq4];exact hl,rfl,zo3 _,?_,rfl⟩
 have:=int_text_len_1921 hl
 show (Str.ofString (toString i)).length≤2000
 omega
theorem yp.none :yp 2000 .none:=⟨rfl,rfl,zo3 _,by decide +kernel,rfl⟩
theorem yp.shaped {n:Nat}{d:PyData}(h:yp n d):SeqAt.shaped d=true:=by
 unfold SeqAt.shaped
 rw[h.lay,zs7,zq4]
 have:=h.dep
 omega
section
variable {X:Cx}
theorem jf (hg:X.A.guards=some [])(hu:X.A.units+64<cLine):yX X (.builtin "repr") (fun xs H Q=>∃x d,xs=[x]∧DV H x d∧yp sizeLine d∧Q (.str d.shown) H):=by
 intro pins s σ H xs us Q I r h
 obtain⟨x,d,rfl,hd,N,q⟩:=h
 obtain⟨u,rfl,rx⟩:=Vals.one r
 have big':∀{a:Addr},u=Value.ref a→wpAny (model X.prog X.w) X.A (call (.builtin "repr") [u]) (EP X pins σ Q) X.xe s:=fun {a} e=>by
  obtain⟨as,rd⟩:=hd.reads I rx
  subst e
  refine repr_of_reads' rd N.shw (PyData.noDict_hsm N.nod) hg (by have:=N.dep;omega) (fun _ _ e=>e) (fun h' t tk hk=>?_) N.len
  exact⟨.str d.shown,H,I.kept hk,⟨t,rfl⟩,q⟩
 cases hd with
 |non=>cases (show u=Value.none from rx);exact P.repr_of_none ⟨.str _,H,I.tok _,⟨_,rfl⟩,q⟩
 |bl b=>cases (show u=Value.bool b from rx);exact P.repr_of_bool ⟨.str _,H,I.tok _,⟨_,rfl⟩,q⟩
 |int i=>
  obtain⟨t,rfl⟩:=(show ∃t,u=Value.int i t from rx)
  have hs:i.natAbs.log2<1920:=by
   have:=N.shw
   simpa only[PyData.showable,zq4] using this
  exact P.repr_of_int hs ⟨.str _,H,I.tok _,⟨_,rfl⟩,q⟩
 |str y=>
  obtain⟨t,rfl⟩:=(show ∃t,u=Value.str y t from rx)
  exact P.repr_of_str ⟨.str _,H,I.tok _,⟨_,rfl⟩,q⟩ N.len
 |lst e _=>exact big' rx
 |tup e _=>exact big' rx
end
def nB :PyData→Bool
 |.int _=>true
 |_=>false
def yo (lo hi:Int):PyData→Bool
 |.int i=>decide (lo≤i)&&decide (i≤hi)
 |_=>false
def pairD :PyData→Bool
 |.tuple ds=>decide ((ds.length:Int)=2)
 |_=>false
abbrev vJ :PyData→Bool:=yo 0 1000000
def sq :PyData→Bool
 |.tuple [a,b]=>vJ a&&vJ b
 |_=>false
def sI :PyData→Option Int
 |.tuple [.int a,.int b]=>if vJ (.int a)&&vJ (.int b) then some (b-a) else none
 |_=>none
def ye (d:PyData):Bool:=match sI d with
 |some k=>decide (0≤k)
 |none=>false
theorem jz (d:PyData):nB d=(isInt d&&!isBool d):=by cases d<;>rfl
theorem uu {d:PyData}(h:pairD d=true):∃a b,d=.tuple [a,b]:=by
 cases d with
 |tuple ds=>
  have h':(ds.length:Int)=2:=of_decide_eq_true h
  match ds,h' with
  |[a,b],_=>exact⟨a,b,rfl⟩
  |[],z=>simp at z
  |[_],z=>simp at z
  |_::_::_::_,z=>simp at z;omega
 |_=>cases h
theorem tE (d:PyData):sq d=(sI d).isSome:=by
 unfold sq sI
 split
 ·rename_i a b
  cases a with
  |int i=>
   cases b with
   |int j=>
    show (vJ (.int i)&&vJ (.int j))=_
    cases e:(vJ (.int i)&&vJ (.int j))<;>simp[e]
   |_=>simp[yo]
  |_=>simp[yo]
 ·rename_i h
  split
  ·rename_i a b
   exact absurd rfl (h (.int a) (.int b))
  ·rfl
theorem oC {d:PyData}(h:sq d=true):∃a b:Int,d=.tuple [.int a,.int b]∧sI d=some (b-a):=by
 rw[tE] at h
 unfold sI at h ⊢
 split at h
 ·rename_i a b
  split at h
  ·rename_i hc
   exact⟨a,b,rfl,by simp[hc]⟩
  ·cases h
 ·cases h
def yz (g:PyData→Bool):Sp:=fun vs H Q _=>∃x d,vs=[x]∧DV H x d∧Q (.bl (g d)) H
def wI :Sp:=fun vs H Q _=>∃x d lo hi,vs=[x,.int lo,.int hi]∧DV H x d∧Q (.bl (yo lo hi d)) H
theorem cH {n:Nat}:decide (V.int (n:Int)=V.int 2)=decide ((n:Int)=2):=by simp
noncomputable def sub (p:Addr→Prop)(H:Hp):Hp:=fun a=>open Classical in if p a then H a else none
theorem zj {p:Addr→Prop}{H:Hp}{a:Addr}{o:HO}(h:sub p H a=some o):p a∧H a=some o:=by
 unfold sub at h
 split at h
 ·rename_i hp;exact⟨hp,h⟩
 ·cases h
theorem zR {p:Addr→Prop}{H:Hp}{a:Addr}{o:HO}(hp:p a)(h:H a=some o):sub p H a=some o:=by
 unfold sub
 rw[if_pos hp]
 exact h
theorem zr {p q:Addr→Prop}{H H':Hp}(h:∀a o,p a→H a=some o→q a∧H' a=some o):zx (sub p H) (sub q H'):=fun a o e=>by
 obtain⟨hp,he⟩:=zj e
 obtain⟨hq,he'⟩:=h a o hp he
 exact zR hq he'
theorem xO {p:Addr→Prop}{H:Hp}:zx (sub p H) H:=fun _ _ e=>(zj e).2
theorem yw.snoc {n:Nat}{ds:List PyData}{d:PyData}(h:yw n ds)(hd:yp n d)(hp:d.depth≤7):yw n (ds++[d]):=
 ⟨fun e he=>(zu0.mp he).elim (h.all e) fun z=>by rw[zo8.mp z];exact hd,fun e he=>(zu0.mp he).elim (h.dep e) fun z=>by rw[zo8.mp z];exact hp⟩
theorem yw.nil {n:Nat}:yw n []:=⟨fun d hd=>by simp at hd,fun d hd=>by simp at hd⟩
section
variable {X:Cx}{e:Expr}{es:List Expr}
def uz (X:Cx)(e:Expr):TE:=fun σ H Q=>∃t,PE X e t∧t σ H Q
theorem zl :PE X e (uz X e):=fun pins s σ H Q I ⟨t,p,q⟩=>p pins s σ H Q I q
def ze5 (X:Cx)(e:Expr):TT:=fun σ H Q=>∃t,PT X e t∧t σ H Q
theorem xt :PT X e (ze5 X e):=fun pins s σ H Q I ⟨t,p,q⟩=>p pins s σ H Q I q
def zd7 (X:Cx)(es:List Expr):TA:=fun σ H Q=>∃t,PA X es t∧t σ H Q
theorem yv :PA X es (zd7 X es):=fun pos pins s σ H Q I ⟨t,p,q⟩=>p pos pins s σ H Q I q
end
def jL :Key→PyData
 |.inl i=>.int i
 |.inr x=>.str x
def xcO (a C:Addr)(d:Option Addr):HO:=.ext fun h=>∃o vs,h.get? a=some o∧o.cls=.ref C∧o.dict=d∧o.data=.fields vs
mutual
inductive AV (H:Hp):V→PyData→Prop where
 |non:AV H .non .none
 |bl (b:Bool):AV H (.bl b) (.bool b)
 |int (i:Int):AV H (.int i) (.int i)
 |str (x:Str):AV H (.str x) (.str x)
 |lst {a:Addr} {xs:List V} {ds:List PyData}:H a=some (.lst xs)→AVs H xs ds→AV H (.ref a) (.list ds)
 |tup {a:Addr} {xs:List V} {ds:List PyData}:H a=some (.tup xs)→AVs H xs ds→AV H (.ref a) (.tuple ds)
 |ins {a C dx:Addr} {fs:List (Str×V)} {ds:List (PyData×PyData)}:H a=some (.ins C dx fs)→AVf H fs ds→AV H (.ref a) (.dict ((.int (C:Nat),.none)::ds))
 |dk {a:Addr} {o:Obj} {kvs:List (Key×V)} {ds:List (PyData×PyData)}:H a=some (.frz o (.dK kvs))→AVk H kvs ds→AV H (.ref a) (.dict ((.none,.none)::ds))
 |dt {a:Addr} {o:Obj} {kvs:List (List Key×V)} {ds:List (PyData×PyData)}:H a=some (.frz o (.dT kvs))→AVt H kvs ds→AV H (.ref a) (.dict ((.none,.bool true)::ds))
 |xc {a C dx:Addr} {fs:List (Str×V)} {ds:List (PyData×PyData)}:H a=some (xcO a C (some dx))→H dx=some (.xd fs)→AVf H fs ds→AV H (.ref a) (.dict ((.int (C:Nat),.bool true)::ds))
 |xn {a C:Addr}:H a=some (xcO a C none)→AV H (.ref a) (.dict [(.int (C:Nat),.bool false)])
inductive AVs (H:Hp):List V→List PyData→Prop where
 |nil:AVs H [] []
 |cons {x:V} {xs:List V} {d:PyData} {ds:List PyData}:AV H x d→AVs H xs ds→AVs H (x::xs) (d::ds)
inductive AVf (H:Hp):List (Str×V)→List (PyData×PyData)→Prop where
 |nil:AVf H [] []
 |cons {f:Str} {x:V} {fs:List (Str×V)} {d:PyData} {ds:List (PyData×PyData)}:AV H x d→AVf H fs ds→AVf H ((f,x)::fs) ((.str f,d)::ds)
inductive AVk (H:Hp):List (Key×V)→List (PyData×PyData)→Prop where
 |nil:AVk H [] []
 |cons {k:Key} {x:V} {fs:List (Key×V)} {d:PyData} {ds:List (PyData×PyData)}:AV H x d→AVk H fs ds→AVk H ((k,x)::fs) ((jL k,d)::ds)
inductive AVt (H:Hp):List (List Key×V)→List (PyData×PyData)→Prop where
 |nil:AVt H [] []
 |cons {k:List Key} {x:V} {fs:List (List Key×V)} {d:PyData} {ds:List (PyData×PyData)}:AV H x d→AVt H fs ds→AVt H ((k,x)::fs) ((.tuple (k.map jL),d)::ds)
end
mutual
theorem AV.same {H H':Hp}(e:zx H H'):∀{x:V} {d:PyData},AV H x d→AV H' x d
 |_,_,.non=>.non
 |_,_,.bl b=>.bl b
 |_,_,.int i=>.int i
 |_,_,.str x=>.str x
 |_,_,.lst hq hs=>.lst (e _ _ hq) (AVs.same e hs)
 |_,_,.tup hq hs=>.tup (e _ _ hq) (AVs.same e hs)
 |_,_,.ins hq hs=>.ins (e _ _ hq) (AVf.same e hs)
 |_,_,.dk hq hs=>.dk (e _ _ hq) (AVk.same e hs)
 |_,_,.dt hq hs=>.dt (e _ _ hq) (AVt.same e hs)
 |_,_,.xc hq hd hs=>.xc (e _ _ hq) (e _ _ hd) (AVf.same e hs)
 |_,_,.xn hq=>.xn (e _ _ hq)
theorem AVs.same {H H':Hp}(e:zx H H'):∀{xs:List V} {ds:List PyData},AVs H xs ds→AVs H' xs ds
 |_,_,.nil=>.nil
 |_,_,.cons h hs=>.cons (AV.same e h) (AVs.same e hs)
theorem AVf.same {H H':Hp}(e:zx H H'):∀{fs:List (Str×V)} {ds:List (PyData×PyData)},AVf H fs ds→AVf H' fs ds
 |_,_,.nil=>.nil
 |_,_,.cons h hs=>.cons (AV.same e h) (AVf.same e hs)
theorem AVk.same {H H':Hp}(e:zx H H'):∀{fs:List (Key×V)} {ds:List (PyData×PyData)},AVk H fs ds→AVk H' fs ds
 |_,_,.nil=>.nil
 |_,_,.cons h hs=>.cons (AV.same e h) (AVk.same e hs)
theorem AVt.same {H H':Hp}(e:zx H H'):∀{fs:List (List Key×V)} {ds:List (PyData×PyData)},AVt H fs ds→AVt H' fs ds
 |_,_,.nil=>.nil
 |_,_,.cons h hs=>.cons (AV.same e h) (AVt.same e hs)
end
mutual
theorem AV.dv {H:Hp}:∀{x:V} {d:PyData},AV H x d→d.hasDict=false→DV H x d
 |_,_,.non,_=>.non
 |_,_,.bl b,_=>.bl b
 |_,_,.int i,_=>.int i
 |_,_,.str x,_=>.str x
 |_,_,.lst hq hs,h=>.lst hq (AVs.dv hs (by simpa only[PyData.hasDict] using h))
 |_,_,.tup hq hs,h=>.tup hq (AVs.dv hs (by simpa only[PyData.hasDict] using h))
 |_,_,.ins hq hs,h=>by simp[PyData.hasDict] at h
 |_,_,.dk hq hs,h=>by simp[PyData.hasDict] at h
 |_,_,.dt hq hs,h=>by simp[PyData.hasDict] at h
 |_,_,.xc hq _ hs,h=>by simp[PyData.hasDict] at h
 |_,_,.xn hq,h=>by simp[PyData.hasDict] at h
theorem AVs.dv {H:Hp}:∀{xs:List V} {ds:List PyData},AVs H xs ds→PyData.hasDictAll ds=false→DVs H xs ds
 |_,_,.nil,_=>.nil
 |_,_,.cons h hs,e=>by
  simp only[PyData.hasDictAll,Bool.or_eq_false_iff] at e
  exact .cons (AV.dv h e.1) (AVs.dv hs e.2)
end
mutual
theorem DV.av {H:Hp}:∀{x:V} {d:PyData},DV H x d→AV H x d
 |_,_,.non=>.non
 |_,_,.bl b=>.bl b
 |_,_,.int i=>.int i
 |_,_,.str x=>.str x
 |_,_,.lst hq hs=>.lst hq (DVs.av hs)
 |_,_,.tup hq hs=>.tup hq (DVs.av hs)
theorem DVs.av {H:Hp}:∀{xs:List V} {ds:List PyData},DVs H xs ds→AVs H xs ds
 |_,_,.nil=>.nil
 |_,_,.cons h hs=>.cons (DV.av h) (DVs.av hs)
end
theorem AVs.length {H:Hp}:∀{xs:List V} {ds:List PyData},AVs H xs ds→xs.length=ds.length
 |_,_,.nil=>rfl
 |_,_,.cons _ hs=>by rw[zn7,zn7,AVs.length hs]
theorem AVs.append {H:Hp}:∀{xs ys:List V} {ds es:List PyData},AVs H xs ds→AVs H ys es→AVs H (xs++ys) (ds++es)
 |_,_,_,_,.nil,h=>h
 |_,_,_,_,.cons a r,h=>.cons a (AVs.append r h)
theorem AVs.get {H:Hp}:∀{xs:List V} {ds:List PyData} {i:Nat} {d:PyData},AVs H xs ds→ds[i]?=some d→∃x,xs[i]?=some x∧AV H x d
 |_,_,_,_,.nil,e=>by simp at e
 |_,_,0,_,.cons a _,e=>by simp at e;subst e;exact⟨_,rfl,a⟩
 |_,_,i+1,d,.cons _ r,e=>by
  obtain⟨x,h1,h2⟩:=AVs.get (i:=i) (d:=d) r (by simpa using e)
  exact⟨x,by simpa using h1,h2⟩
theorem AVs.take {H:Hp}:∀{xs:List V} {ds:List PyData} (n:Nat),AVs H xs ds→AVs H (xs.take n) (ds.take n)
 |_,_,0,_=>.nil
 |_,_,_+1,.nil=>.nil
 |_,_,n+1,.cons a r=>.cons a (AVs.take n r)
theorem AVs.drop {H:Hp}:∀{xs:List V} {ds:List PyData} (n:Nat),AVs H xs ds→AVs H (xs.drop n) (ds.drop n)
 |_,_,0,r=>r
 |_,_,_+1,.nil=>.nil
 |_,_,n+1,.cons _ r=>AVs.drop n r
theorem AVs.set {H:Hp}{x:V}{d:PyData}(a:AV H x d):∀{xs:List V} {ds:List PyData} (i:Nat),AVs H xs ds→AVs H (xs.set i x) (ds.set i d)
 |_,_,_,.nil=>.nil
 |_,_,0,.cons _ r=>.cons a r
 |_,_,i+1,.cons q r=>.cons q (AVs.set a i r)
theorem AVs.atI {H:Hp}{xs:List V}{ds:List PyData}{i:Int}{d:PyData}(h:AVs H xs ds)(e:atI ds i=some d):∃x,L2.atI xs i=some x∧AV H x d:=by
 unfold L2.atI at e ⊢
 rw[h.length]
 cases q:ixN ds.length i with
 |none=>rw[q] at e;cases e
 |some j=>
  rw[q] at e
  exact h.get (i:=j) e
def cutD (ds:List PyData)(lo hi:Option Int):List PyData:=(ds.drop (HT.sIx ds.length 0 lo)).take (HT.sIx ds.length ds.length hi-HT.sIx ds.length 0 lo)
theorem AVs.cut {H:Hp}{xs:List V}{ds:List PyData}(h:AVs H xs ds)(lo hi:Option Int):AVs H (qP xs lo hi) (cutD ds lo hi):=by
 unfold qP cutD
 rw[h.length]
 exact (h.drop _).take _
mutual
def noL :PyData→Bool
 |.list _=>false
 |.dict ((.none,_)::_)=>false
 |.dict kvs=>nk kvs
 |.tuple ds=>ux ds
 |_=>true
def ux :List PyData→Bool
 |[]=>true
 |d::r=>noL d&&ux r
def nk :List (PyData×PyData)→Bool
 |[]=>true
 |(_,d)::r=>noL d&&nk r
end
def Ob :HO→Prop
 |.lst _=>True
 |.dK _=>True
 |.frz _ _=>True
 |_=>False
mutual
theorem AV.noL {H H':Hp}(e:∀a o,¬Ob o→H a=some o→H' a=some o):∀{x:V} {d:PyData},AV H x d→noL d=true→AV H' x d
 |_,_,.non,_=>.non
 |_,_,.bl b,_=>.bl b
 |_,_,.int i,_=>.int i
 |_,_,.str x,_=>.str x
 |_,_,.lst _ _,h=>by simp[L2.noL] at h
 |_,_,.tup hq hs,h=>.tup (e _ _ (fun z=>z) hq) (AVs.noL e hs (by simpa only[L2.noL] using h))
 |_,_,.ins hq hs,h=>.ins (e _ _ (fun z=>z) hq) (AVf.noL e hs (by simpa[L2.noL,L2.nk] using h))
 |_,_,.dk _ _,h=>by simp[L2.noL] at h
 |_,_,.dt _ _,h=>by simp[L2.noL] at h
 |_,_,.xc hq hd hs,h=>.xc (e _ _ (fun z=>z) hq) (e _ _ (fun z=>z) hd) (AVf.noL e hs (by simpa[L2.noL,L2.nk] using h))
 |_,_,.xn hq,h=>.xn (e _ _ (fun z=>z) hq)
theorem AVs.noL {H H':Hp}(e:∀a o,¬Ob o→H a=some o→H' a=some o):∀{xs:List V} {ds:List PyData},AVs H xs ds→ux ds=true→AVs H' xs ds
 |_,_,.nil,_=>.nil
 |_,_,.cons h hs,q=>by
  simp only[L2.ux,zo6] at q
  exact .cons (AV.noL e h q.1) (AVs.noL e hs q.2)
theorem AVf.noL {H H':Hp}(e:∀a o,¬Ob o→H a=some o→H' a=some o):∀{fs:List (Str×V)} {ds:List (PyData×PyData)},AVf H fs ds→nk ds=true→AVf H' fs ds
 |_,_,.nil,_=>.nil
 |_,_,.cons h hs,q=>by
  simp only[L2.nk,zo6] at q
  exact .cons (AV.noL e h q.1) (AVf.noL e hs q.2)
end
structure Fr where
 H0:Hp
 O0:Addr→Prop
 tp:Option (Addr×Addr×Addr)
inductive A where
 |dat (d:PyData)
 |ow (c:PyData)
 |deep (d:PyData) (S:Addr→Prop)
 |tape
 |at (l:Addr)
 |exc (r:Fr) (q:PyData→Prop)
@[reducible] def A.own (ds:List PyData):A:=.ow (.list ds)
abbrev cu (ds:List (PyData×PyData)):PyData:=.dict ((.none,.none)::ds)
abbrev Ev :=List (Option A)
def wb (o:HO):Prop:=∀ts,o≠.tup ts
theorem yL {xs:List V}:wb (.lst xs):=fun _ z=>by cases z
theorem Ob.notup {o:HO}(h:Ob o):wb o:=fun ts z=>by subst z;exact h
def NT (F:Fr)(x:Addr):Prop:=(∀t b c,F.tp=some (t,b,c)→x≠t∧x≠b)∧¬uL x
def Kz (F:Fr)(H H':Hp):Prop:=∀x o,H x=some o→NT F x→H' x=some o
structure zK (F:Fr)(H:Hp):Prop where
 tab:TabAt H
 ot:∀x,uL x→F.O0 x
 all:∀t b c,F.tp=some (t,b,c)→yr H t b c∧F.O0 t∧F.O0 b∧F.O0 c
instance {F:Fr} {H:Hp}:CoeFun (zK F H) (fun _=>∀t b c,F.tp=some (t,b,c)→yr H t b c∧F.O0 t∧F.O0 b∧F.O0 c):=⟨zK.all⟩
theorem zK.to {F F':Fr}{H:Hp}(t:zK F H)(hp:F'.tp=F.tp)(ho:∀x,F.O0 x→F'.O0 x):zK F' H:=⟨t.tab,fun x h=>ho x (t.ot x h),fun a b c e=>by
 obtain⟨h1,h2,h3,h4⟩:=t a b c (hp▸e)
 exact⟨h1,ho _ h2,ho _ h3,ho _ h4⟩⟩
theorem zK.re {F F':Fr}{H H':Hp}(t:zK F H)(t':zK F' H')(hp:F'.tp=F.tp):zK F H':=⟨t'.tab,t.ot,fun a b c e=>⟨(t' a b c (hp▸e)).1,(t a b c e).2⟩⟩
theorem zK.upd {F:Fr}{H:Hp}{l:Addr}{o:HO}(t:zK F H)(h:∀a b c,F.tp=some (a,b,c)→l≠a∧l≠b∧l≠c)(hp:Plain H l):zK F (upd H l o):=⟨cD t.tab hp,t.ot,fun a b c e=>⟨iD (t a b c e).1 (h a b c e),(t a b c e).2⟩⟩
theorem zK.updO {F:Fr}{H:Hp}{l:Addr}{o:HO}(t:zK F H)(h:¬F.O0 l)(hp:Plain H l):zK F (L2.upd H l o):=t.upd (fun a b c e=>⟨fun z=>h (by rw[z];exact (t a b c e).2.1),fun z=>h (by rw[z];exact (t a b c e).2.2.1),fun z=>h (by rw[z];exact (t a b c e).2.2.2)⟩) hp
def foot (s:Option V):A→Addr→Prop
 |.ow _,x=>s=some (.ref x)
 |.deep _ S,x=>S x
 |_,_=>False
def Ow (F:Fr)(α:Ev)(σ:St)(x:Addr):Prop:=F.O0 x∨∃(i:Nat) (a:A) (s:Option V),α[i]?=some (some a)∧σ[i]?=some s∧foot s a x
noncomputable abbrev Gz (F:Fr)(α:Ev)(σ:St)(H:Hp):Hp:=sub (fun x=>¬Ow F α σ x) H
noncomputable def oE (S:Addr→Prop)(G H:Hp):Hp:=fun x=>open Classical in if S x then H x else match G x with
 |some (.lst _)=>none
 |o=>o
theorem rg {S:Addr→Prop}{G G' H H':Hp}(h:zx G G')(hS:∀x o,S x→H x=some o→H' x=some o):zx (oE S G H) (oE S G' H'):=fun x o e=>by
 unfold oE at e ⊢
 by_cases z:S x
 ·rw[if_pos z] at e ⊢;exact hS x o z e
 ·rw[if_neg z] at e ⊢
  cases q:G x with
  |none=>rw[q] at e;cases e
  |some u=>
   rw[h _ _ q]
   rw[q] at e
   exact e
theorem jQ {S:Addr→Prop}{G H:Hp}{x:Addr}{o:HO}(h:oE S G H x=some o):(S x∧H x=some o)∨(¬S x∧G x=some o):=by
 unfold oE at h
 by_cases z:S x
 ·rw[if_pos z] at h;exact .inl ⟨z,h⟩
 ·rw[if_neg z] at h
  split at h
  ·cases h
  ·exact .inr ⟨z,h⟩
inductive yO (G:Hp):HO→PyData→Prop where
 |lst {xs:List V} {ds:List PyData}:AVs G xs ds→yO G (.lst xs) (.list ds)
 |dk {kvs:List (Key×V)} {ds:List (PyData×PyData)}:AVk G kvs ds→yO G (.dK kvs) (cu ds)
theorem yO.ob {G:Hp}{o:HO}{c:PyData}(h:yO G o c):Ob o:=by cases h<;>trivial
theorem yO.same {G G':Hp}{o:HO}{c:PyData}(h:yO G o c)(s:zx G G'):yO G' o c:=by
 cases h with
 |lst h=>exact .lst (h.same s)
 |dk h=>exact .dk (h.same s)
theorem yO.av {G:Hp}{o:HO}{ds:List PyData}{l:Addr}(h:yO G o (.list ds))(e:G l=some o):AV G (.ref l) (.list ds):=by
 cases h with
 |lst h=>exact .lst e h
theorem yO.lst_inv {G:Hp}{o:HO}{ds:List PyData}(h:yO G o (.list ds)):∃xs,o=.lst xs∧AVs G xs ds:=by cases h;exact⟨_,rfl,by assumption⟩
theorem yO.plain {G H:Hp}{o:HO}{c:PyData}{l:Addr}(h:yO G o c)(e:H l=some o):Plain H l:=by
 cases h with
 |lst h=>exact sZ e
 |dk h=>exact gE e
structure Lnk (r F:Fr)(H:Hp):Prop where
 tp:r.tp=F.tp
 o:∀x,r.O0 x→F.O0 x
 ok:zK r H
 k:Kz r r.H0 H
def vg (G:Hp)(F:Fr)(H:Hp)(s:Option V):A→Prop
 |.dat d=>∃v,s=some v∧AV G v d
 |.ow c=>∃l o,s=some (.ref l)∧H l=some o∧yO G o c∧¬F.O0 l∧F.H0 l=none
 |.deep d S=>∃v,s=some v∧AV (oE S G H) v d∧∀x,S x→¬F.O0 x∧F.H0 x=none∧∃xs,H x=some (.lst xs)
 |.tape=>∃t b c,F.tp=some (t,b,c)∧s=some (.ref t)
 |.at l=>s=some (.ref l)
 |.exc r _=>Lnk r F H
structure M (F:Fr)(α:Ev)(σ:St)(H:Hp):Prop where
 len:α.length=σ.length
 ok:∀(i:Nat) (a:A) (s:Option V),α[i]?=some (some a)→σ[i]?=some s→vg (Gz F α σ H) F H s a
 dj:∀(i j:Nat) (a b:A) (s t:Option V) (x:Addr),α[i]?=some (some a)→α[j]?=some (some b)→σ[i]?=some s→σ[j]?=some t→foot s a x→foot t b x→i=j
 xd:∀(i:Nat) (r:Fr) (q:PyData→Prop),α[i]?=some (some (.exc r q))→∀(j:Nat) (a:A) (s:Option V) (x:Addr),α[j]?=some (some a)→σ[j]?=some s→foot s a x→r.H0 x=none
 tp:zK F H
 keep:Kz F F.H0 H
 oex:∀x,F.O0 x→∃o,H x=some o∧wb o
theorem M.at' {F:Fr}{α:Ev}{σ:St}{H:Hp}(m:M F α σ H){i:Nat}{a:Option A}(e:α[i]?=some a):∃s,σ[i]?=some s:=by
 have:i<σ.length:=by rw[←m.len];exact (zm8.mp e).1
 exact⟨_,zm9 this⟩
theorem qE {G:Hp}{F:Fr}{H:Hp}{s:Option V}{a:A}{x:Addr}(h:vg G F H s a)(f:foot s a x):¬F.O0 x∧F.H0 x=none∧∃o,H x=some o∧Ob o:=by
 cases a with
 |ow c=>
  obtain⟨l,o,h1,h2,h3,h4,h5⟩:=h
  have f':s=some (.ref x):=f
  rw[f'] at h1;cases h1
  exact⟨h4,h5,o,h2,h3.ob⟩
 |deep d S=>
  obtain⟨v,h1,h2,h3⟩:=h
  obtain⟨z1,z2,xs,z3⟩:=h3 x f
  exact⟨z1,z2,_,z3,trivial⟩
 |dat d=>exact f.elim
 |tape=>exact f.elim
 |«at» l=>exact f.elim
 |exc r q=>exact f.elim
theorem Lnk.kz {r F:Fr}{H H':Hp}(l:Lnk r F H)(k:Kz F H H')(t:zK F H'):Lnk r F H':=⟨l.tp,l.o,l.ok.re t l.tp.symm,fun x o e n=>k x o (l.k x o e n) ⟨fun a b c z=>n.1 a b c (l.tp.trans z),n.2⟩⟩
theorem Lnk.none {r F:Fr}{H:Hp}(l:Lnk r F H){x:Addr}(h:H x=Option.none):r.H0 x=Option.none:=by
 cases q:r.H0 x with
 |none=>rfl
 |some o=>rw[l.k x o q ⟨fun a b c e=>⟨((l.ok a b c e).1.free h).1,((l.ok a b c e).1.free h).2.1⟩,pA l.ok.tab h⟩] at h;cases h
def noX :A→Prop
 |.exc _ _=>False
 |_=>True
theorem vg.stay {G G':Hp}{F F':Fr}{H H':Hp}{s:Option V}{a:A}(h:vg G F H s a)(g:zx G G')(hf:∀x o,foot s a x→H x=some o→H' x=some o∧¬F'.O0 x∧F'.H0 x=none)(hp:F'.tp=F.tp)(hl:∀r q,a=.exc r q→Lnk r F H→Lnk r F' H'):vg G' F' H' s a:=by
 cases a with
 |dat d=>obtain⟨v,h1,h2⟩:=h;exact⟨v,h1,h2.same g⟩
 |ow c=>
  obtain⟨l,o,h1,h2,h3,h4,h5⟩:=h
  obtain⟨z1,z2,z3⟩:=hf l o h1 h2
  exact⟨l,o,h1,z1,h3.same g,z2,z3⟩
 |deep d S=>
  obtain⟨v,h1,h2,h3⟩:=h
  refine⟨v,h1,h2.same (rg g fun x o z e=>(hf x o z e).1),fun x z=>?_⟩
  obtain⟨_,_,xs,e⟩:=h3 x z
  obtain⟨z1,z2,z3⟩:=hf x _ z e
  exact⟨z2,z3,xs,z1⟩
 |tape=>obtain⟨t,b,c,e,z⟩:=h;exact⟨t,b,c,hp.trans e,z⟩
 |«at» l=>exact h
 |exc r q=>exact hl r q rfl h
section
variable {F:Fr}{α:Ev}{σ:St}{H H' H'':Hp}
theorem M.dat (m:M F α σ H)(i:Nat)(d:PyData)(e:α[i]?=some (some (.dat d))):∃v,σ[i]?=some (some v)∧AV (Gz F α σ H) v d:=by
 obtain⟨s,hs⟩:=m.at' e
 obtain⟨v,rfl,h⟩:=m.ok i _ s e hs
 exact⟨v,hs,h⟩
theorem M.owc (m:M F α σ H)(i:Nat)(c:PyData)(e:α[i]?=some (some (.ow c))):∃l o,σ[i]?=some (some (.ref l))∧H l=some o∧yO (Gz F α σ H) o c∧¬F.O0 l∧F.H0 l=none:=by
 obtain⟨s,hs⟩:=m.at' e
 obtain⟨l,o,rfl,h⟩:=m.ok i _ s e hs
 exact⟨l,o,hs,h⟩
theorem M.own (m:M F α σ H)(i:Nat)(ds:List PyData)(e:α[i]?=some (some (.own ds))):∃l xs,σ[i]?=some (some (.ref l))∧H l=some (.lst xs)∧AVs (Gz F α σ H) xs ds∧¬F.O0 l∧F.H0 l=none:=by
 obtain⟨l,o,h1,h2,h3,h4⟩:=m.owc i _ e
 obtain⟨xs,rfl,h5⟩:=h3.lst_inv
 exact⟨l,xs,h1,h2,h5,h4⟩
theorem M.tvar (m:M F α σ H)(i:Nat)(e:α[i]?=some (some .tape)):∃t b c,F.tp=some (t,b,c)∧σ[i]?=some (some (.ref t)):=by
 obtain⟨s,hs⟩:=m.at' e
 obtain⟨t,b,c,h,rfl⟩:=m.ok i _ s e hs
 exact⟨t,b,c,h,hs⟩
theorem M.lnk (m:M F α σ H){i:Nat}{r:Fr}{q:PyData→Prop}(e:α[i]?=some (some (.exc r q))):Lnk r F H:=by
 obtain⟨s,hs⟩:=m.at' e
 exact m.ok i _ s e hs
theorem Kz.refl :Kz F H H:=fun _ _ e _=>e
theorem Kz.trans (h:Kz F H H')(k:Kz F H' H''):Kz F H H'':=fun x o e n=>k x o (h x o e n) n
theorem Kz.of_same (h:zx H H'):Kz F H H':=fun x o e _=>h x o e
theorem zK.same (t:zK F H)(h:zx H H'):zK F H':=⟨hU t.tab h,t.ot,fun a b c e=>⟨kJ (t a b c e).1 h,(t a b c e).2⟩⟩
theorem zK.nt (t:zK F H){x:Addr}(h:¬F.O0 x):NT F x:=⟨fun a b c e=>⟨fun z=>h (z▸(t a b c e).2.1),fun z=>h (z▸(t a b c e).2.2.1)⟩,fun z=>h (t.ot x z)⟩
theorem ow0 {x:Addr}(h:¬Ow F α σ x):¬F.O0 x:=fun z=>h (.inl z)
theorem Kz.gz (k:Kz F H H')(t:zK F H):zx (Gz F α σ H) (Gz F α σ H'):=zr fun a o h e=>⟨h,k a o e (t.nt (ow0 h))⟩
theorem M.oex' (t:zK F H')(k:Kz F H H')(h:∀x,F.O0 x→∃o,H x=some o∧wb o):∀x,F.O0 x→∃o,H' x=some o∧wb o:=fun x hx=>by
 by_cases n:NT F x
 ·obtain⟨o,ho,hn⟩:=h x hx
  exact⟨o,k _ _ ho n,hn⟩
 ·by_cases z:uL x
  ·obtain⟨o,ho,hn,_⟩:=rQ t.tab z
   exact⟨o,ho,hn⟩
  ·have:∃a b c,F.tp=some (a,b,c)∧¬(x≠a∧x≠b):=by
    refine Classical.byContradiction fun q=>n ⟨fun a b c e=>?_,z⟩
    exact Classical.byContradiction fun w=>q ⟨a,b,c,e,w⟩
   obtain⟨a,b,c,e,w⟩:=this
   obtain⟨n,bs,cs,_,e1,e2,e3,_⟩:=(t a b c e).1.ex
   by_cases xa:x=a
   ·exact⟨_,xa▸e1,yL⟩
   ·by_cases xb:x=b
    ·exact⟨_,xb▸e2,yL⟩
    ·exact absurd ⟨xa,xb⟩ w
theorem M.kz (m:M F α σ H)(k:Kz F H H')(t:zK F H'):M F α σ H' where
 len:=m.len
 ok:=fun i a s e1 e2=>(m.ok i a s e1 e2).stay (k.gz m.tp) (fun x o hf e=>by
  obtain⟨h1,h2,_⟩:=qE (m.ok i a s e1 e2) hf
  exact⟨k x o e (m.tp.nt h1),h1,h2⟩) rfl fun r _ _ l=>l.kz k t
 dj:=m.dj
 xd:=m.xd
 tp:=t
 keep:=m.keep.trans k
 oex:=M.oex' t k m.oex
theorem M.ft (m:M F α σ H){i:Nat}{a:A}{s:Option V}{x:Addr}(e1:α[i]?=some (some a))(e2:σ[i]?=some s)(f:foot s a x):¬F.O0 x∧F.H0 x=none∧∃o,H x=some o∧Ob o:=qE (m.ok i a s e1 e2) f
theorem M.owEx (m:M F α σ H){x:Addr}(h:Ow F α σ x):∃o,H x=some o∧wb o:=by
 rcases h with z|⟨i,a,s,e1,e2,f⟩
 ·exact m.oex x z
 ·obtain⟨_,_,o,ho,hb⟩:=m.ft e1 e2 f
  exact⟨o,ho,hb.notup⟩
theorem M.fresh (m:M F α σ H){l:Addr}(h:H l=none):¬Ow F α σ l:=fun z=>by
 obtain⟨o,ho,_⟩:=m.owEx z
 rw[h] at ho;cases ho
theorem M.fresh0 (m:M F α σ H){l:Addr}(h:H l=none):F.H0 l=none:=by
 cases q:F.H0 l with
 |none=>rfl
 |some o=>rw[m.keep l o q (m.tp.nt fun z=>m.fresh h (.inl z))] at h;cases h
theorem M.old (m:M F α σ H):zx (sub (fun x=>¬F.O0 x) F.H0) (Gz F α σ H):=fun a o e=>by
 obtain⟨h1,h2⟩:=zj e
 refine zR ?_ (m.keep a o h2 (m.tp.nt h1))
 rintro (z|⟨i,b,s,e1,e2,f⟩)
 ·exact h1 z
 ·obtain⟨_,z,_⟩:=m.ft e1 e2 f
  rw[h2] at z;cases z
noncomputable def Fr.up (F:Fr)(G:Hp):Fr:={F with H0:=fun x=>(F.H0 x).or (G x)}
theorem rK {G:Hp}{x:Addr}{o:HO}(h:F.H0 x=some o):(F.up G).H0 x=some o:=by show (F.H0 x).or (G x)=some o;rw[h];rfl
theorem lF {G:Hp}{x:Addr}(h:(F.up G).H0 x=none):F.H0 x=none:=by
 cases q:F.H0 x with
 |none=>rfl
 |some o=>rw[rK q] at h;cases h
theorem M.up (m:M F α σ H):M (F.up (Gz F α σ H)) α σ H where
 len:=m.len
 ok:=fun i a s e1 e2=>(m.ok i a s e1 e2).stay (fun _ _ e=>e) (fun x o hf e=>by
  obtain⟨h1,h2,_⟩:=m.ft e1 e2 hf
  refine⟨e,h1,?_⟩
  show (F.H0 x).or (Gz F α σ H x)=none
  rw[h2]
  show Gz F α σ H x=none
  cases q:Gz F α σ H x with
  |none=>rfl
  |some o=>exact absurd (.inr ⟨i,a,s,e1,e2,hf⟩) (zj q).1) rfl fun r _ _ l=>⟨l.tp,l.o,l.ok,l.k⟩
 dj:=m.dj
 xd:=m.xd
 tp:=m.tp.to rfl fun _ z=>z
 keep:=fun x o e n=>by
  have e':(F.H0 x).or (Gz F α σ H x)=some o:=e
  cases q:F.H0 x with
  |none=>rw[q,Option.none_or] at e';exact (zj e').2
  |some o'=>rw[q] at e';cases e';exact m.keep x _ q n
 oex:=m.oex
theorem M.down {G:Hp}(m:M (F.up G) α σ H):M F α σ H where
 len:=m.len
 ok:=fun i a s e1 e2=>(m.ok i a s e1 e2).stay (fun _ _ e=>e) (fun x o hf e=>by
  obtain⟨h1,h2,_⟩:=m.ft e1 e2 hf
  exact⟨e,h1,lF h2⟩) rfl fun r _ _ l=>⟨l.tp,l.o,l.ok,l.k⟩
 dj:=m.dj
 xd:=m.xd
 tp:=m.tp.to rfl fun _ z=>z
 keep:=fun x o e n=>m.keep x o (rK e) n
 oex:=m.oex
theorem M.upold {α0:Ev}{σ0:St}{H1:Hp}(m0:M F α0 σ0 H1)(m:M (F.up (Gz F α0 σ0 H1)) α σ H):zx (Gz F α0 σ0 H1) (Gz F α σ H):=fun a o e=>by
 obtain⟨h1,h2⟩:=zj e
 have e0:(F.up (Gz F α0 σ0 H1)).H0 a=some o:=by
  show (F.H0 a).or (Gz F α0 σ0 H1 a)=some o
  cases q:F.H0 a with
  |none=>exact e
  |some o'=>
   have:=m0.keep a o' q (m0.tp.nt (ow0 h1))
   rw[h2] at this;cases this;rfl
 exact m.old a o (zR (p:=fun x=>¬F.O0 x) (ow0 h1) e0)
end
def yD (F:Fr)(α:Ev)(σ:St)(H:Hp)(v:V)(H':Hp)(ds:List PyData):Prop:=
 ∃l xs,v=.ref l∧H l=none∧H' l=some (.lst xs)∧AVs (sub (fun x=>¬Ow F α σ x∧x≠l) H') xs ds
def jU (F:Fr)(α:Ev)(σ:St)(H:Hp)(v:V)(H':Hp)(c:PyData):Prop:=
 ∃l o,v=.ref l∧H l=none∧H' l=some o∧yO (sub (fun x=>¬Ow F α σ x∧x≠l) H') o c
theorem yD.c {F:Fr}{α:Ev}{σ:St}{H H':Hp}{v:V}{ds:List PyData}(h:yD F α σ H v H' ds):jU F α σ H v H' (.list ds):=by
 obtain⟨l,xs,h1,h2,h3,h4⟩:=h
 exact⟨l,_,h1,h2,h3,.lst h4⟩
theorem yD.av {F:Fr}{α:Ev}{σ:St}{H H':Hp}{v:V}{ds:List PyData}(m:M F α σ H)(h:yD F α σ H v H' ds):AV (Gz F α σ H') v (.list ds):=by
 obtain⟨l,xs,rfl,h1,h2,h3⟩:=h
 exact .lst (zR (m.fresh h1) h2) (h3.same (zr fun a o h e=>⟨h.1,e⟩))
section
variable (X:Cx)(α:Ev)
def EvD (e:Expr)(Q:PyData→Prop):Prop:=∀(F:Fr) (σ:St) (H:Hp) (R:VK),M F α σ H→(∀d v H',Q d→zK F H'→Kz F H H'→AV (Gz F α σ H') v d→R v H')→uz X e σ H R
def EvL (e:Expr)(Q:List PyData→Prop):Prop:=∀(F:Fr) (σ:St) (H:Hp) (R:VK),M F α σ H→(∀ds v H',Q ds→zK F H'→Kz F H H'→yD F α σ H v H' ds→R v H')→uz X e σ H R
def EvT (e:Expr)(Q:Bool→Prop):Prop:=∀(F:Fr) (σ:St) (H:Hp) (R:Bool→Hp→Prop),M F α σ H→(∀b H',Q b→zK F H'→Kz F H H'→R b H')→ze5 X e σ H R
def jw (F:Fr)(G:Hp)(v:V):A→Prop
 |.dat d=>AV G v d
 |.tape=>∃t b c,F.tp=some (t,b,c)∧v=.ref t
 |_=>False
inductive zU (F:Fr)(G:Hp):List V→List A→Prop where
 |nil:zU F G [] []
 |cons {v:V} {vs:List V} {a:A} {as:List A}:jw F G v a→zU F G vs as→zU F G (v::vs) (a::as)
def EvA (es:List Expr)(Q:List A→Prop):Prop:=∀(F:Fr) (σ:St) (H:Hp) (R:List V→Hp→Prop),M F α σ H→(∀as vs H',Q as→zK F H'→Kz F H H'→zU F (Gz F α σ H') vs as→R vs H')→zd7 X es σ H R
end
theorem jw.to {F F':Fr}{G G':Hp}(s:zx G G')(hp:F'.tp=F.tp){v:V}:∀{a:A},jw F G v a→jw F' G' v a
 |.dat _,h=>AV.same s h
 |.tape,⟨t,b,c,e,z⟩=>⟨t,b,c,hp.trans e,z⟩
 |.ow _,h=>h
 |.deep _ _,h=>h
 |.at _,h=>h
 |.exc _ _,h=>h
theorem zU.to {F F':Fr}{G G':Hp}(s:zx G G')(hp:F'.tp=F.tp):∀{vs:List V} {as:List A},zU F G vs as→zU F' G' vs as
 |_,_,.nil=>.nil
 |_,_,.cons h r=>.cons (h.to s hp) (zU.to s hp r)
theorem zU.length {F:Fr}{G:Hp}:∀{vs:List V} {as:List A},zU F G vs as→vs.length=as.length
 |_,_,.nil=>rfl
 |_,_,.cons _ r=>by rw[zn7,zn7,zU.length r]
def A.d :A→PyData
 |.dat d=>d
 |.ow c=>c
 |.deep d _=>d
 |_=>.none
def dq (F:Fr)(v:V)(H':Hp):A→Prop
 |.dat d=>AV (sub (fun x=>¬F.O0 x) H') v d
 |.ow c=>∃l xs ds,v=.ref l∧c=.list ds∧F.H0 l=none∧¬F.O0 l∧H' l=some (.lst xs)∧AVs (sub (fun x=>¬F.O0 x∧x≠l) H') xs ds
 |.deep d S=>AV (oE S (sub (fun x=>¬F.O0 x) H') H') v d∧∀x,S x→¬F.O0 x∧F.H0 x=none∧∃xs,H' x=some (.lst xs)
 |_=>False
def wc (F:Fr)(v:V)(H':Hp)(a:A):Prop:=zK F H'∧Kz F F.H0 H'∧dq F v H' a
def spA (φ:List A→(A→Prop)→Prop):Sp:=fun vs H Qc _=>∃(F:Fr) (as:List A) (Q:A→Prop),F.H0=H∧zK F H∧(∀x,F.O0 x→∃o,H x=some o∧wb o)∧zU F (sub (fun x=>¬F.O0 x) H) vs as∧φ as Q∧∀a v H',Q a→wc F v H' a→Qc v H'
theorem dq.to {F F':Fr}{v:V}{H':Hp}{a:A}(r:dq F v H' a)(ho:∀x,F'.O0 x→F.O0 x)(h0:∀x,F.H0 x=none→F'.H0 x=none):dq F' v H' a:=by
 have s:zx (sub (fun x=>¬F.O0 x) H') (sub (fun x=>¬F'.O0 x) H'):=zr fun a o h e=>⟨fun z=>h (ho _ z),e⟩
 cases a with
 |dat d=>exact AV.same s r
 |ow c=>
  obtain⟨l,xs,ds,h1,hc,h2,h3,h4,h5⟩:=r
  exact⟨l,xs,ds,h1,hc,h0 _ h2,fun z=>h3 (ho _ z),h4,h5.same (zr fun a o h e=>⟨⟨fun z=>h.1 (ho _ z),h.2⟩,e⟩)⟩
 |deep d S=>
  obtain⟨h1,h2⟩:=r
  refine⟨h1.same (rg s fun _ _ _ e=>e),fun x z=>?_⟩
  obtain⟨z1,z2,z3⟩:=h2 x z
  exact⟨fun w=>z1 (ho _ w),h0 _ z2,z3⟩
 |tape=>exact r
 |«at» _=>exact r
 |exc _ _=>exact r
structure xg where
 nx:Ev→Prop
 rt:A→Prop
 bk:Ev→Prop:=fun _=>False
 ct:Ev→Prop:=fun _=>False
structure qW (F:Fr)(E:xg)(D:Ends):Prop where
 nx:∀α σ H,M F α σ H→E.nx α→D.nx σ H
 rt:∀a v H,wc F v H a→E.rt a→D.rt v H
 bk:∀α σ H,M F α σ H→E.bk α→D.bk σ H
 ct:∀α σ H,M F α σ H→E.ct α→D.ct σ H
def SvS (X:Cx)(α:Ev)(sts:List Stmt)(E:xg):Prop:=∀(F:Fr) (σ:St) (H:Hp) (D:Ends),M F α σ H→qW F E D→kq X sts D σ H
theorem qW.up {F:Fr}{G:Hp}{E:xg}{D:Ends}(e:qW F E D):qW (F.up G) E D where
 nx:=fun α σ H m q=>e.nx α σ H m.down q
 bk:=fun α σ H m q=>e.bk α σ H m.down q
 ct:=fun α σ H m q=>e.ct α σ H m.down q
 rt:=fun a v H r q=>e.rt a v H (by
  obtain⟨t,k,r⟩:=r
  exact⟨t.to rfl fun _ z=>z,fun x o e n=>k x o (rK e) n,r.to (fun _ z=>z) fun x z=>lF z⟩) q
section
variable {X:Cx}{α:Ev}{e a b c:Expr}{es:List Expr}{pos p q:Pos}{Q:PyData→Prop}
theorem EvL.d (h:EvL X α e (fun ds=>Q (.list ds))):EvD X α e Q:=fun F σ H R m k=>h F σ H R m fun ds v H' q t z f=>k _ v H' q t z (f.av m)
theorem EvD.imp {Q':PyData→Prop}(h:EvD X α e Q')(k:∀d,Q' d→Q d):EvD X α e Q:=fun F σ H R m r=>h F σ H R m fun d v H' q=>r d v H' (k d q)
theorem zi (i:Nat){x:Str}{d:PyData}(hi:α[i]?=some (some (.dat d)))(q:Q d)(hN:X.N[i]?=some x:=by rfl)(hv:Vis X.env.scope x:=by first|exact Or.inl rfl|exact Or.inr (Or.inl rfl)|exact Or.inr (Or.inr rfl))
  (hd:(x == ("__debug__":Str))=false:=by decide) (hcd:(x == ("__classdict__":Str))=false:=by decide):EvD X α (.Name x pos) Q:=fun F σ H R m k=>by
 obtain⟨v,h1,h2⟩:=m.dat i d hi
 exact⟨_,yB hN hv hd hcd,v,h1,k d v H q m.tp Kz.refl h2⟩
theorem yZ {i:Int}{j:Nat}(q:Q (.int i)):EvD X α (.Constant (.int i) j pos) Q:=fun F σ H R m k=>⟨_,zm,k _ _ H q m.tp Kz.refl (.int i)⟩
theorem bf {i:Bool}{j:Nat}(q:Q (.bool i)):EvD X α (.Constant (.bool i) j pos) Q:=fun F σ H R m k=>⟨_,ze9,k _ _ H q m.tp Kz.refl (.bl i)⟩
theorem oH {j:Nat}(q:Q .none):EvD X α (.Constant .none j pos) Q:=fun F σ H R m k=>⟨_,qF,k _ _ H q m.tp Kz.refl .non⟩
theorem uV {x:Str}{j:Nat}(q:Q (.str x)):EvD X α (.Constant (.str x) j pos) Q:=fun F σ H R m k=>⟨_,zX,k _ _ H q m.tp Kz.refl (.str x)⟩
theorem iO {x:Str}{i:Int}(hg:Gl X x)(hm:∃t,X.mg x=some (.int i t))(q:Q (.int i))(hd:(x == ("__debug__":Str))=false:=by decide):EvD X α (.Name x pos) Q:=fun F σ H R m k=>by
 obtain⟨t,hm⟩:=hm
 exact⟨_,wQ hg hm (show RelV (.int i) (.int i t) from ⟨t,rfl⟩) hd,k _ _ H q m.tp Kz.refl (.int i)⟩
theorem tH {f:TE→TE→TE}(hf:PE X e (f (uz X a) (uz X b)))(hr:∀σ H R,f (uz X a) (uz X b) σ H R↔uz X a σ H (fun x H1=>uz X b σ H1 fun y H2=>f (tC x) (tC y) σ H2 R))
  (h:EvD X α a fun x=>EvD X α b fun y=>∀(F:Fr) (σ:St) (H:Hp) (vx vy:V) (R:VK),M F α σ H→AV (Gz F α σ H) vx x→AV (Gz F α σ H) vy y→(∀d v H',Q d→zK F H'→Kz F H H'→AV (Gz F α σ H') v d→R v H')→f (tC vx) (tC vy) σ H R):
  EvD X α e Q:=fun F σ H R m k=>by
 refine⟨_,hf,(hr σ H R).mpr ?_⟩
 refine h F σ H _ m fun x vx H1 q1 t1 k1 r1=>?_
 have m1:=m.kz k1 t1
 refine q1 F σ H1 _ m1 fun y vy H2 q2 t2 k2 r2=>?_
 exact q2 F σ H2 vx vy R (m1.kz k2 t2) (r1.same (k2.gz m1.tp)) r2 fun d v H' qd t3 k3 r3=>k d v H' qd t3 ((k1.trans k2).trans k3) r3
theorem AV.int_inv {H:Hp}{v:V}{i:Int}(h:AV H v (.int i)):v=.int i:=by cases h;rfl
theorem AV.bl_inv {H:Hp}{v:V}{i:Bool}(h:AV H v (.bool i)):v=.bl i:=by cases h;rfl
theorem AV.str_inv {H:Hp}{v:V}{i:Str}(h:AV H v (.str i)):v=.str i:=by cases h;rfl
theorem AV.tup_inv {H:Hp}{v:V}{ds:List PyData}(h:AV H v (.tuple ds)):∃a xs,v=.ref a∧H a=some (.tup xs)∧AVs H xs ds:=by cases h;exact⟨_,_,rfl,by assumption,by assumption⟩
theorem AV.lst_inv {H:Hp}{v:V}{ds:List PyData}(h:AV H v (.list ds)):∃a xs,v=.ref a∧H a=some (.lst xs)∧AVs H xs ds:=by cases h;exact⟨_,_,rfl,by assumption,by assumption⟩
theorem AV.non_inv {H:Hp}{v:V}(h:AV H v .none):v=.non:=by cases h;rfl
theorem AV.isnon {H:Hp}{v:V}{d:PyData}(h:AV H v d):decide (v=.non)=(match d with|.none=>true|_=>false):=by cases h<;>simp
theorem bV {op:Operator}{C:Int→Int→Prop}{g:Int→Int→V}{gd:Int→Int→PyData}(ho:OpR X (binaryOp op) (rI C g))(hg:∀H i j,AV H (g i j) (gd i j))
  (h:EvD X α a fun x=>EvD X α b fun y=>∃i j,x=.int i∧y=.int j∧C i j∧Q (gd i j)):EvD X α (.BinOp a op b pos) Q:=by
 refine tH (f:=tOp (rI C g)) (yg ho zl zl) (fun _ _ _=>Iff.rfl) (h.imp fun x h=>h.imp fun y ⟨i,j,e1,e2,hc,hq⟩=>?_)
 subst e1 e2
 intro F σ H vx vy R m rx ry k
 cases rx.int_inv;cases ry.int_inv
 exact⟨i,j,rfl,rfl,hc,k _ _ H hq m.tp Kz.refl (hg _ i j)⟩
theorem lZ {op:Operator}{g:Int→Int→V}{gd:Int→Int→PyData}(ho:OpR X (binaryOp op) (rI0 g))(hg:∀H i j,AV H (g i j) (gd i j))
  (h:EvD X α a fun x=>EvD X α b fun y=>∃i j,x=.int i∧y=.int j∧Q (gd i j)):EvD X α (.BinOp a op b pos) Q:=by
 refine tH (f:=tOp (rI0 g)) (yg ho zl zl) (fun _ _ _=>Iff.rfl) (h.imp fun x h=>h.imp fun y ⟨i,j,e1,e2,hq⟩=>?_)
 subst e1 e2
 intro F σ H vx vy R m rx ry k
 cases rx.int_inv;cases ry.int_inv
 exact⟨i,j,rfl,rfl,k _ _ H hq m.tp Kz.refl (hg _ i j)⟩
theorem fe (h:EvD X α a fun x=>EvD X α b fun y=>∃i j,x=.int i∧y=.int j∧Q (.int (i+j))):EvD X α (.BinOp a .Add b pos) Q:=lZ (gd:=fun i j=>.int (i+j)) uc (fun _ _ _=>.int _) h
theorem bY (h:EvD X α a fun x=>EvD X α b fun y=>∃i j,x=.int i∧y=.int j∧Q (.int (i-j))):EvD X α (.BinOp a .Sub b pos) Q:=lZ (gd:=fun i j=>.int (i-j)) fO (fun _ _ _=>.int _) h
theorem bZ (h:EvD X α a fun x=>EvD X α b fun y=>∃i j,x=.int i∧y=.int j∧zb1 i j∧Q (.int (i ^ j.toNat))):EvD X α (.BinOp a .Pow b pos) Q:=bV (gd:=fun i j=>.int (i ^ j.toNat)) iV (fun _ _ _=>.int _) h
theorem qq {i j r:Int}{p1 p2:Pos}{n1 n2:Nat}(hc:zb1 i j)(hr:i ^ j.toNat=r)(q:Q (.int r)):EvD X α (.BinOp (.Constant (.int i) n1 p1) .Pow (.Constant (.int j) n2 p2) pos) Q:=
 bZ (yZ (yZ ⟨i,j,rfl,rfl,hc,hr▸q⟩))
theorem za6 (h:EvD X α a fun x=>∃i,x=.int i∧Q (.int (-i))):EvD X α (.UnaryOp .USub a pos) Q:=fun F σ H R m k=>by
 refine⟨_,bw fc zl,?_⟩
 refine h F σ H _ m fun x vx H1 q1 t1 k1 r1=>?_
 obtain⟨i,rfl,q⟩:=q1
 cases r1.int_inv
 exact⟨i,rfl,k _ _ H1 q t1 k1 (.int _)⟩
theorem eS {op:CmpOp}{g:Int→Int→Bool}(ho:OpR X (compareOp op) (rI0 fun i j=>.bl (g i j)))(hm:behindInMarks op b=false)
  (h:EvD X α a fun x=>EvD X α b fun y=>∃i j,x=.int i∧y=.int j∧Q (.bool (g i j))):EvD X α (.Compare a [op] [b] pos) Q:=by
 refine tH (f:=tOp (rI0 fun i j=>.bl (g i j))) (xp ho zl zl hm) (fun _ _ _=>Iff.rfl) (h.imp fun x h=>h.imp fun y ⟨i,j,e1,e2,hq⟩=>?_)
 subst e1 e2
 intro F σ H vx vy R m rx ry k
 cases rx.int_inv;cases ry.int_inv
 exact⟨i,j,rfl,rfl,k _ _ H hq m.tp Kz.refl (.bl _)⟩
theorem ba (h:EvD X α a fun x=>EvD X α b fun y=>∃i j,x=.int i∧y=.int j∧Q (.bool (decide (i<j)))):EvD X α (.Compare a [.Lt] [b] pos) Q:=eS bE (zF _) h
def fk :PyData→Bool
 |.none=>true
 |_=>false
theorem AV.non_iff {H:Hp}{v:V}{d:PyData}(h:AV H v d):decide (v=.non)=fk d:=by cases h<;>simp[fk]
theorem ee {op op':CmpOp}{g g':Int→Int→Bool}(ho:OpR X (compareOp op) (rI0 fun i j=>.bl (g i j)))(ho':OpR X (compareOp op') (rI0 fun i j=>.bl (g' i j)))(hm:lastMarks [op,op'] [b,c]=false)
  (h:EvD X α a fun x=>EvD X α b fun y=>∃i j,x=.int i∧y=.int j∧(if g i j=true then EvD X α c fun z=>∃k,z=.int k∧Q (.bool (g' j k)) else Q (.bool false))):EvD X α (.Compare a [op,op'] [b,c] pos) Q:=fun F σ H R m k=>by
 refine⟨_,uU ho ho' zl zl zl hm,?_⟩
 refine h F σ H _ m fun x vx H1 q1 t1 k1 r1=>?_
 have m1:=m.kz k1 t1
 refine q1 F σ H1 _ m1 fun y vy H2 q2 t2 k2 r2=>?_
 obtain⟨i,j,e1,e2,hq⟩:=q2
 subst e1 e2
 cases r1.int_inv;cases r2.int_inv
 have m2:=m1.kz k2 t2
 refine⟨i,j,rfl,rfl,_,rfl,?_⟩
 cases hg:g i j with
 |true=>
  rw[hg] at hq
  refine vS ?_
  refine (by simpa using hq:EvD X α c _) F σ H2 _ m2 fun z vz H3 q3 t3 k3 r3=>?_
  obtain⟨kk,rfl,hq3⟩:=q3
  cases r3.int_inv
  exact⟨j,kk,rfl,rfl,k _ _ H3 hq3 t3 ((k1.trans k2).trans k3) (.bl _)⟩
 |false=>
  rw[hg] at hq
  exact uw (k _ _ H2 (by simpa using hq) t2 (k1.trans k2) (.bl _))
theorem wF {Q:Bool→Prop}(h:EvD X α e fun x=>∃k,x=.bool k∧Q k)(he:∀whole,isTrue e X.env whole=(do let v ←whole;standAt e.pos;holding [v] (truthy v)):=by intro _;rfl):EvT X α e Q:=fun F σ H R m k=>by
 refine⟨_,gF zl he,?_⟩
 refine h F σ H _ m fun x vx H1 q1 t1 k1 r1=>?_
 obtain⟨b,rfl,q⟩:=q1
 cases r1.bl_inv
 exact⟨b,rfl,k b H1 q t1 k1⟩
def Cmp (r:R2)(x y:PyData)(k:Bool):Prop:=∀(p:Addr→Prop) (H:Hp) (vx vy:V) (R:VK),AV (sub p H) vx x→AV (sub p H) vy y→R (.bl k) H→r vx vy H R
theorem vY {op:CmpOp}{r:R2}{Q:Bool→Prop}(ho:OpR X (compareOp op) r)(hm:behindInMarks op b=false)(h:EvD X α a fun x=>EvD X α b fun y=>∃k,Cmp r x y k∧Q k):EvT X α (.Compare a [op] [b] pos) Q:=fun F σ H R m k=>by
 refine⟨_,zZ ho zl zl hm,?_⟩
 refine h F σ H _ m fun x vx H1 q1 t1 k1 r1=>?_
 have m1:=m.kz k1 t1
 refine q1 F σ H1 _ m1 fun y vy H2 q2 t2 k2 r2=>?_
 obtain⟨b,hc,q⟩:=q2
 exact hc _ H2 vx vy _ (r1.same (k2.gz m1.tp)) r2 ⟨b,rfl,k b H2 q t2 (k1.trans k2)⟩
theorem cK {g:Int→Int→Bool}{i j:Int}:Cmp (rI0 fun i j=>.bl (g i j)) (.int i) (.int j) (g i j):=fun p H vx vy R rx ry h=>by
 cases rx.int_inv;cases ry.int_inv
 exact⟨i,j,rfl,rfl,h⟩
theorem dg {op:CmpOp}{g:Int→Int→Bool}{Q:Bool→Prop}(ho:OpR X (compareOp op) (rI0 fun i j=>.bl (g i j)))(hm:behindInMarks op b=false)
  (h:EvD X α a fun x=>EvD X α b fun y=>∃i j,x=.int i∧y=.int j∧Q (g i j)):EvT X α (.Compare a [op] [b] pos) Q:=
 vY ho hm (h.imp fun x h=>h.imp fun y ⟨i,j,e1,e2,q⟩=>⟨_,by subst e1 e2;exact cK,q⟩)
theorem bA {Q:Bool→Prop}(h:EvD X α a fun x=>EvD X α b fun y=>∃i j,x=.int i∧y=.int j∧Q (decide (j<i))):EvT X α (.Compare a [.Gt] [b] pos) Q:=dg mE (zF _) h
theorem xE {j:Nat}{Q:Bool→Prop}(h:EvD X α a fun x=>Q (fk x)):EvT X α (.Compare a [.Is] [.Constant .none j p] pos) Q:=
 vY mq (zF _) (h.imp fun x h=>oH ⟨_,fun p H vx vy R rx ry z=>⟨ry.non_inv,by rw[rx.non_iff];exact z⟩,h⟩)
theorem tS {Q:Bool→Prop}(h:EvT X α a fun k=>Q (!k)):EvT X α (.UnaryOp .Not a pos) Q:=fun F σ H R m k=>by
 refine⟨_,iu xt,?_⟩
 exact h F σ H _ m fun b H1 q1 t1 k1=>k _ H1 q1 t1 k1
def EvW (X:Cx)(α:Ev)(e:Expr)(Q:Bool→Prop):Prop:=∀(F:Fr) (σ:St) (H:Hp) (R:Bool→Hp→Prop),M F α σ H→(∀b H',Q b→zK F H'→Kz F H H'→R b H')→∃t,PW X e t∧t σ H R
def zk9 (X:Cx)(e:Expr):TT:=fun σ H Q=>∃t,PW X e t∧t σ H Q
theorem mF :PW X e (zk9 X e):=fun w pins s σ H Q I ⟨t,p,q⟩=>p w pins s σ H Q I q
theorem EvW.t {Q:Bool→Prop}(h:EvW X α e Q):EvT X α e Q:=fun F σ H R m k=>by
 obtain⟨t,p,q⟩:=h F σ H R m k
 exact⟨t,p.pt,q⟩
variable {rest:List Expr}
theorem mD {Q:Bool→Prop}(h:EvT X α a Q):EvW X α (.BoolOp .And [a] pos) Q:=fun F σ H R m k=>⟨_,mK xt,h F σ H R m k⟩
theorem qk {Q:Bool→Prop}(h:EvT X α a Q):EvW X α (.BoolOp .Or [a] pos) Q:=fun F σ H R m k=>⟨_,mn xt,h F σ H R m k⟩
theorem gW {Q:Bool→Prop}(h:EvT X α a fun k=>if k=true then EvW X α (.BoolOp .And (b::rest) pos) Q else Q false):EvW X α (.BoolOp .And (a::b::rest) pos) Q:=fun F σ H R m k=>by
 refine⟨_,gg xt mF,?_⟩
 refine h F σ H _ m fun c H1 q1 t1 k1=>?_
 cases c with
 |true=>exact vS ((by simpa using q1:EvW X α _ Q) F σ H1 R (m.kz k1 t1) fun b H2 q2 t2 k2=>k b H2 q2 t2 (k1.trans k2))
 |false=>exact uw (k _ H1 (by simpa using q1) t1 k1)
theorem rF {Q:Bool→Prop}(h:EvT X α a fun k=>if k=true then Q true else EvW X α (.BoolOp .Or (b::rest) pos) Q):EvW X α (.BoolOp .Or (a::b::rest) pos) Q:=fun F σ H R m k=>by
 refine⟨_,jZ xt mF,?_⟩
 refine h F σ H _ m fun c H1 q1 t1 k1=>?_
 cases c with
 |false=>exact uw ((by simpa using q1:EvW X α _ Q) F σ H1 R (m.kz k1 t1) fun b H2 q2 t2 k2=>k b H2 q2 t2 (k1.trans k2))
 |true=>exact vS (k _ H1 (by simpa using q1) t1 k1)
theorem me (h:EvT X α c fun k=>if k=true then EvD X α a Q else EvD X α b Q):EvD X α (.IfExp c a b pos) Q:=fun F σ H R m k=>by
 refine⟨_,jX xt zl zl,?_⟩
 refine h F σ H _ m fun x H1 q1 t1 k1=>?_
 cases x with
 |true=>exact vS ((by simpa using q1:EvD X α _ Q) F σ H1 R (m.kz k1 t1) fun d v H2 q2 t2 k2 r2=>k d v H2 q2 t2 (k1.trans k2) r2)
 |false=>exact uw ((by simpa using q1:EvD X α _ Q) F σ H1 R (m.kz k1 t1) fun d v H2 q2 t2 k2 r2=>k d v H2 q2 t2 (k1.trans k2) r2)
theorem wA (hs:rH b)(h:EvD X α a fun x=>EvD X α b fun y=>∃ds i d,x=.tuple ds∧y=.int i∧atI ds i=some d∧Q d):EvD X α (.Subscript a b pos) Q:=by
 refine tH (f:=tOp (bN X.K)) (zJ yn zl zl hs) (fun _ _ _=>Iff.rfl) (h.imp fun x h=>h.imp fun y ⟨ds,i,d,e1,e2,hat,hq⟩=>?_)
 subst e1 e2
 intro F σ H vx vy R m rx ry k
 obtain⟨a,xs,rfl,h1,h2⟩:=rx.tup_inv
 cases ry.int_inv
 obtain⟨v,hv,av⟩:=h2.atI hat
 exact⟨a,xs,i,v,rfl,rfl,SqT.of (zj h1).2,hv,k d v H hq m.tp Kz.refl av⟩
def EvO (X:Cx)(α:Ev)(e:Option Expr)(Q:Option Int→Prop):Prop:=∀(F:Fr) (σ:St) (H:Hp) (R:Option Int→Hp→Prop),M F α σ H→(∀i H',Q i→zK F H'→Kz F H H'→R i H')→∃t,PO X e t∧t σ H R
def zj8 (X:Cx)(e:Option Expr):TO:=fun σ H Q=>∃t,PO X e t∧t σ H Q
theorem lY {e:Option Expr}:PO X e (zj8 X e):=fun pins s σ H Q I ⟨t,p,q⟩=>p pins s σ H Q I q
theorem eX {Q:Option Int→Prop}(q:Q none):EvO X α none Q:=fun F σ H R m k=>⟨_,qm,k _ H q m.tp Kz.refl⟩
theorem dm {Q:Option Int→Prop}(h:EvD X α a fun x=>∃i,x=.int i∧Q (some i)):EvO X α (some a) Q:=fun F σ H R m k=>by
 refine⟨_,rJ zl,?_⟩
 refine h F σ H _ m fun x vx H1 q1 t1 k1 r1=>?_
 obtain⟨i,rfl,q⟩:=q1
 cases r1.int_inv
 exact⟨i,rfl,k _ H1 q t1 k1⟩
theorem M.lay {F:Fr}{σ:St}{H:Hp}{l:Addr}{xs:List V}{ds:List PyData}(m:M F α σ H)(hl:H l=none)(h:AVs (Gz F α σ H) xs ds):zK F (upd H l (.lst xs))∧Kz F H (upd H l (.lst xs))∧yD F α σ H (.ref l) (upd H l (.lst xs)) ds:=by
 refine⟨m.tp.same (ym hl),Kz.of_same (ym hl),l,xs,rfl,hl,zf,h.same (zr fun a o ha e=>?_)⟩
 have:=zk e hl
 exact⟨⟨ha,this⟩,by rw[zd this];exact e⟩
theorem bp {lo hi:Option Expr}{Q:List PyData→Prop}(h:EvD X α a fun x=>EvO X α lo fun l=>EvO X α hi fun u=>∃ds,x=.list ds∧Q (cutD ds l u)):EvL X α (.Subscript a (.Slice lo hi none p) pos) Q:=fun F σ H R m k=>by
 refine⟨_,si qp zl lY lY,?_⟩
 refine h F σ H _ m fun x vx H1 q1 t1 k1 r1=>?_
 have m1:=m.kz k1 t1
 refine q1 F σ H1 _ m1 fun l H2 q2 t2 k2=>?_
 have m2:=m1.kz k2 t2
 refine q2 F σ H2 _ m2 fun u H3 q3 t3 k3=>?_
 have m3:=m2.kz k3 t3
 obtain⟨ds,rfl,q⟩:=q3
 obtain⟨a,xs,rfl,h1,h2⟩:=(r1.same ((k2.gz m1.tp).trans (k3.gz m2.tp))).lst_inv
 refine⟨a,xs,rfl,SqL.of (zj h1).2,fun p hp=>?_⟩
 obtain⟨g1,g2,g3⟩:=m3.lay hp (h2.cut l u)
 have kk:=(k1.trans k2).trans k3
 obtain⟨l',xs',e1,e2,e3,e4⟩:=g3
 refine k _ _ _ q g1 (kk.trans g2) ⟨l',xs',e1,?_,e3,e4⟩
 cases z:H l' with
 |none=>rfl
 |some o=>rw[kk l' o z (m.tp.nt (ow0 (m3.fresh e2)))] at e2;cases e2
theorem yD.back {F:Fr}{σ:St}{H H1 H':Hp}{v:V}{ds:List PyData}(m:M F α σ H)(k:Kz F H H1)(t1:zK F H1)(h:yD F α σ H1 v H' ds):yD F α σ H v H' ds:=by
 obtain⟨l',xs',e1,e2,e3,e4⟩:=h
 refine⟨l',xs',e1,?_,e3,e4⟩
 cases z:H l' with
 |none=>rfl
 |some o=>rw[k l' o z (m.tp.nt (ow0 ((m.kz k t1).fresh e2)))] at e2;cases e2
theorem zD {Q:List A→Prop}(q:Q []):EvA X α [] Q:=fun F σ H R m k=>⟨_,zp,k _ _ H q m.tp Kz.refl .nil⟩
theorem zt {Q:List A→Prop}(h:EvD X α e fun d=>EvA X α es fun as=>Q (.dat d::as))(hs:starEach (e::es) X.env=(false,eval e X.env)::starEach es X.env:=by rfl):EvA X α (e::es) Q:=fun F σ H R m k=>by
 refine⟨_,zc zl yv hs,?_⟩
 refine h F σ H _ m fun d v H1 q1 t1 k1 r1=>?_
 have m1:=m.kz k1 t1
 exact q1 F σ H1 _ m1 fun as vs H2 q2 t2 k2 r2=>k _ _ H2 q2 t2 (k1.trans k2) (.cons (r1.same (k2.gz m1.tp)) r2)
theorem cJ {Q:List A→Prop}(i:Nat){x:Str}(hi:α[i]?=some (some .tape))(h:EvA X α es fun as=>Q (.tape::as))(hN:X.N[i]?=some x:=by rfl)(hv:Vis X.env.scope x:=by first|exact Or.inl rfl|exact Or.inr (Or.inl rfl)|exact Or.inr (Or.inr rfl))
  (hd:(x == ("__debug__":Str))=false:=by decide) (hcd:(x == ("__classdict__":Str))=false:=by decide) (hs:starEach (.Name x pos::es) X.env=(false,eval (.Name x pos) X.env)::starEach es X.env:=by rfl):EvA X α (.Name x pos::es) Q:=fun F σ H R m k=>by
 obtain⟨t,b,c,h1,h2⟩:=m.tvar i hi
 refine⟨_,zc (yB hN hv hd hcd) yv hs,.ref t,h2,?_⟩
 exact h F σ H _ m fun as vs H2 q2 t2 k2 r2=>k _ _ H2 q2 t2 k2 (.cons ⟨t,b,c,h1,rfl⟩ r2)
def datas :List A→Option (List PyData)
 |[]=>some []
 |.dat d::r=>(datas r).map (d::·)
 |_::_=>none
theorem zU.datas {F:Fr}{G:Hp}:∀{vs:List V} {as:List A} {ds:List PyData},zU F G vs as→L2.datas as=some ds→AVs G vs ds
 |_,_,ds,.nil,h=>by cases h;exact .nil
 |_,_,ds,.cons (a:=.dat d) (as:=as) h r,e=>by
  simp only[L2.datas,zp0] at e
  obtain⟨es,e1,rfl⟩:=e
  exact .cons h (zU.datas r e1)
 |_,_,ds,.cons (a:=.ow _) h r,e=>by cases h
 |_,_,ds,.cons (a:=.deep _ _) h r,e=>by cases h
 |_,_,ds,.cons (a:=.exc _ _) h r,e=>by cases h
 |_,_,ds,.cons (a:=.tape) h r,e=>by cases e
 |_,_,ds,.cons (a:=.at _) h r,e=>by cases h
theorem oO {n:Nat}(h:EvA X α es fun as=>∃ds,datas as=some ds∧ds.length≤1000∧Q (.tuple ds)):EvD X α (.Tuple es n pos) Q:=fun F σ H R m k=>by
 refine⟨_,rP yv,?_⟩
 refine h F σ H _ m fun as vs H1 q1 t1 k1 r1=>?_
 obtain⟨ds,e,hl,q⟩:=q1
 have r:=r1.datas e
 have m1:=m.kz k1 t1
 refine⟨by rw[r.length];exact zt3 (yK hl),fun p hp=>?_⟩
 refine k _ _ _ q (t1.same (ym hp)) (k1.trans (Kz.of_same (ym hp))) (.tup (xs:=vs) (zR (m1.fresh hp) zf) (r.same (zr fun a o ha e=>⟨ha,by rw[zd (zk e hp)];exact e⟩)))
theorem wD {Q:List PyData→Prop}(h:EvA X α es fun as=>∃ds,datas as=some ds∧ds.length≤1000∧Q ds):EvL X α (.List es pos) Q:=fun F σ H R m k=>by
 refine⟨_,eA yv,?_⟩
 refine h F σ H _ m fun as vs H1 q1 t1 k1 r1=>?_
 obtain⟨ds,e,hl,q⟩:=q1
 have r:=r1.datas e
 have m1:=m.kz k1 t1
 refine⟨by rw[r.length];exact zt3 (yK hl),fun p hp=>?_⟩
 obtain⟨g1,g2,g3⟩:=m1.lay hp r
 exact k _ _ _ q g1 (k1.trans g2) (g3.back m k1 t1)
theorem ub {Q:List PyData→Prop}(h:EvD X α a fun x=>EvD X α b fun y=>∃ds es,x=.list ds∧y=.list es∧ds.length+es.length≤1000∧Q (ds++es)):EvL X α (.BinOp a .Add b pos) Q:=fun F σ H R m k=>by
 refine⟨_,yg zc9 zl zl,?_⟩
 refine h F σ H _ m fun x vx H1 q1 t1 k1 r1=>?_
 have m1:=m.kz k1 t1
 refine q1 F σ H1 _ m1 fun y vy H2 q2 t2 k2 r2=>?_
 have m2:=m1.kz k2 t2
 obtain⟨ds,es,rfl,rfl,hl,q⟩:=q2
 obtain⟨a,xs,rfl,h1,h2⟩:=(r1.same (k2.gz m1.tp)).lst_inv
 obtain⟨b,ys,rfl,h3,h4⟩:=r2.lst_inv
 refine⟨a,b,xs,ys,rfl,rfl,(zj h1).2,(zj h3).2,by rw[h2.length,h4.length];exact zt3 (yK hl),fun p hp=>?_⟩
 obtain⟨g1,g2,g3⟩:=m2.lay hp (h2.append h4)
 exact k _ _ _ q g1 ((k1.trans k2).trans g2) (g3.back m (k1.trans k2) t2)
theorem vC {id:String}{x:Str}{r:List V→Hp→VK→Prop}(hc:yX X (.builtin id) r)(hg:Gl X x)(hm:X.mg x=none)(hv:bootBuiltins x=some (.builtin id))
  (h:EvA X α (e::es) fun as=>∀(F:Fr) (σ:St) (H:Hp) (vs:List V) (R:VK),M F α σ H→zU F (Gz F α σ H) vs as→(∀d v H',Q d→zK F H'→Kz F H H'→AV (Gz F α σ H') v d→R v H')→r vs H R)
  (hn:x≠"__name__":=by decide) (hdb:(x == ("__debug__":Str))=false:=by decide) (he:starEach (e::es) X.env=(false,eval e X.env)::starEach es X.env:=by rfl) (hpl:(backTo pos (starEach es X.env)).any (·.1)=false:=by rfl):
  EvD X α (.Call (.Name x p) (e::es) [] pos) Q:=fun F σ H R m k=>by
 refine⟨_,zQ hc hg hm hv yv hn hdb he hpl,?_⟩
 refine h F σ H _ m fun as vs H1 q1 t1 k1 r1=>?_
 exact q1 F σ H1 vs R (m.kz k1 t1) r1 fun d v H' qd t2 k2 r2=>k d v H' qd t2 (k1.trans k2) r2
end
section
variable {X:Cx}{α:Ev}{e a b c:Expr}{es:List Expr}{pos p q:Pos}{Q:PyData→Prop}
theorem zU.one {F:Fr}{G:Hp}{vs:List V}{d:PyData}(h:zU F G vs [.dat d]):∃v,vs=[v]∧AV G v d:=by
 cases h with|cons h r=>cases r;exact⟨_,rfl,h⟩
theorem zU.two {F:Fr}{G:Hp}{vs:List V}{d e:PyData}(h:zU F G vs [.dat d,.dat e]):∃v u,vs=[v,u]∧AV G v d∧AV G u e:=by
 cases h with|cons h r=>obtain⟨u,rfl,h2⟩:=r.one;exact⟨_,u,rfl,h,h2⟩
def zl9 :PyData→Option Int
 |.list ds=>some ds.length
 |.tuple ds=>some ds.length
 |_=>none
theorem rS (hg:Gl X "len")(hm:X.mg "len"=none)(h:EvD X α e fun x=>∃n,zl9 x=some n∧Q (.int n))(he:starEach [e] X.env=(false,eval e X.env)::starEach [] X.env:=by rfl):
  EvD X α (.Call (.Name "len" p) [e] [] pos) Q:=by
 refine vC yf hg hm zv2 (zt (h.imp fun x ⟨n,e1,q⟩=>zD ?_) he) (he:=he)
 intro F σ H vs R m rv k
 obtain⟨v,rfl,av⟩:=rv.one
 cases av with
 |lst h1 h2=>cases e1;rw[←h2.length] at q;exact⟨_,_,rfl,.inl (SqL.of (zj h1).2),k _ _ H q m.tp Kz.refl (.int _)⟩
 |tup h1 h2=>cases e1;rw[←h2.length] at q;exact⟨_,_,rfl,.inr (SqT.of (zj h1).2),k _ _ H q m.tp Kz.refl (.int _)⟩
 |_=>cases e1
theorem aC (hc:X.calm=true)(hg:Gl X "min")(hm:X.mg "min"=none)(h:EvD X α a fun x=>EvD X α b fun y=>∃i j,x=.int i∧y=.int j∧Q (.int (if j<i then j else i)))
  (he:starEach [a,b] X.env=(false,eval a X.env)::starEach [b] X.env:=by rfl) (he2:starEach [b] X.env=(false,eval b X.env)::starEach [] X.env:=by rfl) (hpl:(backTo pos (starEach [b] X.env)).any (·.1)=false:=by rfl):
  EvD X α (.Call (.Name "min" p) [a,b] [] pos) Q:=by
 refine vC (jv hc) hg hm boot_min (zt (h.imp fun x h=>zt (h.imp fun y ⟨i,j,e1,e2,q⟩=>zD ?_) he2) he) (he:=he) (hpl:=hpl)
 intro F σ H vs R m rv k
 subst e1 e2
 obtain⟨v,u,rfl,av,au⟩:=rv.two
 cases av.int_inv;cases au.int_inv
 exact⟨i,j,rfl,k _ _ H q m.tp Kz.refl (.int _)⟩
def vU :PyData→Option (List PyData)
 |.list ds=>some ds
 |.tuple ds=>some ds
 |_=>none
theorem lB {Q:List PyData→Prop}(hg:Gl X "list")(hm:X.mg "list"=none)(h:EvD X α e fun x=>∃ds,vU x=some ds∧Q ds)(he:starEach [e] X.env=(false,eval e X.env)::starEach [] X.env:=by rfl):
  EvL X α (.Call (.Name "list" p) [e] [] pos) Q:=fun F σ H R m k=>by
 refine⟨_,wN vK hg hm boot_list (zc zl zp he) (he:=he),?_⟩
 refine h F σ H _ m fun x vx H1 q1 t1 k1 r1=>?_
 obtain⟨ds,e1,q⟩:=q1
 have m1:=m.kz k1 t1
 have fin:∀{xs:List V},AVs (Gz F α σ H1) xs ds→∀l,H1 l=none→R (.ref l) (upd H1 l (.lst xs)):=fun {xs} h2 l hl=>by
  obtain⟨g1,g2,g3⟩:=m1.lay hl h2
  exact k _ _ _ q g1 (k1.trans g2) (g3.back m k1 t1)
 cases r1 with
 |lst h1 h2=>cases e1;exact⟨_,_,rfl,.inl (SqL.of (zj h1).2),fin h2⟩
 |tup h1 h2=>cases e1;exact⟨_,_,rfl,.inr (SqT.of (zj h1).2),fin h2⟩
 |_=>cases e1
theorem dA (hgu:X.A.guards=some [])(hu:X.A.units+64<cLine)(hg:Gl X "repr")(hm:X.mg "repr"=none)(h:EvD X α e fun x=>yp sizeLine x∧Q (.str x.shown))(he:starEach [e] X.env=(false,eval e X.env)::starEach [] X.env:=by rfl):
  EvD X α (.Call (.Name "repr" p) [e] [] pos) Q:=by
 refine vC (jf hgu hu) hg hm boot_repr (zt (h.imp fun x ⟨n,q⟩=>zD ?_) he) (he:=he)
 intro F σ H vs R m rv k
 obtain⟨v,rfl,av⟩:=rv.one
 exact⟨v,x,rfl,(av.dv n.nod).same xO,n,k _ _ H q m.tp Kz.refl (.str _)⟩
section
variable {k:Nat}{f:Addr}{fd:FuncData}{ps:List Str}{φ:List A→(A→Prop)→Prop}{x:Str}
theorem xX {F:Fr}{σ:St}{H:Hp}{vs:List V}{as:List A}{QA:A→Prop}{R:VK}(m:M F α σ H)(rv:zU F (Gz F α σ H) vs as)(hφ:φ as QA)
  (kk:∀a v H',QA a→wc ⟨H,Ow F α σ,F.tp⟩ v H' a→R v H') {E:XK}:spA φ (vs++[]) H R E:=by
 refine⟨⟨H,Ow F α σ,F.tp⟩,as,QA,rfl,?_,?_,?_,hφ,kk⟩
 ·exact m.tp.to rfl fun _ z=>.inl z
 ·exact fun y z=>m.owEx z
 ·rw[zt5]
  exact zU.to (F:=F) (F':=⟨H,Ow F α σ,F.tp⟩) (fun _ _ e=>e) rfl rv
theorem wc.back {F:Fr}{σ:St}{H H':Hp}{v:V}{a:A}(m:M F α σ H)(h:wc ⟨H,Ow F α σ,F.tp⟩ v H' a):zK F H'∧Kz F H H'∧AV (Gz F α σ H') v a.d:=by
 obtain⟨t,kz,r⟩:=h
 refine⟨m.tp.re t rfl,kz,?_⟩
 cases a with
 |dat d=>exact r
 |ow c=>
  obtain⟨l,xs,ds,rfl,rfl,h1,h2,h3,h4⟩:=r
  exact .lst (zR h2 h3) (h4.same (zr fun a o h e=>⟨h.1,e⟩))
 |deep d S=>
  obtain⟨h1,h2⟩:=r
  refine h1.same fun x o e=>?_
  rcases jQ e with ⟨z1,z2⟩|⟨_,z2⟩
  ·exact zR (h2 x z1).1 z2
  ·exact z2
 |tape=>exact r.elim
 |«at» _=>exact r.elim
 |exc _ _=>exact r.elim
theorem dS (G:zy X.prog X.w X.K X.mg X.base CX0 k f fd ps (spA φ))(hr:zE k X.A)(hg:Gl X x)(hm:X.mg x=some (.ref f))(hk:PySem.W.keepIn X.K (.ref f)=true)(hb:Binds X.K fd ps [])
  (h:EvA X α (e::es) fun as=>φ as fun a=>Q a.d) (hdb:(x == ("__debug__":Str))=false:=by decide) (he:starEach (e::es) X.env=(false,eval e X.env)::starEach es X.env:=by rfl) (hpl:(backTo pos (starEach es X.env)).any (·.1)=false:=by rfl):
  EvD X α (.Call (.Name x p) (e::es) [] pos) Q:=fun F σ H R m kk=>by
 refine⟨_,zL G hr hg hm hk hb .nil zS yv hdb he hpl,?_⟩
 refine h F σ H _ m fun as vs H1 q1 t1 k1 r1=>?_
 have m1:=m.kz k1 t1
 refine xX m1 r1 q1 fun a v H' qa ra=>?_
 obtain⟨g1,g2,g3⟩:=ra.back m1
 exact kk _ v H' qa g1 (k1.trans g2) g3
theorem dG {Q:List PyData→Prop}(G:zy X.prog X.w X.K X.mg X.base CX0 k f fd ps (spA φ))(hr:zE k X.A)(hg:Gl X x)(hm:X.mg x=some (.ref f))(hk:PySem.W.keepIn X.K (.ref f)=true)(hb:Binds X.K fd ps [])
  (h:EvA X α (e::es) fun as=>φ as fun a=>∃ds,a=.own ds∧Q ds) (hdb:(x == ("__debug__":Str))=false:=by decide) (he:starEach (e::es) X.env=(false,eval e X.env)::starEach es X.env:=by rfl) (hpl:(backTo pos (starEach es X.env)).any (·.1)=false:=by rfl):
  EvL X α (.Call (.Name x p) (e::es) [] pos) Q:=fun F σ H R m kk=>by
 refine⟨_,zL G hr hg hm hk hb .nil zS yv hdb he hpl,?_⟩
 refine h F σ H _ m fun as vs H1 q1 t1 k1 r1=>?_
 have m1:=m.kz k1 t1
 refine xX m1 r1 q1 fun a v H' qa ra=>?_
 obtain⟨ds,rfl,q⟩:=qa
 obtain⟨g1,g2,_⟩:=ra.back m1
 obtain⟨_,_,l,xs,ds',rfl,hc,h1,h2,h3,h4⟩:=ra
 cases hc
 exact kk ds _ H' q g1 (k1.trans g2) (yD.back m k1 t1 ⟨l,xs,rfl,h1,h3,h4⟩)
end
theorem mj {i j:Nat}{x:Option A}(h:i≠j):(α.set i x)[j]?=α[j]?:=zp9 h
theorem zW {i:Nat}{x:Option A}{j:Nat}{y:Option A}(h:(α.set i x)[j]?=some y):(i=j∧x=y)∨(i≠j∧α[j]?=some y):=by
 by_cases hij:i=j
 ·subst hij
  left
  have hl:i<α.length:=by
   have:=(zm8.mp h).1
   rwa [zq3] at this
  rw[zs4 hl] at h
  exact⟨rfl,zo9 h⟩
 ·right
  rw[zp9 hij] at h
  exact⟨hij,h⟩
theorem M.put {F:Fr}{σ:St}{H:Hp}{i:Nat}{b:Option A}(m:M F α σ H)(hf:∀s c x,σ[i]?=some s→b=some c→foot s c x→∃a,α[i]?=some (some a)∧foot s a x)
  (hok:∀s c,i<α.length→σ[i]?=some s→b=some c→vg (Gz F (α.set i b) σ H) F H s c) (hx:∀c,b=some c→noX c:=by intro c z;cases z;trivial):zx (Gz F α σ H) (Gz F (α.set i b) σ H)∧M F (α.set i b) σ H:=by
 have gs:zx (Gz F α σ H) (Gz F (α.set i b) σ H):=zr fun a o h e=>⟨fun z=>h (by
  rcases z with z|⟨j,c,s,e1,e2,f⟩
  ·exact .inl z
  ·rcases zW e1 with ⟨rfl,z⟩|⟨hj,e1'⟩
   ·obtain⟨a',h1,h2⟩:=hf s c a e2 z f
    exact .inr ⟨i,a',s,h1,e2,h2⟩
   ·exact .inr ⟨j,c,s,e1',e2,f⟩),e⟩
 have old:∀{j:Nat} {c:A} {s:Option V} {x:Addr},(α.set i b)[j]?=some (some c)→σ[j]?=some s→foot s c x→∃a,α[j]?=some (some a)∧foot s a x:=fun {j c s x} e1 e2 f=>by
  rcases zW e1 with ⟨rfl,z⟩|⟨hj,e1'⟩
  ·exact hf s c x e2 z f
  ·exact⟨c,e1',f⟩
 refine⟨gs,by rw[zq3];exact m.len,fun j c s e1 e2=>?_,fun j k c d s t x e1 e2 h1 h2 f1 f2=>?_,fun j r q e j' c s x e1 e2 f=>?_,m.tp,m.keep,m.oex⟩
 ·rcases zW e1 with ⟨rfl,z⟩|⟨hj,e1'⟩
  ·refine hok s c ?_ e2 z
   have:=(zm8.mp e1).1
   rwa [zq3] at this
  ·exact (m.ok j c s e1' e2).stay gs (fun x o f e=>⟨e,(m.ft e1' e2 f).1,(m.ft e1' e2 f).2.1⟩) rfl fun _ _ _ l=>l
 ·obtain⟨a',g1,g2⟩:=old e1 h1 f1
  obtain⟨b',g3,g4⟩:=old e2 h2 f2
  exact m.dj j k a' b' s t x g1 g3 h1 h2 g2 g4
 ·obtain⟨a',g1,g2⟩:=old e1 e2 f
  rcases zW e with ⟨rfl,z⟩|⟨_,e'⟩
  ·exact (hx _ z).elim
  ·exact m.xd j r q e' j' a' s x g1 e2 g2
theorem M.gave {F:Fr}{σ:St}{H:Hp}{i:Nat}{a:A}{s:Option V}{b:Option A}{x:Addr}(m:M F α σ H)(e1:α[i]?=some (some a))(e2:σ[i]?=some s)(f:foot s a x)(hb:∀c,b=some c→¬foot s c x):¬Ow F (α.set i b) σ x:=by
 rintro (z|⟨j,c,t,h1,h2,g⟩)
 ·exact (m.ft e1 e2 f).1 z
 ·rcases zW h1 with ⟨rfl,z⟩|⟨hj,h1'⟩
  ·rw[e2] at h2;cases h2;exact hb c z g
  ·exact hj (m.dj i j a c s t x e1 h1' e2 h2 f g)
theorem za3 {F:Fr}{σ:St}{H:Hp}{i:Nat}{b:A}(hb:∀s x,¬foot s b x):zx (Gz F α σ H) (Gz F (α.set i (some b)) σ H):=zr fun a o h e=>⟨fun z=>h (by
 rcases z with z|⟨j,c,s,e1,e2,f⟩
 ·exact .inl z
 ·rcases zW e1 with ⟨rfl,z⟩|⟨hj,e1'⟩
  ·cases z;exact (hb _ _ f).elim
  ·exact .inr ⟨j,c,s,e1',e2,f⟩),e⟩
theorem M.frz {F:Fr}{σ:St}{H:Hp}{i:Nat}{ds:List PyData}(m:M F α σ H)(hi:α[i]?=some (some (.own ds))):M F (α.set i (some (.dat (.list ds)))) σ H:=
 (m.put (b:=some (.dat (.list ds))) (fun s c' x _ z f=>by cases z;exact f.elim) fun s c' _ e2 z=>by
  cases z
  obtain⟨l,o,h1,h2,h3,h4,h5⟩:=m.owc i _ hi
  rw[h1] at e2;cases e2
  exact⟨.ref l,rfl,(h3.same (za3 (b:=.dat (.list ds)) fun _ _ f=>f)).av (zR (m.gave hi h1 rfl fun c z=>by cases z;exact id) h2)⟩).2
theorem bH {F:Fr}{σ:St}{H H':Hp}{i:Nat}{a:A}{b:Option A}(m:M F α σ H)(k:Kz F H H')(hi:α[i]?=some (some a))(x:Addr)(o:HO)(ho:¬Ob o)(h:Gz F (α.set i b) σ H' x=some o):Gz F α σ H' x=some o:=by
 obtain⟨h1,h2⟩:=zj h
 refine zR ?_ h2
 rintro (z|⟨j,c,s,e1,e2,f⟩)
 ·exact h1 (.inl z)
 ·by_cases hj:i=j
  ·subst hj
   obtain⟨g1,g2,o',g3,g4⟩:=m.ft e1 e2 f
   rw[k _ _ g3 (m.tp.nt g1)] at h2;cases h2;exact ho g4
  ·exact h1 (.inr ⟨j,c,s,by rw[mj hj];exact e1,e2,f⟩)
theorem oV {Q:List PyData→Prop}{i:Nat}{a:A}{b:Option A}(hi:α[i]?=some (some a))(hm:∀F σ H,M F α σ H→M F (α.set i b) σ H)(h:EvL X (α.set i b) e fun d=>ux d=true∧Q d):EvL X α e Q:=fun F σ H R m k=>
 h F σ H R (hm F σ H m) fun d v H' q t kz r=>by
  obtain⟨l,xs,h1,h2,h3,h4⟩:=r
  refine k d v H' q.2 t kz ⟨l,xs,h1,h2,h3,h4.noL (fun a ys hno z=>?_) q.1⟩
  obtain⟨z1,z2⟩:=zj z
  obtain⟨w1,w2⟩:=zj (bH m kz hi a ys hno (zR z1.1 z2))
  exact zR ⟨w1,z1.2⟩ w2
theorem mR {Q:Bool→Prop}(i:Nat){ds:List PyData}(hi:α[i]?=some (some (.own ds)))(h:EvT X (α.set i (some (.dat (.list ds)))) e Q):EvT X α e Q:=fun F σ H R m k=>h F σ H R (m.frz hi) k
theorem cA {Q:List PyData→Prop}(i:Nat){ds:List PyData}(hi:α[i]?=some (some (.own ds)))(h:EvL X (α.set i (some (.dat (.list ds)))) e fun d=>ux d=true∧Q d):EvL X α e Q:=oV hi (fun _ _ _ m=>m.frz hi) h
def ItW (p:Addr→Prop)(J:It)(ds:List PyData)(G:Hp):Prop:=∀(i:Nat) (H2:Hp) (q:Addr→Prop),zx G (sub q H2)→
 (∀d,ds[i]?=some d→J.go i H2∧∀x H3,J.yld i H2 x H3→zx H2 H3∧((∀a o,H3 a=some o→H2 a=none→q a)→AV (sub q H3) x d))∧(ds.length≤i→J.stop i H2)
def za8 (X:Cx)(tg e:Expr):TI:=fun σ H R=>∃t,PI X tg e t∧t σ H R
theorem qf {tg e:Expr}:PI X tg e (za8 X tg e):=fun pins s σ H R I ⟨t,p,q⟩=>p pins s σ H R I q
def EvI (X:Cx)(α:Ev)(tg e:Expr)(Q:List PyData→Prop):Prop:=∀(F:Fr) (σ:St) (H:Hp) (R:It→Hp→Prop),M F α σ H→
 (∀ds J H',Q ds→zK F H'→Kz F H H'→ItW (fun x=>¬Ow F α σ x) J ds (Gz F α σ H')→R J H')→za8 X tg e σ H R
theorem wL {tg:Expr}{Q:List PyData→Prop}(h:EvD X α e fun x=>∃ds,x=.list ds∧Q ds):EvI X α tg e Q:=fun F σ H R m k=>by
 refine⟨_,lQ zl,?_⟩
 refine h F σ H _ m fun x vx H1 q1 t1 k1 r1=>?_
 obtain⟨ds,rfl,q⟩:=q1
 obtain⟨a,xs,rfl,h1,h2⟩:=r1.lst_inv
 refine⟨a,rfl,⟨xs,SqL.of (zj h1).2⟩,k ds _ H1 q t1 k1 fun i H2 p s=>⟨fun d hd=>?_,fun hl=>?_⟩⟩
 ·obtain⟨x,hx,av⟩:=h2.get hd
  have ha:=SqL.of (K:=X.K) (zj (s _ _ h1)).2
  refine⟨⟨xs,x,ha,hx⟩,fun x' H3 y=>?_⟩
  obtain⟨e,y⟩:=y
  subst e
  have:=y xs ha
  rw[hx] at this;cases this
  exact⟨zx.refl _,fun _=>av.same s⟩
 ·exact⟨xs,SqL.of (zj (s _ _ h1)).2,by rw[h2.length];exact hl⟩
theorem kX {p:Addr→Prop}{lo:Int}{n:Nat}{G:Hp}:ItW p (Itr lo n) ((zw lo n).map .int) G:=fun i H2 q s=>⟨fun d hd=>by
  rw[zo0,zp0] at hd
  obtain⟨z,h1,rfl⟩:=hd
  have hi:i<n:=by
   have:=(zm8.mp h1).1
   rwa [zh] at this
  rw[yy hi] at h1
  cases h1
  refine⟨hi,fun x H3 y=>?_⟩
  obtain⟨rfl,rfl⟩:=y
  exact⟨zx.refl _,fun _=>.int _⟩,fun hl=>by
  rw[zm6,zh] at hl
  exact hl⟩
theorem vL {tg:Expr}{Q:List PyData→Prop}(hg:Gl X "range")(hm:X.mg "range"=none)(h:EvD X α a fun x=>∃j,x=.int j∧-(2 ^ 62)≤j∧j<2 ^ 62∧Q ((zw 0 j.toNat).map .int))(hs:starEach [a] X.env=[(false,eval a X.env)]:=by rfl):
  EvI X α tg (.Call (.Name "range" p) [a] [] pos) Q:=fun F σ H R m k=>by
 refine⟨_,kK hg hm (zc zl zp hs) hs,?_⟩
 refine h F σ H _ m fun x vx H1 q1 t1 k1 r1=>?_
 obtain⟨j,rfl,b1,b2,q⟩:=q1
 cases r1.int_inv
 exact⟨j,rfl,b1,b2,k _ _ H1 q t1 k1 kX⟩
end
inductive Pat where
 |one (i:Nat)
 |many (is:List Nat)
def wH :List Nat→List PyData→Ev→Option Ev
 |[],[],α=>some α
 |i::is,d::ds,α=>wH is ds (α.set i (some (.dat d)))
 |_,_,_=>none
def Pat.bind :Pat→PyData→Ev→Option Ev
 |.one i,d,α=>some (α.set i (some (.dat d)))
 |.many is,.tuple ds,α=>wH is ds α
 |_,_,_=>none
def gIs :List Nat→TGs
 |[]=>zh1
 |i::is=>cY (sY i) (gIs is)
def nZ (K:PySem.W.Frag):Pat→TG
 |.one i=>sY i
 |.many is=>aa K is.length (gIs is)
def Pat.slots :Pat→List Nat
 |.one i=>[i]
 |.many is=>is
def isFree (α:Ev)(i:Nat):Bool:=match α[i]? with
 |some none=>true
 |_=>false
def Pat.free (p:Pat)(α:Ev):Bool:=p.slots.all (isFree α)
section
variable {X:Cx}{α α':Ev}{F:Fr}{σ:St}{H:Hp}
theorem M.store {i:Nat}{v:V}{b:A}{H':Hp}(m:M F α σ H)(t:zK F H')(k:Kz F H H')(hn:∀x,foot (some v) b x→H x=none)(hok:vg (sub (fun x=>¬Ow F α σ x∧¬foot (some v) b x) H') F H' (some v) b)(hx:noX b:=by trivial):M F (α.set i (some b)) (σ.set i (some v)) H':=by
 have m':=m.kz k t
 have hs:∀{j:Nat} {c:A} {s:Option V},(α.set i (some b))[j]?=some (some c)→(σ.set i (some v))[j]?=some s→(i=j∧c=b∧s=some v)∨(i≠j∧α[j]?=some (some c)∧σ[j]?=some s):=fun {j c s} e1 e2=>by
  rcases zW e1 with ⟨rfl,z⟩|⟨hj,e1'⟩
  ·cases z
   have hl:i<σ.length:=by
    have:=(zm8.mp e2).1
    rwa [zq3] at this
   rw[zs4 hl] at e2
   cases e2
   exact .inl ⟨rfl,rfl,rfl⟩
  ·rw[zp9 hj] at e2
   exact .inr ⟨hj,e1',e2⟩
 have ow:∀{y:Addr},Ow F (α.set i (some b)) (σ.set i (some v)) y→Ow F α σ y∨foot (some v) b y:=fun {y} h=>by
  rcases h with z|⟨j,c,s,e1,e2,f⟩
  ·exact .inl (.inl z)
  ·rcases hs e1 e2 with ⟨_,rfl,rfl⟩|⟨_,g1,g2⟩
   ·exact .inr f
   ·exact .inl (.inr ⟨j,c,s,g1,g2,f⟩)
 have g1:zx (sub (fun x=>¬Ow F α σ x∧¬foot (some v) b x) H') (Gz F (α.set i (some b)) (σ.set i (some v)) H'):=zr fun a o h e=>⟨fun z=>(ow z).elim h.1 h.2,e⟩
 have g0:zx (Gz F α σ H) (sub (fun x=>¬Ow F α σ x∧¬foot (some v) b x) H'):=zr fun a o h e=>⟨⟨h,fun z=>by rw[hn a z] at e;cases e⟩,k a o e (m.tp.nt (ow0 h))⟩
 refine⟨by rw[zq3,zq3];exact m.len,fun j c s e1 e2=>?_,fun j j' c d s s' x e1 e2 h1 h2 f1 f2=>?_,fun j r q e j' c s x e1 e2 f=>?_,t,m.keep.trans k,m'.oex⟩
 ·rcases hs e1 e2 with ⟨rfl,rfl,rfl⟩|⟨_,z1,z2⟩
  ·exact hok.stay g1 (fun x o f e=>by
    obtain⟨w1,w2,_⟩:=qE hok f
    exact⟨e,w1,w2⟩) rfl fun _ _ _ l=>l
  ·exact (m.ok j c s z1 z2).stay (g0.trans g1) (fun x o f e=>by
    obtain⟨w1,w2,_⟩:=m.ft z1 z2 f
    exact⟨k x o e (m.tp.nt w1),w1,w2⟩) rfl fun _ _ _ l=>l.kz k t
 ·have nn:∀{j:Nat} {c:A} {s:Option V},α[j]?=some (some c)→σ[j]?=some s→foot s c x→¬foot (some v) b x:=fun {j c s} z1 z2 f g=>by
   obtain⟨_,_,o,w,_⟩:=m.ft z1 z2 f
   rw[hn x g] at w;cases w
  rcases hs e1 h1 with ⟨rfl,rfl,rfl⟩|⟨_,z1,z2⟩
  ·rcases hs e2 h2 with ⟨rfl,_⟩|⟨_,w1,w2⟩
   ·rfl
   ·exact absurd f1 (nn w1 w2 f2)
  ·rcases hs e2 h2 with ⟨rfl,rfl,rfl⟩|⟨_,w1,w2⟩
   ·exact absurd f2 (nn z1 z2 f1)
   ·exact m.dj j j' c d s s' x z1 w1 z2 w2 f1 f2
 ·rcases zW e with ⟨rfl,z⟩|⟨_,e'⟩
  ·cases z;exact hx.elim
  ·rcases hs e1 e2 with ⟨rfl,rfl,rfl⟩|⟨_,z1,z2⟩
   ·exact (m.lnk e').none (hn x f)
   ·exact m.xd j r q e' j' c s x z1 z2 f
theorem M.set {i:Nat}{v:V}{d:PyData}(m:M F α σ H)(av:AV (Gz F α σ H) v d):M F (α.set i (some (.dat d))) (σ.set i (some v)) H:=
 m.store m.tp Kz.refl (fun x z=>z.elim) ⟨v,rfl,av.same (zr fun a o h e=>⟨⟨h,fun z=>z⟩,e⟩)⟩
theorem M.setC {i:Nat}{v:V}{c:PyData}{H':Hp}(m:M F α σ H)(t:zK F H')(k:Kz F H H')(fl:jU F α σ H v H' c):M F (α.set i (some (.ow c))) (σ.set i (some v)) H':=by
 obtain⟨l,o,rfl,h1,h2,h3⟩:=fl
 have nl:¬Ow F α σ l:=m.fresh h1
 refine m.store t k (fun x z=>?_) ⟨l,o,rfl,h2,h3.same (zr fun a o h e=>⟨⟨h.1,fun z=>h.2 (by cases z;rfl)⟩,e⟩),ow0 nl,m.fresh0 h1⟩
 have z':some (V.ref l)=some (.ref x):=z
 cases z';exact h1
theorem M.setOwn {i:Nat}{v:V}{ds:List PyData}{H':Hp}(m:M F α σ H)(t:zK F H')(k:Kz F H H')(fl:yD F α σ H v H' ds):M F (α.set i (some (.own ds))) (σ.set i (some v)) H':=m.setC t k fl.c
theorem M.wr {x:Addr}{o:HO}(m:M F α σ H)(hno:wb o)(ho:F.O0 x)(ht:∀t b c,F.tp=some (t,b,c)→x≠t∧x≠b∧x≠c)(h0:F.H0 x=none)(hpl:Plain H x)(hx:∀(i:Nat) r q,α[i]?=some (some (.exc r q))→r.H0 x=none):M F α σ (upd H x o):=by
 have gs:zx (Gz F α σ H) (Gz F α σ (upd H x o)):=zr fun a u h e=>⟨h,by rw[zd (fun z=>h (.inl (by rw[z];exact ho)))];exact e⟩
 refine⟨m.len,fun j c s e1 e2=>?_,m.dj,m.xd,m.tp.upd ht hpl,fun y u e n=>?_,fun y hy=>?_⟩
 ·have:=m.ok j c s e1 e2
  cases c with
  |exc r q=>
   have l:Lnk r F H:=this
   exact⟨l.tp,l.o,l.ok.upd (fun a b c e=>ht a b c (l.tp▸e)) hpl,fun y u e n=>by rw[zd (zk e (hx j r q e1))];exact l.k y u e n⟩
  |_=>exact this.stay gs (fun y u f e=>by
    obtain⟨w1,w2,_⟩:=m.ft e1 e2 f
    exact⟨by rw[zd (fun z=>w1 (by rw[z];exact ho))];exact e,w1,w2⟩) rfl fun _ _ z=>by cases z
 ·rw[zd (zk e h0)];exact m.keep y u e n
 ·by_cases z:y=x
  ·exact⟨o,by rw[z];exact zf,hno⟩
  ·obtain⟨u,hu,hn⟩:=m.oex y hy
   exact⟨u,by rw[zd z];exact hu,hn⟩
theorem M.forget {α0:Ev}(m:M F α σ H)(hl:α0.length=α.length)(le:∀(i:Nat) a,α0[i]?=some (some a)→α[i]?=some (some a)):M F α0 σ H:=by
 have ow:∀{y:Addr},Ow F α0 σ y→Ow F α σ y:=fun {y} h=>by
  rcases h with z|⟨j,c,s,e1,e2,f⟩
  ·exact .inl z
  ·exact .inr ⟨j,c,s,le _ _ e1,e2,f⟩
 have gs:zx (Gz F α σ H) (Gz F α0 σ H):=zr fun a o h e=>⟨fun z=>h (ow z),e⟩
 exact⟨hl.trans m.len,fun j c s e1 e2=>(m.ok j c s (le _ _ e1) e2).stay gs (fun x o f e=>⟨e,(m.ft (le _ _ e1) e2 f).1,(m.ft (le _ _ e1) e2 f).2.1⟩) rfl fun _ _ _ l=>l,fun j j' c d s s' x e1 e2=>m.dj j j' c d s s' x (le _ _ e1) (le _ _ e2),fun j r q e j' c s x e1=>m.xd j r q (le _ _ e) j' c s x (le _ _ e1),m.tp,m.keep,m.oex⟩
theorem rq {H:Hp}:∀{is:List Nat} {ds:List PyData} {α α':Ev} {σ:St} {xs:List V} {R:St→Hp→Prop},wH is ds α=some α'→M F α σ H→(∀G,zx (Gz F α σ H) G→AVs G xs ds)→(∀σ',M F α' σ' H→R σ' H)→gIs is xs σ H R
 |[],[],α,α',σ,xs,R,e,m,av,k=>by
  cases e
  cases av _ (zx.refl _)
  exact⟨rfl,k σ m⟩
 |i::is,d::ds,α,α',σ,xs,R,e,m,av,k=>by
  cases h:av _ (zx.refl _) with
  |@cons x xs _ _ h1 h2=>
   refine⟨x,xs,rfl,?_⟩
   have gs:zx (Gz F α σ H) (Gz F (α.set i (some (.dat d))) (σ.set i (some x)) H):=zr fun a o h e=>⟨fun z=>h (by
    rcases z with z|⟨j,c,s,e1,e2,f⟩
    ·exact .inl z
    ·rcases zW e1 with ⟨_,z⟩|⟨hj,e1'⟩
     ·cases z;exact f.elim
     ·rw[zp9 hj] at e2
      exact .inr ⟨j,c,s,e1',e2,f⟩),e⟩
   exact rq (is:=is) (ds:=ds) e (m.set (i:=i) h1) (fun G s=>h2.same (gs.trans s)) k
 |[],_::_,_,_,_,_,_,e,_,_,_=>by cases e
 |_::_,[],_,_,_,_,_,e,_,_,_=>by cases e
theorem mP {K:PySem.W.Frag}{pat:Pat}{d:PyData}{v:V}{R:St→Hp→Prop}(e:pat.bind d α=some α')(m:M F α σ H)(av:AV (Gz F α σ H) v d)(k:∀σ',M F α' σ' H→R σ' H):nZ K pat v σ H R:=by
 cases pat with
 |one i=>cases e;exact k _ (m.set av)
 |many is=>
  cases d with
  |tuple ds=>
   obtain⟨a,xs,rfl,h1,h2⟩:=av.tup_inv
   have hl:∀{is:List Nat} {ds:List PyData} {α α':Ev},wH is ds α=some α'→ds.length=is.length:=by
    intro is
    induction is with
    |nil=>intro ds α α' h;cases ds with|nil=>rfl|cons _ _=>cases h
    |cons i is ih=>intro ds α α' h;cases ds with|nil=>cases h|cons d ds=>rw[zn7,zn7,ih h]
   exact⟨a,xs,rfl,SqT.of (zj h1).2,by rw[h2.length];exact hl e,rq e m (fun G s=>h2.same s) k⟩
  |_=>cases e
theorem uP :∀{is:List Nat} {ds:List PyData} {α α':Ev},wH is ds α=some α'→α'.length=α.length
 |[],[],_,_,e=>by cases e;rfl
 |i::is,d::ds,α,α',e=>by
  have:=uP (is:=is) (ds:=ds) e
  rwa [zq3] at this
 |[],_::_,_,_,e=>by cases e
 |_::_,[],_,_,e=>by cases e
theorem su :∀{is:List Nat} {ds:List PyData} {α α':Ev} {j:Nat},wH is ds α=some α'→j∉is→α'[j]?=α[j]?
 |[],[],_,_,_,e,_=>by cases e;rfl
 |i::is,d::ds,α,α',j,e,h=>by
  rw[su (is:=is) (ds:=ds) e fun z=>h (zn6 _ z)]
  exact zp9 fun (z:i=j)=>h (by rw[←z];exact zo5)
 |[],_::_,_,_,_,e,_=>by cases e
 |_::_,[],_,_,_,e,_=>by cases e
theorem tY :∀{is:List Nat} {ds:List PyData} {α α':Ev} {j:Nat} {a:A},wH is ds α=some α'→α'[j]?=some (some a)→(∀d,a≠.dat d)→α[j]?=some (some a)
 |[],[],_,_,_,_,e,h,_=>by cases e;exact h
 |i::is,d::ds,α,α',j,a,e,h,hn=>by
  rcases zW (tY (is:=is) (ds:=ds) e h hn) with ⟨_,z⟩|⟨_,z⟩
  ·cases z;exact absurd rfl (hn d)
  ·exact z
 |[],_::_,_,_,_,_,e,_,_=>by cases e
 |_::_,[],_,_,_,_,e,_,_=>by cases e
theorem Pat.is_ok {pat:Pat}{d:PyData}(e:pat.bind d α=some α'):∃is ds,pat.slots=is∧wH is ds α=some α':=by
 cases pat with
 |one i=>cases e;exact⟨_,[d],rfl,rfl⟩
 |many is=>
  cases d with
  |tuple ds=>exact⟨_,ds,rfl,e⟩
  |_=>cases e
theorem Pat.back {pat:Pat}{d:PyData}(e:pat.bind d α=some α')(fr:pat.free α=true)(m:M F α' σ H):M F α σ H:=by
 obtain⟨is,ds,rfl,e⟩:=Pat.is_ok e
 refine m.forget (uP e).symm fun j a h=>?_
 by_cases hj:j∈pat.slots
 ·have:=zv3.mp fr j hj
  unfold isFree at this
  rw[h] at this
  cases this
 ·rw[su e hj];exact h
end
section
variable {X:Cx}{α:Ev}
def kH (X:Cx)(α:Ev)(ifs:List Expr)(Q:Bool→Prop):Prop:=∀(F:Fr) (σ:St) (H:Hp) (R:Bool→Hp→Prop),M F α σ H→(∀b H',Q b→zK F H'→Kz F H H'→R b H')→∃t,wB X ifs t∧t σ H R
def bF (X:Cx)(ifs:List Expr):TT:=fun σ H R=>∃t,wB X ifs t∧t σ H R
theorem mG {ifs:List Expr}:wB X ifs (bF X ifs):=fun pins s σ H Q I ⟨t,p,q⟩=>p pins s σ H Q I q
theorem nA {Q:Bool→Prop}(q:Q true):kH X α [] Q:=fun F σ H R m k=>⟨_,cX,k _ H q m.tp Kz.refl⟩
theorem ak {c:Expr}{Q:Bool→Prop}(h:EvT X α c Q):kH X α [c] Q:=fun F σ H R m k=>⟨_,mJ xt,h F σ H R m k⟩
def seen :Option A→Option A
 |some (.dat d)=>some (.dat d)
 |some .tape=>some .tape
 |_=>none
def yI (imp:List (Option Nat))(α:Ev):Ev:=imp.map fun o=>o.bind fun j=>(α[j]?).bind seen
theorem qZ {imp:List (Option Nat)}{i:Nat}{a:A}(h:(yI imp α)[i]?=some (some a)):∃j,imp[i]?=some (some j)∧α[j]?=some (some a)∧((∃d,a=.dat d)∨a=.tape):=by
 unfold yI at h
 rw[zo0,zp0] at h
 obtain⟨o,h1,h2⟩:=h
 cases o with
 |none=>cases h2
 |some j=>
  have h2':(α[j]?).bind seen=some a:=h2
  cases q:α[j]? with
  |none=>rw[q] at h2';cases h2'
  |some b=>
   rw[q] at h2'
   cases b with
   |none=>cases h2'
   |some b=>
    cases b with
    |dat d=>cases h2';exact⟨j,h1,q,.inl ⟨d,rfl⟩⟩
    |tape=>cases h2';exact⟨j,h1,q,.inr rfl⟩
    |_=>cases h2'
theorem oi {imp:List (Option Nat)}{σ:St}{i j:Nat}{v:V}(h1:imp[i]?=some (some j))(h2:σ[j]?=some (some v)):(xN imp σ)[i]?=some (some v):=by
 unfold xN
 rw[zo0,h1]
 show some ((σ[j]?).bind id)=_
 rw[h2];rfl
def yU (Y:Addr→Shared→Hp→List Addr→Cx)(pat:Pat)(ifs:List Expr)(elt:Expr)(α0:Ev):List PyData→List PyData→(List PyData→Prop)→Prop
 |[],acc,Q=>Q acc
 |d::ds,acc,Q=>∃α1,pat.bind d α0=some α1∧∀C s2 H2 fp,kH (Y C s2 H2 fp) α1 ifs fun k=>if k=true then ∀C s2 H2 fp,EvD (Y C s2 H2 fp) α1 elt fun y=>yU Y pat ifs elt α0 ds (acc++[y]) Q else yU Y pat ifs elt α0 ds acc Q
def eC (Y:Addr→Shared→Hp→List Addr→Cx)(e:Expr):TE:=fun σ H Q=>∀C s2 H2 fp,uz (Y C s2 H2 fp) e σ H Q
def tsC (Y:Addr→Shared→Hp→List Addr→Cx)(ifs:List Expr):TT:=fun σ H Q=>∀C s2 H2 fp,bF (Y C s2 H2 fp) ifs σ H Q
theorem lh {N:List Str}{imp:List (Option Nat)}{scope:Scope}{tg iter elt:Expr}{ifs:List Expr}{pat:Pat}{Q:List PyData→Prop}(hfree:pat.free (yI imp α)=true)
  (h:EvI X α tg iter fun ds=>ds.length≤1000∧yU (fun C s2 H2 fp=>X.comp N scope C s2 H2 fp) pat ifs elt (yI imp α) ds [] Q)
  (F:Fr) (σ:St) (H:Hp) (R:VK) (m:M F α σ H) (k:∀ds v H',Q ds→zK F H'→Kz F H H'→yD F α σ H v H' ds→R v H'):
  ∃Y:Addr→Shared→Hp→List Addr→Cx,Y=(fun C s2 H2 fp=>X.comp N scope C s2 H2 fp)∧gp (za8 X tg iter) imp (nZ X.K pat) (tsC Y ifs) (eC Y elt) σ H R:=by
 refine⟨_,rfl,?_⟩
 refine h F σ H _ m fun ds J H1 ⟨hl,q1⟩ t1 k1 itw acc hacc=>?_
 have m1:=m.kz k1 t1
 have nacc:¬Ow F α σ acc:=m1.fresh hacc
 let Fc:Fr:=⟨H1,fun x=>Ow F α σ x∨x=acc,F.tp⟩
 let Nd:Ev→Prop:=fun α1=>∀(j:Nat) a,α1[j]?=some (some a)→(∃d,a=.dat d)∨a=.tape
 have no0:Nd (yI imp α):=fun j a z=>by
  obtain⟨_,_,_,n⟩:=qZ z
  exact n
 have owc:∀{α1:Ev} {τ:St} {x:Addr},Nd α1→(Ow Fc α1 τ x↔Fc.O0 x):=fun {α1 τ x} hh=>⟨fun z=>z.elim id fun⟨j,a,s,e1,e2,f⟩=>by
  rcases hh j a e1 with ⟨d,rfl⟩|rfl
  ·exact f.elim
  ·exact f.elim,.inl⟩
 have gz:∀{α1 α2:Ev} {τ1 τ2:St} {H:Hp},Nd α1→Nd α2→zx (Gz Fc α1 τ1 H) (Gz Fc α2 τ2 H):=fun h1 h2=>zr fun a o h e=>⟨fun z=>h ((owc h1).mpr ((owc h2).mp z)),e⟩
 have tpc:∀{H2:Hp},zK F H2→zK Fc H2:=fun t=>t.to rfl fun x z=>.inl (.inl z)
 have s01:zx H1 (upd H1 acc (.lst [])):=ym hacc
 have mc0:M Fc (yI imp α) (xN imp σ) (upd H1 acc (.lst [])):=by
  have g1:zx (Gz F α σ H1) (Gz Fc (yI imp α) (xN imp σ) (upd H1 acc (.lst []))):=fun a o e=>by
   obtain⟨z1,z2⟩:=zj e
   have na:a≠acc:=zk z2 hacc
   exact zR (fun z=>((owc no0).mp z).elim z1 na) (by rw[zd na];exact z2)
  refine⟨by unfold yI xN;rw[zm6,zm6],fun i a s e1 e2=>?_,fun i j a b s t x e1 e2 _ _ f=>?_,fun i r q e=>(by rcases no0 i _ e with ⟨d,w⟩|w<;>cases w),tpc (t1.same s01),fun x o e _=>s01 x o e,?_⟩
  ·obtain⟨j,w1,w2,w3⟩:=qZ e1
   rcases w3 with ⟨d,rfl⟩|rfl
   ·obtain⟨v,g2,g3⟩:=m1.dat j d w2
    rw[oi w1 g2] at e2;cases e2
    exact⟨v,rfl,g3.same g1⟩
   ·obtain⟨t,b,c,g2,g3⟩:=m1.tvar j w2
    rw[oi w1 g3] at e2;cases e2
    exact⟨t,b,c,g2,rfl⟩
  ·rcases no0 i a e1 with ⟨d,rfl⟩|rfl
   ·exact f.elim
   ·exact f.elim
  ·rintro x (z|z)
   ·have:∃o,H1 x=some o∧wb o:=m1.owEx z
    obtain⟨o,ho,hn⟩:=this
    exact⟨o,s01 _ _ ho,hn⟩
   ·exact⟨_,by rw[z];exact zf,yL⟩
 refine⟨fun i n ys τ H2=>n=ds.length-i∧i≤ds.length∧∃ad:List PyData,M Fc (yI imp α) τ H2∧H2 acc=some (.lst ys)∧AVs (Gz Fc (yI imp α) τ H2) ys ad∧ad.length≤i∧yU (fun C s2 H2 fp=>X.comp N scope C s2 H2 fp) pat ifs elt (yI imp α) (ds.drop i) ad Q,
  ⟨ds.length,by simp,zo3 _,[],mc0,zf,.nil,zn0 _,q1⟩,?_⟩
 rintro i n ys τ H2 ⟨rfl,hi,ad,m2,ha,av,had,cw⟩
 have sG:zx (Gz F α σ H1) (Gz Fc (yI imp α) τ H2):=fun a o e=>by
  obtain⟨z1,z2⟩:=zj e
  exact m2.old a o (zR (p:=fun x=>¬Fc.O0 x) (fun z=>z.elim z1 (zk z2 hacc)) z2)
 obtain⟨w1,w2⟩:=itw i H2 _ sG
 by_cases hlt:i<ds.length
 ·have hd:ds[i]?=some ds[i]:=zm9 hlt
  have hdr:ds.drop i=ds[i]::ds.drop (i+1):=zv0 hlt
  rw[hdr] at cw
  obtain⟨α1,eb,body⟩:=cw
  obtain⟨go,yl⟩:=w1 _ hd
  have no1:Nd α1:=fun j a z=>by
   obtain⟨is,ds',_,e⟩:=Pat.is_ok eb
   by_cases hn:∀d,a≠.dat d
   ·exact no0 j a (tY e z hn)
   ·simp only[Classical.not_forall,Classical.not_not] at hn
    exact .inl hn
  refine .inr ⟨go,fun ys' τ' H'=>∃ad:List PyData,M Fc (yI imp α) τ' H'∧H' acc=some (.lst ys')∧AVs (Gz Fc (yI imp α) τ' H') ys' ad∧ad.length≤i+1∧yU (fun C s2 H2 fp=>X.comp N scope C s2 H2 fp) pat ifs elt (yI imp α) (ds.drop (i+1)) ad Q,
   fun ys' τ' H' ⟨ad',r1,r2,r3,r4,r5⟩=>⟨ds.length-(i+1),by omega,rfl,hlt,ad',r1,r2,r3,r4,r5⟩,fun x H3 y=>?_⟩
  obtain⟨s23,avx⟩:=yl x H3 y
  have m3:M Fc (yI imp α) τ H3:=m2.kz (Kz.of_same s23) (m2.tp.same s23)
  have avx':=avx fun a o _ e=>m2.fresh e
  refine mP eb m3 avx' fun τ1 m4 C s2 H2' fp=>?_
  refine body C s2 H2' fp Fc τ1 H3 _ m4 fun b H5 qb t5 k5=>?_
  have m5:=m4.kz k5 t5
  have av5:AVs (Gz Fc (yI imp α) τ1 H5) ys ad:=av.same ((Kz.of_same s23).gz m2.tp |>.trans ((gz (τ2:=τ1) no0 no1).trans ((k5.gz m4.tp).trans (gz no1 no0))))
  have accN:NT Fc acc:=⟨fun t b c e=>by
   have:=(t1 t b c e).1.free hacc
   exact⟨this.1,this.2.1⟩,pA t1.tab hacc⟩
  have ha5:H5 acc=some (.lst ys):=k5 _ _ (s23 _ _ ha) accN
  cases b with
  |false=>
   have qb':yU (fun C s2 H2 fp=>X.comp N scope C s2 H2 fp) pat ifs elt (yI imp α) (ds.drop (i+1)) ad Q:=by simpa using qb
   exact uw ⟨ad,Pat.back eb hfree m5,ha5,av5,by omega,qb'⟩
  |true=>
   refine vS fun C s2 H2'' fp=>?_
   have qe:EvD (X.comp N scope C s2 H2'' fp) α1 elt fun y=>yU (fun C s2 H2 fp=>X.comp N scope C s2 H2 fp) pat ifs elt (yI imp α) (ds.drop (i+1)) (ad++[y]) Q:=by
    have z:=qb
    rw[if_pos rfl] at z
    exact z C s2 H2'' fp
   refine qe Fc τ1 H5 _ m5 fun y v H6 qy t6 k6 r6=>?_
   have m6:=m5.kz k6 t6
   have ha6:H6 acc=some (.lst ys):=k6 _ _ ha5 accN
   have hlen:ys.length≤i:=by rw[av.length];exact had
   have oacc:Fc.O0 acc:=.inr rfl
   have tacc:∀t b c,Fc.tp=some (t,b,c)→acc≠t∧acc≠b∧acc≠c:=fun t b c e=>(t1 t b c e).1.free hacc
   have m7:=(Pat.back eb hfree m6).wr (o:=.lst (ys++[v])) yL oacc tacc hacc (sZ ha6) (fun i r q z=>by rcases no0 i _ z with ⟨d,w⟩|w<;>cases w)
   refine⟨ha6,yK (by omega),ad++[y],m7,zf,?_,by simp;omega,qy⟩
   have g67:zx (Gz Fc (yI imp α) τ1 H6) (Gz Fc (yI imp α) τ1 (upd H6 acc (.lst (ys++[v])))):=zr fun a o h e=>⟨h,by rw[zd (fun z=>h (.inl (by rw[z];exact oacc)))];exact e⟩
   exact ((av5.same ((gz (τ2:=τ1) no0 no1).trans ((k6.gz m5.tp).trans (gz no1 no0)))).append (.cons (r6.same (gz no1 no0)) .nil)).same g67
 ·have e:i=ds.length:=by omega
  subst e
  rw[zy8] at cw
  refine .inl ⟨w2 (zn0 _),k ad _ H2 cw ?_ (k1.trans m2.keep) (yD.back m k1 t1 ⟨acc,ys,rfl,hacc,ha,av.same (zr fun a o h e=>⟨⟨fun z=>h (.inl (.inl z)),fun z=>h (.inl (.inr z))⟩,e⟩)⟩)⟩
  exact m.tp.re m2.tp rfl
theorem fV {N:List Str}{imp:List (Option Nat)}{scope:Scope}{tg iter elt:Expr}{ifs:List Expr}{pat:Pat}{Q:List PyData→Prop}{pos:Pos}(hc:X.calm=true)(S:zI X.N X.env.scope N imp scope)(hfree:pat.free (yI imp α)=true)
  (hg:∀C s2 H2 fp,PG (X.comp N scope C s2 H2 fp) tg (nZ X.K pat))
  (h:EvI X α tg iter fun ds=>ds.length≤1000∧yU (fun C s2 H2 fp=>X.comp N scope C s2 H2 fp) pat ifs elt (yI imp α) ds [] Q) (hs:∀x,foldedSetIterable iter X.env x=pure x:=by intro _;rfl):
  EvL X α (.ListComp elt [⟨tg,iter,ifs,0⟩] scope pos) Q:=fun F σ H R m k=>by
 obtain⟨Y,rfl,h⟩:=lh hfree h F σ H R m k
 exact⟨_,bo hc S qf hg (fun C s2 H2 fp pins s σ H Q I h=>mG pins s σ H Q I (h C s2 H2 fp)) (fun C s2 H2 fp pins s σ H Q I h=>zl pins s σ H Q I (h C s2 H2 fp)) hs,h⟩
section
variable {E:xg}{rest body:List Stmt}{e c tg iter:Expr}{pos p:Pos}
theorem qW.then {F:Fr}{D:Ends}(h:qW F E D):qW F {E with nx:=fun α'=>SvS X α' rest E} {D with nx:=kq X rest D}:=
 ⟨fun α' σ' H' m q=>q F σ' H' D m h,h.rt,h.bk,h.ct⟩
theorem zT (q:E.nx α):SvS X α [] E:=fun F σ H D m h=>⟨_,yi,h.nx _ _ _ m q⟩
theorem SvS.imp {sts:List Stmt}{E':xg}(h:SvS X α sts E')(hn:∀α,E'.nx α→E.nx α)(hr:∀a,E'.rt a→E.rt a)(hb:∀α,E'.bk α→E.bk α)(hc:∀α,E'.ct α→E.ct α):SvS X α sts E:=fun F σ H D m r=>
 h F σ H D m ⟨fun α σ H m q=>r.nx α σ H m (hn _ q),fun a v H m q=>r.rt a v H m (hr _ q),fun α σ H m q=>r.bk α σ H m (hb _ q),fun α σ H m q=>r.ct α σ H m (hc _ q)⟩
theorem yF (i:Nat){x:Str}{pos':Pos}(hN:X.N.Nodup)(h:EvD X α e fun d=>SvS X (α.set i (some (.dat d))) rest E)(hi:X.N[i]?=some x:=by rfl)(hx:Loc X.env.scope x:=by first|exact Or.inl rfl|exact Or.inr rfl)
  (hs:swapsWith e (some (.Name x pos')) pos.line X.env=pure false:=by rfl) (hf:X.fn x=true∨X.env.scope.names.lookup x=some .local:=by first|exact .inl rfl|exact .inr rfl|assumption):SvS X α (.Assign [.Name x pos'] e pos::rest) E:=fun F σ H D m r=>by
 refine⟨_,zG (wk hN hi hx zl hs hf) yc,?_⟩
 exact h F σ H _ m fun d v H1 q1 t1 k1 r1=>q1 F _ H1 D ((m.kz k1 t1).set r1) r
theorem xW (i:Nat){x:Str}{pos':Pos}(hN:X.N.Nodup)(h:EvL X α e fun ds=>SvS X (α.set i (some (.own ds))) rest E)(hi:X.N[i]?=some x:=by rfl)(hx:Loc X.env.scope x:=by first|exact Or.inl rfl|exact Or.inr rfl)
  (hs:swapsWith e (some (.Name x pos')) pos.line X.env=pure false:=by rfl) (hf:X.fn x=true∨X.env.scope.names.lookup x=some .local:=by first|exact .inl rfl|exact .inr rfl|assumption):SvS X α (.Assign [.Name x pos'] e pos::rest) E:=fun F σ H D m r=>by
 refine⟨_,zG (wk hN hi hx zl hs hf) yc,?_⟩
 exact h F σ H _ m fun d v H1 q1 t1 k1 r1=>q1 F _ H1 D (m.setOwn t1 k1 r1) r
theorem zi9 (i:Nat){x:Str}{pos' cpos:Pos}{N:List Str}{imp:List (Option Nat)}{scope:Scope}{elt:Expr}{ifs:List Expr}{pat:Pat}(hN:X.N.Nodup)(hc:X.calm=true)(S:zI X.N X.env.scope N imp scope)(hfree:pat.free (yI imp α)=true)
  (hg:∀C s2 H2 fp,PG (X.comp N scope C s2 H2 fp) tg (nZ X.K pat))
  (h:EvI X α tg iter fun ds=>ds.length≤1000∧yU (fun C s2 H2 fp=>X.comp N scope C s2 H2 fp) pat ifs elt (yI imp α) ds [] fun ds=>SvS X (α.set i (some (.own ds))) rest E)
  (hi:X.N[i]?=some x:=by rfl) (hx:Loc X.env.scope x:=by first|exact Or.inl rfl|exact Or.inr rfl) (hsw:swapsWith (.ListComp elt [⟨tg,iter,ifs,0⟩] scope cpos) (some (.Name x pos')) pos.line X.env=pure true:=by rfl)
  (hf:X.fn x=true∨X.env.scope.names.lookup x=some .local:=by first|exact .inl rfl|exact .inr rfl|assumption) (hs:∀x,foldedSetIterable iter X.env x=pure x:=by intro _;rfl):
  SvS X α (.Assign [.Name x pos'] (.ListComp elt [⟨tg,iter,ifs,0⟩] scope cpos) pos::rest) E:=fun F σ H D m r=>by
 obtain⟨Y,rfl,h⟩:=lh hfree h F σ H (fun v H'=>kq X rest D (σ.set i (some v)) H') m fun ds v H' q t k fl=>q F _ H' D (m.setOwn t k fl) r
 exact⟨_,zG (fL hc S qf hg (fun C s2 H2 fp pins s σ H Q I h=>mG pins s σ H Q I (h C s2 H2 fp)) (fun C s2 H2 fp pins s σ H Q I h=>zl pins s σ H Q I (h C s2 H2 fp)) hN hi hx hsw hf hs) yc,h⟩
theorem lg (h:EvD X α e fun _=>SvS X α rest E)(hs:swapsWith e none pos.line X.env=pure false:=by rfl):SvS X α (.Expr e pos::rest) E:=fun F σ H D m r=>by
 refine⟨_,zG (uF zl hs) yc,?_⟩
 exact h F σ H _ m fun d v H1 q1 t1 k1 r1=>q1 F _ H1 D (m.kz k1 t1) r
theorem wc.dat {F:Fr}{σ:St}{H:Hp}{v:V}{d:PyData}(m:M F α σ H)(r:AV (Gz F α σ H) v d):wc F v H (.dat d):=
 ⟨m.tp,m.keep,r.same (zr fun a o h e=>⟨ow0 h,e⟩)⟩
theorem ud (h:EvD X α e fun d=>E.rt (.dat d)):SvS X α (.Return (some e) pos::rest) E:=fun F σ H D m r=>by
 refine⟨_,zG (zA zl) yc,?_⟩
 exact h F σ H _ m fun d v H1 q1 t1 k1 r1=>r.rt _ _ _ (wc.dat (m.kz k1 t1) r1) q1
theorem rR (h:EvL X α e fun ds=>E.rt (.own ds)):SvS X α (.Return (some e) pos::rest) E:=fun F σ H D m r=>by
 refine⟨_,zG (zA zl) yc,?_⟩
 refine h F σ H _ m fun d v H1 q1 t1 k1 r1=>r.rt _ _ _ ?_ q1
 obtain⟨l,xs,h1,h2,h3,h4⟩:=r1
 exact⟨t1,m.keep.trans k1,l,xs,_,h1,rfl,m.fresh0 h2,ow0 (m.fresh h2),h3,h4.same (zr fun a o h e=>⟨⟨ow0 h.1,h.2⟩,e⟩)⟩
theorem vE (i:Nat){x:Str}{ds:List PyData}(hi:α[i]?=some (some (.own ds)))(q:E.rt (.own ds))(hN:X.N[i]?=some x:=by rfl)(hv:Vis X.env.scope x:=by first|exact Or.inl rfl|exact Or.inr (Or.inl rfl)|exact Or.inr (Or.inr rfl))
  (hd:(x == ("__debug__":Str))=false:=by decide) (hcd:(x == ("__classdict__":Str))=false:=by decide):SvS X α (.Return (some (.Name x p)) pos::rest) E:=fun F σ H D m r=>by
 obtain⟨l,xs,h1,h2,h3,h4,h5⟩:=m.own i ds hi
 refine⟨_,zG (zA (yB hN hv hd hcd)) yc,.ref l,h1,r.rt (.own ds) _ _ ⟨m.tp,m.keep,l,xs,_,rfl,rfl,h5,h4,h2,h3.same (zr fun a o h e=>⟨⟨ow0 h,fun z=>h (by rw[z];exact .inr ⟨i,_,_,hi,h1,rfl⟩)⟩,e⟩)⟩ q⟩
theorem xu {a b:List Stmt}(h:EvT X α c fun k=>SvS X α (if k=true then a else b) {E with nx:=fun α'=>SvS X α' rest E}):SvS X α (.If c a b pos::rest) E:=fun F σ H D m r=>by
 refine⟨_,zG (xq xt yc yc) yc,?_⟩
 refine h F σ H _ m fun k H1 q1 t1 k1=>?_
 cases k with
 |true=>exact vS ((by simpa using q1:SvS X α a _) F σ H1 _ (m.kz k1 t1) r.then)
 |false=>exact uw ((by simpa using q1:SvS X α b _) F σ H1 _ (m.kz k1 t1) r.then)
theorem ah (i:Nat){ds:List PyData}{sts:List Stmt}(hi:α[i]?=some (some (.own ds)))(h:SvS X (α.set i (some (.dat (.list ds)))) sts E):SvS X α sts E:=fun F σ H D m r=>h F σ H D (m.frz hi) r
theorem M.wrC {F:Fr}{σ:St}{H:Hp}{i:Nat}{c c':PyData}{l:Addr}{o':HO}(m:M F α σ H)(hi:α[i]?=some (some (.ow c)))(hl:σ[i]?=some (some (.ref l)))(av:yO (Gz F α σ H) o' c'):
  M F (α.set i (some (.ow c'))) σ (upd H l o'):=by
 obtain⟨l',o,h1,h2,h3,h4,h5⟩:=m.owc i c hi
 rw[hl] at h1;cases h1
 have hs:∀{j:Nat} {a:A} {s:Option V},(α.set i (some (.ow c')))[j]?=some (some a)→σ[j]?=some s→(i=j∧a=.ow c'∧s=some (.ref l))∨(i≠j∧α[j]?=some (some a)):=fun {j a s} e1 e2=>by
  rcases zW e1 with ⟨rfl,z⟩|⟨hj,e1'⟩
  ·cases z;rw[hl] at e2;cases e2;exact .inl ⟨rfl,rfl,rfl⟩
  ·exact .inr ⟨hj,e1'⟩
 have oww:∀{y:Addr},Ow F (α.set i (some (.ow c'))) σ y→Ow F α σ y:=fun {y} h=>by
  rcases h with z|⟨j,a,s,e1,e2,f⟩
  ·exact .inl z
  ·rcases hs e1 e2 with ⟨rfl,rfl,rfl⟩|⟨hj,e1'⟩
   ·exact .inr ⟨i,_,_,hi,hl,f⟩
   ·exact .inr ⟨j,a,s,e1',e2,f⟩
 have ol:Ow F α σ l:=.inr ⟨i,_,_,hi,hl,rfl⟩
 have gs:zx (Gz F α σ H) (Gz F (α.set i (some (.ow c'))) σ (upd H l o')):=zr fun a o h e=>⟨fun z=>h (oww z),by rw[zd (fun z=>h (by rw[z];exact ol))];exact e⟩
 refine⟨by rw[zq3];exact m.len,fun j a s e1 e2=>?_,fun j j' a b s t x e1 e2 q1 q2 f1 f2=>?_,fun j r q e j' a s x e1 e2 f=>?_,m.tp.updO h4 (h3.plain h2),fun y o e n=>?_,fun y hy=>?_⟩
 ·rcases hs e1 e2 with ⟨rfl,rfl,rfl⟩|⟨hj,e1'⟩
  ·exact⟨l,o',rfl,zf,av.same gs,h4,h5⟩
  ·refine (m.ok j a s e1' e2).stay gs (fun y u f e=>?_) rfl fun r q ea k=>⟨k.tp,k.o,k.ok.updO (fun z=>h4 (k.o _ z)) (h3.plain h2),fun y u e n=>?_⟩
   ·obtain⟨w1,w2,_⟩:=m.ft e1' e2 f
    refine⟨?_,w1,w2⟩
    rw[zd fun z=>hj (m.dj i j _ a _ s l hi e1' hl e2 rfl (by rw[←z];exact f))]
    exact e
   ·rw[zd (zk e (m.xd j r q (by rw[←ea];exact e1') i _ _ l hi hl rfl))];exact k.k y u e n
 ·rcases hs e1 q1 with ⟨rfl,rfl,rfl⟩|⟨hj,e1'⟩
  ·rcases hs e2 q2 with ⟨rfl,_⟩|⟨hj',e2'⟩
   ·rfl
   ·exact m.dj i j' _ b _ t x hi e2' hl q2 f1 f2
  ·rcases hs e2 q2 with ⟨rfl,rfl,rfl⟩|⟨hj',e2'⟩
   ·exact m.dj j i a _ s _ x e1' hi q1 hl f1 f2
   ·exact m.dj j j' a b s t x e1' e2' q1 q2 f1 f2
 ·rcases zW e with ⟨_,z⟩|⟨_,e'⟩
  ·cases z
  ·rcases hs e1 e2 with ⟨rfl,rfl,rfl⟩|⟨_,e1'⟩
   ·exact m.xd j r q e' i _ _ x hi hl f
   ·exact m.xd j r q e' j' a s x e1' e2 f
 ·rw[zd (zk e h5)];exact m.keep y o e n
 ·rw[zd (fun z=>h4 (by rw[←z];exact hy))];exact m.oex y hy
theorem M.wrOwn {F:Fr}{σ:St}{H:Hp}{i:Nat}{ds es:List PyData}{l:Addr}{ys:List V}(m:M F α σ H)(hi:α[i]?=some (some (.own ds)))(hl:σ[i]?=some (some (.ref l)))(av:AVs (Gz F α σ H) ys es):
  M F (α.set i (some (.own es))) σ (upd H l (.lst ys)):=m.wrC hi hl (.lst av)
theorem xP (i:Nat){x:Str}{ds:List PyData}{p1 p2 p3:Pos}(hi:α[i]?=some (some (.own ds)))(h:EvD X α e fun d=>ds.length<1000∧SvS X (α.set i (some (.own (ds++[d])))) rest E)
  (hN:X.N[i]?=some x:=by rfl) (hv:Vis X.env.scope x:=by first|exact Or.inl rfl|exact Or.inr (Or.inl rfl)|exact Or.inr (Or.inr rfl)) (hd:(x == ("__debug__":Str))=false:=by decide) (hcd:(x == ("__classdict__":Str))=false:=by decide)
  (hbase:attributeBase (.Name x p1) "append" X.env (eval (.Name x p1) X.env)=eval (.Name x p1) X.env:=by rfl) (hs:starEach [e] X.env=(false,eval e X.env)::starEach [] X.env:=by rfl)
  (hpl:((((backTo p3 (starEach [e] X.env)).all fun x=>!x.fst)&&(backToKw p3 (keywordEach [] X.env)).all fun x=>x.fst.isSome)&&decide (([e].length+([]:List Keyword).length+if ([]:List Keyword).isEmpty=true then 0 else 1)<30))=true:=by rfl)
  (hline:(p2.endLine == p3.line)=true:=by rfl) (hsw:swapsWith (.Call (.Attribute (.Name x p1) "append" p2) [e] [] p3) none pos.line X.env=pure false:=by rfl):SvS X α (.Expr (.Call (.Attribute (.Name x p1) "append" p2) [e] [] p3) pos::rest) E:=fun F σ H D m r=>by
 obtain⟨l,xs,h1,h2,h3,h4,h5⟩:=m.own i ds hi
 refine⟨_,zG (uF (bq PySem.F.plainAttrs_list PySem.F.slot_list_append PySem.F.type_list_append sJ (yB hN hv hd hcd) (zc zl zp hs) hbase hpl hline hs) hsw) yc,?_⟩
 refine⟨.ref l,h1,.inl ⟨rfl,_,SqL.of h2⟩,?_⟩
 refine h F σ H _ m fun d v H1 q1 t1 k1 r1=>?_
 have m1:=m.kz k1 t1
 refine⟨l,xs,v,rfl,rfl,k1 _ _ h2 (m.tp.nt h4),by rw[h3.length];exact yK (zt3 q1.1),?_⟩
 exact q1.2 F σ _ D (m1.wrOwn hi h1 ((h3.same (k1.gz m.tp)).append (.cons r1 .nil))) r
theorem aN (i:Nat){x:Str}{ix:Expr}{ds:List PyData}{p1 p2:Pos}(hi:α[i]?=some (some (.own ds)))(h:EvD X α e fun d=>EvD X α ix fun y=>∃k j,y=.int k∧ixN ds.length k=some j∧SvS X (α.set i (some (.own (ds.set j d)))) rest E)
  (hN:X.N[i]?=some x:=by rfl) (hv:Vis X.env.scope x:=by first|exact Or.inl rfl|exact Or.inr (Or.inl rfl)|exact Or.inr (Or.inr rfl)) (hd:(x == ("__debug__":Str))=false:=by decide) (hcd:(x == ("__classdict__":Str))=false:=by decide)
  (hs:swapsWithSole [.Subscript (.Name x p1) ix p2] e pos.line X.env=pure false:=by rfl) (hw:swappedStores [.Subscript (.Name x p1) ix p2] e X.env=pure none:=by rfl)
  (ha:(assignEach [.Subscript (.Name x p1) ix p2] X.env).map (·.2)=[assign (.Subscript (.Name x p1) ix p2) X.env]:=by rfl) (hps:PG X (.Subscript (.Name x p1) ix p2) (zg0 (zb5 i) (uz X ix) bu):=by exact nQ (yB rfl (by first|exact Or.inl rfl|exact Or.inr (Or.inl rfl)|exact Or.inr (Or.inr rfl))) zl set_list):
  SvS X α (.Assign [.Subscript (.Name x p1) ix p2] e pos::rest) E:=fun F σ H D m r=>by
 obtain⟨l,xs,h1,h2,h3,h4,h5⟩:=m.own i ds hi
 refine⟨_,zG (nj zl hps hs hw ha) yc,?_⟩
 refine h F σ H _ m fun d v H1 q1 t1 k1 r1=>?_
 have m1:=m.kz k1 t1
 refine⟨.ref l,h1,?_⟩
 refine q1 F σ H1 _ m1 fun y vy H2 q2 t2 k2 r2=>?_
 have m2:=m1.kz k2 t2
 obtain⟨k,j,rfl,hj,q⟩:=q2
 cases r2.int_inv
 refine⟨l,xs,k,j,rfl,rfl,k2 _ _ (k1 _ _ h2 (m.tp.nt h4)) (m.tp.nt h4),by rw[h3.length];exact hj,?_⟩
 exact q F σ _ D (m2.wrOwn hi h1 (((h3.same (k1.gz m.tp)).same (k2.gz m1.tp)).set (r1.same (k2.gz m1.tp)) j)) r
def uj (X:Cx)(pat:Pat)(body rest:List Stmt)(E:xg):List PyData→Ev→Prop
 |[],α=>SvS X α rest E
 |d::ds,α=>∃α1,pat.bind d α=some α1∧SvS X α1 body {nx:=uj X pat body rest E ds,ct:=uj X pat body rest E ds,bk:=fun α'=>SvS X α' rest E,rt:=E.rt}
theorem vh {pat:Pat}(hp:PassesOwn (model X.prog X.w) X.A X.env X.xe)(hc:X.calm=true)(hg:PG X tg (nZ X.K pat))(h:EvI X α tg iter fun ds=>uj X pat body rest E ds α)
  (hs:∀x,foldedSetIterable iter X.env x=pure x:=by intro _;rfl):SvS X α (.For tg iter body [] pos::rest) E:=fun F σ H D m r=>by
 refine⟨_,zG (aP hp hc qf hg yc hs) yc,?_⟩
 refine h F σ H _ m fun ds J H1 q1 t1 k1 itw=>?_
 have m1:=m.kz k1 t1
 have mu:=m1.up
 have ru:qW (F.up (Gz F α σ H1)) E D:=r.up
 refine⟨fun i n σ' H'=>n=ds.length-i∧i≤ds.length∧∃α',M (F.up (Gz F α σ H1)) α' σ' H'∧uj X pat body rest E (ds.drop i) α',⟨ds.length,by simp,zo3 _,α,mu,q1⟩,?_⟩
 rintro i n σ' H' ⟨rfl,hi,α',m',lw⟩
 obtain⟨w1,w2⟩:=itw i H' _ (m1.upold m')
 by_cases hlt:i<ds.length
 ·have hd:ds[i]?=some ds[i]:=zm9 hlt
  rw[zv0 hlt] at lw
  obtain⟨α1,eb,body⟩:=lw
  obtain⟨go,yl⟩:=w1 _ hd
  refine .inr ⟨go,fun σ'' H''=>∃α',M (F.up (Gz F α σ H1)) α' σ'' H''∧uj X pat _ rest E (ds.drop (i+1)) α',fun σ'' H'' ⟨α'',r1,r2⟩=>⟨ds.length-(i+1),by omega,rfl,hlt,α'',r1,r2⟩,fun x H3 y=>?_⟩
  obtain⟨s23,avx⟩:=yl x H3 y
  have m3:=m'.kz (Kz.of_same s23) (m'.tp.same s23)
  refine mP eb m3 (avx fun a o _ e=>m'.fresh e) fun σ1 m4=>?_
  exact body _ σ1 H3 _ m4 ⟨fun α2 σ2 H2 m2 q=>⟨α2,m2,q⟩,ru.rt,fun α2 σ2 H2 m2 q=>q _ σ2 H2 D m2 ru,fun α2 σ2 H2 m2 q=>⟨α2,m2,q⟩⟩
 ·have e:i=ds.length:=by omega
  subst e
  rw[zy8] at lw
  exact .inl ⟨w2 (zn0 _),lw _ σ' H' D m' ru⟩
theorem yC {pat:Pat}{ds:List PyData}(P:Nat→Ev→Prop)(h0:P 0 α)(hs:∀i d α,ds[i]?=some d→P i α→∃α1,pat.bind d α=some α1∧SvS X α1 body {nx:=P (i+1),ct:=P (i+1),bk:=fun α'=>SvS X α' rest E,rt:=E.rt})
  (hd:∀α,P ds.length α→SvS X α rest E):uj X pat body rest E ds α:=by
 have key:∀n i α,n=ds.length-i→i≤ds.length→P i α→uj X pat body rest E (ds.drop i) α:=by
  intro n
  induction n with
  |zero=>
   intro i α hn hi p
   have e:i=ds.length:=by omega
   subst e
   rw[zy8]
   exact hd α p
  |succ n ih=>
   intro i α hn hi p
   have hlt:i<ds.length:=by omega
   rw[zv0 hlt]
   obtain⟨α1,e,b⟩:=hs i ds[i] α (zm9 hlt) p
   exact⟨α1,e,b.imp (fun α p=>ih (i+1) α (by omega) hlt p) (fun _ z=>z) (fun _ z=>z) (fun α p=>ih (i+1) α (by omega) hlt p)⟩
 exact key _ 0 α rfl (zo3 _) h0
end
end
section
variable {P:Program}{w:World}{K:PySem.W.Frag}{mg:Str→Option Value}{base:Heap}
theorem M.start {F:Fr}{N:List Str}{vs:List V}{as:List A}{H:Hp}(e:F.H0=H)(t:zK F H)(o:∀x,F.O0 x→∃u,H x=some u∧wb u)(rv:zU F (sub (fun x=>¬F.O0 x) H) vs as):
  M F (as.map some++List.replicate (N.length-as.length) none) (L2.start N vs) H:=by
 have hl:=rv.length
 have g:∀{i:Nat} {a:A},(as.map some++List.replicate (N.length-as.length) none)[i]?=some (some a)→as[i]?=some a:=fun {i a} h=>by
  rcases zv4 i as.length with z|z
  ·rw[zq5 (by rw[zm6];exact z),zo0,zp0] at h
   obtain⟨b,h1,h2⟩:=h
   cases h2;exact h1
  ·rw[zr0 (by rw[zm6];exact z),zs3] at h
   split at h<;>cases h
 have at':∀{vs:List V} {as:List A} {i:Nat} {a:A},zU F (sub (fun x=>¬F.O0 x) H) vs as→as[i]?=some a→∃v,vs[i]?=some v∧jw F (sub (fun x=>¬F.O0 x) H) v a:=by
  intro vs as i a h
  induction h generalizing i with
  |nil=>intro e;simp at e
  |cons h r ih=>
   intro e
   cases i with
   |zero=>simp at e;subst e;exact⟨_,rfl,h⟩
   |succ i=>obtain⟨v,h1,h2⟩:=ih (by simpa using e);exact⟨v,by simpa using h1,h2⟩
 have gv:∀{i:Nat} {v:V},vs[i]?=some v→(L2.start N vs)[i]?=some (some v):=fun {i v} h=>by
  have hi:i<vs.length:=(zm8.mp h).1
  unfold L2.start
  rw[zq5 (by rw[zm6];exact hi),zo0,h];rfl
 have no:∀(i:Nat) a,(as.map some++List.replicate (N.length-as.length) none)[i]?=some (some a)→(∃d,a=.dat d)∨a=.tape:=fun i a z=>by
  obtain⟨v,_,h⟩:=at' rv (g z)
  cases a with
  |dat d=>exact .inl ⟨d,rfl⟩
  |tape=>exact .inr rfl
  |_=>exact h.elim
 have gs:zx (sub (fun x=>¬F.O0 x) H) (Gz F (as.map some++List.replicate (N.length-as.length) none) (L2.start N vs) H):=zr fun a o h e=>⟨fun z=>z.elim h fun⟨i,b,s,e1,_,f⟩=>by
  rcases no i b e1 with ⟨d,rfl⟩|rfl
  ·exact f.elim
  ·exact f.elim,e⟩
 refine⟨by unfold L2.start;simp[hl],fun i a s e1 e2=>?_,fun i j a b s t x e1 _ _ _ f=>?_,fun i r q z=>(by rcases no i _ z with ⟨d,w⟩|w<;>cases w),t,fun x o' h _=>by rw[←e];exact h,o⟩
 ·obtain⟨v,h1,h2⟩:=at' rv (g e1)
  rw[gv h1] at e2;cases e2
  rcases no i a e1 with ⟨d,rfl⟩|rfl
  ·exact⟨v,rfl,AV.same gs h2⟩
  ·obtain⟨t',b,c,h3,rfl⟩:=h2
   exact⟨t',b,c,h3,rfl⟩
 ·rcases no i a e1 with ⟨d,rfl⟩|rfl
  ·exact f.elim
  ·exact f.elim
theorem fnA {x qual:Str}{st:Stmt}{f:Addr}{fd:FuncData}{N ps:List Str}{k:Nat}{φ:List A→(A→Prop)→Prop}(G:Fun K x qual st f fd)(S:zo N ps (zb st))(hlen:∀as Q,φ as Q→as.length=ps.length)
  (hbody:∀(cdv:Value) (A':Around) (outer:List Env) (s:Shared) (H:Hp) (E:XK) (as:List A) (Q:A→Prop),zE k (A'.deeper (envOfC qual (zb st) s.heap.objs.size f cdv))→φ as Q→
   SvS (yV CX0 P w K mg base N qual (zb st) f cdv A' outer s H E).nox (as.map some++List.replicate (N.length-as.length) none) (zv st) {nx:=fun _=>Q (.dat .none),rt:=Q}):zy P w K mg base CX0 (k+1) f fd ps (spA φ):=by
 refine G.ok S (fun vs H Q E h=>?_) (fun cdv A' outer s H vs Qc E hr h=>?_)
 ·obtain⟨F,as,Q',_,_,_,rv,hφ,_⟩:=h
  rw[rv.length,hlen as _ hφ]
 ·obtain⟨F,as,Q',e,t,o,rv,hφ,kk⟩:=h
  refine hbody cdv A' outer s H E as Q' hr hφ F _ H _ (M.start e t o rv) ⟨fun α σ H' m q=>?_,fun a v H' r q=>kk a v H' q r,fun _ _ _ _ z=>z.elim,fun _ _ _ _ z=>z.elim⟩
  exact kk _ _ _ q ⟨m.tp,m.keep,.non⟩
end
section
variable {X:Cx}{pins:List (Addr×Obj)}{σ:St}{H:Hp}{s:Shared}{h':Heap}
theorem Inv.turnL {t':Nat}{ch:List Addr}(I:Inv X pins σ H s)(k:∀b o,b∉ch→s.heap.get? b=some o→h'.get? b=some o)(hf:∀b∈ch,yR X pins H b):Inv X pins σ H {s with heap:=h',toks:=t'}:=by
 have nit:∀b u,H b=some u→b∉ch:=fun b u e z=>by rw[(hf b z).1] at e;cases e
 refine I.step (g':=s.gens) (d':=s.drawn) (ch:=ch) (fun b hb=>?_) (fun b o _ _ hc e _=>k b o hc e) (fun b o _ _ hc e _=>⟨o.slots,k b o hc e⟩) (fun _ _ _ _ n=>n)
  (fun b o hc e=>⟨o,k b o hc e⟩) (fun _ _ e=>e) (fun _ _ _ e=>e) (fun b ps e=>⟨#[],by rw[e];simp⟩) (fun m hm=>?_) (fun b u e=>?_) I.bare
 ·obtain⟨_,f1,_,f3,f4,f5⟩:=hf b hb
  exact⟨f3,f1,f4,f5⟩
 ·obtain⟨o,es,ep,ho,r⟩:=hm
  exact⟨o,es,ep,k _ o (fun z=>(hf _ z).2.1 rfl) ho,r⟩
 ·refine (I.hok b u e).stay (fun c v hc q=>k c v ?_ q) (fun _ q=>q) fun _ _ q=>q
  rcases hc with z|z
  ·rw[z];exact nit b u e
  ·exact nit c _ z
theorem Inv.turnLay {t':Nat}{ch:List Addr}{T:Addr}{o:HO}(I:Inv X pins σ H s)(k:∀b o,b∉ch→s.heap.get? b=some o→h'.get? b=some o)(hf:∀b∈ch,yR X pins H b)(hT:s.heap.objs.size≤T)(new:zV X.prog X.w (upd H T o) h' T o):
  Inv X pins σ (upd H T o) {s with heap:=h',toks:=t'}:=by
 have nit:∀b u,H b=some u→b∉ch:=fun b u e z=>by rw[(hf b z).1] at e;cases e
 have hn:H T=none:=I.hok.fresh hT
 have lt:∀{b:Addr} {u:Obj},s.heap.get? b=some u→b≠T:=fun e=>zo2 (zo1 (zn1 e) hT)
 refine I.step (g':=s.gens) (d':=s.drawn) (ch:=ch) (fun b hb=>?_) (fun b o _ _ hc e _=>k b o hc e) (fun b o _ _ hc e _=>⟨o.slots,k b o hc e⟩) (fun b u _ e n=>by rw[zd (lt e)];exact n)
  (fun b o hc e=>⟨o,k b o hc e⟩) (fun b xs e=>by rw[zd (zk e hn)];exact e) (fun b u xs e=>by rw[zd (zk e hn)];exact e) (fun b ps e=>⟨#[],by rw[zd (zk e hn),e];simp⟩) (fun m hm=>?_) (fun b u e=>?_) I.bare
 ·obtain⟨_,f1,_,f3,f4,f5⟩:=hf b hb
  exact⟨f3,f1,f4,f5⟩
 ·obtain⟨o,es,ep,ho,r⟩:=hm
  exact⟨o,es,ep,k _ o (fun z=>(hf _ z).2.1 rfl) ho,r⟩
 ·by_cases hb:b=T
  ·subst hb;rw[zf] at e;cases e;exact new
  ·rw[zd hb] at e
   refine (I.hok b u e).stay (fun c v hc q=>k c v ?_ q) (fun c q=>by rw[zd (zk q hn)];exact q) fun c xs q=>by rw[zd (zk q hn)];exact q
   rcases hc with z|z
   ·rw[z];exact nit b u e
   ·exact nit c _ z
end
theorem zk7 {a b:Nat}(h:b<a):(a:Addr)≠b:=zt8 h
def Itz (K:PySem.W.Frag)(l1 l2:Addr):It:=
 ⟨fun i H=>∃xs ys x y,SqL K H l1 xs∧SqL K H l2 ys∧xs[i]?=some x∧ys[i]?=some y,
  fun i H v H'=>∃T x y,v=.ref T∧H T=none∧H'=upd H T (.tup [x,y])∧(∀xs,SqL K H l1 xs→xs[i]?=some x)∧∀ys,SqL K H l2 ys→ys[i]?=some y,
  fun i H=>∃xs ys,SqL K H l1 xs∧SqL K H l2 ys∧(xs.length≤i∨ys.length≤i)⟩
def Ite (K:PySem.W.Frag)(l:Addr):It:=
 ⟨fun i H=>∃xs x,SqL K H l xs∧xs[i]?=some x,
  fun i H v H'=>∃T x,v=.ref T∧H T=none∧H'=upd H T (.tup [.int i,x])∧∀xs,SqL K H l xs→xs[i]?=some x,
  fun i H=>∃xs,SqL K H l xs∧xs.length≤i⟩
theorem zh9 {P:Program}{w:World}{K:PySem.W.Frag}{elts:List Expr}{kk:Nat}{pos:Pos}{z TI TO i1 i2 l1 l2:Addr}(D:ZipApart z TI TO i1 i2 l1 l2):
  Turn P w K (.Tuple elts kk pos) (Itz K l1 l2) [z,TI,TO,i1,i2] z (fun i h=>IsZip h z TI TO .none∧IsPair h TI (.ref i1) (.ref i2)∧(∃a b,IsPair h TO a b)∧h.IsListIter i1 l1 i∧h.IsListIter i2 l2 i) where
 mem:=by simp
 obj:=fun i h st b hb=>by
  obtain⟨h1,h2,⟨a,c,h3⟩,⟨o1,e1,_,d1⟩,⟨o2,e2,_,d2⟩⟩:=st
  simp only[zn2,zo4,zq6] at hb
  rcases hb with rfl|rfl|rfl|rfl|rfl
  ·exact⟨_,h1,fun v z=>by cases (show Data.fields _=Data.cell v from z)⟩
  ·exact⟨_,h2,fun v z=>by cases (show Data.seq _ _=Data.cell v from z)⟩
  ·exact⟨_,h3,fun v z=>by cases (show Data.seq _ _=Data.cell v from z)⟩
  ·exact⟨o1,e1,fun v z=>by rw[d1] at z;cases z⟩
  ·exact⟨o2,e2,fun v z=>by rw[d2] at z;cases z⟩
 keep:=fun i h h' st k=>by
  obtain⟨h1,h2,⟨a,c,h3⟩,h4,h5⟩:=st
  exact⟨k z (by simp) _ h1,k TI (by simp) _ h2,⟨a,c,k TO (by simp) _ h3⟩,h4.at fun o e=>k i1 (by simp) o e,h5.at fun o e=>k i2 (by simp) o e⟩
 item:=by
  intro X hP hw hK hc i pins s σ H E I hf st hg
  subst hP hw hK
  obtain⟨xs,ys,x,y,hq1,hq2,hx,hy⟩:=hg
  obtain⟨its1,rv1,p1,hz1⟩:=I.list hq1
  obtain⟨its2,rv2,p2,hz2⟩:=I.list hq2
  obtain⟨u,hu,ru⟩:=rv1.get hx
  obtain⟨v,hv,rv⟩:=rv2.get hy
  obtain⟨h1,h2,⟨a,c,h3⟩,h4,h5⟩:=st
  refine wpAny_pyNext_zip_item D h1 h2 h3 h4 h5 p1.isList p2.isList (x:=u) (y:=v) (by simpa using hu) (by simpa using hv) fun h' a1 a2 a3 a4 a5 a6 hk=>⟨_,rfl,?_⟩
  refine wpAny_letOwnedTupleGo_zip (s:={s with heap:=h'}) a1 fun h'' b1 b2=>?_
  have hTz:s.heap.objs.size≠z:=zt8 (zn1 h1)
  have hk2:∀b o,b∉[z,TI,TO,i1,i2]→s.heap.get? b=some o→h''.get? b=some o:=fun b o hb e=>by
   simp only[zn2,zo4,zq6,not_or] at hb
   exact b2.extBut _ _ hb.1 (hk b o hb.1 hb.2.2.1 hb.2.2.2.1 hb.2.2.2.2 e)
  have gT:h''.get? s.heap.objs.size=some {cls:=.type "tuple",data:=.seq #[u,v]}:=b2.extBut _ _ hTz a5
  have J:=I.turnLay (t':=s.toks) (T:=s.heap.objs.size) (o:=.tup [x,y]) hk2 hf (zn0 _) ⟨by show 2≤sizeLine;decide,[u,v],.cons ru (.cons rv .nil),_,gT,rfl,0,rfl⟩
  refine⟨.ref s.heap.objs.size,_,J,rfl,⟨_,x,y,rfl,I.hok.fresh (zn0 _),rfl,fun zs hz=>by rw[I.list_inj hz hq1];exact hx,fun zs hz=>by rw[I.list_inj hz hq2];exact hy⟩,⟨b1,b2.extBut _ _ D.TIz (hk _ _ D.TIz D.TITO D.TIi1 D.TIi2 h2),⟨u,v,b2.extBut _ _ D.TOz a2⟩,a3.extBut b2.extBut D.i1z,a4.extBut b2.extBut D.i2z⟩,fun b hb=>?_⟩
  rw[zd]
  ·exact (hf b hb).1
  ·obtain⟨o,e,_⟩:=(show ∃o,s.heap.get? b=some o∧True from by
    simp only[zn2,zo4,zq6] at hb
    obtain⟨o1,e1,_⟩:=h4
    obtain⟨o2,e2,_⟩:=h5
    rcases hb with rfl|rfl|rfl|rfl|rfl
    ·exact⟨_,h1,trivial⟩
    ·exact⟨_,h2,trivial⟩
    ·exact⟨_,h3,trivial⟩
    ·exact⟨_,e1,trivial⟩
    ·exact⟨_,e2,trivial⟩)
   exact zo2 (zn1 e)
 done:=by
  intro X hP hw hK hc i pins s σ H E I hf st hg
  subst hP hw hK
  obtain⟨xs,ys,hq1,hq2,hl⟩:=hg
  obtain⟨its1,rv1,p1,hz1⟩:=I.list hq1
  obtain⟨its2,rv2,p2,hz2⟩:=I.list hq2
  obtain⟨h1,h2,⟨a,c,h3⟩,h4,h5⟩:=st
  have e1:=rv1.length
  have e2:=rv2.length
  refine wpAny_pyNext_zip_end (I.ok.hd hc) D h1 h2 h3 h4 h5 p1.isList p2.isList (hl.imp (fun z=>by simp;omega) fun z=>by simp;omega) fun h' hk=>⟨rfl,?_⟩
  exact I.turnL (t':=s.toks) (ch:=[z,TI,TO,i1,i2]) (fun b o hb e=>by
   simp only[zn2,zo4,zq6,not_or] at hb
   exact hk b o hb.1 hb.2.2.1 hb.2.2.2.1 hb.2.2.2.2 e) hf
 self:=fun A i s Q E st h=>wpAny_pyIter_zip st.1 h
theorem kf {P:Program}{w:World}{K:PySem.W.Frag}{elts:List Expr}{kk:Nat}{pos:Pos}{e it l:Addr}(hne:e≠it):
  Turn P w K (.Tuple elts kk pos) (Ite K l) [e,it] e (fun i h=>(∃old,IsEnum h e it i old)∧h.IsListIter it l i) where
 mem:=by simp
 obj:=fun i h st b hb=>by
  obtain⟨⟨old,h1⟩,⟨o1,e1,_,d1⟩⟩:=st
  simp only[zn2,zo4,zq6] at hb
  rcases hb with rfl|rfl
  ·exact⟨_,h1,fun v z=>by cases (show Data.fields _=Data.cell v from z)⟩
  ·exact⟨o1,e1,fun v z=>by rw[d1] at z;cases z⟩
 keep:=fun i h h' st k=>by
  obtain⟨⟨old,h1⟩,h4⟩:=st
  exact⟨⟨old,k e (by simp) _ h1⟩,h4.at fun o q=>k it (by simp) o q⟩
 item:=by
  intro X hP hw hK hc i pins s σ H E I hf st hg
  subst hP hw hK
  obtain⟨xs,x,hq1,hx⟩:=hg
  obtain⟨its1,rv1,p1,hz1⟩:=I.list hq1
  obtain⟨u,hu,ru⟩:=rv1.get hx
  obtain⟨⟨old,h1⟩,h4⟩:=st
  refine wpAny_pyNext_enum_item h1 h4 p1.isList (x:=u) (by simpa using hu) hne fun h' a1 a3 a5 a6 hk=>⟨_,rfl,?_⟩
  refine wpAny_letOwnedTupleGo_enum (s:={s with heap:=h',toks:=s.toks+1}) a1 fun h'' b1 b2=>?_
  have hTz:s.heap.objs.size≠e:=zt8 (zn1 h1)
  have hk2:∀b o,b∉[e,it]→s.heap.get? b=some o→h''.get? b=some o:=fun b o hb q=>by
   simp only[zn2,zo4,zq6,not_or] at hb
   exact b2.extBut _ _ hb.1 (hk b o hb.1 hb.2 q)
  have gT:h''.get? s.heap.objs.size=some {cls:=.type "tuple",data:=.seq #[.int i s.toks,u]}:=b2.extBut _ _ hTz a5
  have J:=I.turnLay (t':=s.toks+1) (T:=s.heap.objs.size) (o:=.tup [.int i,x]) hk2 hf (zn0 _) ⟨by show 2≤sizeLine;decide,[.int i s.toks,u],.cons ⟨_,rfl⟩ (.cons ru .nil),_,gT,rfl,0,rfl⟩
  refine⟨.ref s.heap.objs.size,_,J,rfl,⟨_,x,rfl,I.hok.fresh (zn0 _),rfl,fun zs hz=>by rw[I.list_inj hz hq1];exact hx⟩,⟨⟨u,by simpa using b1⟩,a3.extBut b2.extBut hne.symm⟩,fun b hb=>?_⟩
  rw[zd]
  ·exact (hf b hb).1
  ·obtain⟨o,q,_⟩:=(show ∃o,s.heap.get? b=some o∧True from by
    simp only[zn2,zo4,zq6] at hb
    obtain⟨o1,e1,_⟩:=h4
    rcases hb with rfl|rfl
    ·exact⟨_,h1,trivial⟩
    ·exact⟨_,e1,trivial⟩)
   exact zo2 (zn1 q)
 done:=by
  intro X hP hw hK hc i pins s σ H E I hf st hg
  subst hP hw hK
  obtain⟨xs,hq1,hl⟩:=hg
  obtain⟨its1,rv1,p1,hz1⟩:=I.list hq1
  obtain⟨⟨old,h1⟩,h4⟩:=st
  have e1:=rv1.length
  refine wpAny_pyNext_enum_end (I.ok.hd hc) h1 h4 p1.isList (by simp;omega) fun h' hk=>⟨rfl,?_⟩
  exact I.turnL (t':=s.toks) (ch:=[e,it]) (fun b o hb q=>by
   simp only[zn2,zo4,zq6,not_or] at hb
   exact hk b o hb.2 q) hf
 self:=fun A i s Q E st h=>by
  obtain⟨⟨old,h1⟩,h4⟩:=st
  exact wpAny_pyIter_enum h1 h
section
variable {X:Cx}{α:Ev}{elts:List Expr}{kk:Nat}{tp p pos:Pos}{a b:Expr}
def zi0 (K:PySem.W.Frag)(ta:TA):TI:=fun σ H R=>ta σ H fun vs H1=>∃l,vs=[.ref l]∧(∃xs,SqL K H1 l xs)∧R (Ite K l) H1
theorem cm {ta:TA}(hg:Gl X "enumerate")(hm:X.mg "enumerate"=none)(ha:PA X [a] ta)(hs:starEach [a] X.env=[(false,eval a X.env)]:=by rfl):
  PI X (.Tuple elts kk tp) (.Call (.Name "enumerate" p) [a] [] pos) (zi0 X.K ta):=by
 intro pins s σ H R I h
 refine Call_ (xF I hg hm boot_enumerate (zq8 (thn (ha pos pins s σ H _ I h) fun us s1 ⟨vs,H1,I1,r1,q1⟩=>?_) hs rfl))
 obtain⟨l1,e,⟨xs,hq1⟩,q⟩:=q1
 subst e
 obtain⟨u,rfl,ru⟩:=Vals.one r1
 cases (show u=Value.ref l1 from ru)
 obtain⟨its1,rv1,p1,hz1⟩:=I1.list hq1
 refine call_enumerate_list p1.isList fun h' z1 z4 z6 hk=>?_
 refine wpAny_pyIter_enum (s:={s1 with heap:=h'}) z1 ?_
 refine⟨_,_,_,_,H1,rfl,I1.kept (t':=s1.toks) fun b o e=>hk b o e,kf (zk7 (a:=s1.heap.objs.size+1) (b:=s1.heap.objs.size) (zw7 _)),⟨⟨_,z1⟩,z4⟩,fun b hb=>?_,q⟩
 simp only[zn2,zo4,zq6] at hb
 have hb':s1.heap.objs.size≤b:=by
  have key:∀n b:Nat,n=s1.heap.objs.size→(b=n+1∨b=n)→n≤b:=fun n b _ h=>by omega
  exact key _ _ rfl hb
 exact I1.fpOk hb' (I1.hok.fresh hb')
def uo (n:Nat):List PyData→List PyData
 |[]=>[]
 |d::ds=>.tuple [.int n,d]::uo (n+1) ds
theorem wW :∀{ds:List PyData} {n i:Nat} {d:PyData},(uo n ds)[i]?=some d→∃e,ds[i]?=some e∧d=.tuple [.int ((n+i:Nat):Int),e]
 |[],n,i,d,h=>by simp[uo] at h
 |e::ds,n,0,d,h=>by simp[uo] at h;exact⟨e,rfl,by simp[←h]⟩
 |e::ds,n,i+1,d,h=>by
  simp only[uo,zv7] at h
  obtain⟨e',h1,h2⟩:=wW h
  exact⟨e',by simpa using h1,by rw[h2,Nat.add_assoc,Nat.add_comm 1 i]⟩
theorem wU :∀(ds:List PyData) (n:Nat),(uo n ds).length=ds.length
 |[],_=>rfl
 |_::ds,n=>by simp[uo,wU ds (n+1)]
theorem lA {Q:List PyData→Prop}(hg:Gl X "enumerate")(hm:X.mg "enumerate"=none)(h:EvD X α a fun x=>∃ds,x=.list ds∧Q (uo 0 ds))(hs:starEach [a] X.env=[(false,eval a X.env)]:=by rfl):
  EvI X α (.Tuple elts kk tp) (.Call (.Name "enumerate" p) [a] [] pos) Q:=fun F σ H R m k=>by
 refine⟨_,cm hg hm (zc zl zp hs) hs,?_⟩
 refine h F σ H _ m fun x vx H1 q1 t1 k1 r1=>?_
 obtain⟨ds,rfl,q⟩:=q1
 obtain⟨l1,xs,rfl,g1,g2⟩:=r1.lst_inv
 refine⟨l1,rfl,⟨xs,SqL.of (zj g1).2⟩,k _ _ H1 q t1 k1 fun i H3 p s=>⟨fun d hd=>?_,fun hl=>?_⟩⟩
 ·have s1:=SqL.of (K:=X.K) (zj (s _ _ g1)).2
  obtain⟨e,he,rfl⟩:=wW hd
  obtain⟨x1,hx1,av1⟩:=g2.get he
  refine⟨⟨xs,x1,s1,hx1⟩,fun v H4 y=>?_⟩
  obtain⟨T,x,rfl,hT,rfl,hx⟩:=y
  have hx:=hx _ s1
  rw[hx1] at hx;cases hx
  refine⟨ym hT,fun fr=>?_⟩
  have gs:zx (Gz F α σ H1) (sub p (upd H3 T (.tup [.int i,x1]))):=fun a o e=>by
   obtain⟨z1,z2⟩:=zj (s a o e)
   exact zR z1 (by rw[zd (zk z2 hT)];exact z2)
  refine .tup (zR (fr T _ zf hT) zf) (.cons ?_ (.cons (av1.same gs) .nil))
  rw[Nat.zero_add]
  exact .int _
 ·refine⟨xs,SqL.of (zj (s _ _ g1)).2,?_⟩
  rw[wU,←g2.length] at hl
  exact hl
end
structure Cal (P:Program)(w:World)(K:PySem.W.Frag)(mg:Str→Option Value)(base:Heap)(x:Str)(k:Nat)(φ:List A→(A→Prop)→Prop):Prop where
 ex:∃f fd ps,mg x=some (.ref f)∧PySem.W.keepIn K (.ref f)=true∧Binds K fd ps []∧zy P w K mg base CX0 k f fd ps (spA φ)
section
variable {X:Cx}{α:Ev}{e a b:Expr}{es:List Expr}{pos p:Pos}{Q:PyData→Prop}{k:Nat}{φ:List A→(A→Prop)→Prop}{x:Str}
theorem rL (C:Cal X.prog X.w X.K X.mg X.base x k φ)(hr:zE k X.A)(hg:Gl X x)(h:EvA X α (e::es) fun as=>φ as fun a=>Q a.d)
  (hdb:(x == ("__debug__":Str))=false:=by decide) (he:starEach (e::es) X.env=(false,eval e X.env)::starEach es X.env:=by rfl) (hpl:(backTo pos (starEach es X.env)).any (·.1)=false:=by rfl):EvD X α (.Call (.Name x p) (e::es) [] pos) Q:=by
 obtain⟨f,fd,ps,h1,h2,h3,h4⟩:=C.ex
 exact dS h4 hr hg h1 h2 h3 h hdb he hpl
theorem ve {Q:List PyData→Prop}(C:Cal X.prog X.w X.K X.mg X.base x k φ)(hr:zE k X.A)(hg:Gl X x)(h:EvA X α (e::es) fun as=>φ as fun a=>∃ds,a=.own ds∧Q ds)
  (hdb:(x == ("__debug__":Str))=false:=by decide) (he:starEach (e::es) X.env=(false,eval e X.env)::starEach es X.env:=by rfl) (hpl:(backTo pos (starEach es X.env)).any (·.1)=false:=by rfl):EvL X α (.Call (.Name x p) (e::es) [] pos) Q:=by
 obtain⟨f,fd,ps,h1,h2,h3,h4⟩:=C.ex
 exact dG h4 hr hg h1 h2 h3 h hdb he hpl
end
section
variable {P:Program}{w:World}{K:PySem.W.Frag}{mg:Str→Option Value}{base:Heap}
theorem ph {x qual:Str}{st:Stmt}{f:Addr}{fd:FuncData}{N ps:List Str}{k:Nat}{φ:List A→(A→Prop)→Prop}(G:Fun K x qual st f fd)(hm:mg x=some (.ref f))(hb:Binds K fd ps [])(S:zo N ps (zb st))(hlen:∀as Q,φ as Q→as.length=ps.length)
  (hbody:∀(cdv:Value) (A':Around) (outer:List Env) (s:Shared) (H:Hp) (E:XK) (as:List A) (Q:A→Prop),zE k (A'.deeper (envOfC qual (zb st) s.heap.objs.size f cdv))→φ as Q→
   SvS (yV CX0 P w K mg base N qual (zb st) f cdv A' outer s H E).nox (as.map some++List.replicate (N.length-as.length) none) (zv st) {nx:=fun _=>Q (.dat .none),rt:=Q}):Cal P w K mg base x (k+1) φ:=
 ⟨f,fd,ps,hm,G.kp,hb,fnA G S hlen hbody⟩
def qt :List A→(A→Prop)→Prop:=fun as Q=>∃n:Int,as=[.tape,.dat (.int n)]∧0<n∧n<big∧∀v,0≤v→v<n→Q (.dat (.int v))
theorem iw {f:Addr}{fd:FuncData}{x:Str}(hm:mg x=some (.ref f))(hk:PySem.W.keepIn K (.ref f)=true)(hb:Binds K fd ["_law_tape_here","_law_many"] [])(G:zy P w K mg base CX0 1 f fd ["_law_tape_here","_law_many"] jV):Cal P w K mg base x 1 qt:=by
 refine⟨f,fd,_,hm,hk,hb,G.imp fun vs H Q E h=>?_⟩
 obtain⟨F,as,Q',rfl,t,o,rv,⟨n,rfl,h0,h1,hq⟩,kk⟩:=h
 cases rv with
 |cons a1 r=>
  obtain⟨ta,b,c,e,rfl⟩:=a1
  obtain⟨v,rfl,av⟩:=r.one
  cases av.int_inv
  refine⟨ta,b,c,n,rfl,(t ta b c e).1,h0,h1,fun z H' z0 z1 TA off=>kk _ _ _ (hq z z0 z1) ⟨⟨(by
   obtain⟨_,_,_,_,e1,e2,_⟩:=(t ta b c e).1.ex
   exact eW t.tab e1 e2 off),t.ot,fun t' b' c' e'=>?_⟩,fun y u hy n=>?_,.int z⟩⟩
  ·rw[e] at e';cases e'
   exact⟨TA,(t ta b c e).2⟩
  ·rw[off y (n.1 _ _ _ e).1 (n.1 _ _ _ e).2];exact hy
theorem M.tape {H:Hp}{t b c:Addr}{α:Ev}{σ:St}(T:yr H t b c)(TB:TabAt H)(hl:α.length=σ.length)(h:∀(i:Nat) a,α[i]?=some (some a)→a=.tape∧σ[i]?=some (some (.ref t))):M ⟨H,fun x=>x=t∨x=b∨x=c∨uL x,some (t,b,c)⟩ α σ H:=by
 refine⟨hl,fun i a s e1 e2=>?_,fun i j a b s u x e1 _ _ _ f=>?_,fun i r q e=>?_,⟨TB,fun x z=>.inr (.inr (.inr z)),fun t' b' c' e=>?_⟩,fun _ _ e _=>e,fun x hx=>?_⟩
 ·obtain⟨rfl,z⟩:=h i a e1
  rw[z] at e2;cases e2
  exact⟨t,b,c,rfl,rfl⟩
 ·obtain⟨rfl,_⟩:=h i a e1
  exact f.elim
 ·cases (h i _ e).1
 ·cases e
  exact⟨T,.inl rfl,.inr (.inl rfl),.inr (.inr (.inl rfl))⟩
 ·obtain⟨n,bs,cs,_,e1,e2,e3,_⟩:=T.ex
  rcases hx with rfl|rfl|rfl|z
  ·exact⟨_,e1,yL⟩
  ·exact⟨_,e2,yL⟩
  ·exact⟨_,e3,yL⟩
  ·obtain⟨o,h1,h2,_⟩:=rQ TB z
   exact⟨o,h1,h2⟩
theorem zl4 {st:Stmt}{f fT:Addr}{fd fdT:FuncData}{N':List Str}{k:Nat}{p1 p2 p3 p4 p5:Pos}{rest:List Stmt}(G:Fun K "law" "law" st f fd)(S:zo ("_law_script"::"_law_tape_here"::N') ["_law_script"] (zb st))
  (GT:zy P w K mg base CX0 1 fT fdT ["_law_script"] (nM K)) (mT:mg "_law_tape"=some (.ref fT)) (kT:PySem.W.keepIn K (.ref fT)=true) (bT:Binds K fdT ["_law_script"] [])
  (hb:zv st=.Assign [.Name "_law_tape_here" p1] (.Call (.Name "_law_tape" p2) [.Name "_law_script" p3] [] p4) p5::rest) (hgl:(zb st).names.lookup ("_law_tape":Str)=some .globalImplicit) (hl:Loc (zb st) "_law_tape_here") (hv:Vis (zb st) "_law_script")
  (hbody:∀(cdv:Value) (A':Around) (outer:List Env) (s:Shared) (H:Hp) (E:XK),zE (k+1) (A'.deeper (envOfC "law" (zb st) s.heap.objs.size f cdv))→
   SvS (yV CX0 P w K mg base ("_law_script"::"_law_tape_here"::N') "law" (zb st) f cdv A' outer s H E).nox (none::some .tape::List.replicate N'.length none) rest {nx:=fun _=>False,rt:=fun a=>a=.dat (.bool true)}):
  zy P w K mg base CX0 (k+1+1) f fd ["_law_script"] (pZ K):=by
 refine G.ok S (fun vs H Q E h=>?_) (fun cdv A' outer s H vs Qc E hr h=>?_)
 ·obtain⟨a,ns,rfl,_⟩:=h
  rfl
 ·obtain⟨a,ns,rfl,hS,hn,tb,kk⟩:=h
  rw[hb]
  refine zP (fun σ H1=>∃t b c,yr H1 t b c∧TabAt H1∧σ=some (.ref a)::some (.ref t)::List.replicate N'.length none)
   ⟨_,wk (i:=1) S.nd rfl hl (zL GT (hr.mono (by omega)) hgl mT kT bT .nil zS (zc (yB (i:=0) rfl hv) zp)) (hf:=.inl rfl),?_⟩ ?_
  ·refine⟨.ref a,rfl,a,ns,rfl,hS,hn,fun t b c H' T _ _ _ sm=>⟨t,b,c,T,hU tb sm,?_⟩⟩
   show ((L2.start ("_law_script"::"_law_tape_here"::N') [.ref a]).set 1 (some (.ref t)))=_
   unfold L2.start
   simp[List.replicate_succ]
  ·rintro σ H1 ⟨t,b,c,T,TB,rfl⟩
   refine hbody cdv A' outer s H E hr ⟨H1,fun x=>x=t∨x=b∨x=c∨uL x,some (t,b,c)⟩ _ H1 _ (M.tape T TB (by simp) fun i z e=>?_) ⟨fun _ _ _ _ z=>z.elim,fun z v H' r e=>?_,fun _ _ _ _ z=>z.elim,fun _ _ _ _ z=>z.elim⟩
   ·cases i with
    |zero=>simp at e
    |succ i=>
     cases i with
     |zero=>simp at e;subst e;exact⟨rfl,rfl⟩
     |succ i=>
      simp only[zv7,zs3] at e
      split at e<;>cases e
   ·cases e
    obtain⟨_,_,r⟩:=r
    rw[AV.bl_inv r]
    exact kk H'
end
section
variable {Y:Addr→Shared→Hp→List Addr→Cx}{pat:Pat}{ifs:List Expr}{elt:Expr}{α0:Ev}
theorem ko {ds acc:List PyData}{Q:List PyData→Prop}(P:Nat→List PyData→Prop)(h0:P 0 acc)
  (hs:∀i d acc,ds[i]?=some d→P i acc→∃α1,pat.bind d α0=some α1∧∀C s2 H2 fp,kH (Y C s2 H2 fp) α1 ifs fun k=>if k=true then ∀C s2 H2 fp,EvD (Y C s2 H2 fp) α1 elt fun y=>P (i+1) (acc++[y]) else P (i+1) acc)
  (hd:∀acc,P ds.length acc→Q acc):yU Y pat ifs elt α0 ds acc Q:=by
 have key:∀n i acc,n=ds.length-i→i≤ds.length→P i acc→yU Y pat ifs elt α0 (ds.drop i) acc Q:=by
  intro n
  induction n with
  |zero=>
   intro i acc hn hi p
   have e:i=ds.length:=by omega
   subst e
   rw[zy8]
   exact hd acc p
  |succ n ih=>
   intro i acc hn hi p
   have hlt:i<ds.length:=by omega
   rw[zv0 hlt]
   obtain⟨α1,e,b⟩:=hs i ds[i] acc (zm9 hlt) p
   refine⟨α1,e,fun C s2 H2 fp F σ H R m kk=>b C s2 H2 fp F σ H R m fun k H' q=>kk k H' ?_⟩
   cases k with
   |true=>
    rw[if_pos rfl] at q ⊢
    exact fun C s2 H2 fp=>(q C s2 H2 fp).imp fun y p=>ih (i+1) _ (by omega) hlt p
   |false=>
    rw[if_neg (by decide)] at q ⊢
    exact ih (i+1) _ (by omega) hlt q
 exact key _ 0 acc rfl (zo3 _) h0
theorem tT {ds acc:List PyData}{Q:List PyData→Prop}(p:PyData→Bool)(f:PyData→PyData)
  (hs:∀d∈ds,∃α1,pat.bind d α0=some α1∧(∀C s2 H2 fp (Q:Bool→Prop),Q (p d)→kH (Y C s2 H2 fp) α1 ifs Q)∧(p d=true→∀C s2 H2 fp (Q:PyData→Prop),Q (f d)→EvD (Y C s2 H2 fp) α1 elt Q))
  (hd:Q (acc++(ds.filter p).map f)):yU Y pat ifs elt α0 ds acc Q:=by
 induction ds generalizing acc with
 |nil=>
  show Q acc
  simpa using hd
 |cons d ds ih=>
  obtain⟨α1,e,h1,h2⟩:=hs d zo5
  refine⟨α1,e,fun C s2 H2 fp=>h1 C s2 H2 fp _ ?_⟩
  have ih':=fun acc=>ih (acc:=acc) fun d hd=>hs d (zn6 _ hd)
  cases hp:p d with
  |true=>
   rw[if_pos rfl]
   refine fun C s2 H2 fp=>h2 hp C s2 H2 fp _ (ih' _ ?_)
   simpa[zw8,hp] using hd
  |false=>
   rw[if_neg (by decide)]
   refine ih' _ ?_
   simpa[zw8,hp] using hd
end
theorem zf2 {ds:List PyData}{v:Int}(h0:0≤v)(h1:v<ds.length):∃d,d∈ds∧atI ds v=some d:=by
 obtain⟨j,rfl⟩:=zt6 h0
 have hj:j<ds.length:=by omega
 exact⟨ds[j],zy9 hj,xV (zm9 hj)⟩
theorem oA (st:Stmt)(env:Env):execs [st] env=exec st env:=by
 rw[PySem.execs_cons]
 have:(fun f:Flow=>(match f with|.next=>execs [] env|f=>pure f:Sem Flow))=pure:=by
  funext f
  cases f<;>rfl
 exact (congrArg (fun g=>exec st env >>= g) this).trans (bind_pure _)
section
variable {X:Cx}{α:Ev}{e a b c:Expr}{es rest:List Expr}{pos p:Pos}{Q:PyData→Prop}{E:xg}{st:Stmt}{sts sts':List Stmt}
theorem rY (P:Ev→Prop)(h1:SvS X α [st] {E with nx:=P})(h2:∀α',P α'→SvS X α' sts E):SvS X α (st::sts) E:=fun F σ H D m r=>by
 refine zP (fun σ' H'=>∃α',M F α' σ' H'∧P α') ?_ ?_
 ·obtain⟨t,p,q⟩:=h1 F σ H {D with nx:=fun σ' H'=>∃α',M F α' σ' H'∧P α'} m ⟨fun α' σ' H' m' z=>⟨α',m',z⟩,r.rt,r.bk,r.ct⟩
  exact⟨t,fun pins s σ H D I h=>(by
   have:=p pins s σ H D I h
   rw[oA] at this
   exact this),q⟩
 ·rintro σ' H' ⟨α',m',z⟩
  exact h2 α' z F σ' H' D m' r
theorem hG {c:Prop}[Decidable c]{a b:List Stmt}(h1:c→SvS X α a E)(h2:¬c→SvS X α b E):SvS X α (if decide c=true then a else b) E:=by
 by_cases h:c
 ·rw[zp7 h];exact h1 h
 ·rw[zp5 h];exact h2 h
theorem uG {k:Bool}{a b:List Stmt}(h1:k=true→SvS X α a E)(h2:k=false→SvS X α b E):SvS X α (if k=true then a else b) E:=by
 cases k with
 |true=>exact h1 rfl
 |false=>exact h2 rfl
theorem cW {i j:Int}:Cmp rEq (.int i) (.int j) (decide (i=j)):=fun p H vx vy R rx ry h=>by
 cases rx.int_inv;cases ry.int_inv
 refine⟨rfl,?_⟩
 rw[show decide (V.int i=V.int j)=decide (i=j) by simp]
 exact h
theorem mM {i j:Str}:Cmp rEq (.str i) (.str j) (decide (i=j)):=fun p H vx vy R rx ry h=>by
 cases rx.str_inv;cases ry.str_inv
 refine⟨rfl,?_⟩
 rw[show decide (V.str i=V.str j)=decide (i=j) by simp]
 exact h
theorem aL {op:CmpOp}{r:R2}(ho:OpR X (compareOp op) r)(hm:behindInMarks op b=false)(h:EvD X α a fun x=>EvD X α b fun y=>∃k,Cmp r x y k∧Q (.bool k)):EvD X α (.Compare a [op] [b] pos) Q:=fun F σ H R m k=>by
 refine⟨_,xp ho zl zl hm,?_⟩
 refine h F σ H _ m fun x vx H1 q1 t1 k1 r1=>?_
 have m1:=m.kz k1 t1
 refine q1 F σ H1 _ m1 fun y vy H2 q2 t2 k2 r2=>?_
 obtain⟨b,hc,q⟩:=q2
 exact hc _ H2 vx vy _ (r1.same (k2.gz m1.tp)) r2 (k _ _ H2 q t2 (k1.trans k2) (.bl b))
theorem aF {Q:Bool→Prop}(h:EvD X α a fun x=>EvD X α b fun y=>∃i j,x=.int i∧y=.int j∧Q (decide (i=j))):EvT X α (.Compare a [.Eq] [b] pos) Q:=
 vY wa (zF _) (h.imp fun x h=>h.imp fun y ⟨i,j,e1,e2,q⟩=>⟨_,by subst e1 e2;exact cW,q⟩)
theorem bK {Q:Bool→Prop}(h:EvD X α a fun x=>EvD X α b fun y=>∃i j,x=.str i∧y=.str j∧Q (decide (i=j))):EvT X α (.Compare a [.Eq] [b] pos) Q:=
 vY wa (zF _) (h.imp fun x h=>h.imp fun y ⟨i,j,e1,e2,q⟩=>⟨_,by subst e1 e2;exact mM,q⟩)
theorem dD {p q:Bool}{Q:Bool→Prop}(ha:∀Q:Bool→Prop,Q p→EvT X α a Q)(hb:p=true→∀Q:Bool→Prop,Q q→EvW X α (.BoolOp .And (b::rest) pos) Q)(k:Q (p&&q)):EvW X α (.BoolOp .And (a::b::rest) pos) Q:=by
 refine gW (ha _ ?_)
 cases p with
 |true=>rw[if_pos rfl];exact hb rfl _ (by simpa using k)
 |false=>rw[if_neg (by decide)];simpa using k
end
structure NbT (mg:Str→Option Value):Prop where
 abs:mg "abs"=none
 list:mg "list"=none
 len:mg "len"=none
 range:mg "range"=none
 min:mg "min"=none
 max:mg "max"=none
 sorted:mg "sorted"=none
 isinstance:mg "isinstance"=none
 int:mg "int"=none
 bool:mg "bool"=none
 str:mg "str"=none
 tuple:mg "tuple"=none
 all:mg "all"=none
 any:mg "any"=none
 repr:mg "repr"=none
 zip:mg "zip"=none
 enumerate:mg "enumerate"=none
 reversed:mg "reversed"=none
 sum:mg "sum"=none
theorem vp {X:Cx}{K:PySem.W.Frag}{es:List Expr}{k:Nat}{t:TGs}{n:Nat}{pos:Pos}(hK:X.K=K)(hc:X.calm=true)(h:PGs X es t)
  (hn:(assignEach es X.env).length=n:=by rfl) (hst:(assignEach es X.env).findIdx? (·.1)=none:=by rfl):PG X (.Tuple es k pos) (aa K n t):=by
 subst hK
 exact aJ hc h hn hst
end L2
namespace SortA
open PySem PySem.W PyProof.Rows
def run {α:Type}(lt:Nat→Nat→Bool):KasT α→α
 |.ret a=>a
 |.ask i j k=>run lt (k (lt i j))
theorem run_bind {α β:Type}(lt:Nat→Nat→Bool)(f:α→KasT β):∀t:KasT α,run lt (t.bind f)=run lt (f (run lt t))
 |.ret _=>rfl
 |.ask i j k=>run_bind lt f (k (lt i j))
structure Ord (lt:Nat→Nat→Bool):Prop where
 irr:∀a,lt a a=false
 tr:∀a b c,lt b a=false→lt c b=false→lt c a=false
 asy:∀a b,lt a b=true→lt b a=false
abbrev g (p:Array Nat)(i:Nat):Nat:=p.getD i 0
def Up (lt:Nat→Nat→Bool)(p:Array Nat)(m:Nat):Prop:=∀i j,i≤j→j<m→lt (g p j) (g p i)=false
def Down (lt:Nat→Nat→Bool)(p:Array Nat)(m:Nat):Prop:=∀i j,i≤j→j<m→lt (g p i) (g p j)=false
theorem fu {p q:Array Nat}{i j:Nat}(h:p[i]?=q[j]?):g p i=g q j:=by
 unfold g
 rw[Array.getD_eq_getD_getElem?,Array.getD_eq_getD_getElem?,h]
variable {lt:Nat→Nat→Bool}
theorem Up.succ (O:Ord lt){p:Array Nat}{m:Nat}(h:Up lt p m)(hm:0<m)(e:lt (g p m) (g p (m-1))=false):Up lt p (m+1):=fun i j hij hj=>by
 by_cases e1:j<m
 ·exact h i j hij e1
 ·have ej:j=m:=by omega
  subst ej
  by_cases e2:i=j
  ·subst e2;exact O.irr _
  ·exact O.tr _ _ _ (h i (j-1) (by omega) (by omega)) e
theorem Down.succ (O:Ord lt){p:Array Nat}{m:Nat}(h:Down lt p m)(hm:0<m)(e:lt (g p (m-1)) (g p m)=false):Down lt p (m+1):=fun i j hij hj=>by
 by_cases e1:j<m
 ·exact h i j hij e1
 ·have ej:j=m:=by omega
  subst ej
  by_cases e2:i=j
  ·subst e2;exact O.irr _
  ·exact O.tr _ _ _ e (h i (j-1) (by omega) (by omega))
theorem af (O:Ord lt)(p:Array Nat):Up lt p 1:=fun i j hij hj=>by
 have e1:i=0:=by omega
 have e2:j=0:=by omega
 rw[e1,e2];exact O.irr _
theorem nr (O:Ord lt)(p:Array Nat):∀(f n:Nat),0<n→Up lt p n→n≤run lt (kas_asc p f n)∧run lt (kas_asc p f n)≤n+f∧Up lt p (run lt (kas_asc p f n))∧
  (run lt (kas_asc p f n)<n+f→lt (g p (run lt (kas_asc p f n))) (g p (run lt (kas_asc p f n)-1))=true)
 |0,n,_,h=>⟨zn0 _,zn0 _,h,fun z=>absurd z (zs6 _)⟩
 |f+1,n,hn,h=>by
  show n≤run lt ((fun c=>if c=true then KasT.ret n else kas_asc p f (n+1)) (lt (p.getD n 0) (p.getD (n-1) 0)))∧_
  cases e:lt (p.getD n 0) (p.getD (n-1) 0) with
  |true=>
   have er:run lt (kas_asc p (f+1) n)=n:=by
    show run lt ((fun c=>if c=true then KasT.ret n else kas_asc p f (n+1)) (lt (p.getD n 0) (p.getD (n-1) 0)))=n
    rw[e];rfl
   rw[er]
   exact⟨zn0 _,by omega,h,fun _=>e⟩
  |false=>
   have er:run lt (kas_asc p (f+1) n)=run lt (kas_asc p f (n+1)):=by
    show run lt ((fun c=>if c=true then KasT.ret n else kas_asc p f (n+1)) (lt (p.getD n 0) (p.getD (n-1) 0)))=_
    rw[e];rfl
   rw[er]
   obtain⟨a,b,c,d⟩:=nr O p f (n+1) (by omega) (h.succ O hn e)
   exact⟨by show n≤run lt (kas_asc p f (n+1));omega,by omega,c,fun z=>d (by omega)⟩
theorem uv {p:Array Nat}{i j:Nat}(hj:j≤p.size)(k:Nat):g (kas_rev p i j) k=if i≤k∧k<j then g p (i+j-1-k) else g p k:=by
 have h:=getElem?_mirror_all (xs:=p) (i:=i) hj k
 split
 ·rename_i c
  rw[if_pos c] at h
  exact fu h
 ·rename_i c
  rw[if_neg c] at h
  exact fu h
theorem xh (p:Array Nat)(i j:Nat):(kas_rev p i j).size=p.size:=mirror_size _ _ _ _
theorem yG (p:Array Nat)(i j:Nat):(kas_rev p i j).Perm p:=mirror_perm _ _ _ _
def Eqv (lt:Nat→Nat→Bool)(a b:Nat):Prop:=lt a b=false∧lt b a=false
theorem Down.eqv (O:Ord lt){p q:Array Nat}{n:Nat}(h:Down lt p n)(e:∀k,k<n→Eqv lt (g q k) (g p k)):Down lt q n:=fun i j hij hj=>
 O.tr _ _ _ (O.tr _ _ _ (e j hj).2 (h i j hij hj)) (e i (by omega)).1
def Last (lt:Nat→Nat→Bool)(p:Array Nat)(n q:Nat):Prop:=∀a b,n≤a+(q+1)→a<n→n≤b+(q+1)→b<n→lt (g p a) (g p b)=false
theorem rev_last (O:Ord lt){p:Array Nat}{n q:Nat}(hn:n≤p.size)(hq:q<n)(L:Last lt p n q):∀k,k<n→Eqv lt (g (kas_rev p (n-(q+1)) n) k) (g p k):=fun k hk=>by
 rw[uv hn]
 split
 ·rename_i c
  exact⟨L _ _ (by omega) (by omega) (by omega) hk,L _ _ (by omega) hk (by omega) (by omega)⟩
 ·exact⟨O.irr _,O.irr _⟩
theorem uE (O:Ord lt):∀(f:Nat) (p:Array Nat) (n q:Nat),q<n→n+f≤p.size→Down lt p n→Last lt p n q→
  ∃p' m q',run lt (kas_desc f p n q)=(p',m,q')∧n≤m∧m≤n+f∧p'.size=p.size∧p'.Perm p∧q'<m∧Down lt p' m∧Last lt p' m q'
 |0,p,n,q,hq,hs,h,L=>⟨p,n,q,rfl,zn0 _,zn0 _,rfl,zx7 _,hq,h,L⟩
 |f+1,p,n,q,hq,hs,h,L=>by
  cases e:lt (p.getD n 0) (p.getD (n-1) 0) with
  |true=>
   by_cases hq0:q > 0
   ·have er:run lt (kas_desc (f+1) p n q)=run lt (kas_desc f (kas_rev p (n-(q+1)) n) (n+1) 0):=by
     show run lt ((fun c=>if c=true then (if q > 0 then kas_desc f (kas_rev p (n-(q+1)) n) (n+1) 0 else kas_desc f p (n+1) 0)
      else .ask (p.getD (n-1) 0) (p.getD n 0) fun d=>if d=true then .ret (p,n,q) else kas_desc f p (n+1) (q+1)) (lt (p.getD n 0) (p.getD (n-1) 0)))=_
     rw[e]
     show run lt (if q > 0 then _ else _)=_
     rw[if_pos hq0]
    have ev:=rev_last O (by omega:n≤p.size) hq L
    have h1:=h.eqv O ev
    have hn:g (kas_rev p (n-(q+1)) n) n=g p n:=by rw[uv (by omega),if_neg (by omega)]
    have h2:Down lt (kas_rev p (n-(q+1)) n) (n+1):=h1.succ O (by omega) (by
     rw[hn]
     exact O.tr _ _ _ (O.asy _ _ e) (ev (n-1) (by omega)).1)
    obtain⟨p',m,q',a,b,c,d1,d2,d3,d4,d5⟩:=uE O f (kas_rev p (n-(q+1)) n) (n+1) 0 (by omega) (by rw[xh];omega) h2 (fun a b h1 h2 h3 h4=>by
     have e1:a=n:=by omega
     have e2:b=n:=by omega
     rw[e1,e2];exact O.irr _)
    exact⟨p',m,q',er.trans a,by omega,by omega,by rw[d1,xh],d2.trans (yG _ _ _),d3,d4,d5⟩
   ·have er:run lt (kas_desc (f+1) p n q)=run lt (kas_desc f p (n+1) 0):=by
     show run lt ((fun c=>if c=true then (if q > 0 then kas_desc f (kas_rev p (n-(q+1)) n) (n+1) 0 else kas_desc f p (n+1) 0)
      else .ask (p.getD (n-1) 0) (p.getD n 0) fun d=>if d=true then .ret (p,n,q) else kas_desc f p (n+1) (q+1)) (lt (p.getD n 0) (p.getD (n-1) 0)))=_
     rw[e]
     show run lt (if q > 0 then _ else _)=_
     rw[if_neg hq0]
    obtain⟨p',m,q',a,b,c,d1,d2,d3,d4,d5⟩:=uE O f p (n+1) 0 (by omega) (by omega) (h.succ O (by omega) (O.asy _ _ e)) (fun a b h1 h2 h3 h4=>by
     have e1:a=n:=by omega
     have e2:b=n:=by omega
     rw[e1,e2];exact O.irr _)
    exact⟨p',m,q',er.trans a,by omega,by omega,d1,d2,d3,d4,d5⟩
  |false=>
   cases e2:lt (p.getD (n-1) 0) (p.getD n 0) with
   |true=>
    have er:run lt (kas_desc (f+1) p n q)=(p,n,q):=by
     show run lt ((fun c=>if c=true then (if q > 0 then kas_desc f (kas_rev p (n-(q+1)) n) (n+1) 0 else kas_desc f p (n+1) 0)
      else .ask (p.getD (n-1) 0) (p.getD n 0) fun d=>if d=true then .ret (p,n,q) else kas_desc f p (n+1) (q+1)) (lt (p.getD n 0) (p.getD (n-1) 0)))=_
     rw[e]
     show run lt ((fun d=>if d=true then KasT.ret (p,n,q) else kas_desc f p (n+1) (q+1)) (lt (p.getD (n-1) 0) (p.getD n 0)))=_
     rw[e2];rfl
    exact⟨p,n,q,er,zn0 _,by omega,rfl,zx7 _,hq,h,L⟩
   |false=>
    have er:run lt (kas_desc (f+1) p n q)=run lt (kas_desc f p (n+1) (q+1)):=by
     show run lt ((fun c=>if c=true then (if q > 0 then kas_desc f (kas_rev p (n-(q+1)) n) (n+1) 0 else kas_desc f p (n+1) 0)
      else .ask (p.getD (n-1) 0) (p.getD n 0) fun d=>if d=true then .ret (p,n,q) else kas_desc f p (n+1) (q+1)) (lt (p.getD n 0) (p.getD (n-1) 0)))=_
     rw[e]
     show run lt ((fun d=>if d=true then KasT.ret (p,n,q) else kas_desc f p (n+1) (q+1)) (lt (p.getD (n-1) 0) (p.getD n 0)))=_
     rw[e2];rfl
    have Ln:Last lt p (n+1) (q+1):=fun a b h1 h2 h3 h4=>by
     have two:∀a,n+1≤a+(q+1+1)→a<n+1→Eqv lt (g p a) (g p (n-1)):=fun a x1 x2=>by
      by_cases ea:a=n
      ·rw[ea];exact⟨e,e2⟩
      ·exact⟨L a (n-1) (by omega) (by omega) (by omega) (by omega),L (n-1) a (by omega) (by omega) (by omega) (by omega)⟩
     exact O.tr _ _ _ (two b h3 h4).2 (two a h1 h2).1
    obtain⟨p',m,q',a,b,c,d1,d2,d3,d4,d5⟩:=uE O f p (n+1) (q+1) (by omega) (by omega) (h.succ O (by omega) e2) Ln
    exact⟨p',m,q',er.trans a,by omega,by omega,d1,d2,d3,d4,d5⟩
theorem zc1 {p:Array Nat}{n:Nat}(hn:n≤p.size)(h:Down lt p n):Up lt (kas_rev p 0 n) n:=fun i j hij hj=>by
 rw[uv hn,uv hn,if_pos (by omega),if_pos (by omega)]
 exact h _ _ (by omega) (by omega)
theorem qR (O:Ord lt){p:Array Nat}{n nrem:Nat}(h0:0<n)(hn:n≤nrem)(hs:nrem≤p.size)(h:Down lt p n):
  ∃p' m,run lt (kas_tail3 n nrem p)=(m,p')∧1≤m∧m≤nrem∧p'.size=p.size∧p'.Perm p∧Up lt p' m:=by
 obtain⟨a,b,c,_⟩:=nr O (kas_rev p 0 n) (nrem-n) n h0 (zc1 (by omega) h)
 refine⟨kas_rev p 0 n,run lt (kas_asc (kas_rev p 0 n) (nrem-n) n),?_,by omega,by omega,xh _ _ _,yG _ _ _,c⟩
 unfold kas_tail3
 rw[run_bind]
 rfl
theorem ui (O:Ord lt){p:Array Nat}{n nrem:Nat}(h0:0<n)(hn:n+1≤nrem)(hs:nrem≤p.size)(h:Down lt p (n+1)):
  ∃p' m,run lt (kas_descPart n nrem p)=(m,p')∧1≤m∧m≤nrem∧p'.size=p.size∧p'.Perm p∧Up lt p' m:=by
 obtain⟨p1,m1,q1,e,a1,a2,a3,a4,a5,a6,a7⟩:=uE O (nrem-(n+1)) p (n+1) 0 (by omega) (by omega) h (fun a b h1 h2 h3 h4=>by
  have e1:a=n:=by omega
  have e2:b=n:=by omega
  rw[e1,e2];exact O.irr _)
 unfold kas_descPart
 rw[run_bind,e]
 dsimp only
 split
 ·obtain⟨p',m,b1,b2,b3,b4,b5,b6⟩:=qR O (p:=kas_rev p1 (m1-(q1+1)) m1) (n:=m1) (nrem:=nrem) (by omega) (by omega) (by rw[xh];omega) (a6.eqv O (rev_last O (by omega) a5 a7))
  exact⟨p',m,b1,b2,b3,by rw[b4,xh,a3],(b5.trans (yG _ _ _)).trans a4,b6⟩
 ·obtain⟨p',m,b1,b2,b3,b4,b5,b6⟩:=qR O (p:=p1) (n:=m1) (nrem:=nrem) (by omega) (by omega) (by omega) a6
  exact⟨p',m,b1,b2,b3,by rw[b4,a3],b5.trans a4,b6⟩
theorem fF (O:Ord lt){p:Array Nat}{nrem:Nat}(h0:0<nrem)(hs:nrem≤p.size):
  ∃p' m,run lt (kas_count nrem p)=(m,p')∧1≤m∧m≤nrem∧p'.size=p.size∧p'.Perm p∧Up lt p' m:=by
 obtain⟨a,b,c,d⟩:=nr O p (nrem-1) 1 (by omega) (af O p)
 unfold kas_count
 rw[run_bind]
 generalize run lt (kas_asc p (nrem-1) 1)=n at a b c d
 by_cases en:n=nrem
 ·rw[if_pos (by rw[en];simp)]
  exact⟨p,n,rfl,a,by omega,rfl,zx7 _,c⟩
 ·rw[if_neg (by simpa using en)]
  have hd:=d (by omega)
  by_cases h1:n > 1
  ·rw[if_pos h1]
   cases e:lt (p.getD 0 0) (p.getD (n-1) 0) with
   |true=>
    refine⟨p,n,?_,a,by omega,rfl,zx7 _,c⟩
    show run lt ((fun c=>if c=true then KasT.ret (n,p) else kas_descPart n nrem (kas_rev p 0 n)) (lt (p.getD 0 0) (p.getD (n-1) 0)))=_
    rw[e];rfl
   |false=>
    have all:∀k,k<n→Eqv lt (g p k) (g p 0):=fun k hk=>⟨c 0 k (by omega) hk,O.tr _ _ _ (c k (n-1) (by omega) (by omega)) e⟩
    have hD:Down lt (kas_rev p 0 n) (n+1):=by
     have h2:Down lt (kas_rev p 0 n) n:=fun i j hij hj=>by
      rw[uv (by omega),uv (by omega),if_pos (by omega),if_pos (by omega)]
      exact O.tr _ _ _ (all _ (by omega)).2 (all _ (by omega)).1
     refine h2.succ O (by omega) ?_
     rw[uv (by omega),uv (by omega),if_pos (by omega),if_neg (by omega)]
     have e0:lt (g p (n-1)) (g p n)=false:=O.asy _ _ hd
     exact O.tr _ _ _ e0 (O.tr _ _ _ (all (n-1) (by omega)).2 (all _ (by omega)).1)
    obtain⟨p',m,b1,b2,b3,b4,b5,b6⟩:=ui O (p:=kas_rev p 0 n) (n:=n) (nrem:=nrem) (by omega) (by omega) (by rw[xh];omega) hD
    refine⟨p',m,?_,b2,b3,by rw[b4,xh],b5.trans (yG _ _ _),b6⟩
    rw[←b1]
    show run lt ((fun c=>if c=true then KasT.ret (n,p) else kas_descPart n nrem (kas_rev p 0 n)) (lt (p.getD 0 0) (p.getD (n-1) 0)))=_
    rw[e];rfl
  ·rw[if_neg h1]
   have e1:n=1:=by omega
   subst e1
   refine ui O (by omega) (by omega) hs ?_
   have d1:Down lt p 1:=fun i j hij hj=>by
    have e1:i=0:=by omega
    have e2:j=0:=by omega
    rw[e1,e2];exact O.irr _
   exact d1.succ O (by omega) (O.asy _ _ hd)
theorem tF (O:Ord lt){p:Array Nat}{k:Nat}(U:Up lt p k):∀(f l r:Nat),r≤l+f→l≤r→r≤k→(∀i,i<l→lt (g p k) (g p i)=false)→(∀i,r≤i→i<k→lt (g p k) (g p i)=true)→
  run lt (kas_place p k f l r)≤k∧(∀i,i<run lt (kas_place p k f l r)→lt (g p k) (g p i)=false)∧(∀i,run lt (kas_place p k f l r)≤i→i<k→lt (g p k) (g p i)=true)
 |0,l,r,h1,h2,h3,ha,hb=>by
  show l≤k∧_
  exact⟨by omega,ha,fun i x y=>hb i (by have:l≤i:=x;omega) y⟩
 |f+1,l,r,h1,h2,h3,ha,hb=>by
  by_cases hlr:l≥r
  ·have er:run lt (kas_place p k (f+1) l r)=l:=by
    show run lt (if l≥r then _ else _)=_
    rw[if_pos hlr];rfl
   rw[er]
   exact⟨by omega,ha,fun i x y=>hb i (by omega) y⟩
  ·cases e:lt (p.getD k 0) (p.getD ((l+r) / 2) 0) with
   |true=>
    have er:run lt (kas_place p k (f+1) l r)=run lt (kas_place p k f l ((l+r) / 2)):=by
     show run lt (if l≥r then _ else _)=_
     rw[if_neg hlr]
     show run lt ((fun c=>if c=true then kas_place p k f l ((l+r) / 2) else kas_place p k f ((l+r) / 2+1) r) (lt (p.getD k 0) (p.getD ((l+r) / 2) 0)))=_
     rw[e];rfl
    rw[er]
    refine tF O U f l ((l+r) / 2) (by omega) (by omega) (by omega) ha fun i x y=>?_
    cases e3:lt (g p k) (g p i) with
    |true=>rfl
    |false=>
     have e4:lt (g p k) (g p ((l+r) / 2))=false:=O.tr _ _ _ (U ((l+r) / 2) i x y) e3
     have e5:lt (g p k) (g p ((l+r) / 2))=true:=e
     rw[e4] at e5;cases e5
   |false=>
    have er:run lt (kas_place p k (f+1) l r)=run lt (kas_place p k f ((l+r) / 2+1) r):=by
     show run lt (if l≥r then _ else _)=_
     rw[if_neg hlr]
     show run lt ((fun c=>if c=true then kas_place p k f l ((l+r) / 2) else kas_place p k f ((l+r) / 2+1) r) (lt (p.getD k 0) (p.getD ((l+r) / 2) 0)))=_
     rw[e];rfl
    rw[er]
    exact tF O U f ((l+r) / 2+1) r (by omega) (by omega) h3 (fun i hi=>O.tr _ _ _ (U i ((l+r) / 2) (by omega) (by omega)) e) hb
theorem kl (O:Ord lt){p:Array Nat}{k l:Nat}(hk:k<p.size)(hl:l≤k)(U:Up lt p k)(ha:∀i,i<l→lt (g p k) (g p i)=false)(hb:∀i,l≤i→i<k→lt (g p k) (g p i)=true):Up lt (bubble p k (k-l)) (k+1):=by
 have gb:∀i,g (bubble p k (k-l)) i=if i=l then g p k else if l<i∧i≤k then g p (i-1) else g p i:=fun i=>by
  have h:=getElem?_bubble hk (k-l) (by omega) i
  have el:k-(k-l)=l:=by omega
  rw[el] at h
  by_cases c:i=l
  ·rw[if_pos c] at h ⊢;exact fu h
  ·rw[if_neg c] at h ⊢
   by_cases c2:l<i∧i≤k
   ·rw[if_pos c2] at h ⊢;exact fu h
   ·rw[if_neg c2] at h ⊢;exact fu h
 intro i j hij hj
 have gl:g (bubble p k (k-l)) l=g p k:=by rw[gb,if_pos rfl]
 have gm:∀i,l<i→i≤k→g (bubble p k (k-l)) i=g p (i-1):=fun i x y=>by rw[gb,if_neg (by omega),if_pos ⟨x,y⟩]
 have gs:∀i,i<l→g (bubble p k (k-l)) i=g p i:=fun i x=>by rw[gb,if_neg (by omega),if_neg (by omega)]
 rcases Nat.lt_trichotomy i l with hi|hi|hi
 ·rw[gs i hi]
  rcases Nat.lt_trichotomy j l with h|h|h
  ·rw[gs j h];exact U _ _ (by omega) (by omega)
  ·rw[h,gl];exact ha i hi
  ·rw[gm j h (by omega)];exact U _ _ (by omega) (by omega)
 ·rw[hi,gl]
  rcases Nat.lt_trichotomy j l with h|h|h
  ·omega
  ·rw[h,gl];exact O.irr _
  ·rw[gm j h (by omega)];exact O.asy _ _ (hb (j-1) (by omega) (by omega))
 ·rw[gm i hi (by omega),gm j (by omega) (by omega)]
  exact U _ _ (by omega) (by omega)
theorem iZ (O:Ord lt):∀(f:Nat) (p:Array Nat) (k:Nat),0<k→k+f≤p.size→Up lt p k→(run lt (kas_bin f p k)).size=p.size∧(run lt (kas_bin f p k)).Perm p∧Up lt (run lt (kas_bin f p k)) (k+f)
 |0,p,k,_,_,U=>⟨rfl,zx7 _,U⟩
 |f+1,p,k,hk,hs,U=>by
  obtain⟨a,b,c⟩:=tF O U k 0 k (by omega) (by omega) (by omega) (fun i hi=>by omega) (fun i x y=>by omega)
  have er:run lt (kas_bin (f+1) p k)=run lt (kas_bin f (bubble p k (k-run lt (kas_place p k k 0 k))) (k+1)):=by
   show run lt ((kas_place p k k 0 k).bind _)=_
   rw[run_bind]
  rw[er]
  obtain⟨x,y,z⟩:=iZ O f (bubble p k (k-run lt (kas_place p k k 0 k))) (k+1) (by omega) (by rw[bubble_size];omega) (kl O (by omega) a U b c)
  have e:k+(f+1)=k+1+f:=by omega
  rw[e]
  exact⟨by rw[x,bubble_size],y.trans (bubble_perm _ _ _),z⟩
theorem cS (O:Ord lt){n:Nat}(h:0<n):(run lt (kas_sort n)).size=n∧(run lt (kas_sort n)).Perm (List.range n).toArray∧Up lt (run lt (kas_sort n)) n:=by
 obtain⟨p,m,e,a,b,c,d,u⟩:=fF O (p:=(List.range n).toArray) (nrem:=n) h (by simp)
 unfold kas_sort
 rw[run_bind,e]
 dsimp only
 have hs:p.size=n:=by rw[c];simp
 by_cases hm:m<n
 ·rw[if_pos hm]
  have em:max m 1=m:=by omega
  rw[em]
  obtain⟨x,y,z⟩:=iZ O (n-m) p m (by omega) (by omega) u
  refine⟨by rw[x,hs],y.trans d,?_⟩
  have e:m+(n-m)=n:=by omega
  rw[e] at z
  exact z
 ·rw[if_neg hm]
  have e:m=n:=by omega
  subst e
  exact⟨hs,d,u⟩
end SortA
namespace SortA
open PySem PySem.W PyProof.Rows
def xi {α:Type}(n:Nat)(P:α→Prop):KasT α→Prop
 |.ret a=>P a
 |.ask i j k=>i<n∧j<n∧∀b,xi n P (k b)
theorem xi.bind {α β:Type}{n:Nat}{P:α→Prop}{P':β→Prop}{f:α→KasT β}(h2:∀a,P a→xi n P' (f a)):∀t:KasT α,xi n P t→xi n P' (t.bind f)
 |.ret a,h=>h2 a h
 |.ask i j k,⟨a,b,c⟩=>⟨a,b,fun x=>xi.bind h2 (k x) (c x)⟩
def Bd (n:Nat)(p:Array Nat):Prop:=∀x∈p,x<n
theorem Bd.get {n:Nat}{p:Array Nat}(h:Bd n p)(hn:0<n)(i:Nat):p.getD i 0<n:=by
 by_cases hi:i<p.size
 ·have e:p.getD i 0=p[i]:=by simp[Array.getD,hi]
  rw[e];exact h _ (Array.getElem_mem hi)
 ·have e:p.getD i 0=0:=by simp[Array.getD,hi]
  rw[e];exact hn
theorem Bd.perm {n:Nat}{p q:Array Nat}(h:Bd n p)(e:q.Perm p):Bd n q:=fun x hx=>h x (e.mem_iff.mp hx)
theorem tU {n:Nat}{p:Array Nat}(B:Bd n p)(hn:0<n):∀f k,xi n (fun _=>True) (kas_asc p f k)
 |0,_=>trivial
 |f+1,k=>⟨B.get hn _,B.get hn _,fun b=>by
  cases b with
  |true=>exact trivial
  |false=>exact tU B hn f (k+1)⟩
theorem wR {n:Nat}(hn:0<n):∀f (p:Array Nat) k q,Bd n p→xi n (fun r:Array Nat×Nat×Nat=>Bd n r.1) (kas_desc f p k q)
 |0,_,_,_,B=>B
 |f+1,p,k,q,B=>⟨B.get hn _,B.get hn _,fun b=>by
  cases b with
  |true=>
   show xi n _ (if q > 0 then _ else _)
   split
   ·exact wR hn f _ _ _ (B.perm (yG _ _ _))
   ·exact wR hn f _ _ _ B
  |false=>
   refine⟨B.get hn _,B.get hn _,fun b=>?_⟩
   cases b with
   |true=>exact B
   |false=>exact wR hn f _ _ _ B⟩
theorem uT {n:Nat}{p:Array Nat}(B:Bd n p)(hn:0<n)(m r:Nat):xi n (fun r:Nat×Array Nat=>Bd n r.2) (kas_tail3 m r p):=by
 unfold kas_tail3
 refine xi.bind (P:=fun _=>True) (fun a _=>?_) _ (tU (B.perm (yG _ _ _)) hn _ _)
 exact B.perm (yG _ _ _)
theorem wX {n:Nat}{p:Array Nat}(B:Bd n p)(hn:0<n)(m r:Nat):xi n (fun r:Nat×Array Nat=>Bd n r.2) (kas_descPart m r p):=
 xi.bind (fun a ha=>by
  split
  ·exact uT (Bd.perm ha (yG _ _ _)) hn _ _
  ·exact uT ha hn _ _) _ (wR hn _ _ _ _ B)
theorem oJ {n:Nat}{p:Array Nat}(B:Bd n p)(hn:0<n)(r:Nat):xi n (fun r:Nat×Array Nat=>Bd n r.2) (kas_count r p):=
 xi.bind (fun a _=>by
  split
  ·exact B
  ·split
   ·refine⟨B.get hn _,B.get hn _,fun b=>?_⟩
    cases b with
    |true=>exact B
    |false=>exact wX (B.perm (yG _ _ _)) hn _ _
   ·exact wX B hn _ _) _ (tU B hn _ _)
theorem vb {n:Nat}{p:Array Nat}(B:Bd n p)(hn:0<n)(k:Nat):∀f l r,xi n (fun _=>True) (kas_place p k f l r)
 |0,_,_=>trivial
 |f+1,l,r=>by
  show xi n _ (if l≥r then _ else _)
  split
  ·exact trivial
  ·refine⟨B.get hn _,B.get hn _,fun b=>?_⟩
   cases b with
   |true=>exact vb B hn k f _ _
   |false=>exact vb B hn k f _ _
theorem pd {n:Nat}(hn:0<n):∀f (p:Array Nat) k,Bd n p→xi n (fun _=>True) (kas_bin f p k)
 |0,_,_,_=>trivial
 |f+1,p,k,B=>xi.bind (fun l _=>pd hn f _ _ (B.perm (bubble_perm _ _ _))) _ (vb B hn k _ _ _)
theorem ju {n:Nat}(hn:0<n):xi n (fun _=>True) (kas_sort n):=
 xi.bind (fun a ha=>by
  split
  ·exact pd hn _ _ _ ha
  ·exact trivial) _ (oJ (fun x hx=>by simpa using hx) hn n)
theorem wp_run {α:Type}{n:Nat}{P:α→Prop}{cmp:Nat→Nat→(Bool→Shared→Prop)→Shared→Prop}{lt:Nat→Nat→Bool}{Q:α→Shared→Prop}{s:Shared}(hc:∀i j C,i<n→j<n→C (lt i j) s→cmp i j C s):
  ∀t:KasT α,xi n P t→Q (run lt t) s→t.kasWp cmp Q s
 |.ret _,_,h=>h
 |.ask i j k,⟨a,b,c⟩,h=>hc i j _ a b (wp_run hc (k (lt i j)) (c _) h)
def lx (p q:Int×Int):Bool:=decide (p.1<q.1∨(p.1=q.1∧p.2<q.2))
def at2 (ps:List (Int×Int))(i:Nat):Int×Int:=ps.getD i (0,0)
theorem aK (ps:List (Int×Int)):Ord fun i j=>lx (at2 ps i) (at2 ps j) where
 irr:=fun a=>by simp[lx]
 tr:=fun a b c=>by
  unfold lx
  generalize at2 ps a=x;generalize at2 ps b=y;generalize at2 ps c=z
  simp only[zv8]
  omega
 asy:=fun a b=>by
  unfold lx
  generalize at2 ps a=x;generalize at2 ps b=y
  simp only[zv8,zq4]
  omega
theorem mw (ps:List (Int×Int))(h:0<ps.length):∃ix:List Nat,run (fun i j=>lx (at2 ps i) (at2 ps j)) (kas_sort ps.length)=ix.toArray∧ix.length=ps.length∧(∀i∈ix,i<ps.length)∧(ix.map (at2 ps)).Perm ps∧(ix.map (at2 ps)).Pairwise (fun p q=>lx q p=false):=by
 obtain⟨a,b,c⟩:=cS (aK ps) h
 generalize run (fun i j=>lx (at2 ps i) (at2 ps j)) (kas_sort ps.length)=r at a b c
 have e:(List.range ps.length).map (at2 ps)=ps:=by
  apply List.ext_getElem
  ·simp
  ·intro i h1 h2
   simp[at2,h2]
 have pl:r.toList.Perm (List.range ps.length):=by
  have:=Array.perm_iff_toList_perm.mp b
  simpa using this
 refine⟨r.toList,by simp,by simpa using a,fun i hi=>by simpa using pl.mem_iff.mp hi,?_,?_⟩
 ·have:=pl.map (at2 ps)
  rw[e] at this
  exact this
 ·rw[List.pairwise_map,List.pairwise_iff_getElem]
  intro i j hi hj hij
  have h1:j<r.size:=by simpa using hj
  have:=c i j (by omega) (by rw[←a];exact h1)
  have ei:g r i=r.toList[i]:=by
   have:i<r.size:=by omega
   simp[g,Array.getD,this]
  have ej:g r j=r.toList[j]:=by simp[g,Array.getD,h1]
  rw[ei,ej] at this
  exact this
end SortA
namespace L2
open PySem PySem.Spec PySem.Calls PySem.W PyProof.Rows SortA
section
variable {prog:Program}{w:World}{A:Around}{E:Value→Shared→Prop}{s:Shared}
def Prs (h:Heap):List Value→List (Int×Int)→Prop
 |[],[]=>True
 |v::vs,p::ps=>(∃a o t u n,v=.ref a∧h.get? a=some o∧o.cls=.type "tuple"∧o.data=.seq #[.int p.1 t,.int p.2 u] n)∧Prs h vs ps
 |_,_=>False
theorem Prs.len {h:Heap}:∀{vs:List Value} {ps:List (Int×Int)},Prs h vs ps→vs.length=ps.length
 |[],[],_=>rfl
 |[],_::_,h=>h.elim
 |_::_,[],h=>h.elim
 |_::_,_::_,⟨_,h⟩=>by simp[Prs.len h]
theorem Prs.at {h:Heap}:∀{vs:List Value} {ps:List (Int×Int)} (i:Nat),Prs h vs ps→i<ps.length→∃a o t u n,vs.getD i Value.none=.ref a∧h.get? a=some o∧o.cls=.type "tuple"∧o.data=.seq #[.int (at2 ps i).1 t,.int (at2 ps i).2 u] n
 |[],[],_,_,hi=>by simp at hi
 |[],_::_,_,h,_=>h.elim
 |_::_,[],_,h,_=>h.elim
 |_::_,_::_,0,⟨x,_⟩,_=>x
 |_::_,_::_,i+1,⟨_,r⟩,hi=>by
  obtain⟨a,o,t,u,n,e,q⟩:=Prs.at i r (by simpa using hi)
  exact⟨a,o,t,u,n,by simpa using e,q⟩
theorem Prs.tups {h:Heap}:∀{vs:List Value} {ps:List (Int×Int)},Prs h vs ps→∃fs:List Value,KatTups h vs fs∧fs.length=ps.length∧∀v∈fs,∃i t,v=.int i t
 |[],[],_=>⟨[],trivial,rfl,fun _ h=>by simp at h⟩
 |[],_::_,h=>h.elim
 |_::_,[],h=>h.elim
 |_::_,p::_,⟨⟨a,o,t,u,n,e,ho,hc,hd⟩,r⟩=>by
  obtain⟨fs,x,y,z⟩:=Prs.tups r
  subst e
  refine⟨.int p.1 t::fs,KatTups.cons ho hc hd (by simp) x,by simp[y],fun v hv=>?_⟩
  rcases zn2.mp hv with rfl|hv
  ·exact⟨_,_,rfl⟩
  ·exact z v hv
theorem fw {a b:Addr}{oa ob:Obj}{p q:Int×Int}{t u t' u':Tok}{n k:Nat}{Q:Bool→Shared→Prop}(ha:s.heap.get? a=some oa)(da:oa.data=.seq #[.int p.1 t,.int p.2 u] n)(hb:s.heap.get? b=some ob)(db:ob.data=.seq #[.int q.1 t',.int q.2 u'] k)
  (h:Q (lx p q) s):wpAny (model prog w) A (keyLt' (tuples' true) (.ref a) (.ref b)) Q E s:=by
 refine kat_lt ha da hb db (kat_cons (wpAny_eqBool_int ?_))
 by_cases e:p.1=q.1
 ·have e1:(p.1 == q.1)=true:=by simp[e]
  rw[e1]
  refine kat_yes (kat_cons (wpAny_eqBool_int ?_))
  by_cases e2:p.2=q.2
  ·have e3:(p.2 == q.2)=true:=by simp[e2]
   rw[e3]
   refine kat_yes (kat_nil ?_)
   have:lx p q=false:=by simp[lx,e,e2]
   rw[this] at h
   simpa using h
  ·have e3:(p.2 == q.2)=false:=by simp[e2]
   rw[e3]
   refine kat_no (kat_one _ _ (wpAny_lt_int ?_))
   have:lx p q=decide (p.2<q.2):=by simp[lx,e]
   rw[this] at h
   exact h
 ·have e1:(p.1 == q.1)=false:=by simp[e]
  rw[e1]
  refine kat_no (oneLt_int ?_)
  have:lx p q=decide (p.1<q.1):=by simp[lx,e]
  rw[this] at h
  exact h
theorem oz {vs:List Value}{ps:List (Int×Int)}(h2:2≤vs.length)(P:Prs s.heap vs ps){R:Array Nat→Shared→Prop}(hr:∀ix:List Nat,ix.length=ps.length→(∀i∈ix,i<ps.length)→(ix.map (at2 ps)).Perm ps→(ix.map (at2 ps)).Pairwise (fun p q=>lx q p=false)→R ix.toArray s):
  wpAny (model prog w) A (keyKind' vs.toArray) (fun κ s'=>(kas_sort vs.length).kasWp (kas_ask prog w A κ vs) R s') (fun _ _=>False) s:=by
 obtain⟨fs,t,hl,hi⟩:=P.tups
 have hlen:=P.len
 refine kat_kind (T:=.type "int") t (by omega) (fun v hv=>?_) (by decide) ?_
 ·obtain⟨i,t,rfl⟩:=hi v hv
  exact .now
 ·have e:(Value.type "int" != Value.type "tuple")=true:=by decide
  rw[e]
  obtain⟨ix,e1,e2,e3,e4,e5⟩:=mw ps (by omega)
  rw[hlen]
  refine wp_run (n:=ps.length) (P:=fun _=>True) (lt:=fun i j=>lx (at2 ps i) (at2 ps j)) (fun i j C hi hj hC=>?_) _ (ju (by omega)) ?_
  ·obtain⟨a,o,t,u,n,ea,ha,_,da⟩:=P.at i hi
   obtain⟨b,o',t',u',n',eb,hb,_,db⟩:=P.at j hj
   unfold kas_ask
   rw[ea,eb]
   exact fw ha da hb db hC
  ·rw[e1];exact hr ix e2 e3 e4 e5
def Srt (vs:List Value)(ps:List (Int×Int))(out:List Value):Prop:=
 ∃ix:List Nat,out=ix.map (fun i=>vs.getD i Value.none)∧ix.length=ps.length∧(∀i∈ix,i<ps.length)∧(ix.map (at2 ps)).Perm ps∧(ix.map (at2 ps)).Pairwise (fun p q=>lx q p=false)
theorem Srt.len {vs:List Value}{ps:List (Int×Int)}{out:List Value}(h:Srt vs ps out):out.length=ps.length:=by
 obtain⟨ix,rfl,e,_⟩:=h
 simp[e]
end
inductive PrV (H:Hp):List V→List (Int×Int)→Prop where
 |nil:PrV H [] []
 |cons {a:Addr} {xs:List V} {p:Int×Int} {ps:List (Int×Int)}:H a=some (.tup [.int p.1,.int p.2])→PrV H xs ps→PrV H (.ref a::xs) (p::ps)
section
variable {X:Cx}{pins:List (Addr×Obj)}{σ:St}{H H':Hp}{s:Shared}
theorem PrV.len {xs:List V}{ps:List (Int×Int)}(h:PrV H xs ps):xs.length=ps.length:=by
 induction h with
 |nil=>rfl
 |cons _ _ ih=>simp[ih]
theorem PrV.keep {xs:List V}{ps:List (Int×Int)}(k:∀a p q,H a=some (.tup [.int p,.int q])→H' a=some (.tup [.int p,.int q]))(h:PrV H xs ps):PrV H' xs ps:=by
 induction h with
 |nil=>exact .nil
 |cons e _ ih=>exact .cons (k _ _ _ e) ih
theorem PrV.app {xs ys:List V}{ps qs:List (Int×Int)}(h:PrV H xs ps)(h':PrV H ys qs):PrV H (xs++ys) (ps++qs):=by
 induction h with
 |nil=>exact h'
 |cons e _ ih=>exact .cons e ih
theorem PrV.prs (I:Inv X pins σ H s):∀{xs:List V} {ps:List (Int×Int)} {us:List Value},PrV H xs ps→Vals xs us→Prs s.heap us ps:=by
 intro xs ps us h
 induction h generalizing us with
 |nil=>intro r;cases r;exact trivial
 |@cons a xs p ps e _ ih=>
  intro r
  cases r with
  |cons r rr=>
   cases (show _=Value.ref a from r)
   obtain⟨_,its,vi,o,ho,hc,n,hd⟩:=(show zV X.prog X.w H s.heap a (.tup [.int p.1,.int p.2]) from I.hok a _ e)
   obtain⟨u,v,rfl,⟨t,rfl⟩,⟨t',rfl⟩⟩:=Vals.two vi
   exact⟨⟨a,o,t,t',n,rfl,ho,hc,hd⟩,ih rr⟩
theorem pG {xs:List V}{us:List Value}(r:Vals xs us):∀i x,xs[i]?=some x→RelV x (us.getD i Value.none):=by
 induction r with
 |nil=>intro i x h;simp at h
 |cons e _ ih=>
  intro i x h
  cases i with
  |zero=>have h':=zo9 (by simpa using h);subst h';exact e
  |succ i=>exact ih i x (by simpa using h)
end
end L2
namespace Days
end Days
namespace L2
open PySem PySem.Spec PyProof.Rows Days
section
variable {X:Cx}{α:Ev}{e a b c tg:Expr}{pos p:Pos}{Q:PyData→Prop}{E:xg}{sts:List Stmt}
end
theorem gh (ds:List PyData):ds.filter (fun _=>true)=ds:=List.filter_eq_self.mpr fun _ _=>rfl
section
variable {X:Cx}{α:Ev}{tg:Expr}{pos p:Pos}{E:xg}{sts body:List Stmt}
def noE :Ev→Bool
 |[]=>true
 |some (.exc _ _)::_=>false
 |_::r=>noE r
end
def isNone :PyData→Bool
 |.none=>true
 |_=>false
theorem DV.non_iff {H:Hp}{x:V}{d:PyData}(h:DV H x d):decide (x=.non)=isNone d:=by
 cases h<;>simp[isNone]
abbrev eqS (d:PyData)(s:Str):Bool:=PyData.eqv d (.str s)
abbrev sk :PyData→Bool:=yo 0 1000000000000
def sX :PyData→Bool
 |.tuple [.int m,f]=>yo 2 14 (.int m)&&yo 1 (m-1) f
 |_=>false
def yx (w v:PyData):Bool:=
 if eqS w "price"=true then isNone v||sk v
 else if (eqS w "come"||eqS w "go")=true then isBool v
 else if (eqS w "least"||eqS w "most")=true then yo 1 14 v
 else if eqS w "deal"=true then isNone v||sX v
 else eqS w "fee"&&sk v
def xI :PyData→Bool
 |.tuple [w,a,b,v]=>ye (.tuple [a,b])&&yx w v
 |_=>false
abbrev words :List Str:=["price","come","go","least","most","deal","fee"]
theorem mi {x:Str}(h:(PyData.str x).canLay0=true):SeqAt.shaped (.str x)=true:=by
 unfold SeqAt.shaped
 rw[h]
 rfl
def lH :Sp:=fun vs H Q _=>∃x y dw dv,vs=[x,y]∧DV H x dw∧SeqAt.shaped dw=true∧DV H y dv∧Q (.bl (yx dw dv)) H
def iX :Sp:=fun vs H Q _=>∃x d,vs=[x]∧DV H x d∧SeqAt.shaped d=true∧∀H',zx H H'→Q (.bl (xI d)) H'
theorem rM {ds:List PyData}(h:SeqAt.shaped (.tuple ds)=true):∀d∈ds,SeqAt.shaped d=true:=by
 unfold SeqAt.shaped at h
 rw[zo6,zq4] at h
 obtain⟨h1,h2⟩:=h
 simp only[PyData.canLay0] at h1
 simp only[PyData.depth] at h2
 have key:∀(ds:List PyData),PyData.canLayAll0 ds=true→PyData.depthAll ds+1≤64→∀d∈ds,SeqAt.shaped d=true:=by
  intro ds
  induction ds with
  |nil=>intro _ _ d hd;simp at hd
  |cons e r ih=>
   intro a b d hd
   simp only[PyData.canLayAll0,zo6] at a
   simp only[PyData.depthAll] at b
   rcases zn2.mp hd with z|z
   ·subst z
    unfold SeqAt.shaped
    rw[a.1,zs7,zq4]
    omega
   ·exact ih a.2 (by omega) d z
 exact key ds h1 (by omega)
def wg (x y z:V):List (Str×V):=xj "worth" z (xj "last" y (xj "first" x []))
theorem iq :¬(("worth":Str)="last"):=by decide +kernel
theorem iN :¬(("worth":Str)="first"):=by decide +kernel
theorem gQ :¬(("last":Str)="first"):=by decide +kernel
theorem tK (x y z:V):(wg x y z).lookup ("first":Str)=some x:=by
 unfold wg
 rw[zM,if_neg (fun e=>iN e.symm),zM,if_neg (fun e=>gQ e.symm),zM,if_pos rfl]
theorem rn (x y z:V):(wg x y z).lookup ("last":Str)=some y:=by
 unfold wg
 rw[zM,if_neg (fun e=>iq e.symm),zM,if_pos rfl]
theorem oP (x y z:V):(wg x y z).lookup ("worth":Str)=some z:=by
 unfold wg
 rw[zM,if_pos rfl]
theorem eO (x y z:V){m:Str}(h1:¬m="worth")(h2:¬m="last")(h3:¬m="first"):(wg x y z).lookup m=none:=by
 unfold wg
 rw[zM,if_neg h1,zM,if_neg h2,zM,if_neg h3]
 rfl
structure Cs where
 price:Addr
 come:Addr
 go:Addr
 least:Addr
 most:Addr
 deal:Addr
 fee:Addr
def Cs.of (c:Cs)(w:Str):Addr:=
 if w="price" then c.price else if w="come" then c.come else if w="go" then c.go else if w="least" then c.least else if w="most" then c.most else if w="deal" then c.deal else c.fee
structure xB (K:PySem.W.Frag)(C fI fT fE fW:Addr):Prop where
 cl:Cls K C
 nf:yq K C "first"
 nl:yq K C "last"
 nw:yq K C "worth"
 makes:Mk K C fI
 told:Meth K C "told" fT
 tells:Meth K C "tells" fE
 word:Meth K C "word" fW
def bX (C:Addr):Sp:=fun vs H Q _=>∃(p dx:Addr) (x y z:V),vs=[.ref p,x,y,z]∧H p=some (.ins C dx [])∧Q .non (upd H p (.ins C dx (wg x y z)))
def xQ (w:Str):Sp:=fun vs H Q _=>∃p,vs=[.ref p]∧Q (.str w) H
def gK (C:Addr)(w:Str):Sp:=fun vs H Q _=>∃(p dx:Addr) (x y z:V),vs=[.ref p]∧H p=some (.ins C dx (wg x y z))∧∀q,H q=none→Q (.ref q) (upd H q (.tup [.str w,x,y,z]))
def lV (C:Addr):Sp:=fun vs H Q _=>∃(p dx:Addr) (a b day:Int) (z:V),vs=[.ref p,.int day]∧H p=some (.ins C dx (wg (.int a) (.int b) z))∧Q (.bl (decide (a≤day)&&decide (day≤b))) H
def jW (cs:Cs):Sp:=fun vs H Q _=>∃(w:Str) (x y z:V),vs=[.str w,x,y,z]∧w∈words∧∀(p dx:Addr) (H':Hp),H' p=some (.ins (cs.of w) dx (wg x y z))→H p=none→zx H H'→Q (.ref p) H'
def pD (cs:Cs):Sp:=fun vs H Q _=>∃x d,vs=[x]∧DV H x d∧SeqAt.shaped d=true∧(xI d=false→∀H',zx H H'→Q .non H')∧
 (∀(r:Addr) (w:Str) (x1 x2 x3:V) (p dx:Addr) (H':Hp),x=.ref r→xI d=true→w∈words→H r=some (.tup [.str w,x1,x2,x3])→H' p=some (.ins (cs.of w) dx (wg x1 x2 x3))→H p=none→zx H H'→Q (.ref p) H')
theorem xT {d:PyData}{s:Str}(h:eqS d s=true):d=.str s:=by
 cases d with
 |str x=>
  have h':(x == s)=true:=h
  rw[eq_of_beq h']
 |_=>simp[PyData.eqv] at h
theorem pL {w v:PyData}(h:yx w v=true):∃s∈words,w=.str s:=by
 unfold yx at h
 split at h
 ·rename_i e;exact⟨"price",by simp[words],xT e⟩
 ·split at h
  ·rename_i e
   rcases (zw2 _ _).mp e with e|e
   ·exact⟨"come",by simp[words],xT e⟩
   ·exact⟨"go",by simp[words],xT e⟩
  ·split at h
   ·rename_i e
    rcases (zw2 _ _).mp e with e|e
    ·exact⟨"least",by simp[words],xT e⟩
    ·exact⟨"most",by simp[words],xT e⟩
   ·split at h
    ·rename_i e;exact⟨"deal",by simp[words],xT e⟩
    ·rw[zo6] at h;exact⟨"fee",by simp[words],xT h.1⟩
theorem xx {d:PyData}(h:xI d=true):∃(s:Str) (a b v:PyData),s∈words∧d=.tuple [.str s,a,b,v]:=by
 unfold xI at h
 split at h
 ·rename_i w a b v
  rw[zo6] at h
  obtain⟨s,hs,rfl⟩:=pL h.2
  exact⟨s,a,b,v,hs,rfl⟩
 ·cases h
section
variable {X:Cx}
end
abbrev wy (C:Addr)(fs:List (PyData×PyData)):PyData:=.dict ((.int (C:Nat),.none)::fs)
def vM :List (PyData×PyData)→Str→Option PyData
 |[],_=>none
 |(.str g,d)::r,f=>if f=g then some d else vM r f
 |_::r,f=>vM r f
theorem AVf.get {H:Hp}:∀{fs:List (Str×V)} {ds:List (PyData×PyData)} {f:Str} {d:PyData},AVf H fs ds→vM ds f=some d→∃v,fs.lookup f=some v∧AV H v d
 |_,_,f,d,.nil,e=>by cases e
 |_,_,f,d,.cons (f:=g) h r,e=>by
  rw[zp6]
  unfold vM at e
  by_cases z:f=g
  ·subst z
   rw[if_pos rfl] at e
   cases e
   exact⟨_,by simp,h⟩
  ·rw[if_neg z] at e
   have z':(f == g)=false:=by simpa using z
   rw[z']
   exact AVf.get r e
theorem AVf.none {H:Hp}:∀{fs:List (Str×V)} {ds:List (PyData×PyData)} {f:Str},AVf H fs ds→vM ds f=Option.none→fs.lookup f=Option.none
 |_,_,f,.nil,e=>rfl
 |_,_,f,.cons (f:=g) h r,e=>by
  rw[zp6]
  unfold vM at e
  by_cases z:f=g
  ·subst z
   rw[if_pos rfl] at e
   cases e
  ·rw[if_neg z] at e
   have z':(f == g)=false:=by simpa using z
   rw[z']
   exact AVf.none r e
theorem AV.ins_inv {H:Hp}{v:V}{C:Addr}{ds:List (PyData×PyData)}(h:AV H v (wy C ds)):∃a dx fs,v=.ref a∧H a=some (.ins C dx fs)∧AVf H fs ds:=by
 generalize e:wy C ds=d at h
 cases h with
 |@ins a C' dx fs ds' h1 h2=>
  injection e with e
  injection e with e1 e2
  have e3:(C:Int)=(C':Int):=by
   have:=congrArg Prod.fst e1
   injection this
  have e4:C=C':=Int.ofNat.inj e3
  subst e4 e2
  exact⟨a,dx,fs,rfl,h1,h2⟩
 |_=>cases e
section
variable {X:Cx}{α:Ev}{o e:Expr}{es:List Expr}{pos apos p:Pos}{Q:PyData→Prop}{C:Addr}{f m:Str}
theorem mf (c:Cls X.K C)(na:yq X.K C f)(h:EvD X α o fun x=>∃fs d,x=wy C fs∧vM fs f=some d∧Q d)(hb:attributeBase o f X.env (eval o X.env)=eval o X.env:=by rfl):EvD X α (.Attribute o f pos) Q:=fun F σ H R m k=>by
 refine⟨_,vN zl hb,?_⟩
 refine h F σ H _ m fun x vx H1 q1 t1 k1 r1=>?_
 obtain⟨fs,d,rfl,hf,q⟩:=q1
 obtain⟨a,dx,gs,rfl,h1,h2⟩:=r1.ins_inv
 obtain⟨v,hv,av⟩:=h2.get hf
 exact⟨a,C,dx,gs,v,rfl,(zj h1).2,c,na,hv,k d v H1 q t1 k1 av⟩
structure xK (P:Program)(w:World)(K:PySem.W.Frag)(mg:Str→Option Value)(base:Heap)(C:Addr)(m:Str)(k:Nat)(φ:List A→(A→Prop)→Prop):Prop where
 ex:∃f fd ps,Cls K C∧Meth K C m f∧Binds K fd ps []∧zy P w K mg base CX0 k f fd ps (spA φ)
theorem wV {k:Nat}{φ:List A→(A→Prop)→Prop}{pl:Sem Bool}(M':xK X.prog X.w X.K X.mg X.base C m k φ)(hr:zE k X.A)(h:EvD X α o fun x=>∃fs,x=wy C fs∧vM fs m=none∧EvA X α (e::es) fun as=>φ (.dat (wy C fs)::as) fun a=>Q a.d)
  (hst:starEach (e::es) X.env=(false,eval e X.env)::starEach es X.env:=by rfl) (hpl:(backTo pos (starEach es X.env)).any (·.1)=false:=by rfl)
  (ht:eval (.Call (.Attribute o m apos) (e::es) [] pos) X.env=(do
   let ov ←eval o X.env
   standAt apos.atName
   let (f,first) ←holding [ov] (getMethod ov m pl)
   callWith pos f first (backTo pos (starEach (e::es) X.env)) (backToKw pos (keywordEach [] X.env))):=by rfl):EvD X α (.Call (.Attribute o m apos) (e::es) [] pos) Q:=fun F σ H R m' kk=>by
 obtain⟨f,fd,ps,c,hm,hb,G⟩:=M'.ex
 refine⟨_,cp zl c hm G hr hb .nil zS yv hst hpl ht,?_⟩
 refine h F σ H _ m' fun x vx H1 q1 t1 k1 r1=>?_
 obtain⟨fs,rfl,hf,q⟩:=q1
 have m1:=m'.kz k1 t1
 obtain⟨a,dx,gs,rfl,h1,h2⟩:=r1.ins_inv
 refine⟨a,dx,gs,rfl,(zj h1).2,h2.none hf,?_⟩
 refine q F σ H1 _ m1 fun as vs H2 q2 t2 k2 r2=>?_
 have m2:=m1.kz k2 t2
 have cf:=xX (vs:=.ref a::vs) (as:=.dat (wy C fs)::as) (R:=R) (E:=E0) m2 (.cons (r1.same (k2.gz m1.tp)) r2) q2 fun z v H' qa ra=>by
  obtain⟨g1,g2,g3⟩:=ra.back m2
  exact kk _ v H' qa g1 ((k1.trans k2).trans g2) g3
 exact cf
theorem uN {k:Nat}{φ:List A→(A→Prop)→Prop}{pl:Sem Bool}(M':xK X.prog X.w X.K X.mg X.base C m k φ)(hr:zE k X.A)(h:EvD X α o fun x=>∃fs,x=wy C fs∧vM fs m=none∧φ [.dat (wy C fs)] fun a=>Q a.d)
  (ht:eval (.Call (.Attribute o m apos) [] [] pos) X.env=(do
   let ov ←eval o X.env
   standAt apos.atName
   let (f,first) ←holding [ov] (getMethod ov m pl)
   callWith pos f first (backTo pos (starEach [] X.env)) (backToKw pos (keywordEach [] X.env))):=by rfl):EvD X α (.Call (.Attribute o m apos) [] [] pos) Q:=fun F σ H R m' kk=>by
 obtain⟨f,fd,ps,c,hm,hb,G⟩:=M'.ex
 refine⟨_,pw zl c hm G hr hb .nil zS ht,?_⟩
 refine h F σ H _ m' fun x vx H1 q1 t1 k1 r1=>?_
 obtain⟨fs,rfl,hf,q⟩:=q1
 have m1:=m'.kz k1 t1
 obtain⟨a,dx,gs,rfl,h1,h2⟩:=r1.ins_inv
 refine⟨a,dx,gs,rfl,(zj h1).2,h2.none hf,?_⟩
 have cf:=xX (vs:=[.ref a]) (as:=[.dat (wy C fs)]) (R:=R) (E:=E0) m1 (.cons r1 .nil) q fun z v H' qa ra=>by
  obtain⟨g1,g2,g3⟩:=ra.back m1
  exact kk _ v H' qa g1 (k1.trans g2) g3
 exact cf
def dP (F:Fr)(v:V)(H':Hp)(d:PyData):Prop:=zK F H'∧Kz F F.H0 H'∧AV (sub (fun x=>¬F.O0 x∧∀xs,F.H0 x≠some (.lst xs)) H') v d
def EvN (X:Cx)(α:Ev)(e:Expr)(Q:PyData→Prop):Prop:=∀(F:Fr) (σ:St) (H:Hp) (R:VK),M F α σ H→(∀d v H',Q d→zK F H'→Kz F H H'→AV (sub (fun x=>¬Ow F α σ x∧∀xs,H x≠some (.lst xs)) H') v d→R v H')→uz X e σ H R
theorem EvN.d (h:EvN X α e Q):EvD X α e Q:=fun F σ H R m k=>h F σ H R m fun d v H' q t z r=>k d v H' q t z (r.same (zr fun a o h e=>⟨h.1,e⟩))
def spI (C:Addr)(φ:List A→(A→Prop)→Prop):Sp:=fun vs H Qc _=>∃(F:Fr) (as:List A) (Q:A→Prop) (x dx:Addr) (vs':List V) (H1:Hp),vs=.ref x::vs'∧H1 x=none∧H1 dx=none∧dx≠x∧H=upd (upd H1 dx (.own x)) x (.ins C dx [])∧
 F.H0=H1∧zK F H1∧(∀y,F.O0 y→∃u,H1 y=some u∧wb u)∧zU F (sub (fun y=>¬F.O0 y) H1) vs' as∧φ as Q∧∀d H',Q (.dat d)→dP F (.ref x) H' d→Qc .non H'
structure kr (P:Program)(w:World)(K:PySem.W.Frag)(mg:Str→Option Value)(base:Heap)(x:Str)(k:Nat)(dvs:List V)(φ:List A→(A→Prop)→Prop):Prop where
 ex:∃C f fd ps ds,mg x=some (.ref C)∧Mk K C f∧Binds K fd ps ds∧Vals dvs ds∧zy P w K mg base CX0 k f fd ps (spI C φ)
theorem ng {F:Fr}{σ:St}{H:Hp}{vs:List V}{as:List A}{QA:A→Prop}{R:VK}{φ:List A→(A→Prop)→Prop}(m:M F α σ H)(rv:zU F (Gz F α σ H) vs as)(hφ:φ as QA)
  (kk:∀d v H',QA (.dat d)→dP ⟨H,Ow F α σ,F.tp⟩ v H' d→R v H') {E:XK} (x dx:Addr) (hx:H x=none) (hdx:H dx=none) (hne:dx≠x):spI C φ (.ref x::vs) (upd (upd H dx (.own x)) x (.ins C dx [])) (fun v H2=>v=.non∧R (.ref x) H2) E:=by
 refine⟨⟨H,Ow F α σ,F.tp⟩,as,QA,x,dx,vs,H,rfl,hx,hdx,hne,rfl,rfl,?_,?_,?_,hφ,fun d H' qa ra=>⟨rfl,kk d _ H' qa ra⟩⟩
 ·exact m.tp.to rfl fun _ z=>.inl z
 ·exact fun y z=>m.owEx z
 ·exact zU.to (F:=F) (F':=⟨H,Ow F α σ,F.tp⟩) (fun _ _ e=>e) rfl rv
theorem dP.back {F:Fr}{σ:St}{H H1 H':Hp}{v:V}{d:PyData}(m:M F α σ H)(k1:Kz F H H1)(h:dP ⟨H1,Ow F α σ,F.tp⟩ v H' d):zK F H'∧Kz F H1 H'∧AV (sub (fun x=>¬Ow F α σ x∧∀xs,H x≠some (.lst xs)) H') v d:=by
 obtain⟨t,kz,r⟩:=h
 refine⟨m.tp.re t rfl,kz,r.same (zr fun a o h e=>⟨⟨h.1,fun xs z=>h.2 xs (k1 _ _ z (m.tp.nt (ow0 h.1)))⟩,e⟩)⟩
theorem de {k:Nat}{φ:List A→(A→Prop)→Prop}{x:Str}(M':kr X.prog X.w X.K X.mg X.base x k [] φ)(hr:zE (k+1) X.A)(hg:Gl X x)(h:EvA X α (e::es) fun as=>φ as fun a=>Q a.d)
  (hdb:(x == ("__debug__":Str))=false:=by decide) (he:starEach (e::es) X.env=(false,eval e X.env)::starEach es X.env:=by rfl) (hpl:(backTo pos (starEach es X.env)).any (·.1)=false:=by rfl):EvN X α (.Call (.Name x p) (e::es) [] pos) Q:=fun F σ H R m kk=>by
 obtain⟨C,f,fd,ps,ds,hm,hk,hb,hd,G⟩:=M'.ex
 cases hd
 refine⟨_,xr hk G hr hg hm hb .nil zS yv hdb he hpl,?_⟩
 refine h F σ H _ m fun as vs H1 q1 t1 k1 r1=>?_
 have m1:=m.kz k1 t1
 intro y dx hy hdx hne
 rw[zt5]
 refine ng m1 r1 q1 (fun d v H' qa ra=>?_) y dx hy hdx hne
 obtain⟨g1,g2,g3⟩:=ra.back m k1
 exact kk d v H' qa g1 (k1.trans g2) g3
end
structure aE (K:PySem.W.Frag)(x qual:Str)(st:Stmt)(dV:Value)(f:Addr)(fd:FuncData):Prop where
 ex:∃(oc:Value) (od:Option Addr) (kV doc pm:Value) (an:Option Addr) (cdv ct:Value) (osl:Array (Option Value)),
  fd=PySem.W.fnOf x qual (zH st) (zv st) (zb st) dV kV doc pm an cdv ct∧K.lookup f=some ⟨oc,od,.func fd,osl⟩∧PySem.W.codeIn K cdv qual=true
 kp:PySem.W.keepIn K (.ref f)=true
theorem dW {K:PySem.W.Frag}{x qual:Str}{st:Stmt}{f:Addr}{oc:Value}{od an:Option Addr}{osl:Array (Option Value)}{dV kV doc pm cdv ct:Value}(l:K.lookup f=some ⟨oc,od,.func (PySem.W.fnOf x qual (zH st) (zv st) (zb st) dV kV doc pm an cdv ct),osl⟩)
  (c:PySem.W.codeIn K cdv qual=true) (k:PySem.W.keepIn K (.ref f)=true):aE K x qual st dV f (PySem.W.fnOf x qual (zH st) (zv st) (zb st) dV kV doc pm an cdv ct):=⟨⟨oc,od,kV,doc,pm,an,cdv,ct,osl,rfl,l,c⟩,k⟩
section
variable {P:Program}{w:World}{K:PySem.W.Frag}{mg:Str→Option Value}{base:Heap}
theorem zf7 {qual:Str}{st:Stmt}{f C:Addr}{dV:Value}{fd:FuncData}{N:List Str}{x:Str}{k:Nat}{φ:List A→(A→Prop)→Prop}{fl:Str}{e:Expr}{p1 p2 p3:Pos}(G:aE K "__init__" qual st dV f fd)(S:zo ("self"::x::N) ["self",x] (zb st))(c:Cls K C)(na:yq K C fl)
  (hb:zv st=[.Assign [.Attribute (.Name "self" p1) fl p2] e p3]) (hlen:∀as Q,φ as Q→as.length=1)
  (hbody:∀(cdv:Value) (A':Around) (outer:List Env) (s:Shared) (H:Hp) (E:XK) (as:List A) (Q:A→Prop),zE k (A'.deeper (envOfC qual (zb st) s.heap.objs.size f cdv))→φ as Q→
   EvL (yV CX0 P w K mg base ("self"::x::N) qual (zb st) f cdv A' outer s H E).nox (none::as.map some++List.replicate N.length none) e fun ds=>ux ds=true∧Q (.dat (wy C [(.str fl,.list ds)])))
  (hsw:∀(cdv:Value) (A':Around) (outer:List Env) (s:Shared) (H:Hp) (E:XK),swapsWith e (some (.Attribute (.Name "self" p1) fl p2)) p3.line (yV CX0 P w K mg base ("self"::x::N) qual (zb st) f cdv A' outer s H E).nox.env=pure false)
  (hv:Vis (zb st) "self"):zy P w K mg base CX0 (k+1) f fd ["self",x] (spI C φ):=by
 obtain⟨oc,od,kV,doc,pm,an,cdv,ct,osl,rfl,lk,hcd⟩:=G.ex
 refine lG lk hcd S (fun vs H Q E h=>?_) fun A' outer s H vs Qc E hr h=>?_
 ·obtain⟨F,as,Q',y,dx,vs',H1,rfl,_,_,_,_,_,_,_,rv,hφ,_⟩:=h
  rw[zn7,rv.length,hlen as _ hφ]
  rfl
 ·obtain⟨F,as,Q',y,dx,vs',H1,rfl,hy,hdx,hne,rfl,rfl,t,o,rv,hφ,kk⟩:=h
  have hl:=rv.length
  have hl1:=hlen as _ hφ
  rw[hb]
  refine⟨_,(show PSs _ _ _ from (zu (rT (X:=(yV CX0 P w K mg base ("self"::x::N) qual (zb st) f cdv A' outer s (upd (upd F.H0 dx (.own y)) y (.ins C dx [])) E).nox) (yB (i:=0) rfl hv) zl (hsw cdv A' outer s _ E))).nox),?_⟩
  let F2:Fr:=⟨F.H0,fun z=>F.O0 z∨z=y∨z=dx,F.tp⟩
  have s1:zx F.H0 (upd (upd F.H0 dx (.own y)) y (.ins C dx [])):=fun a u q=>by
   rw[zd (zk q hy),zd (zk q hdx)];exact q
  have noy:¬F.O0 y:=fun z=>by obtain⟨u,hu,_⟩:=o y z;rw[hy] at hu;cases hu
  have nodx:¬F.O0 dx:=fun z=>by obtain⟨u,hu,_⟩:=o dx z;rw[hdx] at hu;cases hu
  have t2:zK F2 (upd (upd F.H0 dx (.own y)) y (.ins C dx [])):=(t.same s1).to rfl fun _ z=>.inl z
  -- the names of the body
  have g:∀{i:Nat} {a:A},(none::as.map some++List.replicate N.length none:Ev)[i]?=some (some a)→∃j,i=j+1∧as[j]?=some a:=fun {i a} h=>by
   cases i with
   |zero=>simp at h
   |succ j=>
    refine⟨j,rfl,?_⟩
    have h':(as.map some++List.replicate N.length none:Ev)[j]?=some (some a):=by simpa using h
    rcases zv4 j as.length with z|z
    ·rw[zq5 (by rw[zm6];exact z),zo0,zp0] at h'
     obtain⟨b,h1,h2⟩:=h'
     cases h2;exact h1
    ·rw[zr0 (by rw[zm6];exact z),zs3] at h'
     split at h'<;>cases h'
  have at':∀{vs:List V} {as:List A} {i:Nat} {a:A},zU F (sub (fun x=>¬F.O0 x) F.H0) vs as→as[i]?=some a→∃v,vs[i]?=some v∧jw F (sub (fun x=>¬F.O0 x) F.H0) v a:=by
   intro vs as i a h
   induction h generalizing i with
   |nil=>intro e;simp at e
   |cons h r ih=>
    intro e
    cases i with
    |zero=>simp at e;subst e;exact⟨_,rfl,h⟩
    |succ i=>obtain⟨v,h1,h2⟩:=ih (by simpa using e);exact⟨v,by simpa using h1,h2⟩
  have gv:∀{j:Nat} {v:V},vs'[j]?=some v→(L2.start ("self"::x::N) (.ref y::vs'))[j+1]?=some (some v):=fun {j v} h=>by
   have hj:j<vs'.length:=(zm8.mp h).1
   unfold L2.start
   rw[zq5 (by rw[zm6,zn7];omega),zo0,zv7,h];rfl
  have no:∀(i:Nat) a,(none::as.map some++List.replicate N.length none:Ev)[i]?=some (some a)→(∃d,a=.dat d)∨a=.tape:=fun i a z=>by
   obtain⟨j,_,hj⟩:=g z
   obtain⟨v,_,h⟩:=at' rv hj
   cases a with
   |dat d=>exact .inl ⟨d,rfl⟩
   |tape=>exact .inr rfl
   |_=>exact h.elim
  have gs:zx (sub (fun x=>¬F.O0 x) F.H0) (Gz F2 (none::as.map some++List.replicate N.length none) (L2.start ("self"::x::N) (.ref y::vs')) (upd (upd F.H0 dx (.own y)) y (.ins C dx []))):=fun a u q=>by
   obtain⟨z1,z2⟩:=zj q
   refine zR ?_ (s1 _ _ z2)
   rintro ((z|z|z)|⟨i,b,s,e,_,f⟩)
   ·exact z1 z
   ·rw[z,hy] at z2;cases z2
   ·rw[z,hdx] at z2;cases z2
   ·rcases no i b e with ⟨d,rfl⟩|rfl
    ·exact f.elim
    ·exact f.elim
  have m2:M F2 (none::as.map some++List.replicate N.length none) (L2.start ("self"::x::N) (.ref y::vs')) (upd (upd F.H0 dx (.own y)) y (.ins C dx [])):=by
   refine⟨by unfold L2.start;simp[hl,hl1],fun i a s e1 e2=>?_,fun i j a b s t x e1 _ _ _ f=>?_,fun i r q z=>(by rcases no i _ z with ⟨d,w⟩|w<;>cases w),t2,fun z u h _=>s1 z u h,fun z hz=>?_⟩
   ·obtain⟨j,rfl,hj⟩:=g e1
    obtain⟨v,h1,h2⟩:=at' rv hj
    rw[gv h1] at e2;cases e2
    rcases no _ a e1 with ⟨d,rfl⟩|rfl
    ·exact⟨v,rfl,AV.same gs h2⟩
    ·obtain⟨t',b,c,h3,rfl⟩:=h2
     exact⟨t',b,c,h3,rfl⟩
   ·rcases no i a e1 with ⟨d,rfl⟩|rfl
    ·exact f.elim
    ·exact f.elim
   ·rcases hz with q|q|q
    ·obtain⟨u,hu,hn⟩:=o z q
     exact⟨u,s1 _ _ hu,hn⟩
    ·exact⟨_,by rw[q];exact zf,fun _ q=>by cases q⟩
    ·exact⟨_,by rw[q,zd hne];exact zf,fun _ q=>by cases q⟩
  refine hbody cdv A' outer s _ E as Q' hr hφ F2 _ _ _ m2 fun d v H2 qd t3 k3 r3=>?_
  obtain⟨l,xs,rfl,hl0,hl2,avl⟩:=r3
  obtain⟨nol,qd⟩:=qd
  have nly:l≠y:=fun z=>by rw[z,zf] at hl0;cases hl0
  have nldx:l≠dx:=fun z=>by rw[z,zd hne,zf] at hl0;cases hl0
  have hl00:F.H0 l=none:=by rw[zd nly,zd nldx] at hl0;exact hl0
  have nol0:¬F.O0 l:=fun z=>by obtain⟨u,hu,_⟩:=o l z;rw[hl00] at hu;cases hu
  have nty:NT F2 y:=t.nt noy
  have hy2:H2 y=some (.ins C dx []):=k3 _ _ zf nty
  refine⟨.ref y,rfl,y,C,dx,[],rfl,hy2,c,na,by show 0<1000;decide,?_⟩
  refine kk _ _ qd ⟨(t.re t3 rfl).updO noy (jJ hy2),fun z u h n=>?_,?_⟩
  ·rw[zd (zk h hy)]
   exact k3 _ _ (s1 _ _ h) n
  ·refine AV.ins (zR ⟨noy,fun xs z=>by rw[hy] at z;cases z⟩ zf) (.cons (.lst (zR ⟨nol0,fun xs z=>by rw[hl00] at z;cases z⟩ (by rw[zd nly];exact hl2)) ?_) .nil)
   refine avl.noL (fun a u hno z=>?_) nol
   obtain⟨z1,z2⟩:=zj z
   have na:a≠y:=fun w=>z1.1 (.inl (.inr (.inl w)))
   refine zR ⟨fun w=>z1.1 (.inl (.inl w)),fun xs w=>?_⟩ (by rw[zd na];exact z2)
   have:H2 a=some (.lst xs):=k3 _ _ (s1 _ _ w) (t.nt fun w=>z1.1 (.inl (.inl w)))
   rw[z2] at this
   cases this
   exact hno trivial
end
section
variable {X:Cx}{α:Ev}{e e':Expr}{pos:Pos}{E:xg}{sts:List Stmt}
end
def Itv (K:PySem.W.Frag)(a:Addr)(n:Nat):It:=
 ⟨fun i H=>∃xs x,SqL K H a xs∧xs.length=n∧i<n∧xs[n-1-i]?=some x,fun i H x H'=>H'=H∧∀xs,SqL K H a xs→xs[n-1-i]?=some x,fun i H=>n≤i⟩
theorem hV {P:Program}{w:World}{K:PySem.W.Frag}{tg:Expr}(a it:Addr)(n:Nat):Turn P w K tg (Itv K a n) [it] it (fun i h=>i≤n∧h.IsRevIter it a ((n:Int)-1-(i:Int))) where
 mem:=by simp
 obj:=fun i h st b hb=>by
  have e:b=it:=by simpa using hb
  subst e
  obtain⟨_,o,e,c,d⟩:=st
  exact⟨o,e,fun v z=>by rw[d] at z;cases z⟩
 keep:=fun i h h' st k=>⟨st.1,st.2.at fun o e=>k it (by simp) o e⟩
 item:=by
  intro X hP hw hK hc i pins s σ H E I hf st hg
  subst hP hw hK
  obtain⟨xs,x,hq,hl,hi,hx⟩:=hg
  obtain⟨its,rv,p,hz⟩:=I.list hq
  obtain⟨u,hu,ru⟩:=rv.get hx
  obtain⟨f0,f1,f2,f3,f4,f5⟩:=hf it (by simp)
  have e1:((n:Int)-1-(i:Int))=((n-1-i:Nat):Int):=by omega
  have st':=st.2
  rw[e1] at st'
  refine wpAny_pyNext_rev_item st' p.isList (x:=u) (by simpa using hu) fun h' st2 sb=>?_
  have I1:Inv X pins σ H {s with heap:=h'}:=I.turned (t':=s.toks) (fun b o hb e=>(sb.2 b hb).trans e) f0 f1 f3 f4 f5
  obtain⟨o,e,c,d⟩:=id st2
  have e2:(((n-1-i:Nat):Int)-1)=(n:Int)-1-((i+1:Nat):Int):=by omega
  rw[e2] at st2
  exact⟨u,rfl,mY (s:={s with heap:=h'}) e c d (by decide) ⟨x,H,I1,ru,⟨rfl,fun ys hy=>by rw[I.list_inj hy hq];exact hx⟩,⟨hi,st2⟩,fun b hb=>(hf b hb).1⟩⟩
 done:=by
  intro X hP hw hK hc i pins s σ H E I hf st hg
  subst hP hw hK
  have hi:i=n:=Nat.le_antisymm st.1 hg
  obtain⟨f0,f1,f2,f3,f4,f5⟩:=hf it (by simp)
  have st':=st.2
  rw[show ((n:Int)-1-(i:Int))=-1 by omega] at st'
  exact wpAny_pyNext_rev_end (I.ok.hd hc) st' fun h' eb=>⟨rfl,I.turned (t':=s.toks) (fun b o hb e=>eb b o hb e) f0 f1 f3 f4 f5⟩
 self:=fun A i s Q E st h=>wpAny_pyIter_revIter st.2 h
section
variable {X:Cx}{α:Ev}{tg:Expr}{p pos:Pos}{a:Expr}
def zj5 (K:PySem.W.Frag)(ta:TA):TI:=fun σ H R=>ta σ H fun vs H1=>∃l xs,vs=[.ref l]∧SqL K H1 l xs∧R (Itv K l xs.length) H1
theorem aM {ta:TA}(hg:Gl X "reversed")(hm:X.mg "reversed"=none)(ha:PA X [a] ta)(hs:starEach [a] X.env=[(false,eval a X.env)]:=by rfl):PI X tg (.Call (.Name "reversed" p) [a] [] pos) (zj5 X.K ta):=by
 intro pins s σ H R I h
 refine Call_ (xF I hg hm boot_reversed (zq8 (thn (ha pos pins s σ H _ I h) fun us s1 ⟨vs,H1,I1,r1,q1⟩=>?_) hs rfl))
 obtain⟨l1,xs,e,hq1,q⟩:=q1
 subst e
 obtain⟨u,rfl,ru⟩:=Vals.one r1
 cases (show u=Value.ref l1 from ru)
 obtain⟨its1,rv1,p1,hz1⟩:=I1.list hq1
 have hlen:=rv1.length
 refine call_reversed_list p1.isList ?_
 have it0:({s1 with heap:=s1.heap.push (revObj l1 ((its1.toArray.size:Int)-1))}:Shared).heap.IsRevIter s1.heap.objs.size l1 ((xs.length:Int)-1-((0:Nat):Int)):=by
  refine⟨_,zn8 _ rfl,rfl,?_⟩
  show Data.fields _=_
  rw[zn3,hlen]
  simp
 refine wpAny_pyIter_revIter it0 ?_
 refine⟨_,_,_,_,H1,rfl,I1.kept (t':=s1.toks) fun b o e=>zm5 _ e,hV l1 _ xs.length,⟨zo3 _,it0⟩,fun b hb=>?_,q⟩
 have e:b=s1.heap.objs.size:=by simpa using hb
 subst e
 exact I1.fpOk (zn0 _) (I1.hok.fresh (zn0 _))
theorem bO {Q:List PyData→Prop}(hg:Gl X "reversed")(hm:X.mg "reversed"=none)(h:EvD X α a fun x=>∃ds,x=.list ds∧Q ds.reverse)(hs:starEach [a] X.env=[(false,eval a X.env)]:=by rfl):
  EvI X α tg (.Call (.Name "reversed" p) [a] [] pos) Q:=fun F σ H R m k=>by
 refine⟨_,aM hg hm (zc zl zp hs) hs,?_⟩
 refine h F σ H _ m fun x vx H1 q1 t1 k1 r1=>?_
 obtain⟨ds,rfl,q⟩:=q1
 obtain⟨l1,xs,rfl,g1,g2⟩:=r1.lst_inv
 refine⟨l1,xs,rfl,SqL.of (zj g1).2,k _ _ H1 q t1 k1 fun i H3 p s=>⟨fun d hd=>?_,fun hl=>?_⟩⟩
 ·have s1:=SqL.of (K:=X.K) (zj (s _ _ g1)).2
  have hi:i<ds.length:=by
   have:=(zm8.mp hd).1
   rwa [zx3] at this
  rw[List.getElem?_reverse hi] at hd
  obtain⟨x1,hx1,av1⟩:=g2.get hd
  rw[←g2.length] at hx1
  refine⟨⟨xs,x1,s1,rfl,by rw[g2.length];exact hi,hx1⟩,fun v H4 y=>?_⟩
  obtain⟨rfl,hy⟩:=y
  have:=hy _ s1
  rw[hx1] at this;cases this
  exact⟨zx.refl _,fun _=>av1.same s⟩
 ·rw[zx3,←g2.length] at hl
  exact hl
end
def EnS (w:World):List DictEntry→List (Str×V)→Prop:=Paired fun e p=>e.hash=hashStr w p.1∧(∃t,e.key=.str p.1 t)∧RelV p.2 e.val
def mL (K:PySem.W.Frag)(w:World)(d:Addr)(tb:List (Str×V)):Prop:=
 ∃es n,K.lookup d=some ⟨.type "dict",none,.dict es n,#[]⟩∧EnS w es.toList tb∧(tb.map (·.1)).Nodup
theorem sV {P:Program}{w:World}:∀{es:List DictEntry} {tb:List (Str×V)},EnS w es tb→Pairs (PySem.strKind P w) es (List.zipWith (fun e (p:Str×V)=>(p.1,e.val)) es tb)
 |_,_,.nil=>.nil
 |e::_,p::_,.cons ⟨_,⟨t,ek⟩,_⟩ r=>.cons (by rw[ek];simp[PySem.strKind,Value.isStrOf]) rfl (sV r)
theorem mI {w:World}:∀{es:List DictEntry} {tb:List (Str×V)},EnS w es tb→(List.zipWith (fun e (p:Str×V)=>(p.1,e.val)) es tb).map (·.1)=tb.map (·.1)
 |_,_,.nil=>rfl
 |_,_,.cons _ r=>by simp only[List.zipWith_cons_cons,zp8,mI r]
theorem qU {P:Program}{w:World}:∀{es:List DictEntry} {tb:List (Str×V)},EnS w es tb→∀e∈es,∃k,(PySem.strKind P w).is k e.key=true∧e.hash=(PySem.strKind P w).hash k
 |_,_,.nil,e,he=>by simp at he
 |_,_,.cons (b:=p) ⟨h1,⟨t,ek⟩,_⟩ r,e,he=>by
  rcases zn2.mp he with rfl|he
  ·exact⟨p.1,by rw[ek];simp[PySem.strKind,Value.isStrOf],h1⟩
  ·exact qU r e he
theorem mO {w:World}{x:Str}{v:V}:∀{es:List DictEntry} {tb:List (Str×V)},EnS w es tb→tb.lookup x=some v→∃u,valueAt (List.zipWith (fun e (p:Str×V)=>(p.1,e.val)) es tb) x=some u∧RelV v u
 |_,_,.nil,e=>by simp at e
 |e::es,p::tb,.cons ⟨_,_,rv⟩ r,h=>by
  obtain⟨y,z⟩:=p
  by_cases q:x=y
  ·subst q
   simp only[List.lookup_cons_self,Option.some.injEq] at h
   subst h
   exact⟨e.val,by simp[valueAt],rv⟩
  ·rw[zp6,zv6.mpr q] at h
   obtain⟨u,h1,h2⟩:=mO r h
   refine⟨u,?_,h2⟩
   rw[←h1]
   simp[valueAt,zr8,zp4 q]
section
variable {X:Cx}{α:Ev}{p pos:Pos}{a:Expr}{g:Str}{Q:PyData→Prop}
def ao (i:Expr):Prop:=∀ov iv,subscripted i false ov iv=operate [ov,iv] (getItem ov iv)
theorem zk0 {prog:Program}{w:World}{A:Around}{E:Value→Shared→Prop}{s:Shared}{env:Env}{value slice:Expr}{pos:Pos}{T id:String}{Q:Value→Shared→Prop}
  (hl:typeLookup (.type T) "__getitem__"=pure (some (.builtin id))) (hs:ao slice)
  (h:wpAny (model prog w) A (eval value env) (fun o s₁=>wpAny (model prog w) A (eval slice env) (fun i s₂=>s₂.TypeIs o T∧wpAny (model prog w) A (getItem o i) Q E s₂) E s₁) E s):
  wpAny (model prog w) A (eval (.Subscript value slice pos) env) Q E s:=by
 refine Subscript_ (thn h fun o s₁ h₁=>thn h₁ fun i s₂ h₂=>?_)
 obtain⟨hT,h₂⟩:=h₂
 unfold subscriptTail
 refine zm4 ?_
 rw[getitemInPython_of_ne hT.not_modules]
 refine zm4 (wpAny_specialOf hT hl ?_)
 have fin:wpAny (model prog w) A (subscripted slice false o i) (fun r s₃=>wpAny (model prog w) A (letTemporaryGo value o r >>= fun _=>pure r) Q E s₃) E s₂:=by
  rw[hs o i]
  exact wpAny_operating (thn h₂ fun r s₃ h₃=>zm4 (wpAny_letTemporaryGo (zm7 h₃)))
 first
  |exact zm7 (zm4 fin)
  |exact zm4 (zm7 (zm4 fin))
  |exact zm4 fin
theorem iT {d:Addr}{tb:List (Str×V)}{ty:TE}(hg:Gl X g)(hm:X.mg g=some (.ref d))(hd:mL X.K X.w d tb)(hi:PE X a ty)(hs:ao a)(hb:(g == ("__debug__":Str))=false:=by decide):
  PE X (.Subscript (.Name g p) a pos) (fun σ H Q=>ty σ H fun y H1=>∃x v,y=.str x∧tb.lookup x=some v∧Q v H1):=by
 intro pins s σ H Q I h
 refine zk0 PySem.F.slot_dict_getitem.lookup hs (xl I hg hm (thn (hi pins s σ H _ I h) fun iv s2 ⟨y,H2,I2,ry,x,v,ey,ex,q2⟩=>?_) hb)
 subst ey
 obtain⟨t,rfl⟩:=ry
 obtain⟨es,n,hl,he,hn⟩:=hd
 have dd:s2.heap.DictOf (PySem.strKind X.prog X.w) d (List.zipWith (fun e (p:Str×V)=>(p.1,e.val)) es.toList tb):=
  ⟨_,es,n,I2.kIn _ _ hl,⟨rfl,rfl,rfl⟩,rfl,fun e he'=>qU he e (by simpa using he'),sV he,by rw[mI he];exact hn⟩
 obtain⟨u,h1,h2⟩:=mO he ex
 exact⟨dd.typeIs,wpAny_getItem_of (show (PySem.strKind X.prog X.w).is x (.str x t)=true by simp[PySem.strKind,Value.isStrOf]) dd.mapOf h1 ⟨v,H2,I2.tok _,h2,q2⟩⟩
def scV :PyData→Option V
 |.none=>some .non
 |.bool b=>some (.bl b)
 |.int i=>some (.int i)
 |.str x=>some (.str x)
 |_=>Option.none
theorem bJ {H:Hp}{d:PyData}{v:V}(h:scV d=some v):AV H v d:=by
 cases d<;>simp[scV] at h<;>subst h<;>constructor
theorem gH {d:Addr}{tb:List (Str×V)}(hg:Gl X g)(hm:X.mg g=some (.ref d))(hd:mL X.K X.w d tb)(h:EvD X α a fun y=>∃x d v,y=.str x∧tb.lookup x=some v∧scV d=some v∧Q d)(hs:ao a:=by exact fun _ _=>rfl)
  (hb:(g == ("__debug__":Str))=false:=by decide):EvD X α (.Subscript (.Name g p) a pos) Q:=fun F σ H R m k=>by
 refine⟨_,iT hg hm hd zl hs hb,?_⟩
 refine h F σ H _ m fun y vy H1 q1 t1 k1 r1=>?_
 obtain⟨x,d',v,rfl,h1,h2,q⟩:=q1
 cases r1.str_inv
 exact⟨x,v,rfl,h1,k _ _ H1 q t1 k1 (bJ h2)⟩
end
section
variable {X:Cx}{α:Ev}{p pos:Pos}{a b:Expr}{g:Str}{Q:PyData→Prop}
def sf :PyData→Bool
 |.none=>true
 |.bool _=>true
 |.int _=>true
 |.str _=>true
 |_=>false
theorem lJ {H:Hp}{v:V}{d:PyData}(h:AV H v d)(f:sf d=true):va v=true∧scV d=some v:=by
 cases h<;>first|exact⟨rfl,rfl⟩|cases f
theorem qM {H:Hp}:∀{xs:List V} {ds:List PyData},AVs H xs ds→ds.all sf=true→xs.all va=true∧ds.map scV=xs.map some
 |_,_,.nil,_=>⟨rfl,rfl⟩
 |_,_,.cons h r,f=>by
  rw[zA6,zo6] at f
  obtain⟨h1,h2⟩:=lJ h f.1
  obtain⟨h3,h4⟩:=qM r f.2
  exact⟨by rw[zA6,h1,h3];rfl,by rw[zp8,zp8,h2,h4]⟩
def inD (x:PyData)(ds:List PyData):Bool:=ds.any fun y=>match scV y,scV x with
 |some u,some v=>eqV u v
 |_,_=>false
theorem ll {v:V}{x:PyData}(hx:scV x=some v):∀{xs:List V} {ds:List PyData},ds.map scV=xs.map some→inV v xs=inD x ds
 |[],[],_=>rfl
 |[],_::_,e=>by cases e
 |_::_,[],e=>by cases e
 |u::xs,d::ds,e=>by
  rw[zp8,zp8] at e
  injection e with e1 e2
  have ih:=ll hx e2
  unfold inV inD at ih ⊢
  rw[zv9,zv9,ih,e1,hx]
theorem iY {neg:Bool}{x:PyData}{ds:List PyData}(fx:sf x=true)(fs:ds.all sf=true):Cmp (rIn X.K neg) x (.list ds) (if neg then !inD x ds else inD x ds):=fun p H vx vy R rx ry h=>by
 obtain⟨ad,xs,rfl,g1,g2⟩:=ry.lst_inv
 obtain⟨f1,s1⟩:=lJ rx fx
 obtain⟨f2,s2⟩:=qM g2 fs
 refine⟨ad,xs,rfl,.inl (SqL.of (zj g1).2),f1,f2,?_⟩
 rw[ll s1 s2]
 exact h
end
section
variable {X:Cx}{α:Ev}{p pos:Pos}{a b:Expr}{Q:PyData→Prop}
end
section
variable {X:Cx}{α:Ev}{a e:Expr}{pos p2 p3 p4:Pos}{n1:Nat}{te:TE}
end
def fm (T:Addr)(H:Hp):Prop:=∀b:Addr,H b=none∨b=T∨∃o xs,H b=some (.frz o (.lst xs))
theorem jm {P:Program}{w:World}{K:PySem.W.Frag}{mg mb:Str→Option Value}{CX:CXT}{k:Nat}{fa a T:Addr}{fd:FuncData}{x:Str}{sp:Sp}{s₁:Shared}{vs:List Value}{ns:List Int}{ps:Array Value}
  (KX:K.In s₁.heap) (hns:s₁.heap.Ns mainGlobals mg) (hb:s₁.heap.Ns builtinsNs mb) (hbb:∀x:Str,x≠"__name__"→mb x=bootBuiltins x) (hlim:s₁.heap.NoLimit) (hg:s₁.gens=#[])
  (ha:s₁.heap.get? a=some {cls:=.type "list",data:=.seq vs.toArray}) (hi:IntsAre vs ns) (hl:ns.length≤sizeLine) (hr:zE k callerA)
  (hT:s₁.heap.get? T=some (PySem.W.tabObj ps)) (hKT:K.lookup T=none) (hct:isCodeTable s₁.heap T)
  (hbm:∃bm ob,mg "__builtins__"=some (.ref bm)∧bm≠builtinsNs∧s₁.heap.get? bm=some ob∧ob.cls=.type "module"∧ob.dict=some builtinsNs∧ob.data=.plain)
  (F:∀base:Heap,K.In base→base.Ns mainGlobals mg→base.BuiltinsAt mg T→zy P w K mg base CX k fa fd [x] sp) (hbind:∀(s:Shared) (u:Value),BindsTo s fd ⟨[u],[]⟩ [(x,u)])
  (hsp:∀H:Hp,fm T H→H T=some (.tbl ps)→SqL K H a (ns.map V.int)→sp [.ref a] H (fun v _=>v=.bl true) fun _ _ _=>False)
  (hCX:∀H e s',CX [] H s₁ (fun _ _ _=>False) e s'→False):
  codeAny (model P w) callerA (.call (.ref fa) ⟨[.ref a],[]⟩) (fun r s'=>r=.ok (.ret (.bool true))∧OldK s₁.heap s'.heap∧s'.os=s₁.os∧AllBare s'.gens) s₁:=by
 have rv:=rA hi
 have lenV:=hi.length
 have haT:a≠T:=fun z=>by rw[z,hT] at ha;cases ha
 have core:∀H:Hp,fm T H→H T=some (.tbl ps)→SqL K H a (ns.map V.int)→HOk P w H s₁.heap→(∀b,H b≠none→b=a∨b=T)→(H a≠none→K.lookup a=none)→
   codeAny (model P w) callerA (.call (.ref fa) ⟨[.ref a],[]⟩) (fun r s'=>r=.ok (.ret (.bool true))∧OldK s₁.heap s'.heap∧s'.os=s₁.os∧AllBare s'.gens) s₁:=by
  intro H hO hHT hS hok hA hK
  have base_of:∀{b:Addr} {o:Obj},s₁.heap.get? b=some o→H b=none→(sC s₁.heap H).get? b=some o:=fun e n=>fZ e n
  have noA:∀{b:Addr} {o:Obj} {es:Array DictEntry} {ep:Nat},s₁.heap.get? b=some o→o.data=.dict es ep→H b=none:=fun {b o es ep} e d=>by
   cases q:H b with
   |none=>rfl
   |some u=>
    rcases hA b (by rw[q];simp) with e'|e'
    ·subst e'
     rw[ha] at e;cases e
     have d':Data.seq vs.toArray _=Data.dict es ep:=d
     cases d'
    ·subst e'
     rw[hT] at e;cases e
     have d':Data.fields ps=Data.dict es ep:=d
     cases d'
  have nsK:∀{b:Addr} {m:Str→Option Value},s₁.heap.Ns b m→(sC s₁.heap H).Ns b m:=fun {b m} ⟨o,es,ep,e,d,r⟩=>⟨o,es,ep,base_of e (noA e d),d,r⟩
  have hKb:K.In (sC s₁.heap H):=fun b o e=>base_of (KX b o e) (by
   cases q:H b with
   |none=>rfl
   |some u=>
    rcases hA b (by rw[q];simp) with e'|e'
    ·subst e'
     rw[hK (by rw[q];simp)] at e;cases e
    ·subst e'
     rw[hKT] at e;cases e)
  have hM:Mod K mg (sC s₁.heap H):=⟨hKb,nsK hns,⟨mb,nsK hb,hbb⟩,let ⟨mc,h1,h2⟩:=hlim;⟨mc,nsK h1,h2⟩⟩
  have hBA:(sC s₁.heap H).BuiltinsAt mg T:=by
   obtain⟨bm,ob,b1,b2,b3,b4,b5,b6⟩:=hbm
   have n1:bm≠T:=fun z=>by rw[z,hT] at b3;cases b3;cases b4
   have n2:bm≠a:=fun z=>by rw[z,ha] at b3;cases b3;cases b6
   have n3:bm≠mainGlobals:=fun z=>by
    obtain⟨o,es,ep,e,d,_⟩:=hns
    rw[z,e] at b3;cases b3
    rw[d] at b6;cases b6
   exact⟨bm,ob,b1,b2,n3,n1,base_of b3 (by
    cases q:H bm with
    |none=>rfl
    |some u=>
          rcases hA bm (by rw[q];simp) with e'|e'
          ·exact absurd e' n2
          ·exact absurd e' n1),b4,b5,b6⟩
  have e0:vW P w K mg (sC s₁.heap H) callerA [] s₁ H:=⟨rfl,hM,fun b o e=>dQ e,zz6 (jn _ _),trivial,fun b hb=>absurd (show b∈([]:List Addr) from hb) (by simp),hok,.of_eq hg⟩
  refine zw6 ((F _ hKb (nsK hns) hBA).run callerA [] s₁ H ⟨[.ref a],[]⟩ [.ref a] [.ref a] _ _ hr e0 (hbind s₁ (.ref a)) (.cons rfl .nil) (hsp H hO hHT hS)) fun r s' h=>?_
  cases r with
  |error e=>exact (hCX H e s' h).elim
  |ok fl=>
   cases fl with
   |next=>exact False.elim h
   |brk=>exact False.elim h
   |cont=>exact False.elim h
   |ret u=>
    obtain⟨v,H',os,bare,un,hok',r',q⟩:=h
    have q':v=.bl true:=q
    subst q'
    obtain rfl:u=Value.bool true:=r'
    have old:∀b o,s₁.heap.get? b=some o→asItWas s₁.heap s'.heap b o:=fun b o e=>by
     cases q:H b with
     |none=>exact .inl (un.keep b o e q (by intro z;exact absurd (show b∈([]:List Addr) from z) (by simp)) (by simp))
     |some u=>
      rcases hO b with z|z|⟨ob,xs,z⟩
      ·rw[q] at z;cases z
      ·subst z
       obtain⟨more,hm⟩:=un.tbls _ _ hHT
       have e2:s'.heap.get? b=some {cls:=.none,data:=.fields (ps++more)}:=hok' _ _ hm
       rw[hT] at e;cases e
       exact .inr (.inl ⟨hct,rfl,ps,more,rfl,e2⟩)
      ·have z2:=un.frzs b ob _ z
       obtain⟨e1,_⟩:=hok b _ z
       obtain⟨e2,_⟩:=hok' b _ z2
       rw[e] at e1;cases e1
       exact .inl e2
    refine⟨rfl,⟨old,fun b o e=>?_⟩,os,bare⟩
    rcases old b o e with z|⟨_,_,_,_,_,z⟩|⟨_,_,⟨o',_,_,z,_⟩,_⟩
    ·exact⟨_,z⟩
    ·exact⟨_,z⟩
    ·exact⟨_,z⟩
 cases hk:K.lookup a with
 |some o=>
  have e:=KX a o hk
  rw[ha] at e
  cases e
  refine core (fun b=>if b=T then some (.tbl ps) else none) (fun b=>?_) (if_pos rfl) (.inr ⟨_,vs.toArray,_,hk,rfl,rfl,rfl,by rw[zn3,lenV];exact hl,by simpa using rv⟩) (fun b u z=>?_) (fun b z=>?_) fun z=>absurd (if_neg haT) z
  ·by_cases h:b=T
   ·exact .inr (.inl h)
   ·exact .inl (if_neg h)
  ·by_cases h:b=T
   ·have z':=(if_pos h).symm.trans z
    cases z'
    subst h
    exact hT
   ·have z':=(if_neg h).symm.trans z
    cases z'
  ·by_cases h:b=T
   ·exact .inr h
   ·exact absurd (if_neg h) z
 |none=>
  refine core (fun b=>if b=T then some (.tbl ps) else if b=a then some (.frz {cls:=.type "list",data:=.seq vs.toArray} (.lst (ns.map V.int))) else none) (fun b=>?_) (if_pos rfl) (.inl (.inr ⟨{cls:=.type "list",data:=.seq vs.toArray},(if_neg haT).trans (if_pos rfl)⟩)) (fun b u z=>?_) (fun b z=>?_) fun _=>hk
  ·by_cases h:b=T
   ·exact .inr (.inl h)
   ·by_cases hb:b=a
    ·exact .inr (.inr ⟨_,_,(if_neg h).trans (if_pos hb)⟩)
    ·exact .inl ((if_neg h).trans (if_neg hb))
  ·by_cases h:b=T
   ·have z':=(if_pos h).symm.trans z
    cases z'
    subst h
    exact hT
   ·have z:=(if_neg h).symm.trans z
    by_cases hb:b=a
    ·have z':=(if_pos hb).symm.trans z
     cases z'
     subst hb
     exact⟨ha,by rw[zm6];exact hl,vs,_,rv,ha⟩
    ·have z':=(if_neg hb).symm.trans z
     cases z'
  ·by_cases h:b=T
   ·exact .inr h
   ·by_cases hb:b=a
    ·exact .inl hb
    ·exact absurd ((if_neg h).trans (if_neg hb)) z
theorem iK {l:PySem.W.OpenLaw}{n k:Nat}{q:Program}{loose:List Str}{XP:(Str→Option Value)→Heap→Prop}{YP:World→Heap→Prop}{d:DefRec}{K:Params→PySem.W.Frag}{CX:World→CXT}{sp:World→Sp}{x:Str}{T c:Addr}{ps:Array Value}
  (hn:l.most=some n) (hn2:n≤sizeLine) (hdf:d.params.defaults=[]) (hr:zE k callerA)
  (hY:∀(w:World) (h:Heap),YP w h→(K w.params).In h) (hYT:∀(w:World) (h:Heap),YP w h→h.get? T=some (PySem.W.tabObj ps))
  (hNo:∀w:World,(K w.params).lookup T=none) (hTab:∀w:World,∃o vs,(K w.params).lookup c=some o∧o.cls=.type "code"∧o.data=.fields vs∧vs[11]?=some (.ref T))
  (F:∀(w:World) (mg:Str→Option Value) (fa:Addr) (h:Heap),(K w.params).In h→h.Ns mainGlobals mg→mg d.name=some (.ref fa)→
   ∃fd:FuncData,(∀(s:Shared) (u:Value),BindsTo s fd ⟨[u],[]⟩ [(x,u)])∧
    ∀base:Heap,(K w.params).In base→base.Ns mainGlobals mg→base.BuiltinsAt mg T→zy l.prog w (K w.params) mg base (CX w) k fa fd [x] (sp w))
  (hsp:∀(w:World) (H:Hp) (a:Addr) (ns:List Int),ns.length≤n→fm T H→H T=some (.tbl ps)→SqL (K w.params) H a (ns.map V.int)→sp w [.ref a] H (fun v _=>v=.bl true) fun _ _ _=>False)
  (hCX:∀(w:World) (H:Hp) (s:Shared) (e:Value) (s':Shared),CX w [] H s (fun _ _ _=>False) e s'→False):
  PySem.W.WalkO q loose XP YP l.row.toRowW d [] (fun f vs=>PySem.call f vs):=by
 refine Att.attach_call hn hdf fun w s₀ s₁ mg mb fa o pm cd doc a vs ns G Y ho hd hcd hmg hobj hints hlen hg=>?_
 have KX:=hY w _ Y
 obtain⟨oc,cv,t2,t3,t4,t5⟩:=hTab w
 obtain⟨fd,hb,hF⟩:=F w mg fa _ KX G.T.g hmg
 exact jm KX G.T.g G.T.b G.T.builtins G.T.nolimit hg hobj hints (zr2 hlen hn2) hr (hYT w _ Y) (hNo w) ⟨c,oc,cv,KX _ _ t2,t3,t4,t5⟩ G.T.bmain hF hb (fun H hO hT hS=>hsp w H a ns hlen hO hT hS) fun H e s'=>hCX w H s₁ e s'
theorem TabAt.same {H H':Hp}(T:TabAt H)(h:∀a o,(∀xs,o≠.lst xs)→H a=some o→H' a=some o):TabAt H':=uR T h
section
variable {X:Cx}{pins:List (Addr×Obj)}{σ:St}{H:Hp}{s:Shared}{h':Heap}
theorem Inv.tblMore {t':Nat}{p:Addr}{ps more:Array Value}{H':Hp}(I:Inv X pins σ H s)(h:H p=some (.tbl ps))(k:∀b u,b≠p→s.heap.get? b=some u→h'.get? b=some u)(e:h'.get? p=some (PySem.W.tabObj (ps++more)))
  (hp:H' p=some (.tbl (ps++more))) (hH:∀b,b≠p→b<s.heap.objs.size→H' b=H b) (new:∀b o,s.heap.objs.size≤b→H' b=some o→zV X.prog X.w H' h' b o):
  Inv X pins σ H' {s with heap:=h',toks:=t'}:=by
 have ne:∀b,H b=none→b≠p:=fun b n z=>by rw[z,h] at n;cases n
 have nt:∀b o,H b=some o→(∀qs,o≠.tbl qs)→b≠p:=fun b o q n z=>by rw[z,h] at q;cases q;exact n _ rfl
 have lt:∀b o,H b=some o→b<s.heap.objs.size:=fun b o q=>by
  rcases zv4 b s.heap.objs.size with z|z
  ·exact z
  ·rw[I.hok.fresh z] at q;cases q
 have st:∀b o,H b=some o→(∀qs,o≠.tbl qs)→H' b=some o:=fun b o q n=>by rw[hH b (nt b o q n) (lt b o q)];exact q
 refine I.un ⟨fun b o q n _ _=>k b o (ne b n) q,fun b o q n _ _=>⟨o.slots,k b o (ne b n) q⟩,fun b o q n _=>by rw[hH b (ne b n) (zn1 q)];exact n,fun b o q _=>?_,fun b xs q=>st b _ q (fun _ z=>by cases z),fun b o u q=>st b _ q (fun _ z=>by cases z),fun b qs q=>?_⟩ fun b u q=>?_
 ·by_cases z:b=p
  ·exact⟨_,by rw[z];exact e⟩
  ·exact⟨o,k b o z q⟩
 ·by_cases z:b=p
  ·subst z
   rw[h] at q;cases q
   exact⟨more,hp⟩
  ·exact⟨#[],by rw[hH b z (lt b _ q),q];simp⟩
 ·by_cases z:b=p
  ·subst z
   rw[hp] at q;cases q
   exact e
  ·rcases zv4 b s.heap.objs.size with l|l
   ·rw[hH b z l] at q
    refine (I.hok b u q).stay (fun c v hc r=>k c v (fun w=>?_) r) (fun c r=>st c _ r fun _ z=>by cases z) fun c xs r=>st c _ r fun _ z=>by cases z
    subst w
    rcases hc with rfl|hc
    ·exact z rfl
    ·rw[h] at hc;cases hc
   ·exact new b u l q
def nP (f c:Addr)(qual:Str)(params:Arguments)(body:Expr)(scope:Scope)(clos:List (Str×Addr)):HO:=
 .ext fun h=>∃(pm ctv:Value),h.get? f=some (PySem.W.kla_obj "<lambda>" qual params body scope clos pm c ctv)
theorem dM {P:Program}{w:World}{H:Hp}{h:Heap}{c:Addr}(r:h.CodeRec (.ref c) xk):zV P w H h c (um c):=by
 refine⟨r,?_,fun h1 h2 p k=>?_⟩
 ·obtain⟨c',o,vs,t,e1,e2,_⟩:=r
  cases e1
  exact⟨o,e2⟩
 ·obtain⟨c',o,vs,t,e1,e2,e3⟩:=p
  cases e1
  exact⟨c,o,vs,t,rfl,k _ e2,e3⟩
theorem gc {P:Program}{w:World}{H:Hp}{h:Heap}{f c:Addr}{qual:Str}{params:Arguments}{body:Expr}{scope:Scope}{clos:List (Str×Addr)}{pm ctv:Value}(r:h.get? f=some (PySem.W.kla_obj "<lambda>" qual params body scope clos pm c ctv)):zV P w H h f (nP f c qual params body scope clos):=
 ⟨⟨pm,ctv,r⟩,⟨_,r⟩,fun h1 h2 ⟨pm',ctv',p⟩ k=>⟨pm',ctv',k _ p⟩⟩
theorem nY {pos:Pos}{a b:Int}{c cv:Value}(l:List Value):TriplesOk l→codeAmong pos (l++[rawInt a,rawInt b,c])=some cv→codeAmong pos l=some cv∨cv=c:=by
 induction l using TriplesOk.induct with
 |case1=>
  intro _ h
  rw[zz8,rawInt,rawInt,codeAmong.eq_1] at h
  split at h
  ·cases h;exact .inr rfl
  ·rw[codeAmong.eq_2 _ _ (by intro _ _ _ _ _ _ z;cases z)] at h;cases h
 |case2 i t j u d rest ih=>
  intro ok h
  rw[TriplesOk.eq_2] at ok
  rw[zw9,zw9,zw9,codeAmong.eq_1] at h
  rw[codeAmong.eq_1]
  split at h
  ·rename_i z
   rw[if_pos z];exact .inl h
  ·rename_i z
   rw[if_neg z];exact ih ok h
 |case3 t h1 h2=>
  intro ok
  rw[TriplesOk.eq_3 t h1 h2] at ok
  exact ok.elim
theorem eM {params:Arguments}{body:Expr}{scope:Scope}{lpos:Pos}{clos:List (Str×Addr)}{c:Addr}(I:Inv X pins σ H s)(hcl:closureFor scope X.env=pure clos)(hgl:X.env.globals=mainGlobals)(hco:X.env.code=.ref c)(hhd:PySem.W.CodeHd X.base c yh)
  (hbi:X.base.BuiltinsAt X.mg yh) (hdf:defaultsOf params X.env=([],[])) (hq:X.env.qual++("<lambda>":Str)=xk) (hne:mainGlobals≠yh) (T:TabAt H) {Q:Value→Shared→Prop}
  (h:∀(f c':Addr) (H':Hp) (s':Shared),Inv X pins σ H' s'→TabAt H'→(∀a o,a≠yh→H a=some o→H' a=some o)→(∀a ps,H a=some (.tbl ps)→∃qs,H' a=some (.tbl qs))→H f=none→H' f=some (nP f c' xk params body scope clos)→H' c'=some (um c')→Q (.ref f) s'):
  wpAny (model X.prog X.w) X.A (eval (.Lambda params body scope lpos) X.env) Q X.xe s:=by
 refine PySem.W.kla_eval hdf ?_
 rw[hq]
 obtain⟨ps,t1,t2,t3⟩:=T.ex
 have hT:s.heap.get? yh=some (PySem.W.tabObj ps):=I.hok _ _ t1
 have hb:∀b o,X.base.get? b=some o→s.heap.get? b=some o:=fun b o e=>(I.bs b o e).1
 have hhd':PySem.W.CodeHd s.heap c yh:=by
  obtain⟨o,vs,f1,f2,f3,f4,f5,f6,f7,e1,e2⟩:=hhd
  exact⟨o,vs,f1,f2,f3,f4,f5,f6,f7,hb _ _ e1,e2⟩
 have hbi':s.heap.BuiltinsAt X.mg yh:=by
  obtain⟨bm,o,e1,e2,e3,e4,e5,e6⟩:=hbi
  exact⟨bm,o,e1,e2,e3,e4,hb _ _ e5,e6⟩
 have hns:s.heap.Ns mainGlobals X.mg:=by
  obtain⟨o,es,ep,e,d,r⟩:=I.ok.mod.glob
  exact⟨o,es,ep,hb _ _ e,d,r⟩
 cases hc:codeAmong lpos ps.toList with
 |none=>
  refine PySem.W.kla_makeFunction hcl hgl hns hco hhd' hT t2 hc hne hbi' fun c' ctv h' tk ex l1 l2 cr ht=>?_
  have hlt:c'<(h'.push (PySem.W.kla_obj "<lambda>" xk params body scope clos ((X.mg "__name__").getD Value.none) c' ctv)).objs.size:=by rw[size_push'];omega
  have n1:(c':Addr)≠h'.objs.size:=zo2 l2
  have szT:yh<s.heap.objs.size:=zn1 hT
  have n2:(c':Addr)≠yh:=zt8 (zo1 szT l1)
  have lf:s.heap.objs.size≤h'.objs.size:=zt3 (Nat.lt_of_le_of_lt l1 l2)
  have n3:(h'.objs.size:Addr)≠yh:=zt8 (zo1 szT lf)
  let HN:Hp:=upd (upd (upd H h'.objs.size (nP h'.objs.size c' xk params body scope clos)) c' (um c')) yh (.tbl (ps++#[rawInt ↑lpos.line,rawInt ↑lpos.col,Value.ref c']))
  have eP:HN yh=some (.tbl (ps++#[rawInt ↑lpos.line,rawInt ↑lpos.col,Value.ref c'])):=zf
  have eC:HN c'=some (um c'):=by show upd _ _ _ _=_;rw[zd n2,zf]
  have eF:HN h'.objs.size=some (nP h'.objs.size c' xk params body scope clos):=by show upd _ _ _ _=_;rw[zd n3,zd n1.symm,zf]
  have old:∀b,b≠yh→b<s.heap.objs.size→HN b=H b:=fun b nb lb=>by
   show upd _ _ _ _=_
   rw[zd nb,zd (zo2 (zo1 lb l1)),zd (zo2 (zo1 lb lf))]
  have I1:Inv X pins σ HN {s with heap:=h'.push (PySem.W.kla_obj "<lambda>" xk params body scope clos ((X.mg "__name__").getD Value.none) c' ctv),toks:=tk}:=by
   refine I.tblMore (more:=#[rawInt ↑lpos.line,rawInt ↑lpos.col,Value.ref c']) t1 (fun b u nb e=>zm5 _ (ex b u nb e)) (zm5 _ ht) eP old fun b o lb e=>?_
   by_cases z1:b=h'.objs.size
   ·subst z1
    rw[eF] at e;cases e
    exact gc (zn8 _ rfl)
   ·by_cases z2:b=c'
    ·subst z2
     rw[eC] at e;cases e
     obtain⟨c2,o,vs,t,e1,e2,e3⟩:=cr
     cases e1
     exact dM ⟨_,o,vs,t,rfl,zm5 _ e2,e3⟩
    ·have nb:b≠yh:=fun z=>absurd lb (Nat.not_le_of_lt (z▸szT))
     have e':HN b=H b:=by show upd _ _ _ _=_;rw[zd nb,zd z2,zd z1]
     rw[e',I.hok.fresh lb] at e;cases e
  have stay:∀a o,a≠yh→H a=some o→HN a=some o:=fun a o no e=>by
   have la:a<s.heap.objs.size:=by
    rcases zv4 a s.heap.objs.size with z|z
    ·exact z
    ·rw[I.hok.fresh z] at e;cases e
   rw[old a no la];exact e
  refine h _ c' HN _ I1 ⟨_,eP,?_,fun pos cv hcv=>?_⟩ stay (fun a qs e=>?_) (I.hok.fresh lf) eF eC
  ·rw[Array.toList_append]
   exact TriplesOk_snoc _ _ _ _ t2
  ·rw[Array.toList_append] at hcv
   rcases nY _ t2 hcv with z|z
   ·obtain⟨c2,rfl,e2⟩:=t3 _ _ z
    exact⟨c2,rfl,stay _ _ (fun z=>by rw[z,t1] at e2;cases e2) e2⟩
   ·exact⟨c',z,eC⟩
  ·by_cases za:a=yh
   ·exact⟨_,by rw[za];exact eP⟩
   ·refine⟨qs,?_⟩
    rw[old a za (by
     rcases zv4 a s.heap.objs.size with z|z
     ·exact z
     ·rw[I.hok.fresh z] at e;cases e)]
    exact e
 |some cv=>
  obtain⟨c',rfl,t4⟩:=t3 _ _ hc
  refine PySem.W.kla_makeFunctionHit hcl hgl hns hco hhd' hT t2 hc hbi' fun ctv h' tk k l=>?_
  have hf:H h'.objs.size=none:=I.hok.fresh l
  have k2:∀b u,s.heap.get? b=some u→(h'.push (PySem.W.kla_obj "<lambda>" xk params body scope clos ((X.mg "__name__").getD Value.none) c' ctv)).get? b=some u:=fun b u e=>zm5 _ (k b u e)
  have I1:=I.laid (t':=tk) (o:=nP h'.objs.size c' xk params body scope clos) k2 l (gc (zn8 _ rfl))
  have n1:∀a o,H a=some o→a≠h'.objs.size:=fun a o e z=>by rw[z,hf] at e;cases e
  refine h _ c' _ _ I1 (T.same fun a o _ e=>by rw[zd (n1 a o e)];exact e) (fun a o _ e=>by rw[zd (n1 a o e)];exact e) (fun a qs e=>⟨qs,by rw[zd (n1 a _ e)];exact e⟩) hf zf ?_
  rw[zd (n1 _ _ t4)];exact t4
end
structure xJ (x y:Str)(params:Arguments)(scope:Scope):Prop where
 kind:scope.kind=.function
 co:scope.isCoroutine=false
 gen:scope.isGenerator=false
 px:scope.names.lookup x=some .local
 py:scope.names.lookup y=some .free
 nocell:∀z∈scope.names,z.2≠NameKind.cell
 only:∀z∈scope.names,z.2=NameKind.free→z.1=y
 ne:x≠y
def pF (P:Program)(w:World)(K:PySem.W.Frag)(mg:Str→Option Value)(base:Heap)(x y:Str)(scope:Scope)(f c cl:Addr)(A:Around)(outer:List Env)(s:Shared)(H:Hp):Cx where
 prog:=P
 w:=w
 K:=K
 mg:=mg
 base:=base
 A:=A.deeper (PySem.W.envX xk scope s.heap.objs.size f (.ref c) [(y,cl)])
 N:=[x,y]
 s₀:=s
 H₀:=H
 env:=PySem.W.envX xk scope s.heap.objs.size f (.ref c) [(y,cl)]
 outer:=outer
 stack:=PySem.W.envX xk scope s.heap.objs.size f (.ref c) [(y,cl)]::outer
 ex:=[]
 calm:=true
 fn:=fun _=>false
 pn:=[]
 xe:=fun _ _=>False
theorem kd {P:Program}{w:World}{K:PySem.W.Frag}{mg:Str→Option Value}{base:Heap}{x y:Str}{params:Arguments}{scope:Scope}{f c cl:Addr}{A:Around}{outer:List Env}{s:Shared}{H:Hp}{h':Heap}{tk:Nat}{v l:V}{u ul:Value}
  (S:xJ x y params scope) (hd:A.handled=none) (e0:vW P w K mg base A outer s H) (rv:RelV v u) (rl:RelV l ul) (hcl:s.heap.IsCell cl (some ul)) (fcl:H cl=none)
  (ns:h'.Ns s.heap.objs.size fun z=>[(x,u)].reverse.lookup z) (k:∀b o,s.heap.get? b=some o→h'.get? b=some o):
  Inv (pF P w K mg base x y scope f c cl A outer s H) [] [some v,some l] H {s with heap:=h',toks:=tk}:=by
 have noA:∀b:Addr,b∉(pF P w K mg base x y scope f c cl A outer s H).ex:=fun b z=>absurd (show b∈([]:List Addr) from z) (by simp)
 have one:∀z d,(pF P w K mg base x y scope f c cl A outer s H).env.cells.lookup z=some d→z=y∧d=cl:=fun z d h=>by
  have h:List.lookup z [(y,cl)]=some d:=h
  rw[zp6] at h
  split at h
  ·rename_i e
   cases h
   exact⟨eq_of_beq e,rfl⟩
  ·cases h
 have hit:(pF P w K mg base x y scope f c cl A outer s H).env.cells.lookup y=some cl:=by
  show List.lookup y [(y,cl)]=some cl
  simp[zp6]
 have cell':h'.IsCell cl (some ul):=by
  obtain⟨o,e1,e2⟩:=hcl
  exact⟨o,k _ _ e1,e2⟩
 refine⟨⟨e0.mod,S.kind,rfl,rfl,zn0 _,fun a b d h1 h2=>(one a d h1).1.trans (one b d h2).1.symm,fun z hz=>?_,fun z d hf _=>?_,fun _=>hd,Around.frames_deeper e0.frames,.inr ⟨rfl,rfl⟩,fun b z=>absurd z (noA b),e0.bs,e0.bsz,fun b _ _=>noA b,fun b z=>absurd z (noA b),e0.funs,e0.frf⟩,
  rfl,e0.bare,Un.kept k,⟨_,ns,fun i z v' h1 h2 h3=>?_⟩,fun z d h=>?_,e0.hok.fresh (zn0 _),fun z d h=>?_,fun p hp=>absurd (show p∈([]:List (Addr×Obj)) from hp) (by simp),e0.hok.kept k,rfl⟩
 ·have hz:scope.names.lookup z=some .cell∨scope.names.lookup z=some .free:=hz
  rcases hz with hz|hz
  ·exact absurd rfl (S.nocell _ (zq7 hz))
  ·have:z=y:=S.only _ (zq7 hz) rfl
   subst this
   exact⟨cl,hit⟩
 ·exact absurd (show false=true from hf) zn4
 ·have h1:([x,y]:List Str)[i]?=some z:=h1
  match i,h1,h2 with
  |0,h1,h2=>
   cases h1;cases h2
   exact⟨u,rv,.inl ⟨S.px,by simp[zp6]⟩⟩
  |1,h1,h2=>
   cases h1;cases h2
   exact⟨ul,rl,.inr ⟨.inr S.py,cl,hit,cell'⟩⟩
  |i+2,h1,h2=>simp at h1
 ·obtain⟨rfl,rfl⟩:=one z d h
  exact⟨_,cell'⟩
 ·obtain⟨rfl,rfl⟩:=one z d h
  exact fcl
theorem dF {P:Program}{w:World}{K:PySem.W.Frag}{mg:Str→Option Value}{base:Heap}{x y:Str}{params:Arguments}{body:Expr}{scope:Scope}{f c cl:Addr}{A:Around}{outer:List Env}{s:Shared}{H:Hp}{v l:V}{u ul:Value}{k:Nat}{Q:VK}{t:TE}
  (S:xJ x y params scope) (hr:zE k A) (e0:vW P w K mg base A outer s H) (hf:H f=some (nP f c xk params body scope [(y,cl)])) (hc:H c=some (um c)) (hcl:s.heap.IsCell cl (some ul)) (fcl:H cl=none) (rv:RelV v u) (rl:RelV l ul)
  (hb:∀pm ctv,bindArgs (PySem.W.kla_fn "<lambda>" xk params body scope [(y,cl)] pm (.ref c) ctv) ⟨[u],[]⟩=pure [(x,u)])
  (ht:PE (pF P w K mg base x y scope f c cl A outer s H) body t) (hq:t [some v,some l] H Q):
  codeAny (model P w) A (.call (.ref f) ⟨[u],[]⟩) (CR CX0 outer P w H s Q E0) s:=by
 obtain⟨⟨pm,ctv,ho⟩,_,_⟩:=e0.hok _ _ hf
 have cr:s.heap.CodeRec (.ref c) xk:=(e0.hok _ _ hc).1
 have lim:s.heap.NoLimit:=e0.mod.nolimit.keeps fun b o e=>(e0.bs b o e).1
 refine PySem.W.kla_callFunE hr.depth ho rfl S.co S.gen rfl cr ?_
 rw[hb]
 refine zm7 ?_
 refine wpAny_newFunctionEnv S.nocell (fun z hz=>?_) (fun h' ns sb=>?_) S.kind
 ·rw[zo8.mp hz];exact S.px
 ·have kk:∀b o,s.heap.get? b=some o→h'.get? b=some o:=fun b o e=>sb.extBut b o (zo2 (zn1 e)) (zm5 _ e)
  refine⟨lim.keeps kk,PySem.W.kla_codeExpr ?_⟩
  have I:=kd (tk:=s.toks+[(x,u)].length) (f:=f) (c:=c) S hr.hd e0 rv rl hcl fcl ns kk
  refine zp3 (ht [] _ _ H _ I hq) (fun u' s' hs=>?_) fun e s' hs=>hs.elim
  obtain⟨v',H',J,r',q⟩:=hs
  exact⟨v',H',J.os,J.bare,J.base,J.hok,r',q⟩
open PySem.W SortA
section
variable {X:Cx}{pins:List (Addr×Obj)}{σ:St}{H:Hp}{s:Shared}
def ig (X:Cx)(H1 H2:Hp)(s1 s2:Shared):Prop:=∀b o,s1.heap.get? b=some o→H1 b=none→b∉frs X.stack→s2.heap.get? b=some o∧H2 b=none
structure fY (X:Cx)(pins:List (Addr×Obj))(σ:St)(H:Hp)(D kS:Addr)(e1:Nat)(ps:List (Int×Int))(i:Nat)(s':Shared):Prop where
 ex:∃(H':Hp) (ks:List Value) (xs:List V) (e:Nat),Inv X pins σ H' s'∧(∀a o,H a=some o→H' a=some o)∧s'.heap.get? D=some (seqObj "list" #[] e1)∧s'.heap.get? kS=some (seqObj "list" ks.toArray e)∧H' D=none∧H' kS=none∧Vals xs ks∧PrV H' xs (ps.take i)
theorem jN {A:Around}{E:Value→Shared→Prop}{vs:List Value}{ps:List (Int×Int)}{f D kS:Addr}{e1:Nat}{Q:PUnit→Shared→Prop}(hlen:vs.length=ps.length)(h64:vs.length<64)(nD:D∉frs X.stack)(nK:kS∉frs X.stack)(hne:D≠kS)
  (fK:∀H',H' kS=none→yR X pins H' kS)
  (hcall:∀i v,vs[i]?=some v→∀H1 s1,Inv X pins σ H1 s1→(∀a o,H a=some o→H1 a=some o)→
   wpAny (model X.prog X.w) A (call (.ref f) [v]) (fun u s2=>∃t H2,u=.ref t∧Inv X pins σ H2 s2∧(∀a o,H1 a=some o→H2 a=some o)∧H2 t=some (.tup [.int (at2 ps i).1,.int (at2 ps i).2])∧ig X H1 H2 s1 s2) (fun _ _=>False) s1)
  (h0:fY X pins σ H D kS e1 ps 0 s) (hQ:∀s',fY X pins σ H D kS e1 ps vs.length s'→Q PUnit.unit s'):
  wpAny (model X.prog X.w) A (forIn vs PUnit.unit fun x __s=>do
   let __do_lift ←(call (.ref f) [x]).attempt
   match __do_lift with
    |Except.ok k=>do
     Builtin.List.listUpdate (.ref kS) fun x=>x.push k
     pure (ForInStep.yield PUnit.unit)
    |Except.error e=>do
     rule "list.sort.key-raised"
     let made ←Builtin.List.listItems (.ref kS)
     Builtin.List.listUpdate (.ref kS) fun x=>#[]
     letGo made.toList.reverse [e]
     Builtin.List.listUpdate (Value.ref D) fun x=>vs.toArray
     throw e
     pure (ForInStep.yield PUnit.unit)) Q E s:=by
 refine ksk_fold (fY X pins σ H D kS e1 ps) vs 0 s h0 (fun j x s' hj hI=>?_) (fun s' hI=>hQ s' (by simpa using hI))
 obtain⟨H1,ks,xs,e,I1,st,eD,eK,fD,fK',rv,pr⟩:=hI.ex
 rw[Nat.zero_add] at pr ⊢
 have hjl:j<ps.length:=by rw[←hlen];exact (zm8.mp hj).1
 have lks:ks.length=j:=by rw[←rv.length,pr.len,zs8];omega
 refine zm4 (zx2 (zp3 (hcall j x hj H1 s' I1 st) (fun u s2 hu=>?_) fun _ _ z=>z.elim))
 obtain⟨t,H2,rfl,I2,st2,et,kp⟩:=hu
 obtain⟨eD2,fD2⟩:=kp D _ eD fD nD
 obtain⟨eK2,fK2⟩:=kp kS _ eK fK' nK
 refine zm4 (listUpdate_at eK2 rfl (zm7 ⟨rfl,?_⟩) (by rw[zn3,lks,zq0];omega) (by rw[Array.size_push,zn3,lks,zq0];omega))
 obtain⟨e',hk⟩:∃e',(s2.heap.update kS (Obj.mapSeq fun x=>x.push (Value.ref t))).get? kS=some (seqObj "list" (ks++[Value.ref t]).toArray e'):=by
  have:=zu2 eK2 fun x=>x.push (Value.ref t)
  rw[List.push_toArray] at this
  exact⟨_,this⟩
 have kk:∀b o,b∉[kS]→s2.heap.get? b=some o→(s2.heap.update kS (Obj.mapSeq fun x=>x.push (Value.ref t))).get? b=some o:=fun b o nb q=>(zn9 _ _ (zp4 (by simpa using nb))).trans q
 refine⟨H2,ks++[Value.ref t],xs++[V.ref t],e',I2.turnL (t':=s2.toks) kk (fun b hb=>by rw[zo8.mp hb];exact fK H2 fK2),fun a o q=>st2 a o (st a o q),kk D _ (by simpa using hne) eD2,hk,fD2,fK2,rv.append (.cons rfl .nil),?_⟩
 rw[zu8,zm9 hjl]
 refine PrV.app (pr.keep fun a p q z=>st2 _ _ z) ?_
 have ea:at2 ps j=ps[j]:=by unfold at2;rw[zn5,zm9 hjl];rfl
 rw[ea] at et
 exact .cons et .nil
theorem nh {A:Around}{E:Value→Shared→Prop}{vs:List Value}{ps:List (Int×Int)}{f D:Addr}{n:Nat}{Pf:PySem.Fin→Shared→Prop}(I:Inv X pins σ H s)(ho:s.heap.get? D=some (seqObj "list" vs.toArray n))(hlen:vs.length=ps.length)(h64:vs.length<64)(fD:H D=none)
  (nD:D∉frs X.stack) (fpD:∀H',H' D=none→yR X pins H' D)
  (hcall:∀i v,vs[i]?=some v→∀H1 s1,Inv X pins σ H1 s1→(∀a o,H a=some o→H1 a=some o)→
   wpAny (model X.prog X.w) A (call (.ref f) [v]) (fun u s2=>∃t H2,u=.ref t∧Inv X pins σ H2 s2∧(∀a o,H1 a=some o→H2 a=some o)∧H2 t=some (.tup [.int (at2 ps i).1,.int (at2 ps i).2])∧ig X H1 H2 s1 s2) (fun _ _=>False) s1)
  (h:∀out H' s' c,Srt vs ps out→Inv X pins σ H' s'→(∀a o,H a=some o→H' a=some o)→s'.heap.get? D=some (seqObj "list" out.toArray c)→H' D=none→Pf (.done (.ret .none)) s'):
  wpAny (model X.prog X.w) A (ksk_tree D (.ref f) false) Pf E s:=by
 have hD:D<s.heap.objs.size:=zn1 ho
 have s1:=zx4 s.heap D (Obj.mapSeq fun _=>(#[]:Array Value))
 obtain⟨e1,ho1⟩:∃e1,(s.heap.update D (Obj.mapSeq fun _=>(#[]:Array Value))).get? D=some (seqObj "list" #[] e1):=⟨_,zu2 ho fun _=>#[]⟩
 have hsz1:(s.heap.update D (Obj.mapSeq fun _=>(#[]:Array Value))).objs.size=s.heap.objs.size:=Heap.size_update _ _ _
 unfold ksk_tree
 refine zm4 (listItems_at ho rfl ?_)
 refine zm4 (listUpdate_at ho rfl ?_ (by rw[zn3,zq0];omega) (zo3 _))
 generalize hh1:s.heap.update D (Obj.mapSeq fun _=>(#[]:Array Value))=h1 at s1 ho1 hsz1
 refine zm4 (seqEpoch_at ho1 rfl ?_)
 refine zm4 (wpAny_newTuple ?_ (by show vs.length≤_;rw[zq0];omega))
 refine zm4 (wpAny_newList ?_ (zo3 _))
 refine zq9 ?_
 show wpAny (model X.prog X.w) A (ksk_rest D (.ref f) false vs.toArray e1 (.ref (h1.push (seqObj "tuple" vs.toArray 0)).objs.size)) Pf E {s with heap:=(h1.push (seqObj "tuple" vs.toArray 0)).push (seqObj "list" #[] 0)}
 have kS0:(h1.push (seqObj "tuple" vs.toArray 0)).objs.size=s.heap.objs.size+1:=by rw[size_push',hsz1]
 have eK0:((h1.push (seqObj "tuple" vs.toArray 0)).push (seqObj "list" #[] 0)).get? (h1.push (seqObj "tuple" vs.toArray 0)).objs.size=some (seqObj "list" #[] 0):=zn8 _ rfl
 have eD0:((h1.push (seqObj "tuple" vs.toArray 0)).push (seqObj "list" #[] 0)).get? D=some (seqObj "list" #[] e1):=zm5 _ (zm5 _ ho1)
 have k1:∀b o,b∉[D]→s.heap.get? b=some o→((h1.push (seqObj "tuple" vs.toArray 0)).push (seqObj "list" #[] 0)).get? b=some o:=fun b o hb e=>
  zm5 _ (zm5 _ ((s1.2 b (by simpa using hb)).trans e))
 have I0:Inv X pins σ H {s with heap:=(h1.push (seqObj "tuple" vs.toArray 0)).push (seqObj "list" #[] 0),toks:=s.toks}:=I.turnL k1 fun b hb=>by rw[zo8.mp hb];exact fpD H fD
 generalize (h1.push (seqObj "tuple" vs.toArray 0)).push (seqObj "list" #[] 0)=h2 at eK0 eD0 k1 I0
 generalize hkS:(h1.push (seqObj "tuple" vs.toArray 0)).objs.size=kS at kS0 eK0
 have lK:s.heap.objs.size≤kS:=by rw[kS0];exact zv1 _
 have fK:∀H',H' kS=none→yR X pins H' kS:=fun H' hn=>I.fpOk lK hn
 have nK:(kS:Addr)∉frs X.stack:=fun z=>by
  rcases zn2.mp (I.stkSub _ z) with q|q
  ·exact (I.fpOk (H':=fun _=>none) lK rfl).2.1 q
  ·exact (I.fpOk (H':=fun _=>none) lK rfl).2.2.1 q
 have hne:D≠kS:=zo2 (zo1 hD lK)
 have hK0:H kS=none:=I.hok.fresh lK
 unfold ksk_rest
 refine zm4 (wpAny_rule ?_)
 rw[zA4]
 refine zm4 (jN (s:={s with heap:=h2}) hlen h64 nD nK hne fK hcall ⟨H,[],[],0,I0,fun _ _ q=>q,eD0,eK0,fD,hK0,.nil,.nil⟩ fun s' hI=>?_)
 obtain⟨H1,ks,xs,e,I1,st,eD,eK,fD1,fK1,rv,pr⟩:=hI.ex
 rw[hlen,zx0] at pr
 have lks:ks.length=vs.length:=by rw[←rv.length,pr.len,hlen]
 refine zm4 (listItems_at eK rfl ?_)
 unfold ksk_end
 dsimp only
 rw[if_neg (by decide)]
 have P:Prs s'.heap ks ps:=pr.prs I1 rv
 have tail:∀(st':SortSt) (out:List Value),out.length≤64→Srt vs ps out→failedOf st'=none→(arrOf st').map (·.2)=out.toArray→wpAny (model X.prog X.w) A (ksk_tail D false e1 (.ref kS) st') Pf E s':=by
  intro st' out lo so hf hout
  unfold ksk_tail
  dsimp only
  rw[hout,hf]
  refine zm4 (listUpdate_at eK rfl ?_ (by rw[zn3,lks,zq0];omega) (zo3 _))
  have s3:=zx4 s'.heap kS (Obj.mapSeq fun _=>(#[]:Array Value))
  have eD3:(s'.heap.update kS (Obj.mapSeq fun _=>(#[]:Array Value))).get? D=some (seqObj "list" #[] e1):=(s3.2 D hne).trans eD
  have I3:Inv X pins σ H1 {s' with heap:=s'.heap.update kS (Obj.mapSeq fun _=>(#[]:Array Value)),toks:=s'.toks}:=I1.turnL (ch:=[kS]) (fun b o hb q=>(s3.2 b (by simpa using hb)).trans q) fun b hb=>by rw[zo8.mp hb];exact fK H1 fK1
  generalize s'.heap.update kS (Obj.mapSeq fun _=>(#[]:Array Value))=h3 at eD3 I3
  refine zm4 (wpAny_letGo ?_)
  refine zm4 (seqEpoch_at eD3 rfl ?_)
  rw[if_neg (by decide)]
  refine zm4 (listUpdate_at eD3 rfl ?_ (zo3 _) (by rw[zn3,zq0];omega))
  have s4:=zx4 h3 D (Obj.mapSeq fun _=>out.toArray)
  obtain⟨c4,eD4⟩:∃c4,(h3.update D (Obj.mapSeq fun _=>out.toArray)).get? D=some (seqObj "list" out.toArray c4):=⟨_,zu2 eD3 fun _=>out.toArray⟩
  simp only[bne_self_eq_false,zt1,zw4]
  have I4:=I3.turnL (ch:=[D]) (t':=s'.toks) (h':=h3.update D (Obj.mapSeq fun _=>out.toArray)) (fun b o hb q=>(s4.2 b (by simpa using hb)).trans q) fun b hb=>by rw[zo8.mp hb];exact fpD H1 fD1
  exact zm7 (h out H1 _ c4 so I4 st eD4 fD1)
 by_cases hn2:vs.toArray.size<2
 ·rw[if_pos hn2,if_pos hn2]
  have hv:vs.length<2:=by simpa using hn2
  refine zm4 (zm7 ?_)
  refine zm4 (zm7 ?_)
  dsimp only
  have so:Srt vs ps vs:=by
   match vs,ps,hv,hlen with
   |[],[],_,_=>exact⟨[],rfl,rfl,fun _ h=>by simp at h,.refl _,.nil⟩
   |[v],[p],_,_=>exact⟨[0],rfl,rfl,fun i h=>by simp at h;subst h;simp,.refl _,by simp⟩
   |_::_::_,_,hv,_=>simp only[zn7] at hv;omega
  refine tail _ vs (by omega) so rfl ?_
  rw[if_neg (by decide)]
  show (ks.toArray.zip vs.toArray).map (·.2)=vs.toArray
  apply Array.toList_inj.mp
  rw[Array.toList_map,Array.toList_zip]
  exact List.map_snd_zip (zz6 lks.symm)
 ·rw[if_neg hn2,if_neg hn2,if_neg (by decide)]
  have h2:2≤vs.length:=by simp at hn2;omega
  have ask:=oz (prog:=X.prog) (w:=X.w) (A:=A) (s:=s') (by rw[lks];exact h2) P
   (R:=fun p s''=>Srt vs ps (p.toList.map fun i=>vs.getD i Value.none)∧s''=s') (fun ix a b c d=>⟨⟨ix,by simp,a,b,c,d⟩,rfl⟩)
  refine zm4 (zp3 ask (fun κ s0 hk=>?_) fun _ _ x=>x.elim)
  rw[lks] at hk
  refine zm4 (zp3 (kat_run (Q:=fun st' s''=>∃p:Array Nat,p.size=vs.length∧arrOf st'=p.map (kas_item (ks.toArray.zip vs.toArray))∧failedOf st'=none∧Srt vs ps (p.toList.map fun i=>vs.getD i Value.none)∧s''=s')
   lks h2 h64 (fun p' st' s'' a1 a2 a3 a4=>⟨p',a1,a2,a3,a4⟩) hk) ?_ fun _ _ e=>e)
  rintro⟨⟨⟩,st'⟩ s'' ⟨p,hp,har,hf,so,rfl⟩
  dsimp only
  exact tail st' _ (by rw[so.len,←hlen];omega) so hf (kat_snds lks har)
end
section
variable {X:Cx}{pins:List (Addr×Obj)}{σ:St}{H:Hp}{s:Shared}
theorem Inv.adopt {D:Addr}{o:HO}(I:Inv X pins σ H s)(fp:yR X pins H D)(new:zV X.prog X.w (upd H D o) s.heap D o):Inv X pins σ (upd H D o) s:=by
 have nD:=fp.1
 have st:∀b u,H b=some u→upd H D o b=some u:=fun b u e=>by rw[zd (zk e nD)];exact e
 have:=I.step (g':=s.gens) (t':=s.toks) (d':=s.drawn) (h':=s.heap) (H':=upd H D o) (ch:=[D]) (fun b hb=>by rw[zo8.mp hb];exact⟨fp.2.2.2.1,fp.2.1,fp.2.2.2.2.1,fp.2.2.2.2.2⟩) (fun b u _ _ _ e _=>e) (fun b u _ _ _ e _=>⟨u.slots,e⟩) (fun b u hb e n=>by rw[zd (by simpa using hb)];exact n)
  (fun b u _ e=>⟨u,e⟩) (fun b xs e=>st b _ e) (fun b u xs e=>st b _ e) (fun b ps e=>⟨#[],by rw[st b _ e];simp⟩) (fun m hm=>hm) (fun b u e=>?_) I.bare
 ·exact this
 ·by_cases hb:b=D
  ·subst hb;rw[zf] at e;cases e;exact new
  ·rw[zd hb] at e
   exact (I.hok b u e).stay (fun c v _ q=>q) (fun c q=>st c _ q) fun c xs q=>st c _ q
theorem qh {A:Around}{E:Value→Shared→Prop}{l f:Addr}{vs:List Value}{ps:List (Int×Int)}{Q:Value→Shared→Prop}(I:Inv X pins σ H s)(hl:s.heap.IsList l vs.toArray)(hlen:vs.length=ps.length)(h64:vs.length<64)
  (hcall:∀i v,vs[i]?=some v→∀H1 s1,Inv X pins σ H1 s1→(∀a o,H a=some o→H1 a=some o)→
   wpAny (model X.prog X.w) A.in1.in1 (call (.ref f) [v]) (fun u s2=>∃t H2,u=.ref t∧Inv X pins σ H2 s2∧(∀a o,H1 a=some o→H2 a=some o)∧H2 t=some (.tup [.int (at2 ps i).1,.int (at2 ps i).2])∧ig X H1 H2 s1 s2) (fun _ _=>False) s1)
  (h:∀D out H' s' c,s.heap.objs.size≤D→Srt vs ps out→Inv X pins σ H' s'→(∀a o,H a=some o→H' a=some o)→s'.heap.get? D=some (seqObj "list" out.toArray c)→H' D=none→yR X pins H' D→Q (.ref D) s'):
  wpAny (model X.prog X.w) A (call (.builtin "sorted") [.ref l] [("key",.ref f)]) Q E s:=by
 refine call_function_entry_kw kind_sorted plain_sorted entry_sorted (ksk_s1 _ _) ?_
 unfold Builtin.«sorted»
 refine zm4 (m:=checkCount "sorted" 1 1 _) (zm7 ?_)
 refine zm4 (collect_list hl ?_ (by rw[zq0];omega))
 refine zm4 (wpAny_newList ?_ (by rw[zq0];omega))
 have hsz:((s.heap.push (seqObj "list" #[] 0)).update s.heap.objs.size (Obj.mapSeq (·++vs.toArray))).objs.size=s.heap.objs.size+1:=by
  rw[Heap.size_update,size_push']
 have hoL:(((s.heap.push (seqObj "list" #[] 0)).update s.heap.objs.size (Obj.mapSeq (·++vs.toArray))).push (seqObj "list" vs.toArray 0)).get? (s.heap.objs.size+1)=some (seqObj "list" vs.toArray 0):=by
  rw[←hsz];exact zn8 _ rfl
 have keep:∀b o,s.heap.get? b=some o→(((s.heap.push (seqObj "list" #[] 0)).update s.heap.objs.size (Obj.mapSeq (·++vs.toArray))).push (seqObj "list" vs.toArray 0)).get? b=some o:=fun b o q=>by
  have hlt:b<s.heap.objs.size:=zn1 q
  rw[Heap.get?_push_ne _ _ _ (by rw[hsz];exact zo2 (Nat.lt_succ_of_lt hlt)),Heap.get?_update_ne _ _ _ _ (zo2 hlt),Heap.get?_push_ne _ _ _ (zo2 hlt)]
  exact q
 show wpAny _ _ _ _ _ {s with heap:=((s.heap.push (seqObj "list" #[] 0)).update s.heap.objs.size (Obj.mapSeq (·++vs.toArray))).push (seqObj "list" vs.toArray 0)}
 rw[hsz]
 have I1:Inv X pins σ H {s with heap:=((s.heap.push (seqObj "list" #[] 0)).update s.heap.objs.size (Obj.mapSeq (·++vs.toArray))).push (seqObj "list" vs.toArray 0),toks:=s.toks}:=I.kept keep
 have lD:s.heap.objs.size≤s.heap.objs.size+1:=zv1 _
 refine zm4 (zq9 (wpAny_call_entry_kw slot_list_sort ⟨_,hoL,rfl⟩ entry_list_sort ?body (ksk_l1 _ _)))
 case body=>
  rw[ksk_t1]
  refine nh (s:={s with heap:=((s.heap.push (seqObj "list" #[] 0)).update s.heap.objs.size (Obj.mapSeq (·++vs.toArray))).push (seqObj "list" vs.toArray 0)}) I1 hoL hlen h64 (I.hok.fresh lD) (fun z=>?_) (fun H' hn=>I.fpOk lD hn) hcall fun out H' s' c so I' st e fD=>?_
  ·rcases zn2.mp (I.stkSub _ z) with q|q
   ·exact (I.fpOk (H':=fun _=>none) lD rfl).2.1 q
   ·exact (I.fpOk (H':=fun _=>none) lD rfl).2.2.1 q
  ·exact⟨_,rfl,zm7 ⟨_,rfl,h _ out H' s' c lD so I' st e fD (I.fpOk lD fD)⟩⟩
end
section
variable {X:Cx}{a:Expr}{p pos kpos lpos p1 p2 p3 p4 p5 p6:Pos}{n1:Nat}{x y:Str}{params:Arguments}{scope:Scope}
abbrev pairE (x y:Str)(n1:Nat)(p1 p2 p3 p4 p5 p6:Pos):Expr:=.Tuple [.Subscript (.Name y p1) (.Name x p2) p3,.UnaryOp .USub (.Name x p4) p5] n1 p6
def keyOf (zs:List Int)(n:Int):Int×Int:=(zs.getD n.toNat 0,-n)
theorem eR {P:Program}{w:World}{K:PySem.W.Frag}{mg:Str→Option Value}{base:Heap}{f c cl l:Addr}{A:Around}{outer:List Env}{s:Shared}{H:Hp}{u ul:Value}{k:Nat}{n:Int}{zs:List Int}
  (S:xJ x y params scope) (hr:zE k A) (e0:vW P w K mg base A outer s H) (hf:H f=some (nP f c xk params (pairE x y n1 p1 p2 p3 p4 p5 p6) scope [(y,cl)])) (hc:H c=some (um c)) (hcl:s.heap.IsCell cl (some ul)) (fcl:H cl=none) (rv:RelV (.int n) u) (rl:RelV (.ref l) ul)
  (hb:∀pm ctv,bindArgs (PySem.W.kla_fn "<lambda>" xk params (pairE x y n1 p1 p2 p3 p4 p5 p6) scope [(y,cl)] pm (.ref c) ctv) ⟨[u],[]⟩=pure [(x,u)])
  (hdx:(x == ("__debug__":Str))=false) (hdy:(y == ("__debug__":Str))=false) (hcx:(x == ("__classdict__":Str))=false) (hcy:(y == ("__classdict__":Str))=false)
  (hl:SqL K H l (zs.map V.int)) (h0:0≤n) (h1:n<zs.length):
  codeAny (model P w) A (.call (.ref f) ⟨[u],[]⟩) (CR CX0 outer P w H s (fun v H'=>∃t,v=.ref t∧H t=none∧H'=upd H t (.tup [.int (keyOf zs n).1,.int (keyOf zs n).2])) E0) s:=by
 obtain⟨j,rfl⟩:=zt6 h0
 have hj:j<zs.length:=by omega
 refine dF S hr e0 hf hc hcl fcl rv rl hb (t:=_) (rP (zc (zJ zN (yB (i:=1) rfl (Or.inr (Or.inr S.py)) hdy hcy) (yB (i:=0) rfl (Or.inl S.px) hdx hcx) (fun _ _=>rfl)) (zc (bw fc (yB (i:=0) rfl (Or.inl S.px) hdx hcx)) zp))) ?_
 refine⟨_,rfl,_,rfl,l,_,_,.int (zs.getD j 0),rfl,rfl,hl,xV ?_,_,rfl,_,rfl,(by show 2≤sizeLine;decide),fun t ht=>⟨t,rfl,ht,?_⟩⟩
 ·rw[zo0,zm9 hj,zn5,zm9 hj];rfl
 ·simp[keyOf]
def qQ (ns zs ms:List Int):Prop:=ms.Perm ns∧ms.Pairwise fun m k=>lx (keyOf zs k) (keyOf zs m)=false
theorem eH {ns zs:List Int}{vs out:List Value}(r:Vals (ns.map V.int) vs)(h:Srt vs (ns.map (keyOf zs)) out):∃ms,qQ ns zs ms∧Vals (ms.map V.int) out:=by
 obtain⟨ix,rfl,hl,hb,hp,hw⟩:=h
 have at_:∀i∈ix,at2 (ns.map (keyOf zs)) i=keyOf zs (ns.getD i 0):=fun i hi=>by
  have:=hb i hi
  rw[zm6] at this
  unfold at2
  rw[zn5,zo0,zm9 this,zn5,zm9 this];rfl
 have em:ix.map (at2 (ns.map (keyOf zs)))=(ix.map fun i=>ns.getD i 0).map (keyOf zs):=by
  rw[List.map_map]
  exact List.map_congr_left at_
 rw[em] at hp hw
 have inv:∀l:List Int,(l.map (keyOf zs)).map (fun q=>-q.2)=l:=fun l=>by
  rw[List.map_map]
  have:((fun q:Int×Int=>-q.2)∘keyOf zs)=id:=by funext n;simp[keyOf]
  rw[this,List.map_id]
 refine⟨ix.map fun i=>ns.getD i 0,⟨?_,List.pairwise_map.mp hw⟩,?_⟩
 ·have:=hp.map (fun q=>-q.2)
  rwa [inv,inv] at this
 ·clear em hp hw hl
  induction ix with
  |nil=>exact .nil
  |cons i ix ih=>
   refine .cons ?_ (ih (fun k hk=>hb k (zn6 _ hk)) fun k hk=>at_ k (zn6 _ hk))
   have hi:=hb i zo5
   rw[zm6] at hi
   refine pG r i _ ?_
   show _=some (V.int (ns.getD i 0))
   rw[zo0,zm9 hi,zn5,zm9 hi];rfl
theorem xU {K:PySem.W.Frag}{H H':Hp}{a:Addr}{xs:List V}(h:SqL K H a xs)(k:∀a o,(∀ps,o≠.tbl ps)→H a=some o→H' a=some o):SqL K H' a xs:=by
 rcases h with (h|⟨o,h⟩)|h
 ·exact .inl (.inl (k _ _ (fun _ z=>by cases z) h))
 ·exact .inl (.inr ⟨o,k _ _ (fun _ z=>by cases z) h⟩)
 ·exact .inr h
theorem ni {ta:TE}{j k:Nat}{c:Addr}(S:xJ x y params scope)(hr:zE (k+2) X.A)(hg:Gl X "sorted")(hm:X.mg "sorted"=none)(hN:X.N[j]?=some y)(hy:X.env.scope.names.lookup y=some .cell)
  (hcl:∀cl,X.env.cells.lookup y=some cl→closureFor scope X.env=pure [(y,cl)]) (hgl:X.env.globals=mainGlobals) (hco:X.env.code=.ref c) (hhd:PySem.W.CodeHd X.base c yh) (hbi:X.base.BuiltinsAt X.mg yh) (hdf:defaultsOf params X.env=([],[])) (hq:X.env.qual++("<lambda>":Str)=xk) (hne:mainGlobals≠yh)
  (hb:∀u cl c' pm ctv,bindArgs (PySem.W.kla_fn "<lambda>" xk params (pairE x y n1 p1 p2 p3 p4 p5 p6) scope [(y,cl)] pm (.ref c') ctv) ⟨[u],[]⟩=pure [(x,u)])
  (hdx:(x == ("__debug__":Str))=false) (hdy:(y == ("__debug__":Str))=false) (hcx:(x == ("__classdict__":Str))=false) (hcy:(y == ("__classdict__":Str))=false) (ha:PE X a ta)
  (he:starEach [a] X.env=(false,eval a X.env)::starEach [] X.env:=by rfl) (he2:backTo pos (starEach [a] X.env)=(false,eval a X.env)::backTo pos (starEach [] X.env):=by rfl) (hpl:((backTo pos (starEach [a] X.env)).any fun x=>x.1)=false:=by rfl):
  PE X (.Call (.Name "sorted" p) [a] [⟨some "key",.Lambda params (pairE x y n1 p1 p2 p3 p4 p5 p6) scope lpos,kpos⟩] pos)
   (fun σ H Q=>ta σ H fun v H1=>∃l ns lp zs,v=.ref l∧SqL X.K H1 l (ns.map V.int)∧σ[j]?=some (some (.ref lp))∧SqL X.K H1 lp (zs.map V.int)∧ns.length<64∧(∀n∈ns,0≤n∧n<zs.length)∧TabAt H1∧
    ∀D H' ms,H1 D=none→H' D=some (.lst (ms.map V.int))→qQ ns zs ms→TabAt H'→(∀a o,a≠yh→H1 a=some o→H' a=some o)→Q (.ref D) H'):=by
 intro pins s σ H Q I h
 refine zt0 (xF I hg hm boot_sorted ?_)
 let Pd:V→Hp→Prop:=fun v H1=>∃l ns lp zs,v=.ref l∧SqL X.K H1 l (ns.map V.int)∧σ[j]?=some (some (.ref lp))∧SqL X.K H1 lp (zs.map V.int)∧ns.length<64∧(∀n∈ns,0≤n∧n<zs.length)∧TabAt H1∧
    ∀D H' ms,H1 D=none→H' D=some (.lst (ms.map V.int))→qQ ns zs ms→TabAt H'→(∀a o,a≠yh→H1 a=some o→H' a=some o)→Q (.ref D) H'
 refine callWith_kw (thn (zc ha zp he pos pins s σ H (fun vs H1=>match vs with|[v]=>Pd v H1|_=>False) I h) fun us s1 ⟨vs,H1,I1,r1,q1⟩=>?_) he2 hpl
 match vs,r1,q1 with
 |[v],r1,q1=>
  obtain⟨u,rfl,ru⟩:=vals1 r1
  obtain⟨l,ns,lp,zs,rfl,hS,hσ,hZ,h64,hin,T,q⟩:=(show Pd v H1 from q1)
  obtain⟨m,hn,hl⟩:=id I1.loc
  obtain⟨ul,rl,lk⟩:=hl j y _ hN hσ (.inr (.inl hy))
  obtain⟨cl,ecl,hcell⟩:∃cl,X.env.cells.lookup y=some cl∧s1.heap.IsCell cl (some ul):=by
   rcases lk with ⟨z,_⟩|⟨_,cl,z1,z2⟩
   ·have z:X.env.scope.names.lookup y=some .local:=z
    rw[hy] at z;cases z
   ·exact⟨cl,z1,z2⟩
  show wpAny _ _ (evalAll ((do let v ←eval (.Lambda params (pairE x y n1 p1 p2 p3 p4 p5 p6) scope lpos) X.env;standAt pos;pure v)::[])) _ _ s1
  refine wpAny_evalAll_cons (zm4 (eM I1 (hcl cl ecl) hgl hco hhd hbi hdf hq hne T fun f c' H2 s2 I2 T2 st2 tb2 hf hlam hcode=>zm4 (zx1 (zm7 (wpAny_evalAll_nil ?_)))))
  cases ru
  show wpAny _ _ (call (.builtin "sorted") [.ref l] [("key",.ref f)]) _ _ s2
  have st3:∀a o,(∀ps,o≠.tbl ps)→H1 a=some o→H2 a=some o:=fun a o no e=>st2 a o (fun z=>by
   obtain⟨ps,t1,_⟩:=T.ex
   rw[z,t1] at e;cases e;exact no _ rfl) e
  have S2:=xU hS st3
  have Z2:=xU hZ st3
  obtain⟨its,r,ht,hz⟩:=I2.list S2
  have lenI:its.length=ns.length:=by rw[←r.length,zm6]
  refine qh (ps:=ns.map (keyOf zs)) I2 ht.isList (by rw[zm6];exact lenI) (by omega) (fun i v hv H3 s3 I3 st3=>?_) fun D out H' s' c0 lD so I' st e fD fp=>?_
  ·have hi:i<ns.length:=by rw[←lenI];exact (zm8.mp hv).1
   have rv:RelV (.int ns[i]) v:=by
    have:=pG r i (.int ns[i]) (by rw[zo0,zm9 hi];rfl)
    rwa [zn5,hv] at this
   obtain⟨m3,hn3,hl3⟩:=id I3.loc
   obtain⟨ul3,rl3,lk3⟩:=hl3 j y _ hN hσ (.inr (.inl hy))
   have cell3:s3.heap.IsCell cl (some ul3):=by
    rcases lk3 with ⟨z,_⟩|⟨_,cl3,z1,z2⟩
    ·have z:X.env.scope.names.lookup y=some .local:=z
     rw[hy] at z;cases z
    ·rw[ecl] at z1;cases z1;exact z2
   have hb3:=hin ns[i] (zy9 hi)
   have ek:at2 (ns.map (keyOf zs)) i=keyOf zs ns[i]:=by
    unfold at2
    rw[zn5,zo0,zm9 hi];rfl
   rw[ek]
   have Z3:=xU Z2 fun a o _ e=>st3 a o e
   refine zw0 (zw6 (eR S hr.in1.in1 I3.env0.in1.in1 (st3 _ _ hlam) (st3 _ _ hcode) cell3 (I3.freeC y cl ecl) rv rl3 (fun pm ctv=>hb _ _ _ pm ctv) hdx hdy hcx hcy Z3 hb3.1 hb3.2) fun rr s4 hq4=>?_)
   cases rr with
   |error e=>exact False.elim hq4
   |ok fl=>
    cases fl with
    |next=>exact False.elim hq4
    |brk=>exact False.elim hq4
    |cont=>exact False.elim hq4
    |ret u4=>
     obtain⟨v4,H4,os,bare,un,hok,r4,t,rfl,ht4,eH4⟩:=hq4
     cases r4
     obtain⟨hh,g,d,tk,os'⟩:=s4
     obtain rfl:os'=s3.os:=os
     refine⟨t,H4,rfl,I3.call (h':=hh) (g':=g) (d':=d) (t':=tk) (ch:=[]) un hok bare (fun b z=>absurd z (by simp)),fun a o e=>?_,by rw[eH4];exact zf,fun b o e n nf=>⟨un.keep b o e n nf (by simp),un.free b o e n (by simp)⟩⟩
     rw[eH4,zd (zk e ht4)];exact e
  ·obtain⟨ms,sm,rm⟩:=eH r so
   have nD:∀a o,H' a=some o→a≠D:=fun a o e z=>by rw[z,fD] at e;cases e
   have h2D:H2 D=none:=I2.hok.fresh lD
   have stD:∀a o,H2 a=some o→upd H' D (.lst (ms.map V.int)) a=some o:=fun a o e=>by rw[zd (nD a o (st a o e))];exact st a o e
   refine⟨.ref D,upd H' D (.lst (ms.map V.int)),I'.adopt fp ⟨?_,out,c0,rm,e⟩,rfl,q D _ ms ?_ zf sm (T2.same fun a o _ e=>stD a o e) fun a o no e=>stD a o (st2 a o no e)⟩
   ·rw[zm6,sm.1.length_eq,zq0];omega
   ·cases z:H1 D with
    |none=>rfl
    |some o=>
     by_cases nt:∀ps,o≠.tbl ps
     ·rw[st3 D o nt z] at h2D;cases h2D
     ·simp only[Classical.not_forall,Classical.not_not] at nt
      obtain⟨qs,rfl⟩:=nt
      obtain⟨qs',w'⟩:=tb2 D qs z
      rw[w'] at h2D;cases h2D
end
section
variable {X:Cx}{α:Ev}{p q pos:Pos}{a b:Expr}
theorem tD {G:Hp}:∀ns:List Int,AVs G (ns.map V.int) (ns.map .int)
 |[]=>.nil
 |n::ns=>.cons (.int n) (tD ns)
theorem iH {Q:List PyData→Prop}(hc:X.calm=true)(hg:Gl X "list")(hm:X.mg "list"=none)(hg2:Gl X "range")(hm2:X.mg "range"=none)(h:EvD X α a fun x=>EvD X α b fun y=>∃i j,x=.int i∧y=.int j∧(-(2 ^ 62)≤i∧i<2 ^ 62∧-(2 ^ 62)≤j∧j<2 ^ 62)∧(j-i).toNat≤1000∧Q ((zw i (j-i).toNat).map .int))
  (he:starEach [.Call (.Name "range" q) [a,b] [] p] X.env=(false,eval (.Call (.Name "range" q) [a,b] [] p) X.env)::starEach [] X.env:=by rfl) (he2:starEach [a,b] X.env=(false,eval a X.env)::starEach [b] X.env:=by rfl) (he3:starEach [b] X.env=(false,eval b X.env)::starEach [] X.env:=by rfl)
  (hpl:(backTo p (starEach [b] X.env)).any (·.1)=false:=by rfl) {p0:Pos}:EvL X α (.Call (.Name "list" p0) [.Call (.Name "range" q) [a,b] [] p] [] pos) Q:=fun F σ H R m k=>by
 refine⟨_,wN (sE hc) hg hm boot_list (zc (wN pB hg2 hm2 boot_range (zc zl (zc zl zp he3) he2) (he:=he2) (hpl:=hpl)) zp he) (he:=he),?_⟩
 refine h F σ H _ m fun x vx H1 q1 t1 k1 r1=>?_
 have m1:=m.kz k1 t1
 refine q1 F σ H1 _ m1 fun y vy H2 q2 t2 k2 r2=>?_
 have m2:=m1.kz k2 t2
 obtain⟨i,j,rfl,rfl,⟨b1,b2,b3,b4⟩,hz,q⟩:=q2
 cases r1.int_inv;cases r2.int_inv
 refine⟨i,j,rfl,fun r hr=>?_⟩
 refine⟨r,i,j,rfl,zf,⟨b1,b2,b3,b4⟩,zt3 (yK hz),by omega,fun l hl=>?_⟩
 have nlr:l≠r:=fun z=>by rw[z,zf] at hl;cases hl
 have hl':H2 l=none:=by rw[zd nlr] at hl;exact hl
 have kk:=k1.trans k2
 have s1:zx H2 (upd (upd H2 r (.rng i j)) l (.lst ((zw i (j-i).toNat).map V.int))):=(ym hr).trans (ym hl)
 refine k _ _ _ q (t2.same s1) (kk.trans (Kz.of_same s1)) ⟨l,_,rfl,?_,zf,tD _⟩
 cases z:H l with
 |none=>rfl
 |some o=>rw[kk l o z (m.tp.nt (ow0 (m2.fresh hl')))] at hl';cases hl'
end
section
variable {X:Cx}{α:Ev}{p pos:Pos}{a b:Expr}{Q:PyData→Prop}
end
theorem AVs.ints {H:Hp}:∀{xs:List V} {ns:List Int},AVs H xs (ns.map .int)→xs=ns.map V.int
 |_,[],.nil=>rfl
 |_,n::ns,.cons h hs=>by rw[zp8,AVs.ints hs,h.int_inv]
section
variable {X:Cx}{α:Ev}{a:Expr}{p pos kpos lpos p1 p2 p3 p4 p5 p6:Pos}{n1:Nat}{x y:Str}{params:Arguments}{scope:Scope}
structure il (X:Cx)(c:Addr)(x y:Str)(n1:Nat)(p1 p2 p3 p4 p5 p6:Pos)(params:Arguments)(scope:Scope):Prop where
 S:xJ x y params scope
 hy:X.env.scope.names.lookup y=some .cell
 hcl:∀cl,X.env.cells.lookup y=some cl→closureFor scope X.env=pure [(y,cl)]
 hgl:X.env.globals=mainGlobals
 hco:X.env.code=.ref c
 hhd:PySem.W.CodeHd X.base c yh
 hbi:X.base.BuiltinsAt X.mg yh
 hdf:defaultsOf params X.env=([],[])
 hq:X.env.qual++("<lambda>":Str)=xk
 hne:mainGlobals≠yh
 hb:∀u cl c' pm ctv,bindArgs (PySem.W.kla_fn "<lambda>" xk params (pairE x y n1 p1 p2 p3 p4 p5 p6) scope [(y,cl)] pm (.ref c') ctv) ⟨[u],[]⟩=pure [(x,u)]
 hdx:(x == ("__debug__":Str))=false
 hdy:(y == ("__debug__":Str))=false
 hcx:(x == ("__classdict__":Str))=false
 hcy:(y == ("__classdict__":Str))=false
theorem oR {j k:Nat}{c:Addr}{Q:List PyData→Prop}(T:il X c x y n1 p1 p2 p3 p4 p5 p6 params scope)(hr:zE (k+2) X.A)(hg:Gl X "sorted")(hm:X.mg "sorted"=none)(hN:X.N[j]?=some y)
  (h:EvD X α a fun d=>∃ns zs:List Int,d=.list (ns.map .int)∧α[j]?=some (some (.dat (.list (zs.map .int))))∧ns.length<64∧(∀n∈ns,0≤n∧n<zs.length)∧∀ms,qQ ns zs ms→Q (ms.map .int))
  (he:starEach [a] X.env=(false,eval a X.env)::starEach [] X.env:=by rfl) (he2:backTo pos (starEach [a] X.env)=(false,eval a X.env)::backTo pos (starEach [] X.env):=by rfl) (hpl:((backTo pos (starEach [a] X.env)).any fun x=>x.1)=false:=by rfl):
  EvL X α (.Call (.Name "sorted" p) [a] [⟨some "key",.Lambda params (pairE x y n1 p1 p2 p3 p4 p5 p6) scope lpos,kpos⟩] pos) Q:=fun F σ H R m k=>by
 refine⟨_,ni (j:=j) T.S hr hg hm hN T.hy T.hcl T.hgl T.hco T.hhd T.hbi T.hdf T.hq T.hne T.hb T.hdx T.hdy T.hcx T.hcy zl he he2 hpl,?_⟩
 refine h F σ H _ m fun d vx H1 q1 t1 k1 r1=>?_
 have m1:=m.kz k1 t1
 obtain⟨ns,zs,rfl,hz,h64,hin,q⟩:=q1
 obtain⟨l,xs,rfl,g1,g2⟩:=r1.lst_inv
 obtain⟨v,s1,s2⟩:=m1.dat j _ hz
 obtain⟨lp,ys,rfl,g3,g4⟩:=s2.lst_inv
 cases g2.ints;cases g4.ints
 refine⟨l,ns,lp,zs,rfl,SqL.of (zj g1).2,s1,SqL.of (zj g3).2,h64,hin,t1.tab,fun D H' ms hD hD' sm tb kp=>?_⟩
 have tl:∀a xs,H1 a=some (.lst xs)→H' a=some (.lst xs):=fun a xs e=>kp a _ (fun z=>by
  obtain⟨ps,e1,_⟩:=t1.tab.ex
  rw[z,e1] at e;cases e) e
 have kz:Kz F H1 H':=fun x o e n=>kp x o n.2 e
 refine k _ _ H' (q ms sm) ⟨tb,t1.ot,fun t b c e=>⟨?_,(t1 t b c e).2⟩⟩ (k1.trans kz) ⟨D,_,rfl,?_,hD',tD _⟩
 ·obtain⟨n,bs,cs,n1,e1,e2,e3,l1,l2⟩:=(t1 t b c e).1.ex
  exact⟨n,bs,cs,n1,tl _ _ e1,tl _ _ e2,tl _ _ e3,l1,l2⟩
 ·cases z:H D with
  |none=>rfl
  |some o=>rw[k1 D o z (m.tp.nt (ow0 (m1.fresh hD)))] at hD;cases hD
end
section
variable {P:Program}{w:World}{K:PySem.W.Frag}{mg:Str→Option Value}{base:Heap}
theorem zj4 {x qual:Str}{st:Stmt}{f:Addr}{N ps:List Str}{k:Nat}{φ:List A→(A→Prop)→Prop}{oc:Value}{od an:Option Addr}{osl:Array (Option Value)}{kV doc pm cdv ct:Value}
  (lk:K.lookup f=some ⟨oc,od,.func (PySem.W.fnOf x qual (zH st) (zv st) (zb st) .none kV doc pm an cdv ct),osl⟩) (hcd:PySem.W.codeIn K cdv qual=true) (S:zo N ps (zb st)) (hlen:∀as Q,φ as Q→as.length=ps.length)
  (hbody:∀(A':Around) (outer:List Env) (s:Shared) (H:Hp) (E:XK) (as:List A) (Q:A→Prop),zE k (A'.deeper (envOfC qual (zb st) s.heap.objs.size f cdv))→φ as Q→
   SvS (yV CX0 P w K mg base N qual (zb st) f cdv A' outer s H E).nox (as.map some++List.replicate (N.length-as.length) none) (zv st) {nx:=fun _=>Q (.dat .none),rt:=Q}):zy P w K mg base CX0 (k+1) f (PySem.W.fnOf x qual (zH st) (zv st) (zb st) .none kV doc pm an cdv ct) ps (spA φ):=by
 refine lG lk hcd S (fun vs H Q E h=>?_) (fun A' outer s H vs Qc E hr h=>?_)
 ·obtain⟨F,as,Q',_,_,_,rv,hφ,_⟩:=h
  rw[rv.length,hlen as _ hφ]
 ·obtain⟨F,as,Q',e,t,o,rv,hφ,kk⟩:=h
  have:=hbody A' outer s H E as Q' hr hφ F _ H {nx:=fun _ H'=>Qc .non H',rt:=Qc} (M.start e t o rv) ⟨fun α σ H' m q=>?_,fun a v H' r q=>kk a v H' q r,fun _ _ _ _ z=>z.elim,fun _ _ _ _ z=>z.elim⟩
  ·obtain⟨t,h,q⟩:=this
   exact⟨t,h.nox,q⟩
  ·exact kk _ _ _ q ⟨m.tp,m.keep,.non⟩
end
section
variable {X:Cx}{α:Ev}{Q:PyData→Prop}{a b:Expr}{pos:Pos}
end
theorem pz (c:Int)(n:Nat):zw c (n+1)=zw c n++[c+(n:Nat)]:=by
 simp[zw,List.range_succ]
theorem yS {c m:Int}{n:Nat}:m∈zw c n↔c≤m∧m<c+n:=by
 simp only[zw,List.mem_map,List.mem_range]
 constructor
 ·rintro⟨i,hi,rfl⟩;omega
 ·rintro⟨h1,h2⟩;exact⟨(m-c).toNat,by omega,by omega⟩
theorem rk (c:Int):∀n:Nat,(zw c n).Nodup
 |0=>by simp[zw]
 |n+1=>by
  rw[pz,List.nodup_append]
  refine⟨rk c n,by simp,?_⟩
  intro a ha b hb
  rw[yS] at ha
  simp at hb
  omega
def qJ (zs:List Int)(many free i:Nat)(bs:List Bool):Prop:=
 bs.length=zs.length∧(∀j,i / many*many≤j→bs.getD j false=false)∧∀k,k<i / many→∃ms:List Int,qQ (zw ((k*many:Nat):Int) many) zs ms∧∀q,q<many→bs.getD (ms.getD q 0).toNat false=decide (q<free)
theorem kY (zs:List Int){many:Nat}(free:Nat):qJ zs many free 0 (List.replicate zs.length false):=by
 refine⟨by simp,fun j _=>?_,fun k hk=>?_⟩
 ·rw[zn5,zs3]
  split<;>rfl
 ·rw[Nat.zero_div] at hk;omega
theorem tM {i many:Nat}(h:0<many)(h1:i % many+1<many):(i+1) / many=i / many∧(i+1) % many=i % many+1:=by
 have e:=zx8 i many
 have e2:i+1=(i % many+1)+many*(i / many):=by omega
 constructor
 ·rw[e2,Nat.add_mul_div_left _ _ h,Nat.div_eq_of_lt h1,Nat.zero_add]
 ·rw[e2,Nat.add_mul_mod_self_left,Nat.mod_eq_of_lt h1]
theorem pJ {i many:Nat}(h:0<many)(h1:i % many+1=many):(i+1) / many=i / many+1∧(i+1) % many=0∧(i / many+1)*many=i+1:=by
 have e:=zx8 i many
 have e3:many*(i / many+1)=i+1:=by rw[Nat.mul_add,Nat.mul_one];omega
 refine⟨?_,?_,?_⟩
 ·rw[←e3,Nat.mul_div_cancel_left _ h]
 ·rw[←e3,Nat.mul_mod_right]
 ·rw[Nat.mul_comm];exact e3
theorem jE {zs:List Int}{many free i:Nat}{bs:List Bool}(h:0<many)(h1:i % many+1<many)(m:qJ zs many free i bs):qJ zs many free (i+1) bs:=by
 unfold qJ at *
 rw[(tM h h1).1]
 exact m
theorem vA {lo:Int}{n:Nat}{zs ms:List Int}(s:qQ (zw lo n) zs ms){q:Nat}(h:q<n):lo≤ms.getD q 0∧ms.getD q 0<lo+n:=by
 have hl:ms.length=n:=by rw[s.1.length_eq,zh]
 have:ms.getD q 0∈ms:=by
  rw[zn5,zm9 (by omega)]
  exact zy9 _
 exact yS.mp (s.1.mem_iff.mp this)
theorem js {zs ms:List Int}{many free i:Nat}{bs bs':List Bool}(h:0<many)(h1:i % many+1=many)(m:qJ zs many free i bs)(s:qQ (zw ((i / many*many:Nat):Int) many) zs ms)
  (e0:bs'.length=bs.length) (e1:∀q,q<many→bs'.getD (ms.getD q 0).toNat false=decide (q<free)) (e2:∀j,(∀q,q<many→(ms.getD q 0).toNat≠j)→bs'.getD j false=bs.getD j false):qJ zs many free (i+1) bs':=by
 obtain⟨d1,d2,d3⟩:=pJ h h1
 obtain⟨m1,m2,m3⟩:=m
 refine⟨by rw[e0,m1],fun j hj=>?_,fun k hk=>?_⟩
 ·rw[d1,d3] at hj
  have e:=zx8 i many
  have e4:i / many*many=many*(i / many):=Nat.mul_comm _ _
  rw[e2 j fun q hq=>?_,m2 j (by omega)]
  have:=vA s hq
  omega
 ·rw[d1] at hk
  by_cases hk2:k=i / many
  ·subst hk2
   exact⟨ms,s,e1⟩
  ·obtain⟨ms2,s2,f2⟩:=m3 k (by omega)
   refine⟨ms2,s2,fun q hq=>?_⟩
   rw[e2 _ fun q2 hq2=>?_,f2 q hq]
   have a1:=vA s hq2
   have a2:=vA s2 hq
   have:(k+1)*many≤i / many*many:=Nat.mul_le_mul_right _ (by omega)
   rw[Nat.add_mul,Nat.one_mul] at this
   omega
open PySem (IsZip)
section
variable {prog:Program}{w:World}{A:Around}{E:Value→Shared→Prop}{s:Shared}
theorem qT {M:Model}{a:Addr}{Q:Option Obj→Shared→Prop}(h:Q (s.heap.get? a) s):wpAny M A (loadIfAlive a) Q E s:=fun Γ p hΓ=>by
 show Sem.wp M Γ (.loadIfAlive a .pure) _ _ p s
 rw[Sem.wp_loadIfAlive]
 exact h
abbrev zO (f0 f1:Value)(TI TO:Addr):Obj:={cls:=.type "zip",dict:=none,data:=.fields #[f0,f1,.bool false,.ref TI,.ref TO],slots:=#[]}
abbrev tO3 (a b c:Value):Obj:={cls:=.type "tuple",data:=.seq #[a,b,c]}
theorem xC {T:Addr}{a b c x:Value}{k:Nat}{Q:Unit→Shared→Prop}(hT:s.heap.get? T=some (tO3 a b c))
  (h:∀h',h'.get? T=some {cls:=.type "tuple",data:=.seq ((#[a,b,c]:Array Value).setIfInBounds k x)}→Heap.SameBut T s.heap h'→Q () {s with heap:=h'}):
  wpAny (model prog w) A (updateSeq T (·.setIfInBounds k x)) Q E s:=by
 refine zx9 hT rfl (h _ ?_ (zx4 ..))
 rw[zr4 _ hT rfl]
 simp[Obj.mapSeq]
structure we (h:Heap)(n:Nat)(l1 l2 l3:Addr)(k:Nat)(f0 f1 a b c:Value):Prop where
 z:h.get? (n+5:Nat)=some (zO f0 f1 (n+3:Nat) (n+4:Nat))
 ti:h.get? (n+3:Nat)=some (tO3 (.ref (n:Nat)) (.ref (n+1:Nat)) (.ref (n+2:Nat)))
 to:h.get? (n+4:Nat)=some (tO3 a b c)
 i1:h.IsListIter (n:Nat) l1 k
 i2:h.IsListIter (n+1:Nat) l2 k
 i3:h.IsListIter (n+2:Nat) l3 k
abbrev z3 (n:Nat):List Addr:=[(n:Nat),(n+1:Nat),(n+2:Nat),(n+3:Nat),(n+4:Nat),(n+5:Nat)]
theorem zq (a b:Nat)(h:a<b∨b<a):@Ne Addr a b:=fun e=>by
 have e:@Eq Nat a b:=e
 omega
theorem mh {n l1 l2 l3:Nat}{k:Nat}{f1 a b c x y z:Value}{xs ys zs:Array Value}{Q:Value→Shared→Prop}(h1:l1<n)(h2:l2<n)(h3:l3<n)(Z:we s.heap n l1 l2 l3 k .none f1 a b c)
  (hl1:s.heap.IsList l1 xs) (hl2:s.heap.IsList l2 ys) (hl3:s.heap.IsList l3 zs) (hx:xs[k]?=some x) (hy:ys[k]?=some y) (hz:zs[k]?=some z)
  (hQ:∀h',we h' n l1 l2 l3 (k+1) (rawInt s.heap.objs.size) (.bool false) x y z→h'.get? s.heap.objs.size=some (tO3 x y z)→
   (∀c o,c∉z3 n→s.heap.get? c=some o→h'.get? c=some o)→Q (.ref s.heap.objs.size) {s with heap:=h'}):
  wpAny (model prog w) A (Builtin.«zip.__next__» ⟨[.ref (n+5:Nat)],[]⟩) (fun fin s'=>∃v,fin=.done (.ret v)∧Q v s') E s:=by
 obtain⟨hz0,hTI,hTO,g1,g2,g3⟩:=Z
 show wpAny _ _ (field (.ref _) 2 >>= _) _ _ _
 refine zm4 (zr6 hz0 rfl (x:=.bool false) rfl ?_)
 show wpAny _ _ (field (.ref _) 3 >>= _) _ _ _
 refine zm4 (zr6 hz0 rfl (x:=.ref (n+3:Nat)) rfl ?_)
 refine zm4 (zt7 hTI rfl ?_)
 show wpAny _ _ (Builtin.SmallTypes.ownedTupleIsFree (.ref (n+5:Nat)) >>= _) _ _ _
 refine zm4 ?_
 unfold Builtin.SmallTypes.ownedTupleIsFree
 refine zm4 (zr6 hz0 rfl (x:=.none) rfl (zm7 ?_))
 simp only[if_true]
 refine zm4 (wpAny_rule ?_)
 refine zm4 (zr6 hz0 rfl (x:=.ref (n+4:Nat)) rfl ?_)
 refine zm4 (zy1 hz0 (by simp) fun h₁ hz₁ hs₁=>?_)
 replace hz₁:h₁.get? (n+5:Nat)=some (zO .ellipsis f1 (n+3:Nat) (n+4:Nat)):=hz₁
 refine zm4 ?_
 simp only[List.zipIdx_cons,List.zipIdx_nil,zx6,zA3]
 refine zm4 (zm4 (wpAny_onRaise ?_))
 show wpAny _ _ (Builtin.SmallTypes.nextOf (.ref (n:Nat)) >>= _) _ _ _
 refine zm4 (zs5 (g1.extBut hs₁.extBut (by refine zq _ _ ?_;omega)) (hl1.extBut hs₁.extBut (by refine zq _ _ ?_;omega)) hx fun h₂ g1₂ hs₂=>zm7 ?_)
 have hTO₂:h₂.get? (n+4:Nat)=some (tO3 a b c):=hs₂.extBut _ _ (by refine zq _ _ ?_;omega) (hs₁.extBut _ _ (by refine zq _ _ ?_;omega) hTO)
 refine zm4 (zt7 hTO₂ rfl ?_)
 refine zm4 (xC hTO₂ fun h₃ hTO₃ hs₃=>?_)
 replace hTO₃:h₃.get? (n+4:Nat)=some (tO3 x b c):=hTO₃
 refine zm4 (wpAny_letGo (zm7 ?_))
 refine zm4 (zm4 (wpAny_onRaise ?_))
 show wpAny _ _ (Builtin.SmallTypes.nextOf (.ref (n+1:Nat)) >>= _) _ _ _
 refine zm4 (zs5 (((g2.extBut hs₁.extBut (by refine zq _ _ ?_;omega)).extBut hs₂.extBut (by refine zq _ _ ?_;omega)).extBut hs₃.extBut (by refine zq _ _ ?_;omega))
  (((hl2.extBut hs₁.extBut (by refine zq _ _ ?_;omega)).extBut hs₂.extBut (by refine zq _ _ ?_;omega)).extBut hs₃.extBut (by refine zq _ _ ?_;omega)) hy fun h₄ g2₄ hs₄=>zm7 ?_)
 have hTO₄:h₄.get? (n+4:Nat)=some (tO3 x b c):=hs₄.extBut _ _ (by refine zq _ _ ?_;omega) hTO₃
 refine zm4 (zt7 hTO₄ rfl ?_)
 refine zm4 (xC hTO₄ fun h₅ hTO₅ hs₅=>?_)
 replace hTO₅:h₅.get? (n+4:Nat)=some (tO3 x y c):=hTO₅
 refine zm4 (wpAny_letGo (zm7 ?_))
 refine zm4 (zm4 (wpAny_onRaise ?_))
 show wpAny _ _ (Builtin.SmallTypes.nextOf (.ref (n+2:Nat)) >>= _) _ _ _
 refine zm4 (zs5 (((((g3.extBut hs₁.extBut (by refine zq _ _ ?_;omega)).extBut hs₂.extBut (by refine zq _ _ ?_;omega)).extBut hs₃.extBut (by refine zq _ _ ?_;omega)).extBut hs₄.extBut (by refine zq _ _ ?_;omega)).extBut hs₅.extBut (by refine zq _ _ ?_;omega))
  (((((hl3.extBut hs₁.extBut (by refine zq _ _ ?_;omega)).extBut hs₂.extBut (by refine zq _ _ ?_;omega)).extBut hs₃.extBut (by refine zq _ _ ?_;omega)).extBut hs₄.extBut (by refine zq _ _ ?_;omega)).extBut hs₅.extBut (by refine zq _ _ ?_;omega)) hz fun h₆ g3₆ hs₆=>zm7 ?_)
 have hTO₆:h₆.get? (n+4:Nat)=some (tO3 x y c):=hs₆.extBut _ _ (by refine zq _ _ ?_;omega) hTO₅
 refine zm4 (zt7 hTO₆ rfl ?_)
 refine zm4 (xC hTO₆ fun h₇ hTO₇ hs₇=>?_)
 replace hTO₇:h₇.get? (n+4:Nat)=some (tO3 x y z):=hTO₇
 refine zm4 (wpAny_letGo (zm7 (zm7 ?_)))
 refine zm4 (zt7 hTO₇ rfl ?_)
 refine zm4 (wpAny_newTuple ?_)
 have hsz:h₇.objs.size=s.heap.objs.size:=by rw[hs₇.1,hs₆.1,hs₅.1,hs₄.1,hs₃.1,hs₂.1,hs₁.1]
 have up7:∀c o,c≠(n+5:Nat)→c≠(n:Nat)→c≠(n+4:Nat)→c≠(n+1:Nat)→c≠(n+2:Nat)→s.heap.get? c=some o→h₇.get? c=some o:=fun c o c1 c2 c3 c4 c5 e=>
  hs₇.extBut _ _ c3 (hs₆.extBut _ _ c5 (hs₅.extBut _ _ c3 (hs₄.extBut _ _ c4 (hs₃.extBut _ _ c3 (hs₂.extBut _ _ c2 (hs₁.extBut _ _ c1 e))))))
 have hz₇:h₇.get? (n+5:Nat)=some (zO .ellipsis f1 (n+3:Nat) (n+4:Nat)):=hs₇.extBut _ _ (by refine zq _ _ ?_;omega) (hs₆.extBut _ _ (by refine zq _ _ ?_;omega) (hs₅.extBut _ _ (by refine zq _ _ ?_;omega) (hs₄.extBut _ _ (by refine zq _ _ ?_;omega) (hs₃.extBut _ _ (by refine zq _ _ ?_;omega) (hs₂.extBut _ _ (by refine zq _ _ ?_;omega) hz₁)))))
 have g1₇:h₇.IsListIter (n:Nat) l1 (k+1):=((((g1₂.extBut hs₃.extBut (by refine zq _ _ ?_;omega)).extBut hs₄.extBut (by refine zq _ _ ?_;omega)).extBut hs₅.extBut (by refine zq _ _ ?_;omega)).extBut hs₆.extBut (by refine zq _ _ ?_;omega)).extBut hs₇.extBut (by refine zq _ _ ?_;omega)
 have g2₇:h₇.IsListIter (n+1:Nat) l2 (k+1):=((g2₄.extBut hs₅.extBut (by refine zq _ _ ?_;omega)).extBut hs₆.extBut (by refine zq _ _ ?_;omega)).extBut hs₇.extBut (by refine zq _ _ ?_;omega)
 have g3₇:h₇.IsListIter (n+2:Nat) l3 (k+1):=g3₆.extBut hs₇.extBut (by refine zq _ _ ?_;omega)
 have hTI₇:=up7 _ _ (by refine zq _ _ ?_;omega) (by refine zq _ _ ?_;omega) (by refine zq _ _ ?_;omega) (by refine zq _ _ ?_;omega) (by refine zq _ _ ?_;omega) hTI
 have hzlt:(n+5:Nat)<h₇.objs.size:=zn1 hz₇
 show wpAny _ _ (Builtin.SmallTypes.ownedTupleHandOut (.ref (n+5:Nat)) (.ref h₇.objs.size) >>= _) _ _ _
 refine zm4 ?_
 unfold Builtin.SmallTypes.ownedTupleHandOut
 have hz₈:(h₇.push {cls:=.type "tuple",data:=.seq #[x,y,z]}).get? (n+5:Nat)=some (zO .ellipsis f1 (n+3:Nat) (n+4:Nat)):=zm5 _ hz₇
 refine zm4 (zy1 hz₈ (by simp) fun h₉ hz₉ hs₉=>?_)
 replace hz₉:h₉.get? (n+5:Nat)=some (zO (rawInt h₇.objs.size) f1 (n+3:Nat) (n+4:Nat)):=hz₉
 refine zy1 hz₉ (by simp) fun hA hzA hsA=>?_
 replace hzA:hA.get? (n+5:Nat)=some (zO (rawInt h₇.objs.size) (.bool false) (n+3:Nat) (n+4:Nat)):=hzA
 have up:∀c o,c≠(n+5:Nat)→h₇.get? c=some o→hA.get? c=some o:=fun c o c1 e=>hsA.extBut _ _ c1 (hs₉.extBut _ _ c1 (zm5 _ e))
 have hTA:hA.get? h₇.objs.size=some (tO3 x y z):=hsA.extBut _ _ (zt8 hzlt) (hs₉.extBut _ _ (zt8 hzlt) (zn8 _ rfl))
 rw[hsz] at hzA hTA
 refine zm7 ⟨_,rfl,?_⟩
 show Q (.ref h₇.objs.size) _
 rw[hsz]
 refine hQ hA ⟨hzA,up _ _ (by refine zq _ _ ?_;omega) hTI₇,up _ _ (by refine zq _ _ ?_;omega) hTO₇,g1₇.at fun o e=>up _ o (by refine zq _ _ ?_;omega) e,g2₇.at fun o e=>up _ o (by refine zq _ _ ?_;omega) e,g3₇.at fun o e=>up _ o (by refine zq _ _ ?_;omega) e⟩ hTA fun c o hc e=>?_
 simp only[z3,zn2,zo4,zq6,not_or] at hc
 exact up c o hc.2.2.2.2.2 (up7 c o hc.2.2.2.2.2 hc.1 hc.2.2.2.2.1 hc.2.1 hc.2.2.1 e)
theorem rB {n l1 l2 l3 k T:Nat}{f1 a b c:Value}{ot:Obj}{Q:Bool→Shared→Prop}(h1:l1<n)(h2:l2<n)(h3:l3<n)(Z:we s.heap n l1 l2 l3 k (rawInt (T:Nat)) f1 a b c)(hT:s.heap.get? T=some ot)
  (hQ:∀h' f1',we h' n l1 l2 l3 k (rawInt (T:Nat)) f1' a b c→h'.objs.size=s.heap.objs.size→(∀c o,c≠(n+5:Nat)→s.heap.get? c=some o→h'.get? c=some o)→Q false {s with heap:=h'}):
  wpAny (model prog w) A (Builtin.SmallTypes.ownedTupleIsFree (.ref (n+5:Nat))) Q E s:=by
 obtain⟨hz0,hTI,hTO,g1,g2,g3⟩:=Z
 unfold Builtin.SmallTypes.ownedTupleIsFree
 refine zm4 (zr6 hz0 rfl (x:=rawInt (T:Nat)) rfl ?_)
 show wpAny _ _ (loadIfAlive ((T:Int).toNat) >>= _) _ _ _
 refine zm4 (qT ?_)
 rw[show ((T:Int).toNat)=T from zy5 T,hT]
 show wpAny _ _ (field (.ref (n+5:Nat)) 1 >>= _) _ _ _
 refine zm4 (zr6 hz0 rfl (x:=f1) rfl ?_)
 refine wpAny_ite_split (fun _=>?_) (fun _=>?_)
 ·refine zm4 (zy1 hz0 (by simp) fun h₁ hz₁ hs₁=>zm7 ?_)
  replace hz₁:h₁.get? (n+5:Nat)=some (zO (rawInt (T:Nat)) (.bool true) (n+3:Nat) (n+4:Nat)):=hz₁
  exact hQ h₁ _ ⟨hz₁,hs₁.extBut _ _ (by refine zq _ _ ?_;omega) hTI,hs₁.extBut _ _ (by refine zq _ _ ?_;omega) hTO,g1.extBut hs₁.extBut (by refine zq _ _ ?_;omega),g2.extBut hs₁.extBut (by refine zq _ _ ?_;omega),g3.extBut hs₁.extBut (by refine zq _ _ ?_;omega)⟩ hs₁.1 fun c o hc e=>hs₁.extBut _ _ hc e
 ·exact zm7 (hQ s.heap f1 ⟨hz0,hTI,hTO,g1,g2,g3⟩ rfl fun _ _ _ e=>e)
theorem kh {n l1 l2 l3 k T:Nat}{f1 a b c x y z:Value}{ot:Obj}{xs ys zs:Array Value}{Q:Value→Shared→Prop}(h1:l1<n)(h2:l2<n)(h3:l3<n)(Z:we s.heap n l1 l2 l3 k (rawInt (T:Nat)) f1 a b c)(hT:s.heap.get? T=some ot)
  (hl1:s.heap.IsList l1 xs) (hl2:s.heap.IsList l2 ys) (hl3:s.heap.IsList l3 zs) (hx:xs[k]?=some x) (hy:ys[k]?=some y) (hz:zs[k]?=some z)
  (hQ:∀h' f1',we h' n l1 l2 l3 (k+1) (rawInt (T:Nat)) f1' a b c→h'.get? s.heap.objs.size=some (tO3 x y z)→
   (∀c o,c∉z3 n→s.heap.get? c=some o→h'.get? c=some o)→Q (.ref s.heap.objs.size) {s with heap:=h'}):
  wpAny (model prog w) A (Builtin.«zip.__next__» ⟨[.ref (n+5:Nat)],[]⟩) (fun fin s'=>∃v,fin=.done (.ret v)∧Q v s') E s:=by
 show wpAny _ _ (field (.ref _) 2 >>= _) _ _ _
 refine zm4 (zr6 Z.z rfl (x:=.bool false) rfl ?_)
 show wpAny _ _ (field (.ref _) 3 >>= _) _ _ _
 refine zm4 (zr6 Z.z rfl (x:=.ref (n+3:Nat)) rfl ?_)
 refine zm4 (zt7 Z.ti rfl ?_)
 show wpAny _ _ (Builtin.SmallTypes.ownedTupleIsFree (.ref (n+5:Nat)) >>= _) _ _ _
 refine zm4 (rB h1 h2 h3 Z hT fun hB f1' ZB szB kB=>?_)
 obtain⟨hz0,hTI,hTO,g1,g2,g3⟩:=ZB
 replace hl1:hB.IsList l1 xs:=hl1.at fun o e=>kB _ o (by refine zq _ _ ?_;omega) e
 replace hl2:hB.IsList l2 ys:=hl2.at fun o e=>kB _ o (by refine zq _ _ ?_;omega) e
 replace hl3:hB.IsList l3 zs:=hl3.at fun o e=>kB _ o (by refine zq _ _ ?_;omega) e
 simp only[zt1,zw4]
 rw[zA4]
 simp only[zx6,zA3]
 refine zm4 (zm4 (zm4 (zq9 ?_)))
 show wpAny _ _ (Builtin.SmallTypes.nextOf (.ref (n:Nat)) >>= _) _ _ _
 refine zm4 (zs5 g1 hl1 hx fun h₂ g1₂ hs₂=>zm7 (zm7 ?_))
 refine zm4 (zm4 (zq9 ?_))
 show wpAny _ _ (Builtin.SmallTypes.nextOf (.ref (n+1:Nat)) >>= _) _ _ _
 refine zm4 (zs5 (g2.extBut hs₂.extBut (by refine zq _ _ ?_;omega)) (hl2.extBut hs₂.extBut (by refine zq _ _ ?_;omega)) hy fun h₄ g2₄ hs₄=>zm7 (zm7 ?_))
 refine zm4 (zm4 (zq9 ?_))
 show wpAny _ _ (Builtin.SmallTypes.nextOf (.ref (n+2:Nat)) >>= _) _ _ _
 refine zm4 (zs5 ((g3.extBut hs₂.extBut (by refine zq _ _ ?_;omega)).extBut hs₄.extBut (by refine zq _ _ ?_;omega)) ((hl3.extBut hs₂.extBut (by refine zq _ _ ?_;omega)).extBut hs₄.extBut (by refine zq _ _ ?_;omega)) hz fun h₆ g3₆ hs₆=>zm7 (zm7 (zm7 ?_)))
 refine zm4 (wpAny_newTuple ?_ (by show 3≤sizeLine;decide))
 have hsz:h₆.objs.size=s.heap.objs.size:=by rw[hs₆.1,hs₄.1,hs₂.1];exact szB
 have up6:∀c o,c≠(n:Nat)→c≠(n+1:Nat)→c≠(n+2:Nat)→hB.get? c=some o→h₆.get? c=some o:=fun c o c1 c2 c3 e=>hs₆.extBut _ _ c3 (hs₄.extBut _ _ c2 (hs₂.extBut _ _ c1 e))
 have up:∀c o,h₆.get? c=some o→(h₆.push {cls:=.type "tuple",data:=.seq #[x,y,z]}).get? c=some o:=fun c o e=>zm5 _ e
 have g1₆:h₆.IsListIter (n:Nat) l1 (k+1):=(g1₂.extBut hs₄.extBut (by refine zq _ _ ?_;omega)).extBut hs₆.extBut (by refine zq _ _ ?_;omega)
 have g2₆:h₆.IsListIter (n+1:Nat) l2 (k+1):=g2₄.extBut hs₆.extBut (by refine zq _ _ ?_;omega)
 refine zm7 ⟨_,rfl,?_⟩
 show Q (.ref h₆.objs.size) _
 rw[hsz]
 refine hQ _ f1' ⟨up _ _ (up6 _ _ (by refine zq _ _ ?_;omega) (by refine zq _ _ ?_;omega) (by refine zq _ _ ?_;omega) hz0),up _ _ (up6 _ _ (by refine zq _ _ ?_;omega) (by refine zq _ _ ?_;omega) (by refine zq _ _ ?_;omega) hTI),up _ _ (up6 _ _ (by refine zq _ _ ?_;omega) (by refine zq _ _ ?_;omega) (by refine zq _ _ ?_;omega) hTO),g1₆.at fun o e=>up _ o e,g2₆.at fun o e=>up _ o e,g3₆.at fun o e=>up _ o e⟩ ?_ fun c o hc e=>?_
 ·rw[←hsz];exact zn8 _ rfl
 ·simp only[z3,zn2,zo4,zq6,not_or] at hc
  exact up c o (up6 c o hc.1 hc.2.1 hc.2.2.1 (kB c o hc.2.2.2.2.2 e))
theorem iQ {n l1 l2 l3 k T:Nat}{f1 a b c:Value}{ot:Obj}{xs:Array Value}{Q:PySem.Fin→Shared→Prop}(hh:A.handled=none)(h1:l1<n)(h2:l2<n)(h3:l3<n)(Z:we s.heap n l1 l2 l3 k (rawInt (T:Nat)) f1 a b c)(hT:s.heap.get? T=some ot)
  (hl1:s.heap.IsList l1 xs) (hx:xs[k]?=none)
  (hE:∀h' e,(∀c o,c∉z3 n→s.heap.get? c=some o→h'.get? c=some o)→(∃o,h'.get? e=some o∧o.cls=.type "StopIteration")→E (.ref e) {s with heap:=h'}):
  wpAny (model prog w) A (Builtin.«zip.__next__» ⟨[.ref (n+5:Nat)],[]⟩) Q E s:=by
 show wpAny _ _ (field (.ref _) 2 >>= _) _ _ _
 refine zm4 (zr6 Z.z rfl (x:=.bool false) rfl ?_)
 show wpAny _ _ (field (.ref _) 3 >>= _) _ _ _
 refine zm4 (zr6 Z.z rfl (x:=.ref (n+3:Nat)) rfl ?_)
 refine zm4 (zt7 Z.ti rfl ?_)
 show wpAny _ _ (Builtin.SmallTypes.ownedTupleIsFree (.ref (n+5:Nat)) >>= _) _ _ _
 refine zm4 (rB h1 h2 h3 Z hT fun hB f1' ZB szB kB=>?_)
 replace hl1:hB.IsList l1 xs:=hl1.at fun o e=>kB _ o (by refine zq _ _ ?_;omega) e
 simp only[zt1,zw4]
 rw[zA4]
 simp only[zx6,zA3]
 refine zm4 (zm4 (zm4 (zq9 ?_)))
 show wpAny _ _ (Builtin.SmallTypes.nextOf (.ref (n:Nat)) >>= _) _ _ _
 refine zm4 (wpAny_nextOf_list_end hh ZB.i1 hl1 hx fun h₂ e hs₂ he=>?_)
 refine hE h₂ e (fun c o hc q=>?_) he
 simp only[z3,zn2,zo4,zq6,not_or] at hc
 exact hs₂ _ _ hc.1 (kB _ _ hc.2.2.2.2.2 q)
theorem pK {n l1 l2 l3 k:Nat}{f1 a b c x y z:Value}{xs ys zs:Array Value}{Q:Option Value→Shared→Prop}(h1:l1<n)(h2:l2<n)(h3:l3<n)(Z:we s.heap n l1 l2 l3 k .none f1 a b c)
  (hl1:s.heap.IsList l1 xs) (hl2:s.heap.IsList l2 ys) (hl3:s.heap.IsList l3 zs) (hx:xs[k]?=some x) (hy:ys[k]?=some y) (hz:zs[k]?=some z)
  (hQ:∀h',we h' n l1 l2 l3 (k+1) (rawInt s.heap.objs.size) (.bool false) x y z→h'.get? s.heap.objs.size=some (tO3 x y z)→
   (∀c o,c∉z3 n→s.heap.get? c=some o→h'.get? c=some o)→Q (some (.ref s.heap.objs.size)) {s with heap:=h'}):
  wpAny (model prog w) A (pyNext (.ref (n+5:Nat))) Q E s:=by
 have hT:s.TypeIs (.ref (n+5:Nat)) "zip":=⟨_,Z.z,rfl⟩
 unfold pyNext
 exact zm4 (zx2 (zy2 (name:=Str.ofString "__next__") hT zs0
  (zz0 zs0 hT zy6
   (mh h1 h2 h3 Z hl1 hl2 hl3 hx hy hz fun h' a1 a2 a3=>zm7 (hQ h' a1 a2 a3)) (zy3 _))))
theorem nq {n l1 l2 l3 k T:Nat}{f1 a b c x y z:Value}{ot:Obj}{xs ys zs:Array Value}{Q:Option Value→Shared→Prop}(h1:l1<n)(h2:l2<n)(h3:l3<n)(Z:we s.heap n l1 l2 l3 k (rawInt (T:Nat)) f1 a b c)(hT:s.heap.get? T=some ot)
  (hl1:s.heap.IsList l1 xs) (hl2:s.heap.IsList l2 ys) (hl3:s.heap.IsList l3 zs) (hx:xs[k]?=some x) (hy:ys[k]?=some y) (hz:zs[k]?=some z)
  (hQ:∀h' f1',we h' n l1 l2 l3 (k+1) (rawInt (T:Nat)) f1' a b c→h'.get? s.heap.objs.size=some (tO3 x y z)→
   (∀c o,c∉z3 n→s.heap.get? c=some o→h'.get? c=some o)→Q (some (.ref s.heap.objs.size)) {s with heap:=h'}):
  wpAny (model prog w) A (pyNext (.ref (n+5:Nat))) Q E s:=by
 have hT':s.TypeIs (.ref (n+5:Nat)) "zip":=⟨_,Z.z,rfl⟩
 unfold pyNext
 exact zm4 (zx2 (zy2 (name:=Str.ofString "__next__") hT' zs0
  (zz0 zs0 hT' zy6
   (kh h1 h2 h3 Z hT hl1 hl2 hl3 hx hy hz fun h' f1' a1 a2 a3=>zm7 (hQ h' f1' a1 a2 a3)) (zy3 _))))
theorem jP {n l1 l2 l3 k T:Nat}{f1 a b c:Value}{ot:Obj}{xs:Array Value}{Q:Option Value→Shared→Prop}(hh:A.handled=none)(h1:l1<n)(h2:l2<n)(h3:l3<n)(Z:we s.heap n l1 l2 l3 k (rawInt (T:Nat)) f1 a b c)(hT:s.heap.get? T=some ot)
  (hl1:s.heap.IsList l1 xs) (hx:xs[k]?=none)
  (hQ:∀h',(∀c o,c∉z3 n→s.heap.get? c=some o→h'.get? c=some o)→Q none {s with heap:=h'}):
  wpAny (model prog w) A (pyNext (.ref (n+5:Nat))) Q E s:=by
 have hT':s.TypeIs (.ref (n+5:Nat)) "zip":=⟨_,Z.z,rfl⟩
 unfold pyNext
 refine zm4 (zx2 (zy2 (name:=Str.ofString "__next__") hT' zs0
  (zz0 zs0 hT' zy6 (iQ hh h1 h2 h3 Z hT hl1 hx fun h' e hk he=>?_) (zy3 _))))
 obtain⟨o,ho,hc⟩:=he
 refine zm4 (wpAny_isInstance (T:="StopIteration") (b:=true) ⟨o,ho,hc⟩ isSubtype_stop ?_)
 exact zm7 (hQ _ hk)
end
section
variable {X:Cx}{pins:List (Addr×Obj)}{σ:St}{H:Hp}{s:Shared}
def Tri (H0 H:Hp)(xs ys zs vs:List V)(i:Nat):Prop:=vs.length=i∧∀j,j<i→∃t x y z,vs[j]?=some (.ref t)∧xs[j]?=some x∧ys[j]?=some y∧zs[j]?=some z∧H t=some (.tup [x,y,z])∧H0 t=none
structure ZAt (X:Cx)(pins:List (Addr×Obj))(σ:St)(H:Hp)(n l1 l2 l3:Nat)(S:Addr)(xs ys zs:List V)(i:Nat)(s':Shared):Prop where
 ex:∃(H':Hp) (acc:List Value) (vs:List V) (e:Nat) (f0 f1 a b c:Value),Inv X pins σ H' s'∧(∀a o,H a=some o→H' a=some o)∧s'.heap.get? S=some {cls:=.type "list",dict:=none,data:=.seq acc.toArray e,slots:=#[]}∧H' S=none∧(∀b∈z3 n,H' b=none)∧
  we s'.heap n l1 l2 l3 i f0 f1 a b c∧(i=0∧f0=.none∨∃(T:Nat) (ot:Obj),f0=rawInt (T:Nat)∧s'.heap.get? T=some ot∧T∉S::z3 n)∧Vals vs acc∧Tri H H' xs ys zs vs i
structure bU (X:Cx)(pins:List (Addr×Obj))(σ:St)(H:Hp)(S:Addr)(xs ys zs:List V)(s':Shared):Prop where
 ex:∃(H':Hp) (acc:List Value) (vs:List V) (e:Nat),Inv X pins σ H' s'∧(∀a o,H a=some o→H' a=some o)∧s'.heap.get? S=some {cls:=.type "list",dict:=none,data:=.seq acc.toArray e,slots:=#[]}∧H' S=none∧Vals vs acc∧Tri H H' xs ys zs vs xs.length
theorem Tri.snoc {H0 H H':Hp}{xs ys zs vs:List V}{i:Nat}{t:Addr}{x y z:V}(h:Tri H0 H xs ys zs vs i)(k:∀a o,H a=some o→H' a=some o)(hx:xs[i]?=some x)(hy:ys[i]?=some y)(hz:zs[i]?=some z)(ht:H' t=some (.tup [x,y,z]))(hn:H0 t=none):Tri H0 H' xs ys zs (vs++[.ref t]) (i+1):=by
 refine⟨by rw[zq1,h.1];rfl,fun j hj=>?_⟩
 rcases zv4 j i with z'|z'
 ·obtain⟨t',x',y',z2,e1,e2,e3,e4,e5,e6⟩:=h.2 j z'
  exact⟨t',x',y',z2,by rw[zq5 (by rw[h.1];exact z')];exact e1,e2,e3,e4,k _ _ e5,e6⟩
 ·have:j=i:=by omega
  subst this
  exact⟨t,x,y,z,by rw[zr0 (by rw[h.1];exact zn0 _),h.1];simp,hx,hy,hz,ht,hn⟩
theorem kL {A:Around}{R:Result→Shared→Prop}{n l1 l2 l3:Nat}{S:Addr}{xs ys zs:List V}(hh:A.handled=none)(h1:l1<n)(h2:l2<n)(h3:l3<n)(fS:∀H',H' S=none→yR X pins H' S)(fz:∀b∈z3 n,∀H',H' b=none→yR X pins H' b)(hSz:S∉z3 n)
  (q1:SqL X.K H l1 xs) (q2:SqL X.K H l2 ys) (q3:SqL X.K H l3 zs) (e2:ys.length=xs.length) (e3:zs.length=xs.length) (h0:0<xs.length) (hN:xs.length≤1000)
  (hR:∀s',bU X pins σ H S xs ys zs s'→R (.ok (.ret .none)) s'):
  ∀(k i:Nat) (s:Shared),xs.length-i=k→i≤xs.length→ZAt X pins σ H n l1 l2 l3 S xs ys zs i s→codeAny (model X.prog X.w) A (.builtin "list.extend.loop" ⟨[.ref S,.ref (n+5:Nat),.none],[]⟩) R s:=by
 have hh':A.in1.handled=none:=hh
 intro k
 induction k with
 |zero=>
  intro i s hk hi hst
  have hin:i=xs.length:=by omega
  subst hin
  obtain⟨H',acc,vs,e,f0,f1,a,b,c,I,st,hS,nS,nz,Z,fr,rv,tr⟩:=hst.ex
  refine codeAny_builtin PySem.F.entry_extend_loop ?_
  rw[Around.under_plainId zt2 _]
  show wpAny _ A.in1 (pyNext (.ref (n+5:Nat)) >>= _) _ _ s
  rcases fr with ⟨z,_⟩|⟨T,ot,rfl,hT,hTn⟩
  ·omega
  obtain⟨its1,rv1,p1,hz1⟩:=I.list (xU q1 fun a o _ e=>st a o e)
  refine zm4 (jP hh' h1 h2 h3 Z hT p1.isList (by
   rw[List.getElem?_toArray,zz3];rw[rv1.length];exact zn0 _) fun h' kk=>?_)
  refine zm7 (hR _ ⟨H',acc,vs,e,I.turnL (t':=s.toks) (ch:=z3 n) (fun b o hb q=>kk b o hb q) (fun b hb=>fz b hb H' (nz b hb)),st,kk _ _ hSz hS,nS,rv,tr⟩)
 |succ k ih=>
  intro i s hk hi hst
  have hlt:i<xs.length:=by omega
  obtain⟨H',acc,vs,e,f0,f1,a,b,c,I,st,hS,nS,nz,Z,fr,rv,tr⟩:=hst.ex
  refine codeAny_builtin PySem.F.entry_extend_loop ?_
  rw[Around.under_plainId zt2 _]
  show wpAny _ A.in1 (pyNext (.ref (n+5:Nat)) >>= _) _ _ s
  obtain⟨its1,rv1,p1,hz1⟩:=I.list (xU q1 fun a o _ e=>st a o e)
  obtain⟨its2,rv2,p2,hz2⟩:=I.list (xU q2 fun a o _ e=>st a o e)
  obtain⟨its3,rv3,p3,hz3⟩:=I.list (xU q3 fun a o _ e=>st a o e)
  have gx:xs[i]?=some xs[i]:=zm9 hlt
  have gy:ys[i]?=some ys[i]:=zm9 (by omega)
  have gz:zs[i]?=some zs[i]:=zm9 (by omega)
  obtain⟨u,hu,ru⟩:=rv1.get gx
  obtain⟨v,hv,rv'⟩:=rv2.get gy
  obtain⟨w,hw,rw'⟩:=rv3.get gz
  have lacc:acc.length=i:=by rw[←rv.length,tr.1]
  have zlt:∀b∈z3 n,b<s.heap.objs.size:=fun b hb=>by
   have:∃o,s.heap.get? b=some o:=by
    simp only[z3,zn2,zo4,zq6] at hb
    obtain⟨o1,q1,_⟩:=Z.i1
    obtain⟨o2,q2,_⟩:=Z.i2
    obtain⟨o3,q3,_⟩:=Z.i3
    rcases hb with rfl|rfl|rfl|rfl|rfl|rfl
    ·exact⟨_,q1⟩
    ·exact⟨_,q2⟩
    ·exact⟨_,q3⟩
    ·exact⟨_,Z.ti⟩
    ·exact⟨_,Z.to⟩
    ·exact⟨_,Z.z⟩
   obtain⟨o,q⟩:=this
   exact zn1 q
  have main:∀(h':Heap) (f0' f1' a' b' c':Value),we h' n l1 l2 l3 (i+1) f0' f1' a' b' c'→(∃(T:Nat) (ot:Obj),f0'=rawInt (T:Nat)∧h'.get? T=some ot∧T∉S::z3 n)→h'.get? s.heap.objs.size=some (tO3 u v w)→
    (∀c o,c∉z3 n→s.heap.get? c=some o→h'.get? c=some o)→wpAny (model X.prog X.w) A.in1 (updateSeq S (·.push (.ref s.heap.objs.size)) >>= fun _=>again (.builtin "list.extend.loop" ⟨[.ref S,.ref (n+5:Nat),.none],[]⟩))
     (fun fin s'=>match fin with|.done f=>R (.ok f) s'|.again c'=>c'.quiet=true∧codeAny (model X.prog X.w) A c' R s') (fun e s'=>R (.error e) s') {s with heap:=h'}:=by
   intro h' f0' f1' a' b' c' Z' ⟨T,ot,hf,hT,hTn⟩ gT kk
   have nT:H' s.heap.objs.size=none:=I.hok.fresh (zn0 _)
   have nT0:H s.heap.objs.size=none:=by
    cases q:H s.heap.objs.size with
    |none=>rfl
    |some o=>rw[st _ _ q] at nT;cases nT
   have stT:∀a o,H' a=some o→upd H' s.heap.objs.size (.tup [xs[i],ys[i],zs[i]]) a=some o:=fun a o q=>by rw[zd (zk q nT)];exact q
   have J:=I.turnLay (t':=s.toks) (h':=h') (ch:=z3 n) (T:=s.heap.objs.size) (o:=.tup [xs[i],ys[i],zs[i]]) kk (fun b hb=>fz b hb H' (nz b hb)) (zn0 _) ⟨by show 3≤sizeLine;decide,[u,v,w],.cons ru (.cons rv' (.cons rw' .nil)),_,gT,rfl,0,rfl⟩
   have hS':=kk _ _ hSz hS
   have SltS:S<s.heap.objs.size:=zn1 hS
   have nS':upd H' s.heap.objs.size (.tup [xs[i],ys[i],zs[i]]) S=none:=by rw[zd (zo2 SltS)];exact nS
   obtain⟨e',hSn⟩:∃e',(h'.update S (Obj.mapSeq (·.push (Value.ref s.heap.objs.size)))).get? S=some {cls:=.type "list",dict:=none,data:=.seq (acc++[Value.ref s.heap.objs.size]).toArray e',slots:=#[]}:=by
    have:=zu2 (c:="list") hS' fun x=>x.push (Value.ref s.heap.objs.size)
    rw[List.push_toArray] at this
    exact⟨_,this⟩
   refine zm4 ?_
   refine zx9 hS' rfl (zm7 ⟨plainId_quiet zt2 _,ih (i+1) _ (by omega) hlt ⟨_,acc++[.ref s.heap.objs.size],vs++[.ref s.heap.objs.size],e',f0',f1',a',b',c',
    J.turnL (t':=s.toks) (ch:=[S]) (fun b o hb q=>(zn9 _ _ (zp4 (by simpa using hb))).trans q) (fun b hb=>by rw[zo8.mp hb];exact fS _ nS'),fun a o q=>stT _ _ (st a o q),hSn,nS',fun b hb=>?_,?_,.inr ⟨T,ot,hf,?_,hTn⟩,rv.append (.cons (show RelV (.ref s.heap.objs.size) (.ref s.heap.objs.size) from rfl) .nil),tr.snoc stT gx gy gz zf nT0⟩⟩)
    (by rw[zn3,lacc,zq0];omega) (by show (acc.toArray.push _).size≤sizeLine+1;rw[Array.size_push,zn3,lacc,zq0];omega)
   ·rw[zd]
    ·exact nz b hb
    ·exact zo2 (zlt b hb)
   ·have oth:∀b o,b≠S→h'.get? b=some o→(h'.update S (Obj.mapSeq (·.push (Value.ref s.heap.objs.size)))).get? b=some o:=fun b o hb q=>(zn9 _ _ (zp4 hb)).trans q
    simp only[z3,zn2,zo4,zq6,not_or] at hSz
    obtain⟨d1,d2,d3,d4,d5,d6⟩:=hSz
    exact⟨oth _ _ (zp4 d6) Z'.z,oth _ _ (zp4 d4) Z'.ti,oth _ _ (zp4 d5) Z'.to,Z'.i1.at fun o q=>oth _ o (zp4 d1) q,Z'.i2.at fun o q=>oth _ o (zp4 d2) q,Z'.i3.at fun o q=>oth _ o (zp4 d3) q⟩
   ·exact (zn9 _ _ (fun z=>hTn (by rw[←z];exact zo5))).trans hT
  rcases fr with ⟨_,rfl⟩|⟨T,ot,rfl,hT,hTn⟩
  ·refine zm4 (pK h1 h2 h3 Z p1.isList p2.isList p3.isList (by simpa using hu) (by simpa using hv) (by simpa using hw) fun h' Z' gT kk=>?_)
   refine main h' _ _ _ _ _ Z' ⟨s.heap.objs.size,_,rfl,gT,?_⟩ gT kk
   intro z
   rcases zn2.mp z with z|z
   ·exact absurd (zn1 hS) (by rw[←z];exact zs6 _)
   ·exact absurd (zlt _ z) (zs6 _)
  ·refine zm4 (nq h1 h2 h3 Z hT p1.isList p2.isList p3.isList (by simpa using hu) (by simpa using hv) (by simpa using hw) fun h' f1' Z' gT kk=>?_)
   exact main h' _ _ _ _ _ Z' ⟨T,ot,rfl,kk _ _ (fun z=>hTn (zn6 _ z)) hT,hTn⟩ gT kk
end
theorem tu (a b c:Value):checkTypeCall "zip" ⟨[a,b,c],[]⟩=pure ():=by kernel_rfl
theorem sA (a b c:Value):checkBuiltinCall "zip.__new__" ⟨[.type "zip",a,b,c],[]⟩=pure ():=by kernel_rfl
theorem vn (a b c d:Value):argsOk "object.__init__" ⟨[a,b,c,d],[]⟩:=by
 unfold argsOk;rw[signature?_of (id:="object.__init__") (n:=['_','_','t','i','n','i','_','_']) (o:=['t','c','e','j','b','o']) (by kernel_rfl) PySem.F.owner_object];kernel_rfl
theorem oW :typeLookup (.type "zip") "__len__"=pure none:=by rw[typeLookup_type,builtinLookup_eq_fast];kernel_rfl
theorem pP :typeLookup (.type "zip") "__length_hint__"=pure none:=by rw[typeLookup_type,builtinLookup_eq_fast];kernel_rfl
abbrev itO (l:Addr):Obj:={cls:=.type "list_iterator",data:=.fields #[.ref l,.int 0 0]}
abbrev zh3 (h:Heap)(l1 l2 l3:Addr):Heap:=((h.push (itO l1)).push (itO l2)).push (itO l3)
abbrev zh4 (h:Heap)(l1 l2 l3:Addr):Heap:=(zh3 h l1 l2 l3).push (tO3 (.ref h.objs.size) (.ref (h.push (itO l1)).objs.size) (.ref ((h.push (itO l1)).push (itO l2)).objs.size))
abbrev zh5 (h:Heap)(l1 l2 l3:Addr):Heap:=(zh4 h l1 l2 l3).push (tO3 .none .none .none)
abbrev zh6 (h:Heap)(l1 l2 l3:Addr):Heap:=(zh5 h l1 l2 l3).push (zO .none (.bool false) (zh3 h l1 l2 l3).objs.size (zh4 h l1 l2 l3).objs.size)
set_option maxHeartbeats 8000000 in
theorem tV (l1 l2 l3:Addr)(xs ys zs:Array Value):
  Meets (Builtin.«zip.__new__» ⟨[.type "zip",.ref l1,.ref l2,.ref l3],[]⟩) (fun _ R s=>s.heap.IsList l1 xs∧s.heap.IsList l2 ys∧s.heap.IsList l3 zs∧
   R (.ok (.ret (.ref (zh5 s.heap l1 l2 l3).objs.size))) {s with heap:=zh6 s.heap l1 l2 l3}):=
 .of_wp fun prog w A R s h=>by
  obtain⟨hp,g,d,tk,os⟩:=s;obtain⟨hl1,hl2,hl3,h⟩:=h
  have hsub:=sub_zip
  have hL1:Heap.IsList (Shared.heap ⟨hp,g,d,tk,os⟩) l1 xs:=hl1
  have hL2:Heap.IsList (Shared.heap ⟨hp.push {cls:=.type "list_iterator",data:=.fields #[.ref l1,.int 0 0]},g,d,tk,os⟩) l2 ys:=Heap.IsList.push hl2 _
  have hL3:Heap.IsList (Shared.heap ⟨(hp.push {cls:=.type "list_iterator",data:=.fields #[.ref l1,.int 0 0]}).push {cls:=.type "list_iterator",data:=.fields #[.ref l2,.int 0 0]},g,d,tk,os⟩) l3 zs:=Heap.IsList.push (Heap.IsList.push hl3 _) _
  wp_walk using zy4 hL1,zy4 hL2,zy4 hL3
  exact⟨_,rfl,h⟩
section
variable {prog:Program}{w:World}{A:Around}{E:Value→Shared→Prop}{s:Shared}
theorem oq {l1 l2 l3:Addr}{xs ys zs:Array Value}{Q:Value→Shared→Prop}(hl1:s.heap.IsList l1 xs)(hl2:s.heap.IsList l2 ys)(hl3:s.heap.IsList l3 zs)
  (h:∀h',we h' s.heap.objs.size l1 l2 l3 0 .none (.bool false) .none .none .none→h'.objs.size=s.heap.objs.size+6→(∀c o,s.heap.get? c=some o→h'.get? c=some o)→Q (.ref (s.heap.objs.size+5)) {s with heap:=h'}):
  wpAny (model prog w) A (call (.type "zip") [.ref l1,.ref l2,.ref l3]) Q E s:=by
 refine callType_new PySem.F.called_zip (by decide) (tu _ _ _) (sA _ _ _) (fun obj=>vn obj _ _ _) PySem.F.entry_zip_new
  (tV l1 l2 l3 xs ys zs) ⟨hl1,hl2,hl3,?_⟩
 have z1:(s.heap.push (itO l1)).objs.size=s.heap.objs.size+1:=zs9 ..
 have z2:((s.heap.push (itO l1)).push (itO l2)).objs.size=s.heap.objs.size+2:=by rw[zs9,z1]
 have z3':(zh3 s.heap l1 l2 l3).objs.size=s.heap.objs.size+3:=by rw[zs9,z2]
 have z4:(zh4 s.heap l1 l2 l3).objs.size=s.heap.objs.size+4:=by rw[zs9,z3']
 have z5:(zh5 s.heap l1 l2 l3).objs.size=s.heap.objs.size+5:=by rw[zs9,z4]
 have z6:(zh6 s.heap l1 l2 l3).objs.size=s.heap.objs.size+6:=by rw[zs9,z5]
 have g6:(zh6 s.heap l1 l2 l3).get? (zh5 s.heap l1 l2 l3).objs.size=some _:=zn8 _ rfl
 have g5:(zh6 s.heap l1 l2 l3).get? (zh4 s.heap l1 l2 l3).objs.size=some _:=zm5 _ (zn8 _ rfl)
 have g4:(zh6 s.heap l1 l2 l3).get? (zh3 s.heap l1 l2 l3).objs.size=some _:=zm5 _ (zm5 _ (zn8 _ rfl))
 have g3:(zh6 s.heap l1 l2 l3).get? ((s.heap.push (itO l1)).push (itO l2)).objs.size=some _:=zm5 _ (zm5 _ (zm5 _ (zn8 _ rfl)))
 have g2:(zh6 s.heap l1 l2 l3).get? (s.heap.push (itO l1)).objs.size=some _:=zm5 _ (zm5 _ (zm5 _ (zm5 _ (zn8 _ rfl))))
 have g1:(zh6 s.heap l1 l2 l3).get? s.heap.objs.size=some _:=zm5 _ (zm5 _ (zm5 _ (zm5 _ (zm5 _ (zn8 _ rfl)))))
 show _∧_
 rw[z5,z4,z3'] at g6
 rw[z4] at g5
 rw[z3',z2,z1] at g4
 rw[z2] at g3
 rw[z1] at g2
 rw[z5]
 exact⟨⟨_,g6,rfl⟩,h _ ⟨g6,g4,g5,⟨_,g1,rfl,rfl⟩,⟨_,g2,rfl,rfl⟩,⟨_,g3,rfl,rfl⟩⟩ z6 fun c o x=>
  zm5 _ (zm5 _ (zm5 _ (zm5 _ (zm5 _ (zm5 _ x)))))⟩
end
section
variable {X:Cx}{pins:List (Addr×Obj)}{σ:St}{H:Hp}{s:Shared}
theorem jh {A:Around}{R:Result→Shared→Prop}{n l1 l2 l3:Nat}{S:Addr}{xs ys zs:List V}(hh:A.handled=none)(h1:l1<n)(h2:l2<n)(h3:l3<n)(I:Inv X pins σ H s)(Z:we s.heap n l1 l2 l3 0 .none (.bool false) .none .none .none)(hS:s.heap.get? S=some {cls:=.type "list",data:=.seq #[]})
  (nS:H S=none) (nz:∀b∈z3 n,H b=none) (fS:∀H',H' S=none→yR X pins H' S) (fz:∀b∈z3 n,∀H',H' b=none→yR X pins H' b) (hSz:S∉z3 n)
  (q1:SqL X.K H l1 xs) (q2:SqL X.K H l2 ys) (q3:SqL X.K H l3 zs) (e2:ys.length=xs.length) (e3:zs.length=xs.length) (h0:0<xs.length) (hN:xs.length≤1000)
  (hR:∀s',bU X pins σ H S xs ys zs s'→R (.ok (.ret .none)) s'):
  wpAny (model X.prog X.w) A.in1 (Builtin.«list.__init__» ⟨[.ref S,.ref (n+5:Nat)],[]⟩)
   (fun fin s'=>match fin with|.done f=>R (.ok f) s'|.again c'=>c'.quiet=true∧codeAny (model X.prog X.w) A c' R s') (fun e s'=>R (.error e) s') s:=by
 have hSz':=hSz
 simp only[z3,zn2,zo4,zq6,not_or] at hSz'
 obtain⟨d1,d2,d3,d4,d5,d6⟩:=hSz'
 show wpAny _ _ (do let old ←Builtin.List.listItems (.ref S);Builtin.List.listUpdate (.ref S) (fun _=>#[]);letGo old.toList.reverse;Builtin.List.listExtendWith (.ref S) (.ref (n+5:Nat)) .none) _ _ s
 refine zm4 ?_
 unfold Builtin.List.listItems
 refine zm4 (zt7 hS rfl (zm7 ?_))
 show wpAny _ _ (updateSeq S (fun _=>#[]) >>= fun _=>letGo (#[]:Array Value).toList.reverse >>= fun _=>Builtin.List.listExtendWith (.ref S) (.ref (n+5:Nat)) .none) _ _ s
 refine zm4 (zx9 hS rfl ?_)
 obtain⟨e',hS₂⟩:∃e',(s.heap.update S (Obj.mapSeq (fun _=>(#[]:Array Value)))).get? S=some {cls:=.type "list",dict:=none,data:=.seq #[] e',slots:=#[]}:=⟨_,zu2 (c:="list") hS fun _=>#[]⟩
 have oth:∀b o,b≠S→s.heap.get? b=some o→(s.heap.update S (Obj.mapSeq (fun _=>(#[]:Array Value)))).get? b=some o:=
  fun b o hb e=>(zn9 _ _ (zp4 hb)).trans e
 have Z₂:we (s.heap.update S (Obj.mapSeq (fun _=>(#[]:Array Value)))) n l1 l2 l3 0 .none (.bool false) .none .none .none:=⟨oth _ _ (zp4 d6) Z.z,oth _ _ (zp4 d4) Z.ti,oth _ _ (zp4 d5) Z.to,Z.i1.at fun o q=>oth _ o (zp4 d1) q,Z.i2.at fun o q=>oth _ o (zp4 d2) q,Z.i3.at fun o q=>oth _ o (zp4 d3) q⟩
 refine zm4 (wpAny_letGo ?_)
 have I₂:Inv X pins σ H {s with heap:=s.heap.update S (Obj.mapSeq (fun _=>(#[]:Array Value))),toks:=s.toks}:=I.turnL (ch:=[S]) (fun b o hb q=>oth b o (by simpa using hb) q) fun b hb=>by rw[zo8.mp hb];exact fS H nS
 have hT:({s with heap:=s.heap.update S (Obj.mapSeq (fun _=>(#[]:Array Value)))}:Shared).TypeIs (.ref (n+5:Nat)) "zip":=⟨_,Z₂.z,rfl⟩
 unfold Builtin.List.listExtendWith
 refine zm4 (wpAny_typeOf hT ?_)
 have b1:Builtin.List.listSameRef (.ref S) (.ref (n+5:Nat))=false:=by simp[Builtin.List.listSameRef];exact d6
 have b2:(Value.type "zip" == Value.type "list")=false:=by decide
 have b3:(Value.type "zip" == Value.type "tuple")=false:=by decide
 simp only[b1,b2,b3,zA5,zt1,zw4]
 refine zm4 (wpAny_pyIter_slot hT PySem.F.slot_zip_iter (zz0 PySem.F.slot_zip_iter hT PySem.F.entry_zip_iter ?_ (PySem.F.args_zip_iter_1 _)))
 show wpAny _ _ (ret (.ref (n+5:Nat))) _ _ _
 refine zm7 ⟨_,rfl,"zip",_,hT,zs0.lookup,?_⟩
 refine zm4 (zq9 ?_)
 unfold Builtin.List.listLengthHint
 refine zm4 (wpAny_specialOf hT oW ?_)
 show wpAny _ _ (specialOf (Value.ref (n+5:Nat)) (Str.ofString "__length_hint__") >>= _) _ _ _
 refine zm4 (wpAny_specialOf hT pP ?_)
 refine zm7 ?_
 have key:∀(h:Heap) (e:Nat),h.get? S=some {cls:=.type "list",dict:=none,data:=.seq #[] e,slots:=#[]}→(∀b o,b≠S→s.heap.get? b=some o→h.get? b=some o)→codeAny (model X.prog X.w) A (.builtin "list.extend.loop" ⟨[.ref S,.ref (n+5:Nat),.none],[]⟩) R {s with heap:=h}:=by
  intro h e hS' oth'
  refine kL hh h1 h2 h3 fS fz hSz q1 q2 q3 e2 e3 h0 hN hR xs.length 0 _ (by omega) (zo3 _) ⟨H,[],[],e,.none,.bool false,.none,.none,.none,I.turnL (t':=s.toks) (ch:=[S]) (fun b o hb q=>oth' b o (by simpa using hb) q) (fun b hb=>by rw[zo8.mp hb];exact fS H nS),fun _ _ e=>e,hS',nS,nz,?_,.inl ⟨rfl,rfl⟩,.nil,rfl,fun j hj=>absurd hj (Nat.not_lt_zero _)⟩
  exact⟨oth' _ _ (zp4 d6) Z.z,oth' _ _ (zp4 d4) Z.ti,oth' _ _ (zp4 d5) Z.to,Z.i1.at fun o q=>oth' _ o (zp4 d1) q,Z.i2.at fun o q=>oth' _ o (zp4 d2) q,Z.i3.at fun o q=>oth' _ o (zp4 d3) q⟩
 refine wpAny_ite_split (fun _=>?_) (fun _=>zm7 ⟨plainId_quiet zt2 _,key _ _ hS₂ oth⟩)
 refine zm4 (wpAny_rule ?_)
 refine zm4 ?_
 show wpAny _ _ (updateSeq S (·.push .none) >>= fun _=>updateSeq S (·.pop)) _ _ _
 refine zm4 (zx9 hS₂ rfl ?_)
 obtain⟨e3',hS₃⟩:∃e',((s.heap.update S (Obj.mapSeq (fun _=>(#[]:Array Value)))).update S (Obj.mapSeq (·.push Value.none))).get? S=some {cls:=.type "list",dict:=none,data:=.seq #[.none] e',slots:=#[]}:=⟨_,zu2 (c:="list") hS₂ fun x=>x.push Value.none⟩
 refine zx9 (hz:=by seq_fits) hS₃ rfl ?_
 obtain⟨e4',hS₄⟩:∃e',(((s.heap.update S (Obj.mapSeq (fun _=>(#[]:Array Value)))).update S (Obj.mapSeq (·.push Value.none))).update S (Obj.mapSeq (·.pop))).get? S=some {cls:=.type "list",dict:=none,data:=.seq #[] e',slots:=#[]}:=⟨_,zu2 (c:="list") hS₃ fun x=>x.pop⟩
 refine zm7 ⟨plainId_quiet zt2 _,key _ _ hS₄ fun b o hb e=>?_⟩
 exact (zn9 _ _ (zp4 hb)).trans ((zn9 _ _ (zp4 hb)).trans (oth b o hb e))
end
section
variable {X:Cx}{pins:List (Addr×Obj)}{σ:St}{H:Hp}{s:Shared}
theorem tL {A:Around}{E:Value→Shared→Prop}{Q:Value→Shared→Prop}{n l1 l2 l3:Nat}{xs ys zs:List V}(hh:A.handled=none)(h1:l1<n)(h2:l2<n)(h3:l3<n)(I:Inv X pins σ H s)(Z:we s.heap n l1 l2 l3 0 .none (.bool false) .none .none .none)
  (nz:∀b∈z3 n,H b=none) (fz:∀b∈z3 n,∀H',H' b=none→yR X pins H' b)
  (q1:SqL X.K H l1 xs) (q2:SqL X.K H l2 ys) (q3:SqL X.K H l3 zs) (e2:ys.length=xs.length) (e3:zs.length=xs.length) (h0:0<xs.length) (hN:xs.length≤1000)
  (hQ:∀D s',s.heap.objs.size≤D→bU X pins σ H D xs ys zs s'→(∀H',H' D=none→yR X pins H' D)→Q (.ref D) s'):
  wpAny (model X.prog X.w) A (call (.type "list") [.ref (n+5:Nat)]) Q E s:=by
 refine callType_codes (Q₁:=fun obj s₁=>obj=.ref s.heap.objs.size∧s₁={s with heap:=s.heap.push {cls:=.type "list",data:=.seq #[]}}) PySem.F.called_list (PySem.F.typeCall_list_1 _) PySem.F.entry_list_init
  (code_list_new _ ⟨rfl,rfl⟩) fun obj s₁ h₁=>?_
 obtain⟨rfl,rfl⟩:=h₁
 have hS:(s.heap.push {cls:=.type "list",data:=.seq #[]}).get? s.heap.objs.size=some {cls:=.type "list",data:=.seq #[]}:=zn8 _ rfl
 have up:∀b o,s.heap.get? b=some o→(s.heap.push {cls:=.type "list",data:=.seq #[]}).get? b=some o:=fun b o e=>zm5 _ e
 have fS:∀H':Hp,H' s.heap.objs.size=none→yR X pins H' s.heap.objs.size:=fun H' h=>I.fpOk (zn0 _) h
 have hSz:s.heap.objs.size∉z3 n:=fun hb=>by
  have:∃o,s.heap.get? s.heap.objs.size=some o:=by
   simp only[z3,zn2,zo4,zq6] at hb
   obtain⟨o1,q1,_⟩:=Z.i1
   obtain⟨o2,q2,_⟩:=Z.i2
   obtain⟨o3,q3,_⟩:=Z.i3
   rcases hb with z|z|z|z|z|z<;>rw[z]
   ·exact⟨_,q1⟩
   ·exact⟨_,q2⟩
   ·exact⟨_,q3⟩
   ·exact⟨_,Z.ti⟩
   ·exact⟨_,Z.to⟩
   ·exact⟨_,Z.z⟩
  obtain⟨o,q⟩:=this
  exact absurd (zn1 q) (zs6 _)
 refine⟨⟨_,hS,rfl⟩,PySem.F.args_list_init_2 _ _,jh (A:=A.in1) hh h1 h2 h3 (I.kept (t':=s.toks) up) ⟨up _ _ Z.z,up _ _ Z.ti,up _ _ Z.to,Z.i1.at fun o q=>up _ o q,Z.i2.at fun o q=>up _ o q,Z.i3.at fun o q=>up _ o q⟩ hS (I.hok.fresh (zn0 _)) nz fS fz hSz q1 q2 q3 e2 e3 h0 hN fun s' ze=>⟨rfl,hQ _ s' (zn0 _) ze fS⟩⟩
variable {a b c:Expr}{p p0 pos pos2:Pos}
set_option maxHeartbeats 2000000 in
theorem qS {ta:TA}(hc:X.calm=true)(hgl:Gl X "list")(hml:X.mg "list"=none)(hg:Gl X "zip")(hm:X.mg "zip"=none)(ha:PA X [a,b,c] ta)
  (hs0:starEach [.Call (.Name "zip" p) [a,b,c] [] pos2] X.env=[(false,eval (.Call (.Name "zip" p) [a,b,c] [] pos2) X.env)]:=by rfl)
  (hs:starEach [a,b,c] X.env=(false,eval a X.env)::starEach [b,c] X.env:=by rfl) (hpl:(backTo pos2 (starEach [b,c] X.env)).any (·.1)=false:=by rfl):
  PE X (.Call (.Name "list" p0) [.Call (.Name "zip" p) [a,b,c] [] pos2] [] pos) (fun σ H Q=>ta σ H fun vs H1=>∃(l1 l2 l3:Addr) (xs ys zs:List V),vs=[.ref l1,.ref l2,.ref l3]∧SqL X.K H1 l1 xs∧SqL X.K H1 l2 ys∧SqL X.K H1 l3 zs∧ys.length=xs.length∧zs.length=xs.length∧0<xs.length∧xs.length≤1000∧
   ∀D H' vs,H1 D=none→(∀a o,H1 a=some o→H' a=some o)→H' D=some (.lst vs)→(∃H'',(∀a o,H'' a=some o→a≠D∧H' a=some o)∧Tri H1 H'' xs ys zs vs xs.length)→Q (.ref D) H'):=by
 intro pins s σ H Q I h
 refine Call_ (xF I hgl hml boot_list (zq8 ?_ hs0 rfl))
 rw[hs0]
 show wpAny _ _ (spliced ((false,eval _ X.env)::backTo pos [])) _ _ s
 refine Calls.spliced_cons ?_
 refine Call_ (xF I hg hm boot_zip (zq8 (thn (ha pos2 pins s σ H _ I h) fun us s1 ⟨vs,H1,I1,r1,q1⟩=>?_) hs hpl))
 obtain⟨l1,l2,l3,xs,ys,zs,e,hq1,hq2,hq3,e2,e3,h0,hN,q⟩:=q1
 subst e
 obtain⟨u,v,w,rfl,ru,rv,rw'⟩:∃u v w,us=[u,v,w]∧RelV (.ref l1) u∧RelV (.ref l2) v∧RelV (.ref l3) w:=by
  cases r1 with
  |cons a r1=>
   cases r1 with
   |cons b r1=>
    cases r1 with
    |cons c r1=>
     cases r1
     exact⟨_,_,_,rfl,a,b,c⟩
 cases (show u=Value.ref l1 from ru)
 cases (show v=Value.ref l2 from rv)
 cases (show w=Value.ref l3 from rw')
 obtain⟨its1,rv1,p1,hz1⟩:=I1.list hq1
 obtain⟨its2,rv2,p2,hz2⟩:=I1.list hq2
 obtain⟨its3,rv3,p3,hz3⟩:=I1.list hq3
 refine oq p1.isList p2.isList p3.isList fun h' Z sz hk=>?_
 have lt1:l1<s1.heap.objs.size:=by obtain⟨o,e,_⟩:=p1.isList;exact zn1 e
 have lt2:l2<s1.heap.objs.size:=by obtain⟨o,e,_⟩:=p2.isList;exact zn1 e
 have lt3:l3<s1.heap.objs.size:=by obtain⟨o,e,_⟩:=p3.isList;exact zn1 e
 have le:∀b∈z3 s1.heap.objs.size,s1.heap.objs.size≤b:=fun b hb=>by
  simp only[z3,zn2,zo4,zq6] at hb
  have key:∀n b:Nat,(b=n∨b=n+1∨b=n+2∨b=n+3∨b=n+4∨b=n+5)→n≤b:=fun n b h=>by omega
  exact key _ _ hb
 have I2:Inv X pins σ H1 {s1 with heap:=h',toks:=s1.toks}:=I1.kept fun b o e=>hk b o e
 refine zp3 (Q:=_) (show wpAny _ _ (spliced []) (fun vs s₁=>vs=[]∧s₁={s1 with heap:=h'}) X.xe {s1 with heap:=h'} from zm7 ⟨rfl,rfl⟩) (fun vs s2 hv=>?_) fun _ _ z=>z
 obtain⟨rfl,rfl⟩:=hv
 refine tL (s:={s1 with heap:=h'}) (I.ok.hd hc) lt1 lt2 lt3 I2 Z (fun b hb=>I1.hok.fresh (le b hb)) (fun b hb H' hn=>I1.fpOk (le b hb) hn) hq1 hq2 hq3 e2 e3 h0 hN fun D s' lD ze fD=>?_
 obtain⟨H',acc,vs,e,I',st,hD,nD,rvs,tri⟩:=ze.ex
 have nD1:H1 D=none:=I2.hok.fresh lD
 have stD:∀a o,H' a=some o→a≠D∧upd H' D (.lst vs) a=some o:=fun a o q=>by
  have n:a≠D:=fun z=>by rw[z,nD] at q;cases q
  exact⟨n,by rw[zd n];exact q⟩
 refine⟨.ref D,upd H' D (.lst vs),I'.adopt (fD H' nD) ⟨?_,acc,e,rvs,hD⟩,rfl,q D _ vs nD1 (fun a o q=>(stD a o (st a o q)).2) zf ⟨H',stD,tri⟩⟩
 rw[tri.1,zq0];omega
end
def cc (a b c:PyData):PyData:=.tuple [a,b,c]
def xM :List PyData→List PyData→List PyData→List PyData
 |a::as,b::bs,c::cs=>cc a b c::xM as bs cs
 |_,_,_=>[]
theorem vQ :∀{as bs cs:List PyData},bs.length=as.length→cs.length=as.length→(xM as bs cs).length=as.length
 |[],_,_,_,_=>rfl
 |a::as,b::bs,c::cs,h1,h2=>by
  rw[xM,zn7,zn7,vQ (by simpa using h1) (by simpa using h2)]
theorem vT :∀{as bs cs:List PyData} {j:Nat} {d:PyData},(xM as bs cs)[j]?=some d→∃a b c,as[j]?=some a∧bs[j]?=some b∧cs[j]?=some c∧d=cc a b c
 |[],_,_,j,d,h=>by simp[xM] at h
 |a::as,[],_,j,d,h=>by simp[xM] at h
 |a::as,b::bs,[],j,d,h=>by simp[xM] at h
 |a::as,b::bs,c::cs,0,d,h=>by simp[xM] at h;exact⟨a,b,c,rfl,rfl,rfl,h.symm⟩
 |a::as,b::bs,c::cs,j+1,d,h=>by
  obtain⟨x,y,z,e1,e2,e3,e4⟩:=vT (as:=as) (bs:=bs) (cs:=cs) (j:=j) (d:=d) (by simpa[xM] using h)
  exact⟨x,y,z,by simpa using e1,by simpa using e2,by simpa using e3,e4⟩
theorem lX {G:Hp}:∀{vs:List V} {ds:List PyData},vs.length=ds.length→(∀(j:Nat) d,ds[j]?=some d→∃v,vs[j]?=some v∧AV G v d)→AVs G vs ds
 |[],[],_,_=>.nil
 |v::vs,d::ds,hl,h=>by
  obtain⟨v',e,a⟩:=h 0 d rfl
  cases e
  exact .cons a (lX (by simpa using hl) fun j d' hd=>h (j+1) d' (by simpa using hd))
section
variable {X:Cx}{α:Ev}{a b c:Expr}{p p0 pos pos2:Pos}
theorem pO {Q:List PyData→Prop}(hc:X.calm=true)(hgl:Gl X "list")(hml:X.mg "list"=none)(hg:Gl X "zip")(hm:X.mg "zip"=none)
  (h:EvA X α [a,b,c] fun as=>∃ds es fs,as=[.dat (.list ds),.dat (.list es),.dat (.list fs)]∧es.length=ds.length∧fs.length=ds.length∧0<ds.length∧ds.length≤1000∧Q (xM ds es fs))
  (hs0:starEach [.Call (.Name "zip" p) [a,b,c] [] pos2] X.env=[(false,eval (.Call (.Name "zip" p) [a,b,c] [] pos2) X.env)]:=by rfl)
  (hs:starEach [a,b,c] X.env=(false,eval a X.env)::starEach [b,c] X.env:=by rfl) (hpl:(backTo pos2 (starEach [b,c] X.env)).any (·.1)=false:=by rfl):
  EvL X α (.Call (.Name "list" p0) [.Call (.Name "zip" p) [a,b,c] [] pos2] [] pos) Q:=fun F σ H R m k=>by
 refine⟨_,qS hc hgl hml hg hm yv hs0 hs hpl,?_⟩
 refine h F σ H _ m fun as vs H1 q1 t1 k1 rv=>?_
 have m1:=m.kz k1 t1
 obtain⟨ds,es,fs,rfl,l2,l3,l0,lN,q⟩:=q1
 cases rv with
 |cons r1 rv=>
  cases rv with
  |cons r2 rv=>
   cases rv with
   |cons r3 rv=>
    cases rv
    obtain⟨a1,xs,rfl,g1,A1⟩:=AV.lst_inv r1
    obtain⟨a2,ys,rfl,g2,A2⟩:=AV.lst_inv r2
    obtain⟨a3,zs,rfl,g3,A3⟩:=AV.lst_inv r3
    have y1:=A1.length
    have y2:=A2.length
    have y3:=A3.length
    refine⟨a1,a2,a3,xs,ys,zs,rfl,SqL.of (zj g1).2,SqL.of (zj g2).2,SqL.of (zj g3).2,by omega,by omega,by omega,by omega,fun D H' vs hD st hD' tr=>?_⟩
    obtain⟨H'',sb,tri⟩:=tr
    have sm:zx H1 H':=fun a o e=>st a o e
    refine k _ _ H' q (t1.same sm) (k1.trans (Kz.of_same sm)) ⟨D,vs,rfl,?_,hD',?_⟩
    ·cases z:H D with
     |none=>rfl
     |some o=>rw[k1 D o z (m.tp.nt (ow0 (m1.fresh hD)))] at hD;cases hD
    ·have gs:zx (Gz F α σ H1) (sub (fun x=>¬Ow F α σ x∧x≠D) H'):=zr fun a o h e=>⟨⟨h,zk e hD⟩,st a o e⟩
     refine lX (by rw[tri.1,vQ l2 l3];exact y1) fun j d hd=>?_
     obtain⟨d1,d2,d3,e1,e2,e3,rfl⟩:=vT hd
     have hj:j<xs.length:=by rw[y1];exact (zm8.mp e1).1
     obtain⟨t,x,y,z,f1,f2,f3,f4,f5,f6⟩:=tri.2 j hj
     obtain⟨x',ex,ax⟩:=A1.get e1
     obtain⟨y',ey,ay⟩:=A2.get e2
     obtain⟨z',ez,az⟩:=A3.get e3
     rw[f2] at ex;cases ex
     rw[f3] at ey;cases ey
     rw[f4] at ez;cases ez
     obtain⟨nt,ht⟩:=sb t _ f5
     exact⟨_,f1,.tup (zR ⟨m1.fresh f6,nt⟩ ht) (.cons (ax.same gs) (.cons (ay.same gs) (.cons (az.same gs) .nil)))⟩
theorem tP :∀{ns:List Int} {its:List Value},Vals (ns.map V.int) its→∃ps:List (Int×Tok),its=ps.map (fun p=>Value.int p.1 p.2)∧ps.map (·.1)=ns
 |[],_,.nil=>⟨[],rfl,rfl⟩
 |n::ns,_,.cons h hs=>by
  obtain⟨ps,e1,e2⟩:=tP hs
  obtain⟨t,rfl⟩:=h
  exact⟨(n,t)::ps,by rw[e1];rfl,by rw[←e2];rfl⟩
theorem uW (ps:List (Int×Tok))(k:Nat):numAt ps.toArray k=(ps.map (·.1)).getD k 0:=by
 unfold numAt
 rw[List.getElem?_toArray,zn5,zo0]
theorem wC (ps:List (Int×Tok)):∀k,k≤ps.length→preSum (numAt ps.toArray) k=((ps.map (·.1)).take k).sum
 |0,_=>by simp[preSum]
 |k+1,h=>by
  have hk:k<(ps.map (·.1)).length:=by rw[zm6];omega
  rw[preSum,wC ps k (by omega),uW,zu8,zm9 hk,List.sum_append,zn5,zm9 hk]
  simp
def Fits (ns:List Int):Prop:=∀k,k≤ns.length→-(2 ^ 62)≤(ns.take k).sum∧(ns.take k).sum<2 ^ 62
theorem jy (hc:X.calm=true):yX X (.builtin "sum") (fun xs H Q=>∃(l:Addr) (ns:List Int),xs=[.ref l]∧SqL X.K H l (ns.map V.int)∧(∀n∈ns,-(2 ^ 62)≤n∧n<2 ^ 62)∧Fits ns∧Q (.int ns.sum) H):=by
 intro pins s σ H xs us Q I r h
 obtain⟨l,ns,rfl,hS,hb,hf,q⟩:=h
 obtain⟨u,rfl,rx⟩:=Vals.one r
 cases (show u=Value.ref l from rx)
 obtain⟨its,rv,p,hz⟩:=I.list hS
 obtain⟨ps,rfl,rfl⟩:=tP rv
 have hl:s.heap.IsList l (intItems ps.toArray):=by
  have:=p.isList
  rwa [show intItems ps.toArray=(ps.map fun p=>Value.int p.1 p.2).toArray by simp[intItems]]
 refine sum_intList (I.ok.hd hc) hl (fun j hj=>?_) fun h' tk t' hk=>?_
 ·have hj':j<ps.length:=by simpa using hj
  have hk:j<(ps.map (·.1)).length:=by rw[zm6];exact hj'
  rw[wC ps (j+1) (by omega),uW,zn5,zm9 hk]
  have h1:=hb _ (zy9 hk)
  have h2:=hf (j+1) (by omega)
  refine⟨⟨?_,?_⟩,?_,?_⟩
  ·show -(2 ^ 63)≤(ps.map (·.1))[j];omega
  ·show (ps.map (·.1))[j]<2 ^ 63;omega
  ·omega
  ·omega
 ·rw[show preSum (numAt ps.toArray) ps.toArray.size=(ps.map (·.1)).sum by
   rw[zn3,wC ps ps.length (zn0 _),←zm6 (f:=(·.1)) (as:=ps),zx0]]
  exact⟨.int _,H,I.kept (t':=tk) hk,⟨_,rfl⟩,q⟩
theorem dZ {Q:PyData→Prop}{e:Expr}(hc:X.calm=true)(hg:Gl X "sum")(hm:X.mg "sum"=none)(h:EvD X α e fun x=>∃ns:List Int,x=.list (ns.map .int)∧(∀n∈ns,-(2 ^ 62)≤n∧n<2 ^ 62)∧Fits ns∧Q (.int ns.sum))(he:starEach [e] X.env=(false,eval e X.env)::starEach [] X.env:=by rfl):
  EvD X α (.Call (.Name "sum" p) [e] [] pos) Q:=by
 refine vC (jy hc) hg hm boot_sum (zt (h.imp fun x ⟨ns,e1,hb,hf,q⟩=>zD ?_) he) (he:=he)
 intro F σ H vs R m rv k
 subst e1
 obtain⟨v,rfl,av⟩:=rv.one
 obtain⟨a,xs,rfl,h1,h2⟩:=av.lst_inv
 cases h2.ints
 exact⟨a,ns,rfl,SqL.of (zj h1).2,hb,hf,k _ _ H q m.tp Kz.refl (.int _)⟩
end
def xm :List Int→List Bool→List Int
 |z::zs,b::bs=>if b=true then xm zs bs else z::xm zs bs
 |_,_=>[]
theorem vR :∀{zs:List Int} {bs:List Bool} {z:Int},z∈xm zs bs→z∈zs
 |[],_,z,h=>by simp[xm] at h
 |y::zs,[],z,h=>by simp[xm] at h
 |y::zs,b::bs,z,h=>by
  rw[xm] at h
  split at h
  ·exact zn6 _ (vR h)
  ·rcases zn2.mp h with e|h
   ·rw[e];exact zo5
   ·exact zn6 _ (vR h)
theorem rE :∀(zs:List Int) (bs:List Bool),(xm zs bs).length≤zs.length
 |[],_=>by simp[xm]
 |y::zs,[]=>by simp[xm]
 |y::zs,b::bs=>by
  rw[xm]
  have:=rE zs bs
  split
  ·rw[zn7];omega
  ·rw[zn7,zn7];omega
theorem sum_bound :∀{ns:List Int} {m:Int},0≤m→(∀n∈ns,0≤n∧n≤m)→0≤ns.sum∧ns.sum≤ns.length*m
 |[],m,_,_=>by simp
 |n::ns,m,h0,h=>by
  obtain⟨a,b⟩:=sum_bound h0 fun x hx=>h x (zn6 _ hx)
  have:=h n zo5
  rw[List.sum_cons,zn7,Int.natCast_add,Int.add_mul]
  constructor
  ·omega
  ·simp;omega
theorem md {ns:List Int}(h:∀n∈ns,0≤n∧n≤1000000000000)(hl:ns.length≤1000):Fits ns:=fun k hk=>by
 obtain⟨a,b⟩:=sum_bound (ns:=ns.take k) (m:=1000000000000) (by decide) fun n hn=>h n (List.mem_of_mem_take hn)
 have:((ns.take k).length:Int)*1000000000000≤1000*1000000000000:=by
  apply Int.mul_le_mul_of_nonneg_right _ (by decide)
  rw[zs8];omega
 omega
def aw (p:Nat):PyData→PyData
 |.tuple [a,b,c]=>if p=1 then b else c
 |_=>.none
def uC :PyData→Bool
 |.tuple [_,_,.bool b]=>b
 |_=>false
theorem uM :∀{ds:List PyData} {zs:List Int} {bs:List Bool},zs.length=ds.length→bs.length=ds.length→((xM ds (zs.map .int) (bs.map .bool)).filter fun d=>!uC d).map (aw 1)=(xm zs bs).map .int
 |[],[],[],_,_=>rfl
 |d::ds,z::zs,b::bs,h1,h2=>by
  have ih:=uM (ds:=ds) (zs:=zs) (bs:=bs) (by simpa using h1) (by simpa using h2)
  rw[zp8,zp8,xM,xm,zw8]
  cases b with
  |true=>simpa[uC,cc] using ih
  |false=>simp[uC,cc,aw];exact ih
def mZ (d:PyData)(zs:List Int)(bs:List Bool):Prop:=(d=.none∧bs=List.replicate zs.length false)∨∃many free:Nat,d=.tuple [.int many,.int free]∧qJ zs many free zs.length bs
theorem mZ.len {d:PyData}{zs:List Int}{bs:List Bool}(h:mZ d zs bs):bs.length=zs.length:=by
 rcases h with ⟨_,rfl⟩|⟨_,_,_,h⟩
 ·simp
 ·exact h.1
section
variable {κ:Type}[DecidableEq κ]
def sD (kvs:List (κ×V))(k:κ):Option V:=(kvs.find? fun kv=>decide (kv.1=k)).map (·.2)
theorem tN {p:κ×V}{r:List (κ×V)}{k:κ}(e:p.1=k):sD (p::r) k=some p.2:=by simp[sD,zr8,e]
theorem uS {p:κ×V}{r:List (κ×V)}{k:κ}(e:¬p.1=k):sD (p::r) k=sD r k:=by simp[sD,zr8,e]
theorem wj.isSome_eq {o:Option V}{u:Option Value}(r:wj o u):o.isSome=u.isSome:=by
 cases o with
 |none=>cases u with
  |none=>rfl
  |some _=>exact (show False from r).elim
 |some _=>cases u with
  |none=>exact (show False from r).elim
  |some _=>rfl
theorem KV.val {kvs:List (κ×V)}{vs:List (κ×Value)}(r:KV kvs vs)(k:κ):wj (sD kvs k) (valueAt vs k):=by
 unfold KV at r
 induction r with
 |nil=>exact True.intro
 |@cons p q ps qs h t ih=>
  obtain⟨h1,h2⟩:=h
  by_cases e:p.1=k
  ·have e':q.1=k:=h1.symm.trans e
   have b:valueAt (q::qs) k=some q.2:=by simp[valueAt,zr8,e']
   rw[tN e,b];exact h2
  ·have e':¬q.1=k:=fun z=>e (h1.trans z)
   have b:valueAt (q::qs) k=valueAt qs k:=by simp[valueAt,zr8,e']
   rw[uS e,b];exact ih
end
theorem eG {P:Program}{w:World}{k:Key}{u:Value}(r:RelV (kV k) u):(yM P w).is k u=true:=by
 cases k with
 |inl i=>obtain⟨t,e⟩:=(show ∃t,u=Value.int i t from r);subst e;exact pM P w i t
 |inr x=>obtain⟨t,e⟩:=(show ∃t,u=Value.str x t from r);subst e;exact pU P w x t
theorem rG {P:Program}{w:World}:∀{ks:List Key} {us:List Value},Vals (ks.map kV) us→ItemsAre (yM P w) ks us
 |[],_,r=>by rw[List.map_nil] at r;cases r;exact .nil
 |k::ks,_,r=>by
  rw[zp8] at r
  cases r with
  |cons h t=>exact .cons (eG h) (rG t)
abbrev KT (H:Hp):List (List Key×V)→List (List Key×Addr×Value)→Prop:=Paired fun p q=>p.1=q.1∧H q.2.1=some (.tup (p.1.map kV))∧RelV p.2 q.2.2
theorem KT.val {H:Hp}{kvs:List (List Key×V)}{xs:List (List Key×Addr×Value)}(r:KT H kvs xs)(k:List Key):wj (sD kvs k) ((atKey xs k).map (·.2)):=by
 induction r with
 |nil=>exact True.intro
 |@cons p q ps qs h t ih=>
  obtain⟨h1,_,h2⟩:=h
  by_cases e:p.1=k
  ·have e':q.1=k:=h1.symm.trans e
   have b:atKey (q::qs) k=some q.2:=by simp[atKey,zr8,e']
   rw[tN e,b];exact h2
  ·have e':¬q.1=k:=fun z=>e (h1.trans z)
   have b:atKey (q::qs) k=atKey qs k:=by simp[atKey,zr8,e']
   rw[uS e,b];exact ih
section
variable {P:Program}{w:World}{H:Hp}{h:Heap}{a:Addr}
theorem bB {u:HO}(ok:HOk P w H h)(e:Rd H a u):zV P w H h a u:=e.ok ok
theorem gA {kvs:List (Key×V)}(ok:HOk P w H h)(e:Rd H a (.dK kvs)):kvs.length≤sizeLine∧(a == sysModules)=false∧∃vs,KV kvs vs∧h.DictOf (yM P w) a vs:=
 show zV P w H h a (.dK kvs) from bB ok e
theorem nW {ks:List Key}(ok:HOk P w H h)(e:H a=some (.tup (ks.map kV))):(tupleKind (yM P w)).is h ks a:=by
 obtain⟨_,its,r,o,h1,h2,n,h3⟩:=(show zV P w H h a (.tup (ks.map kV)) from ok a _ e)
 exact⟨o,its.toArray,n,h1,h2,h3,by simpa using rG r⟩
theorem gC {kvs:List (List Key×V)}(ok:HOk P w H h)(e:Rd H a (.dT kvs)):kvs.length≤sizeLine∧(a == sysModules)=false∧
  ∃xs,KT H kvs xs∧h.DictOfH (tupleKind (yM P w)) a xs:=by
 obtain⟨z,y,xs,r,o,es,ep,h1,h2,h3,h4,h5⟩:=(show zV P w H h a (.dT kvs) from bB ok e)
 refine⟨z,y,xs,r,o,es,ep,h1,h2,h3,h4,fun x hx=>?_,h5⟩
 have all:∀{l:List (List Key×V)} {m:List (List Key×Addr×Value)},KT H l m→∀x∈m,(tupleKind (yM P w)).is h x.1 x.2.1:=by
  intro l m q
  induction q with
  |nil=>intro x hx;exact nomatch hx
  |@cons p q ps qs hq t ih=>
   intro x hx
   rcases zn2.mp hx with e|hx
   ·subst e
    exact nW ok (by rw[←hq.1];exact hq.2.1)
   ·exact ih x hx
 exact all r x hx
end
def eJ (H:Hp)(a:Addr)(y:V)(r:Option V):Prop:=
 (∃kvs k,Rd H a (.dK kvs)∧y=kV k∧r=sD kvs k)∨∃kvs k b,Rd H a (.dT kvs)∧y=.ref b∧H b=some (.tup (k.map kV))∧r=sD kvs k
section
variable {X:Cx}{pins:List (Addr×Obj)}{σ:St}{H:Hp}{s:Shared}{a:Addr}{y v:V}{u r:Value}{o:Option V}{A:Around}{E:Value→Shared→Prop}
theorem kF {Q:Value→Shared→Prop}(hu:A.units+1<cLine)(I:Inv X pins σ H s)(g:eJ H a y (some v))(ry:RelV y u)(h:∀w' s',Inv X pins σ H s'→RelV v w'→Q w' s'):
  wpAny (model X.prog X.w) A (getItem (.ref a) u) Q E s:=by
 rcases g with ⟨kvs,k,e,ey,l⟩|⟨kvs,k,b,e,ey,eb,l⟩
 ·subst ey
  obtain⟨z,hd,vs,rel,dd⟩:=gA I.hok e
  obtain⟨w',hw,rw'⟩:=wj.some_of (v:=v) (o:=valueAt vs k) (by rw[l];exact rel.val k)
  exact wpAny_getItem_of (eG ry) dd.mapOf hw (h w' _ (I.tok _) rw')
 ·subst ey
  cases (show u=Value.ref b from ry)
  obtain⟨z,hd,xs,rel,dd⟩:=gC I.hok e
  obtain⟨w',hw,rw'⟩:=wj.some_of (v:=v) (o:=(atKey xs k).map (·.2)) (by rw[l];exact rel.val k)
  obtain⟨p,hp,hp2⟩:=zp0.mp hw
  refine wpAny_getItem_heap (tupleKind_room_in1 hu) (nW I.hok eb) dd hp ?_
  rw[hp2]
  exact h w' _ (I.tok _) rw'
theorem zk1 {Q:Value→Shared→Prop}(hu:A.units+1<cLine)(I:Inv X pins σ H s)(g:eJ H a y o)(ry:RelV y u)(h:∀s',Inv X pins σ H s'→Q (.bool o.isSome) s'):
  wpAny (model X.prog X.w) A (compareOp .In u (.ref a)) Q E s:=by
 rcases g with ⟨kvs,k,e,ey,l⟩|⟨kvs,k,b,e,ey,eb,l⟩
 ·subst ey
  obtain⟨z,hd,vs,rel,dd⟩:=gA I.hok e
  refine wpAny_in_of (eG ry) hd dd.mapOf ?_
  rw[←(rel.val k).isSome_eq,←l]
  exact h _ (I.tok _)
 ·subst ey
  cases (show u=Value.ref b from ry)
  obtain⟨z,hd,xs,rel,dd⟩:=gC I.hok e
  refine wpAny_in_heap (tupleKind_room_in1 hu) (nW I.hok eb) hd dd ?_
  have q:=(rel.val k).isSome_eq
  rw[Option.isSome_map] at q
  rw[←q,←l]
  exact h _ (I.tok _)
end
section
variable {X:Cx}{pins:List (Addr×Obj)}{σ:St}{H:Hp}{s:Shared}{a:Addr}{kvs:List (Key×V)}{k:Key}{u:Value}{A:Around}{E:Value→Shared→Prop}
end
theorem qY {X:Cx}{pins:List (Addr×Obj)}{σ:St}{H:Hp}{s:Shared}{a:Addr}{y:V}{o:Option V}(I:Inv X pins σ H s)(g:eJ H a y o):s.TypeIs (.ref a) "dict":=by
 rcases g with ⟨kvs,k,e,_,_⟩|⟨kvs,k,b,e,_,_,_⟩
 ·obtain⟨_,_,vs,_,dd⟩:=gA I.hok e
  exact dd.typeIs
 ·obtain⟨_,_,xs,_,dd⟩:=gC I.hok e
  exact dd.typeIs
section
variable {X:Cx}{o i e value:Expr}{pos pos' tpos:Pos}{td ty tv:TE}
end
section
variable {X:Cx}{pos:Pos}
end
section
variable {X:Cx}{pins:List (Addr×Obj)}{σ:St}{H:Hp}{s:Shared}{a:Addr}{y d:V}{u r:Value}{o:Option V}{A:Around}{E:Value→Shared→Prop}
end
section
variable {X:Cx}{o e f:Expr}{apos cpos:Pos}{td ty tx:TE}
end
section
variable {X:Cx}{pins:List (Addr×Obj)}{σ:St}{H:Hp}{s:Shared}{a:Addr}{kvs:List (Key×V)}{A:Around}{E:Value→Shared→Prop}
end
section
variable {X:Cx}{pins:List (Addr×Obj)}{σ:St}{H:Hp}{s:Shared}{a:Addr}{y:V}{u:Value}{A:Around}{E:Value→Shared→Prop}
end
def kEq :PyData→Key→Bool
 |.int i,.inl j=>decide (i=j)
 |.str x,.inr y=>decide (x=y)
 |_,_=>false
theorem fN (k j:Key):kEq (jL k) j=decide (k=j):=by
 cases k<;>cases j<;>simp[kEq,jL]
def cq :List (PyData×PyData)→Key→Option PyData
 |[],_=>none
 |(p,d)::r,k=>if kEq p k=true then some d else cq r k
theorem AVk.get {H:Hp}:∀{kvs:List (Key×V)} {ds:List (PyData×PyData)} {k:Key} {d:PyData},AVk H kvs ds→cq ds k=some d→∃v,sD kvs k=some v∧AV H v d
 |_,_,k,d,.nil,e=>by cases e
 |_,_,k,d,.cons (k:=j) h r,e=>by
  unfold cq at e
  rw[fN] at e
  by_cases z:j=k
  ·rw[zp7 z,if_pos rfl] at e
   cases e
   exact⟨_,tN z,h⟩
  ·rw[zp5 z,if_neg (by decide)] at e
   rw[uS z]
   exact AVk.get r e
theorem dX {H:Hp}{v:V}{k:Key}(h:AV H v (jL k)):v=kV k:=by
 cases k with
 |inl i=>exact h.int_inv
 |inr x=>exact h.str_inv
theorem AV.dk_inv {H:Hp}{v:V}{ds:List (PyData×PyData)}(h:AV H v (cu ds)):∃a o kvs,v=.ref a∧H a=some (.frz o (.dK kvs))∧AVk H kvs ds:=by
 generalize e:cu ds=d at h
 cases h with
 |dk h1 h2=>cases e;exact⟨_,_,_,rfl,h1,h2⟩
 |_=>cases e
section
variable {X:Cx}{pins:List (Addr×Obj)}{σ:St}{H:Hp}{s:Shared}{l:Addr}{kvs:List (Key×V)}
end
section
variable {X:Cx}{e:Expr}{sts:List Stmt}
end
section
variable {X:Cx}{α:Ev}{e a b:Expr}{pos p:Pos}{Q:PyData→Prop}
end
section
variable {X:Cx}{α:Ev}{e a b:Expr}{pos p:Pos}{Q:PyData→Prop}
end
section
variable {X:Cx}{tg:Expr}
end
section
variable {X:Cx}{α:Ev}{e a b tg:Expr}{pos p:Pos}{Q:List PyData→Prop}
end
mutual
def ltD :PyData→PyData→Option Bool
 |.int a,.int b=>some (decide (a<b))
 |.str a,.str b=>some (decide (a.cps.toList<b.cps.toList))
 |.tuple xs,.tuple ys=>zf0 xs ys
 |_,_=>none
def zf0 :List PyData→List PyData→Option Bool
 |[],[]=>some false
 |[],_::_=>some true
 |_::_,[]=>some false
 |x::xs,y::ys=>if PyData.eqv x y=true then zf0 xs ys else ltD x y
end
section
open PySem.SeqAt
open PySem.AutoSeq1 (wpAny_loadPart')
open PySem.MeetsSeq PySem.MeetsSeq2 PySem.MeetsSeq3
end
section
variable {prog:Program}{w:World}{A:Around}{R:Result→Shared→Prop}{it:Addr}{fp wr:List Addr}{m:Nat}{P:Nat→Value→Prop}{St:Nat→Heap→Prop}
end
section
variable {prog:Program}{w:World}{A:Around}{E:Value→Shared→Prop}{s:Shared}
end
section
variable {X:Cx}{α:Ev}{e:Expr}{pos p:Pos}{Q:PyData→Prop}
end
section
variable {prog:Program}{w:World}{A:Around}{E:Value→Shared→Prop}{s:Shared}{it l:Addr}{items:Array Value}
end
section
variable {X:Cx}{α:Ev}{a e c:Expr}{p p0 pos pos2:Pos}{Q:List PyData→Prop}
end
def jj (Q:PyData→Prop):List PyData→Prop
 |[]=>True
 |d::r=>Q d∧jj Q r
theorem jj.mem {Q:PyData→Prop}:∀{ds:List PyData},jj Q ds→∀d∈ds,Q d
 |[],_,d,h=>by cases h
 |x::r,h,d,hd=>by
  rcases zn2.mp hd with rfl|hd
  ·exact h.1
  ·exact jj.mem h.2 d hd
theorem iJ {x:PyData}{ds:List PyData}{v:Int}{Q:PyData→Prop}(P:PyData→Prop)(hx:vU x=some ds)(h0:0≤v)(h1:v<ds.length)(h:jj P ds)(k:∀d,P d→Q d):∃ds i d,vU x=some ds∧PyData.int v=.int i∧atI ds i=some d∧Q d:=by
 obtain⟨d,hd,e⟩:=zf2 h0 h1
 exact⟨ds,v,d,hx,rfl,e,k d (h.mem d hd)⟩
section
variable {X:Cx}{α:Ev}{e a b:Expr}{pos p:Pos}{E:xg}{rest:List Stmt}
end
def zd8 :R2:=fun x y H R=>rEq x y H R∨zg9 x y H R
def zg1 :R2:=fun x y H R=>rNe x y H R∨zg3 x y H R
theorem aV {X:Cx}(hu:X.A.units+64<cLine):OpR X (compareOp .Eq) zd8:=fun pins s σ H x y v u Q I rx ry h=>h.elim (fun h=>wa _ _ _ _ _ _ _ _ _ I rx ry h) fun h=>wu hu _ _ _ _ _ _ _ _ _ I rx ry h
theorem aI {X:Cx}(hu:X.A.units+64<cLine):OpR X (compareOp .NotEq) zg1:=fun pins s σ H x y v u Q I rx ry h=>h.elim (fun h=>zg5 _ _ _ _ _ _ _ _ _ I rx ry h) fun h=>zb0 hu _ _ _ _ _ _ _ _ _ I rx ry h
theorem dR {i j:Str}:Cmp rNe (.str i) (.str j) (!decide (i=j)):=fun p H vx vy R rx ry h=>by
 cases rx.str_inv;cases ry.str_inv
 refine⟨rfl,?_⟩
 rw[show decide (V.str i=V.str j)=decide (i=j) by simp]
 exact h
def gJ (x y:PyData)(Q:Bool→Prop):Prop:=∃k,Cmp zd8 x y k∧Cmp zg1 x y (!k)∧Q k
theorem uK {i j:Str}{Q:Bool→Prop}(h:Q (decide (i=j))):gJ (.str i) (.str j) Q:=⟨_,fun p H vx vy R rx ry z=>.inl (mM p H vx vy R rx ry z),fun p H vx vy R rx ry z=>.inl (dR p H vx vy R rx ry z),h⟩
theorem eqk {x y:PyData}{Q:Bool→Prop}(s1:SeqAt.shaped x=true)(s2:SeqAt.shaped y=true)(d1:x.hasDict=false)(d2:y.hasDict=false)(h:Q (PyData.eqv x y)):gJ x y Q:=
 ⟨_,fun p H vx vy R rx ry z=>.inr ⟨x,y,(rx.dv d1).same xO,(ry.dv d2).same xO,s1,s2,z⟩,fun p H vx vy R rx ry z=>.inr ⟨x,y,(rx.dv d1).same xO,(ry.dv d2).same xO,s1,s2,z⟩,h⟩
section
variable {X:Cx}{α:Ev}{a b:Expr}{pos:Pos}{Q:PyData→Prop}{T:Bool→Prop}
theorem zc2 (hu:X.A.units+64<cLine)(h:EvD X α a fun x=>EvD X α b fun y=>gJ x y fun k=>Q (.bool k)):EvD X α (.Compare a [.Eq] [b] pos) Q:=aL (aV hu) (zF _) (h.imp fun x h=>h.imp fun y ⟨k,e,_,q⟩=>⟨k,e,q⟩)
theorem aA (hu:X.A.units+64<cLine)(h:EvD X α a fun x=>EvD X α b fun y=>gJ x y fun k=>T (!k)):EvT X α (.Compare a [.NotEq] [b] pos) T:=vY (aI hu) (zF _) (h.imp fun x h=>h.imp fun y ⟨k,_,e,q⟩=>⟨!k,e,q⟩)
theorem pY {k:Bool}{p q:Prop}(e:k=true)(h:p):if k=true then p else q:=by rw[if_pos e];exact h
theorem uq {k:Bool}{p q:Prop}(e:k=false)(h:q):if k=true then p else q:=by rw[if_neg (by rw[e];decide)];exact h
variable {E:xg}{s t:List Stmt}
theorem vv {k:Bool}(e:k=true)(h:SvS X α s E):SvS X α (if k=true then s else t) E:=by rw[if_pos e];exact h
theorem xS {k:Bool}(e:k=false)(h:SvS X α t E):SvS X α (if k=true then s else t) E:=by rw[if_neg (by rw[e];decide)];exact h
end
section
variable {X:Cx}{α:Ev}{a b:Expr}{pos:Pos}{Q:PyData→Prop}{T:Bool→Prop}
def zf5 :R2:=fun x y H Q=>∃a v,x=.ref a∧eJ H a y (some v)∧Q v H
theorem cF (hu:X.A.units+1<cLine):IxR X zf5:=fun value slice pins s σ H x y v u Q I rx ry h hs=>by
 obtain⟨a,z,rfl,g,q⟩:=h
 cases rx
 exact tail_any (qY I g) PySem.F.slot_dict_getitem.lookup (kF hu I g ry fun w' s' I' r'=>⟨z,H,I',r',q⟩) hs
def du (x y:PyData)(Q:PyData→Prop):Prop:=(∃ds i d,vU x=some ds∧y=.int i∧atI ds i=some d∧Q d)∨∃ds k d,x=cu ds∧y=jL k∧cq ds k=some d∧Q d
theorem ixk {x y:PyData}{ds:List PyData}{i:Int}{d:PyData}(h1:vU x=some ds)(h2:y=.int i)(h3:atI ds i=some d)(h:Q d):du x y Q:=.inl ⟨ds,i,d,h1,h2,h3,h⟩
theorem zj2 {x:PyData}{ds:List PyData}{v:Int}(P:PyData→Prop)(hx:vU x=some ds)(h0:0≤v)(h1:v<ds.length)(h:jj P ds)(k:∀d,P d→Q d):du x (.int v) Q:=.inl (iJ P hx h0 h1 h k)
theorem aq (hu:X.A.units+1<cLine)(hs:rH b)(h:EvD X α a fun x=>EvD X α b fun y=>du x y Q):EvD X α (.Subscript a b pos) Q:=by
 refine tH (f:=tOp (fun x y H Q=>rIx X.K x y H Q∨zf5 x y H Q)) (zJ (zc6.or (cF hu)) zl zl hs) (fun _ _ _=>Iff.rfl) (h.imp fun x h=>h.imp fun y h=>?_)
 intro F σ H vx vy R m rx ry k
 rcases h with ⟨ds,i,d,e1,rfl,hat,hq⟩|⟨ds,kk,d,rfl,rfl,hv,hq⟩
 ·cases ry.int_inv
  cases x with
  |list ds'=>
   cases e1
   obtain⟨a,xs,rfl,h1,h2⟩:=rx.lst_inv
   obtain⟨v,hv,av⟩:=h2.atI hat
   exact .inl (.inl ⟨a,xs,i,v,rfl,rfl,SqL.of (zj h1).2,hv,k d v H hq m.tp Kz.refl av⟩)
  |tuple ds'=>
   cases e1
   obtain⟨a,xs,rfl,h1,h2⟩:=rx.tup_inv
   obtain⟨v,hv,av⟩:=h2.atI hat
   exact .inl (.inr (.inl ⟨a,xs,i,v,rfl,rfl,SqT.of (zj h1).2,hv,k d v H hq m.tp Kz.refl av⟩))
  |_=>cases e1
 ·obtain⟨a,o,kvs,rfl,g1,g2⟩:=rx.dk_inv
  obtain⟨v,w1,w2⟩:=g2.get hv
  cases dX ry
  exact .inr ⟨a,v,rfl,.inl ⟨kvs,kk,.inr ⟨o,(zj g1).2⟩,rfl,w1.symm⟩,k d v H hq m.tp Kz.refl w2⟩
def bQ (K:PySem.W.Frag)(neg:Bool):R2:=fun x y H Q=>rIn K neg x y H Q∨∃a o,y=.ref a∧eJ H a x o∧Q (.bl (if neg then !o.isSome else o.isSome)) H
theorem ai (hu:X.A.units+1<cLine):OpR X (compareOp .In) (bQ X.K false):=fun pins s σ H x y v u Q I rx ry h=>by
 rcases h with h|⟨a,o,rfl,g,q⟩
 ·exact kg pins s σ H x y v u Q I rx ry h
 ·cases ry
  exact zk1 hu I g rx fun s' I'=>⟨.bl o.isSome,H,I',rfl,q⟩
def aY (X:Cx)(x y:PyData)(Q:Bool→Prop):Prop:=∃k,Cmp (bQ X.K false) x y k∧Cmp (bQ X.K true) x y (!k)∧Q k
theorem ink {x:PyData}{ds:List PyData}(f1:sf x=true)(f2:ds.all sf=true)(q:T (inD x ds)):aY X x (.list ds) T:=
 ⟨_,fun p H vx vy R rx ry h=>.inl (iY (X:=X) (neg:=false) f1 f2 p H vx vy R rx ry h),fun p H vx vy R rx ry h=>.inl (iY (X:=X) (neg:=true) f1 f2 p H vx vy R rx ry h),q⟩
theorem zc0 (hu:X.A.units+1<cLine)(h:EvD X α a fun x=>EvD X α b fun y=>aY X x y T)(hm:behindInMarks .In b=false:=by rfl):EvT X α (.Compare a [.In] [b] pos) T:=
 vY (ai hu) hm (h.imp fun x h=>h.imp fun y ⟨k,e,_,q⟩=>⟨k,e,q⟩)
end
theorem zE.one {k:Nat}{A:Around}(h:zE k A):A.units+1<cLine:=by have:=h.units;omega
section
variable {X:Cx}{α:Ev}{E:xg}{rest body:List Stmt}{e c tg iter:Expr}{pos p:Pos}
theorem qA (pat:Pat)(h:EvI X α tg iter fun ds=>uj X pat body rest E ds α)(hN:X.N.Nodup:=by assumption)(hp:PassesOwn (model X.prog X.w) X.A X.env X.xe:=by exact zu3)(hc:X.calm=true:=by rfl)
  (hg:PG X tg (nZ X.K pat):=by first|exact zY (by assumption) rfl (Or.inl rfl)|exact zY (by assumption) rfl (Or.inr rfl)|exact vp rfl rfl (by repeat (first|exact uJ|refine xG (by first|exact zY (by assumption) rfl (Or.inl rfl)|exact zY (by assumption) rfl (Or.inr rfl)) ?_)))
  (hs:∀x,foldedSetIterable iter X.env x=pure x:=by intro _;rfl):SvS X α (.For tg iter body [] pos::rest) E:=vh hp hc hg h hs
def freeOk (xs:Scope)(y:Str×NameKind):Bool:=match y.2 with
 |.free=>match xs.names.lookup y.1 with
  |some .cell=>true
  |some .free=>true
  |_=>false
 |_=>true
theorem iI {xs scope:Scope}(h:scope.names.all (freeOk xs)=true):∀y∈scope.names,y.2=.free→xs.names.lookup y.1=some .cell∨xs.names.lookup y.1=some .free:=fun y hy e=>by
 have:=zv3.mp h y hy
 unfold freeOk at this
 rw[e] at this
 cases z:xs.names.lookup y.1 with
 |none=>rw[z] at this;cases this
 |some k=>
  rw[z] at this
  cases k<;>first|exact .inl rfl|exact .inr rfl|cases this
theorem aj (N:List Str)(imp:List (Option Nat))(pat:Pat){scope:Scope}{elt:Expr}{ifs:List Expr}{Q:List PyData→Prop}(h:EvI X α tg iter fun ds=>ds.length≤1000∧yU (fun C s2 H2 fp=>X.comp N scope C s2 H2 fp) pat ifs elt (yI imp α) ds [] Q)
  (nd:N.Nodup:=by decide +kernel) (h1:scope.kind=.function:=by rfl) (h2:∀y∈scope.names,y.2≠.cell:=by decide +kernel) (h3:∀y∈scope.names,y.2=.local→scope.names.lookup y.1=some .local:=by decide +kernel) (h4:scope.names.all (freeOk X.env.scope)=true:=by rfl) (h5:imp.length=N.length:=by rfl)
  (h6:((imp.zip N).all fun p=>match p.1 with|none=>true|some j=>X.N[j]? == some p.2&&scope.names.lookup p.2 == some .free)=true:=by rfl) (hfree:pat.free (yI imp α)=true:=by rfl)
  (hg:∀C s2 H2 fp,N.Nodup→PG (X.comp N scope C s2 H2 fp) tg (nZ X.K pat):=by intro _ _ _ _ hnd;first|exact zY hnd rfl (Or.inl rfl)|exact vp rfl rfl (by repeat (first|exact uJ|refine xG (zY hnd rfl (Or.inl rfl)) ?_)))
  (hc:X.calm=true:=by rfl) (hs:∀x,foldedSetIterable iter X.env x=pure x:=by intro _;rfl):EvL X α (.ListComp elt [⟨tg,iter,ifs,0⟩] scope pos) Q:=fV hc ⟨h1,nd,h2,h3,iI h4,h5,h6⟩ hfree (fun C s2 H2 fp=>hg C s2 H2 fp nd) h hs
end
section
variable {Y:Addr→Shared→Hp→List Addr→Cx}{pat:Pat}{ifs:List Expr}{elt:Expr}{α0:Ev}{ι:Type}{g f:ι→PyData}{l:List ι}{acc:List PyData}{Q:List PyData→Prop}
theorem ff (p:ι→Bool)(f:ι→PyData)(hs:∀x∈l,∃α1,pat.bind (g x) α0=some α1∧(∀C s2 H2 fp (Q:Bool→Prop),Q (p x)→kH (Y C s2 H2 fp) α1 ifs Q)∧(p x=true→∀C s2 H2 fp (Q:PyData→Prop),Q (f x)→EvD (Y C s2 H2 fp) α1 elt Q))
  (hd:Q (acc++(l.filter p).map f)):yU Y pat ifs elt α0 (l.map g) acc Q:=by
 induction l generalizing acc with
 |nil=>
  show Q acc
  simpa using hd
 |cons d ds ih=>
  obtain⟨α1,e,h1,h2⟩:=hs d zo5
  refine⟨α1,e,fun C s2 H2 fp=>h1 C s2 H2 fp _ ?_⟩
  have ih':=fun acc=>ih (acc:=acc) fun d hd=>hs d (zn6 _ hd)
  cases hp:p d with
  |true=>
   rw[if_pos rfl]
   refine fun C s2 H2 fp=>h2 hp C s2 H2 fp _ (ih' _ ?_)
   simpa[zw8,hp] using hd
  |false=>
   rw[if_neg (by decide)]
   refine ih' _ ?_
   simpa[zw8,hp] using hd
theorem jx (f:ι→PyData)(hs:∀x∈l,∃α1,pat.bind (g x) α0=some α1∧∀C s2 H2 fp (Q:PyData→Prop),Q (f x)→EvD (Y C s2 H2 fp) α1 elt Q)(hd:Q (acc++l.map f)):yU Y pat [] elt α0 (l.map g) acc Q:=
 ff (fun _=>true) f (fun x hx=>by
  obtain⟨α1,h1,h2⟩:=hs x hx
  exact⟨α1,h1,fun _ _ _ _ _ k=>nA k,fun _=>h2⟩) (by rw[List.filter_eq_self.mpr fun _ _=>rfl];exact hd)
end
section
variable {co:Co}{N:Nat}
end
theorem je (ds:List PyData){a:Int}(h:0≤a):cutD ds (some a) none=ds.drop a.toNat:=by
 obtain⟨n,rfl⟩:=zt6 h
 unfold cutD
 rw[HT.eU,HT.fg,zy5]
 rcases Nat.le_total n ds.length with z|z
 ·rw[Nat.min_eq_left z,List.take_of_length_le (by rw[List.length_drop];omega)]
 ·rw[Nat.min_eq_right z,List.drop_eq_nil_of_le (zn0 _),List.drop_eq_nil_of_le z,List.take_nil]
section
variable {co:Co}{N:Nat}
end
section
variable {X:Cx}{α:Ev}{a b e:Expr}{pos p:Pos}{Q:PyData→Prop}
end
section
variable {X:Cx}{α:Ev}{a b c e:Expr}{pos p:Pos}{Q:PyData→Prop}{T:Bool→Prop}
theorem fG {op op':CmpOp}{g g':Int→Int→Bool}(ho:OpR X (compareOp op) (rI0 fun i j=>.bl (g i j)))(ho':OpR X (compareOp op') (rI0 fun i j=>.bl (g' i j)))(hm:lastMarks [op,op'] [b,c]=false)
  (h:EvD X α a fun x=>EvD X α b fun y=>∃i j,x=.int i∧y=.int j∧(if g i j=true then EvD X α c fun z=>∃k,z=.int k∧T (g' j k) else T false)):EvT X α (.Compare a [op,op'] [b,c] pos) T:=fun F σ H R m k=>by
 refine⟨_,ik ho ho' zl zl zl hm,?_⟩
 refine h F σ H _ m fun x vx H1 q1 t1 k1 r1=>?_
 have m1:=m.kz k1 t1
 refine q1 F σ H1 _ m1 fun y vy H2 q2 t2 k2 r2=>?_
 obtain⟨i,j,e1,e2,hq⟩:=q2
 subst e1 e2
 cases r1.int_inv;cases r2.int_inv
 have m2:=m1.kz k2 t2
 refine⟨i,j,rfl,rfl,_,rfl,?_⟩
 cases hg:g i j with
 |true=>
  rw[hg] at hq
  refine vS ?_
  refine (by simpa using hq:EvD X α c _) F σ H2 _ m2 fun z vz H3 q3 t3 k3 r3=>?_
  obtain⟨kk,rfl,hq3⟩:=q3
  cases r3.int_inv
  exact⟨j,kk,rfl,rfl,_,rfl,k _ H3 hq3 t3 ((k1.trans k2).trans k3)⟩
 |false=>
  rw[hg] at hq
  exact uw ⟨_,rfl,k _ H2 (by simpa using hq) t2 (k1.trans k2)⟩
theorem lC (h:EvD X α a fun x=>EvD X α b fun y=>∃i j,x=.int i∧y=.int j∧(if decide (i≤j)=true then EvD X α c fun z=>∃k,z=.int k∧T (decide (j<k)) else T false))(hm:lastMarks [.LtE,.Lt] [b,c]=false:=by rfl):EvT X α (.Compare a [.LtE,.Lt] [b,c] pos) T:=fG uh bE hm h
theorem gS (h:EvD X α a fun x=>EvD X α b fun y=>∃i j,x=.int i∧y=.int j∧(if decide (i≤j)=true then EvD X α c fun z=>∃k,z=.int k∧Q (.bool (decide (j≤k))) else Q (.bool false)))(hm:lastMarks [.LtE,.LtE] [b,c]=false:=by rfl):EvD X α (.Compare a [.LtE,.LtE] [b,c] pos) Q:=ee uh uh hm h
end
section
variable {X:Cx}{α:Ev}{a b c e:Expr}{pos p p2 pos2:Pos}{Q:PyData→Prop}{T:Bool→Prop}
end
section
variable {X:Cx}{α:Ev}{a b c d e:Expr}{pos p:Pos}{ta tb tc td:TE}{T:Bool→Prop}
end
section
variable {X:Cx}{α:Ev}{a b c d e:Expr}{pos p:Pos}{T:Bool→Prop}
end
abbrev lO (X:Cx)(P:Program)(w:World)(K:PySem.W.Frag)(mg:Str→Option Value)(base:Heap):Prop:=X.prog=P∧X.w=w∧X.K=K∧X.mg=mg∧X.base=base
section
variable {X:Cx}{α:Ev}{e o:Expr}{es:List Expr}{pos p apos:Pos}{Q:PyData→Prop}{k:Nat}{φ:List A→(A→Prop)→Prop}{x m:Str}{C:Addr}{pl:Sem Bool}{P:Program}{w:World}{K:PySem.W.Frag}{mg:Str→Option Value}{base:Heap}
theorem cE (D:Cal P w K mg base x k φ)(hX:lO X P w K mg base)(hr:zE k X.A)(hg:Gl X x)(h:EvA X α (e::es) fun as=>φ as fun a=>Q a.d)
  (hdb:(x == ("__debug__":Str))=false:=by decide) (he:starEach (e::es) X.env=(false,eval e X.env)::starEach es X.env:=by rfl) (hpl:(backTo pos (starEach es X.env)).any (·.1)=false:=by rfl):EvD X α (.Call (.Name x p) (e::es) [] pos) Q:=by
 obtain⟨rfl,rfl,rfl,rfl,rfl⟩:=hX
 exact rL D hr hg h hdb he hpl
theorem gL (D:kr P w K mg base x k [] φ)(hX:lO X P w K mg base)(hr:zE (k+1) X.A)(hg:Gl X x)(h:EvA X α (e::es) fun as=>φ as fun a=>Q a.d)
  (hdb:(x == ("__debug__":Str))=false:=by decide) (he:starEach (e::es) X.env=(false,eval e X.env)::starEach es X.env:=by rfl) (hpl:(backTo pos (starEach es X.env)).any (·.1)=false:=by rfl):EvN X α (.Call (.Name x p) (e::es) [] pos) Q:=by
 obtain⟨rfl,rfl,rfl,rfl,rfl⟩:=hX
 exact de D hr hg h hdb he hpl
theorem ia (D:xK P w K mg base C m k φ)(hX:lO X P w K mg base)(hr:zE k X.A)(h:EvD X α o fun x=>∃fs,x=wy C fs∧vM fs m=none∧EvA X α (e::es) fun as=>φ (.dat (wy C fs)::as) fun a=>Q a.d)
  (hst:starEach (e::es) X.env=(false,eval e X.env)::starEach es X.env:=by rfl) (hpl:(backTo pos (starEach es X.env)).any (·.1)=false:=by rfl)
  (ht:eval (.Call (.Attribute o m apos) (e::es) [] pos) X.env=(do
   let ov ←eval o X.env
   standAt apos.atName
   let (f,first) ←holding [ov] (getMethod ov m pl)
   callWith pos f first (backTo pos (starEach (e::es) X.env)) (backToKw pos (keywordEach [] X.env))):=by rfl):EvD X α (.Call (.Attribute o m apos) (e::es) [] pos) Q:=by
 obtain⟨rfl,rfl,rfl,rfl,rfl⟩:=hX
 exact wV D hr h hst hpl ht
theorem jC (D:xK P w K mg base C m k φ)(hX:lO X P w K mg base)(hr:zE k X.A)(h:EvD X α o fun x=>∃fs,x=wy C fs∧vM fs m=none∧φ [.dat (wy C fs)] fun a=>Q a.d)
  (ht:eval (.Call (.Attribute o m apos) [] [] pos) X.env=(do
   let ov ←eval o X.env
   standAt apos.atName
   let (f,first) ←holding [ov] (getMethod ov m pl)
   callWith pos f first (backTo pos (starEach [] X.env)) (backToKw pos (keywordEach [] X.env))):=by rfl):EvD X α (.Call (.Attribute o m apos) [] [] pos) Q:=by
 obtain⟨rfl,rfl,rfl,rfl,rfl⟩:=hX
 exact uN D hr h ht
end
section
variable {X:Cx}{α:Ev}{pos:Pos}{Q:PyData→Prop}
end
structure Moved (fs:List Addr)(e:Addr)(ts:List Addr)(h h':Heap):Prop where
 keep:∀b o,b≠e→b∉ts→b∉fs→h.get? b=some o→h'.get? b=some o
 slot:∀b o,b∈fs→h.get? b=some o→∃sl,h'.get? b=some {o with slots:=sl}
 exc:∀o vs,h.get? e=some o→o.data=.fields vs→∃o' vs',h'.get? e=some o'∧o'.cls=o.cls∧o'.dict=o.dict∧o'.data=.fields vs'
 there:∀b o,h.get? b=some o→∃o',h'.get? b=some o'
def Ent (h base:Heap)(e T:Addr)(fl:Value):Prop:=
 ∃oe vs oT tv,h.get? e=some oe∧oe.data=.fields vs∧vs[1]?=some (.ref T)∧T≠e∧base.get? T=none∧h.get? T=some oT∧oT.data=.fields tv∧tv[3]?=some fl
def Beg (h base:Heap)(e:Addr)(ts:List Addr):Prop:=
 (ts=[]∧∃oe vs,h.get? e=some oe∧oe.data=.fields vs∧vs[1]?=some .none)∨∃T,ts=[T]∧Ent h base e T .none
theorem uH {base h:Heap}{l:List Env}{b:Addr}(hl:h.FunFrames base l)(hb:b∈frs l):base.get? b=none∧∃o,h.get? b=some o∧∀vs,o.data≠.fields vs:=hl.mem hb
section
variable {M:Model}{A:Around}{E:Value→Shared→Prop}{s:Shared}
theorem wM (o:Obj)(f:Array Value→Array Value):(o.mapFields f).cls=o.cls∧(o.mapFields f).dict=o.dict:=by
 obtain⟨c,d,dt,sl⟩:=o
 cases dt<;>exact⟨rfl,rfl⟩
theorem sR {fs:List Addr}{e T:Addr}{h:Heap}{oT:Obj}{tv:Array Value}{f:Array Value→Array Value}(hT:h.get? T=some oT)(hd:oT.data=.fields tv)(hfs:∀b∈fs,b≠T):Moved fs e [T] h (h.update T (Obj.mapFields f)) where
 keep:=fun b o _ hb _ q=>by
  rw[zn9 _ _ (fun z=>hb (by rw[←z];exact zo8.mpr rfl))]
  exact q
 slot:=fun b o hb q=>⟨o.slots,by rw[zn9 _ _ (zp4 (hfs b hb))];exact q⟩
 exc:=fun o vs q d=>by
  by_cases z:T=e
  ·subst z
   rw[hT] at q;cases q
   refine⟨_,_,zr4 _ hT (zu4 (zt9 hd _)),(wM _ _).1,(wM _ _).2,zt9 hd _⟩
  ·exact⟨o,vs,by rw[zn9 _ _ z];exact q,rfl,rfl,d⟩
 there:=fun b o q=>by
  by_cases z:T=b
  ·subst z
   exact⟨_,zr4 _ hT (zu4 (zt9 hd _))⟩
  ·exact⟨o,by rw[zn9 _ _ z];exact q⟩
theorem dC {base:Heap}{l:List Env}{e T:Addr}{fl:Value}{fo:Option Addr}{Q:Unit→Shared→Prop}(hl:s.heap.FunFrames base l)(hk:base.StaysIn s.heap)(x:Ent s.heap base e T fl)
  (h:∀h',Moved (frs l) e [T] s.heap h'→Ent h' base e T (fo.elim .none fun f=>rawInt f)→h'.FunFrames base l→base.StaysIn h'→h'.objs.size=s.heap.objs.size→Q () {s with heap:=h'}):wpAny M A (setFlight (.ref e) fo) Q E s:=by
 obtain⟨oe,vs,oT,tv,he,hd,h1,hne,hb,hT,hdT,h3⟩:=x
 have hsz:3<tv.size:=(zu6.mp h3).1
 unfold setFlight
 refine zm4 (zr6 he hd h1 ?_)
 rw[if_pos (show (Value.ref T != Value.none)=true from by simp)]
 refine wpAny_setField hT hdT hsz (h _ (sR hT hdT fun b hb' z=>?_) ?_ ?_ ?_ (by simp))
 ·obtain⟨_,o,ho,hn⟩:=uH hl hb'
  rw[z,hT] at ho;cases ho
  exact hn _ hdT
 ·exact⟨oe,vs,_,_,by rw[zn9 _ _ hne];exact he,hd,h1,hne,hb,zr4 _ hT (zu4 (zt9 hdT _)),zt9 hdT _,by simp[hsz]⟩
 ·refine hl.of_keeps fun b o hb' hn=>⟨o,?_,rfl⟩
  rw[zn9 _ _ (fun z=>by subst z;rw[hT] at hb';cases hb';exact hn _ hdT)]
  exact hb'
 ·intro b o q
  rw[zn9 _ _ (fun z=>by subst z;rw[hb] at q;cases q)]
  exact hk b o q
theorem iC {base:Heap}{env:Env}{outer:List Env}{L e:Addr}{oe:Obj}{vs:Array Value}{head:Value}{hadNext:Bool}{Q:Unit→Shared→Prop}
  (hfr:A.frames=some (env::outer)) (hl:s.heap.FunFrames base (env::outer)) (hf:env.frame=some L) (he:s.heap.get? e=some oe) (hkb:base.StaysIn s.heap) (hen:base.get? e=none) (hd:oe.data=.fields vs) (hsz:1<vs.size)
  (h:∀h' T,Moved (frs (env::outer)) e [] s.heap h'→s.heap.objs.size≤T→Ent h' base e T (rawInt L)→h'.FunFrames base (env::outer)→base.StaysIn h'→Q () {s with heap:=h'}):
  wpAny M A (do let a ←frameOf env;let pl ←entryPlaceOf L hadNext;let b ←EntryCells.newEntry head a .none (rawInt L) .none pl;setField (.ref e) 1 b) Q E s:=by
 have hene:e∉frs (env::outer):=fun hm=>by
  obtain⟨_,o,ho,hnf⟩:=uH hl hm
  rw[he] at ho;injection ho with ho;subst ho;exact hnf vs hd
 refine zm4 (wpAny_frameOf_fun hfr hl hf fun h₁ hs₁=>?_)
 refine zm4 (wpAny_entryPlaceOf fun pl hpl=>?_)
 unfold EntryCells.newEntry newFields
 refine zm4 (wpAny_newObj_type ?_ (hpl.sizeOk5 _ _ _ _ _))
 have he₁:h₁.get? e=some oe:=(hs₁.2.1 e hene).trans he
 have kb₁:base.StaysIn h₁:=fun b o hbo=>(hs₁.2.1 b fun hm=>by rw[(uH hl hm).1] at hbo;cases hbo).trans (hkb b o hbo)
 generalize hob:({cls:=.type "traceback",dict:=none,data:=.fields ([head,.ref L,.none,rawInt L,.none]++(if pl.isEmpty then List.replicate 6 Value.none else pl)).toArray}:Obj)=ob
 have obd:ob.data=.fields ([head,.ref L,.none,rawInt L,.none]++(if pl.isEmpty then List.replicate 6 Value.none else pl)).toArray:=by rw[←hob]
 have he₂:=zm5 (h:=h₁) ob he₁
 refine wpAny_setField he₂ hd hsz ?_
 have hTe:h₁.objs.size≠e:=zt8 (zn1 he₁)
 have hd₃:=zt9 hd (·.setIfInBounds 1 (Value.ref h₁.objs.size))
 have he₃:=zr4 (Obj.mapFields (·.setIfInBounds 1 (Value.ref h₁.objs.size))) he₂ (zu4 hd₃)
 have hT₃:((h₁.push ob).update e (Obj.mapFields (·.setIfInBounds 1 (Value.ref h₁.objs.size)))).get? h₁.objs.size=some ob:=
  (zn9 (h₁.push ob) (Obj.mapFields (·.setIfInBounds 1 (Value.ref h₁.objs.size))) (zp4 hTe)).trans (zn8 h₁ (zu4 obd))
 have keep:∀b o,b≠e→h₁.get? b=some o→((h₁.push ob).update e (Obj.mapFields (·.setIfInBounds 1 (Value.ref h₁.objs.size)))).get? b=some o:=fun b o hbe hb=>by
  rw[zn9 _ _ (zp4 hbe)]
  exact zm5 _ hb
 refine h _ h₁.objs.size ⟨fun b o hb _ hf q=>keep b o hb ((hs₁.2.1 b hf).trans q),fun b o hb q=>?_,fun o vs' q d=>?_,fun b o q=>?_⟩ (by rw[hs₁.1];exact zn0 _) ⟨_,_,ob,_,he₃,hd₃,by simp[hsz],hTe,kb₁.fresh,hT₃,obd,by simp⟩ ?_ (fun b o q=>keep b o (fun z=>by rw[z,hen] at q;cases q) (kb₁ b o q))
 ·obtain⟨sl,hs⟩:=hs₁.2.2 b o q
  exact⟨sl,keep b _ (fun z=>hene (z▸hb)) hs⟩
 ·rw[he] at q;cases q
  exact⟨_,_,he₃,(wM _ _).1,(wM _ _).2,hd₃⟩
 ·by_cases z:b=e
  ·subst z;exact⟨_,he₃⟩
  ·obtain⟨sl,hs⟩:=hs₁.2.2 b o q
   exact⟨_,keep b _ z hs⟩
 ·refine hl.of_keeps fun b o hb hn=>?_
  obtain⟨sl,hs⟩:=hs₁.2.2 b o hb
  exact⟨_,keep b _ (fun z=>by subst z;rw[he] at hb;cases hb;exact hn _ hd) hs,rfl⟩
theorem ze3 {base:Heap}{env:Env}{outer:List Env}{L e:Addr}{ts:List Addr}{Q:Unit→Shared→Prop}
  (hfr:A.frames=some (env::outer)) (hl:s.heap.FunFrames base (env::outer)) (hf:env.frame=some L) (hkb:base.StaysIn s.heap) (hen:base.get? e=none) (x:Beg s.heap base e ts)
  (h:∀h' T,Moved (frs (env::outer)) e ts s.heap h'→s.heap.objs.size≤T→Ent h' base e T (rawInt L)→h'.FunFrames base (env::outer)→base.StaysIn h'→Q () {s with heap:=h'}):wpAny M A (noteFrame (.ref e) env) Q E s:=by
 rcases x with ⟨rfl,oe,vs,he,hd,h1⟩|⟨T,rfl,oe,vs,oT,tv,he,hd,h1,hne,hb,hT,hdT,h3⟩
 ·unfold noteFrame
  simp only[hf]
  refine zm4 (zr6 he hd h1 ?_)
  rw[if_neg (by decide)]
  exact iC hfr hl hf he hkb hen hd (zu6.mp h1).1 h
 ·unfold noteFrame
  simp only[hf]
  refine zm4 (zr6 he hd h1 ?_)
  rw[if_pos (show (Value.ref T != Value.none)=true from by simp)]
  refine zm4 (zr6 hT hdT h3 ?_)
  rw[if_neg (show ¬((Value.none == rawInt L)=true) from by simp[rawInt])]
  refine zm4 (wpAny_setField hT hdT (zu6.mp h3).1 ?_)
  have hfs:∀b∈frs (env::outer),b≠T:=fun b hb' z=>by
   obtain⟨_,o,ho,hn⟩:=uH hl hb'
   rw[z,hT] at ho;cases ho
   exact hn _ hdT
  have mv:Moved (frs (env::outer)) e [T] s.heap (s.heap.update T (Obj.mapFields (·.setIfInBounds 3 Value.none))):=sR hT hdT hfs
  refine iC (s:={s with heap:=s.heap.update T (Obj.mapFields (·.setIfInBounds 3 Value.none))}) hfr ?_ hf (show (s.heap.update T (Obj.mapFields (·.setIfInBounds 3 Value.none))).get? e=some oe by rw[zn9 _ _ hne];exact he) ?_ hen hd (zu6.mp h1).1 fun h' T' m1 m2 m3 m4 m5=>?_
  ·refine hl.of_keeps fun b o hb' hn=>⟨o,?_,rfl⟩
   rw[zn9 _ _ (fun z=>by subst z;rw[hT] at hb';cases hb';exact hn _ hdT)]
   exact hb'
  ·intro b o q
   show (s.heap.update T _).get? b=some o
   rw[zn9 _ _ (fun z=>by subst z;rw[hb] at q;cases q)]
   exact hkb b o q
  ·refine h h' T' ⟨fun b o q1 q2 q3 q=>m1.keep b o q1 (by simp) q3 (mv.keep b o q1 q2 q3 q),fun b o q1 q=>?_,fun o vs' q d=>?_,fun b o q=>?_⟩ (by have m2:(s.heap.update T _).objs.size≤T':=m2;simpa using m2) m3 m4 m5
   ·obtain⟨sl,e1⟩:=mv.slot b o q1 q
    obtain⟨sl',e2⟩:=m1.slot b _ q1 e1
    exact⟨sl',e2⟩
   ·obtain⟨o1,vs1,e1,c1,d1,f1⟩:=mv.exc o vs' q d
    obtain⟨o2,vs2,e2,c2,d2,f2⟩:=m1.exc o1 vs1 e1 f1
    exact⟨o2,vs2,e2,c2.trans c1,d2.trans d1,f2⟩
   ·obtain⟨o1,e1⟩:=mv.there b o q
    exact m1.there b o1 e1
theorem gX {base:Heap}{env:Env}{L e T:Addr}{Q:Unit→Shared→Prop}(hf:env.frame=some L)(x:Ent s.heap base e T (rawInt L))(h:Q () s):wpAny M A (noteFrame (.ref e) env) Q E s:=by
 obtain⟨oe,vs,oT,tv,he,hd,h1,hne,hb,hT,hdT,h3⟩:=x
 exact wpAny_noteFrame_inFlight hf he hd h1 hT hdT h3 h
end
section
variable {P:Program}{w:World}{H H0:Hp}{h h' h0:Heap}{fs fs' ts:List Addr}{e:Addr}
theorem HOk.moved (x:HOk P w H h)(m:Moved fs e ts h h')(hfs:∀b∈fs,H b=none)(hts:∀b∈ts,H b=none)(he:∃C d,H e=some (xcO e C d)):HOk P w H h':=fun a o q=>by
 obtain⟨C,d,he⟩:=he
 by_cases z:a=e
 ·subst z
  rw[he] at q;cases q
  obtain⟨⟨o,vs,h1,h2,h3,h4⟩,_,st⟩:=x _ _ he
  obtain⟨o',vs',g1,g2,g3,g4⟩:=m.exc o vs h1 h4
  exact⟨⟨o',vs',g1,g2.trans h2,g3.trans h3,g4⟩,⟨o',g1⟩,st⟩
 ·have nf:∀{b:Addr} {u:HO},H b=some u→b∉fs:=fun {b u} hb q=>by rw[hfs b q] at hb;cases hb
  have nt:∀{b:Addr} {u:HO},H b=some u→b∉ts:=fun {b u} hb q=>by rw[hts b q] at hb;cases hb
  refine (x a o q).stay (fun b u hb e1=>?_) (fun _ q=>q) fun _ _ q=>q
  rcases hb with rfl|hb
  ·exact m.keep _ _ z (nt q) (nf q) e1
  ·refine m.keep _ _ (fun z=>?_) (nt hb) (nf hb) e1
   rw[z,he] at hb;cases hb
end
def CX1 (P:Program)(w:World)(base:Heap):CXT:=fun outer H s E e s'=>∃a T H',e=.ref a∧s'.os=s.os∧AllBare s'.gens∧Un (frs outer) [] H H' s.heap s'.heap∧HOk P w H' s'.heap∧(∃C d,H' a=some (xcO a C d))∧H' T=none∧s.heap.get? T=none∧Ent s'.heap base a T .none∧E (.ref a) none H'
inductive Fl (X:Cx)(H:Hp)(h:Heap)(a:Addr):Prop where
 |new {oe:Obj} {vs:Array Value}:h.get? a=some oe→oe.data=.fields vs→vs[1]?=some .none→Fl X H h a
 |old {T:Addr}:H T=none→X.s₀.heap.get? T=none→(∀p∈X.pn,p.1≠T)→Ent h X.base a T .none→Fl X H h a
 |here {T:Addr}:H T=none→X.s₀.heap.get? T=none→(∀p∈X.pn,p.1≠T)→Ent h X.base a T (rawInt X.env.locals)→Fl X H h a
def XE (X:Cx)(R:St→Addr→Hp→Prop):Value→Shared→Prop:=fun e s=>∃σ H a,e=.ref a∧Inv X [] σ H s∧(∃C d,H a=some (xcO a C d))∧Fl X H s.heap a∧R σ a H
section
variable {X:Cx}{pins:List (Addr×Obj)}{σ:St}{H H':Hp}{s s':Shared}{a:Addr}
theorem Inv.nopins (I:Inv X pins σ H s):Inv X [] σ H s:=I.pins_of fun p hp=>by cases hp
theorem Inv.basex (I:Inv X pins σ H s)(h:H a≠none):X.base.get? a=none:=by
 cases q:X.base.get? a with
 |none=>rfl
 |some o=>exact absurd (I.bs a o q).2 h
theorem Inv.moved {ts:List Addr}{h':Heap}(I:Inv X pins σ H s)(hst:X.stack=X.env::X.outer)(m:Moved (frs X.stack) a ts s.heap h')(ha:∃C d,H a=some (xcO a C d))(hts:∀T∈ts,H T=none∧X.s₀.heap.get? T=none∧(∀p∈X.pn++pins,p.1≠T)∧∃o vs,s.heap.get? T=some o∧o.data=.fields vs):Inv X pins σ H {s with heap:=h'}:=by
 have ha':H a≠none:=by obtain⟨C,d,z⟩:=ha;rw[z];simp
 have hf:X.env.frame=some X.env.locals:=by
  rcases I.ok.stk with z|⟨_,z⟩
  ·rw[hst] at z;exact absurd (congrArg List.length z) (by simp)
  ·exact z
 have mem:∀b∈frs X.stack,b=X.env.locals∨b∈X.fs:=fun b hb=>by
  rw[hst] at hb
  unfold frs at hb
  rw[List.filterMap_cons_some hf] at hb
  rcases zn2.mp hb with z|z
  ·exact .inl z
  ·exact .inr z
 have dat:∀{b:Addr} {o:Obj},s.heap.get? b=some o→(∀vs,o.data≠.fields vs)→b∉ts:=fun {b o} q n z=>by
  obtain⟨_,_,_,o',vs,q',d⟩:=hts b z
  rw[q] at q';cases q'
  exact n vs d
 obtain⟨mm,hn,hl⟩:=id I.loc
 obtain⟨oL,es,ep,hoL,hdL,hrL⟩:=id hn
 have hLL:∃sl,h'.get? X.env.locals=some {oL with slots:=sl}:=m.slot _ _ (by rw[hst];unfold frs;rw[List.filterMap_cons_some hf];exact zo5) hoL
 have hn':h'.Ns X.env.locals mm:=by obtain⟨sl,z⟩:=hLL;exact⟨_,es,ep,z,hdL,hrL⟩
 have cells:∀{x:Str} {c:Addr} {v:Option Value},X.env.cells.lookup x=some c→s.heap.IsCell c v→h'.IsCell c v:=fun {x c v} e ⟨oc,hoc,hd⟩=>by
  by_cases z:c∈frs X.stack
  ·obtain⟨sl,z'⟩:=m.slot c oc z hoc
   exact⟨_,z',hd⟩
  ·exact⟨oc,m.keep c oc (fun z=>ha' (z▸I.freeC x c e)) (dat hoc fun vs q=>by rw[hd] at q;cases q) z hoc,hd⟩
 have un:Un X.fs X.ex X.H₀ H X.s₀.heap h':=by
  have u:=I.base
  have ne:∀{b:Addr} {o:Obj},X.s₀.heap.get? b=some o→X.H₀ b=none→b∉X.ex→b≠a:=fun {b o} q n hx z=>ha' (z▸u.free b o q n hx)
  have nt:∀{b:Addr} {o:Obj},X.s₀.heap.get? b=some o→b∉ts:=fun {b o} q z=>by rw[(hts b z).2.1] at q;cases q
  have nl:∀{b:Addr} {o:Obj},X.s₀.heap.get? b=some o→b≠X.env.locals:=fun {b o} q=>zo2 (zo1 (zn1 q) I.ok.above)
  refine⟨fun b o q n hb hx=>m.keep b o (ne q n hx) (nt q) (fun z=>(mem b z).elim (nl q) hb) (u.keep b o q n hb hx),fun b o q n hb hx=>?_,u.free,fun b o q hx=>?_,u.tups,u.frzs,u.tbls⟩
  ·obtain⟨sl,e1⟩:=u.slot b o q n hb hx
   by_cases z:b∈frs X.stack
   ·obtain⟨sl',e2⟩:=m.slot b _ z e1
    exact⟨sl',e2⟩
   ·exact⟨sl,m.keep b _ (ne q n hx) (nt q) z e1⟩
  ·obtain⟨o',e1⟩:=u.there b o q hx
   exact m.there b o' e1
 refine⟨I.ok,I.os,I.bare,un,⟨mm,hn',fun i x v e1 e2 e3=>?_⟩,fun x c e=>?_,I.free,I.freeC,fun p hp=>?_,I.hok.moved m I.stkFree (fun b hb=>(hts b hb).1) ha,I.len⟩
 ·obtain⟨u,r,q⟩:=hl i x v e1 e2 e3
  refine⟨u,r,?_⟩
  rcases q with q|⟨k,c,e,z⟩
  ·exact .inl q
  ·exact .inr ⟨k,c,e,cells e z⟩
 ·obtain⟨v,z⟩:=I.cell x c e
  exact⟨v,cells e z⟩
 ·obtain⟨e,n,ne,nf,d⟩:=I.pin p hp
  exact⟨m.keep _ _ (fun z=>ha' (z▸n)) (fun z=>(hts _ z).2.2.1 p hp rfl) (fun z=>(mem _ z).elim ne nf) e,n,ne,nf,d⟩
theorem Fl.beg (f:Fl X H s.heap a):(∃ts,Beg s.heap X.base a ts∧∀T∈ts,H T=none∧X.s₀.heap.get? T=none∧(∀p∈X.pn,p.1≠T)∧∃o vs,s.heap.get? T=some o∧o.data=.fields vs)∨∃T,H T=none∧X.s₀.heap.get? T=none∧(∀p∈X.pn,p.1≠T)∧Ent s.heap X.base a T (rawInt X.env.locals):=by
 cases f with
 |new h1 h2 h3=>exact .inl ⟨[],.inl ⟨rfl,_,_,h1,h2,h3⟩,fun T hT=>by cases hT⟩
 |@old T h1 h2 h3 h4=>
  refine .inl ⟨[T],.inr ⟨T,rfl,h4⟩,fun T' hT=>?_⟩
  rw[zo8] at hT
  subst hT
  obtain⟨_,_,oT,tv,_,_,_,_,_,hT,hdT,_⟩:=h4
  exact⟨h1,h2,h3,oT,tv,hT,hdT⟩
 |@here T h1 h2 h3 h4=>exact .inr ⟨T,h1,h2,h3,h4⟩
theorem Inv.stkf (I:Inv X pins σ H s)(hst:X.stack=X.env::X.outer):X.env.frame=some X.env.locals:=by
 rcases I.ok.stk with z|⟨_,z⟩
 ·rw[hst] at z;exact absurd (congrArg List.length z) (by simp)
 ·exact z
theorem Inv.stays (I:Inv X pins σ H s):X.base.StaysIn s.heap:=I.bk
theorem Inv.note {M:Model}{Q:Unit→Shared→Prop}{E:Value→Shared→Prop}(I:Inv X [] σ H s)(hst:X.stack=X.env::X.outer)(ha:∃C d,H a=some (xcO a C d))(f:Fl X H s.heap a)
  (h:∀h' T,Inv X [] σ H {s with heap:=h'}→H T=none→X.s₀.heap.get? T=none→(∀p∈X.pn,p.1≠T)→Ent h' X.base a T (rawInt X.env.locals)→Q () {s with heap:=h'}):wpAny M X.A (noteFrame (.ref a) X.env) Q E s:=by
 have ha':H a≠none:=by obtain⟨C,d,z⟩:=ha;rw[z];simp
 have hf:=I.stkf hst
 rcases f.beg with ⟨ts,bg,ht⟩|⟨T,h1,h2,h3,h4⟩
 ·refine ze3 (by rw[←hst];exact I.ok.frames) (by rw[←hst];exact I.stack) hf I.stays (I.basex ha') bg fun h' T m1 m2 m3 _ _=>?_
  have I':Inv X [] σ H {s with heap:=h'}:=I.moved hst (by rw[hst];exact m1) ha fun T hT=>by
   obtain⟨q1,q2,q3,q4⟩:=ht T hT
   exact⟨q1,q2,fun p hp=>q3 p (by simpa using hp),q4⟩
  refine h h' T I' (I.hok.fresh m2) (Heap.get?_none_of_le (zr2 I.sz m2)) (fun p hp z=>?_) m3
  have:=zn1 (I.pin p (by simpa using hp)).1
  rw[z] at this
  exact absurd this (Nat.not_lt.mpr m2)
 ·exact gX hf h4 (by have:=h s.heap T I h1 h2 h3 h4;exact this)
theorem Inv.flight {M:Model}{Q:Unit→Shared→Prop}{E:Value→Shared→Prop}{A:Around}{T:Addr}{fl:Value}{fo:Option Addr}(I:Inv X pins σ H s)(hst:X.stack=X.env::X.outer)(ha:∃C d,H a=some (xcO a C d))(h1:H T=none)(h2:X.s₀.heap.get? T=none)(h3:∀p∈X.pn++pins,p.1≠T)(x:Ent s.heap X.base a T fl)
  (h:∀h',Inv X pins σ H {s with heap:=h'}→Ent h' X.base a T (fo.elim .none fun f=>rawInt f)→Q () {s with heap:=h'}):wpAny M A (setFlight (.ref a) fo) Q E s:=by
 refine dC (l:=X.stack) I.stack I.stays x fun h' m1 m2 _ _ _=>h h' (I.moved hst m1 ha fun T' hT=>?_) m2
 rw[zo8] at hT
 subst hT
 obtain⟨_,_,oT,tv,_,_,_,_,_,hT,hdT,_⟩:=x
 exact⟨h1,h2,h3,oT,tv,hT,hdT⟩
theorem aX {R:St→Addr→Hp→Prop}(hst:X.stack=X.env::X.outer):PassesOwn (model X.prog X.w) X.A X.env (XE X R):=by
 rintro e s ⟨σ,H,a,rfl,I,ha,f,r⟩
 refine I.note hst ha f fun h' T I' h1 h2 h3 h4=>?_
 obtain⟨oe,vs,oT,tv,he,hd,hv,_⟩:=id h4
 show wpAny _ _ _ _ _ _
 refine zm4 (zr6 he hd hv ?_)
 rw[if_neg (by simp)]
 rw[I.stkf hst]
 refine I'.flight hst ha h1 h2 (by simpa using h3) h4 fun h'' I'' e''=>?_
 exact⟨σ,H,a,rfl,I'',ha,.here h1 h2 h3 e'',r⟩
theorem cb {R:St→Addr→Hp→Prop}{E:XK}{e:Value}(hex:X.ex=[])(I:Inv X pins σ H s)(h:CX1 X.prog X.w X.base X.stack H s E e s')(hE:∀a H',E (.ref a) none H'→R σ a H'):XE X R e s':=by
 obtain⟨a,T,H',rfl,ho,hg,u,hok,ha,h1,h2,h3,hE'⟩:=h
 have I':Inv X pins σ H' s':=I.call' (ch:=[]) ho u hok hg fun b hb=>by cases hb
 refine⟨σ,H',a,rfl,I'.nopins,ha,.old h1 ?_ (fun p hp z=>?_) h3,hE a H' hE'⟩
 ·cases q:X.s₀.heap.get? T with
  |none=>rfl
  |some o=>
   exfalso
   obtain⟨o',e1⟩:=I.base.there T o q (by rw[hex];simp)
   rw[h2] at e1;cases e1
 ·have:=(I.pin p (zz4 _ hp)).1
  rw[z,h2] at this;cases this
end
section
variable {X:Cx}{E':Value→Shared→Prop}
theorem PSs.wishx {st:List Stmt}{t:TS}(h:PSs (X.wish E') st t)(k:∀e s,E' e s→X.xe e s):PSs X st t:=fun pins s σ H D I hw=>
 zp3 (h pins s σ H D (I.wish _) hw) (fun _ _ q=>q.unwish) fun e s z=>k e s z
end
section
variable {P:Program}{w:World}{K:PySem.W.Frag}{mg:Str→Option Value}{base:Heap}
theorem dY {N:List Str}{qual:Str}{scope:Scope}{f:Addr}{cd:Value}{A:Around}{outer:List Env}{s₀ s:Shared}{H₀:Hp}{E:XK}{e:Value}
  (h:XE (yV (CX1 P w base) P w K mg base N qual scope f cd A outer s₀ H₀ E) (fun _ a H=>E (.ref a) none H) e s):(yV (CX1 P w base) P w K mg base N qual scope f cd A outer s₀ H₀ E).xe e s:=by
 obtain⟨σ,H,a,rfl,I,ha,f',r⟩:=h
 show wpAny _ _ (leaving _ _) _ _ _
 unfold leaving
 refine zm4 (I.note rfl ha f' fun h' T I' h1 h2 h3 h4=>?_)
 refine I'.flight (fo:=none) rfl ha h1 h2 (by simpa using h3) h4 fun h'' I'' e''=>?_
 exact⟨a,T,H,rfl,I''.os,I''.bare,I''.base,I''.hok,ha,h1,h2,e'',r⟩
theorem Fun.okX {x qual:Str}{st:Stmt}{f:Addr}{fd:FuncData}{N ps:List Str}{k:Nat}{sp:Sp}(F:Fun K x qual st f fd)(S:zo N ps (zb st))(len:∀vs H Q E,sp vs H Q E→vs.length=ps.length)
  (hbody:∀(cdv:Value) (A:Around) (outer:List Env) (s:Shared) (H:Hp) (vs:List V) (Q:VK) (E:XK),zE k (A.deeper (envOfC qual (zb st) s.heap.objs.size f cdv))→sp vs H Q E→
   ∃t,PSs ((yV (CX1 P w base) P w K mg base N qual (zb st) f cdv A outer s H E).wish (XE (yV (CX1 P w base) P w K mg base N qual (zb st) f cdv A outer s H E) fun _ a H=>E (.ref a) none H)) (zv st) t∧t {nx:=fun _ H'=>Q .non H',rt:=Q} (start N vs) H):zy P w K mg base (CX1 P w base) (k+1) f fd ps sp:=by
 obtain⟨oc,od,kV,doc,pm,an,cdv,ct,osl,rfl,lk,hcd⟩:=F.ex
 refine lG lk hcd S len fun A outer s H vs Q E hr hsp=>?_
 obtain⟨t,h,q⟩:=hbody cdv A outer s H vs Q E hr hsp
 exact⟨t,h.wishx fun e s z=>dY z,q⟩
end
section
variable {prog:Program}{w:World}{A:Around}{E:Value→Shared→Prop}{h:Heap}{g:Array GenState}{d:Drawn}{t:Nat}{os:OsState}
variable {nm q:Str}{C N:Addr}{bs bm bmB:List Value}{hdct:Bool}{sn:List Str}{sub:List Value}{ab:Bool}{col:Option Bool}{dd:Option Addr}{k0 k1 k2 k3 k5:Option Value}{B Bn newId nid initId inN:String}{bmN:List Value}
abbrev vc (C t:Addr)(d:Option Addr):Obj:={cls:=.ref C,dict:=d,data:=.fields #[.ref t,.none,.none,.none,.bool false,.none]}
def wx (h:Heap)(C:Addr)(rest:List Value):Heap:=(h.push {cls:=.type "tuple",data:=.seq rest.toArray}).push (vc C h.objs.size none)
theorem nC (Fn:ExcBaseFacts Bn newId inN bmN)(hBn:bmB.contains (.type Bn)=true)(F:ExcBaseFacts B nid initId bmB)(T:OwnTail h bmB bm){mN:Str→Option Value}{rest:List Value}{fI:Addr}{oI:Obj}{Q:Fin→Shared→Prop}
  (hC:h.get? C=some (excClassObj nm q C N bs bm hdct sn sub ab col dd k0 k1 k2 k3 k5 newId)) (hn:h.Ns N mN) (hi:mN "__init__"=some (.ref fI))
  (hfI:h.get? fI=some oI) (hfc:oI.cls=.type "function")
  (hq:wpAny (model prog w) A (call (.ref fI) (.ref (h.objs.size+1)::rest)) (fun r s'=>r=.none∧Q (.done (.ret (.ref (h.objs.size+1)))) s') E ⟨wx h C rest,g,d,t,os⟩) (hrest:rest.length≤sizeLine):
  wpAny (model prog w) A (Builtin.«type.__call__» ⟨.ref C::rest,[]⟩) Q E ⟨h,g,d,t,os⟩:=by
 repeat (first|with_reducible refine zu9 hC ?_|with_reducible refine wpAny_madeBy_exc hC ?_|wp_step)
 refine codeAny_call_builtin_code (Code.quiet_builtin _ Fn.quiet) (wpAny_check_new_subU Fn hBn T hC ?_)
 refine codeAny_exc_new_subU Fn hBn F T hC ?_ hrest
 show wpAny _ _ _ _ _ ⟨wx h C rest,g,d,t,os⟩
 have keep:∀b o,h.get? b=some o→(wx h C rest).get? b=some o:=fun b o e=>zm5 _ (zm5 _ e)
 have hC₁:=keep _ _ hC
 have hfI₁:=keep _ _ hfI
 have hn₁:(wx h C rest).Ns N mN:=let ⟨o,es,ep,e,r⟩:=hn;⟨o,es,ep,keep _ _ e,r⟩
 have hget:(wx h C rest).get? (h.objs.size+1)=some (vc C h.objs.size none):=by unfold wx;heap_get
 have hcC:(Value.ref C::bm).contains (.ref C)=true:=by simp
 have T₁:=T.keeps keep
 unfold isInstance
 repeat (first|with_reducible refine zu9 hget ?_|(with_reducible refine wpAny_isSubtype_exc hC₁ ?_;rw[hcC])|wp_step)
 show wpAny _ _ (typeLookup (.ref C) _) _ _ _
 refine wpAny_typeLookup_tail hC₁ hn₁ T₁ F.mroIs F.init.lookup ?_
 rw[hi]
 refine zq9 (zm4 ?_)
 unfold bindSpecial
 refine zm4 (wpAny_typeOf (T:="function") ⟨_,hfI₁,hfc⟩ ?_)
 rw[if_pos (by decide)]
 refine zm7 (zm4 (zp3 hq (fun r s' hr=>?_) fun _ _ x=>x))
 obtain⟨rfl,hQ⟩:=hr
 wp_walk
 exact hQ
theorem ze7 (Fn:ExcBaseFacts Bn newId inN bmN)(hBn:bmB.contains (.type Bn)=true)(F:ExcBaseFacts B nid initId bmB)(T:OwnTail h bmB bm){mN:Str→Option Value}{rest:List Value}{fI:Addr}{oI:Obj}{Q:Value→Shared→Prop}
  (hC:h.get? C=some (excClassObj nm q C N bs bm hdct sn sub ab col dd k0 k1 k2 k3 k5 newId)) (hn:h.Ns N mN) (hi:mN "__init__"=some (.ref fI))
  (hfI:h.get? fI=some oI) (hfc:oI.cls=.type "function")
  (hq:wpAny (model prog w) (A.under (.builtin "type.__call__" ⟨.ref C::rest,[]⟩)) (call (.ref fI) (.ref (h.objs.size+1)::rest)) (fun r s'=>r=.none∧Q (.ref (h.objs.size+1)) s') E ⟨wx h C rest,g,d,t,os⟩) (hrest:rest.length≤sizeLine):
  wpAny (model prog w) A (call (.ref C) rest) Q E ⟨h,g,d,t,os⟩:=by
 have f1:=tc_lookup
 have f2:=tc_bind (.ref C)
 have hT:(⟨h,g,d,t,os⟩:Shared).TypeIs (.ref C) "type":=⟨_,hC,rfl⟩
 refine zw0 (codeAny_of_tree ?_)
 show wpAny _ _ (callAny (.ref C) _) _ _ _
 repeat (any_goals (first|assumption|with_reducible refine zu9 hC ?_|wp_step))
 refine⟨rfl,?_⟩
 exact codeAny_call_builtin_at (Code.quiet_builtin _ (by decide +kernel)) entry_typeCall (wpAny_check_type_call_sub hC (nC Fn hBn F T hC hn hi hfI hfc hq hrest))
theorem aR {M:Model}{s:Shared}{env:Env}{x:Sem Value}{Q:Flow→Shared→Prop}(hbase:bm.contains (.type "BaseException")=true)(hh:A.handled=none)
  (h:wpAny M A x (fun v s₁=>∃e t d,v=.ref e∧s₁.heap.get? C=some (excClassObj nm q C N bs bm hdct sn sub ab col dd k0 k1 k2 k3 k5 newId)∧s₁.heap.get? e=some (vc C t d)∧E (.ref e) s₁) E s):
  wpAny M A (raiseStmt env (some x) none) Q E s:=by
 have hcB:(Value.ref C::bm).contains (.type "BaseException")=true:=by rw[List.contains_cons,hbase,Bool.or_true]
 unfold raiseStmt
 refine zm4 (zp3 h (fun v s₁ h₁=>?_) fun _ _ x=>x)
 obtain⟨e,t,d,rfl,hC,he,hE⟩:=h₁
 obtain⟨hp,g,d,tk,os⟩:=s₁
 repeat (first|with_reducible refine zu9 he ?_|with_reducible refine zu9 hC ?_|(with_reducible refine wpAny_isSubtype_exc hC ?_;rw[hcB])|wp_step)
 exact wpAny_raiseNew_none hh hE
end
open Builtin Builtin.ObjectAttr
def bmV :List Value:=[.type "ValueError",.type "Exception",.type "BaseException",.type "object"]
def xA (K:Frag)(C S:Addr)(init:Option Value):Bool:=match K.lookup C with
 |some ⟨.type "type",_,.cls cd,sl⟩=>(match sl.toList with
  |[_,_,_,_,some (.builtin n),_]=>cd.mro == .ref C::.ref S::bmV&&n == "ValueError.__new__"&&!cd.hasDel&&cd.hasDict&&tailIn K bmV (.ref S::bmV)&&nsOkIn K cd.ns&&nsIn K cd.ns "__init__" == some init
  |_=>false)
 |_=>false
theorem jR {K:Frag}{h:Heap}{N:Addr}{mg:Str→Option Value}{n:Str}{v:Option Value}(X:K.In h)(G:h.Ns N mg)(e:nsIn K N n=some v):mg n=v:=by
 cases v with
 |none=>exact ns_none_of X G e
 |some v=>
  obtain⟨o,es,ep,ho,hd,_,hf⟩:=G
  unfold nsIn at e
  split at e
  ·rename_i c d es' n' sl q
   have:=X _ _ q
   rw[ho] at this
   cases this
   cases hd
   split at e
   ·rename_i en he
    cases e
    rw[←hf]
    unfold nsFind findBy
    rw[←Array.find?_toList,he]
    rfl
   ·split at e<;>cases e
  ·cases e
theorem yE {K:Frag}{h:Heap}{C S:Addr}{init:Option Value}(X:K.In h)(q:xA K C S init=true):
  ∃nm qn N bs sn sub ab col dd k0 k1 k2 k3 k5 mN,h.get? C=some (excClassObj nm qn C N bs (.ref S::bmV) true sn sub ab col dd k0 k1 k2 k3 k5 "ValueError.__new__")∧h.Ns N mN∧mN "__init__"=init∧OwnTail h bmV (.ref S::bmV)∧∃cd,clsIn K C=some cd∧cd.hasDict=true∧cd.mro=.ref C::.ref S::bmV∧K.lookup C=some (excClassObj nm qn C N bs (.ref S::bmV) true sn sub ab col dd k0 k1 k2 k3 k5 "ValueError.__new__"):=by
 unfold xA at q
 split at q
 ·rename_i dd cd sl ho
  split at q
  ·rename_i k0 k1 k2 k3 n k5 hs
   simp only[zo6,zt4,Bool.not_eq_true'] at q
   obtain⟨⟨⟨⟨⟨⟨hm,hn⟩,hdel⟩,hdd⟩,ht⟩,hok⟩,hni⟩:=q
   obtain⟨nm,bs,mro,ns,qn,hd,sn,sub,ab,col,del⟩:=cd
   dsimp only at hm hdel hok hni hdd
   subst hm hdel hn hdd
   have hsl:sl=#[k0,k1,k2,k3,some (.builtin "ValueError.__new__"),k5]:=by
    obtain⟨l⟩:=sl
    simp only at hs
    rw[hs]
   subst hsl
   have N:=Heap.Ns.of_isNs (isNs_of_in X hok)
   exact⟨nm,qn,ns,bs,sn,sub,ab,col,dd,k0,k1,k2,k3,k5,_,X _ _ ho,N,jR X N hni,tail_of_in X ht,_,by unfold clsIn;rw[ho],rfl,rfl,ho⟩
  ·cases q
 ·cases q
section
variable {prog:Program}{w:World}{A:Around}{E:Value→Shared→Prop}{h:Heap}{g:Array GenState}{d:Drawn}{t:Nat}{os:OsState}{K:Frag}{C S e t0:Addr}{dx:Option Addr}{init:Option Value}
theorem mC {rest:List Value}{Q:Value→Shared→Prop}(X:K.In h)(q:xA K C S init=true)(he:h.get? e=some (vc C t0 dx))(hr:rest.length≤1000)
  (hq:∀h' t',(∀b o,b≠e→h.get? b=some o→h'.get? b=some o)→h'.get? e=some (vc C t' dx)→Q .none ⟨h',g,d,t,os⟩):wpAny (model prog w) A (call (.builtin "ValueError.__init__") (.ref e::rest)) Q E ⟨h,g,d,t,os⟩:=by
 obtain⟨nm,qn,N,bs,sn,sub,ab,col,dd,k0,k1,k2,k3,k5,mN,hC,hN,hi,T,_⟩:=yE X q
 have F:=zu7
 have hz:rest.length≤sizeLine:=by rw[zq0];omega
 refine zw0 (codeAny_call_builtin F.init.plain F.initEntry (wpAny_check_init_subU F T hC he rfl ?_))
 unfold Builtin.«BaseException.__init__»
 wp_walk
 refine hq _ h.objs.size (fun b o hb z=>?_) ?_
 ·rw[zn9 _ _ (zp4 hb)]
  exact zm5 _ z
 ·rw[zr4 _ (zm5 _ he) rfl]
  rfl
theorem lq {ox:Obj}(he:h.get? e=some ox)(hc:ox.cls=.ref C)(hd:∃vs,ox.data=.fields vs){od:Option Obj}(hdx:match ox.dict,od with
  |some dx,some o=>h.get? dx=some o
  |none,none=>True
  |_,_=>False):InstAt h e ox C od:=⟨he,hc,by obtain⟨vs,hd⟩:=hd;unfold notCls;rw[hd],hdx⟩
theorem zk8 {name:Str}{v:Value}{Q:Unit→Shared→Prop}(X:K.In h)(q:xA K C S init=true)(hs:findIn K (.ref C) "__setattr__"=some (some (.builtin "object.__setattr__")))(hn:findIn K (.ref C) name=some none)(he:h.get? e=some (vc C t0 none))
  (hq:∀h' dx tk',h.objs.size≤dx→(∀b o,b≠e→h.get? b=some o→h'.get? b=some o)→h'.get? e=some (vc C t0 (some dx))→h'.Ns1 dx (fun y=>if y=name then some v else none)→Q () ⟨h',g,d,tk',os⟩):wpAny (model prog w) A (setAttr (.ref e) name v) Q E ⟨h,g,d,t,os⟩:=by
 obtain⟨nm,qn,N,bs,sn,sub,ab,col,dd,k0,k1,k2,k3,k5,mN,hC,hN,hi,T,cd,hcd,hdict,hmro,_⟩:=yE X q
 have I:InstAt h e (vc C t0 none) C none:=lq he rfl ⟨_,rfl⟩ trivial
 refine set_plain (s:=⟨h,g,d,t,os⟩) X I hs ?_
 have SF:=PySem.F.store_object
 have sub:Looks (model prog w) h (isInstance (.ref e) (.type "object")) true:=I.type.andThen (looks_mroIn X (by unfold mroIn;rw[hcd,zv5,hmro]<;>rfl))
 refine codeAny_call_builtin SF.slot.plain SF.entry (@check_slot (model prog w) _ _ ⟨h,g,d,t+1,os⟩ "object.__setattr__" "object" "__setattr__" (.ref e) [.str name t,v] [] _ SF.kind SF.split sub (SF.args (.ref e) (.str name t) v) ?_)
 have hm:Looks (model prog w) h (mroOf (.ref C)) (.ref C::.ref S::bmV):=hmro▸(looks_clsIn X hcd).andThen .now
 rw[osa_eq,refuse_eq]
 refine zm4 (zm4 (I.type.at (zm4 (hm.at ?_))))
 rw[refuseLoop_ref,refuseLoop_ref,show refuseLoop (.ref e) "__setattr__" bmV=pure () from PySem.F.store_ValueError.passes _]
 refine zm7 (zm4 (I.type.at (zm4 ((looks_findIn X hn).at (zm4 (zm7 ?_))))))
 show wpAny _ _ (storeInOwnDict (.ref e) (.ref C) (.str name t) name v false) _ _ _
 refine zm4 (zm7 (zm4 (zm4 (zu9 he (zm4 ((looks_clsIn X hcd).at ?_))))))
 rw[hdict]
 have hx₁:(h.push {cls:=.type "dict",data:=.dict #[]}).get? e=some (vc C t0 none):=zm5 _ he
 have hxs:e≠h.objs.size:=zo2 (zn1 he)
 refine zm4 (wpAny_alloc' ?_)
 refine zm4 (wpAny_update' hx₁ ?_)
 refine zm7 ?_
 generalize hh1:((h.push {cls:=.type "dict",data:=.dict #[]}).update e fun o=>{cls:=o.cls,dict:=some h.objs.size,data:=o.data,slots:=o.slots})=h1
 have hgd:h1.get? h.objs.size=some {cls:=.type "dict",data:=.dict #[]}:=by
  rw[←hh1]
  exact (Heap.get?_update_ne _ _ _ _ hxs.symm).trans (Heap.get?_push_at rfl rfl)
 have hnd:h1.Ns h.objs.size (fun _=>none):=⟨_,#[],_,hgd,rfl,fun e he=>absurd he (by simp),fun _=>rfl⟩
 show wpAny _ _ (storeInDict h.objs.size (.str name t) name v) _ _ _
 unfold storeInDict newKeyGuard
 refine zm4 (zm7 (zm4 (wpAny_nsSet1 (Heap.Ns1.of_empty hnd) fun h' hn' hs=>?_)))
 obtain⟨oD,esD,epD,hoD,hdD,hcD⟩:=hn'.count (Within.cons name v Within.nil)
 refine zm4 (wpAny_lookBehind hoD (by rw[hdD];exact pastItsLine_dict (zr2 hcD (by rw[zn7,List.length_nil,zq0];omega))) ?_)
 refine zm7 (hq h' h.objs.size _ (zn0 _) (fun b o hb z=>?_) ?_ hn')
 ·refine (hs.2 b (zo2 (zn1 z))).trans ?_
  rw[←hh1]
  exact (Heap.get?_update_ne _ _ _ _ hb).trans (zm5 _ z)
 ·refine (hs.2 e hxs).trans ?_
  rw[←hh1]
  exact zr4 _ hx₁ rfl
end
structure XC (K:Frag)(C S:Addr)(init:Option Value):Prop where
 ok:xA K C S init=true
 sa:findIn K (.ref C) "__setattr__"=some (some (.builtin "object.__setattr__"))
 ga:findIn K (.ref C) "__getattribute__"=some (some (.builtin "BaseException.__getattribute__"))
 gt:findIn K (.ref C) "__getattr__"=some none
 cl:findIn K (.ref C) "__class__"=some (some (.builtin "object.__class__"))
 cg:specialIn K (.builtin "object.__class__") "__get__"=some (some (.builtin "getset_descriptor.__get__"))
 ct:takesIn K (.builtin "object.__class__")=some true
section
variable {prog:Program}{w:World}{A:Around}{E:Value→Shared→Prop}{h:Heap}{g:Array GenState}{d:Drawn}{t:Nat}{os:OsState}{K:Frag}{C S e t0:Addr}{init:Option Value}
theorem og {name:Str}{tk:Tok}{fill expr:Bool}{ox:Obj}{od:Option Obj}{Q:Value→Shared→Prop}(X:K.In h)(c:XC K C S init)(I:InstAt h e ox C od)
  (hq:wpAny (model prog w) A.in1 (Builtin.«object.__getattribute__» ⟨[.ref e,.str name tk],[]⟩) (fun fin s'=>match fin with|.done (.ret v)=>wpAny (model prog w) A (handedOut v) Q E s'|_=>False) (fun _ _=>False) ⟨h,g,d,t,os⟩):
  wpAny (model prog w) A (getAttrBy (.ref e) (.str name tk) fill expr) Q E ⟨h,g,d,t,os⟩:=by
 obtain⟨nm,qn,N,bs,sn,sub,ab,col,dd,k0,k1,k2,k3,k5,mN,hC,hN,hi,T,cd,hcd,hdict,hmro,_⟩:=yE X c.ok
 have FA:=PySem.F.attr_ValueError
 unfold getAttrBy
 refine zq9 (zm4 (I.type.at (zm4 ((looks_findIn X c.ga).at ?_))))
 have hx2:(Value.builtin "BaseException.__getattribute__" == Value.builtin "object.__getattribute__")=false:=by decide +kernel
 dsimp only
 rw[hx2,zA2,if_neg (by decide)]
 have hb:Looks (model prog w) h (hookBefore (.ref C)) none:=looks_hook X (by rw[if_pos (show onTheHeap (.ref C)=true from rfl)];exact c.gt)
 refine zm4 (hb.at (zm4 (zx2 (zq9 ?_))))
 unfold callGetattribute
 rw[show (expr&&onTheHeap (Value.builtin "BaseException.__getattribute__"))=false from zA2 _,if_neg (by decide)]
 unfold boundAndCalled
 rw[FA.ga.bind]
 refine zm4 (zm7 ?_)
 have sub:Looks (model prog w) h (isInstance (.ref e) (.type "BaseException")) true:=I.type.andThen (looks_mroIn X (by unfold mroIn;rw[hcd,zv5,hmro]<;>rfl))
 show wpAny _ _ (call (.builtin "BaseException.__getattribute__") [.ref e,.str name tk]) _ _ _
 refine zw0 (codeAny_call_builtin FA.ga.plain PySem.F.entry_bexc_ga (@check_slot (model prog w) _ _ ⟨h,g,d,t,os⟩ "BaseException.__getattribute__" "BaseException" "__getattribute__" (.ref e) [.str name tk] [] _ (by decide +kernel) (by decide +kernel) sub (PySem.F.args_bexc_ga (.ref e) (.str name tk)) ?_))
 refine zp3 hq (fun fin s' z=>?_) fun _ _ z=>z.elim
 rcases fin with (_|_|_|_)|_<;>first|exact z|exact z.elim
theorem ze4 {name:Str}{v:Value}{expr:Bool}{ox od:Obj}{Q:Value→Shared→Prop}(X:K.In h)(c:XC K C S init)(I:InstAt h e ox C (some od))(hf:findObj K C (some od) name=some (.value v))(hh:handedIn v=true)(hq:Q v ⟨h,g,d,t+1,os⟩):
  wpAny (model prog w) A (getAttr (.ref e) name expr) Q E ⟨h,g,d,t,os⟩:=by
 unfold getAttr
 refine zm4 (wpAny_mkText (og X c I ?_))
 unfold Builtin.«object.__getattribute__»
 refine zm4 (zm7 (zm4 (zm7 (zm4 (I.type.at (zm4 ((looks_find X I hf).at ?_)))))))
 refine zm7 ?_
 show wpAny _ _ (handedOut v) _ _ _
 rw[handedOut_of hh]
 exact zm7 hq
theorem aD {ox:Obj}{od:Option Obj}{Q:Option Value→Shared→Prop}(X:K.In h)(c:XC K C S init)(I:InstAt h e ox C od)(hq:Q (some (.ref C)) ⟨h,g,d,t+1,os⟩):wpAny (model prog w) A (getAttr? (.ref e) "__class__") Q E ⟨h,g,d,t,os⟩:=by
 obtain⟨nm,qn,N,bs,sn,sub,ab,col,dd,k0,k1,k2,k3,k5,mN,hC,hN,hi,T,cd,hcd,hdict,hmro,_⟩:=yE X c.ok
 have hf:findObj K C od "__class__"=some (.bind (.builtin "getset_descriptor.__get__") (.builtin "object.__class__")):=by
  unfold findObj
  rw[hcd,zv5,c.cl,zv5]
  dsimp only
  rw[c.cg,zv5]
  dsimp only
  rw[c.ct]
  rfl
 unfold getAttr? getAttrBy?
 refine zm4 (wpAny_mkText (zm4 (zx2 (og X c I ?_))))
 unfold Builtin.«object.__getattribute__»
 refine zm4 (zm7 (zm4 (zm7 (zm4 (I.type.at (zm4 ((looks_find X I hf).at ?_)))))))
 show wpAny _ _ (bindTo _ _ _ _) _ _ _
 have hm:mroIn K C (.type "object")=some true:=by unfold mroIn;rw[hcd,zv5,hmro]<;>rfl
 refine zm4 (zq9 (zw0 (class_get (s:=⟨h,g,d,t+1,os⟩) (ox:=ox) (od:=od) X I hm ?_)))
 refine zm7 ?_
 exact handed_on rfl (zm7 hq)
theorem gO {ox:Obj}{od:Option Obj}(c:XC K C S init):KitX K (.ref e) (.ref C) (fun h=>InstAt h e ox C od) where
 ty:=fun _ _ _ I=>I.type
 it:=fun _ _ X _=>by
  obtain⟨nm,qn,N,bs,sn,sub,ab,col,dd,k0,k1,k2,k3,k5,mN,hC,_⟩:=yE X c.ok
  intro A' Q' E' s' k q
  unfold isType loadHead
  exact zm4 (wpAny_loadPart (k _ _ hC) (zm7 q))
 ne:=fun h tp dd its n sl X htp=>by
  obtain⟨nm,qn,N,bs,sn,sub,ab,col,dd,k0,k1,k2,k3,k5,mN,hC,_⟩:=yE X c.ok
  refine zp1.mpr fun q=>?_
  have e:C=tp:=Value.ref.inj (zt4.mp q)
  subst e
  cases (show Data.cls _=Data.seq _ _ from congrArg Obj.data (zo9 (hC.symm.trans htp)))
 ca:=fun {_ _ _ _ _ s} X I k=>by obtain⟨h,g,d,t,os⟩:=s;exact aD X c I k
structure XB (K:Frag)(C B:Addr):Prop where
 ty:typeIn K (.ref B)=some (.type "type")
 be:mroIn K B (.type "BaseException")=some true
 sub:mroIn K C (.ref B)=some true
theorem zb9 {B:Addr}{ox:Obj}{od:Option Obj}{Q:Bool→Shared→Prop}(X:K.In h)(b:XB K C B)(I:InstAt h e ox C od)(hq:Q true ⟨h,g,d,t,os⟩):wpAny (model prog w) A (excMatches (.ref e) (.ref B)) Q E ⟨h,g,d,t,os⟩:=by
 have l1:Looks (model prog w) h (isType (.ref B)) true:=by
  obtain⟨cd,hcd,_⟩:=Option.bind_eq_some_iff.mp b.be
  unfold clsIn at hcd
  split at hcd
  ·rename_i c' d' cd' sl' ho
   intro A' Q' E' s' k q
   unfold isType loadHead
   exact zm4 (wpAny_loadPart (k _ _ (X _ _ ho)) (zm7 q))
  ·cases hcd
 have l2:Looks (model prog w) h (isExcClass (.ref B)) true:=l1.andThen (by rw[if_pos rfl];exact looks_mroIn X b.be)
 have l3:Looks (model prog w) h (isInstance (.ref B) (.type "tuple")) false:=(looks_typeIn X b.ty).andThen (Looks.of_pure tc_notTuple)
 have l4:=looks_mroIn (M:=model prog w) X b.sub
 have l5:=I.type (M:=model prog w)
 unfold excMatches
 refine zm4 (l3.at ?_)
 rw[if_neg (by decide)]
 refine zm4 (zm7 ?_)
 simp only[zx6,zA3]
 refine zm4 (zm4 (zm4 (l2.at ?_)))
 refine zm7 (zm7 (zm4 (l5.at (zm4 (zm4 (zm4 (l4.at ?_)))))))
 exact zm7 (zm7 (zm7 hq))
end
def xcF (a C:Addr)(d:Option Addr):HO:=.ext fun h=>∃t,h.get? a=some (vc C t d)
section
variable {X:Cx}{pins:List (Addr×Obj)}{σ:St}{H:Hp}{s:Shared}{a C:Addr}{d:Option Addr}{pos:Pos}
theorem nN {P:Program}{w:World}{H':Hp}{h:Heap}{t:Addr}(e:h.get? a=some (vc C t d)):zV P w H' h a (xcF a C d):=⟨⟨t,e⟩,⟨_,e⟩,fun _ _ ⟨t,e⟩ k=>⟨t,k _ e⟩⟩
theorem Inv.xat (I:Inv X pins σ H s)(e:H a=some (xcF a C d)):∃t,s.heap.get? a=some (vc C t d):=(I.hok a _ e).1
theorem fq {o:HO}(e:H a=some o):upd H a o=H:=by
 funext b
 unfold upd
 split
 ·rename_i z;rw[z,e]
 ·rfl
theorem Inv.xthaw (I:Inv X pins σ H s)(e:H a=some (xcF a C d)):Inv X pins σ (upd H a (xcO a C d)) s:=by
 obtain⟨t,h⟩:=I.xat e
 have:=I.write (x:=a) (e:=a) (o:=xcO a C d) (h':=s.heap) (t':=s.toks) (by rw[e];exact True.intro) (.inl rfl) (fun _ _ _ q=>q) ⟨_,h⟩ ⟨⟨_,_,h,rfl,rfl,rfl⟩,⟨_,h⟩,fun _ _ ⟨o,vs,h1,h2⟩ k=>⟨o,vs,k _ h1,h2⟩⟩
 exact this
theorem bL {e:Expr}{te:TE}(he:PE X e te):PE X (.FormattedValue e (-1) none pos) (fun σ H Q=>te σ H fun x H1=>∃i:Int,x=.int i∧i.natAbs.log2<1920∧Q (.str (toString i)) H1):=by
 intro pins s σ H Q I h
 refine FormattedValue_plain (thn (he pins s σ H _ I h) fun u s1 ⟨x,H1,I1,rx,i,ex,hi,q⟩=>?_)
 subst ex
 obtain⟨t,rfl⟩:=(show ∃t,u=Value.int i t from rx)
 exact formatField_int_small hi ⟨.str (toString i),H1,I1.tok _,⟨_,rfl⟩,q⟩
def tJ (t:TE)(k:Str→TE):TE:=fun σ H Q=>t σ H fun x H1=>∃a,x=.str a∧a.length≤10000∧k a σ H1 Q
theorem fX {a b c:Expr}{ta tb tc:TE}(ha:PE X a ta)(hb:PE X b tb)(hc:PE X c tc):PE X (.JoinedStr [a,b,c] pos) (tJ ta fun x=>tJ tb fun y=>tJ tc fun z=>fun _ H Q=>Q (.str (Str.empty++x++y++z)) H):=by
 intro pins s σ H Q I h
 refine PyProof.Rows.JoinedStr_many (joinParts_cons (thn (ha pins s σ H _ I h) fun u s1 ⟨x,H1,I1,rx,x',ex,lx,h1⟩=>?_))
 subst ex
 obtain⟨t1,rfl⟩:=(show ∃t,u=Value.str x' t from rx)
 have e0:Str.empty.length=0:=rfl
 refine⟨by rw[zs1,zq0];omega,joinParts_cons (thn (hb pins s1 σ H1 _ I1 h1) fun u s2 ⟨y,H2,I2,ry,y',ey,ly,h2⟩=>?_)⟩
 subst ey
 obtain⟨t2,rfl⟩:=(show ∃t,u=Value.str y' t from ry)
 refine⟨by rw[zs1,zs1,zq0];omega,joinParts_cons (thn (hc pins s2 σ H2 _ I2 h2) fun u s3 ⟨z,H3,I3,rz,z',ez,lz,h3⟩=>?_)⟩
 subst ez
 obtain⟨t3,rfl⟩:=(show ∃t,u=Value.str z' t from rz)
 have hl:(Str.empty++x'++y'++z').length≤sizeLine:=by rw[zs1,zs1,zs1,zq0];omega
 exact⟨hl,joinParts_nil ⟨.str (Str.empty++x'++y'++z'),H3,I3.tok _,⟨_,rfl⟩,h3⟩ hl⟩
theorem cV {i:Int}(h:i.natAbs.log2<1920):(Str.ofString (toString i)).length≤10000:=by
 have e:=int_text_length_le (k:=1920) (by decide) h
 rw[PySem.ofString_length];omega
structure XS (K:PySem.W.Frag)(S:Addr):Prop where
 rd:PySem.W.readsIn K S (.type "type")=true
 fi:PySem.W.findCls K (.ref S) (.type "type") "__init__"=some (.val (.builtin "ValueError.__init__"))
 ga:PySem.W.specialIn K (.ref S) "__getattribute__"=some (some (.builtin "type.__getattribute__"))
theorem eN {pl:Sem Bool}{sn:Str}{S:Addr}{init:Option Value}{p apos:Pos}{e:Expr}{es:List Expr}{ta:TA}(hg:Gl X sn)(hm:X.mg sn=some (.ref S))(xs:XS X.K S)(c:xA X.K C S init=true)(ha:PA X (e::es) ta)(hdb:(sn == ("__debug__":Str))=false:=by decide)
  (hst:starEach (e::es) X.env=(false,eval e X.env)::starEach es X.env:=by rfl) (hpl:(backTo pos (starEach es X.env)).any (·.1)=false:=by rfl)
  (ht:eval (.Call (.Attribute (.Name sn p) "__init__" apos) (e::es) [] pos) X.env=(do
   let ov ←eval (.Name sn p) X.env
   standAt apos.atName
   let (f,first) ←holding [ov] (getMethod ov "__init__" pl)
   callWith pos f first (backTo pos (starEach (e::es) X.env)) (backToKw pos (keywordEach [] X.env))):=by rfl):
  PE X (.Call (.Attribute (.Name sn p) "__init__" apos) (e::es) [] pos) (fun σ H Q=>ta σ H fun vs H1=>∃a rest d,vs=.ref a::rest∧rest.length≤100∧H1 a=some (xcF a C d)∧Q .non H1):=by
 intro pins s σ H Q I h
 refine zw5 (pl:=pl) (xl I hg hm ?_ hdb) ht
 refine PySem.W.method_cls I.kIn xs.ga (PySem.W.cls_value I.kIn xs.rd xs.fi (by decide +kernel) ?_)
 refine PyProof.Rows.callWith_builtin1 (thn (ha pos pins _ σ H _ (I.tok (s.toks+1)) h) fun us s1 ⟨vs,H1,I1,r1,a,rest,d,ev,lr,ea,q⟩=>?_) hst hpl
 subst ev
 obtain⟨t,hx⟩:=I1.xat ea
 cases r1 with
 |@cons _ u _ us r0 r1=>
  obtain rfl:u=Value.ref a:=r0
  obtain⟨h1,g1,d1,t1,o1⟩:=s1
  refine mC I1.kIn c hx (by have:=r1.length;omega) fun h' t' hk he=>?_
  have I2:=I1.write (x:=a) (e:=a) (o:=xcF a C d) (h':=h') (t':=t1) (by rw[ea];exact True.intro) (.inl rfl) (fun b u hb q=>hk b u hb q) ⟨_,he⟩ (nN he)
  rw[fq ea] at I2
  exact⟨.non,H1,I2,rfl,q⟩
theorem Inv.xput {h':Heap}{t':Nat}{dx t:Addr}{f:Str}{y:V}{u:Value}(I:Inv X pins σ H s)(ea:H a=some (xcF a C none))(hdx:s.heap.objs.size≤dx)(hk:∀b o,b≠a→s.heap.get? b=some o→h'.get? b=some o)(he:h'.get? a=some (vc C t (some dx)))(hn:h'.Ns1 dx (fun z=>if z=f then some u else none))(ry:RelV y u):
  Inv X pins σ (upd (upd H dx (.xd [(f,y)])) a (xcF a C (some dx))) {s with heap:=h',toks:=t'}:=by
 have hf:H dx=none:=I.hok.fresh hdx
 have da:dx≠a:=fun z=>by rw[z,ea] at hf;cases hf
 have lt:∀{b:Addr} {o:Obj},s.heap.get? b=some o→b≠dx:=fun {b o} q z=>absurd (zn1 q) (by rw[z];exact Nat.not_lt.mpr hdx)
 have na:∀{b:Addr},H b=none→b≠a:=fun {b} n z=>by rw[z,ea] at n;cases n
 have nn:∀{b:Addr} {o:HO},H b=some o→b≠dx:=fun {b o} q z=>by rw[z,hf] at q;cases q
 have keepH:∀{b:Addr} {o:HO},H b=some o→b≠a→(upd (upd H dx (.xd [(f,y)])) a (xcF a C (some dx))) b=some o:=fun {b o} q z=>by rw[zd z,zd (nn q)];exact q
 refine I.un ⟨fun b o q n _ _=>hk b o (na n) q,fun b o q n _ _=>⟨o.slots,hk b o (na n) q⟩,fun b o q n _=>by rw[zd (na n),zd (lt q)];exact n,fun b o q _=>?_,fun b xs q=>keepH q (fun z=>by rw[z,ea] at q;cases q),fun b o u q=>keepH q (fun z=>by rw[z,ea] at q;cases q),fun b ps q=>⟨#[],by rw[Array.append_empty];exact keepH q (fun z=>by rw[z,ea] at q;cases q)⟩⟩ fun b o q=>?_
 ·by_cases z:b=a
  ·subst z;exact⟨_,he⟩
  ·exact⟨o,hk b o z q⟩
 ·by_cases z:b=a
  ·subst z
   rw[zf] at q;cases q
   exact nN he
  ·rw[zd z] at q
   by_cases z2:b=dx
   ·subst z2
    rw[zf] at q;cases q
    refine⟨_,hn,fun g=>?_⟩
    show wj (([(f,y)]:List (Str×V)).lookup g) (if g=f then some u else none)
    by_cases zz:g=f
    ·subst zz
     rw[if_pos rfl]
     simp only[zp6,beq_self_eq_true]
     exact ry
    ·rw[if_neg zz]
     have:(g == f)=false:=by simpa using zz
     simp only[zp6,this,List.lookup_nil]
     trivial
   ·rw[zd z2] at q
    refine (I.hok b o q).stay (fun c v hc e=>hk c v ?_ e) (fun c e=>keepH e (fun z=>by rw[z,ea] at e;cases e)) fun c xs e=>keepH e (fun z=>by rw[z,ea] at e;cases e)
    rcases hc with rfl|hc
    ·exact z
    ·intro z3;rw[z3,ea] at hc;cases hc
theorem cO {o value:Expr}{ta tv:TE}{f:Str}{S:Addr}{init:Option Value}{pos':Pos}(ha:PE X o ta)(hv:PE X value tv)(c:XC X.K C S init)(hn:PySem.W.findIn X.K (.ref C) f=some none)(hs:swapsWith value (some (.Attribute o f pos')) pos.line X.env=pure false:=by rfl):
  PS X (.Assign [.Attribute o f pos'] value pos) (fun D σ H=>tv σ H fun y H1=>ta σ H1 fun x H2=>∃a,x=.ref a∧H2 a=some (xcF a C none)∧∀dx,H2 dx=none→dx≠a→D.nx σ (upd (upd H2 dx (.xd [(f,y)])) a (xcF a C (some dx)))):=by
 intro pins s σ H D I h
 refine plainObj_wpAny_Assign_Attribute (thn (hv pins s σ H _ I h) fun u s1 ⟨y,H1,I1,ry,q⟩=>thn (ha pins s1 σ H1 _ I1 q) fun ov s2 ⟨x,H2,I2,rx,a,ex,ea,q2⟩=>?_) hs
 subst ex
 obtain rfl:ov=Value.ref a:=rx
 obtain⟨t,hx⟩:=I2.xat ea
 obtain⟨h2,g2,d2,t2,o2⟩:=s2
 refine zk8 I2.kIn c.ok c.sa hn hx fun h' dx tk' hdx hk he hn'=>⟨σ,_,I2.xput ea hdx hk he hn' ry,q2 dx (I2.hok.fresh hdx) fun z=>?_⟩
 have:=I2.hok.fresh hdx
 rw[z,ea] at this;cases this
end
section
variable {prog:Program}{w:World}{A:Around}{E:Value→Shared→Prop}{h:Heap}{g:Array GenState}{d:Drawn}{t:Nat}{os:OsState}
variable {nm q:Str}{C N:Addr}{bs bm bmB:List Value}{hdct:Bool}{sn:List Str}{sub:List Value}{ab:Bool}{col:Option Bool}{dd:Option Addr}{k0 k1 k2 k3 k5:Option Value}{B Bn newId nid initId inN:String}{bmN:List Value}
end
section
variable {X:Cx}{pins:List (Addr×Obj)}{σ:St}{H:Hp}{s:Shared}{k:Nat}{f C S:Addr}{fd:FuncData}{ps:List Str}{sp:Sp}{x:Str}{p pos:Pos}{e:Expr}{es:List Expr}{t:TA}
theorem Inv.xmade {h':Heap}{t':Addr}(I:Inv X pins σ H s)(hk:∀b o,s.heap.get? b=some o→h'.get? b=some o)(he:h'.get? (s.heap.objs.size+1)=some (vc C t' none)):Inv X pins σ (upd H (s.heap.objs.size+1) (xcF (s.heap.objs.size+1) C none)) {s with heap:=h'}:=
 I.laid (t':=s.toks) hk (zv1 _) (nN he)
theorem fh (c:xA X.K C S (some (.ref f))=true)(hfn:PySem.W.typeIn X.K (.ref f)=some (.type "function"))(kp:PySem.W.keepIn X.K (.ref C)=true)(F:zy X.prog X.w X.K X.mg X.base CX0 k f fd ps sp)(hr:zE (k+1) X.A)(hg:Gl X x)(hm:X.mg x=some (.ref C))(hb:Binds X.K fd ps [])
  (ha:PA X (e::es) t) (hdb:(x == ("__debug__":Str))=false:=by decide) (he:starEach (e::es) X.env=(false,eval e X.env)::starEach es X.env:=by rfl) (hpl:(backTo pos (starEach es X.env)).any (·.1)=false:=by rfl):
  PE X (.Call (.Name x p) (e::es) [] pos) (fun σ H Q=>t σ H fun vs H1=>vs.length≤100∧∀a,H1 a=none→sp (.ref a::vs) (upd H1 a (xcF a C none)) (fun v H2=>v=.non∧Q (.ref a) H2) E0):=by
 intro pins s σ H Q I h
 refine zt0 (xl I hg hm ?_ hdb)
 refine zw1 (h₀:=X.base) I.ok.mod.kin kp (thn (ha pos pins s σ H _ I h) fun us s1 ⟨vs,H1,I1,r,lv,q⟩=>⟨I1.kIn,?_⟩) he hpl
 obtain⟨nm,qn,N,bs,sn,sub,ab,col,dd,k0,k1,k2,k3,k5,mN,hC,hN,hi,T,_⟩:=yE I1.kIn c
 obtain⟨oI,lI,cI⟩:=zp0.mp hfn
 have hfI:=I1.kIn _ _ lI
 have hl:=r.length
 have hq:=q (s1.heap.objs.size+1) (I1.hok.fresh (zv1 _))
 obtain⟨h0,g,d,tk,os⟩:=s1
 refine ze7 zu7 (by decide +kernel) zu7 T hC hN hi hfI cI ?_ (by show us.length≤_;rw[zq0];omega)
 have keep:∀b o,h0.get? b=some o→(wx h0 C us).get? b=some o:=fun b o e=>zm5 _ (zm5 _ e)
 have hget:(wx h0 C us).get? (h0.objs.size+1)=some (vc C h0.objs.size none):=by unfold wx;heap_get
 have I2:=I1.xmade (h':=wx h0 C us) keep hget
 have r2:Vals (V.ref (h0.objs.size+1)::vs) (Value.ref (h0.objs.size+1)::us):=.cons rfl r
 have hl2:(Value.ref (h0.objs.size+1)::us++[]).length=ps.length:=by
  have e:=r2.length
  rw[F.len _ _ _ _ hq] at e
  rw[zt5]
  exact e.symm
 have hbb:=hb _ (Value.ref (h0.objs.size+1)::us) I2.kIn hl2
 rw[zt5] at hbb
 refine zw0 (zw6 (F.run _ X.stack _ _ ⟨Value.ref (h0.objs.size+1)::us,[]⟩ _ _ _ E0 (hr.make C us []) (I2.env0.make C us []) hbb r2 hq) fun r s' hq'=>?_)
 cases r with
 |error e=>exact (hq':False).elim
 |ok fl=>
  cases fl with
  |ret u=>
   obtain⟨v,H',I3,rv,ev,q3⟩:=I2.after hq'
   subst ev
   exact⟨rv,⟨V.ref (h0.objs.size+1),H',I3,rfl,q3⟩⟩
  |next=>exact False.elim hq'
  |brk=>exact False.elim hq'
  |cont=>exact False.elim hq'
theorem eo {X0:Cx}{R:St→Addr→Hp→Prop}{te:TE}{init:Option Value}(c:xA X0.K C S init=true)(hc:X0.calm=true)(he:PE (X0.wish (XE X0 R)) e te):
  PS (X0.wish (XE X0 R)) (.Raise (some e) none pos) (fun D σ H=>te σ H fun x H1=>∃a d,x=.ref a∧H1 a=some (xcF a C d)∧R σ a (upd H1 a (xcO a C d))):=by
 intro pins s σ H D I h
 show wpAny _ _ (do standAt pos;raiseStmt X0.env (some (do let v ←eval e X0.env;standAt pos;pure v)) none) _ _ _
 obtain⟨nm,qn,N,bs,sn,sub,ab,col,dd,k0,k1,k2,k3,k5,mN,hC,hN,hi,T,_,_,_,_,lk⟩:=yE I.kIn c
 refine zm4 (zx1 (aR (C:=C) (nm:=nm) (q:=qn) (N:=N) (bs:=bs) (bm:=.ref S::bmV) (hdct:=true) (sn:=sn) (sub:=sub) (ab:=ab) (col:=col) (dd:=dd) (k0:=k0) (k1:=k1) (k2:=k2) (k3:=k3) (k5:=k5) (newId:="ValueError.__new__") (T.hasType zu7.hasBase) (I.ok.hd hc) (zm4 (thn (he pins s σ H _ I h) fun v s1 ⟨x,H1,I1,rx,a,d,ex,ea,r⟩=>zm4 (zx1 (zm7 ?_))))))
 subst ex
 obtain rfl:v=Value.ref a:=rx
 obtain⟨t',ha⟩:=I1.xat ea
 exact⟨a,t',d,rfl,I1.kIn _ _ lk,ha,⟨σ,_,a,rfl,(I1.xthaw ea).unwish.nopins,⟨C,d,zf⟩,.new ha rfl rfl,r⟩⟩
end
abbrev Cx.held (X:Cx)(pins:List (Addr×Obj)):Cx:={X with pn:=X.pn++pins}
abbrev Cx.suite (X:Cx)(a:Addr):Cx:={X with A:=X.A.mark (some (.ref a)),calm:=false,xe:=fun _ _=>False}
section
variable {X:Cx}{pins:List (Addr×Obj)}{σ:St}{H:Hp}{s:Shared}{a:Addr}{D:Ends}{f:Flow}
theorem Inv.held (I:Inv X pins σ H s):Inv (X.held pins) [] σ H s:=
 ⟨⟨I.ok.mod,I.ok.kind,I.ok.glob,I.ok.blt,I.ok.above,I.ok.inj,I.ok.has,I.ok.cab,I.ok.hd,I.ok.frames,I.ok.stk,I.ok.exf,I.ok.bs,I.ok.bsz,I.ok.noex,I.ok.exfs,I.ok.funs,I.ok.frf⟩,I.os,I.bare,I.base,I.loc,I.cell,I.free,I.freeC,fun p hp=>I.pin p (by simpa using hp),I.hok,I.len⟩
theorem Inv.unheld (I:Inv (X.held pins) [] σ H s):Inv X pins σ H s:=
 ⟨⟨I.ok.mod,I.ok.kind,I.ok.glob,I.ok.blt,I.ok.above,I.ok.inj,I.ok.has,I.ok.cab,I.ok.hd,I.ok.frames,I.ok.stk,I.ok.exf,I.ok.bs,I.ok.bsz,I.ok.noex,I.ok.exfs,I.ok.funs,I.ok.frf⟩,I.os,I.bare,I.base,I.loc,I.cell,I.free,I.freeC,fun p hp=>I.pin p (by simpa using hp),I.hok,I.len⟩
theorem Inv.suite (I:Inv X pins σ H s):Inv (X.suite a) pins σ H s:=
 ⟨⟨I.ok.mod,I.ok.kind,I.ok.glob,I.ok.blt,I.ok.above,I.ok.inj,I.ok.has,I.ok.cab,(fun z=>nomatch z),I.ok.frames,I.ok.stk,I.ok.exf,I.ok.bs,I.ok.bsz,I.ok.noex,I.ok.exfs,I.ok.funs,I.ok.frf⟩,I.os,I.bare,I.base,I.loc,I.cell,I.free,I.freeC,I.pin,I.hok,I.len⟩
theorem Inv.unsuite (J:Inv X [] σ H s){σ':St}{H':Hp}{s':Shared}(I:Inv (X.suite a) pins σ' H' s'):Inv X pins σ' H' s':=
 ⟨J.ok,I.os,I.bare,I.base,I.loc,I.cell,I.free,I.freeC,I.pin,I.hok,I.len⟩
theorem SP.held {E:Value→Shared→Prop}(h:SP ((X.held pins).wish E) [] D f s):SP X pins D f s:=by
 cases f with
 |next=>obtain⟨σ',H',I,q⟩:=h;exact⟨σ',H',I.unwish.unheld,q⟩
 |brk=>obtain⟨σ',H',I,q⟩:=h;exact⟨σ',H',I.unwish.unheld,q⟩
 |cont=>obtain⟨σ',H',I,q⟩:=h;exact⟨σ',H',I.unwish.unheld,q⟩
 |ret u=>obtain⟨v,σ',H',I,r,q⟩:=h;exact⟨v,σ',H',I.unwish.unheld,r,q⟩
theorem Inv.gone {M:Model}{A:Around}{E:Value→Shared→Prop}{Q:Unit→Shared→Prop}{i:Nat}{n:Str}{pos:Pos}(I:Inv X pins σ H s)(hN:X.N.Nodup)(hi:X.N[i]?=some n)(hl:X.env.scope.names.lookup n=some .local)
  (h:∀s',Inv X pins (σ.set i none) H s'→Q () s'):wpAny M A (do bindName X.env n .none;unbindBehindTheSuite X.env n pos) Q E s:=by
 obtain⟨m,hn,hlk⟩:=id I.loc
 have hcls:(X.env.scope.kind == .class||(X.env.scope.kind == .module&&X.env.locals != X.env.globals))=false:=by rw[I.ok.kind];rfl
 have hiσ:i<σ.length:=by rw[I.len];exact (zm8.mp hi).1
 have cne:=I.cne
 refine wpAny_nameGoes_keeps hl hn hcls fun h' v hn' hs=>?_
 obtain⟨oL,_,_,hoL,_⟩:=id hn
 have nl:∀{b:Addr} {o:Obj},X.s₀.heap.get? b=some o→b≠X.env.locals:=fun {b o} e=>zo2 (zo1 (zn1 e) I.ok.above)
 refine h _ ⟨I.ok,I.os,I.bare,⟨fun b o e n hb hx=>(hs.2 b (nl e)).trans (I.base.keep b o e n hb hx),fun b o e n hb hx=>?_,I.base.free,fun b o e hx=>?_,I.base.tups,I.base.frzs,I.base.tbls⟩,⟨_,hn',fun j y v' e1 e2 e3=>?_⟩,fun y c e=>?_,I.free,I.freeC,fun p hp=>?_,fun b ob e=>?_,by simpa using I.len⟩
 ·obtain⟨sl,e1⟩:=I.base.slot b o e n hb hx
  exact⟨sl,(hs.2 b (nl e)).trans e1⟩
 ·obtain⟨o',e1⟩:=I.base.there b o e hx
  exact⟨o',(hs.2 b (nl e)).trans e1⟩
 ·by_cases hj:j=i
  ·subst hj
   rw[zs4 hiσ] at e2
   cases e2
  ·rw[zp9 (zp4 hj)] at e2
   obtain⟨u',r',q⟩:=hlk j y v' e1 e2 e3
   refine⟨u',r',?_⟩
   rcases q with ⟨k,e⟩|⟨k,c,e,z⟩
   ·refine .inl ⟨k,?_⟩
    have:y≠n:=fun e=>hj (sr hN e1 (e▸hi))
    simp[this,e]
   ·exact .inr ⟨k,c,e,z.sameBut hs (cne y c e)⟩
 ·obtain⟨w',z⟩:=I.cell y c e
  exact⟨w',z.sameBut hs (cne y c e)⟩
 ·obtain⟨e,n,ne,nf,d⟩:=I.pin p hp
  exact⟨(hs.2 p.1 ne).trans e,n,ne,nf,d⟩
 ·refine (I.hok b ob e).stay (fun c w' hc q=>(hs.2 c ?_).trans q) (fun _ q=>q) fun _ _ q=>q
  rintro rfl
  rcases hc with rfl|hc
  ·rw[I.free] at e;cases e
  ·rw[I.free] at hc;cases hc
theorem Inv.caught {R:St→Addr→Hp→Prop}{E':Value→Shared→Prop}{Q:Flow→Shared→Prop}{e:Value}{hs:List ExceptHandler}(hst:X.stack=X.env::X.outer)(h:XE X R e s)
  (k:∀σ H a T s',Inv X [] σ H s'→(∃C d,H a=some (xcO a C d))→R σ a H→H T=none→X.s₀.heap.get? T=none→(∀p∈X.pn,p.1≠T)→Ent s'.heap X.base a T .none→wpAny (model X.prog X.w) X.A (handleBy (.ref a) X.env hs) Q E' s'):
  wpAny (model X.prog X.w) X.A (noteFrame e X.env) (fun _ s₂=>wpAny (model X.prog X.w) X.A (setFlight e none) (fun _ s₃=>wpAny (model X.prog X.w) X.A (handleBy e X.env hs) Q E' s₃) E' s₂) E' s:=by
 obtain⟨σ,H,a,rfl,I,ha,f,r⟩:=h
 refine I.note hst ha f fun h' T I' h1 h2 h3 h4=>?_
 refine I'.flight (fo:=none) hst ha h1 h2 (by simpa using h3) h4 fun h'' I'' e''=>?_
 exact k σ H a T _ I'' ha r h1 h2 h3 e''
theorem lR {P:Program}{w:World}{h:Heap}{C:Addr}{d:Option Addr}(hok:HOk P w H h)(e:H a=some (xcO a C d))(hd:∀dx,d=some dx→∃fs,H dx=some (.xd fs)):∃ox od,PySem.W.InstAt h a ox C od∧od.isSome=d.isSome:=by
 obtain⟨⟨o,vs,h1,h2,h3,h4⟩,_⟩:=hok a _ e
 cases d with
 |none=>exact⟨o,none,lq h1 h2 ⟨vs,h4⟩ (by rw[h3];trivial),rfl⟩
 |some dx=>
  obtain⟨fs,hx⟩:=hd dx rfl
  obtain⟨mA,⟨od,es,ep,e1,_⟩,_⟩:=hok dx _ hx
  exact⟨o,some od,lq h1 h2 ⟨vs,h4⟩ (by rw[h3];exact e1),rfl⟩
end
section
variable {X:Cx}{body suite:List Stmt}{b0:Stmt}{x n:Str}{np hpos pos:Pos}{B:Addr}
def lP (K:PySem.W.Frag)(B:Addr)(R:St→Addr→Hp→Prop):Prop:=∀σ a H,R σ a H→∃C d,H a=some (xcO a C d)∧(∀dx,d=some dx→∃fs,H dx=some (.xd fs))∧XB K C B
theorem gR {R:St→Addr→Hp→Prop}{i:Nat}(hst:X.stack=X.env::X.outer)(hN:X.N.Nodup)(hi:X.N[i]?=some n)(hl:X.env.scope.names.lookup n=some .local)(hg:Gl X x)(hm:X.mg x=some (.ref B))(hR:lP X.K B R)(hdb:(x == ("__debug__":Str))=false:=by decide):
  PS X (.Try body [.ExceptHandler (some (.Name x np)) (some n) (b0::suite) hpos] [] [] pos) (fun D σ H=>(∀pins,kq ((X.held pins).wish (XE (X.held pins) R)) body D σ H)∧
   ∀pins a σ' H',R σ' a H'→kq ((X.held pins).suite a) (b0::suite) {nx:=fun σ'' H''=>D.nx (σ''.set i none) H'',rt:=D.rt,bk:=fun σ'' H''=>D.bk (σ''.set i none) H'',ct:=fun σ'' H''=>D.ct (σ''.set i none) H''} (σ'.set i (some (.ref a))) H'):=by
 rintro pins s σ H D I ⟨h1,h2⟩
 obtain⟨tb,pb,qb⟩:=h1 pins
 refine wpAny_Try_except (zp3 (pb [] s σ H D (I.held.wish _) qb) (fun f s1 hf=>?_) fun e s1 hx=>?_)
 ·have hf:=SP.held hf
  cases f with
  |next=>exact zx5 hf
  |brk=>exact hf
  |cont=>exact hf
  |ret u=>exact hf
 ·refine Inv.caught (X:=X.held pins) hst hx fun σ' H' a T s' I' ha r t1 t2 t3 ent=>?_
  obtain⟨C,d,hc,hd,xb⟩:=hR σ' a H' r
  refine wpAny_handleBy_cons (codeAny_handlers_test (xl (I'.suite (a:=a)) hg hm ?_ hdb)) (by intro q;cases q)
  obtain⟨ox,od,J,_⟩:=lR I'.hok hc hd
  obtain⟨h',g',d',tk',os'⟩:=s'
  refine zb9 I'.kIn xb J (codeAny_handlers_suite_as ?_)
  refine I'.flight (fo:=none) hst ha t1 t2 (by simpa using t3) ent fun h'' I'' _=>?_
  refine tW I'' hN hi (Or.inl hl) (v:=.ref a) rfl (fun s2 I2=>?_) (.inr hl)
  obtain⟨ts,p2,q2⟩:=h2 pins a σ' H' r
  refine zp3 (p2 [] s2 _ H' _ I2.suite q2) (fun f s3 hf=>?_) fun _ _ z=>(z:False).elim
  cases f with
  |next=>
   obtain⟨σ3,H3,I3,q3⟩:=hf
   exact (I''.unsuite I3).gone hN hi hl fun s4 I4=>⟨_,H3,I4.unheld,q3⟩
  |brk=>
   obtain⟨σ3,H3,I3,q3⟩:=hf
   exact (I''.unsuite I3).gone hN hi hl fun s4 I4=>⟨_,H3,I4.unheld,q3⟩
  |cont=>
   obtain⟨σ3,H3,I3,q3⟩:=hf
   exact (I''.unsuite I3).gone hN hi hl fun s4 I4=>⟨_,H3,I4.unheld,q3⟩
  |ret u=>
   obtain⟨v,σ3,H3,I3,r3,q3⟩:=hf
   exact (I''.unsuite I3).gone hN hi hl fun s4 I4=>⟨v,_,H3,I4.unheld,r3,q3⟩
end
def xD (C:Addr)(fs:List (PyData×PyData)):PyData:=.dict ((.int (C:Nat),.bool true)::fs)
def xD0 (C:Addr):PyData:=.dict [(.int (C:Nat),.bool false)]
section
variable {G:Hp}{v:V}{C:Addr}{ds:List (PyData×PyData)}
theorem AV.xc_inv (h:AV G v (xD C ds)):∃a dx fs,v=.ref a∧G a=some (xcO a C (some dx))∧G dx=some (.xd fs)∧AVf G fs ds:=by
 generalize e:xD C ds=d at h
 cases h with
 |@xc a C' dx fs ds' h1 h2 h3=>
  unfold xD at e
  injection e with e
  injection e with e1 e2
  injection e1 with e1 _
  injection e1 with e1
  have:C=C':=by exact_mod_cast e1
  subst this;subst e2
  exact⟨a,dx,fs,rfl,h1,h2,h3⟩
 |_=>simp[xD] at e
theorem AV.xn_inv (h:AV G v (xD0 C)):∃a,v=.ref a∧G a=some (xcO a C none):=by
 generalize e:xD0 C=d at h
 cases h with
 |@xn a C' h1=>
  unfold xD0 at e
  injection e with e
  injection e with e1 e2
  injection e1 with e1 _
  injection e1 with e1
  have:C=C':=by exact_mod_cast e1
  subst this
  exact⟨a,rfl,h1⟩
 |_=>simp[xD0] at e
end
def isX (C:Addr)(d:PyData):Prop:=(∃fs,d=xD C fs)∨d=xD0 C
theorem isX.at {G:Hp}{v:V}{C:Addr}{d:PyData}(x:isX C d)(h:AV G v d):∃a dx,v=.ref a∧G a=some (xcO a C dx)∧∀y,dx=some y→∃fs,G y=some (.xd fs):=by
 rcases x with ⟨fs,rfl⟩|rfl
 ·obtain⟨a,dx,gs,rfl,h1,h2,_⟩:=h.xc_inv
  exact⟨a,some dx,rfl,h1,fun y e=>by cases e;exact⟨gs,h2⟩⟩
 ·obtain⟨a,rfl,h1⟩:=h.xn_inv
  exact⟨a,none,rfl,h1,fun y e=>by cases e⟩
structure Xok (X:Cx)(r:Fr)(αh:Ev)(q:PyData→Prop):Prop where
 ex:∃(X0:Cx) (R:St→Addr→Hp→Prop),X=X0.wish (XE X0 R)∧X0.stack=X0.env::X0.outer∧X0.ex=[]∧∀σ d a H',M r αh σ H'→q d→AV (Gz r αh σ H') (.ref a) d→R σ a H'
theorem Xok.own {X:Cx}{r:Fr}{αh:Ev}{q:PyData→Prop}(x:Xok X r αh q):PassesOwn (model X.prog X.w) X.A X.env X.xe:=by
 obtain⟨X0,R,rfl,h1,_⟩:=x.ex
 exact aX h1
section
variable {F:Fr}{α αh:Ev}{σ:St}{H:Hp}
theorem M.exc {j:Nat}{q:PyData→Prop}(m:M F α σ H)(hj:α[j]?=some none):M F (α.set j (some (.exc F q))) σ H:=by
 have hs:∀{i:Nat} {c:A},(α.set j (some (.exc F q)))[i]?=some (some c)→(i=j∧c=.exc F q)∨α[i]?=some (some c):=fun {i c} e=>by
  rcases zW e with ⟨rfl,z⟩|⟨_,e'⟩
  ·cases z;exact .inl ⟨rfl,rfl⟩
  ·exact .inr e'
 have ow:∀{y:Addr},Ow F (α.set j (some (.exc F q))) σ y→Ow F α σ y:=fun {y} h=>by
  rcases h with z|⟨i,c,s,e1,e2,f⟩
  ·exact .inl z
  ·rcases hs e1 with ⟨_,rfl⟩|e1
   ·exact f.elim
   ·exact .inr ⟨i,c,s,e1,e2,f⟩
 have gs:zx (Gz F α σ H) (Gz F (α.set j (some (.exc F q))) σ H):=zr fun a o h e=>⟨fun z=>h (ow z),e⟩
 refine⟨by rw[zq3];exact m.len,fun i c s e1 e2=>?_,fun i i' c c' s s' x e1 e2 h1 h2 f1 f2=>?_,fun i r' q' e i' c s x e1 e2 f=>?_,m.tp,m.keep,m.oex⟩
 ·rcases hs e1 with ⟨_,rfl⟩|e1
  ·exact⟨rfl,fun _ z=>z,m.tp,m.keep⟩
  ·exact (m.ok i c s e1 e2).stay gs (fun x o f e=>⟨e,(m.ft e1 e2 f).1,(m.ft e1 e2 f).2.1⟩) rfl fun _ _ _ l=>l
 ·rcases hs e1 with ⟨_,rfl⟩|e1
  ·exact f1.elim
  ·rcases hs e2 with ⟨_,rfl⟩|e2
   ·exact f2.elim
   ·exact m.dj i i' c c' s s' x e1 e2 h1 h2 f1 f2
 ·rcases hs e1 with ⟨_,rfl⟩|e1
  ·exact f.elim
  ·rcases hs e with ⟨_,z⟩|e
   ·cases z;exact (m.ft e1 e2 f).2.1
   ·exact m.xd i r' q' e i' c s x e1 e2 f
theorem M.back {j:Nat}{r:Fr}{q:PyData→Prop}(m:M F α σ H)(hj:α[j]?=some (some (.exc r q)))(hl:αh.length=α.length)(le:∀(i:Nat) a,αh[i]?=some (some a)→α[i]?=some (some a)∧noX a):M r αh σ H:=by
 have l:=m.lnk hj
 have ow:∀{y:Addr},Ow r αh σ y→Ow F α σ y:=fun {y} h=>by
  rcases h with z|⟨i,c,s,e1,e2,f⟩
  ·exact .inl (l.o y z)
  ·exact .inr ⟨i,c,s,(le _ _ e1).1,e2,f⟩
 have gs:zx (Gz F α σ H) (Gz r αh σ H):=zr fun a o h e=>⟨fun z=>h (ow z),e⟩
 refine⟨hl.trans m.len,fun i c s e1 e2=>?_,fun i i' c d s s' x e1 e2=>m.dj i i' c d s s' x (le _ _ e1).1 (le _ _ e2).1,fun i r' q' e=>((le _ _ e).2:False).elim,l.ok,l.k,fun x hx=>m.oex x (l.o x hx)⟩
 refine (m.ok i c s (le _ _ e1).1 e2).stay gs (fun x o f e=>⟨e,fun z=>(m.ft (le _ _ e1).1 e2 f).1 (l.o x z),m.xd j r q hj i c s x (le _ _ e1).1 e2 f⟩) l.tp fun r' q' z=>?_
 subst z
 exact ((le _ _ e1).2:False).elim
end
def leX :Ev→Ev→Prop:=fun αh α=>αh.length=α.length∧∀(i:Nat) a,αh[i]?=some (some a)→α[i]?=some (some a)∧noX a
theorem leX.nil {n:Nat}{α:Ev}(h:n=α.length):leX (List.replicate n none) α:=⟨by rw[zz1];exact h,fun i a e=>by
 rw[zs3] at e
 split at e<;>cases e⟩
theorem leX.cons {x y:Option A}{αh α:Ev}(h:x=none∨(x=y∧∀a,x=some a→noX a))(r:leX αh α):leX (x::αh) (y::α):=⟨by rw[zn7,zn7,r.1],fun i a e=>by
 cases i with
 |zero=>
  simp at e
  rcases h with h|⟨h1,h2⟩
  ·rw[h] at e;cases e
  ·subst h1;subst e;exact⟨rfl,h2 _ rfl⟩
 |succ i=>simpa using r.2 i a (by simpa using e)⟩
theorem leX.nil' :leX [] []:=⟨rfl,fun i a e=>by simp at e⟩
def spX (φ:List A→(A→Prop)→(PyData→Prop)→Prop):Sp:=fun vs H Qc E=>∃(F:Fr) (as:List A) (Q:A→Prop) (q:PyData→Prop),F.H0=H∧zK F H∧(∀x,F.O0 x→∃o,H x=some o∧wb o)∧zU F (sub (fun x=>¬F.O0 x) H) vs as∧φ as Q q∧(∀a v H',Q a→wc F v H' a→Qc v H')∧∀d a H',q d→wc F (.ref a) H' (.dat d)→E (.ref a) none H'
section
variable {P:Program}{w:World}{K:PySem.W.Frag}{mg:Str→Option Value}{base:Heap}
theorem fnX {x qual:Str}{st:Stmt}{f:Addr}{fd:FuncData}{N ps:List Str}{z:Str}{k:Nat}{φ:List A→(A→Prop)→(PyData→Prop)→Prop}(G:Fun K x qual st f fd)(S:zo (N++[z]) ps (zb st))(hpn:ps.length≤N.length)(hlen:∀as Q q,φ as Q q→as.length=ps.length)
  (hbody:∀(cdv:Value) (A':Around) (outer:List Env) (s:Shared) (H:Hp) (E:XK) (as:List A) (Q:A→Prop) (q:PyData→Prop) (r:Fr) (xe:Value→Shared→Prop),zE k (A'.deeper (envOfC qual (zb st) s.heap.objs.size f cdv))→φ as Q q→Xok ((yV (CX1 P w base) P w K mg base (N++[z]) qual (zb st) f cdv A' outer s H E).wish xe) r (List.replicate (N.length+1) none) q→
   SvS ((yV (CX1 P w base) P w K mg base (N++[z]) qual (zb st) f cdv A' outer s H E).wish xe) ((as.map some++List.replicate (N.length-as.length) none)++[some (.exc r fun _=>True)]) (zv st) {nx:=fun _=>Q (.dat .none),rt:=Q}):zy P w K mg base (CX1 P w base) (k+1) f fd ps (spX φ):=by
 refine G.okX S (fun vs H Q E h=>?_) (fun cdv A' outer s H vs Qc E hr h=>?_)
 ·obtain⟨F,as,Q',q,_,_,_,rv,hφ,_⟩:=h
  rw[rv.length,hlen as _ _ hφ]
 ·obtain⟨F,as,Q',q,e,t,o,rv,hφ,kk,kx⟩:=h
  have hl:=hlen as _ _ hφ
  have m:=M.start (N:=N++[z]) e t o rv
  have ea:as.map some++List.replicate ((N++[z]).length-as.length) none=(as.map some++List.replicate (N.length-as.length) none)++[none]:=by
   rw[zq1,zz2,show N.length+1-as.length=(N.length-as.length)+1 by omega,List.replicate_succ',List.append_assoc]
  rw[ea] at m
  have el:(as.map some++List.replicate (N.length-as.length) (none:Option A)).length=N.length:=by rw[zq1,zm6,zz1];omega
  have mx:=m.exc (j:=N.length) (q:=fun _=>True) (by rw[zr0 (by omega),el,Nat.sub_self]<;>rfl)
  have es:((as.map some++List.replicate (N.length-as.length) (none:Option A))++[none]).set N.length (some (A.exc F fun _=>True))=(as.map some++List.replicate (N.length-as.length) none)++[some (.exc F fun _=>True)]:=by
   rw[List.set_append_right _ _ (by omega),el,Nat.sub_self]<;>rfl
  rw[es] at mx
  refine hbody cdv A' outer s H E as Q' q F _ hr hφ ⟨_,_,rfl,rfl,rfl,fun σ d a H' mr qd av=>kx d a H' qd ⟨mr.tp,mr.keep,av.same (zr fun a o h e=>⟨ow0 h,e⟩)⟩⟩ F _ H _ mx ⟨fun α σ H' m q=>?_,fun a v H' r q=>kk a v H' q r,fun _ _ _ _ z=>z.elim,fun _ _ _ _ z=>z.elim⟩
  exact kk _ _ _ q ⟨m.tp,m.keep,.non⟩
end
structure nF (P:Program)(w:World)(K:PySem.W.Frag)(mg:Str→Option Value)(base:Heap)(x:Str)(k:Nat)(φ:List A→(A→Prop)→(PyData→Prop)→Prop):Prop where
 ex:∃f fd ps,mg x=some (.ref f)∧PySem.W.keepIn K (.ref f)=true∧Binds K fd ps []∧zy P w K mg base (CX1 P w base) k f fd ps (spX φ)
def ze2 (C:Addr)(fl:Str):Sp:=fun vs H Qc _=>∃(a:Addr) (i:Int),vs=[.ref a,.int i]∧i.natAbs.log2<1920∧H a=some (xcF a C none)∧∀dx,H dx=none→dx≠a→Qc .non (upd (upd H dx (.xd [(fl,.int i)])) a (xcF a C (some dx)))
structure XMk (P:Program)(w:World)(K:PySem.W.Frag)(mg:Str→Option Value)(base:Heap)(x:Str)(k:Nat)(C:Addr)(fl:Str):Prop where
 m:mg x=some (.ref C)
 kp:PySem.W.keepIn K (.ref C)=true
 ex:∃S f fd ps,xA K C S (some (.ref f))=true∧PySem.W.typeIn K (.ref f)=some (.type "function")∧Binds K fd ps []∧zy P w K mg base CX0 k f fd ps (ze2 C fl)
section
variable {X:Cx}{α αh:Ev}{r:Fr}{q q0:PyData→Prop}{j k:Nat}{x fl:Str}{C:Addr}{e:Expr}{es:List Expr}{p pos pos':Pos}{rest:List Stmt}{E:xg}
theorem kn (xo:Xok X r αh q)(hc:X.calm=true)(ck:XMk X.prog X.w X.K X.mg X.base x k C fl)(hr:zE (k+1) X.A)(hg:Gl X x)(hj:α[j]?=some (some (.exc r q0)))(le:leX αh α)(h:EvD X α e fun d=>∃i:Int,d=.int i∧i.natAbs.log2<1920∧q (xD C [(.str fl,.int i)]))
  (hdb:(x == ("__debug__":Str))=false:=by decide) (he:starEach [e] X.env=(false,eval e X.env)::starEach [] X.env:=by rfl):SvS X α (.Raise (some (.Call (.Name x p) [e] [] pos)) none pos'::rest) E:=fun F σ H D m rr=>by
 obtain⟨X0,R,rfl,h1,h2,h3⟩:=xo.ex
 obtain⟨S,f,fd,ps,c,hf,hb,G⟩:=ck.ex
 refine⟨_,zG (eo c hc (fh (X:=X0.wish (XE X0 R)) c hf ck.kp G hr hg ck.m hb (zc zl zp he) hdb he)) yc,?_⟩
 refine h F σ H _ m fun d v H1 q1 t1 k1 r1=>?_
 obtain⟨i,rfl,hi,qi⟩:=q1
 cases r1.int_inv
 refine⟨zr5 rfl,fun a ha=>⟨a,i,rfl,hi,zf,fun dx hd hne=>⟨rfl,a,some dx,rfl,zf,?_⟩⟩⟩
 have m1:=m.kz k1 t1
 rw[vB]
 have hd1:H1 dx=none:=by rw[zd hne] at hd;exact hd
 generalize hH3:upd (upd (upd H1 a (xcF a C none)) dx (HO.xd [(fl,.int i)])) a (xcO a C (some dx))=H3
 have sm:zx H1 H3:=fun y o e=>by
  have ya:y≠a:=fun z=>by rw[z,ha] at e;cases e
  have yd:y≠dx:=fun z=>by rw[z,hd1] at e;cases e
  rw[←hH3,zd ya,zd yd,zd ya]
  exact e
 have m3:=(m1.kz (Kz.of_same sm) (m1.tp.same sm)).back hj le.1 le.2
 have m1':=m1.back hj le.1 le.2
 refine h3 σ _ a H3 m3 qi (.xc (dx:=dx) (fs:=[(fl,.int i)]) (zR (m1'.fresh ha) ?_) (zR (m1'.fresh hd1) ?_) (.cons (.int i) .nil))
 ·rw[←hH3];exact zf
 ·rw[←hH3,zd hne];exact zf
theorem pE {X0:Cx}{R:St→Addr→Hp→Prop}{f:Addr}{fd:FuncData}{ps:List Str}{sp:Sp}{t:TA}(hex:X0.ex=[])(F:zy X0.prog X0.w X0.K X0.mg X0.base (CX1 X0.prog X0.w X0.base) k f fd ps sp)(hr:zE k X0.A)(hg:Gl X0 x)(hm:X0.mg x=some (.ref f))(hk:PySem.W.keepIn X0.K (.ref f)=true)(hb:Binds X0.K fd ps [])
  (ha:PA (X0.wish (XE X0 R)) (e::es) t) (hdb:(x == ("__debug__":Str))=false:=by decide) (he:starEach (e::es) X0.env=(false,eval e X0.env)::starEach es X0.env:=by rfl) (hpl:(backTo pos (starEach es X0.env)).any (·.1)=false:=by rfl):
  PE (X0.wish (XE X0 R)) (.Call (.Name x p) (e::es) [] pos) (fun σ H Q=>t σ H fun vs H1=>∃E:XK,(∀a H',E (.ref a) none H'→R σ a H')∧sp vs H1 Q E):=by
 intro pins s σ H Q I h
 refine zt0 (xl I hg hm ?_ hdb)
 refine zw1 (h₀:=X0.base) I.ok.mod.kin hk (thn (ha pos pins s σ H _ I h) fun us s1 ⟨vs,H1,I1,r,E,hE,q⟩=>⟨I1.kIn,?_⟩) he hpl
 have hl:(us++[]).length=ps.length:=by rw[zt5,←r.length];exact F.len _ _ _ _ q
 have hbb:=hb s1 us I1.kIn hl
 rw[zt5] at hbb
 refine zw0 (zw6 (F.run X0.A X0.stack s1 H1 ⟨us,[]⟩ us vs Q E hr I1.env0 hbb r q) fun r s' hq=>?_)
 cases r with
 |error e=>exact cb hex I1.unwish hq hE
 |ok fl=>
  cases fl with
  |ret u=>exact I1.after hq
  |next=>exact False.elim hq
  |brk=>exact False.elim hq
  |cont=>exact False.elim hq
variable {φ:List A→(A→Prop)→(PyData→Prop)→Prop}{Q:PyData→Prop}
theorem ue {F:Fr}{σ:St}{H:Hp}{vs:List V}{as:List A}{QA:A→Prop}{Rk:VK}{R:St→Addr→Hp→Prop}(m:M F α σ H)(hj:α[j]?=some (some (.exc r q0)))(le:leX αh α)(h3:∀σ d a H',M r αh σ H'→q d→AV (Gz r αh σ H') (.ref a) d→R σ a H')(rv:zU F (Gz F α σ H) vs as)(hφ:φ as QA q)
  (kk:∀a v H',QA a→wc ⟨H,Ow F α σ,F.tp⟩ v H' a→Rk v H'):∃E:XK,(∀a H',E (.ref a) none H'→R σ a H')∧spX φ vs H Rk E:=by
 refine⟨fun v _ H'=>∃a,v=.ref a∧∃d,q d∧wc ⟨H,Ow F α σ,F.tp⟩ (.ref a) H' (.dat d),fun a H' ⟨a',e,d,qd,ra⟩=>?_,⟨⟨H,Ow F α σ,F.tp⟩,as,QA,q,rfl,m.tp.to rfl fun _ z=>.inl z,fun y z=>m.owEx z,zU.to (F:=F) (F':=⟨H,Ow F α σ,F.tp⟩) (fun _ _ e=>e) rfl rv,hφ,kk,fun d a H' qd ra=>⟨a,rfl,d,qd,ra⟩⟩⟩
 cases e
 obtain⟨g1,g2,g3⟩:=ra.back m
 have m2:=m.kz g2 g1
 have m3:=m2.back hj le.1 le.2
 refine h3 σ d a H' m3 qd (AV.same ?_ g3)
 have l:=m2.lnk hj
 exact zr fun b o hb e=>⟨fun z=>hb (by
  rcases z with z|⟨i,c,s,e1,e2,f⟩
  ·exact .inl (l.o b z)
  ·exact .inr ⟨i,c,s,(le.2 _ _ e1).1,e2,f⟩),e⟩
theorem cU (xo:Xok X r αh q)(hj:α[j]?=some (some (.exc r q0)))(le:leX αh α)(C:nF X.prog X.w X.K X.mg X.base x k φ)(hr:zE k X.A)(hg:Gl X x)(h:EvA X α (e::es) fun as=>φ as (fun a=>Q a.d) q)
  (hdb:(x == ("__debug__":Str))=false:=by decide) (he:starEach (e::es) X.env=(false,eval e X.env)::starEach es X.env:=by rfl) (hpl:(backTo pos (starEach es X.env)).any (·.1)=false:=by rfl):EvD X α (.Call (.Name x p) (e::es) [] pos) Q:=fun F σ H Rk m kk=>by
 obtain⟨X0,R,rfl,h1,h2,h3⟩:=xo.ex
 obtain⟨f,fd,ps,c1,c2,c3,c4⟩:=C.ex
 refine⟨_,pE h2 c4 hr hg c1 c2 c3 yv hdb he hpl,?_⟩
 refine h F σ H _ m fun as vs H1 q1 t1 k1 r1=>?_
 have m1:=m.kz k1 t1
 refine ue m1 hj le h3 r1 q1 fun a v H' qa ra=>?_
 obtain⟨g1,g2,g3⟩:=ra.back m1
 exact kk _ v H' qa g1 (k1.trans g2) g3
theorem cy {Q:List PyData→Prop}(xo:Xok X r αh q)(hj:α[j]?=some (some (.exc r q0)))(le:leX αh α)(C:nF X.prog X.w X.K X.mg X.base x k φ)(hr:zE k X.A)(hg:Gl X x)(h:EvA X α (e::es) fun as=>φ as (fun a=>∃ds,a=.own ds∧Q ds) q)
  (hdb:(x == ("__debug__":Str))=false:=by decide) (he:starEach (e::es) X.env=(false,eval e X.env)::starEach es X.env:=by rfl) (hpl:(backTo pos (starEach es X.env)).any (·.1)=false:=by rfl):EvL X α (.Call (.Name x p) (e::es) [] pos) Q:=fun F σ H Rk m kk=>by
 obtain⟨X0,R,rfl,h1,h2,h3⟩:=xo.ex
 obtain⟨f,fd,ps,c1,c2,c3,c4⟩:=C.ex
 refine⟨_,pE h2 c4 hr hg c1 c2 c3 yv hdb he hpl,?_⟩
 refine h F σ H _ m fun as vs H1 q1 t1 k1 r1=>?_
 have m1:=m.kz k1 t1
 refine ue m1 hj le h3 r1 q1 fun a v H' qa ra=>?_
 obtain⟨ds,rfl,qd⟩:=qa
 obtain⟨g1,g2,_⟩:=ra.back m1
 obtain⟨_,_,l,xs,ds',rfl,hc,w1,w2,w3,w4⟩:=ra
 cases hc
 exact kk ds _ H' qd g1 (k1.trans g2) (yD.back m k1 t1 ⟨l,xs,rfl,w1,w3,w4⟩)
end
section
variable {P:Program}{w:World}{K:PySem.W.Frag}{mg:Str→Option Value}{base:Heap}
theorem zg2 {x qual:Str}{st:Stmt}{f:Addr}{fd:FuncData}{N ps:List Str}{z:Str}{k:Nat}{φ:List A→(A→Prop)→(PyData→Prop)→Prop}(G:Fun K x qual st f fd)(hm:mg x=some (.ref f))(hb:Binds K fd ps [])(S:zo (N++[z]) ps (zb st))(hpn:ps.length≤N.length)(hlen:∀as Q q,φ as Q q→as.length=ps.length)
  (hbody:∀(cdv:Value) (A':Around) (outer:List Env) (s:Shared) (H:Hp) (E:XK) (as:List A) (Q:A→Prop) (q:PyData→Prop) (r:Fr) (xe:Value→Shared→Prop),zE k (A'.deeper (envOfC qual (zb st) s.heap.objs.size f cdv))→φ as Q q→Xok ((yV (CX1 P w base) P w K mg base (N++[z]) qual (zb st) f cdv A' outer s H E).wish xe) r (List.replicate (N.length+1) none) q→
   SvS ((yV (CX1 P w base) P w K mg base (N++[z]) qual (zb st) f cdv A' outer s H E).wish xe) ((as.map some++List.replicate (N.length-as.length) none)++[some (.exc r fun _=>True)]) (zv st) {nx:=fun _=>Q (.dat .none),rt:=Q}):nF P w K mg base x (k+1) φ:=
 ⟨f,fd,ps,hm,G.kp,hb,fnX G S hpn hlen hbody⟩
end
section
variable {X:Cx}{α αh:Ev}{q:PyData→Prop}{i j:Nat}{x n:Str}{B:Addr}{body suite rest:List Stmt}{b0:Stmt}{np hpos pos:Pos}{E:xg}
theorem nc {K:PySem.W.Frag}{r:Fr}{αh:Ev}(hq:∀d,q d→∃C,isX C d∧XB K C B):lP K B (fun σ a H=>M r αh σ H∧∃d,q d∧AV (Gz r αh σ H) (.ref a) d):=fun σ a H ⟨_,d,qd,av⟩=>by
 obtain⟨C,x,b⟩:=hq d qd
 obtain⟨a',dx,e,h1,h2⟩:=x.at av
 cases e
 exact⟨C,dx,(zj h1).2,fun y e=>by obtain⟨fs,h⟩:=h2 y e;exact⟨fs,(zj h).2⟩,b⟩
theorem qr {β:Ev}{j:Nat}{a:A}{i:Nat}(e:(β.set j none)[i]?=some (some a)):β[i]?=some (some a):=by
 rcases zW e with ⟨_,z⟩|⟨_,z⟩
 ·cases z
 ·exact z
theorem M.drop {F:Fr}{β:Ev}{σ:St}{H:Hp}{j:Nat}(m:M F β σ H):M F (β.set j none) σ H:=m.forget (by rw[zq3]) fun i a e=>qr e
theorem M.dropS {F:Fr}{β:Ev}{σ:St}{H:Hp}{j:Nat}(m:M F β σ H):M F (β.set j none) (σ.set j none) H:=by
 have m':=m.drop (j:=j)
 have gs:∀{i:Nat} {a:A} {s:Option V},(β.set j none)[i]?=some (some a)→(σ.set j none)[i]?=some s→σ[i]?=some s:=fun {i a s} e1 e2=>by
  by_cases z:j=i
  ·subst z
   rcases zW e1 with ⟨_,z⟩|⟨z,_⟩
   ·cases z
   ·exact absurd rfl z
  ·rw[zp9 z] at e2;exact e2
 have ow:∀{y:Addr},Ow F (β.set j none) (σ.set j none) y→Ow F (β.set j none) σ y:=fun {y} h=>by
  rcases h with z|⟨i,c,s,e1,e2,f⟩
  ·exact .inl z
  ·exact .inr ⟨i,c,s,e1,gs e1 e2,f⟩
 have gz:zx (Gz F (β.set j none) σ H) (Gz F (β.set j none) (σ.set j none) H):=zr fun a o h e=>⟨fun z=>h (ow z),e⟩
 exact⟨by rw[zq3,zq3];exact m.len,fun i c s e1 e2=>(m'.ok i c s e1 (gs e1 e2)).stay gz (fun x o f e=>⟨e,(m'.ft e1 (gs e1 e2) f).1,(m'.ft e1 (gs e1 e2) f).2.1⟩) rfl fun _ _ _ l=>l,fun i i' c d s s' x e1 e2 h1 h2=>m'.dj i i' c d s s' x e1 e2 (gs e1 h1) (gs e2 h2),fun i r' q' e i' c s x e1 e2=>m'.xd i r' q' e i' c s x e1 (gs e1 e2),m'.tp,m'.keep,m'.oex⟩
theorem pH (i j:Nat)(αh:Ev)(q:PyData→Prop)(hst:X.stack=X.env::X.outer)(hex:X.ex=[])(hN:X.N.Nodup)(hj:α[j]?=some none)(le:leX αh α)(hg:Gl X x)(hm:X.mg x=some (.ref B))(hq:∀d,q d→∃C,isX C d∧XB X.K C B)
  (h1:∀(pins:List (Addr×Obj)) (xe:Value→Shared→Prop) (r:Fr),Xok ((X.held pins).wish xe) r αh q→SvS ((X.held pins).wish xe) (α.set j (some (.exc r fun _=>True))) body {nx:=fun α'=>SvS X (α'.set j none) rest E,rt:=E.rt,bk:=fun α'=>E.bk (α'.set j none),ct:=fun α'=>E.ct (α'.set j none)})
  (h2:∀(pins:List (Addr×Obj)) (a:Addr) d,q d→SvS ((X.held pins).suite a) (αh.set i (some (.dat d))) (b0::suite) {nx:=fun α'=>SvS X (α'.set i none) rest E,rt:=E.rt,bk:=fun α'=>E.bk (α'.set i none),ct:=fun α'=>E.ct (α'.set i none)})
  (hi:X.N[i]?=some n:=by rfl) (hl:X.env.scope.names.lookup n=some .local:=by rfl) (hdb:(x == ("__debug__":Str))=false:=by decide):
  SvS X α (.Try body [.ExceptHandler (some (.Name x np)) (some n) (b0::suite) hpos] [] [] pos::rest) E:=fun F σ H D m rr=>by
 refine⟨_,zG (gR (R:=fun σ a H=>M F αh σ H∧∃d,q d∧AV (Gz F αh σ H) (.ref a) d) hst hN hi hl hg hm (nc hq) hdb) yc,fun pins=>?_,fun pins a σ' H' hR=>?_⟩
 ·refine h1 pins _ F ⟨_,_,rfl,hst,hex,fun σ d a H' mr qd av=>⟨mr,d,qd,av⟩⟩ F σ H _ (m.exc hj) ⟨fun α' σ' H' m' z=>?_,rr.rt,fun α' σ' H' m' z=>rr.bk _ _ _ m'.drop z,fun α' σ' H' m' z=>rr.ct _ _ _ m'.drop z⟩
  exact z F σ' H' D m'.drop rr
 ·obtain⟨mr,d,qd,av⟩:=hR
  refine h2 pins a d qd F _ H' _ (mr.set av) ⟨fun α' σ' H' m' z=>?_,rr.rt,fun α' σ' H' m' z=>rr.bk _ _ _ m'.dropS z,fun α' σ' H' m' z=>rr.ct _ _ _ m'.dropS z⟩
  exact z F _ H' D m'.dropS rr
end
section
variable {X:Cx}{α:Ev}{p p1 pos:Pos}{a:Expr}{Q:PyData→Prop}{C S:Addr}{init:Option Value}
inductive TyX (K:PySem.W.Frag)(H:Hp):V→Addr→Prop where
 |mk {a C S:Addr} {d:Option Addr} {init:Option Value} (e:H a=some (xcO a C d)) (hd:∀dx,d=some dx→∃fs,H dx=some (.xd fs)) (c:XC K C S init):TyX K H (.ref a) C
theorem tO {pins:List (Addr×Obj)}{σ:St}{H:Hp}{s:Shared}{A:Around}{E:Value→Shared→Prop}{Q:Value→Shared→Prop}{c:Value}{b:Bool}{x:V}{u:Value}(I:Inv X pins σ H s)(rx:RelV x u)(ty:TyX X.K H x C)(e:PySem.W.kitOne X.K (.ref C) c=some b)(h:∀tk,Q (.bool b) {s with toks:=tk}):
  wpAny (model X.prog X.w) A (call (.builtin "isinstance") [u,c]) Q E s:=by
 cases ty with
 |@mk a C S d init ea hd xc=>
  cases (show u=Value.ref a from rx)
  obtain⟨ox,od,J,_⟩:=lR I.hok ea hd
  exact zr1 (gO xc) I.kIn J e (fun z=>nomatch z) h
theorem jo :yX X (.builtin "isinstance") (fun xs H Q=>∃x B C b,xs=[x,.ref B]∧TyX X.K H x C∧PySem.W.kitOne X.K (.ref C) (.ref B)=some b∧Q (.bl b) H):=by
 intro pins s σ H xs us Q I r h
 obtain⟨x,B,C,b,rfl,ty,e,q⟩:=h
 obtain⟨u,v,rfl,rx,ry⟩:=Vals.two r
 cases (show v=Value.ref B from ry)
 exact tO I rx ty e fun tk=>⟨.bl b,H,I.tok tk,rfl,q⟩
theorem nL :yX X (.builtin "isinstance") (fun xs H Q=>∃x T C b,xs=[x,.ty T]∧TyX X.K H x C∧PySem.W.kitOne X.K (.ref C) (.type T)=some b∧Q (.bl b) H):=by
 intro pins s σ H xs us Q I r h
 obtain⟨x,T,C,b,rfl,ty,e,q⟩:=h
 obtain⟨u,v,rfl,rx,ry⟩:=Vals.two r
 cases (show v=Value.type T from ry)
 exact tO I rx ty e fun tk=>⟨.bl b,H,I.tok tk,rfl,q⟩
theorem gU {G H:Hp}{pr:Addr→Prop}{v:V}{d:PyData}(x:isX C d)(c:XC X.K C S init)(h:AV (sub pr H) v d):TyX X.K H v C:=by
 obtain⟨a,dx,rfl,h1,h2⟩:=x.at h
 exact .mk (zj h1).2 (fun y e=>by obtain⟨fs,z⟩:=h2 y e;exact⟨fs,(zj z).2⟩) c
theorem vG {B:Addr}{x:Str}(hg:Gl X "isinstance")(hm:X.mg "isinstance"=none)(hgC:Gl X x)(hmC:X.mg x=some (.ref B))(h:EvD X α a fun d=>∃C S init b,isX C d∧XC X.K C S init∧PySem.W.kitOne X.K (.ref C) (.ref B)=some b∧Q (.bool b))
  (hdx:(x == ("__debug__":Str))=false:=by decide) (he:starEach [a,.Name x p1] X.env=(false,eval a X.env)::starEach [.Name x p1] X.env:=by rfl) (he2:starEach [.Name x p1] X.env=(false,eval (.Name x p1) X.env)::starEach [] X.env:=by rfl) (hpl:(backTo pos (starEach [.Name x p1] X.env)).any (·.1)=false:=by rfl):
  EvD X α (.Call (.Name "isinstance" p) [a,.Name x p1] [] pos) Q:=fun F σ H R m k=>by
 refine⟨_,zQ jo hg hm zu5 (zc zl (zc (wQ (v:=.ref B) hgC hmC rfl hdx) zp he2) he) (he:=he) (hpl:=hpl),?_⟩
 refine h F σ H _ m fun d vx H1 q1 t1 k1 r1=>?_
 obtain⟨C,S,init,b,x,c,e,q⟩:=q1
 exact⟨vx,B,C,b,rfl,gU (G:=H1) x c r1,e,k _ _ H1 q t1 k1 (.bl b)⟩
theorem iy {T:String}{x:Str}(hg:Gl X "isinstance")(hm:X.mg "isinstance"=none)(hgC:Gl X x)(hmC:X.mg x=none)(hv:bootBuiltins x=some (.type T))(h:EvD X α a fun d=>∃C S init b,isX C d∧XC X.K C S init∧PySem.W.kitOne X.K (.ref C) (.type T)=some b∧Q (.bool b))(hn:x≠"__name__":=by decide)
  (hdx:(x == ("__debug__":Str))=false:=by decide) (he:starEach [a,.Name x p1] X.env=(false,eval a X.env)::starEach [.Name x p1] X.env:=by rfl) (he2:starEach [.Name x p1] X.env=(false,eval (.Name x p1) X.env)::starEach [] X.env:=by rfl) (hpl:(backTo pos (starEach [.Name x p1] X.env)).any (·.1)=false:=by rfl):
  EvD X α (.Call (.Name "isinstance" p) [a,.Name x p1] [] pos) Q:=fun F σ H R m k=>by
 refine⟨_,zQ nL hg hm zu5 (zc zl (zc (wJ hgC hmC hv (show RelV (.ty T) (.type T) from rfl) hn hdx) zp he2) he) (he:=he) (hpl:=hpl),?_⟩
 refine h F σ H _ m fun d vx H1 q1 t1 k1 r1=>?_
 obtain⟨C,S,init,b,x,c,e,q⟩:=q1
 exact⟨vx,T,C,b,rfl,gU (G:=H1) x c r1,e,k _ _ H1 q t1 k1 (.bl b)⟩
end
section
variable {X:Cx}{α:Ev}{pos:Pos}{o:Expr}{f:Str}{Q:PyData→Prop}{C S:Addr}{init:Option Value}
theorem oh {pins:List (Addr×Obj)}{σ:St}{H:Hp}{s:Shared}{A:Around}{E:Value→Shared→Prop}{b:Bool}{Q:Value→Shared→Prop}{a dx:Addr}{fs:List (Str×V)}{v:V}(I:Inv X pins σ H s)(e:H a=some (xcO a C (some dx)))(ed:H dx=some (.xd fs))(c:XC X.K C S init)(n:PySem.W.findIn X.K (.ref C) f=some none)(l:fs.lookup f=some v)
  (h:∀u s',Inv X pins σ H s'→RelV v u→Q u s'):wpAny (model X.prog X.w) A (getAttr (.ref a) f b) Q E s:=by
 obtain⟨⟨ox,vs,h1,h2,h3,h4⟩,_⟩:=I.hok a _ e
 obtain⟨mA,ns,r⟩:=I.hok dx _ ed
 obtain⟨od,ho,hl⟩:=sS ns
 obtain⟨u,hu,ru⟩:=wj.some_of (v:=v) (o:=mA f) (by rw[←l];exact r f)
 have J:PySem.W.InstAt s.heap a ox C (some od):=lq h1 h2 ⟨vs,h4⟩ (by rw[h3];exact ho)
 obtain⟨nm,qn,N,bs,sn,sub,ab,col,dd,k0,k1,k2,k3,k5,mN,hC,hN,hi,T,cd,hcd,hdict,hmro,_⟩:=yE I.kIn c.ok
 have hh:PySem.W.hasDictIn X.K C=true:=by unfold PySem.W.hasDictIn;rw[hcd];exact hdict
 have q:=h u _ (I.tok (s.toks+1)) ru
 obtain⟨h0,g,d,t,os⟩:=s
 exact ze4 I.kIn c J (PySem.W.findObj_own hh n rfl (by rw[hl,hu])) (sL ru) q
theorem eQ {ta:TE}(c:XC X.K C S init)(n:PySem.W.findIn X.K (.ref C) f=some none)(he:PE X o ta)(hb:attributeBase o f X.env (eval o X.env)=eval o X.env):
  PE X (.Attribute o f pos) (fun σ H Q=>ta σ H fun x H1=>∃a dx fs v,x=.ref a∧H1 a=some (xcO a C (some dx))∧H1 dx=some (.xd fs)∧fs.lookup f=some v∧Q v H1):=by
 intro pins s σ H Q I h
 refine lu hb (thn (he pins s σ H _ I h) fun u s1 ⟨x,H1,I1,rx,a,dx,fs,v,ex,ea,ed,l,q⟩=>?_)
 subst ex
 obtain rfl:u=Value.ref a:=rx
 exact oh I1 ea ed c n l fun u' s2 I2 ru=>⟨v,H1,I2,ru,q⟩
theorem dz (c:XC X.K C S init)(n:PySem.W.findIn X.K (.ref C) f=some none)(h:EvD X α o fun x=>∃fs d,x=xD C fs∧vM fs f=some d∧Q d)(hb:attributeBase o f X.env (eval o X.env)=eval o X.env:=by rfl):EvD X α (.Attribute o f pos) Q:=fun F σ H R m k=>by
 refine⟨_,eQ c n zl hb,?_⟩
 refine h F σ H _ m fun x vx H1 q1 t1 k1 r1=>?_
 obtain⟨fs,d,rfl,hf,q⟩:=q1
 obtain⟨a,dx,gs,rfl,h1,h2,h3⟩:=r1.xc_inv
 obtain⟨v,hv,av⟩:=h3.get hf
 exact⟨a,dx,gs,v,rfl,(zj h1).2,(zj h2).2,hv,k d v H1 q t1 k1 av⟩
end
section
variable {P:Program}{w:World}{K:PySem.W.Frag}{mg:Str→Option Value}{base:Heap}
theorem eg {st:Stmt}{f C S:Addr}{fd:FuncData}{qual n fl a b:Str}{init:Option Value}{j1 j2:Nat}{p1 p2 p3 p4 p5 p6 p7 p8 p9 p10 p11 p12 p13 p14:Pos}(G:Fun K "__init__" qual st f fd)(S':zo ["self",n] ["self",n] (zb st))
  (hb:zv st=[.Expr (.Call (.Attribute (.Name "StayError" p1) "__init__" p2) [.Name "self" p3,.JoinedStr [.Constant (.str a) j1 p4,.FormattedValue (.Name n p5) (-1) none p6,.Constant (.str b) j2 p7] p8] [] p9) p10,.Assign [.Attribute (.Name "self" p11) fl p12] (.Name n p13) p14])
  (hg:(zb st).names.lookup ("StayError":Str)=some .globalImplicit) (hm:mg "StayError"=some (.ref S)) (xs:XS K S) (xc:XC K C S init) (hn:PySem.W.findIn K (.ref C) fl=some none) (la:a.length≤10000) (lb:b.length≤10000)
  {pl:Env→Sem Bool} (ht:∀env:Env,eval (.Call (.Attribute (.Name "StayError" p1) "__init__" p2) [.Name "self" p3,.JoinedStr [.Constant (.str a) j1 p4,.FormattedValue (.Name n p5) (-1) none p6,.Constant (.str b) j2 p7] p8] [] p9) env=(do
   let ov ←eval (.Name "StayError" p1) env
   standAt p2.atName
   let (f,first) ←holding [ov] (getMethod ov "__init__" (pl env))
   callWith p9 f first (backTo p9 (starEach [.Name "self" p3,.JoinedStr [.Constant (.str a) j1 p4,.FormattedValue (.Name n p5) (-1) none p6,.Constant (.str b) j2 p7] p8] env)) (backToKw p9 (keywordEach [] env))))
  (v0:Vis (zb st) "self") (v1:Vis (zb st) n) (hd:(n == ("__debug__":Str))=false:=by decide) (hcd:(n == ("__classdict__":Str))=false:=by decide):zy P w K mg base CX0 1 f fd ["self",n] (ze2 C fl):=by
 refine G.ok S' (fun vs H Q E h=>?_) (fun cdv A outer s H vs Q E hr h=>?_)
 ·obtain⟨a,i,rfl,_⟩:=h
  rfl
 ·obtain⟨a',i,rfl,hi,ha,k⟩:=h
  rw[hb]
  refine⟨_,zG (uF (eN (C:=C) (init:=init) hg hm xs xc.ok (zc (yB (i:=0) rfl v0) (zc (fX zX (bL (yB (i:=1) rfl v1 hd hcd)) zX) zp)) (ht:=ht _))) (zu (cO (yB (i:=0) rfl v0) (yB (i:=1) rfl v1 hd hcd) xc hn)),?_⟩
  refine⟨_,rfl,a,rfl,la,_,rfl,i,rfl,hi,_,rfl,cV hi,b,rfl,lb,a',_,none,rfl,zr5 rfl,ha,?_⟩
  exact⟨_,rfl,_,rfl,a',rfl,ha,fun dx h1 h2=>k dx h1 h2⟩
end
def dI (lo:Int)(n:Nat):It:=⟨fun i _=>i<n,fun i H x H'=>H'=H∧x=.int (lo-i),fun i _=>n≤i⟩
def ua (lo:Int)(n:Nat):List Int:=(List.range n).map fun (i:Nat)=>lo-(i:Int)
theorem yN (lo:Int)(n:Nat):(ua lo n).length=n:=by unfold ua;simp
theorem tZ {lo:Int}{n i:Nat}(h:i<n):(ua lo n)[i]?=some (lo-(i:Int)):=by unfold ua;simp[h]
theorem pI {P:Program}{w:World}{K:PySem.W.Frag}{tg:Expr}(it:Addr)(lo:Int)(n:Nat):Turn P w K tg (dI lo n) [it] it (fun i h=>IsRangeIter h it (lo+(i:Nat)*(-1)) ((n:Int)-(i:Nat)) (-1)) where
 mem:=by simp
 obj:=fun i h st b hb=>by
  have e:b=it:=by simpa using hb
  subst e
  exact⟨_,st,fun v z=>by
   have z':Data.fields _=Data.cell v:=z
   cases z'⟩
 keep:=fun i h h' st k=>k it (by simp) _ st
 item:=by
  intro X hP hw hK hc i pins s σ H E I hf st hg
  subst hP hw hK
  obtain⟨f0,f1,f2,f3,f4,f5⟩:=hf it (by simp)
  have W:=Walks.range (prog:=X.prog) (w:=X.w) (I.ok.hd hc) it lo (-1) n
  refine W.item i s _ _ hg st fun v h' tk hv st' kk=>?_
  obtain⟨t,rfl⟩:=hv
  have I1:Inv X pins σ H {s with heap:=h',toks:=tk}:=I.turned (fun b o hb e=>kk b o (by simpa using hb) e) f0 f1 f3 f4 f5
  refine⟨_,rfl,mY (s:={s with heap:=h',toks:=tk}) (n:="range_iterator") st' rfl rfl (by decide) ⟨.int (lo-i),H,I1,⟨t,?_⟩,⟨rfl,rfl⟩,st',fun b hb=>(hf b hb).1⟩⟩
  rw[show lo+(i:Int)*(-1)=lo-i by omega]
 done:=by
  intro X hP hw hK hc i pins s σ H E I hf st hg
  subst hP hw hK
  obtain⟨f0,f1,f2,f3,f4,f5⟩:=hf it (by simp)
  exact wpAny_pyNext_range_end (I.ok.hd hc) st (by have:n≤i:=hg;omega) fun h' eb=>⟨rfl,I.turned (t':=s.toks) (fun b o hb e=>eb b o hb e) f0 f1 f3 f4 f5⟩
 self:=fun _ _ _ _ _ st h=>wpAny_pyIter_rangeiter st h
theorem rangeSize_down (a b:Int):Builtin.Range.rangeSize a b (-1)=if b<a then a-b else 0:=by
 unfold Builtin.Range.rangeSize
 simp only[show ¬((-1:Int) > 0) by decide,zw4,show -(-1:Int)=1 by decide,Int.ediv_one]
 split<;>omega
theorem small_down {a b:Int}(ha:-(2 ^ 62)≤a)(ha':a<2 ^ 62)(hb:-(2 ^ 62)≤b)(hb':b<2 ^ 62):Builtin.Range.small a b (-1)=true:=by
 unfold Builtin.Range.small
 rw[rangeSize_down]
 simp only[Builtin.Range.rangeFitsLong,zo6,zw2,zq4,zt4,show ¬((-1:Int) > 0) by decide,zw4]
 split<;>omega
section
variable {X:Cx}{tg:Expr}{α:Ev}{a b:Expr}{p pos:Pos}
theorem jH {pins:List (Addr×Obj)}{σ:St}{H:Hp}{s:Shared}{R:It→Hp→Prop}{E:Value→Shared→Prop}{lo hi:Int}{t u v:Tok}{tk:Nat}(I:Inv X pins σ H s)(h1:-(2 ^ 62)≤lo)(h2:lo<2 ^ 62)(h3:-(2 ^ 62)≤hi)(h4:hi<2 ^ 62)
  (q:R (dI lo (lo-hi).toNat) H):wpAny (model X.prog X.w) X.A (pyIter (.ref s.heap.objs.size)) (PIE X pins σ tg R) E {s with heap:=s.heap.push {cls:=.type "range",data:=.fields #[.int lo t,.int hi u,.int (-1) v]},toks:=tk}:=by
 refine wpAny_pyIter_range (IsRange.new ..) (small_down h1 h2 h3 h4) ?_
 have I1:Inv X pins σ H {s with heap:=s.heap.push {cls:=.type "range",data:=.fields #[.int lo t,.int hi u,.int (-1) v]},toks:=tk}:=I.kept fun b o e=>zm5 _ e
 refine⟨(s.heap.push {cls:=.type "range",data:=.fields #[.int lo t,.int hi u,.int (-1) v]}).objs.size,[(s.heap.push {cls:=.type "range",data:=.fields #[.int lo t,.int hi u,.int (-1) v]}).objs.size],_,_,H,rfl,
  I1.kept (t':=tk) fun b o e=>zm5 _ e,pI _ lo (lo-hi).toNat,?_,fun b hb=>?_,q⟩
 ·have e1:lo+((0:Nat):Int)*(-1)=lo:=by simp
  have e2:(((lo-hi).toNat:Nat):Int)-((0:Nat):Int)=Builtin.Range.rangeSize lo hi (-1):=by rw[rangeSize_down];split<;>omega
  show IsRangeIter _ _ (lo+((0:Nat):Int)*(-1)) ((((lo-hi).toNat:Nat):Int)-((0:Nat):Int)) (-1)
  rw[e1,e2]
  exact zn8 _ rfl
 ·have e:b=(s.heap.push {cls:=.type "range",data:=.fields #[.int lo t,.int hi u,.int (-1) v]}).objs.size:=by simpa using hb
  subst e
  exact I1.fpOk (zn0 _) (I1.hok.fresh (zn0 _))
def ze6 (ta:TA):TI:=fun σ H R=>ta σ H fun vs H1=>∃i j:Int,vs=[.int i,.int j,.int (-1)]∧(-(2 ^ 62)≤i∧i<2 ^ 62∧-(2 ^ 62)≤j∧j<2 ^ 62)∧R (dI i (i-j).toNat) H1
theorem jD {c:Expr}{ta:TA}(hg:Gl X "range")(hm:X.mg "range"=none)(ha:PA X [a,b,c] ta)(hs:starEach [a,b,c] X.env=[(false,eval a X.env),(false,eval b X.env),(false,eval c X.env)]:=by rfl)(hs2:starEach [b,c] X.env=[(false,eval b X.env),(false,eval c X.env)]:=by rfl):
  PI X tg (.Call (.Name "range" p) [a,b,c] [] pos) (ze6 ta):=by
 intro pins s σ H R I h
 refine Call_ (xF I hg hm boot_range (zq8 (thn (ha pos pins s σ H _ I h) fun us s1 ⟨vs,H1,I1,r1,q1⟩=>?_) (by rw[hs,hs2]) (by rw[hs2];rfl)))
 obtain⟨i,j,e,⟨q1,q2,q3,q4⟩,q⟩:=q1
 subst e
 cases r1 with
 |cons r rr=>
  cases rr with
  |cons r' rr=>
   cases rr with
   |cons r'' rr=>
    cases rr
    obtain⟨t,rfl⟩:=r
    obtain⟨t',rfl⟩:=r'
    obtain⟨t'',rfl⟩:=r''
    exact call_range_3 (by decide) (jH I1 q1 q2 q3 q4 q) (Or.inl (PyProof.noPylong_small (by decide)))
theorem oX {p:Addr→Prop}{lo:Int}{n:Nat}{G:Hp}:ItW p (dI lo n) ((ua lo n).map .int) G:=fun i H2 q s=>⟨fun d hd=>by
  rw[zo0,zp0] at hd
  obtain⟨z,h1,rfl⟩:=hd
  have hi:i<n:=by
   have:=(zm8.mp h1).1
   rwa [yN] at this
  rw[tZ hi] at h1
  cases h1
  refine⟨hi,fun x H3 y=>?_⟩
  obtain⟨rfl,rfl⟩:=y
  exact⟨zx.refl _,fun _=>.int _⟩,fun hl=>by
  rw[zm6,yN] at hl
  exact hl⟩
theorem ke {c:Expr}{Q:List PyData→Prop}(hg:Gl X "range")(hm:X.mg "range"=none)(h:EvD X α a fun x=>EvD X α b fun y=>EvD X α c fun z=>∃i j,x=.int i∧y=.int j∧z=.int (-1)∧(-(2 ^ 62)≤i∧i<2 ^ 62∧-(2 ^ 62)≤j∧j<2 ^ 62)∧Q ((ua i (i-j).toNat).map .int))
  (hs:starEach [a,b,c] X.env=[(false,eval a X.env),(false,eval b X.env),(false,eval c X.env)]:=by rfl) (hs2:starEach [b,c] X.env=[(false,eval b X.env),(false,eval c X.env)]:=by rfl) (hs3:starEach [a,b,c] X.env=(false,eval a X.env)::starEach [b,c] X.env:=by rfl) (hs4:starEach [b,c] X.env=(false,eval b X.env)::starEach [c] X.env:=by rfl) (hs5:starEach [c] X.env=(false,eval c X.env)::starEach [] X.env:=by rfl):
  EvI X α tg (.Call (.Name "range" p) [a,b,c] [] pos) Q:=fun F σ H R m k=>by
 refine⟨_,jD hg hm (zc zl (zc zl (zc zl zp hs5) hs4) hs3) hs hs2,?_⟩
 refine h F σ H _ m fun x vx H1 q1 t1 k1 r1=>?_
 have m1:=m.kz k1 t1
 refine q1 F σ H1 _ m1 fun y vy H2 q2 t2 k2 r2=>?_
 have m2:=m1.kz k2 t2
 refine q2 F σ H2 _ m2 fun z vz H3 q3 t3 k3 r3=>?_
 obtain⟨i,j,rfl,rfl,rfl,bb,q⟩:=q3
 cases r1.int_inv;cases r2.int_inv;cases r3.int_inv
 exact⟨i,j,rfl,bb,k _ _ H3 q t3 ((k1.trans k2).trans k3) oX⟩
end
def oN (K:Frag)(C S:Addr)(init:Option Value):Bool:=xA K C S init&&findIn K (.ref C) "__setattr__" == some (some (.builtin "object.__setattr__"))&&findIn K (.ref C) "__getattribute__" == some (some (.builtin "BaseException.__getattribute__"))&&findIn K (.ref C) "__getattr__" == some none&&findIn K (.ref C) "__class__" == some (some (.builtin "object.__class__"))&&specialIn K (.builtin "object.__class__") "__get__" == some (some (.builtin "getset_descriptor.__get__"))&&takesIn K (.builtin "object.__class__")==some true
theorem XC.of {K:Frag}{C S:Addr}{init:Option Value}(h:oN K C S init=true):XC K C S init:=by
 simp only[oN,zo6,zt4] at h
 obtain⟨⟨⟨⟨⟨⟨h1,h2⟩,h3⟩,h4⟩,h5⟩,h6⟩,h7⟩:=h
 exact⟨h1,h2,h3,h4,h5,h6,h7⟩
def eE (K:Frag)(S:Addr):Bool:=readsIn K S (.type "type")&&(match findCls K (.ref S) (.type "type") "__init__" with|some (.val v)=>v == .builtin "ValueError.__init__"|_=>false)&&specialIn K (.ref S) "__getattribute__" == some (some (.builtin "type.__getattribute__"))
theorem XS.of {K:Frag}{S:Addr}(h:eE K S=true):XS K S:=by
 simp only[eE,zo6,zt4] at h
 obtain⟨⟨h1,h2⟩,h3⟩:=h
 refine⟨h1,?_,h3⟩
 split at h2
 ·rename_i v e
  rw[e,zt4.mp h2]
 ·cases h2
def gr (K:Frag)(C B:Addr):Bool:=typeIn K (.ref B)==some (.type "type")&&mroIn K B (.type "BaseException")==some true&&mroIn K C (.ref B)==some true
theorem XB.of {K:Frag}{C B:Addr}(h:gr K C B=true):XB K C B:=by
 simp only[gr,zo6,zt4] at h
 exact⟨h.1.1,h.1.2,h.2⟩
end L2
set_option maxHeartbeats 4000000
namespace K33
open PySem PySem.Spec PyProof.Rows L2
def top (i:Nat):Stmt:=PySem.Challenge.pw_stayprice_k33_night_not_sold.main.body.getD i (.Pass ⟨0,0,0,0⟩)
abbrev sQ :Stmt:=top 46
abbrev jT :Stmt:=top 47
def kU :Scope:=match zv sQ with
 |[.Return (some (.List (.ListComp _ _ sc _::_) _)) _]=>sc
 |_=>zb sQ
section
variable {P:Program}{w:World}{K:PySem.W.Frag}{mg:Str→Option Value}{base:Heap}
theorem aZ :zo ["_law_script"] ["_law_script"] (zb sQ):=⟨rfl,rfl,rfl,by decide +kernel,rfl,by decide +kernel,by decide +kernel⟩
theorem gN :zI ["_law_script"] (zb sQ) ["_law_cell"] [none] kU:=⟨rfl,by decide +kernel,by decide +kernel,by decide +kernel,by decide +kernel,rfl,by decide +kernel⟩
theorem dy {f:Addr}{fd:FuncData}(F:Fun K "_law_tape" "_law_tape" sQ f fd)(T:aQ mg):zy P w K mg base CX0 1 f fd ["_law_script"] (nM K):=by
 refine F.ok aZ (fun vs H Q E h=>?_) (fun cdv A outer s H vs Q E hr h=>?_)
 ·obtain⟨a,ns,rfl,_⟩:=h
  rfl
 ·obtain⟨a,ns,rfl,hS,hlen,k⟩:=h
  refine⟨_,zu (zA (eA (zc
   (bo rfl gN (lQ (si qp (pv 0) qm (rJ zm)))
    (fun _ _ _ _=>zY (i:=0) gN.nd rfl (Or.inl rfl))
    (fun _ _ _ _=>mJ (zZ zg7 (zQ pC (by rfl) T.abs boot_abs (zc (pv 0) zp)) (yg iV zm zm) (zF _)))
    (fun _ _ _ _=>zQ pC (by rfl) T.abs boot_abs (zc (pv 0) zp)))
   (zc (wN vK (by rfl) T.list boot_list (zc (si qp (pv 0) qm (rJ zm)) zp))
   (zc zm zp))))),?_⟩
  -- script[:63]
  refine⟨_,rfl,63,rfl,a,_,rfl,hS,fun l hl=>?_⟩
  obtain⟨ms,em,lm⟩:=gu ns none (some 63)
  rw[em]
  refine⟨l,rfl,⟨_,SqL.of zf⟩,fun acc hacc=>?_⟩
  have nal:acc≠l:=fun z=>by rw[z,zf] at hacc;cases hacc
  have hacc':H acc=none:=by rw[zd nal] at hacc;exact hacc
  have s0:zx H (upd H l (.lst (ms.map V.int))):=fun b o e=>by rw[zd (zk e hl)];exact e
  refine ja (K:=K) (a:=l) (xs:=ms.map V.int) (fun i ys τ H2=>∃(bs:List Int) (v:Option V),ys=bs.map V.int∧bs.length≤i∧τ=[v]∧H2=upd (upd H l (.lst (ms.map V.int))) acc (.lst (bs.map V.int)))
   ⟨[],none,rfl,zn0 _,rfl,rfl⟩ ?_ ?_ ?_
  ·rintro i ys τ H2 _ ⟨bs,v,rfl,_,rfl,rfl⟩
   exact SqL.of (by rw[zd nal.symm,zf])
  ·rintro i x ys τ H2 hx ⟨bs,v,rfl,hb,rfl,rfl⟩
   have hi:i<ms.length:=by
    have:=(zm8.mp hx).1
    rwa [zm6] at this
   obtain⟨z,rfl⟩:∃z,x=V.int z:=by
    rw[zo0] at hx
    cases e:ms[i]? with
    |none=>rw[e] at hx;cases hx
    |some z=>rw[e] at hx;exact⟨z,(zo9 hx).symm⟩
   refine⟨_,rfl,z,rfl,_,_,rfl,rfl,⟨by decide,by decide,by decide⟩,_,_,rfl,rfl,_,rfl,?_⟩
   refine yj (fun _=>?_) (fun _=>?_)
   ·refine⟨_,rfl,z,rfl,zf,?_,bs++[if z<0 then -z else z],_,?_,?_,rfl,?_⟩
    ·rw[zm6];exact yK (by omega)
    ·rw[zr9];rfl
    ·rw[zq1];simp;omega
    ·rw[vB,zr9];rfl
   ·exact⟨bs,_,rfl,by omega,rfl,rfl⟩
  ·rintro ys τ H2 ⟨bs,v,rfl,hb,rfl,rfl⟩
   rw[zm6] at hb
   -- list(script[:63])
   have s1:zx H (upd (upd H l (.lst (ms.map V.int))) acc (.lst (bs.map V.int))):=fun b o e=>by rw[zd (zk e hacc')];exact s0 b o e
   refine⟨_,rfl,63,rfl,a,_,rfl,s1.seq hS,fun l2 hl2=>?_⟩
   rw[em]
   refine⟨l2,_,rfl,.inl (SqL.of zf),fun c hc=>?_⟩
   refine⟨(by show 3≤sizeLine;decide),fun t ht=>?_⟩
   have n1:l2≠acc:=fun z=>by rw[z,zf] at hl2;cases hl2
   have n2:c≠l2:=fun z=>by rw[z,zf] at hc;cases hc
   have hc2:upd (upd H l (.lst (ms.map V.int))) acc (.lst (bs.map V.int)) c=none:=by rw[zd n2] at hc;exact hc
   have n3:c≠acc:=fun z=>by rw[z,zf] at hc2;cases hc2
   have n4:t≠c:=fun z=>by rw[z,zf] at ht;cases ht
   have ht2:upd (upd (upd H l (.lst (ms.map V.int))) acc (.lst (bs.map V.int))) l2 (.lst (ms.map V.int)) t=none:=by rw[zd n4] at ht;exact ht
   have n5:t≠l2:=fun z=>by rw[z,zf] at ht2;cases ht2
   have ht3:upd (upd H l (.lst (ms.map V.int))) acc (.lst (bs.map V.int)) t=none:=by rw[zd n5] at ht2;exact ht2
   have n6:t≠acc:=fun z=>by rw[z,zf] at ht3;cases ht3
   refine k t acc c _ ⟨0,bs,ms,n3.symm,zf,?_,?_,by omega,by omega⟩ (s1.free ht3) hacc' (s1.free hc2) fun b o e=>?_
   ·rw[zd n6.symm,zd n3.symm,zd n1.symm,zf]
   ·rw[zd n4.symm,zf]
   ·have e1:=s1 b o e
    rw[zd (zk e1 ht3),zd (zk e1 hc2),zd (zk e1 hl2)]
    exact e1
theorem vP :zo ["_law_tape_here","_law_many","_law_found","_law_cell","_law_number"] ["_law_tape_here","_law_many"] (zb jT):=⟨rfl,rfl,rfl,by decide +kernel,rfl,by decide +kernel,by decide +kernel⟩
theorem eY {f:Addr}{fd:FuncData}(F:Fun K "_law_draw" "_law_draw" jT f fd)(T:aQ mg):zy P w K mg base CX0 1 f fd ["_law_tape_here","_law_many"] jV:=by
 refine F.ok vP (fun vs H Q E h=>?_) (fun cdv A outer s H vs Q E hr h=>?_)
 ·obtain⟨t,b,c,many,rfl,_⟩:=h
  rfl
 ·obtain⟨t,b,c,many,rfl,⟨n,bs,cs,nbc,ht,hb,hc,lb,lc⟩,hm0,hm1,k⟩:=h
  have ntb:t≠b:=bh ht hb (lS bs)
  have ntc:t≠c:=bh ht hc (lS cs)
  have hlog:many.natAbs.log2<9000:=log2_small hm0 hm1
  -- tape[2]=tape[2]+1
  refine zP (fun σ H1=>σ=[some (.ref t),some (.int many),none,none,none]∧H1=upd H t (.lst [.ref b,.ref c,.int (n+1)]))
   ⟨_,nj (yg uc (zJ zN (pv 0) zm (fun _ _=>rfl)) zm) (nQ (pv 0) zm set_list),?_⟩ ?_
  ·exact⟨_,rfl,t,_,2,_,rfl,rfl,SqL.of ht,rfl,_,_,rfl,rfl,_,rfl,t,_,2,2,rfl,rfl,ht,rfl,rfl,rfl⟩
  rintro σ H1 ⟨rfl,hH1⟩
  have ht1:H1 t=some (.lst [.ref b,.ref c,.int (n+1)]):=by rw[hH1];exact zf
  have hb1:H1 b=some (.lst (bs.map V.int)):=by rw[hH1,zd ntb.symm];exact hb
  have hc1:H1 c=some (.lst (cs.map V.int)):=by rw[hH1,zd ntc.symm];exact hc
  have off1:qK t b H H1:=fun a h1 h2=>by rw[hH1,zd h1]
  clear hH1
  -- while len(tape[0]) > 0 and tape[0][0]==0:tape[0].pop(0)
  refine zP (fun σ H2=>∃bs2:List Int,bs2.length≤63∧σ=[some (.ref t),some (.int many),none,none,none]∧H2 t=some (.lst [.ref b,.ref c,.int (n+1)])∧H2 b=some (.lst (bs2.map V.int))∧H2 c=some (.lst (cs.map V.int))∧qK t b H H2)
   ⟨_,gI zu3 (gg (zZ mE (zQ yf (by rfl) T.len zv2 (zc (zJ zN (pv 0) zm (fun _ _=>rfl)) zp)) zm (zF _))
     (mK (zZ wa (zJ zN (zJ zN (pv 0) zm (fun _ _=>rfl)) zm (fun _ _=>rfl)) zm (zF _)))).pt
    (zu (uF (bq PySem.F.plainAttrs_list PySem.F.slot_list_pop PySem.F.type_list_pop iB (zJ zN (pv 0) zm (fun _ _=>rfl)) (zc zm zp)))),?_⟩ ?_
  ·refine⟨fun m σ H2=>∃bs2:List Int,m=bs2.length∧bs2.length≤63∧σ=[some (.ref t),some (.int many),none,none,none]∧H2 t=some (.lst [.ref b,.ref c,.int (n+1)])∧H2 b=some (.lst (bs2.map V.int))∧H2 c=some (.lst (cs.map V.int))∧qK t b H H2,
    ⟨_,bs,rfl,lb,rfl,ht1,hb1,hc1,off1⟩,?_⟩
   rintro m σ H2 ⟨bs2,rfl,lb2,rfl,ht2,hb2,hc2,off2⟩
   refine⟨_,rfl,t,_,0,_,rfl,rfl,SqL.of ht2,rfl,b,_,rfl,.inl (SqL.of hb2),_,_,rfl,rfl,_,rfl,?_⟩
   refine yj (fun _=>?_) (fun _=>?_)
   ·cases bs2 with
    |nil=>rename_i z;simp at z
    |cons z r=>
     refine⟨_,rfl,t,_,0,_,rfl,rfl,SqL.of ht2,rfl,b,_,0,_,rfl,rfl,SqL.of hb2,at0,rfl,_,rfl,?_⟩
     refine yj (fun _=>?_) (fun _=>?_)
     ·refine⟨_,fun σ' H' h'=>h',_,rfl,t,_,0,_,rfl,rfl,SqL.of ht2,rfl,.inl ⟨rfl,_,SqL.of hb2⟩,b,_,0,0,_,rfl,rfl,hb2,by decide,by decide,zj6,rfl,r.length,?_,r,rfl,?_,rfl,?_,zf,?_,?_⟩
      ·simp
      ·simp at lb2;omega
      ·rw[zd ntb];exact ht2
      ·rw[zd nbc.symm];exact hc2
      ·exact off2.trans fun a h1 h2=>by rw[zd h2]
     ·exact⟨_,lb2,rfl,ht2,hb2,hc2,off2⟩
   ·exact⟨_,lb2,rfl,ht2,hb2,hc2,off2⟩
  rintro σ H2 ⟨bs2,lb2,rfl,ht2,hb2,hc2,off2⟩
  -- if len(tape[0]) > 0:..
  refine zP (fun σ H3=>σ=[some (.ref t),some (.int many),none,none,none]∧H2=H3)
   ⟨_,xq (zZ mE (zQ yf (by rfl) T.len zv2 (zc (zJ zN (pv 0) zm (fun _ _=>rfl)) zp)) zm (zF _))
    (zG (wk (i:=2) vP.nd rfl (Or.inl rfl) (yg vf (zJ zN (zJ zN (pv 0) zm (fun _ _=>rfl)) zm (fun _ _=>rfl)) (pv 1)))
    (zG (nj (yg sv (zJ zN (zJ zN (pv 0) zm (fun _ _=>rfl)) zm (fun _ _=>rfl)) (pv 1)) (nQ (zJ zN (pv 0) zm (fun _ _=>rfl)) zm set_list))
    (zu (zA (pv 2))))) yi,?_⟩ ?_
  ·refine⟨_,rfl,t,_,0,_,rfl,rfl,SqL.of ht2,rfl,b,_,rfl,.inl (SqL.of hb2),_,_,rfl,rfl,_,rfl,?_⟩
   refine yj (fun _=>?_) (fun _=>?_)
   ·cases bs2 with
    |nil=>rename_i z;simp at z
    |cons z r=>
     refine⟨_,rfl,t,_,0,_,rfl,rfl,SqL.of ht2,rfl,b,_,0,_,rfl,rfl,SqL.of hb2,at0,_,rfl,_,_,rfl,rfl,hm0,?_⟩
     refine⟨_,rfl,t,_,0,_,rfl,rfl,SqL.of ht2,rfl,b,_,0,_,rfl,rfl,SqL.of hb2,at0,_,rfl,_,_,rfl,rfl,⟨hm0,hlog⟩,?_⟩
     refine⟨_,rfl,t,_,0,_,rfl,rfl,SqL.of ht2,rfl,b,_,0,0,rfl,rfl,hb2,ix0,_,rfl,?_⟩
     refine k _ _ (zy0 _ (Int.ne_of_gt hm0)) (zw3 _ hm0) ⟨n+1,(z / many)::r,cs,nbc,?_,zf,?_,?_,lc⟩ ?_
     ·rw[zd ntb];exact ht2
     ·rw[zd nbc.symm];exact hc2
     ·simpa using lb2
     ·exact off2.trans fun a h1 h2=>by rw[zd h2]
   ·exact⟨rfl,rfl⟩
  rintro σ H3 ⟨rfl,rfl⟩
  -- cell=5;if len(tape[1]) > 0:..
  refine zP (fun σ H3=>σ=[some (.ref t),some (.int many),none,some (.int 5),none]∧H2=H3) ⟨_,wk (i:=3) vP.nd rfl (Or.inl rfl) zm,rfl,rfl⟩ ?_
  rintro σ H3 ⟨rfl,rfl⟩
  refine zP (fun σ H3=>∃z:Int,σ=[some (.ref t),some (.int many),none,some (.int z),none]∧H2=H3)
   ⟨_,xq (zZ mE (zQ yf (by rfl) T.len zv2 (zc (zJ zN (pv 0) zm (fun _ _=>rfl)) zp)) zm (zF _))
    (zu (wk (i:=3) vP.nd rfl (Or.inl rfl) (zJ zN (zJ zN (pv 0) zm (fun _ _=>rfl)) (yg vf (zJ zN (pv 0) zm (fun _ _=>rfl)) (zQ yf (by rfl) T.len zv2 (zc (zJ zN (pv 0) zm (fun _ _=>rfl)) zp))) (fun _ _=>rfl)))) yi,?_⟩ ?_
  ·refine⟨_,rfl,t,_,1,_,rfl,rfl,SqL.of ht2,rfl,c,_,rfl,.inl (SqL.of hc2),_,_,rfl,rfl,_,rfl,?_⟩
   refine yj (fun hpos=>?_) (fun _=>?_)
   ·have hpos':0<cs.length:=by simpa using hpos
    have hp:(0:Int)<((cs.map V.int).length:Int):=by rw[zm6];omega
    have h1:=zy0 (n+1) (Int.ne_of_gt hp)
    have h2:=zw3 (n+1) hp
    obtain⟨j,hj⟩:=zt6 h1
    have hjl:j<cs.length:=by rw[hj,zm6] at h2;omega
    refine⟨_,rfl,t,_,1,_,rfl,rfl,SqL.of ht2,rfl,_,rfl,t,_,2,_,rfl,rfl,SqL.of ht2,rfl,_,rfl,t,_,1,_,rfl,rfl,SqL.of ht2,rfl,c,_,rfl,.inl (SqL.of hc2),_,_,rfl,rfl,hp,c,_,_,V.int cs[j],rfl,rfl,SqL.of hc2,?_,cs[j],rfl,rfl⟩
    rw[hj]
    exact xV (by rw[zo0,zm9 hjl];rfl)
   ·exact⟨5,rfl,rfl⟩
  rintro σ H3 ⟨z,rfl,rfl⟩
  -- the numbers
  refine zP (fun σ H3=>∃y:Int,(0≤y∧y<2147483647)∧σ=[some (.ref t),some (.int many),none,some (.int z),some (.int y)]∧H2=H3)
   ⟨_,wk (i:=4) vP.nd rfl (Or.inl rfl) (yg vf (yg sg (yg uc (yg uc (yg vf (pv 3) zm) (yg sg zm (zJ zN (pv 0) zm (fun _ _=>rfl)))) zm) zm) zm),?_⟩ ?_
  ·exact⟨_,rfl,_,_,rfl,rfl,(by show (0:Int)<999983;decide),_,rfl,t,_,2,_,rfl,rfl,SqL.of ht2,rfl,_,_,rfl,rfl,.inl ⟨by decide,by decide⟩,_,_,rfl,rfl,_,_,rfl,rfl,_,_,rfl,rfl,.inr ⟨by decide,by decide⟩,_,_,rfl,rfl,(by show (0:Int)<2147483647;decide),
    _,⟨zy0 _ (by decide),zw3 _ (by decide)⟩,rfl,rfl⟩
  rintro σ H3 ⟨y,⟨hy0,hy1⟩,rfl,rfl⟩
  refine zP (fun σ H3=>∃y:Int,(0≤y∧y<2147483647)∧σ=[some (.ref t),some (.int many),none,some (.int z),some (.int y)]∧H2=H3)
   ⟨_,wk (i:=4) vP.nd rfl (Or.inl rfl) (yg vf (yg uc (yg uc (yg sg (pv 4) (pv 4)) (yg sg zm (zJ zN (pv 0) zm (fun _ _=>rfl)))) zm) zm),?_⟩ ?_
  ·refine⟨_,rfl,_,rfl,_,_,rfl,rfl,.inl ⟨by omega,by omega⟩,_,rfl,t,_,2,_,rfl,rfl,SqL.of ht2,rfl,_,_,rfl,rfl,.inl ⟨by decide,by decide⟩,_,_,rfl,rfl,_,_,rfl,rfl,_,_,rfl,rfl,(by show (0:Int)<2147483629;decide),
    _,⟨zy0 _ (by decide),Int.lt_trans (zw3 _ (by decide)) (by decide)⟩,rfl,rfl⟩
  rintro σ H3 ⟨y2,⟨hy0,hy1⟩,rfl,rfl⟩
  refine⟨_,zu (zA (yg vf (yg sv (yg vf (yg sg (yg sv (pv 4) zm) zm) zm) zm) (pv 1))),?_⟩
  refine⟨_,rfl,_,_,rfl,rfl,⟨by decide,by decide +kernel⟩,_,_,rfl,rfl,.inr ⟨by decide,by decide⟩,_,_,rfl,rfl,(by show (0:Int)<2147483587;decide),_,_,rfl,rfl,⟨by decide,by decide +kernel⟩,_,rfl,_,_,rfl,rfl,hm0,?_⟩
  exact k _ _ (zy0 _ (Int.ne_of_gt hm0)) (zw3 _ hm0) ⟨n+1,bs2,cs,nbc,ht2,hb2,hc2,lb2,lc⟩ off2
end
abbrev qv :Stmt:=top 3
abbrev rN :Stmt:=top 4
abbrev gB :Stmt:=top 5
abbrev ar :Stmt:=top 6
abbrev iz :Stmt:=top 7
abbrev uZ :Stmt:=top 8
structure qV (mg:Str→Option Value)(fW fI fP fD fPD:Addr):Prop where
 isi:mg "isinstance"=none
 int:mg "int"=none
 bool:mg "bool"=none
 tuple:mg "tuple"=none
 len:mg "len"=none
 last:∃t,mg "LAST_DAY"=some (.int 1000000 t)
 most:∃t,mg "MOST_NIGHTS"=some (.int 14 t)
 whole:mg "is_whole"=some (.ref fW)
 within:mg "is_whole_within"=some (.ref fI)
 pair:mg "is_pair"=some (.ref fP)
 day:mg "is_day"=some (.ref fD)
 days:mg "is_pair_of_days"=some (.ref fPD)
section
variable {P:Program}{w:World}{K:PySem.W.Frag}{mg:Str→Option Value}{base:Heap}{fW fI fP fD fPD:Addr}
theorem dO :zo ["thing"] ["thing"] (zb qv):=⟨rfl,rfl,rfl,by decide +kernel,rfl,by decide +kernel,by decide +kernel⟩
theorem hJ {f:Addr}{fd:FuncData}(F:Fun K "is_whole" "is_whole" qv f fd)(T:qV mg fW fI fP fD fPD):zy P w K mg base CX0 1 f fd ["thing"] (yz nB):=by
 refine F.ok dO (fun vs H Q E h=>?_) (fun cdv A outer s H vs Q E hr h=>?_)
 ·obtain⟨x,d,rfl,_⟩:=h
  rfl
 ·obtain⟨x,d,rfl,hd,q⟩:=h
  refine⟨_,zu (zA (yP (zQ xH (by rfl) T.isi zu5 (zc (pv 0) (zc (wJ (v:=.ty "int") (by rfl) T.int boot_int rfl) zp)))
   (xy (za4 (zQ xH (by rfl) T.isi zu5 (zc (pv 0) (zc (wJ (v:=.ty "bool") (by rfl) T.bool boot_bool rfl) zp))))))),?_⟩
  rw[jz] at q
  refine⟨_,rfl,x,"int",d,_,rfl,hd,cM d,_,rfl,?_⟩
  refine yj (fun h=>?_) (fun h=>?_)
  ·rw[h,zs7] at q
   exact⟨_,rfl,x,"bool",d,_,rfl,hd,tj d,_,rfl,q⟩
  ·rw[zp1.mpr h,zr3] at q
   exact q
theorem fU :zo ["thing","lowest","highest"] ["thing","lowest","highest"] (zb rN):=⟨rfl,rfl,rfl,by decide +kernel,rfl,by decide +kernel,by decide +kernel⟩
theorem ku {f:Addr}{fd fdW:FuncData}(F:Fun K "is_whole_within" "is_whole_within" rN f fd)(T:qV mg fW fI fP fD fPD)(FW:Fun K "is_whole" "is_whole" qv fW fdW)(bW:Binds K fdW ["thing"] []):
  zy P w K mg base CX0 2 f fd ["thing","lowest","highest"] wI:=by
 have GW:zy P w K mg base CX0 1 fW fdW ["thing"] (yz nB):=hJ FW T
 refine F.ok fU (fun vs H Q E h=>?_) (fun cdv A outer s H vs Q E hr h=>?_)
 ·obtain⟨x,d,lo,hi,rfl,_⟩:=h
  rfl
 ·obtain⟨x,d,lo,hi,rfl,hd,q⟩:=h
  refine⟨_,zu (zA (yP (zL GW hr (by rfl) T.whole FW.kp bW .nil zS (zc (pv 0) zp)) (xy (uU uh uh (pv 1) (pv 0) (pv 2))))),?_⟩
  refine⟨_,rfl,x,d,rfl,hd,_,rfl,?_⟩
  cases hd with
  |int i=>
   have q':Q (.bl (decide (lo≤i)&&decide (i≤hi))) H:=q
   refine vS ⟨_,rfl,_,rfl,_,_,rfl,rfl,_,rfl,?_⟩
   refine yj (fun h=>?_) (fun h=>?_)
   ·rw[h,zs7] at q'
    exact⟨_,rfl,_,_,rfl,rfl,q'⟩
   ·rw[zp1.mpr h,zr3] at q'
    exact q'
  |_=>exact uw q
theorem zb8 :zo ["thing"] ["thing"] (zb gB):=⟨rfl,rfl,rfl,by decide +kernel,rfl,by decide +kernel,by decide +kernel⟩
theorem cT {f:Addr}{fd:FuncData}(F:Fun K "is_pair" "is_pair" gB f fd)(T:qV mg fW fI fP fD fPD):zy P w K mg base CX0 1 f fd ["thing"] (yz pairD):=by
 refine F.ok zb8 (fun vs H Q E h=>?_) (fun cdv A outer s H vs Q E hr h=>?_)
 ·obtain⟨x,d,rfl,_⟩:=h
  rfl
 ·obtain⟨x,d,rfl,hd,q⟩:=h
  refine⟨_,zu (zA (yP (zQ xH (by rfl) T.isi zu5 (zc (pv 0) (zc (wJ (v:=.ty "tuple") (by rfl) T.tuple boot_tuple rfl) zp)))
   (xy (xp wa (zQ yf (by rfl) T.len zv2 (zc (pv 0) zp)) zm (zF _))))),?_⟩
  refine⟨_,rfl,x,"tuple",d,_,rfl,hd,sM d,_,rfl,?_⟩
  cases hd with
  |@tup a xs ds e hs=>
   refine vS ⟨_,rfl,a,_,rfl,.inr (SqT.of e),rfl,?_⟩
   rw[cH,hs.length]
   exact q
  |_=>exact uw q
theorem zi1 :zo ["thing"] ["thing"] (zb ar):=⟨rfl,rfl,rfl,by decide +kernel,rfl,by decide +kernel,by decide +kernel⟩
theorem aS {f:Addr}{fd fdI:FuncData}(F:Fun K "is_day" "is_day" ar f fd)(T:qV mg fW fI fP fD fPD)(GI:zy P w K mg base CX0 2 fI fdI ["thing","lowest","highest"] wI)(kI:PySem.W.keepIn K (.ref fI)=true)(bI:Binds K fdI ["thing","lowest","highest"] []):
  zy P w K mg base CX0 3 f fd ["thing"] (yz vJ):=by
 obtain⟨tl,hl⟩:=T.last
 refine F.ok zi1 (fun vs H Q E h=>?_) (fun cdv A outer s H vs Q E hr h=>?_)
 ·obtain⟨x,d,rfl,_⟩:=h
  rfl
 ·obtain⟨x,d,rfl,hd,q⟩:=h
  refine⟨_,zu (zA (zL GI hr (by rfl) T.within kI bI .nil zS (zc (pv 0) (zc zm (zc (wQ (v:=.int 1000000) (by rfl) hl ⟨tl,rfl⟩) zp))))),?_⟩
  exact⟨_,rfl,x,d,_,_,rfl,hd,q⟩
theorem zc8 :zo ["thing"] ["thing"] (zb iz):=⟨rfl,rfl,rfl,by decide +kernel,rfl,by decide +kernel,by decide +kernel⟩
theorem dN {f:Addr}{fd fdP fdD:FuncData}(F:Fun K "is_pair_of_days" "is_pair_of_days" iz f fd)(T:qV mg fW fI fP fD fPD)(GP:zy P w K mg base CX0 1 fP fdP ["thing"] (yz pairD))(kP:PySem.W.keepIn K (.ref fP)=true)(bP:Binds K fdP ["thing"] [])
  (GD:zy P w K mg base CX0 3 fD fdD ["thing"] (yz vJ)) (kD:PySem.W.keepIn K (.ref fD)=true) (bD:Binds K fdD ["thing"] []):zy P w K mg base CX0 4 f fd ["thing"] (yz sq):=by
 refine F.ok zc8 (fun vs H Q E h=>?_) (fun cdv A outer s H vs Q E hr h=>?_)
 ·obtain⟨x,d,rfl,_⟩:=h
  rfl
 ·obtain⟨x,d,rfl,hd,q⟩:=h
  have hr1:zE 1 _:=hr.mono (by decide)
  refine⟨_,zu (zA (yP (zL GP hr1 (by rfl) T.pair kP bP .nil zS (zc (pv 0) zp))
   (yP (zL GD hr (by rfl) T.day kD bD .nil zS (zc (zJ yn (pv 0) zm (fun _ _=>rfl)) zp))
   (xy (zL GD hr (by rfl) T.day kD bD .nil zS (zc (zJ yn (pv 0) zm (fun _ _=>rfl)) zp)))))),?_⟩
  refine⟨_,rfl,x,d,rfl,hd,_,rfl,?_⟩
  refine yj (fun h=>?_) (fun h=>?_)
  ·obtain⟨a,b,rfl⟩:=uu h
   cases hd with
   |tup e hs=>
    cases hs with
    |cons ha hs=>
     cases hs with
     |cons hb hs=>
      cases hs
      have q':Q (.bl (vJ a&&vJ b)) H:=q
      refine⟨_,rfl,_,_,0,_,rfl,rfl,SqT.of e,rfl,_,_,rfl,ha,_,rfl,?_⟩
      refine yj (fun h=>?_) (fun h=>?_)
      ·rw[h,zs7] at q'
       exact⟨_,rfl,_,_,1,_,rfl,rfl,SqT.of e,rfl,_,_,rfl,hb,q'⟩
      ·rw[zp1.mpr h,zr3] at q'
       exact q'
  ·have e:sq d=false:=by
    unfold sq
    split
    ·exact absurd rfl h
    ·rfl
   rw[e] at q
   exact q
theorem jK :zo ["thing"] ["thing"] (zb uZ):=⟨rfl,rfl,rfl,by decide +kernel,rfl,by decide +kernel,by decide +kernel⟩
theorem nJ {f:Addr}{fd fdP:FuncData}(F:Fun K "is_stretch" "is_stretch" uZ f fd)(T:qV mg fW fI fP fD fPD)(G:zy P w K mg base CX0 4 fPD fdP ["thing"] (yz sq))(kP:PySem.W.keepIn K (.ref fPD)=true)(bP:Binds K fdP ["thing"] []):
  zy P w K mg base CX0 5 f fd ["thing"] (yz ye):=by
 refine F.ok jK (fun vs H Q E h=>?_) (fun cdv A outer s H vs Q E hr h=>?_)
 ·obtain⟨x,d,rfl,_⟩:=h
  rfl
 ·obtain⟨x,d,rfl,hd,q⟩:=h
  refine⟨_,zu (zA (yP (zL G hr (by rfl) T.days kP bP .nil zS (zc (pv 0) zp))
   (xy (xp uh (zJ yn (pv 0) zm (fun _ _=>rfl)) (zJ yn (pv 0) zm (fun _ _=>rfl)) (zF _))))),?_⟩
  refine⟨_,rfl,x,d,rfl,hd,_,rfl,?_⟩
  refine yj (fun h=>?_) (fun h=>?_)
  ·obtain⟨a,b,rfl,ef⟩:=oC h
   unfold ye at q
   rw[ef] at q
   have q':Q (.bl (decide (0≤b-a))) H:=q
   have eq1:decide (0≤b-a)=decide (a≤b):=by
    rw[decide_eq_decide]
    omega
   rw[eq1] at q'
   cases hd with
   |tup e hs=>
    cases hs with
    |cons ha hs=>
     cases ha
     cases hs with
     |cons hb hs=>
      cases hb
      cases hs
      exact⟨_,rfl,_,_,0,_,rfl,rfl,SqT.of e,rfl,_,rfl,_,_,1,_,rfl,rfl,SqT.of e,rfl,_,_,rfl,rfl,q'⟩
  ·rw[tE] at h
   unfold ye at q
   cases ef:sI d with
   |some k=>rw[ef] at h;exact absurd rfl h
   |none=>
    rw[ef] at q
    exact q
end
abbrev lM :Stmt:=inClass (top 25) 0
abbrev fA :Stmt:=inClass (top 25) 2
abbrev nu :Stmt:=inClass (top 25) 3
abbrev rZ :Stmt:=inClass (top 26) 0
abbrev ml :Stmt:=inClass (top 27) 0
abbrev aG :Stmt:=inClass (top 28) 0
abbrev rX :Stmt:=inClass (top 29) 0
abbrev mB :Stmt:=inClass (top 30) 0
abbrev nV :Stmt:=inClass (top 31) 0
abbrev eh :Stmt:=inClass (top 32) 0
abbrev oM :Stmt:=top 34
abbrev qu :Stmt:=top 35
abbrev oZ :Stmt:=top 36
abbrev qx :Stmt:=top 37
abbrev iS :Stmt:=top 38
abbrev qI :Stmt:=top 39
structure oY (mg:Str→Option Value)(fW fI fP fD fPD fS fC fDl fWo fR fM:Addr)(cs:Cs):Prop where
 d:qV mg fW fI fP fD fPD
 coinsMost:∃t,mg "MOST_COINS"=some (.int 1000000000000 t)
 stretch:mg "is_stretch"=some (.ref fS)
 coins:mg "is_coins"=some (.ref fC)
 deal:mg "is_deal"=some (.ref fDl)
 worth:mg "is_worth"=some (.ref fWo)
 rule:mg "is_rule"=some (.ref fR)
 made:mg "made"=some (.ref fM)
 cPrice:mg "Price"=some (.ref cs.price)
 cCome:mg "Come"=some (.ref cs.come)
 cGo:mg "Go"=some (.ref cs.go)
 cLeast:mg "Least"=some (.ref cs.least)
 cMost:mg "Most"=some (.ref cs.most)
 cDeal:mg "Deal"=some (.ref cs.deal)
 cFee:mg "Fee"=some (.ref cs.fee)
section
variable {P:Program}{w:World}{K:PySem.W.Frag}{mg:Str→Option Value}{base:Heap}{fW fI fP fD fPD fS fC fDl fWo fR fM:Addr}{cs:Cs}
theorem ae :zo ["self","first","last","worth"] ["self","first","last","worth"] (zb lM):=⟨rfl,rfl,rfl,by decide +kernel,rfl,by decide +kernel,by decide +kernel⟩
theorem xR {f C fT fE fWd:Addr}{fd:FuncData}(F:Fun K "__init__" "Rule.__init__" lM f fd)(R:xB K C f fT fE fWd):zy P w K mg base CX0 1 f fd ["self","first","last","worth"] (bX C):=by
 refine F.ok ae (fun vs H Q E h=>?_) (fun cdv A outer s H vs Q E hr h=>?_)
 ·obtain⟨p,dx,x,y,z,rfl,_⟩:=h
  rfl
 ·obtain⟨p,dx,x,y,z,rfl,hp,q⟩:=h
  refine⟨_,zG (rT (pv 0) (pv 1) rfl) (zG (rT (pv 0) (pv 2) rfl) (zu (rT (pv 0) (pv 3) rfl))),?_⟩
  refine⟨_,rfl,_,rfl,p,C,dx,[],rfl,hp,R.cl,R.nf,(by show 0<1000;decide),?_⟩
  refine⟨_,rfl,_,rfl,p,C,dx,_,rfl,zf,R.cl,R.nl,(by show 1<1000;decide),?_⟩
  refine⟨_,rfl,_,rfl,p,C,dx,xj "last" y (xj "first" x []),rfl,zf,R.cl,R.nw,?_,?_⟩
  ·show (if ("first":Str)="last" then _ else _:List (Str×V)).length<1000
   rw[if_neg (fun e=>gQ e.symm)]
   show 2<1000
   decide
  ·rw[vB,vB]
   exact q
theorem fb :zo ["self"] ["self"] (zb rZ):=⟨rfl,rfl,rfl,by decide +kernel,rfl,by decide +kernel,by decide +kernel⟩
theorem dh :zo ["self"] ["self"] (zb ml):=⟨rfl,rfl,rfl,by decide +kernel,rfl,by decide +kernel,by decide +kernel⟩
theorem zj0 :zo ["self"] ["self"] (zb aG):=⟨rfl,rfl,rfl,by decide +kernel,rfl,by decide +kernel,by decide +kernel⟩
theorem iW :zo ["self"] ["self"] (zb rX):=⟨rfl,rfl,rfl,by decide +kernel,rfl,by decide +kernel,by decide +kernel⟩
theorem cQ :zo ["self"] ["self"] (zb mB):=⟨rfl,rfl,rfl,by decide +kernel,rfl,by decide +kernel,by decide +kernel⟩
theorem cx :zo ["self"] ["self"] (zb nV):=⟨rfl,rfl,rfl,by decide +kernel,rfl,by decide +kernel,by decide +kernel⟩
theorem zb6 :zo ["self"] ["self"] (zb eh):=⟨rfl,rfl,rfl,by decide +kernel,rfl,by decide +kernel,by decide +kernel⟩
theorem sO {f:Addr}{fd:FuncData}(F:Fun K "word" "Price.word" rZ f fd):zy P w K mg base CX0 1 f fd ["self"] (xQ "price"):=by
 refine F.ok fb (fun vs H Q E h=>?_) (fun cdv A outer s H vs Q E hr h=>?_)
 ·obtain⟨p,rfl,_⟩:=h;rfl
 ·obtain⟨p,rfl,q⟩:=h;exact⟨_,zu (zA zX),q⟩
theorem pe {f:Addr}{fd:FuncData}(F:Fun K "word" "Come.word" ml f fd):zy P w K mg base CX0 1 f fd ["self"] (xQ "come"):=by
 refine F.ok dh (fun vs H Q E h=>?_) (fun cdv A outer s H vs Q E hr h=>?_)
 ·obtain⟨p,rfl,_⟩:=h;rfl
 ·obtain⟨p,rfl,q⟩:=h;exact⟨_,zu (zA zX),q⟩
theorem iU {f:Addr}{fd:FuncData}(F:Fun K "word" "Go.word" aG f fd):zy P w K mg base CX0 1 f fd ["self"] (xQ "go"):=by
 refine F.ok zj0 (fun vs H Q E h=>?_) (fun cdv A outer s H vs Q E hr h=>?_)
 ·obtain⟨p,rfl,_⟩:=h;rfl
 ·obtain⟨p,rfl,q⟩:=h;exact⟨_,zu (zA zX),q⟩
theorem rj {f:Addr}{fd:FuncData}(F:Fun K "word" "Least.word" rX f fd):zy P w K mg base CX0 1 f fd ["self"] (xQ "least"):=by
 refine F.ok iW (fun vs H Q E h=>?_) (fun cdv A outer s H vs Q E hr h=>?_)
 ·obtain⟨p,rfl,_⟩:=h;rfl
 ·obtain⟨p,rfl,q⟩:=h;exact⟨_,zu (zA zX),q⟩
theorem pS {f:Addr}{fd:FuncData}(F:Fun K "word" "Most.word" mB f fd):zy P w K mg base CX0 1 f fd ["self"] (xQ "most"):=by
 refine F.ok cQ (fun vs H Q E h=>?_) (fun cdv A outer s H vs Q E hr h=>?_)
 ·obtain⟨p,rfl,_⟩:=h;rfl
 ·obtain⟨p,rfl,q⟩:=h;exact⟨_,zu (zA zX),q⟩
theorem pW {f:Addr}{fd:FuncData}(F:Fun K "word" "Deal.word" nV f fd):zy P w K mg base CX0 1 f fd ["self"] (xQ "deal"):=by
 refine F.ok cx (fun vs H Q E h=>?_) (fun cdv A outer s H vs Q E hr h=>?_)
 ·obtain⟨p,rfl,_⟩:=h;rfl
 ·obtain⟨p,rfl,q⟩:=h;exact⟨_,zu (zA zX),q⟩
theorem lj {f:Addr}{fd:FuncData}(F:Fun K "word" "Fee.word" eh f fd):zy P w K mg base CX0 1 f fd ["self"] (xQ "fee"):=by
 refine F.ok zb6 (fun vs H Q E h=>?_) (fun cdv A outer s H vs Q E hr h=>?_)
 ·obtain⟨p,rfl,_⟩:=h;rfl
 ·obtain⟨p,rfl,q⟩:=h;exact⟨_,zu (zA zX),q⟩
theorem zb2 :zo ["self"] ["self"] (zb fA):=⟨rfl,rfl,rfl,by decide +kernel,rfl,by decide +kernel,by decide +kernel⟩
theorem df (x y z:V):(wg x y z).lookup ("word":Str)=none:=eO x y z (by decide +kernel) (by decide +kernel) (by decide +kernel)
theorem xZ {f C fIn fE fWd:Addr}{fd fdW:FuncData}{wd:Str}(F:Fun K "told" "Rule.told" fA f fd)(R:xB K C fIn f fE fWd)(GW:zy P w K mg base CX0 1 fWd fdW ["self"] (xQ wd))(bW:Binds K fdW ["self"] []):
  zy P w K mg base CX0 2 f fd ["self"] (gK C wd):=by
 refine F.ok zb2 (fun vs H Q E h=>?_) (fun cdv A outer s H vs Q E hr h=>?_)
 ·obtain⟨p,dx,x,y,z,rfl,_⟩:=h
  rfl
 ·obtain⟨p,dx,x,y,z,rfl,hp,q⟩:=h
  refine⟨_,zu (zA (rP (zc (pw (pv 0) R.cl R.word GW hr bW .nil zS) (zc (vN (pv 0) rfl) (zc (vN (pv 0) rfl) (zc (vN (pv 0) rfl) zp)))))),?_⟩
  refine⟨_,rfl,p,dx,_,rfl,hp,df _ _ _,p,rfl,?_⟩
  exact⟨_,rfl,p,C,dx,_,_,rfl,hp,R.cl,R.nf,tK _ _ _,_,rfl,p,C,dx,_,_,rfl,hp,R.cl,R.nl,rn _ _ _,_,rfl,p,C,dx,_,_,rfl,hp,R.cl,R.nw,oP _ _ _,(by show 4≤sizeLine;decide),q⟩
theorem dJ :zo ["self","day"] ["self","day"] (zb nu):=⟨rfl,rfl,rfl,by decide +kernel,rfl,by decide +kernel,by decide +kernel⟩
theorem yW {f C fIn fT fWd:Addr}{fd:FuncData}(F:Fun K "tells" "Rule.tells" nu f fd)(R:xB K C fIn fT f fWd):zy P w K mg base CX0 1 f fd ["self","day"] (lV C):=by
 refine F.ok dJ (fun vs H Q E h=>?_) (fun cdv A outer s H vs Q E hr h=>?_)
 ·obtain⟨p,dx,a,b,day,z,rfl,_⟩:=h
  rfl
 ·obtain⟨p,dx,a,b,day,z,rfl,hp,q⟩:=h
  refine⟨_,zu (zA (uU uh uh (vN (pv 0) rfl) (pv 1) (vN (pv 0) rfl))),?_⟩
  refine⟨_,rfl,p,C,dx,_,_,rfl,hp,R.cl,R.nf,tK _ _ _,_,rfl,_,_,rfl,rfl,_,rfl,?_⟩
  refine yj (fun h=>?_) (fun h=>?_)
  ·rw[h,zs7] at q
   exact⟨_,rfl,p,C,dx,_,_,rfl,hp,R.cl,R.nl,rn _ _ _,_,_,rfl,rfl,q⟩
  ·rw[zp1.mpr h,zr3] at q
   exact q
theorem cR :zo ["thing"] ["thing"] (zb oM):=⟨rfl,rfl,rfl,by decide +kernel,rfl,by decide +kernel,by decide +kernel⟩
theorem iM {f:Addr}{fd fdI:FuncData}(F:Fun K "is_coins" "is_coins" oM f fd)(T:oY mg fW fI fP fD fPD fS fC fDl fWo fR fM cs)(GI:zy P w K mg base CX0 2 fI fdI ["thing","lowest","highest"] wI)(kI:PySem.W.keepIn K (.ref fI)=true)(bI:Binds K fdI ["thing","lowest","highest"] []):
  zy P w K mg base CX0 3 f fd ["thing"] (yz sk):=by
 obtain⟨tl,hl⟩:=T.coinsMost
 refine F.ok cR (fun vs H Q E h=>?_) (fun cdv A outer s H vs Q E hr h=>?_)
 ·obtain⟨x,d,rfl,_⟩:=h
  rfl
 ·obtain⟨x,d,rfl,hd,q⟩:=h
  refine⟨_,zu (zA (zL GI hr (by rfl) T.d.within kI bI .nil zS (zc (pv 0) (zc zm (zc (wQ (v:=.int 1000000000000) (by rfl) hl ⟨tl,rfl⟩) zp))))),?_⟩
  exact⟨_,rfl,x,d,_,_,rfl,hd,q⟩
theorem gP :zo ["thing"] ["thing"] (zb qu):=⟨rfl,rfl,rfl,by decide +kernel,rfl,by decide +kernel,by decide +kernel⟩
theorem ki {f:Addr}{fd fdI fdP:FuncData}(F:Fun K "is_deal" "is_deal" qu f fd)(T:oY mg fW fI fP fD fPD fS fC fDl fWo fR fM cs)(GI:zy P w K mg base CX0 2 fI fdI ["thing","lowest","highest"] wI)(kI:PySem.W.keepIn K (.ref fI)=true)(bI:Binds K fdI ["thing","lowest","highest"] [])
  (GP:zy P w K mg base CX0 1 fP fdP ["thing"] (yz pairD)) (kP:PySem.W.keepIn K (.ref fP)=true) (bP:Binds K fdP ["thing"] []):zy P w K mg base CX0 3 f fd ["thing"] (yz sX):=by
 obtain⟨tm,hm⟩:=T.d.most
 refine F.ok gP (fun vs H Q E h=>?_) (fun cdv A outer s H vs Q E hr h=>?_)
 ·obtain⟨x,d,rfl,_⟩:=h
  rfl
 ·obtain⟨x,d,rfl,hd,q⟩:=h
  have hr1:zE 1 _:=hr.mono (by decide)
  refine⟨_,zu (zA (yP (zL GP hr1 (by rfl) T.d.pair kP bP .nil zS (zc (pv 0) zp))
   (yP (zL GI hr (by rfl) T.d.within kI bI .nil zS (zc (zJ yn (pv 0) zm (fun _ _=>rfl)) (zc zm (zc (wQ (v:=.int 14) (by rfl) hm ⟨tm,rfl⟩) zp))))
   (xy (zL GI hr (by rfl) T.d.within kI bI .nil zS (zc (zJ yn (pv 0) zm (fun _ _=>rfl)) (zc zm (zc (yg fO (zJ yn (pv 0) zm (fun _ _=>rfl)) zm) zp)))))))),?_⟩
  refine⟨_,rfl,x,d,rfl,hd,_,rfl,?_⟩
  refine yj (fun h=>?_) (fun h=>?_)
  ·obtain⟨a,b,rfl⟩:=uu h
   cases hd with
   |tup e hs=>
    cases hs with
    |cons ha hs=>
     cases hs with
     |cons hb hs=>
      cases hs
      refine⟨_,rfl,_,_,0,_,rfl,rfl,SqT.of e,rfl,_,_,_,_,rfl,ha,_,rfl,?_⟩
      cases ha with
      |int m=>
       have q':Q (.bl (yo 2 14 (.int m)&&yo 1 (m-1) b)) H:=q
       refine yj (fun h=>?_) (fun h=>?_)
       ·rw[h,zs7] at q'
        exact⟨_,rfl,_,_,1,_,rfl,rfl,SqT.of e,rfl,_,rfl,_,_,0,_,rfl,rfl,SqT.of e,rfl,_,_,rfl,rfl,_,_,_,_,rfl,hb,q'⟩
       ·rw[zp1.mpr h,zr3] at q'
        exact q'
      |_=>exact uw q
  ·have e:sX d=false:=by
    unfold sX
    split
    ·exact absurd rfl h
    ·rfl
   rw[e] at q
   exact q
theorem dB :zo ["word","thing"] ["word","thing"] (zb oZ):=⟨rfl,rfl,rfl,by decide +kernel,rfl,by decide +kernel,by decide +kernel⟩
theorem eL {f:Addr}{fd fdI fdC fdDl:FuncData}(F:Fun K "is_worth" "is_worth" oZ f fd)(T:oY mg fW fI fP fD fPD fS fC fDl fWo fR fM cs)(GI:zy P w K mg base CX0 2 fI fdI ["thing","lowest","highest"] wI)(kI:PySem.W.keepIn K (.ref fI)=true)(bI:Binds K fdI ["thing","lowest","highest"] [])
  (GC:zy P w K mg base CX0 3 fC fdC ["thing"] (yz sk)) (kC:PySem.W.keepIn K (.ref fC)=true) (bC:Binds K fdC ["thing"] []) (GDl:zy P w K mg base CX0 3 fDl fdDl ["thing"] (yz sX)) (kDl:PySem.W.keepIn K (.ref fDl)=true) (bDl:Binds K fdDl ["thing"] []):
  zy P w K mg base CX0 4 f fd ["word","thing"] lH:=by
 obtain⟨tm,hm⟩:=T.d.most
 refine F.ok dB (fun vs H Q E h=>?_) (fun cdv A outer s H vs Q E hr h=>?_)
 ·obtain⟨x,y,dw,dv,rfl,_⟩:=h
  rfl
 ·obtain⟨x,y,dw,dv,rfl,hx,sw,hy,q⟩:=h
  have hr2:zE 2 _:=hr.mono (by decide)
  have hu:=hr.units
  have st:∀{z:Str},z∈words→SeqAt.shaped (.str z)=true:=fun {z} hz=>mi (by
   simp only[words,zn2,zo4,zq6] at hz
   rcases hz with rfl|rfl|rfl|rfl|rfl|rfl|rfl<;>decide +kernel)
  unfold yx at q
  -- if word == 'price'
  refine zP (fun σ H1=>σ=[some x,some y]∧eqS dw "price"=false∧H=H1)
   ⟨_,xq (zZ (wu hu) (pv 0) zX (zF _)) (zu (zA (bc (xp mq (pv 1) qF (zF _)) (xy (zL GC hr (by rfl) T.coins kC bC .nil zS (zc (pv 1) zp)))))) yi,?_⟩ ?_
  ·refine⟨_,rfl,dw,.str "price",hx,.str _,sw,st (by simp[words]),_,rfl,?_⟩
   refine yj (fun h=>?_) (fun h=>⟨rfl,zp1.mpr h,rfl⟩)
   rw[if_pos h] at q
   refine⟨_,rfl,rfl,_,rfl,?_⟩
   rw[hy.non_iff]
   refine yj (fun h2=>?_) (fun h2=>?_)
   ·rw[h2,zz9] at q
    exact q
   ·rw[zp1.mpr h2,zy7] at q
    exact⟨_,rfl,y,dv,rfl,hy,q⟩
  rintro σ H1 ⟨rfl,e1,rfl⟩
  rw[e1,if_neg zn4] at q
  -- if word == 'come' or word == 'go'
  refine zP (fun σ H1=>σ=[some x,some y]∧(eqS dw "come"||eqS dw "go")=false∧H=H1)
   ⟨_,xq (PW.pt (jZ (zZ (wu hu) (pv 0) zX (zF _)) (mn (zZ (wu hu) (pv 0) zX (zF _))))) (zu (zA (zQ xH (by rfl) T.d.isi zu5 (zc (pv 1) (zc (wJ (v:=.ty "bool") (by rfl) T.d.bool boot_bool rfl) zp))))) yi,?_⟩ ?_
  ·refine⟨_,rfl,dw,.str "come",hx,.str _,sw,st (by simp[words]),_,rfl,?_⟩
   refine yj (fun h=>?_) (fun h=>?_)
   ·have h':eqS dw "come"=true:=h
    rw[h',zz9,if_pos rfl] at q
    exact vS ⟨_,rfl,y,"bool",dv,_,rfl,hy,tj dv,q⟩
   ·have h':eqS dw "come"=false:=zp1.mpr h
    refine⟨_,rfl,dw,.str "go",hx,.str _,sw,st (by simp[words]),_,rfl,?_⟩
    refine yj (fun h2=>?_) (fun h2=>?_)
    ·have h2':eqS dw "go"=true:=h2
     rw[h',h2',zy7,if_pos rfl] at q
     exact⟨_,rfl,y,"bool",dv,_,rfl,hy,tj dv,q⟩
    ·have h2':eqS dw "go"=false:=zp1.mpr h2
     exact⟨rfl,by rw[h',h2'];rfl,rfl⟩
  rintro σ H1 ⟨rfl,e2,rfl⟩
  rw[e2,if_neg zn4] at q
  -- if word == 'least' or word == 'most'
  refine zP (fun σ H1=>σ=[some x,some y]∧(eqS dw "least"||eqS dw "most")=false∧H=H1)
   ⟨_,xq (PW.pt (jZ (zZ (wu hu) (pv 0) zX (zF _)) (mn (zZ (wu hu) (pv 0) zX (zF _))))) (zu (zA (zL GI hr2 (by rfl) T.d.within kI bI .nil zS (zc (pv 1) (zc zm (zc (wQ (v:=.int 14) (by rfl) hm ⟨tm,rfl⟩) zp)))))) yi,?_⟩ ?_
  ·refine⟨_,rfl,dw,.str "least",hx,.str _,sw,st (by simp[words]),_,rfl,?_⟩
   refine yj (fun h=>?_) (fun h=>?_)
   ·have h':eqS dw "least"=true:=h
    rw[h',zz9,if_pos rfl] at q
    exact vS ⟨_,rfl,y,dv,_,_,rfl,hy,q⟩
   ·have h':eqS dw "least"=false:=zp1.mpr h
    refine⟨_,rfl,dw,.str "most",hx,.str _,sw,st (by simp[words]),_,rfl,?_⟩
    refine yj (fun h2=>?_) (fun h2=>?_)
    ·have h2':eqS dw "most"=true:=h2
     rw[h',h2',zy7,if_pos rfl] at q
     exact⟨_,rfl,y,dv,_,_,rfl,hy,q⟩
    ·have h2':eqS dw "most"=false:=zp1.mpr h2
     exact⟨rfl,by rw[h',h2'];rfl,rfl⟩
  rintro σ H1 ⟨rfl,e3,rfl⟩
  rw[e3,if_neg zn4] at q
  -- if word == 'deal'
  refine zP (fun σ H1=>σ=[some x,some y]∧eqS dw "deal"=false∧H=H1)
   ⟨_,xq (zZ (wu hu) (pv 0) zX (zF _)) (zu (zA (bc (xp mq (pv 1) qF (zF _)) (xy (zL GDl hr (by rfl) T.deal kDl bDl .nil zS (zc (pv 1) zp)))))) yi,?_⟩ ?_
  ·refine⟨_,rfl,dw,.str "deal",hx,.str _,sw,st (by simp[words]),_,rfl,?_⟩
   refine yj (fun h=>?_) (fun h=>⟨rfl,zp1.mpr h,rfl⟩)
   rw[if_pos h] at q
   refine⟨_,rfl,rfl,_,rfl,?_⟩
   rw[hy.non_iff]
   refine yj (fun h2=>?_) (fun h2=>?_)
   ·rw[h2,zz9] at q
    exact q
   ·rw[zp1.mpr h2,zy7] at q
    exact⟨_,rfl,y,dv,rfl,hy,q⟩
  rintro σ H1 ⟨rfl,e4,rfl⟩
  rw[e4,if_neg zn4] at q
  refine⟨_,zu (zA (yP (xp (wu hu) (pv 0) zX (zF _)) (xy (zL GC hr (by rfl) T.coins kC bC .nil zS (zc (pv 1) zp))))),?_⟩
  refine⟨_,rfl,dw,.str "fee",hx,.str _,sw,st (by simp[words]),_,rfl,?_⟩
  refine yj (fun h=>?_) (fun h=>?_)
  ·have h':eqS dw "fee"=true:=h
   rw[h',zs7] at q
   exact⟨_,rfl,y,dv,rfl,hy,q⟩
  ·have h':eqS dw "fee"=false:=zp1.mpr h
   rw[h',zr3] at q
   exact q
theorem ib :zo ["thing"] ["thing"] (zb qx):=⟨rfl,rfl,rfl,by decide +kernel,rfl,by decide +kernel,by decide +kernel⟩
theorem jd {f:Addr}{fd fdS fdWo:FuncData}(F:Fun K "is_rule" "is_rule" qx f fd)(T:oY mg fW fI fP fD fPD fS fC fDl fWo fR fM cs)(GS:zy P w K mg base CX0 5 fS fdS ["thing"] (yz ye))(kS:PySem.W.keepIn K (.ref fS)=true)(bS:Binds K fdS ["thing"] [])
  (GW:zy P w K mg base CX0 4 fWo fdWo ["word","thing"] lH) (kW:PySem.W.keepIn K (.ref fWo)=true) (bW:Binds K fdWo ["word","thing"] []):zy P w K mg base CX0 6 f fd ["thing"] iX:=by
 refine F.ok ib (fun vs H Q E h=>?_) (fun cdv A outer s H vs Q E hr h=>?_)
 ·obtain⟨x,d,rfl,_⟩:=h
  rfl
 ·obtain⟨x,d,rfl,hd,sd,q⟩:=h
  have hr4:zE 4 _:=hr.mono (by decide)
  refine⟨_,zu (zA (yP (zQ xH (by rfl) T.d.isi zu5 (zc (pv 0) (zc (wJ (v:=.ty "tuple") (by rfl) T.d.tuple boot_tuple rfl) zp)))
   (yP (xp wa (zQ yf (by rfl) T.d.len zv2 (zc (pv 0) zp)) zm (zF _))
   (yP (zL GS hr (by rfl) T.stretch kS bS .nil zS (zc (rP (zc (zJ yn (pv 0) zm (fun _ _=>rfl)) (zc (zJ yn (pv 0) zm (fun _ _=>rfl)) zp))) zp))
   (xy (zL GW hr4 (by rfl) T.worth kW bW .nil zS (zc (zJ yn (pv 0) zm (fun _ _=>rfl)) (zc (zJ yn (pv 0) zm (fun _ _=>rfl)) zp)))))))),?_⟩
  refine⟨_,rfl,x,"tuple",d,_,rfl,hd,sM d,_,rfl,?_⟩
  cases hd with
  |@tup a xs ds e hs=>
   refine vS ⟨_,rfl,a,_,rfl,.inr (SqT.of e),rfl,_,rfl,?_⟩
   cases hs with
   |nil=>exact yj (fun h=>absurd h (by simp)) (fun _=>q H (zx.refl H))
   |@cons xw _ dw _ hw hs=>
   cases hs with
   |nil=>exact yj (fun h=>absurd h (by simp)) (fun _=>q H (zx.refl H))
   |@cons xa _ da _ ha hs=>
   cases hs with
   |nil=>exact yj (fun h=>absurd h (by simp)) (fun _=>q H (zx.refl H))
   |@cons xb _ db _ hb hs=>
   cases hs with
   |nil=>exact yj (fun h=>absurd h (by simp)) (fun _=>q H (zx.refl H))
   |@cons xv _ dv _ hv hs=>
   cases hs with
   |cons _ _=>exact yj (fun h=>absurd h (by simp;omega)) (fun _=>q H (zx.refl H))
   |nil=>
    refine yj (fun _=>?_) (fun h=>absurd rfl h)
    refine⟨_,rfl,a,_,1,_,rfl,rfl,SqT.of e,rfl,_,rfl,a,_,2,_,rfl,rfl,SqT.of e,rfl,(by show 2≤sizeLine;decide),fun p hp=>?_⟩
    have s1:zx H (upd H p (.tup [xa,xb])):=ym hp
    refine⟨_,.tuple [da,db],rfl,.tup zf (.cons (ha.same s1) (.cons (hb.same s1) .nil)),_,rfl,?_⟩
    have q':Q (.bl (ye (.tuple [da,db])&&yx dw dv)) (upd H p (.tup [xa,xb])):=q _ s1
    refine yj (fun h=>?_) (fun h=>?_)
    ·rw[h,zs7] at q'
     exact⟨_,rfl,a,_,0,_,rfl,rfl,SqT.of (s1 _ _ e),rfl,_,rfl,a,_,3,_,rfl,rfl,SqT.of (s1 _ _ e),rfl,_,_,_,_,rfl,hw.same s1,rM sd dw (by simp),hv.same s1,q'⟩
    ·rw[zp1.mpr h,zr3] at q'
     exact q'
  |_=>exact uw (q H (zx.refl H))
end
section
variable {P:Program}{w:World}{K:PySem.W.Frag}{mg:Str→Option Value}{base:Heap}{fW fI fP fD fPD fS fC fDl fWo fR fM:Addr}{cs:Cs}
structure gj (K:PySem.W.Frag)(cs:Cs)(fIn fTo fTe w1 w2 w3 w4 w5 w6 w7:Addr):Prop where
 price:xB K cs.price fIn fTo fTe w1
 come:xB K cs.come fIn fTo fTe w2
 go:xB K cs.go fIn fTo fTe w3
 least:xB K cs.least fIn fTo fTe w4
 most:xB K cs.most fIn fTo fTe w5
 deal:xB K cs.deal fIn fTo fTe w6
 fee:xB K cs.fee fIn fTo fTe w7
theorem wq (cs:Cs):cs.of "price"=cs.price:=by unfold Cs.of;rw[if_pos rfl]
theorem vI (cs:Cs):cs.of "come"=cs.come:=by unfold Cs.of;rw[if_neg (by decide +kernel),if_pos rfl]
theorem pX (cs:Cs):cs.of "go"=cs.go:=by unfold Cs.of;rw[if_neg (by decide +kernel),if_neg (by decide +kernel),if_pos rfl]
theorem wm (cs:Cs):cs.of "least"=cs.least:=by unfold Cs.of;rw[if_neg (by decide +kernel),if_neg (by decide +kernel),if_neg (by decide +kernel),if_pos rfl]
theorem vt (cs:Cs):cs.of "most"=cs.most:=by unfold Cs.of;rw[if_neg (by decide +kernel),if_neg (by decide +kernel),if_neg (by decide +kernel),if_neg (by decide +kernel),if_pos rfl]
theorem vD (cs:Cs):cs.of "deal"=cs.deal:=by unfold Cs.of;rw[if_neg (by decide +kernel),if_neg (by decide +kernel),if_neg (by decide +kernel),if_neg (by decide +kernel),if_neg (by decide +kernel),if_pos rfl]
theorem tI (cs:Cs):cs.of "fee"=cs.fee:=by unfold Cs.of;rw[if_neg (by decide +kernel),if_neg (by decide +kernel),if_neg (by decide +kernel),if_neg (by decide +kernel),if_neg (by decide +kernel),if_neg (by decide +kernel)]
theorem vO {x y:Str}(h:decide (V.str x=V.str y)=true):x=y:=by
 have:=of_decide_eq_true h
 injection this
theorem vV {x y:Str}(h:¬decide (V.str x=V.str y)=true):x≠y:=fun e=>h (by rw[e];exact zp7 rfl)
theorem yY {C p dx:Addr}{H:Hp}{x y z:V}{Q:VK}(k:∀(p dx:Addr) (H':Hp),H' p=some (.ins C dx (wg x y z))→H p=none→zx H H'→Q (.ref p) H')(hp:H p=none)(hx:H dx=none)(n:dx≠p):
  Q (.ref p) (upd (upd (upd H dx (.own p)) p (.ins C dx [])) p (.ins C dx (wg x y z))):=by
 refine k p dx _ zf hp fun a o e=>?_
 rw[vB,zd (zk e hp),zd (zk e hx)]
 exact e
theorem zc4 :zo ["word","first","last","worth"] ["word","first","last","worth"] (zb iS):=⟨rfl,rfl,rfl,by decide +kernel,rfl,by decide +kernel,by decide +kernel⟩
set_option maxHeartbeats 4000000 in
theorem cG {f fIn fTo fTe w1 w2 w3 w4 w5 w6 w7:Addr}{fd fdIn:FuncData}(F:Fun K "made" "made" iS f fd)(T:oY mg fW fI fP fD fPD fS fC fDl fWo fR fM cs)(A7:gj K cs fIn fTo fTe w1 w2 w3 w4 w5 w6 w7)
  (FI:Fun K "__init__" "Rule.__init__" lM fIn fdIn) (bI:Binds K fdIn ["self","first","last","worth"] []):zy P w K mg base CX0 3 f fd ["word","first","last","worth"] (jW cs):=by
 refine F.ok zc4 (fun vs H Q E h=>?_) (fun cdv A outer s H vs Q E hr h=>?_)
 ·obtain⟨wd,x,y,z,rfl,_⟩:=h
  rfl
 ·obtain⟨wd,x,y,z,rfl,hw,k⟩:=h
  refine zP (fun σ H1=>σ=[some (.str wd),some x,some y,some z]∧wd≠"price"∧H=H1)
   ⟨_,xq (zZ wa (pv 0) zX (zF _)) (zu (zA (xr A7.price.makes (xR FI A7.price) hr (by rfl) T.cPrice bI .nil zS (zc (pv 1) (zc (pv 2) (zc (pv 3) zp)))))) yi,?_⟩ ?_
  ·refine⟨_,rfl,rfl,_,rfl,yj (fun h=>?_) (fun h=>⟨rfl,vV h,rfl⟩)⟩
   rw[vO h,wq] at k
   exact⟨_,rfl,_,rfl,_,rfl,fun p dx hp hx n=>⟨p,dx,_,_,_,rfl,zf,rfl,yY k hp hx n⟩⟩
  rintro σ H1 ⟨rfl,n1,rfl⟩
  refine zP (fun σ H1=>σ=[some (.str wd),some x,some y,some z]∧wd≠"come"∧H=H1)
   ⟨_,xq (zZ wa (pv 0) zX (zF _)) (zu (zA (xr A7.come.makes (xR FI A7.come) hr (by rfl) T.cCome bI .nil zS (zc (pv 1) (zc (pv 2) (zc (pv 3) zp)))))) yi,?_⟩ ?_
  ·refine⟨_,rfl,rfl,_,rfl,yj (fun h=>?_) (fun h=>⟨rfl,vV h,rfl⟩)⟩
   rw[vO h,vI] at k
   exact⟨_,rfl,_,rfl,_,rfl,fun p dx hp hx n=>⟨p,dx,_,_,_,rfl,zf,rfl,yY k hp hx n⟩⟩
  rintro σ H1 ⟨rfl,n2,rfl⟩
  refine zP (fun σ H1=>σ=[some (.str wd),some x,some y,some z]∧wd≠"go"∧H=H1)
   ⟨_,xq (zZ wa (pv 0) zX (zF _)) (zu (zA (xr A7.go.makes (xR FI A7.go) hr (by rfl) T.cGo bI .nil zS (zc (pv 1) (zc (pv 2) (zc (pv 3) zp)))))) yi,?_⟩ ?_
  ·refine⟨_,rfl,rfl,_,rfl,yj (fun h=>?_) (fun h=>⟨rfl,vV h,rfl⟩)⟩
   rw[vO h,pX] at k
   exact⟨_,rfl,_,rfl,_,rfl,fun p dx hp hx n=>⟨p,dx,_,_,_,rfl,zf,rfl,yY k hp hx n⟩⟩
  rintro σ H1 ⟨rfl,n3,rfl⟩
  refine zP (fun σ H1=>σ=[some (.str wd),some x,some y,some z]∧wd≠"least"∧H=H1)
   ⟨_,xq (zZ wa (pv 0) zX (zF _)) (zu (zA (xr A7.least.makes (xR FI A7.least) hr (by rfl) T.cLeast bI .nil zS (zc (pv 1) (zc (pv 2) (zc (pv 3) zp)))))) yi,?_⟩ ?_
  ·refine⟨_,rfl,rfl,_,rfl,yj (fun h=>?_) (fun h=>⟨rfl,vV h,rfl⟩)⟩
   rw[vO h,wm] at k
   exact⟨_,rfl,_,rfl,_,rfl,fun p dx hp hx n=>⟨p,dx,_,_,_,rfl,zf,rfl,yY k hp hx n⟩⟩
  rintro σ H1 ⟨rfl,n4,rfl⟩
  refine zP (fun σ H1=>σ=[some (.str wd),some x,some y,some z]∧wd≠"most"∧H=H1)
   ⟨_,xq (zZ wa (pv 0) zX (zF _)) (zu (zA (xr A7.most.makes (xR FI A7.most) hr (by rfl) T.cMost bI .nil zS (zc (pv 1) (zc (pv 2) (zc (pv 3) zp)))))) yi,?_⟩ ?_
  ·refine⟨_,rfl,rfl,_,rfl,yj (fun h=>?_) (fun h=>⟨rfl,vV h,rfl⟩)⟩
   rw[vO h,vt] at k
   exact⟨_,rfl,_,rfl,_,rfl,fun p dx hp hx n=>⟨p,dx,_,_,_,rfl,zf,rfl,yY k hp hx n⟩⟩
  rintro σ H1 ⟨rfl,n5,rfl⟩
  refine zP (fun σ H1=>σ=[some (.str wd),some x,some y,some z]∧wd≠"deal"∧H=H1)
   ⟨_,xq (zZ wa (pv 0) zX (zF _)) (zu (zA (xr A7.deal.makes (xR FI A7.deal) hr (by rfl) T.cDeal bI .nil zS (zc (pv 1) (zc (pv 2) (zc (pv 3) zp)))))) yi,?_⟩ ?_
  ·refine⟨_,rfl,rfl,_,rfl,yj (fun h=>?_) (fun h=>⟨rfl,vV h,rfl⟩)⟩
   rw[vO h,vD] at k
   exact⟨_,rfl,_,rfl,_,rfl,fun p dx hp hx n=>⟨p,dx,_,_,_,rfl,zf,rfl,yY k hp hx n⟩⟩
  rintro σ H1 ⟨rfl,n6,rfl⟩
  have e7:wd="fee":=by
   simp only[words,zn2,zo4,zq6] at hw
   rcases hw with e|e|e|e|e|e|e
   ·exact absurd e n1
   ·exact absurd e n2
   ·exact absurd e n3
   ·exact absurd e n4
   ·exact absurd e n5
   ·exact absurd e n6
   ·exact e
  rw[e7,tI] at k
  refine⟨_,zu (zA (xr A7.fee.makes (xR FI A7.fee) hr (by rfl) T.cFee bI .nil zS (zc (pv 1) (zc (pv 2) (zc (pv 3) zp))))),?_⟩
  exact⟨_,rfl,_,rfl,_,rfl,fun p dx hp hx n=>⟨p,dx,_,_,_,rfl,zf,rfl,yY k hp hx n⟩⟩
theorem iE :zo ["thing"] ["thing"] (zb qI):=⟨rfl,rfl,rfl,by decide +kernel,rfl,by decide +kernel,by decide +kernel⟩
theorem kA {f:Addr}{fd fdR fdM:FuncData}(F:Fun K "rule_of" "rule_of" qI f fd)(T:oY mg fW fI fP fD fPD fS fC fDl fWo fR fM cs)(GR:zy P w K mg base CX0 6 fR fdR ["thing"] iX)(kR:PySem.W.keepIn K (.ref fR)=true)(bR:Binds K fdR ["thing"] [])
  (GM:zy P w K mg base CX0 3 fM fdM ["word","first","last","worth"] (jW cs)) (kM:PySem.W.keepIn K (.ref fM)=true) (bM:Binds K fdM ["word","first","last","worth"] []):zy P w K mg base CX0 7 f fd ["thing"] (pD cs):=by
 refine F.ok iE (fun vs H Q E h=>?_) (fun cdv A outer s H vs Q E hr h=>?_)
 ·obtain⟨x,d,rfl,_⟩:=h
  rfl
 ·obtain⟨x,d,rfl,hd,sd,k0,k1⟩:=h
  have hr3:zE 3 _:=hr.mono (by decide)
  refine zP (fun σ H1=>σ=[some x]∧xI d=true∧zx H H1)
   ⟨_,xq (iu (gF (zL GR hr (by rfl) T.rule kR bR .nil zS (zc (pv 0) zp)))) (zu (zA qF)) yi,?_⟩ ?_
  ·refine⟨_,rfl,x,d,rfl,hd,sd,fun H1 s1=>⟨_,rfl,?_⟩⟩
   refine yj (fun h=>?_) (fun h=>?_)
   ·exact k0 (by simpa using h) H1 s1
   ·exact⟨rfl,by simpa using h,s1⟩
  rintro σ H1 ⟨rfl,er,s1⟩
  obtain⟨sw,da,db,dv,hsw,rfl⟩:=xx er
  cases hd with
  |@tup r xs ds e hs=>
   cases hs with
   |@cons xw _ _ _ hw hs=>
    cases hw
    cases hs with
    |@cons xa _ _ _ ha hs=>
     cases hs with
     |@cons xb _ _ _ hb hs=>
      cases hs with
      |@cons xv _ _ _ hv hs=>
       cases hs
       have e1:=s1 _ _ e
       refine⟨_,zu (zA (zL GM hr3 (by rfl) T.made kM bM .nil zS (zc (zJ yn (pv 0) zm (fun _ _=>rfl)) (zc (zJ yn (pv 0) zm (fun _ _=>rfl)) (zc (zJ yn (pv 0) zm (fun _ _=>rfl)) (zc (zJ yn (pv 0) zm (fun _ _=>rfl)) zp)))))),?_⟩
       refine⟨_,rfl,r,_,0,_,rfl,rfl,SqT.of e1,rfl,_,rfl,r,_,1,_,rfl,rfl,SqT.of e1,rfl,_,rfl,r,_,2,_,rfl,rfl,SqT.of e1,rfl,_,rfl,r,_,3,_,rfl,rfl,SqT.of e1,rfl,sw,_,_,_,rfl,hsw,fun p dx H2 h2 hp s2=>?_⟩
       exact k1 r sw xa xb xv p dx H2 rfl er hsw e h2 (s1.free hp) (s1.trans s2)
end
abbrev gk :Stmt:=top 43
abbrev yQ :Stmt:=inClass (top 42) 0
abbrev wO :Stmt:=inClass (top 42) 1
def tf (C:Addr)(a b v:PyData):PyData:=wy C [(.str "first",a),(.str "last",b),(.str "worth",v)]
def ur (cs:Cs):PyData→PyData
 |.tuple [.str w,a,b,v]=>tf (cs.of w) a b v
 |_=>.none
def yt (C:Addr)(cs:Cs)(ds:List PyData):PyData:=wy C [(.str "kept",.list (ds.map (ur cs)))]
def Rules (ds:List PyData):Prop:=∀d∈ds,xI d=true∧SeqAt.shaped d=true∧d.hasDict=false
def tw (cs:Cs):List A→(A→Prop)→Prop:=fun as Q=>∃d,as=[.dat d]∧d.hasDict=false∧SeqAt.shaped d=true∧(xI d=false→Q (.dat .none))∧(xI d=true→Q (.dat (ur cs d)))
def oj (cs:Cs):List A→(A→Prop)→Prop:=fun as Q=>∃ds,as=[.dat (.list ds)]∧Rules ds∧ds.length≤24∧Q (.own (ds.map (ur cs)))
def sj (C:Addr)(cs:Cs):List A→(A→Prop)→Prop:=fun as Q=>∃ds,(as=[.dat (.list ds)]∨(as=[.dat .none]∧ds=[]))∧Rules ds∧ds.length≤24∧Q (.dat (yt C cs ds))
def mz (C:Addr)(w:Str):List A→(A→Prop)→Prop:=fun as Q=>∃a b v,as=[.dat (tf C a b v)]∧Q (.dat (.tuple [.str w,a,b,v]))
def uI (C:Addr)(cs:Cs):List A→(A→Prop)→Prop:=fun as Q=>∃ds,as=[.dat (yt C cs ds)]∧Rules ds∧ds.length≤1000∧Q (.own ds)
theorem qw (x y z:V):wg x y z=[(("first":Str),x),(("last":Str),y),(("worth":Str),z)]:=by
 unfold wg
 show xj "worth" z (if ("first":Str)="last" then _ else _)=_
 rw[if_neg (fun e=>gQ e.symm)]
 show (if ("first":Str)="worth" then _ else _)=_
 rw[if_neg (fun e=>iN e.symm)]
 show _::(if ("last":Str)="worth" then _ else _)=_
 rw[if_neg (fun e=>iq e.symm)]
 rfl
theorem vk {cs:Cs}{d:PyData}(h:xI d=true):∃(s:Str) (a b v:PyData),s∈words∧d=.tuple [.str s,a,b,v]∧ur cs d=tf (cs.of s) a b v:=by
 obtain⟨s,a,b,v,hs,rfl⟩:=xx h
 exact⟨s,a,b,v,hs,rfl,rfl⟩
def jY :Scope:=match zv wO with
 |[.Return (some (.ListComp _ _ sc _)) _]=>sc
 |_=>zb wO
section
variable {P:Program}{w:World}{K:PySem.W.Frag}{mg:Str→Option Value}{base:Heap}{cs:Cs}
theorem ny {k:Nat}{f:Addr}{fd:FuncData}{ps:List Str}(hm:mg "rule_of"=some (.ref f))(hk:PySem.W.keepIn K (.ref f)=true)(hb:Binds K fd ps [])(G:zy P w K mg base CX0 k f fd ps (pD cs)):Cal P w K mg base "rule_of" k (tw cs):=by
 refine⟨f,fd,_,hm,hk,hb,G.imp fun vs H Q E h=>?_⟩
 obtain⟨F,as,Q',rfl,t,o,rv,⟨d,rfl,nd,sh,q0,q1⟩,kk⟩:=h
 obtain⟨x,rfl,av⟩:=rv.one
 have oo:∀{a:Addr},F.H0 a=none→¬F.O0 a:=fun {a} e z=>by
  obtain⟨u,hu,_⟩:=o a z
  rw[e] at hu;cases hu
 refine⟨x,d,rfl,(av.dv nd).same xO,sh,fun hr H' s=>kk _ _ _ (q0 hr) ⟨t.same s,Kz.of_same s,.non⟩,fun r wd x1 x2 x3 p dx H' hx hr hw he hp' hp s=>kk _ _ _ (q1 hr) ⟨t.same s,Kz.of_same s,?_⟩⟩
 subst hx
 obtain⟨s',a,b,v,_,rfl⟩:=xx hr
 obtain⟨r',xs,e1,e2,e3⟩:=av.tup_inv
 cases e1
 have e4:=(zj e2).2
 rw[he] at e4
 cases e4
 have gs:zx (sub (fun x=>¬F.O0 x) F.H0) (sub (fun x=>¬F.O0 x) H'):=zr fun a u h e=>⟨h,s _ _ e⟩
 cases e3 with
 |cons g1 e3=>
  cases g1.str_inv
  cases e3 with
  |cons g2 e3=>
   cases e3 with
   |cons g3 e3=>
    cases e3 with
    |cons g4 e3=>
     cases e3
     rw[qw] at hp'
     exact .ins (zR (oo hp) hp') (.cons (g2.same gs) (.cons (g3.same gs) (.cons (g4.same gs) .nil)))
theorem yH {C f fIn fE fWd:Addr}{fd:FuncData}{wd:Str}(R:xB K C fIn f fE fWd)(hb:Binds K fd ["self"] [])(G:zy P w K mg base CX0 2 f fd ["self"] (gK C wd)):xK P w K mg base C "told" 2 (mz C wd):=by
 refine⟨f,fd,_,R.cl,R.told,hb,G.imp fun vs H Q E h=>?_⟩
 obtain⟨F,as,Q',rfl,t,o,rv,⟨a,b,v,rfl,q⟩,kk⟩:=h
 obtain⟨x,rfl,av⟩:=rv.one
 obtain⟨p,dx,fs,rfl,h1,h2⟩:=av.ins_inv
 cases h2 with
 |cons g1 h2=>
  cases h2 with
  |cons g2 h2=>
   cases h2 with
   |cons g3 h2=>
    cases h2
    refine⟨p,dx,_,_,_,rfl,by rw[qw];exact (zj h1).2,fun r hr=>kk _ _ _ q ⟨t.same (ym hr),Kz.of_same (ym hr),?_⟩⟩
    have gs:∀o':HO,zx (sub (fun x=>¬F.O0 x) F.H0) (sub (fun x=>¬F.O0 x) (upd F.H0 r o')):=fun o'=>zr fun a u h e=>⟨h,by rw[zd (zk e hr)];exact e⟩
    refine .tup (zR (fun z=>?_) zf) (.cons (.str _) (.cons (g1.same (gs _)) (.cons (g2.same (gs _)) (.cons (g3.same (gs _)) .nil))))
    obtain⟨u,hu,_⟩:=o r z
    rw[hr] at hu;cases hu
theorem ic :zo ["things","kept","number","thing","rule"] ["things"] (zb gk):=⟨rfl,rfl,rfl,by decide +kernel,rfl,by decide +kernel,by decide +kernel⟩
set_option maxHeartbeats 4000000 in
theorem gn {f:Addr}{fd:FuncData}(F:Fun K "kept_rules" "kept_rules" gk f fd)(hm:mg "kept_rules"=some (.ref f))(hb:Binds K fd ["things"] [])(nb:NbT mg)(gM:∃t,mg "MOST_RULES"=some (.int 24 t))(CRO:Cal P w K mg base "rule_of" 7 (tw cs)):Cal P w K mg base "kept_rules" 8 (oj cs):=by
 refine ph F hm hb ic (fun as Q h=>?_) (fun cdv A' outer s H E as Q hr h=>?_)
 ·obtain⟨ds,rfl,_⟩:=h
  rfl
 ·obtain⟨ds,rfl,rd,hl,q⟩:=h
  refine xW 1 ic.nd (wD (zD (⟨_,rfl,zr5 rfl,?_⟩)))
  refine vh (pat:=.many [2,3]) zu3 rfl (vp (n:=2) (K:=K) rfl rfl (xG (zY (i:=2) ic.nd rfl (Or.inl rfl)) (xG (zY (i:=3) ic.nd rfl (Or.inl rfl)) (uJ)))) (lA (by rfl) nb.enumerate (zi 0 rfl (⟨_,rfl,?_⟩)))
  refine yC (fun i α=>∃v2 v3 v4,α=[some (.dat (.list ds)),some (.own ((ds.take i).map (ur cs))),v2,v3,v4]) ⟨none,none,none,rfl⟩ ?_ ?_
  ·rintro i d α hd ⟨v2,v3,v4,rfl⟩
   obtain⟨e,he,rfl⟩:=wW hd
   obtain⟨r1,r2,r3⟩:=rd e (zs2 he)
   have hi:i<ds.length:=(zm8.mp he).1
   refine⟨_,rfl,?_⟩
   refine yF 4 ic.nd (rL CRO hr (by rfl) (zt (zi 3 rfl (zD (⟨_,rfl,r3,r2,fun z=>(by rw[r1] at z;cases z),fun _=>?_⟩)))))
   refine xu (xE (zi 4 rfl ?_))
   obtain⟨s',a,b,v,hs,rfl,ei⟩:=vk (cs:=cs) r1
   refine uG (fun h=>by rw[show (A.dat (ur cs (.tuple [.str s',a,b,v]))).d=tf (cs.of s') a b v from rfl] at h;cases h) (fun _=>zT ?_)
   refine xP 1 rfl (zi 4 rfl ⟨by rw[zm6,zs8];omega,?_⟩)
   refine zT ⟨some (.dat (.int ((0+i:Nat):Int))),some (.dat (.tuple [.str s',a,b,v])),some (.dat (ur cs (.tuple [.str s',a,b,v]))),?_⟩
   rw[zu8,he,zr9]
   rfl
  ·rintro α ⟨v2,v3,v4,rfl⟩
   rw[wU,zx0]
   refine xu (mR 1 rfl (bA (rS (by rfl) nb.len (zi 1 rfl ⟨_,rfl,iO (by rfl) gM ⟨_,_,rfl,rfl,?_⟩⟩))))
   refine hG (fun h=>?_) (fun _=>zT ?_)
   ·rw[zm6] at h
    omega
   ·exact vE 1 rfl q
theorem zl2 :zo ["self","rules"] ["self","rules"] (zb yQ):=⟨rfl,rfl,rfl,by decide +kernel,rfl,by decide +kernel,by decide +kernel⟩
theorem jF {w' v:PyData}(h:yx w' v=true):noL v=true:=by
 have wi:∀{lo hi:Int} {x:PyData},yo lo hi x=true→noL x=true:=fun {lo hi x} h=>by
  cases x with
  |int i=>rfl
  |_=>cases h
 have nn:∀{x:PyData},isNone x=true→noL x=true:=fun {x} h=>by
  cases x with
  |none=>rfl
  |_=>cases h
 unfold yx at h
 split at h
 ·rcases (zw2 _ _).mp h with h|h
  ·exact nn h
  ·exact wi h
 ·split at h
  ·cases v with
   |bool b=>rfl
   |_=>cases h
  ·split at h
   ·exact wi h
   ·split at h
    ·rcases (zw2 _ _).mp h with h|h
     ·exact nn h
     ·unfold sX at h
      split at h
      ·rw[zo6] at h
       simp only[noL,ux,wi h.2,Bool.and_self]
      ·cases h
    ·rw[zo6] at h
     exact wi h.2
theorem iF {s':Str}{a b v:PyData}(h:xI (.tuple [.str s',a,b,v])=true):noL a=true∧noL b=true∧noL v=true:=by
 have h':(ye (.tuple [a,b])&&yx (.str s') v)=true:=h
 rw[zo6] at h'
 refine⟨?_,?_,jF h'.2⟩
 ·have:=h'.1
  unfold ye sI at this
  split at this
  ·rename_i k e
   split at e
   ·rename_i z;cases z;rfl
   ·cases e
  ·cases this
 ·have:=h'.1
  unfold ye sI at this
  split at this
  ·rename_i k e
   split at e
   ·rename_i z;cases z;rfl
   ·cases e
  ·cases this
theorem qX {ds:List PyData}(rd:Rules ds):ux (ds.map (ur cs))=true:=by
 induction ds with
 |nil=>rfl
 |cons d r ih=>
  have ih':=ih fun x hx=>rd x (zn6 _ hx)
  have h1:=(rd d zo5).1
  obtain⟨s',a,b,v,hs,rfl,ei⟩:=vk (cs:=cs) h1
  obtain⟨z1,z2,z3⟩:=iF h1
  rw[zp8,ei]
  simp only[ux,ih',Bool.and_true]
  simp[tf,wy,noL,nk,z1,z2,z3]
theorem eI {f C:Addr}{dV:Value}{fd:FuncData}(F:aE K "__init__" "Book.__init__" yQ dV f fd)(c:Cls K C)(na:yq K C "kept")(CK:Cal P w K mg base "kept_rules" 8 (oj cs)):zy P w K mg base CX0 9 f fd ["self","rules"] (spI C (sj C cs)):=by
 refine zf7 (N:=[]) F zl2 c na rfl (fun as Q h=>?_) (fun cdv A' outer s H E as Q hr h=>?_) (fun _ _ _ _ _ _=>rfl) (Or.inl rfl)
 ·obtain⟨ds,h|⟨h,_⟩,_⟩:=h<;>rw[h]<;>rfl
 ·obtain⟨ds,h|⟨h,hz⟩,rd,hl,q⟩:=h
  ·subst h
   exact ve CK hr (by rfl) (zt (me (xE (zi 1 rfl (uw (zi 1 rfl (zD ⟨_,rfl,rd,hl,_,rfl,qX rd,q⟩)))))))
  ·subst h hz
   exact ve CK hr (by rfl) (zt (me (xE (zi 1 rfl (vS (EvL.d (wD (zD ⟨_,rfl,zr5 rfl,zD ⟨[],rfl,rd,hl,_,rfl,qX rd,q⟩⟩))))))))
theorem zl5 :zo ["self"] ["self"] (zb wO):=⟨rfl,rfl,rfl,by decide +kernel,rfl,by decide +kernel,by decide +kernel⟩
theorem ze8 :zI ["self"] (zb wO) ["rule"] [none] jY:=⟨rfl,by decide +kernel,by decide +kernel,by decide +kernel,by decide +kernel,rfl,by decide +kernel⟩
set_option maxHeartbeats 4000000 in
theorem jc {f C:Addr}{fd:FuncData}(F:Fun K "rules" "Book.rules" wO f fd)(c:Cls K C)(na:yq K C "kept")(hb:Binds K fd ["self"] [])(O:∀w'∈words,xK P w K mg base (cs.of w') "told" 2 (mz (cs.of w') w')):zy P w K mg base CX0 3 f fd ["self"] (spA (uI C cs)):=by
 refine fnA F zl5 (fun as Q h=>?_) (fun cdv A' outer s H E as Q hr h=>?_)
 ·obtain⟨ds,rfl,_⟩:=h
  rfl
 ·obtain⟨ds,rfl,rd,hl,q⟩:=h
  refine rR (fV (pat:=.one 0) rfl ze8 rfl (fun _ _ _ _=>zY (i:=0) ze8.nd rfl (Or.inl rfl)) (wL (mf c na (zi 0 rfl ⟨_,_,rfl,rfl,⟨_,rfl,by rw[zm6];exact hl,?comp⟩⟩))))
  case comp=>
   refine ko (fun i acc=>acc=ds.take i) rfl ?_ (fun acc h=>?_)
   ·rintro i d acc hd rfl
    rw[zo0,zp0] at hd
    obtain⟨e,he,rfl⟩:=hd
    obtain⟨s',a,b,v,hs,rfl,ei⟩:=vk (cs:=cs) (rd e (zs2 he)).1
    refine⟨_,rfl,fun C s2 H2 fp=>nA ?_⟩
    rw[if_pos rfl]
    refine fun C s2 H2 fp=>uN (O s' hs) hr (zi 0 rfl ⟨_,rfl,rfl,_,_,_,rfl,?_⟩)
    show ds.take i++[_]=ds.take (i+1)
    rw[zu8,he]
    rfl
   ·rw[zm6,zx0] at h
    rw[h]
    exact q
end
abbrev qG :Stmt:=inClass (top 42) 2
abbrev nR :Stmt:=top 33
def tbU :List (Str×V):=[("price",.non),("come",.bl true),("go",.bl true),("least",.int 1),("most",.int 14),("deal",.non),("fee",.int 0)]
def kG (x:Str):PyData:=if x="price"∨x="deal" then .none else if x="come"∨x="go" then .bool true else if x="least" then .int 1 else if x="most" then .int 14 else .int 0
theorem zb4 {x:Str}(h:x∈words):∃v,tbU.lookup x=some v∧scV (kG x)=some v:=by
 simp only[words,zn2,zo4,zq6] at h
 rcases h with rfl|rfl|rfl|rfl|rfl|rfl|rfl
 ·exact⟨.non,by decide +kernel,by decide +kernel⟩
 ·exact⟨.bl true,by decide +kernel,by decide +kernel⟩
 ·exact⟨.bl true,by decide +kernel,by decide +kernel⟩
 ·exact⟨.int 1,by decide +kernel,by decide +kernel⟩
 ·exact⟨.int 14,by decide +kernel,by decide +kernel⟩
 ·exact⟨.non,by decide +kernel,by decide +kernel⟩
 ·exact⟨.int 0,by decide +kernel,by decide +kernel⟩
def pj (w:Str)(day:Int):PyData→Bool
 |.tuple [.str x,.int a,.int b,_]=>decide (x=w)&&(decide (a≤day)&&decide (day≤b))
 |_=>false
def uB :PyData→PyData
 |.tuple [_,_,_,v]=>v
 |_=>.none
def zB (ds:List PyData)(w:Str)(day:Int):PyData:=match ds.reverse.find? (pj w day) with
 |some d=>uB d
 |none=>kG w
theorem nH (w:Str)(day:Int):zB [] w day=kG w:=rfl
theorem wt (ds:List PyData)(d:PyData)(w:Str)(day:Int):zB (ds++[d]) w day=if pj w day d=true then uB d else zB ds w day:=by
 unfold zB
 rw[List.reverse_append,List.reverse_singleton,List.singleton_append,zr8]
 cases pj w day d<;>simp
theorem uQ {p:PyData→Bool}{e:PyData}:∀{l:List PyData} {i:Nat},(∀j<i,∀d,l[j]?=some d→p d=false)→l[i]?=some e→p e=true→l.find? p=some e
 |[],i,_,h,_=>by simp at h
 |d::l,0,_,h,q=>by
  simp at h;subst h
  simp[zr8,q]
 |d::l,i+1,a,h,q=>by
  have hd:=a 0 (Nat.succ_pos _) d rfl
  rw[zr8,hd]
  exact uQ (i:=i) (fun j hj x hx=>a (j+1) (Nat.succ_lt_succ hj) x (by simpa using hx)) (by simpa using h) q
theorem cL {p:PyData→Bool}{l:List PyData}(h:∀(j:Nat) d,l[j]?=some d→p d=false):l.find? p=none:=by
 rw[List.find?_eq_none]
 intro x hx
 obtain⟨j,hj⟩:=List.mem_iff_getElem?.mp hx
 rw[h j x hj];simp
theorem oB {d:PyData}(h:xI d=true):∃(s:Str) (i j:Int) (v:PyData),s∈words∧d=.tuple [.str s,.int i,.int j,v]∧0≤i∧i≤j∧j≤1000000∧yx (.str s) v=true:=by
 obtain⟨s,a,b,v,hs,rfl⟩:=xx h
 have h':(ye (.tuple [a,b])&&yx (.str s) v)=true:=h
 rw[zo6] at h'
 have h1:=h'.1
 unfold ye sI at h1
 split at h1
 ·rename_i k e
  split at e
  ·rename_i z
   cases z
   split at e
   ·rename_i q
    cases e
    rw[zo6] at q
    rename_i a' b'
    have qa:(decide (0≤a')&&decide (a'≤1000000))=true:=q.1
    have qb:(decide (0≤b')&&decide (b'≤1000000))=true:=q.2
    rw[zo6,zq4,zq4] at qa qb
    have h2:=of_decide_eq_true h1
    exact⟨s,a',b',v,hs,rfl,qa.1,by omega,qb.2,h'.2⟩
   ·cases e
  ·cases e
 ·cases h1
theorem jg (a b v:PyData):vM [(.str "first",a),(.str "last",b),(.str "worth",v)] "worth"=some v:=by
 show (if ("worth":Str)="first" then _ else _)=_
 rw[if_neg iN]
 show (if ("worth":Str)="last" then _ else _)=_
 rw[if_neg iq]
 show (if ("worth":Str)="worth" then _ else _)=_
 rw[if_pos rfl]
def rV :List A→(A→Prop)→Prop:=fun as Q=>∃x,as=[.dat (.str x)]∧x∈words∧Q (.dat (kG x))
def oF (C:Addr)(w:Str):List A→(A→Prop)→Prop:=fun as Q=>∃a b v,as=[.dat (tf C a b v)]∧Q (.dat (.str w))
def sx (C:Addr):List A→(A→Prop)→Prop:=fun as Q=>∃(a b day:Int) (v:PyData),as=[.dat (tf C (.int a) (.int b) v),.dat (.int day)]∧Q (.dat (.bool (decide (a≤day)&&decide (day≤b))))
def vw (C:Addr)(cs:Cs):List A→(A→Prop)→Prop:=fun as Q=>∃ds x day,as=[.dat (yt C cs ds),.dat (.str x),.dat (.int day)]∧Rules ds∧x∈words∧Q (.dat (zB ds x day))
section
variable {P:Program}{w:World}{K:PySem.W.Frag}{mg:Str→Option Value}{base:Heap}{cs:Cs}
theorem zk5 :zo ["word"] ["word"] (zb nR):=⟨rfl,rfl,rfl,by decide +kernel,rfl,by decide +kernel,by decide +kernel⟩
theorem jI {f dU:Addr}{fd:FuncData}(F:Fun K "usual" "usual" nR f fd)(hm:mg "usual"=some (.ref f))(hb:Binds K fd ["word"] [])(mU:mg "USUAL"=some (.ref dU))(DU:mL K w dU tbU):Cal P w K mg base "usual" 1 rV:=by
 refine ph F hm hb zk5 (fun as Q h=>?_) (fun cdv A' outer s H E as Q hr h=>?_)
 ·obtain⟨x,rfl,_⟩:=h
  rfl
 ·obtain⟨x,rfl,hx,q⟩:=h
  obtain⟨v,h1,h2⟩:=zb4 hx
  exact ud (gH (by rfl) mU DU (zi 0 rfl ⟨x,kG x,v,rfl,h1,h2,q⟩))
theorem yJ {C f fIn fT fE:Addr}{fd:FuncData}{wd:Str}(R:xB K C fIn fT fE f)(hb:Binds K fd ["self"] [])(G:zy P w K mg base CX0 1 f fd ["self"] (xQ wd)):xK P w K mg base C "word" 1 (oF C wd):=by
 refine⟨f,fd,_,R.cl,R.word,hb,G.imp fun vs H Q E h=>?_⟩
 obtain⟨F,as,Q',rfl,t,o,rv,⟨a,b,v,rfl,q⟩,kk⟩:=h
 obtain⟨x,rfl,av⟩:=rv.one
 obtain⟨p,dx,fs,rfl,h1,h2⟩:=av.ins_inv
 exact⟨p,rfl,kk _ _ _ q ⟨t,Kz.refl,.str _⟩⟩
theorem yk {C f fIn fT fWd:Addr}{fd:FuncData}(R:xB K C fIn fT f fWd)(hb:Binds K fd ["self","day"] [])(G:zy P w K mg base CX0 1 f fd ["self","day"] (lV C)):xK P w K mg base C "tells" 1 (sx C):=by
 refine⟨f,fd,_,R.cl,R.tells,hb,G.imp fun vs H Q E h=>?_⟩
 obtain⟨F,as,Q',rfl,t,o,rv,⟨a,b,day,v,rfl,q⟩,kk⟩:=h
 obtain⟨x,y,rfl,av,ay⟩:=rv.two
 cases ay.int_inv
 obtain⟨p,dx,fs,rfl,h1,h2⟩:=av.ins_inv
 cases h2 with
 |cons g1 h2=>
  cases h2 with
  |cons g2 h2=>
   cases h2 with
   |cons g3 h2=>
    cases h2
    cases g1.int_inv
    cases g2.int_inv
    exact⟨p,dx,a,b,day,_,rfl,by rw[qw];exact (zj h1).2,kk _ _ _ q ⟨t,Kz.refl,.bl _⟩⟩
theorem zf8 :zo ["self","word","day","rule"] ["self","word","day"] (zb qG):=⟨rfl,rfl,rfl,by decide +kernel,rfl,by decide +kernel,by decide +kernel⟩
set_option maxHeartbeats 4000000 in
theorem kN {f C:Addr}{fd:FuncData}(F:Fun K "tells_of" "Book.tells_of" qG f fd)(c:Cls K C)(na:yq K C "kept")(nb:NbT mg)(CU:Cal P w K mg base "usual" 1 rV)(OW:∀u∈words,xK P w K mg base (cs.of u) "word" 1 (oF (cs.of u) u))(OR:∀u∈words,xK P w K mg base (cs.of u) "tells" 1 (sx (cs.of u)))
  (OC:∀u∈words,Cls K (cs.of u)∧yq K (cs.of u) "worth"):zy P w K mg base CX0 2 f fd ["self","word","day"] (spA (vw C cs)):=by
 refine fnA F zf8 (fun as Q h=>?_) (fun cdv A' outer s H E as Q hr h=>?_)
 ·obtain⟨ds,x,d,rfl,_⟩:=h
  rfl
 ·obtain⟨ds,x,day,rfl,rd,hx,q⟩:=h
  refine vh (pat:=.one 3) zu3 rfl (zY (i:=3) zf8.nd rfl (Or.inl rfl)) (bO (by rfl) nb.reversed (mf c na (zi 0 rfl ⟨_,_,rfl,rfl,⟨_,rfl,?_⟩⟩)))
  refine yC (fun i α=>(∃v3,α=[some (.dat (yt C cs ds)),some (.dat (.str x)),some (.dat (.int day)),v3])∧∀j<i,∀d,ds.reverse[j]?=some d→pj x day d=false) ⟨⟨none,rfl⟩,fun j hj=>absurd hj (Nat.not_lt_zero _)⟩ ?_ ?_
  ·rintro i d α hd ⟨⟨v3,rfl⟩,hno⟩
   rw[←List.map_reverse,zo0,zp0] at hd
   obtain⟨e,he,rfl⟩:=hd
   have hme:e∈ds:=List.mem_reverse.mp (zs2 he)
   obtain⟨u,a,b,v,hu,rfl,_,_,_,_⟩:=oB (rd e hme).1
   refine⟨_,rfl,?_⟩
   refine xu (EvW.t (dD (fun _ k=>bK (uN (OW u hu) hr (zi 3 rfl ⟨_,rfl,rfl,_,_,_,rfl,zi 1 rfl ⟨_,_,rfl,rfl,k⟩⟩)))
    (fun hp _ k=>mD (wF (wV (OR u hu) hr (zi 3 rfl ⟨_,rfl,rfl,zt (zi 2 rfl (zD ⟨_,_,_,_,rfl,_,rfl,k⟩))⟩)))) ?_))
   refine uG (fun h=>?_) (fun h=>?_)
   ·refine ud (mf (OC u hu).1 (OC u hu).2 (zi 3 rfl ⟨_,_,rfl,jg _ _ _,?_⟩))
    have e1:ds.reverse.find? (pj x day)=some (.tuple [.str u,.int a,.int b,v]):=uQ hno he h
    unfold zB at q
    rw[e1] at q
    exact q
   ·refine zT (zT ⟨⟨_,rfl⟩,fun j hj d' hd'=>?_⟩)
    rcases zv4 j i with z|z
    ·exact hno j z d' hd'
    ·have:j=i:=by omega
     subst this
     rw[he] at hd';cases hd'
     exact h
  ·rintro α ⟨⟨v3,rfl⟩,hno⟩
   refine ud (rL CU (hr.mono (by decide)) (by rfl) (zt (zi 1 rfl (zD ⟨x,rfl,hx,?_⟩))))
   have e1:ds.reverse.find? (pj x day)=none:=cL fun j d hd=>hno j (by
    have:=(zm8.mp hd).1
    rw[zx3,zm6]
    rwa [zx3] at this) d hd
   unfold zB at q
   rw[e1] at q
   exact q
end
theorem wz (d:PyData):yx (.str "price") d=(isNone d||sk d):=by unfold yx;rw[if_pos (by decide +kernel)]
theorem within_int {lo hi i:Int}(h1:lo≤i)(h2:i≤hi):yo lo hi (.int i)=true:=by
 show (decide (lo≤i)&&decide (i≤hi))=true
 rw[zp7 h1,zp7 h2]<;>rfl
theorem tG {i:Int}(h0:-2000000000000≤i)(h1:i≤2000000000000):yp 2000 (.int i):=yp.int (by unfold big;omega) (by unfold big;omega)
structure vo (d:PyData):Prop where
 rule:xI d=true
 nice:yp 20011 d
 dep:d.depth≤2
 wn:yp 5000 (uB d)
def yu (ds:List PyData):Prop:=∀d∈ds,vo d
theorem jB {s:Str}(h:s∈words):yp 2000 (.str s):=by
 simp only[words,zn2,zo4,zq6] at h
 rcases h with rfl|rfl|rfl|rfl|rfl|rfl|rfl<;>exact⟨rfl,rfl,zo3 _,by decide +kernel,by decide +kernel⟩
theorem vo.of {s:Str}{i j:Int}{d:PyData}(hs:s∈words)(i0:0≤i)(ij:i≤j)(j1:j≤1000000)(hw:yx (.str s) d=true)(hn:yp 5000 d)(hd:d.depth≤1):vo (.tuple [.str s,.int i,.int j,d]):=by
 have hbig:(1000001:Int)<big:=by decide
 have hneg:-big<(0:Int):=by decide
 have na:yw 5000 [.str s,.int i,.int j,d]:=by
  constructor
  ·intro x hx
   simp only[zn2,zo4,zq6] at hx
   rcases hx with rfl|rfl|rfl|rfl
   ·exact (jB hs).mono (by decide)
   ·exact (yp.int (by omega) (by omega)).mono (by decide)
   ·exact (yp.int (by omega) (by omega)).mono (by decide)
   ·exact hn
  ·intro x hx
   simp only[zn2,zo4,zq6] at hx
   rcases hx with rfl|rfl|rfl|rfl
   ·exact zo3 _
   ·exact zo3 _
   ·exact zo3 _
   ·omega
 refine⟨?_,yp.tuple na (by show 4*(5000+2)+3≤20011;decide),?_,hn⟩
 ·show (ye (.tuple [.int i,.int j])&&yx (.str s) d)=true
  rw[hw,Bool.and_true]
  unfold ye sI
  have h1:(vJ (.int i)&&vJ (.int j))=true:=by
   show ((decide (0≤i)&&decide (i≤1000000))&&(decide (0≤j)&&decide (j≤1000000)))=true
   simp only[zo6,zq4]
   omega
  simp only[h1,if_true,zq4]
  omega
 ·simp only[PyData.depth,PyData.depthAll]
  omega
theorem yu.rules {ds:List PyData}(h:yu ds):Rules ds:=fun d hd=>⟨(h d hd).rule,(h d hd).nice.shaped,(h d hd).nice.nod⟩
theorem yu.nice {ds:List PyData}(h:yu ds)(hl:ds.length≤100):yp sizeLine (.list ds):=by
 refine yp.list (n:=20011) ⟨fun d hd=>(h d hd).nice,fun d hd=>by have:=(h d hd).dep;omega⟩ ?_
 have h2:ds.length*(20011+2)≤100*(20011+2):=Nat.mul_le_mul_right _ hl
 have h3:100*(20011+2)+2≤sizeLine:=by decide
 omega
abbrev qj :Stmt:=top 9
def sy :List A→(A→Prop)→Prop:=fun as Q=>∃c g:Int,as=[.dat (.tuple [.int c,.int g])]∧-100≤c∧c<g∧g≤c+500∧c≤1000100∧Q (.own ((zw c (g-c).toNat).map .int))
section
variable {P:Program}{w:World}{K:PySem.W.Frag}{mg:Str→Option Value}{base:Heap}{cs:Cs}
theorem zk2 :zo ["stay"] ["stay"] (zb qj):=⟨rfl,rfl,rfl,by decide +kernel,rfl,by decide +kernel,by decide +kernel⟩
theorem my {f:Addr}{fd:FuncData}(F:Fun K "nights_of" "nights_of" qj f fd)(hm:mg "nights_of"=some (.ref f))(hb:Binds K fd ["stay"] [])(nb:NbT mg):Cal P w K mg base "nights_of" 1 sy:=by
 refine ph F hm hb zk2 (fun as Q h=>?_) (fun cdv A' outer s H E as Q hr h=>?_)
 ·obtain⟨c,g,rfl,_⟩:=h
  rfl
 ·obtain⟨c,g,rfl,h1,h2,h3,h4,q⟩:=h
  exact rR (iH rfl (by rfl) nb.list (by rfl) nb.range (wA (fun _ _=>rfl) (zi 0 rfl (yZ (⟨_,_,_,rfl,rfl,rfl,wA (fun _ _=>rfl) (zi 0 rfl (yZ (⟨_,_,_,rfl,rfl,rfl,⟨_,_,rfl,rfl,⟨by omega,by omega,by omega,by omega⟩,by omega,q⟩⟩)))⟩)))))
end
abbrev yA :Stmt:=top 18
def sN :Arguments×Scope:=match zv yA with
 |[.Return (some (.Call _ _ [⟨_,.Lambda ps _ sc _,_⟩] _)) _]=>(ps,sc)
 |_=>(zH yA,zb yA)
section
variable {P:Program}{w:World}{K:PySem.W.Frag}{mg:Str→Option Value}{base:Heap}
theorem cP :zo ["prices","places"] ["prices","places"] (zb yA):=⟨rfl,rfl,rfl,by decide +kernel,rfl,by decide +kernel,by decide +kernel⟩
theorem zg4 :xJ "place" "prices" sN.1 sN.2:=⟨rfl,rfl,rfl,rfl,rfl,by decide +kernel,by decide +kernel,by decide⟩
theorem zb3 {f c:Addr}{A':Around}{outer:List Env}{s:Shared}{H:Hp}{E:XK}{n1:Nat}{p1 p2 p3 p4 p5 p6:Pos}(hhd:PySem.W.codeHdIn K c yh=true)(KX:K.In base)(hbi:base.BuiltinsAt mg yh):
  il (yV CX0 P w K mg base ["prices","places"] "cheapest_first" (zb yA) f (.ref c) A' outer s H E).nox c "place" "prices" n1 p1 p2 p3 p4 p5 p6 sN.1 sN.2 where
 S:=zg4
 hy:=rfl
 hcl:=fun cl h=>by
  have e:sN.2.names=[(("prices":Str),NameKind.free),(("place":Str),NameKind.local)]∨sN.2.names=[(("place":Str),NameKind.local),(("prices":Str),NameKind.free)]:=by decide +kernel
  unfold closureFor
  rcases e with e|e<;>rw[e]<;>simp[cellOf,h]
 hgl:=rfl
 hco:=rfl
 hhd:=PySem.W.codeHd_of_K KX hhd
 hbi:=hbi
 hdf:=rfl
 hq:=rfl
 hne:=by decide
 hb:=fun u cl c' pm ctv=>rfl
 hdx:=by decide
 hdy:=by decide
 hcx:=by decide
 hcy:=by decide
def qH :List A→(A→Prop)→Prop:=fun as Q=>∃ns zs:List Int,as=[.dat (.list (zs.map .int)),.dat (.list (ns.map .int))]∧ns.length<64∧(∀n∈ns,0≤n∧n<zs.length)∧∀ms,qQ ns zs ms→Q (.own (ms.map .int))
theorem kO {f c:Addr}{oc:Value}{od an:Option Addr}{osl:Array (Option Value)}{kV doc pm ct:Value}(lk:K.lookup f=some ⟨oc,od,.func (PySem.W.fnOf "cheapest_first" "cheapest_first" (zH yA) (zv yA) (zb yA) .none kV doc pm an (.ref c) ct),osl⟩)(hcd:PySem.W.codeIn K (.ref c) "cheapest_first"=true)(kp:PySem.W.keepIn K (.ref f)=true)
  (hm:mg "cheapest_first"=some (.ref f)) (hb:Binds K (PySem.W.fnOf "cheapest_first" "cheapest_first" (zH yA) (zv yA) (zb yA) .none kV doc pm an (.ref c) ct) ["prices","places"] []) (nb:NbT mg) (hhd:PySem.W.codeHdIn K c yh=true) (KX:K.In base) (hbi:base.BuiltinsAt mg yh):Cal P w K mg base "cheapest_first" 3 qH:=by
 refine⟨f,_,_,hm,kp,hb,zj4 lk hcd cP (fun as Q h=>by obtain⟨ns,zs,rfl,_⟩:=h;rfl) fun A' outer s H E as Q hr h=>?_⟩
 obtain⟨ns,zs,rfl,h64,hin,q⟩:=h
 exact rR (oR (j:=0) (k:=0) (zb3 hhd KX hbi) hr (by rfl) nb.sorted rfl (zi 1 rfl ⟨ns,zs,rfl,rfl,h64,hin,fun ms sm=>q ms sm⟩))
end
abbrev wK :Stmt:=top 19
def zd6 :Scope:=match zv wK with
 |.Assign _ (.ListComp _ _ sc _) _::_=>sc
 |_=>zb wK
def tR :List A→(A→Prop)→Prop:=fun as Q=>∃(zs:List Int) (d:PyData),as=[.dat (.list (zs.map .int)),.dat d]∧zs.length≤500∧
 ((d=.none∧Q (.own ((List.replicate zs.length false).map .bool)))∨∃many free:Nat,d=.tuple [.int many,.int free]∧0<many∧many<64∧∀bs,qJ zs many free zs.length bs→Q (.own (bs.map .bool)))
theorem jO (ns:List Int):ux (ns.map .int)=true:=by
 induction ns with
 |nil=>rfl
 |cons n ns ih=>rw[zp8,ux,ih];rfl
section
variable {P:Program}{w:World}{K:PySem.W.Frag}{mg:Str→Option Value}{base:Heap}
theorem oS :zo ["prices","deal","marks","bundle","place","rank","other"] ["prices","deal"] (zb wK):=⟨rfl,rfl,rfl,by decide +kernel,rfl,by decide +kernel,by decide +kernel⟩
theorem zd3 :zI ["prices","deal","marks","bundle","place","rank","other"] (zb wK) ["price"] [none] zd6:=⟨rfl,by decide +kernel,by decide +kernel,by decide +kernel,by decide +kernel,rfl,by decide +kernel⟩
set_option maxHeartbeats 4000000 in
theorem oQ {f:Addr}{fd:FuncData}(F:Fun K "marked" "marked" wK f fd)(hm:mg "marked"=some (.ref f))(hb:Binds K fd ["prices","deal"] [])(nb:NbT mg)(CC:Cal P w K mg base "cheapest_first" 3 qH):Cal P w K mg base "marked" 4 tR:=by
 refine ph F hm hb oS (fun as Q h=>?_) (fun cdv A' outer s H E as Q hr h=>?_)
 ·obtain⟨zs,d,rfl,_⟩:=h
  rfl
 ·obtain⟨zs,d,rfl,hlen,h⟩:=h
  refine zi9 2 (pat:=.one 0) oS.nd rfl zd3 rfl (fun _ _ _ _=>zY (i:=0) zd3.nd rfl (Or.inl rfl)) (wL (zi 0 rfl ⟨_,rfl,?_,?comp⟩))
  ·rw[zm6];omega
  refine tT (fun _=>true) (fun _=>.bool false) (fun d hd=>⟨_,rfl,fun _ _ _ _ _ k=>nA k,fun _ _ _ _ _ _ k=>bf k⟩) ?_
  have e0:([]:List PyData)++List.map (fun _=>PyData.bool false) (List.filter (fun _=>true) (List.map PyData.int zs))=(List.replicate zs.length false).map .bool:=by
   rw[zz8,gh,List.map_map,List.map_replicate]
   exact List.eq_replicate_iff.mpr ⟨by simp,by simp⟩
  rw[e0]
  rcases h with ⟨rfl,q⟩|⟨many,free,rfl,hp,hm64,q⟩
  ·refine xu (xE (zi 1 rfl ?_))
   exact vE 2 rfl q
  refine xu (xE (zi 1 rfl (zT ?_)))
  refine xW 3 oS.nd (wD (zD ⟨_,rfl,zo3 _,?_⟩))
  refine vh (pat:=.one 4) zu3 rfl (zY (i:=4) oS.nd rfl (Or.inl rfl)) (vL (by rfl) nb.range (rS (by rfl) nb.len (zi 0 rfl ⟨_,rfl,⟨_,rfl,by omega,by rw[zm6];omega,?_⟩⟩)))
  refine yC (fun i α=>∃(bs:List Bool) (o4 o5 o6:Option A),qJ zs many free i bs∧α=[some (.dat (.list (zs.map .int))),some (.dat (.tuple [.int many,.int free])),some (.own (bs.map .bool)),some (.own ((zw ((i / many*many:Nat):Int) (i % many)).map .int)),o4,o5,o6]) ?_ ?_ ?_
  ·refine⟨_,none,none,none,kY zs free,?_⟩
   rw[Nat.zero_mod,Nat.zero_div]
   rfl
  ·rintro i d α hd ⟨bs,o4,o5,o6,mk,rfl⟩
   have hi:i<zs.length:=by
    have:=(zm8.mp hd).1
    simpa[zh] using this
   obtain rfl:d=.int (i:Int):=by
    rw[zo0,yy (by simpa using hi)] at hd
    simpa using hd.symm
   refine⟨_,rfl,?_⟩
   have hmod:=Nat.mod_lt i hp
   refine xP 3 rfl (zi 4 rfl ⟨by rw[zm6,zh];omega,?_⟩)
   have eb:List.map PyData.int (zw ((i / many*many:Nat):Int) (i % many))++[PyData.int (i:Int)]=(zw ((i / many*many:Nat):Int) (i % many+1)).map .int:=by
    have e:=zx8 i many
    have e4:i / many*many=many*(i / many):=Nat.mul_comm _ _
    rw[pz,zr9]
    congr 1
    simp only[zp8,List.map_nil]
    congr 2
    omega
   rw[eb]
   refine xu (mR 3 rfl (aF (rS (by rfl) nb.len (zi 3 rfl ⟨_,rfl,wA (fun _ _=>rfl) (zi 1 rfl (yZ ⟨_,_,_,rfl,rfl,at0,_,_,rfl,rfl,?_⟩))⟩))))
   refine hG (fun hc=>?_) (fun hc=>zT ?_)
   ·have hfull:i % many+1=many:=by
     rw[zm6,zh] at hc
     omega
    rw[hfull]
    have hin:∀n∈zw ((i / many*many:Nat):Int) many,0≤n∧n<zs.length:=fun n hn=>by
     rw[yS] at hn
     have e:=zx8 i many
     have e4:i / many*many=many*(i / many):=Nat.mul_comm _ _
     omega
    refine vh (pat:=.many [5,6]) zu3 rfl (vp (n:=2) (K:=K) rfl rfl (xG (zY (i:=5) oS.nd rfl (Or.inl rfl)) (xG (zY (i:=6) oS.nd rfl (Or.inl rfl)) (uJ))))
     (lA (by rfl) nb.enumerate (EvL.d (cA 3 rfl (ve CC hr (by rfl) (zt (zi 0 rfl (zt (zi 3 rfl (zD ⟨_,zs,rfl,by rw[zh];exact hm64,hin,fun ms sm=>⟨_,rfl,jO ms,_,rfl,?_⟩⟩)))))))))
    have hml:ms.length=many:=by rw[sm.1.length_eq,zh]
    refine yC (fun r α=>∃(bs':List Bool) (p5 p6:Option A),(bs'.length=bs.length∧(∀q,q<r→bs'.getD (ms.getD q 0).toNat false=decide (q<free))∧∀j,(∀q,q<r→(ms.getD q 0).toNat≠j)→bs'.getD j false=bs.getD j false)∧
     α=[some (.dat (.list (zs.map .int))),some (.dat (.tuple [.int many,.int free])),some (.own (bs'.map .bool)),some (.own ((zw ((i / many*many:Nat):Int) many).map .int)),some (.dat (.int i)),p5,p6]) ?_ ?_ ?_
    ·exact⟨bs,o5,o6,⟨rfl,fun q h=>absurd h (Nat.not_lt_zero _),fun _ _=>rfl⟩,rfl⟩
    ·rintro r d α hd ⟨bs',p5,p6,⟨f0,f1,f2⟩,rfl⟩
     obtain⟨e,he,rfl⟩:=wW hd
     have hr':r<ms.length:=by
      have:=(zm8.mp he).1
      simpa using this
     obtain rfl:e=.int (ms.getD r 0):=by
      rw[zo0,zm9 hr'] at he
      rw[zn5,zm9 hr']
      simpa using he.symm
     refine⟨_,rfl,?_⟩
     have hmem:=vA sm (q:=r) (by omega)
     have hub:=hin (ms.getD r 0) (yS.mpr hmem)
     obtain⟨j,hj⟩:=zt6 hub.1
     rw[hj]
     have jl:j<bs'.length:=by rw[f0,mk.1];omega
     refine aN 2 rfl (ba (zi 5 rfl (wA (fun _ _=>rfl) (zi 1 rfl (yZ ⟨_,_,_,rfl,rfl,xV (j:=1) rfl,_,_,rfl,rfl,zi 6 rfl ⟨_,j,rfl,?_,zT ?_⟩⟩)))))
     ·unfold ixN
      rw[if_pos (by omega),if_pos (by rw[zm6];omega)]
      simp
     ·refine⟨bs'.set j (decide (r<free)),some (.dat (.int ((0+r:Nat):Int))),some (.dat (.int (j:Int))),⟨?_,fun q hq=>?_,fun l hl=>?_⟩,?_⟩
      ·rw[zq3,f0]
      ·by_cases hqr:q=r
       ·subst hqr
        rw[hj,zy5,zn5,zs4 jl]
        rfl
       ·have hne:(ms.getD q 0).toNat≠j:=fun z=>by
         have nd:ms.Nodup:=sm.1.nodup_iff.mpr (rk _ _)
         have a1:=(vA sm (q:=q) (by omega)).1
         have z2:ms.getD q 0=ms.getD r 0:=by rw[hj];omega
         rw[zn5,zn5,zm9 (by omega),zm9 hr'] at z2
         exact (List.pairwise_iff_getElem.mp nd q r (by omega) hr' (by omega)) z2
        rw[zn5,zp9 hne.symm,←zn5,f1 q (by omega)]
      ·have hne:j≠l:=fun z=>hl r (zw7 _) (by rw[hj];omega)
       rw[zn5,zp9 hne,←zn5,f2 l fun q hq=>hl q (by omega)]
      ·have ed:decide (((0+r:Nat):Int)<(free:Int))=decide (r<free):=by
        rw[decide_eq_decide];omega
       rw[ed,List.map_set]
       rfl
    ·rintro α ⟨bs',p5,p6,⟨f0,f1,f2⟩,rfl⟩
     refine xW 3 oS.nd (wD (zD ⟨_,rfl,zo3 _,zT ?_⟩))
     rw[wU,zm6,hml] at f1 f2
     refine zT ?_
     refine⟨bs',some (.dat (.int i)),p5,p6,js hp hfull mk sm f0 f1 f2,?_⟩
     rw[(pJ hp hfull).2.1]
     rfl
   ·have hmore:i % many+1<many:=by
     rw[zm6,zh] at hc
     omega
    refine zT ?_
    refine⟨bs,some (.dat (.int i)),o5,o6,jE hp hmore mk,?_⟩
    rw[(tM hp hmore).1,(tM hp hmore).2]
    rfl
  ·rintro α ⟨bs,o4,o5,o6,mk,rfl⟩
   have el:(List.map PyData.int (zw 0 ((List.map PyData.int zs).length:Int).toNat)).length=zs.length:=by simp[zh]
   rw[el] at mk
   exact vE 2 rfl (q bs mk)
end
abbrev sNP :Stmt:=top 20
abbrev wZ :Stmt:=top 21
def eZ :Scope:=match (zv wZ).getD 5 (.Pass ⟨0,0,0,0⟩) with
 |.Assign _ (.Call _ [.ListComp _ _ sc _] _ _) _=>sc
 |_=>zb wZ
def zh7 (C:Addr)(cs:Cs):List A→(A→Prop)→Prop:=fun as Q=>∃(ds:List PyData) (ns:List Int) (pr:Int→Int),as=[.dat (yt C cs ds),.dat (.list (ns.map .int))]∧Rules ds∧ns.length≤900∧(∀z∈ns,zB ds "price" z=.int (pr z))∧Q (.own ((ns.map pr).map .int))
def iL (C:Addr)(cs:Cs):List A→(A→Prop)→Prop:=fun as Q=>∃(ds:List PyData) (c g fee:Int) (pr:Int→Int),as=[.dat (yt C cs ds),.dat (.tuple [.int c,.int g])]∧Rules ds∧0≤c∧c<g∧g≤c+400∧c≤1000000∧(∀z,c≤z→z<g→zB ds "price" z=.int (pr z)∧0≤pr z∧pr z≤1000000000000)∧
 (zB ds "deal" c=.none∨∃many free:Nat,zB ds "deal" c=.tuple [.int many,.int free]∧0<many∧many<64)∧zB ds "fee" c=.int fee∧
 ∀bs,mZ (zB ds "deal" c) ((zw c (g-c).toNat).map pr) bs→Q (.dat (.tuple [.int ((xm ((zw c (g-c).toNat).map pr) bs).sum+fee),.list (xM ((zw c (g-c).toNat).map .int) (((zw c (g-c).toNat).map pr).map .int) (bs.map .bool)),.int fee]))
section
variable {P:Program}{w:World}{K:PySem.W.Frag}{mg:Str→Option Value}{base:Heap}{cs:Cs}
theorem cN :zo ["book","nights","prices","night","price"] ["book","nights"] (zb sNP):=⟨rfl,rfl,rfl,by decide +kernel,rfl,by decide +kernel,by decide +kernel⟩
set_option maxHeartbeats 4000000 in
theorem za0 {f C:Addr}{fd:FuncData}(F:Fun K "night_prices" "night_prices" sNP f fd)(hm:mg "night_prices"=some (.ref f))(hb:Binds K fd ["book","nights"] [])(MT:xK P w K mg base C "tells_of" 2 (vw C cs)):Cal P w K mg base "night_prices" 3 (zh7 C cs):=by
 refine ph F hm hb cN (fun as Q h=>?_) (fun cdv A' outer s H E as Q hr h=>?_)
 ·obtain⟨ds,ns,pr,rfl,_⟩:=h
  rfl
 ·obtain⟨ds,ns,pr,rfl,rd,hl,hp,q⟩:=h
  refine xW 2 cN.nd (wD (zD ⟨_,rfl,zo3 _,?_⟩))
  refine vh (pat:=.one 3) zu3 rfl (zY (i:=3) cN.nd rfl (Or.inl rfl)) (wL (zi 1 rfl ⟨_,rfl,?_⟩))
  refine yC (fun i α=>∃o3 o4:Option A,α=[some (.dat (yt C cs ds)),some (.dat (.list (ns.map .int))),some (.own (((ns.take i).map pr).map .int)),o3,o4]) ⟨none,none,rfl⟩ ?_ ?_
  ·rintro i d α hd ⟨o3,o4,rfl⟩
   rw[zo0,zp0] at hd
   obtain⟨z,hz,rfl⟩:=hd
   have hi:i<ns.length:=(zm8.mp hz).1
   have e:=hp z (zs2 hz)
   refine⟨_,rfl,?_⟩
   refine yF 4 cN.nd (wV MT hr (zi 0 rfl ⟨_,rfl,rfl,zt (uV (zt (zi 3 rfl (zD ⟨ds,_,_,rfl,rd,by simp[words],?_⟩))))⟩))
   show SvS _ (List.set _ _ (some (.dat (zB ds "price" z)))) _ _
   rw[e]
   refine xu (xE (zi 4 rfl ?_))
   refine uG (fun h=>by cases h) (fun _=>zT ?_)
   refine xP 2 rfl (zi 4 rfl ⟨by rw[zm6,zm6,zs8];omega,zT ⟨some (.dat (.int z)),some (.dat (.int (pr z))),?_⟩⟩)
   rw[zu8,hz,zr9,zr9]
   rfl
  ·rintro α ⟨o3,o4,rfl⟩
   rw[zm6,zx0]
   exact vE 2 rfl q
theorem oU :zo ["book","stay","nights","prices","marks","fee","rows","paid"] ["book","stay"] (zb wZ):=⟨rfl,rfl,rfl,by decide +kernel,rfl,by decide +kernel,by decide +kernel⟩
theorem zi6 :zI ["book","stay","nights","prices","marks","fee","rows","paid"] (zb wZ) ["row"] [none] eZ:=⟨rfl,by decide +kernel,by decide +kernel,by decide +kernel,by decide +kernel,rfl,by decide +kernel⟩
set_option maxHeartbeats 4000000 in
theorem fB {f C:Addr}{fd:FuncData}(F:Fun K "bill" "bill" wZ f fd)(hm:mg "bill"=some (.ref f))(hb:Binds K fd ["book","stay"] [])(nb:NbT mg)(MT:xK P w K mg base C "tells_of" 2 (vw C cs))(CN:Cal P w K mg base "nights_of" 1 sy)(CP:Cal P w K mg base "night_prices" 3 (zh7 C cs))(CM:Cal P w K mg base "marked" 4 tR):
  Cal P w K mg base "bill" 5 (iL C cs):=by
 refine ph F hm hb oU (fun as Q h=>?_) (fun cdv A' outer s H E as Q hr h=>?_)
 ·obtain⟨ds,c,g,fee,pr,rfl,_⟩:=h
  rfl
 ·obtain⟨ds,c,g,fee,pr,rfl,rd,c0,cg,gl,c1,hpr,hdeal,hfee,q⟩:=h
  generalize hn:(g-c).toNat=n at q
  have hn0:0<n:=by omega
  have hn4:n≤400:=by omega
  refine yF 2 oU.nd (EvL.d (ve CN (hr.mono (by decide)) (by rfl) (zt (zi 1 rfl (zD ⟨c,g,rfl,by omega,cg,by omega,by omega,_,rfl,?_⟩)))))
  rw[hn]
  refine yF 3 oU.nd (EvL.d (ve CP (hr.mono (by decide)) (by rfl) (zt (zi 0 rfl (zt (zi 2 rfl (zD ⟨ds,zw c n,pr,rfl,rd,by rw[zh];omega,fun z hz=>(hpr z (yS.mp hz).1 (by have:=(yS.mp hz).2;omega)).1,_,rfl,?_⟩)))))))
  have lz:((zw c n).map pr).length=n:=by rw[zm6,zh]
  refine yF 4 oU.nd (EvL.d (ve CM hr (by rfl) (zt (zi 3 rfl (zt (wV MT (hr.mono (by decide)) (zi 0 rfl ⟨_,rfl,rfl,zt (uV (zt (wA (fun _ _=>rfl) (zi 1 rfl (yZ ⟨_,_,_,rfl,rfl,at0,zD ⟨ds,_,_,rfl,rd,by simp[words],zD ⟨_,_,rfl,by omega,?_⟩⟩⟩)))))⟩)))))))
  have key:∀bs,mZ (zB ds "deal" c) ((zw c n).map pr) bs→SvS (yV CX0 P w K mg base ["book","stay","nights","prices","marks","fee","rows","paid"] "bill" (zb wZ) f cdv A' outer s H E).nox
    [some (.dat (yt C cs ds)),some (.dat (.tuple [.int c,.int g])),some (.dat (.list ((zw c n).map .int))),some (.dat (.list (((zw c n).map pr).map .int))),some (.dat (.list (bs.map .bool))),none,none,none] ((zv wZ).drop 3) {nx:=fun _=>Q (.dat .none),rt:=Q}:=by
   intro bs mk
   have lb:=mk.len
   refine yF 5 oU.nd (wV MT (hr.mono (by decide)) (zi 0 rfl ⟨_,rfl,rfl,zt (uV (zt (wA (fun _ _=>rfl) (zi 1 rfl (yZ ⟨_,_,_,rfl,rfl,at0,zD ⟨ds,_,_,rfl,rd,by simp[words],?_⟩⟩)))))⟩))
   show SvS _ (List.set _ _ (some (.dat (zB ds "fee" c)))) _ _
   rw[hfee]
   refine yF 6 oU.nd (EvL.d (pO rfl (by rfl) nb.list (by rfl) nb.zip (zt (zi 2 rfl (zt (zi 3 rfl (zt (zi 4 rfl (zD ⟨_,_,_,rfl,?_,?_,?_,?_,?_⟩)))))))))
   ·rw[zm6,zm6,zm6]
   ·rw[zm6,zm6,lb,lz,zh]
   ·rw[zm6,zh];omega
   ·rw[zm6,zh];omega
   have pm:∀z∈xm ((zw c n).map pr) bs,0≤z∧z≤1000000000000:=fun z hz=>by
    obtain⟨y,hy,rfl⟩:=List.mem_map.mp (vR hz)
    have hy:=yS.mp hy
    exact (hpr y hy.1 (by omega)).2
   refine yF 7 oU.nd (dZ rfl (by rfl) nb.sum (EvL.d (fV (pat:=.one 0) rfl zi6 rfl (fun _ _ _ _=>zY (i:=0) zi6.nd rfl (Or.inl rfl)) (wL (zi 6 rfl ⟨_,rfl,?_,?comp⟩)))))
   ·rw[vQ (by rw[zm6,zm6,zm6]) (by rw[zm6,zm6,lb,lz,zh]),zm6,zh];omega
   refine tT (fun d=>!uC d) (aw 1) (fun d hd=>?_) ?_
   ·obtain⟨j,hj⟩:=List.mem_iff_getElem?.mp hd
    obtain⟨x,y,z,e1,e2,e3,rfl⟩:=vT hj
    rw[zo0,zp0] at e3
    obtain⟨b,_,rfl⟩:=e3
    exact⟨_,rfl,fun _ _ _ _ _ k=>ak (tS (wF (wA (fun _ _=>rfl) (zi 0 rfl (yZ ⟨_,_,_,rfl,rfl,xV (j:=2) rfl,⟨_,rfl,k⟩⟩))))),fun _ _ _ _ _ _ k=>wA (fun _ _=>rfl) (zi 0 rfl (yZ ⟨_,_,_,rfl,rfl,xV (j:=1) rfl,k⟩))⟩
   ·rw[zz8,uM (by rw[lz,zm6,zh]) (by rw[lb,lz,zm6,zh])]
    refine⟨_,rfl,fun z hz=>by have:=pm z hz;omega,md pm (zr2 (rE _ _) (by omega)),?_⟩
    exact ud (oO (zt (fe (zi 7 rfl (zi 5 rfl ⟨_,_,rfl,rfl,zt (zi 6 rfl (zt (zi 5 rfl (zD ⟨_,rfl,zr5 rfl,q bs mk⟩))))⟩)))))
  rcases hdeal with hd|⟨many,free,hd,m0,m64⟩
  ·exact .inl ⟨hd,⟨_,rfl,key _ (.inl ⟨hd,rfl⟩)⟩⟩
  ·exact .inr ⟨many,free,hd,m0,m64,fun bs mk=>⟨_,rfl,key bs (.inr ⟨many,free,hd,mk⟩)⟩⟩
end
abbrev vX :Stmt:=inClass (top 13) 0
theorem zd9 :zo ["self","night"] ["self","night"] (zb vX):=⟨rfl,rfl,rfl,by decide +kernel,rfl,by decide +kernel,by decide +kernel⟩
theorem zb7 {P:Program}{w:World}{K:PySem.W.Frag}{mg:Str→Option Value}{base:Heap}{f C S:Addr}{fd:FuncData}(F:Fun K "__init__" "NotSold.__init__" vX f fd)(hb:Binds K fd ["self","night"] [])(hm:mg "NotSold"=some (.ref C))(hS:mg "StayError"=some (.ref S))(kp:PySem.W.keepIn K (.ref C)=true)(hf:PySem.W.typeIn K (.ref f)=some (.type "function"))(xs:XS K S)(xc:XC K C S (some (.ref f)))(hn:PySem.W.findIn K (.ref C) "night"=some none):XMk P w K mg base "NotSold" 1 C "night":=
 ⟨hm,kp,S,f,fd,_,xc.ok,hf,hb,eg F zd9 rfl rfl hS xs xc hn (by decide +kernel) (by decide +kernel) (fun _=>rfl) (Or.inl rfl) (Or.inl rfl)⟩
def nsX (CN:Addr)(z:Int):PyData:=xD CN [(.str "night",.int z)]
def bj (C:Addr)(cs:Cs)(CN:Addr):List A→(A→Prop)→(PyData→Prop)→Prop:=fun as _ q=>∃(ds:List PyData) (pre post:List Int) (z:Int) (pr:Int→Int),as=[.dat (yt C cs ds),.dat (.list ((pre++z::post).map .int))]∧Rules ds∧pre.length≤900∧(∀y∈pre,zB ds "price" y=.int (pr y))∧zB ds "price" z=.none∧z.natAbs.log2<1920∧q (nsX CN z)
def lW (C:Addr)(cs:Cs)(CN:Addr):List A→(A→Prop)→(PyData→Prop)→Prop:=fun as _ q=>∃(ds:List PyData) (c g z:Int) (pr:Int→Int),as=[.dat (yt C cs ds),.dat (.tuple [.int c,.int g])]∧Rules ds∧0≤c∧c≤z∧z<g∧g≤c+400∧c≤1000000∧(∀y,c≤y→y<z→zB ds "price" y=.int (pr y))∧zB ds "price" z=.none∧q (nsX CN z)
theorem jS {c z:Int}{n:Nat}(h0:c≤z)(h1:z<c+n):zw c n=zw c (z-c).toNat++z::zw (z+1) (c+n-z-1).toNat:=by
 refine List.ext_getElem? fun i=>?_
 by_cases h:i<(z-c).toNat
 ·rw[zq5 (by rw[zh];exact h),yy h,yy (by omega)]
 ·rw[zr0 (by rw[zh];omega),zh]
  by_cases h2:i<n
  ·rw[yy h2]
   obtain⟨k,hk⟩:∃k,i-(z-c).toNat=k:=⟨_,rfl⟩
   rw[hk]
   cases k with
   |zero=>rw[List.getElem?_cons_zero];congr 1;omega
   |succ k=>rw[zv7,yy (by omega)];congr 1;omega
  ·rw[zz3 (by rw[zh];omega),zz3 (by rw[zn7,zh];omega)]
section
variable {P:Program}{w:World}{K:PySem.W.Frag}{mg:Str→Option Value}{base:Heap}{cs:Cs}
theorem bt :zo ((["book","nights","prices","night","price"]:List Str)++[("":Str)]) ["book","nights"] (zb sNP):=⟨rfl,rfl,rfl,by decide +kernel,rfl,by decide +kernel,by decide +kernel⟩
theorem cj {f C CN:Addr}{fd:FuncData}(F:Fun K "night_prices" "night_prices" sNP f fd)(hm:mg "night_prices"=some (.ref f))(hb:Binds K fd ["book","nights"] [])(MT:xK P w K mg base C "tells_of" 2 (vw C cs))(XN:XMk P w K mg base "NotSold" 1 CN "night"):nF P w K mg base "night_prices" 3 (bj C cs CN):=by
 refine zg2 F hm hb bt (by decide) (fun as Q q h=>?_) (fun cdv A' outer s H E as Q q r xe hr h xo=>?_)
 ·obtain⟨ds,pre,post,z,pr,rfl,_⟩:=h
  rfl
 ·obtain⟨ds,pre,post,z,pr,rfl,rd,hl,hp,hz,zs,qz⟩:=h
  have nd:=bt.nd
  generalize hns:pre++z::post=ns
  refine xW 2 nd (wD (zD ⟨_,rfl,zo3 _,?_⟩))
  refine vh (pat:=.one 3) xo.own rfl (zY (i:=3) nd rfl (Or.inl rfl)) (wL (zi 1 rfl ⟨_,rfl,?_⟩))
  refine yC (fun i α=>i≤pre.length∧∃o3 o4:Option A,α=[some (.dat (yt C cs ds)),some (.dat (.list (ns.map .int))),some (.own (((ns.take i).map pr).map .int)),o3,o4,some (.exc r fun _=>True)]∧noE [o3,o4]=true) ⟨zo3 _,none,none,rfl,rfl⟩ ?_ ?_
  ·rintro i d α hd ⟨ip,o3,o4,rfl,ne⟩
   rw[zo0,zp0] at hd
   obtain⟨y,hy,rfl⟩:=hd
   have hi:i<ns.length:=(zm8.mp hy).1
   refine⟨_,rfl,?_⟩
   refine yF 4 nd (wV MT hr (zi 0 rfl ⟨_,rfl,rfl,zt (uV (zt (zi 3 rfl (zD ⟨ds,_,_,rfl,rd,by simp[words],?_⟩))))⟩))
   show SvS _ (List.set _ _ (some (.dat (zB ds "price" y)))) _ _
   by_cases ie:i<pre.length
   ·have e:zB ds "price" y=.int (pr y):=by
     refine hp y ?_
     rw[←hns,zq5 ie] at hy
     exact zs2 hy
    rw[e]
    refine xu (xE (zi 4 rfl ?_))
    refine uG (fun h=>by cases h) (fun _=>zT ?_)
    refine xP 2 rfl (zi 4 rfl ⟨by rw[zm6,zm6,zs8];omega,zT ⟨by omega,some (.dat (.int y)),some (.dat (.int (pr y))),?_,rfl⟩⟩)
    rw[zu8,hy,zr9,zr9]
    rfl
   ·have e:i=pre.length:=by omega
    subst e
    rw[←hns,zr0 (zn0 _),Nat.sub_self] at hy
    cases hy
    rw[hz]
    refine xu (xE (zi 4 rfl ?_))
    refine vv rfl ?_
    refine kn (j:=5) xo rfl XN hr (by rfl) rfl (leX.nil rfl) (zi 3 rfl ⟨_,rfl,zs,qz⟩)
  ·rintro α ⟨ip,o3,o4,rfl,ne⟩
   rw[zm6,←hns,zq1,zn7] at ip
   omega
theorem cZ :zo ((["book","stay","nights","prices","marks","fee","rows","paid"]:List Str)++[("":Str)]) ["book","stay"] (zb wZ):=⟨rfl,rfl,rfl,by decide +kernel,rfl,by decide +kernel,by decide +kernel⟩
theorem km {z:Int}(h0:0≤z)(h1:z≤2000000):z.natAbs.log2<1920:=by
 have:z.natAbs.log2<64:=by
  by_cases e:z.natAbs=0
  ·rw[e];decide
  ·exact (Nat.log2_lt e).mpr (by omega)
 omega
theorem jA {f C CN:Addr}{fd:FuncData}(F:Fun K "bill" "bill" wZ f fd)(hm:mg "bill"=some (.ref f))(hb:Binds K fd ["book","stay"] [])(CNi:Cal P w K mg base "nights_of" 1 sy)(CP:nF P w K mg base "night_prices" 3 (bj C cs CN)):nF P w K mg base "bill" 5 (lW C cs CN):=by
 refine zg2 F hm hb cZ (by decide) (fun as Q q h=>?_) (fun cdv A' outer s H E as Q q r xe hr h xo=>?_)
 ·obtain⟨ds,c,g,z,pr,rfl,_⟩:=h
  rfl
 ·obtain⟨ds,c,g,z,pr,rfl,rd,c0,cz,zg,gl,c1,hpr,hz,qz⟩:=h
  have nd:=cZ.nd
  refine yF 2 nd (EvL.d (ve CNi (hr.mono (by decide)) (by rfl) (zt (zi 1 rfl (zD ⟨c,g,rfl,by omega,by omega,by omega,by omega,_,rfl,?_⟩)))))
  have eu:zw c (g-c).toNat=zw c (z-c).toNat++z::zw (z+1) (c+((g-c).toNat:Int)-z-1).toNat:=jS cz (by omega)
  refine yF 3 nd (EvL.d (cy (j:=8) xo rfl (leX.nil rfl) CP (hr.mono (by decide)) (by rfl) (zt (zi 0 rfl (zt (zi 2 rfl (zD ⟨ds,zw c (z-c).toNat,_,z,pr,by rw[←eu]<;>rfl,rd,by rw[zh];omega,fun y hy=>hpr y (yS.mp hy).1 (by have:=(yS.mp hy).2;omega),hz,km (by omega) (by omega),qz⟩)))))))
end
end K33
set_option compiler.extract_closed false
set_option hygiene false in
local macro_rules
 |`(tactic| exists $f,$a)=>`(tactic| first|refine $f 0 $a ?_|refine $f 1 $a ?_|refine $f 2 $a ?_|refine $f 3 $a ?_|refine $f 4 $a ?_|refine $f 5 $a ?_|refine $f 6 $a ?_|refine $f 7 $a ?_|refine $f 8 $a ?_|refine $f 9 $a ?_|refine $f 10 $a ?_|refine $f 11 $a ?_|refine $f 12 $a ?_|refine $f 13 $a ?_|refine $f 14 $a ?_|refine $f 15 $a ?_|refine $f 16 $a ?_|refine $f 17 $a ?_)
set_option hygiene false in
local macro_rules
 |`(tactic| and_intros)=>`(tactic| repeat (first
  |((with_reducible show EvD _ _ _ _);first
   |((with_reducible show EvD _ _ (.Name _ _) _);exists zi,rfl)
   |((with_reducible show EvD _ _ (.Constant _ _ _) _);first|with_reducible refine yZ ?_|with_reducible refine uV ?_|with_reducible refine bf ?_|with_reducible refine oH ?_)
   |((with_reducible show EvD _ _ (.BinOp (.Constant (.int 10) _ _) .Pow (.Constant (.int 6) _ _) _) _);refine qq (r:=1000000) ⟨by decide,by decide,by decide⟩ (by decide) ?_)
   |((with_reducible show EvD _ _ (.BinOp (.Constant (.int 10) _ _) .Pow (.Constant (.int 12) _ _) _) _);refine qq (r:=1000000000000) ⟨by decide,by decide,by decide⟩ (by decide) ?_)
   |((with_reducible show EvD _ _ (.BinOp (.Constant (.int 10) _ _) .Pow (.Constant (.int 9) _ _) _) _);refine qq (r:=1000000000) ⟨by decide,by decide,by decide⟩ (by decide) ?_)
   |((with_reducible show EvD _ _ (.BinOp (.Constant (.int 10) _ _) .Pow (.Constant (.int 11) _ _) _) _);refine qq (r:=100000000000) ⟨by decide,by decide,by decide⟩ (by decide) ?_)
   |((with_reducible show EvD _ _ (.BinOp _ .Add (.List _ _) _) _);refine EvL.d (ub ?_))
   |((with_reducible show EvD _ _ (.BinOp (.List _ _) .Add _ _) _);refine EvL.d (ub ?_))
   |((with_reducible show EvD _ _ (.BinOp (.Subscript _ (.Slice _ _ none _) _) .Add _ _) _);refine EvL.d (ub ?_))
   |((with_reducible show EvD _ _ (.BinOp _ .Add (.Subscript _ (.Slice _ _ none _) _) _) _);refine EvL.d (ub ?_))
   |((with_reducible show EvD _ _ (.BinOp (.Call (.Attribute _ "rules" _) _ _ _) .Add _ _) _);refine EvL.d (ub ?_))
   |with_reducible refine fe ?_
   |with_reducible refine bY ?_
   |with_reducible refine ev_mod ?_
   |with_reducible refine ev_fdiv ?_
   |with_reducible refine ev_mul ?_
   |with_reducible refine ev_shl ?_
   |with_reducible refine za6 ?_
   |with_reducible refine ev_not ?_
   |with_reducible refine oO ?_
   |((with_reducible show EvD _ _ (.Subscript _ (.Slice _ _ none _) _) _);refine EvL.d (bp ?_))
   |((with_reducible show EvD _ _ (.Subscript _ _ _) _);refine aq hr.one (fun _ _=>rfl) ?_)
   |((with_reducible show EvD _ _ (.List _ _) _);refine EvL.d (wD ?_))
   |((with_reducible show EvD _ _ (.Call (.Name "len" _) [.Call (.Name "set" _) _ _ _] _ _) _);refine ev_lenSet rfl (by rfl) nb.len (by rfl) (by assumption) ?_)
   |((with_reducible show EvD _ _ (.Call (.Name "len" _) _ _ _) _);refine rS (by rfl) nb.len ?_)
   |((with_reducible show EvD _ _ (.Call (.Name "min" _) [_,_] _ _) _);refine aC rfl (by rfl) nb.min ?_)
   |((with_reducible show EvD _ _ (.Call (.Name "max" _) [_,_] _ _) _);refine ev_max rfl (by rfl) nb.max ?_)
   |((with_reducible show EvD _ _ (.Call (.Name "list" _) _ _ _) _);refine EvL.d (lB (by rfl) nb.list ?_))
   |((with_reducible show EvD _ _ (.Call (.Name "repr" _) _ _ _) _);refine dA hr.gd hr.units (by rfl) nb.repr ?_)
   |((with_reducible show EvD _ _ (.Call (.Name "min" _) [_] _ _) _);refine ev_minI rfl hr.few (by rfl) nb.min ?_)
   |((with_reducible show EvD _ _ (.Call (.Name "isinstance" _) _ _ _) _);first|refine ev_isi (by rfl) nb.isinstance (by rfl) nb.int boot_int ?_|refine ev_isi (by rfl) nb.isinstance (by rfl) nb.bool boot_bool ?_|refine ev_isi (by rfl) nb.isinstance (by rfl) nb.str boot_str ?_|refine ev_isi (by rfl) nb.isinstance (by rfl) nb.list boot_list ?_|refine ev_isi (by rfl) nb.isinstance (by rfl) nb.tuple boot_tuple ?_)
   |((with_reducible show EvD _ _ (.Call (.Name "int" _) _ _ _) _);refine ev_intB (by rfl) nb.int ?_)
   |((with_reducible show EvD _ _ (.Call (.Name _ _) _ _ _) _);first|refine cE (by with_reducible assumption) (by exact⟨rfl,rfl,rfl,rfl,rfl⟩) (hr.mono (by decide)) (by rfl) ?_|refine EvN.d (gL (by with_reducible assumption) (by exact⟨rfl,rfl,rfl,rfl,rfl⟩) (hr.mono (by decide)) (by rfl) ?_))
   |((with_reducible show EvD _ _ (.Call (.Attribute _ _ _) (_::_) _ _) _);refine ia (by with_reducible assumption) (by exact⟨rfl,rfl,rfl,rfl,rfl⟩) (hr.mono (by decide)) ?_)
   |((with_reducible show EvD _ _ (.Call (.Attribute _ _ _) [] _ _) _);refine jC (by with_reducible assumption) (by exact⟨rfl,rfl,rfl,rfl,rfl⟩) (hr.mono (by decide)) ?_)
   |((with_reducible show EvD _ _ (.Compare _ [_] _ _) _);first|with_reducible refine ba ?_|with_reducible refine ev_le ?_|with_reducible refine ev_gt ?_|with_reducible refine ev_ge ?_|with_reducible refine ev_isN ?_|with_reducible refine ev_notN ?_|((with_reducible show EvD _ _ (.Compare _ [.Eq] _ _) _);refine zc2 hr.units ?_)|((with_reducible show EvD _ _ (.Compare _ [.NotEq] _ _) _);refine ev_nek hr.units ?_)|((with_reducible show EvD _ _ (.Compare _ [.In] _ _) _);refine ev_ink hr.one ?_)|((with_reducible show EvD _ _ (.Compare _ [.NotIn] _ _) _);refine ev_nink hr.one ?_)|((with_reducible show EvD _ _ (.Compare _ [.Is] [.Constant (.bool _) _ _] _) _);refine ev_isB ?_))
   |((with_reducible show EvD _ _ (.Compare _ [_,_] _ _) _);first|refine ev_lelt ?_|refine ev_ltle ?_|refine gS ?_)
   |((with_reducible show EvD _ _ (.BoolOp _ _ _) _);first|with_reducible refine ev_and ?_|with_reducible refine ev_or ?_|with_reducible refine ev_one ?_)
   |with_reducible refine me ?_)
  |((with_reducible show EvA _ _ _ _);first
   |with_reducible refine zD ?_
   |((with_reducible show EvA _ _ (.Name "_law_tape_here" _::_) _);exists cJ,rfl)
   |refine zt ?_)
  |((with_reducible show EvT _ _ _ _);first
   |((with_reducible show EvT _ _ (.Compare _ [_] _ _) _);first|with_reducible refine et_lt ?_|with_reducible refine et_le ?_|with_reducible refine bA ?_|with_reducible refine et_ge ?_|with_reducible refine xE ?_|with_reducible refine et_notN ?_|((with_reducible show EvT _ _ (.Compare _ [.Eq] _ _) _);refine et_eqk hr.units ?_)|((with_reducible show EvT _ _ (.Compare _ [.NotEq] _ _) _);refine aA hr.units ?_)|((with_reducible show EvT _ _ (.Compare _ [.In] _ _) _);refine zc0 hr.one ?_)|((with_reducible show EvT _ _ (.Compare _ [.NotIn] _ _) _);refine et_nink hr.one ?_)|((with_reducible show EvT _ _ (.Compare _ [.Is] [.Constant (.bool _) _ _] _) _);refine et_isB ?_)|((with_reducible show EvT _ _ (.Compare _ [.IsNot] [.Constant (.bool _) _ _] _) _);refine et_isntB ?_))
   |((with_reducible show EvT _ _ (.Compare _ [_,_] _ _) _);first|refine lC ?_|refine et_ltle ?_|refine et_lele' ?_)
   |with_reducible refine tS ?_
   |((with_reducible show EvT _ _ (.BoolOp _ _ _) _);with_reducible refine EvW.t ?_)
   |refine et_truth ?_)
  |((with_reducible show EvL _ _ _ _);first
   |with_reducible refine wD ?_
   |((with_reducible show EvL _ _ (.Call (.Name "list" _) _ _ _) _);refine lB (by rfl) nb.list ?_)
   |((with_reducible show EvL _ _ (.Call (.Name _ _) _ _ _) _);refine el_calR (by with_reducible assumption) (by exact⟨rfl,rfl,rfl,rfl,rfl⟩) (hr.mono (by decide)) (by rfl) ?_)
   |((with_reducible show EvL _ _ (.Call (.Attribute _ _ _) [] _ _) _);refine el_meth0R (by with_reducible assumption) (by exact⟨rfl,rfl,rfl,rfl,rfl⟩) (hr.mono (by decide)) ?_)
   |((with_reducible show EvL _ _ (.Subscript _ (.Slice _ _ none _) _) _);refine bp ?_)
   |((with_reducible show EvL _ _ (.BinOp _ .Add _ _) _);refine ub ?_))
  |((with_reducible show EvW _ _ _ _);first
   |with_reducible refine gW ?_
   |with_reducible refine rF ?_
   |with_reducible refine mD ?_
   |with_reducible refine qk ?_)
  |((with_reducible show EvO _ _ _ _);first
   |with_reducible refine eX ?_
   |with_reducible refine dm ?_)
  |((with_reducible show du _ _ _);first
   |refine ixk rfl rfl rfl ?_
   |refine ixk_0 ?_
   |refine ixk_1 ?_)
  |((with_reducible show aY _ _ _ _);first
   |refine ink rfl rfl ?_
   |refine inkT rfl rfl ?_)
  |((with_reducible show gJ _ _ _);first
   |with_reducible refine eqk_int ?_
   |with_reducible refine uK ?_
   |with_reducible refine eqk_bool ?_
   |refine eqk rfl rfl rfl rfl ?_)
  |((with_reducible show SvS _ _ _ _);first
   |((with_reducible show SvS _ (List.set _ _ _) _ _);dsimp only[List.set])
   |((with_reducible show SvS _ _ (zv _) _);show SvS _ _ (_::_) _)
   |((with_reducible show SvS _ _ (.Assign [.Name _ _] (.List [] _) _::_) _);exists xW,nd)
   |((with_reducible show SvS _ _ (.Assign [.Name _ _] _ _::_) _);exists yF,nd)
   |((with_reducible show SvS _ _ (.Expr (.Call (.Attribute _ "append" _) _ _ _) _::_) _);exists xP,rfl)
   |((with_reducible show SvS _ _ (.Return (some (.Name _ _)) _::_) _);exists vE,rfl)
   |with_reducible refine ud ?_
   |with_reducible refine sv_cont ?_
   |with_reducible refine sv_pass ?_
   |with_reducible refine xu ?_
   |with_reducible refine zT ?_
   |((with_reducible refine vv ?hk ?_);case hk=>first|rfl|decide +kernel)
   |((with_reducible refine xS ?hk ?_);case hk=>first|rfl|decide +kernel))
  |((with_reducible show qt _ _);refine⟨_,rfl,by first|decide|omega,by first|decide|(show _<big;unfold big;omega),fun _ _ _=>?_⟩)
  |((with_reducible refine pY ?hk ?_);case hk=>first|rfl|decide +kernel)
  |((with_reducible refine uq ?hk ?_);case hk=>first|rfl|decide +kernel)
  |refine⟨_,_,rfl,rfl,?_⟩
  |refine⟨_,_,_,rfl,rfl,rfl,?_⟩
  |refine⟨_,rfl,zr5 rfl,?_⟩
  |refine⟨_,rfl,rfl,?_⟩
  |refine⟨_,rfl,?_⟩))
namespace K33
open PySem PySem.Spec PyProof.Rows L2
abbrev fj :Stmt:=top 44
theorem yu.app {ds es:List PyData}(h:yu ds)(h':yu es):yu (ds++es):=fun d hd=>(zu0.mp hd).elim (h d) (h' d)
def eB (C:Addr)(cs:Cs):List A→(A→Prop)→Prop:=fun as Q=>∃ds es,as=[.dat (yt C cs ds),.dat (yt C cs es)]∧yu ds∧yu es∧ds.length+es.length≤24∧Q (.dat (yt C cs (ds++es)))
section
variable {P:Program}{w:World}{K:PySem.W.Frag}{mg:Str→Option Value}{base:Heap}{cs:Cs}
theorem zd5 :zo ["elder","newer"] ["elder","newer"] (zb fj):=⟨rfl,rfl,rfl,by decide +kernel,rfl,by decide +kernel,by decide +kernel⟩
set_option maxHeartbeats 4000000 in
theorem iR {f C:Addr}{fd:FuncData}(F:Fun K "laid" "laid" fj f fd)(hm:mg "laid"=some (.ref f))(hb:Binds K fd ["elder","newer"] [])(CK:kr P w K mg base "Book" 9 [] (sj C cs))(MR:xK P w K mg base C "rules" 3 (uI C cs)):Cal P w K mg base "laid" 11 (eB C cs):=by
 refine ph F hm hb zd5 (fun as Q h=>?_) (fun cdv A' outer s H E as Q hr h=>?_)
 ·obtain⟨ds,es,rfl,_⟩:=h
  rfl
 ·obtain⟨ds,es,rfl,rd,re,hl,q⟩:=h
  have nd:=zd5.nd
  and_intros
  refine⟨rd.rules,by omega,?_⟩
  and_intros
  refine⟨re.rules,by omega,ds,es,rfl,rfl,by omega,?_⟩
  and_intros
  exact⟨ds++es,.inl rfl,(rd.app re).rules,by rw[zq1];exact hl,q⟩
end
abbrev ma :Stmt:=top 48
def Kit (K:PySem.W.Frag)(mg:Str→Option Value)(C:Addr)(x:Str)(b:Bool):Prop:=∃B,mg x=some (.ref B)∧PySem.W.kitOne K (.ref C) (.ref B)=some b
structure XF (K:PySem.W.Frag)(mg:Str→Option Value)(CN S:Addr):Prop where
 mS:mg "StayError"=some (.ref S)
 b:XB K CN S
 xc:∃init,XC K CN S init
 nn:PySem.W.findIn K (.ref CN) "night"=some none
 k1:Kit K mg CN "NotSold" true
 k2:Kit K mg CN "Barred" false
 k3:Kit K mg CN "NoRule" false
 k4:Kit K mg CN "Off" false
 k5:Kit K mg CN "TooMany" false
 mV:mg "ValueError"=none
 kV:PySem.W.kitOne K (.ref CN) (.type "ValueError")=some true
def ka (C:Addr)(cs:Cs):List A→(A→Prop)→Prop:=fun as Q=>∃(ds:List PyData) (c g:Int),as=[.dat (yt C cs ds),.dat (.tuple [.int c,.int g])]∧Rules ds∧0≤c∧c<g∧g≤c+400∧c≤1000000∧zB ds "deal" c=.none∧zB ds "fee" c=.int 0∧
 ((∃pr:Int→Int,(∀z,c≤z→z<g→zB ds "price" z=.int (pr z)∧0≤pr z∧pr z≤1000000000000)∧Q (.dat (.tuple [.none])))∨
  ∃(z:Int) (pr:Int→Int),c≤z∧z<g∧(∀y,c≤y→y<z→zB ds "price" y=.int (pr y))∧zB ds "price" z=.none∧Q (.dat (.tuple [.int z])))
section
variable {P:Program}{w:World}{K:PySem.W.Frag}{mg:Str→Option Value}{base:Heap}{cs:Cs}
theorem zi2 :zo ((["_law_book","_law_stay","_law_found","e"]:List Str)++[("":Str)]) ["_law_book","_law_stay"] (zb ma):=⟨rfl,rfl,rfl,by decide +kernel,rfl,by decide +kernel,by decide +kernel⟩
set_option maxHeartbeats 4000000 in
theorem jk {f C CN S:Addr}{fd:FuncData}(F:Fun K "_law_night" "_law_night" ma f fd)(hm:mg "_law_night"=some (.ref f))(hb:Binds K fd ["_law_book","_law_stay"] [])(nb:NbT mg)(xf:XF K mg CN S)(CB:Cal P w K mg base "bill" 5 (iL C cs))(CU:nF P w K mg base "bill" 5 (lW C cs CN)):Cal P w K mg base "_law_night" 6 (ka C cs):=by
 refine ph F hm hb zi2 (fun as Q h=>?_) (fun cdv A' outer s H E as Q hr h=>?_)
 ·obtain⟨ds,c,g,rfl,_⟩:=h
  rfl
 ·obtain⟨ds,c,g,rfl,rd,c0,cg,gl,c1,hd,hf,h⟩:=h
  have nd:=zi2.nd
  obtain⟨init,xc⟩:=xf.xc
  refine yF 2 nd (oH ?_)
  rcases h with ⟨pr,hpr,q⟩|⟨z,pr,z0,z1,hpr,hz,q⟩
  ·refine pH 3 4 [some (.dat (yt C cs ds)),some (.dat (.tuple [.int c,.int g])),some (.dat .none),none,none] (fun _=>False) rfl rfl nd rfl (leX.cons (.inr ⟨rfl,fun a e=>by cases e;trivial⟩) (leX.cons (.inr ⟨rfl,fun a e=>by cases e;trivial⟩) (leX.cons (.inr ⟨rfl,fun a e=>by cases e;trivial⟩) (leX.cons (.inl rfl) (leX.cons (.inl rfl) leX.nil'))))) (by rfl) xf.mS (fun _ z=>z.elim) (fun pins xe r xo=>?_) (fun pins a d z=>z.elim)
   refine lg (rL CB hr (by rfl) (zt (zi 0 rfl (zt (zi 1 rfl (zD ⟨ds,c,g,0,pr,rfl,rd,c0,cg,gl,c1,hpr,.inl hd,hf,fun bs mk=>zT ?_⟩))))))
   and_intros
   exact q
  ·refine pH 3 4 [some (.dat (yt C cs ds)),some (.dat (.tuple [.int c,.int g])),some (.dat .none),none,none] (fun d=>d=nsX CN z) rfl rfl nd rfl (leX.cons (.inr ⟨rfl,fun a e=>by cases e;trivial⟩) (leX.cons (.inr ⟨rfl,fun a e=>by cases e;trivial⟩) (leX.cons (.inr ⟨rfl,fun a e=>by cases e;trivial⟩) (leX.cons (.inl rfl) (leX.cons (.inl rfl) leX.nil'))))) (by rfl) xf.mS (fun d e=>⟨CN,.inl ⟨_,e⟩,xf.b⟩) (fun pins xe r xo=>?_) (fun pins a d e=>?_)
   ·exact lg (cU (j:=4) xo rfl (leX.cons (.inr ⟨rfl,fun a e=>by cases e;trivial⟩) (leX.cons (.inr ⟨rfl,fun a e=>by cases e;trivial⟩) (leX.cons (.inr ⟨rfl,fun a e=>by cases e;trivial⟩) (leX.cons (.inl rfl) (leX.cons (.inl rfl) leX.nil'))))) CU hr (by rfl) (zt (zi 0 rfl (zt (zi 1 rfl (zD ⟨ds,c,g,z,pr,rfl,rd,c0,z0,z1,gl,c1,hpr,hz,rfl⟩))))))
   ·subst e
    refine yF 2 nd (zi 3 rfl (zT ?_))
    refine xu (xE (zi 2 rfl ?_))
    refine xS rfl (zT ?_)
    obtain⟨B1,m1,e1⟩:=xf.k1
    obtain⟨B2,m2,e2⟩:=xf.k2
    obtain⟨B3,m3,e3⟩:=xf.k3
    obtain⟨B4,m4,e4⟩:=xf.k4
    obtain⟨B5,m5,e5⟩:=xf.k5
    have ix:isX CN (nsX CN z):=.inl ⟨_,rfl⟩
    refine xu (EvW.t (rF (tS (wF (vG (by rfl) nb.isinstance (by rfl) m1 (zi 2 rfl ⟨CN,S,init,true,ix,xc,e1,⟨_,rfl,?_⟩⟩))))))
    refine uq rfl (qk (tS (wF (iy (by rfl) nb.isinstance (by rfl) xf.mV PyProof.Rows.Boot.«ValueError» (zi 2 rfl ⟨CN,S,init,true,ix,xc,xf.kV,⟨_,rfl,?_⟩⟩)))))
    refine xS rfl (zT ?_)
    refine xu (EvW.t (rF (wF (vG (by rfl) nb.isinstance (by rfl) m2 (zi 2 rfl ⟨CN,S,init,false,ix,xc,e2,⟨_,rfl,?_⟩⟩)))))
    refine uq rfl (rF (wF (vG (by rfl) nb.isinstance (by rfl) m3 (zi 2 rfl ⟨CN,S,init,false,ix,xc,e3,⟨_,rfl,?_⟩⟩))))
    refine uq rfl (rF (wF (vG (by rfl) nb.isinstance (by rfl) m4 (zi 2 rfl ⟨CN,S,init,false,ix,xc,e4,⟨_,rfl,?_⟩⟩))))
    refine uq rfl (qk (wF (vG (by rfl) nb.isinstance (by rfl) m5 (zi 2 rfl ⟨CN,S,init,false,ix,xc,e5,⟨_,rfl,?_⟩⟩))))
    refine xS rfl (zT ?_)
    exact ud (oO (zt (dz xc xf.nn (zi 2 rfl ⟨_,_,rfl,rfl,zD ⟨_,rfl,zr5 rfl,q⟩⟩))))
end
abbrev qL :Stmt:=top 49
def pR (a b:Int)(v:PyData):PyData:=.tuple [.str "price",.int a,.int b,v]
theorem nX {a b y:Int}{v:PyData}:pj "price" y (pR a b v)=(decide (a≤y)&&decide (y≤b)):=by
 show (decide (("price":Str)="price")&&_)=_
 rw[zp7 rfl]
 rfl
theorem aT {a b y:Int}{v:PyData}{x:Str}(h:("price":Str)≠x):pj x y (pR a b v)=false:=by
 show (decide (("price":Str)=x)&&_)=_
 rw[zp5 h,zr3]
theorem pQ {a b:Int}{v:PyData}:uB (pR a b v)=v:=rfl
def inR (y:Int)(ab:Int×Int):Bool:=decide (ab.1≤y)&&decide (y≤ab.2)
def rsD (w:Int)(b:Int)(rs:List (Int×Int)):List PyData:=pR b (b+13) (.int w)::rs.map fun ab=>pR ab.1 ab.2 .none
theorem iP (w b y:Int)(rs:List (Int×Int)):zB (rsD w b rs) "price" y=if rs.any (inR y)=true then .none else if b≤y∧y≤b+13 then .int w else .none:=by
 unfold rsD
 obtain⟨ss,rfl⟩:∃ss,rs=ss.reverse:=⟨rs.reverse,by simp⟩
 induction ss with
 |nil=>
  show zB ([]++[pR b (b+13) (.int w)]) "price" y=_
  rw[wt,nX,pQ,nH]
  simp only[List.any_nil,zt1,zw4,zo6,zq4]
  split<;>rfl
 |cons ab ss ih=>
  rw[List.reverse_cons]
  generalize ss.reverse=rs at ih
  rw[zr9,List.map_singleton,←zw9,wt,ih,nX,pQ,List.any_append]
  simp only[zv9,List.any_nil,zA5,zw2]
  by_cases h:inR y ab=true
  ·rw[if_pos (show (decide (ab.1≤y)&&decide (y≤ab.2))=true from h),if_pos (.inr h)]
  ·have h':¬(decide (ab.1≤y)&&decide (y≤ab.2))=true:=h
   rw[if_neg h']
   by_cases h2:rs.any (inR y)=true
   ·rw[if_pos h2,if_pos (.inl h2)]
   ·rw[if_neg h2,if_neg (fun z=>Or.elim z h2 h)]
theorem pf {x:Str}(h:("price":Str)≠x)(y:Int):∀(ds:List PyData),(∀d∈ds,∃a b v,d=pR a b v)→zB ds x y=kG x:=fun ds hd=>by
 unfold zB
 rw[List.find?_eq_none.mpr fun d hm=>by
  obtain⟨a,b,v,rfl⟩:=hd d (List.mem_reverse.mp hm)
  rw[aT h];decide]
theorem tQ {w b:Int}{rs:List (Int×Int)}:∀d∈rsD w b rs,∃a b v,d=pR a b v:=fun d hd=>by
 unfold rsD at hd
 rcases zn2.mp hd with rfl|hd
 ·exact⟨_,_,_,rfl⟩
 ·obtain⟨ab,_,rfl⟩:=List.mem_map.mp hd
  exact⟨_,_,_,rfl⟩
def un (w b:Int)(rs:List (Int×Int))(y:Int):Bool:=rs.any (inR y)||!(decide (b≤y)&&decide (y<b+14))
theorem tq {w b y:Int}{rs:List (Int×Int)}:zB (rsD w b rs) "price" y=if un w b rs y=true then .none else .int w:=by
 rw[iP]
 unfold un
 by_cases h:rs.any (inR y)=true
 ·rw[if_pos h,h,zz9,if_pos rfl]
 ·rw[if_neg h,zp1.mpr h,zy7]
  by_cases h2:b≤y∧y≤b+13
  ·rw[if_pos h2,zp7 h2.1,zp7 (show y<b+14 by omega)]
   rfl
  ·rw[if_neg h2,if_pos]
   rw[Bool.not_eq_true',Bool.and_eq_false_iff,zv8,zv8]
   omega
def uA (p:Int→Bool)(lo:Int):Nat→Option Int
 |0=>none
 |n+1=>if p lo=true then some lo else uA p (lo+1) n
theorem rp {p:Int→Bool}:∀{n:Nat} {lo z:Int},uA p lo n=some z→lo≤z∧z<lo+n∧p z=true∧∀y,lo≤y→y<z→p y=false
 |0,_,_,h=>by cases h
 |n+1,lo,z,h=>by
  unfold uA at h
  split at h
  ·rename_i hp
   cases h
   exact⟨Int.le_refl _,by omega,hp,fun y _ _=>by omega⟩
  ·rename_i hp
   obtain⟨h1,h2,h3,h4⟩:=rp h
   refine⟨by omega,by omega,h3,fun y y0 y1=>?_⟩
   by_cases e:y=lo
   ·subst e;simpa using hp
   ·exact h4 y (by omega) y1
theorem sU {p:Int→Bool}:∀{n:Nat} {lo:Int},uA p lo n=none→∀y,lo≤y→y<lo+n→p y=false
 |0,_,_,y,_,_=>by omega
 |n+1,lo,h,y,y0,y1=>by
  unfold uA at h
  split at h
  ·cases h
  ·rename_i hp
   by_cases e:y=lo
   ·subst e;simpa using hp
   ·exact sU h y (by omega) (by omega)
def oDu :Option Int→PyData
 |some z=>.int z
 |none=>.none
theorem oG (ds:List Bool):(ds.map PyData.bool).all sf=true:=by
 rw[List.all_map,zv3]
 intro z _
 rfl
theorem iG {ds:List Bool}:inD (.bool true) (ds.map .bool)=ds.any id:=by
 induction ds with
 |nil=>rfl
 |cons d ds ih=>
  rw[zp8]
  unfold inD at ih ⊢
  rw[zv9,zv9,ih]
  cases d<;>rfl
theorem mW {d:PyData}(h:yp 2000 d)(hd:d.depth≤7):yp sizeLine (.tuple [d]):=yp.tuple (n:=2000) (yw.nil.snoc h hd) (by show 1*(2000+2)+3≤sizeLine;decide)
section
variable {P:Program}{w:World}{K:PySem.W.Frag}{mg:Str→Option Value}{base:Heap}{cs:Cs}
theorem ze0 :zo ["_law_script","_law_tape_here","_law_base","_law_rules","_law_k","_law_first","_law_book","_law_turn","_law_many","_law_come","_law_stay","_law_due","_law_night_here"] ["_law_script"] (zb qL):=⟨rfl,rfl,rfl,by decide +kernel,rfl,by decide +kernel,by decide +kernel⟩
theorem za1 {f fT C:Addr}{fd fdT:FuncData}(F:Fun K "law" "law" qL f fd)(nb:NbT mg)(GT:zy P w K mg base CX0 1 fT fdT ["_law_script"] (nM K))(mT:mg "_law_tape"=some (.ref fT))(kT:PySem.W.keepIn K (.ref fT)=true)(bT:Binds K fdT ["_law_script"] [])
  (CD:Cal P w K mg base "_law_draw" 1 qt) (CK:kr P w K mg base "Book" 9 [] (sj C cs)) (MR:xK P w K mg base C "rules" 3 (uI C cs)) (CLd:Cal P w K mg base "laid" 11 (eB C cs)) (CNt:Cal P w K mg base "_law_night" 6 (ka C cs)):
  zy P w K mg base CX0 13 f fd ["_law_script"] (pZ K):=by
 refine zl4 (k:=11) F ze0 GT mT kT bT rfl rfl (Or.inl rfl) (Or.inl rfl) (fun cdv A' outer s H E hr=>?_)
 have nd:=ze0.nd
 and_intros
 refine zj2 (fun d=>∃b:Int,d=.int b∧10≤b∧b≤999960) rfl (by assumption) (by assumption) ⟨⟨_,rfl,by omega,by omega⟩,⟨_,rfl,by omega,by omega⟩,⟨_,rfl,by omega,by omega⟩,trivial⟩ ?_
 rintro _ ⟨b,rfl,b0,b1⟩
 refine rY (fun α=>∃(wo:Int),0≤wo∧wo≤1000000000000∧α=[none,some .tape,some (.dat (.int b)),some (.own (rsD wo b [])),none,none,none,none,none,none,none,none,none]) ?_ ?_
 ·refine xW 3 nd ?_
  and_intros
  exact⟨_,by assumption,by omega,rfl⟩
 rintro α ⟨wo,w0,w1,rfl⟩
 refine rY (fun α=>∃(o4 o5:Option A) (rs:List (Int×Int)),rs.length≤3∧(∀ab∈rs,b≤ab.1∧ab.1≤ab.2∧ab.2≤b+13)∧α=[none,some .tape,some (.dat (.int b)),some (.own (rsD wo b rs)),o4,o5,none,none,none,none,none,none,none]) ?_ ?_
 ·refine qA (.one 4) (vL (by rfl) nb.range ?_)
  and_intros
  rename_i v v0 v1
  refine⟨by omega,by omega,?_⟩
  refine yC (fun i α=>∃(o4 o5:Option A) (rs:List (Int×Int)),rs.length=i∧(∀ab∈rs,b≤ab.1∧ab.1≤ab.2∧ab.2≤b+13)∧α=[none,some .tape,some (.dat (.int b)),some (.own (rsD wo b rs)),o4,o5,none,none,none,none,none,none,none]) ⟨none,none,[],rfl,fun _ h=>by simp at h,rfl⟩ ?_ ?_
  ·rintro i d α hd ⟨o4,o5,rs,rl,rb,rfl⟩
   have hi:=(zm8.mp hd).1
   rw[zm6,zh] at hi
   refine⟨_,rfl,?_⟩
   and_intros
   rename_i u u0 u1 y y0 y1
   refine⟨by unfold rsD;rw[zn7,zm6];omega,?_⟩
   and_intros
   refine⟨some (.dat d),some (.dat (.int (b+u))),rs++[(b+u,if b+u+y<b+13 then b+u+y else b+13)],by rw[zq1,rl]<;>rfl,fun ab hab=>?_,?_⟩
   ·rcases zu0.mp hab with hab|hab
    ·exact rb ab hab
    ·rw[zo8.mp hab]
     show b≤b+u∧b+u≤(if b+u+y<b+13 then b+u+y else b+13)∧(if b+u+y<b+13 then b+u+y else b+13)≤b+13
     split<;>omega
   ·unfold rsD
    rw[zr9,←zw9]
    rfl
  ·rintro α ⟨o4,o5,rs,rl,rb,rfl⟩
   rw[zm6,zh] at rl
   exact zT ⟨o4,o5,rs,by omega,rb,rfl⟩
 rintro α ⟨o4,o5,rs,rl,rb,rfl⟩
 have ro:yu (rsD wo b rs):=fun d hd=>by
  unfold rsD at hd
  rcases zn2.mp hd with rfl|hd
  ·exact vo.of (by simp[words]) (by omega) (by omega) (by omega) (by rw[wz];exact (by show (false||yo 0 1000000000000 (.int wo))=true;rw[within_int w0 w1]<;>rfl)) ((tG (by omega) (by omega)).mono (by decide)) (zo3 _)
  ·obtain⟨ab,hab,rfl⟩:=List.mem_map.mp hd
   have:=rb ab hab
   exact vo.of (by simp[words]) (by omega) (by omega) (by omega) (by rw[wz]<;>rfl) ⟨rfl,rfl,zo3 _,by decide +kernel,by decide +kernel⟩ (zo3 _)
 have rln:(rsD wo b rs).length≤4:=by unfold rsD;rw[zn7,zm6];omega
 refine ah 3 rfl ?_
 and_intros
 refine⟨rsD wo b rs,.inl rfl,ro.rules,by omega,?_⟩
 refine qA (.one 7) (vL (by rfl) nb.range ?_)
 and_intros
 refine⟨by decide,by decide,?_⟩
 refine yC (fun i α=>∃o7 o8 o9 o10 o11 o12:Option A,α=[none,some .tape,some (.dat (.int b)),some (.dat (.list (rsD wo b rs))),o4,o5,some (.dat (yt C cs (rsD wo b rs))),o7,o8,o9,o10,o11,o12]) ⟨_,_,_,_,_,_,rfl⟩ ?_ ?_
 ·rintro i d α hd ⟨o7,o8,o9,o10,o11,o12,rfl⟩
  refine⟨_,rfl,?_⟩
  and_intros
  rename_i m' m0 m1 k k0 k1
  generalize hc:b-2+k=c at *
  generalize hm:1+m'=m at *
  refine rY (fun α=>∃o12:Option A,α=[none,some .tape,some (.dat (.int b)),some (.dat (.list (rsD wo b rs))),o4,o5,some (.dat (yt C cs (rsD wo b rs))),some (.dat d),some (.dat (.int m)),some (.dat (.int c)),some (.dat (.tuple [.int c,.int (c+m)])),some (.dat (oDu (uA (un wo b rs) c m.toNat))),o12]) ?_ ?_
  ·refine qA (.one 12) (ke (by rfl) nb.range ?_)
   and_intros
   refine⟨rfl,⟨by omega,by omega,by omega,by omega⟩,?_⟩
   rw[show (c+m-1-(c-1)).toNat=m.toNat by omega]
   refine yC (fun i α=>i≤m.toNat∧∃o12:Option A,α=[none,some .tape,some (.dat (.int b)),some (.dat (.list (rsD wo b rs))),o4,o5,some (.dat (yt C cs (rsD wo b rs))),some (.dat d),some (.dat (.int m)),some (.dat (.int c)),some (.dat (.tuple [.int c,.int (c+m)])),some (.dat (oDu (uA (un wo b rs) (c+m-i) i))),o12]) ⟨zo3 _,_,rfl⟩ ?_ ?_
   ·rintro j d' α hd' ⟨hj,o12,rfl⟩
    rw[zo0,zp0] at hd'
    obtain⟨u,hu,rfl⟩:=hd'
    have hj':=(zm8.mp hu).1
    rw[yN] at hj'
    rw[tZ hj'] at hu
    cases hu
    generalize hn:c+m-1-(j:Int)=n at *
    have ed:uA (un wo b rs) (c+m-((j+1:Nat):Int)) (j+1)=if un wo b rs n=true then some n else uA (un wo b rs) (c+m-j) j:=by
     rw[show c+m-((j+1:Nat):Int)=n by omega,uA,show n+1=c+m-j by omega]
    rw[ed]
    refine⟨_,rfl,?_⟩
    refine xu (EvW.t (rF (tS (lC ?_))))
    and_intros
    by_cases h1:b≤n
    ·refine pY (zp7 h1) ?_
     and_intros
     by_cases h2:n<b+14
     ·refine uq (by rw[zp7 h2]<;>rfl) (qk ?_)
      and_intros
      refine EvL.d (aj ["_law_rule","_law_night_here"] [none,some 12] (.one 0) (wL ?_))
      and_intros
      rw[je _ (by decide),show (rsD wo b rs).drop (1:Int).toNat=rs.map fun ab=>pR ab.1 ab.2 .none from rfl]
      refine⟨by rw[zm6];omega,?_⟩
      refine jx (fun ab=>.bool (inR n ab)) (fun ab hab=>⟨_,rfl,fun _ _ _ _ _ k=>?_⟩) ?_
      ·and_intros
       by_cases h3:ab.1≤n
       ·refine pY (zp7 h3) ?_
        and_intros
        rw[show decide (n≤ab.2)=inR n ab by unfold inR;rw[zp7 h3,zs7]]
        exact k
       ·refine uq (zp5 h3) ?_
        rw[show inR n ab=false by unfold inR;rw[zp5 h3,zr3]] at k
        exact k
      rw[zz8,show rs.map (fun ab=>PyData.bool (inR n ab))=(rs.map (inR n)).map .bool by rw[List.map_map]<;>rfl]
      refine ink rfl (oG _) ?_
      have eu:(rs.map (inR n)).any id=un wo b rs n:=by
       unfold un
       rw[zp7 h1,zp7 h2,List.any_map]
       show _=(_||false)
       rw[zA5]
       rfl
      rw[iG,eu]
      by_cases hu:un wo b rs n=true
      ·refine vv hu ?_
       and_intros
       refine⟨by omega,some (.dat (.int n)),?_⟩
       rw[if_pos hu]
       rfl
      ·refine xS (zp1.mpr hu) ?_
       and_intros
       refine⟨by omega,some (.dat (.int n)),?_⟩
       rw[if_neg hu]
     ·refine pY (by rw[zp5 h2]<;>rfl) ?_
      refine vv rfl ?_
      and_intros
      refine⟨by omega,some (.dat (.int n)),?_⟩
      rw[if_pos (show un wo b rs n=true by unfold un;rw[zp5 h2,zA2,Bool.or_comm]<;>rfl)]
      rfl
    ·refine uq (zp5 h1) ?_
     refine pY rfl ?_
     refine vv rfl ?_
     and_intros
     refine⟨by omega,some (.dat (.int n)),?_⟩
     rw[if_pos (show un wo b rs n=true by unfold un;rw[zp5 h1,zr3,Bool.or_comm]<;>rfl)]
     rfl
   ·rintro α ⟨hj,o12,rfl⟩
    rw[zm6,yN,show c+m-((m.toNat:Nat):Int)=c by omega]
    exact zT ⟨_,rfl⟩
  rintro α ⟨o12,rfl⟩
  have p7:vo (pR c (c+m-1) (.int 7)):=vo.of (by simp[words]) (by omega) (by omega) (by omega) (by rw[wz]<;>rfl) ((tG (by omega) (by omega)).mono (by decide)) (zo3 _)
  have ro7:yu [pR c (c+m-1) (.int 7)]:=fun d hd=>by rw[zo8.mp hd];exact p7
  have pr7:∀d∈rsD wo b rs++[pR c (c+m-1) (.int 7)],∃a b v,d=pR a b v:=fun d hd=>by
   rcases zu0.mp hd with hd|hd
   ·exact tQ d hd
   ·rw[zo8.mp hd];exact⟨_,_,_,rfl⟩
  have dn:∀ds:List PyData,(∀d∈ds,∃a b v,d=pR a b v)→zB ds "deal" c=.none∧zB ds "fee" c=.int 0:=fun ds hd=>⟨pf (by decide +kernel) c ds hd,pf (by decide +kernel) c ds hd⟩
  refine rY (fun α=>α=[none,some .tape,some (.dat (.int b)),some (.dat (.list (rsD wo b rs))),o4,o5,some (.dat (yt C cs (rsD wo b rs))),some (.dat d),some (.dat (.int m)),some (.dat (.int c)),some (.dat (.tuple [.int c,.int (c+m)])),some (.dat (oDu (uA (un wo b rs) c m.toNat))),o12]) ?_ ?_
  ·and_intros
   refine⟨rsD wo b rs,c,c+m,rfl,ro.rules,by omega,by omega,by omega,by omega,(dn _ tQ).1,(dn _ tQ).2,?_⟩
   cases hdu:uA (un wo b rs) c m.toNat with
   |none=>
    refine .inl ⟨fun _=>wo,fun z z0 z1=>⟨by rw[tq,if_neg (by rw[sU hdu z z0 (by omega)];decide)],w0,w1⟩,mW .none (zo3 _),?_⟩
    and_intros
    refine⟨mW .none (zo3 _),uK ?_⟩
    refine xS (by simp[A.d,oDu]) ?_
    and_intros
    rfl
   |some z=>
    obtain⟨z0,z1,z2,z3⟩:=rp hdu
    have nz:yp 2000 (.int z):=tG (by omega) (by omega)
    refine .inr ⟨z,fun _=>wo,z0,by omega,fun y y0 y1=>by rw[tq,if_neg (by rw[z3 y y0 y1];decide)],by rw[tq,if_pos z2],mW nz (zo3 _),?_⟩
    and_intros
    refine⟨mW nz (zo3 _),uK ?_⟩
    refine xS (by simp[A.d,oDu]) ?_
    and_intros
    rfl
  rintro α rfl
  and_intros
  refine⟨[pR c (c+m-1) (.int 7)],.inl rfl,ro7.rules,zr5 rfl,?_⟩
  and_intros
  refine⟨rsD wo b rs,[pR c (c+m-1) (.int 7)],rfl,ro,ro7,by rw[zz2];omega,?_⟩
  and_intros
  refine⟨rsD wo b rs++[pR c (c+m-1) (.int 7)],c,c+m,rfl,(ro.app ro7).rules,by omega,by omega,by omega,by omega,(dn _ pr7).1,(dn _ pr7).2,.inl ⟨fun _=>7,fun z z0 z1=>⟨by rw[wt,nX,zp7 z0,zp7 (show z≤c+m-1 by omega)]<;>rfl,by show (0:Int)≤7;decide,by show (7:Int)≤1000000000000;decide⟩,?_⟩⟩
  and_intros
  exact⟨_,_,_,_,_,_,rfl⟩
 ·rintro α ⟨o7,o8,o9,o10,o11,o12,rfl⟩
  and_intros
  refine⟨ro.rules,by omega,ro.nice (by omega),?_⟩
  and_intros
  refine⟨ro.nice (by omega),uK ?_⟩
  simp[A.d]
end
def FnF (K:PySem.W.Frag)(f:Addr)(nm ql:Str)(st:Stmt):Prop:=∃fd,Fun K nm ql st f fd
theorem mkF {K:PySem.W.Frag}{f:Addr}{nm ql:Str}{st:Stmt}{oc kV dc pm cd ct:Value}{od an:Option Addr}{sl:Array (Option Value)}(l:K.lookup f=some ⟨oc,od,.func (PySem.W.fnOf nm ql (zH st) (zv st) (zb st) .none kV dc pm an cd ct),sl⟩)(c:PySem.W.codeIn K cd ql=true)(k:PySem.W.keepIn K (.ref f)=true):FnF K f nm ql st:=⟨_,nO l c k⟩
def FnG (K:PySem.W.Frag)(f:Addr)(nm:Str)(st:Stmt):Prop:=PySem.W.nsIn K mainGlobals nm=some (some (.ref f))∧FnF K f nm nm st
theorem mkG {K:PySem.W.Frag}{f:Addr}{nm:Str}{st:Stmt}{oc kV dc pm cd ct:Value}{od an:Option Addr}{sl:Array (Option Value)}(a:PySem.W.nsIn K mainGlobals nm=some (some (.ref f)))(l:K.lookup f=some ⟨oc,od,.func (PySem.W.fnOf nm nm (zH st) (zv st) (zb st) .none kV dc pm an cd ct),sl⟩)(c:PySem.W.codeIn K cd nm=true)(k:PySem.W.keepIn K (.ref f)=true):FnG K f nm st:=⟨a,mkF l c k⟩
theorem FnF.get {K:PySem.W.Frag}{f:Addr}{nm ql:Str}{st:Stmt}(ps:List Str)(h:FnF K f nm ql st)(hb:∀(kV doc pm:Value) (an:Option Addr) (cdv ct:Value) (us:List Value),us.length=ps.length→bindArgs (PySem.W.fnOf nm ql (zH st) (zv st) (zb st) .none kV doc pm an cdv ct) ⟨us,[]⟩=pure (ps.zip us)):∃fd,Fun K nm ql st f fd∧Binds K fd ps []:=by
 obtain⟨fd,F⟩:=h
 exact⟨fd,F,F.binds hb⟩
theorem FnG.get {K:PySem.W.Frag}{h0:Heap}{mg:Str→Option Value}{f:Addr}{nm:Str}{st:Stmt}(ps:List Str)(h:FnG K f nm st)(X:K.In h0)(G:h0.Ns mainGlobals mg)(hb:∀(kV doc pm:Value) (an:Option Addr) (cdv ct:Value) (us:List Value),us.length=ps.length→bindArgs (PySem.W.fnOf nm nm (zH st) (zv st) (zb st) .none kV doc pm an cdv ct) ⟨us,[]⟩=pure (ps.zip us)):∃fd,mg nm=some (.ref f)∧Fun K nm nm st f fd∧Binds K fd ps []:=by
 obtain⟨a,fd,F⟩:=h
 exact⟨fd,zp2 X G a,F,F.binds hb⟩
theorem mkR {K:PySem.W.Frag}{C gi gt ge gw:Addr}(pg:PySem.W.plainGet K C Str.empty=true)(hd:PySem.W.hasDictIn K C=true)(po:PySem.W.plainOver K C=true)(sa:PySem.W.findIn K (.ref C) "__setattr__"=some (some (.builtin "object.__setattr__")))(n1:PySem.W.findIn K (.ref C) "first"=some none)(n2:PySem.W.findIn K (.ref C) "last"=some none)(n3:PySem.W.findIn K (.ref C) "worth"=some none)(mk:PySem.W.makesIn K C=true)(f1:PySem.W.findIn K (.ref C) "__init__"=some (some (.ref gi)))(i1:PySem.W.isFn K (.ref gi)=true)(kc:PySem.W.keepIn K (.ref C)=true)(f2:PySem.W.findIn K (.ref C) "told"=some (some (.ref gt)))(i2:PySem.W.isFn K (.ref gt)=true)(k2:PySem.W.keepIn K (.ref gt)=true)(f3:PySem.W.findIn K (.ref C) "tells"=some (some (.ref ge)))(i3:PySem.W.isFn K (.ref ge)=true)(k3:PySem.W.keepIn K (.ref ge)=true)(f4:PySem.W.findIn K (.ref C) "word"=some (some (.ref gw)))(i4:PySem.W.isFn K (.ref gw)=true)(k4:PySem.W.keepIn K (.ref gw)=true):xB K C gi gt ge gw:=⟨⟨pg,hd,po,sa⟩,n1,n2,n3,⟨mk,f1,i1,kc⟩,⟨f2,i2,k2⟩,⟨f3,i3,k3⟩,⟨f4,i4,k4⟩⟩
theorem ky {K:PySem.W.Frag}{dT:Addr}{oc kV doc pm cdv ct:Value}{od an:Option Addr}{n:Nat}{sl:Array (Option Value)}(lk:K.lookup dT=some ⟨oc,od,.seq #[.none] n,sl⟩):
  Binds K (PySem.W.fnOf "__init__" "Book.__init__" (zH yQ) (zv yQ) (zb yQ) (.ref dT) kV doc pm an cdv ct) ["self","rules"] [.none]:=fun s us hk hl=>by
 match us,(show us.length=1 by rw[zq1] at hl;simpa using hl) with
 |[u],_=>exact BindsTo.of_defaults (T:=dT) rfl (hk _ _ lk) rfl rfl rfl
theorem kE {K:PySem.W.Frag}{dT:Addr}{oc kV doc pm cdv ct:Value}{od an:Option Addr}{n:Nat}{sl:Array (Option Value)}(lk:K.lookup dT=some ⟨oc,od,.seq #[.none] n,sl⟩):
  Binds K (PySem.W.fnOf "__init__" "Book.__init__" (zH yQ) (zv yQ) (zb yQ) (.ref dT) kV doc pm an cdv ct) ["self","rules"] []:=fun s us hk hl=>by
 rw[zt5] at hl ⊢
 match us,hl with
 |[u,v],_=>exact BindsTo.of_defaults (T:=dT) rfl (hk _ _ lk) rfl rfl rfl
theorem dr {P:Str→Prop}(h1:P "price")(h2:P "come")(h3:P "go")(h4:P "least")(h5:P "most")(h6:P "deal")(h7:P "fee"):∀u∈words,P u:=by
 intro u hu
 simp only[words,zn2,zo4,zq6] at hu
 rcases hu with rfl|rfl|rfl|rfl|rfl|rfl|rfl<;>assumption
set_option maxHeartbeats 8000000 in
theorem us1 {α:Type}{p:List α→Prop}(h:∀a,p [a])(us:List α)(hl:us.length=1):p us:=by
 obtain⟨a,rfl⟩:=List.length_eq_one_iff.mp hl
 exact h a
theorem us2 {α:Type}{p:List α→Prop}(h:∀a b,p [a,b])(us:List α)(hl:us.length=2):p us:=by
 cases us with
 |nil=>cases hl
 |cons a us=>exact us1 (p:=fun us=>p (a::us)) (h a) us (Nat.succ.inj hl)
theorem us3 {α:Type}{p:List α→Prop}(h:∀a b c,p [a,b,c])(us:List α)(hl:us.length=3):p us:=by
 cases us with
 |nil=>cases hl
 |cons a us=>exact us2 (p:=fun us=>p (a::us)) (h a) us (Nat.succ.inj hl)
theorem us4 {α:Type}{p:List α→Prop}(h:∀a b c d,p [a,b,c,d])(us:List α)(hl:us.length=4):p us:=by
 cases us with
 |nil=>cases hl
 |cons a us=>exact us3 (p:=fun us=>p (a::us)) (h a) us (Nat.succ.inj hl)
set_option maxHeartbeats 0 in
theorem all_mk {l:PySem.W.OpenLaw}{w:World}{K:PySem.W.Frag}{h:Heap}{mg:Str→Option Value}{fa cC f1 f2 f3 f4 f5 f6 f7 f8 f9 f10 f11 f12 f13 f14 f15 f16 f17 f18 f19 f20 f21 f22 f23 f24 g_init g_told g_tells g_wPrice g_wCome g_wGo g_wLeast g_wMost g_wDeal g_wFee CPrice CCome CGo CLeast CMost CDeal CFee CB dT g_binit g_brules g_btells dU CSt CX_NotSold CX_Barred CX_NoRule CX_Off CX_TooMany gx_NotSold:Addr}(X:K.In h)(G:h.Ns mainGlobals mg)(hfa:mg "law"=some (.ref fa))
  {od14 an14 od24 an24 odB anB odT:Option Addr} {sl14 sl24 slB slT:Array (Option Value)} {oc14 kV14 dc14 pm14 ct14 oc24 kV24 dc24 pm24 ct24 cd24 ocB kVB dcB pmB ctB cdB ocT:Value} {tk1 tk2 tk3 tk4 tu1 tu2 tu3 tu4 tu5 tu6 tu7 tu8 tu9 tu10:Tok} {hu1 hu2 hu3 hu4 hu5 hu6 hu7:Int} {nT nU:Nat}
  (q1:FnG K f1 "is_whole" qv)
  (q2:FnG K f2 "is_whole_within" rN)
  (q3:FnG K f3 "is_pair" gB)
  (q4:FnG K f4 "is_day" ar)
  (q5:FnG K f5 "is_pair_of_days" iz)
  (q6:FnG K f6 "is_stretch" uZ)
  (q7:FnG K f7 "is_coins" oM)
  (q8:FnG K f8 "is_deal" qu)
  (q9:FnG K f9 "is_worth" oZ)
  (q10:FnG K f10 "is_rule" qx)
  (q11:FnG K f11 "made" iS)
  (q12:FnG K f12 "rule_of" qI)
  (q13:FnG K f13 "nights_of" qj)
  (a14:PySem.W.nsIn K mainGlobals "cheapest_first"=some (some (.ref f14)))
  (l14:K.lookup f14=some ⟨oc14,od14,.func (PySem.W.fnOf "cheapest_first" "cheapest_first" (zH yA) (zv yA) (zb yA) .none kV14 dc14 pm14 an14 (.ref cC) ct14),sl14⟩)
  (c14:PySem.W.codeIn K (.ref cC) "cheapest_first"=true)
  (k14:PySem.W.keepIn K (.ref f14)=true)
  (q15:FnG K f15 "marked" wK)
  (q16:FnG K f16 "night_prices" sNP)
  (q17:FnG K f17 "bill" wZ)
  (q18:FnG K f18 "usual" nR)
  (q19:FnG K f19 "kept_rules" gk)
  (q20:FnG K f20 "laid" fj)
  (q21:FnG K f21 "_law_tape" sQ)
  (q22:FnG K f22 "_law_draw" jT)
  (q23:FnG K f23 "_law_night" ma)
  (a24:PySem.W.nsIn K mainGlobals "law"=some (some (.ref f24)))
  (l24:K.lookup f24=some ⟨oc24,od24,.func (PySem.W.fnOf "law" "law" (zH qL) (zv qL) (zb qL) .none kV24 dc24 pm24 an24 cd24 ct24),sl24⟩)
  (c24:PySem.W.codeIn K cd24 "law"=true)
  (k24:PySem.W.keepIn K (.ref f24)=true)
  (aCPrice:PySem.W.nsIn K mainGlobals "Price"=some (some (.ref CPrice)))
  (aCCome:PySem.W.nsIn K mainGlobals "Come"=some (some (.ref CCome)))
  (aCGo:PySem.W.nsIn K mainGlobals "Go"=some (some (.ref CGo)))
  (aCLeast:PySem.W.nsIn K mainGlobals "Least"=some (some (.ref CLeast)))
  (aCMost:PySem.W.nsIn K mainGlobals "Most"=some (some (.ref CMost)))
  (aCDeal:PySem.W.nsIn K mainGlobals "Deal"=some (some (.ref CDeal)))
  (aCFee:PySem.W.nsIn K mainGlobals "Fee"=some (some (.ref CFee)))
  (RPrice:xB K CPrice g_init g_told g_tells g_wPrice)
  (RCome:xB K CCome g_init g_told g_tells g_wCome)
  (RGo:xB K CGo g_init g_told g_tells g_wGo)
  (RLeast:xB K CLeast g_init g_told g_tells g_wLeast)
  (RMost:xB K CMost g_init g_told g_tells g_wMost)
  (RDeal:xB K CDeal g_init g_told g_tells g_wDeal)
  (RFee:xB K CFee g_init g_told g_tells g_wFee)
  (q_init:FnF K g_init "__init__" "Rule.__init__" lM)
  (q_told:FnF K g_told "told" "Rule.told" fA)
  (q_tells:FnF K g_tells "tells" "Rule.tells" nu)
  (q_wPrice:FnF K g_wPrice "word" "Price.word" rZ)
  (q_wCome:FnF K g_wCome "word" "Come.word" ml)
  (q_wGo:FnF K g_wGo "word" "Go.word" aG)
  (q_wLeast:FnF K g_wLeast "word" "Least.word" rX)
  (q_wMost:FnF K g_wMost "word" "Most.word" mB)
  (q_wDeal:FnF K g_wDeal "word" "Deal.word" nV)
  (q_wFee:FnF K g_wFee "word" "Fee.word" eh)
  (aCB:PySem.W.nsIn K mainGlobals "Book"=some (some (.ref CB)))
  (fi_binit:PySem.W.findIn K (.ref CB) "__init__"=some (some (.ref g_binit)))
  (is_binit:PySem.W.isFn K (.ref g_binit)=true)
  (l_binit:K.lookup g_binit=some ⟨ocB,odB,.func (PySem.W.fnOf "__init__" "Book.__init__" (zH yQ) (zv yQ) (zb yQ) (.ref dT) kVB dcB pmB anB cdB ctB),slB⟩)
  (c_binit:PySem.W.codeIn K cdB "Book.__init__"=true)
  (k_binit:PySem.W.keepIn K (.ref g_binit)=true)
  (lT:K.lookup dT=some ⟨ocT,odT,.seq #[.none] nT,slT⟩)
  (fi_brules:PySem.W.findIn K (.ref CB) "rules"=some (some (.ref g_brules)))
  (is_brules:PySem.W.isFn K (.ref g_brules)=true)
  (q_brules:FnF K g_brules "rules" "Book.rules" wO)
  (fi_btells:PySem.W.findIn K (.ref CB) "tells_of"=some (some (.ref g_btells)))
  (is_btells:PySem.W.isFn K (.ref g_btells)=true)
  (q_btells:FnF K g_btells "tells_of" "Book.tells_of" qG)
  (pgB:PySem.W.plainGet K CB Str.empty=true)
  (hdB:PySem.W.hasDictIn K CB=true)
  (poB:PySem.W.plainOver K CB=true)
  (saB:PySem.W.findIn K (.ref CB) "__setattr__"=some (some (.builtin "object.__setattr__")))
  (mkB:PySem.W.makesIn K CB=true)
  (kcB:PySem.W.keepIn K (.ref CB)=true)
  (noB:PySem.W.findIn K (.ref CB) "kept"=some none)
  (z1:PySem.W.nsIn K mainGlobals "abs"=some none)
  (z2:PySem.W.nsIn K mainGlobals "list"=some none)
  (z3:PySem.W.nsIn K mainGlobals "len"=some none)
  (z4:PySem.W.nsIn K mainGlobals "range"=some none)
  (z5:PySem.W.nsIn K mainGlobals "min"=some none)
  (z6:PySem.W.nsIn K mainGlobals "max"=some none)
  (z7:PySem.W.nsIn K mainGlobals "sorted"=some none)
  (z8:PySem.W.nsIn K mainGlobals "isinstance"=some none)
  (z9:PySem.W.nsIn K mainGlobals "int"=some none)
  (z10:PySem.W.nsIn K mainGlobals "bool"=some none)
  (z11:PySem.W.nsIn K mainGlobals "str"=some none)
  (z12:PySem.W.nsIn K mainGlobals "tuple"=some none)
  (z13:PySem.W.nsIn K mainGlobals "all"=some none)
  (z14:PySem.W.nsIn K mainGlobals "any"=some none)
  (z15:PySem.W.nsIn K mainGlobals "repr"=some none)
  (z16:PySem.W.nsIn K mainGlobals "zip"=some none)
  (z17:PySem.W.nsIn K mainGlobals "enumerate"=some none)
  (z18:PySem.W.nsIn K mainGlobals "reversed"=some none)
  (z19:PySem.W.nsIn K mainGlobals "sum"=some none)
  (z20:PySem.W.nsIn K mainGlobals "ValueError"=some none)
  (gi1:PySem.W.nsIn K mainGlobals "LAST_DAY"=some (some (.int 1000000 tk1)))
  (gi2:PySem.W.nsIn K mainGlobals "MOST_NIGHTS"=some (some (.int 14 tk2)))
  (gi3:PySem.W.nsIn K mainGlobals "MOST_COINS"=some (some (.int 1000000000000 tk3)))
  (gi4:PySem.W.nsIn K mainGlobals "MOST_RULES"=some (some (.int 24 tk4)))
  (aU:PySem.W.nsIn K mainGlobals "USUAL"=some (some (.ref dU)))
  (lU:K.lookup dU=some ⟨.type "dict",none,.dict #[⟨hu1,.str "price" tu1,.none⟩,⟨hu2,.str "come" tu2,.bool true⟩,⟨hu3,.str "go" tu3,.bool true⟩,⟨hu4,.str "least" tu4,.int 1 tu8⟩,⟨hu5,.str "most" tu5,.int 14 tu9⟩,⟨hu6,.str "deal" tu6,.none⟩,⟨hu7,.str "fee" tu7,.int 0 tu10⟩] nU,#[]⟩)
  (hh1:hu1=hashStr w "price")
  (hh2:hu2=hashStr w "come")
  (hh3:hu3=hashStr w "go")
  (hh4:hu4=hashStr w "least")
  (hh5:hu5=hashStr w "most")
  (hh6:hu6=hashStr w "deal")
  (hh7:hu7=hashStr w "fee")
  (hhd:PySem.W.codeHdIn K cC yh=true)
  (aSt:PySem.W.nsIn K mainGlobals "StayError"=some (some (.ref CSt)))
  (aX_NotSold:PySem.W.nsIn K mainGlobals "NotSold"=some (some (.ref CX_NotSold)))
  (aX_Barred:PySem.W.nsIn K mainGlobals "Barred"=some (some (.ref CX_Barred)))
  (aX_NoRule:PySem.W.nsIn K mainGlobals "NoRule"=some (some (.ref CX_NoRule)))
  (aX_Off:PySem.W.nsIn K mainGlobals "Off"=some (some (.ref CX_Off)))
  (aX_TooMany:PySem.W.nsIn K mainGlobals "TooMany"=some (some (.ref CX_TooMany)))
  (fX_NotSold:PySem.W.findIn K (.ref CX_NotSold) "__init__"=some (some (.ref gx_NotSold)))
  (tX_NotSold:PySem.W.typeIn K (.ref gx_NotSold)=some (.type "function"))
  (qX_NotSold:FnF K gx_NotSold "__init__" "NotSold.__init__" vX)
  (uSt:eE K CSt=true)
  (eX_NotSold:oN K CX_NotSold CSt (some (.ref gx_NotSold))=true)
  (kX_NotSold:PySem.W.keepIn K (.ref CX_NotSold)=true)
  (nX_NotSold_night:PySem.W.findIn K (.ref CX_NotSold) "night"=some none)
  (bX_NotSold_StayError:gr K CX_NotSold CSt=true)
  (kt_NotSold_NotSold:PySem.W.kitOne K (.ref CX_NotSold) (.ref CX_NotSold)=some true)
  (kt_NotSold_Barred:PySem.W.kitOne K (.ref CX_NotSold) (.ref CX_Barred)=some false)
  (kt_NotSold_NoRule:PySem.W.kitOne K (.ref CX_NotSold) (.ref CX_NoRule)=some false)
  (kt_NotSold_Off:PySem.W.kitOne K (.ref CX_NotSold) (.ref CX_Off)=some false)
  (kt_NotSold_TooMany:PySem.W.kitOne K (.ref CX_NotSold) (.ref CX_TooMany)=some false)
  (kt_NotSold_ValueError:PySem.W.kitOne K (.ref CX_NotSold) (.type "ValueError")=some true):
  ∃fd:FuncData,(∀(s:Shared) (v:Value),BindsTo s fd ⟨[v],[]⟩ [("_law_script",v)])∧∀base:Heap,K.In base→base.Ns mainGlobals mg→base.BuiltinsAt mg yh→zy l.prog w K mg base CX0 13 fa fd ["_law_script"] (pZ K):=by
 have e:=hfa.symm.trans (zp2 X G a24)
 cases e
 have nb:NbT mg:=⟨zo7 X G z1,zo7 X G z2,zo7 X G z3,zo7 X G z4,zo7 X G z5,zo7 X G z6,zo7 X G z7,zo7 X G z8,zo7 X G z9,zo7 X G z10,zo7 X G z11,zo7 X G z12,zo7 X G z13,zo7 X G z14,zo7 X G z15,zo7 X G z16,zo7 X G z17,zo7 X G z18,zo7 X G z19⟩
 have n_ValueError:mg "ValueError"=none:=zo7 X G z20
 obtain⟨_,m_is_whole,F_is_whole,b_is_whole⟩:=q1.get ["thing"] X G fun _ _ _ _ _ _=>us1 fun _=>rfl
 obtain⟨_,m_is_whole_within,F_is_whole_within,b_is_whole_within⟩:=q2.get ["thing","lowest","highest"] X G fun _ _ _ _ _ _=>us3 fun _ _ _=>rfl
 obtain⟨_,m_is_pair,F_is_pair,b_is_pair⟩:=q3.get ["thing"] X G fun _ _ _ _ _ _=>us1 fun _=>rfl
 obtain⟨_,m_is_day,F_is_day,b_is_day⟩:=q4.get ["thing"] X G fun _ _ _ _ _ _=>us1 fun _=>rfl
 obtain⟨_,m_is_pair_of_days,F_is_pair_of_days,b_is_pair_of_days⟩:=q5.get ["thing"] X G fun _ _ _ _ _ _=>us1 fun _=>rfl
 obtain⟨_,m_is_stretch,F_is_stretch,b_is_stretch⟩:=q6.get ["thing"] X G fun _ _ _ _ _ _=>us1 fun _=>rfl
 obtain⟨_,m_is_coins,F_is_coins,b_is_coins⟩:=q7.get ["thing"] X G fun _ _ _ _ _ _=>us1 fun _=>rfl
 obtain⟨_,m_is_deal,F_is_deal,b_is_deal⟩:=q8.get ["thing"] X G fun _ _ _ _ _ _=>us1 fun _=>rfl
 obtain⟨_,m_is_worth,F_is_worth,b_is_worth⟩:=q9.get ["word","thing"] X G fun _ _ _ _ _ _=>us2 fun _ _=>rfl
 obtain⟨_,m_is_rule,F_is_rule,b_is_rule⟩:=q10.get ["thing"] X G fun _ _ _ _ _ _=>us1 fun _=>rfl
 obtain⟨_,m_made,F_made,b_made⟩:=q11.get ["word","first","last","worth"] X G fun _ _ _ _ _ _=>us4 fun _ _ _ _=>rfl
 obtain⟨_,m_rule_of,F_rule_of,b_rule_of⟩:=q12.get ["thing"] X G fun _ _ _ _ _ _=>us1 fun _=>rfl
 obtain⟨_,m_nights_of,F_nights_of,b_nights_of⟩:=q13.get ["stay"] X G fun _ _ _ _ _ _=>us1 fun _=>rfl
 have m_cheapest_first:mg "cheapest_first"=some (.ref f14):=zp2 X G a14
 have F_cheapest_first:=nO (st:=yA) l14 c14 k14
 have b_cheapest_first:=F_cheapest_first.binds (ps:=["prices","places"]) fun _ _ _ _ _ _=>us2 fun _ _=>rfl
 obtain⟨_,m_marked,F_marked,b_marked⟩:=q15.get ["prices","deal"] X G fun _ _ _ _ _ _=>us2 fun _ _=>rfl
 obtain⟨_,m_night_prices,F_night_prices,b_night_prices⟩:=q16.get ["book","nights"] X G fun _ _ _ _ _ _=>us2 fun _ _=>rfl
 obtain⟨_,m_bill,F_bill,b_bill⟩:=q17.get ["book","stay"] X G fun _ _ _ _ _ _=>us2 fun _ _=>rfl
 obtain⟨_,m_usual,F_usual,b_usual⟩:=q18.get ["word"] X G fun _ _ _ _ _ _=>us1 fun _=>rfl
 obtain⟨_,m_kept_rules,F_kept_rules,b_kept_rules⟩:=q19.get ["things"] X G fun _ _ _ _ _ _=>us1 fun _=>rfl
 obtain⟨_,m_laid,F_laid,b_laid⟩:=q20.get ["elder","newer"] X G fun _ _ _ _ _ _=>us2 fun _ _=>rfl
 obtain⟨_,m__law_tape,F__law_tape,b__law_tape⟩:=q21.get ["_law_script"] X G fun _ _ _ _ _ _=>us1 fun _=>rfl
 obtain⟨_,m__law_draw,F__law_draw,b__law_draw⟩:=q22.get ["_law_tape_here","_law_many"] X G fun _ _ _ _ _ _=>us2 fun _ _=>rfl
 obtain⟨_,m__law_night,F__law_night,b__law_night⟩:=q23.get ["_law_book","_law_stay"] X G fun _ _ _ _ _ _=>us2 fun _ _=>rfl
 have F_law:=nO (st:=qL) l24 c24 k24
 have b_law:=F_law.binds (ps:=["_law_script"]) fun _ _ _ _ _ _=>us1 fun _=>rfl
 obtain⟨_,F_init,b_init⟩:=q_init.get ["self","first","last","worth"] fun _ _ _ _ _ _=>us4 fun _ _ _ _=>rfl
 obtain⟨_,F_told,b_told⟩:=q_told.get ["self"] fun _ _ _ _ _ _=>us1 fun _=>rfl
 obtain⟨_,F_tells,b_tells⟩:=q_tells.get ["self","day"] fun _ _ _ _ _ _=>us2 fun _ _=>rfl
 obtain⟨_,F_wPrice,b_wPrice⟩:=q_wPrice.get ["self"] fun _ _ _ _ _ _=>us1 fun _=>rfl
 obtain⟨_,F_wCome,b_wCome⟩:=q_wCome.get ["self"] fun _ _ _ _ _ _=>us1 fun _=>rfl
 obtain⟨_,F_wGo,b_wGo⟩:=q_wGo.get ["self"] fun _ _ _ _ _ _=>us1 fun _=>rfl
 obtain⟨_,F_wLeast,b_wLeast⟩:=q_wLeast.get ["self"] fun _ _ _ _ _ _=>us1 fun _=>rfl
 obtain⟨_,F_wMost,b_wMost⟩:=q_wMost.get ["self"] fun _ _ _ _ _ _=>us1 fun _=>rfl
 obtain⟨_,F_wDeal,b_wDeal⟩:=q_wDeal.get ["self"] fun _ _ _ _ _ _=>us1 fun _=>rfl
 obtain⟨_,F_wFee,b_wFee⟩:=q_wFee.get ["self"] fun _ _ _ _ _ _=>us1 fun _=>rfl
 obtain⟨_,F_brules,b_brules⟩:=q_brules.get ["self"] fun _ _ _ _ _ _=>us1 fun _=>rfl
 obtain⟨_,F_btells,b_btells⟩:=q_btells.get ["self","word","day"] fun _ _ _ _ _ _=>us3 fun _ _ _=>rfl
 have TD:qV mg f1 f2 f3 f4 f5:=⟨nb.isinstance,nb.int,nb.bool,nb.tuple,nb.len,⟨tk1,zp2 X G gi1⟩,⟨tk2,zp2 X G gi2⟩,m_is_whole,m_is_whole_within,m_is_pair,m_is_day,m_is_pair_of_days⟩
 have TR:oY mg f1 f2 f3 f4 f5 f6 f7 f8 f9 f10 f11 ⟨CPrice,CCome,CGo,CLeast,CMost,CDeal,CFee⟩:=⟨TD,⟨tk3,zp2 X G gi3⟩,m_is_stretch,m_is_coins,m_is_deal,m_is_worth,m_is_rule,m_made,zp2 X G aCPrice,zp2 X G aCCome,zp2 X G aCGo,zp2 X G aCLeast,zp2 X G aCMost,zp2 X G aCDeal,zp2 X G aCFee⟩
 have TT:aQ mg:=⟨nb.abs,nb.list,nb.len⟩
 have A7:gj K ⟨CPrice,CCome,CGo,CLeast,CMost,CDeal,CFee⟩ g_init g_told g_tells g_wPrice g_wCome g_wGo g_wLeast g_wMost g_wDeal g_wFee:=⟨RPrice,RCome,RGo,RLeast,RMost,RDeal,RFee⟩
 refine⟨PySem.W.fnOf "law" "law" (zH qL) (zv qL) (zb qL) .none kV24 dc24 pm24 an24 cd24 ct24,fun s v=>.of_eq rfl,fun base KX _ hbi=>?_⟩
 have G_in:=ku (P:=l.prog) (w:=w) (base:=base) F_is_whole_within TD F_is_whole b_is_whole
 have G_pair:=cT (P:=l.prog) (w:=w) (base:=base) F_is_pair TD
 have G_day:=aS F_is_day TD G_in F_is_whole_within.kp b_is_whole_within
 have G_days:=dN F_is_pair_of_days TD G_pair F_is_pair.kp b_is_pair G_day F_is_day.kp b_is_day
 have G_stretch:=nJ F_is_stretch TD G_days F_is_pair_of_days.kp b_is_pair_of_days
 have G_coins:=iM F_is_coins TR G_in F_is_whole_within.kp b_is_whole_within
 have G_deal:=ki F_is_deal TR G_in F_is_whole_within.kp b_is_whole_within G_pair F_is_pair.kp b_is_pair
 have G_worth:=eL F_is_worth TR G_in F_is_whole_within.kp b_is_whole_within G_coins F_is_coins.kp b_is_coins G_deal F_is_deal.kp b_is_deal
 have G_rule:=jd F_is_rule TR G_stretch F_is_stretch.kp b_is_stretch G_worth F_is_worth.kp b_is_worth
 have G_made:=cG (P:=l.prog) (w:=w) (base:=base) F_made TR A7 F_init b_init
 have G_ruleOf:=kA F_rule_of TR G_rule F_is_rule.kp b_is_rule G_made F_made.kp b_made
 have CRO:Cal l.prog w K mg base "rule_of" 7 (tw ⟨CPrice,CCome,CGo,CLeast,CMost,CDeal,CFee⟩):=ny m_rule_of F_rule_of.kp b_rule_of G_ruleOf
 have CKe:Cal l.prog w K mg base "kept_rules" 8 (oj ⟨CPrice,CCome,CGo,CLeast,CMost,CDeal,CFee⟩):=gn F_kept_rules m_kept_rules b_kept_rules nb ⟨tk4,zp2 X G gi4⟩ CRO
 have cB:Cls K CB:=⟨pgB,hdB,poB,saB⟩
 have GBI:=eI (dW (st:=yQ) l_binit c_binit k_binit) cB noB CKe
 have m_Book:mg "Book"=some (.ref CB):=zp2 X G aCB
 have MkB:Mk K CB g_binit:=⟨mkB,fi_binit,is_binit,kcB⟩
 have CBk:kr l.prog w K mg base "Book" 9 [] (sj CB ⟨CPrice,CCome,CGo,CLeast,CMost,CDeal,CFee⟩):=⟨CB,g_binit,_,_,_,m_Book,MkB,kE lT,.nil,GBI⟩
 have CBk0:kr l.prog w K mg base "Book" 9 [.non] (sj CB ⟨CPrice,CCome,CGo,CLeast,CMost,CDeal,CFee⟩):=⟨CB,g_binit,_,_,_,m_Book,MkB,ky lT,.cons rfl .nil,GBI⟩
 have OT:∀u∈words,xK l.prog w K mg base ((⟨CPrice,CCome,CGo,CLeast,CMost,CDeal,CFee⟩:Cs).of u) "told" 2 (mz ((⟨CPrice,CCome,CGo,CLeast,CMost,CDeal,CFee⟩:Cs).of u) u):=dr (by rw[wq];exact yH RPrice b_told (xZ F_told RPrice (sO F_wPrice) b_wPrice)) (by rw[vI];exact yH RCome b_told (xZ F_told RCome (pe F_wCome) b_wCome)) (by rw[pX];exact yH RGo b_told (xZ F_told RGo (iU F_wGo) b_wGo)) (by rw[wm];exact yH RLeast b_told (xZ F_told RLeast (rj F_wLeast) b_wLeast)) (by rw[vt];exact yH RMost b_told (xZ F_told RMost (pS F_wMost) b_wMost)) (by rw[vD];exact yH RDeal b_told (xZ F_told RDeal (pW F_wDeal) b_wDeal)) (by rw[tI];exact yH RFee b_told (xZ F_told RFee (lj F_wFee) b_wFee))
 have DU:mL K w dU tbU:=⟨_,nU,lU,.cons ⟨hh1,⟨_,rfl⟩,rfl⟩ (.cons ⟨hh2,⟨_,rfl⟩,rfl⟩ (.cons ⟨hh3,⟨_,rfl⟩,rfl⟩ (.cons ⟨hh4,⟨_,rfl⟩,⟨_,rfl⟩⟩ (.cons ⟨hh5,⟨_,rfl⟩,⟨_,rfl⟩⟩ (.cons ⟨hh6,⟨_,rfl⟩,rfl⟩ (.cons ⟨hh7,⟨_,rfl⟩,⟨_,rfl⟩⟩ (.nil))))))),by decide +kernel⟩
 have CU:Cal l.prog w K mg base "usual" 1 rV:=jI F_usual m_usual b_usual (zp2 X G aU) DU
 have OW:∀u∈words,xK l.prog w K mg base ((⟨CPrice,CCome,CGo,CLeast,CMost,CDeal,CFee⟩:Cs).of u) "word" 1 (oF ((⟨CPrice,CCome,CGo,CLeast,CMost,CDeal,CFee⟩:Cs).of u) u):=dr (by rw[wq];exact yJ RPrice b_wPrice (sO F_wPrice)) (by rw[vI];exact yJ RCome b_wCome (pe F_wCome)) (by rw[pX];exact yJ RGo b_wGo (iU F_wGo)) (by rw[wm];exact yJ RLeast b_wLeast (rj F_wLeast)) (by rw[vt];exact yJ RMost b_wMost (pS F_wMost)) (by rw[vD];exact yJ RDeal b_wDeal (pW F_wDeal)) (by rw[tI];exact yJ RFee b_wFee (lj F_wFee))
 have ORT:∀u∈words,xK l.prog w K mg base ((⟨CPrice,CCome,CGo,CLeast,CMost,CDeal,CFee⟩:Cs).of u) "tells" 1 (sx ((⟨CPrice,CCome,CGo,CLeast,CMost,CDeal,CFee⟩:Cs).of u)):=dr (by rw[wq];exact yk RPrice b_tells (yW F_tells RPrice)) (by rw[vI];exact yk RCome b_tells (yW F_tells RCome)) (by rw[pX];exact yk RGo b_tells (yW F_tells RGo)) (by rw[wm];exact yk RLeast b_tells (yW F_tells RLeast)) (by rw[vt];exact yk RMost b_tells (yW F_tells RMost)) (by rw[vD];exact yk RDeal b_tells (yW F_tells RDeal)) (by rw[tI];exact yk RFee b_tells (yW F_tells RFee))
 have OC:∀u∈words,Cls K ((⟨CPrice,CCome,CGo,CLeast,CMost,CDeal,CFee⟩:Cs).of u)∧yq K ((⟨CPrice,CCome,CGo,CLeast,CMost,CDeal,CFee⟩:Cs).of u) "worth":=dr (by rw[wq];exact⟨RPrice.cl,RPrice.nw⟩) (by rw[vI];exact⟨RCome.cl,RCome.nw⟩) (by rw[pX];exact⟨RGo.cl,RGo.nw⟩) (by rw[wm];exact⟨RLeast.cl,RLeast.nw⟩) (by rw[vt];exact⟨RMost.cl,RMost.nw⟩) (by rw[vD];exact⟨RDeal.cl,RDeal.nw⟩) (by rw[tI];exact⟨RFee.cl,RFee.nw⟩)
 have MTe:xK l.prog w K mg base CB "tells_of" 2 (vw CB ⟨CPrice,CCome,CGo,CLeast,CMost,CDeal,CFee⟩):=⟨g_btells,_,_,cB,⟨fi_btells,is_btells,F_btells.kp⟩,b_btells,kN F_btells cB noB nb CU OW ORT OC⟩
 have MR:xK l.prog w K mg base CB "rules" 3 (uI CB ⟨CPrice,CCome,CGo,CLeast,CMost,CDeal,CFee⟩):=⟨g_brules,_,_,cB,⟨fi_brules,is_brules,F_brules.kp⟩,b_brules,jc F_brules cB noB b_brules OT⟩
 have m_StayError:mg "StayError"=some (.ref CSt):=zp2 X G aSt
 have mX_NotSold:mg "NotSold"=some (.ref CX_NotSold):=zp2 X G aX_NotSold
 have mX_Barred:mg "Barred"=some (.ref CX_Barred):=zp2 X G aX_Barred
 have mX_NoRule:mg "NoRule"=some (.ref CX_NoRule):=zp2 X G aX_NoRule
 have mX_Off:mg "Off"=some (.ref CX_Off):=zp2 X G aX_Off
 have mX_TooMany:mg "TooMany"=some (.ref CX_TooMany):=zp2 X G aX_TooMany
 have XC_NotSold:=XC.of eX_NotSold
 obtain⟨_,FX_NotSold,bX_NotSold⟩:=qX_NotSold.get ["self","night"] fun _ _ _ _ _ _=>us2 fun _ _=>rfl
 have CD:Cal l.prog w K mg base "_law_draw" 1 qt:=iw m__law_draw F__law_draw.kp b__law_draw (eY F__law_draw TT)
 have CN:=my (P:=l.prog) (w:=w) (base:=base) F_nights_of m_nights_of b_nights_of nb
 have CC:Cal l.prog w K mg base "cheapest_first" 3 qH:=kO l14 c14 k14 m_cheapest_first b_cheapest_first nb hhd KX hbi
 have CMa:Cal l.prog w K mg base "marked" 4 tR:=oQ F_marked m_marked b_marked nb CC
 have CNP:=za0 F_night_prices m_night_prices b_night_prices MTe
 have CBi:=fB F_bill m_bill b_bill nb MTe CN CNP CMa
 have XN:=zb7 (P:=l.prog) (w:=w) (base:=base) FX_NotSold bX_NotSold mX_NotSold m_StayError kX_NotSold tX_NotSold (XS.of uSt) XC_NotSold nX_NotSold_night
 have CBU:=jA F_bill m_bill b_bill CN (cj F_night_prices m_night_prices b_night_prices MTe XN)
 have CLd:=iR F_laid m_laid b_laid CBk MR
 have CNt:=jk F__law_night m__law_night b__law_night nb ⟨m_StayError,XB.of bX_NotSold_StayError,⟨_,XC_NotSold⟩,nX_NotSold_night,⟨_,mX_NotSold,kt_NotSold_NotSold⟩,⟨_,mX_Barred,kt_NotSold_Barred⟩,⟨_,mX_NoRule,kt_NotSold_NoRule⟩,⟨_,mX_Off,kt_NotSold_Off⟩,⟨_,mX_TooMany,kt_NotSold_TooMany⟩,n_ValueError,kt_NotSold_ValueError⟩ CBi CBU
 exact za1 F_law nb (dy F__law_tape TT) m__law_tape F__law_tape.kp b__law_tape CD CBk MR CLd CNt
theorem walk {l:PySem.W.OpenLaw}{q:Program}{loose:List Str}{XP:(Str→Option Value)→Heap→Prop}{YP:World→Heap→Prop}{d:DefRec}{K:Params→PySem.W.Frag}{c:Addr}(hn:l.most=some 63)(hdf:d.params.defaults=[])
  (hY:∀(w:World) (h:Heap),YP w h→(K w.params).In h) (hYT:∀(w:World) (h:Heap),YP w h→h.get? yh=some (PySem.W.tabObj #[]))
  (hNo:∀w:World,(K w.params).lookup yh=none) (hTab:∀w:World,∃o vs,(K w.params).lookup c=some o∧o.cls=.type "code"∧o.data=.fields vs∧vs[11]?=some (.ref yh))
  (F:∀(w:World) (mg:Str→Option Value) (fa:Addr) (h:Heap),(K w.params).In h→h.Ns mainGlobals mg→mg d.name=some (.ref fa)→
   ∃fd:FuncData,(∀(s:Shared) (u:Value),BindsTo s fd ⟨[u],[]⟩ [("_law_script",u)])∧∀base:Heap,(K w.params).In base→base.Ns mainGlobals mg→base.BuiltinsAt mg yh→zy l.prog w (K w.params) mg base CX0 13 fa fd ["_law_script"] (pZ (K w.params))):
  PySem.W.WalkO q loose XP YP l.row.toRowW d [] (fun f vs=>PySem.call f vs):=
 L2.iK (n:=63) (k:=13) (x:="_law_script") (CX:=fun _=>CX0) (sp:=fun w=>pZ (K w.params)) hn (by decide) hdf ⟨rfl,by decide,by decide,rfl⟩ hY hYT hNo hTab F (fun _ H a ns hl _ hT hS=>⟨a,ns,rfl,hS,hl,⟨#[],hT,trivial,fun pos cv hc=>by cases hc⟩,fun _=>rfl⟩) fun _ _ _ _ _ z=>z
end K33
def PySem.W.Fast.tw1265967906446803247 :Nat:=0
def PySem.W.Fast.tw17584573239576013362 :Nat:=0
def PySem.W.Fast.tw15367853673200142985 :Nat:=0
def PySem.W.Fast.tw3819056117935157851 :Nat:=0
def PySem.W.Fast.tw11353417108293998444 :Nat:=0
def PySem.W.Fast.tw4891123410676782544 :Nat:=0
def PySem.W.Fast.tw13350798096125747714 :Nat:=0
def PySem.W.Fast.tw9570587423306532296 :Nat:=0
def PySem.W.Fast.tw269110022198775313 :Nat:=0
def PySem.W.Fast.tw8797184980377826079 :Nat:=0
def PySem.W.Fast.tw15440105954089335056 :Nat:=0
def PySem.W.Fast.tw12193188413662135371 :Nat:=0
def PySem.W.Fast.tw1861775884576959505 :Nat:=0
def PySem.W.Fast.tw5597963838576180946 :Nat:=0
def PySem.W.Fast.tw10957179849599933446 :Nat:=0
def PySem.W.Fast.tw3715278228383748733 :Nat:=0
def PySem.W.Fast.tw7136257901640691674 :Nat:=0
def PySem.W.Fast.tw9010078221222361894 :Nat:=0
def PySem.W.Fast.tw9623001283148534825 :Nat:=0
def PySem.W.Fast.tw5053102695054508256 :Nat:=0
def PySem.W.Fast.tw8028345535122312950 :Nat:=0
def PySem.W.Fast.tw3577409331319147429 :Nat:=0
def PySem.W.Fast.tw8622025522938996859 :Nat:=0
def PySem.W.Fast.tw10400474842777089611 :Nat:=0
def PySem.W.Fast.tw3414058459792690507 :Nat:=0
def PySem.W.Fast.tw1542223738076243821 :Nat:=0
def PySem.W.Fast.tw10670717102672101933 :Nat:=0
def PySem.W.Fast.tw13119388259352134316 :Nat:=0
def PySem.W.Fast.tw11352212238653486416 :Nat:=0
def PySem.W.Fast.tw11781268095282972373 :Nat:=0
def PySem.W.Fast.tw925054430523673656 :Nat:=0
def PySem.W.Fast.tw8302406930378955681 :Nat:=0
def PySem.W.Fast.tw4762384122842594218 :Nat:=0
def PySem.W.Fast.tw1733986452475211201 :Nat:=0
def PySem.W.Fast.tw14759967967073044197 :Nat:=0
def PySem.W.Fast.tw1500344117950418130 :Nat:=0
def PySem.W.Fast.tw15816433709453537346 :Nat:=0
def PySem.W.Fast.tw13766231828820391823 :Nat:=0
def PySem.W.Fast.tw1644918641674991881 :Nat:=0
open PySem PySem.W PyProof.Rows
set_option maxRecDepth 100000 in
set_option maxHeartbeats 0 in
theorem PySem.Challenge.cw_stayprice_k33_night_not_sold_holds : PySem.Challenge.rw_stayprice_k33_night_not_sold.Holds := by
 w_on;o_law;k_head;(case hw=>w_witness2)
 k_fill
 refine K33.walk (l:=PySem.Challenge.rw_stayprice_k33_night_not_sold) (c:=(170:Nat)) rfl rfl (fun w h Y=>PySem.W.km_in_of Y) (fun w h Y=>PySem.W.km_tabs_of Y _ (zo8.mpr rfl)) ?hno ?htab ?hF
 case hno=>intro w;kernel_rfl
 case htab=>intro w;exact⟨_,_,by k_is,rfl,rfl,rfl⟩
 case hF=>
  intro w mg fa h KX G hmg
  refine' K33.all_mk KX G hmg (K33.mkG ?_ ?_ ?_ ?_) (K33.mkG ?_ ?_ ?_ ?_) (K33.mkG ?_ ?_ ?_ ?_) (K33.mkG ?_ ?_ ?_ ?_) (K33.mkG ?_ ?_ ?_ ?_) (K33.mkG ?_ ?_ ?_ ?_) (K33.mkG ?_ ?_ ?_ ?_) (K33.mkG ?_ ?_ ?_ ?_) (K33.mkG ?_ ?_ ?_ ?_) (K33.mkG ?_ ?_ ?_ ?_) (K33.mkG ?_ ?_ ?_ ?_) (K33.mkG ?_ ?_ ?_ ?_) (K33.mkG ?_ ?_ ?_ ?_) ?_ ?_ ?_ ?_ (K33.mkG ?_ ?_ ?_ ?_) (K33.mkG ?_ ?_ ?_ ?_) (K33.mkG ?_ ?_ ?_ ?_) (K33.mkG ?_ ?_ ?_ ?_) (K33.mkG ?_ ?_ ?_ ?_) (K33.mkG ?_ ?_ ?_ ?_) (K33.mkG ?_ ?_ ?_ ?_) (K33.mkG ?_ ?_ ?_ ?_) (K33.mkG ?_ ?_ ?_ ?_) ?_ ?_ ?_ ?_ ?_ ?_ ?_ ?_ ?_ ?_ ?_ (K33.mkR ?_ ?_ ?_ ?_ ?_ ?_ ?_ ?_ ?_ ?_ ?_ ?_ ?_ ?_ ?_ ?_ ?_ ?_ ?_ ?_) (K33.mkR ?_ ?_ ?_ ?_ ?_ ?_ ?_ ?_ ?_ ?_ ?_ ?_ ?_ ?_ ?_ ?_ ?_ ?_ ?_ ?_) (K33.mkR ?_ ?_ ?_ ?_ ?_ ?_ ?_ ?_ ?_ ?_ ?_ ?_ ?_ ?_ ?_ ?_ ?_ ?_ ?_ ?_) (K33.mkR ?_ ?_ ?_ ?_ ?_ ?_ ?_ ?_ ?_ ?_ ?_ ?_ ?_ ?_ ?_ ?_ ?_ ?_ ?_ ?_) (K33.mkR ?_ ?_ ?_ ?_ ?_ ?_ ?_ ?_ ?_ ?_ ?_ ?_ ?_ ?_ ?_ ?_ ?_ ?_ ?_ ?_) (K33.mkR ?_ ?_ ?_ ?_ ?_ ?_ ?_ ?_ ?_ ?_ ?_ ?_ ?_ ?_ ?_ ?_ ?_ ?_ ?_ ?_) (K33.mkR ?_ ?_ ?_ ?_ ?_ ?_ ?_ ?_ ?_ ?_ ?_ ?_ ?_ ?_ ?_ ?_ ?_ ?_ ?_ ?_) (K33.mkF ?_ ?_ ?_) (K33.mkF ?_ ?_ ?_) (K33.mkF ?_ ?_ ?_) (K33.mkF ?_ ?_ ?_) (K33.mkF ?_ ?_ ?_) (K33.mkF ?_ ?_ ?_) (K33.mkF ?_ ?_ ?_) (K33.mkF ?_ ?_ ?_) (K33.mkF ?_ ?_ ?_) (K33.mkF ?_ ?_ ?_) ?_ ?_ ?_ ?_ ?_ ?_ ?_ ?_ ?_ (K33.mkF ?_ ?_ ?_) ?_ ?_ (K33.mkF ?_ ?_ ?_) ?_ ?_ ?_ ?_ ?_ ?_ ?_ ?_ ?_ ?_ ?_ ?_ ?_ ?_ ?_ ?_ ?_ ?_ ?_ ?_ ?_ ?_ ?_ ?_ ?_ ?_ ?_ ?_ ?_ ?_ ?_ ?_ ?_ ?_ ?_ ?_ ?_ ?_ ?_ ?_ ?_ ?_ ?_ ?_ ?_ ?_ ?_ ?_ ?_ (K33.mkF ?_ ?_ ?_) ?_ ?_ ?_ ?_ ?_ ?_ ?_ ?_ ?_ ?_ ?_
  all_goals try (show _=_;first|k_is|kernel_rfl)
