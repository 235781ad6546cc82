import PyProof.Rows.All
import Wide.All
import OpenK.AllK
import Wide.FinOn
import Lean
import PyProof.EqAt
import PyProof.EqKinds
import PyProof.TupleCall
import PySem.Challenge.RW_stayprice_k13_shown
set_option Elab.async false
set_option linter.all false
set_option maxRecDepth 100000
def aI := @_root_.List.length_map
def aJ := @_root_.List.mem_cons_self
def aK := @_root_.List.mem_cons_of_mem
def aL := @_root_.List.getElem?_eq_some_iff
def aM := @_root_.List.getElem?_eq_getElem
def aN := @_root_.Nat.le_refl
def aO := @_root_.List.size_toArray
def aP := @_root_.List.mem_cons
def aQ := @_root_.PySem.Heap.lt_size
def aR := @_root_.PySem.Heap.get?_push_of_some
def aS := @_root_.Nat.zero_le
def aT := @_root_.PySem.wpAny_bind
def aU := @_root_.Bool.false_ne_true
def aV := @_root_.List.mem_singleton
def aW := @_root_.List.length_cons
def aX := @_root_.List.length_append
def aY := @_root_.PySem.W.mg_none_of
def aZ := @_root_.decide_eq_true_eq
def za0 := @_root_.Bool.and_eq_true
def za1 := @_root_.Nat.ne_of_lt
def za2 := @_root_.Nat.lt_of_lt_of_le
def za3 := @_root_.Option.some.inj
def za4 := @_root_.List.mem_of_getElem?
def za5 := @_root_.List.mem_append_right
def za6 := @_root_.List.getElem?_map
def za7 := @_root_.List.not_mem_nil
def za8 := @_root_.List.mem_append
def za9 := @_root_.Bool.eq_false_iff
def zb0 := @_root_.List.drop_eq_getElem_cons
def zb1 := @_root_.PySem.wpAny_pure
def zb2 := @_root_.PySem.Heap.get?_push_size
def zb3 := @_root_.Bool.true_and
def zb4 := @_root_.Nat.le_trans
def zb5 := @_root_.PySem.wpAny_mono
def zb6 := @_root_.decide_eq_true
def zb7 := @_root_.PySem.W.mg_of
def zb8 := @_root_.List.nodup_cons
def zb9 := @_root_.Option.map_eq_some_iff
def zc0 := @_root_.List.mem_map
def zc1 := @_root_.decide_eq_false
def zc2 := @_root_.PySem.W.kia_one
def zc3 := @_root_.List.length_set
def zc4 := @_root_.PySem.F.plainAttrs_list
def zc5 := @_root_.List.getElem?_set_ne
def zc6 := @_root_.List.length_take
def zc7 := @_root_.PySem.wpAny_truthy_bool
def zc8 := @_root_.PySem.mem_of_lookup
def zc9 := @_root_.List.getElem?_append_left
def zd0 := @_root_.List.nil_append
def zd1 := @_root_.Nat.le_of_ble_eq_true
def zd2 := @_root_.List.lookup_cons
def zd3 := @_root_.List.drop_length
def zd4 := @_root_.or_false
def zd5 := @_root_.Nat.le_of_lt
def zd6 := @_root_.List.getElem?_append_right
def zd7 := @_root_.List.mem_filter
def zd8 := @_root_.PySem.F.slot_list_append
def zd9 := @_root_.PySem.F.type_list_append
def ze0 := @_root_.PySem.PassesOwn.never
def ze1 := @_root_.List.pairwise_singleton
def ze2 := @_root_.Bool.false_and
def ze3 := @_root_.PySem.sizeLine_eq
def ze4 := @_root_.Int.le_refl
def ze5 := @_root_.PyProof.Rows.callWith_type1
def ze6 := @_root_.List.pairwise_cons
def ze7 := @_root_.PySem.wpAny_passesOwn
def ze8 := @_root_.List.map_append
def ze9 := @_root_.Nat.lt_irrefl
def zf0 := @_root_.List.map_cons
def zf1 := @_root_.List.take_add_one
def zf2 := @_root_.List.mem_append_left
def zf3 := @_root_.List.pairwise_append
def zf4 := @_root_.PySem.boot_len
def zf5 := @_root_.List.length_drop
def zf6 := @_root_.List.all_eq_true
def zf7 := @_root_.List.map_map
def zf8 := @_root_.List.getElem?_replicate
def zf9 := @_root_.Bool.eq_iff_iff
def zg0 := @_root_.List.append_nil
def zg1 := @_root_.PyProof.Rows.boot_isinstance
def zg2 := @_root_.List.find?_cons
def zg3 := @_root_.Int.emod_lt_of_pos
def zg4 := @_root_.List.getElem?_set_self
def zg5 := @_root_.List.take_length
def zg6 := @_root_.Nat.mul_le_mul_right
def zg7 := @_root_.List.getElem?_of_mem
def zg8 := @_root_.beq_eq_false_iff_ne
def zg9 := @_root_.Array.Perm.refl
def zh0 := @_root_.Int.emod_nonneg
def zh1 := @_root_.PySem.wpAny_Call_Name_kw
def zh2 := @_root_.Bool.false_eq_true
def zh3 := @_root_.List.getElem?_cons_succ
def zh4 := @_root_.decide_eq_false_iff_not
def zh5 := @_root_.Nat.lt_succ_of_lt
def zh6 := @_root_.Nat.le_succ
def zh7 := @_root_.PySem.wpAny_holding
def zh8 := @_root_.PySem.strLen_append
def zh9 := @_root_.Nat.lt_succ_self
def zi0 := @_root_.List.filter_cons
def zi1 := @_root_.PySem.W.methodCall_KW
def zi2 := @_root_.PySem.wpAny_execs_nil
def zi3 := @_root_.Nat.le_of_eq
def zi4 := @_root_.Bool.or_eq_true
def zi5 := @_root_.List.filterMap_cons
def zi6 := @_root_.Array.length_toList
def zi7 := @_root_.PySem.W.plainGet_of
def zi8 := @_root_.List.filter_eq_self
def zi9 := @_root_.PySem.W.callWith_K
def zj0 := @_root_.Bool.false_or
namespace L2
open PySem PySem.Spec PyProof.Rows
abbrev Key :=Sum Int Str
def tF :Key→Value→Bool
 |.inl k,v=>Value.isInt k v
 |.inr x,v=>Value.isStrOf x v
def bX (w:World):Key→Int
 |.inl k=>hashInt k
 |.inr x=>hashStr w x
theorem zV :∀{k:Key} {v:Value},tF k v=true→(∃i t,k=Sum.inl i∧v=Value.int i t)∨(∃x t,k=Sum.inr x∧v=Value.str x t)
 |.inl i,v,h=>by
  obtain⟨t,e⟩:=Value.isInt_shape (k:=i) (v:=v) h
  exact .inl ⟨i,t,rfl,e⟩
 |.inr x,v,h=>by
  obtain⟨t,e⟩:=Value.isStrOf_shape (x:=x) (v:=v) h
  exact .inr ⟨x,t,rfl,e⟩
theorem mF (i:Int)(t:Tok):tF (.inl i) (.int i t)=true:=by simp[tF,Value.isInt]
theorem mU (x:Str)(t:Tok):tF (.inr x) (.str x t)=true:=by simp[tF,Value.isStrOf]
theorem cA (a b:Int):decide ((Sum.inl a:Key)=Sum.inl b)=(a == b):=by
 by_cases e:a=b
 ·subst e;simp
 ·have h:¬(Sum.inl a:Key)=Sum.inl b:=fun q=>e (Sum.inl.inj q)
  rw[zc1 h]
  exact (zg8.mpr e).symm
theorem cC (a b:Str):decide ((Sum.inr a:Key)=Sum.inr b)=decide (a=b):=by
 by_cases e:a=b
 ·subst e;simp
 ·have h:¬(Sum.inr a:Key)=Sum.inr b:=fun q=>e (Sum.inr.inj q)
  rw[zc1 h,zc1 e]
theorem eG (a:Int)(b:Str):decide ((Sum.inl a:Key)=Sum.inr b)=false:=zc1 (fun q=>nomatch q)
theorem eL (a:Str)(b:Int):decide ((Sum.inr a:Key)=Sum.inl b)=false:=zc1 (fun q=>nomatch q)
def yB (prog:Program)(w:World):PySem.KeyKind prog w Key where
 is:=tF
 hash:=bX w
 inj:=fun v a b ha hb=>by
  rcases zV ha with ⟨i,t,rfl,rfl⟩|⟨x,t,rfl,rfl⟩
  ·rcases zV hb with ⟨j,u,rfl,e⟩|⟨y,u,rfl,e⟩
   ·injection e with e1 _;rw[e1]
   ·exact nomatch e
  ·rcases zV hb with ⟨j,u,rfl,e⟩|⟨y,u,rfl,e⟩
   ·exact nomatch e
   ·injection e with e1 _;rw[e1]
 byValue:=fun k v h=>by
  rcases zV h with ⟨i,t,rfl,rfl⟩|⟨x,t,rfl,rfl⟩<;>rfl
 pyHash:=fun hv h=>by
  rcases zV hv with ⟨i,t,rfl,rfl⟩|⟨x,t,rfl,rfl⟩
  ·exact wpAny_pyHash_int h
  ·exact wpAny_pyHash_str h
 eqBool:=fun hu hv h=>by
  rcases zV hu with ⟨i,t,rfl,rfl⟩|⟨x,t,rfl,rfl⟩
  ·rcases zV hv with ⟨j,u,rfl,rfl⟩|⟨y,u,rfl,rfl⟩
   ·rw[cA] at h;exact wpAny_eqBool_int h
   ·rw[eG] at h;exact SeqAt.EqAt.int_str i t y u _ _ _ _ h
  ·rcases zV hv with ⟨j,u,rfl,rfl⟩|⟨y,u,rfl,rfl⟩
   ·rw[eL] at h;exact SeqAt.EqAt.str_int x t j u _ _ _ _ h
   ·rw[cC] at h;exact wpAny_eqBool_str h
 «strs»:=fun k x t v h=>by
  rcases zV h with ⟨i,u,rfl,e⟩|⟨y,u,rfl,e⟩
  ·exact nomatch e
  ·injection e with e1 _
   subst e1
   cases v<;>rfl
theorem qI (prog:Program)(w:World)(i:Int)(t:Tok):(yB prog w).is (.inl i) (.int i t)=true:=mF i t
theorem rX (prog:Program)(w:World)(x:Str)(t:Tok):(yB prog w).is (.inr x) (.str x t)=true:=mU x t
inductive V where
 |non|bl (b:Bool)|int (i:Int)|str (x:Str)|byt (b:Array UInt8)|flt (b:UInt64)|ref (a:Addr)|ty (n:String)
 deriving DecidableEq
def RelV :V→Value→Prop
 |.non,u=>u=Value.none
 |.bl b,u=>u=Value.bool b
 |.int i,u=>∃t,u=Value.int i t
 |.str x,u=>∃t,u=Value.str x t
 |.byt b,u=>∃t,u=Value.bytes b t
 |.flt b,u=>∃t,u=Value.float b t
 |.ref a,u=>u=Value.ref a
 |.ty n,u=>u=Value.type n
abbrev Vals :List V→List Value→Prop:=Paired RelV
theorem Vals.length {xs:List V}{us:List Value}(r:Vals xs us):xs.length=us.length:=Paired.length r
theorem Vals.get :∀{xs:List V} {us:List Value} {i:Nat} {x:V},Vals xs us→xs[i]?=some x→∃u,us[i]?=some u∧RelV x u
 |_,_,_,_,.nil,e=>by simp at e
 |_,_,0,_,.cons r _,e=>by simp at e;subst e;exact⟨_,rfl,r⟩
 |_,_,i+1,x,.cons _ t,e=>by
  obtain⟨u,h1,h2⟩:=Vals.get (i:=i) (x:=x) t (by simpa using e)
  exact⟨u,by simpa using h1,h2⟩
theorem Vals.set {x:V}{u:Value}(r:RelV x u):∀{xs:List V} {us:List Value} (i:Nat),Vals xs us→Vals (xs.set i x) (us.set i u)
 |_,_,_,.nil=>.nil
 |_,_,0,.cons _ t=>.cons r t
 |_,_,i+1,.cons q t=>.cons q (Vals.set r i t)
theorem Vals.append :∀{xs ys:List V} {us ws:List Value},Vals xs us→Vals ys ws→Vals (xs++ys) (us++ws)
 |_,_,_,_,.nil,s=>s
 |_,_,_,_,.cons r t,s=>.cons r (Vals.append t s)
theorem Vals.take :∀{xs:List V} {us:List Value} (n:Nat),Vals xs us→Vals (xs.take n) (us.take n)
 |_,_,0,_=>.nil
 |_,_,_+1,.nil=>.nil
 |_,_,n+1,.cons r t=>.cons r (Vals.take n t)
theorem Vals.drop :∀{xs:List V} {us:List Value} (n:Nat),Vals xs us→Vals (xs.drop n) (us.drop n)
 |_,_,0,r=>r
 |_,_,_+1,.nil=>.nil
 |_,_,n+1,.cons _ t=>Vals.drop n t
def wO :Option V→Option Value→Prop
 |some v,some u=>RelV v u
 |none,none=>True
 |_,_=>False
def KV {κ:Type}:List (κ×V)→List (κ×Value)→Prop:=Paired fun (p:κ×V) (q:κ×Value)=>p.1=q.1∧RelV p.2 q.2
def kV :Key→V
 |.inl i=>.int i
 |.inr x=>.str x
inductive HO where
  |lst (xs:List V)
  |tup (xs:List V)
  |dK (kvs:List (Key×V))|dT (kvs:List (List Key×V))
  |set (S:Int→Bool) (n:Nat)
  |ins (C dx:Addr) (fs:List (Str×V))
  |own (x:Addr)
  |xd (fs:List (Str×V))
  |met (f x:Addr)
  |rng (lo hi:Int)
  |frz (o:Obj) (u:HO)
  |tbl (ps:Array Value)
  |ext (φ:Heap→Prop)
abbrev Hp :=Addr→Option HO
def upd (H:Hp)(a:Addr)(o:HO):Hp:=fun b=>if b=a then some o else H b
theorem ze {H:Hp}{a:Addr}{o:HO}:upd H a o a=some o:=by unfold upd;rw[if_pos rfl]
theorem zc {H:Hp}{a b:Addr}{o:HO}(h:b≠a):upd H a o b=H b:=by unfold upd;rw[if_neg h]
theorem ud {H:Hp}{a:Addr}{o u:HO}:upd (upd H a o) a u=upd H a u:=by
 funext b;unfold upd;split<;>rfl
theorem uB {H:Hp}{a b:Addr}{o u:HO}(h:H a=some o)(h':H b=some u)(d:o≠u):a≠b:=by
 intro e;subst e;rw[h] at h';exact d (za3 h')
theorem zd {H:Hp}{a b:Addr}{o:HO}(h:H a=some o)(h':H b=none):a≠b:=by
 intro e;subst e;rw[h] at h';cases h'
section
variable (P:Program)(w:World)
def yi (H:Hp)(h:Heap)(a:Addr):HO→Prop
 |.lst xs=>xs.length≤sizeLine∧∃(its:List Value) (n:Nat),Vals xs its∧h.get? a=some {cls:=.type "list",data:=.seq its.toArray n}
 |.tup xs=>xs.length≤sizeLine∧∃its:List Value,Vals xs its∧IsTup h a its.toArray
 |.dK kvs=>kvs.length≤sizeLine∧(a == sysModules)=false∧∃vs,KV kvs vs∧h.DictOf (yB P w) a vs
 |.dT kvs=>kvs.length≤sizeLine∧(a == sysModules)=false∧∃xs:List (List Key×Addr×Value),
   Paired (fun (p:List Key×V) (q:List Key×Addr×Value)=>p.1=q.1∧H q.2.1=some (.tup (p.1.map kV))∧RelV p.2 q.2.2) kvs xs∧
   ∃o es ep,h.get? a=some o∧o.ExactDict∧o.data=.dict es ep∧es.toList=xs.map (entryOfKey (tupleKind (yB P w)))∧(xs.map (·.1)).Nodup
 |.set S n=>h.SetOf (intKind P w) a S n
 |.ins C dx fs=>H dx=some (.own a)∧fs.length≤1000∧dx≠a∧h.get? a=some (PySem.W.instObj C dx)∧
   ∃mA,h.Ns1 dx mA∧(∀f,wO (fs.lookup f) (mA f))∧PySem.Within mA (fs.map (·.1))
 |.own _=>∃o,h.get? a=some o
 |.xd fs=>∃mA,h.Ns1 a mA∧∀f,wO (fs.lookup f) (mA f)
 |.rng lo hi=>∃t u v,h.get? a=some {cls:=.type "range",data:=.fields #[.int lo t,.int hi u,.int 1 v]}
 |.frz o u=>h.get? a=some o∧yi H h a u
 |.tbl ps=>h.get? a=some {cls:=.none,data:=.fields ps}
 |.met f x=>h.get? a=some (PySem.W.methodObj (.ref f) (.ref x))
 |.ext φ=>φ h∧(∃o,h.get? a=some o)∧∀h1 h2:Heap,φ h1→(∀o,h1.get? a=some o→h2.get? a=some o)→φ h2
def HOk (H:Hp)(h:Heap):Prop:=∀a o,H a=some o→yi P w H h a o
end
section
variable {P:Program}{w:World}{H H':Hp}{h h':Heap}{a:Addr}{o:HO}
theorem yi.lt (x:yi P w H h a o):a<h.objs.size:=by
 cases o with
 |lst xs=>obtain⟨_,_,_,_,e⟩:=x;exact aQ e
 |tup xs=>obtain⟨_,_,_,p⟩:=x;exact p.lt
 |dK kvs=>obtain⟨_,_,_,_,o,_,_,e,_⟩:=x;exact aQ e
 |dT kvs=>obtain⟨_,_,_,_,o,_,_,e,_⟩:=x;exact aQ e
 |set S n=>obtain⟨o,_,_,_,e,_⟩:=x;exact aQ e
 |ins C dx fs=>obtain⟨_,_,_,e,_⟩:=x;exact aQ e
 |own y=>obtain⟨_,e⟩:=x;exact aQ e
 |xd fs=>obtain⟨_,⟨_,_,_,e,_⟩,_⟩:=x;exact aQ e
 |rng lo hi=>obtain⟨_,_,_,e⟩:=x;exact aQ e
 |frz ob u=>obtain⟨e,_⟩:=x;exact aQ e
 |tbl ps=>exact aQ (show h.get? a=some _ from x)
 |met f y=>exact aQ (show h.get? a=some _ from x)
 |ext φ=>obtain⟨_,⟨_,e⟩,_⟩:=x;exact aQ e
theorem Paired.mapP {α β:Type}{F G:α→β→Prop}:∀{l₁:List α} {l₂:List β},Paired F l₁ l₂→(∀a b,F a b→G a b)→Paired G l₁ l₂
 |_,_,.nil,_=>.nil
 |_,_,.cons r t,f=>.cons (f _ _ r) (Paired.mapP t f)
theorem yi.stay (x:yi P w H h a o)(k:∀b u,(b=a∨H b=some (.own a))→h.get? b=some u→h'.get? b=some u)
  (ho:∀b,H b=some (.own a)→H' b=some (.own a)) (ht:∀b xs,H b=some (.tup xs)→H' b=some (.tup xs)):yi P w H' h' a o:=by
 induction o with
 |lst xs=>obtain⟨z,its,n,r,e⟩:=x;exact⟨z,its,n,r,k _ _ (.inl rfl) e⟩
 |tup xs=>obtain⟨z,its,r,ob,e,c⟩:=x;exact⟨z,its,r,ob,k _ _ (.inl rfl) e,c⟩
 |dK kvs=>obtain⟨z,y,vs,r,ob,es,ep,e,c⟩:=x;exact⟨z,y,vs,r,ob,es,ep,k _ _ (.inl rfl) e,c⟩
 |dT kvs=>
  obtain⟨z,y,xs,r,ob,es,ep,e,c⟩:=x
  exact⟨z,y,xs,Paired.mapP r fun p q z=>⟨z.1,ht _ _ z.2.1,z.2.2⟩,ob,es,ep,k _ _ (.inl rfl) e,c⟩
 |set S n=>obtain⟨ob,es,ep,t,e,c⟩:=x;exact⟨ob,es,ep,t,k _ _ (.inl rfl) e,c⟩
 |ins C dx fs=>
  obtain⟨d,z,ne,e,mA,⟨od,es,ep,e2,c⟩,r⟩:=x
  exact⟨ho _ d,z,ne,k _ _ (.inl rfl) e,mA,⟨od,es,ep,k _ _ (.inr d) e2,c⟩,r⟩
 |own y=>obtain⟨ob,e⟩:=x;exact⟨ob,k _ _ (.inl rfl) e⟩
 |xd fs=>obtain⟨mA,⟨od,es,ep,e,c⟩,r⟩:=x;exact⟨mA,⟨od,es,ep,k _ _ (.inl rfl) e,c⟩,r⟩
 |rng lo hi=>obtain⟨t,u,v,e⟩:=x;exact⟨t,u,v,k _ _ (.inl rfl) e⟩
 |frz ob u ih=>obtain⟨e,q⟩:=x;exact⟨k _ _ (.inl rfl) e,ih q⟩
 |tbl ps=>
  have e:h.get? a=some {cls:=.none,data:=.fields ps}:=x
  show h'.get? a=some {cls:=.none,data:=.fields ps}
  exact k a _ (.inl rfl) e
 |met f y=>
  have e:h.get? a=some (PySem.W.methodObj (.ref f) (.ref y)):=x
  show h'.get? a=some (PySem.W.methodObj (.ref f) (.ref y))
  exact k a _ (.inl rfl) e
 |ext φ=>obtain⟨p,⟨o,e⟩,st⟩:=x;exact⟨st _ _ p fun o q=>k _ _ (.inl rfl) q,⟨o,k _ _ (.inl rfl) e⟩,st⟩
theorem HOk.lt (x:HOk P w H h)(e:H a=some o):a<h.objs.size:=(x a o e).lt
theorem HOk.fresh (x:HOk P w H h)(e:h.objs.size≤a):H a=none:=by
 cases q:H a with
 |none=>rfl
 |some u=>exact absurd (za2 (x.lt q) e) (ze9 _)
theorem HOk.kept (x:HOk P w H h)(k:∀b u,h.get? b=some u→h'.get? b=some u):HOk P w H h':=fun a o e=>
 (x a o e).stay (fun b u _ q=>k b u q) (fun _ q=>q) fun _ _ q=>q
theorem HOk.laid (x:HOk P w H h)(k:∀b u,h.get? b=some u→h'.get? b=some u)(hp:h.objs.size≤a)(new:yi P w (upd H a o) h' a o):HOk P w (upd H a o) h':=fun b u e=>by
 have hn:=x.fresh hp
 by_cases hb:b=a
 ·subst hb;rw[ze] at e;cases e;exact new
 ·rw[zc hb] at e
  exact (x b u e).stay (fun c v _ q=>k c v q) (fun c q=>by rw[zc (zd q hn)];exact q) fun c xs q=>by rw[zc (zd q hn)];exact q
end
def Rd (H:Hp)(a:Addr)(u:HO):Prop:=H a=some u∨∃o,H a=some (.frz o u)
theorem Rd.ok {P:Program}{w:World}{H:Hp}{h:Heap}{a:Addr}{u:HO}(r:Rd H a u)(x:HOk P w H h):yi P w H h a u:=by
 rcases r with r|⟨o,r⟩
 ·exact x a u r
 ·obtain⟨_,q⟩:=x a _ r
  exact q
def Mut :Option HO→Prop
 |some (.lst _)=>True
 |some (.dK _)=>True
 |some (.dT _)=>True
 |some (.set _ _)=>True
 |some (.ins _ _ _)=>True
 |some (.ext _)=>True
 |_=>False
section
variable {P:Program}{w:World}{H:Hp}{h h':Heap}{x e:Addr}{o':HO}
theorem HOk.write (ok:HOk P w H h)(mu:Mut (H x))(he:e=x∨H e=some (.own x))(k:∀b u,b≠e→h.get? b=some u→h'.get? b=some u)(heo:∃u,h'.get? e=some u)
  (new:yi P w (upd H x o') h' x o'):HOk P w (upd H x o') h':=fun b u q=>by
 have nown:∀c y,H c=some (.own y)→c≠x:=fun c y r z=>by subst z;rw[r] at mu;exact mu
 have ntup:∀c xs,H c=some (.tup xs)→c≠x:=fun c xs r z=>by subst z;rw[r] at mu;exact mu
 by_cases hb:b=x
 ·subst hb;rw[ze] at q;cases q;exact new
 ·rw[zc hb] at q
  by_cases hbe:b=e
  ·have q':H b=some (.own x):=by
    rcases he with z|z
    ·exact absurd (hbe.trans z) hb
    ·rw[hbe];exact z
   rw[q] at q';cases q'
   obtain⟨v,hv⟩:=heo
   exact⟨v,by rw[hbe];exact hv⟩
  ·refine (ok b u q).stay (fun c v hc r=>k c v ?_ r) (fun c r=>by rw[zc (nown c b r)];exact r) fun c xs r=>by rw[zc (ntup c xs r)];exact r
   rcases hc with rfl|hc
   ·exact hbe
   ·rintro rfl
    rcases he with z|z
    ·exact nown c b hc z
    ·rw[hc] at z;cases z;exact hb rfl
end
structure Un (fs ex:List Addr)(H H':Hp)(h h':Heap):Prop where
 keep:∀b o,h.get? b=some o→H b=none→b∉fs→b∉ex→h'.get? b=some o
 slot:∀b o,h.get? b=some o→H b=none→b∈fs→b∉ex→∃sl,h'.get? b=some {o with slots:=sl}
 free:∀b o,h.get? b=some o→H b=none→b∉ex→H' b=none
 there:∀b o,h.get? b=some o→b∉ex→∃o',h'.get? b=some o'
 tups:∀b xs,H b=some (.tup xs)→H' b=some (.tup xs)
 frzs:∀b o u,H b=some (.frz o u)→H' b=some (.frz o u)
 tbls:∀b ps,H b=some (.tbl ps)→∃more,H' b=some (.tbl (ps++more))
section
variable {fs fs' ex ex':List Addr}{H H1 H2:Hp}{h h1 h2 h':Heap}{a x e:Addr}{o:HO}
theorem Un.any (u:Un fs ex H H1 h h1){b:Addr}{ob:Obj}(q:h.get? b=some ob)(n:H b=none)(hx:b∉ex):∃sl,h1.get? b=some {ob with slots:=sl}:=by
 by_cases hb:b∈fs
 ·exact u.slot b ob q n hb hx
 ·exact⟨ob.slots,u.keep b ob q n hb hx⟩
theorem Un.kept (k:∀b u,h.get? b=some u→h'.get? b=some u):Un fs ex H H h h':=
 ⟨fun b ob q _ _ _=>k b ob q,fun b ob q _ _ _=>⟨ob.slots,k b ob q⟩,fun _ _ _ n _=>n,fun b ob q _=>⟨ob,k b ob q⟩,fun _ _ q=>q,fun _ _ _ q=>q,fun _ ps q=>⟨#[],by rw[q];simp⟩⟩
theorem Un.refl :Un fs ex H H h h:=Un.kept fun _ _ q=>q
theorem Un.laid (k:∀b u,h.get? b=some u→h'.get? b=some u)(hp:h.objs.size≤a)(hn:H a=none):Un fs ex H (upd H a o) h h' where
 keep:=fun b u q _ _ _=>k b u q
 slot:=fun b u q _ _ _=>⟨u.slots,k b u q⟩
 free:=fun b u q n _=>by rw[zc (za1 (za2 (aQ q) hp))];exact n
 there:=fun b u q _=>⟨u,k b u q⟩
 tups:=fun b xs q=>by rw[zc (zd q hn)];exact q
 frzs:=fun b u xs q=>by rw[zc (zd q hn)];exact q
 tbls:=fun b ps q=>⟨#[],by rw[zc (zd q hn),q];simp⟩
theorem Un.write (mu:Mut (H x))(he:e=x∨H e=some (.own x))(k:∀b u,b≠e→h.get? b=some u→h'.get? b=some u)(heo:∃u,h'.get? e=some u):Un fs ex H (upd H x o) h h':=by
 have hx:∀b,H b=none→b≠x:=fun b n z=>by subst z;rw[n] at mu;exact mu
 have hb:∀b,H b=none→b≠e:=fun b n z=>by
  subst z
  rcases he with r|r
  ·exact hx b n r
  ·rw[n] at r;cases r
 have hm:∀b u,H b=some u→¬Mut (some u)→b≠x:=fun b u q nm z=>by subst z;rw[q] at mu;exact nm mu
 refine⟨fun b u q n _ _=>k b u (hb b n) q,fun b u q n _ _=>⟨u.slots,k b u (hb b n) q⟩,fun b u q n _=>by rw[zc (hx b n)];exact n,fun b u q _=>?_,
  fun b xs q=>by rw[zc (hm b _ q fun z=>z)];exact q,fun b u xs q=>by rw[zc (hm b _ q fun z=>z)];exact q,fun b ps q=>⟨#[],by rw[zc (hm b _ q fun z=>z),q];simp⟩⟩
 by_cases hbe:b=e
 ·subst hbe;exact heo
 ·exact⟨u,k b u hbe q⟩
end
def trk (h:Heap)(H:Hp):List Addr:=(List.range h.objs.size).filter fun a=>(H a).isSome
def sk (h:Heap)(H:Hp):Heap:=PySem.W.hideAll h (trk h H)
theorem nU (h:Heap)(H:Hp):(sk h H).objs.size=h.objs.size:=PySem.W.hideAll_size _ _
theorem kg {h:Heap}{H:Hp}{b:Addr}{o:Obj}(e:h.get? b=some o)(n:H b=none):(sk h H).get? b=some o:=
 PySem.W.hideAll_get _ e fun hm=>by
  have q:(H b).isSome=true:=(zd7.mp hm).2
  rw[n] at q;simp at q
theorem iY {h:Heap}{H:Hp}{b:Addr}{o:Obj}(e:(sk h H).get? b=some o):h.get? b=some o∧H b=none:=by
 have e':h.get? b=some o:=PySem.W.of_hideAll (trk h H) e
 refine⟨e',?_⟩
 cases q:H b with
 |none=>rfl
 |some x=>
  have hm:b∈trk h H:=zd7.mpr ⟨List.mem_range.mpr (aQ e'),by simp[q]⟩
  have z:(sk h H).get? b=none:=PySem.W.hideAll_none (trk h H) hm
  rw[z] at e;cases e
structure Mod (K:PySem.W.Frag)(mg:Str→Option Value)(base:Heap):Prop where
 kin:K.In base
 glob:base.Ns mainGlobals mg
 blt:∃mb,base.Ns builtinsNs mb∧∀x:Str,x≠"__name__"→mb x=bootBuiltins x
 nolimit:base.NoLimit
structure Cx where
 prog:Program
 w:World
 K:PySem.W.Frag
 mg:Str→Option Value
 base:Heap
 A:Around
 N:List Str
 s₀:Shared
 H₀:Hp
 env:Env
 outer:List Env
 stack:List Env
 ex:List Addr
 fn:Str→Bool
 calm:Bool
 pn:List (Addr×Obj)
 xe:Value→Shared→Prop
def frs (l:List Env):List Addr:=l.filterMap (·.frame)
abbrev Cx.fs (X:Cx):List Addr:=frs X.outer
def Vis (sc:Scope)(x:Str):Prop:=sc.names.lookup x=some .local∨sc.names.lookup x=some .cell∨sc.names.lookup x=some .free
def Loc (sc:Scope)(x:Str):Prop:=sc.names.lookup x=some .local∨sc.names.lookup x=some .cell
def Look (env:Env)(h:Heap)(m:Str→Option Value)(x:Str)(u:Value):Prop:=
 (env.kindOf x=some .local∧m x=some u)∨((env.kindOf x=some .cell∨env.kindOf x=some .free)∧∃c,env.cells.lookup x=some c∧h.IsCell c (some u))
structure Cx.Ok (X:Cx):Prop where
 mod:Mod X.K X.mg X.base
 kind:X.env.scope.kind=.function
 glob:X.env.globals=mainGlobals
 blt:X.env.builtins=builtinsNs
 above:X.s₀.heap.objs.size≤X.env.locals
 inj:∀x y c,X.env.cells.lookup x=some c→X.env.cells.lookup y=some c→x=y
 has:∀x,(X.env.kindOf x=some .cell∨X.env.kindOf x=some .free)→∃c,X.env.cells.lookup x=some c
 cab:∀x c,X.fn x=true→X.env.cells.lookup x=some c→X.s₀.heap.objs.size≤c
 hd:X.calm=true→X.A.handled=none
 frames:X.A.frames=some X.stack
 stk:X.stack=X.outer∨(X.stack=X.env::X.outer∧X.env.frame=some X.env.locals)
 exf:∀b∈X.ex,b≠X.env.locals∧∀x c,X.env.cells.lookup x=some c→c≠b
 bs:∀b o,X.base.get? b=some o→X.s₀.heap.get? b=some o∧X.H₀ b=none
 bsz:X.base.objs.size≤X.s₀.heap.objs.size
 noex:∀b o,X.base.get? b=some o→b∉X.ex
 exfs:∀b∈X.ex,b∉X.fs
 funs:X.s₀.heap.FunFrames X.base X.outer
 frf:∀b∈X.fs,X.H₀ b=none
structure Inv (X:Cx)(pins:List (Addr×Obj))(σ:List (Option V))(H:Hp)(s:Shared):Prop where
 ok:X.Ok
 os:s.os=X.s₀.os
 bare:AllBare s.gens
 base:Un X.fs X.ex X.H₀ H X.s₀.heap s.heap
 loc:∃m,s.heap.Ns X.env.locals m∧∀(i:Nat) (x:Str) (v:V),X.N[i]?=some x→σ[i]?=some (some v)→Vis X.env.scope x→∃u,RelV v u∧Look X.env s.heap m x u
 cell:∀x c,X.env.cells.lookup x=some c→∃v,s.heap.IsCell c v
 free:H X.env.locals=none
 freeC:∀x c,X.env.cells.lookup x=some c→H c=none
 pin:∀p∈X.pn++pins,s.heap.get? p.1=some p.2∧H p.1=none∧p.1≠X.env.locals∧p.1∉X.fs∧∀v,p.2.data≠.cell v
 hok:HOk X.prog X.w H s.heap
 len:σ.length=X.N.length
section
variable {X:Cx}{pins:List (Addr×Obj)}{σ:List (Option V)}{H H':Hp}{s:Shared}{h':Heap}
theorem Cx.Ok.nofr (ok:X.Ok){b:Addr}{o:Obj}(e:X.base.get? b=some o):b∉X.fs:=fun hb=>by
 have:=(ok.funs.mem hb).1
 rw[e] at this;cases this
theorem Inv.bs (I:Inv X pins σ H s):∀b o,X.base.get? b=some o→s.heap.get? b=some o∧H b=none:=fun b o e=>
 ⟨I.base.keep b o (I.ok.bs b o e).1 (I.ok.bs b o e).2 (I.ok.nofr e) (I.ok.noex b o e),I.base.free b o (I.ok.bs b o e).1 (I.ok.bs b o e).2 (I.ok.noex b o e)⟩
theorem Inv.bk (I:Inv X pins σ H s):∀b o,X.base.get? b=some o→s.heap.get? b=some o:=fun b o e=>(I.bs b o e).1
theorem Inv.mod (I:Inv X pins σ H s):Mod X.K X.mg X.base:=I.ok.mod
theorem Inv.kIn (I:Inv X pins σ H s):X.K.In s.heap:=I.ok.mod.kin.keeps I.bk
theorem Inv.lt (I:Inv X pins σ H s):X.env.locals<s.heap.objs.size:=let ⟨_,hn,_⟩:=I.loc;hn.lt
theorem Inv.sz (I:Inv X pins σ H s):X.s₀.heap.objs.size≤s.heap.objs.size:=zb4 I.ok.above (zd5 I.lt)
theorem Inv.nofs (I:Inv X pins σ H s){a:Addr}(h:s.heap.objs.size≤a):a∉X.fs:=fun hb=>by
 obtain⟨_,o,ho,_⟩:=I.ok.funs.mem hb
 exact absurd (za2 (aQ ho) (zb4 I.sz h)) (ze9 _)
theorem Inv.cne (I:Inv X pins σ H s):∀x c,X.env.cells.lookup x=some c→c≠X.env.locals:=fun x c e z=>by
 obtain⟨v,o,ho,hd⟩:=I.cell x c e
 obtain⟨m,⟨o',es,ep,ho',hd',_⟩,_⟩:=I.loc
 rw[z,ho'] at ho;cases ho;rw[hd'] at hd;cases hd
theorem Inv.funs (I:Inv X pins σ H s):s.heap.FunFrames X.base X.outer:=by
 have all:∀(l:List Env),(∀b∈frs l,b∈X.fs)→X.s₀.heap.FunFrames X.base l→s.heap.FunFrames X.base l:=by
  intro l
  induction l with
  |nil=>intro _ _;trivial
  |cons env r ih=>
   intro hs hl
   obtain⟨hk,⟨L,o,hf,hn,ho,hd⟩,hr⟩:=hl
   have hL:L∈X.fs:=hs L (by unfold frs;rw[zi5,hf];exact aJ)
   obtain⟨sl,e⟩:=I.base.slot L o ho (I.ok.frf L hL) hL fun z=>I.ok.exfs L z hL
   exact⟨hk,⟨L,_,hf,hn,e,hd⟩,ih (fun b hb=>hs b (by unfold frs;rw[zi5,hf];exact aK _ hb)) hr⟩
 exact all X.outer (fun _ hb=>hb) I.ok.funs
theorem Inv.stack (I:Inv X pins σ H s):s.heap.FunFrames X.base X.stack:=by
 rcases I.ok.stk with e|⟨e,hf⟩
 ·rw[e];exact I.funs
 ·rw[e]
  obtain⟨m,hn,_⟩:=I.loc
  refine .cons (by rw[I.ok.kind];decide) hf hn ?_ I.funs
  exact Heap.get?_none_of_le (zb4 I.ok.bsz I.ok.above)
theorem Inv.stkSub (I:Inv X pins σ H s):∀b∈frs X.stack,b∈X.env.locals::X.fs:=fun b hb=>by
 rcases I.ok.stk with e|⟨e,hf⟩
 ·rw[e] at hb;exact aK _ hb
 ·rw[e] at hb
  unfold frs at hb
  rw[zi5,hf] at hb
  exact hb
theorem Inv.stkFree (I:Inv X pins σ H s):∀b∈frs X.stack,H b=none:=fun b hb=>by
 rcases aP.mp (I.stkSub b hb) with e|hb
 ·rw[e];exact I.free
 ·obtain⟨_,o,ho,_⟩:=I.ok.funs.mem hb
  exact I.base.free b o ho (I.ok.frf b hb) fun z=>I.ok.exfs b z hb
theorem Inv.step {g':Array GenState}{t':Nat}{d':Drawn}{ch:List Addr}(I:Inv X pins σ H s)
  (hch:∀b∈ch,(b∈X.ex∨X.s₀.heap.objs.size≤b)∧b≠X.env.locals∧(∀x c,X.env.cells.lookup x=some c→c≠b)∧∀p∈X.pn++pins,p.1≠b)
  (keep:∀b o,b≠X.env.locals→b∉X.fs→b∉ch→s.heap.get? b=some o→H b=none→h'.get? b=some o)
  (slot:∀b o,b≠X.env.locals→b∈X.fs→b∉ch→s.heap.get? b=some o→H b=none→∃sl,h'.get? b=some {o with slots:=sl}) (free:∀b o,b∉ch→s.heap.get? b=some o→H b=none→H' b=none)
  (there:∀b o,b∉ch→s.heap.get? b=some o→∃o',h'.get? b=some o')
  (tups:∀b xs,H b=some (.tup xs)→H' b=some (.tup xs)) (frzs:∀b o u,H b=some (.frz o u)→H' b=some (.frz o u)) (tbls:∀b ps,H b=some (.tbl ps)→∃more,H' b=some (.tbl (ps++more)))
  (ns:∀m,s.heap.Ns X.env.locals m→h'.Ns X.env.locals m) (hok:HOk X.prog X.w H' h') (hg:AllBare g'):
  Inv X pins σ H' {s with heap:=h',gens:=g',drawn:=d',toks:=t'}:=by
 have neL:∀b o,X.s₀.heap.get? b=some o→b≠X.env.locals:=fun b o e=>za1 (za2 (aQ e) I.ok.above)
 have neC:∀b o,X.s₀.heap.get? b=some o→b∉X.ex→b∉ch:=fun b o e hx hb=>by
  rcases (hch b hb).1 with z|z
  ·exact hx z
  ·exact absurd (za2 (aQ e) z) (ze9 _)
 have cellK:∀x c,X.env.cells.lookup x=some c→∀v,s.heap.IsCell c v→h'.IsCell c v:=fun x c e v ⟨o,ho,hd⟩=>by
  have nch:c∉ch:=fun z=>(hch c z).2.2.1 x c e rfl
  by_cases hc:c∈X.fs
  ·obtain⟨sl,q⟩:=slot c o (I.cne x c e) hc nch ho (I.freeC x c e)
   exact⟨_,q,hd⟩
  ·exact⟨o,keep c o (I.cne x c e) hc nch ho (I.freeC x c e),hd⟩
 refine⟨I.ok,I.os,hg,⟨fun b o e n hb hx=>?_,fun b o e n hb hx=>?_,fun b o e n hx=>?_,fun b o e hx=>?_,fun b xs e=>tups b xs (I.base.tups b xs e),fun b o xs e=>frzs b o xs (I.base.frzs b o xs e),fun b ps e=>?_⟩,?_,fun x c e=>?_,?_,fun x c e=>?_,fun p hp=>?_,hok,I.len⟩
 ·exact keep b o (neL b o e) hb (neC b o e hx) (I.base.keep b o e n hb hx) (I.base.free b o e n hx)
 ·obtain⟨sl,e1⟩:=I.base.slot b o e n hb hx
  obtain⟨sl',e2⟩:=slot b _ (neL b o e) hb (neC b o e hx) e1 (I.base.free b o e n hx)
  exact⟨sl',e2⟩
 ·obtain⟨o',e1⟩:=I.base.there b o e hx
  exact free b o' (neC b o e hx) e1 (I.base.free b o e n hx)
 ·obtain⟨o',e1⟩:=I.base.there b o e hx
  exact there b o' (neC b o e hx) e1
 ·obtain⟨m1,e1⟩:=I.base.tbls b ps e
  obtain⟨m2,e2⟩:=tbls b _ e1
  exact⟨m1++m2,by rw[e2,Array.append_assoc]⟩
 ·obtain⟨m,hn,hl⟩:=I.loc
  refine⟨m,ns m hn,fun i x v e1 e2 e3=>?_⟩
  obtain⟨u,r,l⟩:=hl i x v e1 e2 e3
  refine⟨u,r,?_⟩
  rcases l with l|⟨k,c,e,z⟩
  ·exact .inl l
  ·exact .inr ⟨k,c,e,cellK x c e _ z⟩
 ·obtain⟨v,z⟩:=I.cell x c e
  exact⟨v,cellK x c e v z⟩
 ·obtain⟨m,⟨o,_,_,ho,_⟩,_⟩:=I.loc
  exact free _ o (fun z=>(hch _ z).2.1 rfl) ho I.free
 ·obtain⟨v,o,ho,hd⟩:=I.cell x c e
  exact free c o (fun z=>(hch c z).2.2.1 x c e rfl) ho (I.freeC x c e)
 ·obtain⟨e,n,ne,nf,d⟩:=I.pin p hp
  have nch:p.1∉ch:=fun z=>(hch p.1 z).2.2.2 p hp rfl
  exact⟨keep p.1 p.2 ne nf nch e n,free p.1 p.2 nch e n,ne,nf,d⟩
theorem Inv.un {t':Nat}(I:Inv X pins σ H s)(u:Un X.fs [] H H' s.heap h')(hok:HOk X.prog X.w H' h'):Inv X pins σ H' {s with heap:=h',toks:=t'}:=by
 obtain⟨m,⟨o,es,ep,ho,r⟩,_⟩:=id I.loc
 obtain⟨sl,hL⟩:=u.any ho I.free (by simp)
 exact I.step (g':=s.gens) (d':=s.drawn) (ch:=[]) (fun _ z=>nomatch z) (fun b o _ hb _ e n=>u.keep b o e n hb (by simp)) (fun b o _ hb _ e n=>u.slot b o e n hb (by simp)) (fun b o _ e n=>u.free b o e n (by simp)) (fun b o _ e=>u.there b o e (by simp)) u.tups u.frzs u.tbls (fun m' hm=>by
  obtain⟨o',es',ep',ho',r'⟩:=hm
  rw[ho] at ho';cases ho'
  exact⟨_,es',ep',hL,r'⟩) hok I.bare
theorem Inv.call {g':Array GenState}{t':Nat}{d':Drawn}{ch:List Addr}(I:Inv X pins σ H s)(u:Un (frs X.stack) ch H H' s.heap h')(hok:HOk X.prog X.w H' h')(hg:AllBare g')
  (hch:∀b∈ch,(b∈X.ex∨X.s₀.heap.objs.size≤b)∧b≠X.env.locals∧(∀x c,X.env.cells.lookup x=some c→c≠b)∧∀p∈X.pn++pins,p.1≠b):
  Inv X pins σ H' {s with heap:=h',gens:=g',drawn:=d',toks:=t'}:=by
 obtain⟨m,⟨o,es,ep,ho,r⟩,_⟩:=id I.loc
 obtain⟨sl,hL⟩:=u.any ho I.free fun z=>(hch _ z).2.1 rfl
 exact I.step (ch:=ch) hch (fun b o hL hb hc e n=>u.keep b o e n (fun z=>(aP.mp (I.stkSub b z)).elim hL hb) hc) (fun b o _ _ hc e n=>u.any e n hc) (fun b o hc e n=>u.free b o e n hc) (fun b o hc e=>u.there b o e hc) u.tups u.frzs u.tbls (fun m' hm=>by
  obtain⟨o',es',ep',ho',r'⟩:=hm
  rw[ho] at ho';cases ho'
  exact⟨_,es',ep',hL,r'⟩) hok hg
theorem Inv.turned {t':Nat}{it:Addr}(I:Inv X pins σ H s)(k:∀b o,b≠it→s.heap.get? b=some o→h'.get? b=some o)(hn:H it=none)(hL:it≠X.env.locals)
  (h1:it∈X.ex∨X.s₀.heap.objs.size≤it) (h2:∀x c,X.env.cells.lookup x=some c→c≠it) (h3:∀p∈X.pn++pins,p.1≠it):Inv X pins σ H {s with heap:=h',toks:=t'}:=by
 have nit:∀b u,H b=some u→b≠it:=fun b u e z=>by rw[z,hn] at e;cases e
 refine I.step (g':=s.gens) (d':=s.drawn) (ch:=[it]) (fun b hb=>?_) (fun b o _ _ hc e _=>k b o (fun z=>hc (by simp[z])) e) (fun b o _ _ hc e _=>⟨o.slots,k b o (fun z=>hc (by simp[z])) e⟩) (fun _ _ _ _ n=>n)
  (fun b o hc e=>⟨o,k b o (fun z=>hc (by simp[z])) e⟩) (fun _ _ e=>e) (fun _ _ _ e=>e) (fun b ps e=>⟨#[],by rw[e];simp⟩) (fun m hm=>?_) (fun b u e=>?_) I.bare
 ·have e:b=it:=by simpa using hb
  subst e
  exact⟨h1,hL,h2,h3⟩
 ·obtain⟨o,es,ep,ho,r⟩:=hm
  exact⟨o,es,ep,k _ o (Ne.symm hL) ho,r⟩
 ·refine (I.hok b u e).stay (fun c v hc q=>k c v ?_ q) (fun _ q=>q) fun _ _ q=>q
  rcases hc with z|z
  ·rw[z];exact nit b u e
  ·exact nit c _ z
theorem Inv.tok (I:Inv X pins σ H s)(t:Nat):Inv X pins σ H {s with toks:=t}:=I.un (h':=s.heap) (t':=t) Un.refl I.hok
theorem Inv.kept {t':Nat}(I:Inv X pins σ H s)(k:∀b u,s.heap.get? b=some u→h'.get? b=some u):Inv X pins σ H {s with heap:=h',toks:=t'}:=I.un (Un.kept k) (I.hok.kept k)
theorem Inv.laid {a:Addr}{o:HO}{t':Nat}(I:Inv X pins σ H s)(k:∀b u,s.heap.get? b=some u→h'.get? b=some u)(hp:s.heap.objs.size≤a)(new:yi X.prog X.w (upd H a o) h' a o):
  Inv X pins σ (upd H a o) {s with heap:=h',toks:=t'}:=I.un (Un.laid k hp (I.hok.fresh hp)) (I.hok.laid k hp new)
theorem Inv.write {x e:Addr}{o:HO}{t':Nat}(I:Inv X pins σ H s)(mu:Mut (H x))(he:e=x∨H e=some (.own x))(k:∀b u,b≠e→s.heap.get? b=some u→h'.get? b=some u)(heo:∃u,h'.get? e=some u)
  (new:yi X.prog X.w (upd H x o) h' x o):Inv X pins σ (upd H x o) {s with heap:=h',toks:=t'}:=I.un (Un.write mu he k heo) (I.hok.write mu he k heo new)
theorem Inv.pins_of {pins':List (Addr×Obj)}(I:Inv X pins σ H s)(h:∀p∈pins',s.heap.get? p.1=some p.2∧H p.1=none∧p.1≠X.env.locals∧p.1∉X.fs∧∀v,p.2.data≠.cell v):Inv X pins' σ H s:=
 ⟨I.ok,I.os,I.bare,I.base,I.loc,I.cell,I.free,I.freeC,fun p hp=>(za8.mp hp).elim (fun z=>I.pin p (zf2 _ z)) (h p),I.hok,I.len⟩
theorem qf {N:List Str}(hN:N.Nodup){i j:Nat}{x:Str}(a:N[i]?=some x)(b:N[j]?=some x):i=j:=by
 obtain⟨h1,e1⟩:=aL.mp a
 obtain⟨h2,e2⟩:=aL.mp b
 exact (List.getElem_inj hN).mp (e1.trans e2.symm)
theorem tG {M:Model}{A:Around}{E:Value→Shared→Prop}{i:Nat}{x:Str}{v:V}{u:Value}{Q:Unit→Shared→Prop}(I:Inv X pins σ H s)(hN:X.N.Nodup)(hi:X.N[i]?=some x)(hx:Loc X.env.scope x)(r:RelV v u)
  (h:∀s',Inv X pins (σ.set i (some v)) H s'→(∃a,Heap.SameBut a s.heap s'.heap∧(a=X.env.locals∨X.env.cells.lookup x=some a))→Q () s') (hf:X.fn x=true∨X.env.scope.names.lookup x=some .local:=by first|exact .inl rfl|exact .inr rfl|assumption):wpAny M A (storeName X.env x u) Q E s:=by
 obtain⟨m,hn,hl⟩:=id I.loc
 have hcls:(X.env.scope.kind == .class||(X.env.scope.kind == .module&&X.env.locals != X.env.globals))=false:=by rw[I.ok.kind];rfl
 have hiσ:i<σ.length:=by rw[I.len];exact (aL.mp hi).1
 have cne:=I.cne
 have tracked:∀{a:Addr} {h':Heap},(∃o,s.heap.get? a=some o∧H a=none)→Heap.SameBut a s.heap h'→HOk X.prog X.w H h':=fun {a h'} ha hs b ob e=>by
  obtain⟨_,_,hfree⟩:=ha
  refine (I.hok b ob e).stay (fun c w' hc q=>(hs.2 c ?_).trans q) (fun _ q=>q) fun _ _ q=>q
  rintro rfl
  rcases hc with rfl|hc
  ·rw[hfree] at e;cases e
  ·rw[hfree] at hc;cases hc
 rcases hx with hk|hk
 ·refine wpAny_storeName_local hk hn (fun h' hn' hs=>?_) hcls
  obtain⟨oL,_,_,hoL,_⟩:=id hn
  refine h _ ⟨I.ok,I.os,I.bare,⟨fun b o e n hb hx=>?_,fun b o e n hb hx=>?_,I.base.free,fun b o e hx=>?_,I.base.tups,I.base.frzs,I.base.tbls⟩,⟨_,hn',fun j y v' e1 e2 e3=>?_⟩,fun y c e=>?_,I.free,I.freeC,fun p hp=>?_,tracked ⟨oL,hoL,I.free⟩ hs,by simpa using I.len⟩ ⟨_,hs,.inl rfl⟩
  ·exact (hs.2 b (za1 (za2 (aQ e) I.ok.above))).trans (I.base.keep b o e n hb hx)
  ·obtain⟨sl,e1⟩:=I.base.slot b o e n hb hx
   exact⟨sl,(hs.2 b (za1 (za2 (aQ e) I.ok.above))).trans e1⟩
  ·obtain⟨o',e1⟩:=I.base.there b o e hx
   exact⟨o',(hs.2 b (za1 (za2 (aQ e) I.ok.above))).trans e1⟩
  ·by_cases hj:j=i
   ·subst hj
    rw[hi] at e1;cases e1
    rw[zg4 hiσ] at e2
    cases e2
    exact⟨u,r,.inl ⟨hk,by simp⟩⟩
   ·rw[zc5 (Ne.symm hj)] at e2
    obtain⟨u',r',q⟩:=hl j y v' e1 e2 e3
    refine⟨u',r',?_⟩
    rcases q with ⟨k,e⟩|⟨k,c,e,z⟩
    ·refine .inl ⟨k,?_⟩
     have:y≠x:=fun e=>hj (qf hN e1 (e▸hi))
     simp[this,e]
    ·exact .inr ⟨k,c,e,z.sameBut hs (cne y c e)⟩
  ·obtain⟨w',z⟩:=I.cell y c e
   exact⟨w',z.sameBut hs (cne y c e)⟩
  ·obtain⟨e,n,ne,nf,d⟩:=I.pin p hp
   exact⟨(hs.2 p.1 ne).trans e,n,ne,nf,d⟩
 ·have hfn:X.fn x=true:=by
   rcases hf with z|z
   ·exact z
   ·rw[z] at hk;cases hk
  obtain⟨c,hc⟩:=I.ok.has x (.inl hk)
  obtain⟨w',z⟩:=I.cell x c hc
  refine wpAny_storeName_cell I.ok.kind hk hc z (fun h' hc' hs=>?_)
  obtain⟨oc,hoc,hocd⟩:=id z
  refine h {s with heap:=h'} ⟨I.ok,I.os,I.bare,⟨fun b o e n hb hx=>?_,fun b o e n hb hx=>?_,I.base.free,fun b o e hx=>?_,I.base.tups,I.base.frzs,I.base.tbls⟩,⟨m,hn.sameBut hs (Ne.symm (cne x c hc)),fun j y v' e1 e2 e3=>?_⟩,fun y c' e=>?_,I.free,I.freeC,fun p hp=>?_,tracked ⟨oc,hoc,I.freeC x c hc⟩ hs,by simpa using I.len⟩ ⟨c,hs,.inr hc⟩
  ·exact (hs.2 b (za1 (za2 (aQ e) (I.ok.cab x c hfn hc)))).trans (I.base.keep b o e n hb hx)
  ·obtain⟨sl,e1⟩:=I.base.slot b o e n hb hx
   exact⟨sl,(hs.2 b (za1 (za2 (aQ e) (I.ok.cab x c hfn hc)))).trans e1⟩
  ·obtain⟨o',e1⟩:=I.base.there b o e hx
   exact⟨o',(hs.2 b (za1 (za2 (aQ e) (I.ok.cab x c hfn hc)))).trans e1⟩
  ·by_cases hj:j=i
   ·subst hj
    rw[hi] at e1;cases e1
    rw[zg4 hiσ] at e2
    cases e2
    exact⟨u,r,.inr ⟨.inl hk,c,hc,hc'⟩⟩
   ·rw[zc5 (Ne.symm hj)] at e2
    obtain⟨u',r',q⟩:=hl j y v' e1 e2 e3
    refine⟨u',r',?_⟩
    rcases q with q|⟨k,c',e,z'⟩
    ·exact .inl q
    ·refine .inr ⟨k,c',e,z'.sameBut hs ?_⟩
     rintro rfl
     exact hj (qf hN e1 (I.ok.inj _ _ _ e hc▸hi))
  ·by_cases hcc:c'=c
   ·subst hcc;exact⟨_,hc'⟩
   ·obtain⟨w2,z2⟩:=I.cell y c' e
    exact⟨w2,z2.sameBut hs hcc⟩
  ·obtain⟨e,n,ne,nf,d⟩:=I.pin p hp
   refine⟨(hs.2 p.1 ?_).trans e,n,ne,nf,d⟩
   intro q
   rw[q,hoc] at e
   have q':oc=p.2:=za3 e
   exact d w' (by rw[←q'];exact hocd)
theorem qr {M:Model}{A:Around}{E:Value→Shared→Prop}{i:Nat}{x:Str}{v:V}{u:Value}{Q:Unit→Shared→Prop}(I:Inv X pins σ H s)(hN:X.N.Nodup)(hi:X.N[i]?=some x)(hx:Loc X.env.scope x)(r:RelV v u)
  (h:∀s',Inv X pins (σ.set i (some v)) H s'→Q () s') (hf:X.fn x=true∨X.env.scope.names.lookup x=some .local:=by first|exact .inl rfl|exact .inr rfl|assumption):wpAny M A (storeName X.env x u) Q E s:=
 tG I hN hi hx r (fun s' I' _=>h s' I') hf
theorem Inv.call' {s':Shared}{ch:List Addr}(I:Inv X pins σ H s)(ho:s'.os=s.os)(u:Un (frs X.stack) ch H H' s.heap s'.heap)(hok:HOk X.prog X.w H' s'.heap)(hg:AllBare s'.gens)
  (hch:∀b∈ch,(b∈X.ex∨X.s₀.heap.objs.size≤b)∧b≠X.env.locals∧(∀x c,X.env.cells.lookup x=some c→c≠b)∧∀p∈X.pn++pins,p.1≠b):Inv X pins σ H' s':=by
 obtain⟨h',g',d',t',o'⟩:=s'
 have e:o'=s.os:=ho
 subst e
 exact I.call (g':=g') (t':=t') (d':=d') u hok hg hch
end
abbrev XK :=Value→Option Addr→Hp→Prop
abbrev St :=List (Option V)
abbrev VK :=V→Hp→Prop
abbrev TE :=St→Hp→VK→Prop
abbrev TT :=St→Hp→(Bool→Hp→Prop)→Prop
abbrev TA :=St→Hp→(List V→Hp→Prop)→Prop
structure Ends where
 nx:St→Hp→Prop
 rt:VK
 bk:St→Hp→Prop:=fun _ _=>False
 ct:St→Hp→Prop:=fun _ _=>False
abbrev TS :=Ends→St→Hp→Prop
def EP (X:Cx)(pins:List (Addr×Obj))(σ:St)(Q:VK)(u:Value)(s':Shared):Prop:=∃v H',Inv X pins σ H' s'∧RelV v u∧Q v H'
def TP (X:Cx)(pins:List (Addr×Obj))(σ:St)(Q:Bool→Hp→Prop)(b:Bool)(s':Shared):Prop:=∃H',Inv X pins σ H' s'∧Q b H'
def AP (X:Cx)(pins:List (Addr×Obj))(σ:St)(Q:List V→Hp→Prop)(us:List Value)(s':Shared):Prop:=∃vs H',Inv X pins σ H' s'∧Vals vs us∧Q vs H'
def SP (X:Cx)(pins:List (Addr×Obj))(D:Ends)(f:Flow)(s':Shared):Prop:=
 match f with
 |.next=>∃σ' H',Inv X pins σ' H' s'∧D.nx σ' H'
 |.brk=>∃σ' H',Inv X pins σ' H' s'∧D.bk σ' H'
 |.cont=>∃σ' H',Inv X pins σ' H' s'∧D.ct σ' H'
 |.ret u=>∃v σ' H',Inv X pins σ' H' s'∧RelV v u∧D.rt v H'
def PE (X:Cx)(e:Expr)(t:TE):Prop:=
 ∀(pins:List (Addr×Obj)) (s:Shared) (σ:St) (H:Hp) (Q:VK),Inv X pins σ H s→t σ H Q→wpAny (model X.prog X.w) X.A (eval e X.env) (EP X pins σ Q) X.xe s
def PT (X:Cx)(e:Expr)(t:TT):Prop:=
 ∀(pins:List (Addr×Obj)) (s:Shared) (σ:St) (H:Hp) (Q:Bool→Hp→Prop),Inv X pins σ H s→t σ H Q→wpAny (model X.prog X.w) X.A (isTrue e X.env (eval e X.env)) (TP X pins σ Q) X.xe s
def PW (X:Cx)(e:Expr)(t:TT):Prop:=
 ∀(whole:Sem Value) (pins:List (Addr×Obj)) (s:Shared) (σ:St) (H:Hp) (Q:Bool→Hp→Prop),Inv X pins σ H s→t σ H Q→wpAny (model X.prog X.w) X.A (isTrue e X.env whole) (TP X pins σ Q) X.xe s
theorem PW.pt {X:Cx}{e:Expr}{t:TT}(h:PW X e t):PT X e t:=h _
def PA (X:Cx)(es:List Expr)(t:TA):Prop:=
 ∀(pos:Pos) (pins:List (Addr×Obj)) (s:Shared) (σ:St) (H:Hp) (Q:List V→Hp→Prop),Inv X pins σ H s→t σ H Q→wpAny (model X.prog X.w) X.A (spliced (backTo pos (starEach es X.env))) (AP X pins σ Q) X.xe s
def PS (X:Cx)(st:Stmt)(t:TS):Prop:=
 ∀(pins:List (Addr×Obj)) (s:Shared) (σ:St) (H:Hp) (D:Ends),Inv X pins σ H s→t D σ H→wpAny (model X.prog X.w) X.A (exec st X.env) (SP X pins D) X.xe s
def PSs (X:Cx)(st:List Stmt)(t:TS):Prop:=
 ∀(pins:List (Addr×Obj)) (s:Shared) (σ:St) (H:Hp) (D:Ends),Inv X pins σ H s→t D σ H→wpAny (model X.prog X.w) X.A (execs st X.env) (SP X pins D) X.xe s
theorem thn {α:Type}{t:Sem α}{Q Q':α→Shared→Prop}{M:Model}{A:Around}{E:Value→Shared→Prop}{s:Shared}(h:wpAny M A t Q E s)(hQ:∀a s,Q a s→Q' a s):wpAny M A t Q' E s:=zb5 h hQ fun _ _ x=>x
section
variable {X:Cx}
theorem bin {a b:Expr}{ta tb:TE}(ha:PE X a ta)(hb:PE X b tb){pins:List (Addr×Obj)}{s:Shared}{σ:St}{H:Hp}{R:V→V→Hp→Prop}(I:Inv X pins σ H s)(h:ta σ H fun x H1=>tb σ H1 fun y H2=>R x y H2)
  {α:Type} {Q:α→Shared→Prop} {f:Value→Value→Sem α}
  (hf:∀v u s2 x y H2,Inv X pins σ H2 s2→RelV x v→RelV y u→R x y H2→wpAny (model X.prog X.w) X.A (f v u) Q X.xe s2):
  wpAny (model X.prog X.w) X.A (eval a X.env) (fun v s₁=>wpAny (model X.prog X.w) X.A (eval b X.env) (fun u s₂=>wpAny (model X.prog X.w) X.A (f v u) Q X.xe s₂) X.xe s₁) X.xe s:=by
 refine thn (ha pins s σ H _ I h) fun v s1 ⟨x,H1,I1,r1,q1⟩=>?_
 refine thn (hb pins s1 σ H1 _ I1 q1) fun u s2 ⟨y,H2,I2,r2,q2⟩=>?_
 exact hf v u s2 x y H2 I2 r1 r2 q2
def cJ (i:Nat):TE:=fun σ H Q=>∃v,σ[i]?=some (some v)∧Q v H
def tC (v:V):TE:=fun _ H Q=>Q v H
theorem yU {i:Nat}{x:Str}{pos:Pos}(hN:X.N[i]?=some x)(hv:Vis X.env.scope x)(hd:(x == ("__debug__":Str))=false:=by decide)(hcd:(x == ("__classdict__":Str))=false:=by decide):PE X (.Name x pos) (cJ i):=by
 intro pins s σ H Q I h
 obtain⟨v,e,h⟩:=h
 obtain⟨m,hn,hl⟩:=I.loc
 obtain⟨u,r,l⟩:=hl i x v hN e hv
 have fin:EP X pins σ Q u s:=⟨v,H,I,r,h⟩
 rcases l with ⟨hk,hm⟩|⟨hk,c,hc,hcell⟩
 ·exact wpAny_Name (wpAny_loadName_local I.ok.kind hk hn hm fin) hd
 ·rcases hk with hk|hk
  ·exact wpAny_Name (wpAny_loadName_cell I.ok.kind hk hc hcell fin) hd
  ·exact wpAny_Name (wpAny_loadName_free I.ok.kind hk hc hcell fin hcd) hd
theorem zg {i j pos}:PE X (.Constant (.int i) j pos) (tC (.int i)):=fun _ _ _ H _ I h=>wpAny_Constant_int ⟨.int i,H,I.tok _,⟨_,rfl⟩,h⟩
theorem si {j pos}:PE X (.Constant .none j pos) (tC .non):=fun _ _ _ H _ I h=>Constant_none ⟨.non,H,I,rfl,h⟩
theorem ya {x j pos}:PE X (.Constant (.str x) j pos) (tC (.str x)):=fun _ _ _ H _ I h=>Calls.Constant_str ⟨.str x,H,I.tok _,⟨_,rfl⟩,h⟩
def Gl (X:Cx)(x:Str):Prop:=X.env.kindOf x=some .globalImplicit
theorem rf {E:Value→Shared→Prop}{pins:List (Addr×Obj)}{s:Shared}{σ:St}{H:Hp}{x:Str}{u:Value}{pos:Pos}{Q:Value→Shared→Prop}(I:Inv X pins σ H s)(hg:Gl X x)(hm:X.mg x=some u)(h:Q u s)
  (hd:(x == ("__debug__":Str))=false:=by decide):wpAny (model X.prog X.w) X.A (eval (.Name x pos) X.env) Q E s:=
 Calls.Name_function_global I.ok.kind hg (Calls.loadGlobal_global (by rw[I.ok.glob];exact I.mod.glob.keeps I.bk) hm h) hd
theorem vw {E:Value→Shared→Prop}{pins:List (Addr×Obj)}{s:Shared}{σ:St}{H:Hp}{x:Str}{u:Value}{pos:Pos}{Q:Value→Shared→Prop}(I:Inv X pins σ H s)(hg:Gl X x)(hm:X.mg x=none)(hv:bootBuiltins x=some u)(h:Q u s)
  (hn:x≠"__name__":=by decide) (hd:(x == ("__debug__":Str))=false:=by decide):wpAny (model X.prog X.w) X.A (eval (.Name x pos) X.env) Q E s:=by
 obtain⟨mb,h1,h2⟩:=I.mod.blt
 exact Calls.Name_function_global I.ok.kind hg (Calls.loadGlobal_builtin (by rw[I.ok.glob];exact I.mod.glob.keeps I.bk) hm (by rw[I.ok.blt];exact h1.keeps I.bk) ((h2 x hn).trans hv) h) hd
theorem wZ {x:Str}{v:V}{u:Value}{pos:Pos}(hg:Gl X x)(hm:X.mg x=some u)(r:RelV v u)(hd:(x == ("__debug__":Str))=false:=by decide):PE X (.Name x pos) (tC v):=
 fun _ _ _ H _ I h=>rf I hg hm ⟨v,H,I,r,h⟩ hd
theorem wb {x:Str}{v:V}{u:Value}{pos:Pos}(hg:Gl X x)(hm:X.mg x=none)(hv:bootBuiltins x=some u)(r:RelV v u)(hn:x≠"__name__":=by decide)(hd:(x == ("__debug__":Str))=false:=by decide):PE X (.Name x pos) (tC v):=
 fun _ _ _ H _ I h=>vw I hg hm hv ⟨v,H,I,r,h⟩ hn hd
variable {a b:Expr}{ta tb:TE}{pos:Pos}
def PC (X:Cx)(op:CmpOp)(a b:Expr)(t:TE):Prop:=
 ∀(pins:List (Addr×Obj)) (s:Shared) (σ:St) (H:Hp) (Q:VK),Inv X pins σ H s→t σ H Q→
  wpAny (model X.prog X.w) X.A (eval a X.env) (fun v s₁=>wpAny (model X.prog X.w) X.A (eval b X.env) (fun u s₂=>wpAny (model X.prog X.w) X.A (compareOp op v u) (EP X pins σ Q) X.xe s₂) X.xe s₁) X.xe s
def tB (t:TE):TT:=fun σ H Q=>t σ H fun x H1=>∃c,x=.bl c∧Q c H1
theorem aa {op:CmpOp}{t:TE}(h:PC X op a b t)(h1:behindInMarks op b=false:=by first|exact nobehind _ (by decide) (by decide)|rfl):PT X (.Compare a [op] [b] pos) (tB t):=by
 intro pins s σ H Q I hw
 refine wpAny_isTrue_Compare1 (thn (h pins s σ H _ I hw) fun v s1 h1=>thn h1 fun u s2 h2=>thn h2 fun c s3 ⟨x,H1,I1,r1,q1⟩=>?_) h1
 obtain⟨d,rfl,q⟩:=q1
 cases r1
 exact zc7 ⟨H1,I1,q⟩
theorem jo {e:Expr}{t:TE}(h:PE X e t)(he:∀whole,isTrue e X.env whole=(do let v ←whole;standAt e.pos;holding [v] (truthy v)):=by intro _;rfl):PT X e (tB t):=by
 intro pins s σ H Q I hw
 refine isTrue_plain (thn (h pins s σ H _ I hw) fun v s1 ⟨x,H1,I1,r1,q1⟩=>?_) (he _)
 obtain⟨d,rfl,q⟩:=q1
 cases r1
 exact zc7 ⟨H1,I1,q⟩
variable {tA tB':TT}{rest:List Expr}
def aF (t u:TT):TT:=fun σ H Q=>t σ H fun c H1=>if c=true then u σ H1 Q else Q false H1
def tOr (t u:TT):TT:=fun σ H Q=>t σ H fun c H1=>if c=true then Q true H1 else u σ H1 Q
def ah (t:TT):TT:=fun σ H Q=>t σ H fun c H1=>Q (!c) H1
theorem sq (ha:PT X a tA):PW X (.BoolOp .And [a] pos) tA:=by
 intro wh pins s σ H Q I h
 refine isTrue_and (thn (ha pins s σ H Q I h) fun c s1 e=>?_)
 cases c with
 |true=>exact isTrue_and_nil e
 |false=>exact e
theorem qZ (ha:PT X a tA):PW X (.BoolOp .Or [a] pos) tA:=by
 intro wh pins s σ H Q I h
 refine isTrue_or (thn (ha pins s σ H Q I h) fun c s1 e=>?_)
 cases c with
 |false=>exact isTrue_or_nil e
 |true=>exact e
theorem oI (ha:PT X a tA)(hb:PW X (.BoolOp .And (b::rest) pos) tB'):PW X (.BoolOp .And (a::b::rest) pos) (aF tA tB'):=by
 intro wh pins s σ H Q I h
 refine isTrue_and (thn (ha pins s σ H _ I h) fun c s1 ⟨H1,I1,q1⟩=>?_)
 cases c with
 |true=>exact hb wh pins s1 σ H1 Q I1 q1
 |false=>exact⟨H1,I1,q1⟩
theorem jq (ha:PT X a tA)(hb:PW X (.BoolOp .Or (b::rest) pos) tB'):PW X (.BoolOp .Or (a::b::rest) pos) (tOr tA tB'):=by
 intro wh pins s σ H Q I h
 refine isTrue_or (thn (ha pins s σ H _ I h) fun c s1 ⟨H1,I1,q1⟩=>?_)
 cases c with
 |true=>exact⟨H1,I1,q1⟩
 |false=>exact hb wh pins s1 σ H1 Q I1 q1
theorem kB (ha:PT X a tA):PT X (.UnaryOp .Not a pos) (ah tA):=by
 intro pins s σ H Q I h
 exact isTrue_not (ha pins s σ H (fun c H1=>Q (!c) H1) I h)
def bJ (ta tb:TE):TE:=fun σ H Q=>ta σ H fun x H1=>∃c,x=.bl c∧if c=true then tb σ H1 Q else Q (.bl false) H1
def aC (ta tb:TE):TE:=fun σ H Q=>ta σ H fun x H1=>∃c,x=.bl c∧if c=true then Q (.bl true) H1 else tb σ H1 Q
def bA (ta:TE):TE:=fun σ H Q=>ta σ H fun x H1=>∃c,x=.bl c∧Q (.bl (!c)) H1
theorem yV {op}{t:TE}(h:PE X a t):PE X (.BoolOp op [a] pos) t:=fun pins s σ H Q I hw=>BoolOp_one (h pins s σ H Q I hw)
theorem yC (ha:PE X a ta)(hb:PE X (.BoolOp .And (b::rest) pos) tb):PE X (.BoolOp .And (a::b::rest) pos) (bJ ta tb):=by
 intro pins s σ H Q I h
 refine BoolOp_and (thn (ha pins s σ H _ I h) fun v s1 ⟨x,H1,I1,r1,q1⟩=>?_)
 obtain⟨c,rfl,q1⟩:=q1
 cases r1
 refine zc7 ?_
 cases c with
 |true=>exact hb pins s1 σ H1 Q I1 q1
 |false=>exact⟨.bl false,H1,I1,rfl,q1⟩
theorem fO (ha:PE X a ta)(hb:PE X (.BoolOp .Or (b::rest) pos) tb):PE X (.BoolOp .Or (a::b::rest) pos) (aC ta tb):=by
 intro pins s σ H Q I h
 refine BoolOp_or (thn (ha pins s σ H _ I h) fun v s1 ⟨x,H1,I1,r1,q1⟩=>?_)
 obtain⟨c,rfl,q1⟩:=q1
 cases r1
 refine zc7 ?_
 cases c with
 |false=>exact hb pins s1 σ H1 Q I1 q1
 |true=>exact⟨.bl true,H1,I1,rfl,q1⟩
theorem dH (ha:PE X a ta):PE X (.UnaryOp .Not a pos) (bA ta):=by
 intro pins s σ H Q I h
 refine UnaryOp_ (thn (ha pins s σ H _ I h) fun v s1 ⟨x,H1,I1,r1,q1⟩=>?_)
 obtain⟨c,rfl,q1⟩:=q1
 cases r1
 exact not_of (zc7 ⟨.bl (!c),H1,I1,rfl,q1⟩)
def tIf (t:TT)(ta tb:TE):TE:=fun σ H Q=>t σ H fun c H1=>if c=true then ta σ H1 Q else tb σ H1 Q
theorem jF {c:Expr}(hc:PT X c tA)(ha:PE X a ta)(hb:PE X b tb):PE X (.IfExp c a b pos) (tIf tA ta tb):=by
 intro pins s σ H Q I h
 refine wpAny_IfExp (thn (hc pins s σ H _ I h) fun d s1 ⟨H1,I1,q1⟩=>?_)
 cases d with
 |true=>exact ha pins s1 σ H1 Q I1 q1
 |false=>exact hb pins s1 σ H1 Q I1 q1
end
def SqL (K:PySem.W.Frag)(H:Hp)(a:Addr)(xs:List V):Prop:=
 Rd H a (.lst xs)∨
  ∃(o:Obj) (its:Array Value) (n:Nat),K.lookup a=some o∧o.cls=.type "list"∧o.dict=none∧o.data=.seq its n∧its.size≤sizeLine∧Vals xs its.toList
def SqT (K:PySem.W.Frag)(H:Hp)(a:Addr)(xs:List V):Prop:=
 Rd H a (.tup xs)∨
  ∃(o:Obj) (its:Array Value) (n:Nat),K.lookup a=some o∧o.cls=.type "tuple"∧o.data=.seq its n∧its.size≤sizeLine∧Vals xs its.toList
def aA :Value→Option V
 |.none=>some .non
 |.bool b=>some (.bl b)
 |.int i _=>some (.int i)
 |.str x _=>some (.str x)
 |.bytes b _=>some (.byt b)
 |.float b _=>some (.flt b)
 |.ref a=>some (.ref a)
 |.type n=>some (.ty n)
 |_=>none
theorem RelV.abs {x:V}{u:Value}(r:RelV x u):aA u=some x:=by
 cases x with
 |non=>cases r;rfl
 |bl _=>cases r;rfl
 |int _=>obtain⟨t,rfl⟩:=r;rfl
 |str _=>obtain⟨t,rfl⟩:=r;rfl
 |byt _=>obtain⟨t,rfl⟩:=r;rfl
 |flt _=>obtain⟨t,rfl⟩:=r;rfl
 |ref _=>cases r;rfl
 |ty _=>cases r;rfl
theorem RelV.inj {x y:V}{u:Value}(r:RelV x u)(q:RelV y u):x=y:=za3 (r.abs.symm.trans q.abs)
theorem Vals.inj :∀{xs ys:List V} {us:List Value},Vals xs us→Vals ys us→xs=ys
 |_,_,_,.nil,.nil=>rfl
 |_,_,_,.cons r t,.cons r' t'=>by rw[r.inj r',Vals.inj t t']
section
variable {X:Cx}{pins:List (Addr×Obj)}{σ:St}{H:Hp}{s:Shared}{a:Addr}{xs ys:List V}
theorem SqL.of {K:PySem.W.Frag}(h:H a=some (.lst xs)):SqL K H a xs:=.inl (.inl h)
theorem SqT.of {K:PySem.W.Frag}(h:H a=some (.tup xs)):SqT K H a xs:=.inl (.inl h)
theorem Inv.list (I:Inv X pins σ H s)(h:SqL X.K H a xs):∃its:List Value,Vals xs its∧PlainL s.heap a its.toArray∧xs.length≤sizeLine:=by
 rcases h with h|⟨o,its,n,hk,hc,hd,hs,hz,r⟩
 ·obtain⟨z,its,n,r,e⟩:=h.ok I.hok
  exact⟨its,r,⟨_,n,e,rfl,rfl,rfl⟩,z⟩
 ·refine⟨its.toList,r,⟨o,n,I.kIn a o hk,hc,hd,by simpa using hs⟩,?_⟩
  have e:=r.length
  simp only[zi6] at e
  omega
theorem Inv.tuple (I:Inv X pins σ H s)(h:SqT X.K H a xs):∃its:List Value,Vals xs its∧IsTup s.heap a its.toArray∧xs.length≤sizeLine:=by
 rcases h with h|⟨o,its,n,hk,hc,hs,hz,r⟩
 ·obtain⟨z,its,r,p⟩:=h.ok I.hok
  exact⟨its,r,p,z⟩
 ·refine⟨its.toList,r,⟨o,I.kIn a o hk,hc,n,by simpa using hs⟩,?_⟩
  have e:=r.length
  simp only[zi6] at e
  omega
theorem Inv.list_inj (I:Inv X pins σ H s)(h:SqL X.K H a xs)(h':SqL X.K H a ys):xs=ys:=by
 obtain⟨its,r,⟨o,n,e,_,_,d⟩,_⟩:=I.list h
 obtain⟨its',r',⟨o',n',e',_,_,d'⟩,_⟩:=I.list h'
 rw[e] at e';cases e'
 rw[d] at d'
 injection d' with d1 _
 have:its=its':=by simpa using congrArg Array.toList d1
 subst this
 exact r.inj r'
end
abbrev Cx.wish (X:Cx)(E:Value→Shared→Prop):Cx:={X with xe:=E}
abbrev Cx.nox (X:Cx):Cx:=X.wish fun _ _=>False
theorem Cx.Ok.wish {X:Cx}(ok:X.Ok)(E:Value→Shared→Prop):(X.wish E).Ok:=
 ⟨ok.mod,ok.kind,ok.glob,ok.blt,ok.above,ok.inj,ok.has,ok.cab,ok.hd,ok.frames,ok.stk,ok.exf,ok.bs,ok.bsz,ok.noex,ok.exfs,ok.funs,ok.frf⟩
theorem Cx.Ok.unwish {X:Cx}{E:Value→Shared→Prop}(ok:(X.wish E).Ok):X.Ok:=
 ⟨ok.mod,ok.kind,ok.glob,ok.blt,ok.above,ok.inj,ok.has,ok.cab,ok.hd,ok.frames,ok.stk,ok.exf,ok.bs,ok.bsz,ok.noex,ok.exfs,ok.funs,ok.frf⟩
section
variable {X:Cx}{pins:List (Addr×Obj)}{σ:St}{H:Hp}{s:Shared}{E:Value→Shared→Prop}
theorem Inv.wish (I:Inv X pins σ H s)(E:Value→Shared→Prop):Inv (X.wish E) pins σ H s:=⟨I.ok.wish E,I.os,I.bare,I.base,I.loc,I.cell,I.free,I.freeC,I.pin,I.hok,I.len⟩
theorem Inv.unwish (I:Inv (X.wish E) pins σ H s):Inv X pins σ H s:=⟨I.ok.unwish,I.os,I.bare,I.base,I.loc,I.cell,I.free,I.freeC,I.pin,I.hok,I.len⟩
theorem SP.unwish {D:Ends}{f:Flow}{s':Shared}(h:SP (X.wish E) pins D f s'):SP X pins D f s':=by
 cases f with
 |next=>obtain⟨σ',H',I,q⟩:=h;exact⟨σ',H',I.unwish,q⟩
 |brk=>obtain⟨σ',H',I,q⟩:=h;exact⟨σ',H',I.unwish,q⟩
 |cont=>obtain⟨σ',H',I,q⟩:=h;exact⟨σ',H',I.unwish,q⟩
 |ret u=>obtain⟨v,σ',H',I,r,q⟩:=h;exact⟨v,σ',H',I.unwish,r,q⟩
theorem PSs.nox {st:List Stmt}{t:TS}(h:PSs X.nox st t):PSs X st t:=fun pins s σ H D I hw=>
 zb5 (h pins s σ H D (I.wish _) hw) (fun _ _ q=>q.unwish) fun _ _ z=>False.elim z
end
section
variable {X:Cx}{st:Stmt}{rest:List Stmt}{t u:TS}{e:Expr}{te:TE}{pos:Pos}
def cG :TS:=fun D σ H=>D.nx σ H
def cR (t u:TS):TS:=fun D σ H=>t {D with nx:=u D} σ H
theorem yd :PSs X [] cG:=fun _ _ σ H _ I h=>zi2 ⟨σ,H,I,h⟩
theorem zE (h1:PS X st t)(h2:PSs X rest u):PSs X (st::rest) (cR t u):=by
 intro pins s σ H D I h
 refine wpAny_execs_cons (thn (h1 pins s σ H {D with nx:=u D} I h) fun f s1 q=>?_)
 cases f with
 |next=>
  obtain⟨σ',H',I',q⟩:=q
  exact h2 pins s1 σ' H' D I' q
 |ret v=>exact q
 |brk=>exact q
 |cont=>exact q
theorem zk (h1:PS X st t):PSs X [st] t:=by
 intro pins s σ H D I h
 refine wpAny_execs_cons (thn (h1 pins s σ H D I h) fun f s1 q=>?_)
 cases f with
 |next=>exact zi2 q
 |ret v=>exact q
 |brk=>exact q
 |cont=>exact q
theorem Inv.quiet {pins:List (Addr×Obj)}{σ:St}{H:Hp}{s:Shared}(I:Inv X pins σ H s):interactive X.env=false:=by simp[interactive,I.ok.kind]
def bF (te:TE):TS:=fun D σ H=>te σ H fun _ H1=>D.nx σ H1
theorem xE (he:PE X e te)(hs:swapsWith e none pos.line X.env=pure false:=by rfl):PS X (.Expr e pos) (bF te):=by
 intro pins s σ H D I h
 exact wpAny_Expr_any (thn (he pins s σ H _ I h) fun v s1 ⟨x,H1,I1,r1,q1⟩=>⟨σ,H1,I1,q1⟩) I.quiet hs
def bQ (te:TE):TS:=fun D σ H=>te σ H D.rt
theorem zp (he:PE X e te):PS X (.Return (some e) pos) (bQ te):=by
 intro pins s σ H D I h
 exact wpAny_Return_some (thn (he pins s σ H _ I h) fun v s1 ⟨x,H1,I1,r1,q1⟩=>⟨x,σ,H1,I1,r1,q1⟩)
def ae (c:TT)(t u:TS):TS:=fun D σ H=>c σ H fun b H1=>if b=true then t D σ H1 else u D σ H1
theorem yL {c:Expr}{a b:List Stmt}{tc:TT}(hc:PT X c tc)(ha:PSs X a t)(hb:PSs X b u):PS X (.If c a b pos) (ae tc t u):=by
 intro pins s σ H D I h
 refine wpAny_If (thn (hc pins s σ H _ I h) fun d s1 ⟨H1,I1,q1⟩=>?_)
 cases d with
 |true=>exact ha pins s1 σ H1 D I1 q1
 |false=>exact hb pins s1 σ H1 D I1 q1
end
abbrev TG :=V→St→Hp→(St→Hp→Prop)→Prop
abbrev TGs :=List V→St→Hp→(St→Hp→Prop)→Prop
def PG (X:Cx)(target:Expr)(t:TG):Prop:=
 ∀(pins:List (Addr×Obj)) (s:Shared) (σ:St) (H:Hp) (v:V) (u:Value) (Q:St→Hp→Prop),Inv X pins σ H s→RelV v u→t v σ H Q→
  wpAny (model X.prog X.w) X.A (assign target X.env u) (fun _ s'=>∃σ' H',Inv X pins σ' H' s'∧Q σ' H') X.xe s
def PGs (X:Cx)(ts:List Expr)(t:TGs):Prop:=
 ∀(pins:List (Addr×Obj)) (s:Shared) (σ:St) (H:Hp) (vs:List V) (us:List Value) (Q:St→Hp→Prop),Inv X pins σ H s→Vals vs us→t vs σ H Q→
  wpAny (model X.prog X.w) X.A (assignInOrder ((assignEach ts X.env).map (·.2)) us) (fun _ s'=>∃σ' H',Inv X pins σ' H' s'∧Q σ' H') X.xe s
abbrev eU :=V→V→V→Hp→(Hp→Prop)→Prop
def bt (X:Cx)(t:eU):Prop:=
 ∀(pins:List (Addr×Obj)) (s:Shared) (σ:St) (H:Hp) (o i v:V) (ov iv u:Value) (Q:Hp→Prop),Inv X pins σ H s→RelV o ov→RelV i iv→RelV v u→t o i v H Q→
  wpAny (model X.prog X.w) X.A (setItem ov iv u) (fun _ s'=>∃H',Inv X pins σ H' s'∧Q H') X.xe s
section
variable {X:Cx}{pos:Pos}
def vD (i:Nat):TG:=fun v σ H Q=>Q (σ.set i (some v)) H
theorem zz {i:Nat}{x:Str}(hN:X.N.Nodup)(hi:X.N[i]?=some x)(hx:Loc X.env.scope x)(hf:X.fn x=true∨X.env.scope.names.lookup x=some .local:=by first|exact .inl rfl|exact .inr rfl|assumption):PG X (.Name x pos) (vD i):=by
 intro pins s σ H v u Q I r h
 exact wpAny_assign_Name (qr I hN hi hx r (fun s' I'=>⟨_,H,I',h⟩) hf)
def dX :TGs:=fun vs σ H Q=>vs=[]∧Q σ H
def nz (t:TG)(u:TGs):TGs:=fun vs σ H Q=>∃v r,vs=v::r∧t v σ H fun σ' H'=>u r σ' H' Q
theorem xg :PGs X [] dX:=by
 intro pins s σ H vs us Q I r h
 obtain⟨e,h⟩:=h
 subst e
 cases r
 exact assignInOrder_nil ⟨σ,H,I,h⟩
theorem ym {e:Expr}{es:List Expr}{t:TG}{u:TGs}(h1:PG X e t)(h2:PGs X es u)
  (hs:(assignEach (e::es) X.env).map (·.2)=assign e X.env::(assignEach es X.env).map (·.2):=by rfl):PGs X (e::es) (nz t u):=by
 intro pins s σ H vs us Q I r h
 obtain⟨v,vr,e1,h⟩:=h
 subst e1
 cases r with
 |cons r rr=>
  rw[hs]
  refine assignInOrder_cons (thn (h1 pins s σ H _ _ _ I r h) fun _ s1 ⟨σ1,H1,I1,q1⟩=>?_)
  exact h2 pins s1 σ1 H1 _ _ Q I1 rr q1
def jB (K:PySem.W.Frag)(n:Nat)(t:TGs):TG:=fun v σ H Q=>∃a xs,v=.ref a∧SqT K H a xs∧xs.length=n∧t xs σ H Q
theorem ek {es:List Expr}{k:Nat}{t:TGs}{n:Nat}(hc:X.calm=true)(h:PGs X es t)
  (hn:(assignEach es X.env).length=n:=by rfl) (hst:(assignEach es X.env).findIdx? (·.1)=none:=by rfl):PG X (.Tuple es k pos) (jB X.K n t):=by
 intro pins s σ H v u Q I r hw
 obtain⟨a,xs,e1,hq,hl,hw⟩:=hw
 subst e1
 cases r
 obtain⟨its,rv,ht,hz⟩:=I.tuple hq
 refine assign_Tuple_tuple (I.ok.hd hc) ht (by simp[hn,←hl,rv.length]) hst fun h' hx=>?_
 have I1:Inv X pins σ H {s with heap:=h'}:=I.kept (t':=s.toks) fun b o e=>hx b o (za1 (aQ e)) e
 exact h pins _ σ H xs _ Q I1 (by simpa using rv) hw
def aG (to ti:TE)(t:eU):TG:=fun v σ H Q=>to σ H fun o H1=>ti σ H1 fun i H2=>t o i v H2 fun H3=>Q σ H3
theorem pW {o i:Expr}{to ti:TE}{t:eU}(ho:PE X o to)(hi:PE X i ti)(hs:bt X t)
  (ha:∀v,assign (.Subscript o i pos) X.env v=(do
   let ov ←holding [v] (eval o X.env)
   let iv ←holding [v,ov] (eval i X.env)
   standAt pos
   holding [v,ov,iv] (setItem ov iv v)
   release [v,ov,iv] []):=by intro _;rfl):PG X (.Subscript o i pos) (aG to ti t):=by
 intro pins s σ H v u Q I r h
 rw[ha]
 refine aT (zh7 (thn (ho pins s σ H _ I h) fun ov s1 ⟨x,H1,I1,r1,q1⟩=>?_))
 refine aT (zh7 (thn (hi pins s1 σ H1 _ I1 q1) fun iv s2 ⟨y,H2,I2,r2,q2⟩=>?_))
 refine aT (wpAny_standAt (aT (zh7 (thn (hs pins s2 σ H2 x y v ov iv u _ I2 r1 r2 r q2) fun _ s3 ⟨H3,I3,q3⟩=>?_))))
 exact wpAny_release ⟨σ,H3,I3,q3⟩
def dU (te:TE)(g:TG):TS:=fun D σ H=>te σ H fun x H1=>g x σ H1 D.nx
theorem oz {tg e:Expr}{te:TE}{g:TG}(he:PE X e te)(hg:PG X tg g)(hs:swapsWithSole [tg] e pos.line X.env=pure false:=by rfl)(hw:swappedStores [tg] e X.env=pure none:=by rfl)
  (h1:(assignEach [tg] X.env).map (·.2)=[assign tg X.env]:=by rfl):PS X (.Assign [tg] e pos) (dU te g):=by
 intro pins s σ H D I h
 refine wpAny_Assign_stores (thn (he pins s σ H _ I h) fun v s1 ⟨x,H1,I1,r1,q1⟩=>?_) hs hw
 rw[h1]
 exact thn (hg pins s1 σ H1 x v _ I1 r1 q1) fun _ s2 q=>q
theorem yH {i:Nat}{x:Str}{e:Expr}{te:TE}{pos':Pos}(hN:X.N.Nodup)(hi:X.N[i]?=some x)(hx:Loc X.env.scope x)(he:PE X e te)(hs:swapsWith e (some (.Name x pos')) pos.line X.env=pure false:=by rfl)(hf:X.fn x=true∨X.env.scope.names.lookup x=some .local:=by first|exact .inl rfl|exact .inr rfl|assumption):
  PS X (.Assign [.Name x pos'] e pos) (dU te (vD i)):=by
 intro pins s σ H D I h
 refine wpAny_Assign_Name (thn (he pins s σ H _ I h) fun v s1 ⟨y,H1,I1,r1,q1⟩=>?_) hs
 exact qr I1 hN hi hx r1 (fun s2 I2=>⟨_,H1,I2,q1⟩) hf
end
section
variable {X:Cx}{pos:Pos}
def dy (c:TT)(tb:TS):TS:=fun D σ H=>∃W:Nat→St→Hp→Prop,(∃m,W m σ H)∧∀m σ H,W m σ H→
 c σ H fun b H1=>if b=true then ∃N:St→Hp→Prop,(∀σ' H',N σ' H'→∃m',m'<m∧W m' σ' H')∧tb {D with nx:=N,ct:=N,bk:=D.nx} σ H1 else D.nx σ H1
theorem iy {c:Expr}{body:List Stmt}{tc:TT}{tb:TS}(hp:PassesOwn (model X.prog X.w) X.A X.env X.xe)(hc:PT X c tc)(hb:PSs X body tb):PS X (.While c body [] pos) (dy tc tb):=by
 intro pins s σ H D I h
 obtain⟨W,⟨m0,w0⟩,turn⟩:=h
 refine wpAny_While (codeAny_whileLoop (fun n s'=>∃σ' H',Inv X pins σ' H' s'∧W n σ' H') ?_ m0 ⟨σ,H,I,w0⟩)
 rintro n s1 ⟨σ1,H1,I1,w1⟩
 refine ze7 hp (thn (hc pins s1 σ1 H1 _ I1 (turn n σ1 H1 w1)) fun b s2 ⟨H2,I2,q2⟩=>?_)
 cases b with
 |true=>
  obtain⟨N,hN,q2⟩:=q2
  rw[if_pos rfl]
  refine ze7 hp (thn (hb pins s2 σ1 H2 _ I2 q2) fun f s3 q3=>?_)
  cases f with
  |next=>
   obtain⟨σ3,H3,I3,n3⟩:=q3
   obtain⟨m',hm,w3⟩:=hN σ3 H3 n3
   exact⟨m',hm,σ3,H3,I3,w3⟩
  |cont=>
   obtain⟨σ3,H3,I3,n3⟩:=q3
   obtain⟨m',hm,w3⟩:=hN σ3 H3 n3
   exact⟨m',hm,σ3,H3,I3,w3⟩
  |brk=>exact q3
  |ret v=>exact q3
 |false=>
  rw[if_neg aU]
  exact zi2 ⟨σ1,H2,I2,q2⟩
end
structure It where
 go:Nat→Hp→Prop
 yld:Nat→Hp→V→Hp→Prop
 stop:Nat→Hp→Prop
def ve (X:Cx)(pins:List (Addr×Obj))(H:Hp)(b:Addr):Prop:=
 H b=none∧b≠X.env.locals∧b∉X.fs∧(b∈X.ex∨X.s₀.heap.objs.size≤b)∧(∀x c,X.env.cells.lookup x=some c→c≠b)∧∀p∈X.pn++pins,p.1≠b
theorem Inv.fpOk {X:Cx}{pins:List (Addr×Obj)}{σ:St}{H H':Hp}{s:Shared}{b:Addr}(I:Inv X pins σ H s)(hb:s.heap.objs.size≤b)(hn:H' b=none):ve X pins H' b:=by
 refine⟨hn,Nat.ne_of_gt (za2 I.lt hb),I.nofs hb,.inr (zb4 I.sz hb),fun x c e z=>?_,fun p hp z=>?_⟩
 ·obtain⟨v,q⟩:=I.cell x c e
  exact absurd (za2 q.lt (by rw[z];exact hb)) (ze9 _)
 ·exact absurd (za2 (aQ (I.pin p hp).1) (by rw[z];exact hb)) (ze9 _)
structure Turn (P:Program)(w:World)(K:PySem.W.Frag)(tg:Expr)(J:It)(fp:List Addr)(it:Addr)(tn:Nat→Heap→Prop):Prop where
 mem:it∈fp
 obj:∀i h,tn i h→∀b∈fp,∃o,h.get? b=some o∧∀v,o.data≠.cell v
 keep:∀i h h',tn i h→(∀b∈fp,∀o,h.get? b=some o→h'.get? b=some o)→tn i h'
 item:∀(X:Cx),X.prog=P→X.w=w→X.K=K→X.calm=true→∀(i:Nat) (pins:List (Addr×Obj)) (s:Shared) (σ:St) (H:Hp) (E:Value→Shared→Prop),Inv X pins σ H s→(∀b∈fp,ve X pins H b)→tn i s.heap→J.go i H→
  wpAny (model P w) X.A (pyNext (.ref it)) (fun r s1=>∃u,r=some u∧
   wpAny (model P w) X.A (letOwnedTupleGo tg (.ref it) u) (fun _ s2=>∃x H',Inv X pins σ H' s2∧RelV x u∧J.yld i H x H'∧tn (i+1) s2.heap∧∀b∈fp,H' b=none) E s1) E s
 done:∀(X:Cx),X.prog=P→X.w=w→X.K=K→X.calm=true→∀(i:Nat) (pins:List (Addr×Obj)) (s:Shared) (σ:St) (H:Hp) (E:Value→Shared→Prop),Inv X pins σ H s→(∀b∈fp,ve X pins H b)→tn i s.heap→J.stop i H→
  wpAny (model P w) X.A (pyNext (.ref it)) (fun r s1=>r=none∧Inv X pins σ H s1) E s
 self:∀(A:Around) (i:Nat) (s:Shared) (Q:Value→Shared→Prop) (E:Value→Shared→Prop),tn i s.heap→Q (.ref it) s→wpAny (model P w) A (pyIter (.ref it)) Q E s
abbrev TI :=St→Hp→(It→Hp→Prop)→Prop
def PIE (X:Cx)(pins:List (Addr×Obj))(σ:St)(tg:Expr)(R:It→Hp→Prop)(itv:Value)(s2:Shared):Prop:=
 ∃(it:Addr) (fp:List Addr) (tn:Nat→Heap→Prop) (J:It) (H':Hp),itv=.ref it∧Inv X pins σ H' s2∧Turn X.prog X.w X.K tg J fp it tn∧tn 0 s2.heap∧(∀b∈fp,ve X pins H' b)∧R J H'
def PI (X:Cx)(tg iter:Expr)(wi:TI):Prop:=
 ∀(pins:List (Addr×Obj)) (s:Shared) (σ:St) (H:Hp) (R:It→Hp→Prop),Inv X pins σ H s→wi σ H R→
  wpAny (model X.prog X.w) X.A (eval iter X.env) (fun v s1=>wpAny (model X.prog X.w) X.A (pyIter v) (PIE X pins σ tg R) X.xe s1) X.xe s
theorem fv {M:Model}{A:Around}{E:Value→Shared→Prop}{s:Shared}{tg:Expr}{it:Addr}{u:Value}{o:Obj}{n:String}{vs:Array Value}{Q:Unit→Shared→Prop}(ho:s.heap.get? it=some o)(hc:o.cls=.type n)(hd:o.data=.fields vs)
  (hn:["enumerate","zip","dict_itemiterator","dict_reverseitemiterator","odict_iterator","itertools.zip_longest","itertools.pairwise"].contains n=false) (hQ:Q () s):wpAny M A (letOwnedTupleGo tg (.ref it) u) Q E s:=by
 unfold letOwnedTupleGo
 cases tg<;>first
  |exact zb1 hQ
  |(cases u<;>first
    |exact zb1 hQ
    |(refine aT (wpAny_load ho ?_)
      rw[hc,hd]
      show wpAny M A (if (["enumerate","zip","dict_itemiterator","dict_reverseitemiterator","odict_iterator","itertools.zip_longest","itertools.pairwise"].contains n&&vs[0]? == some (rawInt _))=true then _ else _) Q E s
      rw[if_neg (by intro h;rw[hn,ze2] at h;cases h)]
      exact zb1 hQ))
def Itl (K:PySem.W.Frag)(a:Addr):It:=
 ⟨fun i H=>∃xs x,SqL K H a xs∧xs[i]?=some x,fun i H x H'=>H'=H∧∀xs,SqL K H a xs→xs[i]?=some x,fun i H=>∃xs,SqL K H a xs∧xs.length≤i⟩
def Itr (lo:Int)(n:Nat):It:=⟨fun i _=>i<n,fun i H x H'=>H'=H∧x=.int (lo+i),fun i _=>n≤i⟩
theorem nZ {P:Program}{w:World}{K:PySem.W.Frag}{tg:Expr}(a it:Addr):Turn P w K tg (Itl K a) [it] it (fun i h=>h.IsListIter it a i) where
 mem:=by simp
 obj:=fun i h st b hb=>by
  have e:b=it:=by simpa using hb
  subst e
  obtain⟨o,e,c,d⟩:=st
  exact⟨o,e,fun v z=>by rw[d] at z;cases z⟩
 keep:=fun i h h' st k=>st.at fun o e=>k it (by simp) o e
 item:=by
  intro X hP hw hK hc i pins s σ H E I hf st hg
  subst hP hw hK
  obtain⟨xs,x,hq,hx⟩:=hg
  obtain⟨its,rv,p,hz⟩:=I.list hq
  obtain⟨u,hu,ru⟩:=rv.get hx
  obtain⟨f0,f1,f2,f3,f4,f5⟩:=hf it (by simp)
  refine wpAny_pyNext_list_item st p.isList (x:=u) (by simpa using hu) fun h' st' sb=>?_
  have I1:Inv X pins σ H {s with heap:=h'}:=I.turned (t':=s.toks) (fun b o hb e=>(sb.2 b hb).trans e) f0 f1 f3 f4 f5
  obtain⟨o,e,c,d⟩:=id st'
  exact⟨u,rfl,fv (s:={s with heap:=h'}) e c d (by decide) ⟨x,H,I1,ru,⟨rfl,fun ys hy=>by rw[I.list_inj hy hq];exact hx⟩,st',fun b hb=>(hf b hb).1⟩⟩
 done:=by
  intro X hP hw hK hc i pins s σ H E I hf st hg
  subst hP hw hK
  obtain⟨xs,hq,hx⟩:=hg
  obtain⟨its,rv,p,hz⟩:=I.list hq
  obtain⟨f0,f1,f2,f3,f4,f5⟩:=hf it (by simp)
  have hl:=rv.length
  exact wpAny_pyNext_list_end (I.ok.hd hc) st p.isList (by simp;omega) fun h' eb=>⟨rfl,I.turned (t':=s.toks) (fun b o hb e=>eb b o hb e) f0 f1 f3 f4 f5⟩
 self:=fun _ _ _ _ _ st h=>wpAny_pyIter_listiter st h
theorem qT {P:Program}{w:World}{K:PySem.W.Frag}{tg:Expr}(it:Addr)(lo:Int)(n:Nat):Turn P w K tg (Itr lo n) [it] it (fun i h=>IsRangeIter h it (lo+(i:Nat)*1) ((n:Int)-(i:Nat)) 1) where
 mem:=by simp
 obj:=fun i h st b hb=>by
  have e:b=it:=by simpa using hb
  subst e
  exact⟨_,st,fun v z=>by
   have z':Data.fields _=Data.cell v:=z
   cases z'⟩
 keep:=fun i h h' st k=>k it (by simp) _ st
 item:=by
  intro X hP hw hK hc i pins s σ H E I hf st hg
  subst hP hw hK
  obtain⟨f0,f1,f2,f3,f4,f5⟩:=hf it (by simp)
  have W:=Walks.range (prog:=X.prog) (w:=X.w) (I.ok.hd hc) it lo 1 n
  refine W.item i s _ _ hg st fun v h' tk hv st' kk=>?_
  obtain⟨t,rfl⟩:=hv
  have I1:Inv X pins σ H {s with heap:=h',toks:=tk}:=I.turned (fun b o hb e=>kk b o (by simpa using hb) e) f0 f1 f3 f4 f5
  refine⟨_,rfl,fv (s:={s with heap:=h',toks:=tk}) (n:="range_iterator") st' rfl rfl (by decide) ⟨.int (lo+i),H,I1,⟨t,?_⟩,⟨rfl,rfl⟩,st',fun b hb=>(hf b hb).1⟩⟩
  rw[Int.mul_one]
 done:=by
  intro X hP hw hK hc i pins s σ H E I hf st hg
  subst hP hw hK
  obtain⟨f0,f1,f2,f3,f4,f5⟩:=hf it (by simp)
  exact wpAny_pyNext_range_end (I.ok.hd hc) st (by have:n≤i:=hg;omega) fun h' eb=>⟨rfl,I.turned (t':=s.toks) (fun b o hb e=>eb b o hb e) f0 f1 f3 f4 f5⟩
 self:=fun _ _ _ _ _ st h=>wpAny_pyIter_rangeiter st h
section
variable {X:Cx}{tg:Expr}
def cH (K:PySem.W.Frag)(tl:TE):TI:=fun σ H R=>tl σ H fun x H1=>∃a,x=.ref a∧(∃xs,SqL K H1 a xs)∧R (Itl K a) H1
theorem xX {l:Expr}{tl:TE}(hl:PE X l tl):PI X tg l (cH X.K tl):=by
 intro pins s σ H R I h
 refine thn (hl pins s σ H _ I h) fun v s1 ⟨x,H1,I1,r1,q1⟩=>?_
 obtain⟨a,e,⟨xs,hq⟩,q⟩:=q1
 subst e
 cases r1
 obtain⟨its,rv,p,hz⟩:=I1.list hq
 refine wpAny_pyIter_list p.isList ?_
 refine⟨s1.heap.objs.size,[s1.heap.objs.size],_,_,H1,rfl,I1.kept (t':=s1.toks) fun b o e=>aR _ e,nZ a _,⟨_,zb2 _ rfl,rfl,rfl⟩,fun b hb=>?_,q⟩
 have e:b=s1.heap.objs.size:=by simpa using hb
 subst e
 exact I1.fpOk (aN _) (I1.hok.fresh (aN _))
theorem lQ {pins:List (Addr×Obj)}{σ:St}{H:Hp}{s:Shared}{R:It→Hp→Prop}{E:Value→Shared→Prop}{lo hi:Int}{t u v:Tok}{tk:Nat}(I:Inv X pins σ H s)(h1:-(2 ^ 62)≤lo)(h2:lo<2 ^ 62)(h3:-(2 ^ 62)≤hi)(h4:hi<2 ^ 62)
  (q:R (Itr lo (hi-lo).toNat) H):wpAny (model X.prog X.w) X.A (pyIter (.ref s.heap.objs.size)) (PIE X pins σ tg R) E {s with heap:=s.heap.push {cls:=.type "range",data:=.fields #[.int lo t,.int hi u,.int 1 v]},toks:=tk}:=by
 refine wpAny_pyIter_range (IsRange.new ..) (small_one h1 h2 h3 h4) ?_
 have I1:Inv X pins σ H {s with heap:=s.heap.push {cls:=.type "range",data:=.fields #[.int lo t,.int hi u,.int 1 v]},toks:=tk}:=I.kept fun b o e=>aR _ e
 refine⟨(s.heap.push {cls:=.type "range",data:=.fields #[.int lo t,.int hi u,.int 1 v]}).objs.size,[(s.heap.push {cls:=.type "range",data:=.fields #[.int lo t,.int hi u,.int 1 v]}).objs.size],_,_,H,rfl,
  I1.kept (t':=tk) fun b o e=>aR _ e,qT _ lo (hi-lo).toNat,?_,fun b hb=>?_,q⟩
 ·have e1:lo+((0:Nat):Int)*1=lo:=by simp
  have e2:(((hi-lo).toNat:Nat):Int)-((0:Nat):Int)=Builtin.Range.rangeSize lo hi 1:=by rw[rangeSize_one];split<;>omega
  show IsRangeIter _ _ (lo+((0:Nat):Int)*1) ((((hi-lo).toNat:Nat):Int)-((0:Nat):Int)) 1
  rw[e1,e2]
  exact zb2 _ rfl
 ·have e:b=(s.heap.push {cls:=.type "range",data:=.fields #[.int lo t,.int hi u,.int 1 v]}).objs.size:=by simpa using hb
  subst e
  exact I1.fpOk (aN _) (I1.hok.fresh (aN _))
def bH (ta:TA):TI:=fun σ H R=>ta σ H fun vs H1=>∃j:Int,vs=[.int j]∧-(2 ^ 62)≤j∧j<2 ^ 62∧R (Itr 0 j.toNat) H1
theorem mD {a:Expr}{ta:TA}{p pos:Pos}(hg:Gl X "range")(hm:X.mg "range"=none)(ha:PA X [a] ta)(hs:starEach [a] X.env=[(false,eval a X.env)]:=by rfl):PI X tg (.Call (.Name "range" p) [a] [] pos) (bH ta):=by
 intro pins s σ H R I h
 refine Call_ (vw I hg hm boot_range (ze5 (thn (ha pos pins s σ H _ I h) fun us s1 ⟨vs,H1,I1,r1,q1⟩=>?_) hs rfl))
 obtain⟨j,e,q1,q2,q⟩:=q1
 subst e
 cases r1 with
 |cons r rr=>
  cases rr
  obtain⟨t,rfl⟩:=r
  exact call_range_1 (lQ I1 (by omega) (by omega) q1 q2 (by simpa using q))
def ar (wi:TI)(g:TG)(tb:TS):TS:=fun D σ H=>wi σ H fun J H1=>∃W:Nat→Nat→St→Hp→Prop,(∃m,W 0 m σ H1)∧∀i m σ H,W i m σ H→
 (J.stop i H∧D.nx σ H)∨(J.go i H∧∃N:St→Hp→Prop,(∀σ' H',N σ' H'→∃m',m'<m∧W (i+1) m' σ' H')∧∀x H',J.yld i H x H'→g x σ H' fun σ2 H2=>tb {D with nx:=N,ct:=N,bk:=D.nx} σ2 H2)
def uW (fp:List Addr)(h:Heap):List (Addr×Obj):=fp.filterMap fun b=>(h.get? b).map fun o=>(b,o)
theorem xx {fp:List Addr}{h:Heap}{b:Addr}{o:Obj}(hb:b∈fp)(e:h.get? b=some o):(b,o)∈uW fp h:=List.mem_filterMap.mpr ⟨b,hb,by rw[e];rfl⟩
theorem mv {fp:List Addr}{h:Heap}{p:Addr×Obj}(hp:p∈uW fp h):p.1∈fp∧h.get? p.1=some p.2:=by
 obtain⟨b,hb,e⟩:=List.mem_filterMap.mp hp
 cases q:h.get? b with
 |none=>rw[q] at e;cases e
 |some o=>
  rw[q] at e
  have e':(b,o)=p:=za3 e
  subst e'
  exact⟨hb,q⟩
theorem Inv.pinned {pins:List (Addr×Obj)}{σ:St}{H:Hp}{s:Shared}{fp:List Addr}(I:Inv X pins σ H s)(hf:∀b∈fp,ve X pins H b)(ho:∀b∈fp,∃o,s.heap.get? b=some o∧∀v,o.data≠.cell v):Inv X (pins++uW fp s.heap) σ H s:=
 I.pins_of fun p hp=>(za8.mp hp).elim (fun z=>I.pin p (za5 _ z)) fun z=>by
  obtain⟨hb,e⟩:=mv z
  obtain⟨f0,f1,f2,_⟩:=hf p.1 hb
  obtain⟨o,e',d⟩:=ho p.1 hb
  rw[e] at e';cases e'
  exact⟨e,f0,f1,f2,d⟩
theorem Inv.unpinned {pins pl:List (Addr×Obj)}{σ:St}{H:Hp}{s:Shared}(I:Inv X (pins++pl) σ H s):Inv X pins σ H s:=I.pins_of fun p hp=>I.pin p (za5 _ (zf2 _ hp))
theorem uu {iter:Expr}{body:List Stmt}{wi:TI}{g:TG}{tb:TS}{pos:Pos}(hp:PassesOwn (model X.prog X.w) X.A X.env X.xe)(hc:X.calm=true)(hi:PI X tg iter wi)(hg:PG X tg g)(hb:PSs X body tb)
  (hs:∀x,foldedSetIterable iter X.env x=pure x:=by intro _;rfl):PS X (.For tg iter body [] pos) (ar wi g tb):=by
 intro pins s σ H D I h
 refine wpAny_For (thn (hi pins s σ H _ I h) fun v s1 h1=>thn h1 fun itv s2 h2=>?_) hs
 obtain⟨it,fp,tn,J,H2,e,I2,T,st2,f2,W,⟨m0,w0⟩,turn⟩:=h2
 subst e
 -- what stays true of the iterator's objects through the loop
 have stat:∀{H':Hp},(∀b∈fp,H' b=none)→∀b∈fp,ve X pins H' b:=fun hn b hb=>⟨hn b hb,(f2 b hb).2⟩
 refine codeAny_forLoop_any (fun n s'=>∃i σ' H',Inv X pins σ' H' s'∧tn i s'.heap∧(∀b∈fp,H' b=none)∧W i n σ' H') ?_ m0 ⟨0,σ,H2,I2,st2,fun b hb=>(f2 b hb).1,w0⟩
 rintro n s3 ⟨i,σ3,H3,I3,st3,fr3,w3⟩
 rcases turn i n σ3 H3 w3 with ⟨stop,qn⟩|⟨go,N,hN,step⟩
 ·refine ze7 hp (thn (T.done X rfl rfl rfl hc i pins s3 σ3 H3 X.xe I3 (stat fr3) st3 stop) fun r s4 ⟨hr,I4⟩=>?_)
  subst hr
  exact zi2 ⟨σ3,H3,I4,qn⟩
 ·refine ze7 hp (thn (T.item X rfl rfl rfl hc i pins s3 σ3 H3 X.xe I3 (stat fr3) st3 go) fun r s4 ⟨u,hr,h4⟩=>?_)
  subst hr
  refine ze7 hp (thn h4 fun _ s5 ⟨x,H5,I5,r5,y5,st5,fr5⟩=>?_)
  have I5':=I5.pinned (stat fr5) (T.obj _ _ st5)
  refine ze7 hp (thn (hg _ s5 σ3 H5 x u _ I5' r5 (step x H5 y5)) fun _ s6 ⟨σ6,H6,I6,q6⟩=>?_)
  refine ze7 hp (thn (hb _ s6 σ6 H6 _ I6 q6) fun f s7 q7=>?_)
  have again:∀{σ7:St} {H7:Hp},Inv X (pins++uW fp s5.heap) σ7 H7 s7→N σ7 H7→∃m,m<n∧∃i σ' H',Inv X pins σ' H' s7∧tn i s7.heap∧(∀b∈fp,H' b=none)∧W i m σ' H':=fun {σ7 H7} I7 n7=>by
   obtain⟨m',hm,w7⟩:=hN σ7 H7 n7
   refine⟨m',hm,i+1,σ7,H7,I7.unpinned,T.keep _ _ _ st5 fun b hb o e=>(I7.pin (b,o) (za5 _ (za5 _ (xx hb e)))).1,fun b hb=>?_,w7⟩
   obtain⟨o,e,d⟩:=T.obj _ _ st5 b hb
   exact (I7.pin (b,o) (za5 _ (za5 _ (xx hb e)))).2.1
  cases f with
  |next=>obtain⟨σ7,H7,I7,n7⟩:=q7;exact again I7 n7
  |cont=>obtain⟨σ7,H7,I7,n7⟩:=q7;exact again I7 n7
  |brk=>obtain⟨σ7,H7,I7,q7⟩:=q7;exact⟨σ7,H7,I7.unpinned,q7⟩
  |ret v=>obtain⟨x7,σ7,H7,I7,r7,q7⟩:=q7;exact⟨x7,σ7,H7,I7.unpinned,r7,q7⟩
end
theorem uq {K:PySem.W.Frag}{a:Addr}{xs:List V}{g:TG}{tb:TS}{D:Ends}{σ:St}{H:Hp}(Pv:Nat→St→Hp→Prop)(h0:Pv 0 σ H)(hl:∀i σ H,i≤xs.length→Pv i σ H→SqL K H a xs)
  (hs:∀i x σ H,xs[i]?=some x→Pv i σ H→g x σ H fun σ2 H2=>tb {D with nx:=Pv (i+1),ct:=Pv (i+1),bk:=D.nx} σ2 H2) (hd:∀σ H,Pv xs.length σ H→D.nx σ H):
  ∃W:Nat→Nat→St→Hp→Prop,(∃m,W 0 m σ H)∧∀i m σ H,W i m σ H→
   ((Itl K a).stop i H∧D.nx σ H)∨((Itl K a).go i H∧∃N:St→Hp→Prop,(∀σ' H',N σ' H'→∃m',m'<m∧W (i+1) m' σ' H')∧∀x H',(Itl K a).yld i H x H'→g x σ H' fun σ2 H2=>tb {D with nx:=N,ct:=N,bk:=D.nx} σ2 H2):=by
 refine⟨fun i m σ H=>m=xs.length-i∧i≤xs.length∧Pv i σ H,⟨xs.length,by simp,aS _,h0⟩,?_⟩
 rintro i m σ H ⟨rfl,hi,p⟩
 have q:=hl i σ H hi p
 by_cases hlt:i<xs.length
 ·refine .inr ⟨⟨xs,xs[i],q,by simp[hlt]⟩,Pv (i+1),fun σ' H' p'=>⟨xs.length-(i+1),by omega,rfl,hlt,p'⟩,fun x H' y=>?_⟩
  obtain⟨e,y⟩:=y
  subst e
  exact hs i x σ _ (y xs q) p
 ·have e:i=xs.length:=by omega
  subst e
  exact .inl ⟨⟨xs,q,aN _⟩,hd σ H p⟩
abbrev R2 :=V→V→Hp→VK→Prop
def OpR (X:Cx)(f:Value→Value→Sem Value)(r:R2):Prop:=
 ∀(pins:List (Addr×Obj)) (s:Shared) (σ:St) (H:Hp) (x y:V) (v u:Value) (Q:VK),Inv X pins σ H s→RelV x v→RelV y u→r x y H Q→
  wpAny (model X.prog X.w) X.A (f v u) (EP X pins σ Q) X.xe s
def UnR (X:Cx)(f:Value→Sem Value)(r:V→Hp→VK→Prop):Prop:=
 ∀(pins:List (Addr×Obj)) (s:Shared) (σ:St) (H:Hp) (x:V) (v:Value) (Q:VK),Inv X pins σ H s→RelV x v→r x H Q→
  wpAny (model X.prog X.w) X.A (f v) (EP X pins σ Q) X.xe s
def xr (X:Cx)(f:Value)(r:List V→Hp→VK→Prop):Prop:=
 ∀(pins:List (Addr×Obj)) (s:Shared) (σ:St) (H:Hp) (xs:List V) (us:List Value) (Q:VK),Inv X pins σ H s→Vals xs us→r xs H Q→
  wpAny (model X.prog X.w) X.A (call f us) (EP X pins σ Q) X.xe s
def bY (X:Cx)(r:V→Hp→(Bool→Hp→Prop)→Prop):Prop:=
 ∀(pins:List (Addr×Obj)) (s:Shared) (σ:St) (H:Hp) (x:V) (v:Value) (Q:Bool→Hp→Prop),Inv X pins σ H s→RelV x v→r x H Q→
  wpAny (model X.prog X.w) X.A (truthy v) (TP X pins σ Q) X.xe s
def tOp (r:R2)(ta tb:TE):TE:=fun σ H Q=>ta σ H fun x H1=>tb σ H1 fun y H2=>r x y H2 Q
def tUn (r:V→Hp→VK→Prop)(ta:TE):TE:=fun σ H Q=>ta σ H fun x H1=>r x H1 Q
def rI (C:Int→Int→Prop)(g:Int→Int→V):R2:=fun x y H Q=>∃i j,x=.int i∧y=.int j∧C i j∧Q (g i j) H
def rI0 (g:Int→Int→V):R2:=fun x y H Q=>∃i j,x=.int i∧y=.int j∧Q (g i j) H
def rU (g:Int→V):V→Hp→VK→Prop:=fun x H Q=>∃i,x=.int i∧Q (g i) H
section
variable {X:Cx}{a b c:Expr}{ta tb tc:TE}{pos:Pos}
theorem dB (ha:PE X a ta)(hb:PE X b tb){pins:List (Addr×Obj)}{s:Shared}{σ:St}{H:Hp}{R:V→V→Hp→Prop}(I:Inv X pins σ H s)
  (h:ta σ H fun x H1=>tb σ H1 fun y H2=>R x y H2) {Q:Value→Shared→Prop} {f:Value→Value→Sem Value}
  (hf:∀v u s2 x y H2,Inv X pins σ H2 s2→RelV x v→RelV y u→R x y H2→wpAny (model X.prog X.w) X.A (f v u) Q X.xe s2):
  wpAny (model X.prog X.w) X.A (eval a X.env) (fun v s₁=>wpAny (model X.prog X.w) X.A (eval b X.env) (fun u s₂=>wpAny (model X.prog X.w) X.A (f v u) Q X.xe s₂) X.xe s₁) X.xe s:=by
 refine thn (ha pins s σ H _ I h) fun v s1 ⟨x,H1,I1,r1,q1⟩=>?_
 refine thn (hb pins s1 σ H1 _ I1 q1) fun u s2 ⟨y,H2,I2,r2,q2⟩=>?_
 exact hf v u s2 x y H2 I2 r1 r2 q2
theorem yb {op:Operator}{r:R2}(ho:OpR X (binaryOp op) r)(ha:PE X a ta)(hb:PE X b tb):PE X (.BinOp a op b pos) (tOp r ta tb):=by
 intro pins s σ H Q I h
 exact wpAny_BinOp (dB ha hb I h fun v u s2 x y H2 I2 rx ry q=>ho pins s2 σ H2 x y v u Q I2 rx ry q)
theorem qB {op:UnaryOp}{r:V→Hp→VK→Prop}(ho:UnR X (unaryOp op) r)(ha:PE X a ta):PE X (.UnaryOp op a pos) (tUn r ta):=by
 intro pins s σ H Q I h
 exact UnaryOp_ (thn (ha pins s σ H _ I h) fun v s1 ⟨x,H1,I1,r1,q1⟩=>ho pins s1 σ H1 x v Q I1 r1 q1)
theorem opI {f:Value→Value→Sem Value}{C:Int→Int→Prop}{g:Int→Int→Int}
  (rule:∀(i j:Int) (t u:Tok) (s:Shared) (Q:Value→Shared→Prop) (E:Value→Shared→Prop),C i j→Q (.int (g i j) s.toks) {s with toks:=s.toks+1}→wpAny (model X.prog X.w) X.A (f (.int i t) (.int j u)) Q E s):
  OpR X f (rI C fun i j=>.int (g i j)):=by
 intro pins s σ H x y v u Q I rx ry h
 obtain⟨i,j,rfl,rfl,hc,q⟩:=h
 obtain⟨t,rfl⟩:=rx
 obtain⟨t',rfl⟩:=ry
 exact rule i j t t' s _ _ hc ⟨.int (g i j),H,I.tok _,⟨_,rfl⟩,q⟩
theorem cP {f:Value→Value→Sem Value}{g:Int→Int→Int}
  (rule:∀(i j:Int) (t u:Tok) (s:Shared) (Q:Value→Shared→Prop) (E:Value→Shared→Prop),Q (.int (g i j) s.toks) {s with toks:=s.toks+1}→wpAny (model X.prog X.w) X.A (f (.int i t) (.int j u)) Q E s):
  OpR X f (rI0 fun i j=>.int (g i j)):=by
 intro pins s σ H x y v u Q I rx ry h
 obtain⟨i,j,rfl,rfl,q⟩:=h
 obtain⟨t,rfl⟩:=rx
 obtain⟨t',rfl⟩:=ry
 exact rule i j t t' s _ _ ⟨.int (g i j),H,I.tok _,⟨_,rfl⟩,q⟩
theorem fm {f:Value→Value→Sem Value}{g:Int→Int→Bool}
  (rule:∀(i j:Int) (t u:Tok) (s:Shared) (Q:Value→Shared→Prop) (E:Value→Shared→Prop),Q (.bool (g i j)) s→wpAny (model X.prog X.w) X.A (f (.int i t) (.int j u)) Q E s):
  OpR X f (rI0 fun i j=>.bl (g i j)):=by
 intro pins s σ H x y v u Q I rx ry h
 obtain⟨i,j,rfl,rfl,q⟩:=h
 obtain⟨t,rfl⟩:=rx
 obtain⟨t',rfl⟩:=ry
 exact rule i j t t' s _ _ ⟨.bl (g i j),H,I,rfl,q⟩
def dI (i j:Int):Prop:=0≤j∧j≤1000000∧i.natAbs<2 ^ 64
def dE (i j:Int):Prop:=(-(2 ^ 64)<i∧i<2 ^ 64)∨(-(2 ^ 64)<j∧j<2 ^ 64)
theorem dE.ok {i j:Int}(h:dE i j):IntMulOk i j:=by
 rcases h with ⟨h1,h2⟩|⟨h1,h2⟩
 ·exact .of_left (intBits_le_64 h1 h2)
 ·exact .of_right (intBits_le_64 h1 h2)
theorem xP :OpR X (binaryOp .Add) (rI0 fun i j=>.int (i+j)):=cP fun _ _ _ _ _ _ _ q=>add_int q
theorem og :OpR X (binaryOp .Sub) (rI0 fun i j=>.int (i-j)):=cP fun _ _ _ _ _ _ _ q=>sub_int q
theorem um :OpR X (binaryOp .Mult) (rI dE fun i j=>.int (i*j)):=opI fun _ _ _ _ _ _ _ hc q=>mul_int q hc.ok
theorem wF :OpR X (binaryOp .Mod) (rI (fun _ j=>0<j) fun i j=>.int (i % j)):=opI fun i j _ _ _ _ _ hc q=>by
 have h1:(0:Int)<j:=hc
 exact mod_int' (by omega) (by rw[Int.fmod_eq_emod_of_nonneg i (by omega)];exact q)
theorem ie :OpR X (binaryOp .Pow) (rI dI fun i j=>.int (i ^ j.toNat)):=opI fun _ _ _ _ _ _ _ hc q=>pow_int_small hc.1 hc.2.1 hc.2.2 q
theorem unI {f:Value→Sem Value}{g:Int→Int}
  (rule:∀(i:Int) (t:Tok) (s:Shared) (Q:Value→Shared→Prop) (E:Value→Shared→Prop),Q (.int (g i) s.toks) {s with toks:=s.toks+1}→wpAny (model X.prog X.w) X.A (f (.int i t)) Q E s):
  UnR X f (rU fun i=>.int (g i)):=by
 intro pins s σ H x v Q I rx h
 obtain⟨i,rfl,q⟩:=h
 obtain⟨t,rfl⟩:=rx
 exact rule i t s _ _ ⟨.int (g i),H,I.tok _,⟨_,rfl⟩,q⟩
theorem uJ :UnR X (unaryOp .USub) (rU fun i=>.int (-i)):=unI fun _ _ _ _ _ q=>neg_int q
end
def bE :V→V→Bool
 |.non,.non=>true|.non,.int _=>true|.int _,.non=>true|.non,.bl _=>true|.bl _,.non=>true|.non,.str _=>true|.str _,.non=>true
 |.int _,.int _=>true|.bl _,.bl _=>true|.str _,.str _=>true|.byt _,.byt _=>true
 |.int _,.str _=>true|.str _,.int _=>true|.bl _,.str _=>true|.str _,.bl _=>true
 |_,_=>false
def rEq :R2:=fun x y H Q=>bE x y=true∧Q (.bl (decide (x=y))) H
def rNe :R2:=fun x y H Q=>bE x y=true∧Q (.bl (!decide (x=y))) H
theorem nM {i j:Int}:decide (V.int i=V.int j)=(i == j):=by
 rw[zf9]
 simp
theorem kE {i j:Bool}:decide (V.bl i=V.bl j)=(i == j):=by
 rw[zf9]
 simp
theorem nj {i j:Str}:decide (V.str i=V.str j)=(i == j):=by
 rw[zf9]
 simp
theorem nk {i j:Array UInt8}:decide (V.byt i=V.byt j)=(i.toList == j.toList):=by
 rw[zf9]
 cases i
 cases j
 simp
section
variable {X:Cx}{a b c:Expr}{ta tb tc:TE}{pos:Pos}
theorem zD {pins:List (Addr×Obj)}{σ:St}{H:Hp}{s:Shared}{Q:VK}{k k':Bool}(I:Inv X pins σ H s)(q:Q (.bl k) H)(e:k=k'):EP X pins σ Q (.bool k') s:=by
 subst e
 exact⟨.bl k,H,I,rfl,q⟩
theorem xO :OpR X (compareOp .Eq) rEq:=by
 intro pins s σ H x y v u Q I rx ry h
 obtain⟨hs,q⟩:=h
 cases x with
 |non=>
  cases rx
  cases y with
  |non=>cases ry;exact PySem.EqNone.eq_none_none (zD I q (by simp))
  |bl j=>cases ry;exact PySem.EqNone.eq_none_bool (zD I q (by simp))
  |int j=>obtain⟨t',rfl⟩:=ry;exact PySem.EqNone.eq_none_int (zD I q (by simp))
  |str j=>obtain⟨t',rfl⟩:=ry;exact PySem.EqNone.eq_none_str (zD I q (by simp))
  |_=>exact absurd (show false=true from hs) aU
 |bl i=>
  cases rx
  cases y with
  |non=>cases ry;exact PySem.EqNone.eq_bool_none (zD I q (by simp))
  |bl j=>cases ry;exact eq_bool (zD I q kE)
  |str j=>obtain⟨t',rfl⟩:=ry;exact PySem.EqMixed.eq_bool_str (zD I q (by simp))
  |_=>exact absurd (show false=true from hs) aU
 |int i=>
  obtain⟨t,rfl⟩:=rx
  cases y with
  |non=>cases ry;exact PySem.EqNone.eq_int_none (zD I q (by simp))
  |int j=>obtain⟨t',rfl⟩:=ry;exact eq_int (zD I q nM)
  |str j=>obtain⟨t',rfl⟩:=ry;exact PySem.EqMixed.eq_int_str (zD I q (by simp))
  |_=>exact absurd (show false=true from hs) aU
 |str i=>
  obtain⟨t,rfl⟩:=rx
  cases y with
  |non=>cases ry;exact PySem.EqNone.eq_str_none (zD I q (by simp))
  |bl j=>cases ry;exact PySem.EqMixed.eq_str_bool (zD I q (by simp))
  |int j=>obtain⟨t',rfl⟩:=ry;exact PySem.EqMixed.eq_str_int (zD I q (by simp))
  |str j=>obtain⟨t',rfl⟩:=ry;exact eq_str (zD I q nj)
  |_=>exact absurd (show false=true from hs) aU
 |byt i=>
  obtain⟨t,rfl⟩:=rx
  cases y with
  |byt j=>obtain⟨t',rfl⟩:=ry;exact PySem.W.eq_bytes (zD I q nk)
  |_=>exact absurd (show false=true from hs) aU
 |_=>cases y<;>exact absurd (show false=true from hs) aU
theorem fV :OpR X (compareOp .NotEq) rNe:=by
 intro pins s σ H x y v u Q I rx ry h
 obtain⟨hs,q⟩:=h
 cases x with
 |non=>
  cases rx
  cases y with
  |non=>cases ry;exact PySem.EqNone.ne_none_none (zD I q (by simp))
  |bl j=>cases ry;exact PySem.EqNone.ne_none_bool (zD I q (by simp))
  |int j=>obtain⟨t',rfl⟩:=ry;exact PySem.EqNone.ne_none_int (zD I q (by simp))
  |str j=>obtain⟨t',rfl⟩:=ry;exact PySem.EqNone.ne_none_str (zD I q (by simp))
  |_=>exact absurd (show false=true from hs) aU
 |bl i=>
  cases rx
  cases y with
  |non=>cases ry;exact PySem.EqNone.ne_bool_none (zD I q (by simp))
  |bl j=>cases ry;exact ne_bool (zD I q (congrArg not kE))
  |str j=>obtain⟨t',rfl⟩:=ry;exact PySem.EqMixed.ne_bool_str (zD I q (by simp))
  |_=>exact absurd (show false=true from hs) aU
 |int i=>
  obtain⟨t,rfl⟩:=rx
  cases y with
  |non=>cases ry;exact PySem.EqNone.ne_int_none (zD I q (by simp))
  |int j=>obtain⟨t',rfl⟩:=ry;exact ne_int (zD I q (congrArg not nM))
  |str j=>obtain⟨t',rfl⟩:=ry;exact PySem.EqMixed.ne_int_str (zD I q (by simp))
  |_=>exact absurd (show false=true from hs) aU
 |str i=>
  obtain⟨t,rfl⟩:=rx
  cases y with
  |non=>cases ry;exact PySem.EqNone.ne_str_none (zD I q (by simp))
  |bl j=>cases ry;exact PySem.EqMixed.ne_str_bool (zD I q (by simp))
  |int j=>obtain⟨t',rfl⟩:=ry;exact PySem.EqMixed.ne_str_int (zD I q (by simp))
  |str j=>obtain⟨t',rfl⟩:=ry;exact ne_str (zD I q (congrArg not nj))
  |_=>exact absurd (show false=true from hs) aU
 |byt i=>
  obtain⟨t,rfl⟩:=rx
  cases y with
  |byt j=>obtain⟨t',rfl⟩:=ry;exact PySem.W.ne_bytes (zD I q (congrArg not nk))
  |_=>exact absurd (show false=true from hs) aU
 |_=>cases y<;>exact absurd (show false=true from hs) aU
theorem jy :OpR X (compareOp .Lt) (rI0 fun i j=>.bl (decide (i<j))):=fm fun _ _ _ _ _ _ _ q=>lt_int q
theorem tP :OpR X (compareOp .LtE) (rI0 fun i j=>.bl (decide (i≤j))):=fm fun _ _ _ _ _ _ _ q=>le_int q
theorem rY :OpR X (compareOp .Gt) (rI0 fun i j=>.bl (decide (j<i))):=fm fun _ _ _ _ _ _ _ q=>gt_int q
theorem bj :OpR X (compareOp .GtE) (rI0 fun i j=>.bl (decide (j≤i))):=fm fun _ _ _ _ _ _ _ q=>ge_int q
theorem pX :OpR X (compareOp .Is) (fun x y H Q=>y=.non∧Q (.bl (decide (x=.non))) H):=by
 intro pins s σ H x y v u Q I rx ry h
 obtain⟨rfl,q⟩:=h
 cases ry
 refine is_none_gen (zD I q ?_)
 cases x<;>first
  |(cases rx;rfl)
  |(obtain⟨t,rfl⟩:=rx;rfl)
theorem zu (b:Expr){op:CmpOp}(h:op≠.In:=by decide)(h2:op≠.NotIn:=by decide):behindInMarks op b=false:=by
 have e1:(op == CmpOp.In)=false:=by cases op<;>first|rfl|exact absurd rfl h
 have e2:(op == CmpOp.NotIn)=false:=by cases op<;>first|rfl|exact absurd rfl h2
 cases b<;>simp[behindInMarks,e1,e2]
theorem xi {op:CmpOp}{r:R2}(ho:OpR X (compareOp op) r)(ha:PE X a ta)(hb:PE X b tb)(hm:behindInMarks op b=false):PE X (.Compare a [op] [b] pos) (tOp r ta tb):=by
 intro pins s σ H Q I h
 exact wpAny_Compare1 (dB ha hb I h fun v u s2 x y H2 I2 rx ry q=>ho pins s2 σ H2 x y v u Q I2 rx ry q) hm
def bB (t:TE):TT:=fun σ H Q=>t σ H fun x H'=>∃k,x=.bl k∧Q k H'
theorem zO {op:CmpOp}{r:R2}(ho:OpR X (compareOp op) r)(ha:PE X a ta)(hb:PE X b tb)(hm:behindInMarks op b=false):PT X (.Compare a [op] [b] pos) (bB (tOp r ta tb)):=by
 intro pins s σ H Q I h
 refine wpAny_isTrue_Compare1 (thn (ha pins s σ H _ I h) fun v s1 ⟨x,H1,I1,r1,q1⟩=>thn (hb pins s1 σ H1 _ I1 q1) fun u s2 ⟨y,H2,I2,r2,q2⟩=>
  thn (ho pins s2 σ H2 x y v u _ I2 r1 r2 q2) fun c s3 ⟨z,H3,I3,r3,k,e,q3⟩=>?_) hm
 subst e
 cases r3
 exact zc7 ⟨H3,I3,q3⟩
def eS (r r':R2)(ta tb tc:TE):TE:=fun σ H Q=>ta σ H fun x H1=>tb σ H1 fun y H2=>r x y H2 fun z H3=>∃k,z=.bl k∧
 (if k=true then tc σ H3 fun w' H4=>r' y w' H4 Q else Q (.bl false) H3)
theorem jS {op op':CmpOp}{r r':R2}(ho:OpR X (compareOp op) r)(ho':OpR X (compareOp op') r')(ha:PE X a ta)(hb:PE X b tb)(hc:PE X c tc)
  (hm:lastMarks [op,op'] [b,c]=false:=by with_unfolding_all rfl):PE X (.Compare a [op,op'] [b,c] pos) (eS r r' ta tb tc):=by
 intro pins s σ H Q I h
 refine Compare_chain (thn (ha pins s σ H _ I h) fun v s1 ⟨x,H1,I1,r1,q1⟩=>chain_link (thn (hb pins s1 σ H1 _ I1 q1) fun u s2 ⟨y,H2,I2,r2,q2⟩=>
  thn (ho pins s2 σ H2 x y v u _ I2 r1 r2 q2) fun d s3 ⟨z,H3,I3,r3,k,e,q3⟩=>?_)) hm
 subst e
 cases r3
 refine zc7 ?_
 cases k with
 |false=>exact ite_ff ⟨.bl false,H3,I3,rfl,q3⟩
 |true=>exact ite_tt (chain_last (thn (hc pins s3 σ H3 _ I3 q3) fun w' s4 ⟨z',H4,I4,r4,q4⟩=>ho' pins s4 σ H4 y z' u w' Q I4 r2 r4 q4))
def cW (K:PySem.W.Frag)(x:V)(H:Hp)(k:Bool):Prop:=
 match x with
 |.non=>k=false
 |.bl b=>k=b
 |.int i=>k=(i != 0)
 |.str y=>y.length≤sizeLine∧k=((y.length:Int) != 0)
 |.byt y=>y.size≤sizeLine∧k=((y.size:Int) != 0)
 |.ref p=>(∃xs,SqL K H p xs∧k=!xs.isEmpty)∨(∃xs,SqT K H p xs∧k=!xs.isEmpty)∨∃kvs,H p=some (.dK kvs)∧k=!kvs.isEmpty
 |_=>False
theorem qX {κ:Type}{kvs:List (κ×V)}{vs:List (κ×Value)}(r:KV kvs vs):(!vs.isEmpty)=!kvs.isEmpty:=by
 cases r<;>rfl
theorem tj {xs:List V}{its:List Value}(r:Vals xs its):(!its.toArray.isEmpty)=!xs.isEmpty:=by
 cases r<;>simp
theorem vc :(sizeLine:Nat)<2 ^ 63:=by rw[ze3];decide
theorem dM :bY X (fun x H Q=>∃k,cW X.K x H k∧Q k H):=by
 intro pins s σ H x v Q I rx h
 obtain⟨k,e,q⟩:=h
 have hl:=vc
 have hs:sizeLine=16777216:=ze3
 cases x with
 |non=>
  cases rx
  have e':k=false:=e
  subst e'
  exact truthy_none ⟨H,I,q⟩
 |bl b=>
  cases rx
  have e':k=b:=e
  subst e'
  exact zc7 ⟨H,I,q⟩
 |int i=>
  obtain⟨t,rfl⟩:=rx
  have e':k=(i != 0):=e
  subst e'
  exact PySem.P.truthy_int ⟨H,I,q⟩
 |str y=>
  obtain⟨t,rfl⟩:=rx
  obtain⟨hy,e'⟩:y.length≤sizeLine∧k=((y.length:Int) != 0):=e
  subst e'
  exact PySem.P.truthy_str (by omega) ⟨H,I.tok _,q⟩
 |byt y=>
  obtain⟨t,rfl⟩:=rx
  obtain⟨hy,e'⟩:y.size≤sizeLine∧k=((y.size:Int) != 0):=e
  subst e'
  exact PySem.W.truthy_bytes (by omega) ⟨H,I.tok _,q⟩
 |ref p=>
  cases rx
  have e':(∃xs,SqL X.K H p xs∧k=!xs.isEmpty)∨(∃xs,SqT X.K H p xs∧k=!xs.isEmpty)∨∃kvs,H p=some (.dK kvs)∧k=!kvs.isEmpty:=e
  rcases e' with ⟨xs,hx,e'⟩|⟨xs,hx,e'⟩|⟨kvs,hx,e'⟩
  ·subst e'
   obtain⟨its,r,pl,hz⟩:=I.list hx
   have hlen:=r.length
   exact wpAny_truthy_list pl.isList (by simp only[aO];omega) ⟨H,I.tok _,by rw[tj r];exact q⟩
  ·subst e'
   obtain⟨its,r,pl,hz⟩:=I.tuple hx
   have hlen:=r.length
   exact truthy_tuple pl (by simp only[aO];omega) ⟨H,I.tok _,by rw[tj r];exact q⟩
  ·subst e'
   obtain⟨hz,hS,vs,r,m⟩:kvs.length≤sizeLine∧(p == sysModules)=false∧∃vs,KV kvs vs∧s.heap.DictOf (yB X.prog X.w) p vs:=I.hok p _ hx
   have hlen:kvs.length=vs.length:=Paired.length r
   exact wpAny_truthy_dict hS m (by omega) ⟨H,I.tok _,by rw[qX r];exact q⟩
 |_=>exact (show False from e).elim
theorem jI (ha:PE X a ta)(he:∀whole,isTrue a X.env whole=(do let v ←whole;standAt a.pos;holding [v] (truthy v))):
  PT X a (fun σ H Q=>ta σ H fun x H'=>∃k,cW X.K x H' k∧Q k H'):=by
 intro pins s σ H Q I h
 exact isTrue_plain (thn (ha pins s σ H _ I h) fun v s1 ⟨x,H1,I1,r1,q1⟩=>dM pins s1 σ H1 x v Q I1 r1 q1) (he _)
theorem vals1 {x:V}{us:List Value}(r:Vals [x] us):∃u,us=[u]∧RelV x u:=by
 cases r with
 |cons r1 r2=>cases r2;exact⟨_,rfl,r1⟩
theorem vals2 {x y:V}{us:List Value}(r:Vals [x,y] us):∃u w',us=[u,w']∧RelV x u∧RelV y w':=by
 cases r with
 |cons r1 r2=>
  cases r2 with
  |cons r3 r4=>cases r4;exact⟨_,_,rfl,r1,r3⟩
theorem qg :xr X (.builtin "abs") (fun xs H Q=>∃i,xs=[.int i]∧Q (.int (if i<0 then -i else i)) H):=by
 intro pins s σ H xs us Q I r h
 obtain⟨i,rfl,q⟩:=h
 obtain⟨u,rfl,t,rfl⟩:=vals1 r
 exact call_abs_int fun u tk=>⟨.int (if i<0 then -i else i),H,I.tok _,⟨_,rfl⟩,q⟩
theorem vj (hc:X.calm=true):xr X (.builtin "max") (fun xs H Q=>∃i j,xs=[.int i,.int j]∧Q (.int (if j > i then j else i)) H):=by
 intro pins s σ H xs us Q I r h
 obtain⟨i,j,rfl,q⟩:=h
 obtain⟨u,w',rfl,⟨t,rfl⟩,⟨t',rfl⟩⟩:=vals2 r
 refine max_two_ints (I.ok.hd hc) fun h' tk k=>⟨_,H,I.kept k,?_,q⟩
 by_cases hj:j > i
 ·rw[if_pos hj,if_pos hj];exact⟨_,rfl⟩
 ·rw[if_neg hj,if_neg hj];exact⟨_,rfl⟩
theorem tS (hc:X.calm=true):xr X (.builtin "min") (fun xs H Q=>∃i j,xs=[.int i,.int j]∧Q (.int (if j<i then j else i)) H):=by
 intro pins s σ H xs us Q I r h
 obtain⟨i,j,rfl,q⟩:=h
 obtain⟨u,w',rfl,⟨t,rfl⟩,⟨t',rfl⟩⟩:=vals2 r
 refine min_two_ints (I.ok.hd hc) fun h' tk k=>⟨_,H,I.kept k,?_,q⟩
 by_cases hj:j<i
 ·rw[if_pos hj,if_pos hj];exact⟨_,rfl⟩
 ·rw[if_neg hj,if_neg hj];exact⟨_,rfl⟩
end
structure oA (h:Heap)(x dx C:Addr)(mA:Str→Option Value):Prop where
 obj:h.get? x=some (PySem.W.instObj C dx)
 ns:h.Ns1 dx mA
 ne:dx≠x
theorem nV {h:Heap}{dx:Addr}{mA:Str→Option Value}(n:h.Ns1 dx mA):∃od,h.get? dx=some od∧∀name,PySem.W.lookIn name od=some (mA name):=by
 obtain⟨o,es,ep,ho,hd,hk,_,hm⟩:=n
 refine⟨o,ho,fun name=>?_⟩
 have e:=hm name
 unfold nsFind findBy at e
 rw[←Array.find?_toList] at e
 unfold PySem.W.lookIn
 rw[hd]
 dsimp only
 split
 ·rename_i y q
  rw[q] at e
  exact congrArg some e
 ·rename_i q
  rw[q] at e
  have a:es.toList.any (·.refKey)=false:=by
   rw[List.any_eq_false]
   intro y hy
   obtain⟨z,t,hkey⟩:=hk y (Array.mem_toList_iff.mp hy)
   simp[DictEntry.refKey,hkey]
  have a':¬es.toList.any (·.refKey)=true:=by rw[a];exact aU
  rw[if_neg a']
  exact congrArg some e
theorem oA.look {h:Heap}{x dx C:Addr}{mA:Str→Option Value}(I:oA h x dx C mA):∃od,PySem.W.InstAt h x (PySem.W.instObj C dx) C (some od)∧∀name,PySem.W.lookIn name od=some (mA name):=
 let ⟨od,ho,hl⟩:=nV I.ns
 ⟨od,⟨I.obj,rfl,rfl,ho⟩,hl⟩
section
variable {prog:Program}{w:World}{A:Around}{E:Value→Shared→Prop}{s:Shared}{K:PySem.W.Frag}{x dx C f:Addr}{mA:Str→Option Value}{name:Str}{v:Value}
theorem get_map {expr:Bool}{Q:Value→Shared→Prop}(X:K.In s.heap)(I:oA s.heap x dx C mA)(hg:PySem.W.plainGet K C name=true)(hh:PySem.W.hasDictIn K C=true)
  (ha:PySem.W.findIn K (.ref C) name=some none) (hv:mA name=some v) (hv':PySem.W.handedIn v=true) (h:Q v {s with toks:=s.toks+1}):
  wpAny (model prog w) A (getAttr (.ref x) name expr) Q E s:=by
 obtain⟨od,J,hl⟩:=I.look
 exact PySem.W.get_value X J (zi7 hg).1 (PySem.W.findObj_own hh ha rfl (by rw[hl,hv])) hv' h
theorem ki {pl:Sem Bool}{Q:Value×List Value→Shared→Prop}(X:K.In s.heap)(I:oA s.heap x dx C mA)(hg:PySem.W.plainGet K C name=true)
  (hf:PySem.W.findIn K (.ref C) name=some (some (.ref f))) (ht:PySem.W.isFn K (.ref f)=true) (hv:mA name=none) (h:Q (.ref f,[.ref x]) s):
  wpAny (model prog w) A (getMethod (.ref x) name pl) Q E s:=by
 obtain⟨od,J,hl⟩:=I.look
 exact PySem.W.method_fn X J (zi7 hg).1 (zi7 hg).2 hf (beq_iff_eq.mp ht) (by show (PySem.W.lookIn name od).map (·.isSome)=some false;rw[hl,hv];rfl) h
theorem fb {ns:List Str}{Q:Unit→Shared→Prop}(X:K.In s.heap)(I:oA s.heap x dx C mA)
  (hs:PySem.W.findIn K (.ref C) "__setattr__"=some (some (.builtin "object.__setattr__"))) (hp:PySem.W.plainOver K C=true) (ht:PySem.W.takerIn K C name=some none) (hh:PySem.W.hasDictIn K C=true)
  (hw:PySem.Within mA ns) (hsz:ns.length≤sizeLine)
  (h:∀h',oA h' x dx C (fun y=>if y=name then some v else mA y)→Heap.SameBut dx s.heap h'→Q () {s with heap:=h',toks:=s.toks+2}):
  wpAny (model prog w) A (setAttr (.ref x) name v) Q E s:=by
 obtain⟨od,J,hl⟩:=I.look
 refine PySem.W.set_plain X J hs (PySem.W.osa_open (s:={s with toks:=s.toks+1}) (r:=none) X J hp ht fun b=>?_)
 obtain⟨cd,hc,hd'⟩:=PySem.W.any_some hh
 have hx:s.heap.get? x=some ⟨.ref C,some dx,.plain,#[]⟩:=I.obj
 refine aT (zb1 (aT (aT (wpAny_loadPart hx (aT (PySem.W.Looks.here (s:={s with toks:=s.toks+1}) (PySem.W.looks_clsIn X hc) ?_))))))
 rw[hd']
 refine zb1 (a:=some dx) (aT (zb1 (aT ?_)))
 refine wpAny_nsSet1 (s:={s with toks:=s.toks+1}) I.ns fun h' hn2 hs2=>?_
 obtain⟨oD,esD,epD,hoD,hdD,hcD⟩:=hn2.count (PySem.Within.cons name v hw)
 refine aT (wpAny_lookBehind hoD (by rw[hdD];exact pastItsLine_dict (zb4 hcD (by rw[aW];omega))) ?_)
 exact zb1 (h _ ⟨(hs2.2 _ (Ne.symm I.ne)).trans I.obj,hn2,I.ne⟩ hs2)
theorem km {R:Result→Shared→Prop}{vs:List Value}{kw:List (Str×Value)}(X:K.In s.heap)(hm:PySem.W.makesIn K C=true)
  (hi:PySem.W.findIn K (.ref C) "__init__"=some (some (.ref f))) (hf:PySem.W.typeIn K (.ref f)=some (.type "function"))
  (h:codeAny (model prog w) (A.under (.builtin "type.__call__" ⟨.ref C::vs,kw⟩)) (.call (.ref f) ⟨.ref (s.heap.objs.size+1)::vs,kw⟩) (PySem.W.InitBack (s.heap.objs.size+1) R)
   {s with heap:=(s.heap.push PySem.W.emptyDict).push (PySem.W.instObj C s.heap.objs.size)}):
  codeAny (model prog w) A (.call (.ref C) ⟨vs,kw⟩) R s:=by
 obtain⟨hh,g,d,t,os⟩:=s
 exact PySem.W.make_core (PySem.W.makes_of X hm) (PySem.W.looks_findIn X hi) (fun self=>PySem.W.bind_fn X self hf) (.inl rfl) h
end
def yY (f:Str)(v:V):List (Str×V)→List (Str×V)
 |[]=>[(f,v)]
 |(g,x)::r=>if g=f then (g,v)::r else (g,x)::yY f v r
theorem zQ (f g:Str)(v:V):∀fs:List (Str×V),(yY f v fs).lookup g=if g=f then some v else fs.lookup g
 |[]=>by
  show List.lookup g [(f,v)]=_
  by_cases h:g=f
  ·have hb:(g == f)=true:=beq_iff_eq.mpr h
   simp only[List.lookup,hb,if_pos h]
  ·have hb:(g == f)=false:=zg8.mpr h
   simp only[List.lookup,hb,if_neg h]
 |(k,x)::r=>by
  have ih:=zQ f g v r
  rw[show yY f v ((k,x)::r)=(if k=f then (k,v)::r else (k,x)::yY f v r) from rfl]
  by_cases hk:k=f
  ·rw[if_pos hk]
   by_cases h:g=k
   ·have hb:(g == k)=true:=beq_iff_eq.mpr h
    simp only[List.lookup,hb,if_pos (h.trans hk)]
   ·have hb:(g == k)=false:=zg8.mpr h
    simp only[List.lookup,hb,if_neg (fun e:g=f=>h (e.trans hk.symm))]
  ·rw[if_neg hk]
   by_cases h:g=k
   ·have hb:(g == k)=true:=beq_iff_eq.mpr h
    simp only[List.lookup,hb,if_neg (fun e:g=f=>hk (h.symm.trans e))]
   ·have hb:(g == k)=false:=zg8.mpr h
    simp only[List.lookup,hb]
    exact ih
theorem vm (f:Str)(v:V):∀fs:List (Str×V),f∈(yY f v fs).map (·.1)∧∀g,g∈fs.map (·.1)→g∈(yY f v fs).map (·.1)
 |[]=>⟨by simp[yY],fun g h=>by simp at h⟩
 |(k,x)::r=>by
  obtain⟨i1,i2⟩:=vm f v r
  rw[show yY f v ((k,x)::r)=(if k=f then (k,v)::r else (k,x)::yY f v r) from rfl]
  by_cases hk:k=f
  ·rw[if_pos hk]
   subst hk
   exact⟨by simp,fun g h=>by simpa using h⟩
  ·rw[if_neg hk]
   refine⟨?_,fun g h=>?_⟩
   ·rw[zf0]
    exact aK _ i1
   ·rw[zf0] at h ⊢
    rcases aP.mp h with e|e
    ·exact aP.mpr (.inl e)
    ·exact aK _ (i2 g e)
theorem vK (f:Str)(v:V):∀fs:List (Str×V),(yY f v fs).length≤fs.length+1
 |[]=>by simp[yY]
 |(k,x)::r=>by
  have ih:=vK f v r
  rw[show yY f v ((k,x)::r)=(if k=f then (k,v)::r else (k,x)::yY f v r) from rfl]
  by_cases hk:k=f
  ·rw[if_pos hk,aW,aW];omega
  ·rw[if_neg hk,aW,aW];omega
theorem wO.some_of {v:V}{o:Option Value}(r:wO (some v) o):∃u,o=some u∧RelV v u:=by
 cases o with
 |none=>exact (show False from r).elim
 |some u=>exact⟨u,rfl,r⟩
theorem wO.none_of {o:Option Value}(r:wO none o):o=none:=by
 cases o with
 |none=>rfl
 |some u=>exact (show False from r).elim
theorem lF {v:V}{u:Value}(r:RelV v u):PySem.W.handedIn u=true:=by
 cases v with
 |non=>cases (show u=Value.none from r);rfl
 |bl b=>cases (show u=Value.bool b from r);rfl
 |int i=>obtain⟨t,e⟩:=(show ∃t,u=Value.int i t from r);cases e;rfl
 |str x=>obtain⟨t,e⟩:=(show ∃t,u=Value.str x t from r);cases e;rfl
 |byt b=>obtain⟨t,e⟩:=(show ∃t,u=Value.bytes b t from r);cases e;rfl
 |flt b=>obtain⟨t,e⟩:=(show ∃t,u=Value.float b t from r);cases e;rfl
 |ref a=>cases (show u=Value.ref a from r);rfl
 |ty n=>cases (show u=Value.type n from r);rfl
section
variable {P:Program}{w:World}{H H':Hp}{h h':Heap}{a C dx:Addr}{fs fs':List (Str×V)}
theorem vV (hok:HOk P w H h)(e:H a=some (.ins C dx fs)):∃mA,oA h a dx C mA∧(∀f,wO (fs.lookup f) (mA f))∧PySem.Within mA (fs.map (·.1))∧fs.length≤1000∧H dx=some (.own a):=by
 obtain⟨d,z,ne,ob,mA,n,r,q⟩:=(show yi P w H h a (.ins C dx fs) from hok a _ e)
 exact⟨mA,⟨ob,n,ne⟩,r,q,z,d⟩
end
structure Cls (K:PySem.W.Frag)(C:Addr):Prop where
 pg:PySem.W.plainGet K C Str.empty=true
 hd:PySem.W.hasDictIn K C=true
 po:PySem.W.plainOver K C=true
 sa:PySem.W.findIn K (.ref C) "__setattr__"=some (some (.builtin "object.__setattr__"))
theorem Cls.get {K:PySem.W.Frag}{C:Addr}(c:Cls K C)(f:Str):PySem.W.plainGet K C f=true:=c.pg
def yD (K:PySem.W.Frag)(C:Addr)(f:Str):Prop:=PySem.W.findIn K (.ref C) f=some none
theorem yD.taker {K:PySem.W.Frag}{C:Addr}{f:Str}(n:yD K C f):PySem.W.takerIn K C f=some none:=by
 unfold PySem.W.takerIn
 rw[show PySem.W.findIn K (.ref C) f=some none from n]
 rfl
structure Meth (K:PySem.W.Frag)(C:Addr)(m:Str)(f:Addr):Prop where
 at_:PySem.W.findIn K (.ref C) m=some (some (.ref f))
 fn:PySem.W.isFn K (.ref f)=true
 kp:PySem.W.keepIn K (.ref f)=true
section
variable {X:Cx}{pins:List (Addr×Obj)}{σ:St}{H:Hp}{s:Shared}{a C dx:Addr}{fs:List (Str×V)}{f:Str}{v:V}{A:Around}{E:Value→Shared→Prop}
theorem oE {b:Bool}{Q:Value→Shared→Prop}(I:Inv X pins σ H s)(e:H a=some (.ins C dx fs))(c:Cls X.K C)(n:yD X.K C f)(l:fs.lookup f=some v)
  (h:∀u s',Inv X pins σ H s'→RelV v u→Q u s'):wpAny (model X.prog X.w) A (getAttr (.ref a) f b) Q E s:=by
 obtain⟨mA,O,r,_,_,_⟩:=vV I.hok e
 obtain⟨u,hu,ru⟩:=wO.some_of (v:=v) (o:=mA f) (by rw[←l];exact r f)
 exact get_map I.kIn O (c.get f) c.hd n hu (lF ru) (h u _ (I.tok _) ru)
theorem wo {m:Str}{g:Addr}{pl:Sem Bool}{Q:Value×List Value→Shared→Prop}(I:Inv X pins σ H s)(e:H a=some (.ins C dx fs))(c:Cls X.K C)(k:Meth X.K C m g)(l:fs.lookup m=none)
  (h:Q (.ref g,[.ref a]) s):wpAny (model X.prog X.w) A (getMethod (.ref a) m pl) Q E s:=by
 obtain⟨mA,O,r,_,_,_⟩:=vV I.hok e
 have hn:mA m=none:=wO.none_of (by rw[←l];exact r m)
 exact ki I.kIn O (c.get m) k.at_ k.fn hn h
theorem pR {y:V}{u:Value}{Q:Unit→Shared→Prop}(I:Inv X pins σ H s)(e:H a=some (.ins C dx fs))(c:Cls X.K C)(n:yD X.K C f)(hl:fs.length<1000)(ry:RelV y u)
  (h:∀s',Inv X pins σ (upd H a (.ins C dx (yY f y fs))) s'→Q () s'):wpAny (model X.prog X.w) A (setAttr (.ref a) f u) Q E s:=by
 obtain⟨mA,O,r,wi,_,ho⟩:=vV I.hok e
 have hz:(fs.map (·.1)).length≤sizeLine:=by rw[aI,ze3];omega
 refine fb I.kIn O c.sa c.po n.taker c.hd wi hz fun h' O' sb=>h _ ?_
 have hd:∃o,h'.get? dx=some o:=let ⟨o,_,_,e',_⟩:=O'.ns;⟨o,e'⟩
 refine I.write (x:=a) (e:=dx) (by rw[e];exact True.intro) (.inr ho) (fun b q hb z=>(sb.2 b hb).trans z) hd ?_
 refine⟨by rw[zc O.ne];exact ho,?_,O.ne,O'.obj,_,O'.ns,fun g=>?_,fun g hg=>?_⟩
 ·have:=vK f y fs;omega
 ·show wO ((yY f y fs).lookup g) (if g=f then some u else mA g)
  rw[zQ]
  by_cases q:g=f
  ·rw[if_pos q,if_pos q];exact ry
  ·rw[if_neg q,if_neg q];exact r g
 ·by_cases q:g=f
  ·rw[q];exact (vm f y fs).1
  ·refine (vm f y fs).2 g (wi g fun z=>hg ?_)
   show (if g=f then some u else mA g)=none
   rw[if_neg q];exact z
theorem Inv.made (I:Inv X pins σ H s):Inv X pins σ (upd (upd H s.heap.objs.size (.own (s.heap.objs.size+1))) (s.heap.objs.size+1) (.ins C s.heap.objs.size []))
  {s with heap:=(s.heap.push PySem.W.emptyDict).push (PySem.W.instObj C s.heap.objs.size)}:=by
 have e1:(s.heap.push PySem.W.emptyDict).get? s.heap.objs.size=some PySem.W.emptyDict:=zb2 s.heap rfl
 have e2:((s.heap.push PySem.W.emptyDict).push (PySem.W.instObj C s.heap.objs.size)).get? (s.heap.objs.size+1)=some (PySem.W.instObj C s.heap.objs.size):=by
  have:=zb2 (s.heap.push PySem.W.emptyDict) (o:=PySem.W.instObj C s.heap.objs.size) rfl
  rwa [Heap.size_push] at this
 have e3:(s.heap.push PySem.W.emptyDict).Ns s.heap.objs.size (fun _=>none):=⟨PySem.W.emptyDict,#[],_,e1,rfl,(fun e he=>absurd he (by simp)),fun _=>rfl⟩
 have I1:=I.laid (a:=s.heap.objs.size) (o:=.own (s.heap.objs.size+1)) (h':=s.heap.push PySem.W.emptyDict) (t':=s.toks) (fun b u q=>aR _ q) (aN _) ⟨_,e1⟩
 refine I1.laid (a:=s.heap.objs.size+1) (o:=.ins C s.heap.objs.size []) (t':=s.toks) (fun b u q=>aR _ q) (zi3 (Heap.size_push _ _)) ?_
 have ne:s.heap.objs.size≠s.heap.objs.size+1:=za1 (zh9 _)
 refine⟨by rw[zc ne,ze],aS _,ne,e2,fun _=>none,(Heap.Ns1.of_empty e3).at fun o q=>aR _ q,fun _=>True.intro,fun y hy=>absurd rfl hy⟩
theorem ff {prog:Program}{w:World}{env:Env}{e:Expr}{f:Str}{pos:Pos}{s:Shared}{Q:Value→Shared→Prop}(hb:attributeBase e f env (eval e env)=eval e env)
  (h:wpAny (model prog w) A (eval e env) (fun o s₁=>wpAny (model prog w) A (getAttr o f true) Q E s₁) E s):wpAny (model prog w) A (eval (.Attribute e f pos) env) Q E s:=
 Attribute_any_ h (by rw[arm_eval_Attribute,hb])
end
def aB (K:PySem.W.Frag)(ta:TE)(f:Str):TE:=fun σ H Q=>ta σ H fun x H1=>∃a C dx fs v,x=.ref a∧H1 a=some (.ins C dx fs)∧Cls K C∧yD K C f∧fs.lookup f=some v∧Q v H1
def ao (K:PySem.W.Frag)(ta tv:TE)(f:Str):TS:=fun D σ H=>tv σ H fun y H1=>ta σ H1 fun x H2=>∃a C dx fs,x=.ref a∧H2 a=some (.ins C dx fs)∧Cls K C∧yD K C f∧fs.length<1000∧
 D.nx σ (upd H2 a (.ins C dx (yY f y fs)))
section
variable {X:Cx}{o e value:Expr}{f:Str}{pos pos' tpos:Pos}{ta tv:TE}
theorem rA (he:PE X e ta)(hb:attributeBase e f X.env (eval e X.env)=eval e X.env):PE X (.Attribute e f pos) (aB X.K ta f):=by
 intro pins s σ H Q I h
 refine ff hb (thn (he pins s σ H _ I h) fun u s1 ⟨x,H1,I1,rx,a,C,dx,fs,v,ex,ea,c,n,l,q⟩=>?_)
 subst ex
 obtain rfl:u=Value.ref a:=rx
 exact oE I1 ea c n l fun u' s2 I2 ru=>⟨v,H1,I2,ru,q⟩
theorem sV (ha:PE X o ta)(hv:PE X value tv)(hs:swapsWith value (some (.Attribute o f pos')) pos.line X.env=pure false):PS X (.Assign [.Attribute o f pos'] value pos) (ao X.K ta tv f):=by
 intro pins s σ H D I h
 refine plainObj_wpAny_Assign_Attribute (thn (hv pins s σ H _ I h) fun u s1 ⟨y,H1,I1,ry,q⟩=>thn (ha pins s1 σ H1 _ I1 q) fun ov s2 ⟨x,H2,I2,rx,a,C,dx,fs,ex,ea,c,n,l,q2⟩=>?_) hs
 subst ex
 obtain rfl:ov=Value.ref a:=rx
 exact pR I2 ea c n l ry fun s3 I3=>⟨σ,_,I3,q2⟩
theorem fJ {pl:Sem Bool}{m:Str}{apos:Pos}{args:List Expr}{pins:List (Addr×Obj)}{s:Shared}{σ:St}{H:Hp}{Q:Value→Shared→Prop}{te:TE}(he:PE X e te)(I:Inv X pins σ H s)
  (h:te σ H fun x H1=>∃a C dx fs g,x=.ref a∧H1 a=some (.ins C dx fs)∧Cls X.K C∧Meth X.K C m g∧fs.lookup m=none∧
   ∀s1,Inv X pins σ H1 s1→wpAny (model X.prog X.w) X.A (callWith pos (.ref g) [.ref a] (backTo pos (starEach args X.env)) (backToKw pos (keywordEach [] X.env))) Q X.xe s1)
  (ht:eval (.Call (.Attribute e m apos) args [] pos) X.env=(do
   let ov ←eval e X.env
   standAt apos.atName
   let (f,first) ←holding [ov] (getMethod ov m pl)
   callWith pos f first (backTo pos (starEach args X.env)) (backToKw pos (keywordEach [] X.env)))):
  wpAny (model X.prog X.w) X.A (eval (.Call (.Attribute e m apos) args [] pos) X.env) Q X.xe s:=by
 refine zi1 (pl:=pl) (thn (he pins s σ H _ I h) fun u s1 ⟨x,H1,I1,rx,a,C,dx,fs,g,ex,ea,c,k,l,q⟩=>?_) ht
 subst ex
 obtain rfl:u=Value.ref a:=rx
 exact wo I1 ea c k l (q s1 I1)
end
section
variable {X:Cx}{pins:List (Addr×Obj)}{σ:St}{H:Hp}{s:Shared}{A:Around}{E:Value→Shared→Prop}{Q:Value→Shared→Prop}{c:Value}{b:Bool}
inductive wK (K:PySem.W.Frag)(H:Hp):V→Value→Prop where
 |non:wK K H .non (.type "NoneType")
 |bl (x:Bool):wK K H (.bl x) (.type "bool")
 |int (i:Int):wK K H (.int i) (.type "int")
 |str (x:Str):wK K H (.str x) (.type "str")
 |flt (x:UInt64):wK K H (.flt x) (.type "float")
 |lst {a:Addr} {xs:List V} (e:H a=some (.lst xs)):wK K H (.ref a) (.type "list")
 |frz {a:Addr} {o:Obj} {xs:List V} (e:H a=some (.frz o (.lst xs))):wK K H (.ref a) (.type "list")
 |tup {a:Addr} {xs:List V} (e:H a=some (.tup xs)):wK K H (.ref a) (.type "tuple")
 |dK {a:Addr} {kvs:List (Key×V)} (e:H a=some (.dK kvs)):wK K H (.ref a) (.type "dict")
 |dT {a:Addr} {kvs:List (List Key×V)} (e:H a=some (.dT kvs)):wK K H (.ref a) (.type "dict")
 |ins {a C dx:Addr} {fs:List (Str×V)} (e:H a=some (.ins C dx fs)) (cl:Cls K C) (ha:PySem.W.findIn K (.ref C) "__class__"=some (some (.builtin "object.__class__")))
   (hn:PySem.W.specialIn K (.builtin "object.__class__") "__get__"=some (some (.builtin "getset_descriptor.__get__"))) (htk:PySem.W.takesIn K (.builtin "object.__class__")=some true)
   (hm:PySem.W.mroIn K C (.type "object")=some true):wK K H (.ref a) (.ref C)
theorem mC {x:V}{u t:Value}(I:Inv X pins σ H s)(rx:RelV x u)(ty:wK X.K H x t)(e:PySem.W.kitOne X.K t c=some b)(h:∀tk,Q (.bool b) {s with toks:=tk}):
  wpAny (model X.prog X.w) A (call (.builtin "isinstance") [u,c]) Q E s:=by
 cases ty with
 |non=>cases (show u=Value.none from rx);exact zc2 PySem.W.kitx_none I.kIn True.intro e (fun z=>nomatch z) h
 |bl y=>cases (show u=Value.bool y from rx);exact zc2 PySem.W.kitx_bool I.kIn True.intro e (fun z=>nomatch z) h
 |int i=>obtain⟨t,q⟩:=(show ∃t,u=Value.int i t from rx);cases q;exact zc2 PySem.W.kitx_int I.kIn True.intro e (fun z=>nomatch z) h
 |str y=>obtain⟨t,q⟩:=(show ∃t,u=Value.str y t from rx);cases q;exact zc2 PySem.W.kitx_str I.kIn True.intro e (fun z=>nomatch z) h
 |flt y=>obtain⟨t,q⟩:=(show ∃t,u=Value.float y t from rx);cases q;exact zc2 PySem.W.kitx_float I.kIn True.intro e (fun z=>nomatch z) h
 |@lst a xs ea=>
  cases (show u=Value.ref a from rx)
  obtain⟨_,_,n,_,h1⟩:=(show yi X.prog X.w H s.heap a (.lst xs) from I.hok a _ ea)
  exact zc2 PySem.W.kitx_list I.kIn ⟨_,h1,rfl⟩ e (fun z=>nomatch z) h
 |@frz a ob xs ea=>
  cases (show u=Value.ref a from rx)
  obtain⟨_,_,_,n,_,h1⟩:=(show yi X.prog X.w H s.heap a (.frz ob (.lst xs)) from I.hok a _ ea)
  exact zc2 PySem.W.kitx_list I.kIn ⟨_,h1,rfl⟩ e (fun z=>nomatch z) h
 |@tup a xs ea=>
  cases (show u=Value.ref a from rx)
  obtain⟨_,_,_,p⟩:=(show yi X.prog X.w H s.heap a (.tup xs) from I.hok a _ ea)
  obtain⟨o,h1,h2,_⟩:=p
  exact zc2 PySem.W.kitx_tuple I.kIn ⟨o,h1,h2⟩ e (fun z=>nomatch z) h
 |@dK a kvs ea=>
  cases (show u=Value.ref a from rx)
  obtain⟨_,_,vs,_,p⟩:=(show yi X.prog X.w H s.heap a (.dK kvs) from I.hok a _ ea)
  obtain⟨o,es,ep,h1,h2,_⟩:=p
  exact zc2 PySem.W.kitx_dict I.kIn ⟨o,h1,h2.1⟩ e (fun z=>nomatch z) h
 |@dT a kvs ea=>
  cases (show u=Value.ref a from rx)
  obtain⟨_,_,xs,_,o,es,ep,h1,h2,_⟩:=(show yi X.prog X.w H s.heap a (.dT kvs) from I.hok a _ ea)
  exact zc2 PySem.W.kitx_dict I.kIn ⟨o,h1,h2.1⟩ e (fun z=>nomatch z) h
 |@ins a C dx fs ea cl ha hn htk hm=>
  cases (show u=Value.ref a from rx)
  obtain⟨mA,O,_⟩:=vV I.hok ea
  obtain⟨od,J,_⟩:=O.look
  exact zc2 (PySem.W.kitx_own (cl.get _) cl.hd ha hn htk hm) I.kIn J e (fun z=>nomatch z) h
end
structure zR (k:Nat)(A:Around):Prop where
 hd:A.handled=none
 dp:A.depth+3*k+5<recursionLimit
 un:A.units+16*k+200<cLine
 gd:A.guards=some []
theorem zR.mono {j k:Nat}{A:Around}(r:zR k A)(h:j≤k):zR j A:=⟨r.hd,by have:=r.dp;omega,by have:=r.un;omega,r.gd⟩
theorem zR.deeper {k:Nat}{A:Around}(r:zR (k+1) A)(env:Env):zR k (A.deeper env):=
 ⟨r.hd,by have:=r.dp;show A.depth+1+3*k+5<_;omega,by have:=r.un;show A.units+3+16*k+200<_;omega,r.gd⟩
theorem pT {A:Around}{C:Addr}{us:List Value}{kw:List (Str×Value)}:(A.under (.builtin "type.__call__" ⟨.ref C::us,kw⟩)).depth=A.depth+1:=by
 first|rfl|simp[Around.under,Code.weight,Code.isCreation,Code.isGuard,Code.isCaller,Code.frames,Code.isFrame,guardIds]
theorem pM {A:Around}{C:Addr}{us:List Value}{kw:List (Str×Value)}:(A.under (.builtin "type.__call__" ⟨.ref C::us,kw⟩)).units=A.units+1:=by
 first|rfl|simp[Around.under,Code.cUnits,Code.frames,Code.isFrame]
theorem qP {A:Around}{C:Addr}{us:List Value}{kw:List (Str×Value)}:(A.under (.builtin "type.__call__" ⟨.ref C::us,kw⟩)).guards=A.guards:=by
 first|rfl|simp[Around.under,Code.guards,Code.isGuard,guardIds,pushGuards]
theorem zR.make {k:Nat}{A:Around}(r:zR (k+1) A)(C:Addr)(us:List Value)(kw:List (Str×Value)):zR k (A.under (.builtin "type.__call__" ⟨.ref C::us,kw⟩)):=
 ⟨r.hd,by have:=r.dp;rw[pT];omega,by have:=r.un;rw[pM];omega,(qP (A:=A)).trans r.gd⟩
theorem zR.depth {k:Nat}{A:Around}(r:zR k A):A.depth<recursionLimit:=by have:=r.dp;omega
theorem zR.units {k:Nat}{A:Around}(r:zR k A):A.units+64<cLine:=by have:=r.un;omega
def bp :TA:=fun _ H Q=>Q [] H
def bu (ta:TE)(tr:TA):TA:=fun σ H Q=>ta σ H fun x H1=>tr σ H1 fun xs H2=>Q (x::xs) H2
section
variable {X:Cx}{e:Expr}{es:List Expr}{te:TE}{t:TA}{pos:Pos}
theorem zh :PA X [] bp:=fun _ _ _ _ H Q I h=>Calls.spliced_nil ⟨[],H,I,.nil,h⟩
theorem za (ha:PE X e te)(hr:PA X es t)(hs:starEach (e::es) X.env=(false,eval e X.env)::starEach es X.env:=by rfl):PA X (e::es) (bu te t):=by
 intro pos pins s σ H Q I h
 rw[hs]
 show wpAny _ _ (spliced ((false,eval e X.env)::backTo pos (starEach es X.env))) _ _ s
 refine Calls.spliced_cons (thn (ha pins s σ H _ I h) fun u s1 ⟨x,H1,I1,r1,q1⟩=>?_)
 exact thn (hr pos pins s1 σ H1 _ I1 q1) fun us s2 ⟨xs,H2,I2,r2,q2⟩=>⟨x::xs,H2,I2,.cons r1 r2,q2⟩
def bZ (t:TA):TE:=fun σ H Q=>t σ H fun xs H1=>xs.length≤sizeLine∧∀p,H1 p=none→Q (.ref p) (upd H1 p (.tup xs))
def aE (t:TA):TE:=fun σ H Q=>t σ H fun xs H1=>xs.length≤sizeLine∧∀p,H1 p=none→Q (.ref p) (upd H1 p (.lst xs))
theorem vb {x1}(h:PA X es t):PE X (.Tuple es x1 pos) (bZ t):=by
 intro pins s σ H Q I hq
 refine wpAny_Tuple_spliced (thn (h pos pins s σ H _ I hq) fun us s1 ⟨xs,H1,I1,r,z,q⟩=>⟨by rw[←r.length];exact z,?_⟩)
 have hf:H1 s1.heap.objs.size=none:=I1.hok.fresh (aN _)
 refine⟨.ref s1.heap.objs.size,upd H1 s1.heap.objs.size (.tup xs),I1.laid (t':=s1.toks) (fun b u e=>aR _ e) (aN _) ?_,rfl,q _ hf⟩
 exact⟨z,us,r,⟨_,zb2 _ rfl,rfl,_,rfl⟩⟩
theorem sJ (h:PA X es t):PE X (.List es pos) (aE t):=by
 intro pins s σ H Q I hq
 refine wpAny_List_spliced (thn (h pos pins s σ H _ I hq) fun us s1 ⟨xs,H1,I1,r,z,q⟩=>⟨by rw[←r.length];exact z,?_⟩)
 have hf:H1 s1.heap.objs.size=none:=I1.hok.fresh (aN _)
 refine⟨.ref s1.heap.objs.size,upd H1 s1.heap.objs.size (.lst xs),I1.laid (t':=s1.toks) (fun b u e=>aR _ e) (aN _) ?_,rfl,q _ hf⟩
 exact⟨z,us,0,r,zb2 _ rfl⟩
end
abbrev Sp :=List V→Hp→VK→XK→Prop
abbrev CXT :=List Env→Hp→Shared→XK→Value→Shared→Prop
structure oj (P:Program)(w:World)(K:PySem.W.Frag)(mg:Str→Option Value)(base:Heap)(A:Around)(outer:List Env)(s:Shared)(H:Hp):Prop where
 frames:A.frames=some outer
 mod:Mod K mg base
 bs:∀b o,base.get? b=some o→s.heap.get? b=some o∧H b=none
 bsz:base.objs.size≤s.heap.objs.size
 funs:s.heap.FunFrames base outer
 frf:∀b∈frs outer,H b=none
 hok:HOk P w H s.heap
 bare:AllBare s.gens
def CE (outer:List Env)(P:Program)(w:World)(H:Hp)(s:Shared)(Q:VK)(u:Value)(s':Shared):Prop:=
 ∃v H',s'.os=s.os∧AllBare s'.gens∧Un (frs outer) [] H H' s.heap s'.heap∧HOk P w H' s'.heap∧RelV v u∧Q v H'
def CR (CX:CXT)(outer:List Env)(P:Program)(w:World)(H:Hp)(s:Shared)(Q:VK)(E:XK)(r:Result)(s':Shared):Prop:=
 match r with
 |.ok (.ret u)=>CE outer P w H s Q u s'
 |.ok _=>False
 |.error e=>CX outer H s E e s'
structure zt (P:Program)(w:World)(K:PySem.W.Frag)(mg:Str→Option Value)(base:Heap)(CX:CXT)(k:Nat)(f:Addr)(fd:FuncData)(ps:List Str)(sp:Sp):Prop where
 len:∀vs H Q E,sp vs H Q E→vs.length=ps.length
 run:∀(A:Around) (outer:List Env) (s:Shared) (H:Hp) (args:Args) (us:List Value) (vs:List V) (Q:VK) (E:XK),zR k A→oj P w K mg base A outer s H→BindsTo s fd args (ps.zip us)→Vals vs us→sp vs H Q E→
  codeAny (model P w) A (.call (.ref f) args) (CR CX outer P w H s Q E) s
theorem zt.imp {P:Program}{w:World}{K:PySem.W.Frag}{mg:Str→Option Value}{base:Heap}{CX:CXT}{k:Nat}{f:Addr}{fd:FuncData}{ps:List Str}{sp sp':Sp}(F:zt P w K mg base CX k f fd ps sp)
  (h:∀vs H Q E,sp' vs H Q E→sp vs H Q E):zt P w K mg base CX k f fd ps sp':=
 ⟨fun vs H Q E q=>F.len vs H Q E (h _ _ _ _ q),fun A outer s H args us vs Q E hr he hb hv hs=>F.run A outer s H args us vs Q E hr he hb hv (h _ _ _ _ hs)⟩
theorem oj.make {P:Program}{w:World}{K:PySem.W.Frag}{mg:Str→Option Value}{base:Heap}{A:Around}{outer:List Env}{s:Shared}{H:Hp}(e:oj P w K mg base A outer s H)(C:Addr)(us:List Value)(kw:List (Str×Value)):
  oj P w K mg base (A.under (.builtin "type.__call__" ⟨.ref C::us,kw⟩)) outer s H:=⟨by first|exact e.frames|(simpa[Around.under,Code.envs,Code.isFrame,pushEnvs] using e.frames),e.mod,e.bs,e.bsz,e.funs,e.frf,e.hok,e.bare⟩
section
variable {X:Cx}{pins:List (Addr×Obj)}{σ:St}{H:Hp}{s s':Shared}
theorem Inv.env0 (I:Inv X pins σ H s):oj X.prog X.w X.K X.mg X.base X.A X.stack s H:=
 ⟨I.ok.frames,I.ok.mod,I.bs,zb4 I.ok.bsz I.sz,I.stack,I.stkFree,I.hok,I.bare⟩
theorem Inv.after {Q:VK}{u:Value}(I:Inv X pins σ H s)(h:CE X.stack X.prog X.w H s Q u s'):EP X pins σ Q u s':=by
 obtain⟨v,H',os,bare,un,hok,r,q⟩:=h
 obtain⟨hh,g,d,t,os'⟩:=s'
 obtain rfl:os'=s.os:=os
 exact⟨v,H',I.call (h':=hh) (g':=g) (d':=d) (t':=t) (ch:=[]) un hok bare (fun b z=>absurd z (by simp)),r,q⟩
end
def cX (sp:Sp)(dvs:List V)(E:XK)(t:TA):TE:=fun σ H Q=>t σ H fun vs H1=>sp (vs++dvs) H1 Q E
def fw (C:Addr)(m:Str)(sp:Sp)(dvs:List V)(E:XK)(ta:TE)(t:TA):TE:=fun σ H Q=>ta σ H fun x H1=>∃a dx fs,x=.ref a∧H1 a=some (.ins C dx fs)∧fs.lookup m=none∧
 t σ H1 fun vs H2=>sp (x::(vs++dvs)) H2 Q E
def bh (C:Addr)(sp:Sp)(dvs:List V)(E:XK)(t:TA):TE:=fun σ H Q=>t σ H fun vs H1=>∀x dx,H1 x=none→H1 dx=none→dx≠x→
 sp (.ref x::(vs++dvs)) (upd (upd H1 dx (.own x)) x (.ins C dx [])) (fun v H2=>v=.non∧Q (.ref x) H2) E
def Binds (K:PySem.W.Frag)(fd:FuncData)(ps:List Str)(ds:List Value):Prop:=
 ∀(s:Shared) (us:List Value),K.In s.heap→(us++ds).length=ps.length→BindsTo s fd ⟨us,[]⟩ (ps.zip (us++ds))
theorem Binds.all {K:PySem.W.Frag}{fd:FuncData}{ps:List Str}(h:∀us:List Value,us.length=ps.length→bindArgs fd ⟨us,[]⟩=pure (ps.zip us)):Binds K fd ps []:=fun s us _ hl=>by
 rw[zg0] at hl ⊢
 exact .of_eq (h us hl)
def Passes (CX:CXT)(X:Cx)(E:XK):Prop:=∀(pins:List (Addr×Obj)) (σ:St) (H:Hp) (s:Shared) (e:Value) (s':Shared),Inv X pins σ H s→CX X.stack H s E e s'→X.xe e s'
section
variable {X:Cx}{CX:CXT}{k:Nat}{f C:Addr}{fd:FuncData}{ps:List Str}{sp:Sp}{dvs:List V}{ds:List Value}{E:XK}{x m:Str}{p pos apos:Pos}{e o:Expr}{es:List Expr}{ta:TE}{t:TA}
theorem oy {pins:List (Addr×Obj)}{σ:St}{H:Hp}{s:Shared}{Q:VK}{us:List Value}{vs:List V}(F:zt X.prog X.w X.K X.mg X.base CX k f fd ps sp)(hr:zR k X.A)(hb:Binds X.K fd ps ds)(hd:Vals dvs ds)(hx:Passes CX X E)
  (I:Inv X pins σ H s) (r:Vals vs us) (h:sp (vs++dvs) H Q E):wpAny (model X.prog X.w) X.A (call (.ref f) us) (EP X pins σ Q) X.xe s:=by
 have r2:Vals (vs++dvs) (us++ds):=r.append hd
 have hl:(us++ds).length=ps.length:=by rw[←r2.length];exact F.len _ _ _ _ h
 refine wpAny_call (codeAny_mono (F.run X.A X.stack s H ⟨us,[]⟩ (us++ds) (vs++dvs) Q E hr I.env0 (hb s us I.kIn hl) r2 h) fun r s' hq=>?_)
 cases r with
 |error e=>exact hx pins σ H s e s' I hq
 |ok fl=>
  cases fl with
  |ret u=>exact I.after hq
  |next=>exact False.elim hq
  |brk=>exact False.elim hq
  |cont=>exact False.elim hq
theorem zF (F:zt X.prog X.w X.K X.mg X.base CX k f fd ps sp)(hr:zR k X.A)(hg:Gl X x)(hm:X.mg x=some (.ref f))(hk:PySem.W.keepIn X.K (.ref f)=true)(hb:Binds X.K fd ps ds)(hd:Vals dvs ds)(hx:Passes CX X E)
  (ha:PA X (e::es) t) (hdb:(x == ("__debug__":Str))=false:=by decide) (he:starEach (e::es) X.env=(false,eval e X.env)::starEach es X.env:=by rfl) (hpl:(backTo pos (starEach es X.env)).any (·.1)=false:=by rfl):
  PE X (.Call (.Name x p) (e::es) [] pos) (cX sp dvs E t):=by
 intro pins s σ H Q I h
 refine zh1 (rf I hg hm ?_ hdb)
 refine zi9 (h₀:=X.base) I.ok.mod.kin hk (thn (ha pos pins s σ H _ I h) fun us s1 ⟨vs,H1,I1,r,q⟩=>⟨I1.kIn,?_⟩) he hpl
 exact oy F hr hb hd hx I1 r q
theorem gf {pl:Sem Bool}(he:PE X o ta)(c:Cls X.K C)(hm:Meth X.K C m f)(F:zt X.prog X.w X.K X.mg X.base CX k f fd ps sp)(hr:zR k X.A)(hb:Binds X.K fd ps ds)(hd:Vals dvs ds)(hx:Passes CX X E)(ha:PA X (e::es) t)
  (hst:starEach (e::es) X.env=(false,eval e X.env)::starEach es X.env:=by rfl) (hpl:(backTo pos (starEach es X.env)).any (·.1)=false:=by rfl)
  (ht:eval (.Call (.Attribute o m apos) (e::es) [] pos) X.env=(do
   let ov ←eval o X.env
   standAt apos.atName
   let (f,first) ←holding [ov] (getMethod ov m pl)
   callWith pos f first (backTo pos (starEach (e::es) X.env)) (backToKw pos (keywordEach [] X.env))):=by rfl):
  PE X (.Call (.Attribute o m apos) (e::es) [] pos) (fw C m sp dvs E ta t):=by
 intro pins s σ H Q I h
 refine zi1 (pl:=pl) (thn (he pins s σ H _ I h) fun u s1 ⟨x,H1,I1,rx,a,dx,fs,ex,ea,l,q⟩=>?_) ht
 subst ex
 obtain rfl:u=Value.ref a:=rx
 refine wo I1 ea c hm l ?_
 refine zi9 (first:=[.ref a]) (h₀:=X.base) I.ok.mod.kin hm.kp (thn (ha pos pins s1 σ H1 _ I1 q) fun us s2 ⟨vs,H2,I2,r,q2⟩=>⟨I2.kIn,?_⟩) hst hpl
 exact oy (us:=.ref a::us) (vs:=.ref a::vs) F hr hb hd hx I2 (.cons rfl r) q2
theorem uI {pl:Sem Bool}(he:PE X o ta)(c:Cls X.K C)(hm:Meth X.K C m f)(F:zt X.prog X.w X.K X.mg X.base CX k f fd ps sp)(hr:zR k X.A)(hb:Binds X.K fd ps ds)(hd:Vals dvs ds)(hx:Passes CX X E)
  (ht:eval (.Call (.Attribute o m apos) [] [] pos) X.env=(do
   let ov ←eval o X.env
   standAt apos.atName
   let (f,first) ←holding [ov] (getMethod ov m pl)
   callWith pos f first (backTo pos (starEach [] X.env)) (backToKw pos (keywordEach [] X.env))):=by rfl):
  PE X (.Call (.Attribute o m apos) [] [] pos) (fw C m sp dvs E ta bp):=by
 intro pins s σ H Q I h
 refine zi1 (pl:=pl) (thn (he pins s σ H _ I h) fun u s1 ⟨x,H1,I1,rx,a,dx,fs,ex,ea,l,q⟩=>?_) ht
 subst ex
 obtain rfl:u=Value.ref a:=rx
 refine wo I1 ea c hm l ?_
 exact PySem.W.callWith_K0 (first:=[.ref a]) I1.kIn hm.kp (oy (us:=[.ref a]) (vs:=[.ref a]) F hr hb hd hx I1 (.cons rfl .nil) q)
structure Mk (K:PySem.W.Frag)(C f:Addr):Prop where
 makes:PySem.W.makesIn K C=true
 init:PySem.W.findIn K (.ref C) "__init__"=some (some (.ref f))
 fn:PySem.W.isFn K (.ref f)=true
 kp:PySem.W.keepIn K (.ref C)=true
theorem kj {pins:List (Addr×Obj)}{σ:St}{H:Hp}{s:Shared}{Q:VK}{us:List Value}{vs:List V}(M:Mk X.K C f)(F:zt X.prog X.w X.K X.mg X.base CX k f fd ps sp)(hr:zR (k+1) X.A)(hb:Binds X.K fd ps ds)(hd:Vals dvs ds)
  (hx:Passes CX X E) (I:Inv X pins σ H s) (r:Vals vs us)
  (h:∀x dx,H x=none→H dx=none→dx≠x→sp (.ref x::(vs++dvs)) (upd (upd H dx (.own x)) x (.ins C dx [])) (fun v H2=>v=.non∧Q (.ref x) H2) E):
  wpAny (model X.prog X.w) X.A (call (.ref C) us) (EP X pins σ Q) X.xe s:=by
 have hq:=h (s.heap.objs.size+1) s.heap.objs.size (I.hok.fresh (zh6 _)) (I.hok.fresh (aN _)) (za1 (zh9 _))
 have I2:=Inv.made (C:=C) I
 have r2:Vals (V.ref (s.heap.objs.size+1)::(vs++dvs)) (Value.ref (s.heap.objs.size+1)::(us++ds)):=.cons rfl (r.append hd)
 have hl:(Value.ref (s.heap.objs.size+1)::us++ds).length=ps.length:=by
  have e:=r2.length
  rw[F.len _ _ _ _ hq] at e
  exact e.symm
 refine wpAny_call (km (f:=f) I.kIn M.makes M.init (beq_iff_eq.mp M.fn) (codeAny_mono (F.run _ X.stack _ _ ⟨Value.ref (s.heap.objs.size+1)::us,[]⟩ (Value.ref (s.heap.objs.size+1)::(us++ds)) _ _ E (hr.make C us [])
  (I2.env0.make C us []) (hb _ (Value.ref (s.heap.objs.size+1)::us) I2.kIn hl) r2 hq) fun r s' hq'=>?_))
 cases r with
 |error e=>exact hx pins σ _ _ e s' I2 hq'
 |ok fl=>
  cases fl with
  |ret u=>
   obtain⟨v,H',I3,rv,ev,q3⟩:=I2.after hq'
   subst ev
   exact⟨rv,⟨V.ref (s.heap.objs.size+1),H',I3,rfl,q3⟩⟩
  |next=>exact False.elim hq'
  |brk=>exact False.elim hq'
  |cont=>exact False.elim hq'
theorem xh (M:Mk X.K C f)(F:zt X.prog X.w X.K X.mg X.base CX k f fd ps sp)(hr:zR (k+1) X.A)(hg:Gl X x)(hm:X.mg x=some (.ref C))(hb:Binds X.K fd ps ds)(hd:Vals dvs ds)(hx:Passes CX X E)
  (ha:PA X (e::es) t) (hdb:(x == ("__debug__":Str))=false:=by decide) (he:starEach (e::es) X.env=(false,eval e X.env)::starEach es X.env:=by rfl) (hpl:(backTo pos (starEach es X.env)).any (·.1)=false:=by rfl):
  PE X (.Call (.Name x p) (e::es) [] pos) (bh C sp dvs E t):=by
 intro pins s σ H Q I h
 refine zh1 (rf I hg hm ?_ hdb)
 refine zi9 (h₀:=X.base) I.ok.mod.kin M.kp (thn (ha pos pins s σ H _ I h) fun us s1 ⟨vs,H1,I1,r,q⟩=>⟨I1.kIn,?_⟩) he hpl
 exact kj M F hr hb hd hx I1 r q
end
section
variable {X:Cx}{CX:CXT}{k:Nat}{f C:Addr}{fd:FuncData}{ps ks:List Str}{sp:Sp}{E:XK}{x m:Str}{p pos apos kpos:Pos}{e o:Expr}{es:List Expr}{kws:List Keyword}{te ta:TE}{t tk:TA}{nm:Option Str}
variable {g:List Value→List Value→List Value}{gV:List V→List V→List V}
end
structure zl (N P:List Str)(sc:Scope):Prop where
 kind:sc.kind=.function
 co:sc.isCoroutine=false
 gen:sc.isGenerator=false
 nd:N.Nodup
 pre:N.take P.length=P
 par:∀x∈P,sc.names.lookup x=some .local∨sc.names.lookup x=some .cell
 nofree:∀y∈sc.names,y.2≠.free
theorem sg {kindOf:Str→Option NameKind}{x:Str}:∀{binds:List (Str×Value)} {m:Str→Option Value},(∀v,(x,v)∉binds)→bindL kindOf binds m x=m x
 |[],_,_=>rfl
 |(n,v)::r,m,h=>by
  unfold bindL
  rw[sg fun w hw=>h w (aK _ hw)]
  split
  ·have:x≠n:=by rintro rfl;exact h v aJ
   simp[this]
  ·rfl
theorem tH {kindOf:Str→Option NameKind}{x:Str}:∀{binds:List (Str×Value)} {m:Str→Option Value},(∀v,(x,v)∉binds)→bindC kindOf binds m x=m x
 |[],_,_=>rfl
 |(n,v)::r,m,h=>by
  unfold bindC
  rw[tH fun w hw=>h w (aK _ hw)]
  split
  ·rfl
  ·have:x≠n:=by rintro rfl;exact h v aJ
   simp[this]
theorem sf {kindOf:Str→Option NameKind}{x:Str}{v:Value}:∀{P:List Str} {vs:List Value} {i:Nat} {m:Str→Option Value},P.Nodup→P[i]?=some x→vs[i]?=some v→kindOf x=some .local→
  bindL kindOf (P.zip vs) m x=some v
 |[],_,_,_,_,h,_,_=>by simp at h
 |_::_,[],_,_,_,_,h,_=>by simp at h
 |p::P,w::vs,0,m,nd,h1,h2,hk=>by
  simp at h1 h2;subst h1;subst h2
  show bindL kindOf ((p,w)::P.zip vs) m p=_
  unfold bindL
  rw[sg fun v hv=>(zb8.mp nd).1 (List.of_mem_zip hv).1,if_pos hk]
  simp
 |p::P,w::vs,i+1,m,nd,h1,h2,hk=>by
  show bindL kindOf ((p,w)::P.zip vs) m x=_
  unfold bindL
  exact sf (i:=i) (zb8.mp nd).2 (by simpa using h1) (by simpa using h2) hk
theorem tK {kindOf:Str→Option NameKind}{x:Str}{v:Value}:∀{P:List Str} {vs:List Value} {i:Nat} {m:Str→Option Value},P.Nodup→P[i]?=some x→vs[i]?=some v→kindOf x≠some .local→
  bindC kindOf (P.zip vs) m x=some v
 |[],_,_,_,_,h,_,_=>by simp at h
 |_::_,[],_,_,_,_,h,_=>by simp at h
 |p::P,w::vs,0,m,nd,h1,h2,hk=>by
  simp at h1 h2;subst h1;subst h2
  show bindC kindOf ((p,w)::P.zip vs) m p=_
  unfold bindC
  rw[tH fun v hv=>(zb8.mp nd).1 (List.of_mem_zip hv).1,if_neg hk]
  simp
 |p::P,w::vs,i+1,m,nd,h1,h2,hk=>by
  show bindC kindOf ((p,w)::P.zip vs) m x=_
  unfold bindC
  exact tK (i:=i) (zb8.mp nd).2 (by simpa using h1) (by simpa using h2) hk
def start (N:List Str)(vs:List V):St:=vs.map some++List.replicate (N.length-vs.length) none
def vt (CX:CXT)(P:Program)(w:World)(K:PySem.W.Frag)(mg:Str→Option Value)(base:Heap)(N:List Str)(qual:Str)(scope:Scope)(f:Addr)(cd:Value)(A:Around)(outer:List Env)(s:Shared)(H:Hp)(E:XK):Cx where
 prog:=P
 w:=w
 K:=K
 mg:=mg
 base:=base
 A:=A.deeper (envOfC qual scope s.heap.objs.size f cd)
 N:=N
 s₀:=s
 H₀:=H
 env:=envOfC qual scope s.heap.objs.size f cd
 outer:=outer
 stack:=envOfC qual scope s.heap.objs.size f cd::outer
 ex:=[]
 calm:=true
 fn:=fun _=>true
 pn:=[]
 xe:=fun e s'=>wpAny (model P w) (A.deeper (envOfC qual scope s.heap.objs.size f cd)) (leaving (envOfC qual scope s.heap.objs.size f cd) e) (fun _ s''=>CX outer H s E e s'') (fun e' s''=>CX outer H s E e' s'') s'
theorem qk {sc:Scope}{n:Nat}{x:Str}(h:sc.names.lookup x=some .cell):∃c,(cellsFrom n sc.names []).lookup x=some c:=by
 have q:=PySem.W.cellsFrom_some sc.names n [] (.inl h)
 exact Option.isSome_iff_exists.mp q
theorem mE {CX:CXT}{P:Program}{w:World}{K:PySem.W.Frag}{mg:Str→Option Value}{base:Heap}{N ps:List Str}{qual:Str}{scope:Scope}{f:Addr}{cd:Value}{A:Around}{outer:List Env}{s s1:Shared}{H:Hp}{E:XK}{us:List Value}{vs:List V}
  (S:zl N ps scope) (hd:A.handled=none) (e0:oj P w K mg base A outer s H) (hl:vs.length=ps.length) (r:Vals vs us)
  (x:InCallC s s.heap.objs.size (bindL (envOfC qual scope s.heap.objs.size f cd).kindOf (ps.zip us) fun _=>none) (cellsFrom (s.heap.objs.size+1) scope.names []) (bindC (envOfC qual scope s.heap.objs.size f cd).kindOf (ps.zip us) fun _=>none) s1):
  Inv (vt CX P w K mg base N qual scope f cd A outer s H E) [] (start N vs) H s1:=by
 have hpl:ps.length≤N.length:=by have:=congrArg List.length S.pre;rw[zc6] at this;omega
 obtain⟨h1,tk,rfl,hk⟩:=x.done
 have noA:∀b:Addr,b∉(vt CX P w K mg base N qual scope f cd A outer s H E).ex:=fun b z=>absurd (show b∈([]:List Addr) from z) (by simp)
 refine⟨⟨e0.mod,S.kind,rfl,rfl,aN _,fun y z c h1 h2=>?_,fun y hy=>?_,fun y c _ h=>?_,fun _=>hd,Around.frames_deeper e0.frames,.inr ⟨rfl,rfl⟩,fun b z=>absurd z (noA b),e0.bs,e0.bsz,fun b _ _=>noA b,fun b z=>absurd z (noA b),e0.funs,e0.frf⟩,
  rfl,e0.bare,Un.kept hk,⟨_,x.toInCall.ns,fun i y v h1 h2 h3=>?_⟩,fun y c h=>⟨_,x.cell y c h⟩,e0.hok.fresh (aN _),fun y c h=>?_,fun p hp=>absurd (show p∈([]:List (Addr×Obj)) from hp) (by simp),e0.hok.kept hk,?_⟩
 ·exact name_of_addr x.apart (zc8 h1) (zc8 h2)
 ·have hy:scope.names.lookup y=some .cell∨scope.names.lookup y=some .free:=hy
  rcases hy with hy|hy
  ·exact qk hy
  ·exact absurd rfl (S.nofree _ (zc8 hy))
 ·exact zd5 (x.above y c (zc8 h))
 ·have hi:i<vs.length:=by
   unfold start at h2
   by_cases hi:i<vs.length
   ·exact hi
   ·rw[zd6 (by simpa using hi)] at h2
    rw[zf8] at h2
    split at h2<;>cases h2
  have ha:vs[i]?=some v:=by
   unfold start at h2
   rw[zc9 (by simpa using hi),za6] at h2
   cases e:vs[i]? with
   |none=>rw[e] at h2;cases h2
   |some a=>rw[e] at h2;cases h2;rfl
  obtain⟨u,hu,rv⟩:=r.get ha
  have hp:ps[i]?=some y:=by
   rw[←S.pre,List.getElem?_take_of_lt (by omega)];exact h1
  have ndP:ps.Nodup:=by rw[←S.pre];exact S.nd.sublist (List.take_sublist _ _)
  refine⟨u,rv,?_⟩
  rcases S.par y (za4 hp) with k|k
  ·exact .inl ⟨k,sf ndP hp hu k⟩
  ·obtain⟨c,e⟩:=qk (n:=s.heap.objs.size+1) k
   refine .inr ⟨.inl k,c,e,?_⟩
   have q:=x.cell y c e
   rw[tK ndP hp hu (by show scope.names.lookup y≠_;rw[k];decide)] at q
   exact q
 ·exact e0.hok.fresh (zd5 (x.above y c (zc8 h)))
 ·unfold start
  show _=N.length
  rw[aX,aI,List.length_replicate]
  omega
theorem fX {CX:CXT}{P:Program}{w:World}{K:PySem.W.Frag}{mg:Str→Option Value}{base:Heap}{k:Nat}{f:Addr}{name qual:Str}{params:Arguments}{body:List Stmt}{scope:Scope}{dV kV doc pm cdv ct oc:Value}{an od:Option Addr}
  {osl:Array (Option Value)} {N ps:List Str} {sp:Sp} (lk:K.lookup f=some ⟨oc,od,.func (PySem.W.fnOf name qual params body scope dV kV doc pm an cdv ct),osl⟩) (hcd:PySem.W.codeIn K cdv qual=true) (S:zl N ps scope)
  (len:∀vs H Q E,sp vs H Q E→vs.length=ps.length)
  (hbody:∀(A:Around) (outer:List Env) (s:Shared) (H:Hp) (vs:List V) (Q:VK) (E:XK),zR k (A.deeper (envOfC qual scope s.heap.objs.size f cdv))→sp vs H Q E→
   ∃t,PSs (vt CX P w K mg base N qual scope f cdv A outer s H E) body t∧t {nx:=fun _ H'=>Q .non H',rt:=Q} (start N vs) H):
  zt P w K mg base CX (k+1) f (PySem.W.fnOf name qual params body scope dV kV doc pm an cdv ct) ps sp:=by
 refine⟨len,fun A outer s H args us vs Q E hr e0 hb r hsp=>?_⟩
 have hl:=len _ _ _ _ hsp
 have KX:K.In s.heap:=e0.mod.kin.keeps fun b o e=>(e0.bs b o e).1
 have lim:s.heap.NoLimit:=e0.mod.nolimit.keeps fun b o e=>(e0.bs b o e).1
 have hkind:∀y∈ps.zip us,scope.names.lookup y.1=some .local∨(scope.names.lookup y.1=some .cell∧((cellsFrom (s.heap.objs.size+1) scope.names []).lookup y.1).isSome=true):=fun⟨n,v⟩ hy=>by
  rcases S.par n (List.of_mem_zip hy).1 with q|q
  ·exact .inl q
  ·exact .inr ⟨q,PySem.W.cellsFrom_some _ _ _ (.inl q)⟩
 refine codeAny_call_function hr.depth (KX _ _ lk) rfl S.co S.gen rfl (PySem.W.codeRec_of KX hcd) (hb _ _ _ _ ?_)
 refine wpAny_newFunctionEnv_cells S.kind hkind fun env he s1 x=>?_
 subst he
 refine⟨lim.keeps x.toInCall.keep,codeAny_func ?_⟩
 obtain⟨t,ht,hq⟩:=hbody A outer s H vs Q E (hr.deeper _) hsp
 have I:Inv (vt CX P w K mg base N qual scope f cdv A outer s H E) [] (start N vs) H s1:=mE S hr.hd e0 hl r x
 refine zb5 (ht [] s1 (start N vs) H _ I hq) (fun fl s' hs=>?_) fun e s' hs=>hs
 have fin:∀{σ':St} {H':Hp} {v:V} {u:Value},Inv (vt CX P w K mg base N qual scope f cdv A outer s H E) [] σ' H' s'→RelV v u→Q v H'→CE outer P w H s Q u s':=
  fun {σ' H' v u} J rv q=>⟨v,H',J.os,J.bare,J.base,J.hok,rv,q⟩
 cases fl with
 |ret u=>
  obtain⟨v,σ',H',J,rv,q⟩:=hs
  exact fin J rv q
 |next=>
  obtain⟨σ',H',J,q⟩:=hs
  exact fin (v:=V.non) (u:=Value.none) J rfl q
 |brk=>
  obtain⟨_,_,_,q⟩:=hs
  exact False.elim q
 |cont=>
  obtain⟨_,_,_,q⟩:=hs
  exact False.elim q
section
variable {X:Cx}{x:Str}{p pos:Pos}{e:Expr}{es:List Expr}{t:TA}{id T:String}{r:List V→Hp→VK→Prop}
def tCB (r:List V→Hp→VK→Prop)(t:TA):TE:=fun σ H Q=>t σ H fun vs H1=>r vs H1 Q
theorem zH (hc:xr X (.builtin id) r)(hg:Gl X x)(hm:X.mg x=none)(hv:bootBuiltins x=some (.builtin id))(ha:PA X (e::es) t)(hn:x≠"__name__":=by decide)(hdb:(x == ("__debug__":Str))=false:=by decide)
  (he:starEach (e::es) X.env=(false,eval e X.env)::starEach es X.env:=by rfl) (hpl:(backTo pos (starEach es X.env)).any (·.1)=false:=by rfl):PE X (.Call (.Name x p) (e::es) [] pos) (tCB r t):=by
 intro pins s σ H Q I h
 refine zh1 (vw I hg hm hv ?_ hn hdb)
 exact PyProof.Rows.callWith_builtin1 (thn (ha pos pins s σ H _ I h) fun us s1 ⟨vs,H1,I1,r1,q1⟩=>hc pins s1 σ H1 vs us Q I1 r1 q1) he hpl
theorem tL (hc:xr X (.type T) r)(hg:Gl X x)(hm:X.mg x=none)(hv:bootBuiltins x=some (.type T))(ha:PA X (e::es) t)(hn:x≠"__name__":=by decide)(hdb:(x == ("__debug__":Str))=false:=by decide)
  (he:starEach (e::es) X.env=(false,eval e X.env)::starEach es X.env:=by rfl) (hpl:(backTo pos (starEach es X.env)).any (·.1)=false:=by rfl):PE X (.Call (.Name x p) (e::es) [] pos) (tCB r t):=by
 intro pins s σ H Q I h
 refine zh1 (vw I hg hm hv ?_ hn hdb)
 exact ze5 (thn (ha pos pins s σ H _ I h) fun us s1 ⟨vs,H1,I1,r1,q1⟩=>hc pins s1 σ H1 vs us Q I1 r1 q1) he hpl
end
end L2
namespace HT
open PySem PyProof.Rows
section
open PySem.SeqAt
open PySem.AutoSeq1 (wpAny_loadPart')
open PySem.MeetsSeq PySem.MeetsSeq2 PySem.MeetsSeq3
end
section
variable {prog:Program}{w:World}{A:Around}{E:Value→Shared→Prop}{s:Shared}
def sIx (n d:Nat):Option Int→Nat
 |none=>d
 |some v=>if v<0 then (v+(n:Int)).toNat else min v.toNat n
theorem rZ (n d:Nat):sIx n d none=d:=rfl
theorem nq (n d k:Nat):sIx n d (some (k:Int))=min k n:=by
 show (if (k:Int)<0 then ((k:Int)+(n:Int)).toNat else min (k:Int).toNat n)=min k n
 rw[if_neg (by omega),Int.toNat_natCast]
end
end HT
namespace L2
open PySem PySem.Spec PyProof.Rows
abbrev TO :=St→Hp→(Option Int→Hp→Prop)→Prop
def PO (X:Cx)(e:Option Expr)(t:TO):Prop:=
 ∀(pins:List (Addr×Obj)) (s:Shared) (σ:St) (H:Hp) (Q:Option Int→Hp→Prop),Inv X pins σ H s→t σ H Q→
  wpAny (model X.prog X.w) X.A (evalPart e X.env) (fun u s'=>∃o H',Inv X pins σ H' s'∧IsPart u o∧Q o H') X.xe s
def fc :TO:=fun _ H Q=>Q none H
def cF (t:TE):TO:=fun σ H Q=>t σ H fun x H1=>∃i,x=.int i∧Q (some i) H1
section
variable {X:Cx}{e:Expr}{te:TE}{lo hi:Option Expr}{tl th:TO}{pos p2:Pos}
theorem rj :PO X none fc:=by
 intro pins s σ H Q I h
 rw[evalPart_none]
 exact zb1 ⟨none,H,I,.none,h⟩
theorem rn (h:PE X e te):PO X (some e) (cF te):=by
 intro pins s σ H Q I hw
 rw[evalPart_some]
 refine thn (h pins s σ H _ I hw) fun u s1 ⟨x,H1,I1,r1,q1⟩=>?_
 obtain⟨i,rfl,q⟩:=q1
 obtain⟨t,rfl⟩:=r1
 exact⟨some i,H1,I1,.int i t,q⟩
def SlR (X:Cx)(r:V→Option Int→Option Int→Hp→VK→Prop):Prop:=
 ∀(pins:List (Addr×Obj)) (s:Shared) (σ:St) (H:Hp) (x:V) (v vl vu:Value) (lo hi:Option Int) (sl:Addr) (Q:VK),Inv X pins σ H s→RelV x v→s.heap.IsSliceOf sl vl vu .none→IsPart vl lo→IsPart vu hi→r x lo hi H Q→
  ∃T id,typeLookup (.type T) "__getitem__"=pure (some (.builtin id))∧s.TypeIs v T∧wpAny (model X.prog X.w) X.A (getItem v (.ref sl)) (EP X pins σ Q) X.xe s
def tSl (r:V→Option Int→Option Int→Hp→VK→Prop)(te:TE)(tl th:TO):TE:=fun σ H Q=>te σ H fun x H1=>tl σ H1 fun l H2=>th σ H2 fun u H3=>r x l u H3 Q
theorem ur {r:V→Option Int→Option Int→Hp→VK→Prop}(hr:SlR X r)(he:PE X e te)(hl:PO X lo tl)(hu:PO X hi th):PE X (.Subscript e (.Slice lo hi none p2) pos) (tSl r te tl th):=by
 intro pins s σ H Q I h
 refine Subscript_ (thn (he pins s σ H _ I h) fun v s1 ⟨x,H1,I1,r1,q1⟩=>?_)
 refine wpAny_Slice (thn (hl pins s1 σ H1 _ I1 q1) fun vl s2 ⟨l,H2,I2,pl,q2⟩=>thn (hu pins s2 σ H2 _ I2 q2) fun vu s3 ⟨u,H3,I3,pu,q3⟩=>?_)
 rw[evalPart_none]
 refine zb1 ?_
 have I4:Inv X pins σ H3 {s3 with heap:=s3.heap.push {cls:=.type "slice",data:=.fields #[vl,vu,.none]}}:=I3.kept (t':=s3.toks) fun b ob q=>aR _ q
 obtain⟨T,id,hT,ht,hg⟩:=hr pins {s3 with heap:=s3.heap.push {cls:=.type "slice",data:=.fields #[vl,vu,.none]}} σ H3 x v vl vu l u s3.heap.objs.size Q I4 r1 (Heap.IsSliceOf.new ..) pl pu q3
 show wpAny (model X.prog X.w) X.A (subscriptTail e (.Slice lo hi none p2) v (.ref s3.heap.objs.size)) (EP X pins σ Q) X.xe {s3 with heap:=s3.heap.push {cls:=.type "slice",data:=.fields #[vl,vu,.none]}}
 exact tail_any (ops:=[.ref s3.heap.objs.size,v]) ht hT hg (by with_unfolding_all rfl)
def rQ (xs:List V)(lo hi:Option Int):List V:=(xs.drop (HT.sIx xs.length 0 lo)).take (HT.sIx xs.length xs.length hi-HT.sIx xs.length 0 lo)
theorem qH (xs:List V)(lo hi:Option Int):(rQ xs lo hi).length≤xs.length:=by
 unfold rQ
 rw[zc6,zf5]
 omega
end
def ixN (n:Nat)(i:Int):Option Nat:=if 0≤i then (if i<n then some i.toNat else none) else if -(n:Int)≤i then some (i+n).toNat else none
def atI {α:Type}(xs:List α)(i:Int):Option α:=(ixN xs.length i).bind fun j=>xs[j]?
theorem rE {n:Nat}{i:Int}{j:Nat}(h:ixN n i=some j):seqIndex? i n=some j∧j<n∧-(n:Int)≤i∧i<n:=by
 unfold ixN at h
 by_cases h0:0≤i
 ·rw[if_pos h0] at h
  by_cases h1:i<n
  ·rw[if_pos h1] at h
   have e:i.toNat=j:=za3 h
   exact⟨by rw[seqIndex_of h0 h1,e],by omega,by omega,h1⟩
  ·rw[if_neg h1] at h;cases h
 ·rw[if_neg h0] at h
  by_cases h1:-(n:Int)≤i
  ·rw[if_pos h1] at h
   have e:(i+n).toNat=j:=za3 h
   exact⟨by rw[seqIndex_neg (by omega) h1,e],by omega,h1,by omega⟩
  ·rw[if_neg h1] at h;cases h
theorem sv {α:Type}{xs:List α}{i:Int}{v:α}(h:atI xs i=some v):∃j,seqIndex? i xs.length=some j∧xs[j]?=some v∧j<xs.length∧-(xs.length:Int)≤i∧i<xs.length:=by
 unfold atI at h
 cases e:ixN xs.length i with
 |none=>rw[e] at h;cases h
 |some j=>
  rw[e] at h
  obtain⟨h1,h2,h3,h4⟩:=rE e
  exact⟨j,h1,h,h2,h3,h4⟩
theorem xk {α:Type}{xs:List α}{j:Nat}{v:α}(h:xs[j]?=some v):atI xs (j:Int)=some v:=by
 have hj:j<xs.length:=(aL.mp h).1
 have e:ixN xs.length (j:Int)=some j:=by
  unfold ixN
  rw[if_pos (by omega),if_pos (by omega)];simp
 unfold atI;rw[e];exact h
def su (b:Expr):Prop:=∀o i,subscripted b false o i=operate [o,i] (getItem o i)
def IxR (X:Cx)(r:R2):Prop:=
 ∀(value slice:Expr) (pins:List (Addr×Obj)) (s:Shared) (σ:St) (H:Hp) (x y:V) (v u:Value) (Q:VK),Inv X pins σ H s→RelV x v→RelV y u→r x y H Q→
  subscripted slice false v u=operate [v,u] (getItem v u)→wpAny (model X.prog X.w) X.A (subscriptTail value slice v u) (EP X pins σ Q) X.xe s
def MtR (X:Cx)(id:String)(r:V→List V→Hp→VK→Prop):Prop:=
 ∀(pins:List (Addr×Obj)) (s:Shared) (σ:St) (H:Hp) (x:V) (xs:List V) (v:Value) (us:List Value) (Q:VK),Inv X pins σ H s→RelV x v→Vals xs us→r x xs H Q→
  wpAny (model X.prog X.w) X.A (call (.builtin id) (v::us)) (EP X pins σ Q) X.xe s
section
variable {X:Cx}{a b:Expr}{ta tb:TE}{pos:Pos}
theorem IxR.or {r r':R2}(h:IxR X r)(h':IxR X r'):IxR X (fun x y H Q=>r x y H Q∨r' x y H Q):=by
 intro value slice pins s σ H x y v u Q I rx ry q hs
 rcases q with q|q
 ·exact h value slice pins s σ H x y v u Q I rx ry q hs
 ·exact h' value slice pins s σ H x y v u Q I rx ry q hs
theorem zq {r:R2}(hr:IxR X r)(ha:PE X a ta)(hb:PE X b tb)(hs:su b):PE X (.Subscript a b pos) (tOp r ta tb):=by
 intro pins s σ H Q I h
 exact Subscript_ (dB ha hb I h fun v u s2 x y H2 I2 rx ry q=>hr a b pins s2 σ H2 x y v u Q I2 rx ry q (hs _ _))
def cI (K:PySem.W.Frag):R2:=fun x y H Q=>∃p xs i v,x=.ref p∧y=.int i∧SqL K H p xs∧atI xs i=some v∧Q v H
def eV (K:PySem.W.Frag):R2:=fun x y H Q=>∃p xs i v,x=.ref p∧y=.int i∧SqT K H p xs∧atI xs i=some v∧Q v H
def cM :R2:=fun x y H Q=>∃z i c,x=.str z∧y=.int i∧z.length≤sizeLine∧atI z.cps.toList i=some c∧Q (.str ⟨#[c]⟩) H
theorem zJ :IxR X (cI X.K):=by
 intro value slice pins s σ H x y v u Q I rx ry h hs
 obtain⟨p,xs,i,z,rfl,rfl,hq,he,q⟩:=h
 cases rx
 obtain⟨t,rfl⟩:=ry
 obtain⟨its,r,pl,hz⟩:=I.list hq
 obtain⟨j,h1,h2,h3,h4,h5⟩:=sv he
 obtain⟨w,ew,rw'⟩:=r.get h2
 have hl:=r.length
 have hn:=vc
 have fin:EP X pins σ Q w s:=⟨z,H,I,rw',q⟩
 by_cases h0:0≤i
 ·have hj:i.toNat=j:=by
   rw[seqIndex_of h0 h5] at h1
   exact za3 h1
  exact item_listR pl.isList h0 (by omega) (by rw[hj];simpa using ew) fin hs
 ·have hj:(i+(its.toArray.size:Int)).toNat=j:=by
   rw[seqIndex_neg (by omega) h4] at h1
   rw[aO,←hl]
   exact za3 h1
  exact subscriptTail_builtinR (x:=w) pl.isList.typeIs slot_list_getitem.lookup
   (wpAny_getItem_list_neg (Q:=fun r s'=>r=w∧EP X pins σ Q r s') pl.isList (by omega) (by rw[aO]<;>omega) (by omega) (by rw[hj];simpa using ew) ⟨rfl,fin⟩) hs
theorem zB :IxR X (eV X.K):=by
 intro value slice pins s σ H x y v u Q I rx ry h hs
 obtain⟨p,xs,i,z,rfl,rfl,hq,he,q⟩:=h
 cases rx
 obtain⟨t,rfl⟩:=ry
 obtain⟨its,r,pl,hz⟩:=I.tuple hq
 obtain⟨j,h1,h2,h3,h4,h5⟩:=sv he
 obtain⟨w,ew,rw'⟩:=r.get h2
 have hl:=r.length
 have hn:=vc
 have fin:EP X pins σ Q w s:=⟨z,H,I,rw',q⟩
 exact subscriptTail_builtinR (x:=w) pl.typeIs slot_tuple_getitem.lookup
  (getItem_tuple (j:=j) (Q:=fun r s'=>r=w∧EP X pins σ Q r s') pl (by omega) (by omega) (by rw[aO,←hl];exact h1) (by simpa using ew) ⟨rfl,fin⟩) hs
theorem dh :IxR X cM:=by
 intro value slice pins s σ H x y v u Q I rx ry h hs
 obtain⟨z,i,c,rfl,rfl,hz,he,q⟩:=h
 obtain⟨t,rfl⟩:=rx
 obtain⟨t',rfl⟩:=ry
 obtain⟨j,h1,h2,h3,h4,h5⟩:=sv he
 have hl:z.cps.toList.length=z.length:=by simp[Str.length]
 rw[hl] at h1 h4 h5
 have hn:=vc
 exact tail_any (typeIs_str s z t) slot_str_getitem.lookup (getItem_str (c:=c) (by
  have e1:decide (i < -(2 ^ 63:Int))=false:=zc1 (by omega)
  have e2:decide (i≥2 ^ 63)=false:=zc1 (by omega)
  rw[e1,e2,Bool.or_false]) (by rw[h1];simpa using h2) ⟨.str ⟨#[c]⟩,H,I.tok _,⟨_,rfl⟩,q⟩) hs
def rIx (K:PySem.W.Frag):R2:=fun x y H Q=>cI K x y H Q∨eV K x y H Q∨cM x y H Q
theorem eP :IxR X (rIx X.K):=zJ.or (zB.or dh)
theorem pG (its:List Value)(n j:Nat)(u:Value):Obj.mapSeq (·.setIfInBounds j u) {cls:=.type "list",data:=.seq its.toArray n}={cls:=.type "list",data:=.seq (its.set j u).toArray n}:=by
 simp[Obj.mapSeq]
theorem Inv.lst {pins:List (Addr×Obj)}{σ:St}{H:Hp}{s:Shared}{p:Addr}{xs:List V}(I:Inv X pins σ H s)(h:H p=some (.lst xs)):
  ∃(its:List Value) (n:Nat),Vals xs its∧s.heap.get? p=some {cls:=.type "list",data:=.seq its.toArray n}∧xs.length≤sizeLine:=by
 obtain⟨z,its,n,r,e⟩:=I.hok p _ h
 exact⟨its,n,r,e,z⟩
theorem Inv.lstUpd {pins:List (Addr×Obj)}{σ:St}{H:Hp}{s:Shared}{p:Addr}{xs ys:List V}{its its':List Value}{n n':Nat}{f:Obj→Obj}(I:Inv X pins σ H s)(h:H p=some (.lst xs))
  (ho:s.heap.get? p=some {cls:=.type "list",data:=.seq its.toArray n}) (hf:f {cls:=.type "list",data:=.seq its.toArray n}={cls:=.type "list",data:=.seq its'.toArray n'}) (r:Vals ys its') (hz:ys.length≤sizeLine) (t:Nat):
  Inv X pins σ (upd H p (.lst ys)) {s with heap:=s.heap.update p f,toks:=t}:=by
 have e:(s.heap.update p f).get? p=some {cls:=.type "list",data:=.seq its'.toArray n'}:=by
  rw[Heap.get?_update_self f ho (by rw[hf]<;>rfl),hf]
 refine I.write (x:=p) (e:=p) (by rw[h];trivial) (.inl rfl) (fun b u hb q=>(Heap.get?_update_other _ _ (Ne.symm hb)).trans q) ⟨_,e⟩ ?_
 exact⟨hz,its',n',r,e⟩
def bK :V→V→V→Hp→(Hp→Prop)→Prop:=fun o i v H Q=>∃p xs k j,o=.ref p∧i=.int k∧H p=some (.lst xs)∧ixN xs.length k=some j∧Q (upd H p (.lst (xs.set j v)))
theorem set_list :bt X bK:=by
 intro pins s σ H o i v ov iv u Q I ro ri rv h
 obtain⟨p,xs,k,j,rfl,rfl,hp,hj,q⟩:=h
 cases ro
 obtain⟨t,rfl⟩:=ri
 obtain⟨its,n,r,ho,hz⟩:=I.lst hp
 obtain⟨h1,h2,h3,h4⟩:=rE hj
 have hl:=r.length
 have hn:=vc
 have I':Inv X pins σ (upd H p (.lst (xs.set j v))) {s with heap:=s.heap.update p (Obj.mapSeq (·.setIfInBounds j u))}:=
  I.lstUpd hp ho (pG its n j u) (r.set rv j) (by rw[zc3];exact hz) s.toks
 by_cases h0:0≤k
 ·have hk:k.toNat=j:=by
   rw[seqIndex_of h0 h4] at h1
   exact za3 h1
  exact PySem.W.ki_setAt ho h0 (by omega) (by rw[aO,←hl];exact h4) (by rw[hk];exact⟨_,I',q⟩)
 ·have hk:(k+(its.toArray.size:Int)).toNat=j:=by
   rw[seqIndex_neg (by omega) h3] at h1
   rw[aO,←hl]
   exact za3 h1
  exact PySem.W.ki_setBack ho (by omega) (by rw[aO,←hl];exact h3) (by omega) (by rw[hk];exact⟨_,I',q⟩)
theorem sN (lo hi:Option Int)(n:Nat):(sliceBounds lo hi none n).1=((HT.sIx n 0 lo:Nat):Int)∧(sliceBounds lo hi none n).2.1=((HT.sIx n n hi:Nat):Int)∧(sliceBounds lo hi none n).2.2=1:=by
 refine⟨?_,?_,rfl⟩
 ·cases lo with
  |none=>simp[sliceBounds,HT.sIx]
  |some i=>
   simp only[sliceBounds,HT.sIx,Option.getD_none,show (1:Int) > 0 by decide,if_true]
   by_cases h:i<0
   ·simp only[h,if_true]<;>omega
   ·simp only[h,if_false]<;>omega
 ·cases hi with
  |none=>simp[sliceBounds,HT.sIx]
  |some i=>
   simp only[sliceBounds,HT.sIx,Option.getD_none,show (1:Int) > 0 by decide,if_true]
   by_cases h:i<0
   ·simp only[h,if_true]<;>omega
   ·simp only[h,if_false]<;>omega
theorem tD (its:List Value)(lo hi:Option Int):slicePick its.toArray lo hi none=((its.drop (HT.sIx its.length 0 lo)).take (HT.sIx its.length its.length hi-HT.sIx its.length 0 lo)).toArray:=by
 obtain⟨h1,h2,h3⟩:=sN lo hi its.toArray.size
 unfold slicePick
 rw[h1,h2,h3]
 simp only[sliceRange_one,pick_run,aO]<;>rfl
def ax (K:PySem.W.Frag):V→Option Int→Option Int→Hp→VK→Prop:=fun x lo hi H Q=>∃a xs,x=.ref a∧SqL K H a xs∧∀p,H p=none→Q (.ref p) (upd H p (.lst (rQ xs lo hi)))
theorem sD :SlR X (ax X.K):=by
 intro pins s σ H x v vl vu lo hi sl Q I rx hs pl pu h
 obtain⟨a,xs,rfl,hx,q⟩:=h
 cases rx
 obtain⟨its,r,ht,hz⟩:=I.list hx
 have hlen:=r.length
 refine⟨"list",_,slot_list_getitem.lookup,ht.isList.typeIs,?_⟩
 refine wpAny_getItem_list_slice ht.isList hs pl pu .none (by simp) ?_ (by rw[aO]<;>omega)
 rw[tD,←hlen]
 refine⟨.ref s.heap.objs.size,_,I.laid (t':=s.toks) (o:=.lst (rQ xs lo hi)) (fun b ob q=>aR _ q) (aN _) ?_,rfl,q _ (I.hok.fresh (aN _))⟩
 exact⟨zb4 (qH xs lo hi) hz,_,0,(r.drop (HT.sIx xs.length 0 lo)).take (HT.sIx xs.length xs.length hi-HT.sIx xs.length 0 lo),zb2 _ rfl⟩
theorem yj :xr X (.builtin "len") (fun xs H Q=>∃p ys,xs=[.ref p]∧(SqL X.K H p ys∨SqT X.K H p ys)∧Q (.int ys.length) H):=by
 intro pins s σ H xs us Q I r h
 obtain⟨p,ys,rfl,hq,q⟩:=h
 obtain⟨u,rfl,rx⟩:=vals1 r
 cases rx
 have hn:=vc
 rcases hq with hq|hq
 ·obtain⟨its,r',pl,hz⟩:=I.list hq
  have hlen:=r'.length
  exact Calls.call_len_list pl.isList (by simp only[aO]<;>omega) ⟨.int ys.length,H,I.tok _,⟨s.toks+1,by rw[aO,hlen]⟩,q⟩
 ·obtain⟨its,r',pl,hz⟩:=I.tuple hq
  have hlen:=r'.length
  exact len_tuple pl (by simp only[aO]<;>omega) ⟨.int ys.length,H,I.tok _,⟨s.toks+1,by rw[aO,hlen]⟩,q⟩
theorem wX :xr X (.type "list") (fun xs H Q=>∃p ys,xs=[.ref p]∧(SqL X.K H p ys∨SqT X.K H p ys)∧∀l,H l=none→Q (.ref l) (upd H l (.lst ys))):=by
 intro pins s σ H xs us Q I r h
 obtain⟨p,ys,rfl,hq,q⟩:=h
 obtain⟨u,rfl,rx⟩:=vals1 r
 cases rx
 have fin:∀(its:List Value),Vals ys its→ys.length≤sizeLine→∀(h':Heap) (c':Nat),(∀b o',s.heap.get? b=some o'→h'.get? b=some o')→
   h'.get? s.heap.objs.size=some {cls:=.type "list",dict:=none,data:=.seq its.toArray c',slots:=#[]}→EP X pins σ Q (.ref s.heap.objs.size) {s with heap:=h'}:=fun its r' hz h' c' kp e=>
  ⟨.ref s.heap.objs.size,_,I.laid (t':=s.toks) kp (aN _) (show yi X.prog X.w _ h' _ (.lst ys) from ⟨hz,its,c',r',e⟩),rfl,q _ (I.hok.fresh (aN _))⟩
 rcases hq with hq|hq
 ·obtain⟨its,r',pl,hz⟩:=I.list hq
  have hlen:=r'.length
  obtain⟨o,ho,hc,n,hd⟩:=pl.isList
  exact call_list_seq p (.inl rfl) ho hc hd (fun h' c' kp e=>fin its r' hz h' c' kp e) (by simp only[aO]<;>omega)
 ·obtain⟨its,r',pl,hz⟩:=I.tuple hq
  have hlen:=r'.length
  obtain⟨o,ho,hc,n,hd⟩:=pl
  exact call_list_seq p (.inr rfl) ho hc hd (fun h' c' kp e=>fin its r' hz h' c' kp e) (by simp only[aO]<;>omega)
def tyV (K:PySem.W.Frag)(T:String)(x:V)(H:Hp):Prop:=match x with
 |.str _=>T="str"
 |.int _=>T="int"
 |.ref p=>(T="list"∧∃xs,SqL K H p xs)∨(T="tuple"∧∃o,K.lookup p=some o∧o.cls=.type "tuple"∧o.dict=none)∨
   (T="dict"∧((∃kvs,H p=some (.dK kvs))∨∃kvs,H p=some (.dT kvs)))∨(T="set"∧∃S n,H p=some (.set S n))
 |_=>False
theorem cy {pins:List (Addr×Obj)}{σ:St}{H:Hp}{s:Shared}{T:String}{x:V}{v:Value}(I:Inv X pins σ H s)(r:RelV x v)(ty:tyV X.K T x H):
  s.TypeIs v T∧∀a,v=.ref a→∃ob,s.heap.get? a=some ob∧ob.dict=none:=by
 cases x with
 |str z=>
  obtain⟨t,rfl⟩:=r
  cases (show T="str" from ty)
  exact⟨typeIs_str s z t,fun _ e=>nomatch e⟩
 |int i=>
  obtain⟨t,rfl⟩:=r
  cases (show T="int" from ty)
  exact⟨typeIs_int s i t,fun _ e=>nomatch e⟩
 |ref p=>
  cases r
  rcases ty with ⟨rfl,xs,hq⟩|⟨rfl,o,hk,hc,hd⟩|⟨rfl,hk⟩|⟨rfl,S,n,hk⟩
  ·obtain⟨its,_,pl,_⟩:=I.list hq
   refine⟨pl.isList.typeIs,fun a e=>?_⟩
   cases e
   obtain⟨o,n,e,c,hd,_⟩:=pl
   exact⟨o,e,hd⟩
  ·refine⟨⟨o,I.kIn p o hk,hc⟩,fun a e=>?_⟩
   cases e
   exact⟨o,I.kIn _ o hk,hd⟩
  ·have z:∃o,s.heap.get? p=some o∧o.ExactDict:=by
    rcases hk with ⟨kvs,hk⟩|⟨kvs,hk⟩
    ·obtain⟨_,_,_,_,o,_,_,e,ex,_⟩:=I.hok p _ hk
     exact⟨o,e,ex⟩
    ·obtain⟨_,_,_,_,o,_,_,e,ex,_⟩:=I.hok p _ hk
     exact⟨o,e,ex⟩
   obtain⟨o,e,ex⟩:=z
   refine⟨⟨o,e,ex.1⟩,fun a e2=>?_⟩
   cases e2
   exact⟨o,e,ex.2.1⟩
  ·obtain⟨o,_,_,_,e,ex,_⟩:=I.hok p _ hk
   refine⟨⟨o,e,ex.1⟩,fun a e2=>?_⟩
   cases e2
   exact⟨o,e,ex.2.1⟩
 |_=>exact False.elim ty
def tBM (K:PySem.W.Frag)(T:String)(r:V→List V→Hp→VK→Prop)(to:TE)(t:TA):TE:=fun σ H Q=>to σ H fun x H1=>tyV K T x H1∧t σ H1 fun xs H2=>r x xs H2 Q
variable {o e:Expr}{es:List Expr}{to:TE}{t:TA}{name:Str}{apos cpos:Pos}{T id:String}{r:V→List V→Hp→VK→Prop}
theorem uX (pa:PlainAttrs T)(slot:Slot T name id)(hty:typeOf (.builtin id)=pure (.type "method_descriptor"))(hm:MtR X id r)(ho:PE X o to)(ha:PA X (e::es) t)
  (hbase:attributeBase o name X.env (eval o X.env)=eval o X.env:=by rfl)
  (hfew:((backTo cpos (starEach (e::es) X.env)).all (fun x=>!x.1)&&(backToKw cpos (keywordEach [] X.env)).all (fun x=>x.1.isSome)
   &&decide ((e::es).length+([]:List Keyword).length+(if ([]:List Keyword).isEmpty then 0 else 1)<30))=true:=by rfl)
  (hline:(apos.endLine == cpos.line)=true:=by rfl) (hs:starEach (e::es) X.env=(false,eval e X.env)::starEach es X.env:=by rfl) (hplain:(backTo cpos (starEach es X.env)).any (·.1)=false:=by rfl):
  PE X (.Call (.Attribute o name apos) (e::es) [] cpos) (tBM X.K T r to t):=by
 intro pins s σ H Q I h
 refine wpAny_Call_method_late hbase hfew hline rfl (thn (ho pins s σ H _ I h) fun v s1 ⟨x,H1,I1,r1,ty,q1⟩=>?_)
 obtain⟨h1,h2⟩:=cy I1 r1 ty
 refine⟨T,id,pa,slot,hty,h1,h2,?_⟩
 have hA:=ha cpos pins s1 σ H1 _ I1 q1
 rw[hs] at hA ⊢
 refine Calls.callWith_builtin (by show (false||(backTo cpos (starEach es X.env)).any (·.1))=false;rw[hplain]<;>rfl) (Calls.evalArgs_plain ?_)
 exact thn hA fun us s2 ⟨vs,H2,I2,r2,q2⟩=>hm pins s2 σ H2 x vs v us Q I2 r1 r2 q2
/- xs.append(e),list.index on a module's tuple .. are MtR facts of 06m -/
end
def MtM (X:Cx)(id:String)(r:V→List V→Hp→VK→Prop):Prop:=
 ∀(pins:List (Addr×Obj)) (s:Shared) (σ:St) (H:Hp) (x:V) (xs:List V) (v:Value) (us:List Value) (Q:VK),Inv X pins σ H s→RelV x v→Vals xs us→r x xs H Q→
  wpAny (model X.prog X.w) X.A (call (.builtin id) (v::us)) (EP X pins σ Q) X.xe s
theorem Vals.one :∀{x:V} {us:List Value},Vals [x] us→∃u,us=[u]∧RelV x u
 |_,_,.cons r .nil=>⟨_,rfl,r⟩
theorem Vals.two :∀{x y:V} {us:List Value},Vals [x,y] us→∃u v,us=[u,v]∧RelV x u∧RelV y v
 |_,_,_,.cons r (.cons q .nil)=>⟨_,_,rfl,r,q⟩
theorem Vals.eraseIdx :∀{xs:List V} {us:List Value} (i:Nat),Vals xs us→Vals (xs.eraseIdx i) (us.eraseIdx i)
 |_,_,_,.nil=>.nil
 |_,_,0,.cons _ t=>t
 |_,_,i+1,.cons r t=>.cons r (Vals.eraseIdx i t)
theorem tQ {α:Type}:∀(l:List α) (i:Nat),(l.eraseIdx i).length≤l.length
 |[],_=>aN _
 |_::_,0=>zh6 _
 |_::r,i+1=>Nat.succ_le_succ (tQ r i)
section
variable {X:Cx}{pins:List (Addr×Obj)}{σ:St}{H:Hp}{s:Shared}{l b:Addr}{xs ys zs:List V}
theorem Inv.lset {its its':List Value}{n:Nat}{f:Array Value→Array Value}{t':Nat}(I:Inv X pins σ H s)(hH:H l=some (.lst xs))
  (e:s.heap.get? l=some {cls:=.type "list",data:=.seq its.toArray n}) (hf:f its.toArray=its'.toArray) (hv:Vals ys its') (hz:ys.length≤sizeLine):
  Inv X pins σ (upd H l (.lst ys)) {s with heap:=s.heap.update l (Obj.mapSeq f),toks:=t'}:=by
 have q:=PySem.IsL.update e f
 rw[hf] at q
 refine I.write (x:=l) (e:=l) (by rw[hH];exact trivial) (.inl rfl) (fun b' u hb hu=>(Heap.get?_update_other s.heap (Obj.mapSeq f) (Ne.symm hb)).trans hu) ⟨_,q⟩ ?_
 exact⟨hz,its',_,hv,q⟩
theorem Inv.lnew {its:List Value}{t':Nat}(I:Inv X pins σ H s)(hv:Vals ys its)(hz:ys.length≤sizeLine):
  Inv X pins σ (upd H s.heap.objs.size (.lst ys)) {s with heap:=s.heap.push {cls:=.type "list",data:=.seq its.toArray},toks:=t'}:=
 I.laid (fun _ _ q=>aR _ q) (aN _) ⟨hz,its,0,hv,zb2 _ rfl⟩
theorem Inv.fresh (I:Inv X pins σ H s):H s.heap.objs.size=none:=I.hok.fresh (aN _)
theorem Inv.lstM (I:Inv X pins σ H s)(hH:H l=some (.lst xs)):xs.length≤sizeLine∧∃(its:List Value) (n:Nat),Vals xs its∧xs.length=its.length∧s.heap.get? l=some {cls:=.type "list",data:=.seq its.toArray n}:=by
 obtain⟨z,its,n,r,e⟩:=I.hok l _ hH
 exact⟨z,its,n,r,r.length,e⟩
theorem ip {n:Nat}(h:n≤sizeLine):Builtin.List.listTooLong n=false:=by
 unfold Builtin.List.listTooLong
 exact zc1 (by omega)
end
section
variable {X:Cx}
def gu :V→List V→Hp→VK→Prop:=fun x vs H Q=>∃l xs y,x=.ref l∧vs=[y]∧H l=some (.lst xs)∧xs.length<sizeLine∧Q .non (upd H l (.lst (xs++[y])))
theorem yR :MtM X "list.append" gu:=by
 intro pins s σ H x vs v us Q I rx rv h
 obtain⟨l,xs,y,rfl,rfl,hH,hz,q⟩:=h
 cases rx
 obtain⟨u,rfl,ru⟩:=rv.one
 obtain⟨z,its,n,r,hl,e⟩:=I.lstM hH
 refine call_meets F.slot_list_append ⟨_,e,rfl⟩ F.entry_list_append (F.args_list_append_2 _ _) (PySem.list_append l its.toArray n u (by rw[aO];omega)) ⟨e,?_⟩
 refine⟨.non,_,I.lset (its':=its++[u]) hH e (by simp) (r.append (.cons ru .nil)) ?_,rfl,q⟩
 rw[aX,List.length_singleton]
 omega
def gS :V→List V→Hp→VK→Prop:=fun x vs H Q=>∃l b xs zs,x=.ref l∧vs=[.ref b]∧H l=some (.lst xs)∧H b=some (.lst zs)∧xs.length+zs.length≤sizeLine∧Q .non (upd H l (.lst (xs++zs)))
theorem ml :MtM X "list.extend" gS:=by
 intro pins s σ H x vs v us Q I rx rv h
 obtain⟨l,b,xs,zs,rfl,rfl,hH,hB,hz,q⟩:=h
 cases rx
 obtain⟨u,rfl,ru⟩:=rv.one
 cases ru
 obtain⟨z,its,n,r,hl,e⟩:=I.lstM hH
 obtain⟨z2,its2,n2,r2,hl2,e2⟩:=I.lstM hB
 have hsz:its.toArray.size+its2.toArray.size≤sizeLine:=by rw[aO,aO];omega
 have hlong:¬(!its.toArray.isEmpty&&Builtin.List.listTooLong (its.toArray.size+its2.toArray.size))=true:=by
  rw[ip hsz,Bool.and_false]
  exact aU
 refine call_meets F.slot_list_extend ⟨_,e,rfl⟩ F.entry_list_extend (F.args_list_extend_2 _ _)
  (AutoSeq1.list_extend_list_list_0 l its.toArray n b its2.toArray n2 hlong (by rw[aO];omega) (by omega)) ⟨e,e2,?_⟩
 refine⟨.non,_,I.lset (its':=its++its2) hH e (by simp) (r.append r2) ?_,rfl,q⟩
 rw[aX]
 omega
def dW :V→List V→Hp→VK→Prop:=fun x vs H Q=>∃l xs i k y,x=.ref l∧vs=[.int i]∧H l=some (.lst xs)∧-(2 ^ 63)≤i∧i<2 ^ 63∧seqIndex? i xs.length=some k∧xs[k]?=some y∧Q y (upd H l (.lst (xs.eraseIdx k)))
theorem lV :MtM X "list.pop" dW:=by
 intro pins s σ H x vs v us Q I rx rv h
 obtain⟨l,xs,i,k,y,rfl,rfl,hH,h1,h2,hk,hy,q⟩:=h
 cases rx
 obtain⟨u,rfl,ru⟩:=rv.one
 obtain⟨t,rfl⟩:=ru
 obtain⟨z,its,n,r,hl,e⟩:=I.lstM hH
 obtain⟨w,hw,rw'⟩:=r.get hy
 refine call_meets F.slot_list_pop ⟨_,e,rfl⟩ F.entry_list_pop (F.args_list_pop_2 _ _)
  (MeetsSeq.list_pop_at l its.toArray n i t k w (fitsIndex_both h1 h2) (by rw[aO,←hl];exact hk) (by rw[←Array.getElem?_toList];exact hw) (by rw[aO];omega)) ⟨e,?_⟩
 refine⟨y,_,I.lset (its':=its.eraseIdx k) hH e ?_ (r.eraseIdx k) ?_,rw',q⟩
 ·show its.toArray.eraseIdxIfInBounds k=(its.eraseIdx k).toArray
  rw[List.eraseIdxIfInBounds_toArray]
 ·have:=tQ xs k
  omega
def bU :R2:=fun x y H Q=>∃l b xs zs,x=.ref l∧y=.ref b∧H l=some (.lst xs)∧H b=some (.lst zs)∧xs.length+zs.length≤sizeLine∧∀p,H p=none→Q (.ref p) (upd H p (.lst (xs++zs)))
theorem eH :OpR X (binaryOp .Add) bU:=by
 intro pins s σ H x y v u Q I rx ry h
 obtain⟨l,b,xs,zs,rfl,rfl,hH,hB,hz,q⟩:=h
 cases rx
 cases ry
 obtain⟨z,its,n,r,hl,e⟩:=I.lstM hH
 obtain⟨z2,its2,n2,r2,hl2,e2⟩:=I.lstM hB
 refine PySem.P.add_list e e2 ?_ (by rw[aO,aO];omega)
 have ea:its.toArray++its2.toArray=(its++its2).toArray:=by simp
 rw[ea]
 exact⟨.ref _,_,I.lnew (t':=s.toks) (r.append r2) (by rw[aX];omega),rfl,q _ I.fresh⟩
end
section
variable {prog:Program}{w:World}{A:Around}{E:Value→Shared→Prop}{s:Shared}
end
section
variable {X:Cx}
end
end L2
namespace Att
open PySem PySem.W PySem.Calls PyProof.Rows
theorem vT {P:Params}{h:Heap}:∀(ns:List Int) (vs:List Value),WellAll P h vs (ns.map WData.int)→IntsAre vs ns:=by
 intro ns
 induction ns with
 |nil=>
  intro vs w
  rw[List.map_nil] at w
  cases w
  exact .nil
 |cons n ns ih=>
  intro vs w
  rw[zf0] at w
  cases w with
  |cons a b=>
   cases a
   exact .cons _ _ (ih _ b)
theorem lJ {l:OpenLaw}{n:Nat}(hn:l.most=some n){P:Params}{h:Heap}{args:List WData}{vals:List Value}
  (hpre:l.row.toRowW.claim.pre args=true) (hwl:WellAll P h vals args):
  ∃a vs ns,vals=[Value.ref a]∧args=[WData.list (ns.map WData.int)]∧h.get? a=some {cls:=.type "list",data:=.seq vs.toArray}∧IntsAre vs ns∧ns.length≤n:=by
 have hsh:WShape.hasAll [] args [.list .int]=true:=(pre_splitW hpre).1
 have hc:l.pre.holds [] {args:=args}=true:=(pre_splitW hpre).2
 obtain⟨d,r,rfl,h1,h2⟩:=hasAllW_cons hsh
 obtain rfl:=hasAllW_nil h2
 obtain⟨xs,rfl,h3⟩:=hasW_list h1
 obtain⟨ns,rfl⟩:=items_int h3
 have hlen:ns.length≤n:=by
  unfold OpenLaw.pre at hc
  have h4:(WTm.not (.lt (.lit (.int (n:Int))) (.len (.arg 0)))).holds [] {args:=[.list (ns.map .int)]}=true:=by
   have h4:=(holds_andW hc).1
   rw[hn] at h4
   exact h4
  have h5:=condW_of h4 (w_not (w_lt w_lit (w_len_list (w_arg rfl))))
  rw[aI] at h5
  refine Nat.le_of_not_lt fun q=>?_
  have q':(n:Int)<((ns.length:Nat):Int):=by omega
  first
   |(rw[zb6 q'] at h5;exact absurd h5 (by decide))
   |(simp at h5;omega)
 cases hwl with
 |cons w1 w2=>
  cases w2
  cases w1 with
  |list ho hall=>exact⟨_,_,ns,rfl,rfl,ho,vT ns _ hall,hlen⟩
theorem lC (l:OpenLaw)(args:List WData):l.row.toRowW.claim.post args (.bool true) args=true:=
 postW_of (r:=l.row.toRowW) (X:=(true == true))
  (show WShape.has [] (.bool true) .bool=true by first|rfl|decide|simp[WShape.has,WShape.arms,WShape.armsAll])
  (show (WTm.eq .res (.lit (.bool true))).value [] {args:=args,res:=some (.bool true),after:=args}=some (.bool (true == true)) from w_eq_bool (w_res rfl) w_lit) rfl
theorem attach_call {l:OpenLaw}{n:Nat}{q:Program}{loose:List Str}{XP:(Str→Option Value)→Heap→Prop}{YP:World→Heap→Prop}{d:DefRec}
  (hn:l.most=some n) (hdf:d.params.defaults=[])
  (call:∀(w:World) (s₀ s₁:Shared) (mg mb:Str→Option Value) (fa:Addr) (o:Obj) (pm cd doc:Value) (a:Addr) (vs:List Value) (ns:List Int),
   Ground q loose [] XP w s₀ mg mb s₁.heap→YP w s₁.heap→
   s₁.heap.get? fa=some o→o.data=.func (docDef d.name d.params d.body d.scope pm cd doc)→s₁.heap.CodeRec cd d.name→mg d.name=some (.ref fa)→
   s₁.heap.get? a=some {cls:=.type "list",data:=.seq vs.toArray}→IntsAre vs ns→ns.length≤n→s₁.gens=#[]→
   codeAny (model l.prog w) callerA (.call (.ref fa) ⟨[.ref a],[]⟩) (fun r s'=>r=.ok (.ret (.bool true))∧OldK s₁.heap s'.heap∧s'.os=s₁.os∧AllBare s'.gens) s₁):
  WalkO q loose XP YP l.row.toRowW d [] (fun f vs=>PySem.call f vs):=by
 intro w s₀ s₁ mg mb G Y fa o pm cd doc dV kV ho hd hcd hD hmg hg args vals as hpre hlay hrd hwl hlo
 obtain rfl:dV=.none:=Dflts.none hD hdf
 obtain rfl:kV=.none:=Dflts.noKw hD
 obtain⟨a,vs,ns,rfl,rfl,hobj,hints,hlen⟩:=lJ hn hpre hwl
 refine enter_call (codeAny_mono (call w s₀ s₁ mg mb fa o pm cd doc a vs ns G Y ho (fd_plain hd) hcd hmg hobj hints hlen hg) fun r s' hq=>?_)
 obtain⟨rfl,h2,h3,h4⟩:=hq
 exact⟨.inl ⟨.bool true,.bool true,[],rfl,fun _=>rfl,.bool true,lC l _,fun _=>⟨List.Pairwise.nil,fun _ hm=>(nomatch hm)⟩⟩,h2,h3,h4⟩
section
variable {prog:Program}{w:World}{A:Around}{E:Value→Shared→Prop}{s:Shared}{K:Frag}
end
end Att
namespace L2
open PySem PySem.Spec PyProof.Rows
theorem tE :∀{vs:List Value} {ns:List Int},IntsAre vs ns→Vals (ns.map V.int) vs
 |_,_,.nil=>.nil
 |_,_,.cons n t h=>.cons ⟨t,rfl⟩ (tE h)
def de (H:Hp):Prop:=∀b,H b=none∨∃o xs,H b=some (.frz o (.lst xs))
theorem jN {P:Program}{w:World}{K:PySem.W.Frag}{mg mb:Str→Option Value}{CX:CXT}{k:Nat}{fa a:Addr}{fd:FuncData}{x:Str}{sp:Sp}{s₁:Shared}{vs:List Value}{ns:List Int}
  (KX:K.In s₁.heap) (hns:s₁.heap.Ns mainGlobals mg) (hb:s₁.heap.Ns builtinsNs mb) (hbb:∀x:Str,x≠"__name__"→mb x=bootBuiltins x) (hlim:s₁.heap.NoLimit) (hg:s₁.gens=#[])
  (ha:s₁.heap.get? a=some {cls:=.type "list",data:=.seq vs.toArray}) (hi:IntsAre vs ns) (hl:ns.length≤sizeLine) (hr:zR k callerA)
  (F:∀base:Heap,K.In base→base.Ns mainGlobals mg→zt P w K mg base CX k fa fd [x] sp) (hbind:∀(s:Shared) (u:Value),BindsTo s fd ⟨[u],[]⟩ [(x,u)])
  (hsp:∀H:Hp,de H→SqL K H a (ns.map V.int)→sp [.ref a] H (fun v _=>v=.bl true) fun _ _ _=>False)
  (hCX:∀H e s',CX [] H s₁ (fun _ _ _=>False) e s'→False):
  codeAny (model P w) callerA (.call (.ref fa) ⟨[.ref a],[]⟩) (fun r s'=>r=.ok (.ret (.bool true))∧OldK s₁.heap s'.heap∧s'.os=s₁.os∧AllBare s'.gens) s₁:=by
 have rv:=tE hi
 have lenV:=hi.length
 -- from an abstract heap in which nothing but the script may be tracked
 have core:∀H:Hp,de H→SqL K H a (ns.map V.int)→HOk P w H s₁.heap→(∀b,H b≠none→b=a)→(H a≠none→K.lookup a=none)→
   codeAny (model P w) callerA (.call (.ref fa) ⟨[.ref a],[]⟩) (fun r s'=>r=.ok (.ret (.bool true))∧OldK s₁.heap s'.heap∧s'.os=s₁.os∧AllBare s'.gens) s₁:=by
  intro H hO hS hok hA hK
  have base_of:∀{b:Addr} {o:Obj},s₁.heap.get? b=some o→H b=none→(sk s₁.heap H).get? b=some o:=fun e n=>kg e n
  have noA:∀{b:Addr} {o:Obj} {es:Array DictEntry} {ep:Nat},s₁.heap.get? b=some o→o.data=.dict es ep→H b=none:=fun {b o es ep} e d=>by
   cases q:H b with
   |none=>rfl
   |some u=>
    have e':b=a:=hA b (by rw[q];simp)
    subst e'
    rw[ha] at e;cases e
    have d':Data.seq vs.toArray _=Data.dict es ep:=d
    cases d'
  have nsK:∀{b:Addr} {m:Str→Option Value},s₁.heap.Ns b m→(sk s₁.heap H).Ns b m:=fun {b m} ⟨o,es,ep,e,d,r⟩=>⟨o,es,ep,base_of e (noA e d),d,r⟩
  have hKb:K.In (sk s₁.heap H):=fun b o e=>base_of (KX b o e) (by
   cases q:H b with
   |none=>rfl
   |some u=>
    have e':b=a:=hA b (by rw[q];simp)
    subst e'
    rw[hK (by rw[q];simp)] at e;cases e)
  have hM:Mod K mg (sk s₁.heap H):=⟨hKb,nsK hns,⟨mb,nsK hb,hbb⟩,let ⟨mc,h1,h2⟩:=hlim;⟨mc,nsK h1,h2⟩⟩
  have e0:oj P w K mg (sk s₁.heap H) callerA [] s₁ H:=⟨rfl,hM,fun b o e=>iY e,zi3 (nU _ _),trivial,fun b hb=>absurd (show b∈([]:List Addr) from hb) (by simp),hok,.of_eq hg⟩
  refine codeAny_mono ((F _ hKb (nsK hns)).run callerA [] s₁ H ⟨[.ref a],[]⟩ [.ref a] [.ref a] _ _ hr e0 (hbind s₁ (.ref a)) (.cons rfl .nil) (hsp H hO hS)) fun r s' h=>?_
  cases r with
  |error e=>exact (hCX H e s' h).elim
  |ok fl=>
   cases fl with
   |next=>exact False.elim h
   |brk=>exact False.elim h
   |cont=>exact False.elim h
   |ret u=>
    obtain⟨v,H',os,bare,un,hok',r',q⟩:=h
    have q':v=.bl true:=q
    subst q'
    obtain rfl:u=Value.bool true:=r'
    refine⟨rfl,OldK.of_keep fun b o e=>?_,os,bare⟩
    cases q:H b with
    |none=>exact un.keep b o e q (by intro z;exact absurd (show b∈([]:List Addr) from z) (by simp)) (by simp)
    |some u=>
     rcases hO b with z|⟨ob,xs,z⟩
     ·rw[q] at z;cases z
     ·have z2:=un.frzs b ob _ z
      obtain⟨e1,_⟩:=hok b _ z
      obtain⟨e2,_⟩:=hok' b _ z2
      rw[e] at e1;cases e1
      exact e2
 cases hk:K.lookup a with
 |some o=>
  -- the script is one of the module's own objects
  have e:=KX a o hk
  rw[ha] at e
  cases e
  refine core (fun _=>none) (fun _=>.inl rfl) (.inr ⟨_,vs.toArray,_,hk,rfl,rfl,rfl,by rw[aO,lenV];exact hl,by simpa using rv⟩) (fun b u z=>by have z':(none:Option HO)=some u:=z;cases z') (fun b z=>absurd rfl z) fun z=>absurd rfl z
 |none=>
  refine core (fun b=>if b=a then some (.frz {cls:=.type "list",data:=.seq vs.toArray} (.lst (ns.map V.int))) else none) (fun b=>?_) (.inl (.inr ⟨{cls:=.type "list",data:=.seq vs.toArray},if_pos rfl⟩)) (fun b u z=>?_) (fun b z=>?_) fun _=>hk
  ·by_cases hb:b=a
   ·exact .inr ⟨_,_,if_pos hb⟩
   ·exact .inl (if_neg hb)
  ·by_cases hb:b=a
   ·have z':=(if_pos hb).symm.trans z
    cases z'
    subst hb
    exact⟨ha,by rw[aI];exact hl,vs,_,rv,ha⟩
   ·have z':=(if_neg hb).symm.trans z
    cases z'
  ·by_cases hb:b=a
   ·exact hb
   ·exact absurd (if_neg hb) z
theorem gC {l:PySem.W.OpenLaw}{n k:Nat}{q:Program}{loose:List Str}{XP:(Str→Option Value)→Heap→Prop}{YP:World→Heap→Prop}{d:DefRec}{K:Params→PySem.W.Frag}{CX:World→CXT}{sp:World→Sp}{x:Str}
  (hn:l.most=some n) (hn2:n≤sizeLine) (hdf:d.params.defaults=[]) (hr:zR k callerA)
  (hY:∀(w:World) (h:Heap),YP w h→(K w.params).In h)
  (F:∀(w:World) (mg:Str→Option Value) (fa:Addr) (h:Heap),(K w.params).In h→h.Ns mainGlobals mg→mg d.name=some (.ref fa)→
   ∃fd:FuncData,(∀(s:Shared) (u:Value),BindsTo s fd ⟨[u],[]⟩ [(x,u)])∧
    ∀base:Heap,(K w.params).In base→base.Ns mainGlobals mg→zt l.prog w (K w.params) mg base (CX w) k fa fd [x] (sp w))
  (hsp:∀(w:World) (H:Hp) (a:Addr) (ns:List Int),ns.length≤n→de H→SqL (K w.params) H a (ns.map V.int)→sp w [.ref a] H (fun v _=>v=.bl true) fun _ _ _=>False)
  (hCX:∀(w:World) (H:Hp) (s:Shared) (e:Value) (s':Shared),CX w [] H s (fun _ _ _=>False) e s'→False):
  PySem.W.WalkO q loose XP YP l.row.toRowW d [] (fun f vs=>PySem.call f vs):=by
 refine Att.attach_call hn hdf fun w s₀ s₁ mg mb fa o pm cd doc a vs ns G Y ho hd hcd hmg hobj hints hlen hg=>?_
 have KX:=hY w _ Y
 obtain⟨fd,hb,hF⟩:=F w mg fa _ KX G.T.g hmg
 exact jN KX G.T.g G.T.b G.T.builtins G.T.nolimit hg hobj hints (zb4 hlen hn2) hr hF hb (fun H hO hS=>hsp w H a ns hlen hO hS) fun H e s'=>hCX w H s₁ e s'
def inClass (s:Stmt)(j:Nat):Stmt:=match s with
 |.ClassDef _ _ _ body _ _ _ _ _ _ _=>body.getD j (.Pass ⟨0,0,0,0⟩)
 |_=>.Pass ⟨0,0,0,0⟩
def ye (s:Stmt):Arguments:=match s with
 |.FunctionDef _ a _ _ _ _ _ _ _ _=>a
 |_=>{posonlyargs:=[],args:=[],vararg:=none,kwonlyargs:=[],kw_defaults:=[],kwarg:=none,defaults:=[]}
def zw (s:Stmt):List Stmt:=match s with
 |.FunctionDef _ _ b _ _ _ _ _ _ _=>b
 |_=>[]
def zb (s:Stmt):Scope:=match s with
 |.FunctionDef _ _ _ _ _ _ sc _ _ _=>sc
 |_=>{kind:=.function,names:=[],isGenerator:=false,isCoroutine:=false}
abbrev CX0 :CXT:=fun _ _ _ _ _ _=>False
abbrev E0 :XK:=fun _ _ _=>False
theorem zN {X:Cx}:Passes CX0 X E0:=fun _ _ _ _ _ _ _ h=>h.elim
structure Fun (K:PySem.W.Frag)(x qual:Str)(st:Stmt)(f:Addr)(fd:FuncData):Prop where
 ex:∃(oc:Value) (od:Option Addr) (kV doc pm:Value) (an:Option Addr) (cdv ct:Value) (osl:Array (Option Value)),
  fd=PySem.W.fnOf x qual (ye st) (zw st) (zb st) .none kV doc pm an cdv ct∧K.lookup f=some ⟨oc,od,.func fd,osl⟩∧PySem.W.codeIn K cdv qual=true
 kp:PySem.W.keepIn K (.ref f)=true
section
variable {P:Program}{w:World}{K:PySem.W.Frag}{mg:Str→Option Value}{base:Heap}
theorem Fun.ok {x qual:Str}{st:Stmt}{f:Addr}{fd:FuncData}{N ps:List Str}{k:Nat}{sp:Sp}(F:Fun K x qual st f fd)(S:zl N ps (zb st))(len:∀vs H Q E,sp vs H Q E→vs.length=ps.length)
  (hbody:∀(cdv:Value) (A:Around) (outer:List Env) (s:Shared) (H:Hp) (vs:List V) (Q:VK) (E:XK),zR k (A.deeper (envOfC qual (zb st) s.heap.objs.size f cdv))→sp vs H Q E→
   ∃t,PSs (vt CX0 P w K mg base N qual (zb st) f cdv A outer s H E).nox (zw st) t∧t {nx:=fun _ H'=>Q .non H',rt:=Q} (start N vs) H):zt P w K mg base CX0 (k+1) f fd ps sp:=by
 obtain⟨oc,od,kV,doc,pm,an,cdv,ct,osl,rfl,lk,hcd⟩:=F.ex
 refine fX lk hcd S len fun A outer s H vs Q E hr hsp=>?_
 obtain⟨t,h,q⟩:=hbody cdv A outer s H vs Q E hr hsp
 exact⟨t,h.nox,q⟩
theorem Fun.binds {x qual:Str}{st:Stmt}{f:Addr}{fd:FuncData}{ps:List Str}(F:Fun K x qual st f fd)
  (h:∀(kV doc pm:Value) (an:Option Addr) (cdv ct:Value) (us:List Value),us.length=ps.length→bindArgs (PySem.W.fnOf x qual (ye st) (zw st) (zb st) .none kV doc pm an cdv ct) ⟨us,[]⟩=pure (ps.zip us)):Binds K fd ps []:=by
 obtain⟨oc,od,kV,doc,pm,an,cdv,ct,osl,rfl,lk,hcd⟩:=F.ex
 exact .all (h kV doc pm an cdv ct)
theorem jH {x qual:Str}{st:Stmt}{f:Addr}{oc:Value}{od an:Option Addr}{osl:Array (Option Value)}{kV doc pm cdv ct:Value}(l:K.lookup f=some ⟨oc,od,.func (PySem.W.fnOf x qual (ye st) (zw st) (zb st) .none kV doc pm an cdv ct),osl⟩)
  (c:PySem.W.codeIn K cdv qual=true) (k:PySem.W.keepIn K (.ref f)=true):Fun K x qual st f (PySem.W.fnOf x qual (ye st) (zw st) (zb st) .none kV doc pm an cdv ct):=⟨⟨oc,od,kV,doc,pm,an,cdv,ct,osl,rfl,l,c⟩,k⟩
end
theorem zU {n:Nat}(h:n≤1000):n<sizeLine:=Nat.lt_of_le_of_lt h (by decide)
section
variable {X:Cx}
theorem pv (i:Nat){x:Str}{pos:Pos}(hN:X.N[i]?=some x:=by rfl)(hv:Vis X.env.scope x:=by first|exact Or.inl rfl|exact Or.inr (Or.inl rfl)|exact Or.inr (Or.inr rfl))(hd:(x == ("__debug__":Str))=false:=by decide)
  (hcd:(x == ("__classdict__":Str))=false:=by decide):PE X (.Name x pos) (cJ i):=yU hN hv hd hcd
end
theorem wH {A B:Prop}(h:B):if false=true then A else B:=by
 rw[if_neg aU]
 exact h
theorem wx {A B:Prop}(h:A):if true=true then A else B:=by
 rw[if_pos rfl]
 exact h
theorem yn {c A B:Prop}[Decidable c](h1:c→A)(h2:¬c→B):if c then A else B:=by
 by_cases h:c
 ·rw[if_pos h]
  exact h1 h
 ·rw[if_neg h]
  exact h2 h
def zo (H H':Hp):Prop:=∀b o,H b=some o→H' b=some o
theorem zo.refl (H:Hp):zo H H:=fun _ _ h=>h
theorem zo.trans {H H1 H2:Hp}(a:zo H H1)(b:zo H1 H2):zo H H2:=fun c o h=>b c o (a c o h)
theorem zo.free {H H':Hp}(e:zo H H'){l:Addr}(h:H' l=Option.none):H l=Option.none:=by
 cases q:H l with
 |none=>rfl
 |some o=>
  rw[e l o q] at h
  cases h
theorem zo.seq {K:PySem.W.Frag}{H H':Hp}{a:Addr}{xs:List V}(e:zo H H')(h:SqL K H a xs):SqL K H' a xs:=by
 rcases h with (h|⟨o,h⟩)|h
 ·exact .inl (.inl (e _ _ h))
 ·exact .inl (.inr ⟨o,e _ _ h⟩)
 ·exact .inr h
def wq (cells:List (Str×Addr)):List (Str×NameKind)→List (Str×Addr)→List (Str×Addr)
 |[],acc=>acc
 |(n,k)::r,acc=>wq cells r (if k=.free then (n,(cells.lookup n).getD 0)::acc else acc)
theorem wg {env:Env}{scope:Scope}(h:∀y∈scope.names,y.2=.free→∃c,env.cells.lookup y.1=some c):
  closureFor scope env=pure (wq env.cells scope.names []):=by
 have key:∀(ns:List (Str×NameKind)) (acc:List (Str×Addr)),(∀y∈ns,y.2=.free→∃c,env.cells.lookup y.1=some c)→
   (forIn ns acc fun (x:Str×NameKind) (r:List (Str×Addr))=>(if (x.2 == NameKind.free)=true then (do let a ←cellOf env x.1;pure (ForInStep.yield ((x.1,a)::r))) else pure (ForInStep.yield r):Sem (ForInStep (List (Str×Addr)))))=pure (wq env.cells ns acc):=by
  intro ns
  induction ns with
  |nil=>intro acc _;rfl
  |cons y r ih=>
   intro acc hy
   obtain⟨n,k⟩:=y
   rw[List.forIn_cons]
   have hr:∀z∈r,z.2=.free→∃c,env.cells.lookup z.1=some c:=fun z hz=>hy z (aK _ hz)
   by_cases hk:k=.free
   ·subst hk
    obtain⟨c,hc⟩:=hy (n,.free) aJ rfl
    have e1:cellOf env n=pure c:=by
     unfold cellOf
     rw[hc]
    have e2:((NameKind.free == NameKind.free)=true):=rfl
    simp only[e2,if_true,e1,pure_bind]
    rw[ih _ hr]
    show _=pure (wq env.cells r (if NameKind.free=NameKind.free then (n,(env.cells.lookup n).getD 0)::acc else acc))
    rw[if_pos rfl,hc]
    rfl
   ·have e2:(k == NameKind.free)=false:=by simpa using hk
    simp only[e2,zh2,if_false,pure_bind]
    rw[ih _ hr]
    show _=pure (wq env.cells r (if k=NameKind.free then (n,(env.cells.lookup n).getD 0)::acc else acc))
    rw[if_neg hk]
 have q:=key scope.names [] h
 unfold closureFor
 simp only[] at q ⊢
 rw[show (forIn scope.names ([]:List (Str×Addr)) fun (x:Str×NameKind) (r:List (Str×Addr))=>_)=_ from q]
 rfl
theorem qR {cells:List (Str×Addr)}:∀(ns:List (Str×NameKind)) (acc:List (Str×Addr)),(∀y∈ns,y.2=.free→∃c,cells.lookup y.1=some c)→
  ∀x c,(x,c)∈wq cells ns acc→(x,c)∈acc∨((x,NameKind.free)∈ns∧cells.lookup x=some c)
 |[],acc,_,x,c,h=>.inl h
 |(n,k)::r,acc,hy,x,c,h=>by
  have hr:∀z∈r,z.2=.free→∃c,cells.lookup z.1=some c:=fun z hz=>hy z (aK _ hz)
  have h':(x,c)∈wq cells r (if k=.free then (n,(cells.lookup n).getD 0)::acc else acc):=h
  rcases qR r _ hr x c h' with q|⟨q1,q2⟩
  ·by_cases hk:k=.free
   ·rw[if_pos hk] at q
    rcases aP.mp q with e|q
    ·obtain⟨c',hc⟩:=hy (n,k) aJ hk
     have e1:x=n:=congrArg Prod.fst e
     have e2:c=(cells.lookup n).getD 0:=congrArg Prod.snd e
     have hc':cells.lookup n=some c':=hc
     rw[hc'] at e2
     have e3:c=c':=e2
     subst e1 e3 hk
     exact .inr ⟨aJ,hc'⟩
    ·exact .inl q
   ·rw[if_neg hk] at q
    exact .inl q
  ·exact .inr ⟨aK _ q1,q2⟩
theorem qG {cells:List (Str×Addr)}:∀(ns:List (Str×NameKind)) (acc:List (Str×Addr)) (p:Str×Addr),p∈acc→p∈wq cells ns acc
 |[],_,_,h=>h
 |(n,k)::r,acc,p,h=>by
  show p∈wq cells r (if k=.free then (n,(cells.lookup n).getD 0)::acc else acc)
  refine qG r _ p ?_
  split
  ·exact aK _ h
  ·exact h
theorem qQ {cells:List (Str×Addr)}:∀(ns:List (Str×NameKind)) (acc:List (Str×Addr)) (x:Str),(x,NameKind.free)∈ns→∃c,(x,c)∈wq cells ns acc
 |[],_,_,h=>by simp at h
 |(n,k)::r,acc,x,h=>by
  show ∃c,(x,c)∈wq cells r (if k=.free then (n,(cells.lookup n).getD 0)::acc else acc)
  rcases aP.mp h with e|h
  ·have e1:x=n:=congrArg Prod.fst e
   have e2:NameKind.free=k:=congrArg Prod.snd e
   subst e1 e2
   rw[if_pos rfl]
   exact⟨_,qG r _ _ aJ⟩
  ·exact qQ r _ x h
theorem mem_lookup {x:Str}{c:Addr}:∀{l:List (Str×Addr)},(x,c)∈l→∃d,l.lookup x=some d
 |[],h=>by simp at h
 |(n,a)::r,h=>by
  rw[zd2]
  cases e:x == n with
  |true=>exact⟨a,rfl⟩
  |false=>
   rcases aP.mp h with q|q
   ·have e1:x=n:=congrArg Prod.fst q
    rw[e1] at e
    simp at e
   ·exact mem_lookup q
structure zA (XN:List Str)(xs:Scope)(N:List Str)(imp:List (Option Nat))(scope:Scope):Prop where
 kind:scope.kind=.function
 nd:N.Nodup
 nocell:∀y∈scope.names,y.2≠.cell
 locs:∀y∈scope.names,y.2=.local→scope.names.lookup y.1=some .local
 frees:∀y∈scope.names,y.2=.free→xs.names.lookup y.1=some .cell∨xs.names.lookup y.1=some .free
 len:imp.length=N.length
 impsB:((imp.zip N).all fun p=>match p.1 with|none=>true|some j=>XN[j]? == some p.2&&scope.names.lookup p.2 == some .free)=true
theorem zA.imps {XN N:List Str}{xs scope:Scope}{imp:List (Option Nat)}(S:zA XN xs N imp scope):∀(i j:Nat),imp[i]?=some (some j)→∃x,N[i]?=some x∧XN[j]?=some x∧scope.names.lookup x=some .free:=by
 intro i j h
 have hi:i<imp.length:=(aL.mp h).1
 have hn:i<N.length:=by rw[←S.len];exact hi
 have hx:N[i]?=some N[i]:=aM hn
 have hm:(some j,N[i])∈imp.zip N:=by
  have hz:(imp.zip N)[i]?=some (some j,N[i]):=by
   rw[List.getElem?_zip_eq_some]
   exact⟨h,hx⟩
  exact za4 hz
 have q:=zf6.mp S.impsB _ hm
 have q':(XN[j]? == some N[i]&&scope.names.lookup N[i]==some .free)=true:=q
 rw[za0] at q'
 exact⟨N[i],hx,eq_of_beq q'.1,eq_of_beq q'.2⟩
def yQ (imp:List (Option Nat))(σ:St):St:=imp.map fun o=>o.bind fun j=>(σ[j]?).bind id
theorem lM {imp:List (Option Nat)}{σ:St}{i:Nat}{v:V}(h:(yQ imp σ)[i]?=some (some v)):∃j,imp[i]?=some (some j)∧σ[j]?=some (some v):=by
 unfold yQ at h
 rw[za6] at h
 cases e:imp[i]? with
 |none=>rw[e] at h;cases h
 |some o=>
  rw[e] at h
  have h':(o.bind fun j=>(σ[j]?).bind id)=some v:=za3 h
  cases o with
  |none=>cases h'
  |some j=>
   have h2:(σ[j]?).bind id=some v:=h'
   cases e2:σ[j]? with
   |none=>rw[e2] at h2;cases h2
   |some w=>
    rw[e2] at h2
    have h3:w=some v:=h2
    exact⟨j,rfl,by rw[e2,h3]⟩
def Cx.comp (X:Cx)(N:List Str)(scope:Scope)(C:Addr)(s2:Shared)(H2:Hp)(fp:List Addr):Cx where
 prog:=X.prog
 w:=X.w
 K:=X.K
 mg:=X.mg
 base:=X.base
 A:=X.A
 N:=N
 s₀:=s2
 H₀:=H2
 env:=compEnvC scope (wq X.env.cells scope.names []) C X.env
 outer:=X.stack
 stack:=X.stack
 ex:=fp
 fn:=fun _=>false
 calm:=X.calm
 pn:=[]
 xe:=fun _ _=>False
theorem wJ {env:Env}:∀{names:List (Str×NameKind)} {x:Str},
  (names.map fun (n,k)=>if (k == NameKind.free&&env.scope.kind == .function&&env.kindOf n == some .cell) then (n,NameKind.cell) else (n,k)).lookup x=some .cell∨
  (names.map fun (n,k)=>if (k == NameKind.free&&env.scope.kind == .function&&env.kindOf n == some .cell) then (n,NameKind.cell) else (n,k)).lookup x=some .free→
  (∀y∈names,y.2≠.cell)→(x,NameKind.free)∈names
 |[],x,h,_=>by simp at h
 |(n,k)::r,x,h,hc=>by
  have ih:=@wJ env r x
  rw[zf0] at h
  dsimp only at h
  by_cases hx:x=n
  ·subst hx
   by_cases hk:k=.free
   ·subst hk;exact aJ
   ·have hk':(k == NameKind.free)=false:=by simpa using hk
    simp only[hk',ze2,zh2,if_false,zd2,beq_self_eq_true,if_true] at h
    rcases h with h|h
    ·have e:k=.cell:=za3 h
     exact absurd e (hc (x,k) aJ)
    ·have e:k=.free:=za3 h
     exact absurd e hk
  ·have hxn:(x == n)=false:=by simpa using hx
   have step:∀(b:Bool) (l:List (Str×NameKind)),List.lookup x ((if b=true then (n,NameKind.cell) else (n,k))::l)=l.lookup x:=fun b l=>by
    cases b<;>simp[zd2,hxn]
   rw[step] at h
   exact aK _ (ih h fun y hy=>hc y (aK _ hy))
theorem vH {env:Env}:∀{names:List (Str×NameKind)} {x:Str},names.lookup x=some .free→
  (names.map fun (n,k)=>if (k == NameKind.free&&env.scope.kind == .function&&env.kindOf n == some .cell) then (n,NameKind.cell) else (n,k)).lookup x=some .cell∨
  (names.map fun (n,k)=>if (k == NameKind.free&&env.scope.kind == .function&&env.kindOf n == some .cell) then (n,NameKind.cell) else (n,k)).lookup x=some .free
 |[],x,h=>by simp at h
 |(n,k)::r,x,h=>by
  have ih:=@vH env r x
  rw[zf0]
  dsimp only
  rw[zd2] at h
  cases hx:x == n with
  |true=>
   rw[hx] at h
   have e:k=.free:=za3 h
   subst e
   by_cases hb:(NameKind.free == NameKind.free&&env.scope.kind == .function&&env.kindOf n == some .cell)=true
   ·left;rw[if_pos hb];simp[zd2,hx]
   ·right;rw[if_neg hb];simp[zd2,hx]
  |false=>
   rw[hx] at h
   have step:∀(b:Bool) (l:List (Str×NameKind)),List.lookup x ((if b=true then (n,NameKind.cell) else (n,k))::l)=l.lookup x:=fun b l=>by
    cases b<;>simp[zd2,hx]
   rw[step]
   exact ih h
section
variable {X:Cx}{pins:List (Addr×Obj)}{σ:St}{H2 H':Hp}{s2 s':Shared}{fp:List Addr}{N:List Str}{imp:List (Option Nat)}{scope:Scope}{C acc:Addr}
theorem wA (I:Inv X pins σ H2 s2)(S:zA X.N X.env.scope N imp scope):∀y∈scope.names,y.2=.free→∃c,X.env.cells.lookup y.1=some c:=fun y hy hk=>I.ok.has y.1 (S.frees y hy hk)
theorem yT (I:Inv X pins σ H2 s2)(S:zA X.N X.env.scope N imp scope){x:Str}{c:Addr}(h:(wq X.env.cells scope.names []).lookup x=some c):(x,NameKind.free)∈scope.names∧X.env.cells.lookup x=some c:=by
 rcases qR scope.names [] (wA I S) x c (zc8 h) with q|q
 ·exact absurd q (by simp)
 ·exact q
theorem wI (I:Inv X pins σ H2 s2)(S:zA X.N X.env.scope N imp scope){x:Str}(h:(x,NameKind.free)∈scope.names):∃c,(wq X.env.cells scope.names []).lookup x=some c:=by
 obtain⟨c,hc⟩:=qQ (cells:=X.env.cells) scope.names [] x h
 exact mem_lookup hc
theorem jG {h1:Heap}{tk:Nat}{m:Str→Option Value}{n0:Nat}(I:Inv X pins σ H2 s2)(S:zA X.N X.env.scope N imp scope)(hf:∀b∈fp,ve X pins H2 b)(ho:∀b∈fp,∃o,s2.heap.get? b=some o)
  (hacc:acc=s2.heap.objs.size) (hC:C=s2.heap.objs.size+1) (old:∀b o,s2.heap.get? b=some o→h1.get? b=some o) (hn:h1.Ns C m)
  (hl:h1.get? acc=some {cls:=.type "list",data:=.seq ([]:List Value).toArray n0}):
  Inv (X.comp N scope C s2 H2 fp) [] (yQ imp σ) (upd H2 acc (.lst [])) {s2 with heap:=h1,toks:=tk}:=by
 have fa:H2 acc=none:=I.hok.fresh (by rw[hacc];exact aN _)
 have cac:C≠acc:=by rw[hC,hacc];exact Nat.succ_ne_self _
 have clt:∀x c,X.env.cells.lookup x=some c→c<s2.heap.objs.size:=fun x c e=>by
  obtain⟨v,q⟩:=I.cell x c e
  exact q.lt
 refine⟨⟨I.ok.mod,S.kind,I.ok.glob,I.ok.blt,?above,?inj,?has,?cab,I.ok.hd,I.ok.frames,.inl rfl,?exf,fun b o e=>I.bs b o e,zb4 I.ok.bsz I.sz,?noex,?exfs,I.stack,I.stkFree⟩,
  rfl,I.bare,Un.laid old (by rw[hacc];exact aN _) fa,⟨m,hn,?loc⟩,?cell,?free,?freeC,fun p hp=>absurd (show p∈([]:List (Addr×Obj)) from hp) (by simp),I.hok.laid old (by rw[hacc];exact aN _) ⟨aS _,[],n0,.nil,hl⟩,?len⟩
 case above=>show s2.heap.objs.size≤C;rw[hC];exact zh6 _
 case inj=>exact fun x y c h1 h2=>I.ok.inj x y c (yT I S h1).2 (yT I S h2).2
 case has=>exact fun x hx=>wI I S (wJ (env:=X.env) hx S.nocell)
 case cab=>exact fun x c h _=>absurd h (by show ¬(false=true);simp)
 case exf=>
  intro b hb
  obtain⟨o,hob⟩:=ho b hb
  refine⟨?_,fun x c e=>(hf b hb).2.2.2.2.1 x c (yT I S e).2⟩
  show b≠C
  rw[hC]
  exact za1 (zh5 (aQ hob))
 case noex=>
  intro b o e hb
  rcases (hf b hb).2.2.2.1 with z|z
  ·exact I.ok.noex b o e z
  ·exact absurd (za2 (aQ e) (zb4 I.ok.bsz z)) (ze9 _)
 case exfs=>
  intro b hb hz
  rcases aP.mp (I.stkSub b hz) with e|e
  ·exact (hf b hb).2.1 e
  ·exact (hf b hb).2.2.1 e
 case loc=>
  intro i x v e1 e2 e3
  obtain⟨j,q1,q2⟩:=lM e2
  obtain⟨y,n1,n2,n3⟩:=S.imps i j q1
  have n1':(X.comp N scope C s2 H2 fp).N[i]?=some y:=n1
  rw[n1'] at e1
  have exy:y=x:=za3 e1
  subst exy
  have hfr:=S.frees (y,.free) (zc8 n3) rfl
  obtain⟨mX,hnX,hlX⟩:=I.loc
  obtain⟨u,r,l⟩:=hlX j y v n2 q2 (.inr hfr)
  refine⟨u,r,?_⟩
  rcases l with ⟨k,_⟩|⟨k,c,e,z⟩
  ·have k':X.env.scope.names.lookup y=some .local:=k
   rcases hfr with z|z
   ·have z':X.env.scope.names.lookup y=some .cell:=z
    rw[k'] at z';cases z'
   ·have z':X.env.scope.names.lookup y=some .free:=z
    rw[k'] at z';cases z'
  ·obtain⟨d,hd⟩:=wI I S (zc8 n3)
   have hd2:=(yT I S hd).2
   rw[e] at hd2
   have edc:c=d:=za3 hd2
   subst edc
   exact .inr ⟨vH (env:=X.env) n3,c,hd,z.keeps old⟩
 case cell=>
  intro x c e
  obtain⟨v,q⟩:=I.cell x c (yT I S e).2
  exact⟨v,q.keeps old⟩
 case free=>
  show upd H2 acc _ C=none
  rw[zc cac]
  exact I.hok.fresh (by rw[hC];exact zh6 _)
 case freeC=>
  intro x c e
  have e':=(yT I S e).2
  have hlt:=clt x c e'
  show upd H2 acc _ c=none
  rw[zc (by rw[hacc];exact za1 hlt)]
  exact I.freeC x c e'
 case len=>
  show (yQ imp σ).length=N.length
  unfold yQ
  rw[aI]
  exact S.len
theorem mQ {pl:List (Addr×Obj)}{τ:St}(I:Inv X pins σ H2 s2)(hf:∀b∈fp,ve X pins H2 b)(J:Inv (X.comp N scope C s2 H2 fp) pl τ H' s'):Inv X pins σ H' s':=
 I.call' (ch:=fp) J.os J.base J.hok J.bare fun b hb=>⟨(hf b hb).2.2.2.1,(hf b hb).2.1,(hf b hb).2.2.2.2.1,(hf b hb).2.2.2.2.2⟩
end
section
variable {prog:Program}{w:World}{A:Around}{R:Result→Shared→Prop}{s:Shared}
theorem rk {elt target iter:Expr}{ifs:List Expr}{scope:Scope}{pos:Pos}{it acc:Value}{env:Env}(I:Nat→Shared→Prop)
  (turn:∀n s,I n s→wpAny (model prog w) A (pyNext it) (fun r s1=>match r with
   |none=>R (.ok .next) s1
   |some v=>wpAny (model prog w) A (letOwnedTupleGo target it v) (fun _ s2=>wpAny (model prog w) A (assign target env v) (fun _ s3=>
     wpAny (model prog w) A (forIn ifs true fun c r=>if r=true then do let ok ←isTrue c env (eval c env);pure (ForInStep.yield ok) else pure (ForInStep.yield r)) (fun ok s4=>
      if ok=true then wpAny (model prog w) A (eval elt env) (fun x s5=>
       wpAny (model prog w) A (call (.builtin "list.append") [acc,x]) (fun _ s6=>∃m,m<n∧I m s6) (fun _ _=>False) s5) (fun _ _=>False) s4
      else ∃m,m<n∧I m s4) (fun _ _=>False) s3) (fun _ _=>False) s2) (fun _ _=>False) s1) (fun _ _=>False) s)
  (n:Nat) (h:I n s):codeAny (model prog w) A (.compLoop (.ListComp elt [⟨target,iter,ifs,0⟩] scope pos) 0 it acc env) R s:=by
 refine codeAny_loop rfl I (fun n s hI=>?_) n h
 show wpAny _ A ((compTurn (.ListComp elt [⟨target,iter,ifs,0⟩] scope pos) 0 it acc env).onRaise (fun x=>do noteFrame x env;theTreesLotGoes x)) _ _ s
 refine wpAny_noted ?_
 rw[compTurn_list]
 refine aT (wpAny_standAt (aT (zb5 (turn n s hI) (fun r s1 h1=>?_) fun _ _ h'=>False.elim h')))
 cases r with
 |none=>exact zb1 h1
 |some v=>
  refine aT (zb5 h1 (fun _ s2 h2=>?_) fun _ _ h'=>False.elim h')
  refine aT (zb5 h2 (fun _ s3 h3=>aT (zb5 h3 (fun ok s4 h4=>?_) fun _ _ h'=>False.elim h')) fun _ _ h'=>False.elim h')
  cases ok with
  |false=>exact zb1 ⟨rfl,h4⟩
  |true=>
   exact aT (aT (zb5 h4 (fun x s5 h5=>aT (zb5 h5 (fun _ s6 h6=>zb1 (zb1 ⟨rfl,h6⟩)) fun _ _ h'=>False.elim h')) fun _ _ h'=>False.elim h'))
end
def xW (Y:Cx)(ifs:List Expr)(t:TT):Prop:=
 ∀(pins:List (Addr×Obj)) (s:Shared) (σ:St) (H:Hp) (Q:Bool→Hp→Prop),Inv Y pins σ H s→t σ H Q→
  wpAny (model Y.prog Y.w) Y.A (forIn ifs true fun c r=>if r=true then do let ok ←isTrue c Y.env (eval c Y.env);pure (ForInStep.yield ok) else pure (ForInStep.yield r)) (TP Y pins σ Q) Y.xe s
def bV :TT:=fun _ H Q=>Q true H
theorem iN {Y:Cx}:xW Y [] bV:=fun _ _ _ H _ I h=>wpAny_tests_nil ⟨H,I,h⟩
theorem oV {Y:Cx}{c:Expr}{t:TT}(h:PT Y c t):xW Y [c] t:=fun pins s σ H Q I q=>wpAny_tests_one (h pins s σ H Q I q)
def sP (J:It)(acc:Addr)(g:TG)(tt:TT)(te:TE)(τ0:St)(H0:Hp)(Q:VK):Prop:=
 ∃W:Nat→Nat→List V→St→Hp→Prop,(∃m,W 0 m [] τ0 H0)∧∀i m ys τ H2,W i m ys τ H2→
  (J.stop i H2∧Q (.ref acc) H2)∨(J.go i H2∧∃N:List V→St→Hp→Prop,(∀ys' τ' H',N ys' τ' H'→∃m',m'<m∧W (i+1) m' ys' τ' H')∧
   ∀x H3,J.yld i H2 x H3→g x τ H3 fun τ2 H4=>tt τ2 H4 fun c H5=>
    if c=true then te τ2 H5 fun y H6=>H6 acc=some (.lst ys)∧ys.length<sizeLine∧N (ys++[y]) τ2 (upd H6 acc (.lst (ys++[y]))) else N ys τ2 H5)
def nF (wi:TI)(imp:List (Option Nat))(g:TG)(tt:TT)(te:TE):TE:=fun σ H Q=>wi σ H fun J H1=>∀acc,H1 acc=none→sP J acc g tt te (yQ imp σ) (upd H1 acc (.lst [])) Q
section
variable {X:Cx}{pins:List (Addr×Obj)}{σ:St}{elt iter tg:Expr}{ifs:List Expr}{scope:Scope}{pos:Pos}{wi:TI}{g:TG}{tt:TT}{te:TE}{N:List Str}{imp:List (Option Nat)}
theorem uz {H2:Hp}{s2:Shared}{it:Addr}{fp:List Addr}{tn:Nat→Heap→Prop}{J:It}{RR:Value→Addr→Result→Shared→Prop}{E:Value→Shared→Prop}{Q:VK}
  (hc:X.calm=true) (S:zA X.N X.env.scope N imp scope) (hg:∀C s2 H2 fp,PG (X.comp N scope C s2 H2 fp) tg g) (ht:∀C s2 H2 fp,xW (X.comp N scope C s2 H2 fp) ifs tt) (he:∀C s2 H2 fp,PE (X.comp N scope C s2 H2 fp) elt te)
  (I2:Inv X pins σ H2 s2) (T:Turn X.prog X.w X.K tg J fp it tn) (st2:tn 0 s2.heap) (f2:∀b∈fp,ve X pins H2 b)
  (hW:∀acc,H2 acc=none→sP J acc g tt te (yQ imp σ) (upd H2 acc (.lst [])) Q)
  (hRR:∀a C H' s' m,Inv X pins σ H' s'→s'.heap.Ns C m→ve X pins H' C→Q (.ref a) H'→RR (.ref a) C (.ok .next) s'):
  wpAny (model X.prog X.w) X.A (newList []) (fun acc s3=>wpAny (model X.prog X.w) X.A (newFunctionEnv scope X.env.globals (wq X.env.cells scope.names []) [] X.env.qual none .none (some X.env)) (fun cenv s4=>
   codeAny (model X.prog X.w) X.A (.compStart (.ListComp elt [⟨tg,iter,ifs,0⟩] scope pos) 0 (.ref it) acc {cenv with scope:=relabel scope X.env}) (RR acc cenv.locals) s4) E s3) E s2:=by
 refine wpAny_newObj_type (wpAny_newFunctionEnv S.nocell (by intro y hy;simp at hy) (fun h1 hns1 hsb1=>?_) S.kind)
 dsimp only at hns1 hsb1 ⊢
 generalize hHH:s2.heap.push {cls:=.type "list",dict:=none,data:=.seq ([]:List Value).toArray}=HH at hns1 hsb1 ⊢
 have hC:HH.objs.size=s2.heap.objs.size+1:=by rw[←hHH,Heap.size_push]
 have hDC:s2.heap.objs.size≠HH.objs.size:=by rw[hC];exact za1 (zh9 _)
 have old:∀b o,s2.heap.get? b=some o→h1.get? b=some o:=fun b o e=>hsb1.extBut b o (by rw[hC];exact za1 (zh5 (aQ e))) (aR _ (hHH▸aR _ e))
 have hacc:h1.get? s2.heap.objs.size=some {cls:=.type "list",data:=.seq ([]:List Value).toArray}:=hsb1.extBut _ _ hDC (aR _ (hHH▸zb2 _ rfl))
 obtain⟨W,⟨m0,w0⟩,turn⟩:=hW s2.heap.objs.size I2.fresh
 generalize hCC:HH.objs.size=C at hns1 hsb1 hC hDC ⊢
 have ho:∀b∈fp,∃o,s2.heap.get? b=some o:=fun b hb=>let ⟨o,e,_⟩:=T.obj 0 _ st2 b hb;⟨o,e⟩
 generalize hacc0:s2.heap.objs.size=acc at *
 have loop:∀s3:Shared,s3={s2 with heap:=h1,toks:=s2.toks+([]:List (Str×Value)).length}→
   codeAny (model X.prog X.w) X.A (.compLoop (.ListComp elt [⟨tg,iter,ifs,0⟩] scope pos) 0 (.ref it) (.ref acc) (X.comp N scope C s2 H2 fp).env) (RR (.ref acc) C) s3:=by
  rintro s3 rfl
  have I3:Inv (X.comp N scope C s2 H2 fp) [] (yQ imp σ) (upd H2 acc (.lst [])) {s2 with heap:=h1,toks:=s2.toks+([]:List (Str×Value)).length}:=
   jG I2 S f2 ho hacc0.symm (by rw[hC,hacc0]) old hns1 hacc
  have fpn:∀b∈fp,upd H2 acc (.lst []) b=none:=fun b hb=>by
   obtain⟨o,e⟩:=ho b hb
   rw[zc (by rw[←hacc0];exact za1 (aQ e))]
   exact (f2 b hb).1
  have stat:∀{H':Hp},(∀b∈fp,H' b=none)→∀b∈fp,ve (X.comp N scope C s2 H2 fp) [] H' b:=fun hn b hb=>by
   obtain⟨e1,e2⟩:=I3.ok.exf b hb
   exact⟨hn b hb,e1,I3.ok.exfs b hb,.inl hb,e2,fun p hp=>absurd (show p∈([]:List (Addr×Obj)) from hp) (by simp)⟩
  refine rk (fun n s'=>∃i ys τ H',Inv (X.comp N scope C s2 H2 fp) [] τ H' s'∧tn i s'.heap∧(∀b∈fp,H' b=none)∧W i n ys τ H') ?_ m0
   ⟨0,[],_,_,I3,T.keep _ _ _ st2 fun b _ o e=>old b o e,fpn,w0⟩
  rintro n s4 ⟨i,ys,τ,H4,I4,st4,fr4,w4⟩
  rcases turn i n ys τ H4 w4 with ⟨stop,qn⟩|⟨go,NN,hN,step⟩
  ·refine zb5 (T.done (X.comp N scope C s2 H2 fp) rfl rfl rfl hc i [] s4 τ H4 (fun _ _=>False) I4 (stat fr4) st4 stop) (fun r s5 ⟨hr,I5⟩=>?_) fun _ _ z=>z
   subst hr
   obtain⟨m5,hn5,_⟩:=id I5.loc
   exact hRR acc C H4 s5 m5 (mQ I2 f2 I5) hn5 (I2.fpOk (by rw[hC,hacc0];exact zh6 _) I5.free) qn
  ·refine zb5 (T.item (X.comp N scope C s2 H2 fp) rfl rfl rfl hc i [] s4 τ H4 (fun _ _=>False) I4 (stat fr4) st4 go) (fun r s5 ⟨u,hr,h5⟩=>?_) fun _ _ z=>z
   subst hr
   refine zb5 h5 (fun _ s6 ⟨x,H6,I6,r6,y6,st6,fr6⟩=>?_) fun _ _ z=>z
   have I6':=I6.pinned (stat fr6) (T.obj _ _ st6)
   refine zb5 (hg C s2 H2 fp _ s6 τ H6 x u _ I6' r6 (step x H6 y6)) (fun _ s7 ⟨τ7,H7,I7,q7⟩=>?_) fun _ _ z=>z
   refine zb5 (ht C s2 H2 fp _ s7 τ7 H7 _ I7 q7) (fun ok s8 ⟨H8,I8,q8⟩=>?_) fun _ _ z=>z
   have again:∀{ys9:List V} {H9:Hp} {s9:Shared},Inv (X.comp N scope C s2 H2 fp) ([]++uW fp s6.heap) τ7 H9 s9→NN ys9 τ7 H9→∃m,m<n∧∃i ys τ H',Inv (X.comp N scope C s2 H2 fp) [] τ H' s9∧tn i s9.heap∧(∀b∈fp,H' b=none)∧W i m ys τ H':=fun {ys9 H9 s9} I9 n9=>by
    obtain⟨m',hm,w9⟩:=hN ys9 τ7 H9 n9
    refine⟨m',hm,i+1,ys9,τ7,H9,I9.unpinned,T.keep _ _ _ st6 fun b hb o e=>(I9.pin (b,o) (za5 _ (za5 _ (xx hb e)))).1,fun b hb=>?_,w9⟩
    obtain⟨o,e,d⟩:=T.obj _ _ st6 b hb
    exact (I9.pin (b,o) (za5 _ (za5 _ (xx hb e)))).2.1
   cases ok with
   |false=>
    have q8':NN ys τ7 H8:=by
     have z:=q8
     rw[if_neg aU] at z
     exact z
    rw[if_neg aU]
    exact again I8 q8'
   |true=>
    rw[if_pos rfl] at q8 ⊢
    refine zb5 (he C s2 H2 fp _ s8 τ7 H8 _ I8 q8) (fun v s9 ⟨y,H9,I9,r9,a9,z9,q9⟩=>?_) fun _ _ z=>z
    refine zb5 (yR (X:=X.comp N scope C s2 H2 fp) _ s9 τ7 H9 (.ref acc) [y] (.ref acc) [v] (fun _ H10=>H10=upd H9 acc (.lst (ys++[y]))) I9 rfl (.cons r9 .nil) ⟨acc,ys,y,rfl,rfl,a9,z9,rfl⟩) (fun _ s10 ⟨_,H10,I10,_,e10⟩=>?_) fun _ _ z=>z
    subst e10
    exact again I10 q9
 exact codeAny_compStart_list (loop _ rfl) (T.self X.A 0 _ _ _ (T.keep _ _ _ st2 fun b _ o e=>old b o e) (loop _ rfl))
theorem ic (hc:X.calm=true)(S:zA X.N X.env.scope N imp scope)(hi:PI X tg iter wi)(hg:∀C s2 H2 fp,PG (X.comp N scope C s2 H2 fp) tg g)(ht:∀C s2 H2 fp,xW (X.comp N scope C s2 H2 fp) ifs tt)
  (he:∀C s2 H2 fp,PE (X.comp N scope C s2 H2 fp) elt te) (hs:∀x,foldedSetIterable iter X.env x=pure x:=by intro _;rfl):
  PE X (.ListComp elt [⟨tg,iter,ifs,0⟩] scope pos) (nF wi imp g tt te):=by
 intro pins s σ H Q I h
 rw[eval_ListComp]
 refine wpAny_comprehension_free (use:=none) rfl hs (wg (wA I S)) S.kind S.locs (thn (hi pins s σ H _ I h) fun v s1 h1=>thn h1 fun itv s2 h2=>?_)
 obtain⟨it,fp,tn,J,H2,e,I2,T,st2,f2,hW⟩:=h2
 subst e
 refine uz (RR:=fun acc C=>compPost (model X.prog X.w) X.A X.xe none (EP X pins σ Q) acc C) hc S hg ht he I2 T st2 f2 hW fun a C H' s' m I' hn f q=>?_
 refine⟨m,hn,fun h' sb=>?_⟩
 obtain⟨g0,g1,g2,g3,g4,g5⟩:=f
 exact⟨.ref a,H',I'.turned (t':=s'.toks) (it:=C) (fun b o hb e=>(sb.2 b hb).trans e) g0 g1 g3 g4 g5,rfl,q⟩
theorem qv {i:Nat}{x:Str}{px:Pos}{spos:Pos}(hc:X.calm=true)(S:zA X.N X.env.scope N imp scope)(hi:PI X tg iter wi)(hg:∀C s2 H2 fp,PG (X.comp N scope C s2 H2 fp) tg g)(ht:∀C s2 H2 fp,xW (X.comp N scope C s2 H2 fp) ifs tt)
  (he:∀C s2 H2 fp,PE (X.comp N scope C s2 H2 fp) elt te) (hN:X.N.Nodup) (hx:X.N[i]?=some x) (hl:Loc X.env.scope x) (hsw:swapsWith (.ListComp elt [⟨tg,iter,ifs,0⟩] scope pos) (some (.Name x px)) spos.line X.env=pure true:=by rfl)
  (hf:X.fn x=true∨X.env.scope.names.lookup x=some .local:=by first|exact .inl rfl|exact .inr rfl|assumption) (hs:∀x,foldedSetIterable iter X.env x=pure x:=by intro _;rfl):
  PS X (.Assign [.Name x px] (.ListComp elt [⟨tg,iter,ifs,0⟩] scope pos) spos) (dU (nF wi imp g tt te) (vD i)):=by
 intro pins s σ H D I h
 rw[exec_Assign_Name_used _ _ _ _ hsw]
 refine aT (wpAny_standAt (aT ?_))
 show wpAny _ X.A (do let _ ←comprehension (.ListComp elt [⟨tg,iter,ifs,0⟩] scope pos) scope X.env _ (newList []) false (eval iter X.env) (some (assign (.Name x px) X.env))) _ _ s
 refine aT (zb5 (wpAny_comprehension_free (use:=some (assign (.Name x px) X.env)) (Q:=fun _ s'=>SP X pins D .next s') rfl hs (wg (wA I S)) S.kind S.locs (thn (hi pins s σ H _ I h) fun v s1 h1=>thn h1 fun itv s2 h2=>?_))
  (fun _ s' hq=>zb1 (zb1 hq)) fun _ _ e=>e)
 obtain⟨it,fp,tn,J,H2,e,I2,T,st2,f2,hW⟩:=h2
 subst e
 refine uz (Q:=fun x H1=>vD i x σ H1 D.nx) (RR:=fun acc C=>compPost (model X.prog X.w) X.A X.xe (some (assign (.Name x px) X.env)) (fun _ s'=>SP X pins D .next s') acc C) hc S hg ht he I2 T st2 f2 hW fun a C H' s' m I' hn f q=>?_
 show wpAny _ X.A (assign (.Name x px) X.env (.ref a)) _ _ _
 obtain⟨g0,g1,g2,g3,g4,g5⟩:=f
 refine wpAny_assign_Name (tG I' hN hx hl (show RelV (.ref a) (.ref a) from rfl) (fun s4 I4 hch=>?_) hf)
 obtain⟨ad,sb,had⟩:=hch
 have hCa:C≠ad:=by
  rcases had with e|e
  ·rw[e];exact g1
  ·exact (g4 x ad e).symm
 refine⟨m,hn.sameBut sb hCa,fun h' sb2=>?_⟩
 exact⟨_,H',I4.turned (t':=s4.toks) (it:=C) (fun b o hb e=>(sb2.2 b hb).trans e) g0 g1 g3 g4 g5,q⟩
end
mutual
inductive DV (H:Hp):V→PyData→Prop where
 |non:DV H .non .none
 |bl (b:Bool):DV H (.bl b) (.bool b)
 |int (i:Int):DV H (.int i) (.int i)
 |str (x:Str):DV H (.str x) (.str x)
 |lst {a:Addr} {xs:List V} {ds:List PyData}:H a=some (.lst xs)→DVs H xs ds→DV H (.ref a) (.list ds)
 |tup {a:Addr} {xs:List V} {ds:List PyData}:H a=some (.tup xs)→DVs H xs ds→DV H (.ref a) (.tuple ds)
inductive DVs (H:Hp):List V→List PyData→Prop where
 |nil:DVs H [] []
 |cons {x:V} {xs:List V} {d:PyData} {ds:List PyData}:DV H x d→DVs H xs ds→DVs H (x::xs) (d::ds)
end
section
variable {X:Cx}{pins:List (Addr×Obj)}{σ:St}{H:Hp}{s:Shared}
mutual
theorem DV.reads (I:Inv X pins σ H s):∀{x:V} {d:PyData} {u:Value},DV H x d→RelV x u→∃as,Reads s.heap u d as
 |_,_,u,.non,r=>by cases (show u=Value.none from r);exact⟨_,.none⟩
 |_,_,u,.bl b,r=>by cases (show u=Value.bool b from r);exact⟨_,.bool b⟩
 |_,_,u,.int i,r=>by obtain⟨t,rfl⟩:=(show ∃t,u=Value.int i t from r);exact⟨_,.int i t⟩
 |_,_,u,.str x,r=>by obtain⟨t,rfl⟩:=(show ∃t,u=Value.str x t from r);exact⟨_,.str x t⟩
 |_,_,u,.lst (a:=a) hq hs,r=>by
  cases (show u=Value.ref a from r)
  obtain⟨its,rv,p,hz⟩:=I.list (SqL.of hq)
  obtain⟨o,ho,hc,n,hd⟩:=p.isList
  obtain⟨as,ra⟩:=DVs.reads I hs rv
  exact⟨_,.list ho hc hd (by simpa using ra)⟩
 |_,_,u,.tup (a:=a) hq hs,r=>by
  cases (show u=Value.ref a from r)
  obtain⟨its,rv,p,hz⟩:=I.tuple (SqT.of hq)
  obtain⟨o,ho,hc,n,hd⟩:=p
  obtain⟨as,ra⟩:=DVs.reads I hs rv
  exact⟨_,.tuple ho hc hd (by simpa using ra)⟩
theorem DVs.reads (I:Inv X pins σ H s):∀{xs:List V} {ds:List PyData} {us:List Value},DVs H xs ds→Vals xs us→∃as,ReadsAll s.heap us ds as
 |_,_,_,.nil,.nil=>⟨_,.nil⟩
 |_,_,_,.cons h hs,.cons r rs=>by
  obtain⟨as,ra⟩:=DV.reads I h r
  obtain⟨bs,rb⟩:=DVs.reads I hs rs
  exact⟨_,.cons ra rb⟩
end
end
mutual
theorem DV.same {H H':Hp}(e:zo H H'):∀{x:V} {d:PyData},DV H x d→DV H' x d
 |_,_,.non=>.non
 |_,_,.bl b=>.bl b
 |_,_,.int i=>.int i
 |_,_,.str x=>.str x
 |_,_,.lst hq hs=>.lst (e _ _ hq) (DVs.same e hs)
 |_,_,.tup hq hs=>.tup (e _ _ hq) (DVs.same e hs)
theorem DVs.same {H H':Hp}(e:zo H H'):∀{xs:List V} {ds:List PyData},DVs H xs ds→DVs H' xs ds
 |_,_,.nil=>.nil
 |_,_,.cons h hs=>.cons (DV.same e h) (DVs.same e hs)
end
theorem DVs.length {H:Hp}:∀{xs:List V} {ds:List PyData},DVs H xs ds→xs.length=ds.length
 |_,_,.nil=>rfl
 |_,_,.cons _ hs=>by rw[aW,aW,DVs.length hs]
def tyD :PyData→String
 |.none=>"NoneType"
 |.bool _=>"bool"
 |.int _=>"int"
 |.str _=>"str"
 |.list _=>"list"
 |.tuple _=>"tuple"
 |.dict _=>"dict"
theorem DV.ty {K:PySem.W.Frag}{H:Hp}{x:V}{d:PyData}(h:DV H x d):wK K H x (.type (tyD d)):=by
 cases h with
 |non=>exact .non
 |bl b=>exact .bl b
 |int i=>exact .int i
 |str x=>exact .str x
 |lst e _=>exact .lst e
 |tup e _=>exact .tup e
def isInt :PyData→Bool
 |.int _=>true
 |.bool _=>true
 |_=>false
def isBool :PyData→Bool
 |.bool _=>true
 |_=>false
def isStr :PyData→Bool
 |.str _=>true
 |_=>false
def isList :PyData→Bool
 |.list _=>true
 |_=>false
def ng :PyData→Bool
 |.tuple _=>true
 |_=>false
def vQ (T:String)(d:PyData):Option Bool:=
 if T="int" then some (isInt d) else if T="bool" then some (isBool d) else if T="str" then some (isStr d) else if T="list" then some (isList d) else if T="tuple" then some (ng d) else none
def dG (t T:String):Option Bool:=if (Value.type t == Value.type T)=true then some true else if PySem.W.kitMeta T=true then (fastBuiltinMro t).map (·.contains (Value.type T)) else none
theorem lS (K:PySem.W.Frag)(t T:String):PySem.W.kitOne K (.type t) (.type T)=dG t T:=rfl
theorem jR :(["NoneType","bool","int","str","list","tuple"].all fun t=>["int","bool","str","list","tuple"].all fun T=>
  dG t T == some (if T="int" then t == "int"||t == "bool" else t == T))=true:=by decide +kernel
theorem br (K:PySem.W.Frag){H:Hp}{x:V}{d:PyData}(h:DV H x d){T:String}{b:Bool}(e:vQ T d=some b):PySem.W.kitOne K (.type (tyD d)) (.type T)=some b:=by
 rw[lS]
 have key:∀t∈["NoneType","bool","int","str","list","tuple"],∀T∈["int","bool","str","list","tuple"],dG t T=some (if T="int" then t == "int"||t == "bool" else t == T):=fun t ht T hT=>
  eq_of_beq (zf6.mp (zf6.mp jR t ht) T hT)
 have hd:tyD d∈["NoneType","bool","int","str","list","tuple"]:=by cases h<;>simp[tyD]
 unfold vQ at e
 split at e
 ·rename_i eT
  subst eT
  rw[key _ hd "int" (by decide)]
  cases e
  cases h<;>rfl
 ·split at e
  ·rename_i eT
   subst eT
   rw[key _ hd "bool" (by decide)]
   cases e
   cases h<;>rfl
  ·split at e
   ·rename_i eT
    subst eT
    rw[key _ hd "str" (by decide)]
    cases e
    cases h<;>rfl
   ·split at e
    ·rename_i eT
     subst eT
     rw[key _ hd "list" (by decide)]
     cases e
     cases h<;>rfl
    ·split at e
     ·rename_i eT
      subst eT
      rw[key _ hd "tuple" (by decide)]
      cases e
      cases h<;>rfl
     ·cases e
section
variable {X:Cx}
def bG :R2:=fun x y H Q=>∃d e,DV H x d∧DV H y e∧SeqAt.shaped d=true∧SeqAt.shaped e=true∧Q (.bl (PyData.eqv d e)) H
def cK :R2:=fun x y H Q=>∃d e,DV H x d∧DV H y e∧SeqAt.shaped d=true∧SeqAt.shaped e=true∧Q (.bl (!PyData.eqv d e)) H
theorem xQ (hu:X.A.units+64<cLine):OpR X (compareOp .Eq) bG:=by
 intro pins s σ H x y v u Q I rx ry h
 obtain⟨d,e,hd,he,sd,se,q⟩:=h
 obtain⟨as,ra⟩:=hd.reads I rx
 obtain⟨bs,rb⟩:=he.reads I ry
 exact SeqAt.compareEq_shaped ra rb sd se hu ⟨.bl _,H,I,rfl,q⟩
theorem cb (hu:X.A.units+64<cLine):OpR X (compareOp .NotEq) cK:=by
 intro pins s σ H x y v u Q I rx ry h
 obtain⟨d,e,hd,he,sd,se,q⟩:=h
 obtain⟨as,ra⟩:=hd.reads I rx
 obtain⟨bs,rb⟩:=he.reads I ry
 exact SeqAt.compareNe_shaped ra rb sd se hu ⟨.bl _,H,I,rfl,q⟩
theorem ko :xr X (.builtin "isinstance") (fun xs H Q=>∃x T t b,xs=[x,.ty T]∧wK X.K H x t∧PySem.W.kitOne X.K t (.type T)=some b∧Q (.bl b) H):=by
 intro pins s σ H xs us Q I r h
 obtain⟨x,T,t,b,rfl,ty,e,q⟩:=h
 obtain⟨u,v,rfl,rx,ry⟩:=Vals.two r
 cases (show v=Value.type T from ry)
 exact mC I rx ty e fun tk=>⟨.bl b,H,I.tok tk,rfl,q⟩
theorem yS :xr X (.builtin "isinstance") (fun xs H Q=>∃x T d b,xs=[x,.ty T]∧DV H x d∧vQ T d=some b∧Q (.bl b) H):=by
 intro pins s σ H xs us Q I r h
 obtain⟨x,T,d,b,e,hd,ht,q⟩:=h
 exact ko pins s σ H xs us Q I r ⟨x,T,_,b,e,hd.ty,br X.K hd ht,q⟩
def bf (i j:Int):Prop:=0<j∧j.natAbs.log2<9000
theorem ui :OpR X (binaryOp .FloorDiv) (rI bf fun i j=>.int (i / j)):=opI fun i j _ _ _ _ _ hc q=>by
 have h1:(0:Int)<j:=hc.1
 refine floordiv_int (Int.ne_of_gt h1) ?_ (.inl (PyProof.noPylong_of_log2 hc.2))
 rw[Int.fdiv_eq_ediv_of_nonneg _ (Int.le_of_lt h1)]
 exact q
abbrev big :Int:=115792089237316195423570985008687907853269984665640564039457584007913129639936
theorem log2_small {j:Int}(h0:0<j)(h:j<big):j.natAbs.log2<9000:=by
 have hn:j.natAbs≠0:=by omega
 have h2:j.natAbs<2 ^ 256:=by
  have e:(2:Nat) ^ 256=115792089237316195423570985008687907853269984665640564039457584007913129639936:=by decide +kernel
  rw[e]
  unfold big at h
  omega
 have h3:j.natAbs.log2<256:=(Nat.log2_lt hn).mpr h2
 omega
def vf (lo:Int)(n:Nat):List Int:=(List.range n).map fun i=>lo+(i:Nat)
theorem yt (lo:Int)(n:Nat):(vf lo n).length=n:=by simp[vf]
theorem uQ {lo:Int}{n i:Nat}(h:i<n):(vf lo n)[i]?=some (lo+(i:Nat)):=by simp[vf,h]
theorem lR {bs:List Bool}:∀{us:List Value},Vals (bs.map V.bl) us→LSm.BoolsAre us bs:=by
 induction bs with
 |nil=>intro us h;cases h;exact .nil
 |cons b bs ih=>
  intro us h
  cases h with
  |cons r rr=>
   cases (show _=Value.bool b from r)
   exact .cons b (ih rr)
end
def jU (X:Cx)(body:List Stmt):TS:=fun D σ H=>∃t,PSs X body t∧t D σ H
theorem zK {X:Cx}{body:List Stmt}:PSs X body (jU X body):=fun pins s σ H D I ⟨t,p,q⟩=>p pins s σ H D I q
theorem zy {X:Cx}{st:Stmt}{rest:List Stmt}{D:Ends}{σ:St}{H:Hp}(M:St→Hp→Prop)(h1:∃t,PS X st t∧t {D with nx:=M} σ H)(h2:∀σ' H',M σ' H'→∃t,PSs X rest t∧t D σ' H'):
  ∃t,PSs X (st::rest) t∧t D σ H:=by
 obtain⟨t1,p1,q1⟩:=h1
 refine⟨fun D' σ' H'=>D'=D∧σ'=σ∧H'=H,?_,rfl,rfl,rfl⟩
 intro pins s σ' H' D' I h
 obtain⟨e1,e2,e3⟩:=h
 subst e1 e2 e3
 have step:PSs X (st::rest) (cR t1 fun D2 σ2 H2=>D2=D'∧M σ2 H2):=zE p1 fun pins s σ2 H2 D2 I2 ⟨e,m⟩=>by
  subst e
  obtain⟨t2,p2,q2⟩:=h2 σ2 H2 m
  exact p2 pins s σ2 H2 _ I2 q2
 refine step pins s _ _ _ I ?_
 show t1 {D' with nx:=fun σ2 H2=>D'=D'∧M σ2 H2} _ _
 have e:(fun (σ2:St) (H2:Hp)=>D'=D'∧M σ2 H2)=M:=by
  funext σ2 H2
  exact propext ⟨fun z=>z.2,fun z=>⟨rfl,z⟩⟩
 rw[e]
 exact q1
theorem lI {K:PySem.W.Frag}{a acc:Addr}{xs:List V}{g:TG}{tt:TT}{te:TE}{Q:VK}{τ0:St}{H0:Hp}(Pv:Nat→List V→St→Hp→Prop)(h0:Pv 0 [] τ0 H0)(hl:∀i ys τ H,i≤xs.length→Pv i ys τ H→SqL K H a xs)
  (hs:∀i x ys τ H,xs[i]?=some x→Pv i ys τ H→g x τ H fun τ2 H4=>tt τ2 H4 fun c H5=>
   if c=true then te τ2 H5 fun y H6=>H6 acc=some (.lst ys)∧ys.length<sizeLine∧Pv (i+1) (ys++[y]) τ2 (upd H6 acc (.lst (ys++[y]))) else Pv (i+1) ys τ2 H5)
  (hd:∀ys τ H,Pv xs.length ys τ H→Q (.ref acc) H):
  sP (Itl K a) acc g tt te τ0 H0 Q:=by
 refine⟨fun i m ys τ H=>m=xs.length-i∧i≤xs.length∧Pv i ys τ H,⟨xs.length,by simp,aS _,h0⟩,?_⟩
 rintro i m ys τ H ⟨rfl,hi,p⟩
 have q:=hl i ys τ H hi p
 by_cases hlt:i<xs.length
 ·refine .inr ⟨⟨xs,xs[i],q,by simp[hlt]⟩,Pv (i+1),fun ys' τ' H' p'=>⟨xs.length-(i+1),by omega,rfl,hlt,p'⟩,fun x H' y=>?_⟩
  obtain⟨e,y⟩:=y
  subst e
  exact hs i x ys τ _ (y xs q) p
 ·have e:i=xs.length:=by omega
  subst e
  exact .inl ⟨⟨xs,q,aN _⟩,hd ys τ H p⟩
theorem at0 {α:Type}{x:α}{xs:List α}:atI (x::xs) 0=some x:=xk (j:=0) rfl
theorem ix0 {α:Type}{x:α}{xs:List α}:ixN (x::xs).length 0=some 0:=by
 unfold ixN
 rw[if_pos (ze4 _),if_pos (by rw[aW];omega)]
 rfl
theorem az {α:Type}{x:α}{xs:List α}:seqIndex? 0 (x::xs).length=some 0:=(rE ix0).1
theorem kN (ns:List Int)(lo hi:Option Int):∃ms:List Int,rQ (ns.map V.int) lo hi=ms.map V.int∧ms.length≤ns.length:=by
 refine⟨(ns.drop (HT.sIx (ns.map V.int).length 0 lo)).take (HT.sIx (ns.map V.int).length (ns.map V.int).length hi-HT.sIx (ns.map V.int).length 0 lo),?_,?_⟩
 ·unfold rQ
  rw[List.map_take,List.map_drop]
 ·rw[zc6,zf5]
  omega
structure yr (H:Hp)(t b c:Addr):Prop where
 ex:∃(n:Int) (bs cs:List Int),b≠c∧H t=some (.lst [.ref b,.ref c,.int n])∧H b=some (.lst (bs.map V.int))∧H c=some (.lst (cs.map V.int))∧bs.length≤63∧cs.length≤63
theorem nu {b c:Addr}{n:Int}(bs:List Int):HO.lst [.ref b,.ref c,.int n]≠HO.lst (bs.map V.int):=by
 intro z
 injection z with z
 cases bs with
 |nil=>cases z
 |cons x r=>cases z
def sZ (t b:Addr)(H H':Hp):Prop:=∀a,a≠t→a≠b→H' a=H a
theorem sZ.trans {t b:Addr}{H H1 H2:Hp}(h:sZ t b H H1)(k:sZ t b H1 H2):sZ t b H H2:=fun a h1 h2=>(k a h1 h2).trans (h a h1 h2)
def ox (K:PySem.W.Frag):Sp:=fun vs H Q _=>∃(a:Addr) (ns:List Int),vs=[.ref a]∧SqL K H a (ns.map V.int)∧ns.length≤63∧
 ∀(t b c:Addr) (H':Hp),yr H' t b c→H t=none→H b=none→H c=none→zo H H'→Q (.ref t) H'
def lZ :Sp:=fun vs H Q _=>∃(t b c:Addr) (many:Int),vs=[.ref t,.int many]∧yr H t b c∧0<many∧many<big∧
 ∀(v:Int) (H':Hp),0≤v→v<many→yr H' t b c→sZ t b H H'→Q (.int v) H'
theorem yr.free {H:Hp}{t b c l:Addr}(T:yr H t b c)(h:H l=none):l≠t∧l≠b∧l≠c:=by
 obtain⟨n,bs,cs,n1,e1,e2,e3,l1,l2⟩:=T.ex
 exact⟨(zd e1 h).symm,(zd e2 h).symm,(zd e3 h).symm⟩
theorem yr.off {H H':Hp}{t b c:Addr}(T:yr H t b c)(h:∀a,a=t∨a=b∨a=c→H' a=H a):yr H' t b c:=by
 obtain⟨n,bs,cs,n1,e1,e2,e3,l1,l2⟩:=T.ex
 exact⟨n,bs,cs,n1,by rw[h t (.inl rfl)];exact e1,by rw[h b (.inr (.inl rfl))];exact e2,by rw[h c (.inr (.inr rfl))];exact e3,l1,l2⟩
theorem kQ {H:Hp}{t b c l:Addr}{o:HO}(T:yr H t b c)(h:l≠t∧l≠b∧l≠c):yr (upd H l o) t b c:=
 T.off fun a ha=>zc (ha.elim (fun e=>e▸h.1.symm) fun ha=>ha.elim (fun e=>e▸h.2.1.symm) fun e=>e▸h.2.2.symm)
theorem mn {H H':Hp}{t b c:Addr}(T:yr H t b c)(s:zo H H'):yr H' t b c:=by
 obtain⟨n,bs,cs,n1,e1,e2,e3,l1,l2⟩:=T.ex
 exact⟨n,bs,cs,n1,s _ _ e1,s _ _ e2,s _ _ e3,l1,l2⟩
theorem yo {H:Hp}{p:Addr}{o:HO}(h:H p=none):zo H (upd H p o):=fun b u e=>by rw[zc (zd e h)];exact e
def ux (x:Addr):Prop:=False
def TabAt (H:Hp):Prop:=True
def Plain (H:Hp)(l:Addr):Prop:=True
theorem qD {H H':Hp}(T:TabAt H)(h:∀a o,(∀xs,o≠.lst xs)→H a=some o→H' a=some o):TabAt H':=trivial
theorem gE {H:Hp}{l:Addr}{o:HO}(T:TabAt H)(h:Plain H l):TabAt (upd H l o):=trivial
theorem rm {H:Hp}{x:Addr}(T:TabAt H)(h:ux x):∃o,H x=some o∧(∀ts,o≠.tup ts)∧∀xs,o≠.lst xs:=h.elim
theorem xq {H:Hp}{l:Addr}{xs:List V}(h:H l=some (.lst xs)):Plain H l:=trivial
theorem kH {H:Hp}{l:Addr}{xs:List (Key×V)}(h:H l=some (.dK xs)):Plain H l:=trivial
theorem lG {H:Hp}{l C dx:Addr}{fs:List (Str×V)}(h:H l=some (.ins C dx fs)):Plain H l:=trivial
theorem wR {H:Hp}{l:Addr}(T:TabAt H)(h:H l=none):¬ux l:=fun z=>by
 obtain⟨o,e,_⟩:=rm T z
 rw[h] at e;cases e
theorem gP {H H':Hp}{t b:Addr}{xs ys:List V}(T:TabAt H)(ht:H t=some (.lst xs))(hb:H b=some (.lst ys))(off:sZ t b H H'):TabAt H':=qD T fun a o no e=>by
 have n1:a≠t:=fun z=>by rw[z,ht] at e;cases e;exact no _ rfl
 have n2:a≠b:=fun z=>by rw[z,hb] at e;cases e;exact no _ rfl
 rw[off a n1 n2];exact e
theorem jP {H H':Hp}(T:TabAt H)(h:zo H H'):TabAt H':=qD T fun a o _ e=>h a o e
def qh (K:PySem.W.Frag):Sp:=fun vs H Q _=>∃(a:Addr) (ns:List Int),vs=[.ref a]∧SqL K H a (ns.map V.int)∧ns.length≤63∧TabAt H∧∀H',Q (.bl true) H'
structure dO (mg:Str→Option Value):Prop where
 abs:mg "abs"=none
 list:mg "list"=none
 len:mg "len"=none
theorem gB (d:PyData):vQ "int" d=some (isInt d):=by unfold vQ;rw[if_pos rfl]
theorem uF (d:PyData):vQ "bool" d=some (isBool d):=by unfold vQ;rw[if_neg (by decide),if_pos rfl]
theorem rS (d:PyData):vQ "list" d=some (isList d):=by unfold vQ;rw[if_neg (by decide),if_neg (by decide),if_neg (by decide),if_pos rfl]
theorem va (d:PyData):vQ "tuple" d=some (ng d):=by unfold vQ;rw[if_neg (by decide),if_neg (by decide),if_neg (by decide),if_neg (by decide),if_pos rfl]
structure zL (n:Nat)(d:PyData):Prop where
 shw:d.showable=true
 nod:d.hasDict=false
 dep:d.depth≤8
 len:d.shown.length≤n
 lay:d.canLay0=true
theorem zL.mono {m n:Nat}{d:PyData}(h:zL m d)(e:m≤n):zL n d:=⟨h.shw,h.nod,h.dep,zb4 h.len e,h.lay⟩
theorem vM :∀(ts:List Str) (k:Nat) (acc:Str),(textFrom k acc ts).length≤acc.length+piled ts
 |[],_,acc=>by rw[piled_nil];exact aN _
 |t::r,k,acc=>by
  have h:=vM r (k+1) (acc++(if k > 0 then ", " else "":String)++t)
  rw[piled_cons]
  have e2:(Str.ofString (if k > 0 then ", " else "":String)).length≤2:=by
   split
   ·exact zi3 rfl
   ·exact aS _
  have e3:=zh8 (acc++Str.ofString (if k > 0 then ", " else "":String)) t
  have e4:=zh8 acc (Str.ofString (if k > 0 then ", " else "":String))
  show (textFrom (k+1) (acc++Str.ofString (if k > 0 then ", " else "":String)++t) r).length≤_
  have h':(textFrom (k+1) (acc++Str.ofString (if k > 0 then ", " else "":String)++t) r).length≤(acc++Str.ofString (if k > 0 then ", " else "":String)++t).length+piled r:=h
  omega
theorem qE (ts:List Str):(listText ts).length≤piled ts+2:=by
 unfold listText
 rw[zh8]
 have h:=vM ts 0 (Str.ofString "[")
 have e1:(Str.ofString "[").length=1:=rfl
 have e2:(Str.ofString "]").length=1:=rfl
 show (textFrom 0 (Str.ofString "[") ts).length+(Str.ofString "]").length≤_
 omega
theorem rF (ts:List Str):(tupleText ts).length≤piled ts+3:=by
 cases ts with
 |nil=>decide +kernel
 |cons t r=>
  have h:=join_length_add (t::r) (by simp)
  unfold tupleText
  rw[zh8,zh8]
  have e1:(Str.ofString "(").length=1:=rfl
  have e2:(Str.ofString (if (t::r).length == 1 then ",)" else ")":String)).length≤2:=by
   split
   ·exact zi3 rfl
   ·exact zd5 (show 1<2 by decide)
  show (Str.ofString "(").length+(Str.join ", " (t::r)).length+(Str.ofString (if (t::r).length == 1 then ",)" else ")":String)).length≤_
  omega
theorem xH {n:Nat}:∀(ds:List PyData),(∀d∈ds,zL n d)→piled (PyData.shownAll ds)≤ds.length*(n+2)
 |[],_=>aS _
 |d::r,h=>by
  have h1:=(h d aJ).len
  have h2:=xH r fun e he=>h e (aK _ he)
  show piled (d.shown::PyData.shownAll r)≤_
  rw[piled_cons,aW,Nat.succ_mul]
  omega
structure yg (n:Nat)(ds:List PyData):Prop where
 all:∀d∈ds,zL n d
 dep:∀d∈ds,d.depth≤7
theorem yg.parts {n:Nat}:∀{ds:List PyData},yg n ds→PyData.showableAll ds=true∧PyData.hasDictAll ds=false∧PyData.depthAll ds≤7∧PyData.canLayAll0 ds=true
 |[],_=>⟨rfl,rfl,aS _,rfl⟩
 |d::r,h=>by
  obtain⟨a,b,c,e⟩:=yg.parts (ds:=r) ⟨fun x hx=>h.all x (aK _ hx),fun x hx=>h.dep x (aK _ hx)⟩
  have hd:=h.all d aJ
  have hp:=h.dep d aJ
  refine⟨?_,?_,?_,?_⟩
  ·simp only[PyData.showableAll,hd.shw,a,Bool.and_self]
  ·simp only[PyData.hasDictAll,hd.nod,b,Bool.or_self]
  ·simp only[PyData.depthAll];omega
  ·simp only[PyData.canLayAll0,hd.lay,e,Bool.and_self]
theorem zL.list {n m:Nat}{ds:List PyData}(h:yg n ds)(e:ds.length*(n+2)+2≤m):zL m (.list ds):=by
 obtain⟨a,b,c,f⟩:=h.parts
 refine⟨by simp only[PyData.showable,a],by simp only[PyData.hasDict,b],by simp only[PyData.depth];omega,?_,by simp only[PyData.canLay0,f]⟩
 show (listText (PyData.shownAll ds)).length≤m
 have h1:=qE (PyData.shownAll ds)
 have h2:=xH ds h.all
 omega
theorem zL.tuple {n m:Nat}{ds:List PyData}(h:yg n ds)(e:ds.length*(n+2)+3≤m):zL m (.tuple ds):=by
 obtain⟨a,b,c,f⟩:=h.parts
 refine⟨by simp only[PyData.showable,a],by simp only[PyData.hasDict,b],by simp only[PyData.depth];omega,?_,by simp only[PyData.canLay0,f]⟩
 show (tupleText (PyData.shownAll ds)).length≤m
 have h1:=rF (PyData.shownAll ds)
 have h2:=xH ds h.all
 omega
theorem je {i:Int}(h0:-big<i)(h1:i<big):i.natAbs.log2<1920:=by
 by_cases hn:i.natAbs=0
 ·rw[hn];decide
 ·have h2:i.natAbs<2 ^ 256:=by
   have e:(2:Nat) ^ 256=115792089237316195423570985008687907853269984665640564039457584007913129639936:=by decide +kernel
   rw[e]
   unfold big at h0 h1
   omega
  have h3:i.natAbs.log2<256:=(Nat.log2_lt hn).mpr h2
  omega
theorem zL.int {i:Int}(h0:-big<i)(h1:i<big):zL 2000 (.int i):=by
 have hl:=je h0 h1
 refine⟨by simp only[PyData.showable,aZ];exact hl,rfl,aS _,?_,rfl⟩
 have:=int_text_len_1921 hl
 show (Str.ofString (toString i)).length≤2000
 omega
theorem zL.none :zL 2000 .none:=⟨rfl,rfl,aS _,by decide +kernel,rfl⟩
theorem zL.bool (b:Bool):zL 2000 (.bool b):=⟨rfl,rfl,aS _,by cases b<;>decide +kernel,rfl⟩
theorem zL.shaped {n:Nat}{d:PyData}(h:zL n d):SeqAt.shaped d=true:=by
 unfold SeqAt.shaped
 rw[h.lay,zb3,aZ]
 have:=h.dep
 omega
section
variable {X:Cx}
theorem lA (hg:X.A.guards=some [])(hu:X.A.units+64<cLine):xr X (.builtin "repr") (fun xs H Q=>∃x d,xs=[x]∧DV H x d∧zL sizeLine d∧Q (.str d.shown) H):=by
 intro pins s σ H xs us Q I r h
 obtain⟨x,d,rfl,hd,N,q⟩:=h
 obtain⟨u,rfl,rx⟩:=Vals.one r
 have big':∀{a:Addr},u=Value.ref a→wpAny (model X.prog X.w) X.A (call (.builtin "repr") [u]) (EP X pins σ Q) X.xe s:=fun {a} e=>by
  obtain⟨as,rd⟩:=hd.reads I rx
  subst e
  refine repr_of_reads' rd N.shw (PyData.noDict_hsm N.nod) hg (by have:=N.dep;omega) (fun _ _ e=>e) (fun h' t tk hk=>?_) N.len
  exact⟨.str d.shown,H,I.kept hk,⟨t,rfl⟩,q⟩
 cases hd with
 |non=>cases (show u=Value.none from rx);exact P.repr_of_none ⟨.str _,H,I.tok _,⟨_,rfl⟩,q⟩
 |bl b=>cases (show u=Value.bool b from rx);exact P.repr_of_bool ⟨.str _,H,I.tok _,⟨_,rfl⟩,q⟩
 |int i=>
  obtain⟨t,rfl⟩:=(show ∃t,u=Value.int i t from rx)
  have hs:i.natAbs.log2<1920:=by
   have:=N.shw
   simpa only[PyData.showable,aZ] using this
  exact P.repr_of_int hs ⟨.str _,H,I.tok _,⟨_,rfl⟩,q⟩
 |str y=>
  obtain⟨t,rfl⟩:=(show ∃t,u=Value.str y t from rx)
  exact P.repr_of_str ⟨.str _,H,I.tok _,⟨_,rfl⟩,q⟩ N.len
 |lst e _=>exact big' rx
 |tup e _=>exact big' rx
theorem my {s:Shared}{h':Heap}{o:Obj}{q:Addr}(hq:q=s.heap.objs.size)(hk:∀b x,b∉[q]→(s.heap.push o).get? b=some x→h'.get? b=some x):∀b x,s.heap.get? b=some x→h'.get? b=some x:=fun b x e=>by
 refine hk b x (fun hm=>?_) (aR _ e)
 have e2:b=q:=by simpa using hm
 rw[e2,hq] at e
 exact ze9 _ (aQ e)
theorem lq (hc:X.calm=true):xr X (.builtin "all") (fun xs H Q=>∃(p:Addr) (bs:List Bool),xs=[.ref p]∧H p=some (.lst (bs.map V.bl))∧Q (.bl (bs.all id)) H):=by
 intro pins s σ H xs us Q I r h
 obtain⟨p,bs,rfl,hp,q⟩:=h
 obtain⟨u,rfl,rx⟩:=Vals.one r
 cases (show u=Value.ref p from rx)
 obtain⟨its,rv,pl,hz⟩:=I.list (SqL.of hp)
 have hB:=lR rv
 have hL:=pl.isList
 have hlt:p<s.heap.objs.size:=I.hok.lt hp
 refine call_all_walk (wpAny_pyIter_list hL ⟨s.heap.objs.size,[s.heap.objs.size,p],[s.heap.objs.size],its.toArray.size,_,_,fun i=>(bs[i]?).getD true,rfl,
  Walks.list (A:=X.A.in1) (I.ok.hd hc) _ p (za1 hlt) its.toArray,⟨⟨_,zb2 _ rfl,rfl,rfl⟩,hL.push _⟩,fun i v s' Q' E' hP hQ=>?_,fun h' tk hk=>?_⟩)
 ·obtain⟨b,eb,rfl⟩:=hB.get i v (by simpa using hP)
  dsimp only at hQ
  rw[eb] at hQ
  exact zc7 hQ
 ·have ee:((List.range its.toArray.size).all fun i=>(bs[i]?).getD true)=bs.all id:=by
   rw[aO,hB.length]
   exact LSm.range_all bs
  rw[ee]
  exact⟨.bl _,H,I.kept (t':=tk) (my rfl hk),rfl,q⟩
end
def oi :PyData→Bool
 |.int _=>true
 |_=>false
def yf (lo hi:Int):PyData→Bool
 |.int i=>decide (lo≤i)&&decide (i≤hi)
 |_=>false
def pairD :PyData→Bool
 |.tuple ds=>decide ((ds.length:Int)=2)
 |_=>false
abbrev wW :PyData→Bool:=yf 0 1000000
def uM :PyData→Bool
 |.tuple [a,b]=>wW a&&wW b
 |_=>false
def tq :PyData→Option Int
 |.tuple [.int a,.int b]=>if wW (.int a)&&wW (.int b) then some (b-a) else none
 |_=>none
def yh (d:PyData):Bool:=match tq d with
 |some k=>decide (0≤k)
 |none=>false
theorem nW (d:PyData):oi d=(isInt d&&!isBool d):=by cases d<;>rfl
theorem vL {d:PyData}(h:pairD d=true):∃a b,d=.tuple [a,b]:=by
 cases d with
 |tuple ds=>
  have h':(ds.length:Int)=2:=of_decide_eq_true h
  match ds,h' with
  |[a,b],_=>exact⟨a,b,rfl⟩
  |[],z=>simp at z
  |[_],z=>simp at z
  |_::_::_::_,z=>simp at z;omega
 |_=>cases h
theorem uk (d:PyData):uM d=(tq d).isSome:=by
 unfold uM tq
 split
 ·rename_i a b
  cases a with
  |int i=>
   cases b with
   |int j=>
    show (wW (.int i)&&wW (.int j))=_
    cases e:(wW (.int i)&&wW (.int j))<;>simp[e]
   |_=>simp[yf]
  |_=>simp[yf]
 ·rename_i h
  split
  ·rename_i a b
   exact absurd rfl (h (.int a) (.int b))
  ·rfl
theorem pJ {d:PyData}(h:uM d=true):∃a b:Int,d=.tuple [.int a,.int b]∧tq d=some (b-a):=by
 rw[uk] at h
 unfold tq at h ⊢
 split at h
 ·rename_i a b
  split at h
  ·rename_i hc
   exact⟨a,b,rfl,by simp[hc]⟩
  ·cases h
 ·cases h
def yu (g:PyData→Bool):Sp:=fun vs H Q _=>∃x d,vs=[x]∧DV H x d∧Q (.bl (g d)) H
def xV :Sp:=fun vs H Q _=>∃x d lo hi,vs=[x,.int lo,.int hi]∧DV H x d∧Q (.bl (yf lo hi d)) H
theorem fg {n:Nat}:decide (V.int (n:Int)=V.int 2)=decide ((n:Int)=2):=by simp
noncomputable def sub (p:Addr→Prop)(H:Hp):Hp:=fun a=>open Classical in if p a then H a else none
theorem zf {p:Addr→Prop}{H:Hp}{a:Addr}{o:HO}(h:sub p H a=some o):p a∧H a=some o:=by
 unfold sub at h
 split at h
 ·rename_i hp;exact⟨hp,h⟩
 ·cases h
theorem zv {p:Addr→Prop}{H:Hp}{a:Addr}{o:HO}(hp:p a)(h:H a=some o):sub p H a=some o:=by
 unfold sub
 rw[if_pos hp]
 exact h
theorem zm {p q:Addr→Prop}{H H':Hp}(h:∀a o,p a→H a=some o→q a∧H' a=some o):zo (sub p H) (sub q H'):=fun a o e=>by
 obtain⟨hp,he⟩:=zf e
 obtain⟨hq,he'⟩:=h a o hp he
 exact zv hq he'
theorem yw {p:Addr→Prop}{H:Hp}:zo (sub p H) H:=fun _ _ e=>(zf e).2
theorem yg.snoc {n:Nat}{ds:List PyData}{d:PyData}(h:yg n ds)(hd:zL n d)(hp:d.depth≤7):yg n (ds++[d]):=
 ⟨fun e he=>(za8.mp he).elim (h.all e) fun z=>by rw[aV.mp z];exact hd,fun e he=>(za8.mp he).elim (h.dep e) fun z=>by rw[aV.mp z];exact hp⟩
theorem yg.nil {n:Nat}:yg n []:=⟨fun d hd=>by simp at hd,fun d hd=>by simp at hd⟩
theorem yg.two {n:Nat}{d e:PyData}(hd:zL n d)(he:zL n e)(h1:d.depth≤7)(h2:e.depth≤7):yg n [d,e]:=(yg.nil.snoc hd h1).snoc he h2
theorem rT {n:Nat}:∀{ds:List PyData},(∀d∈ds,d.depth≤n)→PyData.depthAll ds≤n
 |[],_=>aS _
 |d::r,h=>by
  have h1:=h d aJ
  have h2:=rT (ds:=r) fun e he=>h e (aK _ he)
  simp only[PyData.depthAll]
  omega
section
variable {X:Cx}{e:Expr}{es:List Expr}
def vP (X:Cx)(e:Expr):TE:=fun σ H Q=>∃t,PE X e t∧t σ H Q
theorem zi :PE X e (vP X e):=fun pins s σ H Q I ⟨t,p,q⟩=>p pins s σ H Q I q
def cT (X:Cx)(e:Expr):TT:=fun σ H Q=>∃t,PT X e t∧t σ H Q
theorem xj :PT X e (cT X e):=fun pins s σ H Q I ⟨t,p,q⟩=>p pins s σ H Q I q
def bx (X:Cx)(es:List Expr):TA:=fun σ H Q=>∃t,PA X es t∧t σ H Q
theorem yJ :PA X es (bx X es):=fun pos pins s σ H Q I ⟨t,p,q⟩=>p pos pins s σ H Q I q
end
def ly :Key→PyData
 |.inl i=>.int i
 |.inr x=>.str x
def xcO (a C:Addr)(d:Option Addr):HO:=.ext fun h=>∃o vs,h.get? a=some o∧o.cls=.ref C∧o.dict=d∧o.data=.fields vs
mutual
inductive AV (H:Hp):V→PyData→Prop where
 |non:AV H .non .none
 |bl (b:Bool):AV H (.bl b) (.bool b)
 |int (i:Int):AV H (.int i) (.int i)
 |str (x:Str):AV H (.str x) (.str x)
 |lst {a:Addr} {xs:List V} {ds:List PyData}:H a=some (.lst xs)→AVs H xs ds→AV H (.ref a) (.list ds)
 |tup {a:Addr} {xs:List V} {ds:List PyData}:H a=some (.tup xs)→AVs H xs ds→AV H (.ref a) (.tuple ds)
 |ins {a C dx:Addr} {fs:List (Str×V)} {ds:List (PyData×PyData)}:H a=some (.ins C dx fs)→AVf H fs ds→AV H (.ref a) (.dict ((.int (C:Nat),.none)::ds))
 |dk {a:Addr} {o:Obj} {kvs:List (Key×V)} {ds:List (PyData×PyData)}:H a=some (.frz o (.dK kvs))→AVk H kvs ds→AV H (.ref a) (.dict ((.none,.none)::ds))
 |dt {a:Addr} {o:Obj} {kvs:List (List Key×V)} {ds:List (PyData×PyData)}:H a=some (.frz o (.dT kvs))→AVt H kvs ds→AV H (.ref a) (.dict ((.none,.bool true)::ds))
 |xc {a C dx:Addr} {fs:List (Str×V)} {ds:List (PyData×PyData)}:H a=some (xcO a C (some dx))→H dx=some (.xd fs)→AVf H fs ds→AV H (.ref a) (.dict ((.int (C:Nat),.bool true)::ds))
 |xn {a C:Addr}:H a=some (xcO a C none)→AV H (.ref a) (.dict [(.int (C:Nat),.bool false)])
inductive AVs (H:Hp):List V→List PyData→Prop where
 |nil:AVs H [] []
 |cons {x:V} {xs:List V} {d:PyData} {ds:List PyData}:AV H x d→AVs H xs ds→AVs H (x::xs) (d::ds)
inductive AVf (H:Hp):List (Str×V)→List (PyData×PyData)→Prop where
 |nil:AVf H [] []
 |cons {f:Str} {x:V} {fs:List (Str×V)} {d:PyData} {ds:List (PyData×PyData)}:AV H x d→AVf H fs ds→AVf H ((f,x)::fs) ((.str f,d)::ds)
inductive AVk (H:Hp):List (Key×V)→List (PyData×PyData)→Prop where
 |nil:AVk H [] []
 |cons {k:Key} {x:V} {fs:List (Key×V)} {d:PyData} {ds:List (PyData×PyData)}:AV H x d→AVk H fs ds→AVk H ((k,x)::fs) ((ly k,d)::ds)
inductive AVt (H:Hp):List (List Key×V)→List (PyData×PyData)→Prop where
 |nil:AVt H [] []
 |cons {k:List Key} {x:V} {fs:List (List Key×V)} {d:PyData} {ds:List (PyData×PyData)}:AV H x d→AVt H fs ds→AVt H ((k,x)::fs) ((.tuple (k.map ly),d)::ds)
end
mutual
theorem AV.same {H H':Hp}(e:zo H H'):∀{x:V} {d:PyData},AV H x d→AV H' x d
 |_,_,.non=>.non
 |_,_,.bl b=>.bl b
 |_,_,.int i=>.int i
 |_,_,.str x=>.str x
 |_,_,.lst hq hs=>.lst (e _ _ hq) (AVs.same e hs)
 |_,_,.tup hq hs=>.tup (e _ _ hq) (AVs.same e hs)
 |_,_,.ins hq hs=>.ins (e _ _ hq) (AVf.same e hs)
 |_,_,.dk hq hs=>.dk (e _ _ hq) (AVk.same e hs)
 |_,_,.dt hq hs=>.dt (e _ _ hq) (AVt.same e hs)
 |_,_,.xc hq hd hs=>.xc (e _ _ hq) (e _ _ hd) (AVf.same e hs)
 |_,_,.xn hq=>.xn (e _ _ hq)
theorem AVs.same {H H':Hp}(e:zo H H'):∀{xs:List V} {ds:List PyData},AVs H xs ds→AVs H' xs ds
 |_,_,.nil=>.nil
 |_,_,.cons h hs=>.cons (AV.same e h) (AVs.same e hs)
theorem AVf.same {H H':Hp}(e:zo H H'):∀{fs:List (Str×V)} {ds:List (PyData×PyData)},AVf H fs ds→AVf H' fs ds
 |_,_,.nil=>.nil
 |_,_,.cons h hs=>.cons (AV.same e h) (AVf.same e hs)
theorem AVk.same {H H':Hp}(e:zo H H'):∀{fs:List (Key×V)} {ds:List (PyData×PyData)},AVk H fs ds→AVk H' fs ds
 |_,_,.nil=>.nil
 |_,_,.cons h hs=>.cons (AV.same e h) (AVk.same e hs)
theorem AVt.same {H H':Hp}(e:zo H H'):∀{fs:List (List Key×V)} {ds:List (PyData×PyData)},AVt H fs ds→AVt H' fs ds
 |_,_,.nil=>.nil
 |_,_,.cons h hs=>.cons (AV.same e h) (AVt.same e hs)
end
mutual
theorem AV.dv {H:Hp}:∀{x:V} {d:PyData},AV H x d→d.hasDict=false→DV H x d
 |_,_,.non,_=>.non
 |_,_,.bl b,_=>.bl b
 |_,_,.int i,_=>.int i
 |_,_,.str x,_=>.str x
 |_,_,.lst hq hs,h=>.lst hq (AVs.dv hs (by simpa only[PyData.hasDict] using h))
 |_,_,.tup hq hs,h=>.tup hq (AVs.dv hs (by simpa only[PyData.hasDict] using h))
 |_,_,.ins hq hs,h=>by simp[PyData.hasDict] at h
 |_,_,.dk hq hs,h=>by simp[PyData.hasDict] at h
 |_,_,.dt hq hs,h=>by simp[PyData.hasDict] at h
 |_,_,.xc hq _ hs,h=>by simp[PyData.hasDict] at h
 |_,_,.xn hq,h=>by simp[PyData.hasDict] at h
theorem AVs.dv {H:Hp}:∀{xs:List V} {ds:List PyData},AVs H xs ds→PyData.hasDictAll ds=false→DVs H xs ds
 |_,_,.nil,_=>.nil
 |_,_,.cons h hs,e=>by
  simp only[PyData.hasDictAll,Bool.or_eq_false_iff] at e
  exact .cons (AV.dv h e.1) (AVs.dv hs e.2)
end
mutual
theorem DV.av {H:Hp}:∀{x:V} {d:PyData},DV H x d→AV H x d
 |_,_,.non=>.non
 |_,_,.bl b=>.bl b
 |_,_,.int i=>.int i
 |_,_,.str x=>.str x
 |_,_,.lst hq hs=>.lst hq (DVs.av hs)
 |_,_,.tup hq hs=>.tup hq (DVs.av hs)
theorem DVs.av {H:Hp}:∀{xs:List V} {ds:List PyData},DVs H xs ds→AVs H xs ds
 |_,_,.nil=>.nil
 |_,_,.cons h hs=>.cons (DV.av h) (DVs.av hs)
end
theorem AVs.length {H:Hp}:∀{xs:List V} {ds:List PyData},AVs H xs ds→xs.length=ds.length
 |_,_,.nil=>rfl
 |_,_,.cons _ hs=>by rw[aW,aW,AVs.length hs]
theorem AVs.append {H:Hp}:∀{xs ys:List V} {ds es:List PyData},AVs H xs ds→AVs H ys es→AVs H (xs++ys) (ds++es)
 |_,_,_,_,.nil,h=>h
 |_,_,_,_,.cons a r,h=>.cons a (AVs.append r h)
theorem AVs.get {H:Hp}:∀{xs:List V} {ds:List PyData} {i:Nat} {d:PyData},AVs H xs ds→ds[i]?=some d→∃x,xs[i]?=some x∧AV H x d
 |_,_,_,_,.nil,e=>by simp at e
 |_,_,0,_,.cons a _,e=>by simp at e;subst e;exact⟨_,rfl,a⟩
 |_,_,i+1,d,.cons _ r,e=>by
  obtain⟨x,h1,h2⟩:=AVs.get (i:=i) (d:=d) r (by simpa using e)
  exact⟨x,by simpa using h1,h2⟩
theorem AVs.take {H:Hp}:∀{xs:List V} {ds:List PyData} (n:Nat),AVs H xs ds→AVs H (xs.take n) (ds.take n)
 |_,_,0,_=>.nil
 |_,_,_+1,.nil=>.nil
 |_,_,n+1,.cons a r=>.cons a (AVs.take n r)
theorem AVs.drop {H:Hp}:∀{xs:List V} {ds:List PyData} (n:Nat),AVs H xs ds→AVs H (xs.drop n) (ds.drop n)
 |_,_,0,r=>r
 |_,_,_+1,.nil=>.nil
 |_,_,n+1,.cons _ r=>AVs.drop n r
theorem AVs.atI {H:Hp}{xs:List V}{ds:List PyData}{i:Int}{d:PyData}(h:AVs H xs ds)(e:atI ds i=some d):∃x,L2.atI xs i=some x∧AV H x d:=by
 unfold L2.atI at e ⊢
 rw[h.length]
 cases q:ixN ds.length i with
 |none=>rw[q] at e;cases e
 |some j=>
  rw[q] at e
  exact h.get (i:=j) e
def cutD (ds:List PyData)(lo hi:Option Int):List PyData:=(ds.drop (HT.sIx ds.length 0 lo)).take (HT.sIx ds.length ds.length hi-HT.sIx ds.length 0 lo)
theorem AVs.cut {H:Hp}{xs:List V}{ds:List PyData}(h:AVs H xs ds)(lo hi:Option Int):AVs H (rQ xs lo hi) (cutD ds lo hi):=by
 unfold rQ cutD
 rw[h.length]
 exact (h.drop _).take _
mutual
def noL :PyData→Bool
 |.list _=>false
 |.dict ((.none,_)::_)=>false
 |.dict kvs=>ou kvs
 |.tuple ds=>noLs ds
 |_=>true
def noLs :List PyData→Bool
 |[]=>true
 |d::r=>noL d&&noLs r
def ou :List (PyData×PyData)→Bool
 |[]=>true
 |(_,d)::r=>noL d&&ou r
end
def Ob :HO→Prop
 |.lst _=>True
 |.dK _=>True
 |.frz _ _=>True
 |_=>False
mutual
theorem AV.noL {H H':Hp}(e:∀a o,¬Ob o→H a=some o→H' a=some o):∀{x:V} {d:PyData},AV H x d→noL d=true→AV H' x d
 |_,_,.non,_=>.non
 |_,_,.bl b,_=>.bl b
 |_,_,.int i,_=>.int i
 |_,_,.str x,_=>.str x
 |_,_,.lst _ _,h=>by simp[L2.noL] at h
 |_,_,.tup hq hs,h=>.tup (e _ _ (fun z=>z) hq) (AVs.noL e hs (by simpa only[L2.noL] using h))
 |_,_,.ins hq hs,h=>.ins (e _ _ (fun z=>z) hq) (AVf.noL e hs (by simpa[L2.noL,L2.ou] using h))
 |_,_,.dk _ _,h=>by simp[L2.noL] at h
 |_,_,.dt _ _,h=>by simp[L2.noL] at h
 |_,_,.xc hq hd hs,h=>.xc (e _ _ (fun z=>z) hq) (e _ _ (fun z=>z) hd) (AVf.noL e hs (by simpa[L2.noL,L2.ou] using h))
 |_,_,.xn hq,h=>.xn (e _ _ (fun z=>z) hq)
theorem AVs.noL {H H':Hp}(e:∀a o,¬Ob o→H a=some o→H' a=some o):∀{xs:List V} {ds:List PyData},AVs H xs ds→noLs ds=true→AVs H' xs ds
 |_,_,.nil,_=>.nil
 |_,_,.cons h hs,q=>by
  simp only[L2.noLs,za0] at q
  exact .cons (AV.noL e h q.1) (AVs.noL e hs q.2)
theorem AVf.noL {H H':Hp}(e:∀a o,¬Ob o→H a=some o→H' a=some o):∀{fs:List (Str×V)} {ds:List (PyData×PyData)},AVf H fs ds→ou ds=true→AVf H' fs ds
 |_,_,.nil,_=>.nil
 |_,_,.cons h hs,q=>by
  simp only[L2.ou,za0] at q
  exact .cons (AV.noL e h q.1) (AVf.noL e hs q.2)
end
structure Fr where
 H0:Hp
 O0:Addr→Prop
 tp:Option (Addr×Addr×Addr)
inductive A where
 |dat (d:PyData)
 |ow (c:PyData)
 |deep (d:PyData) (S:Addr→Prop)
 |tape
 |at (l:Addr)
 |exc (r:Fr) (q:PyData→Prop)
 |pin (l:Addr) (vs:List V) (ds:List PyData)
 |nst (l:Addr) (ls:List Addr) (dss:List (List PyData))
@[reducible] def A.own (ds:List PyData):A:=.ow (.list ds)
abbrev gI (ds:List (PyData×PyData)):PyData:=.dict ((.none,.none)::ds)
abbrev Ev :=List (Option A)
def xt (o:HO):Prop:=∀ts,o≠.tup ts
theorem yp {xs:List V}:xt (.lst xs):=fun _ z=>by cases z
theorem Ob.notup {o:HO}(h:Ob o):xt o:=fun ts z=>by subst z;exact h
def NT (F:Fr)(x:Addr):Prop:=(∀t b c,F.tp=some (t,b,c)→x≠t∧x≠b)∧¬ux x
def Kz (F:Fr)(H H':Hp):Prop:=∀x o,H x=some o→NT F x→H' x=some o
structure zI (F:Fr)(H:Hp):Prop where
 tab:TabAt H
 ot:∀x,ux x→F.O0 x
 all:∀t b c,F.tp=some (t,b,c)→yr H t b c∧F.O0 t∧F.O0 b∧F.O0 c
instance {F:Fr} {H:Hp}:CoeFun (zI F H) (fun _=>∀t b c,F.tp=some (t,b,c)→yr H t b c∧F.O0 t∧F.O0 b∧F.O0 c):=⟨zI.all⟩
theorem zI.to {F F':Fr}{H:Hp}(t:zI F H)(hp:F'.tp=F.tp)(ho:∀x,F.O0 x→F'.O0 x):zI F' H:=⟨t.tab,fun x h=>ho x (t.ot x h),fun a b c e=>by
 obtain⟨h1,h2,h3,h4⟩:=t a b c (hp▸e)
 exact⟨h1,ho _ h2,ho _ h3,ho _ h4⟩⟩
theorem zI.re {F F':Fr}{H H':Hp}(t:zI F H)(t':zI F' H')(hp:F'.tp=F.tp):zI F H':=⟨t'.tab,t.ot,fun a b c e=>⟨(t' a b c (hp▸e)).1,(t a b c e).2⟩⟩
theorem zI.upd {F:Fr}{H:Hp}{l:Addr}{o:HO}(t:zI F H)(h:∀a b c,F.tp=some (a,b,c)→l≠a∧l≠b∧l≠c)(hp:Plain H l):zI F (upd H l o):=⟨gE t.tab hp,t.ot,fun a b c e=>⟨kQ (t a b c e).1 (h a b c e),(t a b c e).2⟩⟩
theorem zI.updO {F:Fr}{H:Hp}{l:Addr}{o:HO}(t:zI F H)(h:¬F.O0 l)(hp:Plain H l):zI F (L2.upd H l o):=t.upd (fun a b c e=>⟨fun z=>h (by rw[z];exact (t a b c e).2.1),fun z=>h (by rw[z];exact (t a b c e).2.2.1),fun z=>h (by rw[z];exact (t a b c e).2.2.2)⟩) hp
def foot (s:Option V):A→Addr→Prop
 |.ow _,x=>s=some (.ref x)
 |.deep _ S,x=>S x
 |.nst l ls _,x=>x∈l::ls
 |_,_=>False
def Ow (F:Fr)(α:Ev)(σ:St)(x:Addr):Prop:=F.O0 x∨∃(i:Nat) (a:A) (s:Option V),α[i]?=some (some a)∧σ[i]?=some s∧foot s a x
noncomputable abbrev Gz (F:Fr)(α:Ev)(σ:St)(H:Hp):Hp:=sub (fun x=>¬Ow F α σ x) H
noncomputable def pC (S:Addr→Prop)(G H:Hp):Hp:=fun x=>open Classical in if S x then H x else match G x with
 |some (.lst _)=>none
 |o=>o
theorem tI {S:Addr→Prop}{G G' H H':Hp}(h:zo G G')(hS:∀x o,S x→H x=some o→H' x=some o):zo (pC S G H) (pC S G' H'):=fun x o e=>by
 unfold pC at e ⊢
 by_cases z:S x
 ·rw[if_pos z] at e ⊢;exact hS x o z e
 ·rw[if_neg z] at e ⊢
  cases q:G x with
  |none=>rw[q] at e;cases e
  |some u=>
   rw[h _ _ q]
   rw[q] at e
   exact e
theorem jM {S:Addr→Prop}{G H:Hp}{x:Addr}{o:HO}(h:pC S G H x=some o):(S x∧H x=some o)∨(¬S x∧G x=some o):=by
 unfold pC at h
 by_cases z:S x
 ·rw[if_pos z] at h;exact .inl ⟨z,h⟩
 ·rw[if_neg z] at h
  split at h
  ·cases h
  ·exact .inr ⟨z,h⟩
inductive yO (G:Hp):HO→PyData→Prop where
 |lst {xs:List V} {ds:List PyData}:AVs G xs ds→yO G (.lst xs) (.list ds)
 |dk {kvs:List (Key×V)} {ds:List (PyData×PyData)}:AVk G kvs ds→yO G (.dK kvs) (gI ds)
theorem yO.ob {G:Hp}{o:HO}{c:PyData}(h:yO G o c):Ob o:=by cases h<;>trivial
theorem yO.same {G G':Hp}{o:HO}{c:PyData}(h:yO G o c)(s:zo G G'):yO G' o c:=by
 cases h with
 |lst h=>exact .lst (h.same s)
 |dk h=>exact .dk (h.same s)
theorem yO.av {G:Hp}{o:HO}{ds:List PyData}{l:Addr}(h:yO G o (.list ds))(e:G l=some o):AV G (.ref l) (.list ds):=by
 cases h with
 |lst h=>exact .lst e h
theorem yO.lst_inv {G:Hp}{o:HO}{ds:List PyData}(h:yO G o (.list ds)):∃xs,o=.lst xs∧AVs G xs ds:=by cases h;exact⟨_,rfl,by assumption⟩
theorem yO.plain {G H:Hp}{o:HO}{c:PyData}{l:Addr}(h:yO G o c)(e:H l=some o):Plain H l:=by
 cases h with
 |lst h=>exact xq e
 |dk h=>exact kH e
structure Lnk (r F:Fr)(H:Hp):Prop where
 tp:r.tp=F.tp
 o:∀x,r.O0 x→F.O0 x
 ok:zI r H
 k:Kz r r.H0 H
def zM (G H:Hp):List Addr→List (List PyData)→Prop
 |[],[]=>True
 |a::ls,ds::dss=>(∃xs,H a=some (.lst xs)∧AVs G xs ds)∧zM G H ls dss
 |_,_=>False
theorem zM.same {G G' H H':Hp}(g:zo G G'):∀{ls:List Addr} {dss:List (List PyData)},(∀a∈ls,∀o,H a=some o→H' a=some o)→zM G H ls dss→zM G' H' ls dss
 |[],[],_,_=>trivial
 |a::ls,ds::dss,h,⟨⟨xs,e,av⟩,r⟩=>⟨⟨xs,h a aJ _ e,av.same g⟩,zM.same g (fun b hb=>h b (aK _ hb)) r⟩
 |[],_::_,_,z=>z.elim
 |_::_,[],_,z=>z.elim
theorem zM.obj {G H:Hp}:∀{ls:List Addr} {dss:List (List PyData)},zM G H ls dss→∀a∈ls,∃xs,H a=some (.lst xs)
 |[],_,_,_,h=>by cases h
 |b::ls,ds::dss,⟨⟨xs,e,_⟩,r⟩,a,h=>by
  rcases aP.mp h with z|z
  ·exact⟨xs,z▸e⟩
  ·exact zM.obj r a z
 |_::_,[],z,_,_=>z.elim
theorem zM.avs {G H:Hp}{p:Addr→Prop}(g:zo G (sub p H)):∀{ls:List Addr} {dss:List (List PyData)},(∀a∈ls,p a)→zM G H ls dss→AVs (sub p H) (ls.map .ref) (dss.map .list)
 |[],[],_,_=>.nil
 |a::ls,ds::dss,h,⟨⟨xs,e,av⟩,r⟩=>.cons (.lst (zv (h a aJ) e) (av.same g)) (zM.avs g (fun b hb=>h b (aK _ hb)) r)
 |[],_::_,_,z=>z.elim
 |_::_,[],_,z=>z.elim
def wu (G:Hp)(F:Fr)(H:Hp)(s:Option V):A→Prop
 |.dat d=>∃v,s=some v∧AV G v d
 |.ow c=>∃l o,s=some (.ref l)∧H l=some o∧yO G o c∧¬F.O0 l∧F.H0 l=none
 |.deep d S=>∃v,s=some v∧AV (pC S G H) v d∧∀x,S x→¬F.O0 x∧F.H0 x=none∧∃xs,H x=some (.lst xs)
 |.tape=>∃t b c,F.tp=some (t,b,c)∧s=some (.ref t)
 |.at l=>s=some (.ref l)
 |.exc r _=>Lnk r F H
 |.pin l vs ds=>s=some (.ref l)∧G l=some (.lst vs)∧AVs G vs ds
 |.nst l ls dss=>s=some (.ref l)∧H l=some (.lst (ls.map .ref))∧zM G H ls dss∧(l::ls).Nodup∧∀x∈l::ls,¬F.O0 x∧F.H0 x=none
structure M (F:Fr)(α:Ev)(σ:St)(H:Hp):Prop where
 len:α.length=σ.length
 ok:∀(i:Nat) (a:A) (s:Option V),α[i]?=some (some a)→σ[i]?=some s→wu (Gz F α σ H) F H s a
 dj:∀(i j:Nat) (a b:A) (s t:Option V) (x:Addr),α[i]?=some (some a)→α[j]?=some (some b)→σ[i]?=some s→σ[j]?=some t→foot s a x→foot t b x→i=j
 xd:∀(i:Nat) (r:Fr) (q:PyData→Prop),α[i]?=some (some (.exc r q))→∀(j:Nat) (a:A) (s:Option V) (x:Addr),α[j]?=some (some a)→σ[j]?=some s→foot s a x→r.H0 x=none
 tp:zI F H
 keep:Kz F F.H0 H
 oex:∀x,F.O0 x→∃o,H x=some o∧xt o
theorem M.at' {F:Fr}{α:Ev}{σ:St}{H:Hp}(m:M F α σ H){i:Nat}{a:Option A}(e:α[i]?=some a):∃s,σ[i]?=some s:=by
 have:i<σ.length:=by rw[←m.len];exact (aL.mp e).1
 exact⟨_,aM this⟩
theorem sM {G:Hp}{F:Fr}{H:Hp}{s:Option V}{a:A}{x:Addr}(h:wu G F H s a)(f:foot s a x):¬F.O0 x∧F.H0 x=none∧∃o,H x=some o∧Ob o:=by
 cases a with
 |ow c=>
  obtain⟨l,o,h1,h2,h3,h4,h5⟩:=h
  have f':s=some (.ref x):=f
  rw[f'] at h1;cases h1
  exact⟨h4,h5,o,h2,h3.ob⟩
 |deep d S=>
  obtain⟨v,h1,h2,h3⟩:=h
  obtain⟨z1,z2,xs,z3⟩:=h3 x f
  exact⟨z1,z2,_,z3,trivial⟩
 |dat d=>exact f.elim
 |tape=>exact f.elim
 |«at» l=>exact f.elim
 |exc r q=>exact f.elim
 |pin l vs ds=>exact f.elim
 |nst l ls dss=>
  obtain⟨h1,h2,h3,h4,h5⟩:=h
  have f':x∈l::ls:=f
  refine⟨(h5 x f').1,(h5 x f').2,?_⟩
  rcases aP.mp f' with z|z
  ·exact⟨.lst (ls.map .ref),z▸h2,trivial⟩
  ·obtain⟨xs,e⟩:=h3.obj x z
   exact⟨.lst xs,e,trivial⟩
theorem Lnk.kz {r F:Fr}{H H':Hp}(l:Lnk r F H)(k:Kz F H H')(t:zI F H'):Lnk r F H':=⟨l.tp,l.o,l.ok.re t l.tp.symm,fun x o e n=>k x o (l.k x o e n) ⟨fun a b c z=>n.1 a b c (l.tp.trans z),n.2⟩⟩
theorem Lnk.none {r F:Fr}{H:Hp}(l:Lnk r F H){x:Addr}(h:H x=Option.none):r.H0 x=Option.none:=by
 cases q:r.H0 x with
 |none=>rfl
 |some o=>rw[l.k x o q ⟨fun a b c e=>⟨((l.ok a b c e).1.free h).1,((l.ok a b c e).1.free h).2.1⟩,wR l.ok.tab h⟩] at h;cases h
def noX :A→Prop
 |.exc _ _=>False
 |_=>True
theorem wu.stay {G G':Hp}{F F':Fr}{H H':Hp}{s:Option V}{a:A}(h:wu G F H s a)(g:zo G G')(hf:∀x o,foot s a x→H x=some o→H' x=some o∧¬F'.O0 x∧F'.H0 x=none)(hp:F'.tp=F.tp)(hl:∀r q,a=.exc r q→Lnk r F H→Lnk r F' H'):wu G' F' H' s a:=by
 cases a with
 |dat d=>obtain⟨v,h1,h2⟩:=h;exact⟨v,h1,h2.same g⟩
 |ow c=>
  obtain⟨l,o,h1,h2,h3,h4,h5⟩:=h
  obtain⟨z1,z2,z3⟩:=hf l o h1 h2
  exact⟨l,o,h1,z1,h3.same g,z2,z3⟩
 |deep d S=>
  obtain⟨v,h1,h2,h3⟩:=h
  refine⟨v,h1,h2.same (tI g fun x o z e=>(hf x o z e).1),fun x z=>?_⟩
  obtain⟨_,_,xs,e⟩:=h3 x z
  obtain⟨z1,z2,z3⟩:=hf x _ z e
  exact⟨z2,z3,xs,z1⟩
 |tape=>obtain⟨t,b,c,e,z⟩:=h;exact⟨t,b,c,hp.trans e,z⟩
 |«at» l=>exact h
 |exc r q=>exact hl r q rfl h
 |pin l vs ds=>exact⟨h.1,g _ _ h.2.1,h.2.2.same g⟩
 |nst l ls dss=>
  obtain⟨h1,h2,h3,h4,h5⟩:=h
  refine⟨h1,(hf l _ aJ h2).1,h3.same g fun a ha o e=>(hf a o (aK _ ha) e).1,h4,fun x hx=>?_⟩
  rcases aP.mp hx with z|z
  ·exact (hf x _ hx (z▸h2)).2
  ·obtain⟨xs,e⟩:=h3.obj x z
   exact (hf x _ hx e).2
section
variable {F:Fr}{α:Ev}{σ:St}{H H' H'':Hp}
theorem M.dat (m:M F α σ H)(i:Nat)(d:PyData)(e:α[i]?=some (some (.dat d))):∃v,σ[i]?=some (some v)∧AV (Gz F α σ H) v d:=by
 obtain⟨s,hs⟩:=m.at' e
 obtain⟨v,rfl,h⟩:=m.ok i _ s e hs
 exact⟨v,hs,h⟩
theorem M.owc (m:M F α σ H)(i:Nat)(c:PyData)(e:α[i]?=some (some (.ow c))):∃l o,σ[i]?=some (some (.ref l))∧H l=some o∧yO (Gz F α σ H) o c∧¬F.O0 l∧F.H0 l=none:=by
 obtain⟨s,hs⟩:=m.at' e
 obtain⟨l,o,rfl,h⟩:=m.ok i _ s e hs
 exact⟨l,o,hs,h⟩
theorem M.own (m:M F α σ H)(i:Nat)(ds:List PyData)(e:α[i]?=some (some (.own ds))):∃l xs,σ[i]?=some (some (.ref l))∧H l=some (.lst xs)∧AVs (Gz F α σ H) xs ds∧¬F.O0 l∧F.H0 l=none:=by
 obtain⟨l,o,h1,h2,h3,h4⟩:=m.owc i _ e
 obtain⟨xs,rfl,h5⟩:=h3.lst_inv
 exact⟨l,xs,h1,h2,h5,h4⟩
theorem M.tvar (m:M F α σ H)(i:Nat)(e:α[i]?=some (some .tape)):∃t b c,F.tp=some (t,b,c)∧σ[i]?=some (some (.ref t)):=by
 obtain⟨s,hs⟩:=m.at' e
 obtain⟨t,b,c,h,rfl⟩:=m.ok i _ s e hs
 exact⟨t,b,c,h,hs⟩
theorem M.atv (m:M F α σ H)(i:Nat)(l:Addr)(e:α[i]?=some (some (.at l))):σ[i]?=some (some (.ref l)):=by
 obtain⟨s,hs⟩:=m.at' e
 have:s=some (.ref l):=m.ok i _ s e hs
 rw[hs,this]
theorem M.lnk (m:M F α σ H){i:Nat}{r:Fr}{q:PyData→Prop}(e:α[i]?=some (some (.exc r q))):Lnk r F H:=by
 obtain⟨s,hs⟩:=m.at' e
 exact m.ok i _ s e hs
theorem Kz.refl :Kz F H H:=fun _ _ e _=>e
theorem Kz.trans (h:Kz F H H')(k:Kz F H' H''):Kz F H H'':=fun x o e n=>k x o (h x o e n) n
theorem Kz.of_same (h:zo H H'):Kz F H H':=fun x o e _=>h x o e
theorem zI.same (t:zI F H)(h:zo H H'):zI F H':=⟨jP t.tab h,t.ot,fun a b c e=>⟨mn (t a b c e).1 h,(t a b c e).2⟩⟩
theorem zI.nt (t:zI F H){x:Addr}(h:¬F.O0 x):NT F x:=⟨fun a b c e=>⟨fun z=>h (z▸(t a b c e).2.1),fun z=>h (z▸(t a b c e).2.2.1)⟩,fun z=>h (t.ot x z)⟩
theorem ow0 {x:Addr}(h:¬Ow F α σ x):¬F.O0 x:=fun z=>h (.inl z)
theorem Kz.gz (k:Kz F H H')(t:zI F H):zo (Gz F α σ H) (Gz F α σ H'):=zm fun a o h e=>⟨h,k a o e (t.nt (ow0 h))⟩
theorem M.oex' (t:zI F H')(k:Kz F H H')(h:∀x,F.O0 x→∃o,H x=some o∧xt o):∀x,F.O0 x→∃o,H' x=some o∧xt o:=fun x hx=>by
 by_cases n:NT F x
 ·obtain⟨o,ho,hn⟩:=h x hx
  exact⟨o,k _ _ ho n,hn⟩
 ·by_cases z:ux x
  ·obtain⟨o,ho,hn,_⟩:=rm t.tab z
   exact⟨o,ho,hn⟩
  ·have:∃a b c,F.tp=some (a,b,c)∧¬(x≠a∧x≠b):=by
    refine Classical.byContradiction fun q=>n ⟨fun a b c e=>?_,z⟩
    exact Classical.byContradiction fun w=>q ⟨a,b,c,e,w⟩
   obtain⟨a,b,c,e,w⟩:=this
   obtain⟨n,bs,cs,_,e1,e2,e3,_⟩:=(t a b c e).1.ex
   by_cases xa:x=a
   ·exact⟨_,xa▸e1,yp⟩
   ·by_cases xb:x=b
    ·exact⟨_,xb▸e2,yp⟩
    ·exact absurd ⟨xa,xb⟩ w
theorem M.kz (m:M F α σ H)(k:Kz F H H')(t:zI F H'):M F α σ H' where
 len:=m.len
 ok:=fun i a s e1 e2=>(m.ok i a s e1 e2).stay (k.gz m.tp) (fun x o hf e=>by
  obtain⟨h1,h2,_⟩:=sM (m.ok i a s e1 e2) hf
  exact⟨k x o e (m.tp.nt h1),h1,h2⟩) rfl fun r _ _ l=>l.kz k t
 dj:=m.dj
 xd:=m.xd
 tp:=t
 keep:=m.keep.trans k
 oex:=M.oex' t k m.oex
theorem M.ft (m:M F α σ H){i:Nat}{a:A}{s:Option V}{x:Addr}(e1:α[i]?=some (some a))(e2:σ[i]?=some s)(f:foot s a x):¬F.O0 x∧F.H0 x=none∧∃o,H x=some o∧Ob o:=sM (m.ok i a s e1 e2) f
theorem M.owEx (m:M F α σ H){x:Addr}(h:Ow F α σ x):∃o,H x=some o∧xt o:=by
 rcases h with z|⟨i,a,s,e1,e2,f⟩
 ·exact m.oex x z
 ·obtain⟨_,_,o,ho,hb⟩:=m.ft e1 e2 f
  exact⟨o,ho,hb.notup⟩
theorem M.fresh (m:M F α σ H){l:Addr}(h:H l=none):¬Ow F α σ l:=fun z=>by
 obtain⟨o,ho,_⟩:=m.owEx z
 rw[h] at ho;cases ho
theorem M.fresh0 (m:M F α σ H){l:Addr}(h:H l=none):F.H0 l=none:=by
 cases q:F.H0 l with
 |none=>rfl
 |some o=>rw[m.keep l o q (m.tp.nt fun z=>m.fresh h (.inl z))] at h;cases h
theorem M.old (m:M F α σ H):zo (sub (fun x=>¬F.O0 x) F.H0) (Gz F α σ H):=fun a o e=>by
 obtain⟨h1,h2⟩:=zf e
 refine zv ?_ (m.keep a o h2 (m.tp.nt h1))
 rintro (z|⟨i,b,s,e1,e2,f⟩)
 ·exact h1 z
 ·obtain⟨_,z,_⟩:=m.ft e1 e2 f
  rw[h2] at z;cases z
noncomputable def Fr.up (F:Fr)(G:Hp):Fr:={F with H0:=fun x=>(F.H0 x).or (G x)}
theorem sI {G:Hp}{x:Addr}{o:HO}(h:F.H0 x=some o):(F.up G).H0 x=some o:=by show (F.H0 x).or (G x)=some o;rw[h];rfl
theorem nH {G:Hp}{x:Addr}(h:(F.up G).H0 x=none):F.H0 x=none:=by
 cases q:F.H0 x with
 |none=>rfl
 |some o=>rw[sI q] at h;cases h
theorem M.up (m:M F α σ H):M (F.up (Gz F α σ H)) α σ H where
 len:=m.len
 ok:=fun i a s e1 e2=>(m.ok i a s e1 e2).stay (fun _ _ e=>e) (fun x o hf e=>by
  obtain⟨h1,h2,_⟩:=m.ft e1 e2 hf
  refine⟨e,h1,?_⟩
  show (F.H0 x).or (Gz F α σ H x)=none
  rw[h2]
  show Gz F α σ H x=none
  cases q:Gz F α σ H x with
  |none=>rfl
  |some o=>exact absurd (.inr ⟨i,a,s,e1,e2,hf⟩) (zf q).1) rfl fun r _ _ l=>⟨l.tp,l.o,l.ok,l.k⟩
 dj:=m.dj
 xd:=m.xd
 tp:=m.tp.to rfl fun _ z=>z
 keep:=fun x o e n=>by
  have e':(F.H0 x).or (Gz F α σ H x)=some o:=e
  cases q:F.H0 x with
  |none=>rw[q,Option.none_or] at e';exact (zf e').2
  |some o'=>rw[q] at e';cases e';exact m.keep x _ q n
 oex:=m.oex
theorem M.down {G:Hp}(m:M (F.up G) α σ H):M F α σ H where
 len:=m.len
 ok:=fun i a s e1 e2=>(m.ok i a s e1 e2).stay (fun _ _ e=>e) (fun x o hf e=>by
  obtain⟨h1,h2,_⟩:=m.ft e1 e2 hf
  exact⟨e,h1,nH h2⟩) rfl fun r _ _ l=>⟨l.tp,l.o,l.ok,l.k⟩
 dj:=m.dj
 xd:=m.xd
 tp:=m.tp.to rfl fun _ z=>z
 keep:=fun x o e n=>m.keep x o (sI e) n
 oex:=m.oex
theorem M.upold {α0:Ev}{σ0:St}{H1:Hp}(m0:M F α0 σ0 H1)(m:M (F.up (Gz F α0 σ0 H1)) α σ H):zo (Gz F α0 σ0 H1) (Gz F α σ H):=fun a o e=>by
 obtain⟨h1,h2⟩:=zf e
 have e0:(F.up (Gz F α0 σ0 H1)).H0 a=some o:=by
  show (F.H0 a).or (Gz F α0 σ0 H1 a)=some o
  cases q:F.H0 a with
  |none=>exact e
  |some o'=>
   have:=m0.keep a o' q (m0.tp.nt (ow0 h1))
   rw[h2] at this;cases this;rfl
 exact m.old a o (zv (p:=fun x=>¬F.O0 x) (ow0 h1) e0)
end
def yA (F:Fr)(α:Ev)(σ:St)(H:Hp)(v:V)(H':Hp)(ds:List PyData):Prop:=
 ∃l xs,v=.ref l∧H l=none∧H' l=some (.lst xs)∧AVs (sub (fun x=>¬Ow F α σ x∧x≠l) H') xs ds
def iF (F:Fr)(α:Ev)(σ:St)(H:Hp)(v:V)(H':Hp)(c:PyData):Prop:=
 ∃l o,v=.ref l∧H l=none∧H' l=some o∧yO (sub (fun x=>¬Ow F α σ x∧x≠l) H') o c
theorem yA.c {F:Fr}{α:Ev}{σ:St}{H H':Hp}{v:V}{ds:List PyData}(h:yA F α σ H v H' ds):iF F α σ H v H' (.list ds):=by
 obtain⟨l,xs,h1,h2,h3,h4⟩:=h
 exact⟨l,_,h1,h2,h3,.lst h4⟩
theorem yA.av {F:Fr}{α:Ev}{σ:St}{H H':Hp}{v:V}{ds:List PyData}(m:M F α σ H)(h:yA F α σ H v H' ds):AV (Gz F α σ H') v (.list ds):=by
 obtain⟨l,xs,rfl,h1,h2,h3⟩:=h
 exact .lst (zv (m.fresh h1) h2) (h3.same (zm fun a o h e=>⟨h.1,e⟩))
section
variable (X:Cx)(α:Ev)
def EvD (e:Expr)(Q:PyData→Prop):Prop:=∀(F:Fr) (σ:St) (H:Hp) (R:VK),M F α σ H→(∀d v H',Q d→zI F H'→Kz F H H'→AV (Gz F α σ H') v d→R v H')→vP X e σ H R
def EvL (e:Expr)(Q:List PyData→Prop):Prop:=∀(F:Fr) (σ:St) (H:Hp) (R:VK),M F α σ H→(∀ds v H',Q ds→zI F H'→Kz F H H'→yA F α σ H v H' ds→R v H')→vP X e σ H R
def EvT (e:Expr)(Q:Bool→Prop):Prop:=∀(F:Fr) (σ:St) (H:Hp) (R:Bool→Hp→Prop),M F α σ H→(∀b H',Q b→zI F H'→Kz F H H'→R b H')→cT X e σ H R
def mZ (F:Fr)(G:Hp)(v:V):A→Prop
 |.dat d=>AV G v d
 |.tape=>∃t b c,F.tp=some (t,b,c)∧v=.ref t
 |_=>False
inductive yc (F:Fr)(G:Hp):List V→List A→Prop where
 |nil:yc F G [] []
 |cons {v:V} {vs:List V} {a:A} {as:List A}:mZ F G v a→yc F G vs as→yc F G (v::vs) (a::as)
def EvA (es:List Expr)(Q:List A→Prop):Prop:=∀(F:Fr) (σ:St) (H:Hp) (R:List V→Hp→Prop),M F α σ H→(∀as vs H',Q as→zI F H'→Kz F H H'→yc F (Gz F α σ H') vs as→R vs H')→bx X es σ H R
end
theorem mZ.to {F F':Fr}{G G':Hp}(s:zo G G')(hp:F'.tp=F.tp){v:V}:∀{a:A},mZ F G v a→mZ F' G' v a
 |.dat _,h=>AV.same s h
 |.tape,⟨t,b,c,e,z⟩=>⟨t,b,c,hp.trans e,z⟩
 |.ow _,h=>h
 |.deep _ _,h=>h
 |.at _,h=>h
 |.exc _ _,h=>h
 |.pin _ _ _,h=>h
 |.nst _ _ _,h=>h
theorem yc.to {F F':Fr}{G G':Hp}(s:zo G G')(hp:F'.tp=F.tp):∀{vs:List V} {as:List A},yc F G vs as→yc F' G' vs as
 |_,_,.nil=>.nil
 |_,_,.cons h r=>.cons (h.to s hp) (yc.to s hp r)
theorem yc.length {F:Fr}{G:Hp}:∀{vs:List V} {as:List A},yc F G vs as→vs.length=as.length
 |_,_,.nil=>rfl
 |_,_,.cons _ r=>by rw[aW,aW,yc.length r]
def A.d :A→PyData
 |.dat d=>d
 |.ow c=>c
 |.deep d _=>d
 |.nst _ _ dss=>.list (dss.map .list)
 |_=>.none
def gX (F:Fr)(v:V)(H':Hp):A→Prop
 |.dat d=>AV (sub (fun x=>¬F.O0 x) H') v d
 |.ow c=>∃l xs ds,v=.ref l∧c=.list ds∧F.H0 l=none∧¬F.O0 l∧H' l=some (.lst xs)∧AVs (sub (fun x=>¬F.O0 x∧x≠l) H') xs ds
 |.deep d S=>AV (pC S (sub (fun x=>¬F.O0 x) H') H') v d∧∀x,S x→¬F.O0 x∧F.H0 x=none∧∃xs,H' x=some (.lst xs)
 |.nst l ls dss=>v=.ref l∧H' l=some (.lst (ls.map .ref))∧zM (sub (fun x=>¬F.O0 x∧x∉l::ls) H') H' ls dss∧(l::ls).Nodup∧∀x∈l::ls,¬F.O0 x∧F.H0 x=none
 |_=>False
def wV (F:Fr)(v:V)(H':Hp)(a:A):Prop:=zI F H'∧Kz F F.H0 H'∧gX F v H' a
def spA (φ:List A→(A→Prop)→Prop):Sp:=fun vs H Qc _=>∃(F:Fr) (as:List A) (Q:A→Prop),F.H0=H∧zI F H∧(∀x,F.O0 x→∃o,H x=some o∧xt o)∧yc F (sub (fun x=>¬F.O0 x) H) vs as∧φ as Q∧∀a v H',Q a→wV F v H' a→Qc v H'
theorem gX.to {F F':Fr}{v:V}{H':Hp}{a:A}(r:gX F v H' a)(ho:∀x,F'.O0 x→F.O0 x)(h0:∀x,F.H0 x=none→F'.H0 x=none):gX F' v H' a:=by
 have s:zo (sub (fun x=>¬F.O0 x) H') (sub (fun x=>¬F'.O0 x) H'):=zm fun a o h e=>⟨fun z=>h (ho _ z),e⟩
 cases a with
 |dat d=>exact AV.same s r
 |ow c=>
  obtain⟨l,xs,ds,h1,hc,h2,h3,h4,h5⟩:=r
  exact⟨l,xs,ds,h1,hc,h0 _ h2,fun z=>h3 (ho _ z),h4,h5.same (zm fun a o h e=>⟨⟨fun z=>h.1 (ho _ z),h.2⟩,e⟩)⟩
 |deep d S=>
  obtain⟨h1,h2⟩:=r
  refine⟨h1.same (tI s fun _ _ _ e=>e),fun x z=>?_⟩
  obtain⟨z1,z2,z3⟩:=h2 x z
  exact⟨fun w=>z1 (ho _ w),h0 _ z2,z3⟩
 |tape=>exact r
 |«at» _=>exact r
 |exc _ _=>exact r
 |pin _ _ _=>exact r
 |nst l ls dss=>
  obtain⟨h1,h2,h3,h4,h5⟩:=r
  exact⟨h1,h2,h3.same (zm fun a o h e=>⟨⟨fun z=>h.1 (ho _ z),h.2⟩,e⟩) (fun _ _ _ e=>e),h4,fun x hx=>⟨fun z=>(h5 x hx).1 (ho _ z),h0 _ (h5 x hx).2⟩⟩
structure yk where
 nx:Ev→Prop
 rt:A→Prop
 bk:Ev→Prop:=fun _=>False
 ct:Ev→Prop:=fun _=>False
structure qN (F:Fr)(E:yk)(D:Ends):Prop where
 nx:∀α σ H,M F α σ H→E.nx α→D.nx σ H
 rt:∀a v H,wV F v H a→E.rt a→D.rt v H
 bk:∀α σ H,M F α σ H→E.bk α→D.bk σ H
 ct:∀α σ H,M F α σ H→E.ct α→D.ct σ H
def SvS (X:Cx)(α:Ev)(sts:List Stmt)(E:yk):Prop:=∀(F:Fr) (σ:St) (H:Hp) (D:Ends),M F α σ H→qN F E D→jU X sts D σ H
theorem qN.up {F:Fr}{G:Hp}{E:yk}{D:Ends}(e:qN F E D):qN (F.up G) E D where
 nx:=fun α σ H m q=>e.nx α σ H m.down q
 bk:=fun α σ H m q=>e.bk α σ H m.down q
 ct:=fun α σ H m q=>e.ct α σ H m.down q
 rt:=fun a v H r q=>e.rt a v H (by
  obtain⟨t,k,r⟩:=r
  exact⟨t.to rfl fun _ z=>z,fun x o e n=>k x o (sI e) n,r.to (fun _ z=>z) fun x z=>nH z⟩) q
section
variable {X:Cx}{α:Ev}{e a b c:Expr}{es:List Expr}{pos p q:Pos}{Q:PyData→Prop}
theorem EvL.d (h:EvL X α e (fun ds=>Q (.list ds))):EvD X α e Q:=fun F σ H R m k=>h F σ H R m fun ds v H' q t z f=>k _ v H' q t z (f.av m)
theorem EvD.imp {Q':PyData→Prop}(h:EvD X α e Q')(k:∀d,Q' d→Q d):EvD X α e Q:=fun F σ H R m r=>h F σ H R m fun d v H' q=>r d v H' (k d q)
theorem EvL.imp {Q Q':List PyData→Prop}(h:EvL X α e Q')(k:∀d,Q' d→Q d):EvL X α e Q:=fun F σ H R m r=>h F σ H R m fun d v H' q=>r d v H' (k d q)
theorem zj (i:Nat){x:Str}{d:PyData}(hi:α[i]?=some (some (.dat d)))(q:Q d)(hN:X.N[i]?=some x:=by rfl)(hv:Vis X.env.scope x:=by first|exact Or.inl rfl|exact Or.inr (Or.inl rfl)|exact Or.inr (Or.inr rfl))
  (hd:(x == ("__debug__":Str))=false:=by decide) (hcd:(x == ("__classdict__":Str))=false:=by decide):EvD X α (.Name x pos) Q:=fun F σ H R m k=>by
 obtain⟨v,h1,h2⟩:=m.dat i d hi
 exact⟨_,yU hN hv hd hcd,v,h1,k d v H q m.tp Kz.refl h2⟩
theorem zY {i:Int}{j:Nat}(q:Q (.int i)):EvD X α (.Constant (.int i) j pos) Q:=fun F σ H R m k=>⟨_,zg,k _ _ H q m.tp Kz.refl (.int i)⟩
theorem jL {j:Nat}(q:Q .none):EvD X α (.Constant .none j pos) Q:=fun F σ H R m k=>⟨_,si,k _ _ H q m.tp Kz.refl .non⟩
theorem cD {x:Str}{j:Nat}(q:Q (.str x)):EvD X α (.Constant (.str x) j pos) Q:=fun F σ H R m k=>⟨_,ya,k _ _ H q m.tp Kz.refl (.str x)⟩
theorem il {x:Str}{i:Int}(hg:Gl X x)(hm:∃t,X.mg x=some (.int i t))(q:Q (.int i))(hd:(x == ("__debug__":Str))=false:=by decide):EvD X α (.Name x pos) Q:=fun F σ H R m k=>by
 obtain⟨t,hm⟩:=hm
 exact⟨_,wZ hg hm (show RelV (.int i) (.int i t) from ⟨t,rfl⟩) hd,k _ _ H q m.tp Kz.refl (.int i)⟩
theorem uP {f:TE→TE→TE}(hf:PE X e (f (vP X a) (vP X b)))(hr:∀σ H R,f (vP X a) (vP X b) σ H R↔vP X a σ H (fun x H1=>vP X b σ H1 fun y H2=>f (tC x) (tC y) σ H2 R))
  (h:EvD X α a fun x=>EvD X α b fun y=>∀(F:Fr) (σ:St) (H:Hp) (vx vy:V) (R:VK),M F α σ H→AV (Gz F α σ H) vx x→AV (Gz F α σ H) vy y→(∀d v H',Q d→zI F H'→Kz F H H'→AV (Gz F α σ H') v d→R v H')→f (tC vx) (tC vy) σ H R):
  EvD X α e Q:=fun F σ H R m k=>by
 refine⟨_,hf,(hr σ H R).mpr ?_⟩
 refine h F σ H _ m fun x vx H1 q1 t1 k1 r1=>?_
 have m1:=m.kz k1 t1
 refine q1 F σ H1 _ m1 fun y vy H2 q2 t2 k2 r2=>?_
 exact q2 F σ H2 vx vy R (m1.kz k2 t2) (r1.same (k2.gz m1.tp)) r2 fun d v H' qd t3 k3 r3=>k d v H' qd t3 ((k1.trans k2).trans k3) r3
theorem AV.int_inv {H:Hp}{v:V}{i:Int}(h:AV H v (.int i)):v=.int i:=by cases h;rfl
theorem AV.bl_inv {H:Hp}{v:V}{i:Bool}(h:AV H v (.bool i)):v=.bl i:=by cases h;rfl
theorem AV.str_inv {H:Hp}{v:V}{i:Str}(h:AV H v (.str i)):v=.str i:=by cases h;rfl
theorem AV.tup_inv {H:Hp}{v:V}{ds:List PyData}(h:AV H v (.tuple ds)):∃a xs,v=.ref a∧H a=some (.tup xs)∧AVs H xs ds:=by cases h;exact⟨_,_,rfl,by assumption,by assumption⟩
theorem AV.lst_inv {H:Hp}{v:V}{ds:List PyData}(h:AV H v (.list ds)):∃a xs,v=.ref a∧H a=some (.lst xs)∧AVs H xs ds:=by cases h;exact⟨_,_,rfl,by assumption,by assumption⟩
theorem AV.non_inv {H:Hp}{v:V}(h:AV H v .none):v=.non:=by cases h;rfl
theorem AV.isnon {H:Hp}{v:V}{d:PyData}(h:AV H v d):decide (v=.non)=(match d with|.none=>true|_=>false):=by cases h<;>simp
theorem eK {op:Operator}{C:Int→Int→Prop}{g:Int→Int→V}{gd:Int→Int→PyData}(ho:OpR X (binaryOp op) (rI C g))(hg:∀H i j,AV H (g i j) (gd i j))
  (h:EvD X α a fun x=>EvD X α b fun y=>∃i j,x=.int i∧y=.int j∧C i j∧Q (gd i j)):EvD X α (.BinOp a op b pos) Q:=by
 refine uP (f:=tOp (rI C g)) (yb ho zi zi) (fun _ _ _=>Iff.rfl) (h.imp fun x h=>h.imp fun y ⟨i,j,e1,e2,hc,hq⟩=>?_)
 subst e1 e2
 intro F σ H vx vy R m rx ry k
 cases rx.int_inv;cases ry.int_inv
 exact⟨i,j,rfl,rfl,hc,k _ _ H hq m.tp Kz.refl (hg _ i j)⟩
theorem nI {op:Operator}{g:Int→Int→V}{gd:Int→Int→PyData}(ho:OpR X (binaryOp op) (rI0 g))(hg:∀H i j,AV H (g i j) (gd i j))
  (h:EvD X α a fun x=>EvD X α b fun y=>∃i j,x=.int i∧y=.int j∧Q (gd i j)):EvD X α (.BinOp a op b pos) Q:=by
 refine uP (f:=tOp (rI0 g)) (yb ho zi zi) (fun _ _ _=>Iff.rfl) (h.imp fun x h=>h.imp fun y ⟨i,j,e1,e2,hq⟩=>?_)
 subst e1 e2
 intro F σ H vx vy R m rx ry k
 cases rx.int_inv;cases ry.int_inv
 exact⟨i,j,rfl,rfl,k _ _ H hq m.tp Kz.refl (hg _ i j)⟩
theorem pH (h:EvD X α a fun x=>EvD X α b fun y=>∃i j,x=.int i∧y=.int j∧Q (.int (i+j))):EvD X α (.BinOp a .Add b pos) Q:=nI (gd:=fun i j=>.int (i+j)) xP (fun _ _ _=>.int _) h
theorem dq (h:EvD X α a fun x=>EvD X α b fun y=>∃i j,x=.int i∧y=.int j∧Q (.int (i-j))):EvD X α (.BinOp a .Sub b pos) Q:=nI (gd:=fun i j=>.int (i-j)) og (fun _ _ _=>.int _) h
theorem dz (h:EvD X α a fun x=>EvD X α b fun y=>∃i j,x=.int i∧y=.int j∧dI i j∧Q (.int (i ^ j.toNat))):EvD X α (.BinOp a .Pow b pos) Q:=eK (gd:=fun i j=>.int (i ^ j.toNat)) ie (fun _ _ _=>.int _) h
theorem sF {i j r:Int}{p1 p2:Pos}{n1 n2:Nat}(hc:dI i j)(hr:i ^ j.toNat=r)(q:Q (.int r)):EvD X α (.BinOp (.Constant (.int i) n1 p1) .Pow (.Constant (.int j) n2 p2) pos) Q:=
 dz (zY (zY ⟨i,j,rfl,rfl,hc,hr▸q⟩))
theorem kx (h:EvD X α a fun x=>∃i,x=.int i∧Q (.int (-i))):EvD X α (.UnaryOp .USub a pos) Q:=fun F σ H R m k=>by
 refine⟨_,qB uJ zi,?_⟩
 refine h F σ H _ m fun x vx H1 q1 t1 k1 r1=>?_
 obtain⟨i,rfl,q⟩:=q1
 cases r1.int_inv
 exact⟨i,rfl,k _ _ H1 q t1 k1 (.int _)⟩
theorem sH {op:CmpOp}{g:Int→Int→Bool}(ho:OpR X (compareOp op) (rI0 fun i j=>.bl (g i j)))(hm:behindInMarks op b=false)
  (h:EvD X α a fun x=>EvD X α b fun y=>∃i j,x=.int i∧y=.int j∧Q (.bool (g i j))):EvD X α (.Compare a [op] [b] pos) Q:=by
 refine uP (f:=tOp (rI0 fun i j=>.bl (g i j))) (xi ho zi zi hm) (fun _ _ _=>Iff.rfl) (h.imp fun x h=>h.imp fun y ⟨i,j,e1,e2,hq⟩=>?_)
 subst e1 e2
 intro F σ H vx vy R m rx ry k
 cases rx.int_inv;cases ry.int_inv
 exact⟨i,j,rfl,rfl,k _ _ H hq m.tp Kz.refl (.bl _)⟩
theorem fN (h:EvD X α a fun x=>EvD X α b fun y=>∃i j,x=.int i∧y=.int j∧Q (.bool (decide (i<j)))):EvD X α (.Compare a [.Lt] [b] pos) Q:=sH jy (zu _) h
theorem bL (h:EvD X α a fun x=>EvD X α b fun y=>∃i j,x=.int i∧y=.int j∧Q (.bool (decide (i≤j)))):EvD X α (.Compare a [.LtE] [b] pos) Q:=sH tP (zu _) h
theorem fU (h:EvD X α a fun x=>EvD X α b fun y=>∃i j,x=.int i∧y=.int j∧Q (.bool (decide (j<i)))):EvD X α (.Compare a [.Gt] [b] pos) Q:=sH rY (zu _) h
def jC :PyData→Bool
 |.none=>true
 |_=>false
theorem AV.non_iff {H:Hp}{v:V}{d:PyData}(h:AV H v d):decide (v=.non)=jC d:=by cases h<;>simp[jC]
theorem sx {Q:Bool→Prop}(h:EvD X α e fun x=>∃k,x=.bool k∧Q k)(he:∀whole,isTrue e X.env whole=(do let v ←whole;standAt e.pos;holding [v] (truthy v)):=by intro _;rfl):EvT X α e Q:=fun F σ H R m k=>by
 refine⟨_,jo zi he,?_⟩
 refine h F σ H _ m fun x vx H1 q1 t1 k1 r1=>?_
 obtain⟨b,rfl,q⟩:=q1
 cases r1.bl_inv
 exact⟨b,rfl,k b H1 q t1 k1⟩
def Cmp (r:R2)(x y:PyData)(k:Bool):Prop:=∀(p:Addr→Prop) (H:Hp) (vx vy:V) (R:VK),AV (sub p H) vx x→AV (sub p H) vy y→R (.bl k) H→r vx vy H R
theorem vh {op:CmpOp}{r:R2}{Q:Bool→Prop}(ho:OpR X (compareOp op) r)(hm:behindInMarks op b=false)(h:EvD X α a fun x=>EvD X α b fun y=>∃k,Cmp r x y k∧Q k):EvT X α (.Compare a [op] [b] pos) Q:=fun F σ H R m k=>by
 refine⟨_,zO ho zi zi hm,?_⟩
 refine h F σ H _ m fun x vx H1 q1 t1 k1 r1=>?_
 have m1:=m.kz k1 t1
 refine q1 F σ H1 _ m1 fun y vy H2 q2 t2 k2 r2=>?_
 obtain⟨b,hc,q⟩:=q2
 exact hc _ H2 vx vy _ (r1.same (k2.gz m1.tp)) r2 ⟨b,rfl,k b H2 q t2 (k1.trans k2)⟩
theorem fk {g:Int→Int→Bool}{i j:Int}:Cmp (rI0 fun i j=>.bl (g i j)) (.int i) (.int j) (g i j):=fun p H vx vy R rx ry h=>by
 cases rx.int_inv;cases ry.int_inv
 exact⟨i,j,rfl,rfl,h⟩
theorem oZ {op:CmpOp}{g:Int→Int→Bool}{Q:Bool→Prop}(ho:OpR X (compareOp op) (rI0 fun i j=>.bl (g i j)))(hm:behindInMarks op b=false)
  (h:EvD X α a fun x=>EvD X α b fun y=>∃i j,x=.int i∧y=.int j∧Q (g i j)):EvT X α (.Compare a [op] [b] pos) Q:=
 vh ho hm (h.imp fun x h=>h.imp fun y ⟨i,j,e1,e2,q⟩=>⟨_,by subst e1 e2;exact fk,q⟩)
theorem jK {Q:Bool→Prop}(h:EvD X α a fun x=>EvD X α b fun y=>∃i j,x=.int i∧y=.int j∧Q (decide (i≤j))):EvT X α (.Compare a [.LtE] [b] pos) Q:=oZ tP (zu _) h
theorem ju {Q:Bool→Prop}(h:EvD X α a fun x=>EvD X α b fun y=>∃i j,x=.int i∧y=.int j∧Q (decide (j<i))):EvT X α (.Compare a [.Gt] [b] pos) Q:=oZ rY (zu _) h
theorem sQ {j:Nat}{Q:Bool→Prop}(h:EvD X α a fun x=>Q (jC x)):EvT X α (.Compare a [.Is] [.Constant .none j p] pos) Q:=
 vh pX (zu _) (h.imp fun x h=>jL ⟨_,fun p H vx vy R rx ry z=>⟨ry.non_inv,by rw[rx.non_iff];exact z⟩,h⟩)
theorem uC {Q:Bool→Prop}(h:EvT X α a fun k=>Q (!k)):EvT X α (.UnaryOp .Not a pos) Q:=fun F σ H R m k=>by
 refine⟨_,kB xj,?_⟩
 exact h F σ H _ m fun b H1 q1 t1 k1=>k _ H1 q1 t1 k1
def EvW (X:Cx)(α:Ev)(e:Expr)(Q:Bool→Prop):Prop:=∀(F:Fr) (σ:St) (H:Hp) (R:Bool→Hp→Prop),M F α σ H→(∀b H',Q b→zI F H'→Kz F H H'→R b H')→∃t,PW X e t∧t σ H R
def ag (X:Cx)(e:Expr):TT:=fun σ H Q=>∃t,PW X e t∧t σ H Q
theorem nG :PW X e (ag X e):=fun w pins s σ H Q I ⟨t,p,q⟩=>p w pins s σ H Q I q
theorem EvW.t {Q:Bool→Prop}(h:EvW X α e Q):EvT X α e Q:=fun F σ H R m k=>by
 obtain⟨t,p,q⟩:=h F σ H R m k
 exact⟨t,p.pt,q⟩
variable {rest:List Expr}
theorem oX {Q:Bool→Prop}(h:EvT X α a Q):EvW X α (.BoolOp .And [a] pos) Q:=fun F σ H R m k=>⟨_,sq xj,h F σ H R m k⟩
theorem pI {Q:Bool→Prop}(h:EvT X α a Q):EvW X α (.BoolOp .Or [a] pos) Q:=fun F σ H R m k=>⟨_,qZ xj,h F σ H R m k⟩
theorem jc {Q:Bool→Prop}(h:EvT X α a fun k=>if k=true then EvW X α (.BoolOp .And (b::rest) pos) Q else Q false):EvW X α (.BoolOp .And (a::b::rest) pos) Q:=fun F σ H R m k=>by
 refine⟨_,oI xj nG,?_⟩
 refine h F σ H _ m fun c H1 q1 t1 k1=>?_
 cases c with
 |true=>exact wx ((by simpa using q1:EvW X α _ Q) F σ H1 R (m.kz k1 t1) fun b H2 q2 t2 k2=>k b H2 q2 t2 (k1.trans k2))
 |false=>exact wH (k _ H1 (by simpa using q1) t1 k1)
theorem nR {Q:Bool→Prop}(h:EvT X α a fun k=>if k=true then Q true else EvW X α (.BoolOp .Or (b::rest) pos) Q):EvW X α (.BoolOp .Or (a::b::rest) pos) Q:=fun F σ H R m k=>by
 refine⟨_,jq xj nG,?_⟩
 refine h F σ H _ m fun c H1 q1 t1 k1=>?_
 cases c with
 |false=>exact wH ((by simpa using q1:EvW X α _ Q) F σ H1 R (m.kz k1 t1) fun b H2 q2 t2 k2=>k b H2 q2 t2 (k1.trans k2))
 |true=>exact wx (k _ H1 (by simpa using q1) t1 k1)
theorem eJ {op}(h:EvD X α a Q):EvD X α (.BoolOp op [a] pos) Q:=fun F σ H R m k=>⟨_,yV zi,h F σ H R m k⟩
theorem eE (h:EvD X α a fun x=>∃k,x=.bool k∧if k=true then EvD X α (.BoolOp .And (b::rest) pos) Q else Q (.bool false)):EvD X α (.BoolOp .And (a::b::rest) pos) Q:=fun F σ H R m k=>by
 refine⟨_,yC zi zi,?_⟩
 refine h F σ H _ m fun x vx H1 q1 t1 k1 r1=>?_
 obtain⟨c,rfl,q1⟩:=q1
 cases r1.bl_inv
 refine⟨c,rfl,?_⟩
 cases c with
 |true=>exact wx ((by simpa using q1:EvD X α _ Q) F σ H1 R (m.kz k1 t1) fun d v H2 q2 t2 k2 r2=>k d v H2 q2 t2 (k1.trans k2) r2)
 |false=>exact wH (k _ _ H1 (by simpa using q1) t1 k1 (.bl _))
theorem pU (h:EvT X α c fun k=>if k=true then EvD X α a Q else EvD X α b Q):EvD X α (.IfExp c a b pos) Q:=fun F σ H R m k=>by
 refine⟨_,jF xj zi zi,?_⟩
 refine h F σ H _ m fun x H1 q1 t1 k1=>?_
 cases x with
 |true=>exact wx ((by simpa using q1:EvD X α _ Q) F σ H1 R (m.kz k1 t1) fun d v H2 q2 t2 k2 r2=>k d v H2 q2 t2 (k1.trans k2) r2)
 |false=>exact wH ((by simpa using q1:EvD X α _ Q) F σ H1 R (m.kz k1 t1) fun d v H2 q2 t2 k2 r2=>k d v H2 q2 t2 (k1.trans k2) r2)
theorem xm (hs:su b)(h:EvD X α a fun x=>EvD X α b fun y=>∃ds i d,x=.tuple ds∧y=.int i∧atI ds i=some d∧Q d):EvD X α (.Subscript a b pos) Q:=by
 refine uP (f:=tOp (eV X.K)) (zq zB zi zi hs) (fun _ _ _=>Iff.rfl) (h.imp fun x h=>h.imp fun y ⟨ds,i,d,e1,e2,hat,hq⟩=>?_)
 subst e1 e2
 intro F σ H vx vy R m rx ry k
 obtain⟨a,xs,rfl,h1,h2⟩:=rx.tup_inv
 cases ry.int_inv
 obtain⟨v,hv,av⟩:=h2.atI hat
 exact⟨a,xs,i,v,rfl,rfl,SqT.of (zf h1).2,hv,k d v H hq m.tp Kz.refl av⟩
def EvO (X:Cx)(α:Ev)(e:Option Expr)(Q:Option Int→Prop):Prop:=∀(F:Fr) (σ:St) (H:Hp) (R:Option Int→Hp→Prop),M F α σ H→(∀i H',Q i→zI F H'→Kz F H H'→R i H')→∃t,PO X e t∧t σ H R
def bO (X:Cx)(e:Option Expr):TO:=fun σ H Q=>∃t,PO X e t∧t σ H Q
theorem oR {e:Option Expr}:PO X e (bO X e):=fun pins s σ H Q I ⟨t,p,q⟩=>p pins s σ H Q I q
theorem vZ {Q:Option Int→Prop}(q:Q none):EvO X α none Q:=fun F σ H R m k=>⟨_,rj,k _ H q m.tp Kz.refl⟩
theorem ua {Q:Option Int→Prop}(h:EvD X α a fun x=>∃i,x=.int i∧Q (some i)):EvO X α (some a) Q:=fun F σ H R m k=>by
 refine⟨_,rn zi,?_⟩
 refine h F σ H _ m fun x vx H1 q1 t1 k1 r1=>?_
 obtain⟨i,rfl,q⟩:=q1
 cases r1.int_inv
 exact⟨i,rfl,k _ H1 q t1 k1⟩
theorem M.lay {F:Fr}{σ:St}{H:Hp}{l:Addr}{xs:List V}{ds:List PyData}(m:M F α σ H)(hl:H l=none)(h:AVs (Gz F α σ H) xs ds):zI F (upd H l (.lst xs))∧Kz F H (upd H l (.lst xs))∧yA F α σ H (.ref l) (upd H l (.lst xs)) ds:=by
 refine⟨m.tp.same (yo hl),Kz.of_same (yo hl),l,xs,rfl,hl,ze,h.same (zm fun a o ha e=>?_)⟩
 have:=zd e hl
 exact⟨⟨ha,this⟩,by rw[zc this];exact e⟩
theorem tN {lo hi:Option Expr}{Q:List PyData→Prop}(h:EvD X α a fun x=>EvO X α lo fun l=>EvO X α hi fun u=>∃ds,x=.list ds∧Q (cutD ds l u)):EvL X α (.Subscript a (.Slice lo hi none p) pos) Q:=fun F σ H R m k=>by
 refine⟨_,ur sD zi oR oR,?_⟩
 refine h F σ H _ m fun x vx H1 q1 t1 k1 r1=>?_
 have m1:=m.kz k1 t1
 refine q1 F σ H1 _ m1 fun l H2 q2 t2 k2=>?_
 have m2:=m1.kz k2 t2
 refine q2 F σ H2 _ m2 fun u H3 q3 t3 k3=>?_
 have m3:=m2.kz k3 t3
 obtain⟨ds,rfl,q⟩:=q3
 obtain⟨a,xs,rfl,h1,h2⟩:=(r1.same ((k2.gz m1.tp).trans (k3.gz m2.tp))).lst_inv
 refine⟨a,xs,rfl,SqL.of (zf h1).2,fun p hp=>?_⟩
 obtain⟨g1,g2,g3⟩:=m3.lay hp (h2.cut l u)
 have kk:=(k1.trans k2).trans k3
 obtain⟨l',xs',e1,e2,e3,e4⟩:=g3
 refine k _ _ _ q g1 (kk.trans g2) ⟨l',xs',e1,?_,e3,e4⟩
 cases z:H l' with
 |none=>rfl
 |some o=>rw[kk l' o z (m.tp.nt (ow0 (m3.fresh e2)))] at e2;cases e2
theorem yA.back {F:Fr}{σ:St}{H H1 H':Hp}{v:V}{ds:List PyData}(m:M F α σ H)(k:Kz F H H1)(t1:zI F H1)(h:yA F α σ H1 v H' ds):yA F α σ H v H' ds:=by
 obtain⟨l',xs',e1,e2,e3,e4⟩:=h
 refine⟨l',xs',e1,?_,e3,e4⟩
 cases z:H l' with
 |none=>rfl
 |some o=>rw[k l' o z (m.tp.nt (ow0 ((m.kz k t1).fresh e2)))] at e2;cases e2
theorem zZ {Q:List A→Prop}(q:Q []):EvA X α [] Q:=fun F σ H R m k=>⟨_,zh,k _ _ H q m.tp Kz.refl .nil⟩
theorem zx {Q:List A→Prop}(h:EvD X α e fun d=>EvA X α es fun as=>Q (.dat d::as))(hs:starEach (e::es) X.env=(false,eval e X.env)::starEach es X.env:=by rfl):EvA X α (e::es) Q:=fun F σ H R m k=>by
 refine⟨_,za zi yJ hs,?_⟩
 refine h F σ H _ m fun d v H1 q1 t1 k1 r1=>?_
 have m1:=m.kz k1 t1
 exact q1 F σ H1 _ m1 fun as vs H2 q2 t2 k2 r2=>k _ _ H2 q2 t2 (k1.trans k2) (.cons (r1.same (k2.gz m1.tp)) r2)
theorem gR {Q:List A→Prop}(i:Nat){x:Str}(hi:α[i]?=some (some .tape))(h:EvA X α es fun as=>Q (.tape::as))(hN:X.N[i]?=some x:=by rfl)(hv:Vis X.env.scope x:=by first|exact Or.inl rfl|exact Or.inr (Or.inl rfl)|exact Or.inr (Or.inr rfl))
  (hd:(x == ("__debug__":Str))=false:=by decide) (hcd:(x == ("__classdict__":Str))=false:=by decide) (hs:starEach (.Name x pos::es) X.env=(false,eval (.Name x pos) X.env)::starEach es X.env:=by rfl):EvA X α (.Name x pos::es) Q:=fun F σ H R m k=>by
 obtain⟨t,b,c,h1,h2⟩:=m.tvar i hi
 refine⟨_,za (yU hN hv hd hcd) yJ hs,.ref t,h2,?_⟩
 exact h F σ H _ m fun as vs H2 q2 t2 k2 r2=>k _ _ H2 q2 t2 k2 (.cons ⟨t,b,c,h1,rfl⟩ r2)
def datas :List A→Option (List PyData)
 |[]=>some []
 |.dat d::r=>(datas r).map (d::·)
 |_::_=>none
theorem yc.datas {F:Fr}{G:Hp}:∀{vs:List V} {as:List A} {ds:List PyData},yc F G vs as→L2.datas as=some ds→AVs G vs ds
 |_,_,ds,.nil,h=>by cases h;exact .nil
 |_,_,ds,.cons (a:=.dat d) (as:=as) h r,e=>by
  simp only[L2.datas,zb9] at e
  obtain⟨es,e1,rfl⟩:=e
  exact .cons h (yc.datas r e1)
 |_,_,ds,.cons (a:=.ow _) h r,e=>by cases h
 |_,_,ds,.cons (a:=.deep _ _) h r,e=>by cases h
 |_,_,ds,.cons (a:=.exc _ _) h r,e=>by cases h
 |_,_,ds,.cons (a:=.pin _ _ _) h r,e=>by cases h
 |_,_,ds,.cons (a:=.nst _ _ _) h r,e=>by cases h
 |_,_,ds,.cons (a:=.tape) h r,e=>by cases e
 |_,_,ds,.cons (a:=.at _) h r,e=>by cases h
theorem qV {n:Nat}(h:EvA X α es fun as=>∃ds,datas as=some ds∧ds.length≤1000∧Q (.tuple ds)):EvD X α (.Tuple es n pos) Q:=fun F σ H R m k=>by
 refine⟨_,vb yJ,?_⟩
 refine h F σ H _ m fun as vs H1 q1 t1 k1 r1=>?_
 obtain⟨ds,e,hl,q⟩:=q1
 have r:=r1.datas e
 have m1:=m.kz k1 t1
 refine⟨by rw[r.length];exact zd5 (zU hl),fun p hp=>?_⟩
 refine k _ _ _ q (t1.same (yo hp)) (k1.trans (Kz.of_same (yo hp))) (.tup (xs:=vs) (zv (m1.fresh hp) ze) (r.same (zm fun a o ha e=>⟨ha,by rw[zc (zd e hp)];exact e⟩)))
theorem xI {Q:List PyData→Prop}(h:EvA X α es fun as=>∃ds,datas as=some ds∧ds.length≤1000∧Q ds):EvL X α (.List es pos) Q:=fun F σ H R m k=>by
 refine⟨_,sJ yJ,?_⟩
 refine h F σ H _ m fun as vs H1 q1 t1 k1 r1=>?_
 obtain⟨ds,e,hl,q⟩:=q1
 have r:=r1.datas e
 have m1:=m.kz k1 t1
 refine⟨by rw[r.length];exact zd5 (zU hl),fun p hp=>?_⟩
 obtain⟨g1,g2,g3⟩:=m1.lay hp r
 exact k _ _ _ q g1 (k1.trans g2) (g3.back m k1 t1)
theorem wD {Q:List PyData→Prop}(h:EvD X α a fun x=>EvD X α b fun y=>∃ds es,x=.list ds∧y=.list es∧ds.length+es.length≤1000∧Q (ds++es)):EvL X α (.BinOp a .Add b pos) Q:=fun F σ H R m k=>by
 refine⟨_,yb eH zi zi,?_⟩
 refine h F σ H _ m fun x vx H1 q1 t1 k1 r1=>?_
 have m1:=m.kz k1 t1
 refine q1 F σ H1 _ m1 fun y vy H2 q2 t2 k2 r2=>?_
 have m2:=m1.kz k2 t2
 obtain⟨ds,es,rfl,rfl,hl,q⟩:=q2
 obtain⟨a,xs,rfl,h1,h2⟩:=(r1.same (k2.gz m1.tp)).lst_inv
 obtain⟨b,ys,rfl,h3,h4⟩:=r2.lst_inv
 refine⟨a,b,xs,ys,rfl,rfl,(zf h1).2,(zf h3).2,by rw[h2.length,h4.length];exact zd5 (zU hl),fun p hp=>?_⟩
 obtain⟨g1,g2,g3⟩:=m2.lay hp (h2.append h4)
 exact k _ _ _ q g1 ((k1.trans k2).trans g2) (g3.back m (k1.trans k2) t2)
theorem xR {id:String}{x:Str}{r:List V→Hp→VK→Prop}(hc:xr X (.builtin id) r)(hg:Gl X x)(hm:X.mg x=none)(hv:bootBuiltins x=some (.builtin id))
  (h:EvA X α (e::es) fun as=>∀(F:Fr) (σ:St) (H:Hp) (vs:List V) (R:VK),M F α σ H→yc F (Gz F α σ H) vs as→(∀d v H',Q d→zI F H'→Kz F H H'→AV (Gz F α σ H') v d→R v H')→r vs H R)
  (hn:x≠"__name__":=by decide) (hdb:(x == ("__debug__":Str))=false:=by decide) (he:starEach (e::es) X.env=(false,eval e X.env)::starEach es X.env:=by rfl) (hpl:(backTo pos (starEach es X.env)).any (·.1)=false:=by rfl):
  EvD X α (.Call (.Name x p) (e::es) [] pos) Q:=fun F σ H R m k=>by
 refine⟨_,zH hc hg hm hv yJ hn hdb he hpl,?_⟩
 refine h F σ H _ m fun as vs H1 q1 t1 k1 r1=>?_
 exact q1 F σ H1 vs R (m.kz k1 t1) r1 fun d v H' qd t2 k2 r2=>k d v H' qd t2 (k1.trans k2) r2
end
section
variable {X:Cx}{α:Ev}{e a b c:Expr}{es:List Expr}{pos p q:Pos}{Q:PyData→Prop}
theorem yc.one {F:Fr}{G:Hp}{vs:List V}{d:PyData}(h:yc F G vs [.dat d]):∃v,vs=[v]∧AV G v d:=by
 cases h with|cons h r=>cases r;exact⟨_,rfl,h⟩
theorem yc.two {F:Fr}{G:Hp}{vs:List V}{d e:PyData}(h:yc F G vs [.dat d,.dat e]):∃v u,vs=[v,u]∧AV G v d∧AV G u e:=by
 cases h with|cons h r=>obtain⟨u,rfl,h2⟩:=r.one;exact⟨_,u,rfl,h,h2⟩
def aH :PyData→Option Int
 |.list ds=>some ds.length
 |.tuple ds=>some ds.length
 |_=>none
theorem xC (hg:Gl X "len")(hm:X.mg "len"=none)(h:EvD X α e fun x=>∃n,aH x=some n∧Q (.int n))(he:starEach [e] X.env=(false,eval e X.env)::starEach [] X.env:=by rfl):
  EvD X α (.Call (.Name "len" p) [e] [] pos) Q:=by
 refine xR yj hg hm zf4 (zx (h.imp fun x ⟨n,e1,q⟩=>zZ ?_) he) (he:=he)
 intro F σ H vs R m rv k
 obtain⟨v,rfl,av⟩:=rv.one
 cases av with
 |lst h1 h2=>cases e1;rw[←h2.length] at q;exact⟨_,_,rfl,.inl (SqL.of (zf h1).2),k _ _ H q m.tp Kz.refl (.int _)⟩
 |tup h1 h2=>cases e1;rw[←h2.length] at q;exact⟨_,_,rfl,.inr (SqT.of (zf h1).2),k _ _ H q m.tp Kz.refl (.int _)⟩
 |_=>cases e1
theorem dQ (hc:X.calm=true)(hg:Gl X "max")(hm:X.mg "max"=none)(h:EvD X α a fun x=>EvD X α b fun y=>∃i j,x=.int i∧y=.int j∧Q (.int (if j > i then j else i)))
  (he:starEach [a,b] X.env=(false,eval a X.env)::starEach [b] X.env:=by rfl) (he2:starEach [b] X.env=(false,eval b X.env)::starEach [] X.env:=by rfl) (hpl:(backTo pos (starEach [b] X.env)).any (·.1)=false:=by rfl):
  EvD X α (.Call (.Name "max" p) [a,b] [] pos) Q:=by
 refine xR (vj hc) hg hm boot_max (zx (h.imp fun x h=>zx (h.imp fun y ⟨i,j,e1,e2,q⟩=>zZ ?_) he2) he) (he:=he) (hpl:=hpl)
 intro F σ H vs R m rv k
 subst e1 e2
 obtain⟨v,u,rfl,av,au⟩:=rv.two
 cases av.int_inv;cases au.int_inv
 exact⟨i,j,rfl,k _ _ H q m.tp Kz.refl (.int _)⟩
theorem eR (hc:X.calm=true)(hg:Gl X "min")(hm:X.mg "min"=none)(h:EvD X α a fun x=>EvD X α b fun y=>∃i j,x=.int i∧y=.int j∧Q (.int (if j<i then j else i)))
  (he:starEach [a,b] X.env=(false,eval a X.env)::starEach [b] X.env:=by rfl) (he2:starEach [b] X.env=(false,eval b X.env)::starEach [] X.env:=by rfl) (hpl:(backTo pos (starEach [b] X.env)).any (·.1)=false:=by rfl):
  EvD X α (.Call (.Name "min" p) [a,b] [] pos) Q:=by
 refine xR (tS hc) hg hm boot_min (zx (h.imp fun x h=>zx (h.imp fun y ⟨i,j,e1,e2,q⟩=>zZ ?_) he2) he) (he:=he) (hpl:=hpl)
 intro F σ H vs R m rv k
 subst e1 e2
 obtain⟨v,u,rfl,av,au⟩:=rv.two
 cases av.int_inv;cases au.int_inv
 exact⟨i,j,rfl,k _ _ H q m.tp Kz.refl (.int _)⟩
theorem xK {T:String}{x:Str}{p1:Pos}(hg:Gl X "isinstance")(hm:X.mg "isinstance"=none)(hgT:Gl X x)(hmT:X.mg x=none)(hT:bootBuiltins x=some (.type T))
  (h:EvD X α a fun x=>∃k,x.hasDict=false∧vQ T x=some k∧Q (.bool k)) (hnx:x≠"__name__":=by decide) (hdx:(x == ("__debug__":Str))=false:=by decide)
  (he:starEach [a,.Name x p1] X.env=(false,eval a X.env)::starEach [.Name x p1] X.env:=by rfl) (he2:starEach [.Name x p1] X.env=(false,eval (.Name x p1) X.env)::starEach [] X.env:=by rfl) (hpl:(backTo pos (starEach [.Name x p1] X.env)).any (·.1)=false:=by rfl):
  EvD X α (.Call (.Name "isinstance" p) [a,.Name x p1] [] pos) Q:=fun F σ H R m k=>by
 refine⟨_,zH yS hg hm zg1 (za zi (za (wb hgT hmT hT (show RelV (.ty T) (.type T) from rfl) hnx hdx) zh he2) he) (he:=he) (hpl:=hpl),?_⟩
 refine h F σ H _ m fun x vx H1 q1 t1 k1 r1=>?_
 obtain⟨b,hd,e,q⟩:=q1
 exact⟨vx,T,x,b,rfl,(r1.dv hd).same yw,e,k _ _ H1 q t1 k1 (.bl b)⟩
def xB :PyData→Option (List PyData)
 |.list ds=>some ds
 |.tuple ds=>some ds
 |_=>none
theorem sA {Q:List PyData→Prop}(hg:Gl X "list")(hm:X.mg "list"=none)(h:EvD X α e fun x=>∃ds,xB x=some ds∧Q ds)(he:starEach [e] X.env=(false,eval e X.env)::starEach [] X.env:=by rfl):
  EvL X α (.Call (.Name "list" p) [e] [] pos) Q:=fun F σ H R m k=>by
 refine⟨_,tL wX hg hm boot_list (za zi zh he) (he:=he),?_⟩
 refine h F σ H _ m fun x vx H1 q1 t1 k1 r1=>?_
 obtain⟨ds,e1,q⟩:=q1
 have m1:=m.kz k1 t1
 have fin:∀{xs:List V},AVs (Gz F α σ H1) xs ds→∀l,H1 l=none→R (.ref l) (upd H1 l (.lst xs)):=fun {xs} h2 l hl=>by
  obtain⟨g1,g2,g3⟩:=m1.lay hl h2
  exact k _ _ _ q g1 (k1.trans g2) (g3.back m k1 t1)
 cases r1 with
 |lst h1 h2=>cases e1;exact⟨_,_,rfl,.inl (SqL.of (zf h1).2),fin h2⟩
 |tup h1 h2=>cases e1;exact⟨_,_,rfl,.inr (SqT.of (zf h1).2),fin h2⟩
 |_=>cases e1
theorem AVs.bools {H:Hp}:∀{xs:List V} {bs:List Bool},AVs H xs (bs.map .bool)→xs=bs.map V.bl
 |_,[],.nil=>rfl
 |_,b::bs,.cons h r=>by rw[h.bl_inv,AVs.bools r];rfl
theorem iA (hc:X.calm=true)(hg:Gl X "all")(hm:X.mg "all"=none)(h:EvD X α e fun x=>∃bs:List Bool,x=.list (bs.map .bool)∧Q (.bool (bs.all id)))(he:starEach [e] X.env=(false,eval e X.env)::starEach [] X.env:=by rfl):
  EvD X α (.Call (.Name "all" p) [e] [] pos) Q:=by
 refine xR (lq hc) hg hm boot_all (zx (h.imp fun x ⟨bs,e1,q⟩=>zZ ?_) he) (he:=he)
 intro F σ H vs R m rv k
 subst e1
 obtain⟨v,rfl,av⟩:=rv.one
 obtain⟨a,xs,rfl,h1,h2⟩:=av.lst_inv
 exact⟨a,bs,rfl,by rw[(zf h1).2,h2.bools],k _ _ H q m.tp Kz.refl (.bl _)⟩
theorem nE (hgu:X.A.guards=some [])(hu:X.A.units+64<cLine)(hg:Gl X "repr")(hm:X.mg "repr"=none)(h:EvD X α e fun x=>zL sizeLine x∧Q (.str x.shown))(he:starEach [e] X.env=(false,eval e X.env)::starEach [] X.env:=by rfl):
  EvD X α (.Call (.Name "repr" p) [e] [] pos) Q:=by
 refine xR (lA hgu hu) hg hm boot_repr (zx (h.imp fun x ⟨n,q⟩=>zZ ?_) he) (he:=he)
 intro F σ H vs R m rv k
 obtain⟨v,rfl,av⟩:=rv.one
 exact⟨v,x,rfl,(av.dv n.nod).same yw,n,k _ _ H q m.tp Kz.refl (.str _)⟩
section
variable {k:Nat}{f:Addr}{fd:FuncData}{ps:List Str}{φ:List A→(A→Prop)→Prop}{x:Str}
theorem yE {F:Fr}{σ:St}{H:Hp}{vs:List V}{as:List A}{QA:A→Prop}{R:VK}(m:M F α σ H)(rv:yc F (Gz F α σ H) vs as)(hφ:φ as QA)
  (kk:∀a v H',QA a→wV ⟨H,Ow F α σ,F.tp⟩ v H' a→R v H') {E:XK}:spA φ (vs++[]) H R E:=by
 refine⟨⟨H,Ow F α σ,F.tp⟩,as,QA,rfl,?_,?_,?_,hφ,kk⟩
 ·exact m.tp.to rfl fun _ z=>.inl z
 ·exact fun y z=>m.owEx z
 ·rw[zg0]
  exact yc.to (F:=F) (F':=⟨H,Ow F α σ,F.tp⟩) (fun _ _ e=>e) rfl rv
theorem wV.back {F:Fr}{σ:St}{H H':Hp}{v:V}{a:A}(m:M F α σ H)(h:wV ⟨H,Ow F α σ,F.tp⟩ v H' a):zI F H'∧Kz F H H'∧AV (Gz F α σ H') v a.d:=by
 obtain⟨t,kz,r⟩:=h
 refine⟨m.tp.re t rfl,kz,?_⟩
 cases a with
 |dat d=>exact r
 |ow c=>
  obtain⟨l,xs,ds,rfl,rfl,h1,h2,h3,h4⟩:=r
  exact .lst (zv h2 h3) (h4.same (zm fun a o h e=>⟨h.1,e⟩))
 |deep d S=>
  obtain⟨h1,h2⟩:=r
  refine h1.same fun x o e=>?_
  rcases jM e with ⟨z1,z2⟩|⟨_,z2⟩
  ·exact zv (h2 x z1).1 z2
  ·exact z2
 |tape=>exact r.elim
 |«at» _=>exact r.elim
 |exc _ _=>exact r.elim
 |pin _ _ _=>exact r.elim
 |nst l ls dss=>
  obtain⟨rfl,h2,h3,h4,h5⟩:=r
  exact .lst (zv (h5 l aJ).1 h2) (h3.avs (zm fun a o h e=>⟨h.1,e⟩) fun a ha=>(h5 a (aK _ ha)).1)
theorem gF (G:zt X.prog X.w X.K X.mg X.base CX0 k f fd ps (spA φ))(hr:zR k X.A)(hg:Gl X x)(hm:X.mg x=some (.ref f))(hk:PySem.W.keepIn X.K (.ref f)=true)(hb:Binds X.K fd ps [])
  (h:EvA X α (e::es) fun as=>φ as fun a=>Q a.d) (hdb:(x == ("__debug__":Str))=false:=by decide) (he:starEach (e::es) X.env=(false,eval e X.env)::starEach es X.env:=by rfl) (hpl:(backTo pos (starEach es X.env)).any (·.1)=false:=by rfl):
  EvD X α (.Call (.Name x p) (e::es) [] pos) Q:=fun F σ H R m kk=>by
 refine⟨_,zF G hr hg hm hk hb .nil zN yJ hdb he hpl,?_⟩
 refine h F σ H _ m fun as vs H1 q1 t1 k1 r1=>?_
 have m1:=m.kz k1 t1
 refine yE m1 r1 q1 fun a v H' qa ra=>?_
 obtain⟨g1,g2,g3⟩:=ra.back m1
 exact kk _ v H' qa g1 (k1.trans g2) g3
theorem fq {Q:List PyData→Prop}(G:zt X.prog X.w X.K X.mg X.base CX0 k f fd ps (spA φ))(hr:zR k X.A)(hg:Gl X x)(hm:X.mg x=some (.ref f))(hk:PySem.W.keepIn X.K (.ref f)=true)(hb:Binds X.K fd ps [])
  (h:EvA X α (e::es) fun as=>φ as fun a=>∃ds,a=.own ds∧Q ds) (hdb:(x == ("__debug__":Str))=false:=by decide) (he:starEach (e::es) X.env=(false,eval e X.env)::starEach es X.env:=by rfl) (hpl:(backTo pos (starEach es X.env)).any (·.1)=false:=by rfl):
  EvL X α (.Call (.Name x p) (e::es) [] pos) Q:=fun F σ H R m kk=>by
 refine⟨_,zF G hr hg hm hk hb .nil zN yJ hdb he hpl,?_⟩
 refine h F σ H _ m fun as vs H1 q1 t1 k1 r1=>?_
 have m1:=m.kz k1 t1
 refine yE m1 r1 q1 fun a v H' qa ra=>?_
 obtain⟨ds,rfl,q⟩:=qa
 obtain⟨g1,g2,_⟩:=ra.back m1
 obtain⟨_,_,l,xs,ds',rfl,hc,h1,h2,h3,h4⟩:=ra
 cases hc
 exact kk ds _ H' q g1 (k1.trans g2) (yA.back m k1 t1 ⟨l,xs,rfl,h1,h3,h4⟩)
end
theorem pj {i j:Nat}{x:Option A}(h:i≠j):(α.set i x)[j]?=α[j]?:=zc5 h
theorem zG {i:Nat}{x:Option A}{j:Nat}{y:Option A}(h:(α.set i x)[j]?=some y):(i=j∧x=y)∨(i≠j∧α[j]?=some y):=by
 by_cases hij:i=j
 ·subst hij
  left
  have hl:i<α.length:=by
   have:=(aL.mp h).1
   rwa [zc3] at this
  rw[zg4 hl] at h
  exact⟨rfl,za3 h⟩
 ·right
  rw[zc5 hij] at h
  exact⟨hij,h⟩
theorem M.put {F:Fr}{σ:St}{H:Hp}{i:Nat}{b:Option A}(m:M F α σ H)(hf:∀s c x,σ[i]?=some s→b=some c→foot s c x→∃a,α[i]?=some (some a)∧foot s a x)
  (hok:∀s c,i<α.length→σ[i]?=some s→b=some c→wu (Gz F (α.set i b) σ H) F H s c) (hx:∀c,b=some c→noX c:=by intro c z;cases z;trivial):zo (Gz F α σ H) (Gz F (α.set i b) σ H)∧M F (α.set i b) σ H:=by
 have gs:zo (Gz F α σ H) (Gz F (α.set i b) σ H):=zm fun a o h e=>⟨fun z=>h (by
  rcases z with z|⟨j,c,s,e1,e2,f⟩
  ·exact .inl z
  ·rcases zG e1 with ⟨rfl,z⟩|⟨hj,e1'⟩
   ·obtain⟨a',h1,h2⟩:=hf s c a e2 z f
    exact .inr ⟨i,a',s,h1,e2,h2⟩
   ·exact .inr ⟨j,c,s,e1',e2,f⟩),e⟩
 have old:∀{j:Nat} {c:A} {s:Option V} {x:Addr},(α.set i b)[j]?=some (some c)→σ[j]?=some s→foot s c x→∃a,α[j]?=some (some a)∧foot s a x:=fun {j c s x} e1 e2 f=>by
  rcases zG e1 with ⟨rfl,z⟩|⟨hj,e1'⟩
  ·exact hf s c x e2 z f
  ·exact⟨c,e1',f⟩
 refine⟨gs,by rw[zc3];exact m.len,fun j c s e1 e2=>?_,fun j k c d s t x e1 e2 h1 h2 f1 f2=>?_,fun j r q e j' c s x e1 e2 f=>?_,m.tp,m.keep,m.oex⟩
 ·rcases zG e1 with ⟨rfl,z⟩|⟨hj,e1'⟩
  ·refine hok s c ?_ e2 z
   have:=(aL.mp e1).1
   rwa [zc3] at this
  ·exact (m.ok j c s e1' e2).stay gs (fun x o f e=>⟨e,(m.ft e1' e2 f).1,(m.ft e1' e2 f).2.1⟩) rfl fun _ _ _ l=>l
 ·obtain⟨a',g1,g2⟩:=old e1 h1 f1
  obtain⟨b',g3,g4⟩:=old e2 h2 f2
  exact m.dj j k a' b' s t x g1 g3 h1 h2 g2 g4
 ·obtain⟨a',g1,g2⟩:=old e1 e2 f
  rcases zG e with ⟨rfl,z⟩|⟨_,e'⟩
  ·exact (hx _ z).elim
  ·exact m.xd j r q e' j' a' s x g1 e2 g2
theorem M.gave {F:Fr}{σ:St}{H:Hp}{i:Nat}{a:A}{s:Option V}{b:Option A}{x:Addr}(m:M F α σ H)(e1:α[i]?=some (some a))(e2:σ[i]?=some s)(f:foot s a x)(hb:∀c,b=some c→¬foot s c x):¬Ow F (α.set i b) σ x:=by
 rintro (z|⟨j,c,t,h1,h2,g⟩)
 ·exact (m.ft e1 e2 f).1 z
 ·rcases zG h1 with ⟨rfl,z⟩|⟨hj,h1'⟩
  ·rw[e2] at h2;cases h2;exact hb c z g
  ·exact hj (m.dj i j a c s t x e1 h1' e2 h2 f g)
theorem sy {F:Fr}{σ:St}{H:Hp}{i:Nat}{b:A}(hb:∀s x,¬foot s b x):zo (Gz F α σ H) (Gz F (α.set i (some b)) σ H):=zm fun a o h e=>⟨fun z=>h (by
 rcases z with z|⟨j,c,s,e1,e2,f⟩
 ·exact .inl z
 ·rcases zG e1 with ⟨rfl,z⟩|⟨hj,e1'⟩
  ·cases z;exact (hb _ _ f).elim
  ·exact .inr ⟨j,c,s,e1',e2,f⟩),e⟩
theorem M.frz {F:Fr}{σ:St}{H:Hp}{i:Nat}{ds:List PyData}(m:M F α σ H)(hi:α[i]?=some (some (.own ds))):M F (α.set i (some (.dat (.list ds)))) σ H:=
 (m.put (b:=some (.dat (.list ds))) (fun s c' x _ z f=>by cases z;exact f.elim) fun s c' _ e2 z=>by
  cases z
  obtain⟨l,o,h1,h2,h3,h4,h5⟩:=m.owc i _ hi
  rw[h1] at e2;cases e2
  exact⟨.ref l,rfl,(h3.same (sy (b:=.dat (.list ds)) fun _ _ f=>f)).av (zv (m.gave hi h1 rfl fun c z=>by cases z;exact id) h2)⟩).2
theorem sT {F:Fr}{σ:St}{H H':Hp}{i:Nat}{a:A}{b:Option A}(m:M F α σ H)(k:Kz F H H')(hi:α[i]?=some (some a))(x:Addr)(o:HO)(ho:¬Ob o)(h:Gz F (α.set i b) σ H' x=some o):Gz F α σ H' x=some o:=by
 obtain⟨h1,h2⟩:=zf h
 refine zv ?_ h2
 rintro (z|⟨j,c,s,e1,e2,f⟩)
 ·exact h1 (.inl z)
 ·by_cases hj:i=j
  ·subst hj
   obtain⟨g1,g2,o',g3,g4⟩:=m.ft e1 e2 f
   rw[k _ _ g3 (m.tp.nt g1)] at h2;cases h2;exact ho g4
  ·exact h1 (.inr ⟨j,c,s,by rw[pj hj];exact e1,e2,f⟩)
theorem om {Q:List PyData→Prop}{i:Nat}{a:A}{b:Option A}(hi:α[i]?=some (some a))(hm:∀F σ H,M F α σ H→M F (α.set i b) σ H)(h:EvL X (α.set i b) e fun d=>noLs d=true∧Q d):EvL X α e Q:=fun F σ H R m k=>
 h F σ H R (hm F σ H m) fun d v H' q t kz r=>by
  obtain⟨l,xs,h1,h2,h3,h4⟩:=r
  refine k d v H' q.2 t kz ⟨l,xs,h1,h2,h3,h4.noL (fun a ys hno z=>?_) q.1⟩
  obtain⟨z1,z2⟩:=zf z
  obtain⟨w1,w2⟩:=zf (sT m kz hi a ys hno (zv z1.1 z2))
  exact zv ⟨w1,z1.2⟩ w2
theorem oN (i:Nat){ds:List PyData}(hi:α[i]?=some (some (.own ds)))(h:EvD X (α.set i (some (.dat (.list ds)))) e fun d=>noL d=true∧Q d):EvD X α e Q:=fun F σ H R m k=>
 h F σ H R (m.frz hi) fun d v H' q t kz r=>k d v H' q.2 t kz (r.noL (sT m kz hi) q.1)
theorem vY {Q:Bool→Prop}(i:Nat){ds:List PyData}(hi:α[i]?=some (some (.own ds)))(h:EvT X (α.set i (some (.dat (.list ds)))) e Q):EvT X α e Q:=fun F σ H R m k=>h F σ H R (m.frz hi) k
theorem oM {Q:List PyData→Prop}(i:Nat){ds:List PyData}(hi:α[i]?=some (some (.own ds)))(h:EvL X (α.set i (some (.dat (.list ds)))) e fun d=>noLs d=true∧Q d):EvL X α e Q:=om hi (fun _ _ _ m=>m.frz hi) h
def ItW (p:Addr→Prop)(J:It)(ds:List PyData)(G:Hp):Prop:=∀(i:Nat) (H2:Hp) (q:Addr→Prop),zo G (sub q H2)→
 (∀d,ds[i]?=some d→J.go i H2∧∀x H3,J.yld i H2 x H3→zo H2 H3∧((∀a o,H3 a=some o→H2 a=none→q a)→AV (sub q H3) x d))∧(ds.length≤i→J.stop i H2)
def gc (X:Cx)(tg e:Expr):TI:=fun σ H R=>∃t,PI X tg e t∧t σ H R
theorem wM {tg e:Expr}:PI X tg e (gc X tg e):=fun pins s σ H R I ⟨t,p,q⟩=>p pins s σ H R I q
def EvI (X:Cx)(α:Ev)(tg e:Expr)(Q:List PyData→Prop):Prop:=∀(F:Fr) (σ:St) (H:Hp) (R:It→Hp→Prop),M F α σ H→
 (∀ds J H',Q ds→zI F H'→Kz F H H'→ItW (fun x=>¬Ow F α σ x) J ds (Gz F α σ H')→R J H')→gc X tg e σ H R
theorem yq {tg:Expr}{Q:List PyData→Prop}(h:EvD X α e fun x=>∃ds,x=.list ds∧Q ds):EvI X α tg e Q:=fun F σ H R m k=>by
 refine⟨_,xX zi,?_⟩
 refine h F σ H _ m fun x vx H1 q1 t1 k1 r1=>?_
 obtain⟨ds,rfl,q⟩:=q1
 obtain⟨a,xs,rfl,h1,h2⟩:=r1.lst_inv
 refine⟨a,rfl,⟨xs,SqL.of (zf h1).2⟩,k ds _ H1 q t1 k1 fun i H2 p s=>⟨fun d hd=>?_,fun hl=>?_⟩⟩
 ·obtain⟨x,hx,av⟩:=h2.get hd
  have ha:=SqL.of (K:=X.K) (zf (s _ _ h1)).2
  refine⟨⟨xs,x,ha,hx⟩,fun x' H3 y=>?_⟩
  obtain⟨e,y⟩:=y
  subst e
  have:=y xs ha
  rw[hx] at this;cases this
  exact⟨zo.refl _,fun _=>av.same s⟩
 ·exact⟨xs,SqL.of (zf (s _ _ h1)).2,by rw[h2.length];exact hl⟩
theorem lE {p:Addr→Prop}{lo:Int}{n:Nat}{G:Hp}:ItW p (Itr lo n) ((vf lo n).map .int) G:=fun i H2 q s=>⟨fun d hd=>by
  rw[za6,zb9] at hd
  obtain⟨z,h1,rfl⟩:=hd
  have hi:i<n:=by
   have:=(aL.mp h1).1
   rwa [yt] at this
  rw[uQ hi] at h1
  cases h1
  refine⟨hi,fun x H3 y=>?_⟩
  obtain⟨rfl,rfl⟩:=y
  exact⟨zo.refl _,fun _=>.int _⟩,fun hl=>by
  rw[aI,yt] at hl
  exact hl⟩
theorem tY {tg:Expr}{Q:List PyData→Prop}(hg:Gl X "range")(hm:X.mg "range"=none)(h:EvD X α a fun x=>∃j,x=.int j∧-(2 ^ 62)≤j∧j<2 ^ 62∧Q ((vf 0 j.toNat).map .int))(hs:starEach [a] X.env=[(false,eval a X.env)]:=by rfl):
  EvI X α tg (.Call (.Name "range" p) [a] [] pos) Q:=fun F σ H R m k=>by
 refine⟨_,mD hg hm (za zi zh hs) hs,?_⟩
 refine h F σ H _ m fun x vx H1 q1 t1 k1 r1=>?_
 obtain⟨j,rfl,b1,b2,q⟩:=q1
 cases r1.int_inv
 exact⟨j,rfl,b1,b2,k _ _ H1 q t1 k1 lE⟩
end
inductive Pat where
 |one (i:Nat)
 |many (is:List Nat)
 |nest (i:Nat) (is:List Nat)
def xl :List Nat→List PyData→Ev→Option Ev
 |[],[],α=>some α
 |i::is,d::ds,α=>xl is ds (α.set i (some (.dat d)))
 |_,_,_=>none
def Pat.bind :Pat→PyData→Ev→Option Ev
 |.one i,d,α=>some (α.set i (some (.dat d)))
 |.many is,.tuple ds,α=>xl is ds α
 |.nest i is,.tuple [d,.tuple ds],α=>xl is ds (α.set i (some (.dat d)))
 |_,_,_=>none
def gIs :List Nat→TGs
 |[]=>dX
 |i::is=>nz (vD i) (gIs is)
def uS (K:PySem.W.Frag):Pat→TG
 |.one i=>vD i
 |.many is=>jB K is.length (gIs is)
 |.nest i is=>jB K 2 (nz (vD i) (nz (jB K is.length (gIs is)) dX))
def Pat.slots :Pat→List Nat
 |.one i=>[i]
 |.many is=>is
 |.nest i is=>i::is
def isFree (α:Ev)(i:Nat):Bool:=match α[i]? with
 |some none=>true
 |_=>false
def Pat.free (p:Pat)(α:Ev):Bool:=p.slots.all (isFree α)
section
variable {X:Cx}{α α':Ev}{F:Fr}{σ:St}{H:Hp}
theorem M.store {i:Nat}{v:V}{b:A}{H':Hp}(m:M F α σ H)(t:zI F H')(k:Kz F H H')(hn:∀x,foot (some v) b x→H x=none)(hok:wu (sub (fun x=>¬Ow F α σ x∧¬foot (some v) b x) H') F H' (some v) b)(hx:noX b:=by trivial):M F (α.set i (some b)) (σ.set i (some v)) H':=by
 have m':=m.kz k t
 have hs:∀{j:Nat} {c:A} {s:Option V},(α.set i (some b))[j]?=some (some c)→(σ.set i (some v))[j]?=some s→(i=j∧c=b∧s=some v)∨(i≠j∧α[j]?=some (some c)∧σ[j]?=some s):=fun {j c s} e1 e2=>by
  rcases zG e1 with ⟨rfl,z⟩|⟨hj,e1'⟩
  ·cases z
   have hl:i<σ.length:=by
    have:=(aL.mp e2).1
    rwa [zc3] at this
   rw[zg4 hl] at e2
   cases e2
   exact .inl ⟨rfl,rfl,rfl⟩
  ·rw[zc5 hj] at e2
   exact .inr ⟨hj,e1',e2⟩
 have ow:∀{y:Addr},Ow F (α.set i (some b)) (σ.set i (some v)) y→Ow F α σ y∨foot (some v) b y:=fun {y} h=>by
  rcases h with z|⟨j,c,s,e1,e2,f⟩
  ·exact .inl (.inl z)
  ·rcases hs e1 e2 with ⟨_,rfl,rfl⟩|⟨_,g1,g2⟩
   ·exact .inr f
   ·exact .inl (.inr ⟨j,c,s,g1,g2,f⟩)
 have g1:zo (sub (fun x=>¬Ow F α σ x∧¬foot (some v) b x) H') (Gz F (α.set i (some b)) (σ.set i (some v)) H'):=zm fun a o h e=>⟨fun z=>(ow z).elim h.1 h.2,e⟩
 have g0:zo (Gz F α σ H) (sub (fun x=>¬Ow F α σ x∧¬foot (some v) b x) H'):=zm fun a o h e=>⟨⟨h,fun z=>by rw[hn a z] at e;cases e⟩,k a o e (m.tp.nt (ow0 h))⟩
 refine⟨by rw[zc3,zc3];exact m.len,fun j c s e1 e2=>?_,fun j j' c d s s' x e1 e2 h1 h2 f1 f2=>?_,fun j r q e j' c s x e1 e2 f=>?_,t,m.keep.trans k,m'.oex⟩
 ·rcases hs e1 e2 with ⟨rfl,rfl,rfl⟩|⟨_,z1,z2⟩
  ·exact hok.stay g1 (fun x o f e=>by
    obtain⟨w1,w2,_⟩:=sM hok f
    exact⟨e,w1,w2⟩) rfl fun _ _ _ l=>l
  ·exact (m.ok j c s z1 z2).stay (g0.trans g1) (fun x o f e=>by
    obtain⟨w1,w2,_⟩:=m.ft z1 z2 f
    exact⟨k x o e (m.tp.nt w1),w1,w2⟩) rfl fun _ _ _ l=>l.kz k t
 ·have nn:∀{j:Nat} {c:A} {s:Option V},α[j]?=some (some c)→σ[j]?=some s→foot s c x→¬foot (some v) b x:=fun {j c s} z1 z2 f g=>by
   obtain⟨_,_,o,w,_⟩:=m.ft z1 z2 f
   rw[hn x g] at w;cases w
  rcases hs e1 h1 with ⟨rfl,rfl,rfl⟩|⟨_,z1,z2⟩
  ·rcases hs e2 h2 with ⟨rfl,_⟩|⟨_,w1,w2⟩
   ·rfl
   ·exact absurd f1 (nn w1 w2 f2)
  ·rcases hs e2 h2 with ⟨rfl,rfl,rfl⟩|⟨_,w1,w2⟩
   ·exact absurd f2 (nn z1 z2 f1)
   ·exact m.dj j j' c d s s' x z1 w1 z2 w2 f1 f2
 ·rcases zG e with ⟨rfl,z⟩|⟨_,e'⟩
  ·cases z;exact hx.elim
  ·rcases hs e1 e2 with ⟨rfl,rfl,rfl⟩|⟨_,z1,z2⟩
   ·exact (m.lnk e').none (hn x f)
   ·exact m.xd j r q e' j' c s x z1 z2 f
theorem M.set {i:Nat}{v:V}{d:PyData}(m:M F α σ H)(av:AV (Gz F α σ H) v d):M F (α.set i (some (.dat d))) (σ.set i (some v)) H:=
 m.store m.tp Kz.refl (fun x z=>z.elim) ⟨v,rfl,av.same (zm fun a o h e=>⟨⟨h,fun z=>z⟩,e⟩)⟩
theorem M.setC {i:Nat}{v:V}{c:PyData}{H':Hp}(m:M F α σ H)(t:zI F H')(k:Kz F H H')(fl:iF F α σ H v H' c):M F (α.set i (some (.ow c))) (σ.set i (some v)) H':=by
 obtain⟨l,o,rfl,h1,h2,h3⟩:=fl
 have nl:¬Ow F α σ l:=m.fresh h1
 refine m.store t k (fun x z=>?_) ⟨l,o,rfl,h2,h3.same (zm fun a o h e=>⟨⟨h.1,fun z=>h.2 (by cases z;rfl)⟩,e⟩),ow0 nl,m.fresh0 h1⟩
 have z':some (V.ref l)=some (.ref x):=z
 cases z';exact h1
theorem M.setOwn {i:Nat}{v:V}{ds:List PyData}{H':Hp}(m:M F α σ H)(t:zI F H')(k:Kz F H H')(fl:yA F α σ H v H' ds):M F (α.set i (some (.own ds))) (σ.set i (some v)) H':=m.setC t k fl.c
theorem M.wr {x:Addr}{o:HO}(m:M F α σ H)(hno:xt o)(ho:F.O0 x)(ht:∀t b c,F.tp=some (t,b,c)→x≠t∧x≠b∧x≠c)(h0:F.H0 x=none)(hpl:Plain H x)(hx:∀(i:Nat) r q,α[i]?=some (some (.exc r q))→r.H0 x=none):M F α σ (upd H x o):=by
 have gs:zo (Gz F α σ H) (Gz F α σ (upd H x o)):=zm fun a u h e=>⟨h,by rw[zc (fun z=>h (.inl (by rw[z];exact ho)))];exact e⟩
 refine⟨m.len,fun j c s e1 e2=>?_,m.dj,m.xd,m.tp.upd ht hpl,fun y u e n=>?_,fun y hy=>?_⟩
 ·have:=m.ok j c s e1 e2
  cases c with
  |exc r q=>
   have l:Lnk r F H:=this
   exact⟨l.tp,l.o,l.ok.upd (fun a b c e=>ht a b c (l.tp▸e)) hpl,fun y u e n=>by rw[zc (zd e (hx j r q e1))];exact l.k y u e n⟩
  |_=>exact this.stay gs (fun y u f e=>by
    obtain⟨w1,w2,_⟩:=m.ft e1 e2 f
    exact⟨by rw[zc (fun z=>w1 (by rw[z];exact ho))];exact e,w1,w2⟩) rfl fun _ _ z=>by cases z
 ·rw[zc (zd e h0)];exact m.keep y u e n
 ·by_cases z:y=x
  ·exact⟨o,by rw[z];exact ze,hno⟩
  ·obtain⟨u,hu,hn⟩:=m.oex y hy
   exact⟨u,by rw[zc z];exact hu,hn⟩
theorem M.forget {α0:Ev}(m:M F α σ H)(hl:α0.length=α.length)(le:∀(i:Nat) a,α0[i]?=some (some a)→α[i]?=some (some a)):M F α0 σ H:=by
 have ow:∀{y:Addr},Ow F α0 σ y→Ow F α σ y:=fun {y} h=>by
  rcases h with z|⟨j,c,s,e1,e2,f⟩
  ·exact .inl z
  ·exact .inr ⟨j,c,s,le _ _ e1,e2,f⟩
 have gs:zo (Gz F α σ H) (Gz F α0 σ H):=zm fun a o h e=>⟨fun z=>h (ow z),e⟩
 exact⟨hl.trans m.len,fun j c s e1 e2=>(m.ok j c s (le _ _ e1) e2).stay gs (fun x o f e=>⟨e,(m.ft (le _ _ e1) e2 f).1,(m.ft (le _ _ e1) e2 f).2.1⟩) rfl fun _ _ _ l=>l,fun j j' c d s s' x e1 e2=>m.dj j j' c d s s' x (le _ _ e1) (le _ _ e2),fun j r q e j' c s x e1=>m.xd j r q (le _ _ e) j' c s x (le _ _ e1),m.tp,m.keep,m.oex⟩
theorem vo {H:Hp}:∀{is:List Nat} {ds:List PyData} {α α':Ev} {σ:St} {xs:List V} {R:St→Hp→Prop},xl is ds α=some α'→M F α σ H→(∀G,zo (Gz F α σ H) G→AVs G xs ds)→(∀σ',M F α' σ' H→R σ' H)→gIs is xs σ H R
 |[],[],α,α',σ,xs,R,e,m,av,k=>by
  cases e
  cases av _ (zo.refl _)
  exact⟨rfl,k σ m⟩
 |i::is,d::ds,α,α',σ,xs,R,e,m,av,k=>by
  cases h:av _ (zo.refl _) with
  |@cons x xs _ _ h1 h2=>
   refine⟨x,xs,rfl,?_⟩
   have gs:zo (Gz F α σ H) (Gz F (α.set i (some (.dat d))) (σ.set i (some x)) H):=zm fun a o h e=>⟨fun z=>h (by
    rcases z with z|⟨j,c,s,e1,e2,f⟩
    ·exact .inl z
    ·rcases zG e1 with ⟨_,z⟩|⟨hj,e1'⟩
     ·cases z;exact f.elim
     ·rw[zc5 hj] at e2
      exact .inr ⟨j,c,s,e1',e2,f⟩),e⟩
   exact vo (is:=is) (ds:=ds) e (m.set (i:=i) h1) (fun G s=>h2.same (gs.trans s)) k
 |[],_::_,_,_,_,_,_,e,_,_,_=>by cases e
 |_::_,[],_,_,_,_,_,e,_,_,_=>by cases e
theorem Pat.nest_inv {i:Nat}{is:List Nat}{d:PyData}(e:(Pat.nest i is).bind d α=some α'):∃d0 ds,d=.tuple [d0,.tuple ds]∧xl is ds (α.set i (some (.dat d0)))=some α':=by
 cases d with
 |tuple xs=>
  cases xs with
  |nil=>cases e
  |cons d0 r=>
   cases r with
   |nil=>cases e
   |cons d1 r=>
    cases r with
    |nil=>
     cases d1 with
     |tuple ds=>exact⟨_,_,rfl,e⟩
     |_=>cases e
    |cons _ _=>cases d1<;>cases e
 |_=>cases e
theorem tR :∀{is:List Nat} {ds:List PyData} {α α':Ev},xl is ds α=some α'→ds.length=is.length:=by
 intro is
 induction is with
 |nil=>intro ds α α' h;cases ds with|nil=>rfl|cons _ _=>cases h
 |cons i is ih=>intro ds α α' h;cases ds with|nil=>cases h|cons d ds=>rw[aW,aW,ih h]
theorem rJ {K:PySem.W.Frag}{pat:Pat}{d:PyData}{v:V}{R:St→Hp→Prop}(e:pat.bind d α=some α')(m:M F α σ H)(av:AV (Gz F α σ H) v d)(k:∀σ',M F α' σ' H→R σ' H):uS K pat v σ H R:=by
 cases pat with
 |one i=>cases e;exact k _ (m.set av)
 |many is=>
  cases d with
  |tuple ds=>
   obtain⟨a,xs,rfl,h1,h2⟩:=av.tup_inv
   exact⟨a,xs,rfl,SqT.of (zf h1).2,by rw[h2.length];exact tR e,vo e m (fun G s=>h2.same s) k⟩
  |_=>cases e
 |nest i is=>
  obtain⟨d0,ds,rfl,e⟩:=Pat.nest_inv e
  obtain⟨a,xs,rfl,h1,h2⟩:=av.tup_inv
  cases h2 with
  |@cons x0 r _ _ z1 z2=>
   cases z2 with
   |@cons x1 r _ _ z3 z4=>
    cases z4
    have m1:=m.set (i:=i) z1
    have gs:zo (Gz F α σ H) (Gz F (α.set i (some (.dat d0))) (σ.set i (some x0)) H):=zm fun a o h e=>⟨fun z=>h (by
     rcases z with z|⟨j,c,s,e1,e2,f⟩
     ·exact .inl z
     ·rcases zG e1 with ⟨_,z⟩|⟨hj,e1'⟩
      ·cases z;exact f.elim
      ·rw[zc5 hj] at e2
       exact .inr ⟨j,c,s,e1',e2,f⟩),e⟩
    obtain⟨b,ys,rfl,w1,w2⟩:=(z3.same gs).tup_inv
    exact⟨a,_,rfl,SqT.of (zf h1).2,rfl,_,_,rfl,_,_,rfl,⟨b,ys,rfl,SqT.of (zf w1).2,by rw[w2.length];exact tR e,vo e m1 (fun G s=>w2.same s) fun σ' m'=>⟨rfl,k σ' m'⟩⟩⟩
theorem uY :∀{is:List Nat} {ds:List PyData} {α α':Ev},xl is ds α=some α'→α'.length=α.length
 |[],[],_,_,e=>by cases e;rfl
 |i::is,d::ds,α,α',e=>by
  have:=uY (is:=is) (ds:=ds) e
  rwa [zc3] at this
 |[],_::_,_,_,e=>by cases e
 |_::_,[],_,_,e=>by cases e
theorem uU :∀{is:List Nat} {ds:List PyData} {α α':Ev} {j:Nat},xl is ds α=some α'→j∉is→α'[j]?=α[j]?
 |[],[],_,_,_,e,_=>by cases e;rfl
 |i::is,d::ds,α,α',j,e,h=>by
  rw[uU (is:=is) (ds:=ds) e fun z=>h (aK _ z)]
  exact zc5 fun (z:i=j)=>h (by rw[←z];exact aJ)
 |[],_::_,_,_,_,e,_=>by cases e
 |_::_,[],_,_,_,e,_=>by cases e
theorem wz :∀{is:List Nat} {ds:List PyData} {α α':Ev} {j:Nat} {a:A},xl is ds α=some α'→α'[j]?=some (some a)→(∀d,a≠.dat d)→α[j]?=some (some a)
 |[],[],_,_,_,_,e,h,_=>by cases e;exact h
 |i::is,d::ds,α,α',j,a,e,h,hn=>by
  rcases zG (wz (is:=is) (ds:=ds) e h hn) with ⟨_,z⟩|⟨_,z⟩
  ·cases z;exact absurd rfl (hn d)
  ·exact z
 |[],_::_,_,_,_,_,e,_,_=>by cases e
 |_::_,[],_,_,_,_,e,_,_=>by cases e
theorem Pat.is_ok {pat:Pat}{d:PyData}(e:pat.bind d α=some α'):∃is ds,pat.slots=is∧xl is ds α=some α':=by
 cases pat with
 |one i=>cases e;exact⟨_,[d],rfl,rfl⟩
 |many is=>
  cases d with
  |tuple ds=>exact⟨_,ds,rfl,e⟩
  |_=>cases e
 |nest i is=>
  obtain⟨d0,ds,rfl,e⟩:=Pat.nest_inv e
  exact⟨_,d0::ds,rfl,e⟩
theorem Pat.back {pat:Pat}{d:PyData}(e:pat.bind d α=some α')(fr:pat.free α=true)(m:M F α' σ H):M F α σ H:=by
 obtain⟨is,ds,rfl,e⟩:=Pat.is_ok e
 refine m.forget (uY e).symm fun j a h=>?_
 by_cases hj:j∈pat.slots
 ·have:=zf6.mp fr j hj
  unfold isFree at this
  rw[h] at this
  cases this
 ·rw[uU e hj];exact h
end
section
variable {X:Cx}{α:Ev}
def lD (X:Cx)(α:Ev)(ifs:List Expr)(Q:Bool→Prop):Prop:=∀(F:Fr) (σ:St) (H:Hp) (R:Bool→Hp→Prop),M F α σ H→(∀b H',Q b→zI F H'→Kz F H H'→R b H')→∃t,xW X ifs t∧t σ H R
def fY (X:Cx)(ifs:List Expr):TT:=fun σ H R=>∃t,xW X ifs t∧t σ H R
theorem vX {ifs:List Expr}:xW X ifs (fY X ifs):=fun pins s σ H Q I ⟨t,p,q⟩=>p pins s σ H Q I q
theorem wC {Q:Bool→Prop}(q:Q true):lD X α [] Q:=fun F σ H R m k=>⟨_,iN,k _ H q m.tp Kz.refl⟩
theorem pw {c:Expr}{Q:Bool→Prop}(h:EvT X α c Q):lD X α [c] Q:=fun F σ H R m k=>⟨_,oV xj,h F σ H R m k⟩
def seen :Option A→Option A
 |some (.dat d)=>some (.dat d)
 |some .tape=>some .tape
 |_=>none
def zS (imp:List (Option Nat))(α:Ev):Ev:=imp.map fun o=>o.bind fun j=>(α[j]?).bind seen
theorem wQ {imp:List (Option Nat)}{i:Nat}{a:A}(h:(zS imp α)[i]?=some (some a)):∃j,imp[i]?=some (some j)∧α[j]?=some (some a)∧((∃d,a=.dat d)∨a=.tape):=by
 unfold zS at h
 rw[za6,zb9] at h
 obtain⟨o,h1,h2⟩:=h
 cases o with
 |none=>cases h2
 |some j=>
  have h2':(α[j]?).bind seen=some a:=h2
  cases q:α[j]? with
  |none=>rw[q] at h2';cases h2'
  |some b=>
   rw[q] at h2'
   cases b with
   |none=>cases h2'
   |some b=>
    cases b with
    |dat d=>cases h2';exact⟨j,h1,q,.inl ⟨d,rfl⟩⟩
    |tape=>cases h2';exact⟨j,h1,q,.inr rfl⟩
    |_=>cases h2'
theorem wY {imp:List (Option Nat)}{σ:St}{i j:Nat}{v:V}(h1:imp[i]?=some (some j))(h2:σ[j]?=some (some v)):(yQ imp σ)[i]?=some (some v):=by
 unfold yQ
 rw[za6,h1]
 show some ((σ[j]?).bind id)=_
 rw[h2];rfl
def yN (Y:Addr→Shared→Hp→List Addr→Cx)(pat:Pat)(ifs:List Expr)(elt:Expr)(α0:Ev):List PyData→List PyData→(List PyData→Prop)→Prop
 |[],acc,Q=>Q acc
 |d::ds,acc,Q=>∃α1,pat.bind d α0=some α1∧∀C s2 H2 fp,lD (Y C s2 H2 fp) α1 ifs fun k=>if k=true then ∀C s2 H2 fp,EvD (Y C s2 H2 fp) α1 elt fun y=>yN Y pat ifs elt α0 ds (acc++[y]) Q else yN Y pat ifs elt α0 ds acc Q
def eC (Y:Addr→Shared→Hp→List Addr→Cx)(e:Expr):TE:=fun σ H Q=>∀C s2 H2 fp,vP (Y C s2 H2 fp) e σ H Q
def tsC (Y:Addr→Shared→Hp→List Addr→Cx)(ifs:List Expr):TT:=fun σ H Q=>∀C s2 H2 fp,fY (Y C s2 H2 fp) ifs σ H Q
theorem sR {N:List Str}{imp:List (Option Nat)}{scope:Scope}{tg iter elt:Expr}{ifs:List Expr}{pat:Pat}{Q:List PyData→Prop}(hfree:pat.free (zS imp α)=true)
  (h:EvI X α tg iter fun ds=>ds.length≤1000∧yN (fun C s2 H2 fp=>X.comp N scope C s2 H2 fp) pat ifs elt (zS imp α) ds [] Q)
  (F:Fr) (σ:St) (H:Hp) (R:VK) (m:M F α σ H) (k:∀ds v H',Q ds→zI F H'→Kz F H H'→yA F α σ H v H' ds→R v H'):
  ∃Y:Addr→Shared→Hp→List Addr→Cx,Y=(fun C s2 H2 fp=>X.comp N scope C s2 H2 fp)∧nF (gc X tg iter) imp (uS X.K pat) (tsC Y ifs) (eC Y elt) σ H R:=by
 refine⟨_,rfl,?_⟩
 refine h F σ H _ m fun ds J H1 ⟨hl,q1⟩ t1 k1 itw acc hacc=>?_
 have m1:=m.kz k1 t1
 have nacc:¬Ow F α σ acc:=m1.fresh hacc
 let Fc:Fr:=⟨H1,fun x=>Ow F α σ x∨x=acc,F.tp⟩
 let Nd:Ev→Prop:=fun α1=>∀(j:Nat) a,α1[j]?=some (some a)→(∃d,a=.dat d)∨a=.tape
 have no0:Nd (zS imp α):=fun j a z=>by
  obtain⟨_,_,_,n⟩:=wQ z
  exact n
 have owc:∀{α1:Ev} {τ:St} {x:Addr},Nd α1→(Ow Fc α1 τ x↔Fc.O0 x):=fun {α1 τ x} hh=>⟨fun z=>z.elim id fun⟨j,a,s,e1,e2,f⟩=>by
  rcases hh j a e1 with ⟨d,rfl⟩|rfl
  ·exact f.elim
  ·exact f.elim,.inl⟩
 have gz:∀{α1 α2:Ev} {τ1 τ2:St} {H:Hp},Nd α1→Nd α2→zo (Gz Fc α1 τ1 H) (Gz Fc α2 τ2 H):=fun h1 h2=>zm fun a o h e=>⟨fun z=>h ((owc h1).mpr ((owc h2).mp z)),e⟩
 have tpc:∀{H2:Hp},zI F H2→zI Fc H2:=fun t=>t.to rfl fun x z=>.inl (.inl z)
 have s01:zo H1 (upd H1 acc (.lst [])):=yo hacc
 have mc0:M Fc (zS imp α) (yQ imp σ) (upd H1 acc (.lst [])):=by
  have g1:zo (Gz F α σ H1) (Gz Fc (zS imp α) (yQ imp σ) (upd H1 acc (.lst []))):=fun a o e=>by
   obtain⟨z1,z2⟩:=zf e
   have na:a≠acc:=zd z2 hacc
   exact zv (fun z=>((owc no0).mp z).elim z1 na) (by rw[zc na];exact z2)
  refine⟨by unfold zS yQ;rw[aI,aI],fun i a s e1 e2=>?_,fun i j a b s t x e1 e2 _ _ f=>?_,fun i r q e=>(by rcases no0 i _ e with ⟨d,w⟩|w<;>cases w),tpc (t1.same s01),fun x o e _=>s01 x o e,?_⟩
  ·obtain⟨j,w1,w2,w3⟩:=wQ e1
   rcases w3 with ⟨d,rfl⟩|rfl
   ·obtain⟨v,g2,g3⟩:=m1.dat j d w2
    rw[wY w1 g2] at e2;cases e2
    exact⟨v,rfl,g3.same g1⟩
   ·obtain⟨t,b,c,g2,g3⟩:=m1.tvar j w2
    rw[wY w1 g3] at e2;cases e2
    exact⟨t,b,c,g2,rfl⟩
  ·rcases no0 i a e1 with ⟨d,rfl⟩|rfl
   ·exact f.elim
   ·exact f.elim
  ·rintro x (z|z)
   ·have:∃o,H1 x=some o∧xt o:=m1.owEx z
    obtain⟨o,ho,hn⟩:=this
    exact⟨o,s01 _ _ ho,hn⟩
   ·exact⟨_,by rw[z];exact ze,yp⟩
 refine⟨fun i n ys τ H2=>n=ds.length-i∧i≤ds.length∧∃ad:List PyData,M Fc (zS imp α) τ H2∧H2 acc=some (.lst ys)∧AVs (Gz Fc (zS imp α) τ H2) ys ad∧ad.length≤i∧yN (fun C s2 H2 fp=>X.comp N scope C s2 H2 fp) pat ifs elt (zS imp α) (ds.drop i) ad Q,
  ⟨ds.length,by simp,aS _,[],mc0,ze,.nil,aN _,q1⟩,?_⟩
 rintro i n ys τ H2 ⟨rfl,hi,ad,m2,ha,av,had,cw⟩
 have sG:zo (Gz F α σ H1) (Gz Fc (zS imp α) τ H2):=fun a o e=>by
  obtain⟨z1,z2⟩:=zf e
  exact m2.old a o (zv (p:=fun x=>¬Fc.O0 x) (fun z=>z.elim z1 (zd z2 hacc)) z2)
 obtain⟨w1,w2⟩:=itw i H2 _ sG
 by_cases hlt:i<ds.length
 ·have hd:ds[i]?=some ds[i]:=aM hlt
  have hdr:ds.drop i=ds[i]::ds.drop (i+1):=zb0 hlt
  rw[hdr] at cw
  obtain⟨α1,eb,body⟩:=cw
  obtain⟨go,yl⟩:=w1 _ hd
  have no1:Nd α1:=fun j a z=>by
   obtain⟨is,ds',_,e⟩:=Pat.is_ok eb
   by_cases hn:∀d,a≠.dat d
   ·exact no0 j a (wz e z hn)
   ·simp only[Classical.not_forall,Classical.not_not] at hn
    exact .inl hn
  refine .inr ⟨go,fun ys' τ' H'=>∃ad:List PyData,M Fc (zS imp α) τ' H'∧H' acc=some (.lst ys')∧AVs (Gz Fc (zS imp α) τ' H') ys' ad∧ad.length≤i+1∧yN (fun C s2 H2 fp=>X.comp N scope C s2 H2 fp) pat ifs elt (zS imp α) (ds.drop (i+1)) ad Q,
   fun ys' τ' H' ⟨ad',r1,r2,r3,r4,r5⟩=>⟨ds.length-(i+1),by omega,rfl,hlt,ad',r1,r2,r3,r4,r5⟩,fun x H3 y=>?_⟩
  obtain⟨s23,avx⟩:=yl x H3 y
  have m3:M Fc (zS imp α) τ H3:=m2.kz (Kz.of_same s23) (m2.tp.same s23)
  have avx':=avx fun a o _ e=>m2.fresh e
  refine rJ eb m3 avx' fun τ1 m4 C s2 H2' fp=>?_
  refine body C s2 H2' fp Fc τ1 H3 _ m4 fun b H5 qb t5 k5=>?_
  have m5:=m4.kz k5 t5
  have av5:AVs (Gz Fc (zS imp α) τ1 H5) ys ad:=av.same ((Kz.of_same s23).gz m2.tp |>.trans ((gz (τ2:=τ1) no0 no1).trans ((k5.gz m4.tp).trans (gz no1 no0))))
  have accN:NT Fc acc:=⟨fun t b c e=>by
   have:=(t1 t b c e).1.free hacc
   exact⟨this.1,this.2.1⟩,wR t1.tab hacc⟩
  have ha5:H5 acc=some (.lst ys):=k5 _ _ (s23 _ _ ha) accN
  cases b with
  |false=>
   have qb':yN (fun C s2 H2 fp=>X.comp N scope C s2 H2 fp) pat ifs elt (zS imp α) (ds.drop (i+1)) ad Q:=by simpa using qb
   exact wH ⟨ad,Pat.back eb hfree m5,ha5,av5,by omega,qb'⟩
  |true=>
   refine wx fun C s2 H2'' fp=>?_
   have qe:EvD (X.comp N scope C s2 H2'' fp) α1 elt fun y=>yN (fun C s2 H2 fp=>X.comp N scope C s2 H2 fp) pat ifs elt (zS imp α) (ds.drop (i+1)) (ad++[y]) Q:=by
    have z:=qb
    rw[if_pos rfl] at z
    exact z C s2 H2'' fp
   refine qe Fc τ1 H5 _ m5 fun y v H6 qy t6 k6 r6=>?_
   have m6:=m5.kz k6 t6
   have ha6:H6 acc=some (.lst ys):=k6 _ _ ha5 accN
   have hlen:ys.length≤i:=by rw[av.length];exact had
   have oacc:Fc.O0 acc:=.inr rfl
   have tacc:∀t b c,Fc.tp=some (t,b,c)→acc≠t∧acc≠b∧acc≠c:=fun t b c e=>(t1 t b c e).1.free hacc
   have m7:=(Pat.back eb hfree m6).wr (o:=.lst (ys++[v])) yp oacc tacc hacc (xq ha6) (fun i r q z=>by rcases no0 i _ z with ⟨d,w⟩|w<;>cases w)
   refine⟨ha6,zU (by omega),ad++[y],m7,ze,?_,by simp;omega,qy⟩
   have g67:zo (Gz Fc (zS imp α) τ1 H6) (Gz Fc (zS imp α) τ1 (upd H6 acc (.lst (ys++[v])))):=zm fun a o h e=>⟨h,by rw[zc (fun z=>h (.inl (by rw[z];exact oacc)))];exact e⟩
   exact ((av5.same ((gz (τ2:=τ1) no0 no1).trans ((k6.gz m5.tp).trans (gz no1 no0)))).append (.cons (r6.same (gz no1 no0)) .nil)).same g67
 ·have e:i=ds.length:=by omega
  subst e
  rw[zd3] at cw
  refine .inl ⟨w2 (aN _),k ad _ H2 cw ?_ (k1.trans m2.keep) (yA.back m k1 t1 ⟨acc,ys,rfl,hacc,ha,av.same (zm fun a o h e=>⟨⟨fun z=>h (.inl (.inl z)),fun z=>h (.inl (.inr z))⟩,e⟩)⟩)⟩
  exact m.tp.re m2.tp rfl
theorem nK {N:List Str}{imp:List (Option Nat)}{scope:Scope}{tg iter elt:Expr}{ifs:List Expr}{pat:Pat}{Q:List PyData→Prop}{pos:Pos}(hc:X.calm=true)(S:zA X.N X.env.scope N imp scope)(hfree:pat.free (zS imp α)=true)
  (hg:∀C s2 H2 fp,PG (X.comp N scope C s2 H2 fp) tg (uS X.K pat))
  (h:EvI X α tg iter fun ds=>ds.length≤1000∧yN (fun C s2 H2 fp=>X.comp N scope C s2 H2 fp) pat ifs elt (zS imp α) ds [] Q) (hs:∀x,foldedSetIterable iter X.env x=pure x:=by intro _;rfl):
  EvL X α (.ListComp elt [⟨tg,iter,ifs,0⟩] scope pos) Q:=fun F σ H R m k=>by
 obtain⟨Y,rfl,h⟩:=sR hfree h F σ H R m k
 exact⟨_,ic hc S wM hg (fun C s2 H2 fp pins s σ H Q I h=>vX pins s σ H Q I (h C s2 H2 fp)) (fun C s2 H2 fp pins s σ H Q I h=>zi pins s σ H Q I (h C s2 H2 fp)) hs,h⟩
section
variable {E:yk}{rest body:List Stmt}{e c tg iter:Expr}{pos p:Pos}
theorem qN.then {F:Fr}{D:Ends}(h:qN F E D):qN F {E with nx:=fun α'=>SvS X α' rest E} {D with nx:=jU X rest D}:=
 ⟨fun α' σ' H' m q=>q F σ' H' D m h,h.rt,h.bk,h.ct⟩
theorem zT (q:E.nx α):SvS X α [] E:=fun F σ H D m h=>⟨_,yd,h.nx _ _ _ m q⟩
theorem SvS.imp {sts:List Stmt}{E':yk}(h:SvS X α sts E')(hn:∀α,E'.nx α→E.nx α)(hr:∀a,E'.rt a→E.rt a)(hb:∀α,E'.bk α→E.bk α)(hc:∀α,E'.ct α→E.ct α):SvS X α sts E:=fun F σ H D m r=>
 h F σ H D m ⟨fun α σ H m q=>r.nx α σ H m (hn _ q),fun a v H m q=>r.rt a v H m (hr _ q),fun α σ H m q=>r.bk α σ H m (hb _ q),fun α σ H m q=>r.ct α σ H m (hc _ q)⟩
theorem tf (i:Nat){x:Str}{pos':Pos}(hN:X.N.Nodup)(h:EvD X α e fun d=>SvS X (α.set i (some (.dat d))) rest E)(hi:X.N[i]?=some x:=by rfl)(hx:Loc X.env.scope x:=by first|exact Or.inl rfl|exact Or.inr rfl)
  (hs:swapsWith e (some (.Name x pos')) pos.line X.env=pure false:=by rfl) (hf:X.fn x=true∨X.env.scope.names.lookup x=some .local:=by first|exact .inl rfl|exact .inr rfl|assumption):SvS X α (.Assign [.Name x pos'] e pos::rest) E:=fun F σ H D m r=>by
 refine⟨_,zE (yH hN hi hx zi hs hf) zK,?_⟩
 exact h F σ H _ m fun d v H1 q1 t1 k1 r1=>q1 F _ H1 D ((m.kz k1 t1).set r1) r
theorem sC (i:Nat){x:Str}{pos':Pos}(hN:X.N.Nodup)(h:EvL X α e fun ds=>SvS X (α.set i (some (.own ds))) rest E)(hi:X.N[i]?=some x:=by rfl)(hx:Loc X.env.scope x:=by first|exact Or.inl rfl|exact Or.inr rfl)
  (hs:swapsWith e (some (.Name x pos')) pos.line X.env=pure false:=by rfl) (hf:X.fn x=true∨X.env.scope.names.lookup x=some .local:=by first|exact .inl rfl|exact .inr rfl|assumption):SvS X α (.Assign [.Name x pos'] e pos::rest) E:=fun F σ H D m r=>by
 refine⟨_,zE (yH hN hi hx zi hs hf) zK,?_⟩
 exact h F σ H _ m fun d v H1 q1 t1 k1 r1=>q1 F _ H1 D (m.setOwn t1 k1 r1) r
theorem fF (i:Nat){x:Str}{pos' cpos:Pos}{N:List Str}{imp:List (Option Nat)}{scope:Scope}{elt:Expr}{ifs:List Expr}{pat:Pat}(hN:X.N.Nodup)(hc:X.calm=true)(S:zA X.N X.env.scope N imp scope)(hfree:pat.free (zS imp α)=true)
  (hg:∀C s2 H2 fp,PG (X.comp N scope C s2 H2 fp) tg (uS X.K pat))
  (h:EvI X α tg iter fun ds=>ds.length≤1000∧yN (fun C s2 H2 fp=>X.comp N scope C s2 H2 fp) pat ifs elt (zS imp α) ds [] fun ds=>SvS X (α.set i (some (.own ds))) rest E)
  (hi:X.N[i]?=some x:=by rfl) (hx:Loc X.env.scope x:=by first|exact Or.inl rfl|exact Or.inr rfl) (hsw:swapsWith (.ListComp elt [⟨tg,iter,ifs,0⟩] scope cpos) (some (.Name x pos')) pos.line X.env=pure true:=by rfl)
  (hf:X.fn x=true∨X.env.scope.names.lookup x=some .local:=by first|exact .inl rfl|exact .inr rfl|assumption) (hs:∀x,foldedSetIterable iter X.env x=pure x:=by intro _;rfl):
  SvS X α (.Assign [.Name x pos'] (.ListComp elt [⟨tg,iter,ifs,0⟩] scope cpos) pos::rest) E:=fun F σ H D m r=>by
 obtain⟨Y,rfl,h⟩:=sR hfree h F σ H (fun v H'=>jU X rest D (σ.set i (some v)) H') m fun ds v H' q t k fl=>q F _ H' D (m.setOwn t k fl) r
 exact⟨_,zE (qv hc S wM hg (fun C s2 H2 fp pins s σ H Q I h=>vX pins s σ H Q I (h C s2 H2 fp)) (fun C s2 H2 fp pins s σ H Q I h=>zi pins s σ H Q I (h C s2 H2 fp)) hN hi hx hsw hf hs) zK,h⟩
theorem wV.dat {F:Fr}{σ:St}{H:Hp}{v:V}{d:PyData}(m:M F α σ H)(r:AV (Gz F α σ H) v d):wV F v H (.dat d):=
 ⟨m.tp,m.keep,r.same (zm fun a o h e=>⟨ow0 h,e⟩)⟩
theorem rG (h:EvD X α e fun d=>E.rt (.dat d)):SvS X α (.Return (some e) pos::rest) E:=fun F σ H D m r=>by
 refine⟨_,zE (zp zi) zK,?_⟩
 exact h F σ H _ m fun d v H1 q1 t1 k1 r1=>r.rt _ _ _ (wV.dat (m.kz k1 t1) r1) q1
theorem oU (h:EvL X α e fun ds=>E.rt (.own ds)):SvS X α (.Return (some e) pos::rest) E:=fun F σ H D m r=>by
 refine⟨_,zE (zp zi) zK,?_⟩
 refine h F σ H _ m fun d v H1 q1 t1 k1 r1=>r.rt _ _ _ ?_ q1
 obtain⟨l,xs,h1,h2,h3,h4⟩:=r1
 exact⟨t1,m.keep.trans k1,l,xs,_,h1,rfl,m.fresh0 h2,ow0 (m.fresh h2),h3,h4.same (zm fun a o h e=>⟨⟨ow0 h.1,h.2⟩,e⟩)⟩
theorem nQ (i:Nat){x:Str}{ds:List PyData}(hi:α[i]?=some (some (.own ds)))(q:E.rt (.own ds))(hN:X.N[i]?=some x:=by rfl)(hv:Vis X.env.scope x:=by first|exact Or.inl rfl|exact Or.inr (Or.inl rfl)|exact Or.inr (Or.inr rfl))
  (hd:(x == ("__debug__":Str))=false:=by decide) (hcd:(x == ("__classdict__":Str))=false:=by decide):SvS X α (.Return (some (.Name x p)) pos::rest) E:=fun F σ H D m r=>by
 obtain⟨l,xs,h1,h2,h3,h4,h5⟩:=m.own i ds hi
 refine⟨_,zE (zp (yU hN hv hd hcd)) zK,.ref l,h1,r.rt (.own ds) _ _ ⟨m.tp,m.keep,l,xs,_,rfl,rfl,h5,h4,h2,h3.same (zm fun a o h e=>⟨⟨ow0 h,fun z=>h (by rw[z];exact .inr ⟨i,_,_,hi,h1,rfl⟩)⟩,e⟩)⟩ q⟩
theorem vF {a b:List Stmt}(h:EvT X α c fun k=>SvS X α (if k=true then a else b) {E with nx:=fun α'=>SvS X α' rest E}):SvS X α (.If c a b pos::rest) E:=fun F σ H D m r=>by
 refine⟨_,zE (yL xj zK zK) zK,?_⟩
 refine h F σ H _ m fun k H1 q1 t1 k1=>?_
 cases k with
 |true=>exact wx ((by simpa using q1:SvS X α a _) F σ H1 _ (m.kz k1 t1) r.then)
 |false=>exact wH ((by simpa using q1:SvS X α b _) F σ H1 _ (m.kz k1 t1) r.then)
theorem rq (i:Nat){ds:List PyData}{sts:List Stmt}(hi:α[i]?=some (some (.own ds)))(h:SvS X (α.set i (some (.dat (.list ds)))) sts E):SvS X α sts E:=fun F σ H D m r=>h F σ H D (m.frz hi) r
theorem M.wrC {F:Fr}{σ:St}{H:Hp}{i:Nat}{c c':PyData}{l:Addr}{o':HO}(m:M F α σ H)(hi:α[i]?=some (some (.ow c)))(hl:σ[i]?=some (some (.ref l)))(av:yO (Gz F α σ H) o' c'):
  M F (α.set i (some (.ow c'))) σ (upd H l o'):=by
 obtain⟨l',o,h1,h2,h3,h4,h5⟩:=m.owc i c hi
 rw[hl] at h1;cases h1
 have hs:∀{j:Nat} {a:A} {s:Option V},(α.set i (some (.ow c')))[j]?=some (some a)→σ[j]?=some s→(i=j∧a=.ow c'∧s=some (.ref l))∨(i≠j∧α[j]?=some (some a)):=fun {j a s} e1 e2=>by
  rcases zG e1 with ⟨rfl,z⟩|⟨hj,e1'⟩
  ·cases z;rw[hl] at e2;cases e2;exact .inl ⟨rfl,rfl,rfl⟩
  ·exact .inr ⟨hj,e1'⟩
 have oww:∀{y:Addr},Ow F (α.set i (some (.ow c'))) σ y→Ow F α σ y:=fun {y} h=>by
  rcases h with z|⟨j,a,s,e1,e2,f⟩
  ·exact .inl z
  ·rcases hs e1 e2 with ⟨rfl,rfl,rfl⟩|⟨hj,e1'⟩
   ·exact .inr ⟨i,_,_,hi,hl,f⟩
   ·exact .inr ⟨j,a,s,e1',e2,f⟩
 have ol:Ow F α σ l:=.inr ⟨i,_,_,hi,hl,rfl⟩
 have gs:zo (Gz F α σ H) (Gz F (α.set i (some (.ow c'))) σ (upd H l o')):=zm fun a o h e=>⟨fun z=>h (oww z),by rw[zc (fun z=>h (by rw[z];exact ol))];exact e⟩
 refine⟨by rw[zc3];exact m.len,fun j a s e1 e2=>?_,fun j j' a b s t x e1 e2 q1 q2 f1 f2=>?_,fun j r q e j' a s x e1 e2 f=>?_,m.tp.updO h4 (h3.plain h2),fun y o e n=>?_,fun y hy=>?_⟩
 ·rcases hs e1 e2 with ⟨rfl,rfl,rfl⟩|⟨hj,e1'⟩
  ·exact⟨l,o',rfl,ze,av.same gs,h4,h5⟩
  ·refine (m.ok j a s e1' e2).stay gs (fun y u f e=>?_) rfl fun r q ea k=>⟨k.tp,k.o,k.ok.updO (fun z=>h4 (k.o _ z)) (h3.plain h2),fun y u e n=>?_⟩
   ·obtain⟨w1,w2,_⟩:=m.ft e1' e2 f
    refine⟨?_,w1,w2⟩
    rw[zc fun z=>hj (m.dj i j _ a _ s l hi e1' hl e2 rfl (by rw[←z];exact f))]
    exact e
   ·rw[zc (zd e (m.xd j r q (by rw[←ea];exact e1') i _ _ l hi hl rfl))];exact k.k y u e n
 ·rcases hs e1 q1 with ⟨rfl,rfl,rfl⟩|⟨hj,e1'⟩
  ·rcases hs e2 q2 with ⟨rfl,_⟩|⟨hj',e2'⟩
   ·rfl
   ·exact m.dj i j' _ b _ t x hi e2' hl q2 f1 f2
  ·rcases hs e2 q2 with ⟨rfl,rfl,rfl⟩|⟨hj',e2'⟩
   ·exact m.dj j i a _ s _ x e1' hi q1 hl f1 f2
   ·exact m.dj j j' a b s t x e1' e2' q1 q2 f1 f2
 ·rcases zG e with ⟨_,z⟩|⟨_,e'⟩
  ·cases z
  ·rcases hs e1 e2 with ⟨rfl,rfl,rfl⟩|⟨_,e1'⟩
   ·exact m.xd j r q e' i _ _ x hi hl f
   ·exact m.xd j r q e' j' a s x e1' e2 f
 ·rw[zc (zd e h5)];exact m.keep y o e n
 ·rw[zc (fun z=>h4 (by rw[←z];exact hy))];exact m.oex y hy
theorem M.wrOwn {F:Fr}{σ:St}{H:Hp}{i:Nat}{ds es:List PyData}{l:Addr}{ys:List V}(m:M F α σ H)(hi:α[i]?=some (some (.own ds)))(hl:σ[i]?=some (some (.ref l)))(av:AVs (Gz F α σ H) ys es):
  M F (α.set i (some (.own es))) σ (upd H l (.lst ys)):=m.wrC hi hl (.lst av)
theorem vd (i:Nat){x:Str}{ds:List PyData}{p1 p2 p3:Pos}(hi:α[i]?=some (some (.own ds)))(h:EvD X α e fun d=>ds.length<1000∧SvS X (α.set i (some (.own (ds++[d])))) rest E)
  (hN:X.N[i]?=some x:=by rfl) (hv:Vis X.env.scope x:=by first|exact Or.inl rfl|exact Or.inr (Or.inl rfl)|exact Or.inr (Or.inr rfl)) (hd:(x == ("__debug__":Str))=false:=by decide) (hcd:(x == ("__classdict__":Str))=false:=by decide)
  (hbase:attributeBase (.Name x p1) "append" X.env (eval (.Name x p1) X.env)=eval (.Name x p1) X.env:=by rfl) (hs:starEach [e] X.env=(false,eval e X.env)::starEach [] X.env:=by rfl)
  (hpl:((((backTo p3 (starEach [e] X.env)).all fun x=>!x.fst)&&(backToKw p3 (keywordEach [] X.env)).all fun x=>x.fst.isSome)&&decide (([e].length+([]:List Keyword).length+if ([]:List Keyword).isEmpty=true then 0 else 1)<30))=true:=by rfl)
  (hline:(p2.endLine == p3.line)=true:=by rfl) (hsw:swapsWith (.Call (.Attribute (.Name x p1) "append" p2) [e] [] p3) none pos.line X.env=pure false:=by rfl):SvS X α (.Expr (.Call (.Attribute (.Name x p1) "append" p2) [e] [] p3) pos::rest) E:=fun F σ H D m r=>by
 obtain⟨l,xs,h1,h2,h3,h4,h5⟩:=m.own i ds hi
 refine⟨_,zE (xE (uX zc4 zd8 zd9 yR (yU hN hv hd hcd) (za zi zh hs) hbase hpl hline hs) hsw) zK,?_⟩
 refine⟨.ref l,h1,.inl ⟨rfl,_,SqL.of h2⟩,?_⟩
 refine h F σ H _ m fun d v H1 q1 t1 k1 r1=>?_
 have m1:=m.kz k1 t1
 refine⟨l,xs,v,rfl,rfl,k1 _ _ h2 (m.tp.nt h4),by rw[h3.length];exact zU (zd5 q1.1),?_⟩
 exact q1.2 F σ _ D (m1.wrOwn hi h1 ((h3.same (k1.gz m.tp)).append (.cons r1 .nil))) r
theorem lp (i:Nat){x:Str}{ds:List PyData}{p1 p2 p3:Pos}(hi:α[i]?=some (some (.own ds)))(h:EvD X α e fun d=>∃es,d=.list es∧ds.length+es.length≤1000∧SvS X (α.set i (some (.own (ds++es)))) rest E)
  (hN:X.N[i]?=some x:=by rfl) (hv:Vis X.env.scope x:=by first|exact Or.inl rfl|exact Or.inr (Or.inl rfl)|exact Or.inr (Or.inr rfl)) (hd:(x == ("__debug__":Str))=false:=by decide) (hcd:(x == ("__classdict__":Str))=false:=by decide)
  (hbase:attributeBase (.Name x p1) "extend" X.env (eval (.Name x p1) X.env)=eval (.Name x p1) X.env:=by rfl) (hs:starEach [e] X.env=(false,eval e X.env)::starEach [] X.env:=by rfl)
  (hpl:((((backTo p3 (starEach [e] X.env)).all fun x=>!x.fst)&&(backToKw p3 (keywordEach [] X.env)).all fun x=>x.fst.isSome)&&decide (([e].length+([]:List Keyword).length+if ([]:List Keyword).isEmpty=true then 0 else 1)<30))=true:=by rfl)
  (hline:(p2.endLine == p3.line)=true:=by rfl) (hsw:swapsWith (.Call (.Attribute (.Name x p1) "extend" p2) [e] [] p3) none pos.line X.env=pure false:=by rfl):SvS X α (.Expr (.Call (.Attribute (.Name x p1) "extend" p2) [e] [] p3) pos::rest) E:=fun F σ H D m r=>by
 obtain⟨l,xs,h1,h2,h3,h4,h5⟩:=m.own i ds hi
 refine⟨_,zE (xE (uX zc4 PySem.F.slot_list_extend PySem.F.type_list_extend ml (yU hN hv hd hcd) (za zi zh hs) hbase hpl hline hs) hsw) zK,?_⟩
 refine⟨.ref l,h1,.inl ⟨rfl,_,SqL.of h2⟩,?_⟩
 refine h F σ H _ m fun d v H1 q1 t1 k1 r1=>?_
 have m1:=m.kz k1 t1
 obtain⟨es,rfl,hl,q⟩:=q1
 obtain⟨b,ys,rfl,g1,g2⟩:=r1.lst_inv
 refine⟨l,b,xs,ys,rfl,rfl,k1 _ _ h2 (m.tp.nt h4),(zf g1).2,by rw[h3.length,g2.length];exact zd5 (zU hl),?_⟩
 exact q F σ _ D (m1.wrOwn hi h1 ((h3.same (k1.gz m.tp)).append g2)) r
def vG (X:Cx)(pat:Pat)(body rest:List Stmt)(E:yk):List PyData→Ev→Prop
 |[],α=>SvS X α rest E
 |d::ds,α=>∃α1,pat.bind d α=some α1∧SvS X α1 body {nx:=vG X pat body rest E ds,ct:=vG X pat body rest E ds,bk:=fun α'=>SvS X α' rest E,rt:=E.rt}
theorem oH {pat:Pat}(hp:PassesOwn (model X.prog X.w) X.A X.env X.xe)(hc:X.calm=true)(hg:PG X tg (uS X.K pat))(h:EvI X α tg iter fun ds=>vG X pat body rest E ds α)
  (hs:∀x,foldedSetIterable iter X.env x=pure x:=by intro _;rfl):SvS X α (.For tg iter body [] pos::rest) E:=fun F σ H D m r=>by
 refine⟨_,zE (uu hp hc wM hg zK hs) zK,?_⟩
 refine h F σ H _ m fun ds J H1 q1 t1 k1 itw=>?_
 have m1:=m.kz k1 t1
 have mu:=m1.up
 have ru:qN (F.up (Gz F α σ H1)) E D:=r.up
 refine⟨fun i n σ' H'=>n=ds.length-i∧i≤ds.length∧∃α',M (F.up (Gz F α σ H1)) α' σ' H'∧vG X pat body rest E (ds.drop i) α',⟨ds.length,by simp,aS _,α,mu,q1⟩,?_⟩
 rintro i n σ' H' ⟨rfl,hi,α',m',lw⟩
 obtain⟨w1,w2⟩:=itw i H' _ (m1.upold m')
 by_cases hlt:i<ds.length
 ·have hd:ds[i]?=some ds[i]:=aM hlt
  rw[zb0 hlt] at lw
  obtain⟨α1,eb,body⟩:=lw
  obtain⟨go,yl⟩:=w1 _ hd
  refine .inr ⟨go,fun σ'' H''=>∃α',M (F.up (Gz F α σ H1)) α' σ'' H''∧vG X pat _ rest E (ds.drop (i+1)) α',fun σ'' H'' ⟨α'',r1,r2⟩=>⟨ds.length-(i+1),by omega,rfl,hlt,α'',r1,r2⟩,fun x H3 y=>?_⟩
  obtain⟨s23,avx⟩:=yl x H3 y
  have m3:=m'.kz (Kz.of_same s23) (m'.tp.same s23)
  refine rJ eb m3 (avx fun a o _ e=>m'.fresh e) fun σ1 m4=>?_
  exact body _ σ1 H3 _ m4 ⟨fun α2 σ2 H2 m2 q=>⟨α2,m2,q⟩,ru.rt,fun α2 σ2 H2 m2 q=>q _ σ2 H2 D m2 ru,fun α2 σ2 H2 m2 q=>⟨α2,m2,q⟩⟩
 ·have e:i=ds.length:=by omega
  subst e
  rw[zd3] at lw
  exact .inl ⟨w2 (aN _),lw _ σ' H' D m' ru⟩
theorem xT {pat:Pat}{ds:List PyData}(P:Nat→Ev→Prop)(h0:P 0 α)(hs:∀i d α,ds[i]?=some d→P i α→∃α1,pat.bind d α=some α1∧SvS X α1 body {nx:=P (i+1),ct:=P (i+1),bk:=fun α'=>SvS X α' rest E,rt:=E.rt})
  (hd:∀α,P ds.length α→SvS X α rest E):vG X pat body rest E ds α:=by
 have key:∀n i α,n=ds.length-i→i≤ds.length→P i α→vG X pat body rest E (ds.drop i) α:=by
  intro n
  induction n with
  |zero=>
   intro i α hn hi p
   have e:i=ds.length:=by omega
   subst e
   rw[zd3]
   exact hd α p
  |succ n ih=>
   intro i α hn hi p
   have hlt:i<ds.length:=by omega
   rw[zb0 hlt]
   obtain⟨α1,e,b⟩:=hs i ds[i] α (aM hlt) p
   exact⟨α1,e,b.imp (fun α p=>ih (i+1) α (by omega) hlt p) (fun _ z=>z) (fun _ z=>z) (fun α p=>ih (i+1) α (by omega) hlt p)⟩
 exact key _ 0 α rfl (aS _) h0
end
end
section
variable {P:Program}{w:World}{K:PySem.W.Frag}{mg:Str→Option Value}{base:Heap}
theorem M.start {F:Fr}{N:List Str}{vs:List V}{as:List A}{H:Hp}(e:F.H0=H)(t:zI F H)(o:∀x,F.O0 x→∃u,H x=some u∧xt u)(rv:yc F (sub (fun x=>¬F.O0 x) H) vs as):
  M F (as.map some++List.replicate (N.length-as.length) none) (L2.start N vs) H:=by
 have hl:=rv.length
 have g:∀{i:Nat} {a:A},(as.map some++List.replicate (N.length-as.length) none)[i]?=some (some a)→as[i]?=some a:=fun {i a} h=>by
  rcases Nat.lt_or_ge i as.length with z|z
  ·rw[zc9 (by rw[aI];exact z),za6,zb9] at h
   obtain⟨b,h1,h2⟩:=h
   cases h2;exact h1
  ·rw[zd6 (by rw[aI];exact z),zf8] at h
   split at h<;>cases h
 have at':∀{vs:List V} {as:List A} {i:Nat} {a:A},yc F (sub (fun x=>¬F.O0 x) H) vs as→as[i]?=some a→∃v,vs[i]?=some v∧mZ F (sub (fun x=>¬F.O0 x) H) v a:=by
  intro vs as i a h
  induction h generalizing i with
  |nil=>intro e;simp at e
  |cons h r ih=>
   intro e
   cases i with
   |zero=>simp at e;subst e;exact⟨_,rfl,h⟩
   |succ i=>obtain⟨v,h1,h2⟩:=ih (by simpa using e);exact⟨v,by simpa using h1,h2⟩
 have gv:∀{i:Nat} {v:V},vs[i]?=some v→(L2.start N vs)[i]?=some (some v):=fun {i v} h=>by
  have hi:i<vs.length:=(aL.mp h).1
  unfold L2.start
  rw[zc9 (by rw[aI];exact hi),za6,h];rfl
 have no:∀(i:Nat) a,(as.map some++List.replicate (N.length-as.length) none)[i]?=some (some a)→(∃d,a=.dat d)∨a=.tape:=fun i a z=>by
  obtain⟨v,_,h⟩:=at' rv (g z)
  cases a with
  |dat d=>exact .inl ⟨d,rfl⟩
  |tape=>exact .inr rfl
  |_=>exact h.elim
 have gs:zo (sub (fun x=>¬F.O0 x) H) (Gz F (as.map some++List.replicate (N.length-as.length) none) (L2.start N vs) H):=zm fun a o h e=>⟨fun z=>z.elim h fun⟨i,b,s,e1,_,f⟩=>by
  rcases no i b e1 with ⟨d,rfl⟩|rfl
  ·exact f.elim
  ·exact f.elim,e⟩
 refine⟨by unfold L2.start;simp[hl],fun i a s e1 e2=>?_,fun i j a b s t x e1 _ _ _ f=>?_,fun i r q z=>(by rcases no i _ z with ⟨d,w⟩|w<;>cases w),t,fun x o' h _=>by rw[←e];exact h,o⟩
 ·obtain⟨v,h1,h2⟩:=at' rv (g e1)
  rw[gv h1] at e2;cases e2
  rcases no i a e1 with ⟨d,rfl⟩|rfl
  ·exact⟨v,rfl,AV.same gs h2⟩
  ·obtain⟨t',b,c,h3,rfl⟩:=h2
   exact⟨t',b,c,h3,rfl⟩
 ·rcases no i a e1 with ⟨d,rfl⟩|rfl
  ·exact f.elim
  ·exact f.elim
theorem fnA {x qual:Str}{st:Stmt}{f:Addr}{fd:FuncData}{N ps:List Str}{k:Nat}{φ:List A→(A→Prop)→Prop}(G:Fun K x qual st f fd)(S:zl N ps (zb st))(hlen:∀as Q,φ as Q→as.length=ps.length)
  (hbody:∀(cdv:Value) (A':Around) (outer:List Env) (s:Shared) (H:Hp) (E:XK) (as:List A) (Q:A→Prop),zR k (A'.deeper (envOfC qual (zb st) s.heap.objs.size f cdv))→φ as Q→
   SvS (vt CX0 P w K mg base N qual (zb st) f cdv A' outer s H E).nox (as.map some++List.replicate (N.length-as.length) none) (zw st) {nx:=fun _=>Q (.dat .none),rt:=Q}):zt P w K mg base CX0 (k+1) f fd ps (spA φ):=by
 refine G.ok S (fun vs H Q E h=>?_) (fun cdv A' outer s H vs Qc E hr h=>?_)
 ·obtain⟨F,as,Q',_,_,_,rv,hφ,_⟩:=h
  rw[rv.length,hlen as _ hφ]
 ·obtain⟨F,as,Q',e,t,o,rv,hφ,kk⟩:=h
  refine hbody cdv A' outer s H E as Q' hr hφ F _ H _ (M.start e t o rv) ⟨fun α σ H' m q=>?_,fun a v H' r q=>kk a v H' q r,fun _ _ _ _ z=>z.elim,fun _ _ _ _ z=>z.elim⟩
  exact kk _ _ _ q ⟨m.tp,m.keep,.non⟩
end
section
variable {X:Cx}{pins:List (Addr×Obj)}{σ:St}{H:Hp}{s:Shared}{h':Heap}
theorem Inv.turnL {t':Nat}{ch:List Addr}(I:Inv X pins σ H s)(k:∀b o,b∉ch→s.heap.get? b=some o→h'.get? b=some o)(hf:∀b∈ch,ve X pins H b):Inv X pins σ H {s with heap:=h',toks:=t'}:=by
 have nit:∀b u,H b=some u→b∉ch:=fun b u e z=>by rw[(hf b z).1] at e;cases e
 refine I.step (g':=s.gens) (d':=s.drawn) (ch:=ch) (fun b hb=>?_) (fun b o _ _ hc e _=>k b o hc e) (fun b o _ _ hc e _=>⟨o.slots,k b o hc e⟩) (fun _ _ _ _ n=>n)
  (fun b o hc e=>⟨o,k b o hc e⟩) (fun _ _ e=>e) (fun _ _ _ e=>e) (fun b ps e=>⟨#[],by rw[e];simp⟩) (fun m hm=>?_) (fun b u e=>?_) I.bare
 ·obtain⟨_,f1,_,f3,f4,f5⟩:=hf b hb
  exact⟨f3,f1,f4,f5⟩
 ·obtain⟨o,es,ep,ho,r⟩:=hm
  exact⟨o,es,ep,k _ o (fun z=>(hf _ z).2.1 rfl) ho,r⟩
 ·refine (I.hok b u e).stay (fun c v hc q=>k c v ?_ q) (fun _ q=>q) fun _ _ q=>q
  rcases hc with z|z
  ·rw[z];exact nit b u e
  ·exact nit c _ z
theorem Inv.turnLay {t':Nat}{ch:List Addr}{T:Addr}{o:HO}(I:Inv X pins σ H s)(k:∀b o,b∉ch→s.heap.get? b=some o→h'.get? b=some o)(hf:∀b∈ch,ve X pins H b)(hT:s.heap.objs.size≤T)(new:yi X.prog X.w (upd H T o) h' T o):
  Inv X pins σ (upd H T o) {s with heap:=h',toks:=t'}:=by
 have nit:∀b u,H b=some u→b∉ch:=fun b u e z=>by rw[(hf b z).1] at e;cases e
 have hn:H T=none:=I.hok.fresh hT
 have lt:∀{b:Addr} {u:Obj},s.heap.get? b=some u→b≠T:=fun e=>za1 (za2 (aQ e) hT)
 refine I.step (g':=s.gens) (d':=s.drawn) (ch:=ch) (fun b hb=>?_) (fun b o _ _ hc e _=>k b o hc e) (fun b o _ _ hc e _=>⟨o.slots,k b o hc e⟩) (fun b u _ e n=>by rw[zc (lt e)];exact n)
  (fun b o hc e=>⟨o,k b o hc e⟩) (fun b xs e=>by rw[zc (zd e hn)];exact e) (fun b u xs e=>by rw[zc (zd e hn)];exact e) (fun b ps e=>⟨#[],by rw[zc (zd e hn),e];simp⟩) (fun m hm=>?_) (fun b u e=>?_) I.bare
 ·obtain⟨_,f1,_,f3,f4,f5⟩:=hf b hb
  exact⟨f3,f1,f4,f5⟩
 ·obtain⟨o,es,ep,ho,r⟩:=hm
  exact⟨o,es,ep,k _ o (fun z=>(hf _ z).2.1 rfl) ho,r⟩
 ·by_cases hb:b=T
  ·subst hb;rw[ze] at e;cases e;exact new
  ·rw[zc hb] at e
   refine (I.hok b u e).stay (fun c v hc q=>k c v ?_ q) (fun c q=>by rw[zc (zd q hn)];exact q) fun c xs q=>by rw[zc (zd q hn)];exact q
   rcases hc with z|z
   ·rw[z];exact nit b u e
   ·exact nit c _ z
end
theorem wN {a b:Nat}(h:a<b):(a:Addr)≠b:=za1 h
theorem ji {a b:Nat}(h:b<a):(a:Addr)≠b:=Nat.ne_of_gt h
theorem mY (n l1 l2:Nat)(h1:l1<n)(h2:l2<n):ZipApart (n+4) (n+2) (n+3) n (n+1) l1 l2 where
 TIz:=wN (a:=n+2) (b:=n+4) (by omega)
 TOz:=wN (a:=n+3) (b:=n+4) (by omega)
 i1z:=wN (a:=n) (b:=n+4) (by omega)
 i2z:=wN (a:=n+1) (b:=n+4) (by omega)
 TITO:=wN (a:=n+2) (b:=n+3) (by omega)
 TIi1:=ji (a:=n+2) (b:=n) (by omega)
 TIi2:=ji (a:=n+2) (b:=n+1) (by omega)
 TOi1:=ji (a:=n+3) (b:=n) (by omega)
 TOi2:=ji (a:=n+3) (b:=n+1) (by omega)
 i12:=wN (a:=n) (b:=n+1) (by omega)
 l1z:=wN (a:=l1) (b:=n+4) (by omega)
 l1TO:=wN (a:=l1) (b:=n+3) (by omega)
 l1i1:=wN (a:=l1) (b:=n) (by omega)
 l1i2:=wN (a:=l1) (b:=n+1) (by omega)
 l2z:=wN (a:=l2) (b:=n+4) (by omega)
 l2TO:=wN (a:=l2) (b:=n+3) (by omega)
 l2i1:=wN (a:=l2) (b:=n) (by omega)
 l2i2:=wN (a:=l2) (b:=n+1) (by omega)
def Itz (K:PySem.W.Frag)(l1 l2:Addr):It:=
 ⟨fun i H=>∃xs ys x y,SqL K H l1 xs∧SqL K H l2 ys∧xs[i]?=some x∧ys[i]?=some y,
  fun i H v H'=>∃T x y,v=.ref T∧H T=none∧H'=upd H T (.tup [x,y])∧(∀xs,SqL K H l1 xs→xs[i]?=some x)∧∀ys,SqL K H l2 ys→ys[i]?=some y,
  fun i H=>∃xs ys,SqL K H l1 xs∧SqL K H l2 ys∧(xs.length≤i∨ys.length≤i)⟩
def Ite (K:PySem.W.Frag)(l:Addr):It:=
 ⟨fun i H=>∃xs x,SqL K H l xs∧xs[i]?=some x,
  fun i H v H'=>∃T x,v=.ref T∧H T=none∧H'=upd H T (.tup [.int i,x])∧∀xs,SqL K H l xs→xs[i]?=some x,
  fun i H=>∃xs,SqL K H l xs∧xs.length≤i⟩
theorem jT {P:Program}{w:World}{K:PySem.W.Frag}{elts:List Expr}{kk:Nat}{pos:Pos}{z TI TO i1 i2 l1 l2:Addr}(D:ZipApart z TI TO i1 i2 l1 l2):
  Turn P w K (.Tuple elts kk pos) (Itz K l1 l2) [z,TI,TO,i1,i2] z (fun i h=>IsZip h z TI TO .none∧IsPair h TI (.ref i1) (.ref i2)∧(∃a b,IsPair h TO a b)∧h.IsListIter i1 l1 i∧h.IsListIter i2 l2 i) where
 mem:=by simp
 obj:=fun i h st b hb=>by
  obtain⟨h1,h2,⟨a,c,h3⟩,⟨o1,e1,_,d1⟩,⟨o2,e2,_,d2⟩⟩:=st
  simp only[aP,za7,zd4] at hb
  rcases hb with rfl|rfl|rfl|rfl|rfl
  ·exact⟨_,h1,fun v z=>by cases (show Data.fields _=Data.cell v from z)⟩
  ·exact⟨_,h2,fun v z=>by cases (show Data.seq _ _=Data.cell v from z)⟩
  ·exact⟨_,h3,fun v z=>by cases (show Data.seq _ _=Data.cell v from z)⟩
  ·exact⟨o1,e1,fun v z=>by rw[d1] at z;cases z⟩
  ·exact⟨o2,e2,fun v z=>by rw[d2] at z;cases z⟩
 keep:=fun i h h' st k=>by
  obtain⟨h1,h2,⟨a,c,h3⟩,h4,h5⟩:=st
  exact⟨k z (by simp) _ h1,k TI (by simp) _ h2,⟨a,c,k TO (by simp) _ h3⟩,h4.at fun o e=>k i1 (by simp) o e,h5.at fun o e=>k i2 (by simp) o e⟩
 item:=by
  intro X hP hw hK hc i pins s σ H E I hf st hg
  subst hP hw hK
  obtain⟨xs,ys,x,y,hq1,hq2,hx,hy⟩:=hg
  obtain⟨its1,rv1,p1,hz1⟩:=I.list hq1
  obtain⟨its2,rv2,p2,hz2⟩:=I.list hq2
  obtain⟨u,hu,ru⟩:=rv1.get hx
  obtain⟨v,hv,rv⟩:=rv2.get hy
  obtain⟨h1,h2,⟨a,c,h3⟩,h4,h5⟩:=st
  refine wpAny_pyNext_zip_item D h1 h2 h3 h4 h5 p1.isList p2.isList (x:=u) (y:=v) (by simpa using hu) (by simpa using hv) fun h' a1 a2 a3 a4 a5 a6 hk=>⟨_,rfl,?_⟩
  refine wpAny_letOwnedTupleGo_zip (s:={s with heap:=h'}) a1 fun h'' b1 b2=>?_
  have hTz:s.heap.objs.size≠z:=Nat.ne_of_gt (aQ h1)
  have hk2:∀b o,b∉[z,TI,TO,i1,i2]→s.heap.get? b=some o→h''.get? b=some o:=fun b o hb e=>by
   simp only[aP,za7,zd4,not_or] at hb
   exact b2.extBut _ _ hb.1 (hk b o hb.1 hb.2.2.1 hb.2.2.2.1 hb.2.2.2.2 e)
  have gT:h''.get? s.heap.objs.size=some {cls:=.type "tuple",data:=.seq #[u,v]}:=b2.extBut _ _ hTz a5
  have J:=I.turnLay (t':=s.toks) (T:=s.heap.objs.size) (o:=.tup [x,y]) hk2 hf (aN _) ⟨by show 2≤sizeLine;decide,[u,v],.cons ru (.cons rv .nil),_,gT,rfl,0,rfl⟩
  refine⟨.ref s.heap.objs.size,_,J,rfl,⟨_,x,y,rfl,I.hok.fresh (aN _),rfl,fun zs hz=>by rw[I.list_inj hz hq1];exact hx,fun zs hz=>by rw[I.list_inj hz hq2];exact hy⟩,⟨b1,b2.extBut _ _ D.TIz (hk _ _ D.TIz D.TITO D.TIi1 D.TIi2 h2),⟨u,v,b2.extBut _ _ D.TOz a2⟩,a3.extBut b2.extBut D.i1z,a4.extBut b2.extBut D.i2z⟩,fun b hb=>?_⟩
  rw[zc]
  ·exact (hf b hb).1
  ·obtain⟨o,e,_⟩:=(show ∃o,s.heap.get? b=some o∧True from by
    simp only[aP,za7,zd4] at hb
    obtain⟨o1,e1,_⟩:=h4
    obtain⟨o2,e2,_⟩:=h5
    rcases hb with rfl|rfl|rfl|rfl|rfl
    ·exact⟨_,h1,trivial⟩
    ·exact⟨_,h2,trivial⟩
    ·exact⟨_,h3,trivial⟩
    ·exact⟨_,e1,trivial⟩
    ·exact⟨_,e2,trivial⟩)
   exact za1 (aQ e)
 done:=by
  intro X hP hw hK hc i pins s σ H E I hf st hg
  subst hP hw hK
  obtain⟨xs,ys,hq1,hq2,hl⟩:=hg
  obtain⟨its1,rv1,p1,hz1⟩:=I.list hq1
  obtain⟨its2,rv2,p2,hz2⟩:=I.list hq2
  obtain⟨h1,h2,⟨a,c,h3⟩,h4,h5⟩:=st
  have e1:=rv1.length
  have e2:=rv2.length
  refine wpAny_pyNext_zip_end (I.ok.hd hc) D h1 h2 h3 h4 h5 p1.isList p2.isList (hl.imp (fun z=>by simp;omega) fun z=>by simp;omega) fun h' hk=>⟨rfl,?_⟩
  exact I.turnL (t':=s.toks) (ch:=[z,TI,TO,i1,i2]) (fun b o hb e=>by
   simp only[aP,za7,zd4,not_or] at hb
   exact hk b o hb.1 hb.2.2.1 hb.2.2.2.1 hb.2.2.2.2 e) hf
 self:=fun A i s Q E st h=>wpAny_pyIter_zip st.1 h
theorem lj {P:Program}{w:World}{K:PySem.W.Frag}{elts:List Expr}{kk:Nat}{pos:Pos}{e it l:Addr}(hne:e≠it):
  Turn P w K (.Tuple elts kk pos) (Ite K l) [e,it] e (fun i h=>(∃old,IsEnum h e it i old)∧h.IsListIter it l i) where
 mem:=by simp
 obj:=fun i h st b hb=>by
  obtain⟨⟨old,h1⟩,⟨o1,e1,_,d1⟩⟩:=st
  simp only[aP,za7,zd4] at hb
  rcases hb with rfl|rfl
  ·exact⟨_,h1,fun v z=>by cases (show Data.fields _=Data.cell v from z)⟩
  ·exact⟨o1,e1,fun v z=>by rw[d1] at z;cases z⟩
 keep:=fun i h h' st k=>by
  obtain⟨⟨old,h1⟩,h4⟩:=st
  exact⟨⟨old,k e (by simp) _ h1⟩,h4.at fun o q=>k it (by simp) o q⟩
 item:=by
  intro X hP hw hK hc i pins s σ H E I hf st hg
  subst hP hw hK
  obtain⟨xs,x,hq1,hx⟩:=hg
  obtain⟨its1,rv1,p1,hz1⟩:=I.list hq1
  obtain⟨u,hu,ru⟩:=rv1.get hx
  obtain⟨⟨old,h1⟩,h4⟩:=st
  refine wpAny_pyNext_enum_item h1 h4 p1.isList (x:=u) (by simpa using hu) hne fun h' a1 a3 a5 a6 hk=>⟨_,rfl,?_⟩
  refine wpAny_letOwnedTupleGo_enum (s:={s with heap:=h',toks:=s.toks+1}) a1 fun h'' b1 b2=>?_
  have hTz:s.heap.objs.size≠e:=Nat.ne_of_gt (aQ h1)
  have hk2:∀b o,b∉[e,it]→s.heap.get? b=some o→h''.get? b=some o:=fun b o hb q=>by
   simp only[aP,za7,zd4,not_or] at hb
   exact b2.extBut _ _ hb.1 (hk b o hb.1 hb.2 q)
  have gT:h''.get? s.heap.objs.size=some {cls:=.type "tuple",data:=.seq #[.int i s.toks,u]}:=b2.extBut _ _ hTz a5
  have J:=I.turnLay (t':=s.toks+1) (T:=s.heap.objs.size) (o:=.tup [.int i,x]) hk2 hf (aN _) ⟨by show 2≤sizeLine;decide,[.int i s.toks,u],.cons ⟨_,rfl⟩ (.cons ru .nil),_,gT,rfl,0,rfl⟩
  refine⟨.ref s.heap.objs.size,_,J,rfl,⟨_,x,rfl,I.hok.fresh (aN _),rfl,fun zs hz=>by rw[I.list_inj hz hq1];exact hx⟩,⟨⟨u,by simpa using b1⟩,a3.extBut b2.extBut hne.symm⟩,fun b hb=>?_⟩
  rw[zc]
  ·exact (hf b hb).1
  ·obtain⟨o,q,_⟩:=(show ∃o,s.heap.get? b=some o∧True from by
    simp only[aP,za7,zd4] at hb
    obtain⟨o1,e1,_⟩:=h4
    rcases hb with rfl|rfl
    ·exact⟨_,h1,trivial⟩
    ·exact⟨_,e1,trivial⟩)
   exact za1 (aQ q)
 done:=by
  intro X hP hw hK hc i pins s σ H E I hf st hg
  subst hP hw hK
  obtain⟨xs,hq1,hl⟩:=hg
  obtain⟨its1,rv1,p1,hz1⟩:=I.list hq1
  obtain⟨⟨old,h1⟩,h4⟩:=st
  have e1:=rv1.length
  refine wpAny_pyNext_enum_end (I.ok.hd hc) h1 h4 p1.isList (by simp;omega) fun h' hk=>⟨rfl,?_⟩
  exact I.turnL (t':=s.toks) (ch:=[e,it]) (fun b o hb q=>by
   simp only[aP,za7,zd4,not_or] at hb
   exact hk b o hb.2 q) hf
 self:=fun A i s Q E st h=>by
  obtain⟨⟨old,h1⟩,h4⟩:=st
  exact wpAny_pyIter_enum h1 h
section
variable {X:Cx}{α:Ev}{elts:List Expr}{kk:Nat}{tp p pos:Pos}{a b:Expr}
def ai (K:PySem.W.Frag)(ta:TA):TI:=fun σ H R=>ta σ H fun vs H1=>∃l1 l2,vs=[.ref l1,.ref l2]∧(∃xs,SqL K H1 l1 xs)∧(∃ys,SqL K H1 l2 ys)∧R (Itz K l1 l2) H1
theorem eY {ta:TA}(hg:Gl X "zip")(hm:X.mg "zip"=none)(ha:PA X [a,b] ta)(hs:starEach [a,b] X.env=[(false,eval a X.env),(false,eval b X.env)]:=by rfl)(hs2:starEach [b] X.env=[(false,eval b X.env)]:=by rfl):
  PI X (.Tuple elts kk tp) (.Call (.Name "zip" p) [a,b] [] pos) (ai X.K ta):=by
 intro pins s σ H R I h
 refine Call_ (vw I hg hm boot_zip (ze5 (thn (ha pos pins s σ H _ I h) fun us s1 ⟨vs,H1,I1,r1,q1⟩=>?_) (by rw[hs,hs2]) (by rw[hs2];rfl)))
 obtain⟨l1,l2,e,⟨xs,hq1⟩,⟨ys,hq2⟩,q⟩:=q1
 subst e
 obtain⟨u,v,rfl,ru,rv⟩:=Vals.two r1
 cases (show u=Value.ref l1 from ru)
 cases (show v=Value.ref l2 from rv)
 obtain⟨its1,rv1,p1,hz1⟩:=I1.list hq1
 obtain⟨its2,rv2,p2,hz2⟩:=I1.list hq2
 refine call_zip_2 p1.isList p2.isList fun h' z1 z2 z3 z4 z5 z6 hk=>?_
 refine wpAny_pyIter_zip (s:={s1 with heap:=h'}) z1 ?_
 have lt1:l1<s1.heap.objs.size:=by obtain⟨o,e,_⟩:=p1.isList;exact aQ e
 have lt2:l2<s1.heap.objs.size:=by obtain⟨o,e,_⟩:=p2.isList;exact aQ e
 have fr:∀n,H1 (s1.heap.objs.size+n)=none:=fun n=>I1.hok.fresh (Nat.le_add_right _ _)
 have D:ZipApart (s1.heap.objs.size+4) (s1.heap.objs.size+2) (s1.heap.objs.size+3) s1.heap.objs.size (s1.heap.objs.size+1) l1 l2:=mY _ _ _ lt1 lt2
 refine⟨_,_,_,_,H1,rfl,I1.kept (t':=s1.toks) fun b o e=>hk b o e,jT D,⟨z1,z2,⟨_,_,z3⟩,z4,z5⟩,fun b hb=>?_,q⟩
 simp only[aP,za7,zd4] at hb
 have hb':s1.heap.objs.size≤b:=by
  have key:∀n b:Nat,n=s1.heap.objs.size→(b=n+4∨b=n+2∨b=n+3∨b=n∨b=n+1)→n≤b:=fun n b _ h=>by omega
  exact key _ _ rfl (by rcases hb with z|z|z|z|z<;>simp[z])
 exact I1.fpOk hb' (I1.hok.fresh hb')
def bz (K:PySem.W.Frag)(ta:TA):TI:=fun σ H R=>ta σ H fun vs H1=>∃l,vs=[.ref l]∧(∃xs,SqL K H1 l xs)∧R (Ite K l) H1
theorem iL {ta:TA}(hg:Gl X "enumerate")(hm:X.mg "enumerate"=none)(ha:PA X [a] ta)(hs:starEach [a] X.env=[(false,eval a X.env)]:=by rfl):
  PI X (.Tuple elts kk tp) (.Call (.Name "enumerate" p) [a] [] pos) (bz X.K ta):=by
 intro pins s σ H R I h
 refine Call_ (vw I hg hm boot_enumerate (ze5 (thn (ha pos pins s σ H _ I h) fun us s1 ⟨vs,H1,I1,r1,q1⟩=>?_) hs rfl))
 obtain⟨l1,e,⟨xs,hq1⟩,q⟩:=q1
 subst e
 obtain⟨u,rfl,ru⟩:=Vals.one r1
 cases (show u=Value.ref l1 from ru)
 obtain⟨its1,rv1,p1,hz1⟩:=I1.list hq1
 refine call_enumerate_list p1.isList fun h' z1 z4 z6 hk=>?_
 refine wpAny_pyIter_enum (s:={s1 with heap:=h'}) z1 ?_
 refine⟨_,_,_,_,H1,rfl,I1.kept (t':=s1.toks) fun b o e=>hk b o e,lj (ji (a:=s1.heap.objs.size+1) (b:=s1.heap.objs.size) (zh9 _)),⟨⟨_,z1⟩,z4⟩,fun b hb=>?_,q⟩
 simp only[aP,za7,zd4] at hb
 have hb':s1.heap.objs.size≤b:=by
  have key:∀n b:Nat,n=s1.heap.objs.size→(b=n+1∨b=n)→n≤b:=fun n b _ h=>by omega
  exact key _ _ rfl hb
 exact I1.fpOk hb' (I1.hok.fresh hb')
def rN (ds es:List PyData):List PyData:=List.zipWith (fun d e=>.tuple [d,e]) ds es
theorem cu {Q:List PyData→Prop}(hg:Gl X "zip")(hm:X.mg "zip"=none)(h:EvD X α a fun x=>EvD X α b fun y=>∃ds es,x=.list ds∧y=.list es∧Q (rN ds es))
  (hs:starEach [a,b] X.env=[(false,eval a X.env),(false,eval b X.env)]:=by rfl) (hs2:starEach [b] X.env=[(false,eval b X.env)]:=by rfl) (hs3:starEach [a,b] X.env=(false,eval a X.env)::starEach [b] X.env:=by rfl):
  EvI X α (.Tuple elts kk tp) (.Call (.Name "zip" p) [a,b] [] pos) Q:=fun F σ H R m k=>by
 refine⟨_,eY hg hm (za zi (za zi zh hs2) hs3) hs hs2,?_⟩
 refine h F σ H _ m fun x vx H1 q1 t1 k1 r1=>?_
 have m1:=m.kz k1 t1
 refine q1 F σ H1 _ m1 fun y vy H2 q2 t2 k2 r2=>?_
 obtain⟨ds,es,rfl,rfl,q⟩:=q2
 obtain⟨l1,xs,rfl,g1,g2⟩:=(r1.same (k2.gz m1.tp)).lst_inv
 obtain⟨l2,ys,rfl,g3,g4⟩:=r2.lst_inv
 refine⟨l1,l2,rfl,⟨xs,SqL.of (zf g1).2⟩,⟨ys,SqL.of (zf g3).2⟩,k _ _ H2 q t2 (k1.trans k2) fun i H3 p s=>⟨fun d hd=>?_,fun hl=>?_⟩⟩
 ·have s1:=SqL.of (K:=X.K) (zf (s _ _ g1)).2
  have s2:=SqL.of (K:=X.K) (zf (s _ _ g3)).2
  unfold rN at hd
  rw[List.getElem?_zipWith] at hd
  cases e1:ds[i]? with
  |none=>rw[e1] at hd;cases hd
  |some d1=>
   cases e2:es[i]? with
   |none=>rw[e1,e2] at hd;cases hd
   |some d2=>
    rw[e1,e2] at hd
    cases hd
    obtain⟨x1,hx1,av1⟩:=g2.get e1
    obtain⟨x2,hx2,av2⟩:=g4.get e2
    refine⟨⟨xs,ys,x1,x2,s1,s2,hx1,hx2⟩,fun v H4 y=>?_⟩
    obtain⟨T,x,y,rfl,hT,rfl,hx,hy⟩:=y
    have hx:=hx _ s1
    have hy:=hy _ s2
    rw[hx1] at hx;cases hx
    rw[hx2] at hy;cases hy
    refine⟨yo hT,fun fr=>?_⟩
    have gs:zo (Gz F α σ H2) (sub p (upd H3 T (.tup [x1,x2]))):=fun a o e=>by
     obtain⟨z1,z2⟩:=zf (s a o e)
     exact zv z1 (by rw[zc (zd z2 hT)];exact z2)
    exact .tup (zv (fr T _ ze hT) ze) (.cons (av1.same gs) (.cons (av2.same gs) .nil))
 ·refine⟨xs,ys,SqL.of (zf (s _ _ g1)).2,SqL.of (zf (s _ _ g3)).2,?_⟩
  unfold rN at hl
  rw[List.length_zipWith,←g2.length,←g4.length] at hl
  omega
def vJ (n:Nat):List PyData→List PyData
 |[]=>[]
 |d::ds=>.tuple [.int n,d]::vJ (n+1) ds
theorem wc :∀{ds:List PyData} {n i:Nat} {d:PyData},(vJ n ds)[i]?=some d→∃e,ds[i]?=some e∧d=.tuple [.int ((n+i:Nat):Int),e]
 |[],n,i,d,h=>by simp[vJ] at h
 |e::ds,n,0,d,h=>by simp[vJ] at h;exact⟨e,rfl,by simp[←h]⟩
 |e::ds,n,i+1,d,h=>by
  simp only[vJ,zh3] at h
  obtain⟨e',h1,h2⟩:=wc h
  exact⟨e',by simpa using h1,by rw[h2,Nat.add_assoc,Nat.add_comm 1 i]⟩
theorem xo :∀(ds:List PyData) (n:Nat),(vJ n ds).length=ds.length
 |[],_=>rfl
 |_::ds,n=>by simp[vJ,xo ds (n+1)]
theorem nA {Q:List PyData→Prop}(hg:Gl X "enumerate")(hm:X.mg "enumerate"=none)(h:EvD X α a fun x=>∃ds,x=.list ds∧Q (vJ 0 ds))(hs:starEach [a] X.env=[(false,eval a X.env)]:=by rfl):
  EvI X α (.Tuple elts kk tp) (.Call (.Name "enumerate" p) [a] [] pos) Q:=fun F σ H R m k=>by
 refine⟨_,iL hg hm (za zi zh hs) hs,?_⟩
 refine h F σ H _ m fun x vx H1 q1 t1 k1 r1=>?_
 obtain⟨ds,rfl,q⟩:=q1
 obtain⟨l1,xs,rfl,g1,g2⟩:=r1.lst_inv
 refine⟨l1,rfl,⟨xs,SqL.of (zf g1).2⟩,k _ _ H1 q t1 k1 fun i H3 p s=>⟨fun d hd=>?_,fun hl=>?_⟩⟩
 ·have s1:=SqL.of (K:=X.K) (zf (s _ _ g1)).2
  obtain⟨e,he,rfl⟩:=wc hd
  obtain⟨x1,hx1,av1⟩:=g2.get he
  refine⟨⟨xs,x1,s1,hx1⟩,fun v H4 y=>?_⟩
  obtain⟨T,x,rfl,hT,rfl,hx⟩:=y
  have hx:=hx _ s1
  rw[hx1] at hx;cases hx
  refine⟨yo hT,fun fr=>?_⟩
  have gs:zo (Gz F α σ H1) (sub p (upd H3 T (.tup [.int i,x1]))):=fun a o e=>by
   obtain⟨z1,z2⟩:=zf (s a o e)
   exact zv z1 (by rw[zc (zd z2 hT)];exact z2)
  refine .tup (zv (fr T _ ze hT) ze) (.cons ?_ (.cons (av1.same gs) .nil))
  rw[Nat.zero_add]
  exact .int _
 ·refine⟨xs,SqL.of (zf (s _ _ g1)).2,?_⟩
  rw[xo,←g2.length] at hl
  exact hl
end
structure Cal (P:Program)(w:World)(K:PySem.W.Frag)(mg:Str→Option Value)(base:Heap)(x:Str)(k:Nat)(φ:List A→(A→Prop)→Prop):Prop where
 ex:∃f fd ps,mg x=some (.ref f)∧PySem.W.keepIn K (.ref f)=true∧Binds K fd ps []∧zt P w K mg base CX0 k f fd ps (spA φ)
section
variable {X:Cx}{α:Ev}{e a b:Expr}{es:List Expr}{pos p:Pos}{Q:PyData→Prop}{k:Nat}{φ:List A→(A→Prop)→Prop}{x:Str}
theorem uo (C:Cal X.prog X.w X.K X.mg X.base x k φ)(hr:zR k X.A)(hg:Gl X x)(h:EvA X α (e::es) fun as=>φ as fun a=>Q a.d)
  (hdb:(x == ("__debug__":Str))=false:=by decide) (he:starEach (e::es) X.env=(false,eval e X.env)::starEach es X.env:=by rfl) (hpl:(backTo pos (starEach es X.env)).any (·.1)=false:=by rfl):EvD X α (.Call (.Name x p) (e::es) [] pos) Q:=by
 obtain⟨f,fd,ps,h1,h2,h3,h4⟩:=C.ex
 exact gF h4 hr hg h1 h2 h3 h hdb he hpl
theorem sS {Q:List PyData→Prop}(C:Cal X.prog X.w X.K X.mg X.base x k φ)(hr:zR k X.A)(hg:Gl X x)(h:EvA X α (e::es) fun as=>φ as fun a=>∃ds,a=.own ds∧Q ds)
  (hdb:(x == ("__debug__":Str))=false:=by decide) (he:starEach (e::es) X.env=(false,eval e X.env)::starEach es X.env:=by rfl) (hpl:(backTo pos (starEach es X.env)).any (·.1)=false:=by rfl):EvL X α (.Call (.Name x p) (e::es) [] pos) Q:=by
 obtain⟨f,fd,ps,h1,h2,h3,h4⟩:=C.ex
 exact fq h4 hr hg h1 h2 h3 h hdb he hpl
end
section
variable {P:Program}{w:World}{K:PySem.W.Frag}{mg:Str→Option Value}{base:Heap}
theorem tw {x qual:Str}{st:Stmt}{f:Addr}{fd:FuncData}{N ps:List Str}{k:Nat}{φ:List A→(A→Prop)→Prop}(G:Fun K x qual st f fd)(hm:mg x=some (.ref f))(hb:Binds K fd ps [])(S:zl N ps (zb st))(hlen:∀as Q,φ as Q→as.length=ps.length)
  (hbody:∀(cdv:Value) (A':Around) (outer:List Env) (s:Shared) (H:Hp) (E:XK) (as:List A) (Q:A→Prop),zR k (A'.deeper (envOfC qual (zb st) s.heap.objs.size f cdv))→φ as Q→
   SvS (vt CX0 P w K mg base N qual (zb st) f cdv A' outer s H E).nox (as.map some++List.replicate (N.length-as.length) none) (zw st) {nx:=fun _=>Q (.dat .none),rt:=Q}):Cal P w K mg base x (k+1) φ:=
 ⟨f,fd,ps,hm,G.kp,hb,fnA G S hlen hbody⟩
def xU :List A→(A→Prop)→Prop:=fun as Q=>∃n:Int,as=[.tape,.dat (.int n)]∧0<n∧n<big∧∀v,0≤v→v<n→Q (.dat (.int v))
theorem kX {f:Addr}{fd:FuncData}{x:Str}(hm:mg x=some (.ref f))(hk:PySem.W.keepIn K (.ref f)=true)(hb:Binds K fd ["_law_tape_here","_law_many"] [])(G:zt P w K mg base CX0 1 f fd ["_law_tape_here","_law_many"] lZ):Cal P w K mg base x 1 xU:=by
 refine⟨f,fd,_,hm,hk,hb,G.imp fun vs H Q E h=>?_⟩
 obtain⟨F,as,Q',rfl,t,o,rv,⟨n,rfl,h0,h1,hq⟩,kk⟩:=h
 cases rv with
 |cons a1 r=>
  obtain⟨ta,b,c,e,rfl⟩:=a1
  obtain⟨v,rfl,av⟩:=r.one
  cases av.int_inv
  refine⟨ta,b,c,n,rfl,(t ta b c e).1,h0,h1,fun z H' z0 z1 TA off=>kk _ _ _ (hq z z0 z1) ⟨⟨(by
   obtain⟨_,_,_,_,e1,e2,_⟩:=(t ta b c e).1.ex
   exact gP t.tab e1 e2 off),t.ot,fun t' b' c' e'=>?_⟩,fun y u hy n=>?_,.int z⟩⟩
  ·rw[e] at e';cases e'
   exact⟨TA,(t ta b c e).2⟩
  ·rw[off y (n.1 _ _ _ e).1 (n.1 _ _ _ e).2];exact hy
theorem M.tape {H:Hp}{t b c:Addr}{α:Ev}{σ:St}(T:yr H t b c)(TB:TabAt H)(hl:α.length=σ.length)(h:∀(i:Nat) a,α[i]?=some (some a)→a=.tape∧σ[i]?=some (some (.ref t))):M ⟨H,fun x=>x=t∨x=b∨x=c∨ux x,some (t,b,c)⟩ α σ H:=by
 refine⟨hl,fun i a s e1 e2=>?_,fun i j a b s u x e1 _ _ _ f=>?_,fun i r q e=>?_,⟨TB,fun x z=>.inr (.inr (.inr z)),fun t' b' c' e=>?_⟩,fun _ _ e _=>e,fun x hx=>?_⟩
 ·obtain⟨rfl,z⟩:=h i a e1
  rw[z] at e2;cases e2
  exact⟨t,b,c,rfl,rfl⟩
 ·obtain⟨rfl,_⟩:=h i a e1
  exact f.elim
 ·cases (h i _ e).1
 ·cases e
  exact⟨T,.inl rfl,.inr (.inl rfl),.inr (.inr (.inl rfl))⟩
 ·obtain⟨n,bs,cs,_,e1,e2,e3,_⟩:=T.ex
  rcases hx with rfl|rfl|rfl|z
  ·exact⟨_,e1,yp⟩
  ·exact⟨_,e2,yp⟩
  ·exact⟨_,e3,yp⟩
  ·obtain⟨o,h1,h2,_⟩:=rm TB z
   exact⟨o,h1,h2⟩
theorem af {st:Stmt}{f fT:Addr}{fd fdT:FuncData}{N':List Str}{k:Nat}{p1 p2 p3 p4 p5:Pos}{rest:List Stmt}(G:Fun K "law" "law" st f fd)(S:zl ("_law_script"::"_law_tape_here"::N') ["_law_script"] (zb st))
  (GT:zt P w K mg base CX0 1 fT fdT ["_law_script"] (ox K)) (mT:mg "_law_tape"=some (.ref fT)) (kT:PySem.W.keepIn K (.ref fT)=true) (bT:Binds K fdT ["_law_script"] [])
  (hb:zw st=.Assign [.Name "_law_tape_here" p1] (.Call (.Name "_law_tape" p2) [.Name "_law_script" p3] [] p4) p5::rest) (hgl:(zb st).names.lookup ("_law_tape":Str)=some .globalImplicit) (hl:Loc (zb st) "_law_tape_here") (hv:Vis (zb st) "_law_script")
  (hbody:∀(cdv:Value) (A':Around) (outer:List Env) (s:Shared) (H:Hp) (E:XK),zR (k+1) (A'.deeper (envOfC "law" (zb st) s.heap.objs.size f cdv))→
   SvS (vt CX0 P w K mg base ("_law_script"::"_law_tape_here"::N') "law" (zb st) f cdv A' outer s H E).nox (none::some .tape::List.replicate N'.length none) rest {nx:=fun _=>False,rt:=fun a=>a=.dat (.bool true)}):
  zt P w K mg base CX0 (k+1+1) f fd ["_law_script"] (qh K):=by
 refine G.ok S (fun vs H Q E h=>?_) (fun cdv A' outer s H vs Qc E hr h=>?_)
 ·obtain⟨a,ns,rfl,_⟩:=h
  rfl
 ·obtain⟨a,ns,rfl,hS,hn,tb,kk⟩:=h
  rw[hb]
  refine zy (fun σ H1=>∃t b c,yr H1 t b c∧TabAt H1∧σ=some (.ref a)::some (.ref t)::List.replicate N'.length none)
   ⟨_,yH (i:=1) S.nd rfl hl (zF GT (hr.mono (by omega)) hgl mT kT bT .nil zN (za (yU (i:=0) rfl hv) zh)) (hf:=.inl rfl),?_⟩ ?_
  ·refine⟨.ref a,rfl,a,ns,rfl,hS,hn,fun t b c H' T _ _ _ sm=>⟨t,b,c,T,jP tb sm,?_⟩⟩
   show ((L2.start ("_law_script"::"_law_tape_here"::N') [.ref a]).set 1 (some (.ref t)))=_
   unfold L2.start
   simp[List.replicate_succ]
  ·rintro σ H1 ⟨t,b,c,T,TB,rfl⟩
   refine hbody cdv A' outer s H E hr ⟨H1,fun x=>x=t∨x=b∨x=c∨ux x,some (t,b,c)⟩ _ H1 _ (M.tape T TB (by simp) fun i z e=>?_) ⟨fun _ _ _ _ z=>z.elim,fun z v H' r e=>?_,fun _ _ _ _ z=>z.elim,fun _ _ _ _ z=>z.elim⟩
   ·cases i with
    |zero=>simp at e
    |succ i=>
     cases i with
     |zero=>simp at e;subst e;exact⟨rfl,rfl⟩
     |succ i=>
      simp only[zh3,zf8] at e
      split at e<;>cases e
   ·cases e
    obtain⟨_,_,r⟩:=r
    rw[AV.bl_inv r]
    exact kk H'
end
section
variable {Y:Addr→Shared→Hp→List Addr→Cx}{pat:Pat}{ifs:List Expr}{elt:Expr}{α0:Ev}
theorem tV {ds acc:List PyData}{Q:List PyData→Prop}(P:Nat→List PyData→Prop)(h0:P 0 acc)
  (hs:∀i d acc,ds[i]?=some d→P i acc→∃α1,pat.bind d α0=some α1∧∀C s2 H2 fp,lD (Y C s2 H2 fp) α1 ifs fun k=>if k=true then ∀C s2 H2 fp,EvD (Y C s2 H2 fp) α1 elt fun y=>P (i+1) (acc++[y]) else P (i+1) acc)
  (hd:∀acc,P ds.length acc→Q acc):yN Y pat ifs elt α0 ds acc Q:=by
 have key:∀n i acc,n=ds.length-i→i≤ds.length→P i acc→yN Y pat ifs elt α0 (ds.drop i) acc Q:=by
  intro n
  induction n with
  |zero=>
   intro i acc hn hi p
   have e:i=ds.length:=by omega
   subst e
   rw[zd3]
   exact hd acc p
  |succ n ih=>
   intro i acc hn hi p
   have hlt:i<ds.length:=by omega
   rw[zb0 hlt]
   obtain⟨α1,e,b⟩:=hs i ds[i] acc (aM hlt) p
   refine⟨α1,e,fun C s2 H2 fp F σ H R m kk=>b C s2 H2 fp F σ H R m fun k H' q=>kk k H' ?_⟩
   cases k with
   |true=>
    rw[if_pos rfl] at q ⊢
    exact fun C s2 H2 fp=>(q C s2 H2 fp).imp fun y p=>ih (i+1) _ (by omega) hlt p
   |false=>
    rw[if_neg (by decide)] at q ⊢
    exact ih (i+1) _ (by omega) hlt q
 exact key _ 0 acc rfl (aS _) h0
theorem yI {ds acc:List PyData}{Q:List PyData→Prop}(p:PyData→Bool)(f:PyData→PyData)
  (hs:∀d∈ds,∃α1,pat.bind d α0=some α1∧(∀C s2 H2 fp (Q:Bool→Prop),Q (p d)→lD (Y C s2 H2 fp) α1 ifs Q)∧(p d=true→∀C s2 H2 fp (Q:PyData→Prop),Q (f d)→EvD (Y C s2 H2 fp) α1 elt Q))
  (hd:Q (acc++(ds.filter p).map f)):yN Y pat ifs elt α0 ds acc Q:=by
 induction ds generalizing acc with
 |nil=>
  show Q acc
  simpa using hd
 |cons d ds ih=>
  obtain⟨α1,e,h1,h2⟩:=hs d aJ
  refine⟨α1,e,fun C s2 H2 fp=>h1 C s2 H2 fp _ ?_⟩
  have ih':=fun acc=>ih (acc:=acc) fun d hd=>hs d (aK _ hd)
  cases hp:p d with
  |true=>
   rw[if_pos rfl]
   refine fun C s2 H2 fp=>h2 hp C s2 H2 fp _ (ih' _ ?_)
   simpa[zi0,hp] using hd
  |false=>
   rw[if_neg (by decide)]
   refine ih' _ ?_
   simpa[zi0,hp] using hd
end
theorem fZ {ds:List PyData}{v:Int}(h0:0≤v)(h1:v<ds.length):∃d,d∈ds∧atI ds v=some d:=by
 obtain⟨j,rfl⟩:=Int.eq_ofNat_of_zero_le h0
 have hj:j<ds.length:=by omega
 exact⟨ds[j],List.getElem_mem hj,xk (aM hj)⟩
theorem pP (st:Stmt)(env:Env):execs [st] env=exec st env:=by
 rw[PySem.execs_cons]
 have:(fun f:Flow=>(match f with|.next=>execs [] env|f=>pure f:Sem Flow))=pure:=by
  funext f
  cases f<;>rfl
 exact (congrArg (fun g=>exec st env >>= g) this).trans (bind_pure _)
section
variable {X:Cx}{α:Ev}{e a b c:Expr}{es rest:List Expr}{pos p:Pos}{Q:PyData→Prop}{E:yk}{st:Stmt}{sts sts':List Stmt}
theorem xJ (P:Ev→Prop)(h1:SvS X α [st] {E with nx:=P})(h2:∀α',P α'→SvS X α' sts E):SvS X α (st::sts) E:=fun F σ H D m r=>by
 refine zy (fun σ' H'=>∃α',M F α' σ' H'∧P α') ?_ ?_
 ·obtain⟨t,p,q⟩:=h1 F σ H {D with nx:=fun σ' H'=>∃α',M F α' σ' H'∧P α'} m ⟨fun α' σ' H' m' z=>⟨α',m',z⟩,r.rt,r.bk,r.ct⟩
  exact⟨t,fun pins s σ H D I h=>(by
   have:=p pins s σ H D I h
   rw[pP] at this
   exact this),q⟩
 ·rintro σ' H' ⟨α',m',z⟩
  exact h2 α' z F σ' H' D m' r
theorem di {c:Prop}[Decidable c]{a b:List Stmt}(h1:c→SvS X α a E)(h2:¬c→SvS X α b E):SvS X α (if decide c=true then a else b) E:=by
 by_cases h:c
 ·rw[zb6 h];exact h1 h
 ·rw[zc1 h];exact h2 h
theorem wa {k:Bool}{a b:List Stmt}(h1:k=true→SvS X α a E)(h2:k=false→SvS X α b E):SvS X α (if k=true then a else b) E:=by
 cases k with
 |true=>exact h1 rfl
 |false=>exact h2 rfl
theorem iP {i j:Int}:Cmp rEq (.int i) (.int j) (decide (i=j)):=fun p H vx vy R rx ry h=>by
 cases rx.int_inv;cases ry.int_inv
 refine⟨rfl,?_⟩
 rw[show decide (V.int i=V.int j)=decide (i=j) by simp]
 exact h
theorem nS {i j:Int}:Cmp rNe (.int i) (.int j) (!decide (i=j)):=fun p H vx vy R rx ry h=>by
 cases rx.int_inv;cases ry.int_inv
 refine⟨rfl,?_⟩
 rw[show decide (V.int i=V.int j)=decide (i=j) by simp]
 exact h
theorem nC {i j:Str}:Cmp rEq (.str i) (.str j) (decide (i=j)):=fun p H vx vy R rx ry h=>by
 cases rx.str_inv;cases ry.str_inv
 refine⟨rfl,?_⟩
 rw[show decide (V.str i=V.str j)=decide (i=j) by simp]
 exact h
theorem cp {op:CmpOp}{r:R2}(ho:OpR X (compareOp op) r)(hm:behindInMarks op b=false)(h:EvD X α a fun x=>EvD X α b fun y=>∃k,Cmp r x y k∧Q (.bool k)):EvD X α (.Compare a [op] [b] pos) Q:=fun F σ H R m k=>by
 refine⟨_,xi ho zi zi hm,?_⟩
 refine h F σ H _ m fun x vx H1 q1 t1 k1 r1=>?_
 have m1:=m.kz k1 t1
 refine q1 F σ H1 _ m1 fun y vy H2 q2 t2 k2 r2=>?_
 obtain⟨b,hc,q⟩:=q2
 exact hc _ H2 vx vy _ (r1.same (k2.gz m1.tp)) r2 (k _ _ H2 q t2 (k1.trans k2) (.bl b))
theorem ke {Q:Bool→Prop}(h:EvD X α a fun x=>EvD X α b fun y=>∃i j,x=.int i∧y=.int j∧Q (!decide (i=j))):EvT X α (.Compare a [.NotEq] [b] pos) Q:=
 vh fV (zu _) (h.imp fun x h=>h.imp fun y ⟨i,j,e1,e2,q⟩=>⟨_,by subst e1 e2;exact nS,q⟩)
theorem eu {Q:Bool→Prop}(h:EvD X α a fun x=>EvD X α b fun y=>∃i j,x=.str i∧y=.str j∧Q (decide (i=j))):EvT X α (.Compare a [.Eq] [b] pos) Q:=
 vh xO (zu _) (h.imp fun x h=>h.imp fun y ⟨i,j,e1,e2,q⟩=>⟨_,by subst e1 e2;exact nC,q⟩)
theorem hZ {p q:Bool}{Q:Bool→Prop}(ha:∀Q:Bool→Prop,Q p→EvT X α a Q)(hb:p=true→∀Q:Bool→Prop,Q q→EvW X α (.BoolOp .And (b::rest) pos) Q)(k:Q (p&&q)):EvW X α (.BoolOp .And (a::b::rest) pos) Q:=by
 refine jc (ha _ ?_)
 cases p with
 |true=>rw[if_pos rfl];exact hb rfl _ (by simpa using k)
 |false=>rw[if_neg (by decide)];simpa using k
theorem iC {p q:Bool}{Q:Bool→Prop}(ha:∀Q:Bool→Prop,Q p→EvT X α a Q)(hb:p=false→∀Q:Bool→Prop,Q q→EvW X α (.BoolOp .Or (b::rest) pos) Q)(k:Q (p||q)):EvW X α (.BoolOp .Or (a::b::rest) pos) Q:=by
 refine nR (ha _ ?_)
 cases p with
 |false=>rw[if_neg (by decide)];exact hb rfl _ (by simpa using k)
 |true=>rw[if_pos rfl];simpa using k
end
structure NbT (mg:Str→Option Value):Prop where
 abs:mg "abs"=none
 list:mg "list"=none
 len:mg "len"=none
 range:mg "range"=none
 min:mg "min"=none
 max:mg "max"=none
 sorted:mg "sorted"=none
 isinstance:mg "isinstance"=none
 int:mg "int"=none
 bool:mg "bool"=none
 str:mg "str"=none
 tuple:mg "tuple"=none
 all:mg "all"=none
 any:mg "any"=none
 repr:mg "repr"=none
 zip:mg "zip"=none
 enumerate:mg "enumerate"=none
 reversed:mg "reversed"=none
 sum:mg "sum"=none
theorem yK {X:Cx}{K:PySem.W.Frag}{es:List Expr}{k:Nat}{t:TGs}{n:Nat}{pos:Pos}(hK:X.K=K)(hc:X.calm=true)(h:PGs X es t)
  (hn:(assignEach es X.env).length=n:=by rfl) (hst:(assignEach es X.env).findIdx? (·.1)=none:=by rfl):PG X (.Tuple es k pos) (jB K n t):=by
 subst hK
 exact ek hc h hn hst
end L2
namespace SortA
open PySem PySem.W PyProof.Rows
def run {α:Type}(lt:Nat→Nat→Bool):KasT α→α
 |.ret a=>a
 |.ask i j k=>run lt (k (lt i j))
theorem run_bind {α β:Type}(lt:Nat→Nat→Bool)(f:α→KasT β):∀t:KasT α,run lt (t.bind f)=run lt (f (run lt t))
 |.ret _=>rfl
 |.ask i j k=>run_bind lt f (k (lt i j))
structure Ord (lt:Nat→Nat→Bool):Prop where
 irr:∀a,lt a a=false
 tr:∀a b c,lt b a=false→lt c b=false→lt c a=false
 asy:∀a b,lt a b=true→lt b a=false
abbrev g (p:Array Nat)(i:Nat):Nat:=p.getD i 0
def Up (lt:Nat→Nat→Bool)(p:Array Nat)(m:Nat):Prop:=∀i j,i≤j→j<m→lt (g p j) (g p i)=false
def Down (lt:Nat→Nat→Bool)(p:Array Nat)(m:Nat):Prop:=∀i j,i≤j→j<m→lt (g p i) (g p j)=false
theorem kh {p q:Array Nat}{i j:Nat}(h:p[i]?=q[j]?):g p i=g q j:=by
 unfold g
 rw[Array.getD_eq_getD_getElem?,Array.getD_eq_getD_getElem?,h]
variable {lt:Nat→Nat→Bool}
theorem Up.succ (O:Ord lt){p:Array Nat}{m:Nat}(h:Up lt p m)(hm:0<m)(e:lt (g p m) (g p (m-1))=false):Up lt p (m+1):=fun i j hij hj=>by
 by_cases e1:j<m
 ·exact h i j hij e1
 ·have ej:j=m:=by omega
  subst ej
  by_cases e2:i=j
  ·subst e2;exact O.irr _
  ·exact O.tr _ _ _ (h i (j-1) (by omega) (by omega)) e
theorem Down.succ (O:Ord lt){p:Array Nat}{m:Nat}(h:Down lt p m)(hm:0<m)(e:lt (g p (m-1)) (g p m)=false):Down lt p (m+1):=fun i j hij hj=>by
 by_cases e1:j<m
 ·exact h i j hij e1
 ·have ej:j=m:=by omega
  subst ej
  by_cases e2:i=j
  ·subst e2;exact O.irr _
  ·exact O.tr _ _ _ e (h i (j-1) (by omega) (by omega))
theorem eM (O:Ord lt)(p:Array Nat):Up lt p 1:=fun i j hij hj=>by
 have e1:i=0:=by omega
 have e2:j=0:=by omega
 rw[e1,e2];exact O.irr _
theorem pd (O:Ord lt)(p:Array Nat):∀(f n:Nat),0<n→Up lt p n→n≤run lt (kas_asc p f n)∧run lt (kas_asc p f n)≤n+f∧Up lt p (run lt (kas_asc p f n))∧
  (run lt (kas_asc p f n)<n+f→lt (g p (run lt (kas_asc p f n))) (g p (run lt (kas_asc p f n)-1))=true)
 |0,n,_,h=>⟨aN _,aN _,h,fun z=>absurd z (ze9 _)⟩
 |f+1,n,hn,h=>by
  show n≤run lt ((fun c=>if c=true then KasT.ret n else kas_asc p f (n+1)) (lt (p.getD n 0) (p.getD (n-1) 0)))∧_
  cases e:lt (p.getD n 0) (p.getD (n-1) 0) with
  |true=>
   have er:run lt (kas_asc p (f+1) n)=n:=by
    show run lt ((fun c=>if c=true then KasT.ret n else kas_asc p f (n+1)) (lt (p.getD n 0) (p.getD (n-1) 0)))=n
    rw[e];rfl
   rw[er]
   exact⟨aN _,by omega,h,fun _=>e⟩
  |false=>
   have er:run lt (kas_asc p (f+1) n)=run lt (kas_asc p f (n+1)):=by
    show run lt ((fun c=>if c=true then KasT.ret n else kas_asc p f (n+1)) (lt (p.getD n 0) (p.getD (n-1) 0)))=_
    rw[e];rfl
   rw[er]
   obtain⟨a,b,c,d⟩:=pd O p f (n+1) (by omega) (h.succ O hn e)
   exact⟨by show n≤run lt (kas_asc p f (n+1));omega,by omega,c,fun z=>d (by omega)⟩
theorem vN {p:Array Nat}{i j:Nat}(hj:j≤p.size)(k:Nat):g (kas_rev p i j) k=if i≤k∧k<j then g p (i+j-1-k) else g p k:=by
 have h:=getElem?_mirror_all (xs:=p) (i:=i) hj k
 split
 ·rename_i c
  rw[if_pos c] at h
  exact kh h
 ·rename_i c
  rw[if_neg c] at h
  exact kh h
theorem yX (p:Array Nat)(i j:Nat):(kas_rev p i j).size=p.size:=mirror_size _ _ _ _
theorem yx (p:Array Nat)(i j:Nat):(kas_rev p i j).Perm p:=mirror_perm _ _ _ _
def Eqv (lt:Nat→Nat→Bool)(a b:Nat):Prop:=lt a b=false∧lt b a=false
theorem Down.eqv (O:Ord lt){p q:Array Nat}{n:Nat}(h:Down lt p n)(e:∀k,k<n→Eqv lt (g q k) (g p k)):Down lt q n:=fun i j hij hj=>
 O.tr _ _ _ (O.tr _ _ _ (e j hj).2 (h i j hij hj)) (e i (by omega)).1
def Last (lt:Nat→Nat→Bool)(p:Array Nat)(n q:Nat):Prop:=∀a b,n≤a+(q+1)→a<n→n≤b+(q+1)→b<n→lt (g p a) (g p b)=false
theorem rev_last (O:Ord lt){p:Array Nat}{n q:Nat}(hn:n≤p.size)(hq:q<n)(L:Last lt p n q):∀k,k<n→Eqv lt (g (kas_rev p (n-(q+1)) n) k) (g p k):=fun k hk=>by
 rw[vN hn]
 split
 ·rename_i c
  exact⟨L _ _ (by omega) (by omega) (by omega) hk,L _ _ (by omega) hk (by omega) (by omega)⟩
 ·exact⟨O.irr _,O.irr _⟩
theorem uf (O:Ord lt):∀(f:Nat) (p:Array Nat) (n q:Nat),q<n→n+f≤p.size→Down lt p n→Last lt p n q→
  ∃p' m q',run lt (kas_desc f p n q)=(p',m,q')∧n≤m∧m≤n+f∧p'.size=p.size∧p'.Perm p∧q'<m∧Down lt p' m∧Last lt p' m q'
 |0,p,n,q,hq,hs,h,L=>⟨p,n,q,rfl,aN _,aN _,rfl,zg9 _,hq,h,L⟩
 |f+1,p,n,q,hq,hs,h,L=>by
  cases e:lt (p.getD n 0) (p.getD (n-1) 0) with
  |true=>
   by_cases hq0:q > 0
   ·have er:run lt (kas_desc (f+1) p n q)=run lt (kas_desc f (kas_rev p (n-(q+1)) n) (n+1) 0):=by
     show run lt ((fun c=>if c=true then (if q > 0 then kas_desc f (kas_rev p (n-(q+1)) n) (n+1) 0 else kas_desc f p (n+1) 0)
      else .ask (p.getD (n-1) 0) (p.getD n 0) fun d=>if d=true then .ret (p,n,q) else kas_desc f p (n+1) (q+1)) (lt (p.getD n 0) (p.getD (n-1) 0)))=_
     rw[e]
     show run lt (if q > 0 then _ else _)=_
     rw[if_pos hq0]
    have ev:=rev_last O (by omega:n≤p.size) hq L
    have h1:=h.eqv O ev
    have hn:g (kas_rev p (n-(q+1)) n) n=g p n:=by rw[vN (by omega),if_neg (by omega)]
    have h2:Down lt (kas_rev p (n-(q+1)) n) (n+1):=h1.succ O (by omega) (by
     rw[hn]
     exact O.tr _ _ _ (O.asy _ _ e) (ev (n-1) (by omega)).1)
    obtain⟨p',m,q',a,b,c,d1,d2,d3,d4,d5⟩:=uf O f (kas_rev p (n-(q+1)) n) (n+1) 0 (by omega) (by rw[yX];omega) h2 (fun a b h1 h2 h3 h4=>by
     have e1:a=n:=by omega
     have e2:b=n:=by omega
     rw[e1,e2];exact O.irr _)
    exact⟨p',m,q',er.trans a,by omega,by omega,by rw[d1,yX],d2.trans (yx _ _ _),d3,d4,d5⟩
   ·have er:run lt (kas_desc (f+1) p n q)=run lt (kas_desc f p (n+1) 0):=by
     show run lt ((fun c=>if c=true then (if q > 0 then kas_desc f (kas_rev p (n-(q+1)) n) (n+1) 0 else kas_desc f p (n+1) 0)
      else .ask (p.getD (n-1) 0) (p.getD n 0) fun d=>if d=true then .ret (p,n,q) else kas_desc f p (n+1) (q+1)) (lt (p.getD n 0) (p.getD (n-1) 0)))=_
     rw[e]
     show run lt (if q > 0 then _ else _)=_
     rw[if_neg hq0]
    obtain⟨p',m,q',a,b,c,d1,d2,d3,d4,d5⟩:=uf O f p (n+1) 0 (by omega) (by omega) (h.succ O (by omega) (O.asy _ _ e)) (fun a b h1 h2 h3 h4=>by
     have e1:a=n:=by omega
     have e2:b=n:=by omega
     rw[e1,e2];exact O.irr _)
    exact⟨p',m,q',er.trans a,by omega,by omega,d1,d2,d3,d4,d5⟩
  |false=>
   cases e2:lt (p.getD (n-1) 0) (p.getD n 0) with
   |true=>
    have er:run lt (kas_desc (f+1) p n q)=(p,n,q):=by
     show run lt ((fun c=>if c=true then (if q > 0 then kas_desc f (kas_rev p (n-(q+1)) n) (n+1) 0 else kas_desc f p (n+1) 0)
      else .ask (p.getD (n-1) 0) (p.getD n 0) fun d=>if d=true then .ret (p,n,q) else kas_desc f p (n+1) (q+1)) (lt (p.getD n 0) (p.getD (n-1) 0)))=_
     rw[e]
     show run lt ((fun d=>if d=true then KasT.ret (p,n,q) else kas_desc f p (n+1) (q+1)) (lt (p.getD (n-1) 0) (p.getD n 0)))=_
     rw[e2];rfl
    exact⟨p,n,q,er,aN _,by omega,rfl,zg9 _,hq,h,L⟩
   |false=>
    have er:run lt (kas_desc (f+1) p n q)=run lt (kas_desc f p (n+1) (q+1)):=by
     show run lt ((fun c=>if c=true then (if q > 0 then kas_desc f (kas_rev p (n-(q+1)) n) (n+1) 0 else kas_desc f p (n+1) 0)
      else .ask (p.getD (n-1) 0) (p.getD n 0) fun d=>if d=true then .ret (p,n,q) else kas_desc f p (n+1) (q+1)) (lt (p.getD n 0) (p.getD (n-1) 0)))=_
     rw[e]
     show run lt ((fun d=>if d=true then KasT.ret (p,n,q) else kas_desc f p (n+1) (q+1)) (lt (p.getD (n-1) 0) (p.getD n 0)))=_
     rw[e2];rfl
    have Ln:Last lt p (n+1) (q+1):=fun a b h1 h2 h3 h4=>by
     have two:∀a,n+1≤a+(q+1+1)→a<n+1→Eqv lt (g p a) (g p (n-1)):=fun a x1 x2=>by
      by_cases ea:a=n
      ·rw[ea];exact⟨e,e2⟩
      ·exact⟨L a (n-1) (by omega) (by omega) (by omega) (by omega),L (n-1) a (by omega) (by omega) (by omega) (by omega)⟩
     exact O.tr _ _ _ (two b h3 h4).2 (two a h1 h2).1
    obtain⟨p',m,q',a,b,c,d1,d2,d3,d4,d5⟩:=uf O f p (n+1) (q+1) (by omega) (by omega) (h.succ O (by omega) e2) Ln
    exact⟨p',m,q',er.trans a,by omega,by omega,d1,d2,d3,d4,d5⟩
theorem dD {p:Array Nat}{n:Nat}(hn:n≤p.size)(h:Down lt p n):Up lt (kas_rev p 0 n) n:=fun i j hij hj=>by
 rw[vN hn,vN hn,if_pos (by omega),if_pos (by omega)]
 exact h _ _ (by omega) (by omega)
theorem rR (O:Ord lt){p:Array Nat}{n nrem:Nat}(h0:0<n)(hn:n≤nrem)(hs:nrem≤p.size)(h:Down lt p n):
  ∃p' m,run lt (kas_tail3 n nrem p)=(m,p')∧1≤m∧m≤nrem∧p'.size=p.size∧p'.Perm p∧Up lt p' m:=by
 obtain⟨a,b,c,_⟩:=pd O (kas_rev p 0 n) (nrem-n) n h0 (dD (by omega) h)
 refine⟨kas_rev p 0 n,run lt (kas_asc (kas_rev p 0 n) (nrem-n) n),?_,by omega,by omega,yX _ _ _,yx _ _ _,c⟩
 unfold kas_tail3
 rw[run_bind]
 rfl
theorem vE (O:Ord lt){p:Array Nat}{n nrem:Nat}(h0:0<n)(hn:n+1≤nrem)(hs:nrem≤p.size)(h:Down lt p (n+1)):
  ∃p' m,run lt (kas_descPart n nrem p)=(m,p')∧1≤m∧m≤nrem∧p'.size=p.size∧p'.Perm p∧Up lt p' m:=by
 obtain⟨p1,m1,q1,e,a1,a2,a3,a4,a5,a6,a7⟩:=uf O (nrem-(n+1)) p (n+1) 0 (by omega) (by omega) h (fun a b h1 h2 h3 h4=>by
  have e1:a=n:=by omega
  have e2:b=n:=by omega
  rw[e1,e2];exact O.irr _)
 unfold kas_descPart
 rw[run_bind,e]
 dsimp only
 split
 ·obtain⟨p',m,b1,b2,b3,b4,b5,b6⟩:=rR O (p:=kas_rev p1 (m1-(q1+1)) m1) (n:=m1) (nrem:=nrem) (by omega) (by omega) (by rw[yX];omega) (a6.eqv O (rev_last O (by omega) a5 a7))
  exact⟨p',m,b1,b2,b3,by rw[b4,yX,a3],(b5.trans (yx _ _ _)).trans a4,b6⟩
 ·obtain⟨p',m,b1,b2,b3,b4,b5,b6⟩:=rR O (p:=p1) (n:=m1) (nrem:=nrem) (by omega) (by omega) (by omega) a6
  exact⟨p',m,b1,b2,b3,by rw[b4,a3],b5.trans a4,b6⟩
theorem jE (O:Ord lt){p:Array Nat}{nrem:Nat}(h0:0<nrem)(hs:nrem≤p.size):
  ∃p' m,run lt (kas_count nrem p)=(m,p')∧1≤m∧m≤nrem∧p'.size=p.size∧p'.Perm p∧Up lt p' m:=by
 obtain⟨a,b,c,d⟩:=pd O p (nrem-1) 1 (by omega) (eM O p)
 unfold kas_count
 rw[run_bind]
 generalize run lt (kas_asc p (nrem-1) 1)=n at a b c d
 by_cases en:n=nrem
 ·rw[if_pos (by rw[en];simp)]
  exact⟨p,n,rfl,a,by omega,rfl,zg9 _,c⟩
 ·rw[if_neg (by simpa using en)]
  have hd:=d (by omega)
  by_cases h1:n > 1
  ·rw[if_pos h1]
   cases e:lt (p.getD 0 0) (p.getD (n-1) 0) with
   |true=>
    refine⟨p,n,?_,a,by omega,rfl,zg9 _,c⟩
    show run lt ((fun c=>if c=true then KasT.ret (n,p) else kas_descPart n nrem (kas_rev p 0 n)) (lt (p.getD 0 0) (p.getD (n-1) 0)))=_
    rw[e];rfl
   |false=>
    have all:∀k,k<n→Eqv lt (g p k) (g p 0):=fun k hk=>⟨c 0 k (by omega) hk,O.tr _ _ _ (c k (n-1) (by omega) (by omega)) e⟩
    have hD:Down lt (kas_rev p 0 n) (n+1):=by
     have h2:Down lt (kas_rev p 0 n) n:=fun i j hij hj=>by
      rw[vN (by omega),vN (by omega),if_pos (by omega),if_pos (by omega)]
      exact O.tr _ _ _ (all _ (by omega)).2 (all _ (by omega)).1
     refine h2.succ O (by omega) ?_
     rw[vN (by omega),vN (by omega),if_pos (by omega),if_neg (by omega)]
     have e0:lt (g p (n-1)) (g p n)=false:=O.asy _ _ hd
     exact O.tr _ _ _ e0 (O.tr _ _ _ (all (n-1) (by omega)).2 (all _ (by omega)).1)
    obtain⟨p',m,b1,b2,b3,b4,b5,b6⟩:=vE O (p:=kas_rev p 0 n) (n:=n) (nrem:=nrem) (by omega) (by omega) (by rw[yX];omega) hD
    refine⟨p',m,?_,b2,b3,by rw[b4,yX],b5.trans (yx _ _ _),b6⟩
    rw[←b1]
    show run lt ((fun c=>if c=true then KasT.ret (n,p) else kas_descPart n nrem (kas_rev p 0 n)) (lt (p.getD 0 0) (p.getD (n-1) 0)))=_
    rw[e];rfl
  ·rw[if_neg h1]
   have e1:n=1:=by omega
   subst e1
   refine vE O (by omega) (by omega) hs ?_
   have d1:Down lt p 1:=fun i j hij hj=>by
    have e1:i=0:=by omega
    have e2:j=0:=by omega
    rw[e1,e2];exact O.irr _
   exact d1.succ O (by omega) (O.asy _ _ hd)
theorem uK (O:Ord lt){p:Array Nat}{k:Nat}(U:Up lt p k):∀(f l r:Nat),r≤l+f→l≤r→r≤k→(∀i,i<l→lt (g p k) (g p i)=false)→(∀i,r≤i→i<k→lt (g p k) (g p i)=true)→
  run lt (kas_place p k f l r)≤k∧(∀i,i<run lt (kas_place p k f l r)→lt (g p k) (g p i)=false)∧(∀i,run lt (kas_place p k f l r)≤i→i<k→lt (g p k) (g p i)=true)
 |0,l,r,h1,h2,h3,ha,hb=>by
  show l≤k∧_
  exact⟨by omega,ha,fun i x y=>hb i (by have:l≤i:=x;omega) y⟩
 |f+1,l,r,h1,h2,h3,ha,hb=>by
  by_cases hlr:l≥r
  ·have er:run lt (kas_place p k (f+1) l r)=l:=by
    show run lt (if l≥r then _ else _)=_
    rw[if_pos hlr];rfl
   rw[er]
   exact⟨by omega,ha,fun i x y=>hb i (by omega) y⟩
  ·cases e:lt (p.getD k 0) (p.getD ((l+r) / 2) 0) with
   |true=>
    have er:run lt (kas_place p k (f+1) l r)=run lt (kas_place p k f l ((l+r) / 2)):=by
     show run lt (if l≥r then _ else _)=_
     rw[if_neg hlr]
     show run lt ((fun c=>if c=true then kas_place p k f l ((l+r) / 2) else kas_place p k f ((l+r) / 2+1) r) (lt (p.getD k 0) (p.getD ((l+r) / 2) 0)))=_
     rw[e];rfl
    rw[er]
    refine uK O U f l ((l+r) / 2) (by omega) (by omega) (by omega) ha fun i x y=>?_
    cases e3:lt (g p k) (g p i) with
    |true=>rfl
    |false=>
     have e4:lt (g p k) (g p ((l+r) / 2))=false:=O.tr _ _ _ (U ((l+r) / 2) i x y) e3
     have e5:lt (g p k) (g p ((l+r) / 2))=true:=e
     rw[e4] at e5;cases e5
   |false=>
    have er:run lt (kas_place p k (f+1) l r)=run lt (kas_place p k f ((l+r) / 2+1) r):=by
     show run lt (if l≥r then _ else _)=_
     rw[if_neg hlr]
     show run lt ((fun c=>if c=true then kas_place p k f l ((l+r) / 2) else kas_place p k f ((l+r) / 2+1) r) (lt (p.getD k 0) (p.getD ((l+r) / 2) 0)))=_
     rw[e];rfl
    rw[er]
    exact uK O U f ((l+r) / 2+1) r (by omega) (by omega) h3 (fun i hi=>O.tr _ _ _ (U i ((l+r) / 2) (by omega) (by omega)) e) hb
theorem mK (O:Ord lt){p:Array Nat}{k l:Nat}(hk:k<p.size)(hl:l≤k)(U:Up lt p k)(ha:∀i,i<l→lt (g p k) (g p i)=false)(hb:∀i,l≤i→i<k→lt (g p k) (g p i)=true):Up lt (bubble p k (k-l)) (k+1):=by
 have gb:∀i,g (bubble p k (k-l)) i=if i=l then g p k else if l<i∧i≤k then g p (i-1) else g p i:=fun i=>by
  have h:=getElem?_bubble hk (k-l) (by omega) i
  have el:k-(k-l)=l:=by omega
  rw[el] at h
  by_cases c:i=l
  ·rw[if_pos c] at h ⊢;exact kh h
  ·rw[if_neg c] at h ⊢
   by_cases c2:l<i∧i≤k
   ·rw[if_pos c2] at h ⊢;exact kh h
   ·rw[if_neg c2] at h ⊢;exact kh h
 intro i j hij hj
 have gl:g (bubble p k (k-l)) l=g p k:=by rw[gb,if_pos rfl]
 have gm:∀i,l<i→i≤k→g (bubble p k (k-l)) i=g p (i-1):=fun i x y=>by rw[gb,if_neg (by omega),if_pos ⟨x,y⟩]
 have gs:∀i,i<l→g (bubble p k (k-l)) i=g p i:=fun i x=>by rw[gb,if_neg (by omega),if_neg (by omega)]
 rcases Nat.lt_trichotomy i l with hi|hi|hi
 ·rw[gs i hi]
  rcases Nat.lt_trichotomy j l with h|h|h
  ·rw[gs j h];exact U _ _ (by omega) (by omega)
  ·rw[h,gl];exact ha i hi
  ·rw[gm j h (by omega)];exact U _ _ (by omega) (by omega)
 ·rw[hi,gl]
  rcases Nat.lt_trichotomy j l with h|h|h
  ·omega
  ·rw[h,gl];exact O.irr _
  ·rw[gm j h (by omega)];exact O.asy _ _ (hb (j-1) (by omega) (by omega))
 ·rw[gm i hi (by omega),gm j (by omega) (by omega)]
  exact U _ _ (by omega) (by omega)
theorem ka (O:Ord lt):∀(f:Nat) (p:Array Nat) (k:Nat),0<k→k+f≤p.size→Up lt p k→(run lt (kas_bin f p k)).size=p.size∧(run lt (kas_bin f p k)).Perm p∧Up lt (run lt (kas_bin f p k)) (k+f)
 |0,p,k,_,_,U=>⟨rfl,zg9 _,U⟩
 |f+1,p,k,hk,hs,U=>by
  obtain⟨a,b,c⟩:=uK O U k 0 k (by omega) (by omega) (by omega) (fun i hi=>by omega) (fun i x y=>by omega)
  have er:run lt (kas_bin (f+1) p k)=run lt (kas_bin f (bubble p k (k-run lt (kas_place p k k 0 k))) (k+1)):=by
   show run lt ((kas_place p k k 0 k).bind _)=_
   rw[run_bind]
  rw[er]
  obtain⟨x,y,z⟩:=ka O f (bubble p k (k-run lt (kas_place p k k 0 k))) (k+1) (by omega) (by rw[bubble_size];omega) (mK O (by omega) a U b c)
  have e:k+(f+1)=k+1+f:=by omega
  rw[e]
  exact⟨by rw[x,bubble_size],y.trans (bubble_perm _ _ _),z⟩
theorem iT (O:Ord lt){n:Nat}(h:0<n):(run lt (kas_sort n)).size=n∧(run lt (kas_sort n)).Perm (List.range n).toArray∧Up lt (run lt (kas_sort n)) n:=by
 obtain⟨p,m,e,a,b,c,d,u⟩:=jE O (p:=(List.range n).toArray) (nrem:=n) h (by simp)
 unfold kas_sort
 rw[run_bind,e]
 dsimp only
 have hs:p.size=n:=by rw[c];simp
 by_cases hm:m<n
 ·rw[if_pos hm]
  have em:max m 1=m:=by omega
  rw[em]
  obtain⟨x,y,z⟩:=ka O (n-m) p m (by omega) (by omega) u
  refine⟨by rw[x,hs],y.trans d,?_⟩
  have e:m+(n-m)=n:=by omega
  rw[e] at z
  exact z
 ·rw[if_neg hm]
  have e:m=n:=by omega
  subst e
  exact⟨hs,d,u⟩
end SortA
namespace SortA
open PySem PySem.W PyProof.Rows
def yZ {α:Type}(n:Nat)(P:α→Prop):KasT α→Prop
 |.ret a=>P a
 |.ask i j k=>i<n∧j<n∧∀b,yZ n P (k b)
theorem yZ.bind {α β:Type}{n:Nat}{P:α→Prop}{P':β→Prop}{f:α→KasT β}(h2:∀a,P a→yZ n P' (f a)):∀t:KasT α,yZ n P t→yZ n P' (t.bind f)
 |.ret a,h=>h2 a h
 |.ask i j k,⟨a,b,c⟩=>⟨a,b,fun x=>yZ.bind h2 (k x) (c x)⟩
def Bd (n:Nat)(p:Array Nat):Prop:=∀x∈p,x<n
theorem Bd.get {n:Nat}{p:Array Nat}(h:Bd n p)(hn:0<n)(i:Nat):p.getD i 0<n:=by
 by_cases hi:i<p.size
 ·have e:p.getD i 0=p[i]:=by simp[Array.getD,hi]
  rw[e];exact h _ (Array.getElem_mem hi)
 ·have e:p.getD i 0=0:=by simp[Array.getD,hi]
  rw[e];exact hn
theorem Bd.perm {n:Nat}{p q:Array Nat}(h:Bd n p)(e:q.Perm p):Bd n q:=fun x hx=>h x (e.mem_iff.mp hx)
theorem uZ {n:Nat}{p:Array Nat}(B:Bd n p)(hn:0<n):∀f k,yZ n (fun _=>True) (kas_asc p f k)
 |0,_=>trivial
 |f+1,k=>⟨B.get hn _,B.get hn _,fun b=>by
  cases b with
  |true=>exact trivial
  |false=>exact uZ B hn f (k+1)⟩
theorem we {n:Nat}(hn:0<n):∀f (p:Array Nat) k q,Bd n p→yZ n (fun r:Array Nat×Nat×Nat=>Bd n r.1) (kas_desc f p k q)
 |0,_,_,_,B=>B
 |f+1,p,k,q,B=>⟨B.get hn _,B.get hn _,fun b=>by
  cases b with
  |true=>
   show yZ n _ (if q > 0 then _ else _)
   split
   ·exact we hn f _ _ _ (B.perm (yx _ _ _))
   ·exact we hn f _ _ _ B
  |false=>
   refine⟨B.get hn _,B.get hn _,fun b=>?_⟩
   cases b with
   |true=>exact B
   |false=>exact we hn f _ _ _ B⟩
theorem uL {n:Nat}{p:Array Nat}(B:Bd n p)(hn:0<n)(m r:Nat):yZ n (fun r:Nat×Array Nat=>Bd n r.2) (kas_tail3 m r p):=by
 unfold kas_tail3
 refine yZ.bind (P:=fun _=>True) (fun a _=>?_) _ (uZ (B.perm (yx _ _ _)) hn _ _)
 exact B.perm (yx _ _ _)
theorem wj {n:Nat}{p:Array Nat}(B:Bd n p)(hn:0<n)(m r:Nat):yZ n (fun r:Nat×Array Nat=>Bd n r.2) (kas_descPart m r p):=
 yZ.bind (fun a ha=>by
  split
  ·exact uL (Bd.perm ha (yx _ _ _)) hn _ _
  ·exact uL ha hn _ _) _ (we hn _ _ _ _ B)
theorem pE {n:Nat}{p:Array Nat}(B:Bd n p)(hn:0<n)(r:Nat):yZ n (fun r:Nat×Array Nat=>Bd n r.2) (kas_count r p):=
 yZ.bind (fun a _=>by
  split
  ·exact B
  ·split
   ·refine⟨B.get hn _,B.get hn _,fun b=>?_⟩
    cases b with
    |true=>exact B
    |false=>exact wj (B.perm (yx _ _ _)) hn _ _
   ·exact wj B hn _ _) _ (uZ B hn _ _)
theorem wt {n:Nat}{p:Array Nat}(B:Bd n p)(hn:0<n)(k:Nat):∀f l r,yZ n (fun _=>True) (kas_place p k f l r)
 |0,_,_=>trivial
 |f+1,l,r=>by
  show yZ n _ (if l≥r then _ else _)
  split
  ·exact trivial
  ·refine⟨B.get hn _,B.get hn _,fun b=>?_⟩
   cases b with
   |true=>exact wt B hn k f _ _
   |false=>exact wt B hn k f _ _
theorem rM {n:Nat}(hn:0<n):∀f (p:Array Nat) k,Bd n p→yZ n (fun _=>True) (kas_bin f p k)
 |0,_,_,_=>trivial
 |f+1,p,k,B=>yZ.bind (fun l _=>rM hn f _ _ (B.perm (bubble_perm _ _ _))) _ (wt B hn k _ _ _)
theorem ll {n:Nat}(hn:0<n):yZ n (fun _=>True) (kas_sort n):=
 yZ.bind (fun a ha=>by
  split
  ·exact rM hn _ _ _ ha
  ·exact trivial) _ (pE (fun x hx=>by simpa using hx) hn n)
theorem wp_run {α:Type}{n:Nat}{P:α→Prop}{cmp:Nat→Nat→(Bool→Shared→Prop)→Shared→Prop}{lt:Nat→Nat→Bool}{Q:α→Shared→Prop}{s:Shared}(hc:∀i j C,i<n→j<n→C (lt i j) s→cmp i j C s):
  ∀t:KasT α,yZ n P t→Q (run lt t) s→t.kasWp cmp Q s
 |.ret _,_,h=>h
 |.ask i j k,⟨a,b,c⟩,h=>hc i j _ a b (wp_run hc (k (lt i j)) (c _) h)
def lx (p q:Int×Int):Bool:=decide (p.1<q.1∨(p.1=q.1∧p.2<q.2))
def at2 (ps:List (Int×Int))(i:Nat):Int×Int:=ps.getD i (0,0)
theorem eO (ps:List (Int×Int)):Ord fun i j=>lx (at2 ps i) (at2 ps j) where
 irr:=fun a=>by simp[lx]
 tr:=fun a b c=>by
  unfold lx
  generalize at2 ps a=x;generalize at2 ps b=y;generalize at2 ps c=z
  simp only[zh4]
  omega
 asy:=fun a b=>by
  unfold lx
  generalize at2 ps a=x;generalize at2 ps b=y
  simp only[zh4,aZ]
  omega
theorem ph (ps:List (Int×Int))(h:0<ps.length):∃ix:List Nat,run (fun i j=>lx (at2 ps i) (at2 ps j)) (kas_sort ps.length)=ix.toArray∧ix.length=ps.length∧(∀i∈ix,i<ps.length)∧(ix.map (at2 ps)).Perm ps∧(ix.map (at2 ps)).Pairwise (fun p q=>lx q p=false):=by
 obtain⟨a,b,c⟩:=iT (eO ps) h
 generalize run (fun i j=>lx (at2 ps i) (at2 ps j)) (kas_sort ps.length)=r at a b c
 have e:(List.range ps.length).map (at2 ps)=ps:=by
  apply List.ext_getElem
  ·simp
  ·intro i h1 h2
   simp[at2,h2]
 have pl:r.toList.Perm (List.range ps.length):=by
  have:=Array.perm_iff_toList_perm.mp b
  simpa using this
 refine⟨r.toList,by simp,by simpa using a,fun i hi=>by simpa using pl.mem_iff.mp hi,?_,?_⟩
 ·have:=pl.map (at2 ps)
  rw[e] at this
  exact this
 ·rw[List.pairwise_map,List.pairwise_iff_getElem]
  intro i j hi hj hij
  have h1:j<r.size:=by simpa using hj
  have:=c i j (by omega) (by rw[←a];exact h1)
  have ei:g r i=r.toList[i]:=by
   have:i<r.size:=by omega
   simp[g,Array.getD,this]
  have ej:g r j=r.toList[j]:=by simp[g,Array.getD,h1]
  rw[ei,ej] at this
  exact this
end SortA
namespace L2
open PySem PySem.Spec PySem.Calls PySem.W PyProof.Rows SortA
section
variable {prog:Program}{w:World}{A:Around}{E:Value→Shared→Prop}{s:Shared}
def Prs (h:Heap):List Value→List (Int×Int)→Prop
 |[],[]=>True
 |v::vs,p::ps=>(∃a o t u n,v=.ref a∧h.get? a=some o∧o.cls=.type "tuple"∧o.data=.seq #[.int p.1 t,.int p.2 u] n)∧Prs h vs ps
 |_,_=>False
theorem Prs.len {h:Heap}:∀{vs:List Value} {ps:List (Int×Int)},Prs h vs ps→vs.length=ps.length
 |[],[],_=>rfl
 |[],_::_,h=>h.elim
 |_::_,[],h=>h.elim
 |_::_,_::_,⟨_,h⟩=>by simp[Prs.len h]
theorem Prs.keep {h h':Heap}(k:∀b o,h.get? b=some o→o.cls=.type "tuple"→h'.get? b=some o):∀{vs:List Value} {ps:List (Int×Int)},Prs h vs ps→Prs h' vs ps
 |[],[],_=>trivial
 |[],_::_,h=>h.elim
 |_::_,[],h=>h.elim
 |_::_,_::_,⟨⟨a,o,t,u,n,e,ho,hc,hd⟩,r⟩=>⟨⟨a,o,t,u,n,e,k _ _ ho hc,hc,hd⟩,Prs.keep k r⟩
theorem Prs.at {h:Heap}:∀{vs:List Value} {ps:List (Int×Int)} (i:Nat),Prs h vs ps→i<ps.length→∃a o t u n,vs.getD i Value.none=.ref a∧h.get? a=some o∧o.cls=.type "tuple"∧o.data=.seq #[.int (at2 ps i).1 t,.int (at2 ps i).2 u] n
 |[],[],_,_,hi=>by simp at hi
 |[],_::_,_,h,_=>h.elim
 |_::_,[],_,h,_=>h.elim
 |_::_,_::_,0,⟨x,_⟩,_=>x
 |_::_,_::_,i+1,⟨_,r⟩,hi=>by
  obtain⟨a,o,t,u,n,e,q⟩:=Prs.at i r (by simpa using hi)
  exact⟨a,o,t,u,n,by simpa using e,q⟩
theorem Prs.tups {h:Heap}:∀{vs:List Value} {ps:List (Int×Int)},Prs h vs ps→∃fs:List Value,KatTups h vs fs∧fs.length=ps.length∧∀v∈fs,∃i t,v=.int i t
 |[],[],_=>⟨[],trivial,rfl,fun _ h=>by simp at h⟩
 |[],_::_,h=>h.elim
 |_::_,[],h=>h.elim
 |_::_,p::_,⟨⟨a,o,t,u,n,e,ho,hc,hd⟩,r⟩=>by
  obtain⟨fs,x,y,z⟩:=Prs.tups r
  subst e
  refine⟨.int p.1 t::fs,KatTups.cons ho hc hd (by simp) x,by simp[y],fun v hv=>?_⟩
  rcases aP.mp hv with rfl|hv
  ·exact⟨_,_,rfl⟩
  ·exact z v hv
theorem kU {a b:Addr}{oa ob:Obj}{p q:Int×Int}{t u t' u':Tok}{n k:Nat}{Q:Bool→Shared→Prop}(ha:s.heap.get? a=some oa)(da:oa.data=.seq #[.int p.1 t,.int p.2 u] n)(hb:s.heap.get? b=some ob)(db:ob.data=.seq #[.int q.1 t',.int q.2 u'] k)
  (h:Q (lx p q) s):wpAny (model prog w) A (keyLt' (tuples' true) (.ref a) (.ref b)) Q E s:=by
 refine kat_lt ha da hb db (kat_cons (wpAny_eqBool_int ?_))
 by_cases e:p.1=q.1
 ·have e1:(p.1 == q.1)=true:=by simp[e]
  rw[e1]
  refine kat_yes (kat_cons (wpAny_eqBool_int ?_))
  by_cases e2:p.2=q.2
  ·have e3:(p.2 == q.2)=true:=by simp[e2]
   rw[e3]
   refine kat_yes (kat_nil ?_)
   have:lx p q=false:=by simp[lx,e,e2]
   rw[this] at h
   simpa using h
  ·have e3:(p.2 == q.2)=false:=by simp[e2]
   rw[e3]
   refine kat_no (kat_one _ _ (wpAny_lt_int ?_))
   have:lx p q=decide (p.2<q.2):=by simp[lx,e]
   rw[this] at h
   exact h
 ·have e1:(p.1 == q.1)=false:=by simp[e]
  rw[e1]
  refine kat_no (oneLt_int ?_)
  have:lx p q=decide (p.1<q.1):=by simp[lx,e]
  rw[this] at h
  exact h
theorem pf {vs:List Value}{ps:List (Int×Int)}(h2:2≤vs.length)(P:Prs s.heap vs ps){R:Array Nat→Shared→Prop}(hr:∀ix:List Nat,ix.length=ps.length→(∀i∈ix,i<ps.length)→(ix.map (at2 ps)).Perm ps→(ix.map (at2 ps)).Pairwise (fun p q=>lx q p=false)→R ix.toArray s):
  wpAny (model prog w) A (keyKind' vs.toArray) (fun κ s'=>(kas_sort vs.length).kasWp (kas_ask prog w A κ vs) R s') (fun _ _=>False) s:=by
 obtain⟨fs,t,hl,hi⟩:=P.tups
 have hlen:=P.len
 refine kat_kind (T:=.type "int") t (by omega) (fun v hv=>?_) (by decide) ?_
 ·obtain⟨i,t,rfl⟩:=hi v hv
  exact .now
 ·have e:(Value.type "int" != Value.type "tuple")=true:=by decide
  rw[e]
  obtain⟨ix,e1,e2,e3,e4,e5⟩:=ph ps (by omega)
  rw[hlen]
  refine wp_run (n:=ps.length) (P:=fun _=>True) (lt:=fun i j=>lx (at2 ps i) (at2 ps j)) (fun i j C hi hj hC=>?_) _ (ll (by omega)) ?_
  ·obtain⟨a,o,t,u,n,ea,ha,_,da⟩:=P.at i hi
   obtain⟨b,o',t',u',n',eb,hb,_,db⟩:=P.at j hj
   unfold kas_ask
   rw[ea,eb]
   exact kU ha da hb db hC
  ·rw[e1];exact hr ix e2 e3 e4 e5
def Srt (vs:List Value)(ps:List (Int×Int))(out:List Value):Prop:=
 ∃ix:List Nat,out=ix.map (fun i=>vs.getD i Value.none)∧ix.length=ps.length∧(∀i∈ix,i<ps.length)∧(ix.map (at2 ps)).Perm ps∧(ix.map (at2 ps)).Pairwise (fun p q=>lx q p=false)
theorem vR {a:Addr}{vs:List Value}{ps:List (Int×Int)}{n:Nat}{Pf:PySem.Fin→Shared→Prop}(ho:s.heap.get? a=some (seqObj "list" vs.toArray n))(h64:vs.length<64)(P:Prs s.heap vs ps)
  (h:∀out h' c,Srt vs ps out→(∀b o,b≠a→s.heap.get? b=some o→h'.get? b=some o)→h'.get? a=some (seqObj "list" out.toArray c)→Pf (.done (.ret .none)) {s with heap:=h'}):
  wpAny (model prog w) A (Builtin.«list.sort» ⟨[.ref a],[]⟩) Pf E s:=by
 have ha:a<s.heap.objs.size:=aQ ho
 have s1:=Heap.SameBut.update s.heap a (Obj.mapSeq fun _=>(#[]:Array Value))
 obtain⟨e1,ho1⟩:∃e1,(s.heap.update a (Obj.mapSeq fun _=>(#[]:Array Value))).get? a=some (seqObj "list" #[] e1):=⟨_,get?_update_seq ho fun _=>#[]⟩
 generalize hh1:s.heap.update a (Obj.mapSeq fun _=>(#[]:Array Value))=h1 at s1 ho1
 have k1:∀b o,b≠a→s.heap.get? b=some o→((h1.push (seqObj "tuple" vs.toArray 0)).push (seqObj "list" #[] 0)).get? b=some o:=fun b o hb e=>
  aR _ (aR _ ((s1.2 b hb).trans e))
 have ho2:((h1.push (seqObj "tuple" vs.toArray 0)).push (seqObj "list" #[] 0)).get? a=some (seqObj "list" #[] e1):=aR _ (aR _ ho1)
 have P2:Prs ((h1.push (seqObj "tuple" vs.toArray 0)).push (seqObj "list" #[] 0)) vs ps:=P.keep fun b o e hc=>by
  refine k1 b o (fun q=>?_) e
  rw[q,ho] at e
  cases e
  simp at hc
 have fin:∀(out:List Value),Srt vs ps out→∀{s':Shared},s'={s with heap:=(h1.push (seqObj "tuple" vs.toArray 0)).push (seqObj "list" #[] 0)}→
   ∀c h',h'.get? a=some (seqObj "list" out.toArray c)→Heap.SameBut a s'.heap h'→Pf (.done (.ret .none)) {s' with heap:=h'}:=fun out so s' es c h' e sb=>by
  subst es
  exact h out h' c so (fun b o hb e=>(sb.2 b hb).trans (k1 b o hb e)) e
 rw[list_sort_plain]
 refine aT (listItems_at ho rfl ?_)
 refine aT (listUpdate_at ho rfl ?_ (by rw[aO,ze3];omega) (aS _))
 rw[hh1]
 refine aT (seqEpoch_at ho1 rfl ?_)
 refine aT (wpAny_newTuple ?_ (by show vs.length≤_;rw[ze3];omega))
 refine aT (wpAny_newList ?_ (aS _))
 refine zh7 ?_
 show wpAny (model prog w) A _ Pf E {s with heap:=(h1.push (seqObj "tuple" vs.toArray 0)).push (seqObj "list" #[] 0)}
 dsimp only
 have hlen:=P.len
 by_cases hn2:vs.toArray.size<2
 ·rw[if_pos hn2,if_pos hn2]
  have hv:vs.length<2:=by simpa using hn2
  refine aT (zb1 ?_)
  refine aT (zb1 ?_)
  dsimp only
  have so:Srt vs ps vs:=by
   match vs,ps,hv,hlen with
   |[],[],_,_=>exact⟨[],rfl,rfl,fun _ h=>by simp at h,.refl _,.nil⟩
   |[v],[p],_,_=>exact⟨[0],rfl,rfl,fun i h=>by simp at h;subst h;simp,.refl _,by simp⟩
   |_::_::_,_,hv,_=>simp only[aW] at hv;omega
  have hout:(arrOf (SortSt.mk' general' (vs.toArray.zip vs.toArray) #[] 7 none)).map (·.2)=vs.toArray:=by
   show (vs.toArray.zip vs.toArray).map (·.2)=vs.toArray
   apply Array.toList_inj.mp
   rw[Array.toList_map,Array.toList_zip]
   exact List.map_snd_zip (aN _)
  have hf:failedOf (SortSt.mk' general' (vs.toArray.zip vs.toArray) #[] 7 none)=none:=rfl
  rw[hout]
  have s2:=Heap.SameBut.update ((h1.push (seqObj "tuple" vs.toArray 0)).push (seqObj "list" #[] 0)) a (Obj.mapSeq fun _=>vs.toArray)
  obtain⟨c2,hc2⟩:∃c2,(((h1.push (seqObj "tuple" vs.toArray 0)).push (seqObj "list" #[] 0)).update a (Obj.mapSeq fun _=>vs.toArray)).get? a=some (seqObj "list" vs.toArray c2):=⟨_,get?_update_seq ho2 fun _=>vs.toArray⟩
  refine aT (seqEpoch_at ho2 rfl ?_)
  refine aT (listUpdate_at ho2 rfl ?_ (aS _) (by rw[aO,ze3];omega))
  simp only[bne_self_eq_false,zh2,if_false]
  exact zb1 (fin vs so rfl c2 _ hc2 s2)
 ·rw[if_neg hn2,if_neg hn2]
  have h2:2≤vs.length:=by simp at hn2;omega
  have ask:=pf (prog:=prog) (w:=w) (A:=A) (s:={s with heap:=(h1.push (seqObj "tuple" vs.toArray 0)).push (seqObj "list" #[] 0)}) h2 P2
   (R:=fun p s''=>Srt vs ps (p.toList.map fun i=>vs.getD i Value.none)∧s''={s with heap:=(h1.push (seqObj "tuple" vs.toArray 0)).push (seqObj "list" #[] 0)}) (fun ix a b c d=>⟨⟨ix,by simp,a,b,c,d⟩,rfl⟩)
  refine aT (zb5 ask (fun κ s0 hk=>?_) fun _ _ x=>x.elim)
  refine aT (zb5 (kat_run (Q:=fun st' s'=>∃p:Array Nat,p.size=vs.length∧arrOf st'=p.map (kas_item (vs.toArray.zip vs.toArray))∧failedOf st'=none∧Srt vs ps (p.toList.map fun i=>vs.getD i Value.none)∧s'={s with heap:=(h1.push (seqObj "tuple" vs.toArray 0)).push (seqObj "list" #[] 0)})
   rfl h2 h64 (fun p' st' s' a1 a2 a3 a4=>⟨p',a1,a2,a3,a4⟩) hk) ?_ fun _ _ e=>e)
  rintro⟨⟨⟩,st'⟩ s' ⟨p,hp,har,hf,so,es⟩
  dsimp only
  have hout:=kat_snds rfl har
  have hsz:(List.toArray (p.toList.map fun i=>vs.getD i Value.none)).size=vs.length:=by rw[aO,aI,zi6,hp]
  rw[hout]
  have ho3:s'.heap.get? a=some (seqObj "list" #[] e1):=by rw[es];exact ho2
  have s2:=Heap.SameBut.update s'.heap a (Obj.mapSeq fun _=>List.toArray (p.toList.map fun i=>vs.getD i Value.none))
  obtain⟨c2,hc2⟩:∃c2,(s'.heap.update a (Obj.mapSeq fun _=>List.toArray (p.toList.map fun i=>vs.getD i Value.none))).get? a=some (seqObj "list" (List.toArray (p.toList.map fun i=>vs.getD i Value.none)) c2):=⟨_,get?_update_seq ho3 fun _=>List.toArray (p.toList.map fun i=>vs.getD i Value.none)⟩
  refine aT (seqEpoch_at ho3 rfl ?_)
  refine aT (listUpdate_at ho3 rfl ?_ (aS _) (zb4 (zi3 hsz) (by rw[ze3];omega)))
  rw[hf]
  simp only[bne_self_eq_false,zh2,if_false]
  exact zb1 (fin _ so es c2 _ hc2 s2)
theorem rB {l:Addr}{vs:List Value}{ps:List (Int×Int)}{Q:Value→Shared→Prop}(hl:s.heap.IsList l vs.toArray)(h64:vs.length<64)(P:Prs s.heap vs ps)
  (h:∀D out h' c,s.heap.objs.size≤D→Srt vs ps out→(∀b o,s.heap.get? b=some o→h'.get? b=some o)→h'.get? D=some (seqObj "list" out.toArray c)→Q (.ref D) {s with heap:=h'}):
  wpAny (model prog w) A (call (.builtin "sorted") [.ref l]) Q E s:=by
 refine Calls.call_function_entry kind_sorted plain_sorted entry_sorted (args_sorted1 _) ?_
 unfold Builtin.«sorted»
 refine aT (m:=checkCount "sorted" 1 1 _) (zb1 ?_)
 refine aT (collect_list hl ?_ (by rw[ze3];omega))
 refine aT (wpAny_newList ?_ (by rw[ze3];omega))
 have hsz:((s.heap.push (seqObj "list" #[] 0)).update s.heap.objs.size (Obj.mapSeq (·++vs.toArray))).objs.size=s.heap.objs.size+1:=by
  rw[Heap.size_update,size_push']
 have hoL:(((s.heap.push (seqObj "list" #[] 0)).update s.heap.objs.size (Obj.mapSeq (·++vs.toArray))).push (seqObj "list" vs.toArray 0)).get? (s.heap.objs.size+1)=some (seqObj "list" vs.toArray 0):=by
  rw[←hsz];exact zb2 _ rfl
 have keep:∀b o,s.heap.get? b=some o→(((s.heap.push (seqObj "list" #[] 0)).update s.heap.objs.size (Obj.mapSeq (·++vs.toArray))).push (seqObj "list" vs.toArray 0)).get? b=some o:=fun b o q=>by
  have hlt:b<s.heap.objs.size:=aQ q
  rw[Heap.get?_push_ne _ _ _ (by rw[hsz];exact za1 (zh5 hlt)),Heap.get?_update_ne _ _ _ _ (za1 hlt),Heap.get?_push_ne _ _ _ (za1 hlt)]
  exact q
 show wpAny _ _ _ _ _ {s with heap:=((s.heap.push (seqObj "list" #[] 0)).update s.heap.objs.size (Obj.mapSeq (·++vs.toArray))).push (seqObj "list" vs.toArray 0)}
 rw[hsz]
 refine aT (zh7 (wpAny_call_entry slot_list_sort ⟨_,hoL,rfl⟩ entry_list_sort ?body (args_list_sort _)))
 case body=>
  refine vR (s:={s with heap:=((s.heap.push (seqObj "list" #[] 0)).update s.heap.objs.size (Obj.mapSeq (·++vs.toArray))).push (seqObj "list" vs.toArray 0)})
   hoL h64 (P.keep fun b o e _=>keep b o e) fun out h' c so k e=>?_
  exact⟨_,rfl,zb1 ⟨_,rfl,h _ out h' c (zh6 _) so (fun b o q=>k b o (za1 (zh5 (aQ q))) (keep b o q)) e⟩⟩
end
inductive PrV (H:Hp):List V→List (Int×Int)→Prop where
 |nil:PrV H [] []
 |cons {a:Addr} {xs:List V} {p:Int×Int} {ps:List (Int×Int)}:H a=some (.tup [.int p.1,.int p.2])→PrV H xs ps→PrV H (.ref a::xs) (p::ps)
section
variable {X:Cx}{pins:List (Addr×Obj)}{σ:St}{H H':Hp}{s:Shared}
theorem PrV.len {xs:List V}{ps:List (Int×Int)}(h:PrV H xs ps):xs.length=ps.length:=by
 induction h with
 |nil=>rfl
 |cons _ _ ih=>simp[ih]
theorem PrV.keep {xs:List V}{ps:List (Int×Int)}(k:∀a p q,H a=some (.tup [.int p,.int q])→H' a=some (.tup [.int p,.int q]))(h:PrV H xs ps):PrV H' xs ps:=by
 induction h with
 |nil=>exact .nil
 |cons e _ ih=>exact .cons (k _ _ _ e) ih
theorem PrV.app {xs ys:List V}{ps qs:List (Int×Int)}(h:PrV H xs ps)(h':PrV H ys qs):PrV H (xs++ys) (ps++qs):=by
 induction h with
 |nil=>exact h'
 |cons e _ ih=>exact .cons e ih
theorem PrV.prs (I:Inv X pins σ H s):∀{xs:List V} {ps:List (Int×Int)} {us:List Value},PrV H xs ps→Vals xs us→Prs s.heap us ps:=by
 intro xs ps us h
 induction h generalizing us with
 |nil=>intro r;cases r;exact trivial
 |@cons a xs p ps e _ ih=>
  intro r
  cases r with
  |cons r rr=>
   cases (show _=Value.ref a from r)
   obtain⟨_,its,vi,o,ho,hc,n,hd⟩:=(show yi X.prog X.w H s.heap a (.tup [.int p.1,.int p.2]) from I.hok a _ e)
   obtain⟨u,v,rfl,⟨t,rfl⟩,⟨t',rfl⟩⟩:=Vals.two vi
   exact⟨⟨a,o,t,t',n,rfl,ho,hc,hd⟩,ih rr⟩
theorem PrV.at {xs:List V}{ps:List (Int×Int)}(h:PrV H xs ps):∀i,i<ps.length→∃a,xs[i]?=some (.ref a)∧H a=some (.tup [.int (at2 ps i).1,.int (at2 ps i).2]):=by
 induction h with
 |nil=>intro i hi;simp at hi
 |@cons a xs p ps e _ ih=>
  intro i hi
  cases i with
  |zero=>exact⟨a,rfl,e⟩
  |succ i=>
   obtain⟨b,e1,e2⟩:=ih i (by simpa using hi)
   exact⟨b,by simpa using e1,e2⟩
theorem kF {xs:List V}{us:List Value}(r:Vals xs us):∀i x,xs[i]?=some x→RelV x (us.getD i Value.none):=by
 induction r with
 |nil=>intro i x h;simp at h
 |cons e _ ih=>
  intro i x h
  cases i with
  |zero=>have h':=za3 (by simpa using h);subst h';exact e
  |succ i=>exact ih i x (by simpa using h)
theorem tZ {xs:List V}{us:List Value}{ps:List (Int×Int)}(h:PrV H xs ps)(r:Vals xs us):∀ix:List Nat,(∀i∈ix,i<ps.length)→∃ys,Vals ys (ix.map fun i=>us.getD i Value.none)∧PrV H ys (ix.map (at2 ps))
 |[],_=>⟨[],.nil,.nil⟩
 |i::ix,hi=>by
  obtain⟨ys,a,b⟩:=tZ h r ix fun j hj=>hi j (.tail _ hj)
  obtain⟨c,e1,e2⟩:=h.at i (hi i (.head _))
  exact⟨.ref c::ys,.cons (kF r i _ e1) a,.cons e2 b⟩
def ak (ps:List (Int×Int)):Prop:=ps.Pairwise fun p q=>lx q p=false
theorem sj :xr X (.builtin "sorted") (fun xs H Q=>∃(l:Addr) (ys:List V) (ps:List (Int×Int)),xs=[.ref l]∧H l=some (.lst ys)∧PrV H ys ps∧ps.length<64∧
  ∀l' zs qs,H l'=none→PrV H zs qs→qs.Perm ps→ak qs→Q (.ref l') (upd H l' (.lst zs))):=by
 intro pins s σ H xs us Q I r h
 obtain⟨l,ys,ps,rfl,hl,hp,h64,q⟩:=h
 obtain⟨u,rfl,rx⟩:=Vals.one r
 cases (show u=Value.ref l from rx)
 obtain⟨hz,its,n,vi,e⟩:=(show yi X.prog X.w H s.heap l (.lst ys) from I.hok l _ hl)
 have P:=hp.prs I vi
 have hlen:=P.len
 refine rB (vs:=its) (ps:=ps) ⟨_,e,rfl,n,rfl⟩ (by omega) P fun D out h' c hD so k e'=>?_
 obtain⟨ix,eo,e2,e3,e4,e5⟩:=so
 obtain⟨zs,vz,pz⟩:=tZ hp vi ix e3
 have hn:H D=none:=I.hok.fresh hD
 refine⟨.ref D,_,I.laid (o:=.lst zs) (t':=s.toks) k hD ⟨?_,out,c,by rw[eo];exact vz,e'⟩,rfl,q D zs _ hn pz e4 e5⟩
 rw[pz.len,aI,e2,ze3]
 omega
end
end L2
namespace Days
abbrev Sp2 :=Int×Int
def Has (l:List Sp2)(d:Int):Prop:=∃p∈l,p.1≤d∧d≤p.2
structure Canon (l:List Sp2):Prop where
 val:∀p∈l,p.1≤p.2
 gap:l.Pairwise fun p q=>p.2+1<q.1
theorem Canon.nil :Canon []:=⟨fun _ h=>by simp at h,.nil⟩
theorem Canon.tail {p:Sp2}{l:List Sp2}(h:Canon (p::l)):Canon l:=⟨fun q hq=>h.val q (aK _ hq),(ze6.mp h.gap).2⟩
theorem zW {d:Int}:¬Has [] d:=fun⟨_,h,_⟩=>by simp at h
theorem zr {p:Sp2}{l:List Sp2}{d:Int}:Has (p::l) d↔(p.1≤d∧d≤p.2)∨Has l d:=by
 constructor
 ·rintro⟨q,hq,h⟩
  rcases aP.mp hq with e|hq
  ·subst e;exact .inl h
  ·exact .inr ⟨q,hq,h⟩
 ·rintro (h|⟨q,hq,h⟩)
  ·exact⟨p,aJ,h⟩
  ·exact⟨q,aK _ hq,h⟩
theorem yF {l m:List Sp2}{d:Int}:Has (l++m) d↔Has l d∨Has m d:=by
 constructor
 ·rintro⟨q,hq,h⟩
  rcases za8.mp hq with hq|hq
  ·exact .inl ⟨q,hq,h⟩
  ·exact .inr ⟨q,hq,h⟩
 ·rintro (⟨q,hq,h⟩|⟨q,hq,h⟩)
  ·exact⟨q,zf2 _ hq,h⟩
  ·exact⟨q,za5 _ hq,h⟩
theorem Canon.after {p:Sp2}{l:List Sp2}(h:Canon (p::l)){d:Int}(hd:Has l d):p.2+1<d:=by
 obtain⟨q,hq,h1,h2⟩:=hd
 have:=(ze6.mp h.gap).1 q hq
 omega
theorem uniq :∀{l m:List Sp2},Canon l→Canon m→(∀d,Has l d↔Has m d)→l=m
 |[],[],_,_,_=>rfl
 |[],q::m,_,hm,h=>by
  have:=hm.val q aJ
  exact absurd ((h q.1).mpr (zr.mpr (.inl ⟨ze4 _,this⟩))) zW
 |p::l,[],hl,_,h=>by
  have:=hl.val p aJ
  exact absurd ((h p.1).mp (zr.mpr (.inl ⟨ze4 _,this⟩))) zW
 |p::l,q::m,hl,hm,h=>by
  have vp:=hl.val p aJ
  have vq:=hm.val q aJ
  have le1:q.1≤p.1:=by
   rcases zr.mp ((h p.1).mp (zr.mpr (.inl ⟨ze4 _,vp⟩))) with z|z
   ·exact z.1
   ·have:=hm.after z;omega
  have le2:p.1≤q.1:=by
   rcases zr.mp ((h q.1).mpr (zr.mpr (.inl ⟨ze4 _,vq⟩))) with z|z
   ·exact z.1
   ·have:=hl.after z;omega
  have e1:p.1=q.1:=by omega
  have le3:¬p.2<q.2:=fun hlt=>by
   rcases zr.mp ((h (p.2+1)).mpr (zr.mpr (.inl ⟨by omega,by omega⟩))) with z|z
   ·omega
   ·have:=hl.after z;omega
  have le4:¬q.2<p.2:=fun hlt=>by
   rcases zr.mp ((h (q.2+1)).mp (zr.mpr (.inl ⟨by omega,by omega⟩))) with z|z
   ·omega
   ·have:=hm.after z;omega
  have e2:p.2=q.2:=by omega
  have e:p=q:=Prod.ext e1 e2
  subst e
  have ht:∀d,Has l d↔Has m d:=fun d=>by
   constructor
   ·intro hd
    have:=hl.after hd
    rcases zr.mp ((h d).mp (zr.mpr (.inr hd))) with z|z
    ·omega
    ·exact z
   ·intro hd
    have:=hm.after hd
    rcases zr.mp ((h d).mpr (zr.mpr (.inr hd))) with z|z
    ·omega
    ·exact z
  rw[uniq hl.tail hm.tail ht]
def join (r:List Sp2)(s:Sp2):List Sp2:=
 match r.getLast? with
 |some p=>if s.1≤p.2+1 then r.dropLast++[(p.1,max p.2 s.2)] else r++[s]
 |none=>[s]
theorem join_nil (s:Sp2):join [] s=[s]:=rfl
theorem join_snoc (r:List Sp2)(p s:Sp2):join (r++[p]) s=if s.1≤p.2+1 then r++[(p.1,max p.2 s.2)] else r++[p]++[s]:=by
 unfold join
 rw[List.getLast?_concat,List.dropLast_concat]
theorem snoc_cases (r:List Sp2):r=[]∨∃i p,r=i++[p]:=by
 rcases List.eq_nil_or_concat r with h|⟨i,p,h⟩
 ·exact .inl h
 ·exact .inr ⟨i,p,by simpa using h⟩
theorem fh {r:List Sp2}{s:Sp2}(hr:Canon r)(hs:s.1≤s.2)(hle:∀p∈r,p.1≤s.1):
  Canon (join r s)∧(∀d,Has (join r s) d↔Has r d∨(s.1≤d∧d≤s.2))∧∀t:Int,s.1≤t→∀p∈join r s,p.1≤t:=by
 rcases snoc_cases r with rfl|⟨i,p,rfl⟩
 ·rw[join_nil]
  refine⟨⟨fun q hq=>?_,ze1 _ _⟩,fun d=>?_,fun t ht q hq=>?_⟩
  ·rw[aV.mp hq];exact hs
  ·rw[zr]
   constructor
   ·rintro (z|z)
    ·exact .inr z
    ·exact absurd z zW
   ·rintro (z|z)
    ·exact absurd z zW
    ·exact .inl z
  ·rw[aV.mp hq];exact ht
 ·rw[join_snoc]
  have hp:=hle p (za5 _ aJ)
  have vp:=hr.val p (za5 _ aJ)
  have hg:=zf3.mp hr.gap
  split
  ·rename_i hj
   refine⟨⟨fun q hq=>?_,zf3.mpr ⟨hg.1,ze1 _ _,fun a ha b hb=>?_⟩⟩,fun d=>?_,fun t ht q hq=>?_⟩
   ·rcases za8.mp hq with hq|hq
    ·exact hr.val q (zf2 _ hq)
    ·rw[aV.mp hq];show p.1≤max p.2 s.2;omega
   ·rw[aV.mp hb]
    exact hg.2.2 a ha p aJ
   ·rw[yF,yF,zr,zr]
    constructor
    ·rintro (z|z|z)
     ·exact .inl (.inl z)
     ·have z':p.1≤d∧d≤max p.2 s.2:=z
      by_cases hd:d≤p.2
      ·exact .inl (.inr (.inl ⟨z'.1,hd⟩))
      ·exact .inr ⟨by omega,by omega⟩
     ·exact absurd z zW
    ·rintro ((z|z|z)|z)
     ·exact .inl z
     ·refine .inr (.inl ?_)
      show p.1≤d∧d≤max p.2 s.2
      omega
     ·exact absurd z zW
     ·refine .inr (.inl ?_)
      show p.1≤d∧d≤max p.2 s.2
      omega
   ·rcases za8.mp hq with hq|hq
    ·have:=hle q (zf2 _ hq);omega
    ·rw[aV.mp hq];show p.1≤t;omega
  ·rename_i hj
   refine⟨⟨fun q hq=>?_,zf3.mpr ⟨hr.gap,ze1 _ _,fun a ha b hb=>?_⟩⟩,fun d=>?_,fun t ht q hq=>?_⟩
   ·rcases za8.mp hq with hq|hq
    ·exact hr.val q hq
    ·rw[aV.mp hq];exact hs
   ·rw[aV.mp hb]
    rcases za8.mp ha with ha|ha
    ·have:=hg.2.2 a ha p aJ;omega
    ·rw[aV.mp ha];omega
   ·rw[yF,zr]
    constructor
    ·rintro (z|z|z)
     ·exact .inl z
     ·exact .inr z
     ·exact absurd z zW
    ·rintro (z|z)
     ·exact .inl z
     ·exact .inr (.inl z)
   ·rcases za8.mp hq with hq|hq
    ·have:=hle q hq;omega
    ·rw[aV.mp hq];exact ht
def yz (r:List Sp2)(l:List Sp2):List Sp2:=l.foldl join r
theorem uN :∀{l:List Sp2} {r:List Sp2},Canon r→(∀s∈l,s.1≤s.2)→(l.Pairwise fun s t=>s.1≤t.1)→(∀p∈r,∀s∈l,p.1≤s.1)→
  Canon (yz r l)∧∀d,Has (yz r l) d↔Has r d∨Has l d
 |[],r,hr,_,_,_=>⟨hr,fun d=>⟨.inl,fun h=>h.elim id fun z=>absurd z zW⟩⟩
 |s::l,r,hr,hv,hp,hle=>by
  obtain⟨c1,h1,t1⟩:=fh hr (hv s aJ) fun p hp=>hle p hp s aJ
  obtain⟨c2,h2⟩:=uN (l:=l) c1 (fun t ht=>hv t (aK _ ht)) (ze6.mp hp).2 fun p hp' t ht=>t1 t.1 ((ze6.mp hp).1 t ht) p hp'
  refine⟨c2,fun d=>?_⟩
  show Has (yz (join r s) l) d↔_
  rw[h2,h1,zr]
  constructor
  ·rintro ((z|z)|z)
   ·exact .inl z
   ·exact .inr (.inl z)
   ·exact .inr (.inr z)
  ·rintro (z|z|z)
   ·exact .inl (.inl z)
   ·exact .inl (.inr z)
   ·exact .inr z
def xF (g s:Sp2):List Sp2:=(if s.1<g.1 then [(s.1,min s.2 (g.1-1))] else [])++if g.2<s.2 then [(max s.1 (g.2+1),s.2)] else []
def drops (r:List Sp2)(g:Sp2):List Sp2:=r.flatMap (xF g)
theorem wL {g s q:Sp2}(hg:g.1≤g.2)(hs:s.1≤s.2)(h:q∈xF g s):s.1≤q.1∧q.1≤q.2∧q.2≤s.2:=by
 unfold xF at h
 rcases za8.mp h with h|h
 ·split at h
  ·rw[aV.mp h];refine⟨ze4 _,?_,?_⟩<;>dsimp only<;>omega
  ·simp at h
 ·split at h
  ·rw[aV.mp h];refine⟨?_,?_,ze4 _⟩<;>dsimp only<;>omega
  ·simp at h
theorem jV {g s:Sp2}{d:Int}(hg:g.1≤g.2)(hs:s.1≤s.2):Has (xF g s) d↔(s.1≤d∧d≤s.2)∧¬(g.1≤d∧d≤g.2):=by
 unfold xF
 rw[yF]
 constructor
 ·rintro (z|z)
  ·split at z
   ·rcases zr.mp z with z|z
    ·dsimp only at z;omega
    ·exact absurd z zW
   ·exact absurd z zW
  ·split at z
   ·rcases zr.mp z with z|z
    ·dsimp only at z;omega
    ·exact absurd z zW
   ·exact absurd z zW
 ·rintro⟨⟨z1,z2⟩,z3⟩
  by_cases hd:d<g.1
  ·left
   rw[if_pos (by omega)]
   exact zr.mpr (.inl ⟨z1,by dsimp only;omega⟩)
  ·right
   rw[if_pos (by omega)]
   exact zr.mpr (.inl ⟨by dsimp only;omega,z2⟩)
theorem kY {g s:Sp2}(hg:g.1≤g.2)(hs:s.1≤s.2):(xF g s).Pairwise fun p q=>p.2+1<q.1:=by
 unfold xF
 refine zf3.mpr ⟨?_,?_,fun a ha b hb=>?_⟩
 ·split
  ·exact ze1 _ _
  ·exact .nil
 ·split
  ·exact ze1 _ _
  ·exact .nil
 ·split at ha
  ·split at hb
   ·rw[aV.mp ha,aV.mp hb];dsimp only;omega
   ·simp at hb
  ·simp at ha
theorem xD (s g:Sp2)(r:List Sp2):drops (s::r) g=xF g s++drops r g:=rfl
theorem qM {g:Sp2}(hg:g.1≤g.2):∀{r:List Sp2},Canon r→Canon (drops r g)∧(∀d,Has (drops r g) d↔Has r d∧¬(g.1≤d∧d≤g.2))∧∀q∈drops r g,∃s∈r,s.1≤q.1∧q.2≤s.2
 |[],_=>⟨Canon.nil,fun d=>⟨fun h=>absurd h zW,fun h=>absurd h.1 zW⟩,fun _ h=>by simp[drops] at h⟩
 |s::r,hr=>by
  obtain⟨c,h,m⟩:=qM hg hr.tail
  have vs:=hr.val s aJ
  rw[xD]
  refine⟨⟨fun q hq=>?_,zf3.mpr ⟨kY hg vs,c.gap,fun a ha b hb=>?_⟩⟩,fun d=>?_,fun q hq=>?_⟩
  ·rcases za8.mp hq with hq|hq
   ·exact (wL hg vs hq).2.1
   ·exact c.val q hq
  ·obtain⟨t,ht,h1,h2⟩:=m b hb
   have:=(ze6.mp hr.gap).1 t ht
   have:=(wL hg vs ha).2.2
   omega
  ·rw[yF,zr,h,jV hg vs]
   constructor
   ·rintro (⟨z1,z2⟩|⟨z1,z2⟩)
    ·exact⟨.inl z1,z2⟩
    ·exact⟨.inr z1,z2⟩
   ·rintro⟨z1|z1,z2⟩
    ·exact .inl ⟨z1,z2⟩
    ·exact .inr ⟨z1,z2⟩
  ·rcases za8.mp hq with hq|hq
   ·exact⟨s,aJ,(wL hg vs hq).1,(wL hg vs hq).2.2⟩
   ·obtain⟨t,ht,z⟩:=m q hq
    exact⟨t,aK _ ht,z⟩
theorem mh (r:List Sp2)(g:Sp2):(drops r g).length≤2*r.length:=by
 induction r with
 |nil=>simp[drops]
 |cons s r ih=>
  rw[xD,aX,aW]
  have:(xF g s).length≤2:=by
   unfold xF
   rw[aX]
   split<;>split<;>simp
  omega
theorem uE {g:Sp2}(hg:g.1≤g.2):∀{r:List Sp2},Canon r→(drops r g).length≤r.length+1
 |[],_=>by simp[drops]
 |s::r,hr=>by
  rw[xD,aX,aW]
  by_cases hb:s.1<g.1∧g.2<s.2
  ·have e:∀{l:List Sp2},(∀t∈l,s.2<t.1∧t.1≤t.2)→(drops l g).length≤l.length:=by
    intro l
    induction l with
    |nil=>intro _;simp[drops]
    |cons t l ih=>
     intro hl
     rw[xD,aX,aW]
     have h1:=hl t aJ
     have h2:=ih fun u hu=>hl u (aK _ hu)
     have h3:(xF g t).length≤1:=by
      unfold xF
      rw[if_neg (by omega)]
      split<;>simp
     omega
   have h1:(drops r g).length≤r.length:=e fun t ht=>⟨by have:=(ze6.mp hr.gap).1 t ht;omega,hr.val t (aK _ ht)⟩
   have h2:(xF g s).length≤2:=by
    unfold xF
    rw[aX]
    split<;>split<;>simp
   omega
  ·have h1:=uE hg hr.tail
   have h2:(xF g s).length≤1:=by
    unfold xF
    rw[aX]
    split<;>split<;>simp<;>omega
   omega
end Days
namespace L2
open PySem PySem.Spec PyProof.Rows Days
def dP (p:Sp2):PyData:=.tuple [.int p.1,.int p.2]
theorem fo {H:Hp}{xs:List V}{ps:List Sp2}(h:PrV H xs ps):AVs H xs (ps.map dP):=by
 induction h with
 |nil=>exact .nil
 |cons e _ ih=>exact .cons (.tup e (.cons (.int _) (.cons (.int _) .nil))) ih
theorem rp {H:Hp}:∀{ps:List Sp2} {xs:List V},AVs H xs (ps.map dP)→PrV H xs ps
 |[],_,.nil=>.nil
 |p::ps,_,.cons h r=>by
  obtain⟨a,ys,rfl,h1,h2⟩:=AV.tup_inv (ds:=[.int p.1,.int p.2]) h
  cases h2 with
  |cons g1 h2=>
   cases h2 with
   |cons g2 h2=>
    cases h2
    cases g1.int_inv;cases g2.int_inv
    exact .cons h1 (rp r)
theorem mj (ps:List Sp2):(PyData.list (ps.map dP)).hasDict=false:=by
 have:PyData.hasDictAll (ps.map dP)=false:=by
  induction ps with
  |nil=>rfl
  |cons p ps ih=>simp only[zf0,PyData.hasDictAll,ih,Bool.or_false];rfl
 simp only[PyData.hasDict,this]
theorem iU {F:Fr}{H':Hp}{l:Addr}{zs:List V}{r:List Sp2}(o:∀x,F.O0 x→∃u,F.H0 x=some u∧xt u)(s:zo F.H0 H')(hl:F.H0 l=none)(hl':H' l=some (.lst zs))(t:zI F F.H0)(pr:PrV H' zs r):wV F (.ref l) H' (.own (r.map dP)):=by
 refine⟨t.same s,Kz.of_same s,l,_,_,rfl,rfl,hl,fun z=>?_,hl',?_⟩
 ·obtain⟨u,hu,_⟩:=o l z
  rw[hl] at hu;cases hu
 ·refine fo (pr.keep fun a p q e=>zv ⟨fun z=>?_,fun z=>?_⟩ e)
  ·obtain⟨u,hu,hn⟩:=o a z
   rw[s _ _ hu] at e
   cases e
   exact hn _ rfl
  ·rw[z,hl'] at e;cases e
def hasB (ps:List Sp2)(d:Int):Bool:=ps.any fun p=>decide (p.1≤d)&&decide (d≤p.2)
theorem ig (ps:List Sp2)(d:Int):hasB ps d=true↔Has ps d:=by
 unfold hasB Has
 rw[List.any_eq_true]
 constructor
 ·rintro⟨p,h1,h2⟩
  rw[za0,aZ,aZ] at h2
  exact⟨p,h1,h2⟩
 ·rintro⟨p,h1,h2⟩
  exact⟨p,h1,by rw[za0,aZ,aZ];exact h2⟩
def onP (f:Sp2→Bool):PyData→Bool
 |.tuple [.int a,.int b]=>f (a,b)
 |_=>false
theorem pZ (f:Sp2→Bool)(ps:List Sp2):(ps.map dP).filter (onP f)=(ps.filter f).map dP:=by
 rw[List.filter_map]
 rfl
theorem kl {ps:List Sp2}{d:PyData}(h:d∈ps.map dP):∃p∈ps,d=.tuple [.int p.1,.int p.2]:=by
 obtain⟨p,h1,rfl⟩:=zc0.mp h
 exact⟨p,h1,rfl⟩
theorem oJ {ps:List Sp2}{d:PyData}{i:Nat}(h:(ps.map dP)[i]?=some d):∃p,ps[i]?=some p∧d=.tuple [.int p.1,.int p.2]:=by
 rw[za6,zb9] at h
 obtain⟨p,h1,rfl⟩:=h
 exact⟨p,h1,rfl⟩
section
variable {X:Cx}{α:Ev}{e a b c tg:Expr}{pos p:Pos}{Q:PyData→Prop}{E:yk}{sts:List Stmt}
end
section
variable {X:Cx}{α:Ev}{tg:Expr}{pos p:Pos}{E:yk}{sts body:List Stmt}
end
def isNone :PyData→Bool
 |.none=>true
 |_=>false
theorem DV.non_iff {H:Hp}{x:V}{d:PyData}(h:DV H x d):decide (x=.non)=isNone d:=by
 cases h<;>simp[isNone]
abbrev eqS (d:PyData)(s:Str):Bool:=PyData.eqv d (.str s)
abbrev wy :PyData→Bool:=yf 0 1000000000000
def uh :PyData→Bool
 |.tuple [.int m,f]=>yf 2 14 (.int m)&&yf 1 (m-1) f
 |_=>false
def zC (w v:PyData):Bool:=
 if eqS w "price"=true then isNone v||wy v
 else if (eqS w "come"||eqS w "go")=true then isBool v
 else if (eqS w "least"||eqS w "most")=true then yf 1 14 v
 else if eqS w "deal"=true then isNone v||uh v
 else eqS w "fee"&&wy v
def yM :PyData→Bool
 |.tuple [w,a,b,v]=>yh (.tuple [a,b])&&zC w v
 |_=>false
abbrev words :List Str:=["price","come","go","least","most","deal","fee"]
theorem oe {x:Str}(h:(PyData.str x).canLay0=true):SeqAt.shaped (.str x)=true:=by
 unfold SeqAt.shaped
 rw[h]
 rfl
def oO :Sp:=fun vs H Q _=>∃x y dw dv,vs=[x,y]∧DV H x dw∧SeqAt.shaped dw=true∧DV H y dv∧Q (.bl (zC dw dv)) H
def lU :Sp:=fun vs H Q _=>∃x d,vs=[x]∧DV H x d∧SeqAt.shaped d=true∧∀H',zo H H'→Q (.bl (yM d)) H'
theorem sU {ds:List PyData}(h:SeqAt.shaped (.tuple ds)=true):∀d∈ds,SeqAt.shaped d=true:=by
 unfold SeqAt.shaped at h
 rw[za0,aZ] at h
 obtain⟨h1,h2⟩:=h
 simp only[PyData.canLay0] at h1
 simp only[PyData.depth] at h2
 have key:∀(ds:List PyData),PyData.canLayAll0 ds=true→PyData.depthAll ds+1≤64→∀d∈ds,SeqAt.shaped d=true:=by
  intro ds
  induction ds with
  |nil=>intro _ _ d hd;simp at hd
  |cons e r ih=>
   intro a b d hd
   simp only[PyData.canLayAll0,za0] at a
   simp only[PyData.depthAll] at b
   rcases aP.mp hd with z|z
   ·subst z
    unfold SeqAt.shaped
    rw[a.1,zb3,aZ]
    omega
   ·exact ih a.2 (by omega) d z
 exact key ds h1 (by omega)
def xM (x y z:V):List (Str×V):=yY "worth" z (yY "last" y (yY "first" x []))
theorem fz :¬(("worth":Str)="last"):=by decide +kernel
theorem fK :¬(("worth":Str)="first"):=by decide +kernel
theorem jw :¬(("last":Str)="first"):=by decide +kernel
theorem pO (x y z:V):(xM x y z).lookup ("first":Str)=some x:=by
 unfold xM
 rw[zQ,if_neg (fun e=>fK e.symm),zQ,if_neg (fun e=>jw e.symm),zQ,if_pos rfl]
theorem mL (x y z:V):(xM x y z).lookup ("last":Str)=some y:=by
 unfold xM
 rw[zQ,if_neg (fun e=>fz e.symm),zQ,if_pos rfl]
theorem pb (x y z:V):(xM x y z).lookup ("worth":Str)=some z:=by
 unfold xM
 rw[zQ,if_pos rfl]
theorem hV (x y z:V){m:Str}(h1:¬m="worth")(h2:¬m="last")(h3:¬m="first"):(xM x y z).lookup m=none:=by
 unfold xM
 rw[zQ,if_neg h1,zQ,if_neg h2,zQ,if_neg h3]
 rfl
structure Cs where
 price:Addr
 come:Addr
 go:Addr
 least:Addr
 most:Addr
 deal:Addr
 fee:Addr
def Cs.of (c:Cs)(w:Str):Addr:=
 if w="price" then c.price else if w="come" then c.come else if w="go" then c.go else if w="least" then c.least else if w="most" then c.most else if w="deal" then c.deal else c.fee
structure xG (K:PySem.W.Frag)(C fI fT fE fW:Addr):Prop where
 cl:Cls K C
 nf:yD K C "first"
 nl:yD K C "last"
 nw:yD K C "worth"
 makes:Mk K C fI
 told:Meth K C "told" fT
 tells:Meth K C "tells" fE
 word:Meth K C "word" fW
def eD (C:Addr):Sp:=fun vs H Q _=>∃(p dx:Addr) (x y z:V),vs=[.ref p,x,y,z]∧H p=some (.ins C dx [])∧Q .non (upd H p (.ins C dx (xM x y z)))
def xS (w:Str):Sp:=fun vs H Q _=>∃p,vs=[.ref p]∧Q (.str w) H
def jl (C:Addr)(w:Str):Sp:=fun vs H Q _=>∃(p dx:Addr) (x y z:V),vs=[.ref p]∧H p=some (.ins C dx (xM x y z))∧∀q,H q=none→Q (.ref q) (upd H q (.tup [.str w,x,y,z]))
def jJ (cs:Cs):Sp:=fun vs H Q _=>∃(w:Str) (x y z:V),vs=[.str w,x,y,z]∧w∈words∧∀(p dx:Addr) (H':Hp),H' p=some (.ins (cs.of w) dx (xM x y z))→H p=none→zo H H'→Q (.ref p) H'
def qx (cs:Cs):Sp:=fun vs H Q _=>∃x d,vs=[x]∧DV H x d∧SeqAt.shaped d=true∧(yM d=false→∀H',zo H H'→Q .non H')∧
 (∀(r:Addr) (w:Str) (x1 x2 x3:V) (p dx:Addr) (H':Hp),x=.ref r→yM d=true→w∈words→H r=some (.tup [.str w,x1,x2,x3])→H' p=some (.ins (cs.of w) dx (xM x1 x2 x3))→H p=none→zo H H'→Q (.ref p) H')
theorem xA {d:PyData}{s:Str}(h:eqS d s=true):d=.str s:=by
 cases d with
 |str x=>
  have h':(x == s)=true:=h
  rw[eq_of_beq h']
 |_=>simp[PyData.eqv] at h
theorem qt {w v:PyData}(h:zC w v=true):∃s∈words,w=.str s:=by
 unfold zC at h
 split at h
 ·rename_i e;exact⟨"price",by simp[words],xA e⟩
 ·split at h
  ·rename_i e
   rcases (zi4 _ _).mp e with e|e
   ·exact⟨"come",by simp[words],xA e⟩
   ·exact⟨"go",by simp[words],xA e⟩
  ·split at h
   ·rename_i e
    rcases (zi4 _ _).mp e with e|e
    ·exact⟨"least",by simp[words],xA e⟩
    ·exact⟨"most",by simp[words],xA e⟩
   ·split at h
    ·rename_i e;exact⟨"deal",by simp[words],xA e⟩
    ·rw[za0] at h;exact⟨"fee",by simp[words],xA h.1⟩
theorem xf {d:PyData}(h:yM d=true):∃(s:Str) (a b v:PyData),s∈words∧d=.tuple [.str s,a,b,v]:=by
 unfold yM at h
 split at h
 ·rename_i w a b v
  rw[za0] at h
  obtain⟨s,hs,rfl⟩:=qt h.2
  exact⟨s,a,b,v,hs,rfl⟩
 ·cases h
section
variable {X:Cx}
end
abbrev xp (C:Addr)(fs:List (PyData×PyData)):PyData:=.dict ((.int (C:Nat),.none)::fs)
def vO :List (PyData×PyData)→Str→Option PyData
 |[],_=>none
 |(.str g,d)::r,f=>if f=g then some d else vO r f
 |_::r,f=>vO r f
theorem AVf.get {H:Hp}:∀{fs:List (Str×V)} {ds:List (PyData×PyData)} {f:Str} {d:PyData},AVf H fs ds→vO ds f=some d→∃v,fs.lookup f=some v∧AV H v d
 |_,_,f,d,.nil,e=>by cases e
 |_,_,f,d,.cons (f:=g) h r,e=>by
  rw[zd2]
  unfold vO at e
  by_cases z:f=g
  ·subst z
   rw[if_pos rfl] at e
   cases e
   exact⟨_,by simp,h⟩
  ·rw[if_neg z] at e
   have z':(f == g)=false:=by simpa using z
   rw[z']
   exact AVf.get r e
theorem AVf.none {H:Hp}:∀{fs:List (Str×V)} {ds:List (PyData×PyData)} {f:Str},AVf H fs ds→vO ds f=Option.none→fs.lookup f=Option.none
 |_,_,f,.nil,e=>rfl
 |_,_,f,.cons (f:=g) h r,e=>by
  rw[zd2]
  unfold vO at e
  by_cases z:f=g
  ·subst z
   rw[if_pos rfl] at e
   cases e
  ·rw[if_neg z] at e
   have z':(f == g)=false:=by simpa using z
   rw[z']
   exact AVf.none r e
theorem AV.ins_inv {H:Hp}{v:V}{C:Addr}{ds:List (PyData×PyData)}(h:AV H v (xp C ds)):∃a dx fs,v=.ref a∧H a=some (.ins C dx fs)∧AVf H fs ds:=by
 generalize e:xp C ds=d at h
 cases h with
 |@ins a C' dx fs ds' h1 h2=>
  injection e with e
  injection e with e1 e2
  have e3:(C:Int)=(C':Int):=by
   have:=congrArg Prod.fst e1
   injection this
  have e4:C=C':=Int.ofNat.inj e3
  subst e4 e2
  exact⟨a,dx,fs,rfl,h1,h2⟩
 |_=>cases e
section
variable {X:Cx}{α:Ev}{o e:Expr}{es:List Expr}{pos apos p:Pos}{Q:PyData→Prop}{C:Addr}{f m:Str}
theorem cg (c:Cls X.K C)(na:yD X.K C f)(h:EvD X α o fun x=>∃fs d,x=xp C fs∧vO fs f=some d∧Q d)(hb:attributeBase o f X.env (eval o X.env)=eval o X.env:=by rfl):EvD X α (.Attribute o f pos) Q:=fun F σ H R m k=>by
 refine⟨_,rA zi hb,?_⟩
 refine h F σ H _ m fun x vx H1 q1 t1 k1 r1=>?_
 obtain⟨fs,d,rfl,hf,q⟩:=q1
 obtain⟨a,dx,gs,rfl,h1,h2⟩:=r1.ins_inv
 obtain⟨v,hv,av⟩:=h2.get hf
 exact⟨a,C,dx,gs,v,rfl,(zf h1).2,c,na,hv,k d v H1 q t1 k1 av⟩
structure uV (P:Program)(w:World)(K:PySem.W.Frag)(mg:Str→Option Value)(base:Heap)(C:Addr)(m:Str)(k:Nat)(φ:List A→(A→Prop)→Prop):Prop where
 ex:∃f fd ps,Cls K C∧Meth K C m f∧Binds K fd ps []∧zt P w K mg base CX0 k f fd ps (spA φ)
theorem gU {k:Nat}{φ:List A→(A→Prop)→Prop}{pl:Sem Bool}(M':uV X.prog X.w X.K X.mg X.base C m k φ)(hr:zR k X.A)(h:EvD X α o fun x=>∃fs,x=xp C fs∧vO fs m=none∧EvA X α (e::es) fun as=>φ (.dat (xp C fs)::as) fun a=>Q a.d)
  (hst:starEach (e::es) X.env=(false,eval e X.env)::starEach es X.env:=by rfl) (hpl:(backTo pos (starEach es X.env)).any (·.1)=false:=by rfl)
  (ht:eval (.Call (.Attribute o m apos) (e::es) [] pos) X.env=(do
   let ov ←eval o X.env
   standAt apos.atName
   let (f,first) ←holding [ov] (getMethod ov m pl)
   callWith pos f first (backTo pos (starEach (e::es) X.env)) (backToKw pos (keywordEach [] X.env))):=by rfl):EvD X α (.Call (.Attribute o m apos) (e::es) [] pos) Q:=fun F σ H R m' kk=>by
 obtain⟨f,fd,ps,c,hm,hb,G⟩:=M'.ex
 refine⟨_,gf zi c hm G hr hb .nil zN yJ hst hpl ht,?_⟩
 refine h F σ H _ m' fun x vx H1 q1 t1 k1 r1=>?_
 obtain⟨fs,rfl,hf,q⟩:=q1
 have m1:=m'.kz k1 t1
 obtain⟨a,dx,gs,rfl,h1,h2⟩:=r1.ins_inv
 refine⟨a,dx,gs,rfl,(zf h1).2,h2.none hf,?_⟩
 refine q F σ H1 _ m1 fun as vs H2 q2 t2 k2 r2=>?_
 have m2:=m1.kz k2 t2
 have cf:=yE (vs:=.ref a::vs) (as:=.dat (xp C fs)::as) (R:=R) (E:=E0) m2 (.cons (r1.same (k2.gz m1.tp)) r2) q2 fun z v H' qa ra=>by
  obtain⟨g1,g2,g3⟩:=ra.back m2
  exact kk _ v H' qa g1 ((k1.trans k2).trans g2) g3
 exact cf
theorem qw {k:Nat}{φ:List A→(A→Prop)→Prop}{pl:Sem Bool}(M':uV X.prog X.w X.K X.mg X.base C m k φ)(hr:zR k X.A)(h:EvD X α o fun x=>∃fs,x=xp C fs∧vO fs m=none∧φ [.dat (xp C fs)] fun a=>Q a.d)
  (ht:eval (.Call (.Attribute o m apos) [] [] pos) X.env=(do
   let ov ←eval o X.env
   standAt apos.atName
   let (f,first) ←holding [ov] (getMethod ov m pl)
   callWith pos f first (backTo pos (starEach [] X.env)) (backToKw pos (keywordEach [] X.env))):=by rfl):EvD X α (.Call (.Attribute o m apos) [] [] pos) Q:=fun F σ H R m' kk=>by
 obtain⟨f,fd,ps,c,hm,hb,G⟩:=M'.ex
 refine⟨_,uI zi c hm G hr hb .nil zN ht,?_⟩
 refine h F σ H _ m' fun x vx H1 q1 t1 k1 r1=>?_
 obtain⟨fs,rfl,hf,q⟩:=q1
 have m1:=m'.kz k1 t1
 obtain⟨a,dx,gs,rfl,h1,h2⟩:=r1.ins_inv
 refine⟨a,dx,gs,rfl,(zf h1).2,h2.none hf,?_⟩
 have cf:=yE (vs:=[.ref a]) (as:=[.dat (xp C fs)]) (R:=R) (E:=E0) m1 (.cons r1 .nil) q fun z v H' qa ra=>by
  obtain⟨g1,g2,g3⟩:=ra.back m1
  exact kk _ v H' qa g1 (k1.trans g2) g3
 exact cf
theorem jf {k:Nat}{φ:List A→(A→Prop)→Prop}{pl:Sem Bool}{Q:List PyData→Prop}(M':uV X.prog X.w X.K X.mg X.base C m k φ)(hr:zR k X.A)(h:EvD X α o fun x=>∃fs,x=xp C fs∧vO fs m=none∧φ [.dat (xp C fs)] fun a=>∃ds,a=.own ds∧Q ds)
  (ht:eval (.Call (.Attribute o m apos) [] [] pos) X.env=(do
   let ov ←eval o X.env
   standAt apos.atName
   let (f,first) ←holding [ov] (getMethod ov m pl)
   callWith pos f first (backTo pos (starEach [] X.env)) (backToKw pos (keywordEach [] X.env))):=by rfl):EvL X α (.Call (.Attribute o m apos) [] [] pos) Q:=fun F σ H R m' kk=>by
 obtain⟨f,fd,ps,c,hm,hb,G⟩:=M'.ex
 refine⟨_,uI zi c hm G hr hb .nil zN ht,?_⟩
 refine h F σ H _ m' fun x vx H1 q1 t1 k1 r1=>?_
 obtain⟨fs,rfl,hf,q⟩:=q1
 have m1:=m'.kz k1 t1
 obtain⟨a,dx,gs,rfl,h1,h2⟩:=r1.ins_inv
 refine⟨a,dx,gs,rfl,(zf h1).2,h2.none hf,?_⟩
 have cf:=yE (vs:=[.ref a]) (as:=[.dat (xp C fs)]) (R:=R) (E:=E0) m1 (.cons r1 .nil) q fun z v H' qa ra=>by
  obtain⟨ds,rfl,q⟩:=qa
  obtain⟨g1,g2,_⟩:=ra.back m1
  obtain⟨_,_,l,xs,ds',rfl,hc,h1,h2,h3,h4⟩:=ra
  cases hc
  exact kk ds _ H' q g1 (k1.trans g2) (yA.back m' k1 t1 ⟨l,xs,rfl,h1,h3,h4⟩)
 exact cf
def gZ (F:Fr)(v:V)(H':Hp)(d:PyData):Prop:=zI F H'∧Kz F F.H0 H'∧AV (sub (fun x=>¬F.O0 x∧∀xs,F.H0 x≠some (.lst xs)) H') v d
def EvN (X:Cx)(α:Ev)(e:Expr)(Q:PyData→Prop):Prop:=∀(F:Fr) (σ:St) (H:Hp) (R:VK),M F α σ H→(∀d v H',Q d→zI F H'→Kz F H H'→AV (sub (fun x=>¬Ow F α σ x∧∀xs,H x≠some (.lst xs)) H') v d→R v H')→vP X e σ H R
theorem EvN.d (h:EvN X α e Q):EvD X α e Q:=fun F σ H R m k=>h F σ H R m fun d v H' q t z r=>k d v H' q t z (r.same (zm fun a o h e=>⟨h.1,e⟩))
def spI (C:Addr)(φ:List A→(A→Prop)→Prop):Sp:=fun vs H Qc _=>∃(F:Fr) (as:List A) (Q:A→Prop) (x dx:Addr) (vs':List V) (H1:Hp),vs=.ref x::vs'∧H1 x=none∧H1 dx=none∧dx≠x∧H=upd (upd H1 dx (.own x)) x (.ins C dx [])∧
 F.H0=H1∧zI F H1∧(∀y,F.O0 y→∃u,H1 y=some u∧xt u)∧yc F (sub (fun y=>¬F.O0 y) H1) vs' as∧φ as Q∧∀d H',Q (.dat d)→gZ F (.ref x) H' d→Qc .non H'
structure fi (P:Program)(w:World)(K:PySem.W.Frag)(mg:Str→Option Value)(base:Heap)(x:Str)(k:Nat)(dvs:List V)(φ:List A→(A→Prop)→Prop):Prop where
 ex:∃C f fd ps ds,mg x=some (.ref C)∧Mk K C f∧Binds K fd ps ds∧Vals dvs ds∧zt P w K mg base CX0 k f fd ps (spI C φ)
theorem oh {F:Fr}{σ:St}{H:Hp}{vs:List V}{as:List A}{QA:A→Prop}{R:VK}{φ:List A→(A→Prop)→Prop}(m:M F α σ H)(rv:yc F (Gz F α σ H) vs as)(hφ:φ as QA)
  (kk:∀d v H',QA (.dat d)→gZ ⟨H,Ow F α σ,F.tp⟩ v H' d→R v H') {E:XK} (x dx:Addr) (hx:H x=none) (hdx:H dx=none) (hne:dx≠x):spI C φ (.ref x::vs) (upd (upd H dx (.own x)) x (.ins C dx [])) (fun v H2=>v=.non∧R (.ref x) H2) E:=by
 refine⟨⟨H,Ow F α σ,F.tp⟩,as,QA,x,dx,vs,H,rfl,hx,hdx,hne,rfl,rfl,?_,?_,?_,hφ,fun d H' qa ra=>⟨rfl,kk d _ H' qa ra⟩⟩
 ·exact m.tp.to rfl fun _ z=>.inl z
 ·exact fun y z=>m.owEx z
 ·exact yc.to (F:=F) (F':=⟨H,Ow F α σ,F.tp⟩) (fun _ _ e=>e) rfl rv
theorem gZ.back {F:Fr}{σ:St}{H H1 H':Hp}{v:V}{d:PyData}(m:M F α σ H)(k1:Kz F H H1)(h:gZ ⟨H1,Ow F α σ,F.tp⟩ v H' d):zI F H'∧Kz F H1 H'∧AV (sub (fun x=>¬Ow F α σ x∧∀xs,H x≠some (.lst xs)) H') v d:=by
 obtain⟨t,kz,r⟩:=h
 refine⟨m.tp.re t rfl,kz,r.same (zm fun a o h e=>⟨⟨h.1,fun xs z=>h.2 xs (k1 _ _ z (m.tp.nt (ow0 h.1)))⟩,e⟩)⟩
theorem gK {k:Nat}{φ:List A→(A→Prop)→Prop}{x:Str}(M':fi X.prog X.w X.K X.mg X.base x k [] φ)(hr:zR (k+1) X.A)(hg:Gl X x)(h:EvA X α (e::es) fun as=>φ as fun a=>Q a.d)
  (hdb:(x == ("__debug__":Str))=false:=by decide) (he:starEach (e::es) X.env=(false,eval e X.env)::starEach es X.env:=by rfl) (hpl:(backTo pos (starEach es X.env)).any (·.1)=false:=by rfl):EvN X α (.Call (.Name x p) (e::es) [] pos) Q:=fun F σ H R m kk=>by
 obtain⟨C,f,fd,ps,ds,hm,hk,hb,hd,G⟩:=M'.ex
 cases hd
 refine⟨_,xh hk G hr hg hm hb .nil zN yJ hdb he hpl,?_⟩
 refine h F σ H _ m fun as vs H1 q1 t1 k1 r1=>?_
 have m1:=m.kz k1 t1
 intro y dx hy hdx hne
 rw[zg0]
 refine oh m1 r1 q1 (fun d v H' qa ra=>?_) y dx hy hdx hne
 obtain⟨g1,g2,g3⟩:=ra.back m k1
 exact kk d v H' qa g1 (k1.trans g2) g3
end
structure dS (K:PySem.W.Frag)(x qual:Str)(st:Stmt)(dV:Value)(f:Addr)(fd:FuncData):Prop where
 ex:∃(oc:Value) (od:Option Addr) (kV doc pm:Value) (an:Option Addr) (cdv ct:Value) (osl:Array (Option Value)),
  fd=PySem.W.fnOf x qual (ye st) (zw st) (zb st) dV kV doc pm an cdv ct∧K.lookup f=some ⟨oc,od,.func fd,osl⟩∧PySem.W.codeIn K cdv qual=true
 kp:PySem.W.keepIn K (.ref f)=true
theorem iQ {K:PySem.W.Frag}{x qual:Str}{st:Stmt}{f:Addr}{oc:Value}{od an:Option Addr}{osl:Array (Option Value)}{dV kV doc pm cdv ct:Value}(l:K.lookup f=some ⟨oc,od,.func (PySem.W.fnOf x qual (ye st) (zw st) (zb st) dV kV doc pm an cdv ct),osl⟩)
  (c:PySem.W.codeIn K cdv qual=true) (k:PySem.W.keepIn K (.ref f)=true):dS K x qual st dV f (PySem.W.fnOf x qual (ye st) (zw st) (zb st) dV kV doc pm an cdv ct):=⟨⟨oc,od,kV,doc,pm,an,cdv,ct,osl,rfl,l,c⟩,k⟩
section
variable {P:Program}{w:World}{K:PySem.W.Frag}{mg:Str→Option Value}{base:Heap}
theorem bq {qual:Str}{st:Stmt}{f C:Addr}{dV:Value}{fd:FuncData}{N:List Str}{x:Str}{k:Nat}{φ:List A→(A→Prop)→Prop}{fl:Str}{e:Expr}{p1 p2 p3:Pos}(G:dS K "__init__" qual st dV f fd)(S:zl ("self"::x::N) ["self",x] (zb st))(c:Cls K C)(na:yD K C fl)
  (hb:zw st=[.Assign [.Attribute (.Name "self" p1) fl p2] e p3]) (hlen:∀as Q,φ as Q→as.length=1)
  (hbody:∀(cdv:Value) (A':Around) (outer:List Env) (s:Shared) (H:Hp) (E:XK) (as:List A) (Q:A→Prop),zR k (A'.deeper (envOfC qual (zb st) s.heap.objs.size f cdv))→φ as Q→
   EvL (vt CX0 P w K mg base ("self"::x::N) qual (zb st) f cdv A' outer s H E).nox (none::as.map some++List.replicate N.length none) e fun ds=>noLs ds=true∧Q (.dat (xp C [(.str fl,.list ds)])))
  (hsw:∀(cdv:Value) (A':Around) (outer:List Env) (s:Shared) (H:Hp) (E:XK),swapsWith e (some (.Attribute (.Name "self" p1) fl p2)) p3.line (vt CX0 P w K mg base ("self"::x::N) qual (zb st) f cdv A' outer s H E).nox.env=pure false)
  (hv:Vis (zb st) "self"):zt P w K mg base CX0 (k+1) f fd ["self",x] (spI C φ):=by
 obtain⟨oc,od,kV,doc,pm,an,cdv,ct,osl,rfl,lk,hcd⟩:=G.ex
 refine fX lk hcd S (fun vs H Q E h=>?_) fun A' outer s H vs Qc E hr h=>?_
 ·obtain⟨F,as,Q',y,dx,vs',H1,rfl,_,_,_,_,_,_,_,rv,hφ,_⟩:=h
  rw[aW,rv.length,hlen as _ hφ]
  rfl
 ·obtain⟨F,as,Q',y,dx,vs',H1,rfl,hy,hdx,hne,rfl,rfl,t,o,rv,hφ,kk⟩:=h
  have hl:=rv.length
  have hl1:=hlen as _ hφ
  rw[hb]
  refine⟨_,(show PSs _ _ _ from (zk (sV (X:=(vt CX0 P w K mg base ("self"::x::N) qual (zb st) f cdv A' outer s (upd (upd F.H0 dx (.own y)) y (.ins C dx [])) E).nox) (yU (i:=0) rfl hv) zi (hsw cdv A' outer s _ E))).nox),?_⟩
  let F2:Fr:=⟨F.H0,fun z=>F.O0 z∨z=y∨z=dx,F.tp⟩
  have s1:zo F.H0 (upd (upd F.H0 dx (.own y)) y (.ins C dx [])):=fun a u q=>by
   rw[zc (zd q hy),zc (zd q hdx)];exact q
  have noy:¬F.O0 y:=fun z=>by obtain⟨u,hu,_⟩:=o y z;rw[hy] at hu;cases hu
  have nodx:¬F.O0 dx:=fun z=>by obtain⟨u,hu,_⟩:=o dx z;rw[hdx] at hu;cases hu
  have t2:zI F2 (upd (upd F.H0 dx (.own y)) y (.ins C dx [])):=(t.same s1).to rfl fun _ z=>.inl z
  -- the names of the body
  have g:∀{i:Nat} {a:A},(none::as.map some++List.replicate N.length none:Ev)[i]?=some (some a)→∃j,i=j+1∧as[j]?=some a:=fun {i a} h=>by
   cases i with
   |zero=>simp at h
   |succ j=>
    refine⟨j,rfl,?_⟩
    have h':(as.map some++List.replicate N.length none:Ev)[j]?=some (some a):=by simpa using h
    rcases Nat.lt_or_ge j as.length with z|z
    ·rw[zc9 (by rw[aI];exact z),za6,zb9] at h'
     obtain⟨b,h1,h2⟩:=h'
     cases h2;exact h1
    ·rw[zd6 (by rw[aI];exact z),zf8] at h'
     split at h'<;>cases h'
  have at':∀{vs:List V} {as:List A} {i:Nat} {a:A},yc F (sub (fun x=>¬F.O0 x) F.H0) vs as→as[i]?=some a→∃v,vs[i]?=some v∧mZ F (sub (fun x=>¬F.O0 x) F.H0) v a:=by
   intro vs as i a h
   induction h generalizing i with
   |nil=>intro e;simp at e
   |cons h r ih=>
    intro e
    cases i with
    |zero=>simp at e;subst e;exact⟨_,rfl,h⟩
    |succ i=>obtain⟨v,h1,h2⟩:=ih (by simpa using e);exact⟨v,by simpa using h1,h2⟩
  have gv:∀{j:Nat} {v:V},vs'[j]?=some v→(L2.start ("self"::x::N) (.ref y::vs'))[j+1]?=some (some v):=fun {j v} h=>by
   have hj:j<vs'.length:=(aL.mp h).1
   unfold L2.start
   rw[zc9 (by rw[aI,aW];omega),za6,zh3,h];rfl
  have no:∀(i:Nat) a,(none::as.map some++List.replicate N.length none:Ev)[i]?=some (some a)→(∃d,a=.dat d)∨a=.tape:=fun i a z=>by
   obtain⟨j,_,hj⟩:=g z
   obtain⟨v,_,h⟩:=at' rv hj
   cases a with
   |dat d=>exact .inl ⟨d,rfl⟩
   |tape=>exact .inr rfl
   |_=>exact h.elim
  have gs:zo (sub (fun x=>¬F.O0 x) F.H0) (Gz F2 (none::as.map some++List.replicate N.length none) (L2.start ("self"::x::N) (.ref y::vs')) (upd (upd F.H0 dx (.own y)) y (.ins C dx []))):=fun a u q=>by
   obtain⟨z1,z2⟩:=zf q
   refine zv ?_ (s1 _ _ z2)
   rintro ((z|z|z)|⟨i,b,s,e,_,f⟩)
   ·exact z1 z
   ·rw[z,hy] at z2;cases z2
   ·rw[z,hdx] at z2;cases z2
   ·rcases no i b e with ⟨d,rfl⟩|rfl
    ·exact f.elim
    ·exact f.elim
  have m2:M F2 (none::as.map some++List.replicate N.length none) (L2.start ("self"::x::N) (.ref y::vs')) (upd (upd F.H0 dx (.own y)) y (.ins C dx [])):=by
   refine⟨by unfold L2.start;simp[hl,hl1],fun i a s e1 e2=>?_,fun i j a b s t x e1 _ _ _ f=>?_,fun i r q z=>(by rcases no i _ z with ⟨d,w⟩|w<;>cases w),t2,fun z u h _=>s1 z u h,fun z hz=>?_⟩
   ·obtain⟨j,rfl,hj⟩:=g e1
    obtain⟨v,h1,h2⟩:=at' rv hj
    rw[gv h1] at e2;cases e2
    rcases no _ a e1 with ⟨d,rfl⟩|rfl
    ·exact⟨v,rfl,AV.same gs h2⟩
    ·obtain⟨t',b,c,h3,rfl⟩:=h2
     exact⟨t',b,c,h3,rfl⟩
   ·rcases no i a e1 with ⟨d,rfl⟩|rfl
    ·exact f.elim
    ·exact f.elim
   ·rcases hz with q|q|q
    ·obtain⟨u,hu,hn⟩:=o z q
     exact⟨u,s1 _ _ hu,hn⟩
    ·exact⟨_,by rw[q];exact ze,fun _ q=>by cases q⟩
    ·exact⟨_,by rw[q,zc hne];exact ze,fun _ q=>by cases q⟩
  refine hbody cdv A' outer s _ E as Q' hr hφ F2 _ _ _ m2 fun d v H2 qd t3 k3 r3=>?_
  obtain⟨l,xs,rfl,hl0,hl2,avl⟩:=r3
  obtain⟨nol,qd⟩:=qd
  have nly:l≠y:=fun z=>by rw[z,ze] at hl0;cases hl0
  have nldx:l≠dx:=fun z=>by rw[z,zc hne,ze] at hl0;cases hl0
  have hl00:F.H0 l=none:=by rw[zc nly,zc nldx] at hl0;exact hl0
  have nol0:¬F.O0 l:=fun z=>by obtain⟨u,hu,_⟩:=o l z;rw[hl00] at hu;cases hu
  have nty:NT F2 y:=t.nt noy
  have hy2:H2 y=some (.ins C dx []):=k3 _ _ ze nty
  refine⟨.ref y,rfl,y,C,dx,[],rfl,hy2,c,na,by show 0<1000;decide,?_⟩
  refine kk _ _ qd ⟨(t.re t3 rfl).updO noy (lG hy2),fun z u h n=>?_,?_⟩
  ·rw[zc (zd h hy)]
   exact k3 _ _ (s1 _ _ h) n
  ·refine AV.ins (zv ⟨noy,fun xs z=>by rw[hy] at z;cases z⟩ ze) (.cons (.lst (zv ⟨nol0,fun xs z=>by rw[hl00] at z;cases z⟩ (by rw[zc nly];exact hl2)) ?_) .nil)
   refine avl.noL (fun a u hno z=>?_) nol
   obtain⟨z1,z2⟩:=zf z
   have na:a≠y:=fun w=>z1.1 (.inl (.inr (.inl w)))
   refine zv ⟨fun w=>z1.1 (.inl (.inl w)),fun xs w=>?_⟩ (by rw[zc na];exact z2)
   have:H2 a=some (.lst xs):=k3 _ _ (s1 _ _ w) (t.nt fun w=>z1.1 (.inl (.inl w)))
   rw[z2] at this
   cases this
   exact hno trivial
end
section
variable {X:Cx}{α:Ev}{e e':Expr}{pos:Pos}{E:yk}{sts:List Stmt}
end
section
variable {X:Cx}{α:Ev}{tg:Expr}{p pos:Pos}{a:Expr}
end
section
variable {X:Cx}{α:Ev}{p pos:Pos}{a:Expr}{g:Str}{Q:PyData→Prop}
end
section
variable {X:Cx}{α:Ev}{p pos:Pos}{a b:Expr}{g:Str}{Q:PyData→Prop}
end
section
variable {X:Cx}{α:Ev}{p pos:Pos}{a b:Expr}{Q:PyData→Prop}
end
section
variable {X:Cx}{α:Ev}{a e:Expr}{pos p2 p3 p4:Pos}{n1:Nat}{te:TE}
end
section
variable {X:Cx}{pins:List (Addr×Obj)}{σ:St}{H:Hp}{s:Shared}
end
section
variable {X:Cx}{α:Ev}{p q pos:Pos}{a b:Expr}
end
section
variable {X:Cx}{α:Ev}{p pos:Pos}{a b:Expr}{Q:PyData→Prop}
end
open PySem.W SortA
section
variable {P:Program}{w:World}{K:PySem.W.Frag}{mg:Str→Option Value}{base:Heap}
end
section
variable {X:Cx}{α:Ev}{Q:PyData→Prop}{a b:Expr}{pos:Pos}
end
open PySem (IsZip)
section
variable {prog:Program}{w:World}{A:Around}{E:Value→Shared→Prop}{s:Shared}
abbrev z3 (n:Nat):List Addr:=[(n:Nat),(n+1:Nat),(n+2:Nat),(n+3:Nat),(n+4:Nat),(n+5:Nat)]
end
section
variable {X:Cx}{pins:List (Addr×Obj)}{σ:St}{H:Hp}{s:Shared}
end
section
variable {prog:Program}{w:World}{A:Around}{E:Value→Shared→Prop}{s:Shared}
end
section
variable {X:Cx}{pins:List (Addr×Obj)}{σ:St}{H:Hp}{s:Shared}
end
section
variable {X:Cx}{pins:List (Addr×Obj)}{σ:St}{H:Hp}{s:Shared}
variable {a b c:Expr}{p p0 pos pos2:Pos}
end
section
variable {X:Cx}{α:Ev}{a b c:Expr}{p p0 pos pos2:Pos}
end
section
variable {κ:Type}[DecidableEq κ]
def tu (kvs:List (κ×V))(k:κ):Option V:=(kvs.find? fun kv=>decide (kv.1=k)).map (·.2)
theorem uR {p:κ×V}{r:List (κ×V)}{k:κ}(e:p.1=k):tu (p::r) k=some p.2:=by simp[tu,zg2,e]
theorem ug {p:κ×V}{r:List (κ×V)}{k:κ}(e:¬p.1=k):tu (p::r) k=tu r k:=by simp[tu,zg2,e]
theorem KV.val {kvs:List (κ×V)}{vs:List (κ×Value)}(r:KV kvs vs)(k:κ):wO (tu kvs k) (valueAt vs k):=by
 unfold KV at r
 induction r with
 |nil=>exact True.intro
 |@cons p q ps qs h t ih=>
  obtain⟨h1,h2⟩:=h
  by_cases e:p.1=k
  ·have e':q.1=k:=h1.symm.trans e
   have b:valueAt (q::qs) k=some q.2:=by simp[valueAt,zg2,e']
   rw[uR e,b];exact h2
  ·have e':¬q.1=k:=fun z=>e (h1.trans z)
   have b:valueAt (q::qs) k=valueAt qs k:=by simp[valueAt,zg2,e']
   rw[ug e,b];exact ih
end
theorem fH {P:Program}{w:World}{k:Key}{u:Value}(r:RelV (kV k) u):(yB P w).is k u=true:=by
 cases k with
 |inl i=>obtain⟨t,e⟩:=(show ∃t,u=Value.int i t from r);subst e;exact qI P w i t
 |inr x=>obtain⟨t,e⟩:=(show ∃t,u=Value.str x t from r);subst e;exact rX P w x t
theorem tO {P:Program}{w:World}:∀{ks:List Key} {us:List Value},Vals (ks.map kV) us→ItemsAre (yB P w) ks us
 |[],_,r=>by rw[List.map_nil] at r;cases r;exact .nil
 |k::ks,_,r=>by
  rw[zf0] at r
  cases r with
  |cons h t=>exact .cons (fH h) (tO t)
abbrev KT (H:Hp):List (List Key×V)→List (List Key×Addr×Value)→Prop:=Paired fun p q=>p.1=q.1∧H q.2.1=some (.tup (p.1.map kV))∧RelV p.2 q.2.2
theorem KT.val {H:Hp}{kvs:List (List Key×V)}{xs:List (List Key×Addr×Value)}(r:KT H kvs xs)(k:List Key):wO (tu kvs k) ((atKey xs k).map (·.2)):=by
 induction r with
 |nil=>exact True.intro
 |@cons p q ps qs h t ih=>
  obtain⟨h1,_,h2⟩:=h
  by_cases e:p.1=k
  ·have e':q.1=k:=h1.symm.trans e
   have b:atKey (q::qs) k=some q.2:=by simp[atKey,zg2,e']
   rw[uR e,b];exact h2
  ·have e':¬q.1=k:=fun z=>e (h1.trans z)
   have b:atKey (q::qs) k=atKey qs k:=by simp[atKey,zg2,e']
   rw[ug e,b];exact ih
section
variable {P:Program}{w:World}{H:Hp}{h:Heap}{a:Addr}
theorem fy {u:HO}(ok:HOk P w H h)(e:Rd H a u):yi P w H h a u:=e.ok ok
theorem fA {kvs:List (Key×V)}(ok:HOk P w H h)(e:Rd H a (.dK kvs)):kvs.length≤sizeLine∧(a == sysModules)=false∧∃vs,KV kvs vs∧h.DictOf (yB P w) a vs:=
 show yi P w H h a (.dK kvs) from fy ok e
theorem jX {ks:List Key}(ok:HOk P w H h)(e:H a=some (.tup (ks.map kV))):(tupleKind (yB P w)).is h ks a:=by
 obtain⟨_,its,r,o,h1,h2,n,h3⟩:=(show yi P w H h a (.tup (ks.map kV)) from ok a _ e)
 exact⟨o,its.toArray,n,h1,h2,h3,by simpa using tO r⟩
theorem ec {kvs:List (List Key×V)}(ok:HOk P w H h)(e:Rd H a (.dT kvs)):kvs.length≤sizeLine∧(a == sysModules)=false∧
  ∃xs,KT H kvs xs∧h.DictOfH (tupleKind (yB P w)) a xs:=by
 obtain⟨z,y,xs,r,o,es,ep,h1,h2,h3,h4,h5⟩:=(show yi P w H h a (.dT kvs) from fy ok e)
 refine⟨z,y,xs,r,o,es,ep,h1,h2,h3,h4,fun x hx=>?_,h5⟩
 have all:∀{l:List (List Key×V)} {m:List (List Key×Addr×Value)},KT H l m→∀x∈m,(tupleKind (yB P w)).is h x.1 x.2.1:=by
  intro l m q
  induction q with
  |nil=>intro x hx;exact nomatch hx
  |@cons p q ps qs hq t ih=>
   intro x hx
   rcases aP.mp hx with e|hx
   ·subst e
    exact jX ok (by rw[←hq.1];exact hq.2.1)
   ·exact ih x hx
 exact all r x hx
end
def cm (H:Hp)(a:Addr)(y:V)(r:Option V):Prop:=
 (∃kvs k,Rd H a (.dK kvs)∧y=kV k∧r=tu kvs k)∨∃kvs k b,Rd H a (.dT kvs)∧y=.ref b∧H b=some (.tup (k.map kV))∧r=tu kvs k
section
variable {X:Cx}{pins:List (Addr×Obj)}{σ:St}{H:Hp}{s:Shared}{a:Addr}{y v:V}{u r:Value}{o:Option V}{A:Around}{E:Value→Shared→Prop}
theorem lK {Q:Value→Shared→Prop}(hu:A.units+1<cLine)(I:Inv X pins σ H s)(g:cm H a y (some v))(ry:RelV y u)(h:∀w' s',Inv X pins σ H s'→RelV v w'→Q w' s'):
  wpAny (model X.prog X.w) A (getItem (.ref a) u) Q E s:=by
 rcases g with ⟨kvs,k,e,ey,l⟩|⟨kvs,k,b,e,ey,eb,l⟩
 ·subst ey
  obtain⟨z,hd,vs,rel,dd⟩:=fA I.hok e
  obtain⟨w',hw,rw'⟩:=wO.some_of (v:=v) (o:=valueAt vs k) (by rw[l];exact rel.val k)
  exact wpAny_getItem_of (fH ry) dd.mapOf hw (h w' _ (I.tok _) rw')
 ·subst ey
  cases (show u=Value.ref b from ry)
  obtain⟨z,hd,xs,rel,dd⟩:=ec I.hok e
  obtain⟨w',hw,rw'⟩:=wO.some_of (v:=v) (o:=(atKey xs k).map (·.2)) (by rw[l];exact rel.val k)
  obtain⟨p,hp,hp2⟩:=zb9.mp hw
  refine wpAny_getItem_heap (tupleKind_room_in1 hu) (jX I.hok eb) dd hp ?_
  rw[hp2]
  exact h w' _ (I.tok _) rw'
end
section
variable {X:Cx}{pins:List (Addr×Obj)}{σ:St}{H:Hp}{s:Shared}{a:Addr}{kvs:List (Key×V)}{k:Key}{u:Value}{A:Around}{E:Value→Shared→Prop}
end
theorem rL {X:Cx}{pins:List (Addr×Obj)}{σ:St}{H:Hp}{s:Shared}{a:Addr}{y:V}{o:Option V}(I:Inv X pins σ H s)(g:cm H a y o):s.TypeIs (.ref a) "dict":=by
 rcases g with ⟨kvs,k,e,_,_⟩|⟨kvs,k,b,e,_,_,_⟩
 ·obtain⟨_,_,vs,_,dd⟩:=fA I.hok e
  exact dd.typeIs
 ·obtain⟨_,_,xs,_,dd⟩:=ec I.hok e
  exact dd.typeIs
section
variable {X:Cx}{o i e value:Expr}{pos pos' tpos:Pos}{td ty tv:TE}
end
section
variable {X:Cx}{pos:Pos}
end
section
variable {X:Cx}{pins:List (Addr×Obj)}{σ:St}{H:Hp}{s:Shared}{a:Addr}{y d:V}{u r:Value}{o:Option V}{A:Around}{E:Value→Shared→Prop}
end
section
variable {X:Cx}{o e f:Expr}{apos cpos:Pos}{td ty tx:TE}
end
section
variable {X:Cx}{pins:List (Addr×Obj)}{σ:St}{H:Hp}{s:Shared}{a:Addr}{kvs:List (Key×V)}{A:Around}{E:Value→Shared→Prop}
end
section
variable {X:Cx}{pins:List (Addr×Obj)}{σ:St}{H:Hp}{s:Shared}{a:Addr}{y:V}{u:Value}{A:Around}{E:Value→Shared→Prop}
end
def kEq :PyData→Key→Bool
 |.int i,.inl j=>decide (i=j)
 |.str x,.inr y=>decide (x=y)
 |_,_=>false
theorem iH (k j:Key):kEq (ly k) j=decide (k=j):=by
 cases k<;>cases j<;>simp[kEq,ly]
def iX :List (PyData×PyData)→Key→Option PyData
 |[],_=>none
 |(p,d)::r,k=>if kEq p k=true then some d else iX r k
theorem AVk.get {H:Hp}:∀{kvs:List (Key×V)} {ds:List (PyData×PyData)} {k:Key} {d:PyData},AVk H kvs ds→iX ds k=some d→∃v,tu kvs k=some v∧AV H v d
 |_,_,k,d,.nil,e=>by cases e
 |_,_,k,d,.cons (k:=j) h r,e=>by
  unfold iX at e
  rw[iH] at e
  by_cases z:j=k
  ·rw[zb6 z,if_pos rfl] at e
   cases e
   exact⟨_,uR z,h⟩
  ·rw[zc1 z,if_neg (by decide)] at e
   rw[ug z]
   exact AVk.get r e
theorem gj {H:Hp}{v:V}{k:Key}(h:AV H v (ly k)):v=kV k:=by
 cases k with
 |inl i=>exact h.int_inv
 |inr x=>exact h.str_inv
theorem AV.dk_inv {H:Hp}{v:V}{ds:List (PyData×PyData)}(h:AV H v (gI ds)):∃a o kvs,v=.ref a∧H a=some (.frz o (.dK kvs))∧AVk H kvs ds:=by
 generalize e:gI ds=d at h
 cases h with
 |dk h1 h2=>cases e;exact⟨_,_,_,rfl,h1,h2⟩
 |_=>cases e
section
variable {X:Cx}{pins:List (Addr×Obj)}{σ:St}{H:Hp}{s:Shared}{l:Addr}{kvs:List (Key×V)}
end
section
variable {X:Cx}{e:Expr}{sts:List Stmt}
end
section
variable {X:Cx}{α:Ev}{e a b:Expr}{pos p:Pos}{Q:PyData→Prop}
end
section
variable {X:Cx}{α:Ev}{e a b:Expr}{pos p:Pos}{Q:PyData→Prop}
end
section
variable {X:Cx}{tg:Expr}
end
section
variable {X:Cx}{α:Ev}{e a b tg:Expr}{pos p:Pos}{Q:List PyData→Prop}
end
mutual
def ltD :PyData→PyData→Option Bool
 |.int a,.int b=>some (decide (a<b))
 |.str a,.str b=>some (decide (a.cps.toList<b.cps.toList))
 |.tuple xs,.tuple ys=>bb xs ys
 |_,_=>none
def bb :List PyData→List PyData→Option Bool
 |[],[]=>some false
 |[],_::_=>some true
 |_::_,[]=>some false
 |x::xs,y::ys=>if PyData.eqv x y=true then bb xs ys else ltD x y
end
section
open PySem.SeqAt
open PySem.AutoSeq1 (wpAny_loadPart')
open PySem.MeetsSeq PySem.MeetsSeq2 PySem.MeetsSeq3
end
section
variable {prog:Program}{w:World}{A:Around}{R:Result→Shared→Prop}{it:Addr}{fp wr:List Addr}{m:Nat}{P:Nat→Value→Prop}{St:Nat→Heap→Prop}
end
section
variable {prog:Program}{w:World}{A:Around}{E:Value→Shared→Prop}{s:Shared}
end
section
variable {X:Cx}{α:Ev}{e:Expr}{pos p:Pos}{Q:PyData→Prop}
end
section
variable {prog:Program}{w:World}{A:Around}{E:Value→Shared→Prop}{s:Shared}{it l:Addr}{items:Array Value}
end
section
variable {X:Cx}{α:Ev}{a e c:Expr}{p p0 pos pos2:Pos}{Q:List PyData→Prop}
end
def qF (Q:PyData→Prop):List PyData→Prop
 |[]=>True
 |d::r=>Q d∧qF Q r
theorem qF.mem {Q:PyData→Prop}:∀{ds:List PyData},qF Q ds→∀d∈ds,Q d
 |[],_,d,h=>by cases h
 |x::r,h,d,hd=>by
  rcases aP.mp hd with rfl|hd
  ·exact h.1
  ·exact qF.mem h.2 d hd
theorem hU {x:PyData}{ds:List PyData}{v:Int}{Q:PyData→Prop}(hx:xB x=some ds)(h0:0≤v)(h1:v<ds.length)(h:qF Q ds):∃ds i d,xB x=some ds∧PyData.int v=.int i∧atI ds i=some d∧Q d:=by
 obtain⟨d,hd,e⟩:=fZ h0 h1
 exact⟨ds,v,d,hx,rfl,e,h.mem d hd⟩
theorem jW {x:PyData}{ds:List PyData}{v:Int}{Q:PyData→Prop}(P:PyData→Prop)(hx:xB x=some ds)(h0:0≤v)(h1:v<ds.length)(h:qF P ds)(k:∀d,P d→Q d):∃ds i d,xB x=some ds∧PyData.int v=.int i∧atI ds i=some d∧Q d:=by
 obtain⟨d,hd,e⟩:=fZ h0 h1
 exact⟨ds,v,d,hx,rfl,e,k d (h.mem d hd)⟩
theorem oQ {k:Bool}{p q:Prop}(h1:k=true→p)(h2:k=false→q):if k=true then p else q:=by
 cases k with
 |true=>exact h1 rfl
 |false=>exact h2 rfl
section
variable {X:Cx}{α:Ev}{e a b:Expr}{pos p:Pos}{E:yk}{rest:List Stmt}
end
section
variable {X:Cx}{α:Ev}{e:Expr}{Q:PyData→Prop}
theorem M.nst {F:Fr}{σ:St}{H:Hp}(m:M F α σ H){i:Nat}{l:Addr}{ls:List Addr}{dss:List (List PyData)}(hi:α[i]?=some (some (.nst l ls dss))):σ[i]?=some (some (.ref l))∧H l=some (.lst (ls.map .ref))∧zM (Gz F α σ H) H ls dss∧(l::ls).Nodup∧∀x∈l::ls,¬F.O0 x∧F.H0 x=none:=by
 obtain⟨s,hs⟩:=m.at' hi
 obtain⟨rfl,h⟩:=m.ok i _ s hi hs
 exact⟨hs,h⟩
theorem M.frzn {F:Fr}{σ:St}{H:Hp}{i:Nat}{l:Addr}{ls:List Addr}{dss:List (List PyData)}(m:M F α σ H)(hi:α[i]?=some (some (.nst l ls dss))):M F (α.set i (some (.dat (.list (dss.map .list))))) σ H:=
 (m.put (b:=some (.dat (.list (dss.map .list)))) (fun s c' x _ z f=>by cases z;exact f.elim) fun s c' _ e2 z=>by
  cases z
  obtain⟨h1,h2,h3,h4,h5⟩:=m.nst hi
  rw[h1] at e2;cases e2
  have gv:∀x∈l::ls,¬Ow F (α.set i (some (.dat (.list (dss.map .list))))) σ x:=fun x hx=>m.gave hi h1 hx fun c z=>by cases z;exact id
  exact⟨.ref l,rfl,.lst (zv (gv l aJ) h2) (h3.avs (sy (b:=.dat (.list (dss.map .list))) fun _ _ f=>f) fun a ha=>gv a (aK _ ha))⟩).2
theorem jk (i:Nat){l:Addr}{ls:List Addr}{dss:List (List PyData)}(hi:α[i]?=some (some (.nst l ls dss)))(h:EvD X (α.set i (some (.dat (.list (dss.map .list))))) e fun d=>noL d=true∧Q d):EvD X α e Q:=fun F σ H R m k=>
 h F σ H R (m.frzn hi) fun d v H' q t kz r=>k d v H' q.2 t kz (r.noL (sT m kz hi) q.1)
theorem qu {Q:Bool→Prop}(i:Nat){l:Addr}{ls:List Addr}{dss:List (List PyData)}(hi:α[i]?=some (some (.nst l ls dss)))(h:EvT X (α.set i (some (.dat (.list (dss.map .list))))) e Q):EvT X α e Q:=fun F σ H R m k=>h F σ H R (m.frzn hi) k
end
def jm (F:Fr)(α:Ev)(σ:St)(H:Hp)(v:V)(H':Hp)(dss:List (List PyData)):Prop:=∃(l:Addr) (ls:List Addr),v=.ref l∧H' l=some (.lst (ls.map .ref))∧zM (sub (fun x=>¬Ow F α σ x∧x∉l::ls) H') H' ls dss∧(l::ls).Nodup∧∀x∈l::ls,H x=none
def EvM (X:Cx)(α:Ev)(e:Expr)(Q:List (List PyData)→Prop):Prop:=∀(F:Fr) (σ:St) (H:Hp) (R:VK),M F α σ H→(∀dss v H',Q dss→zI F H'→Kz F H H'→jm F α σ H v H' dss→R v H')→vP X e σ H R
section
variable {X:Cx}{α:Ev}{e a b:Expr}{pos p:Pos}{E:yk}{rest:List Stmt}
theorem cc {k:Nat}{x:Str}{φ:List A→(A→Prop)→Prop}{es:List Expr}{Q:List (List PyData)→Prop}(C:Cal X.prog X.w X.K X.mg X.base x k φ)(hr:zR k X.A)(hg:Gl X x)(h:EvA X α (e::es) fun as=>φ as fun a=>∃l ls dss,a=.nst l ls dss∧Q dss)
  (hdb:(x == ("__debug__":Str))=false:=by decide) (he:starEach (e::es) X.env=(false,eval e X.env)::starEach es X.env:=by rfl) (hpl:(backTo pos (starEach es X.env)).any (·.1)=false:=by rfl):EvM X α (.Call (.Name x p) (e::es) [] pos) Q:=fun F σ H R m kk=>by
 obtain⟨f,fd,ps,g1,g2,g3,g4⟩:=C.ex
 refine⟨_,zF g4 hr hg g1 g2 g3 .nil zN yJ hdb he hpl,?_⟩
 refine h F σ H _ m fun as vs H1 q1 t1 k1 r1=>?_
 have m1:=m.kz k1 t1
 refine yE m1 r1 q1 fun a v H' qa ra=>?_
 obtain⟨l,ls,dss,rfl,q⟩:=qa
 obtain⟨w1,w2,_⟩:=ra.back m1
 obtain⟨_,_,h1,h2,h3,h4,h5⟩:=ra
 refine kk dss v H' q w1 (k1.trans w2) ⟨l,ls,h1,h2,h3,h4,fun x hx=>?_⟩
 obtain⟨n1,n2⟩:=h5 x hx
 have n2:H1 x=none:=n2
 have n1:¬Ow F α σ x:=n1
 cases z:H x with
 |none=>rfl
 |some o=>rw[k1 _ _ z (m.tp.nt (ow0 n1))] at n2;cases n2
theorem gg (i:Nat){x:Str}{pos':Pos}(hN:X.N.Nodup)(h:EvM X α e fun dss=>∀l ls,SvS X (α.set i (some (.nst l ls dss))) rest E)(hi:X.N[i]?=some x:=by rfl)(hx:Loc X.env.scope x:=by first|exact Or.inl rfl|exact Or.inr rfl)
  (hs:swapsWith e (some (.Name x pos')) pos.line X.env=pure false:=by rfl) (hf:X.fn x=true∨X.env.scope.names.lookup x=some .local:=by first|exact .inl rfl|exact .inr rfl|assumption):SvS X α (.Assign [.Name x pos'] e pos::rest) E:=fun F σ H D m r=>by
 refine⟨_,zE (yH hN hi hx zi hs hf) zK,?_⟩
 refine h F σ H _ m fun dss v H1 q1 t1 k1 r1=>?_
 obtain⟨l,ls,rfl,h2,h3,h4,h5⟩:=r1
 exact q1 l ls F _ H1 D (m.store t1 k1 (fun y z=>h5 y z) ⟨rfl,h2,h3,h4,fun y z=>⟨ow0 (m.fresh (h5 y z)),m.fresh0 (h5 y z)⟩⟩) r
theorem gy (h:EvM X α e fun dss=>∀l ls,E.rt (.nst l ls dss)):SvS X α (.Return (some e) pos::rest) E:=fun F σ H D m r=>by
 refine⟨_,zE (zp zi) zK,?_⟩
 refine h F σ H _ m fun dss v H1 q1 t1 k1 r1=>?_
 obtain⟨l,ls,rfl,h2,h3,h4,h5⟩:=r1
 exact r.rt (.nst l ls dss) _ _ ⟨t1,m.keep.trans k1,rfl,h2,h3.same (zm fun y o z w=>⟨⟨ow0 z.1,z.2⟩,w⟩) (fun _ _ _ e=>e),h4,fun y z=>⟨ow0 (m.fresh (h5 y z)),m.fresh0 (h5 y z)⟩⟩ (q1 l ls)
end
def tT (Y:Addr→Shared→Hp→List Addr→Cx)(pat:Pat)(elt:Expr)(α0:Ev):List PyData→List (List PyData)→(List (List PyData)→Prop)→Prop
 |[],acc,Q=>Q acc
 |d::ds,acc,Q=>∃α1,pat.bind d α0=some α1∧∀C s2 H2 fp,EvL (Y C s2 H2 fp) α1 elt fun y=>noLs y=true∧tT Y pat elt α0 ds (acc++[y]) Q
theorem zM.len {G H:Hp}:∀{ls:List Addr} {dss:List (List PyData)},zM G H ls dss→ls.length=dss.length
 |[],[],_=>rfl
 |_::ls,_::dss,⟨_,r⟩=>by rw[aW,aW,zM.len r]
 |[],_::_,z=>z.elim
 |_::_,[],z=>z.elim
theorem zM.snoc {G H:Hp}{a:Addr}{xs:List V}{ds:List PyData}(e:H a=some (.lst xs))(av:AVs G xs ds):∀{ls:List Addr} {dss:List (List PyData)},zM G H ls dss→zM G H (ls++[a]) (dss++[ds])
 |[],[],_=>⟨⟨xs,e,av⟩,trivial⟩
 |_::ls,_::dss,⟨h,r⟩=>⟨h,zM.snoc e av r⟩
 |[],_::_,z=>z.elim
 |_::_,[],z=>z.elim
theorem zM.noL {G G' H:Hp}(g:∀a o,¬Ob o→G a=some o→G' a=some o):∀{ls:List Addr} {dss:List (List PyData)},(∀ds∈dss,noLs ds=true)→zM G H ls dss→zM G' H ls dss
 |[],[],_,_=>trivial
 |a::ls,ds::dss,h,⟨⟨xs,e,av⟩,r⟩=>⟨⟨xs,e,av.noL g (h ds aJ)⟩,zM.noL g (fun d hd=>h d (aK _ hd)) r⟩
 |[],_::_,_,z=>z.elim
 |_::_,[],_,z=>z.elim
section
variable {X:Cx}{α:Ev}
theorem iG {N:List Str}{imp:List (Option Nat)}{scope:Scope}{tg iter elt:Expr}{pat:Pat}{Q:List (List PyData)→Prop}(hfree:pat.free (zS imp α)=true)
  (h:EvI X α tg iter fun ds=>ds.length≤1000∧tT (fun C s2 H2 fp=>X.comp N scope C s2 H2 fp) pat elt (zS imp α) ds [] Q)
  (F:Fr) (σ:St) (H:Hp) (R:VK) (m:M F α σ H) (k:∀dss v H',Q dss→zI F H'→Kz F H H'→jm F α σ H v H' dss→R v H'):
  ∃Y:Addr→Shared→Hp→List Addr→Cx,Y=(fun C s2 H2 fp=>X.comp N scope C s2 H2 fp)∧nF (gc X tg iter) imp (uS X.K pat) (tsC Y []) (eC Y elt) σ H R:=by
 refine⟨_,rfl,?_⟩
 refine h F σ H _ m fun ds J H1 ⟨hl,q1⟩ t1 k1 itw acc hacc=>?_
 have m1:=m.kz k1 t1
 have nacc:¬Ow F α σ acc:=m1.fresh hacc
 let Fc:Fr:=⟨H1,fun x=>Ow F α σ x∨x=acc,F.tp⟩
 let Nd:Ev→Prop:=fun α1=>∀(j:Nat) a,α1[j]?=some (some a)→(∃d,a=.dat d)∨a=.tape
 have no0:Nd (zS imp α):=fun j a z=>by
  obtain⟨_,_,_,n⟩:=wQ z
  exact n
 have owc:∀{α1:Ev} {τ:St} {x:Addr},Nd α1→(Ow Fc α1 τ x↔Fc.O0 x):=fun {α1 τ x} hh=>⟨fun z=>z.elim id fun⟨j,a,s,e1,e2,f⟩=>by
  rcases hh j a e1 with ⟨d,rfl⟩|rfl
  ·exact f.elim
  ·exact f.elim,.inl⟩
 have gz:∀{α1 α2:Ev} {τ1 τ2:St} {H:Hp},Nd α1→Nd α2→zo (Gz Fc α1 τ1 H) (Gz Fc α2 τ2 H):=fun h1 h2=>zm fun a o h e=>⟨fun z=>h ((owc h1).mpr ((owc h2).mp z)),e⟩
 have tpc:∀{H2:Hp},zI F H2→zI Fc H2:=fun t=>t.to rfl fun x z=>.inl (.inl z)
 have s01:zo H1 (upd H1 acc (.lst [])):=yo hacc
 have mc0:M Fc (zS imp α) (yQ imp σ) (upd H1 acc (.lst [])):=by
  have g1:zo (Gz F α σ H1) (Gz Fc (zS imp α) (yQ imp σ) (upd H1 acc (.lst []))):=fun a o e=>by
   obtain⟨z1,z2⟩:=zf e
   have na:a≠acc:=zd z2 hacc
   exact zv (fun z=>((owc no0).mp z).elim z1 na) (by rw[zc na];exact z2)
  refine⟨by unfold zS yQ;rw[aI,aI],fun i a s e1 e2=>?_,fun i j a b s t x e1 e2 _ _ f=>?_,fun i r q e=>(by rcases no0 i _ e with ⟨d,w⟩|w<;>cases w),tpc (t1.same s01),fun x o e _=>s01 x o e,?_⟩
  ·obtain⟨j,w1,w2,w3⟩:=wQ e1
   rcases w3 with ⟨d,rfl⟩|rfl
   ·obtain⟨v,g2,g3⟩:=m1.dat j d w2
    rw[wY w1 g2] at e2;cases e2
    exact⟨v,rfl,g3.same g1⟩
   ·obtain⟨t,b,c,g2,g3⟩:=m1.tvar j w2
    rw[wY w1 g3] at e2;cases e2
    exact⟨t,b,c,g2,rfl⟩
  ·rcases no0 i a e1 with ⟨d,rfl⟩|rfl
   ·exact f.elim
   ·exact f.elim
  ·rintro x (z|z)
   ·have:∃o,H1 x=some o∧xt o:=m1.owEx z
    obtain⟨o,ho,hn⟩:=this
    exact⟨o,s01 _ _ ho,hn⟩
   ·exact⟨_,by rw[z];exact ze,yp⟩
 let Inv13:Nat→List V→St→Hp→List (List PyData)→List Addr→Prop:=fun i ys τ H2 ad ls=>M Fc (zS imp α) τ H2∧H2 acc=some (.lst ys)∧ys=ls.map .ref∧zM (Gz Fc (zS imp α) τ H2) H2 ls ad∧(acc::ls).Nodup∧(∀x∈ls,H1 x=none)∧(∀d∈ad,noLs d=true)∧ad.length≤i∧tT (fun C s2 H2 fp=>X.comp N scope C s2 H2 fp) pat elt (zS imp α) (ds.drop i) ad Q
 refine⟨fun i n ys τ H2=>n=ds.length-i∧i≤ds.length∧∃ad ls,Inv13 i ys τ H2 ad ls,
  ⟨ds.length,by simp,aS _,[],[],mc0,ze,rfl,trivial,by simp,by simp,by simp,aN _,q1⟩,?_⟩
 rintro i n ys τ H2 ⟨rfl,hi,ad,ls,m2,ha,hys,av,nd,fr,nl,had,cw⟩
 have sG:zo (Gz F α σ H1) (Gz Fc (zS imp α) τ H2):=fun a o e=>by
  obtain⟨z1,z2⟩:=zf e
  exact m2.old a o (zv (p:=fun x=>¬Fc.O0 x) (fun z=>z.elim z1 (zd z2 hacc)) z2)
 obtain⟨w1,w2⟩:=itw i H2 _ sG
 have nO:∀x∈ls,¬Fc.O0 x:=fun x hx z=>z.elim (m1.fresh (fr x hx)) fun z=>(zb8.mp nd).1 (z▸hx)
 by_cases hlt:i<ds.length
 ·have hd:ds[i]?=some ds[i]:=aM hlt
  have hdr:ds.drop i=ds[i]::ds.drop (i+1):=zb0 hlt
  rw[hdr] at cw
  obtain⟨α1,eb,body⟩:=cw
  obtain⟨go,yl⟩:=w1 _ hd
  have no1:Nd α1:=fun j a z=>by
   obtain⟨is,ds',_,e⟩:=Pat.is_ok eb
   by_cases hn:∀d,a≠.dat d
   ·exact no0 j a (wz e z hn)
   ·simp only[Classical.not_forall,Classical.not_not] at hn
    exact .inl hn
  refine .inr ⟨go,fun ys' τ' H'=>∃ad ls,Inv13 (i+1) ys' τ' H' ad ls,fun ys' τ' H' ⟨ad',ls',r⟩=>⟨ds.length-(i+1),by omega,rfl,hlt,ad',ls',r⟩,fun x H3 y=>?_⟩
  obtain⟨s23,avx⟩:=yl x H3 y
  have m3:M Fc (zS imp α) τ H3:=m2.kz (Kz.of_same s23) (m2.tp.same s23)
  have avx':=avx fun a o _ e=>m2.fresh e
  refine rJ eb m3 avx' fun τ1 m4 C s2 H2' fp=>?_
  refine wC (X:=X.comp N scope C s2 H2' fp) (α:=α1) (Q:=fun b=>b=true) rfl Fc τ1 H3 _ m4 fun b H5 qb t5 k5=>?_
  subst qb
  have m5:=m4.kz k5 t5
  have accN:NT Fc acc:=⟨fun t b c e=>by
   have:=(t1 t b c e).1.free hacc
   exact⟨this.1,this.2.1⟩,wR t1.tab hacc⟩
  have ha5:H5 acc=some (.lst ys):=k5 _ _ (s23 _ _ ha) accN
  have k35:∀a∈ls,∀o,H2 a=some o→H5 a=some o:=fun a h o e=>k5 _ _ (s23 _ _ e) (m4.tp.nt (nO a h))
  have av5:zM (Gz Fc (zS imp α) τ1 H5) H5 ls ad:=av.same ((Kz.of_same s23).gz m2.tp |>.trans ((gz (τ2:=τ1) no0 no1).trans ((k5.gz m4.tp).trans (gz no1 no0)))) k35
  refine wx fun C s2 H2'' fp=>?_
  refine body C s2 H2'' fp Fc τ1 H5 _ m5 fun y v H6 ⟨ny,qy⟩ t6 k6 r6=>?_
  have m6:=m5.kz k6 t6
  have ha6:H6 acc=some (.lst ys):=k6 _ _ ha5 accN
  have hlen:ys.length≤i:=by rw[hys,aI,av.len];exact had
  have oacc:Fc.O0 acc:=.inr rfl
  have tacc:∀t b c,Fc.tp=some (t,b,c)→acc≠t∧acc≠b∧acc≠c:=fun t b c e=>(t1 t b c e).1.free hacc
  have m7:=(Pat.back eb hfree m6).wr (o:=.lst (ys++[v])) yp oacc tacc hacc (xq ha6) (fun i r q z=>by rcases no0 i _ z with ⟨d,w⟩|w<;>cases w)
  obtain⟨l,xs,rfl,l0,l1,l2⟩:=r6
  have lacc:l≠acc:=fun z=>by rw[z,ha5] at l0;cases l0
  have lls:l∉ls:=fun z=>by
   obtain⟨zs,e⟩:=av5.obj l z
   rw[e] at l0;cases l0
  have g67:zo (Gz Fc (zS imp α) τ1 H6) (Gz Fc (zS imp α) τ1 (upd H6 acc (.lst (ys++[.ref l])))):=zm fun a o h e=>⟨h,by rw[zc (fun z=>h (.inl (by rw[z];exact oacc)))];exact e⟩
  have l1H:H1 l=none:=by
   cases z:H1 l with
   |none=>rfl
   |some o=>exact absurd (m5.keep l o z (by
     have:=m5.fresh l0
     exact m5.tp.nt (ow0 this))) (by rw[l0];exact fun z=>by cases z)
  refine⟨ha6,zU (by omega),ad++[y],ls++[l],m7,ze,by rw[hys,ze8];rfl,?_,?_,?_,?_,by simp;omega,qy⟩
  ·have a6:zM (Gz Fc (zS imp α) τ1 (upd H6 acc (.lst (ys++[.ref l])))) (upd H6 acc (.lst (ys++[.ref l]))) ls ad:=av5.same ((gz (τ2:=τ1) no0 no1).trans ((k6.gz m5.tp).trans ((gz no1 no0).trans g67))) fun a h o e=>by
    have na:a≠acc:=fun z=>(zb8.mp nd).1 (z▸h)
    rw[zc na]
    exact k6 _ _ e (m5.tp.nt (nO a h))
   refine a6.snoc (xs:=xs) (by rw[zc lacc];exact l1) ((l2.same ?_).same g67)
   exact zo.trans (zm fun a o h e=>⟨h.1,e⟩) (gz no1 no0)
  ·rw[←List.cons_append]
   rw[List.nodup_append]
   refine⟨nd,by simp,fun a ha b hb=>?_⟩
   rw[aV.mp hb]
   rcases aP.mp ha with z|z
   ·rw[z];exact lacc.symm
   ·exact fun w=>lls (w▸z)
  ·intro a h
   rcases za8.mp h with z|z
   ·exact fr a z
   ·rw[aV.mp z];exact l1H
  ·intro d h
   rcases za8.mp h with z|z
   ·exact nl d z
   ·rw[aV.mp z];exact ny
 ·have e:i=ds.length:=by omega
  subst e
  rw[zd3] at cw
  have hn:∀x,H1 x=none→H x=none:=fun x hx=>by
   cases z:H x with
   |none=>rfl
   |some o=>
    by_cases n:NT F x
    ·rw[k1 _ _ z n] at hx;cases hx
    ·exact absurd ⟨fun a b c e=>⟨((t1 a b c e).1.free hx).1,((t1 a b c e).1.free hx).2.1⟩,wR t1.tab hx⟩ n
  refine .inl ⟨w2 (aN _),k ad _ H2 cw (m.tp.re m2.tp rfl) (k1.trans m2.keep) ⟨acc,ls,rfl,by rw[ha,hys],av.noL (fun a o no e=>?_) nl,nd,fun x hx=>?_⟩⟩
  ·obtain⟨z1,z2⟩:=zf e
   refine zv ⟨fun w=>z1 (.inl (.inl w)),fun w=>?_⟩ z2
   rcases aP.mp w with w|w
   ·exact z1 (.inl (.inr w))
   ·obtain⟨zs,q⟩:=av.obj a w
    rw[z2] at q;cases q
    exact no trivial
  ·rcases aP.mp hx with z|z
   ·rw[z];exact hn _ hacc
   ·exact hn _ (fr x z)
theorem bo {N:List Str}{imp:List (Option Nat)}{scope:Scope}{tg iter elt:Expr}{pat:Pat}{Q:List (List PyData)→Prop}{pos:Pos}(hc:X.calm=true)(S:zA X.N X.env.scope N imp scope)(hfree:pat.free (zS imp α)=true)
  (hg:∀C s2 H2 fp,PG (X.comp N scope C s2 H2 fp) tg (uS X.K pat))
  (h:EvI X α tg iter fun ds=>ds.length≤1000∧tT (fun C s2 H2 fp=>X.comp N scope C s2 H2 fp) pat elt (zS imp α) ds [] Q) (hs:∀x,foldedSetIterable iter X.env x=pure x:=by intro _;rfl):
  EvM X α (.ListComp elt [⟨tg,iter,[],0⟩] scope pos) Q:=fun F σ H R m k=>by
 obtain⟨Y,rfl,h⟩:=iG hfree h F σ H R m k
 exact⟨_,ic hc S wM hg (fun C s2 H2 fp pins s σ H Q I h=>vX pins s σ H Q I (h C s2 H2 fp)) (fun C s2 H2 fp pins s σ H Q I h=>zi pins s σ H Q I (h C s2 H2 fp)) hs,h⟩
end
theorem zM.at {G H:Hp}:∀{ls:List Addr} {dss:List (List PyData)} {k:Nat} {a:Addr},zM G H ls dss→ls[k]?=some a→∃ds xs,dss[k]?=some ds∧H a=some (.lst xs)∧AVs G xs ds
 |[],_,k,a,_,e=>by simp at e
 |b::ls,ds::dss,0,a,⟨⟨xs,h,av⟩,_⟩,e=>by simp at e;subst e;exact⟨ds,xs,rfl,h,av⟩
 |b::ls,ds::dss,k+1,a,⟨_,r⟩,e=>by
  obtain⟨ds',xs,h1,h2,h3⟩:=zM.at (k:=k) (a:=a) r (by simpa using e)
  exact⟨ds',xs,by simpa using h1,h2,h3⟩
 |_::_,[],_,_,z,_=>z.elim
theorem zM.put {G G' H:Hp}{ds':List PyData}{ys:List V}(g:zo G G')(av':AVs G' ys ds'):∀{ls:List Addr} {dss:List (List PyData)} {k:Nat} {a:Addr},zM G H ls dss→ls.Nodup→ls[k]?=some a→zM G' (upd H a (.lst ys)) ls (dss.set k ds')
 |[],_,k,a,_,_,e=>by simp at e
 |b::ls,ds::dss,0,a,⟨_,r⟩,n,e=>by
  simp at e;subst e
  refine⟨⟨ys,ze,av'⟩,r.same g fun c hc o q=>?_⟩
  have ne:c≠b:=fun z=>(zb8.mp n).1 (z▸hc)
  rw[zc ne];exact q
 |b::ls,ds::dss,k+1,a,⟨⟨xs,h,av⟩,r⟩,n,e=>by
  have e':ls[k]?=some a:=by simpa using e
  refine⟨⟨xs,?_,av.same g⟩,zM.put g av' r (zb8.mp n).2 e'⟩
  have ne:b≠a:=fun z=>(zb8.mp n).1 (z▸za4 e')
  rw[zc ne];exact h
 |_::_,[],_,_,z,_,_=>z.elim
section
variable {X:Cx}{α:Ev}{e tg:Expr}{pos p:Pos}{E:yk}{rest body:List Stmt}
theorem M.wrN {F:Fr}{σ:St}{H:Hp}{i k:Nat}{l a:Addr}{ls:List Addr}{dss:List (List PyData)}{ds':List PyData}{ys:List V}(m:M F α σ H)(hi:α[i]?=some (some (.nst l ls dss)))(hk:ls[k]?=some a)(av:AVs (Gz F α σ H) ys ds'):
  M F (α.set i (some (.nst l ls (dss.set k ds')))) σ (upd H a (.lst ys)):=by
 obtain⟨hl,h2,h3,h4,h5⟩:=m.nst hi
 have ma:a∈l::ls:=aK _ (za4 hk)
 obtain⟨ds,xs,e1,e2,e3⟩:=h3.at hk
 have al:a≠l:=fun z=>(zb8.mp h4).1 (z▸za4 hk)
 have o4:¬F.O0 a:=(h5 a ma).1
 have o5:F.H0 a=none:=(h5 a ma).2
 have hs:∀{j:Nat} {b:A} {s:Option V},(α.set i (some (.nst l ls (dss.set k ds'))))[j]?=some (some b)→σ[j]?=some s→(i=j∧b=.nst l ls (dss.set k ds')∧s=some (.ref l))∨(i≠j∧α[j]?=some (some b)):=fun {j b s} e1 e2=>by
  rcases zG e1 with ⟨rfl,z⟩|⟨hj,e1'⟩
  ·cases z;rw[hl] at e2;cases e2;exact .inl ⟨rfl,rfl,rfl⟩
  ·exact .inr ⟨hj,e1'⟩
 have oww:∀{y:Addr},Ow F (α.set i (some (.nst l ls (dss.set k ds')))) σ y→Ow F α σ y:=fun {y} h=>by
  rcases h with z|⟨j,b,s,e1,e2,f⟩
  ·exact .inl z
  ·rcases hs e1 e2 with ⟨rfl,rfl,rfl⟩|⟨hj,e1'⟩
   ·exact .inr ⟨i,_,_,hi,hl,f⟩
   ·exact .inr ⟨j,b,s,e1',e2,f⟩
 have ol:Ow F α σ a:=.inr ⟨i,_,_,hi,hl,ma⟩
 have gs:zo (Gz F α σ H) (Gz F (α.set i (some (.nst l ls (dss.set k ds')))) σ (upd H a (.lst ys))):=zm fun b o h e=>⟨fun z=>h (oww z),by rw[zc (fun z=>h (by rw[z];exact ol))];exact e⟩
 refine⟨by rw[zc3];exact m.len,fun j b s e1 e2=>?_,fun j j' b c s t x e1 e2 q1 q2 f1 f2=>?_,fun j r q e j' b s x e1 e2 f=>?_,m.tp.updO o4 (xq e2),fun y o e n=>?_,fun y hy=>?_⟩
 ·rcases hs e1 e2 with ⟨rfl,rfl,rfl⟩|⟨hj,e1'⟩
  ·exact⟨rfl,by rw[zc al.symm];exact h2,h3.put gs (av.same gs) (zb8.mp h4).2 hk,h4,h5⟩
  ·refine (m.ok j b s e1' e2).stay gs (fun y u f e=>?_) rfl fun r q ea k=>⟨k.tp,k.o,k.ok.updO (fun z=>o4 (k.o _ z)) (xq (by assumption)),fun y u e n=>?_⟩
   ·obtain⟨w1,w2,_⟩:=m.ft e1' e2 f
    refine⟨?_,w1,w2⟩
    rw[zc fun z=>hj (m.dj i j _ b _ s a hi e1' hl e2 ma (by rw[←z];exact f))]
    exact e
   ·rw[zc (zd e (m.xd j r q (by rw[←ea];exact e1') i _ _ a hi hl ma))];exact k.k y u e n
 ·rcases hs e1 q1 with ⟨rfl,rfl,rfl⟩|⟨hj,e1'⟩
  ·rcases hs e2 q2 with ⟨rfl,_⟩|⟨hj',e2'⟩
   ·rfl
   ·exact m.dj i j' _ c _ t x hi e2' hl q2 f1 f2
  ·rcases hs e2 q2 with ⟨rfl,rfl,rfl⟩|⟨hj',e2'⟩
   ·exact m.dj j i b _ s _ x e1' hi q1 hl f1 f2
   ·exact m.dj j j' b c s t x e1' e2' q1 q2 f1 f2
 ·rcases zG e with ⟨_,z⟩|⟨_,e'⟩
  ·cases z
  ·rcases hs e1 e2 with ⟨rfl,rfl,rfl⟩|⟨_,e1'⟩
   ·exact m.xd j r q e' i _ _ x hi hl f
   ·exact m.xd j r q e' j' b s x e1' e2 f
 ·rw[zc (zd e o5)];exact m.keep y o e n
 ·rw[zc (fun z=>o4 (by rw[←z];exact hy))];exact m.oex y hy
theorem fu (i j k:Nat){x:Str}{l a:Addr}{ls:List Addr}{dss:List (List PyData)}{ds:List PyData}{p1 p2 p3:Pos}(hj:α[j]?=some (some (.at a)))(hi:α[i]?=some (some (.nst l ls dss)))(hk:ls[k]?=some a)(hd':dss[k]?=some ds)(h:EvD X α e fun d=>ds.length<1000∧SvS X (α.set i (some (.nst l ls (dss.set k (ds++[d]))))) rest E)
  (hN:X.N[j]?=some x:=by rfl) (hv:Vis X.env.scope x:=by first|exact Or.inl rfl|exact Or.inr (Or.inl rfl)|exact Or.inr (Or.inr rfl)) (hd:(x == ("__debug__":Str))=false:=by decide) (hcd:(x == ("__classdict__":Str))=false:=by decide)
  (hbase:attributeBase (.Name x p1) "append" X.env (eval (.Name x p1) X.env)=eval (.Name x p1) X.env:=by rfl) (hs:starEach [e] X.env=(false,eval e X.env)::starEach [] X.env:=by rfl)
  (hpl:((((backTo p3 (starEach [e] X.env)).all fun x=>!x.fst)&&(backToKw p3 (keywordEach [] X.env)).all fun x=>x.fst.isSome)&&decide (([e].length+([]:List Keyword).length+if ([]:List Keyword).isEmpty=true then 0 else 1)<30))=true:=by rfl)
  (hline:(p2.endLine == p3.line)=true:=by rfl) (hsw:swapsWith (.Call (.Attribute (.Name x p1) "append" p2) [e] [] p3) none pos.line X.env=pure false:=by rfl):SvS X α (.Expr (.Call (.Attribute (.Name x p1) "append" p2) [e] [] p3) pos::rest) E:=fun F σ H D m r=>by
 obtain⟨h1,h2,h3,h4,h5⟩:=m.nst hi
 obtain⟨ds0,xs,e1,e2,e3⟩:=h3.at hk
 rw[hd'] at e1;cases e1
 have o4:=(h5 a (aK _ (za4 hk))).1
 refine⟨_,zE (xE (uX zc4 zd8 zd9 yR (yU hN hv hd hcd) (za zi zh hs) hbase hpl hline hs) hsw) zK,?_⟩
 refine⟨.ref a,m.atv j a hj,.inl ⟨rfl,_,SqL.of e2⟩,?_⟩
 refine h F σ H _ m fun d v H1 q1 t1 k1 r1=>?_
 have m1:=m.kz k1 t1
 refine⟨a,xs,v,rfl,rfl,k1 _ _ e2 (m.tp.nt o4),by rw[e3.length];exact zU (zd5 q1.1),?_⟩
 exact q1.2 F σ _ D (m1.wrN hi hk ((e3.same (k1.gz m.tp)).append (.cons r1 .nil))) r
def uG (X:Cx)(j:Nat)(body rest:List Stmt)(E:yk)(i:Nat)(l:Addr)(ls:List Addr):List Addr→Ev→Prop
 |[],α=>(∃dss,α[i]?=some (some (.nst l ls dss)))∧SvS X α rest E
 |a::as,α=>(∃dss,α[i]?=some (some (.nst l ls dss)))∧SvS X (α.set j (some (.at a))) body {nx:=uG X j body rest E i l ls as,ct:=uG X j body rest E i l ls as,bk:=fun _=>False,rt:=E.rt}
theorem iZ (i j:Nat){x:Str}{l:Addr}{ls:List Addr}{dss:List (List PyData)}(hp:PassesOwn (model X.prog X.w) X.A X.env X.xe)(hc:X.calm=true)(hi:α[i]?=some (some (.nst l ls dss)))(hg:PG X tg (vD j))(h:uG X j body rest E i l ls ls α)
  (hN:X.N[i]?=some x:=by rfl) (hv:Vis X.env.scope x:=by first|exact Or.inl rfl|exact Or.inr (Or.inl rfl)|exact Or.inr (Or.inr rfl)) (hd:(x == ("__debug__":Str))=false:=by decide) (hcd:(x == ("__classdict__":Str))=false:=by decide)
  (hs:∀y,foldedSetIterable (.Name x p) X.env y=pure y:=by intro _;rfl):SvS X α (.For tg (.Name x p) body [] pos::rest) E:=fun F σ H D m r=>by
 obtain⟨h1,h2,h3,h4,h5⟩:=m.nst hi
 refine⟨_,zE (uu hp hc (xX (yU hN hv hd hcd)) hg zK hs) zK,?_⟩
 refine⟨.ref l,h1,l,rfl,⟨_,SqL.of h2⟩,?_⟩
 refine⟨fun k n σ' H'=>n=ls.length-k∧k≤ls.length∧∃α',M F α' σ' H'∧uG X j body rest E i l ls (ls.drop k) α',⟨ls.length,by simp,aS _,_,m,h⟩,?_⟩
 rintro k n σ' H' ⟨rfl,hk,α',m',lw⟩
 by_cases hlt:k<ls.length
 ·rw[zb0 hlt] at lw
  obtain⟨⟨dss',hi'⟩,bd⟩:=lw
  obtain⟨_,g2,_⟩:=m'.nst hi'
  have hx1:(ls.map V.ref)[k]?=some (.ref ls[k]):=by rw[za6,aM hlt];rfl
  refine .inr ⟨⟨_,_,SqL.of g2,hx1⟩,fun σ'' H''=>∃α',M F α' σ'' H''∧uG X j body rest E i l ls (ls.drop (k+1)) α',fun σ'' H'' ⟨α'',r1,r2⟩=>⟨ls.length-(k+1),by omega,rfl,hlt,α'',r1,r2⟩,fun y H3 yy=>?_⟩
  obtain⟨rfl,yy⟩:=yy
  have:=yy _ (SqL.of g2)
  rw[hx1] at this;cases this
  refine bd F _ _ _ (m'.store (b:=.at ls[k]) m'.tp Kz.refl (fun x z=>z.elim) rfl) ⟨fun α2 σ2 H2 m2 q=>⟨α2,m2,q⟩,r.rt,fun _ _ _ _ z=>z.elim,fun α2 σ2 H2 m2 q=>⟨α2,m2,q⟩⟩
 ·have e:k=ls.length:=by omega
  subst e
  rw[zd3] at lw
  obtain⟨⟨dss',hi'⟩,bd⟩:=lw
  obtain⟨_,g2,_⟩:=m'.nst hi'
  exact .inl ⟨⟨_,SqL.of g2,by rw[aI];exact aN _⟩,bd F σ' H' D m' r⟩
end
def cE :R2:=fun x y H R=>rEq x y H R∨bG x y H R
def cZ :R2:=fun x y H R=>rNe x y H R∨cK x y H R
theorem jA {X:Cx}(hu:X.A.units+64<cLine):OpR X (compareOp .Eq) cE:=fun pins s σ H x y v u Q I rx ry h=>h.elim (fun h=>xO _ _ _ _ _ _ _ _ _ I rx ry h) fun h=>xQ hu _ _ _ _ _ _ _ _ _ I rx ry h
theorem du {X:Cx}(hu:X.A.units+64<cLine):OpR X (compareOp .NotEq) cZ:=fun pins s σ H x y v u Q I rx ry h=>h.elim (fun h=>fV _ _ _ _ _ _ _ _ _ I rx ry h) fun h=>cb hu _ _ _ _ _ _ _ _ _ I rx ry h
theorem hG {i j:Str}:Cmp rNe (.str i) (.str j) (!decide (i=j)):=fun p H vx vy R rx ry h=>by
 cases rx.str_inv;cases ry.str_inv
 refine⟨rfl,?_⟩
 rw[show decide (V.str i=V.str j)=decide (i=j) by simp]
 exact h
def qJ (x y:PyData)(Q:Bool→Prop):Prop:=∃k,Cmp cE x y k∧Cmp cZ x y (!k)∧Q k
theorem iR {i j:Int}{Q:Bool→Prop}(h:Q (decide (i=j))):qJ (.int i) (.int j) Q:=⟨_,fun p H vx vy R rx ry z=>.inl (iP p H vx vy R rx ry z),fun p H vx vy R rx ry z=>.inl (nS p H vx vy R rx ry z),h⟩
theorem oT {i j:Str}{Q:Bool→Prop}(h:Q (decide (i=j))):qJ (.str i) (.str j) Q:=⟨_,fun p H vx vy R rx ry z=>.inl (nC p H vx vy R rx ry z),fun p H vx vy R rx ry z=>.inl (hG p H vx vy R rx ry z),h⟩
theorem eqk {x y:PyData}{Q:Bool→Prop}(s1:SeqAt.shaped x=true)(s2:SeqAt.shaped y=true)(d1:x.hasDict=false)(d2:y.hasDict=false)(h:Q (PyData.eqv x y)):qJ x y Q:=
 ⟨_,fun p H vx vy R rx ry z=>.inr ⟨x,y,(rx.dv d1).same yw,(ry.dv d2).same yw,s1,s2,z⟩,fun p H vx vy R rx ry z=>.inr ⟨x,y,(rx.dv d1).same yw,(ry.dv d2).same yw,s1,s2,z⟩,h⟩
theorem rW {i j:Bool}{Q:Bool→Prop}(h:Q (i == j)):qJ (.bool i) (.bool j) Q:=eqk rfl rfl rfl rfl (by simpa[PyData.eqv] using h)
section
variable {X:Cx}{α:Ev}{a b:Expr}{pos:Pos}{Q:PyData→Prop}{T:Bool→Prop}
theorem eN (hu:X.A.units+64<cLine)(h:EvD X α a fun x=>EvD X α b fun y=>qJ x y fun k=>Q (.bool k)):EvD X α (.Compare a [.Eq] [b] pos) Q:=cp (jA hu) (zu _) (h.imp fun x h=>h.imp fun y ⟨k,e,_,q⟩=>⟨k,e,q⟩)
theorem dR (hu:X.A.units+64<cLine)(h:EvD X α a fun x=>EvD X α b fun y=>qJ x y T):EvT X α (.Compare a [.Eq] [b] pos) T:=vh (jA hu) (zu _) (h.imp fun x h=>h.imp fun y ⟨k,e,_,q⟩=>⟨k,e,q⟩)
theorem pe (hu:X.A.units+64<cLine)(h:EvD X α a fun x=>EvD X α b fun y=>qJ x y fun k=>T (!k)):EvT X α (.Compare a [.NotEq] [b] pos) T:=vh (du hu) (zu _) (h.imp fun x h=>h.imp fun y ⟨k,_,e,q⟩=>⟨!k,e,q⟩)
theorem fL {k:Bool}{p q:Prop}(e:k=true)(h:p):if k=true then p else q:=by rw[if_pos e];exact h
theorem jv {k:Bool}{p q:Prop}(e:k=false)(h:q):if k=true then p else q:=by rw[if_neg (by rw[e];decide)];exact h
variable {E:yk}{s t:List Stmt}
theorem gx {k:Bool}(e:k=true)(h:SvS X α s E):SvS X α (if k=true then s else t) E:=by rw[if_pos e];exact h
theorem uc {k:Bool}(e:k=false)(h:SvS X α t E):SvS X α (if k=true then s else t) E:=by rw[if_neg (by rw[e];decide)];exact h
end
section
variable {X:Cx}{α:Ev}{a b:Expr}{pos:Pos}{Q:PyData→Prop}{T:Bool→Prop}
def cN :R2:=fun x y H Q=>∃a v,x=.ref a∧cm H a y (some v)∧Q v H
theorem gH (hu:X.A.units+1<cLine):IxR X cN:=fun value slice pins s σ H x y v u Q I rx ry h hs=>by
 obtain⟨a,z,rfl,g,q⟩:=h
 cases rx
 exact tail_any (rL I g) PySem.F.slot_dict_getitem.lookup (lK hu I g ry fun w' s' I' r'=>⟨z,H,I',r',q⟩) hs
def jD (x y:PyData)(Q:PyData→Prop):Prop:=(∃ds i d,xB x=some ds∧y=.int i∧atI ds i=some d∧Q d)∨∃ds k d,x=gI ds∧y=ly k∧iX ds k=some d∧Q d
theorem ixk {x y:PyData}{ds:List PyData}{i:Int}{d:PyData}(h1:xB x=some ds)(h2:y=.int i)(h3:atI ds i=some d)(h:Q d):jD x y Q:=.inl ⟨ds,i,d,h1,h2,h3,h⟩
theorem rg {x:PyData}{ds:List PyData}{v:Int}(hx:xB x=some ds)(h0:0≤v)(h1:v<ds.length)(h:qF Q ds):jD x (.int v) Q:=.inl (hU hx h0 h1 h)
theorem nD {x:PyData}{ds:List PyData}{v:Int}(P:PyData→Prop)(hx:xB x=some ds)(h0:0≤v)(h1:v<ds.length)(h:qF P ds)(k:∀d,P d→Q d):jD x (.int v) Q:=.inl (jW P hx h0 h1 h k)
theorem pN (hu:X.A.units+1<cLine)(hs:su b)(h:EvD X α a fun x=>EvD X α b fun y=>jD x y Q):EvD X α (.Subscript a b pos) Q:=by
 refine uP (f:=tOp (fun x y H Q=>rIx X.K x y H Q∨cN x y H Q)) (zq (eP.or (gH hu)) zi zi hs) (fun _ _ _=>Iff.rfl) (h.imp fun x h=>h.imp fun y h=>?_)
 intro F σ H vx vy R m rx ry k
 rcases h with ⟨ds,i,d,e1,rfl,hat,hq⟩|⟨ds,kk,d,rfl,rfl,hv,hq⟩
 ·cases ry.int_inv
  cases x with
  |list ds'=>
   cases e1
   obtain⟨a,xs,rfl,h1,h2⟩:=rx.lst_inv
   obtain⟨v,hv,av⟩:=h2.atI hat
   exact .inl (.inl ⟨a,xs,i,v,rfl,rfl,SqL.of (zf h1).2,hv,k d v H hq m.tp Kz.refl av⟩)
  |tuple ds'=>
   cases e1
   obtain⟨a,xs,rfl,h1,h2⟩:=rx.tup_inv
   obtain⟨v,hv,av⟩:=h2.atI hat
   exact .inl (.inr (.inl ⟨a,xs,i,v,rfl,rfl,SqT.of (zf h1).2,hv,k d v H hq m.tp Kz.refl av⟩))
  |_=>cases e1
 ·obtain⟨a,o,kvs,rfl,g1,g2⟩:=rx.dk_inv
  obtain⟨v,w1,w2⟩:=g2.get hv
  cases gj ry
  exact .inr ⟨a,v,rfl,.inl ⟨kvs,kk,.inr ⟨o,(zf g1).2⟩,rfl,w1.symm⟩,k d v H hq m.tp Kz.refl w2⟩
end
theorem zR.one {k:Nat}{A:Around}(h:zR k A):A.units+1<cLine:=by have:=h.units;omega
section
variable {X:Cx}{α:Ev}{E:yk}{rest body:List Stmt}{e c tg iter:Expr}{pos p:Pos}
theorem rh (pat:Pat)(h:EvI X α tg iter fun ds=>vG X pat body rest E ds α)(hN:X.N.Nodup:=by assumption)(hp:PassesOwn (model X.prog X.w) X.A X.env X.xe:=by exact ze0)(hc:X.calm=true:=by rfl)
  (hg:PG X tg (uS X.K pat):=by first|exact zz (by assumption) rfl (Or.inl rfl)|exact zz (by assumption) rfl (Or.inr rfl)|exact yK rfl rfl (by repeat (first|exact xg|refine ym (by first|exact zz (by assumption) rfl (Or.inl rfl)|exact zz (by assumption) rfl (Or.inr rfl)) ?_)))
  (hs:∀x,foldedSetIterable iter X.env x=pure x:=by intro _;rfl):SvS X α (.For tg iter body [] pos::rest) E:=oH hp hc hg h hs
def freeOk (xs:Scope)(y:Str×NameKind):Bool:=match y.2 with
 |.free=>match xs.names.lookup y.1 with
  |some .cell=>true
  |some .free=>true
  |_=>false
 |_=>true
theorem uj {xs scope:Scope}(h:scope.names.all (freeOk xs)=true):∀y∈scope.names,y.2=.free→xs.names.lookup y.1=some .cell∨xs.names.lookup y.1=some .free:=fun y hy e=>by
 have:=zf6.mp h y hy
 unfold freeOk at this
 rw[e] at this
 cases z:xs.names.lookup y.1 with
 |none=>rw[z] at this;cases this
 |some k=>
  rw[z] at this
  cases k<;>first|exact .inl rfl|exact .inr rfl|cases this
theorem rK (N:List Str)(imp:List (Option Nat))(pat:Pat){scope:Scope}{elt:Expr}{ifs:List Expr}{Q:List PyData→Prop}(h:EvI X α tg iter fun ds=>ds.length≤1000∧yN (fun C s2 H2 fp=>X.comp N scope C s2 H2 fp) pat ifs elt (zS imp α) ds [] Q)
  (nd:N.Nodup:=by decide +kernel) (h1:scope.kind=.function:=by rfl) (h2:∀y∈scope.names,y.2≠.cell:=by decide +kernel) (h3:∀y∈scope.names,y.2=.local→scope.names.lookup y.1=some .local:=by decide +kernel) (h4:scope.names.all (freeOk X.env.scope)=true:=by rfl) (h5:imp.length=N.length:=by rfl)
  (h6:((imp.zip N).all fun p=>match p.1 with|none=>true|some j=>X.N[j]? == some p.2&&scope.names.lookup p.2 == some .free)=true:=by rfl) (hfree:pat.free (zS imp α)=true:=by rfl)
  (hg:∀C s2 H2 fp,N.Nodup→PG (X.comp N scope C s2 H2 fp) tg (uS X.K pat):=by intro _ _ _ _ hnd;first|exact zz hnd rfl (Or.inl rfl)|exact yK rfl rfl (by repeat (first|exact xg|refine ym (zz hnd rfl (Or.inl rfl)) ?_)))
  (hc:X.calm=true:=by rfl) (hs:∀x,foldedSetIterable iter X.env x=pure x:=by intro _;rfl):EvL X α (.ListComp elt [⟨tg,iter,ifs,0⟩] scope pos) Q:=nK hc ⟨h1,nd,h2,h3,uj h4,h5,h6⟩ hfree (fun C s2 H2 fp=>hg C s2 H2 fp nd) h hs
theorem qS (i:Nat)(N:List Str)(imp:List (Option Nat))(pat:Pat){x:Str}{pos' cpos:Pos}{scope:Scope}{elt:Expr}{ifs:List Expr}(h:EvI X α tg iter fun ds=>ds.length≤1000∧yN (fun C s2 H2 fp=>X.comp N scope C s2 H2 fp) pat ifs elt (zS imp α) ds [] fun ds=>SvS X (α.set i (some (.own ds))) rest E)
  (hN:X.N.Nodup:=by assumption)
  (nd:N.Nodup:=by decide +kernel) (h1:scope.kind=.function:=by rfl) (h2:∀y∈scope.names,y.2≠.cell:=by decide +kernel) (h3:∀y∈scope.names,y.2=.local→scope.names.lookup y.1=some .local:=by decide +kernel) (h4:scope.names.all (freeOk X.env.scope)=true:=by rfl) (h5:imp.length=N.length:=by rfl)
  (h6:((imp.zip N).all fun p=>match p.1 with|none=>true|some j=>X.N[j]? == some p.2&&scope.names.lookup p.2 == some .free)=true:=by rfl) (hfree:pat.free (zS imp α)=true:=by rfl)
  (hg:∀C s2 H2 fp,N.Nodup→PG (X.comp N scope C s2 H2 fp) tg (uS X.K pat):=by intro _ _ _ _ hnd;first|exact zz hnd rfl (Or.inl rfl)|exact yK rfl rfl (by repeat (first|exact xg|refine ym (zz hnd rfl (Or.inl rfl)) ?_)))
  (hc:X.calm=true:=by rfl)
  (hi:X.N[i]?=some x:=by rfl) (hx:Loc X.env.scope x:=by first|exact Or.inl rfl|exact Or.inr rfl) (hsw:swapsWith (.ListComp elt [⟨tg,iter,ifs,0⟩] scope cpos) (some (.Name x pos')) pos.line X.env=pure true:=by rfl)
  (hf:X.fn x=true∨X.env.scope.names.lookup x=some .local:=by first|exact .inl rfl|exact .inr rfl|assumption) (hs:∀x,foldedSetIterable iter X.env x=pure x:=by intro _;rfl):
  SvS X α (.Assign [.Name x pos'] (.ListComp elt [⟨tg,iter,ifs,0⟩] scope cpos) pos::rest) E:=fF i hN hc ⟨h1,nd,h2,h3,uj h4,h5,h6⟩ hfree (fun C s2 H2 fp=>hg C s2 H2 fp nd) h hi hx hsw hf hs
end
section
variable {Y:Addr→Shared→Hp→List Addr→Cx}{pat:Pat}{ifs:List Expr}{elt:Expr}{α0:Ev}{ι:Type}{g f:ι→PyData}{l:List ι}{acc:List PyData}{Q:List PyData→Prop}
theorem kd (p:ι→Bool)(f:ι→PyData)(hs:∀x∈l,∃α1,pat.bind (g x) α0=some α1∧(∀C s2 H2 fp (Q:Bool→Prop),Q (p x)→lD (Y C s2 H2 fp) α1 ifs Q)∧(p x=true→∀C s2 H2 fp (Q:PyData→Prop),Q (f x)→EvD (Y C s2 H2 fp) α1 elt Q))
  (hd:Q (acc++(l.filter p).map f)):yN Y pat ifs elt α0 (l.map g) acc Q:=by
 induction l generalizing acc with
 |nil=>
  show Q acc
  simpa using hd
 |cons d ds ih=>
  obtain⟨α1,e,h1,h2⟩:=hs d aJ
  refine⟨α1,e,fun C s2 H2 fp=>h1 C s2 H2 fp _ ?_⟩
  have ih':=fun acc=>ih (acc:=acc) fun d hd=>hs d (aK _ hd)
  cases hp:p d with
  |true=>
   rw[if_pos rfl]
   refine fun C s2 H2 fp=>h2 hp C s2 H2 fp _ (ih' _ ?_)
   simpa[zi0,hp] using hd
  |false=>
   rw[if_neg (by decide)]
   refine ih' _ ?_
   simpa[zi0,hp] using hd
theorem xZ (f:ι→PyData)(hs:∀x∈l,∃α1,pat.bind (g x) α0=some α1∧∀C s2 H2 fp (Q:PyData→Prop),Q (f x)→EvD (Y C s2 H2 fp) α1 elt Q)(hd:Q (acc++l.map f)):yN Y pat [] elt α0 (l.map g) acc Q:=
 kd (fun _=>true) f (fun x hx=>by
  obtain⟨α1,h1,h2⟩:=hs x hx
  exact⟨α1,h1,fun _ _ _ _ _ k=>wC k,fun _=>h2⟩) (by rw[zi8.mpr fun _ _=>rfl];exact hd)
end
section
variable {co:Co}{N:Nat}
end
section
variable {co:Co}{N:Nat}
end
section
variable {X:Cx}{α:Ev}{a b e:Expr}{pos p:Pos}{Q:PyData→Prop}
end
section
variable {X:Cx}{α:Ev}{a b c e:Expr}{pos p:Pos}{Q:PyData→Prop}{T:Bool→Prop}
end
section
variable {X:Cx}{α:Ev}{a b c e:Expr}{pos p p2 pos2:Pos}{Q:PyData→Prop}{T:Bool→Prop}
end
section
variable {X:Cx}{α:Ev}{a b c d e:Expr}{pos p:Pos}{ta tb tc td:TE}{T:Bool→Prop}
end
section
variable {X:Cx}{α:Ev}{a b c d e:Expr}{pos p:Pos}{T:Bool→Prop}
end
abbrev kO (X:Cx)(P:Program)(w:World)(K:PySem.W.Frag)(mg:Str→Option Value)(base:Heap):Prop:=X.prog=P∧X.w=w∧X.K=K∧X.mg=mg∧X.base=base
section
variable {X:Cx}{α:Ev}{e o:Expr}{es:List Expr}{pos p apos:Pos}{Q:PyData→Prop}{k:Nat}{φ:List A→(A→Prop)→Prop}{x m:Str}{C:Addr}{pl:Sem Bool}{P:Program}{w:World}{K:PySem.W.Frag}{mg:Str→Option Value}{base:Heap}
theorem gQ (D:Cal P w K mg base x k φ)(hX:kO X P w K mg base)(hr:zR k X.A)(hg:Gl X x)(h:EvA X α (e::es) fun as=>φ as fun a=>Q a.d)
  (hdb:(x == ("__debug__":Str))=false:=by decide) (he:starEach (e::es) X.env=(false,eval e X.env)::starEach es X.env:=by rfl) (hpl:(backTo pos (starEach es X.env)).any (·.1)=false:=by rfl):EvD X α (.Call (.Name x p) (e::es) [] pos) Q:=by
 obtain⟨rfl,rfl,rfl,rfl,rfl⟩:=hX
 exact uo D hr hg h hdb he hpl
theorem lN (D:uV P w K mg base C m k φ)(hX:kO X P w K mg base)(hr:zR k X.A)(h:EvD X α o fun x=>∃fs,x=xp C fs∧vO fs m=none∧EvA X α (e::es) fun as=>φ (.dat (xp C fs)::as) fun a=>Q a.d)
  (hst:starEach (e::es) X.env=(false,eval e X.env)::starEach es X.env:=by rfl) (hpl:(backTo pos (starEach es X.env)).any (·.1)=false:=by rfl)
  (ht:eval (.Call (.Attribute o m apos) (e::es) [] pos) X.env=(do
   let ov ←eval o X.env
   standAt apos.atName
   let (f,first) ←holding [ov] (getMethod ov m pl)
   callWith pos f first (backTo pos (starEach (e::es) X.env)) (backToKw pos (keywordEach [] X.env))):=by rfl):EvD X α (.Call (.Attribute o m apos) (e::es) [] pos) Q:=by
 obtain⟨rfl,rfl,rfl,rfl,rfl⟩:=hX
 exact gU D hr h hst hpl ht
theorem mJ (D:uV P w K mg base C m k φ)(hX:kO X P w K mg base)(hr:zR k X.A)(h:EvD X α o fun x=>∃fs,x=xp C fs∧vO fs m=none∧φ [.dat (xp C fs)] fun a=>Q a.d)
  (ht:eval (.Call (.Attribute o m apos) [] [] pos) X.env=(do
   let ov ←eval o X.env
   standAt apos.atName
   let (f,first) ←holding [ov] (getMethod ov m pl)
   callWith pos f first (backTo pos (starEach [] X.env)) (backToKw pos (keywordEach [] X.env))):=by rfl):EvD X α (.Call (.Attribute o m apos) [] [] pos) Q:=by
 obtain⟨rfl,rfl,rfl,rfl,rfl⟩:=hX
 exact qw D hr h ht
end
section
variable {X:Cx}{α:Ev}{pos:Pos}{Q:PyData→Prop}
end
section
variable {X:Cx}{α:Ev}{E:yk}{rest:List Stmt}{pos p:Pos}
theorem M.pinned {F:Fr}{σ:St}{H:Hp}(m:M F α σ H){i:Nat}{l:Addr}{vs:List V}{ds:List PyData}(e:α[i]?=some (some (.pin l vs ds))):σ[i]?=some (some (.ref l))∧Gz F α σ H l=some (.lst vs)∧AVs (Gz F α σ H) vs ds:=by
 obtain⟨s,hs⟩:=m.at' e
 obtain⟨h1,h2,h3⟩:=m.ok i _ s e hs
 exact⟨by rw[hs,h1],h2,h3⟩
theorem kL {Q:PyData→Prop}(i:Nat){x:Str}{l:Addr}{vs:List V}{ds:List PyData}(hi:α[i]?=some (some (.pin l vs ds)))(q:Q (.list ds))(hN:X.N[i]?=some x:=by rfl)(hv:Vis X.env.scope x:=by first|exact Or.inl rfl|exact Or.inr (Or.inl rfl)|exact Or.inr (Or.inr rfl))
  (hd:(x == ("__debug__":Str))=false:=by decide) (hcd:(x == ("__classdict__":Str))=false:=by decide):EvD X α (.Name x pos) Q:=fun F σ H R m k=>by
 obtain⟨h1,h2,h3⟩:=m.pinned hi
 exact⟨_,yU hN hv hd hcd,_,h1,k _ _ H q m.tp Kz.refl (.lst h2 h3)⟩
end
def aj :A→Prop
 |.dat d=>noL d=true
 |.ow (.list ds)=>noLs ds=true
 |.tape=>True
 |.at _=>True
 |_=>False
section
variable {X:Cx}{α:Ev}{e:Expr}{st:Stmt}{E:yk}
theorem M.pinN {F:Fr}{σ:St}{H:Hp}{i:Nat}{l:Addr}{ls:List Addr}{dss:List (List PyData)}(m:M F α σ H)(hi:α[i]?=some (some (.nst l ls dss))):M F (α.set i (some (.pin l (ls.map .ref) (dss.map .list)))) σ H:=
 (m.put (b:=some (.pin l (ls.map .ref) (dss.map .list))) (fun s c' x _ z f=>by cases z;exact f.elim) fun s c' _ e2 z=>by
  cases z
  obtain⟨h1,h2,h3,h4,h5⟩:=m.nst hi
  rw[h1] at e2;cases e2
  have gv:∀x∈l::ls,¬Ow F (α.set i (some (.pin l (ls.map .ref) (dss.map .list)))) σ x:=fun x hx=>m.gave hi h1 hx fun c z=>by cases z;exact id
  exact⟨rfl,zv (gv l aJ) h2,h3.avs (sy (b:=.pin l (ls.map .ref) (dss.map .list)) fun _ _ f=>f) fun a ha=>gv a (aK _ ha)⟩).2
theorem jt (i:Nat){l:Addr}{ls:List Addr}{dss:List (List PyData)}{P:Ev→Prop}(hi:α[i]?=some (some (.nst l ls dss)))
  (h:SvS X (α.set i (some (.pin l (ls.map .ref) (dss.map .list)))) [st] {nx:=fun α'=>α'[i]?=some (some (.pin l (ls.map .ref) (dss.map .list)))∧(∀j a,j≠i→α'[j]?=some (some a)→aj a)∧P (α'.set i (some (.nst l ls dss))),rt:=E.rt}):SvS X α [st] {E with nx:=P}:=fun F σ H D m r=>by
 obtain⟨h1,h2,h3,h4,h5⟩:=m.nst hi
 have m1:=m.pinN hi
 refine h (F.up (Gz F (α.set i (some (.pin l (ls.map .ref) (dss.map .list)))) σ H)) σ H D m1.up ⟨fun α2 σ2 H2 m2 ⟨e2,nl,q⟩=>?_,r.up.rt,fun _ _ _ _ z=>z.elim,fun _ _ _ _ z=>z.elim⟩
 have up:=m1.upold m2
 have md:M F α2 σ2 H2:=m2.down
 obtain⟨s,hs2⟩:=md.at' e2
 obtain⟨rfl,_,_⟩:=md.ok i _ s e2 hs2
 have gv:∀x∈l::ls,¬Ow F (α.set i (some (.pin l (ls.map .ref) (dss.map .list)))) σ x:=fun x hx=>m.gave hi h1 hx fun c z=>by cases z;exact id
 have k2:∀x∈l::ls,∀o,H x=some o→¬Ow F α2 σ2 x∧H2 x=some o:=fun x hx o q=>zf (up x o (zv (gv x hx) q))
 have ob:∀x∈l::ls,∃xs,H x=some (.lst xs):=fun x hx=>by
  rcases aP.mp hx with z|z
  ·exact⟨_,z▸h2⟩
  ·exact h3.obj x z
 have hs:∀{j:Nat} {b:A} {s:Option V},(α2.set i (some (.nst l ls dss)))[j]?=some (some b)→σ2[j]?=some s→(i=j∧b=.nst l ls dss∧s=some (.ref l))∨(i≠j∧α2[j]?=some (some b)):=fun {j b s} e1 q2=>by
  rcases zG e1 with ⟨rfl,z⟩|⟨hj,e1'⟩
  ·cases z;rw[hs2] at q2;cases q2;exact .inl ⟨rfl,rfl,rfl⟩
  ·exact .inr ⟨hj,e1'⟩
 have oww:∀{y:Addr},Ow F (α2.set i (some (.nst l ls dss))) σ2 y→Ow F α2 σ2 y∨y∈l::ls:=fun {y} w=>by
  rcases w with z|⟨j,b,s,e1,q2,f⟩
  ·exact .inl (.inl z)
  ·rcases hs e1 q2 with ⟨rfl,rfl,rfl⟩|⟨hj,e1'⟩
   ·exact .inr f
   ·exact .inl (.inr ⟨j,b,s,e1',q2,f⟩)
 have g0:zo (Gz F α σ H) (Gz F (α2.set i (some (.nst l ls dss))) σ2 H2):=fun x o q=>by
  obtain⟨z1,z2⟩:=zf q
  have nx:x∉l::ls:=fun w=>z1 (.inr ⟨i,_,_,hi,h1,w⟩)
  obtain⟨w1,w2⟩:=zf (up x o (zv (fun w=>z1 (by
   rcases w with w|⟨j,c,s,e1,q2,f⟩
   ·exact .inl w
   ·rcases zG e1 with ⟨rfl,z⟩|⟨hj,e1'⟩
    ·cases z;exact f.elim
    ·exact .inr ⟨j,c,s,e1',q2,f⟩)) z2))
  exact zv (fun w=>(oww w).elim w1 nx) w2
 have g2:∀x o,¬Ob o→Gz F α2 σ2 H2 x=some o→Gz F (α2.set i (some (.nst l ls dss))) σ2 H2 x=some o:=fun x o no q=>by
  obtain⟨z1,z2⟩:=zf q
  refine zv (fun w=>(oww w).elim z1 fun w=>?_) z2
  obtain⟨xs,q1⟩:=ob x w
  rw[(k2 x w _ q1).2] at z2;cases z2
  exact no trivial
 refine r.nx _ σ2 H2 ⟨by rw[zc3];exact md.len,fun j b s e1 q2=>?_,fun j j' b c s t x e1 e3 q1 q2 f1 f2=>?_,fun j r q e'=>?_,md.tp,md.keep,md.oex⟩ q
 ·rcases hs e1 q2 with ⟨rfl,rfl,rfl⟩|⟨hj,e1'⟩
  ·exact⟨rfl,(k2 l aJ _ h2).2,h3.same g0 fun a ha o q=>(k2 a (aK _ ha) o q).2,h4,h5⟩
  ·have no:=nl j b (fun z=>hj z.symm) e1'
   have so:=md.ok j b s e1' q2
   cases b with
   |dat d=>obtain⟨v,w1,w2⟩:=so;exact⟨v,w1,w2.noL g2 no⟩
   |ow c=>
    obtain⟨l',o,w1,w2,w3,w4⟩:=so
    cases c with
    |list ds=>
     obtain⟨xs,rfl,w5⟩:=w3.lst_inv
     exact⟨l',_,w1,w2,.lst (w5.noL g2 no),w4⟩
    |_=>exact no.elim
   |tape=>exact so
   |«at» _=>exact so
   |_=>exact no.elim
 ·have key:∀{j:Nat} {b:A} {s:Option V},α2[j]?=some (some b)→σ2[j]?=some s→foot s b x→x∈l::ls→False:=fun e1 q2 f w=>by
   obtain⟨xs,q1⟩:=ob x w
   exact (k2 x w _ q1).1 (.inr ⟨_,_,_,e1,q2,f⟩)
  rcases hs e1 q1 with ⟨rfl,rfl,rfl⟩|⟨hj,e1'⟩
  ·rcases hs e3 q2 with ⟨rfl,_⟩|⟨hj',e3'⟩
   ·rfl
   ·exact (key e3' q2 f2 f1).elim
  ·rcases hs e3 q2 with ⟨rfl,rfl,rfl⟩|⟨hj',e3'⟩
   ·exact (key e1' q1 f1 f2).elim
   ·exact md.dj j j' b c s t x e1' e3' q1 q2 f1 f2
 ·rcases zG e' with ⟨_,z⟩|⟨hj,e''⟩
  ·cases z
  ·exact (nl j _ (fun z=>hj z.symm) e'').elim
theorem gp (j:Nat){d:PyData}{P:Ev→Prop}(hj:α[j]?=some (some (.dat d)))(hd:∀(G:Hp) (v:V),AV G v d→∃l,v=.ref l)
  (h:∀l,SvS X (α.set j (some (.at l))) [st] {nx:=fun α'=>α'[j]?=some (some (.at l))∧P (α'.set j (some (.dat d))),rt:=E.rt}):SvS X α [st] {E with nx:=P}:=fun F σ H D m r=>by
 obtain⟨v,h1,h2⟩:=m.dat j d hj
 obtain⟨l,rfl⟩:=hd _ v h2
 obtain⟨g1,m1⟩:=m.put (i:=j) (b:=some (.at l)) (fun s c' x _ z f=>by cases z;exact f.elim) fun s c' _ e2 z=>by
  cases z
  rw[h1] at e2;cases e2
  rfl
 refine h l (F.up (Gz F (α.set j (some (.at l))) σ H)) σ H D m1.up ⟨fun α2 σ2 H2 m2 ⟨e2,q⟩=>?_,r.up.rt,fun _ _ _ _ z=>z.elim,fun _ _ _ _ z=>z.elim⟩
 have up:=m1.upold m2
 have md:M F α2 σ2 H2:=m2.down
 refine r.nx _ σ2 H2 (md.put (i:=j) (b:=some (.dat d)) (fun s c' x _ z f=>by cases z;exact f.elim) fun s c' _ q2 z=>?_).2 q
 cases z
 rw[md.atv j l e2] at q2;cases q2
 exact⟨.ref l,rfl,(h2.same (g1.trans up)).same (sy (b:=.dat d) fun _ _ f=>f)⟩
theorem iz {ds:List (PyData×PyData)}(G:Hp)(v:V)(h:AV G v (.dict ds)):∃l,v=.ref l:=by
 cases h<;>exact⟨_,rfl⟩
end
section
variable {X:Cx}{α:Ev}{e:Expr}{E:yk}{sts:List Stmt}
theorem M.outN {F:Fr}{σ:St}{H:Hp}{i:Nat}{l:Addr}{ls:List Addr}{dss:List (List PyData)}(m:M F α σ H)(hi:α[i]?=some (some (.nst l ls dss))):M F (α.set i (some (.own (dss.map .list)))) σ H:=by
 obtain⟨h1,h2,h3,h4,h5⟩:=m.nst hi
 refine (m.put (b:=some (.own (dss.map .list))) (fun s c' x e2 z f=>?_) fun s c' _ e2 z=>?_).2
 ·cases z
  rw[h1] at e2;cases e2
  cases f
  exact⟨_,hi,aJ⟩
 ·cases z
  rw[h1] at e2;cases e2
  have gv:∀a∈ls,¬Ow F (α.set i (some (.own (dss.map .list)))) σ a:=fun a ha=>m.gave hi h1 (aK _ ha) fun c z=>by
   cases z
   intro w
   cases w
   exact (zb8.mp h4).1 ha
  refine⟨l,_,rfl,h2,.lst (h3.avs (zm fun a o w e=>⟨fun z=>w ?_,e⟩) gv),h5 l aJ⟩
  rcases z with z|⟨j,c,s,e1,e2,f⟩
  ·exact .inl z
  ·rcases zG e1 with ⟨rfl,z⟩|⟨hj,e1'⟩
   ·cases z
    rw[h1] at e2;cases e2
    cases f
    exact .inr ⟨i,_,_,hi,h1,aJ⟩
   ·exact .inr ⟨j,c,s,e1',e2,f⟩
theorem hJ (i:Nat){l:Addr}{ls:List Addr}{dss:List (List PyData)}(hi:α[i]?=some (some (.nst l ls dss)))(h:SvS X (α.set i (some (.own (dss.map .list)))) sts E):SvS X α sts E:=fun F σ H D m r=>h F σ H D (m.outN hi) r
theorem mS {Y:Addr→Shared→Hp→List Addr→Cx}{pat:Pat}{elt:Expr}{α0:Ev}{ds:List PyData}{Q:List (List PyData)→Prop}(P:Nat→List (List PyData)→Prop)(h0:P 0 [])
  (hs:∀i d acc,ds[i]?=some d→P i acc→∃α1,pat.bind d α0=some α1∧∀C s2 H2 fp,EvL (Y C s2 H2 fp) α1 elt fun y=>noLs y=true∧P (i+1) (acc++[y]))
  (hd:∀acc,P ds.length acc→Q acc):tT Y pat elt α0 ds [] Q:=by
 have key:∀n i acc,n=ds.length-i→i≤ds.length→P i acc→tT Y pat elt α0 (ds.drop i) acc Q:=by
  intro n
  induction n with
  |zero=>
   intro i acc hn hi p
   have e:i=ds.length:=by omega
   subst e
   rw[zd3]
   exact hd acc p
  |succ n ih=>
   intro i acc hn hi p
   have hlt:i<ds.length:=by omega
   rw[zb0 hlt]
   obtain⟨α1,e,b⟩:=hs i ds[i] acc (aM hlt) p
   exact⟨α1,e,fun C s2 H2 fp=>(b C s2 H2 fp).imp fun y q=>⟨q.1,ih (i+1) _ (by omega) hlt q.2⟩⟩
 exact key _ 0 [] rfl (aS _) h0
end
end L2
set_option maxHeartbeats 4000000
namespace K13
open PySem PySem.Spec PyProof.Rows L2
def top (i:Nat):Stmt:=PySem.Challenge.pw_stayprice_k13_shown.main.body.getD i (.Pass ⟨0,0,0,0⟩)
abbrev tU :Stmt:=top 40
abbrev iB :Stmt:=top 41
def mi :Scope:=match zw tU with
 |[.Return (some (.List (.ListComp _ _ sc _::_) _)) _]=>sc
 |_=>zb tU
section
variable {P:Program}{w:World}{K:PySem.W.Frag}{mg:Str→Option Value}{base:Heap}
theorem dC :zl ["_law_script"] ["_law_script"] (zb tU):=⟨rfl,rfl,rfl,by decide +kernel,rfl,by decide +kernel,by decide +kernel⟩
theorem ia :zA ["_law_script"] (zb tU) ["_law_cell"] [none] mi:=⟨rfl,by decide +kernel,by decide +kernel,by decide +kernel,by decide +kernel,rfl,by decide +kernel⟩
theorem gY {f:Addr}{fd:FuncData}(F:Fun K "_law_tape" "_law_tape" tU f fd)(T:dO mg):zt P w K mg base CX0 1 f fd ["_law_script"] (ox K):=by
 refine F.ok dC (fun vs H Q E h=>?_) (fun cdv A outer s H vs Q E hr h=>?_)
 ·obtain⟨a,ns,rfl,_⟩:=h
  rfl
 ·obtain⟨a,ns,rfl,hS,hlen,k⟩:=h
  refine⟨_,zk (zp (sJ (za
   (ic rfl ia (xX (ur sD (pv 0) rj (rn zg)))
    (fun _ _ _ _=>zz (i:=0) ia.nd rfl (Or.inl rfl))
    (fun _ _ _ _=>oV (zO bj (zH qg (by rfl) T.abs boot_abs (za (pv 0) zh)) (yb ie zg zg) (zu _)))
    (fun _ _ _ _=>zH qg (by rfl) T.abs boot_abs (za (pv 0) zh)))
   (za (tL wX (by rfl) T.list boot_list (za (ur sD (pv 0) rj (rn zg)) zh))
   (za zg zh))))),?_⟩
  -- script[:63]
  refine⟨_,rfl,63,rfl,a,_,rfl,hS,fun l hl=>?_⟩
  obtain⟨ms,em,lm⟩:=kN ns none (some 63)
  rw[em]
  refine⟨l,rfl,⟨_,SqL.of ze⟩,fun acc hacc=>?_⟩
  have nal:acc≠l:=fun z=>by rw[z,ze] at hacc;cases hacc
  have hacc':H acc=none:=by rw[zc nal] at hacc;exact hacc
  have s0:zo H (upd H l (.lst (ms.map V.int))):=fun b o e=>by rw[zc (zd e hl)];exact e
  refine lI (K:=K) (a:=l) (xs:=ms.map V.int) (fun i ys τ H2=>∃(bs:List Int) (v:Option V),ys=bs.map V.int∧bs.length≤i∧τ=[v]∧H2=upd (upd H l (.lst (ms.map V.int))) acc (.lst (bs.map V.int)))
   ⟨[],none,rfl,aN _,rfl,rfl⟩ ?_ ?_ ?_
  ·rintro i ys τ H2 _ ⟨bs,v,rfl,_,rfl,rfl⟩
   exact SqL.of (by rw[zc nal.symm,ze])
  ·rintro i x ys τ H2 hx ⟨bs,v,rfl,hb,rfl,rfl⟩
   have hi:i<ms.length:=by
    have:=(aL.mp hx).1
    rwa [aI] at this
   obtain⟨z,rfl⟩:∃z,x=V.int z:=by
    rw[za6] at hx
    cases e:ms[i]? with
    |none=>rw[e] at hx;cases hx
    |some z=>rw[e] at hx;exact⟨z,(za3 hx).symm⟩
   refine⟨_,rfl,z,rfl,_,_,rfl,rfl,⟨by decide,by decide,by decide⟩,_,_,rfl,rfl,_,rfl,?_⟩
   refine yn (fun _=>?_) (fun _=>?_)
   ·refine⟨_,rfl,z,rfl,ze,?_,bs++[if z<0 then -z else z],_,?_,?_,rfl,?_⟩
    ·rw[aI];exact zU (by omega)
    ·rw[ze8];rfl
    ·rw[aX];simp;omega
    ·rw[ud,ze8];rfl
   ·exact⟨bs,_,rfl,by omega,rfl,rfl⟩
  ·rintro ys τ H2 ⟨bs,v,rfl,hb,rfl,rfl⟩
   rw[aI] at hb
   -- list(script[:63])
   have s1:zo H (upd (upd H l (.lst (ms.map V.int))) acc (.lst (bs.map V.int))):=fun b o e=>by rw[zc (zd e hacc')];exact s0 b o e
   refine⟨_,rfl,63,rfl,a,_,rfl,s1.seq hS,fun l2 hl2=>?_⟩
   rw[em]
   refine⟨l2,_,rfl,.inl (SqL.of ze),fun c hc=>?_⟩
   refine⟨(by show 3≤sizeLine;decide),fun t ht=>?_⟩
   have n1:l2≠acc:=fun z=>by rw[z,ze] at hl2;cases hl2
   have n2:c≠l2:=fun z=>by rw[z,ze] at hc;cases hc
   have hc2:upd (upd H l (.lst (ms.map V.int))) acc (.lst (bs.map V.int)) c=none:=by rw[zc n2] at hc;exact hc
   have n3:c≠acc:=fun z=>by rw[z,ze] at hc2;cases hc2
   have n4:t≠c:=fun z=>by rw[z,ze] at ht;cases ht
   have ht2:upd (upd (upd H l (.lst (ms.map V.int))) acc (.lst (bs.map V.int))) l2 (.lst (ms.map V.int)) t=none:=by rw[zc n4] at ht;exact ht
   have n5:t≠l2:=fun z=>by rw[z,ze] at ht2;cases ht2
   have ht3:upd (upd H l (.lst (ms.map V.int))) acc (.lst (bs.map V.int)) t=none:=by rw[zc n5] at ht2;exact ht2
   have n6:t≠acc:=fun z=>by rw[z,ze] at ht3;cases ht3
   refine k t acc c _ ⟨0,bs,ms,n3.symm,ze,?_,?_,by omega,by omega⟩ (s1.free ht3) hacc' (s1.free hc2) fun b o e=>?_
   ·rw[zc n6.symm,zc n3.symm,zc n1.symm,ze]
   ·rw[zc n4.symm,ze]
   ·have e1:=s1 b o e
    rw[zc (zd e1 ht3),zc (zd e1 hc2),zc (zd e1 hl2)]
    exact e1
theorem vv :zl ["_law_tape_here","_law_many","_law_found","_law_cell","_law_number"] ["_law_tape_here","_law_many"] (zb iB):=⟨rfl,rfl,rfl,by decide +kernel,rfl,by decide +kernel,by decide +kernel⟩
theorem gk {f:Addr}{fd:FuncData}(F:Fun K "_law_draw" "_law_draw" iB f fd)(T:dO mg):zt P w K mg base CX0 1 f fd ["_law_tape_here","_law_many"] lZ:=by
 refine F.ok vv (fun vs H Q E h=>?_) (fun cdv A outer s H vs Q E hr h=>?_)
 ·obtain⟨t,b,c,many,rfl,_⟩:=h
  rfl
 ·obtain⟨t,b,c,many,rfl,⟨n,bs,cs,nbc,ht,hb,hc,lb,lc⟩,hm0,hm1,k⟩:=h
  have ntb:t≠b:=uB ht hb (nu bs)
  have ntc:t≠c:=uB ht hc (nu cs)
  have hlog:many.natAbs.log2<9000:=log2_small hm0 hm1
  -- tape[2]=tape[2]+1
  refine zy (fun σ H1=>σ=[some (.ref t),some (.int many),none,none,none]∧H1=upd H t (.lst [.ref b,.ref c,.int (n+1)]))
   ⟨_,oz (yb xP (zq zJ (pv 0) zg (fun _ _=>rfl)) zg) (pW (pv 0) zg set_list),?_⟩ ?_
  ·exact⟨_,rfl,t,_,2,_,rfl,rfl,SqL.of ht,rfl,_,_,rfl,rfl,_,rfl,t,_,2,2,rfl,rfl,ht,rfl,rfl,rfl⟩
  rintro σ H1 ⟨rfl,hH1⟩
  have ht1:H1 t=some (.lst [.ref b,.ref c,.int (n+1)]):=by rw[hH1];exact ze
  have hb1:H1 b=some (.lst (bs.map V.int)):=by rw[hH1,zc ntb.symm];exact hb
  have hc1:H1 c=some (.lst (cs.map V.int)):=by rw[hH1,zc ntc.symm];exact hc
  have off1:sZ t b H H1:=fun a h1 h2=>by rw[hH1,zc h1]
  clear hH1
  -- while len(tape[0]) > 0 and tape[0][0]==0:tape[0].pop(0)
  refine zy (fun σ H2=>∃bs2:List Int,bs2.length≤63∧σ=[some (.ref t),some (.int many),none,none,none]∧H2 t=some (.lst [.ref b,.ref c,.int (n+1)])∧H2 b=some (.lst (bs2.map V.int))∧H2 c=some (.lst (cs.map V.int))∧sZ t b H H2)
   ⟨_,iy ze0 (oI (zO rY (zH yj (by rfl) T.len zf4 (za (zq zJ (pv 0) zg (fun _ _=>rfl)) zh)) zg (zu _))
     (sq (zO xO (zq zJ (zq zJ (pv 0) zg (fun _ _=>rfl)) zg (fun _ _=>rfl)) zg (zu _)))).pt
    (zk (xE (uX zc4 PySem.F.slot_list_pop PySem.F.type_list_pop lV (zq zJ (pv 0) zg (fun _ _=>rfl)) (za zg zh)))),?_⟩ ?_
  ·refine⟨fun m σ H2=>∃bs2:List Int,m=bs2.length∧bs2.length≤63∧σ=[some (.ref t),some (.int many),none,none,none]∧H2 t=some (.lst [.ref b,.ref c,.int (n+1)])∧H2 b=some (.lst (bs2.map V.int))∧H2 c=some (.lst (cs.map V.int))∧sZ t b H H2,
    ⟨_,bs,rfl,lb,rfl,ht1,hb1,hc1,off1⟩,?_⟩
   rintro m σ H2 ⟨bs2,rfl,lb2,rfl,ht2,hb2,hc2,off2⟩
   refine⟨_,rfl,t,_,0,_,rfl,rfl,SqL.of ht2,rfl,b,_,rfl,.inl (SqL.of hb2),_,_,rfl,rfl,_,rfl,?_⟩
   refine yn (fun _=>?_) (fun _=>?_)
   ·cases bs2 with
    |nil=>rename_i z;simp at z
    |cons z r=>
     refine⟨_,rfl,t,_,0,_,rfl,rfl,SqL.of ht2,rfl,b,_,0,_,rfl,rfl,SqL.of hb2,at0,rfl,_,rfl,?_⟩
     refine yn (fun _=>?_) (fun _=>?_)
     ·refine⟨_,fun σ' H' h'=>h',_,rfl,t,_,0,_,rfl,rfl,SqL.of ht2,rfl,.inl ⟨rfl,_,SqL.of hb2⟩,b,_,0,0,_,rfl,rfl,hb2,by decide,by decide,az,rfl,r.length,?_,r,rfl,?_,rfl,?_,ze,?_,?_⟩
      ·simp
      ·simp at lb2;omega
      ·rw[zc ntb];exact ht2
      ·rw[zc nbc.symm];exact hc2
      ·exact off2.trans fun a h1 h2=>by rw[zc h2]
     ·exact⟨_,lb2,rfl,ht2,hb2,hc2,off2⟩
   ·exact⟨_,lb2,rfl,ht2,hb2,hc2,off2⟩
  rintro σ H2 ⟨bs2,lb2,rfl,ht2,hb2,hc2,off2⟩
  -- if len(tape[0]) > 0:..
  refine zy (fun σ H3=>σ=[some (.ref t),some (.int many),none,none,none]∧H2=H3)
   ⟨_,yL (zO rY (zH yj (by rfl) T.len zf4 (za (zq zJ (pv 0) zg (fun _ _=>rfl)) zh)) zg (zu _))
    (zE (yH (i:=2) vv.nd rfl (Or.inl rfl) (yb wF (zq zJ (zq zJ (pv 0) zg (fun _ _=>rfl)) zg (fun _ _=>rfl)) (pv 1)))
    (zE (oz (yb ui (zq zJ (zq zJ (pv 0) zg (fun _ _=>rfl)) zg (fun _ _=>rfl)) (pv 1)) (pW (zq zJ (pv 0) zg (fun _ _=>rfl)) zg set_list))
    (zk (zp (pv 2))))) yd,?_⟩ ?_
  ·refine⟨_,rfl,t,_,0,_,rfl,rfl,SqL.of ht2,rfl,b,_,rfl,.inl (SqL.of hb2),_,_,rfl,rfl,_,rfl,?_⟩
   refine yn (fun _=>?_) (fun _=>?_)
   ·cases bs2 with
    |nil=>rename_i z;simp at z
    |cons z r=>
     refine⟨_,rfl,t,_,0,_,rfl,rfl,SqL.of ht2,rfl,b,_,0,_,rfl,rfl,SqL.of hb2,at0,_,rfl,_,_,rfl,rfl,hm0,?_⟩
     refine⟨_,rfl,t,_,0,_,rfl,rfl,SqL.of ht2,rfl,b,_,0,_,rfl,rfl,SqL.of hb2,at0,_,rfl,_,_,rfl,rfl,⟨hm0,hlog⟩,?_⟩
     refine⟨_,rfl,t,_,0,_,rfl,rfl,SqL.of ht2,rfl,b,_,0,0,rfl,rfl,hb2,ix0,_,rfl,?_⟩
     refine k _ _ (zh0 _ (Int.ne_of_gt hm0)) (zg3 _ hm0) ⟨n+1,(z / many)::r,cs,nbc,?_,ze,?_,?_,lc⟩ ?_
     ·rw[zc ntb];exact ht2
     ·rw[zc nbc.symm];exact hc2
     ·simpa using lb2
     ·exact off2.trans fun a h1 h2=>by rw[zc h2]
   ·exact⟨rfl,rfl⟩
  rintro σ H3 ⟨rfl,rfl⟩
  -- cell=5;if len(tape[1]) > 0:..
  refine zy (fun σ H3=>σ=[some (.ref t),some (.int many),none,some (.int 5),none]∧H2=H3) ⟨_,yH (i:=3) vv.nd rfl (Or.inl rfl) zg,rfl,rfl⟩ ?_
  rintro σ H3 ⟨rfl,rfl⟩
  refine zy (fun σ H3=>∃z:Int,σ=[some (.ref t),some (.int many),none,some (.int z),none]∧H2=H3)
   ⟨_,yL (zO rY (zH yj (by rfl) T.len zf4 (za (zq zJ (pv 0) zg (fun _ _=>rfl)) zh)) zg (zu _))
    (zk (yH (i:=3) vv.nd rfl (Or.inl rfl) (zq zJ (zq zJ (pv 0) zg (fun _ _=>rfl)) (yb wF (zq zJ (pv 0) zg (fun _ _=>rfl)) (zH yj (by rfl) T.len zf4 (za (zq zJ (pv 0) zg (fun _ _=>rfl)) zh))) (fun _ _=>rfl)))) yd,?_⟩ ?_
  ·refine⟨_,rfl,t,_,1,_,rfl,rfl,SqL.of ht2,rfl,c,_,rfl,.inl (SqL.of hc2),_,_,rfl,rfl,_,rfl,?_⟩
   refine yn (fun hpos=>?_) (fun _=>?_)
   ·have hpos':0<cs.length:=by simpa using hpos
    have hp:(0:Int)<((cs.map V.int).length:Int):=by rw[aI];omega
    have h1:=zh0 (n+1) (Int.ne_of_gt hp)
    have h2:=zg3 (n+1) hp
    obtain⟨j,hj⟩:=Int.eq_ofNat_of_zero_le h1
    have hjl:j<cs.length:=by rw[hj,aI] at h2;omega
    refine⟨_,rfl,t,_,1,_,rfl,rfl,SqL.of ht2,rfl,_,rfl,t,_,2,_,rfl,rfl,SqL.of ht2,rfl,_,rfl,t,_,1,_,rfl,rfl,SqL.of ht2,rfl,c,_,rfl,.inl (SqL.of hc2),_,_,rfl,rfl,hp,c,_,_,V.int cs[j],rfl,rfl,SqL.of hc2,?_,cs[j],rfl,rfl⟩
    rw[hj]
    exact xk (by rw[za6,aM hjl];rfl)
   ·exact⟨5,rfl,rfl⟩
  rintro σ H3 ⟨z,rfl,rfl⟩
  -- the numbers
  refine zy (fun σ H3=>∃y:Int,(0≤y∧y<2147483647)∧σ=[some (.ref t),some (.int many),none,some (.int z),some (.int y)]∧H2=H3)
   ⟨_,yH (i:=4) vv.nd rfl (Or.inl rfl) (yb wF (yb um (yb xP (yb xP (yb wF (pv 3) zg) (yb um zg (zq zJ (pv 0) zg (fun _ _=>rfl)))) zg) zg) zg),?_⟩ ?_
  ·exact⟨_,rfl,_,_,rfl,rfl,(by show (0:Int)<999983;decide),_,rfl,t,_,2,_,rfl,rfl,SqL.of ht2,rfl,_,_,rfl,rfl,.inl ⟨by decide,by decide⟩,_,_,rfl,rfl,_,_,rfl,rfl,_,_,rfl,rfl,.inr ⟨by decide,by decide⟩,_,_,rfl,rfl,(by show (0:Int)<2147483647;decide),
    _,⟨zh0 _ (by decide),zg3 _ (by decide)⟩,rfl,rfl⟩
  rintro σ H3 ⟨y,⟨hy0,hy1⟩,rfl,rfl⟩
  refine zy (fun σ H3=>∃y:Int,(0≤y∧y<2147483647)∧σ=[some (.ref t),some (.int many),none,some (.int z),some (.int y)]∧H2=H3)
   ⟨_,yH (i:=4) vv.nd rfl (Or.inl rfl) (yb wF (yb xP (yb xP (yb um (pv 4) (pv 4)) (yb um zg (zq zJ (pv 0) zg (fun _ _=>rfl)))) zg) zg),?_⟩ ?_
  ·refine⟨_,rfl,_,rfl,_,_,rfl,rfl,.inl ⟨by omega,by omega⟩,_,rfl,t,_,2,_,rfl,rfl,SqL.of ht2,rfl,_,_,rfl,rfl,.inl ⟨by decide,by decide⟩,_,_,rfl,rfl,_,_,rfl,rfl,_,_,rfl,rfl,(by show (0:Int)<2147483629;decide),
    _,⟨zh0 _ (by decide),Int.lt_trans (zg3 _ (by decide)) (by decide)⟩,rfl,rfl⟩
  rintro σ H3 ⟨y2,⟨hy0,hy1⟩,rfl,rfl⟩
  refine⟨_,zk (zp (yb wF (yb ui (yb wF (yb um (yb ui (pv 4) zg) zg) zg) zg) (pv 1))),?_⟩
  refine⟨_,rfl,_,_,rfl,rfl,⟨by decide,by decide +kernel⟩,_,_,rfl,rfl,.inr ⟨by decide,by decide⟩,_,_,rfl,rfl,(by show (0:Int)<2147483587;decide),_,_,rfl,rfl,⟨by decide,by decide +kernel⟩,_,rfl,_,_,rfl,rfl,hm0,?_⟩
  exact k _ _ (zh0 _ (Int.ne_of_gt hm0)) (zg3 _ hm0) ⟨n+1,bs2,cs,nbc,ht2,hb2,hc2,lb2,lc⟩ off2
end
abbrev sL :Stmt:=top 4
abbrev sO :Stmt:=top 5
abbrev ku :Stmt:=top 6
abbrev eF :Stmt:=top 7
abbrev kZ :Stmt:=top 8
abbrev uw :Stmt:=top 9
structure qz (mg:Str→Option Value)(fW fI fP fD fPD:Addr):Prop where
 isi:mg "isinstance"=none
 int:mg "int"=none
 bool:mg "bool"=none
 tuple:mg "tuple"=none
 len:mg "len"=none
 last:∃t,mg "LAST_DAY"=some (.int 1000000 t)
 most:∃t,mg "MOST_NIGHTS"=some (.int 14 t)
 whole:mg "is_whole"=some (.ref fW)
 within:mg "is_whole_within"=some (.ref fI)
 pair:mg "is_pair"=some (.ref fP)
 day:mg "is_day"=some (.ref fD)
 days:mg "is_pair_of_days"=some (.ref fPD)
section
variable {P:Program}{w:World}{K:PySem.W.Frag}{mg:Str→Option Value}{base:Heap}{fW fI fP fD fPD:Addr}
theorem gA :zl ["thing"] ["thing"] (zb sL):=⟨rfl,rfl,rfl,by decide +kernel,rfl,by decide +kernel,by decide +kernel⟩
theorem jx {f:Addr}{fd:FuncData}(F:Fun K "is_whole" "is_whole" sL f fd)(T:qz mg fW fI fP fD fPD):zt P w K mg base CX0 1 f fd ["thing"] (yu oi):=by
 refine F.ok gA (fun vs H Q E h=>?_) (fun cdv A outer s H vs Q E hr h=>?_)
 ·obtain⟨x,d,rfl,_⟩:=h
  rfl
 ·obtain⟨x,d,rfl,hd,q⟩:=h
  refine⟨_,zk (zp (yC (zH yS (by rfl) T.isi zg1 (za (pv 0) (za (wb (v:=.ty "int") (by rfl) T.int boot_int rfl) zh)))
   (yV (dH (zH yS (by rfl) T.isi zg1 (za (pv 0) (za (wb (v:=.ty "bool") (by rfl) T.bool boot_bool rfl) zh))))))),?_⟩
  rw[nW] at q
  refine⟨_,rfl,x,"int",d,_,rfl,hd,gB d,_,rfl,?_⟩
  refine yn (fun h=>?_) (fun h=>?_)
  ·rw[h,zb3] at q
   exact⟨_,rfl,x,"bool",d,_,rfl,hd,uF d,_,rfl,q⟩
  ·rw[za9.mpr h,ze2] at q
   exact q
theorem lY :zl ["thing","lowest","highest"] ["thing","lowest","highest"] (zb sO):=⟨rfl,rfl,rfl,by decide +kernel,rfl,by decide +kernel,by decide +kernel⟩
theorem mW {f:Addr}{fd fdW:FuncData}(F:Fun K "is_whole_within" "is_whole_within" sO f fd)(T:qz mg fW fI fP fD fPD)(FW:Fun K "is_whole" "is_whole" sL fW fdW)(bW:Binds K fdW ["thing"] []):
  zt P w K mg base CX0 2 f fd ["thing","lowest","highest"] xV:=by
 have GW:zt P w K mg base CX0 1 fW fdW ["thing"] (yu oi):=jx FW T
 refine F.ok lY (fun vs H Q E h=>?_) (fun cdv A outer s H vs Q E hr h=>?_)
 ·obtain⟨x,d,lo,hi,rfl,_⟩:=h
  rfl
 ·obtain⟨x,d,lo,hi,rfl,hd,q⟩:=h
  refine⟨_,zk (zp (yC (zF GW hr (by rfl) T.whole FW.kp bW .nil zN (za (pv 0) zh)) (yV (jS tP tP (pv 1) (pv 0) (pv 2))))),?_⟩
  refine⟨_,rfl,x,d,rfl,hd,_,rfl,?_⟩
  cases hd with
  |int i=>
   have q':Q (.bl (decide (lo≤i)&&decide (i≤hi))) H:=q
   refine wx ⟨_,rfl,_,rfl,_,_,rfl,rfl,_,rfl,?_⟩
   refine yn (fun h=>?_) (fun h=>?_)
   ·rw[h,zb3] at q'
    exact⟨_,rfl,_,_,rfl,rfl,q'⟩
   ·rw[za9.mpr h,ze2] at q'
    exact q'
  |_=>exact wH q
theorem dZ :zl ["thing"] ["thing"] (zb ku):=⟨rfl,rfl,rfl,by decide +kernel,rfl,by decide +kernel,by decide +kernel⟩
theorem gN {f:Addr}{fd:FuncData}(F:Fun K "is_pair" "is_pair" ku f fd)(T:qz mg fW fI fP fD fPD):zt P w K mg base CX0 1 f fd ["thing"] (yu pairD):=by
 refine F.ok dZ (fun vs H Q E h=>?_) (fun cdv A outer s H vs Q E hr h=>?_)
 ·obtain⟨x,d,rfl,_⟩:=h
  rfl
 ·obtain⟨x,d,rfl,hd,q⟩:=h
  refine⟨_,zk (zp (yC (zH yS (by rfl) T.isi zg1 (za (pv 0) (za (wb (v:=.ty "tuple") (by rfl) T.tuple boot_tuple rfl) zh)))
   (yV (xi xO (zH yj (by rfl) T.len zf4 (za (pv 0) zh)) zg (zu _))))),?_⟩
  refine⟨_,rfl,x,"tuple",d,_,rfl,hd,va d,_,rfl,?_⟩
  cases hd with
  |@tup a xs ds e hs=>
   refine wx ⟨_,rfl,a,_,rfl,.inr (SqT.of e),rfl,?_⟩
   rw[fg,hs.length]
   exact q
  |_=>exact wH q
theorem cV :zl ["thing"] ["thing"] (zb eF):=⟨rfl,rfl,rfl,by decide +kernel,rfl,by decide +kernel,by decide +kernel⟩
theorem cj {f:Addr}{fd fdI:FuncData}(F:Fun K "is_day" "is_day" eF f fd)(T:qz mg fW fI fP fD fPD)(GI:zt P w K mg base CX0 2 fI fdI ["thing","lowest","highest"] xV)(kI:PySem.W.keepIn K (.ref fI)=true)(bI:Binds K fdI ["thing","lowest","highest"] []):
  zt P w K mg base CX0 3 f fd ["thing"] (yu wW):=by
 obtain⟨tl,hl⟩:=T.last
 refine F.ok cV (fun vs H Q E h=>?_) (fun cdv A outer s H vs Q E hr h=>?_)
 ·obtain⟨x,d,rfl,_⟩:=h
  rfl
 ·obtain⟨x,d,rfl,hd,q⟩:=h
  refine⟨_,zk (zp (zF GI hr (by rfl) T.within kI bI .nil zN (za (pv 0) (za zg (za (wZ (v:=.int 1000000) (by rfl) hl ⟨tl,rfl⟩) zh))))),?_⟩
  exact⟨_,rfl,x,d,_,_,rfl,hd,q⟩
theorem cv :zl ["thing"] ["thing"] (zb kZ):=⟨rfl,rfl,rfl,by decide +kernel,rfl,by decide +kernel,by decide +kernel⟩
theorem iM {f:Addr}{fd fdP fdD:FuncData}(F:Fun K "is_pair_of_days" "is_pair_of_days" kZ f fd)(T:qz mg fW fI fP fD fPD)(GP:zt P w K mg base CX0 1 fP fdP ["thing"] (yu pairD))(kP:PySem.W.keepIn K (.ref fP)=true)(bP:Binds K fdP ["thing"] [])
  (GD:zt P w K mg base CX0 3 fD fdD ["thing"] (yu wW)) (kD:PySem.W.keepIn K (.ref fD)=true) (bD:Binds K fdD ["thing"] []):zt P w K mg base CX0 4 f fd ["thing"] (yu uM):=by
 refine F.ok cv (fun vs H Q E h=>?_) (fun cdv A outer s H vs Q E hr h=>?_)
 ·obtain⟨x,d,rfl,_⟩:=h
  rfl
 ·obtain⟨x,d,rfl,hd,q⟩:=h
  have hr1:zR 1 _:=hr.mono (by decide)
  refine⟨_,zk (zp (yC (zF GP hr1 (by rfl) T.pair kP bP .nil zN (za (pv 0) zh))
   (yC (zF GD hr (by rfl) T.day kD bD .nil zN (za (zq zB (pv 0) zg (fun _ _=>rfl)) zh))
   (yV (zF GD hr (by rfl) T.day kD bD .nil zN (za (zq zB (pv 0) zg (fun _ _=>rfl)) zh)))))),?_⟩
  refine⟨_,rfl,x,d,rfl,hd,_,rfl,?_⟩
  refine yn (fun h=>?_) (fun h=>?_)
  ·obtain⟨a,b,rfl⟩:=vL h
   cases hd with
   |tup e hs=>
    cases hs with
    |cons ha hs=>
     cases hs with
     |cons hb hs=>
      cases hs
      have q':Q (.bl (wW a&&wW b)) H:=q
      refine⟨_,rfl,_,_,0,_,rfl,rfl,SqT.of e,rfl,_,_,rfl,ha,_,rfl,?_⟩
      refine yn (fun h=>?_) (fun h=>?_)
      ·rw[h,zb3] at q'
       exact⟨_,rfl,_,_,1,_,rfl,rfl,SqT.of e,rfl,_,_,rfl,hb,q'⟩
      ·rw[za9.mpr h,ze2] at q'
       exact q'
  ·have e:uM d=false:=by
    unfold uM
    split
    ·exact absurd rfl h
    ·rfl
   rw[e] at q
   exact q
theorem mm :zl ["thing"] ["thing"] (zb uw):=⟨rfl,rfl,rfl,by decide +kernel,rfl,by decide +kernel,by decide +kernel⟩
theorem pS {f:Addr}{fd fdP:FuncData}(F:Fun K "is_stretch" "is_stretch" uw f fd)(T:qz mg fW fI fP fD fPD)(G:zt P w K mg base CX0 4 fPD fdP ["thing"] (yu uM))(kP:PySem.W.keepIn K (.ref fPD)=true)(bP:Binds K fdP ["thing"] []):
  zt P w K mg base CX0 5 f fd ["thing"] (yu yh):=by
 refine F.ok mm (fun vs H Q E h=>?_) (fun cdv A outer s H vs Q E hr h=>?_)
 ·obtain⟨x,d,rfl,_⟩:=h
  rfl
 ·obtain⟨x,d,rfl,hd,q⟩:=h
  refine⟨_,zk (zp (yC (zF G hr (by rfl) T.days kP bP .nil zN (za (pv 0) zh))
   (yV (xi tP (zq zB (pv 0) zg (fun _ _=>rfl)) (zq zB (pv 0) zg (fun _ _=>rfl)) (zu _))))),?_⟩
  refine⟨_,rfl,x,d,rfl,hd,_,rfl,?_⟩
  refine yn (fun h=>?_) (fun h=>?_)
  ·obtain⟨a,b,rfl,ef⟩:=pJ h
   unfold yh at q
   rw[ef] at q
   have q':Q (.bl (decide (0≤b-a))) H:=q
   have eq1:decide (0≤b-a)=decide (a≤b):=by
    rw[decide_eq_decide]
    omega
   rw[eq1] at q'
   cases hd with
   |tup e hs=>
    cases hs with
    |cons ha hs=>
     cases ha
     cases hs with
     |cons hb hs=>
      cases hb
      cases hs
      exact⟨_,rfl,_,_,0,_,rfl,rfl,SqT.of e,rfl,_,rfl,_,_,1,_,rfl,rfl,SqT.of e,rfl,_,_,rfl,rfl,q'⟩
  ·rw[uk] at h
   unfold yh at q
   cases ef:tq d with
   |some k=>rw[ef] at h;exact absurd rfl h
   |none=>
    rw[ef] at q
    exact q
end
abbrev nJ :Stmt:=inClass (top 19) 0
abbrev jj :Stmt:=inClass (top 19) 2
abbrev sW :Stmt:=inClass (top 20) 0
abbrev pF :Stmt:=inClass (top 21) 0
abbrev eh :Stmt:=inClass (top 22) 0
abbrev rz :Stmt:=inClass (top 23) 0
abbrev pQ :Stmt:=inClass (top 24) 0
abbrev qW :Stmt:=inClass (top 25) 0
abbrev jd :Stmt:=inClass (top 26) 0
abbrev pD :Stmt:=top 27
abbrev rC :Stmt:=top 28
abbrev pK :Stmt:=top 29
abbrev sE :Stmt:=top 30
abbrev iw :Stmt:=top 31
abbrev sY :Stmt:=top 32
structure qY (mg:Str→Option Value)(fW fI fP fD fPD fS fC fDl fWo fR fM:Addr)(cs:Cs):Prop where
 d:qz mg fW fI fP fD fPD
 coinsMost:∃t,mg "MOST_COINS"=some (.int 1000000000000 t)
 stretch:mg "is_stretch"=some (.ref fS)
 coins:mg "is_coins"=some (.ref fC)
 deal:mg "is_deal"=some (.ref fDl)
 worth:mg "is_worth"=some (.ref fWo)
 rule:mg "is_rule"=some (.ref fR)
 made:mg "made"=some (.ref fM)
 cPrice:mg "Price"=some (.ref cs.price)
 cCome:mg "Come"=some (.ref cs.come)
 cGo:mg "Go"=some (.ref cs.go)
 cLeast:mg "Least"=some (.ref cs.least)
 cMost:mg "Most"=some (.ref cs.most)
 cDeal:mg "Deal"=some (.ref cs.deal)
 cFee:mg "Fee"=some (.ref cs.fee)
section
variable {P:Program}{w:World}{K:PySem.W.Frag}{mg:Str→Option Value}{base:Heap}{fW fI fP fD fPD fS fC fDl fWo fR fM:Addr}{cs:Cs}
theorem eI :zl ["self","first","last","worth"] ["self","first","last","worth"] (zb nJ):=⟨rfl,rfl,rfl,by decide +kernel,rfl,by decide +kernel,by decide +kernel⟩
theorem xy {f C fT fE fWd:Addr}{fd:FuncData}(F:Fun K "__init__" "Rule.__init__" nJ f fd)(R:xG K C f fT fE fWd):zt P w K mg base CX0 1 f fd ["self","first","last","worth"] (eD C):=by
 refine F.ok eI (fun vs H Q E h=>?_) (fun cdv A outer s H vs Q E hr h=>?_)
 ·obtain⟨p,dx,x,y,z,rfl,_⟩:=h
  rfl
 ·obtain⟨p,dx,x,y,z,rfl,hp,q⟩:=h
  refine⟨_,zE (sV (pv 0) (pv 1) rfl) (zE (sV (pv 0) (pv 2) rfl) (zk (sV (pv 0) (pv 3) rfl))),?_⟩
  refine⟨_,rfl,_,rfl,p,C,dx,[],rfl,hp,R.cl,R.nf,(by show 0<1000;decide),?_⟩
  refine⟨_,rfl,_,rfl,p,C,dx,_,rfl,ze,R.cl,R.nl,(by show 1<1000;decide),?_⟩
  refine⟨_,rfl,_,rfl,p,C,dx,yY "last" y (yY "first" x []),rfl,ze,R.cl,R.nw,?_,?_⟩
  ·show (if ("first":Str)="last" then _ else _:List (Str×V)).length<1000
   rw[if_neg (fun e=>jw e.symm)]
   show 2<1000
   decide
  ·rw[ud,ud]
   exact q
theorem js :zl ["self"] ["self"] (zb sW):=⟨rfl,rfl,rfl,by decide +kernel,rfl,by decide +kernel,by decide +kernel⟩
theorem hE :zl ["self"] ["self"] (zb pF):=⟨rfl,rfl,rfl,by decide +kernel,rfl,by decide +kernel,by decide +kernel⟩
theorem cQ :zl ["self"] ["self"] (zb eh):=⟨rfl,rfl,rfl,by decide +kernel,rfl,by decide +kernel,by decide +kernel⟩
theorem kq :zl ["self"] ["self"] (zb rz):=⟨rfl,rfl,rfl,by decide +kernel,rfl,by decide +kernel,by decide +kernel⟩
theorem hR :zl ["self"] ["self"] (zb pQ):=⟨rfl,rfl,rfl,by decide +kernel,rfl,by decide +kernel,by decide +kernel⟩
theorem fe :zl ["self"] ["self"] (zb qW):=⟨rfl,rfl,rfl,by decide +kernel,rfl,by decide +kernel,by decide +kernel⟩
theorem dF :zl ["self"] ["self"] (zb jd):=⟨rfl,rfl,rfl,by decide +kernel,rfl,by decide +kernel,by decide +kernel⟩
theorem mq {f:Addr}{fd:FuncData}(F:Fun K "word" "Price.word" sW f fd):zt P w K mg base CX0 1 f fd ["self"] (xS "price"):=by
 refine F.ok js (fun vs H Q E h=>?_) (fun cdv A outer s H vs Q E hr h=>?_)
 ·obtain⟨p,rfl,_⟩:=h;rfl
 ·obtain⟨p,rfl,q⟩:=h;exact⟨_,zk (zp ya),q⟩
theorem lW {f:Addr}{fd:FuncData}(F:Fun K "word" "Come.word" pF f fd):zt P w K mg base CX0 1 f fd ["self"] (xS "come"):=by
 refine F.ok hE (fun vs H Q E h=>?_) (fun cdv A outer s H vs Q E hr h=>?_)
 ·obtain⟨p,rfl,_⟩:=h;rfl
 ·obtain⟨p,rfl,q⟩:=h;exact⟨_,zk (zp ya),q⟩
theorem dg {f:Addr}{fd:FuncData}(F:Fun K "word" "Go.word" eh f fd):zt P w K mg base CX0 1 f fd ["self"] (xS "go"):=by
 refine F.ok cQ (fun vs H Q E h=>?_) (fun cdv A outer s H vs Q E hr h=>?_)
 ·obtain⟨p,rfl,_⟩:=h;rfl
 ·obtain⟨p,rfl,q⟩:=h;exact⟨_,zk (zp ya),q⟩
theorem mG {f:Addr}{fd:FuncData}(F:Fun K "word" "Least.word" rz f fd):zt P w K mg base CX0 1 f fd ["self"] (xS "least"):=by
 refine F.ok kq (fun vs H Q E h=>?_) (fun cdv A outer s H vs Q E hr h=>?_)
 ·obtain⟨p,rfl,_⟩:=h;rfl
 ·obtain⟨p,rfl,q⟩:=h;exact⟨_,zk (zp ya),q⟩
theorem iD {f:Addr}{fd:FuncData}(F:Fun K "word" "Most.word" pQ f fd):zt P w K mg base CX0 1 f fd ["self"] (xS "most"):=by
 refine F.ok hR (fun vs H Q E h=>?_) (fun cdv A outer s H vs Q E hr h=>?_)
 ·obtain⟨p,rfl,_⟩:=h;rfl
 ·obtain⟨p,rfl,q⟩:=h;exact⟨_,zk (zp ya),q⟩
theorem kA {f:Addr}{fd:FuncData}(F:Fun K "word" "Deal.word" qW f fd):zt P w K mg base CX0 1 f fd ["self"] (xS "deal"):=by
 refine F.ok fe (fun vs H Q E h=>?_) (fun cdv A outer s H vs Q E hr h=>?_)
 ·obtain⟨p,rfl,_⟩:=h;rfl
 ·obtain⟨p,rfl,q⟩:=h;exact⟨_,zk (zp ya),q⟩
theorem gn {f:Addr}{fd:FuncData}(F:Fun K "word" "Fee.word" jd f fd):zt P w K mg base CX0 1 f fd ["self"] (xS "fee"):=by
 refine F.ok dF (fun vs H Q E h=>?_) (fun cdv A outer s H vs Q E hr h=>?_)
 ·obtain⟨p,rfl,_⟩:=h;rfl
 ·obtain⟨p,rfl,q⟩:=h;exact⟨_,zk (zp ya),q⟩
theorem dm :zl ["self"] ["self"] (zb jj):=⟨rfl,rfl,rfl,by decide +kernel,rfl,by decide +kernel,by decide +kernel⟩
theorem iV (x y z:V):(xM x y z).lookup ("word":Str)=none:=hV x y z (by decide +kernel) (by decide +kernel) (by decide +kernel)
theorem xu {f C fIn fE fWd:Addr}{fd fdW:FuncData}{wd:Str}(F:Fun K "told" "Rule.told" jj f fd)(R:xG K C fIn f fE fWd)(GW:zt P w K mg base CX0 1 fWd fdW ["self"] (xS wd))(bW:Binds K fdW ["self"] []):
  zt P w K mg base CX0 2 f fd ["self"] (jl C wd):=by
 refine F.ok dm (fun vs H Q E h=>?_) (fun cdv A outer s H vs Q E hr h=>?_)
 ·obtain⟨p,dx,x,y,z,rfl,_⟩:=h
  rfl
 ·obtain⟨p,dx,x,y,z,rfl,hp,q⟩:=h
  refine⟨_,zk (zp (vb (za (uI (pv 0) R.cl R.word GW hr bW .nil zN) (za (rA (pv 0) rfl) (za (rA (pv 0) rfl) (za (rA (pv 0) rfl) zh)))))),?_⟩
  refine⟨_,rfl,p,dx,_,rfl,hp,iV _ _ _,p,rfl,?_⟩
  exact⟨_,rfl,p,C,dx,_,_,rfl,hp,R.cl,R.nf,pO _ _ _,_,rfl,p,C,dx,_,_,rfl,hp,R.cl,R.nl,mL _ _ _,_,rfl,p,C,dx,_,_,rfl,hp,R.cl,R.nw,pb _ _ _,(by show 4≤sizeLine;decide),q⟩
theorem iS :zl ["thing"] ["thing"] (zb pD):=⟨rfl,rfl,rfl,by decide +kernel,rfl,by decide +kernel,by decide +kernel⟩
theorem lO {f:Addr}{fd fdI:FuncData}(F:Fun K "is_coins" "is_coins" pD f fd)(T:qY mg fW fI fP fD fPD fS fC fDl fWo fR fM cs)(GI:zt P w K mg base CX0 2 fI fdI ["thing","lowest","highest"] xV)(kI:PySem.W.keepIn K (.ref fI)=true)(bI:Binds K fdI ["thing","lowest","highest"] []):
  zt P w K mg base CX0 3 f fd ["thing"] (yu wy):=by
 obtain⟨tl,hl⟩:=T.coinsMost
 refine F.ok iS (fun vs H Q E h=>?_) (fun cdv A outer s H vs Q E hr h=>?_)
 ·obtain⟨x,d,rfl,_⟩:=h
  rfl
 ·obtain⟨x,d,rfl,hd,q⟩:=h
  refine⟨_,zk (zp (zF GI hr (by rfl) T.d.within kI bI .nil zN (za (pv 0) (za zg (za (wZ (v:=.int 1000000000000) (by rfl) hl ⟨tl,rfl⟩) zh))))),?_⟩
  exact⟨_,rfl,x,d,_,_,rfl,hd,q⟩
theorem iI :zl ["thing"] ["thing"] (zb rC):=⟨rfl,rfl,rfl,by decide +kernel,rfl,by decide +kernel,by decide +kernel⟩
theorem nX {f:Addr}{fd fdI fdP:FuncData}(F:Fun K "is_deal" "is_deal" rC f fd)(T:qY mg fW fI fP fD fPD fS fC fDl fWo fR fM cs)(GI:zt P w K mg base CX0 2 fI fdI ["thing","lowest","highest"] xV)(kI:PySem.W.keepIn K (.ref fI)=true)(bI:Binds K fdI ["thing","lowest","highest"] [])
  (GP:zt P w K mg base CX0 1 fP fdP ["thing"] (yu pairD)) (kP:PySem.W.keepIn K (.ref fP)=true) (bP:Binds K fdP ["thing"] []):zt P w K mg base CX0 3 f fd ["thing"] (yu uh):=by
 obtain⟨tm,hm⟩:=T.d.most
 refine F.ok iI (fun vs H Q E h=>?_) (fun cdv A outer s H vs Q E hr h=>?_)
 ·obtain⟨x,d,rfl,_⟩:=h
  rfl
 ·obtain⟨x,d,rfl,hd,q⟩:=h
  have hr1:zR 1 _:=hr.mono (by decide)
  refine⟨_,zk (zp (yC (zF GP hr1 (by rfl) T.d.pair kP bP .nil zN (za (pv 0) zh))
   (yC (zF GI hr (by rfl) T.d.within kI bI .nil zN (za (zq zB (pv 0) zg (fun _ _=>rfl)) (za zg (za (wZ (v:=.int 14) (by rfl) hm ⟨tm,rfl⟩) zh))))
   (yV (zF GI hr (by rfl) T.d.within kI bI .nil zN (za (zq zB (pv 0) zg (fun _ _=>rfl)) (za zg (za (yb og (zq zB (pv 0) zg (fun _ _=>rfl)) zg) zh)))))))),?_⟩
  refine⟨_,rfl,x,d,rfl,hd,_,rfl,?_⟩
  refine yn (fun h=>?_) (fun h=>?_)
  ·obtain⟨a,b,rfl⟩:=vL h
   cases hd with
   |tup e hs=>
    cases hs with
    |cons ha hs=>
     cases hs with
     |cons hb hs=>
      cases hs
      refine⟨_,rfl,_,_,0,_,rfl,rfl,SqT.of e,rfl,_,_,_,_,rfl,ha,_,rfl,?_⟩
      cases ha with
      |int m=>
       have q':Q (.bl (yf 2 14 (.int m)&&yf 1 (m-1) b)) H:=q
       refine yn (fun h=>?_) (fun h=>?_)
       ·rw[h,zb3] at q'
        exact⟨_,rfl,_,_,1,_,rfl,rfl,SqT.of e,rfl,_,rfl,_,_,0,_,rfl,rfl,SqT.of e,rfl,_,_,rfl,rfl,_,_,_,_,rfl,hb,q'⟩
       ·rw[za9.mpr h,ze2] at q'
        exact q'
      |_=>exact wH q
  ·have e:uh d=false:=by
    unfold uh
    split
    ·exact absurd rfl h
    ·rfl
   rw[e] at q
   exact q
theorem gJ :zl ["word","thing"] ["word","thing"] (zb pK):=⟨rfl,rfl,rfl,by decide +kernel,rfl,by decide +kernel,by decide +kernel⟩
theorem ik {f:Addr}{fd fdI fdC fdDl:FuncData}(F:Fun K "is_worth" "is_worth" pK f fd)(T:qY mg fW fI fP fD fPD fS fC fDl fWo fR fM cs)(GI:zt P w K mg base CX0 2 fI fdI ["thing","lowest","highest"] xV)(kI:PySem.W.keepIn K (.ref fI)=true)(bI:Binds K fdI ["thing","lowest","highest"] [])
  (GC:zt P w K mg base CX0 3 fC fdC ["thing"] (yu wy)) (kC:PySem.W.keepIn K (.ref fC)=true) (bC:Binds K fdC ["thing"] []) (GDl:zt P w K mg base CX0 3 fDl fdDl ["thing"] (yu uh)) (kDl:PySem.W.keepIn K (.ref fDl)=true) (bDl:Binds K fdDl ["thing"] []):
  zt P w K mg base CX0 4 f fd ["word","thing"] oO:=by
 obtain⟨tm,hm⟩:=T.d.most
 refine F.ok gJ (fun vs H Q E h=>?_) (fun cdv A outer s H vs Q E hr h=>?_)
 ·obtain⟨x,y,dw,dv,rfl,_⟩:=h
  rfl
 ·obtain⟨x,y,dw,dv,rfl,hx,sw,hy,q⟩:=h
  have hr2:zR 2 _:=hr.mono (by decide)
  have hu:=hr.units
  have st:∀{z:Str},z∈words→SeqAt.shaped (.str z)=true:=fun {z} hz=>oe (by
   simp only[words,aP,za7,zd4] at hz
   rcases hz with rfl|rfl|rfl|rfl|rfl|rfl|rfl<;>decide +kernel)
  unfold zC at q
  -- if word == 'price'
  refine zy (fun σ H1=>σ=[some x,some y]∧eqS dw "price"=false∧H=H1)
   ⟨_,yL (zO (xQ hu) (pv 0) ya (zu _)) (zk (zp (fO (xi pX (pv 1) si (zu _)) (yV (zF GC hr (by rfl) T.coins kC bC .nil zN (za (pv 1) zh)))))) yd,?_⟩ ?_
  ·refine⟨_,rfl,dw,.str "price",hx,.str _,sw,st (by simp[words]),_,rfl,?_⟩
   refine yn (fun h=>?_) (fun h=>⟨rfl,za9.mpr h,rfl⟩)
   rw[if_pos h] at q
   refine⟨_,rfl,rfl,_,rfl,?_⟩
   rw[hy.non_iff]
   refine yn (fun h2=>?_) (fun h2=>?_)
   ·rw[h2,Bool.true_or] at q
    exact q
   ·rw[za9.mpr h2,zj0] at q
    exact⟨_,rfl,y,dv,rfl,hy,q⟩
  rintro σ H1 ⟨rfl,e1,rfl⟩
  rw[e1,if_neg aU] at q
  -- if word == 'come' or word == 'go'
  refine zy (fun σ H1=>σ=[some x,some y]∧(eqS dw "come"||eqS dw "go")=false∧H=H1)
   ⟨_,yL (PW.pt (jq (zO (xQ hu) (pv 0) ya (zu _)) (qZ (zO (xQ hu) (pv 0) ya (zu _))))) (zk (zp (zH yS (by rfl) T.d.isi zg1 (za (pv 1) (za (wb (v:=.ty "bool") (by rfl) T.d.bool boot_bool rfl) zh))))) yd,?_⟩ ?_
  ·refine⟨_,rfl,dw,.str "come",hx,.str _,sw,st (by simp[words]),_,rfl,?_⟩
   refine yn (fun h=>?_) (fun h=>?_)
   ·have h':eqS dw "come"=true:=h
    rw[h',Bool.true_or,if_pos rfl] at q
    exact wx ⟨_,rfl,y,"bool",dv,_,rfl,hy,uF dv,q⟩
   ·have h':eqS dw "come"=false:=za9.mpr h
    refine⟨_,rfl,dw,.str "go",hx,.str _,sw,st (by simp[words]),_,rfl,?_⟩
    refine yn (fun h2=>?_) (fun h2=>?_)
    ·have h2':eqS dw "go"=true:=h2
     rw[h',h2',zj0,if_pos rfl] at q
     exact⟨_,rfl,y,"bool",dv,_,rfl,hy,uF dv,q⟩
    ·have h2':eqS dw "go"=false:=za9.mpr h2
     exact⟨rfl,by rw[h',h2'];rfl,rfl⟩
  rintro σ H1 ⟨rfl,e2,rfl⟩
  rw[e2,if_neg aU] at q
  -- if word == 'least' or word == 'most'
  refine zy (fun σ H1=>σ=[some x,some y]∧(eqS dw "least"||eqS dw "most")=false∧H=H1)
   ⟨_,yL (PW.pt (jq (zO (xQ hu) (pv 0) ya (zu _)) (qZ (zO (xQ hu) (pv 0) ya (zu _))))) (zk (zp (zF GI hr2 (by rfl) T.d.within kI bI .nil zN (za (pv 1) (za zg (za (wZ (v:=.int 14) (by rfl) hm ⟨tm,rfl⟩) zh)))))) yd,?_⟩ ?_
  ·refine⟨_,rfl,dw,.str "least",hx,.str _,sw,st (by simp[words]),_,rfl,?_⟩
   refine yn (fun h=>?_) (fun h=>?_)
   ·have h':eqS dw "least"=true:=h
    rw[h',Bool.true_or,if_pos rfl] at q
    exact wx ⟨_,rfl,y,dv,_,_,rfl,hy,q⟩
   ·have h':eqS dw "least"=false:=za9.mpr h
    refine⟨_,rfl,dw,.str "most",hx,.str _,sw,st (by simp[words]),_,rfl,?_⟩
    refine yn (fun h2=>?_) (fun h2=>?_)
    ·have h2':eqS dw "most"=true:=h2
     rw[h',h2',zj0,if_pos rfl] at q
     exact⟨_,rfl,y,dv,_,_,rfl,hy,q⟩
    ·have h2':eqS dw "most"=false:=za9.mpr h2
     exact⟨rfl,by rw[h',h2'];rfl,rfl⟩
  rintro σ H1 ⟨rfl,e3,rfl⟩
  rw[e3,if_neg aU] at q
  -- if word == 'deal'
  refine zy (fun σ H1=>σ=[some x,some y]∧eqS dw "deal"=false∧H=H1)
   ⟨_,yL (zO (xQ hu) (pv 0) ya (zu _)) (zk (zp (fO (xi pX (pv 1) si (zu _)) (yV (zF GDl hr (by rfl) T.deal kDl bDl .nil zN (za (pv 1) zh)))))) yd,?_⟩ ?_
  ·refine⟨_,rfl,dw,.str "deal",hx,.str _,sw,st (by simp[words]),_,rfl,?_⟩
   refine yn (fun h=>?_) (fun h=>⟨rfl,za9.mpr h,rfl⟩)
   rw[if_pos h] at q
   refine⟨_,rfl,rfl,_,rfl,?_⟩
   rw[hy.non_iff]
   refine yn (fun h2=>?_) (fun h2=>?_)
   ·rw[h2,Bool.true_or] at q
    exact q
   ·rw[za9.mpr h2,zj0] at q
    exact⟨_,rfl,y,dv,rfl,hy,q⟩
  rintro σ H1 ⟨rfl,e4,rfl⟩
  rw[e4,if_neg aU] at q
  refine⟨_,zk (zp (yC (xi (xQ hu) (pv 0) ya (zu _)) (yV (zF GC hr (by rfl) T.coins kC bC .nil zN (za (pv 1) zh))))),?_⟩
  refine⟨_,rfl,dw,.str "fee",hx,.str _,sw,st (by simp[words]),_,rfl,?_⟩
  refine yn (fun h=>?_) (fun h=>?_)
  ·have h':eqS dw "fee"=true:=h
   rw[h',zb3] at q
   exact⟨_,rfl,y,dv,rfl,hy,q⟩
  ·have h':eqS dw "fee"=false:=za9.mpr h
   rw[h',ze2] at q
   exact q
theorem kb :zl ["thing"] ["thing"] (zb sE):=⟨rfl,rfl,rfl,by decide +kernel,rfl,by decide +kernel,by decide +kernel⟩
theorem lB {f:Addr}{fd fdS fdWo:FuncData}(F:Fun K "is_rule" "is_rule" sE f fd)(T:qY mg fW fI fP fD fPD fS fC fDl fWo fR fM cs)(GS:zt P w K mg base CX0 5 fS fdS ["thing"] (yu yh))(kS:PySem.W.keepIn K (.ref fS)=true)(bS:Binds K fdS ["thing"] [])
  (GW:zt P w K mg base CX0 4 fWo fdWo ["word","thing"] oO) (kW:PySem.W.keepIn K (.ref fWo)=true) (bW:Binds K fdWo ["word","thing"] []):zt P w K mg base CX0 6 f fd ["thing"] lU:=by
 refine F.ok kb (fun vs H Q E h=>?_) (fun cdv A outer s H vs Q E hr h=>?_)
 ·obtain⟨x,d,rfl,_⟩:=h
  rfl
 ·obtain⟨x,d,rfl,hd,sd,q⟩:=h
  have hr4:zR 4 _:=hr.mono (by decide)
  refine⟨_,zk (zp (yC (zH yS (by rfl) T.d.isi zg1 (za (pv 0) (za (wb (v:=.ty "tuple") (by rfl) T.d.tuple boot_tuple rfl) zh)))
   (yC (xi xO (zH yj (by rfl) T.d.len zf4 (za (pv 0) zh)) zg (zu _))
   (yC (zF GS hr (by rfl) T.stretch kS bS .nil zN (za (vb (za (zq zB (pv 0) zg (fun _ _=>rfl)) (za (zq zB (pv 0) zg (fun _ _=>rfl)) zh))) zh))
   (yV (zF GW hr4 (by rfl) T.worth kW bW .nil zN (za (zq zB (pv 0) zg (fun _ _=>rfl)) (za (zq zB (pv 0) zg (fun _ _=>rfl)) zh)))))))),?_⟩
  refine⟨_,rfl,x,"tuple",d,_,rfl,hd,va d,_,rfl,?_⟩
  cases hd with
  |@tup a xs ds e hs=>
   refine wx ⟨_,rfl,a,_,rfl,.inr (SqT.of e),rfl,_,rfl,?_⟩
   match xs,ds,hs with
   |_,[dw,da,db,dv],.cons (x:=xw) hw (.cons (x:=xa) ha (.cons (x:=xb) hb (.cons (x:=xv) hv .nil)))=>
    refine yn (fun _=>?_) (fun h=>absurd rfl h)
    refine⟨_,rfl,a,_,1,_,rfl,rfl,SqT.of e,rfl,_,rfl,a,_,2,_,rfl,rfl,SqT.of e,rfl,(by show 2≤sizeLine;decide),fun p hp=>?_⟩
    have s1:zo H (upd H p (.tup [xa,xb])):=yo hp
    refine⟨_,.tuple [da,db],rfl,.tup ze (.cons (ha.same s1) (.cons (hb.same s1) .nil)),_,rfl,?_⟩
    have q':Q (.bl (yh (.tuple [da,db])&&zC dw dv)) (upd H p (.tup [xa,xb])):=q _ s1
    refine yn (fun h=>?_) (fun h=>?_)
    ·rw[h,zb3] at q'
     exact⟨_,rfl,a,_,0,_,rfl,rfl,SqT.of (s1 _ _ e),rfl,_,rfl,a,_,3,_,rfl,rfl,SqT.of (s1 _ _ e),rfl,_,_,_,_,rfl,hw.same s1,sU sd dw (by simp),hv.same s1,q'⟩
    ·rw[za9.mpr h,ze2] at q'
     exact q'
   |_,[],.nil=>exact yn (fun h=>absurd h (by simp)) (fun _=>q H (zo.refl H))
   |_,[_],.cons _ .nil=>exact yn (fun h=>absurd h (by simp)) (fun _=>q H (zo.refl H))
   |_,[_,_],.cons _ (.cons _ .nil)=>exact yn (fun h=>absurd h (by simp)) (fun _=>q H (zo.refl H))
   |_,[_,_,_],.cons _ (.cons _ (.cons _ .nil))=>exact yn (fun h=>absurd h (by simp)) (fun _=>q H (zo.refl H))
   |_,_::_::_::_::_::_,.cons _ (.cons _ (.cons _ (.cons _ (.cons _ _))))=>exact yn (fun h=>absurd h (by simp;omega)) (fun _=>q H (zo.refl H))
  |_=>exact wH (q H (zo.refl H))
end
section
variable {P:Program}{w:World}{K:PySem.W.Frag}{mg:Str→Option Value}{base:Heap}{fW fI fP fD fPD fS fC fDl fWo fR fM:Addr}{cs:Cs}
structure kr (K:PySem.W.Frag)(cs:Cs)(fIn fTo fTe w1 w2 w3 w4 w5 w6 w7:Addr):Prop where
 price:xG K cs.price fIn fTo fTe w1
 come:xG K cs.come fIn fTo fTe w2
 go:xG K cs.go fIn fTo fTe w3
 least:xG K cs.least fIn fTo fTe w4
 most:xG K cs.most fIn fTo fTe w5
 deal:xG K cs.deal fIn fTo fTe w6
 fee:xG K cs.fee fIn fTo fTe w7
theorem rP (cs:Cs):cs.of "price"=cs.price:=by unfold Cs.of;rw[if_pos rfl]
theorem nL (cs:Cs):cs.of "come"=cs.come:=by unfold Cs.of;rw[if_neg (by decide +kernel),if_pos rfl]
theorem fB (cs:Cs):cs.of "go"=cs.go:=by unfold Cs.of;rw[if_neg (by decide +kernel),if_neg (by decide +kernel),if_pos rfl]
theorem qm (cs:Cs):cs.of "least"=cs.least:=by unfold Cs.of;rw[if_neg (by decide +kernel),if_neg (by decide +kernel),if_neg (by decide +kernel),if_pos rfl]
theorem nh (cs:Cs):cs.of "most"=cs.most:=by unfold Cs.of;rw[if_neg (by decide +kernel),if_neg (by decide +kernel),if_neg (by decide +kernel),if_neg (by decide +kernel),if_pos rfl]
theorem oK (cs:Cs):cs.of "deal"=cs.deal:=by unfold Cs.of;rw[if_neg (by decide +kernel),if_neg (by decide +kernel),if_neg (by decide +kernel),if_neg (by decide +kernel),if_neg (by decide +kernel),if_pos rfl]
theorem iq (cs:Cs):cs.of "fee"=cs.fee:=by unfold Cs.of;rw[if_neg (by decide +kernel),if_neg (by decide +kernel),if_neg (by decide +kernel),if_neg (by decide +kernel),if_neg (by decide +kernel),if_neg (by decide +kernel)]
theorem vB {x y:Str}(h:decide (V.str x=V.str y)=true):x=y:=by
 have:=of_decide_eq_true h
 injection this
theorem vA {x y:Str}(h:¬decide (V.str x=V.str y)=true):x≠y:=fun e=>h (by rw[e];exact zb6 rfl)
theorem yW {C p dx:Addr}{H:Hp}{x y z:V}{Q:VK}(k:∀(p dx:Addr) (H':Hp),H' p=some (.ins C dx (xM x y z))→H p=none→zo H H'→Q (.ref p) H')(hp:H p=none)(hx:H dx=none)(n:dx≠p):
  Q (.ref p) (upd (upd (upd H dx (.own p)) p (.ins C dx [])) p (.ins C dx (xM x y z))):=by
 refine k p dx _ ze hp fun a o e=>?_
 rw[ud,zc (zd e hp),zc (zd e hx)]
 exact e
theorem dN :zl ["word","first","last","worth"] ["word","first","last","worth"] (zb iw):=⟨rfl,rfl,rfl,by decide +kernel,rfl,by decide +kernel,by decide +kernel⟩
set_option maxHeartbeats 4000000 in
theorem gW {f fIn fTo fTe w1 w2 w3 w4 w5 w6 w7:Addr}{fd fdIn:FuncData}(F:Fun K "made" "made" iw f fd)(T:qY mg fW fI fP fD fPD fS fC fDl fWo fR fM cs)(A7:kr K cs fIn fTo fTe w1 w2 w3 w4 w5 w6 w7)
  (FI:Fun K "__init__" "Rule.__init__" nJ fIn fdIn) (bI:Binds K fdIn ["self","first","last","worth"] []):zt P w K mg base CX0 3 f fd ["word","first","last","worth"] (jJ cs):=by
 refine F.ok dN (fun vs H Q E h=>?_) (fun cdv A outer s H vs Q E hr h=>?_)
 ·obtain⟨wd,x,y,z,rfl,_⟩:=h
  rfl
 ·obtain⟨wd,x,y,z,rfl,hw,k⟩:=h
  refine zy (fun σ H1=>σ=[some (.str wd),some x,some y,some z]∧wd≠"price"∧H=H1)
   ⟨_,yL (zO xO (pv 0) ya (zu _)) (zk (zp (xh A7.price.makes (xy FI A7.price) hr (by rfl) T.cPrice bI .nil zN (za (pv 1) (za (pv 2) (za (pv 3) zh)))))) yd,?_⟩ ?_
  ·refine⟨_,rfl,rfl,_,rfl,yn (fun h=>?_) (fun h=>⟨rfl,vA h,rfl⟩)⟩
   rw[vB h,rP] at k
   exact⟨_,rfl,_,rfl,_,rfl,fun p dx hp hx n=>⟨p,dx,_,_,_,rfl,ze,rfl,yW k hp hx n⟩⟩
  rintro σ H1 ⟨rfl,n1,rfl⟩
  refine zy (fun σ H1=>σ=[some (.str wd),some x,some y,some z]∧wd≠"come"∧H=H1)
   ⟨_,yL (zO xO (pv 0) ya (zu _)) (zk (zp (xh A7.come.makes (xy FI A7.come) hr (by rfl) T.cCome bI .nil zN (za (pv 1) (za (pv 2) (za (pv 3) zh)))))) yd,?_⟩ ?_
  ·refine⟨_,rfl,rfl,_,rfl,yn (fun h=>?_) (fun h=>⟨rfl,vA h,rfl⟩)⟩
   rw[vB h,nL] at k
   exact⟨_,rfl,_,rfl,_,rfl,fun p dx hp hx n=>⟨p,dx,_,_,_,rfl,ze,rfl,yW k hp hx n⟩⟩
  rintro σ H1 ⟨rfl,n2,rfl⟩
  refine zy (fun σ H1=>σ=[some (.str wd),some x,some y,some z]∧wd≠"go"∧H=H1)
   ⟨_,yL (zO xO (pv 0) ya (zu _)) (zk (zp (xh A7.go.makes (xy FI A7.go) hr (by rfl) T.cGo bI .nil zN (za (pv 1) (za (pv 2) (za (pv 3) zh)))))) yd,?_⟩ ?_
  ·refine⟨_,rfl,rfl,_,rfl,yn (fun h=>?_) (fun h=>⟨rfl,vA h,rfl⟩)⟩
   rw[vB h,fB] at k
   exact⟨_,rfl,_,rfl,_,rfl,fun p dx hp hx n=>⟨p,dx,_,_,_,rfl,ze,rfl,yW k hp hx n⟩⟩
  rintro σ H1 ⟨rfl,n3,rfl⟩
  refine zy (fun σ H1=>σ=[some (.str wd),some x,some y,some z]∧wd≠"least"∧H=H1)
   ⟨_,yL (zO xO (pv 0) ya (zu _)) (zk (zp (xh A7.least.makes (xy FI A7.least) hr (by rfl) T.cLeast bI .nil zN (za (pv 1) (za (pv 2) (za (pv 3) zh)))))) yd,?_⟩ ?_
  ·refine⟨_,rfl,rfl,_,rfl,yn (fun h=>?_) (fun h=>⟨rfl,vA h,rfl⟩)⟩
   rw[vB h,qm] at k
   exact⟨_,rfl,_,rfl,_,rfl,fun p dx hp hx n=>⟨p,dx,_,_,_,rfl,ze,rfl,yW k hp hx n⟩⟩
  rintro σ H1 ⟨rfl,n4,rfl⟩
  refine zy (fun σ H1=>σ=[some (.str wd),some x,some y,some z]∧wd≠"most"∧H=H1)
   ⟨_,yL (zO xO (pv 0) ya (zu _)) (zk (zp (xh A7.most.makes (xy FI A7.most) hr (by rfl) T.cMost bI .nil zN (za (pv 1) (za (pv 2) (za (pv 3) zh)))))) yd,?_⟩ ?_
  ·refine⟨_,rfl,rfl,_,rfl,yn (fun h=>?_) (fun h=>⟨rfl,vA h,rfl⟩)⟩
   rw[vB h,nh] at k
   exact⟨_,rfl,_,rfl,_,rfl,fun p dx hp hx n=>⟨p,dx,_,_,_,rfl,ze,rfl,yW k hp hx n⟩⟩
  rintro σ H1 ⟨rfl,n5,rfl⟩
  refine zy (fun σ H1=>σ=[some (.str wd),some x,some y,some z]∧wd≠"deal"∧H=H1)
   ⟨_,yL (zO xO (pv 0) ya (zu _)) (zk (zp (xh A7.deal.makes (xy FI A7.deal) hr (by rfl) T.cDeal bI .nil zN (za (pv 1) (za (pv 2) (za (pv 3) zh)))))) yd,?_⟩ ?_
  ·refine⟨_,rfl,rfl,_,rfl,yn (fun h=>?_) (fun h=>⟨rfl,vA h,rfl⟩)⟩
   rw[vB h,oK] at k
   exact⟨_,rfl,_,rfl,_,rfl,fun p dx hp hx n=>⟨p,dx,_,_,_,rfl,ze,rfl,yW k hp hx n⟩⟩
  rintro σ H1 ⟨rfl,n6,rfl⟩
  have e7:wd="fee":=by
   simp only[words,aP,za7,zd4] at hw
   rcases hw with e|e|e|e|e|e|e
   ·exact absurd e n1
   ·exact absurd e n2
   ·exact absurd e n3
   ·exact absurd e n4
   ·exact absurd e n5
   ·exact absurd e n6
   ·exact e
  rw[e7,iq] at k
  refine⟨_,zk (zp (xh A7.fee.makes (xy FI A7.fee) hr (by rfl) T.cFee bI .nil zN (za (pv 1) (za (pv 2) (za (pv 3) zh))))),?_⟩
  exact⟨_,rfl,_,rfl,_,rfl,fun p dx hp hx n=>⟨p,dx,_,_,_,rfl,ze,rfl,yW k hp hx n⟩⟩
theorem kf :zl ["thing"] ["thing"] (zb sY):=⟨rfl,rfl,rfl,by decide +kernel,rfl,by decide +kernel,by decide +kernel⟩
theorem mM {f:Addr}{fd fdR fdM:FuncData}(F:Fun K "rule_of" "rule_of" sY f fd)(T:qY mg fW fI fP fD fPD fS fC fDl fWo fR fM cs)(GR:zt P w K mg base CX0 6 fR fdR ["thing"] lU)(kR:PySem.W.keepIn K (.ref fR)=true)(bR:Binds K fdR ["thing"] [])
  (GM:zt P w K mg base CX0 3 fM fdM ["word","first","last","worth"] (jJ cs)) (kM:PySem.W.keepIn K (.ref fM)=true) (bM:Binds K fdM ["word","first","last","worth"] []):zt P w K mg base CX0 7 f fd ["thing"] (qx cs):=by
 refine F.ok kf (fun vs H Q E h=>?_) (fun cdv A outer s H vs Q E hr h=>?_)
 ·obtain⟨x,d,rfl,_⟩:=h
  rfl
 ·obtain⟨x,d,rfl,hd,sd,k0,k1⟩:=h
  have hr3:zR 3 _:=hr.mono (by decide)
  refine zy (fun σ H1=>σ=[some x]∧yM d=true∧zo H H1)
   ⟨_,yL (kB (jo (zF GR hr (by rfl) T.rule kR bR .nil zN (za (pv 0) zh)))) (zk (zp si)) yd,?_⟩ ?_
  ·refine⟨_,rfl,x,d,rfl,hd,sd,fun H1 s1=>⟨_,rfl,?_⟩⟩
   refine yn (fun h=>?_) (fun h=>?_)
   ·exact k0 (by simpa using h) H1 s1
   ·exact⟨rfl,by simpa using h,s1⟩
  rintro σ H1 ⟨rfl,er,s1⟩
  obtain⟨sw,da,db,dv,hsw,rfl⟩:=xf er
  cases hd with
  |@tup r xs ds e hs=>
   cases hs with
   |@cons xw _ _ _ hw hs=>
    cases hw
    cases hs with
    |@cons xa _ _ _ ha hs=>
     cases hs with
     |@cons xb _ _ _ hb hs=>
      cases hs with
      |@cons xv _ _ _ hv hs=>
       cases hs
       have e1:=s1 _ _ e
       refine⟨_,zk (zp (zF GM hr3 (by rfl) T.made kM bM .nil zN (za (zq zB (pv 0) zg (fun _ _=>rfl)) (za (zq zB (pv 0) zg (fun _ _=>rfl)) (za (zq zB (pv 0) zg (fun _ _=>rfl)) (za (zq zB (pv 0) zg (fun _ _=>rfl)) zh)))))),?_⟩
       refine⟨_,rfl,r,_,0,_,rfl,rfl,SqT.of e1,rfl,_,rfl,r,_,1,_,rfl,rfl,SqT.of e1,rfl,_,rfl,r,_,2,_,rfl,rfl,SqT.of e1,rfl,_,rfl,r,_,3,_,rfl,rfl,SqT.of e1,rfl,sw,_,_,_,rfl,hsw,fun p dx H2 h2 hp s2=>?_⟩
       exact k1 r sw xa xb xv p dx H2 rfl er hsw e h2 (s1.free hp) (s1.trans s2)
end
abbrev iE :Stmt:=top 36
abbrev yP :Stmt:=inClass (top 35) 0
abbrev xY :Stmt:=inClass (top 35) 1
def qq (C:Addr)(a b v:PyData):PyData:=xp C [(.str "first",a),(.str "last",b),(.str "worth",v)]
def vC (cs:Cs):PyData→PyData
 |.tuple [.str w,a,b,v]=>qq (cs.of w) a b v
 |_=>.none
def oW (C:Addr)(cs:Cs)(ds:List PyData):PyData:=xp C [(.str "kept",.list (ds.map (vC cs)))]
def Rules (ds:List PyData):Prop:=∀d∈ds,yM d=true∧SeqAt.shaped d=true∧d.hasDict=false
def uO (cs:Cs):List A→(A→Prop)→Prop:=fun as Q=>∃d,as=[.dat d]∧d.hasDict=false∧SeqAt.shaped d=true∧(yM d=false→Q (.dat .none))∧(yM d=true→Q (.dat (vC cs d)))
def oB (cs:Cs):List A→(A→Prop)→Prop:=fun as Q=>∃ds,as=[.dat (.list ds)]∧Rules ds∧ds.length≤24∧Q (.own (ds.map (vC cs)))
def rD (C:Addr)(cs:Cs):List A→(A→Prop)→Prop:=fun as Q=>∃ds,(as=[.dat (.list ds)]∨(as=[.dat .none]∧ds=[]))∧Rules ds∧ds.length≤24∧Q (.dat (oW C cs ds))
def oq (C:Addr)(w:Str):List A→(A→Prop)→Prop:=fun as Q=>∃a b v,as=[.dat (qq C a b v)]∧Q (.dat (.tuple [.str w,a,b,v]))
def vW (C:Addr)(cs:Cs):List A→(A→Prop)→Prop:=fun as Q=>∃ds,as=[.dat (oW C cs ds)]∧Rules ds∧ds.length≤1000∧Q (.own ds)
theorem oP (x y z:V):xM x y z=[(("first":Str),x),(("last":Str),y),(("worth":Str),z)]:=by
 unfold xM
 show yY "worth" z (if ("first":Str)="last" then _ else _)=_
 rw[if_neg (fun e=>jw e.symm)]
 show (if ("first":Str)="worth" then _ else _)=_
 rw[if_neg (fun e=>fK e.symm)]
 show _::(if ("last":Str)="worth" then _ else _)=_
 rw[if_neg (fun e=>fz e.symm)]
 rfl
theorem wB {cs:Cs}{d:PyData}(h:yM d=true):∃(s:Str) (a b v:PyData),s∈words∧d=.tuple [.str s,a,b,v]∧vC cs d=qq (cs.of s) a b v:=by
 obtain⟨s,a,b,v,hs,rfl⟩:=xf h
 exact⟨s,a,b,v,hs,rfl,rfl⟩
def jg :Scope:=match zw xY with
 |[.Return (some (.ListComp _ _ sc _)) _]=>sc
 |_=>zb xY
section
variable {P:Program}{w:World}{K:PySem.W.Frag}{mg:Str→Option Value}{base:Heap}{cs:Cs}
theorem oG {k:Nat}{f:Addr}{fd:FuncData}{ps:List Str}(hm:mg "rule_of"=some (.ref f))(hk:PySem.W.keepIn K (.ref f)=true)(hb:Binds K fd ps [])(G:zt P w K mg base CX0 k f fd ps (qx cs)):Cal P w K mg base "rule_of" k (uO cs):=by
 refine⟨f,fd,_,hm,hk,hb,G.imp fun vs H Q E h=>?_⟩
 obtain⟨F,as,Q',rfl,t,o,rv,⟨d,rfl,nd,sh,q0,q1⟩,kk⟩:=h
 obtain⟨x,rfl,av⟩:=rv.one
 have oo:∀{a:Addr},F.H0 a=none→¬F.O0 a:=fun {a} e z=>by
  obtain⟨u,hu,_⟩:=o a z
  rw[e] at hu;cases hu
 refine⟨x,d,rfl,(av.dv nd).same yw,sh,fun hr H' s=>kk _ _ _ (q0 hr) ⟨t.same s,Kz.of_same s,.non⟩,fun r wd x1 x2 x3 p dx H' hx hr hw he hp' hp s=>kk _ _ _ (q1 hr) ⟨t.same s,Kz.of_same s,?_⟩⟩
 subst hx
 obtain⟨s',a,b,v,_,rfl⟩:=xf hr
 obtain⟨r',xs,e1,e2,e3⟩:=av.tup_inv
 cases e1
 have e4:=(zf e2).2
 rw[he] at e4
 cases e4
 have gs:zo (sub (fun x=>¬F.O0 x) F.H0) (sub (fun x=>¬F.O0 x) H'):=zm fun a u h e=>⟨h,s _ _ e⟩
 cases e3 with
 |cons g1 e3=>
  cases g1.str_inv
  cases e3 with
  |cons g2 e3=>
   cases e3 with
   |cons g3 e3=>
    cases e3 with
    |cons g4 e3=>
     cases e3
     rw[oP] at hp'
     exact .ins (zv (oo hp) hp') (.cons (g2.same gs) (.cons (g3.same gs) (.cons (g4.same gs) .nil)))
theorem yG {C f fIn fE fWd:Addr}{fd:FuncData}{wd:Str}(R:xG K C fIn f fE fWd)(hb:Binds K fd ["self"] [])(G:zt P w K mg base CX0 2 f fd ["self"] (jl C wd)):uV P w K mg base C "told" 2 (oq C wd):=by
 refine⟨f,fd,_,R.cl,R.told,hb,G.imp fun vs H Q E h=>?_⟩
 obtain⟨F,as,Q',rfl,t,o,rv,⟨a,b,v,rfl,q⟩,kk⟩:=h
 obtain⟨x,rfl,av⟩:=rv.one
 obtain⟨p,dx,fs,rfl,h1,h2⟩:=av.ins_inv
 cases h2 with
 |cons g1 h2=>
  cases h2 with
  |cons g2 h2=>
   cases h2 with
   |cons g3 h2=>
    cases h2
    refine⟨p,dx,_,_,_,rfl,by rw[oP];exact (zf h1).2,fun r hr=>kk _ _ _ q ⟨t.same (yo hr),Kz.of_same (yo hr),?_⟩⟩
    have gs:∀o':HO,zo (sub (fun x=>¬F.O0 x) F.H0) (sub (fun x=>¬F.O0 x) (upd F.H0 r o')):=fun o'=>zm fun a u h e=>⟨h,by rw[zc (zd e hr)];exact e⟩
    refine .tup (zv (fun z=>?_) ze) (.cons (.str _) (.cons (g1.same (gs _)) (.cons (g2.same (gs _)) (.cons (g3.same (gs _)) .nil))))
    obtain⟨u,hu,_⟩:=o r z
    rw[hr] at hu;cases hu
theorem jb :zl ["things","kept","number","thing","rule"] ["things"] (zb iE):=⟨rfl,rfl,rfl,by decide +kernel,rfl,by decide +kernel,by decide +kernel⟩
set_option maxHeartbeats 4000000 in
theorem jz {f:Addr}{fd:FuncData}(F:Fun K "kept_rules" "kept_rules" iE f fd)(hm:mg "kept_rules"=some (.ref f))(hb:Binds K fd ["things"] [])(nb:NbT mg)(gM:∃t,mg "MOST_RULES"=some (.int 24 t))(CRO:Cal P w K mg base "rule_of" 7 (uO cs)):Cal P w K mg base "kept_rules" 8 (oB cs):=by
 refine tw F hm hb jb (fun as Q h=>?_) (fun cdv A' outer s H E as Q hr h=>?_)
 ·obtain⟨ds,rfl,_⟩:=h
  rfl
 ·obtain⟨ds,rfl,rd,hl,q⟩:=h
  refine sC 1 jb.nd (xI (zZ (⟨_,rfl,zd1 rfl,?_⟩)))
  refine oH (pat:=.many [2,3]) ze0 rfl (yK (n:=2) (K:=K) rfl rfl (ym (zz (i:=2) jb.nd rfl (Or.inl rfl)) (ym (zz (i:=3) jb.nd rfl (Or.inl rfl)) (xg)))) (nA (by rfl) nb.enumerate (zj 0 rfl (⟨_,rfl,?_⟩)))
  refine xT (fun i α=>∃v2 v3 v4,α=[some (.dat (.list ds)),some (.own ((ds.take i).map (vC cs))),v2,v3,v4]) ⟨none,none,none,rfl⟩ ?_ ?_
  ·rintro i d α hd ⟨v2,v3,v4,rfl⟩
   obtain⟨e,he,rfl⟩:=wc hd
   obtain⟨r1,r2,r3⟩:=rd e (za4 he)
   have hi:i<ds.length:=(aL.mp he).1
   refine⟨_,rfl,?_⟩
   refine tf 4 jb.nd (uo CRO hr (by rfl) (zx (zj 3 rfl (zZ (⟨_,rfl,r3,r2,fun z=>(by rw[r1] at z;cases z),fun _=>?_⟩)))))
   refine vF (sQ (zj 4 rfl ?_))
   obtain⟨s',a,b,v,hs,rfl,ei⟩:=wB (cs:=cs) r1
   refine wa (fun h=>by rw[show (A.dat (vC cs (.tuple [.str s',a,b,v]))).d=qq (cs.of s') a b v from rfl] at h;cases h) (fun _=>zT ?_)
   refine vd 1 rfl (zj 4 rfl ⟨by rw[aI,zc6];omega,?_⟩)
   refine zT ⟨some (.dat (.int ((0+i:Nat):Int))),some (.dat (.tuple [.str s',a,b,v])),some (.dat (vC cs (.tuple [.str s',a,b,v]))),?_⟩
   rw[zf1,he,ze8]
   rfl
  ·rintro α ⟨v2,v3,v4,rfl⟩
   rw[xo,zg5]
   refine vF (vY 1 rfl (ju (xC (by rfl) nb.len (zj 1 rfl ⟨_,rfl,il (by rfl) gM ⟨_,_,rfl,rfl,?_⟩⟩))))
   refine di (fun h=>?_) (fun _=>zT ?_)
   ·rw[aI] at h
    omega
   ·exact nQ 1 rfl q
theorem aq :zl ["self","rules"] ["self","rules"] (zb yP):=⟨rfl,rfl,rfl,by decide +kernel,rfl,by decide +kernel,by decide +kernel⟩
theorem tM {w' v:PyData}(h:zC w' v=true):noL v=true:=by
 have wi:∀{lo hi:Int} {x:PyData},yf lo hi x=true→noL x=true:=fun {lo hi x} h=>by
  cases x with
  |int i=>rfl
  |_=>cases h
 have nn:∀{x:PyData},isNone x=true→noL x=true:=fun {x} h=>by
  cases x with
  |none=>rfl
  |_=>cases h
 unfold zC at h
 split at h
 ·rcases (zi4 _ _).mp h with h|h
  ·exact nn h
  ·exact wi h
 ·split at h
  ·cases v with
   |bool b=>rfl
   |_=>cases h
  ·split at h
   ·exact wi h
   ·split at h
    ·rcases (zi4 _ _).mp h with h|h
     ·exact nn h
     ·unfold uh at h
      split at h
      ·rw[za0] at h
       simp only[noL,noLs,wi h.2,Bool.and_self]
      ·cases h
    ·rw[za0] at h
     exact wi h.2
theorem kJ {s':Str}{a b v:PyData}(h:yM (.tuple [.str s',a,b,v])=true):noL a=true∧noL b=true∧noL v=true:=by
 have h':(yh (.tuple [a,b])&&zC (.str s') v)=true:=h
 rw[za0] at h'
 refine⟨?_,?_,tM h'.2⟩
 ·have:=h'.1
  unfold yh tq at this
  split at this
  ·rename_i k e
   split at e
   ·rename_i z;cases z;rfl
   ·cases e
  ·cases this
 ·have:=h'.1
  unfold yh tq at this
  split at this
  ·rename_i k e
   split at e
   ·rename_i z;cases z;rfl
   ·cases e
  ·cases this
theorem qA {ds:List PyData}(rd:Rules ds):noLs (ds.map (vC cs))=true:=by
 induction ds with
 |nil=>rfl
 |cons d r ih=>
  have ih':=ih fun x hx=>rd x (aK _ hx)
  have h1:=(rd d aJ).1
  obtain⟨s',a,b,v,hs,rfl,ei⟩:=wB (cs:=cs) h1
  obtain⟨z1,z2,z3⟩:=kJ h1
  rw[zf0,ei]
  simp only[noLs,ih',Bool.and_true]
  simp[qq,xp,noL,ou,z1,z2,z3]
theorem kG {f C:Addr}{dV:Value}{fd:FuncData}(F:dS K "__init__" "Book.__init__" yP dV f fd)(c:Cls K C)(na:yD K C "kept")(CK:Cal P w K mg base "kept_rules" 8 (oB cs)):zt P w K mg base CX0 9 f fd ["self","rules"] (spI C (rD C cs)):=by
 refine bq (N:=[]) F aq c na rfl (fun as Q h=>?_) (fun cdv A' outer s H E as Q hr h=>?_) (fun _ _ _ _ _ _=>rfl) (Or.inl rfl)
 ·obtain⟨ds,h|⟨h,_⟩,_⟩:=h<;>rw[h]<;>rfl
 ·obtain⟨ds,h|⟨h,hz⟩,rd,hl,q⟩:=h
  ·subst h
   exact sS CK hr (by rfl) (zx (pU (sQ (zj 1 rfl (wH (zj 1 rfl (zZ ⟨_,rfl,rd,hl,_,rfl,qA rd,q⟩)))))))
  ·subst h hz
   exact sS CK hr (by rfl) (zx (pU (sQ (zj 1 rfl (wx (EvL.d (xI (zZ ⟨_,rfl,zd1 rfl,zZ ⟨[],rfl,rd,hl,_,rfl,qA rd,q⟩⟩))))))))
theorem ay :zl ["self"] ["self"] (zb xY):=⟨rfl,rfl,rfl,by decide +kernel,rfl,by decide +kernel,by decide +kernel⟩
theorem cY :zA ["self"] (zb xY) ["rule"] [none] jg:=⟨rfl,by decide +kernel,by decide +kernel,by decide +kernel,by decide +kernel,rfl,by decide +kernel⟩
set_option maxHeartbeats 4000000 in
theorem mz {f C:Addr}{fd:FuncData}(F:Fun K "rules" "Book.rules" xY f fd)(c:Cls K C)(na:yD K C "kept")(hb:Binds K fd ["self"] [])(O:∀w'∈words,uV P w K mg base (cs.of w') "told" 2 (oq (cs.of w') w')):zt P w K mg base CX0 3 f fd ["self"] (spA (vW C cs)):=by
 refine fnA F ay (fun as Q h=>?_) (fun cdv A' outer s H E as Q hr h=>?_)
 ·obtain⟨ds,rfl,_⟩:=h
  rfl
 ·obtain⟨ds,rfl,rd,hl,q⟩:=h
  refine oU (nK (pat:=.one 0) rfl cY rfl (fun _ _ _ _=>zz (i:=0) cY.nd rfl (Or.inl rfl)) (yq (cg c na (zj 0 rfl ⟨_,_,rfl,rfl,⟨_,rfl,by rw[aI];exact hl,?comp⟩⟩))))
  case comp=>
   refine tV (fun i acc=>acc=ds.take i) rfl ?_ (fun acc h=>?_)
   ·rintro i d acc hd rfl
    rw[za6,zb9] at hd
    obtain⟨e,he,rfl⟩:=hd
    obtain⟨s',a,b,v,hs,rfl,ei⟩:=wB (cs:=cs) (rd e (za4 he)).1
    refine⟨_,rfl,fun C s2 H2 fp=>wC ?_⟩
    rw[if_pos rfl]
    refine fun C s2 H2 fp=>qw (O s' hs) hr (zj 0 rfl ⟨_,rfl,rfl,_,_,_,rfl,?_⟩)
    show ds.take i++[_]=ds.take (i+1)
    rw[zf1,he]
    rfl
   ·rw[aI,zg5] at h
    rw[h]
    exact q
end
def gD :PyData→PyData
 |.tuple [_,_,_,v]=>v
 |_=>.none
theorem zX {d:PyData}(h:yM d=true):∃(s:Str) (i j:Int) (v:PyData),s∈words∧d=.tuple [.str s,.int i,.int j,v]∧0≤i∧i≤j∧j≤1000000∧zC (.str s) v=true:=by
 obtain⟨s,a,b,v,hs,rfl⟩:=xf h
 have h':(yh (.tuple [a,b])&&zC (.str s) v)=true:=h
 rw[za0] at h'
 have h1:=h'.1
 unfold yh tq at h1
 split at h1
 ·rename_i k e
  split at e
  ·rename_i z
   cases z
   split at e
   ·rename_i q
    cases e
    rw[za0] at q
    rename_i a' b'
    have qa:(decide (0≤a')&&decide (a'≤1000000))=true:=q.1
    have qb:(decide (0≤b')&&decide (b'≤1000000))=true:=q.2
    rw[za0,aZ,aZ] at qa qb
    have h2:=of_decide_eq_true h1
    exact⟨s,a',b',v,hs,rfl,qa.1,by omega,qb.2,h'.2⟩
   ·cases e
  ·cases e
 ·cases h1
theorem vI (d:PyData):zC (.str "price") d=(isNone d||wy d):=by unfold zC;rw[if_pos (by decide +kernel)]
theorem oF (d:PyData):zC (.str "come") d=isBool d:=by unfold zC;rw[if_neg (by decide +kernel),if_pos (by decide +kernel)]
theorem ir (d:PyData):zC (.str "go") d=isBool d:=by unfold zC;rw[if_neg (by decide +kernel),if_pos (by decide +kernel)]
theorem qo (d:PyData):zC (.str "least") d=yf 1 14 d:=by unfold zC;rw[if_neg (by decide +kernel),if_neg (by decide +kernel),if_pos (by decide +kernel)]
theorem oC (d:PyData):zC (.str "most") d=yf 1 14 d:=by unfold zC;rw[if_neg (by decide +kernel),if_neg (by decide +kernel),if_pos (by decide +kernel)]
theorem uT (d:PyData):zC (.str "deal") d=(isNone d||uh d):=by unfold zC;rw[if_neg (by decide +kernel),if_neg (by decide +kernel),if_neg (by decide +kernel),if_pos (by decide +kernel)]
theorem tW (d:PyData):zC (.str "fee") d=wy d:=by
 unfold zC
 rw[if_neg (by decide +kernel),if_neg (by decide +kernel),if_neg (by decide +kernel),if_neg (by decide +kernel),show eqS (.str "fee") "fee"=true by decide +kernel,zb3]
theorem within_int {lo hi i:Int}(h1:lo≤i)(h2:i≤hi):yf lo hi (.int i)=true:=by
 show (decide (lo≤i)&&decide (i≤hi))=true
 rw[zb6 h1,zb6 h2]<;>rfl
theorem jY {i:Int}(h0:-2000000000000≤i)(h1:i≤2000000000000):zL 2000 (.int i):=zL.int (by unfold big;omega) (by unfold big;omega)
def nB :List A→(A→Prop)→Prop:=fun as Q=>as=[.tape]∧∀z:Int,0≤z→z≤1000000000000→Q (.dat (.int z))
def qL :List A→(A→Prop)→Prop:=fun as Q=>∃wd,as=[.tape,.dat (.str wd)]∧wd∈words∧∀d,zC (.str wd) d=true→zL 5000 d→d.depth≤1→Q (.dat d)
theorem gq {m f:Int}(h0:2≤m)(h1:m≤14)(h2:1≤f)(h3:f<m):zC (.str "deal") (.tuple [.int m,.int f])=true∧zL 5000 (.tuple [.int m,.int f])∧(PyData.tuple [.int m,.int f]).depth≤1:=by
 have hbig:(1000001:Int)<big:=by decide
 have hneg:-big<(0:Int):=by decide
 refine⟨?_,zL.tuple (n:=2000) (yg.two (zL.int (by omega) (by omega)) (zL.int (by omega) (by omega)) (aS _) (aS _)) (by show 2*(2000+2)+3≤5000;decide),by simp[PyData.depth,PyData.depthAll]⟩
 rw[uT]
 show (false||(yf 2 14 (.int m)&&yf 1 (m-1) (.int f)))=true
 rw[within_int h0 h1,within_int h2 (by omega)]
 rfl
end K13
set_option compiler.extract_closed false
set_option hygiene false in
local macro_rules
 |`(tactic| exists $f,$a)=>`(tactic| first|refine $f 0 $a ?_|refine $f 1 $a ?_|refine $f 2 $a ?_|refine $f 3 $a ?_|refine $f 4 $a ?_|refine $f 5 $a ?_|refine $f 6 $a ?_|refine $f 7 $a ?_|refine $f 8 $a ?_|refine $f 9 $a ?_|refine $f 10 $a ?_|refine $f 11 $a ?_|refine $f 12 $a ?_|refine $f 13 $a ?_|refine $f 14 $a ?_|refine $f 15 $a ?_|refine $f 16 $a ?_|refine $f 17 $a ?_)
set_option hygiene false in
local macro_rules
 |`(tactic| and_intros)=>`(tactic| repeat (first
  |((with_reducible show EvD _ _ _ _);first
   |((with_reducible show EvD _ _ (.Name _ _) _);exists zj,rfl)
   |((with_reducible show EvD _ _ (.Constant _ _ _) _);first|with_reducible refine zY ?_|with_reducible refine cD ?_|with_reducible refine ev_bl ?_|with_reducible refine jL ?_)
   |((with_reducible show EvD _ _ (.BinOp (.Constant (.int 10) _ _) .Pow (.Constant (.int 6) _ _) _) _);refine sF (r:=1000000) ⟨by decide,by decide,by decide⟩ (by decide) ?_)
   |((with_reducible show EvD _ _ (.BinOp (.Constant (.int 10) _ _) .Pow (.Constant (.int 12) _ _) _) _);refine sF (r:=1000000000000) ⟨by decide,by decide,by decide⟩ (by decide) ?_)
   |((with_reducible show EvD _ _ (.BinOp (.Constant (.int 10) _ _) .Pow (.Constant (.int 9) _ _) _) _);refine sF (r:=1000000000) ⟨by decide,by decide,by decide⟩ (by decide) ?_)
   |((with_reducible show EvD _ _ (.BinOp (.Constant (.int 10) _ _) .Pow (.Constant (.int 11) _ _) _) _);refine sF (r:=100000000000) ⟨by decide,by decide,by decide⟩ (by decide) ?_)
   |((with_reducible show EvD _ _ (.BinOp _ .Add (.List _ _) _) _);refine EvL.d (wD ?_))
   |((with_reducible show EvD _ _ (.BinOp (.List _ _) .Add _ _) _);refine EvL.d (wD ?_))
   |((with_reducible show EvD _ _ (.BinOp (.Subscript _ (.Slice _ _ none _) _) .Add _ _) _);refine EvL.d (wD ?_))
   |((with_reducible show EvD _ _ (.BinOp _ .Add (.Subscript _ (.Slice _ _ none _) _) _) _);refine EvL.d (wD ?_))
   |((with_reducible show EvD _ _ (.BinOp (.Call (.Attribute _ "rules" _) _ _ _) .Add _ _) _);refine EvL.d (wD ?_))
   |with_reducible refine pH ?_
   |with_reducible refine dq ?_
   |with_reducible refine ev_mod ?_
   |with_reducible refine ev_fdiv ?_
   |with_reducible refine ev_mul ?_
   |with_reducible refine ev_shl ?_
   |with_reducible refine kx ?_
   |with_reducible refine ev_not ?_
   |with_reducible refine qV ?_
   |((with_reducible show EvD _ _ (.Subscript _ (.Slice _ _ none _) _) _);refine EvL.d (tN ?_))
   |((with_reducible show EvD _ _ (.Subscript _ _ _) _);refine pN hr.one (fun _ _=>rfl) ?_)
   |((with_reducible show EvD _ _ (.List _ _) _);refine EvL.d (xI ?_))
   |((with_reducible show EvD _ _ (.Call (.Name "len" _) [.Call (.Name "set" _) _ _ _] _ _) _);refine ev_lenSet rfl (by rfl) nb.len (by rfl) (by assumption) ?_)
   |((with_reducible show EvD _ _ (.Call (.Name "len" _) _ _ _) _);refine xC (by rfl) nb.len ?_)
   |((with_reducible show EvD _ _ (.Call (.Name "min" _) [_,_] _ _) _);refine eR rfl (by rfl) nb.min ?_)
   |((with_reducible show EvD _ _ (.Call (.Name "max" _) [_,_] _ _) _);refine dQ rfl (by rfl) nb.max ?_)
   |((with_reducible show EvD _ _ (.Call (.Name "list" _) _ _ _) _);refine EvL.d (sA (by rfl) nb.list ?_))
   |((with_reducible show EvD _ _ (.Call (.Name "repr" _) _ _ _) _);refine nE hr.gd hr.units (by rfl) nb.repr ?_)
   |((with_reducible show EvD _ _ (.Call (.Name "min" _) [_] _ _) _);refine ev_minI rfl hr.few (by rfl) nb.min ?_)
   |((with_reducible show EvD _ _ (.Call (.Name "isinstance" _) _ _ _) _);first|refine xK (by rfl) nb.isinstance (by rfl) nb.int boot_int ?_|refine xK (by rfl) nb.isinstance (by rfl) nb.bool boot_bool ?_|refine xK (by rfl) nb.isinstance (by rfl) nb.str boot_str ?_|refine xK (by rfl) nb.isinstance (by rfl) nb.list boot_list ?_|refine xK (by rfl) nb.isinstance (by rfl) nb.tuple boot_tuple ?_)
   |((with_reducible show EvD _ _ (.Call (.Name "int" _) _ _ _) _);refine ev_intB (by rfl) nb.int ?_)
   |((with_reducible show EvD _ _ (.Call (.Name _ _) _ _ _) _);first|refine gQ (by with_reducible assumption) (by exact⟨rfl,rfl,rfl,rfl,rfl⟩) (hr.mono (by decide)) (by rfl) ?_|refine EvN.d (en_makeR (by with_reducible assumption) (by exact⟨rfl,rfl,rfl,rfl,rfl⟩) (hr.mono (by decide)) (by rfl) ?_))
   |((with_reducible show EvD _ _ (.Call (.Attribute _ _ _) (_::_) _ _) _);refine lN (by with_reducible assumption) (by exact⟨rfl,rfl,rfl,rfl,rfl⟩) (hr.mono (by decide)) ?_)
   |((with_reducible show EvD _ _ (.Call (.Attribute _ _ _) [] _ _) _);refine mJ (by with_reducible assumption) (by exact⟨rfl,rfl,rfl,rfl,rfl⟩) (hr.mono (by decide)) ?_)
   |((with_reducible show EvD _ _ (.Compare _ [_] _ _) _);first|with_reducible refine fN ?_|with_reducible refine bL ?_|with_reducible refine fU ?_|with_reducible refine ev_ge ?_|with_reducible refine ev_isN ?_|with_reducible refine ev_notN ?_|((with_reducible show EvD _ _ (.Compare _ [.Eq] _ _) _);refine eN hr.units ?_)|((with_reducible show EvD _ _ (.Compare _ [.NotEq] _ _) _);refine ev_nek hr.units ?_)|((with_reducible show EvD _ _ (.Compare _ [.In] _ _) _);refine ev_ink hr.one ?_)|((with_reducible show EvD _ _ (.Compare _ [.NotIn] _ _) _);refine ev_nink hr.one ?_)|((with_reducible show EvD _ _ (.Compare _ [.Is] [.Constant (.bool _) _ _] _) _);refine ev_isB ?_))
   |((with_reducible show EvD _ _ (.Compare _ [_,_] _ _) _);first|refine ev_lelt ?_|refine ev_ltle ?_|refine ev_lele' ?_)
   |((with_reducible show EvD _ _ (.BoolOp _ _ _) _);first|with_reducible refine eE ?_|with_reducible refine ev_or ?_|with_reducible refine eJ ?_)
   |with_reducible refine pU ?_)
  |((with_reducible show EvA _ _ _ _);first
   |with_reducible refine zZ ?_
   |((with_reducible show EvA _ _ (.Name "_law_tape_here" _::_) _);exists gR,rfl)
   |refine zx ?_)
  |((with_reducible show EvT _ _ _ _);first
   |((with_reducible show EvT _ _ (.Compare _ [_] _ _) _);first|with_reducible refine et_lt ?_|with_reducible refine jK ?_|with_reducible refine ju ?_|with_reducible refine et_ge ?_|with_reducible refine sQ ?_|with_reducible refine et_notN ?_|((with_reducible show EvT _ _ (.Compare _ [.Eq] _ _) _);refine dR hr.units ?_)|((with_reducible show EvT _ _ (.Compare _ [.NotEq] _ _) _);refine pe hr.units ?_)|((with_reducible show EvT _ _ (.Compare _ [.In] _ _) _);refine et_ink hr.one ?_)|((with_reducible show EvT _ _ (.Compare _ [.NotIn] _ _) _);refine et_nink hr.one ?_)|((with_reducible show EvT _ _ (.Compare _ [.Is] [.Constant (.bool _) _ _] _) _);refine et_isB ?_)|((with_reducible show EvT _ _ (.Compare _ [.IsNot] [.Constant (.bool _) _ _] _) _);refine et_isntB ?_))
   |((with_reducible show EvT _ _ (.Compare _ [_,_] _ _) _);first|refine et_lelt ?_|refine et_ltle ?_|refine et_lele' ?_)
   |with_reducible refine uC ?_
   |((with_reducible show EvT _ _ (.BoolOp _ _ _) _);with_reducible refine EvW.t ?_)
   |refine et_truth ?_)
  |((with_reducible show EvL _ _ _ _);first
   |with_reducible refine xI ?_
   |((with_reducible show EvL _ _ (.Call (.Name "list" _) _ _ _) _);refine sA (by rfl) nb.list ?_)
   |((with_reducible show EvL _ _ (.Call (.Name _ _) _ _ _) _);refine el_calR (by with_reducible assumption) (by exact⟨rfl,rfl,rfl,rfl,rfl⟩) (hr.mono (by decide)) (by rfl) ?_)
   |((with_reducible show EvL _ _ (.Call (.Attribute _ _ _) [] _ _) _);refine el_meth0R (by with_reducible assumption) (by exact⟨rfl,rfl,rfl,rfl,rfl⟩) (hr.mono (by decide)) ?_)
   |((with_reducible show EvL _ _ (.Subscript _ (.Slice _ _ none _) _) _);refine tN ?_)
   |((with_reducible show EvL _ _ (.BinOp _ .Add _ _) _);refine wD ?_))
  |((with_reducible show EvW _ _ _ _);first
   |with_reducible refine jc ?_
   |with_reducible refine nR ?_
   |with_reducible refine oX ?_
   |with_reducible refine pI ?_)
  |((with_reducible show EvO _ _ _ _);first
   |with_reducible refine vZ ?_
   |with_reducible refine ua ?_)
  |((with_reducible show jD _ _ _);first
   |refine ixk rfl rfl rfl ?_
   |refine ixk_0 ?_
   |refine ixk_1 ?_)
  |((with_reducible show InOk _ _ _ _);first
   |refine ink rfl rfl ?_
   |refine inkT rfl rfl ?_)
  |((with_reducible show qJ _ _ _);first
   |with_reducible refine iR ?_
   |with_reducible refine oT ?_
   |with_reducible refine rW ?_
   |refine eqk rfl rfl rfl rfl ?_)
  |((with_reducible show SvS _ _ _ _);first
   |((with_reducible show SvS _ (List.set _ _ _) _ _);dsimp only[List.set])
   |((with_reducible show SvS _ _ (zw _) _);show SvS _ _ (_::_) _)
   |((with_reducible show SvS _ _ (.Assign [.Name _ _] (.List [] _) _::_) _);exists sC,nd)
   |((with_reducible show SvS _ _ (.Assign [.Name _ _] _ _::_) _);exists tf,nd)
   |((with_reducible show SvS _ _ (.Expr (.Call (.Attribute _ "append" _) _ _ _) _::_) _);exists vd,rfl)
   |((with_reducible show SvS _ _ (.Return (some (.Name _ _)) _::_) _);exists nQ,rfl)
   |with_reducible refine rG ?_
   |with_reducible refine sv_cont ?_
   |with_reducible refine sv_pass ?_
   |with_reducible refine vF ?_
   |with_reducible refine zT ?_
   |((with_reducible refine gx ?hk ?_);case hk=>first|rfl|decide +kernel)
   |((with_reducible refine uc ?hk ?_);case hk=>first|rfl|decide +kernel))
  |((with_reducible show xU _ _);refine⟨_,rfl,by first|decide|omega,by first|decide|(show _<big;unfold big;omega),fun _ _ _=>?_⟩)
  |((with_reducible refine fL ?hk ?_);case hk=>first|rfl|decide +kernel)
  |((with_reducible refine jv ?hk ?_);case hk=>first|rfl|decide +kernel)
  |refine⟨_,_,rfl,rfl,?_⟩
  |refine⟨_,_,_,rfl,rfl,rfl,?_⟩
  |refine⟨_,rfl,zd1 rfl,?_⟩
  |refine⟨_,rfl,rfl,?_⟩
  |refine⟨_,rfl,?_⟩))
namespace K13
open PySem PySem.Spec PyProof.Rows L2
abbrev rH :Stmt:=top 42
abbrev rl :Stmt:=top 43
section
variable {P:Program}{w:World}{K:PySem.W.Frag}{mg:Str→Option Value}{base:Heap}{cs:Cs}
theorem bw :zl ["_law_tape_here"] ["_law_tape_here"] (zb rH):=⟨rfl,rfl,rfl,by decide +kernel,rfl,by decide +kernel,by decide +kernel⟩
theorem mB {f:Addr}{fd:FuncData}(F:Fun K "_law_coins" "_law_coins" rH f fd)(hm:mg "_law_coins"=some (.ref f))(hb:Binds K fd ["_law_tape_here"] [])(CD:Cal P w K mg base "_law_draw" 1 xU):Cal P w K mg base "_law_coins" 2 nB:=by
 refine tw F hm hb bw (fun as Q h=>?_) (fun cdv A' outer s H E as Q hr h=>?_)
 ·obtain⟨rfl,_⟩:=h
  rfl
 ·obtain⟨rfl,q⟩:=h
  have nd:=bw.nd
  and_intros
  exact rg rfl (by assumption) (by assumption) ⟨q _ (by omega) (by omega),q _ (by omega) (by omega),q _ (by omega) (by omega),q _ (by omega) (by omega),q _ (by omega) (by omega),trivial⟩
theorem cO :zl ["_law_tape_here","_law_word","_law_many"] ["_law_tape_here","_law_word"] (zb rl):=⟨rfl,rfl,rfl,by decide +kernel,rfl,by decide +kernel,by decide +kernel⟩
set_option maxHeartbeats 4000000 in
theorem nY {f:Addr}{fd:FuncData}(F:Fun K "_law_worth" "_law_worth" rl f fd)(hm:mg "_law_worth"=some (.ref f))(hb:Binds K fd ["_law_tape_here","_law_word"] [])(CD:Cal P w K mg base "_law_draw" 1 xU)(CC:Cal P w K mg base "_law_coins" 2 nB):Cal P w K mg base "_law_worth" 3 qL:=by
 refine tw F hm hb cO (fun as Q h=>?_) (fun cdv A' outer s H E as Q hr h=>?_)
 ·obtain⟨wd,rfl,_⟩:=h
  rfl
 ·obtain⟨wd,rfl,hw,q⟩:=h
  have nd:=cO.nd
  have qc:∀z:Int,0≤z→z≤1000000000000→wy (.int z)=true:=fun z h0 h1=>within_int h0 h1
  have hbig:(1000000000001:Int)<big:=by decide
  have hneg:-big<(0:Int):=by decide
  have nc:∀z:Int,0≤z→z≤1000000000000→zL 5000 (.int z):=fun z h0 h1=>(zL.int (by omega) (by omega)).mono (by decide)
  have qn:zC (.str wd) .none=true→Q (.dat .none):=fun h=>q _ h (zL.none.mono (by decide)) (aS _)
  have qi:∀z:Int,0≤z→z≤1000000000000→zC (.str wd) (.int z)=true→Q (.dat (.int z)):=fun z a b h=>q _ h (nc z a b) (aS _)
  have qd:∀m f:Int,wd="deal"→2≤m→m≤14→1≤f→f<m→Q (.dat (.tuple [.int m,.int f])):=fun m f e a b c d=>by
   subst e
   obtain⟨x,y,z⟩:=gq a b c d
   exact q _ x y z
  have qp:∀z:Int,0≤z→z≤1000000000000→wd="price"→Q (.dat (.int z)):=fun z a b e=>by
   subst e
   exact qi z a b (by rw[vI,qc z a b,Bool.or_true])
  simp only[words,aP,za7,zd4] at hw
  rcases hw with rfl|rfl|rfl|rfl|rfl|rfl|rfl
  ·and_intros
   refine⟨rfl,fun z1 a1 b1=>?_⟩
   and_intros
   refine⟨rfl,fun z2 a2 b2=>?_⟩
   and_intros
   exact rg rfl (by assumption) (by assumption) ⟨qn (by rw[vI]<;>rfl),qp z1 a1 b1 rfl,qp z2 a2 b2 rfl,trivial⟩
  ·and_intros
   exact q _ (by rw[oF]<;>rfl) ((zL.bool _).mono (by decide)) (aS _)
  ·and_intros
   exact q _ (by rw[ir]<;>rfl) ((zL.bool _).mono (by decide)) (aS _)
  ·and_intros
   exact qi _ (by omega) (by omega) (by rw[qo];exact within_int (by omega) (by omega))
  ·and_intros
   exact qi _ (by omega) (by omega) (by rw[oC];exact within_int (by omega) (by omega))
  ·and_intros
   exact rg rfl (by assumption) (by assumption) ⟨qn (by rw[uT]<;>rfl),qd _ _ rfl (by omega) (by omega) (by omega) (by omega),qd _ _ rfl (by omega) (by omega) (by omega) (by omega),qd _ _ rfl (by omega) (by omega) (by omega) (by omega),trivial⟩
  ·and_intros
   refine⟨rfl,fun z1 a1 b1=>?_⟩
   exact qi z1 a1 b1 (by rw[tW];exact qc z1 a1 b1)
end
structure vn (d:PyData):Prop where
 rule:yM d=true
 nice:zL 20011 d
 dep:d.depth≤2
 wn:zL 5000 (gD d)
def yv (ds:List PyData):Prop:=∀d∈ds,vn d
theorem mV {s:Str}(h:s∈words):zL 2000 (.str s):=by
 simp only[words,aP,za7,zd4] at h
 rcases h with rfl|rfl|rfl|rfl|rfl|rfl|rfl<;>exact⟨rfl,rfl,aS _,by decide +kernel,by decide +kernel⟩
theorem vn.of {s:Str}{i j:Int}{d:PyData}(hs:s∈words)(i0:0≤i)(ij:i≤j)(j1:j≤1000000)(hw:zC (.str s) d=true)(hn:zL 5000 d)(hd:d.depth≤1):vn (.tuple [.str s,.int i,.int j,d]):=by
 have hbig:(1000001:Int)<big:=by decide
 have hneg:-big<(0:Int):=by decide
 have na:yg 5000 [.str s,.int i,.int j,d]:=by
  constructor
  ·intro x hx
   simp only[aP,za7,zd4] at hx
   rcases hx with rfl|rfl|rfl|rfl
   ·exact (mV hs).mono (by decide)
   ·exact (zL.int (by omega) (by omega)).mono (by decide)
   ·exact (zL.int (by omega) (by omega)).mono (by decide)
   ·exact hn
  ·intro x hx
   simp only[aP,za7,zd4] at hx
   rcases hx with rfl|rfl|rfl|rfl
   ·exact aS _
   ·exact aS _
   ·exact aS _
   ·omega
 refine⟨?_,zL.tuple na (by show 4*(5000+2)+3≤20011;decide),?_,hn⟩
 ·show (yh (.tuple [.int i,.int j])&&zC (.str s) d)=true
  rw[hw,Bool.and_true]
  unfold yh tq
  have h1:(wW (.int i)&&wW (.int j))=true:=by
   show ((decide (0≤i)&&decide (i≤1000000))&&(decide (0≤j)&&decide (j≤1000000)))=true
   simp only[za0,aZ]
   omega
  simp only[h1,if_true,aZ]
  omega
 ·simp only[PyData.depth,PyData.depthAll]
  omega
theorem yv.rules {ds:List PyData}(h:yv ds):Rules ds:=fun d hd=>⟨(h d hd).rule,(h d hd).nice.shaped,(h d hd).nice.nod⟩
theorem yv.nice {ds:List PyData}(h:yv ds)(hl:ds.length≤100):zL sizeLine (.list ds):=by
 refine zL.list (n:=20011) ⟨fun d hd=>(h d hd).nice,fun d hd=>by have:=(h d hd).dep;omega⟩ ?_
 have h2:ds.length*(20011+2)≤100*(20011+2):=zg6 _ hl
 have h3:100*(20011+2)+2≤sizeLine:=by decide
 omega
theorem ub {ds:List PyData}{lo hi:Option Int}{d:PyData}(h:d∈L2.cutD ds lo hi):d∈ds:=by
 unfold L2.cutD at h
 exact List.mem_of_mem_drop (List.mem_of_mem_take h)
theorem vU {ds:List PyData}{lo hi:Option Int}:(L2.cutD ds lo hi).length≤ds.length:=by
 unfold L2.cutD
 rw[zc6,zf5]
 omega
abbrev qU :Stmt:=top 44
abbrev pL :Stmt:=top 45
def qO :List A→(A→Prop)→Prop:=fun as Q=>∃bs:Int,as=[.tape,.dat (.int bs)]∧0≤bs∧bs≤999960∧∀d,vn d→Q (.dat d)
def oY :List A→(A→Prop)→Prop:=fun as Q=>as=[.tape]∧∀b:Int,0≤b→b≤999960→Q (.dat (.int b))
section
variable {P:Program}{w:World}{K:PySem.W.Frag}{mg:Str→Option Value}{base:Heap}{cs:Cs}
theorem bg :zl ["_law_tape_here","_law_base_here","_law_word","_law_first","_law_last"] ["_law_tape_here","_law_base_here"] (zb qU):=⟨rfl,rfl,rfl,by decide +kernel,rfl,by decide +kernel,by decide +kernel⟩
theorem pA {f:Addr}{fd:FuncData}(F:Fun K "_law_rule" "_law_rule" qU f fd)(hm:mg "_law_rule"=some (.ref f))(hb:Binds K fd ["_law_tape_here","_law_base_here"] [])(CD:Cal P w K mg base "_law_draw" 1 xU)(CW:Cal P w K mg base "_law_worth" 3 qL):Cal P w K mg base "_law_rule" 4 qO:=by
 refine tw F hm hb bg (fun as Q h=>?_) (fun cdv A' outer s H E as Q hr h=>?_)
 ·obtain⟨bs,rfl,_⟩:=h
  rfl
 ·obtain⟨bs,rfl,b0,b1,q⟩:=h
  have nd:=bg.nd
  and_intros
  refine nD (fun d=>∃s:Str,d=.str s∧s∈words) rfl (by assumption) (by assumption) ⟨⟨_,rfl,by simp[words]⟩,⟨_,rfl,by simp[words]⟩,⟨_,rfl,by simp[words]⟩,⟨_,rfl,by simp[words]⟩,⟨_,rfl,by simp[words]⟩,⟨_,rfl,by simp[words]⟩,⟨_,rfl,by simp[words]⟩,trivial⟩ ?_
  rintro _ ⟨wd,rfl,hw⟩
  and_intros
  rename_i v1 a1 c1 v2 a2 c2 v3 a3 c3 v4 a4 c4
  refine nD (fun d=>∃z:Int,d=.int z∧0≤z∧z≤15) rfl (by assumption) (by assumption) ⟨⟨_,rfl,by omega,by omega⟩,⟨_,rfl,by omega,by omega⟩,⟨_,rfl,by omega,by omega⟩,⟨_,rfl,by omega,by omega⟩,trivial⟩ ?_
  rintro _ ⟨z,rfl,z0,z1⟩
  refine⟨_,_,rfl,rfl,?_⟩
  refine xJ (fun α=>∃i j:Int,α=[some .tape,some (.dat (.int bs)),some (.dat (.str wd)),some (.dat (.int i)),some (.dat (.int j))]∧0≤i∧i≤j∧j≤1000000) ?_ ?_
  ·and_intros
   refine wa (fun _=>?_) (fun _=>?_)
   ·and_intros
    exact⟨_,_,rfl,by omega,by omega,by omega⟩
   ·and_intros
    exact⟨_,_,rfl,by omega,by omega,by omega⟩
  rintro α ⟨i,j,rfl,i0,ij,j1⟩
  refine xJ (fun α=>∃i j:Int,α=[some .tape,some (.dat (.int bs)),some (.dat (.str wd)),some (.dat (.int i)),some (.dat (.int j))]∧0≤i∧i≤j∧j≤1000000) ?_ ?_
  ·and_intros
   refine wa (fun _=>?_) (fun _=>?_)
   ·and_intros
    refine⟨_,_,rfl,by omega,?_,?_⟩
    ·show i≤(1000000:Int)
     omega
    ·exact ze4 _
   ·and_intros
    exact⟨_,_,rfl,by omega,by omega,by omega⟩
  rintro α ⟨i,j,rfl,i0,ij,j1⟩
  and_intros
  refine⟨hw,fun v wv nv dv=>?_⟩
  and_intros
  exact q _ (vn.of hw i0 ij j1 wv nv dv)
theorem fx :zl ["_law_tape_here"] ["_law_tape_here"] (zb pL):=⟨rfl,rfl,rfl,by decide +kernel,rfl,by decide +kernel,by decide +kernel⟩
theorem mr {f:Addr}{fd:FuncData}(F:Fun K "_law_base" "_law_base" pL f fd)(hm:mg "_law_base"=some (.ref f))(hb:Binds K fd ["_law_tape_here"] [])(CD:Cal P w K mg base "_law_draw" 1 xU):Cal P w K mg base "_law_base" 2 oY:=by
 refine tw F hm hb fx (fun as Q h=>?_) (fun cdv A' outer s H E as Q hr h=>?_)
 ·obtain⟨rfl,_⟩:=h
  rfl
 ·obtain⟨rfl,q⟩:=h
  have nd:=fx.nd
  and_intros
  rename_i v1 a1 c1 v2 a2 c2
  refine nD (fun d=>∃z:Int,d=.int z∧0≤z∧z≤999960) rfl (by assumption) (by assumption) ⟨⟨_,rfl,by omega,by omega⟩,⟨_,rfl,by omega,by omega⟩,⟨_,rfl,by omega,by omega⟩,trivial⟩ ?_
  rintro _ ⟨z,rfl,z0,z1⟩
  and_intros
  exact q z z0 z1
end
open SortA Days
abbrev ue :Stmt:=top 10
structure gO (mg:Str→Option Value)(fS:Addr):Prop where
 sorted:mg "sorted"=none
 max:mg "max"=none
 min:mg "min"=none
 spread:mg "spread"=some (.ref fS)
def rO (K:PySem.W.Frag):Sp:=fun vs H Q _=>∃(p:Addr) (xs:List V) (ps:List Sp2),vs=[.ref p]∧H p=some (.lst xs)∧PrV H xs ps∧ps.length<64∧(∀s∈ps,s.1≤s.2)∧
 ∀l H' zs r,H l=none→H' l=some (.lst zs)→PrV H' zs r→Canon r→(∀d,Has r d↔Has ps d)→r.length≤ps.length→zo H H'→Q (.ref l) H'
theorem lX (r:List Sp2)(s:Sp2):(join r s).length≤r.length+1:=by
 rcases snoc_cases r with rfl|⟨i,p,rfl⟩
 ·simp[Days.join_nil]
 ·rw[join_snoc];split<;>simp
theorem xN :∀(l r:List Sp2),(yz r l).length≤r.length+l.length
 |[],r=>by simp[yz]
 |s::l,r=>by
  have h1:=xN l (join r s)
  have h2:=lX r s
  show (yz (join r s) l).length≤_
  simp only[aW]
  omega
theorem sX {qs:List Sp2}{i:Nat}{q:Sp2}(h:qs[i]?=some q):yz [] (qs.take (i+1))=join (yz [] (qs.take i)) q:=by
 rw[zf1,h]
 simp[yz,List.foldl_append]
theorem ky {ps qs:List Sp2}(h:qs.Perm ps)(d:Int):Has qs d↔Has ps d:=by
 constructor
 ·rintro⟨p,hp,x⟩;exact⟨p,h.mem_iff.mp hp,x⟩
 ·rintro⟨p,hp,x⟩;exact⟨p,h.mem_iff.mpr hp,x⟩
theorem ib {H:Hp}{zs:List V}{r:List Sp2}{p:Sp2}(h:PrV H zs (r++[p])):∃ys a,zs=ys++[.ref a]∧PrV H ys r∧H a=some (.tup [.int p.1,.int p.2]):=by
 induction r generalizing zs with
 |nil=>cases h with|cons e h'=>cases h';exact⟨[],_,rfl,.nil,e⟩
 |cons q r ih=>
  cases h with
  |cons e h'=>
   obtain⟨ys,a,rfl,x,y⟩:=ih h'
   exact⟨_::ys,a,rfl,.cons e x,y⟩
theorem gG {H:Hp}{zs:List V}(h:PrV H zs []):zs=[]:=by cases h;rfl
theorem qC {α:Type}(ys:List α)(x:α):ixN (ys++[x]).length (-1)=some ys.length:=by
 unfold ixN
 simp
 omega
theorem uH {α:Type}(ys:List α)(x:α):atI (ys++[x]) (-1)=some x:=by
 unfold atI
 rw[qC]
 simp
theorem cx {c A B:Prop}[Decidable c](hc:c)(h:A):if decide c=true then A else B:=by
 rw[zb6 hc]
 exact wx h
theorem eW {c A B:Prop}[Decidable c](hc:¬c)(h:B):if decide c=true then A else B:=by
 rw[zc1 hc]
 exact wH h
theorem jO {α:Type}(ys:List α)(x y:α):(ys++[x]).set ys.length y=ys++[y]:=by simp
section
variable {P:Program}{w:World}{K:PySem.W.Frag}{mg:Str→Option Value}{base:Heap}
theorem dn :zl ["stretches","rising","stretch"] ["stretches"] (zb ue):=⟨rfl,rfl,rfl,by decide +kernel,rfl,by decide +kernel,by decide +kernel⟩
set_option maxHeartbeats 4000000 in
theorem mx {f fS:Addr}{fd:FuncData}(F:Fun K "spread" "spread" ue f fd)(T:gO mg fS):zt P w K mg base CX0 1 f fd ["stretches"] (rO K):=by
 refine F.ok dn (fun vs H Q E h=>?_) (fun cdv A outer s H vs Q E hr h=>?_)
 ·obtain⟨p,xs,ps,rfl,_⟩:=h
  rfl
 ·obtain⟨p,xs,ps,rfl,hp,pp,h64,hval,k⟩:=h
  -- rising=[]
  refine zy (fun σ H1=>∃l,σ=[some (.ref p),some (.ref l),none]∧H l=none∧upd H l (.lst [])=H1)
   ⟨_,yH (i:=1) dn.nd rfl (Or.inl rfl) (sJ zh),?_⟩ ?_
  ·exact⟨aS _,fun l hl=>⟨l,rfl,hl,rfl⟩⟩
  rintro σ H1 ⟨l,rfl,hl,rfl⟩
  have nl:∀{c:Addr} {o:HO},H c=some o→c≠l:=fun e=>zd e hl
  -- the loop
  refine zy (fun σ H2=>∃v2 zs r,σ=[some (.ref p),some (.ref l),v2]∧H2 l=some (.lst zs)∧PrV H2 zs r∧Canon r∧(∀d,Has r d↔Has ps d)∧r.length≤ps.length∧zo H H2) ?_ ?_
  ·refine⟨_,uu ze0 rfl (xX (zH sj (by rfl) T.sorted boot_sorted (za (pv 0) zh))) (zz (i:=2) dn.nd rfl (Or.inl rfl)) zK,?_⟩
   refine⟨_,rfl,p,xs,ps,rfl,by rw[zc (nl hp)];exact hp,pp.keep fun a x y e=>by rw[zc (nl e)];exact e,h64,fun l' ys qs hl' pq perm rise=>?_⟩
   have nll:l≠l':=fun z=>by rw[←z,ze] at hl';cases hl'
   have hlen:=pq.len
   refine⟨l',rfl,⟨_,SqL.of ze⟩,?_⟩
   refine uq (K:=K) (a:=l') (xs:=ys) (fun i σ H2=>∃v2 zs,σ=[some (.ref p),some (.ref l),v2]∧H2 l=some (.lst zs)∧PrV H2 zs (yz [] (qs.take i))∧H2 l'=some (.lst ys)∧zo H H2∧PrV H2 ys qs)
    ⟨none,[],rfl,by rw[zc nll,ze],.nil,ze,?_,?_⟩ ?_ ?_ ?_
   ·intro c o e
    rw[zc (fun z=>by rw[zc nll.symm] at hl';rw[z,hl'] at e;cases e),zc (nl e)];exact e
   ·exact pq.keep fun a x y e=>by rw[zc (fun z=>by rw[z,hl'] at e;cases e)];exact e
   ·rintro i σ H2 _ ⟨v2,zs,rfl,_,_,hy,_,_⟩
    exact SqL.of hy
   ·rintro i x σ H2 hx ⟨v2,zs,rfl,hz,pz,hy,s2,py⟩
    have hi:i<qs.length:=by
     have:=(aL.mp hx).1
     omega
    obtain⟨c,e1,hc⟩:=py.at i hi
    rw[e1] at hx
    cases hx
    have hq:qs[i]?=some (at2 qs i):=by simp[at2,hi]
    rw[sX hq]
    generalize at2 qs i=q at hc hq
    have hjl:=xN (qs.take i) []
    have htk:(qs.take i).length≤63:=by
     have:=perm.length_eq
     simp only[zc6];omega
    generalize yz [] (qs.take i)=r at pz hjl
    have hzl:=pz.len
    have ncl:c≠l:=uB hc hz (by intro z;cases z)
    have nl'l:l'≠l:=nll.symm
    refine⟨_,zk (yL (PW.pt (oI (jI (pv 1) (fun _=>rfl)) (sq (zO tP (zq zB (pv 2) zg (fun _ _=>rfl)) (yb xP (zq zB (zq zJ (pv 1) (qB uJ zg) (fun _ _=>rfl)) zg (fun _ _=>rfl)) zg) (zu _)))))
     (zk (oz (vb (za (zq zB (zq zJ (pv 1) (qB uJ zg) (fun _ _=>rfl)) zg (fun _ _=>rfl)) (za (zH (vj rfl) (by rfl) T.max boot_max (za (zq zB (zq zJ (pv 1) (qB uJ zg) (fun _ _=>rfl)) zg (fun _ _=>rfl)) (za (zq zB (pv 2) zg (fun _ _=>rfl)) zh))) zh)))
      (pW (pv 1) (qB uJ zg) set_list)))
     (zk (xE (uX zc4 zd8 zd9 yR (pv 1) (za (pv 2) zh))))),?_⟩
    have kp:∀(o:HO) a x y,H2 a=some (.tup [.int x,.int y])→upd H2 l o a=some (.tup [.int x,.int y]):=fun o a x y e=>by rw[zc (uB e hz (by intro z;cases z))];exact e
    have sm:∀o,zo H (upd H2 l o):=fun o c u e=>by rw[zc (nl e)];exact s2 c u e
    have hz63:zs.length<sizeLine:=by
     have:=zU (n:=zs.length) (by simp only[List.length_nil] at hjl;omega)
     exact this
    rcases snoc_cases r with rfl|⟨r,pl,rfl⟩
    ·have ez:=gG pz
     subst ez
     refine⟨_,rfl,false,.inl ⟨[],SqL.of hz,rfl⟩,?_⟩
     refine wH (wH ?_)
     refine⟨_,rfl,.inl ⟨rfl,_,SqL.of hz⟩,_,rfl,l,_,_,rfl,rfl,hz,hz63,?_⟩
     exact⟨_,_,rfl,ze,.cons (kp _ _ _ _ hc) .nil,by rw[zc nl'l];exact hy,sm _,py.keep (kp _)⟩
    ·obtain⟨zs',a,rfl,pz',ha⟩:=ib pz
     refine⟨_,rfl,true,.inl ⟨_,SqL.of hz,by simp⟩,?_⟩
     refine wx ?_
     refine⟨_,rfl,c,_,0,_,rfl,rfl,SqT.of hc,rfl,_,rfl,1,rfl,l,_,-1,_,rfl,rfl,SqL.of hz,uH _ _,a,_,1,_,rfl,rfl,SqT.of ha,rfl,_,_,rfl,rfl,_,_,rfl,rfl,_,rfl,?_⟩
     rw[join_snoc]
     by_cases hle:q.1≤pl.2+1
     ·rw[if_pos hle]
      refine cx hle ?_
      refine⟨_,rfl,1,rfl,l,_,-1,_,rfl,rfl,SqL.of hz,uH _ _,a,_,0,_,rfl,rfl,SqT.of ha,rfl,_,rfl,1,rfl,l,_,-1,_,rfl,rfl,SqL.of hz,uH _ _,a,_,1,_,rfl,rfl,SqT.of ha,rfl,_,rfl,c,_,1,_,rfl,rfl,SqT.of hc,rfl,_,_,rfl,(by show 2≤sizeLine;decide),fun t ht=>?_⟩
      have ntl:l≠t:=zd hz ht
      refine⟨_,rfl,1,rfl,l,_,-1,_,rfl,rfl,by rw[zc ntl];exact hz,qC _ _,?_⟩
      rw[jO]
      have kp2:∀(o o':HO) a x y,H2 a=some (.tup [.int x,.int y])→upd (upd H2 t o') l o a=some (.tup [.int x,.int y]):=fun o o' a x y e=>by
       rw[zc (uB e hz (by intro z;cases z)),zc (zd e ht)];exact e
      refine⟨_,_,rfl,ze,(pz'.keep (kp2 _ _)).app (.cons ?_ .nil),?_,?_,py.keep (kp2 _ _)⟩
      ·rw[zc ntl.symm,ze]
       have em:(if q.2 > pl.2 then q.2 else pl.2)=max pl.2 q.2:=by split<;>omega
       rw[em]
      ·rw[zc nl'l,zc (zd hy ht)];exact hy
      ·intro c u e
       rw[zc (nl e),zc (zd (s2 c u e) ht)];exact s2 c u e
     ·rw[if_neg hle]
      refine eW hle ?_
      refine⟨_,rfl,.inl ⟨rfl,_,SqL.of hz⟩,_,rfl,l,_,_,rfl,rfl,hz,hz63,?_⟩
      exact⟨_,_,rfl,ze,(pz.keep (kp _)).app (.cons (kp _ _ _ _ hc) .nil),by rw[zc nl'l];exact hy,sm _,py.keep (kp _)⟩
   ·rintro σ H2 ⟨v2,zs,rfl,hz,pz,hy,s2,py⟩
    have e:qs.take ys.length=qs:=by rw[hlen];exact zg5
    rw[e] at pz
    have hv:∀s∈qs,s.1≤s.2:=fun s hs=>hval s (perm.mem_iff.mp hs)
    have hr':qs.Pairwise fun s t=>s.1≤t.1:=rise.imp fun {a b} h=>by
     unfold lx at h
     simp only[zh4] at h
     omega
    obtain⟨c1,c2⟩:=uN Canon.nil hv hr' (fun p hp=>by simp at hp)
    refine⟨_,zs,_,rfl,hz,pz,c1,fun d=>?_,?_,s2⟩
    ·rw[c2,←ky perm d]
     exact⟨fun h=>h.elim (fun z=>absurd z zW) id,.inr⟩
    ·have:=xN qs []
     rw[←perm.length_eq]
     simpa using this
  ·rintro σ H2 ⟨v2,zs,r,rfl,hl2,pz,cz,hz,lz,sz⟩
   exact⟨_,zk (zp (pv 1)),_,rfl,k l H2 zs r hl hl2 pz cz hz lz sz⟩
end
abbrev wG :Stmt:=top 11
abbrev jn :Stmt:=top 12
def tJ (K:PySem.W.Frag):Sp:=fun vs H Q _=>∃(p g:Addr) (xs:List V) (r:List Sp2) (q:Sp2),vs=[.ref p,.ref g]∧H p=some (.lst xs)∧PrV H xs r∧H g=some (.tup [.int q.1,.int q.2])∧r.length≤400∧
 ∀l H' zs,H l=none→H' l=some (.lst zs)→PrV H' zs (drops r q)→zo H H'→Q (.ref l) H'
def iu (K:PySem.W.Frag):Sp:=fun vs H Q _=>∃(p o:Addr) (xs ys:List V) (ps gs:List Sp2),vs=[.ref p,.ref o]∧H p=some (.lst xs)∧PrV H xs ps∧H o=some (.lst ys)∧PrV H ys gs∧ps.length<64∧gs.length<64∧(∀s∈ps,s.1≤s.2)∧(∀s∈gs,s.1≤s.2)∧
 ∀l H' zs r,H l=none→H' l=some (.lst zs)→PrV H' zs r→Canon r→(∀d,Has r d↔Has ps d∧¬Has gs d)→r.length≤ps.length+gs.length→zo H H'→Q (.ref l) H'
theorem pY {r:List Sp2}{i:Nat}{s q:Sp2}(h:r[i]?=some s):drops (r.take (i+1)) q=drops (r.take i) q++xF q s:=by
 rw[zf1,h]
 simp[drops,List.flatMap_append]
section
variable {P:Program}{w:World}{K:PySem.W.Frag}{mg:Str→Option Value}{base:Heap}
theorem eQ :zl ["rising","gone","left","stretch"] ["rising","gone"] (zb wG):=⟨rfl,rfl,rfl,by decide +kernel,rfl,by decide +kernel,by decide +kernel⟩
set_option maxHeartbeats 4000000 in
theorem pV {f fS:Addr}{fd:FuncData}(F:Fun K "without" "without" wG f fd)(T:gO mg fS):zt P w K mg base CX0 1 f fd ["rising","gone"] (tJ K):=by
 refine F.ok eQ (fun vs H Q E h=>?_) (fun cdv A outer s H vs Q E hr h=>?_)
 ·obtain⟨p,g,xs,r,q,rfl,_⟩:=h
  rfl
 ·obtain⟨p,g,xs,r,q,rfl,hp,pp,hg,h4,k⟩:=h
  refine zy (fun σ H1=>∃l,σ=[some (.ref p),some (.ref g),some (.ref l),none]∧H l=none∧upd H l (.lst [])=H1)
   ⟨_,yH (i:=2) eQ.nd rfl (Or.inl rfl) (sJ zh),?_⟩ ?_
  ·exact⟨aS _,fun l hl=>⟨l,rfl,hl,rfl⟩⟩
  rintro σ H1 ⟨l,rfl,hl,rfl⟩
  have nl:∀{c:Addr} {o:HO},H c=some o→c≠l:=fun e=>zd e hl
  have hlen:=pp.len
  refine zy (fun σ H2=>∃v3 zs,σ=[some (.ref p),some (.ref g),some (.ref l),v3]∧H2 l=some (.lst zs)∧PrV H2 zs (drops r q)∧zo H H2) ?_ ?_
  ·refine⟨_,uu ze0 rfl (xX (pv 0)) (zz (i:=3) eQ.nd rfl (Or.inl rfl)) zK,?_⟩
   refine⟨_,rfl,p,rfl,⟨xs,SqL.of (by rw[zc (nl hp)];exact hp)⟩,?_⟩
   refine uq (K:=K) (a:=p) (xs:=xs) (fun i σ H2=>∃v3 zs,σ=[some (.ref p),some (.ref g),some (.ref l),v3]∧H2 l=some (.lst zs)∧PrV H2 zs (drops (r.take i) q)∧zo H H2)
    ⟨none,[],rfl,ze,.nil,fun c o e=>by rw[zc (nl e)];exact e⟩ ?_ ?_ ?_
   ·rintro i σ H2 _ ⟨v3,zs,rfl,_,_,s2⟩
    exact SqL.of (s2 _ _ hp)
   ·rintro i x σ H2 hx ⟨v3,zs,rfl,hz,pz,s2⟩
    have hi:i<r.length:=by
     have:=(aL.mp hx).1
     omega
    obtain⟨c,e1,hc0⟩:=pp.at i hi
    rw[e1] at hx
    cases hx
    have hq:r[i]?=some (at2 r i):=by simp[at2,hi]
    have hc:=s2 _ _ hc0
    rw[pY hq]
    generalize at2 r i=t at hc hc0 hq
    have hdl:(drops (r.take i) q).length≤2*(r.take i).length:=mh _ _
    have hdl2:(drops (r.take i) q).length≤800:=by
     have:(r.take i).length≤400:=by simp only[zc6];omega
     omega
    generalize drops (r.take i) q=dr at pz hdl2
    unfold xF
    -- the first part
    refine zy (fun σ H3=>∃zs,σ=[some (.ref p),some (.ref g),some (.ref l),some (.ref c)]∧H3 l=some (.lst zs)∧PrV H3 zs (dr++if t.1<q.1 then [(t.1,min t.2 (q.1-1))] else [])∧zo H H3)
     ⟨_,yL (zO jy (zq zB (pv 3) zg (fun _ _=>rfl)) (zq zB (pv 1) zg (fun _ _=>rfl)) (zu _))
      (zk (xE (uX zc4 zd8 zd9 yR (pv 2) (za (vb (za (zq zB (pv 3) zg (fun _ _=>rfl)) (za (zH (tS rfl) (by rfl) T.min boot_min (za (zq zB (pv 3) zg (fun _ _=>rfl)) (za (yb og (zq zB (pv 1) zg (fun _ _=>rfl)) zg) zh))) zh))) zh)))) yd,?_⟩ ?_
    ·refine⟨_,rfl,c,_,0,_,rfl,rfl,SqT.of hc,rfl,_,rfl,g,_,0,_,rfl,rfl,SqT.of (s2 _ _ hg),rfl,_,_,rfl,rfl,_,rfl,?_⟩
     by_cases hle:t.1<q.1
     ·rw[if_pos hle]
      refine cx hle ?_
      refine⟨_,rfl,.inl ⟨rfl,_,SqL.of hz⟩,_,rfl,c,_,0,_,rfl,rfl,SqT.of hc,rfl,_,rfl,c,_,1,_,rfl,rfl,SqT.of hc,rfl,_,rfl,g,_,0,_,rfl,rfl,SqT.of (s2 _ _ hg),rfl,_,_,rfl,rfl,_,_,rfl,(by show 2≤sizeLine;decide),fun u hu=>?_⟩
      have nul:l≠u:=zd hz hu
      refine⟨l,zs,_,rfl,rfl,by rw[zc nul];exact hz,zU (by have:=pz.len;omega),?_⟩
      have kp2:∀(o o':HO) a x y,H2 a=some (.tup [.int x,.int y])→upd (upd H2 u o') l o a=some (.tup [.int x,.int y]):=fun o o' a x y e=>by
       rw[zc (uB e hz (by intro z;cases z)),zc (zd e hu)];exact e
      refine⟨_,rfl,ze,(pz.keep (kp2 _ _)).app (.cons ?_ .nil),fun c o e=>?_⟩
      ·rw[zc nul.symm,ze]
       have em:(if q.1-1<t.2 then q.1-1 else t.2)=min t.2 (q.1-1):=by split<;>omega
       rw[em]
      ·rw[zc (nl e),zc (zd (s2 c o e) hu)];exact s2 c o e
     ·rw[if_neg hle]
      refine eW hle ?_
      exact⟨zs,rfl,hz,by rw[zg0];exact pz,s2⟩
    ·rintro σ H3 ⟨zs,rfl,hz,pz,s3⟩
     have hc:=s3 _ _ hc0
     have hal:(dr++if t.1<q.1 then [(t.1,min t.2 (q.1-1))] else []).length≤801:=by
      split<;>simp<;>omega
     rw[←List.append_assoc]
     generalize (dr++if t.1<q.1 then [(t.1,min t.2 (q.1-1))] else [])=dr at pz hal
     refine⟨_,zk (yL (zO jy (zq zB (pv 1) zg (fun _ _=>rfl)) (zq zB (pv 3) zg (fun _ _=>rfl)) (zu _))
      (zk (xE (uX zc4 zd8 zd9 yR (pv 2) (za (vb (za (zH (vj rfl) (by rfl) T.max boot_max (za (zq zB (pv 3) zg (fun _ _=>rfl)) (za (yb xP (zq zB (pv 1) zg (fun _ _=>rfl)) zg) zh))) (za (zq zB (pv 3) zg (fun _ _=>rfl)) zh))) zh)))) yd),?_⟩
     refine⟨_,rfl,g,_,1,_,rfl,rfl,SqT.of (s3 _ _ hg),rfl,_,rfl,c,_,1,_,rfl,rfl,SqT.of hc,rfl,_,_,rfl,rfl,_,rfl,?_⟩
     by_cases hle:q.2<t.2
     ·rw[if_pos hle]
      refine cx hle ?_
      refine⟨_,rfl,.inl ⟨rfl,_,SqL.of hz⟩,_,rfl,c,_,0,_,rfl,rfl,SqT.of hc,rfl,_,rfl,g,_,1,_,rfl,rfl,SqT.of (s3 _ _ hg),rfl,_,_,rfl,rfl,_,_,rfl,_,rfl,c,_,1,_,rfl,rfl,SqT.of hc,rfl,(by show 2≤sizeLine;decide),fun u hu=>?_⟩
      have nul:l≠u:=zd hz hu
      refine⟨l,zs,_,rfl,rfl,by rw[zc nul];exact hz,zU (by have:=pz.len;omega),?_⟩
      have kp2:∀(o o':HO) a x y,H3 a=some (.tup [.int x,.int y])→upd (upd H3 u o') l o a=some (.tup [.int x,.int y]):=fun o o' a x y e=>by
       rw[zc (uB e hz (by intro z;cases z)),zc (zd e hu)];exact e
      refine⟨_,_,rfl,ze,(pz.keep (kp2 _ _)).app (.cons ?_ .nil),fun c o e=>?_⟩
      ·rw[zc nul.symm,ze]
       have em:(if q.2+1 > t.1 then q.2+1 else t.1)=max t.1 (q.2+1):=by split<;>omega
       rw[em]
      ·rw[zc (nl e),zc (zd (s3 c o e) hu)];exact s3 c o e
     ·rw[if_neg hle]
      refine eW hle ?_
      exact⟨_,zs,rfl,hz,by rw[zg0];exact pz,s3⟩
   ·rintro σ H2 ⟨v3,zs,rfl,hz,pz,s2⟩
    have e:r.take xs.length=r:=by rw[hlen];exact zg5
    rw[e] at pz
    exact⟨v3,zs,rfl,hz,pz,s2⟩
  ·rintro σ H2 ⟨v3,zs,rfl,hz,pz,s2⟩
   exact⟨_,zk (zp (pv 2)),_,rfl,k l H2 zs hl hz pz s2⟩
theorem iK :zl ["stretches","others","left","gone"] ["stretches","others"] (zb jn):=⟨rfl,rfl,rfl,by decide +kernel,rfl,by decide +kernel,by decide +kernel⟩
set_option maxHeartbeats 4000000 in
theorem gL {f fS fW:Addr}{fd fdS fdW:FuncData}(F:Fun K "less" "less" jn f fd)(T:gO mg fS)(hW:mg "without"=some (.ref fW))
  (FS:Fun K "spread" "spread" ue fS fdS) (bS:Binds K fdS ["stretches"] []) (FW:Fun K "without" "without" wG fW fdW) (bW:Binds K fdW ["rising","gone"] []):zt P w K mg base CX0 2 f fd ["stretches","others"] (iu K):=by
 have GS:zt P w K mg base CX0 1 fS fdS ["stretches"] (rO K):=mx FS T
 have GW:zt P w K mg base CX0 1 fW fdW ["rising","gone"] (tJ K):=pV FW T
 refine F.ok iK (fun vs H Q E h=>?_) (fun cdv A outer s H vs Q E hr h=>?_)
 ·obtain⟨p,o,xs,ys,ps,gs,rfl,_⟩:=h
  rfl
 ·obtain⟨p,o,xs,ys,ps,gs,rfl,hp,pp,ho,po,h6,h6',hv,hv',k⟩:=h
  have hr1:zR 1 _:=hr.mono (by decide)
  have hlen:=po.len
  refine zy (fun σ H2=>∃l zs r,σ=[some (.ref p),some (.ref o),some (.ref l),none]∧H l=none∧H2 l=some (.lst zs)∧PrV H2 zs r∧Canon r∧(∀d,Has r d↔Has ps d)∧r.length≤ps.length∧zo H H2)
   ⟨_,yH (i:=2) iK.nd rfl (Or.inl rfl) (zF GS hr1 (by rfl) T.spread FS.kp bS .nil zN (za (pv 0) zh)),?_⟩ ?_
  ·exact⟨_,rfl,p,xs,ps,rfl,hp,pp,h6,hv,fun l H2 zs r hl hz pz cz hh lz s2=>⟨l,zs,r,rfl,hl,hz,pz,cz,hh,lz,s2⟩⟩
  rintro σ H1 ⟨l,zs,r,rfl,hl,hz,pz,cz,hh,lz,s1⟩
  refine zy (fun σ H2=>∃v3 l zs r,σ=[some (.ref p),some (.ref o),some (.ref l),v3]∧H l=none∧H2 l=some (.lst zs)∧PrV H2 zs r∧Canon r∧(∀d,Has r d↔Has ps d∧¬Has gs d)∧r.length≤ps.length+gs.length∧zo H H2) ?_ ?_
  ·refine⟨_,uu ze0 rfl (xX (pv 1)) (zz (i:=3) iK.nd rfl (Or.inl rfl)) zK,?_⟩
   refine⟨_,rfl,o,rfl,⟨ys,SqL.of (s1 _ _ ho)⟩,?_⟩
   refine uq (K:=K) (a:=o) (xs:=ys) (fun i σ H2=>∃v3 l zs r,σ=[some (.ref p),some (.ref o),some (.ref l),v3]∧H l=none∧H2 l=some (.lst zs)∧PrV H2 zs r∧Canon r∧(∀d,Has r d↔Has ps d∧¬Has (gs.take i) d)∧r.length≤ps.length+i∧zo H H2)
    ⟨none,l,zs,r,rfl,hl,hz,pz,cz,fun d=>by rw[hh];exact⟨fun z=>⟨z,zW⟩,fun z=>z.1⟩,lz,s1⟩ ?_ ?_ ?_
   ·rintro i σ H2 _ ⟨v3,l,zs,r,rfl,_,_,_,_,_,_,s2⟩
    exact SqL.of (s2 _ _ ho)
   ·rintro i x σ H2 hx ⟨v3,l,zs,r,rfl,hl,hz,pz,cz,hh,lz,s2⟩
    have hi:i<gs.length:=by
     have:=(aL.mp hx).1
     omega
    obtain⟨c,e1,hc0⟩:=po.at i hi
    rw[e1] at hx
    cases hx
    have hq:gs[i]?=some (at2 gs i):=by simp[at2,hi]
    have hqv:(at2 gs i).1≤(at2 gs i).2:=hv' _ (za4 hq)
    have et:gs.take (i+1)=gs.take i++[at2 gs i]:=by rw[zf1,hq];rfl
    rw[et]
    have hc:=s2 _ _ hc0
    generalize at2 gs i=q at hc hqv
    obtain⟨d1,d2,_⟩:=qM hqv cz
    have d3:=uE hqv cz
    refine⟨_,zk (yH (i:=2) iK.nd rfl (Or.inl rfl) (zF GW hr1 (by rfl) hW FW.kp bW .nil zN (za (pv 2) (za (pv 3) zh)))),?_⟩
    refine⟨_,rfl,_,rfl,l,c,zs,r,q,rfl,hz,pz,hc,by omega,fun l2 H3 zs2 hl2 hz2 pz2 s3=>?_⟩
    refine⟨_,l2,zs2,_,rfl,s2.free hl2,hz2,pz2,d1,fun d=>?_,by omega,s2.trans s3⟩
    rw[d2,hh,yF,zr]
    constructor
    ·rintro⟨⟨a,b⟩,e⟩
     exact⟨a,fun z=>z.elim b fun z=>z.elim e zW⟩
    ·rintro⟨a,b⟩
     exact⟨⟨a,fun z=>b (.inl z)⟩,fun z=>b (.inr (.inl z))⟩
   ·rintro σ H2 ⟨v3,l,zs,r,rfl,hl,hz,pz,cz,hh,lz,s2⟩
    have e:gs.take ys.length=gs:=by rw[hlen];exact zg5
    rw[e] at hh
    exact⟨v3,l,zs,r,rfl,hl,hz,pz,cz,hh,by omega,s2⟩
  ·rintro σ H2 ⟨v3,l,zs,r,rfl,hl,hz,pz,cz,hh,lz,s2⟩
   exact⟨_,zk (zp (pv 2)),_,rfl,k l H2 zs r hl hz pz cz hh lz s2⟩
end
def pB :List A→(A→Prop)→Prop:=fun as Q=>∃ps gs:List Sp2,as=[.dat (.list (ps.map dP)),.dat (.list (gs.map dP))]∧ps.length<64∧gs.length<64∧(∀s∈ps,s.1≤s.2)∧(∀s∈gs,s.1≤s.2)∧
 ∀r:List Sp2,Canon r→(∀d,Has r d↔Has ps d∧¬Has gs d)→r.length≤ps.length+gs.length→Q (.own (r.map dP))
section
variable {P:Program}{w:World}{K:PySem.W.Frag}{mg:Str→Option Value}{base:Heap}
theorem kn {k:Nat}{f:Addr}{fd:FuncData}{ps:List Str}(hm:mg "less"=some (.ref f))(hk:PySem.W.keepIn K (.ref f)=true)(hb:Binds K fd ps [])(G:zt P w K mg base CX0 k f fd ps (iu K)):Cal P w K mg base "less" k pB:=by
 refine⟨f,fd,_,hm,hk,hb,G.imp fun vs H Q E h=>?_⟩
 obtain⟨F,as,Q',rfl,t,o,rv,⟨ps,gs,rfl,h1,h2,h3,h4,hq⟩,kk⟩:=h
 obtain⟨v,u,rfl,av,au⟩:=rv.two
 obtain⟨a,xs,rfl,g1,g2⟩:=av.lst_inv
 obtain⟨b,ys,rfl,g3,g4⟩:=au.lst_inv
 exact⟨a,b,xs,ys,ps,gs,rfl,(zf g1).2,rp (g2.same yw),(zf g3).2,rp (g4.same yw),h1,h2,h3,h4,fun l H' zs r hl hl' pr c hd hlen s=>kk _ _ _ (hq r c hd hlen) (iU o s hl hl' t pr)⟩
end
abbrev sSD :Stmt:=top 37
abbrev uD :Stmt:=top 38
def vk :PyData→Str
 |.tuple [.str x,_,_,_]=>x
 |_=>"price"
def wm :PyData→Sp2
 |.tuple [_,.int a,.int b,_]=>(a,b)
 |_=>(0,0)
def wU (x:Str)(day:Int)(d:PyData):Bool:=decide (vk d=x)&&(decide ((wm d).1≤day)&&decide (day≤(wm d).2))
def nr (d:PyData)(es:List PyData)(day:Int):Prop:=wU (vk d) day d=true∧∀e∈es,wU (vk d) day e=false
structure wk (d:PyData)(es:List PyData)(r:List Sp2):Prop where
 can:Canon r
 len:r.length≤25
 has:∀day,Has r day↔nr d es day
structure uy (ds:List PyData)(rs:List (List Sp2)):Prop where
 len:rs.length=ds.length
 all:∀k d r,ds[k]?=some d→rs[k]?=some r→wk d (ds.drop (k+1)) r
theorem wk.uniq {d:PyData}{es:List PyData}{r s:List Sp2}(h:wk d es r)(g:wk d es s):r=s:=Days.uniq h.can g.can fun day=>(h.has day).trans (g.has day).symm
theorem uy.uniq {ds:List PyData}{rs ss:List (List Sp2)}(h:uy ds rs)(g:uy ds ss):rs=ss:=by
 refine List.ext_getElem (h.len.trans g.len.symm) fun k h1 h2=>?_
 have hd:ds[k]?=some (ds[k]'(by rw[←h.len];exact h1)):=aM _
 exact (h.all k _ _ hd (aM h1)).uniq (g.all k _ _ hd (aM h2))
def nP (rs:List (List Sp2)):List (List PyData):=rs.map fun r=>r.map dP
def cL :List A→(A→Prop)→Prop:=fun as Q=>∃d es,as=[.dat d,.dat (.list es)]∧yM d=true∧(∀e∈es,yM e=true)∧es.length≤24∧∀r:List Sp2,wk d es r→Q (.own (r.map dP))
def nN (C:Addr)(cs:Cs):List A→(A→Prop)→Prop:=fun as Q=>∃ds,as=[.dat (oW C cs ds)]∧Rules ds∧ds.length≤24∧∀rs,uy ds rs→∀l ls,Q (.nst l ls (nP rs))
theorem pk {es:List PyData}(x:Str)(day:Int):Has ((es.filter fun e=>decide (vk e=x)).map wm) day↔∃e∈es,wU x day e=true:=by
 constructor
 ·rintro⟨p,hp,h1,h2⟩
  obtain⟨e,hm,rfl⟩:=zc0.mp hp
  obtain⟨hm,hw⟩:=zd7.mp hm
  refine⟨_,hm,?_⟩
  unfold wU
  rw[hw,zb6 h1,zb6 h2];rfl
 ·rintro⟨e,hm,h⟩
  unfold wU at h
  simp only[za0,aZ] at h
  exact⟨_,zc0.mpr ⟨_,zd7.mpr ⟨hm,zb6 h.1⟩,rfl⟩,h.2.1,h.2.2⟩
theorem qj (ds:List PyData)(n:Nat):L2.cutD ds (some ((n:Nat):Int)) none=ds.drop n:=by
 unfold L2.cutD
 rw[HT.nq,HT.rZ]
 rcases Nat.lt_or_ge n ds.length with h|h
 ·rw[Nat.min_eq_left (zd5 h),List.take_of_length_le (by rw[zf5];omega)]
 ·rw[Nat.min_eq_right h,zd3,List.drop_of_length_le h,List.take_nil]
theorem gh (r:List Sp2):noLs (r.map dP)=true:=by
 induction r with
 |nil=>rfl
 |cons p r ih=>exact ih
def ba :Scope:=match zw sSD with
 |[.Assign _ (.ListComp _ _ sc _) _,_]=>sc
 |_=>zb sSD
def bc :Scope:=match zw uD with
 |[_,.Return (some (.ListComp _ _ sc _)) _]=>sc
 |_=>zb sSD
section
variable {P:Program}{w:World}{K:PySem.W.Frag}{mg:Str→Option Value}{base:Heap}{cs:Cs}
theorem fQ :zl ["rule","newer","hidden"] ["rule","newer"] (zb sSD):=⟨rfl,rfl,rfl,by decide +kernel,rfl,by decide +kernel,by decide +kernel⟩
theorem cU :zA ["rule","newer","hidden"] (zb sSD) ["other","rule"] [none,some 0] ba:=⟨rfl,by decide +kernel,by decide +kernel,by decide +kernel,by decide +kernel,rfl,by decide +kernel⟩
theorem dJ {f:Addr}{fd:FuncData}(F:Fun K "shown_days" "shown_days" sSD f fd)(hm:mg "shown_days"=some (.ref f))(hb:Binds K fd ["rule","newer"] [])(CL:Cal P w K mg base "less" 2 pB):Cal P w K mg base "shown_days" 3 cL:=by
 refine tw F hm hb fQ (fun as Q h=>?_) (fun cdv A' outer s H E as Q hr h=>?_)
 ·obtain⟨d,es,rfl,_⟩:=h
  rfl
 ·obtain⟨d,es,rfl,hd,he,l,q⟩:=h
  obtain⟨x,a,b,v,hx,rfl,a0,ab,b1,_⟩:=zX hd
  refine fF 2 (pat:=.one 0) fQ.nd rfl cU rfl (fun _ _ _ _=>zz (i:=0) cU.nd rfl (by first|exact Or.inl rfl|exact Or.inr rfl)) (yq (zj 1 rfl (⟨_,rfl,⟨by omega,?_⟩⟩)))
  refine yI (fun e=>decide (vk e=x)) (fun e=>dP (wm e)) (fun e hm=>?_) ?_
  ·obtain⟨u,a',b',v',hu,rfl,_,_,_,_⟩:=zX (he e hm)
   exact⟨_,rfl,fun C s2 H2 fp Q k=>pw (eu (xm (fun _ _=>rfl) (zj 0 rfl (zY (⟨_,_,_,rfl,rfl,rfl,xm (fun _ _=>rfl) (zj 1 rfl (zY (⟨_,_,_,rfl,rfl,rfl,⟨_,_,rfl,rfl,k⟩⟩)))⟩))))),fun _ C s2 H2 fp Q k=>qV (zx (xm (fun _ _=>rfl) (zj 0 rfl (zY (⟨_,_,_,rfl,rfl,rfl,zx (xm (fun _ _=>rfl) (zj 0 rfl (zY (⟨_,_,_,rfl,rfl,rfl,zZ (⟨_,rfl,zd1 rfl,k⟩)⟩))))⟩)))))⟩
  rw[zd0,show (fun e=>dP (wm e))=dP∘wm from rfl,←zf7]
  have hg:=pk (es:=es) x
  have lg:((es.filter fun e=>decide (vk e=x)).map wm).length≤24:=by
   rw[aI]
   exact zb4 (List.length_filter_le _ _) l
  have vg:∀s∈(es.filter fun e=>decide (vk e=x)).map wm,s.1≤s.2:=by
   intro s hs
   obtain⟨e,hm,rfl⟩:=zc0.mp hs
   obtain⟨u,a',b',v',hu,rfl,_,hab,_,_⟩:=zX (he e (zd7.mp hm).1)
   exact hab
  generalize (es.filter fun e=>decide (vk e=x)).map wm=gs at hg lg vg
  refine rq 2 rfl ?_
  refine oU (sS CL hr (by rfl) (zx (EvL.d (xI (zx (qV (zx (xm (fun _ _=>rfl) (zj 0 rfl (zY (⟨_,_,_,rfl,rfl,rfl,zx (xm (fun _ _=>rfl) (zj 0 rfl (zY (⟨_,_,_,rfl,rfl,rfl,zZ (⟨_,rfl,zd1 rfl,zZ (⟨_,rfl,zd1 rfl,zx (zj 2 rfl (zZ (⟨[(a,b)],gs,rfl,by show 1<64;decide,by omega,fun s hs=>?_,vg,fun r c hr' lr=>⟨_,rfl,?_⟩⟩)))⟩)⟩)⟩))))⟩)))))))))))
  ·rw[aV.mp hs];exact ab
  ·refine q r ⟨c,by have:r.length≤1+gs.length:=lr;omega,fun day=>?_⟩
   rw[hr' day,hg day]
   unfold nr
   have e1:Has [(a,b)] day↔wU x day (.tuple [.str x,.int a,.int b,v])=true:=by
    show _↔(decide (x=x)&&(decide (a≤day)&&decide (day≤b)))=true
    simp only[decide_true,zb3,za0,aZ]
    constructor
    ·rintro⟨p,hp,h1,h2⟩
     rw[aV.mp hp] at h1 h2
     exact⟨h1,h2⟩
    ·rintro⟨h1,h2⟩
     exact⟨_,aV.mpr rfl,h1,h2⟩
   rw[e1]
   refine and_congr Iff.rfl ⟨fun h e hm=>?_,fun h ⟨e,hm,ht⟩=>?_⟩
   ·cases hh:wU x day e with
    |false=>exact hh
    |true=>exact absurd ⟨e,hm,hh⟩ h
   ·have:=h e hm
    rw[show vk (.tuple [.str x,.int a,.int b,v])=x from rfl,ht] at this
    cases this
theorem fG :zl ["book","rules"] ["book"] (zb uD):=⟨rfl,rfl,rfl,by decide +kernel,rfl,by decide +kernel,by decide +kernel⟩
theorem ck :zA ["book","rules"] (zb uD) ["place","rule","rules"] [none,none,some 1] bc:=⟨rfl,by decide +kernel,by decide +kernel,by decide +kernel,by decide +kernel,rfl,by decide +kernel⟩
theorem mw {f C:Addr}{fd:FuncData}(F:Fun K "shown" "shown" uD f fd)(hm:mg "shown"=some (.ref f))(hb:Binds K fd ["book"] [])(nb:NbT mg)(CSD:Cal P w K mg base "shown_days" 3 cL)(MR:uV P w K mg base C "rules" 3 (vW C cs)):Cal P w K mg base "shown" 4 (nN C cs):=by
 refine tw F hm hb fG (fun as Q h=>?_) (fun cdv A' outer s H E as Q hr h=>?_)
 ·obtain⟨ds,rfl,_⟩:=h
  rfl
 ·obtain⟨ds,rfl,rd,l,q⟩:=h
  refine tf 1 fG.nd (EvL.d (jf MR hr (zj 0 rfl ⟨_,rfl,rfl,ds,rfl,rd,by omega,_,rfl,?_⟩)))
  refine gy (bo (pat:=.many [0,1]) rfl ck rfl (fun _ _ _ _=>yK (n:=2) (K:=K) rfl rfl (ym (zz (i:=0) ck.nd rfl (by first|exact Or.inl rfl|exact Or.inr rfl)) (ym (zz (i:=1) ck.nd rfl (by first|exact Or.inl rfl|exact Or.inr rfl)) (xg)))) (nA (by rfl) nb.enumerate (zj 1 rfl (⟨_,rfl,⟨by rw[xo];omega,?_⟩⟩))))
  refine mS (fun i acc=>∃rs:List (List Sp2),rs.length=i∧acc=nP rs∧∀k d r,ds[k]?=some d→rs[k]?=some r→wk d (ds.drop (k+1)) r) ⟨[],rfl,rfl,fun k d r _ h=>by simp at h⟩ ?_ ?_
  ·rintro i d acc hd ⟨rs,rfl,rfl,h⟩
   obtain⟨e,he,rfl⟩:=wc hd
   have hm:=za4 he
   refine⟨_,rfl,fun C s2 H2 fp=>?_⟩
   refine sS CSD hr (by rfl) (zx (zj 1 rfl (zx (EvL.d (tN (zj 2 rfl (ua (pH (zj 0 rfl (zY (⟨_,_,rfl,rfl,⟨_,rfl,vZ (⟨_,rfl,zZ (⟨e,ds.drop (rs.length+1),?_,(rd e hm).1,fun e' h'=>(rd e' (List.mem_of_mem_drop h')).1,by rw[zf5];omega,fun r hr'=>⟨_,rfl,gh r,rs++[r],by simp,by unfold nP;rw[ze8];rfl,fun k d' r' hd' hr2=>?_⟩⟩)⟩)⟩⟩)))))))))))
   ·rw[show (((0+rs.length:Nat):Int)+1)=((rs.length+1:Nat):Int) by omega,qj]
   ·rcases Nat.lt_or_ge k rs.length with z|z
    ·rw[zc9 z] at hr2
     exact h k d' r' hd' hr2
    ·have hk:k<(rs++[r]).length:=(aL.mp hr2).1
     have:k=rs.length:=by rw[aX,List.length_singleton] at hk;omega
     subst this
     rw[zd6 (aN _),Nat.sub_self] at hr2
     cases hr2
     rw[he] at hd';cases hd'
     exact hr'
  ·rintro acc ⟨rs,hl,rfl,h⟩
   rw[xo] at hl
   exact q rs ⟨hl,h⟩
end
abbrev me :Stmt:=top 46
abbrev lH :Stmt:=top 47
abbrev eX :Stmt:=top 48
def iJ :List A→(A→Prop)→Prop:=fun as Q=>∃ps:List Sp2,as=[.dat (.list (ps.map dP))]∧Canon ps∧ps.length≤900∧Q (.dat (.bool true))
def rV (d:PyData)(es:List PyData)(day:Int):Bool:=wU (vk d) day d&&decide (((es.filter (wU (vk d) day)).length:Int)=0)
def kK :List A→(A→Prop)→Prop:=fun as Q=>∃(ds:List PyData) (n:Nat) (d:PyData) (day:Int),as=[.dat (.list ds),.dat (.int n),.dat (.int day)]∧(∀e∈ds,yM e=true)∧ds.length≤100∧ds[n]?=some d∧Q (.dat (.bool (rV d (ds.drop (n+1)) day)))
theorem mO (d:PyData)(es:List PyData)(day:Int):rV d es day=true↔nr d es day:=by
 unfold rV nr
 rw[za0,aZ]
 refine and_congr Iff.rfl ⟨fun h e he=>?_,fun h=>?_⟩
 ·have h1:es.filter (wU (vk d) day)=[]:=List.length_eq_zero_iff.mp (by omega)
  have:=List.filter_eq_nil_iff.mp h1 e he
  simpa using this
 ·have:es.filter (wU (vk d) day)=[]:=List.filter_eq_nil_iff.mpr fun e he=>by rw[h e he];decide
  rw[this];rfl
theorem wk.eq {d:PyData}{es:List PyData}{r:List Sp2}(h:wk d es r)(day:Int):hasB r day=rV d es day:=by
 rw[zf9,ig,mO]
 exact h.has day
def jr :List A→(A→Prop)→Prop:=fun as Q=>∃(ps:List Sp2) (d:Int),as=[.dat (.list (ps.map dP)),.dat (.int d)]∧ps.length≤900∧Q (.dat (.bool (hasB ps d)))
def eZ :Scope:=match zw me with
 |[.Return (some (.Compare (.Call _ (.ListComp _ _ sc _::_) _ _) _ _ _)) _]=>sc
 |_=>zb me
def eB :Scope:=match zw lH with
 |[_,_,.Return (some (.Call _ (.ListComp _ _ sc _::_) _ _)) _]=>sc
 |_=>zb lH
section
variable {P:Program}{w:World}{K:PySem.W.Frag}{mg:Str→Option Value}{base:Heap}
theorem aw :zl ["_law_stretches","_law_day"] ["_law_stretches","_law_day"] (zb me):=⟨rfl,rfl,rfl,by decide +kernel,rfl,by decide +kernel,by decide +kernel⟩
theorem cn :zA ["_law_stretches","_law_day"] (zb me) ["_law_first","_law_last","_law_day"] [none,none,some 1] eZ:=⟨rfl,by decide +kernel,by decide +kernel,by decide +kernel,by decide +kernel,rfl,by decide +kernel⟩
set_option maxHeartbeats 4000000 in
theorem gr {f:Addr}{fd:FuncData}(F:Fun K "_law_has" "_law_has" me f fd)(hm:mg "_law_has"=some (.ref f))(hb:Binds K fd ["_law_stretches","_law_day"] [])(nb:NbT mg):Cal P w K mg base "_law_has" 1 jr:=by
 refine tw F hm hb aw (fun as Q h=>?_) (fun cdv A' outer s H E as Q hr h=>?_)
 ·obtain⟨ps,d,rfl,_⟩:=h
  rfl
 ·obtain⟨ps,d,rfl,hl,q⟩:=h
  refine rG (fU (xC (by rfl) nb.len (EvL.d (nK (pat:=.many [0,1]) rfl cn rfl (fun _ _ _ _=>yK (n:=2) (K:=K) rfl rfl (ym (zz (i:=0) cn.nd rfl (Or.inl rfl)) (ym (zz (i:=1) cn.nd rfl (Or.inl rfl)) xg)))
   (yq (zj 0 rfl ⟨_,rfl,?clen,?comp⟩))))))
  case clen=>rw[aI];omega
  case comp=>
   refine yI (onP fun p=>decide (p.1≤d)&&decide (d≤p.2)) (fun _=>.int 1) (fun x hx=>?_) ?_
   ·obtain⟨p,hp,rfl⟩:=kl hx
    refine⟨_,rfl,fun C s2 H2 fp Q k=>pw (EvW.t (hZ (fun _ k=>jK (zj 0 rfl (zj 2 rfl ⟨_,_,rfl,rfl,k⟩))) (fun hp _ k=>oX (jK (zj 2 rfl (zj 1 rfl ⟨_,_,rfl,rfl,k⟩)))) k)),fun _ C s2 H2 fp Q k=>zY k⟩
   ·refine⟨_,rfl,zY ⟨_,_,rfl,rfl,?_⟩⟩
    rw[pZ]
    have e:decide ((0:Int)<((([]:List PyData)++List.map (fun _=>PyData.int 1) ((ps.filter fun p=>decide (p.1≤d)&&decide (d≤p.2)).map dP)).length:Int))=hasB ps d:=by
     rw[zd0,aI,aI,zf9,aZ]
     unfold hasB
     rw[List.any_eq_true]
     constructor
     ·intro h
      have h':0<(ps.filter fun p=>decide (p.1≤d)&&decide (d≤p.2)).length:=by omega
      obtain⟨p,hp⟩:=List.exists_mem_of_length_pos h'
      exact⟨p,(zd7.mp hp).1,(zd7.mp hp).2⟩
     ·rintro⟨p,h1,h2⟩
      have hm':p∈ps.filter fun p=>decide (p.1≤d)&&decide (d≤p.2):=zd7.mpr ⟨h1,h2⟩
      have:=List.length_pos_of_mem hm'
      omega
    rw[e]
    exact q
def df :PyData→Bool
 |.tuple [.tuple [_,.int b],.tuple [.int c,_]]=>decide (b+1<c)
 |_=>false
theorem oS {ps:List Sp2}(hc:Canon ps){d:PyData}(h:d∈rN (cutD (ps.map dP) none (some (-1))) (cutD (ps.map dP) (some 1) none)):∃p q:Sp2,d=.tuple [dP p,dP q]∧p.2+1<q.1:=by
 obtain⟨i,hi⟩:=zg7 h
 unfold rN at hi
 rw[List.getElem?_zipWith] at hi
 cases e1:(cutD (ps.map dP) none (some (-1)))[i]? with
 |none=>rw[e1] at hi;cases hi
 |some x=>
  cases e2:(cutD (ps.map dP) (some 1) none)[i]? with
  |none=>rw[e1,e2] at hi;cases hi
  |some y=>
   rw[e1,e2] at hi
   cases hi
   have f1:(ps.map dP)[i]?=some x:=by
    unfold L2.cutD at e1
    rw[HT.rZ,List.drop_zero] at e1
    rw[List.getElem?_take] at e1
    split at e1
    ·exact e1
    ·cases e1
   have f2:(ps.map dP)[1+i]?=some y:=by
    unfold L2.cutD at e2
    have e3:=e2
    rw[show (some (1:Int))=some ((1:Nat):Int) from rfl,HT.nq,List.getElem?_take] at e3
    split at e3
    ·rw[List.getElem?_drop] at e3
     by_cases z:(ps.map dP).length=0
     ·rw[List.length_eq_zero_iff.mp z] at e3;simp at e3
     ·rwa [Nat.min_eq_left (by omega)] at e3
    ·cases e3
   obtain⟨p,hp,rfl⟩:=oJ f1
   obtain⟨q,hq,rfl⟩:=oJ f2
   refine⟨p,q,rfl,?_⟩
   obtain⟨l1,g1⟩:=aL.mp hp
   obtain⟨l2,g2⟩:=aL.mp hq
   have:=List.pairwise_iff_getElem.mp hc.gap i (1+i) l1 l2 (by omega)
   rwa [g1,g2] at this
theorem bN :zl ["_law_told","_law_one"] ["_law_told"] (zb lH):=⟨rfl,rfl,rfl,by decide +kernel,rfl,by decide +kernel,by decide +kernel⟩
theorem dA :zA ["_law_told","_law_one"] (zb lH) ["_law_one","_law_other"] [none,none] eB:=⟨rfl,by decide +kernel,by decide +kernel,by decide +kernel,by decide +kernel,rfl,by decide +kernel⟩
theorem iO {f:Addr}{fd:FuncData}(F:Fun K "_law_rising" "_law_rising" lH f fd)(hm:mg "_law_rising"=some (.ref f))(hb:Binds K fd ["_law_told"] [])(nb:NbT mg):Cal P w K mg base "_law_rising" 1 iJ:=by
 refine tw F hm hb bN (fun as Q h=>?_) (fun cdv A' outer s H E as Q hr h=>?_)
 ·obtain⟨ps,rfl,_⟩:=h
  rfl
 ·obtain⟨ps,rfl,hc,hl,q⟩:=h
  refine vF (uC (sx (xK (by rfl) nb.isinstance (by rfl) nb.list boot_list (zj 0 rfl ⟨_,mj ps,rS _,⟨_,rfl,?_⟩⟩))))
  refine wa (fun h=>by cases h) (fun _=>zT ?_)
  refine oH (pat:=.one 1) ze0 rfl (zz (i:=1) bN.nd rfl (Or.inl rfl)) (yq (zj 0 rfl ⟨_,rfl,?_⟩))
  refine xT (fun i α=>∃v1,α=[some (.dat (.list (ps.map dP))),v1]) ⟨none,rfl⟩ ?_ ?_
  ·rintro i d α hd ⟨v1,rfl⟩
   obtain⟨p,hp,rfl⟩:=oJ hd
   refine⟨_,rfl,?_⟩
   have hv:p.1≤p.2:=hc.val p (za4 hp)
   refine vF (EvW.t (iC (fun _ k=>uC (sx (xK (by rfl) nb.isinstance (by rfl) nb.tuple boot_tuple (zj 1 rfl (⟨_,rfl,va _,⟨_,rfl,k⟩⟩))))) (fun hp _ k=>iC (fun _ k=>ke (xC (by rfl) nb.len (zj 1 rfl (⟨_,rfl,zY (⟨_,_,rfl,rfl,k⟩)⟩)))) (fun hp _ k=>pI (ju (xm (fun _ _=>rfl) (zj 1 rfl (zY (⟨_,_,_,rfl,rfl,rfl,xm (fun _ _=>rfl) (zj 1 rfl (zY (⟨_,_,_,rfl,rfl,rfl,⟨_,_,rfl,rfl,k⟩⟩)))⟩)))))) (k)) (?_)))
   refine wa (fun h=>absurd (show decide (p.2<p.1)=true from h) (by simp;omega)) (fun _=>zT (zT ⟨_,rfl⟩))
  ·rintro α ⟨v1,rfl⟩
   refine rG (iA rfl (by rfl) nb.all (EvL.d (nK (pat:=.many [0,1]) rfl dA rfl (fun _ _ _ _=>yK (n:=2) (K:=K) rfl rfl (ym (zz (i:=0) dA.nd rfl (Or.inl rfl)) (ym (zz (i:=1) dA.nd rfl (Or.inl rfl)) (xg)))) (cu (by rfl) nb.zip (EvL.d (tN (zj 0 rfl (vZ (ua (kx (zY (⟨_,rfl,⟨_,rfl,⟨_,rfl,EvL.d (tN (zj 0 rfl (ua (zY (⟨_,rfl,vZ (⟨_,rfl,⟨_,_,rfl,rfl,⟨?clen,?comp⟩⟩⟩)⟩)))))⟩⟩⟩))))))))))))
   case clen=>
    unfold rN L2.cutD
    rw[List.length_zipWith,zc6,zf5,aI]
    omega
   case comp=>
    refine yI (fun _=>true) (fun d=>.bool (df d)) (fun x hx=>?_) ?_
    ·obtain⟨p,q,rfl,hpq⟩:=oS hc hx
     exact⟨_,rfl,fun C s2 H2 fp Q k=>wC k,fun _ C s2 H2 fp Q k=>fN (pH (xm (fun _ _=>rfl) (zj 0 rfl (zY (⟨_,_,_,rfl,rfl,rfl,zY (⟨_,_,rfl,rfl,xm (fun _ _=>rfl) (zj 1 rfl (zY (⟨_,_,_,rfl,rfl,rfl,⟨_,_,rfl,rfl,k⟩⟩)))⟩)⟩)))))⟩
    ·refine⟨(rN (cutD (ps.map dP) none (some (-1))) (cutD (ps.map dP) (some 1) none)).map df,?_,?_⟩
     ·rw[zd0,zi8.mpr (fun _ _=>rfl),zf7]
      rfl
     ·have e:((rN (cutD (ps.map dP) none (some (-1))) (cutD (ps.map dP) (some 1) none)).map df).all id=true:=by
       rw[zf6]
       intro b hb
       obtain⟨d,hd,rfl⟩:=zc0.mp hb
       obtain⟨p,q,rfl,hpq⟩:=oS hc hd
       exact zb6 hpq
      rw[e]
      exact q
theorem cS :zl ["_law_rules","_law_k","_law_day","_law_hidden"] ["_law_rules","_law_k","_law_day"] (zb eX):=⟨rfl,rfl,rfl,by decide +kernel,rfl,by decide +kernel,by decide +kernel⟩
theorem iW {f:Addr}{fd:FuncData}(F:Fun K "_law_shows" "_law_shows" eX f fd)(hm:mg "_law_shows"=some (.ref f))(hb:Binds K fd ["_law_rules","_law_k","_law_day"] [])(nb:NbT mg):Cal P w K mg base "_law_shows" 1 kK:=by
 refine tw F hm hb cS (fun as Q h=>?_) (fun cdv A' outer s H E as Q hr h=>?_)
 ·obtain⟨ds,n,d,day,rfl,_⟩:=h
  rfl
 ·obtain⟨ds,n,d,day,rfl,rd,hl,hd,q⟩:=h
  have nd:=cS.nd
  obtain⟨x,a,b,v,hx,rfl,a0,ab,b1,_⟩:=zX (rd d (za4 hd))
  refine qS 3 ["_law_rule_here","_law_day","_law_k","_law_rules"] [none,some 2,some 1,some 0] (.one 0) (yq ?_)
  and_intros
  refine⟨?_,?_⟩
  ·exact zb4 vU (by omega)
  refine yI (wU x day) (fun _=>.int 1) (fun e he=>?_) ?_
  ·obtain⟨u,a',b',v',hu,rfl,_,_,_,_⟩:=zX (rd e (ub he))
   refine⟨_,rfl,fun C s2 H2 fp Q k=>pw ?_,fun _ C s2 H2 fp Q k=>zY k⟩
   and_intros
   refine ixk rfl rfl (xk hd) ?_
   and_intros
   have k':Q (decide (u=x)&&(decide (a'≤day)&&decide (day≤b'))):=k
   refine oQ (fun h1=>?_) (fun h1=>by rw[h1] at k';exact k')
   rw[h1,zb3] at k'
   and_intros
   refine oQ (fun h2=>?_) (fun h2=>by rw[h2] at k';exact k')
   rw[h2,zb3] at k'
   and_intros
   exact k'
  rw[zd0,show ((n:Int)+1)=((n+1:Nat):Int) by omega,qj]
  have e:rV (.tuple [.str x,.int a,.int b,v]) (ds.drop (n+1)) day=((decide (a≤day)&&decide (day≤b))&&decide ((((ds.drop (n+1)).filter (wU x day)).length:Int)=0)):=by
   show ((decide (x=x)&&_)&&_)=_
   rw[zb6 rfl,zb3]<;>rfl
  rw[e] at q
  refine rq 3 rfl ?_
  and_intros
  refine ixk rfl rfl (xk hd) ?_
  and_intros
  refine oQ (fun h1=>?_) (fun h1=>by rw[h1] at q;exact q)
  rw[h1,zb3] at q
  and_intros
  refine ixk rfl rfl (xk hd) ?_
  and_intros
  refine oQ (fun h2=>?_) (fun h2=>by rw[h2] at q;exact q)
  rw[h2,zb3] at q
  and_intros
  rw[aI]
  exact q
end
abbrev vS :Stmt:=top 49
abbrev NmL :List Str:=["_law_script","_law_tape_here","_law_base_here","_law_rules","_law_book","_law_told","_law_k","_law_days","_law_first","_law_last","_law_day","_law_kept","_law_sizes","_law_one"]
theorem lu :zl NmL ["_law_script"] (zb vS):=⟨rfl,rfl,rfl,by decide +kernel,rfl,by decide +kernel,by decide +kernel⟩
abbrev stB (k:Nat):Stmt:=(zw vS).getD k (.Pass ⟨0,0,0,0⟩)
def lP (r:List Sp2):PyData:=.list (r.map dP)
theorem uA (rs:List (List Sp2)):(nP rs).map PyData.list=rs.map lP:=by
 unfold nP
 rw[zf7];rfl
theorem wk.rng {d:PyData}{es:List PyData}{r:List Sp2}(hd:yM d=true)(h:wk d es r){p:Sp2}(hp:p∈r):0≤p.1∧p.1≤p.2∧p.2≤1000000:=by
 obtain⟨x,a,b,v,hx,rfl,a0,ab,b1,_⟩:=zX hd
 have hv:=h.can.val p hp
 have h1:=((h.has p.1).mp ⟨p,hp,ze4 _,hv⟩).1
 have h2:=((h.has p.2).mp ⟨p,hp,hv,ze4 _⟩).1
 have g:∀day,wU x day (.tuple [.str x,.int a,.int b,v])=true→a≤day∧day≤b:=fun day z=>by
  have z':(decide (x=x)&&(decide (a≤day)&&decide (day≤b)))=true:=z
  simp only[decide_true,zb3,za0,aZ] at z'
  exact z'
 have g1:=g _ h1
 have g2:=g _ h2
 omega
theorem fj {p:Sp2}(h0:0≤p.1)(h1:p.1≤p.2)(h2:p.2≤1000000):zL 5000 (dP p)∧(dP p).depth≤1:=by
 have hbig:(1000001:Int)<big:=by decide
 have hneg:-big<(0:Int):=by decide
 exact⟨zL.tuple (n:=2000) (yg.two (zL.int (by omega) (by omega)) (zL.int (by omega) (by omega)) (aS _) (aS _)) (by show 2*(2000+2)+3≤5000;decide),by simp[dP,PyData.depth,PyData.depthAll]⟩
theorem tX {ds:List PyData}{rs:List (List Sp2)}(rd:yv ds)(hl:ds.length≤24)(S:uy ds rs):zL sizeLine (.list (rs.map lP)):=by
 have key:∀r∈rs,zL 200000 (lP r)∧(lP r).depth≤2:=fun r hr=>by
  obtain⟨k,hk⟩:=zg7 hr
  have k1:k<rs.length:=(aL.mp hk).1
  have k2:k<ds.length:=by rw[←S.len];exact k1
  have sr:=S.all k ds[k] r (aM k2) hk
  have hn:∀d∈r.map dP,zL 5000 d∧d.depth≤1:=fun d hd=>by
   obtain⟨p,hp,rfl⟩:=zc0.mp hd
   obtain⟨a,b,c⟩:=sr.rng (rd _ (List.getElem_mem k2)).rule hp
   exact fj a b c
  refine⟨zL.list (n:=5000) ⟨fun d hd=>(hn d hd).1,fun d hd=>by have:=(hn d hd).2;omega⟩ ?_,?_⟩
  ·rw[aI]
   have:=sr.len
   have h2:r.length*(5000+2)≤25*(5000+2):=zg6 _ this
   omega
  ·have:=rT (n:=1) fun d hd=>(hn d hd).2
   simp only[lP,PyData.depth]
   omega
 refine zL.list (n:=200000) ⟨fun d hd=>?_,fun d hd=>?_⟩ ?_
 ·obtain⟨r,hr,rfl⟩:=zc0.mp hd
  exact (key r hr).1
 ·obtain⟨r,hr,rfl⟩:=zc0.mp hd
  have:=(key r hr).2
  omega
 ·rw[aI,S.len]
  have h2:ds.length*(200000+2)≤24*(200000+2):=zg6 _ hl
  exact zb4 (Nat.add_le_add_right h2 2) (by decide)
theorem yv.noLs {ds:List PyData}(h:yv ds):L2.noLs ds=true:=by
 induction ds with
 |nil=>rfl
 |cons d r ih=>
  have h1:=h d aJ
  obtain⟨u,i,j,v,hu,rfl,_,_,_,hw⟩:=zX h1.rule
  have h2:=ih fun e he=>h e (aK _ he)
  show (L2.noLs [.str u,.int i,.int j,v]&&L2.noLs r)=true
  rw[h2,Bool.and_true]
  show (true&&(true&&(true&&(L2.noL v&&true))))=true
  rw[tM hw]
  rfl
theorem jZ {qs:List PyData}(h:∀e∈qs,∃p:Sp2,e=dP p):L2.noLs qs=true:=by
 induction qs with
 |nil=>rfl
 |cons e r ih=>
  obtain⟨p,rfl⟩:=h e aJ
  exact ih fun e he=>h e (aK _ he)
theorem qK (ds:List PyData):ds.filter (fun _=>true)=ds:=zi8.mpr fun _ _=>rfl
theorem lh (ns:List Int):L2.noLs (ns.map .int)=true:=by
 induction ns with
 |nil=>rfl
 |cons p r ih=>exact ih
theorem mP {ns:List Int}(hl:ns.length≤30)(h:∀n∈ns,0≤n∧n≤1000):zL sizeLine (.list (ns.map .int)):=by
 have hbig:(1000001:Int)<big:=by decide
 have hneg:-big<(0:Int):=by decide
 have hn:∀d∈ns.map PyData.int,zL 2000 d∧d.depth=0:=fun d hd=>by
  obtain⟨p,hp,rfl⟩:=zc0.mp hd
  have:=h p hp
  exact⟨zL.int (by omega) (by omega),rfl⟩
 refine zL.list (n:=2000) ⟨fun d hd=>(hn d hd).1,fun d hd=>by have:=(hn d hd).2;omega⟩ ?_
 rw[aI]
 have h2:ns.length*(2000+2)≤30*(2000+2):=zg6 _ hl
 have h3:30*(2000+2)+2≤sizeLine:=by decide
 omega
theorem mN {X:Cx}{α α0:Ev}{E:yk}{sts:List Stmt}(hl:α0.length=α.length)(le:∀(i:Nat) a,α0[i]?=some (some a)→α[i]?=some (some a))(h:SvS X α0 sts E):SvS X α sts E:=fun F σ H D m r=>h F σ H D (m.forget hl le) r
theorem mI {X:Cx}{α:Ev}{E:yk}{sts:List Stmt}(i:Nat){l:Addr}{ls:List Addr}{dss:List (List PyData)}(hi:α[i]?=some (some (.nst l ls dss)))(h:ls.length=dss.length→SvS X α sts E):SvS X α sts E:=fun F σ H D m r=>h (m.nst hi).2.2.1.len F σ H D m r
abbrev stA (b:Int)(ds:List PyData)(bk td:A)(o6 o7 o8 o9 o10 o11 o12 o13:Option A):Ev:=[none,some .tape,some (.dat (.int b)),some (.own ds),some bk,some td,o6,o7,o8,o9,o10,o11,o12,o13]
section
variable {P:Program}{w:World}{K:PySem.W.Frag}{mg:Str→Option Value}{base:Heap}{cs:Cs}{f C:Addr}{cdv:Value}{A':Around}{outer:List Env}{s:Shared}{H:Hp}{E:XK}{En:yk}{b:Int}{ds:List PyData}{rs:List (List Sp2)}{l:Addr}{ls:List Addr}
abbrev cxL (P:Program)(w:World)(K:PySem.W.Frag)(mg:Str→Option Value)(base:Heap)(f:Addr)(cdv:Value)(A':Around)(outer:List Env)(s:Shared)(H:Hp)(E:XK):Cx:=(vt CX0 P w K mg base NmL "law" (zb vS) f cdv A' outer s H E).nox
abbrev RmL (f:Addr)(cdv:Value)(A':Around)(s:Shared):Prop:=zR (10+1) (A'.deeper (envOfC "law" (zb vS) s.heap.objs.size f cdv))
abbrev st0 (C:Addr)(cs:Cs)(b:Int)(ds:List PyData)(rs:List (List Sp2))(l:Addr)(ls:List Addr):Ev:=stA b ds (.dat (oW C cs ds)) (.nst l ls (nP rs)) none none none none none none none none
theorem p6 (nb:NbT mg)(hr:RmL f cdv A' s)(CR:Cal P w K mg base "_law_rising" 1 iJ)(rd:yv ds)(hl:ds.length≤24)(S:uy ds rs):SvS (cxL P w K mg base f cdv A' outer s H E) (st0 C cs b ds rs l ls) [stB 6] {En with nx:=fun α=>α=st0 C cs b ds rs l ls}:=by
 have nd:=lu.nd
 have nt:=tX rd hl S
 refine vF (qu 5 rfl (vY 3 rfl (EvW.t ?_)))
 rw[uA]
 refine nR (uC (sx (xK (by rfl) nb.isinstance (by rfl) nb.list boot_list (zj 5 rfl ⟨_,nt.nod,rS _,⟨_,rfl,?_⟩⟩))))
 refine jv rfl (nR (ke (xC (by rfl) nb.len (zj 5 rfl ⟨_,rfl,xC (by rfl) nb.len (zj 3 rfl ⟨_,rfl,⟨_,_,rfl,rfl,?_⟩⟩)⟩))))
 refine jv (by rw[aI,S.len];simp) (pI (uC (sx (iA rfl (by rfl) nb.all (EvL.d (rK ["_law_one"] [none] (.one 0) (yq (zj 5 rfl ⟨_,rfl,by rw[aI,S.len];omega,?_⟩))))))))
 refine xZ (fun _=>.bool true) (fun r hr'=>⟨_,rfl,fun C s2 H2 fp Q k=>?_⟩) ?_
 ·obtain⟨k',hk⟩:=zg7 hr'
  have k1:k'<rs.length:=(aL.mp hk).1
  have k2:k'<ds.length:=by rw[←S.len];exact k1
  have sr:=S.all k' ds[k'] r (aM k2) hk
  exact uo CR (hr.mono (by decide)) (by rfl) (zx (zj 0 rfl (zZ ⟨r,rfl,sr.can,by have:=sr.len;omega,k⟩)))
 ·refine⟨rs.map fun _=>true,by rw[zd0,zf7];rfl,⟨_,rfl,?_⟩⟩
  have e:(rs.map fun _=>true).all id=true:=by simp
  rw[e]
  exact uc rfl (zT (zT rfl))
theorem p7 (nb:NbT mg)(hr:RmL f cdv A' s)(CH:Cal P w K mg base "_law_has" 1 jr)(CS:Cal P w K mg base "_law_shows" 1 kK)(rd:yv ds)(hl:ds.length≤24)(S:uy ds rs):SvS (cxL P w K mg base f cdv A' outer s H E) (st0 C cs b ds rs l ls) [stB 7] {En with nx:=fun α=>α=st0 C cs b ds rs l ls}:=by
 have nd:=lu.nd
 refine gp 4 rfl (fun G v h=>iz G v h) (fun lb=>?_)
 refine jt (E:={nx:=fun _=>False,rt:=En.rt}) 5 rfl ?_
 refine rh (.one 6) (tY (by rfl) nb.range (oN 3 rfl (xC (by rfl) nb.len (zj 3 rfl ⟨_,rfl,rfl,?_⟩))))
 refine⟨_,rfl,by omega,by omega,?_⟩
 rw[uA]
 refine xT (fun i α=>α=stA b ds (.at lb) (.pin l (ls.map .ref) (rs.map lP)) none none none none none none none none) rfl ?_ ?_
 ·rintro i d α hd rfl
  refine⟨_,rfl,?_⟩
  refine sC 7 nd (xI ?_)
  and_intros
  have hi:i<ds.length:=by
   have:=(aL.mp hd).1
   rw[aI,yt] at this
   omega
  have ed:d=.int (i:Int):=by
   rw[za6,uQ (by omega)] at hd
   simpa using hd.symm
  subst ed
  obtain⟨r,hr0⟩:∃r,rs[i]?=some r:=⟨_,aM (by rw[S.len];exact hi)⟩
  have hr1:(rs.map lP)[i]?=some (lP r):=by rw[za6,hr0];rfl
  have sr:=S.all i ds[i] r (aM hi) hr0
  refine xJ (fun α=>∃(ns:List Int) (o8 o9:Option A),ns.length≤300∧α=stA b ds (.at lb) (.pin l (ls.map .ref) (rs.map lP)) (some (.dat (.int i))) (some (.own (ns.map .int))) o8 o9 none none none none) ?_ ?_
  ·refine rh (.many [8,9]) (yq (EvL.d (oM 3 rfl (wD (EvL.d (tN (pN hr.one (fun _ _=>rfl) (kL 5 rfl (zj 6 rfl (ixk rfl rfl (xk hr1) ?_))))))))))
   and_intros
   refine EvL.d (rK ["_law_rule_here"] [none] (.one 0) (yq ?_))
   and_intros
   have l1:(L2.cutD ds (some (i:Int)) (some ((i:Int)+4))).length≤ds.length:=vU
   have l2:(L2.cutD ds (some (-2)) none).length≤ds.length:=vU
   refine⟨by omega,_,rfl,by rw[aX];omega,?_⟩
   have hm:∀e∈L2.cutD ds (some (i:Int)) (some ((i:Int)+4))++L2.cutD ds (some (-2)) none,e∈ds:=fun e he=>(za8.mp he).elim ub ub
   have l3:(L2.cutD ds (some (i:Int)) (some ((i:Int)+4))++L2.cutD ds (some (-2)) none).length≤48:=by rw[aX];omega
   generalize L2.cutD ds (some (i:Int)) (some ((i:Int)+4))++L2.cutD ds (some (-2)) none=us at hm l3
   refine yI (fun _=>true) (fun e=>dP (wm e)) (fun e he=>?_) ?_
   ·obtain⟨u,a',b',v',hu,rfl,_,_,_,_⟩:=zX (rd e (hm e he)).rule
    refine⟨_,rfl,fun C s2 H2 fp Q k=>wC k,fun _ C s2 H2 fp Q k=>?_⟩
    and_intros
    exact k
   rw[zd0,qK]
   have l4:(L2.cutD (r.map dP) none (some 6)).length≤25:=zb4 vU (by rw[aI];exact sr.len)
   have hL:∀e∈L2.cutD (r.map dP) none (some 6)++us.map fun e=>dP (wm e),∃p:Sp2,e=dP p:=fun e he=>by
    rcases za8.mp he with he|he
    ·obtain⟨p,_,rfl⟩:=kl (ub he)
     exact⟨p,rfl⟩
    ·obtain⟨u,_,rfl⟩:=zc0.mp he
     exact⟨_,rfl⟩
   have lL:(L2.cutD (r.map dP) none (some 6)++us.map fun e=>dP (wm e)).length≤73:=by rw[aX,aI];omega
   refine⟨_,_,rfl,rfl,by rw[aI];omega,jZ hL,_,rfl,?_⟩
   generalize (L2.cutD (r.map dP) none (some 6)++us.map fun e=>dP (wm e))=qs at hL lL
   refine xT (fun j α=>∃(ns:List Int) (o8 o9:Option A),ns.length≤2+4*j∧α=stA b ds (.at lb) (.pin l (ls.map .ref) (rs.map lP)) (some (.dat (.int i))) (some (.own (ns.map .int))) o8 o9 none none none none) ⟨[0,1000000],none,none,aN _,rfl⟩ ?_ ?_
   ·rintro j e α he ⟨ns,o8,o9,ln,rfl⟩
    obtain⟨p,rfl⟩:=hL e (za4 he)
    have hj:=(aL.mp he).1
    refine⟨_,rfl,?_⟩
    refine lp 7 rfl (EvL.d (xI ?_))
    and_intros
    refine⟨by rw[aI];show ns.length+4≤1000;omega,zT ⟨ns++[if p.1-1 > 0 then p.1-1 else 0,p.1,p.2,if p.2+1<1000000 then p.2+1 else 1000000],some (.dat (.int p.1)),some (.dat (.int p.2)),by rw[aX];show ns.length+4≤_;omega,?_⟩⟩
    rw[ze8]
    rfl
   ·rintro α ⟨ns,o8,o9,ln,rfl⟩
    exact zT ⟨ns,o8,o9,by omega,rfl⟩
  ·rintro α ⟨ns,o8,o9,ln,rfl⟩
   refine rq 7 rfl ?_
   refine rh (.one 10) (yq (zj 7 rfl ⟨_,rfl,?_⟩))
   refine xT (fun j α=>∃(o10:Option A),α=stA b ds (.at lb) (.pin l (ls.map .ref) (rs.map lP)) (some (.dat (.int i))) (some (.dat (.list (ns.map .int)))) o8 o9 o10 none none none) ⟨none,rfl⟩ ?_ ?_
   ·rintro j e α he ⟨o10,rfl⟩
    obtain⟨day,_,rfl⟩:=zc0.mp (za4 he)
    refine⟨_,rfl,?_⟩
    refine vF (vY 3 rfl (pe hr.units (uo CH (hr.mono (by decide)) (by rfl) (zx (pN hr.one (fun _ _=>rfl) (kL 5 rfl (zj 6 rfl (ixk rfl rfl (xk hr1) ?_))))))))
    and_intros
    refine⟨r,day,rfl,by have:=sr.len;omega,?_⟩
    refine uo CS (hr.mono (by decide)) (by rfl) (zx (zj 3 rfl (zx (zj 6 rfl (zx (zj 10 rfl (zZ ⟨ds,i,ds[i],day,rfl,fun e he=>(rd e he).rule,by omega,aM hi,?_⟩)))))))
    rw[sr.eq day]
    refine rW ?_
    exact uc (by simp) (zT (zT ⟨_,rfl⟩))
   ·rintro α ⟨o10,rfl⟩
    refine mN (α0:=stA b ds (.at lb) (.pin l (ls.map .ref) (rs.map lP)) none none none none none none none none) rfl (fun j a ha=>?_) (zT rfl)
    rcases j with _|_|_|_|_|_|_|_|_|_|_|_|_|_|j<;>first|exact ha|cases ha
 ·rintro α rfl
  refine zT ⟨rfl,fun j a hj ha=>?_,rfl,rfl⟩
  rcases j with _|_|_|_|_|_|_|_|_|_|_|_|_|_|j
  ·cases ha
  ·cases ha;trivial
  ·cases ha;rfl
  ·cases ha;exact rd.noLs
  ·cases ha;trivial
  ·exact absurd rfl hj
  all_goals cases ha
end
theorem mf {X:Cx}{j i:Nat}{body rest:List Stmt}{E:yk}{l:Addr}{ls:List Addr}{α:Ev}(P:Nat→Ev→Prop)(h0:P 0 α)(hi:∀k α,P k α→∃dss,α[i]?=some (some (.nst l ls dss)))
  (hs:∀k a α,ls[k]?=some a→P k α→SvS X (α.set j (some (.at a))) body {nx:=P (k+1),ct:=P (k+1),bk:=fun _=>False,rt:=E.rt}) (hd:∀α,P ls.length α→SvS X α rest E):uG X j body rest E i l ls ls α:=by
 have key:∀n k α,n=ls.length-k→k≤ls.length→P k α→uG X j body rest E i l ls (ls.drop k) α:=by
  intro n
  induction n with
  |zero=>
   intro k α hn hk p
   have e:k=ls.length:=by omega
   subst e
   rw[zd3]
   exact⟨hi _ _ p,hd α p⟩
  |succ n ih=>
   intro k α hn hk p
   have hlt:k<ls.length:=by omega
   rw[zb0 hlt]
   exact⟨hi _ _ p,(hs k ls[k] α (aM hlt) p).imp (fun α p=>ih (k+1) α (by omega) hlt p) (fun _ z=>z) (fun _ z=>z) (fun α p=>ih (k+1) α (by omega) hlt p)⟩
 exact key _ 0 α rfl (aS _) h0
section
variable {X:Cx}{α:Ev}{E:yk}{rest:List Stmt}{tg iter:Expr}{pos:Pos}
theorem eA (k i:Nat)(N:List Str)(imp:List (Option Nat))(pat:Pat){l0:Addr}{ls0:List Addr}{ds0:List (List PyData)}{x:Str}{pos' cpos:Pos}{scope:Scope}{elt:Expr}{ifs:List Expr}(hk:α[k]?=some (some (.nst l0 ls0 ds0)))
  (h:EvI X (α.set k (some (.dat (.list (ds0.map .list))))) tg iter fun ds=>ds.length≤1000∧yN (fun C s2 H2 fp=>X.comp N scope C s2 H2 fp) pat ifs elt (zS imp (α.set k (some (.dat (.list (ds0.map .list)))))) ds [] fun ds=>noLs ds=true∧SvS X (α.set i (some (.own ds))) rest E)
  (hN:X.N.Nodup:=by assumption)
  (nd:N.Nodup:=by decide +kernel) (h1:scope.kind=.function:=by rfl) (h2:∀y∈scope.names,y.2≠.cell:=by decide +kernel) (h3:∀y∈scope.names,y.2=.local→scope.names.lookup y.1=some .local:=by decide +kernel) (h4:scope.names.all (freeOk X.env.scope)=true:=by rfl) (h5:imp.length=N.length:=by rfl)
  (h6:((imp.zip N).all fun p=>match p.1 with|none=>true|some j=>X.N[j]? == some p.2&&scope.names.lookup p.2 == some .free)=true:=by rfl) (hfree:pat.free (zS imp (α.set k (some (.dat (.list (ds0.map .list))))))=true:=by rfl)
  (hg:∀C s2 H2 fp,N.Nodup→PG (X.comp N scope C s2 H2 fp) tg (uS X.K pat):=by intro _ _ _ _ hnd;first|exact zz hnd rfl (Or.inl rfl)|exact yK rfl rfl (by repeat (first|exact xg|refine ym (zz hnd rfl (Or.inl rfl)) ?_)))
  (hc:X.calm=true:=by rfl)
  (hi:X.N[i]?=some x:=by rfl) (hx:Loc X.env.scope x:=by first|exact Or.inl rfl|exact Or.inr rfl) (hsw:swapsWith (.ListComp elt [⟨tg,iter,ifs,0⟩] scope cpos) (some (.Name x pos')) pos.line X.env=pure true:=by rfl)
  (hf:X.fn x=true∨X.env.scope.names.lookup x=some .local:=by first|exact .inl rfl|exact .inr rfl|assumption) (hs:∀x,foldedSetIterable iter X.env x=pure x:=by intro _;rfl):
  SvS X α (.Assign [.Name x pos'] (.ListComp elt [⟨tg,iter,ifs,0⟩] scope cpos) pos::rest) E:=fun F σ H D m r=>by
 obtain⟨Y,rfl,h⟩:=sR hfree h F σ H (fun v H'=>jU X rest D (σ.set i (some v)) H') (m.frzn hk) fun ds v H' q t kz fl=>q.2 F _ H' D (m.setOwn t kz (by
  obtain⟨l,xs,g1,g2,g3,g4⟩:=fl
  refine⟨l,xs,g1,g2,g3,g4.noL (fun a ys hno z=>?_) q.1⟩
  obtain⟨z1,z2⟩:=zf z
  obtain⟨w1,w2⟩:=zf (sT m kz hk a ys hno (zv z1.1 z2))
  exact zv ⟨w1,z1.2⟩ w2)) r
 exact⟨_,zE (qv hc ⟨h1,nd,h2,h3,uj h4,h5,h6⟩ wM (fun C s2 H2 fp=>hg C s2 H2 fp nd) (fun C s2 H2 fp pins s σ H Q I h=>vX pins s σ H Q I (h C s2 H2 fp)) (fun C s2 H2 fp pins s σ H Q I h=>zi pins s σ H Q I (h C s2 H2 fp)) hN hi hx hsw hf hs) zK,h⟩
end
abbrev zP :PyData:=.tuple [.int 0,.int 0]
def uv (k:Nat)(dss:List (List PyData)):List (List PyData):=(dss.take k).map (fun r=>r++[zP])++dss.drop k
theorem cq (dss:List (List PyData)):uv 0 dss=dss:=by unfold uv;simp
theorem ja (dss:List (List PyData)):uv dss.length dss=dss.map fun r=>r++[zP]:=by unfold uv;simp
theorem jh {dss:List (List PyData)}{k:Nat}(h:k<dss.length):(uv k dss)[k]?=some dss[k]:=by
 unfold uv
 have hl:((dss.take k).map fun r=>r++[zP]).length=k:=by rw[aI,zc6];omega
 rw[zd6 (by omega),hl,Nat.sub_self,List.getElem?_drop,Nat.add_zero,aM h]
theorem jQ {dss:List (List PyData)}{k:Nat}(h:k<dss.length):(uv k dss).set k (dss[k]++[zP])=uv (k+1) dss:=by
 unfold uv
 have hl:((dss.take k).map fun r=>r++[zP]).length=k:=by rw[aI,zc6];omega
 rw[List.set_append_right _ _ (by omega),hl,Nat.sub_self,zb0 h,List.set_cons_zero,zf1,aM h,ze8,List.append_assoc]
 rfl
section
variable {P:Program}{w:World}{K:PySem.W.Frag}{mg:Str→Option Value}{base:Heap}{cs:Cs}{f C:Addr}{cdv:Value}{A':Around}{outer:List Env}{s:Shared}{H:Hp}{E:XK}{En:yk}{b:Int}{ds:List PyData}{rs:List (List Sp2)}{l:Addr}{ls:List Addr}{bk:A}{o11 o12:Option A}
theorem p10 (nb:NbT mg)(hr:RmL f cdv A' s){dss:List (List PyData)}(hl:ls.length=dss.length)(hn:∀r∈dss,r.length≤900):SvS (cxL P w K mg base f cdv A' outer s H E) (stA b ds bk (.nst l ls dss) none none none none none o11 o12 none) [stB 10] {En with nx:=fun α=>∃o13,α=stA b ds bk (.nst l ls (dss.map fun r=>r++[zP])) none none none none none o11 o12 o13}:=by
 have nd:=lu.nd
 refine iZ 5 13 ze0 rfl rfl (zz (i:=13) nd rfl (Or.inl rfl)) ?_
 refine mf (fun k α=>∃o13,α=stA b ds bk (.nst l ls (uv k dss)) none none none none none o11 o12 o13) ⟨none,by rw[cq]⟩ (fun k α h=>?_) (fun k a α ha h=>?_) (fun α h=>?_)
 ·obtain⟨o13,rfl⟩:=h
  exact⟨_,rfl⟩
 ·obtain⟨o13,rfl⟩:=h
  have hk:k<dss.length:=by rw[←hl];exact (aL.mp ha).1
  refine fu 5 13 k rfl rfl ha (jh hk) ?_
  and_intros
  refine⟨by have:=hn _ (List.getElem_mem hk);omega,zT ⟨some (.at a),?_⟩⟩
  show stA b ds bk (.nst l ls ((uv k dss).set k (dss[k]++[zP]))) none none none none none o11 o12 (some (.at a))=_
  rw[jQ hk]
 ·obtain⟨o13,rfl⟩:=h
  refine zT ⟨o13,?_⟩
  rw[hl,ja]
theorem p11 (nb:NbT mg)(hr:RmL f cdv A' s){o13:Option A}(lr:rs.length≤24)(hn:∀r∈rs,r.length≤25):SvS (cxL P w K mg base f cdv A' outer s H E) (stA b ds bk (.nst l ls ((nP rs).map fun r=>r++[zP])) none none none none none o11 (some (.own (rs.map fun r=>.int (r.length:Int)))) o13) [stB 11] {En with nx:=fun α=>α=stA b ds bk (.nst l ls ((nP rs).map fun r=>r++[zP])) none none none none none o11 (some (.own (rs.map fun r=>.int (r.length:Int)))) o13}:=by
 have nd:=lu.nd
 have eg:((nP rs).map fun r=>r++[zP]).map PyData.list=rs.map fun r=>PyData.list (r.map dP++[zP]):=by
  unfold nP
  rw[zf7,zf7];rfl
 have ni:=mP (ns:=rs.map fun r=>(r.length:Int)+1) (by rw[aI];omega) (fun n hn'=>by
  obtain⟨r,hr',rfl⟩:=zc0.mp hn'
  have:=hn r hr'
  omega)
 refine vF (qu 5 rfl (vY 12 rfl (pe hr.units (EvL.d (rK ["_law_one"] [none] (.one 0) (yq (zj 5 rfl ⟨_,rfl,?_⟩)))))))
 rw[eg]
 refine⟨by rw[aI];omega,?_⟩
 refine xZ (fun r=>.int ((r.length:Int)+1)) (fun r _=>⟨_,rfl,fun C s2 H2 fp Q k=>?_⟩) ?_
 ·refine xC (by rfl) nb.len (zj 0 rfl ⟨_,rfl,?_⟩)
  rw[aX,aI]
  exact k
 rw[zd0]
 refine EvL.d (rK ["_law_size"] [none] (.one 0) (yq (zj 12 rfl ⟨_,rfl,by rw[aI];omega,?_⟩)))
 refine xZ (fun r=>.int ((r.length:Int)+1)) (fun r _=>⟨_,rfl,fun C s2 H2 fp Q k=>?_⟩) ?_
 ·and_intros
  exact k
 rw[zd0]
 rw[show (rs.map fun r=>PyData.int ((r.length:Int)+1))=(rs.map fun r=>(r.length:Int)+1).map .int by rw[zf7];rfl]
 refine eqk ni.shaped ni.shaped ni.nod ni.nod ?_
 rw[SeqAt.eqv_refl _ ni.lay]
 exact uc rfl (zT (zT rfl))
end
section
variable {P:Program}{w:World}{K:PySem.W.Frag}{mg:Str→Option Value}{base:Heap}{cs:Cs}
theorem dY {f fT C:Addr}{fd fdT:FuncData}(F:Fun K "law" "law" vS f fd)(nb:NbT mg)(GT:zt P w K mg base CX0 1 fT fdT ["_law_script"] (ox K))(mT:mg "_law_tape"=some (.ref fT))(kT:PySem.W.keepIn K (.ref fT)=true)(bT:Binds K fdT ["_law_script"] [])
  (CD:Cal P w K mg base "_law_draw" 1 xU) (CBa:Cal P w K mg base "_law_base" 2 oY) (CRu:Cal P w K mg base "_law_rule" 4 qO) (CBk:fi P w K mg base "Book" 9 [] (rD C cs)) (MR:uV P w K mg base C "rules" 3 (vW C cs)) (CSh:Cal P w K mg base "shown" 4 (nN C cs))
  (CR:Cal P w K mg base "_law_rising" 1 iJ) (CH:Cal P w K mg base "_law_has" 1 jr) (CS:Cal P w K mg base "_law_shows" 1 kK):
  zt P w K mg base CX0 12 f fd ["_law_script"] (qh K):=by
 refine af (k:=10) F lu GT mT kT bT rfl rfl (Or.inr rfl) (Or.inl rfl) (fun cdv A' outer s H E hr=>?_)
 have nd:=lu.nd
 and_intros
 refine⟨rfl,fun b b0 b1=>?_⟩
 refine qS 3 ["_law_k","_law_base_here","_law_tape_here"] [none,some 2,some 1] (.one 0) (tY (by rfl) nb.range ?_)
 and_intros
 refine nD (fun d=>∃z:Int,d=.int z∧0≤z∧z≤24) rfl (by assumption) (by assumption) ⟨⟨_,rfl,by omega,by omega⟩,⟨_,rfl,by omega,by omega⟩,trivial⟩ ?_
 rintro _ ⟨m,rfl,m1,m24⟩
 refine⟨_,rfl,by omega,by omega,by rw[aI,yt];omega,?_⟩
 refine tV (fun i acc=>yv acc∧acc.length=i) ⟨fun d hd=>by simp at hd,rfl⟩ (fun i d acc hd ⟨ra,la⟩=>⟨_,rfl,fun C s2 H2 fp=>?_⟩) (fun ds0 h=>?_)
 ·refine wC ?_
  rw[if_pos rfl]
  intro C s2 H2 fp
  and_intros
  refine⟨b0,b1,fun d rd=>⟨fun e he=>?_,by rw[aX,la];rfl⟩⟩
  rcases za8.mp he with he|he
  ·exact ra e he
  ·rw[aV.mp he];exact rd
 obtain⟨rd0,ld0⟩:=h
 rw[aI,yt] at ld0
 refine xJ (fun α=>∃ds,yv ds∧ds.length≤24∧α=[none,some .tape,some (.dat (.int b)),some (.own ds),none,none,none,none,none,none,none,none,none,none]) ?_ ?_
 ·and_intros
  refine wa (fun _=>?_) (fun _=>zT (zT ⟨ds0,rd0,by omega,rfl⟩))
  refine rq 3 rfl ?_
  refine qS 3 ["_law_rule_here"] [none] (.one 0) (yq (zj 3 rfl ⟨_,rfl,by omega,?_⟩))
  refine yI (fun _=>true) (fun e=>.tuple [.str "fee",.int (wm e).1,.int (wm e).2,.int 3]) (fun e he=>?_) ?_
  ·obtain⟨u,a',b',v',hu,rfl,_,_,_,_⟩:=zX (rd0 e he).rule
   refine⟨_,rfl,fun C s2 H2 fp Q k=>wC k,fun _ C s2 H2 fp Q k=>?_⟩
   and_intros
   exact k
  rw[zd0,qK]
  refine zT (zT ⟨_,fun d hd=>?_,by rw[aI];omega,rfl⟩)
  obtain⟨e,he,rfl⟩:=zc0.mp hd
  obtain⟨u,a',b',v',hu,rfl,a0,ab,b1',_⟩:=zX (rd0 e he).rule
  exact vn.of (by simp[words]) a0 ab b1' (by rw[tW];exact within_int (by decide) (by decide)) ((jY (by decide) (by decide)).mono (by decide)) (aS _)
 rintro α ⟨ds,rd,hl,rfl⟩
 refine tf 4 nd (EvN.d (gK CBk (hr.mono (by decide)) (by rfl) (zx (EvL.d (oM 3 rfl (sA (by rfl) nb.list (zj 3 rfl ⟨ds,rfl,rd.noLs,zZ ⟨ds,.inl rfl,rd.rules,hl,?_⟩⟩)))))))
 refine gg 5 nd (cc CSh (hr.mono (by decide)) (by rfl) (zx (zj 4 rfl (zZ ⟨ds,rfl,rd.rules,hl,fun rs S l0 ls0=>⟨l0,ls0,_,rfl,fun l ls=>?_⟩⟩))))
 have nt:=tX rd hl S
 have lr:rs.length≤24:=by rw[S.len];exact hl
 have hn:∀r∈rs,r.length≤25:=fun r hr'=>by
  obtain⟨k',hk⟩:=zg7 hr'
  have k1:k'<rs.length:=(aL.mp hk).1
  have k2:k'<ds.length:=by rw[←S.len];exact k1
  exact (S.all k' ds[k'] r (aM k2) hk).len
 refine xJ _ (p6 nb hr CR rd hl S) ?_
 rintro α rfl
 refine xJ _ (p7 nb hr CH CS rd hl S) ?_
 rintro α rfl
 refine tf 11 nd (jk 5 rfl (nE hr.gd hr.units (by rfl) nb.repr (zj 5 rfl ?_)))
 rw[uA]
 refine⟨nt,rfl,?_⟩
 refine eA 5 12 ["_law_one"] [none] (.one 0) rfl (yq (zj 5 rfl ⟨_,rfl,?_⟩))
 rw[uA]
 refine⟨by rw[aI];omega,?_⟩
 refine xZ (fun r=>.int (r.length:Int)) (fun r _=>⟨_,rfl,fun C s2 H2 fp Q k=>?_⟩) ?_
 ·refine xC (by rfl) nb.len (zj 0 rfl ⟨_,rfl,?_⟩)
  rw[aI]
  exact k
 rw[zd0]
 refine⟨by rw[show (rs.map fun r=>PyData.int (r.length:Int))=(rs.map fun r=>(r.length:Int)).map .int by rw[zf7];rfl];exact lh _,?_⟩
 refine mI 5 rfl (fun hls=>?_)
 refine xJ _ (p10 nb hr hls (fun r hr'=>?_)) ?_
 ·obtain⟨r',h',rfl⟩:=zc0.mp hr'
  rw[aI]
  have:=hn r' h'
  omega
 rintro α ⟨o13,rfl⟩
 refine xJ _ (p11 nb hr lr hn) ?_
 rintro α rfl
 refine hJ 5 rfl ?_
 refine vd 5 rfl (EvL.d (xI (zZ ⟨_,rfl,zd1 rfl,by rw[aI,aI];unfold nP;rw[aI];omega,?_⟩)))
 refine rG (oN 3 rfl ?_)
 and_intros
 refine⟨rd.rules,hl,fun rs' S' l1 ls1=>?_⟩
 cases S'.uniq S
 have ea:(A.nst l1 ls1 (nP rs)).d=.list (rs.map lP):=by
  show PyData.list ((nP rs).map .list)=_
  rw[uA]
 dsimp only
 rw[ea]
 refine⟨nt,zj 11 rfl (oT ⟨_,rfl,?_⟩)⟩
 refine fL (by simp) ?_
 and_intros
 refine⟨rd.rules,by omega,?_⟩
 refine⟨rd.nice (by omega),?_⟩
 and_intros
 refine⟨rd.nice (by omega),?_⟩
 and_intros
 refine⟨rfl,?_⟩
 rw[show (A.own ds).d=.list ds from rfl,zb6 rfl]
end
def FnF (K:PySem.W.Frag)(f:Addr)(nm ql:Str)(st:Stmt):Prop:=∃fd,Fun K nm ql st f fd
theorem mkF {K:PySem.W.Frag}{f:Addr}{nm ql:Str}{st:Stmt}{oc kV dc pm cd ct:Value}{od an:Option Addr}{sl:Array (Option Value)}(l:K.lookup f=some ⟨oc,od,.func (PySem.W.fnOf nm ql (ye st) (zw st) (zb st) .none kV dc pm an cd ct),sl⟩)(c:PySem.W.codeIn K cd ql=true)(k:PySem.W.keepIn K (.ref f)=true):FnF K f nm ql st:=⟨_,jH l c k⟩
def FnG (K:PySem.W.Frag)(f:Addr)(nm:Str)(st:Stmt):Prop:=PySem.W.nsIn K mainGlobals nm=some (some (.ref f))∧FnF K f nm nm st
theorem mkG {K:PySem.W.Frag}{f:Addr}{nm:Str}{st:Stmt}{oc kV dc pm cd ct:Value}{od an:Option Addr}{sl:Array (Option Value)}(a:PySem.W.nsIn K mainGlobals nm=some (some (.ref f)))(l:K.lookup f=some ⟨oc,od,.func (PySem.W.fnOf nm nm (ye st) (zw st) (zb st) .none kV dc pm an cd ct),sl⟩)(c:PySem.W.codeIn K cd nm=true)(k:PySem.W.keepIn K (.ref f)=true):FnG K f nm st:=⟨a,mkF l c k⟩
theorem FnF.get {K:PySem.W.Frag}{f:Addr}{nm ql:Str}{st:Stmt}(ps:List Str)(h:FnF K f nm ql st)(hb:∀(kV doc pm:Value) (an:Option Addr) (cdv ct:Value) (us:List Value),us.length=ps.length→bindArgs (PySem.W.fnOf nm ql (ye st) (zw st) (zb st) .none kV doc pm an cdv ct) ⟨us,[]⟩=pure (ps.zip us)):∃fd,Fun K nm ql st f fd∧Binds K fd ps []:=by
 obtain⟨fd,F⟩:=h
 exact⟨fd,F,F.binds hb⟩
theorem FnG.get {K:PySem.W.Frag}{h0:Heap}{mg:Str→Option Value}{f:Addr}{nm:Str}{st:Stmt}(ps:List Str)(h:FnG K f nm st)(X:K.In h0)(G:h0.Ns mainGlobals mg)(hb:∀(kV doc pm:Value) (an:Option Addr) (cdv ct:Value) (us:List Value),us.length=ps.length→bindArgs (PySem.W.fnOf nm nm (ye st) (zw st) (zb st) .none kV doc pm an cdv ct) ⟨us,[]⟩=pure (ps.zip us)):∃fd,mg nm=some (.ref f)∧Fun K nm nm st f fd∧Binds K fd ps []:=by
 obtain⟨a,fd,F⟩:=h
 exact⟨fd,zb7 X G a,F,F.binds hb⟩
theorem mkR {K:PySem.W.Frag}{C gi gt ge gw:Addr}(pg:PySem.W.plainGet K C Str.empty=true)(hd:PySem.W.hasDictIn K C=true)(po:PySem.W.plainOver K C=true)(sa:PySem.W.findIn K (.ref C) "__setattr__"=some (some (.builtin "object.__setattr__")))(n1:PySem.W.findIn K (.ref C) "first"=some none)(n2:PySem.W.findIn K (.ref C) "last"=some none)(n3:PySem.W.findIn K (.ref C) "worth"=some none)(mk:PySem.W.makesIn K C=true)(f1:PySem.W.findIn K (.ref C) "__init__"=some (some (.ref gi)))(i1:PySem.W.isFn K (.ref gi)=true)(kc:PySem.W.keepIn K (.ref C)=true)(f2:PySem.W.findIn K (.ref C) "told"=some (some (.ref gt)))(i2:PySem.W.isFn K (.ref gt)=true)(k2:PySem.W.keepIn K (.ref gt)=true)(f3:PySem.W.findIn K (.ref C) "tells"=some (some (.ref ge)))(i3:PySem.W.isFn K (.ref ge)=true)(k3:PySem.W.keepIn K (.ref ge)=true)(f4:PySem.W.findIn K (.ref C) "word"=some (some (.ref gw)))(i4:PySem.W.isFn K (.ref gw)=true)(k4:PySem.W.keepIn K (.ref gw)=true):xG K C gi gt ge gw:=⟨⟨pg,hd,po,sa⟩,n1,n2,n3,⟨mk,f1,i1,kc⟩,⟨f2,i2,k2⟩,⟨f3,i3,k3⟩,⟨f4,i4,k4⟩⟩
theorem mH {K:PySem.W.Frag}{dT:Addr}{oc kV doc pm cdv ct:Value}{od an:Option Addr}{n:Nat}{sl:Array (Option Value)}(lk:K.lookup dT=some ⟨oc,od,.seq #[.none] n,sl⟩):
  Binds K (PySem.W.fnOf "__init__" "Book.__init__" (ye yP) (zw yP) (zb yP) (.ref dT) kV doc pm an cdv ct) ["self","rules"] [.none]:=fun s us hk hl=>by
 match us,(show us.length=1 by rw[aX] at hl;simpa using hl) with
 |[u],_=>exact BindsTo.of_defaults (T:=dT) rfl (hk _ _ lk) rfl rfl rfl
theorem mR {K:PySem.W.Frag}{dT:Addr}{oc kV doc pm cdv ct:Value}{od an:Option Addr}{n:Nat}{sl:Array (Option Value)}(lk:K.lookup dT=some ⟨oc,od,.seq #[.none] n,sl⟩):
  Binds K (PySem.W.fnOf "__init__" "Book.__init__" (ye yP) (zw yP) (zb yP) (.ref dT) kV doc pm an cdv ct) ["self","rules"] []:=fun s us hk hl=>by
 rw[zg0] at hl ⊢
 match us,hl with
 |[u,v],_=>exact BindsTo.of_defaults (T:=dT) rfl (hk _ _ lk) rfl rfl rfl
theorem aD {P:Str→Prop}(h1:P "price")(h2:P "come")(h3:P "go")(h4:P "least")(h5:P "most")(h6:P "deal")(h7:P "fee"):∀u∈words,P u:=by
 intro u hu
 simp only[words,aP,za7,zd4] at hu
 rcases hu with rfl|rfl|rfl|rfl|rfl|rfl|rfl<;>assumption
set_option maxHeartbeats 8000000 in
theorem us1 {α:Type}{p:List α→Prop}(h:∀a,p [a])(us:List α)(hl:us.length=1):p us:=by
 obtain⟨a,rfl⟩:=List.length_eq_one_iff.mp hl
 exact h a
theorem us2 {α:Type}{p:List α→Prop}(h:∀a b,p [a,b])(us:List α)(hl:us.length=2):p us:=by
 cases us with
 |nil=>cases hl
 |cons a us=>exact us1 (p:=fun us=>p (a::us)) (h a) us (Nat.succ.inj hl)
theorem us3 {α:Type}{p:List α→Prop}(h:∀a b c,p [a,b,c])(us:List α)(hl:us.length=3):p us:=by
 cases us with
 |nil=>cases hl
 |cons a us=>exact us2 (p:=fun us=>p (a::us)) (h a) us (Nat.succ.inj hl)
theorem us4 {α:Type}{p:List α→Prop}(h:∀a b c d,p [a,b,c,d])(us:List α)(hl:us.length=4):p us:=by
 cases us with
 |nil=>cases hl
 |cons a us=>exact us3 (p:=fun us=>p (a::us)) (h a) us (Nat.succ.inj hl)
set_option maxHeartbeats 0 in
theorem all_mk {l:PySem.W.OpenLaw}{w:World}{K:PySem.W.Frag}{h:Heap}{mg:Str→Option Value}{fa f1 f2 f3 f4 f5 f6 f7 f8 f9 f10 f11 f12 f13 f14 f15 f16 f17 f18 f19 f20 f21 f22 f23 f24 f25 f26 f27 f28 g_init g_told g_tells g_wPrice g_wCome g_wGo g_wLeast g_wMost g_wDeal g_wFee CPrice CCome CGo CLeast CMost CDeal CFee CB dT g_binit g_brules:Addr}(X:K.In h)(G:h.Ns mainGlobals mg)(hfa:mg "law"=some (.ref fa))
  {od28 an28 odB anB odT:Option Addr} {sl28 slB slT:Array (Option Value)} {oc28 kV28 dc28 pm28 ct28 cd28 ocB kVB dcB pmB ctB cdB ocT:Value} {tk1 tk2 tk3 tk4:Tok} {nT:Nat}
  (q1:FnG K f1 "is_whole" sL)
  (q2:FnG K f2 "is_whole_within" sO)
  (q3:FnG K f3 "is_pair" ku)
  (q4:FnG K f4 "is_day" eF)
  (q5:FnG K f5 "is_pair_of_days" kZ)
  (q6:FnG K f6 "is_stretch" uw)
  (q7:FnG K f7 "is_coins" pD)
  (q8:FnG K f8 "is_deal" rC)
  (q9:FnG K f9 "is_worth" pK)
  (q10:FnG K f10 "is_rule" sE)
  (q11:FnG K f11 "made" iw)
  (q12:FnG K f12 "rule_of" sY)
  (q13:FnG K f13 "spread" ue)
  (q14:FnG K f14 "without" wG)
  (q15:FnG K f15 "less" jn)
  (q16:FnG K f16 "kept_rules" iE)
  (q17:FnG K f17 "shown_days" sSD)
  (q18:FnG K f18 "shown" uD)
  (q19:FnG K f19 "_law_tape" tU)
  (q20:FnG K f20 "_law_draw" iB)
  (q21:FnG K f21 "_law_coins" rH)
  (q22:FnG K f22 "_law_worth" rl)
  (q23:FnG K f23 "_law_rule" qU)
  (q24:FnG K f24 "_law_base" pL)
  (q25:FnG K f25 "_law_has" me)
  (q26:FnG K f26 "_law_rising" lH)
  (q27:FnG K f27 "_law_shows" eX)
  (a28:PySem.W.nsIn K mainGlobals "law"=some (some (.ref f28)))
  (l28:K.lookup f28=some ⟨oc28,od28,.func (PySem.W.fnOf "law" "law" (ye vS) (zw vS) (zb vS) .none kV28 dc28 pm28 an28 cd28 ct28),sl28⟩)
  (c28:PySem.W.codeIn K cd28 "law"=true)
  (k28:PySem.W.keepIn K (.ref f28)=true)
  (aCPrice:PySem.W.nsIn K mainGlobals "Price"=some (some (.ref CPrice)))
  (aCCome:PySem.W.nsIn K mainGlobals "Come"=some (some (.ref CCome)))
  (aCGo:PySem.W.nsIn K mainGlobals "Go"=some (some (.ref CGo)))
  (aCLeast:PySem.W.nsIn K mainGlobals "Least"=some (some (.ref CLeast)))
  (aCMost:PySem.W.nsIn K mainGlobals "Most"=some (some (.ref CMost)))
  (aCDeal:PySem.W.nsIn K mainGlobals "Deal"=some (some (.ref CDeal)))
  (aCFee:PySem.W.nsIn K mainGlobals "Fee"=some (some (.ref CFee)))
  (RPrice:xG K CPrice g_init g_told g_tells g_wPrice)
  (RCome:xG K CCome g_init g_told g_tells g_wCome)
  (RGo:xG K CGo g_init g_told g_tells g_wGo)
  (RLeast:xG K CLeast g_init g_told g_tells g_wLeast)
  (RMost:xG K CMost g_init g_told g_tells g_wMost)
  (RDeal:xG K CDeal g_init g_told g_tells g_wDeal)
  (RFee:xG K CFee g_init g_told g_tells g_wFee)
  (q_init:FnF K g_init "__init__" "Rule.__init__" nJ)
  (q_told:FnF K g_told "told" "Rule.told" jj)
  (q_wPrice:FnF K g_wPrice "word" "Price.word" sW)
  (q_wCome:FnF K g_wCome "word" "Come.word" pF)
  (q_wGo:FnF K g_wGo "word" "Go.word" eh)
  (q_wLeast:FnF K g_wLeast "word" "Least.word" rz)
  (q_wMost:FnF K g_wMost "word" "Most.word" pQ)
  (q_wDeal:FnF K g_wDeal "word" "Deal.word" qW)
  (q_wFee:FnF K g_wFee "word" "Fee.word" jd)
  (aCB:PySem.W.nsIn K mainGlobals "Book"=some (some (.ref CB)))
  (fi_binit:PySem.W.findIn K (.ref CB) "__init__"=some (some (.ref g_binit)))
  (is_binit:PySem.W.isFn K (.ref g_binit)=true)
  (l_binit:K.lookup g_binit=some ⟨ocB,odB,.func (PySem.W.fnOf "__init__" "Book.__init__" (ye yP) (zw yP) (zb yP) (.ref dT) kVB dcB pmB anB cdB ctB),slB⟩)
  (c_binit:PySem.W.codeIn K cdB "Book.__init__"=true)
  (k_binit:PySem.W.keepIn K (.ref g_binit)=true)
  (lT:K.lookup dT=some ⟨ocT,odT,.seq #[.none] nT,slT⟩)
  (fi_brules:PySem.W.findIn K (.ref CB) "rules"=some (some (.ref g_brules)))
  (is_brules:PySem.W.isFn K (.ref g_brules)=true)
  (q_brules:FnF K g_brules "rules" "Book.rules" xY)
  (pgB:PySem.W.plainGet K CB Str.empty=true)
  (hdB:PySem.W.hasDictIn K CB=true)
  (poB:PySem.W.plainOver K CB=true)
  (saB:PySem.W.findIn K (.ref CB) "__setattr__"=some (some (.builtin "object.__setattr__")))
  (mkB:PySem.W.makesIn K CB=true)
  (kcB:PySem.W.keepIn K (.ref CB)=true)
  (noB:PySem.W.findIn K (.ref CB) "kept"=some none)
  (z1:PySem.W.nsIn K mainGlobals "abs"=some none)
  (z2:PySem.W.nsIn K mainGlobals "list"=some none)
  (z3:PySem.W.nsIn K mainGlobals "len"=some none)
  (z4:PySem.W.nsIn K mainGlobals "range"=some none)
  (z5:PySem.W.nsIn K mainGlobals "min"=some none)
  (z6:PySem.W.nsIn K mainGlobals "max"=some none)
  (z7:PySem.W.nsIn K mainGlobals "sorted"=some none)
  (z8:PySem.W.nsIn K mainGlobals "isinstance"=some none)
  (z9:PySem.W.nsIn K mainGlobals "int"=some none)
  (z10:PySem.W.nsIn K mainGlobals "bool"=some none)
  (z11:PySem.W.nsIn K mainGlobals "str"=some none)
  (z12:PySem.W.nsIn K mainGlobals "tuple"=some none)
  (z13:PySem.W.nsIn K mainGlobals "all"=some none)
  (z14:PySem.W.nsIn K mainGlobals "any"=some none)
  (z15:PySem.W.nsIn K mainGlobals "repr"=some none)
  (z16:PySem.W.nsIn K mainGlobals "zip"=some none)
  (z17:PySem.W.nsIn K mainGlobals "enumerate"=some none)
  (z18:PySem.W.nsIn K mainGlobals "reversed"=some none)
  (z19:PySem.W.nsIn K mainGlobals "sum"=some none)
  (gi1:PySem.W.nsIn K mainGlobals "LAST_DAY"=some (some (.int 1000000 tk1)))
  (gi2:PySem.W.nsIn K mainGlobals "MOST_NIGHTS"=some (some (.int 14 tk2)))
  (gi3:PySem.W.nsIn K mainGlobals "MOST_COINS"=some (some (.int 1000000000000 tk3)))
  (gi4:PySem.W.nsIn K mainGlobals "MOST_RULES"=some (some (.int 24 tk4))):
  ∃fd:FuncData,(∀(s:Shared) (v:Value),BindsTo s fd ⟨[v],[]⟩ [("_law_script",v)])∧∀base:Heap,K.In base→base.Ns mainGlobals mg→zt l.prog w K mg base CX0 12 fa fd ["_law_script"] (qh K):=by
 have e:=hfa.symm.trans (zb7 X G a28)
 cases e
 have nb:NbT mg:=⟨aY X G z1,aY X G z2,aY X G z3,aY X G z4,aY X G z5,aY X G z6,aY X G z7,aY X G z8,aY X G z9,aY X G z10,aY X G z11,aY X G z12,aY X G z13,aY X G z14,aY X G z15,aY X G z16,aY X G z17,aY X G z18,aY X G z19⟩
 obtain⟨_,m_is_whole,F_is_whole,b_is_whole⟩:=q1.get ["thing"] X G fun _ _ _ _ _ _=>us1 fun _=>rfl
 obtain⟨_,m_is_whole_within,F_is_whole_within,b_is_whole_within⟩:=q2.get ["thing","lowest","highest"] X G fun _ _ _ _ _ _=>us3 fun _ _ _=>rfl
 obtain⟨_,m_is_pair,F_is_pair,b_is_pair⟩:=q3.get ["thing"] X G fun _ _ _ _ _ _=>us1 fun _=>rfl
 obtain⟨_,m_is_day,F_is_day,b_is_day⟩:=q4.get ["thing"] X G fun _ _ _ _ _ _=>us1 fun _=>rfl
 obtain⟨_,m_is_pair_of_days,F_is_pair_of_days,b_is_pair_of_days⟩:=q5.get ["thing"] X G fun _ _ _ _ _ _=>us1 fun _=>rfl
 obtain⟨_,m_is_stretch,F_is_stretch,b_is_stretch⟩:=q6.get ["thing"] X G fun _ _ _ _ _ _=>us1 fun _=>rfl
 obtain⟨_,m_is_coins,F_is_coins,b_is_coins⟩:=q7.get ["thing"] X G fun _ _ _ _ _ _=>us1 fun _=>rfl
 obtain⟨_,m_is_deal,F_is_deal,b_is_deal⟩:=q8.get ["thing"] X G fun _ _ _ _ _ _=>us1 fun _=>rfl
 obtain⟨_,m_is_worth,F_is_worth,b_is_worth⟩:=q9.get ["word","thing"] X G fun _ _ _ _ _ _=>us2 fun _ _=>rfl
 obtain⟨_,m_is_rule,F_is_rule,b_is_rule⟩:=q10.get ["thing"] X G fun _ _ _ _ _ _=>us1 fun _=>rfl
 obtain⟨_,m_made,F_made,b_made⟩:=q11.get ["word","first","last","worth"] X G fun _ _ _ _ _ _=>us4 fun _ _ _ _=>rfl
 obtain⟨_,m_rule_of,F_rule_of,b_rule_of⟩:=q12.get ["thing"] X G fun _ _ _ _ _ _=>us1 fun _=>rfl
 obtain⟨_,m_spread,F_spread,b_spread⟩:=q13.get ["stretches"] X G fun _ _ _ _ _ _=>us1 fun _=>rfl
 obtain⟨_,m_without,F_without,b_without⟩:=q14.get ["rising","gone"] X G fun _ _ _ _ _ _=>us2 fun _ _=>rfl
 obtain⟨_,m_less,F_less,b_less⟩:=q15.get ["stretches","others"] X G fun _ _ _ _ _ _=>us2 fun _ _=>rfl
 obtain⟨_,m_kept_rules,F_kept_rules,b_kept_rules⟩:=q16.get ["things"] X G fun _ _ _ _ _ _=>us1 fun _=>rfl
 obtain⟨_,m_shown_days,F_shown_days,b_shown_days⟩:=q17.get ["rule","newer"] X G fun _ _ _ _ _ _=>us2 fun _ _=>rfl
 obtain⟨_,m_shown,F_shown,b_shown⟩:=q18.get ["book"] X G fun _ _ _ _ _ _=>us1 fun _=>rfl
 obtain⟨_,m__law_tape,F__law_tape,b__law_tape⟩:=q19.get ["_law_script"] X G fun _ _ _ _ _ _=>us1 fun _=>rfl
 obtain⟨_,m__law_draw,F__law_draw,b__law_draw⟩:=q20.get ["_law_tape_here","_law_many"] X G fun _ _ _ _ _ _=>us2 fun _ _=>rfl
 obtain⟨_,m__law_coins,F__law_coins,b__law_coins⟩:=q21.get ["_law_tape_here"] X G fun _ _ _ _ _ _=>us1 fun _=>rfl
 obtain⟨_,m__law_worth,F__law_worth,b__law_worth⟩:=q22.get ["_law_tape_here","_law_word"] X G fun _ _ _ _ _ _=>us2 fun _ _=>rfl
 obtain⟨_,m__law_rule,F__law_rule,b__law_rule⟩:=q23.get ["_law_tape_here","_law_base_here"] X G fun _ _ _ _ _ _=>us2 fun _ _=>rfl
 obtain⟨_,m__law_base,F__law_base,b__law_base⟩:=q24.get ["_law_tape_here"] X G fun _ _ _ _ _ _=>us1 fun _=>rfl
 obtain⟨_,m__law_has,F__law_has,b__law_has⟩:=q25.get ["_law_stretches","_law_day"] X G fun _ _ _ _ _ _=>us2 fun _ _=>rfl
 obtain⟨_,m__law_rising,F__law_rising,b__law_rising⟩:=q26.get ["_law_told"] X G fun _ _ _ _ _ _=>us1 fun _=>rfl
 obtain⟨_,m__law_shows,F__law_shows,b__law_shows⟩:=q27.get ["_law_rules","_law_k","_law_day"] X G fun _ _ _ _ _ _=>us3 fun _ _ _=>rfl
 have F_law:=jH (st:=vS) l28 c28 k28
 have b_law:=F_law.binds (ps:=["_law_script"]) fun _ _ _ _ _ _=>us1 fun _=>rfl
 obtain⟨_,F_init,b_init⟩:=q_init.get ["self","first","last","worth"] fun _ _ _ _ _ _=>us4 fun _ _ _ _=>rfl
 obtain⟨_,F_told,b_told⟩:=q_told.get ["self"] fun _ _ _ _ _ _=>us1 fun _=>rfl
 obtain⟨_,F_wPrice,b_wPrice⟩:=q_wPrice.get ["self"] fun _ _ _ _ _ _=>us1 fun _=>rfl
 obtain⟨_,F_wCome,b_wCome⟩:=q_wCome.get ["self"] fun _ _ _ _ _ _=>us1 fun _=>rfl
 obtain⟨_,F_wGo,b_wGo⟩:=q_wGo.get ["self"] fun _ _ _ _ _ _=>us1 fun _=>rfl
 obtain⟨_,F_wLeast,b_wLeast⟩:=q_wLeast.get ["self"] fun _ _ _ _ _ _=>us1 fun _=>rfl
 obtain⟨_,F_wMost,b_wMost⟩:=q_wMost.get ["self"] fun _ _ _ _ _ _=>us1 fun _=>rfl
 obtain⟨_,F_wDeal,b_wDeal⟩:=q_wDeal.get ["self"] fun _ _ _ _ _ _=>us1 fun _=>rfl
 obtain⟨_,F_wFee,b_wFee⟩:=q_wFee.get ["self"] fun _ _ _ _ _ _=>us1 fun _=>rfl
 obtain⟨_,F_brules,b_brules⟩:=q_brules.get ["self"] fun _ _ _ _ _ _=>us1 fun _=>rfl
 have TD:qz mg f1 f2 f3 f4 f5:=⟨nb.isinstance,nb.int,nb.bool,nb.tuple,nb.len,⟨tk1,zb7 X G gi1⟩,⟨tk2,zb7 X G gi2⟩,m_is_whole,m_is_whole_within,m_is_pair,m_is_day,m_is_pair_of_days⟩
 have TR:qY mg f1 f2 f3 f4 f5 f6 f7 f8 f9 f10 f11 ⟨CPrice,CCome,CGo,CLeast,CMost,CDeal,CFee⟩:=⟨TD,⟨tk3,zb7 X G gi3⟩,m_is_stretch,m_is_coins,m_is_deal,m_is_worth,m_is_rule,m_made,zb7 X G aCPrice,zb7 X G aCCome,zb7 X G aCGo,zb7 X G aCLeast,zb7 X G aCMost,zb7 X G aCDeal,zb7 X G aCFee⟩
 have TT:dO mg:=⟨nb.abs,nb.list,nb.len⟩
 have A7:kr K ⟨CPrice,CCome,CGo,CLeast,CMost,CDeal,CFee⟩ g_init g_told g_tells g_wPrice g_wCome g_wGo g_wLeast g_wMost g_wDeal g_wFee:=⟨RPrice,RCome,RGo,RLeast,RMost,RDeal,RFee⟩
 refine⟨PySem.W.fnOf "law" "law" (ye vS) (zw vS) (zb vS) .none kV28 dc28 pm28 an28 cd28 ct28,fun s v=>.of_eq rfl,fun base KX _=>?_⟩
 have G_in:=mW (P:=l.prog) (w:=w) (base:=base) F_is_whole_within TD F_is_whole b_is_whole
 have G_pair:=gN (P:=l.prog) (w:=w) (base:=base) F_is_pair TD
 have G_day:=cj F_is_day TD G_in F_is_whole_within.kp b_is_whole_within
 have G_days:=iM F_is_pair_of_days TD G_pair F_is_pair.kp b_is_pair G_day F_is_day.kp b_is_day
 have G_stretch:=pS F_is_stretch TD G_days F_is_pair_of_days.kp b_is_pair_of_days
 have G_coins:=lO F_is_coins TR G_in F_is_whole_within.kp b_is_whole_within
 have G_deal:=nX F_is_deal TR G_in F_is_whole_within.kp b_is_whole_within G_pair F_is_pair.kp b_is_pair
 have G_worth:=ik F_is_worth TR G_in F_is_whole_within.kp b_is_whole_within G_coins F_is_coins.kp b_is_coins G_deal F_is_deal.kp b_is_deal
 have G_rule:=lB F_is_rule TR G_stretch F_is_stretch.kp b_is_stretch G_worth F_is_worth.kp b_is_worth
 have G_made:=gW (P:=l.prog) (w:=w) (base:=base) F_made TR A7 F_init b_init
 have G_ruleOf:=mM F_rule_of TR G_rule F_is_rule.kp b_is_rule G_made F_made.kp b_made
 have CRO:Cal l.prog w K mg base "rule_of" 7 (uO ⟨CPrice,CCome,CGo,CLeast,CMost,CDeal,CFee⟩):=oG m_rule_of F_rule_of.kp b_rule_of G_ruleOf
 have CKe:Cal l.prog w K mg base "kept_rules" 8 (oB ⟨CPrice,CCome,CGo,CLeast,CMost,CDeal,CFee⟩):=jz F_kept_rules m_kept_rules b_kept_rules nb ⟨tk4,zb7 X G gi4⟩ CRO
 have cB:Cls K CB:=⟨pgB,hdB,poB,saB⟩
 have GBI:=kG (iQ (st:=yP) l_binit c_binit k_binit) cB noB CKe
 have m_Book:mg "Book"=some (.ref CB):=zb7 X G aCB
 have MkB:Mk K CB g_binit:=⟨mkB,fi_binit,is_binit,kcB⟩
 have CBk:fi l.prog w K mg base "Book" 9 [] (rD CB ⟨CPrice,CCome,CGo,CLeast,CMost,CDeal,CFee⟩):=⟨CB,g_binit,_,_,_,m_Book,MkB,mR lT,.nil,GBI⟩
 have CBk0:fi l.prog w K mg base "Book" 9 [.non] (rD CB ⟨CPrice,CCome,CGo,CLeast,CMost,CDeal,CFee⟩):=⟨CB,g_binit,_,_,_,m_Book,MkB,mH lT,.cons rfl .nil,GBI⟩
 have OT:∀u∈words,uV l.prog w K mg base ((⟨CPrice,CCome,CGo,CLeast,CMost,CDeal,CFee⟩:Cs).of u) "told" 2 (oq ((⟨CPrice,CCome,CGo,CLeast,CMost,CDeal,CFee⟩:Cs).of u) u):=aD (by rw[rP];exact yG RPrice b_told (xu F_told RPrice (mq F_wPrice) b_wPrice)) (by rw[nL];exact yG RCome b_told (xu F_told RCome (lW F_wCome) b_wCome)) (by rw[fB];exact yG RGo b_told (xu F_told RGo (dg F_wGo) b_wGo)) (by rw[qm];exact yG RLeast b_told (xu F_told RLeast (mG F_wLeast) b_wLeast)) (by rw[nh];exact yG RMost b_told (xu F_told RMost (iD F_wMost) b_wMost)) (by rw[oK];exact yG RDeal b_told (xu F_told RDeal (kA F_wDeal) b_wDeal)) (by rw[iq];exact yG RFee b_told (xu F_told RFee (gn F_wFee) b_wFee))
 have MR:uV l.prog w K mg base CB "rules" 3 (vW CB ⟨CPrice,CCome,CGo,CLeast,CMost,CDeal,CFee⟩):=⟨g_brules,_,_,cB,⟨fi_brules,is_brules,F_brules.kp⟩,b_brules,mz F_brules cB noB b_brules OT⟩
 have CD:Cal l.prog w K mg base "_law_draw" 1 xU:=kX m__law_draw F__law_draw.kp b__law_draw (gk F__law_draw TT)
 have CCo:=mB F__law_coins m__law_coins b__law_coins CD
 have CW:=nY F__law_worth m__law_worth b__law_worth CD CCo
 have CLRu:=pA F__law_rule m__law_rule b__law_rule CD CW
 have CLBa:=mr F__law_base m__law_base b__law_base CD
 have TS:gO mg _:=⟨nb.sorted,nb.max,nb.min,m_spread⟩
 have CL:Cal l.prog w K mg base "less" 2 pB:=kn m_less F_less.kp b_less (gL F_less TS m_without F_spread b_spread F_without b_without)
 have CSD:=dJ F_shown_days m_shown_days b_shown_days CL
 have CSh:=mw F_shown m_shown b_shown nb CSD MR
 have CH:=gr (P:=l.prog) (w:=w) (base:=base) F__law_has m__law_has b__law_has nb
 have CRi:=iO (P:=l.prog) (w:=w) (base:=base) F__law_rising m__law_rising b__law_rising nb
 have CSw:=iW (P:=l.prog) (w:=w) (base:=base) F__law_shows m__law_shows b__law_shows nb
 exact dY F_law nb (gY F__law_tape TT) m__law_tape F__law_tape.kp b__law_tape CD CLBa CLRu CBk MR CSh CRi CH CSw
theorem walk {l:PySem.W.OpenLaw}{q:Program}{loose:List Str}{XP:(Str→Option Value)→Heap→Prop}{YP:World→Heap→Prop}{d:DefRec}{K:Params→PySem.W.Frag}(hn:l.most=some 63)(hdf:d.params.defaults=[])
  (hY:∀(w:World) (h:Heap),YP w h→(K w.params).In h)
  (F:∀(w:World) (mg:Str→Option Value) (fa:Addr) (h:Heap),(K w.params).In h→h.Ns mainGlobals mg→mg d.name=some (.ref fa)→
   ∃fd:FuncData,(∀(s:Shared) (u:Value),BindsTo s fd ⟨[u],[]⟩ [("_law_script",u)])∧∀base:Heap,(K w.params).In base→base.Ns mainGlobals mg→zt l.prog w (K w.params) mg base CX0 12 fa fd ["_law_script"] (qh (K w.params))):
  PySem.W.WalkO q loose XP YP l.row.toRowW d [] (fun f vs=>PySem.call f vs):=
 L2.gC (n:=63) (k:=12) (x:="_law_script") (CX:=fun _=>CX0) (sp:=fun w=>qh (K w.params)) hn (by decide) hdf ⟨rfl,by decide,by decide,rfl⟩ hY F (fun _ _ a ns hl _ hS=>⟨a,ns,rfl,hS,hl,trivial,fun _=>rfl⟩) fun _ _ _ _ _ z=>z
end K13
def PySem.W.Fast.tw11979150304139305842 :Nat:=0
def PySem.W.Fast.tw10519205897801865262 :Nat:=0
def PySem.W.Fast.tw8556420477896396505 :Nat:=0
def PySem.W.Fast.tw16854079724504021115 :Nat:=0
def PySem.W.Fast.tw9471484625942933553 :Nat:=0
def PySem.W.Fast.tw7505523197041715060 :Nat:=0
def PySem.W.Fast.tw11993529705853001927 :Nat:=0
def PySem.W.Fast.tw7604241619109430503 :Nat:=0
def PySem.W.Fast.tw4498596396387346611 :Nat:=0
def PySem.W.Fast.tw12134097387101285699 :Nat:=0
def PySem.W.Fast.tw1089425973590621500 :Nat:=0
def PySem.W.Fast.tw14438434075459569391 :Nat:=0
def PySem.W.Fast.tw226760365770894380 :Nat:=0
def PySem.W.Fast.tw10147381081698907301 :Nat:=0
def PySem.W.Fast.tw12606216482528274231 :Nat:=0
def PySem.W.Fast.tw8561798701357710063 :Nat:=0
def PySem.W.Fast.tw13388721093887859572 :Nat:=0
def PySem.W.Fast.tw12487417423173558841 :Nat:=0
def PySem.W.Fast.tw16491383209855895022 :Nat:=0
def PySem.W.Fast.tw14374739231267413701 :Nat:=0
def PySem.W.Fast.tw965462935579518301 :Nat:=0
def PySem.W.Fast.tw16158262293282083965 :Nat:=0
def PySem.W.Fast.tw9065291634603801677 :Nat:=0
def PySem.W.Fast.tw13787934387728987839 :Nat:=0
def PySem.W.Fast.tw16799133003409677476 :Nat:=0
def PySem.W.Fast.tw13844109458569682600 :Nat:=0
def PySem.W.Fast.tw984795105482319257 :Nat:=0
def PySem.W.Fast.tw2879158838311660397 :Nat:=0
def PySem.W.Fast.tw11489433332246529225 :Nat:=0
def PySem.W.Fast.tw4941957247688570529 :Nat:=0
def PySem.W.Fast.tw18149673054009842299 :Nat:=0
def PySem.W.Fast.tw9659223247849405761 :Nat:=0
def PySem.W.Fast.tw2772482652888422062 :Nat:=0
def PySem.W.Fast.tw17534041408364546679 :Nat:=0
def PySem.W.Fast.tw11526295219307018509 :Nat:=0
def PySem.W.Fast.tw14550104684888803665 :Nat:=0
def PySem.W.Fast.tw10224269320464299593 :Nat:=0
def PySem.W.Fast.tw1309213528402067139 :Nat:=0
def PySem.W.Fast.tw13796164209185172532 :Nat:=0
def PySem.W.Fast.tw2367984094385801290 :Nat:=0
def PySem.W.Fast.tw12157725936305213140 :Nat:=0
def PySem.W.Fast.tw9747728362339096540 :Nat:=0
def PySem.W.Fast.tw16352976715160085845 :Nat:=0
def PySem.W.Fast.tw10390808667380425831 :Nat:=0
def PySem.W.Fast.tw3890831582910506808 :Nat:=0
def PySem.W.Fast.tw11926167799203135144 :Nat:=0
def PySem.W.Fast.tw528584584890203279 :Nat:=0
def PySem.W.Fast.tw17844117869560541500 :Nat:=0
def PySem.W.Fast.tw12168135883424028316 :Nat:=0
def PySem.W.Fast.tw5524793195435302863 :Nat:=0
def PySem.W.Fast.tw11991914921377078455 :Nat:=0
def PySem.W.Fast.tw13333880340685856903 :Nat:=0
def PySem.W.Fast.tw2761194470451109294 :Nat:=0
def PySem.W.Fast.tw5379837049032706839 :Nat:=0
def PySem.W.Fast.tw8348157398718451756 :Nat:=0
def PySem.W.Fast.tw4224147154637805545 :Nat:=0
def PySem.W.Fast.tw4673416839615618797 :Nat:=0
def PySem.W.Fast.tw1022553590828915880 :Nat:=0
def PySem.W.Fast.tw2563777002720660322 :Nat:=0
def PySem.W.Fast.tw11198516083545374334 :Nat:=0
def PySem.W.Fast.tw207938850976187125 :Nat:=0
def PySem.W.Fast.tw5194780756089172313 :Nat:=0
def PySem.W.Fast.tw4318670056048776541 :Nat:=0
def PySem.W.Fast.tw2572393946987425130 :Nat:=0
def PySem.W.Fast.tw6277599498363245516 :Nat:=0
def PySem.W.Fast.tw18121680646086311555 :Nat:=0
def PySem.W.Fast.tw912964464252933187 :Nat:=0
def PySem.W.Fast.tw15922421239509864808 :Nat:=0
def PySem.W.Fast.tw12783893291288981361 :Nat:=0
def PySem.W.Fast.tw15805437854463893571 :Nat:=0
def PySem.W.Fast.tw14085956004166592671 :Nat:=0
def PySem.W.Fast.tw12001043790099957513 :Nat:=0
def PySem.W.Fast.tw14585807392226871255 :Nat:=0
def PySem.W.Fast.tw3997689624221986684 :Nat:=0
def PySem.W.Fast.tw17927140592911165141 :Nat:=0
def PySem.W.Fast.tw14640678913763899601 :Nat:=0
def PySem.W.Fast.tw17051294447547213814 :Nat:=0
def PySem.W.Fast.tw1606912728124521938 :Nat:=0
def PySem.W.Fast.tw3411824468786483962 :Nat:=0
def PySem.W.Fast.tw9302072395600290106 :Nat:=0
def PySem.W.Fast.tw6914726442497437540 :Nat:=0
def PySem.W.Fast.tw7758288018701435324 :Nat:=0
def PySem.W.Fast.tw1526911282107603676 :Nat:=0
def PySem.W.Fast.tw10466788667646705771 :Nat:=0
def PySem.W.Fast.tw4503898659049215613 :Nat:=0
def PySem.W.Fast.tw10365819747031572103 :Nat:=0
def PySem.W.Fast.tw9431160765097537863 :Nat:=0
def PySem.W.Fast.tw7570912881989314343 :Nat:=0
def PySem.W.Fast.tw14542716885122322451 :Nat:=0
def PySem.W.Fast.tw4679415393600959159 :Nat:=0
def PySem.W.Fast.tw12080573034445485242 :Nat:=0
def PySem.W.Fast.tw8678568518387139542 :Nat:=0
def PySem.W.Fast.tw1873329898196296957 :Nat:=0
def PySem.W.Fast.tw1816847311892612152 :Nat:=0
def PySem.W.Fast.tw16506145973474372715 :Nat:=0
def PySem.W.Fast.tw9228917775157723318 :Nat:=0
def PySem.W.Fast.tw11295311652314710657 :Nat:=0
def PySem.W.Fast.tw17525895783419973570 :Nat:=0
def PySem.W.Fast.tw3213055998314317573 :Nat:=0
def PySem.W.Fast.tw16825647961796816008 :Nat:=0
def PySem.W.Fast.tw18252071719924847894 :Nat:=0
def PySem.W.Fast.tw174078187708586581 :Nat:=0
def PySem.W.Fast.tw8184072395781889813 :Nat:=0
def PySem.W.Fast.tw8719628675883868661 :Nat:=0
def PySem.W.Fast.tw4267902776605654803 :Nat:=0
def PySem.W.Fast.tw12592441088233446415 :Nat:=0
def PySem.W.Fast.tw14180333135454134602 :Nat:=0
def PySem.W.Fast.tw7868220366773419402 :Nat:=0
def PySem.W.Fast.tw124384837275809935 :Nat:=0
def PySem.W.Fast.tw4902244837447874148 :Nat:=0
def PySem.W.Fast.tw14398028087447615235 :Nat:=0
def PySem.W.Fast.tw13845098244183036557 :Nat:=0
def PySem.W.Fast.tw14406061506823857564 :Nat:=0
def PySem.W.Fast.tw10734739010059517239 :Nat:=0
def PySem.W.Fast.tw7062815387862609841 :Nat:=0
def PySem.W.Fast.tw15265038493671460896 :Nat:=0
def PySem.W.Fast.tw14759525571901911792 :Nat:=0
def PySem.W.Fast.tw863497570994897737 :Nat:=0
def PySem.W.Fast.tw5465454202031251247 :Nat:=0
def PySem.W.Fast.tw9151911382559575070 :Nat:=0
def PySem.W.Fast.tw4792155394677601514 :Nat:=0
def PySem.W.Fast.tw17816132006498693683 :Nat:=0
def PySem.W.Fast.tw1513173638135424610 :Nat:=0
def PySem.W.Fast.tw3543537222717985834 :Nat:=0
def PySem.W.Fast.tw3900413787227425982 :Nat:=0
def PySem.W.Fast.tw3240789879708462489 :Nat:=0
def PySem.W.Fast.tw17612392005067045101 :Nat:=0
def PySem.W.Fast.tw9832304589136156130 :Nat:=0
def PySem.W.Fast.tw6894954949170421 :Nat:=0
def PySem.W.Fast.tw1347387286692071716 :Nat:=0
def PySem.W.Fast.tw15984990856211693497 :Nat:=0
def PySem.W.Fast.tw7864154750939844039 :Nat:=0
def PySem.W.Fast.tw2279623546961703847 :Nat:=0
def PySem.W.Fast.tw13781530361944267553 :Nat:=0
def PySem.W.Fast.tw15709430779323590341 :Nat:=0
def PySem.W.Fast.tw6801736472277488316 :Nat:=0
def PySem.W.Fast.tw13246553695947802525 :Nat:=0
def PySem.W.Fast.tw1002291508761938272 :Nat:=0
def PySem.W.Fast.tw7366836494884979804 :Nat:=0
def PySem.W.Fast.tw3533976623162218143 :Nat:=0
def PySem.W.Fast.tw17335630816443794752 :Nat:=0
def PySem.W.Fast.tw17106044341415841340 :Nat:=0
def PySem.W.Fast.tw15763023580253092552 :Nat:=0
def PySem.W.Fast.tw14569282436555985902 :Nat:=0
def PySem.W.Fast.tw6103408874770785295 :Nat:=0
def PySem.W.Fast.tw17399699485244022555 :Nat:=0
def PySem.W.Fast.tw1343625741964227251 :Nat:=0
def PySem.W.Fast.tw14094884654063992874 :Nat:=0
def PySem.W.Fast.tw5358531438564450758 :Nat:=0
def PySem.W.Fast.tw267619146385963502 :Nat:=0
def PySem.W.Fast.tw989260290549659386 :Nat:=0
def PySem.W.Fast.tw6107688202771021123 :Nat:=0
def PySem.W.Fast.tw15859989746062460593 :Nat:=0
def PySem.W.Fast.tw13344434575134515093 :Nat:=0
def PySem.W.Fast.tw5160003851876729802 :Nat:=0
def PySem.W.Fast.tw5226668946710735958 :Nat:=0
def PySem.W.Fast.tw1656734961040485794 :Nat:=0
def PySem.W.Fast.tw16421028851695242256 :Nat:=0
def PySem.W.Fast.tw11115701023602710429 :Nat:=0
def PySem.W.Fast.tw4944104857250345229 :Nat:=0
def PySem.W.Fast.tw13226773952689371584 :Nat:=0
def PySem.W.Fast.tw2521958947026338702 :Nat:=0
def PySem.W.Fast.tw7265352573872980299 :Nat:=0
def PySem.W.Fast.tw12513557360037527624 :Nat:=0
def PySem.W.Fast.tw15155155665629528292 :Nat:=0
def PySem.W.Fast.tw8164775114698880890 :Nat:=0
def PySem.W.Fast.tw5664454612320091122 :Nat:=0
def PySem.W.Fast.tw1824004385398212835 :Nat:=0
def PySem.W.Fast.tw3866940136040041651 :Nat:=0
def PySem.W.Fast.tw12421747876325499918 :Nat:=0
def PySem.W.Fast.tw10933903645643316304 :Nat:=0
def PySem.W.Fast.tw3002422143359916222 :Nat:=0
def PySem.W.Fast.tw7073513400331950664 :Nat:=0
def PySem.W.Fast.tw12679972165429090561 :Nat:=0
def PySem.W.Fast.tw12032417876883291195 :Nat:=0
def PySem.W.Fast.tw9296168006657816540 :Nat:=0
def PySem.W.Fast.tw11926763036825924641 :Nat:=0
def PySem.W.Fast.tw5356008443013119599 :Nat:=0
def PySem.W.Fast.tw10316860521164881896 :Nat:=0
def PySem.W.Fast.tw16481433535723698826 :Nat:=0
def PySem.W.Fast.tw12456775141502488180 :Nat:=0
def PySem.W.Fast.tw11902992034468396551 :Nat:=0
def PySem.W.Fast.tw10754408691009983432 :Nat:=0
def PySem.W.Fast.tw12645723699489919180 :Nat:=0
def PySem.W.Fast.tw17085423566999532694 :Nat:=0
def PySem.W.Fast.tw18255180445014344860 :Nat:=0
def PySem.W.Fast.tw3284547830295451833 :Nat:=0
def PySem.W.Fast.tw8858069892827978357 :Nat:=0
def PySem.W.Fast.tw10212075802157144261 :Nat:=0
def PySem.W.Fast.tw10474481167709167728 :Nat:=0
def PySem.W.Fast.tw5704289551398288289 :Nat:=0
def PySem.W.Fast.tw10261889525184718157 :Nat:=0
def PySem.W.Fast.tw7727992501857420071 :Nat:=0
def PySem.W.Fast.tw17372735044856511403 :Nat:=0
open PySem PySem.W PyProof.Rows
set_option maxRecDepth 100000 in
set_option maxHeartbeats 0 in
theorem PySem.Challenge.cw_stayprice_k13_shown_holds : PySem.Challenge.rw_stayprice_k13_shown.Holds := by
 w_on;o_law;k_head;(case hw=>w_witness2)
 k_fill
 refine K13.walk (l:=PySem.Challenge.rw_stayprice_k13_shown) rfl rfl (fun w h Y=>PySem.W.kIn_of Y) ?hF
 case hF=>
  intro w mg fa h KX G hmg
  refine' K13.all_mk KX G hmg (K13.mkG ?_ ?_ ?_ ?_) (K13.mkG ?_ ?_ ?_ ?_) (K13.mkG ?_ ?_ ?_ ?_) (K13.mkG ?_ ?_ ?_ ?_) (K13.mkG ?_ ?_ ?_ ?_) (K13.mkG ?_ ?_ ?_ ?_) (K13.mkG ?_ ?_ ?_ ?_) (K13.mkG ?_ ?_ ?_ ?_) (K13.mkG ?_ ?_ ?_ ?_) (K13.mkG ?_ ?_ ?_ ?_) (K13.mkG ?_ ?_ ?_ ?_) (K13.mkG ?_ ?_ ?_ ?_) (K13.mkG ?_ ?_ ?_ ?_) (K13.mkG ?_ ?_ ?_ ?_) (K13.mkG ?_ ?_ ?_ ?_) (K13.mkG ?_ ?_ ?_ ?_) (K13.mkG ?_ ?_ ?_ ?_) (K13.mkG ?_ ?_ ?_ ?_) (K13.mkG ?_ ?_ ?_ ?_) (K13.mkG ?_ ?_ ?_ ?_) (K13.mkG ?_ ?_ ?_ ?_) (K13.mkG ?_ ?_ ?_ ?_) (K13.mkG ?_ ?_ ?_ ?_) (K13.mkG ?_ ?_ ?_ ?_) (K13.mkG ?_ ?_ ?_ ?_) (K13.mkG ?_ ?_ ?_ ?_) (K13.mkG ?_ ?_ ?_ ?_) ?_ ?_ ?_ ?_ ?_ ?_ ?_ ?_ ?_ ?_ ?_ (K13.mkR ?_ ?_ ?_ ?_ ?_ ?_ ?_ ?_ ?_ ?_ ?_ ?_ ?_ ?_ ?_ ?_ ?_ ?_ ?_ ?_) (K13.mkR ?_ ?_ ?_ ?_ ?_ ?_ ?_ ?_ ?_ ?_ ?_ ?_ ?_ ?_ ?_ ?_ ?_ ?_ ?_ ?_) (K13.mkR ?_ ?_ ?_ ?_ ?_ ?_ ?_ ?_ ?_ ?_ ?_ ?_ ?_ ?_ ?_ ?_ ?_ ?_ ?_ ?_) (K13.mkR ?_ ?_ ?_ ?_ ?_ ?_ ?_ ?_ ?_ ?_ ?_ ?_ ?_ ?_ ?_ ?_ ?_ ?_ ?_ ?_) (K13.mkR ?_ ?_ ?_ ?_ ?_ ?_ ?_ ?_ ?_ ?_ ?_ ?_ ?_ ?_ ?_ ?_ ?_ ?_ ?_ ?_) (K13.mkR ?_ ?_ ?_ ?_ ?_ ?_ ?_ ?_ ?_ ?_ ?_ ?_ ?_ ?_ ?_ ?_ ?_ ?_ ?_ ?_) (K13.mkR ?_ ?_ ?_ ?_ ?_ ?_ ?_ ?_ ?_ ?_ ?_ ?_ ?_ ?_ ?_ ?_ ?_ ?_ ?_ ?_) (K13.mkF ?_ ?_ ?_) (K13.mkF ?_ ?_ ?_) (K13.mkF ?_ ?_ ?_) (K13.mkF ?_ ?_ ?_) (K13.mkF ?_ ?_ ?_) (K13.mkF ?_ ?_ ?_) (K13.mkF ?_ ?_ ?_) (K13.mkF ?_ ?_ ?_) (K13.mkF ?_ ?_ ?_) ?_ ?_ ?_ ?_ ?_ ?_ ?_ ?_ ?_ (K13.mkF ?_ ?_ ?_) ?_ ?_ ?_ ?_ ?_ ?_ ?_ ?_ ?_ ?_ ?_ ?_ ?_ ?_ ?_ ?_ ?_ ?_ ?_ ?_ ?_ ?_ ?_ ?_ ?_ ?_ ?_ ?_ ?_ ?_
  all_goals try (show _=_;first|k_is|kernel_rfl)
