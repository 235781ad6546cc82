import PyProof.Rows.All
import Wide.All
import OpenK.AllK
import Wide.FinOn
import Lean
import PyProof.EqAt
import PyProof.EqKinds
import PyProof.TupleCall
import PyProof.AttrMissHeap
import PyProof.DictRoadsH
import KE.KDictOf
import PyProof.P3In
import PyProof.StrLoop
import PyProof.StrWalks
import PyProof.StrCalls2
import KE.KIntText
import PyProof.IsRules
import PyProof.ZipIter
import PyProof.TupleIter
import PyProof.WalksMore
import PyProof.StrBlockH
import PyProof.SliceStr2
import PyProof.StrOps2
import PySem.Challenge.RW_stayprice_k23_books_as_texts
set_option Elab.async false
set_option linter.all false
set_option maxRecDepth 100000
def ax := @_root_.List.length_map
def ay := @_root_.List.mem_cons
def az := @_root_.List.mem_cons_of_mem
def aA := @_root_.List.mem_cons_self
def aB := @_root_.Nat.le_of_ble_eq_true
def aC := @_root_.Nat.le_refl
def aD := @_root_.Bool.false_ne_true
def aE := @_root_.List.not_mem_nil
def aF := @_root_.PySem.Heap.lt_size
def aG := @_root_.PySem.Heap.get?_push_of_some
def aH := @_root_.List.getElem?_eq_some_iff
def aI := @_root_.Bool.and_eq_true
def aJ := @_root_.List.length_cons
def aK := @_root_.decide_eq_false
def aL := @_root_.Option.some.inj
def aM := @_root_.PySem.W.mg_none_of
def aN := @_root_.List.size_toArray
def aO := @_root_.decide_eq_true_eq
def aP := @_root_.Nat.le_trans
def aQ := @_root_.decide_eq_true
def aR := @_root_.Nat.lt_of_lt_of_le
def aS := @_root_.List.mem_singleton
def aT := @_root_.Nat.zero_le
def aU := @_root_.List.getElem?_map
def aV := @_root_.List.mem_append_right
def aW := @_root_.List.map_cons
def aX := @_root_.Nat.ne_of_lt
def aY := @_root_.Bool.eq_false_iff
def aZ := @_root_.or_false
def za0 := @_root_.PySem.StrLaws.glued_eq_join
def za1 := @_root_.PySem.wpAny_bind
def za2 := @_root_.PySem.Heap.get?_push_size
def za3 := @_root_.Option.map_eq_some_iff
def za4 := @_root_.List.getElem?_eq_getElem
def za5 := @_root_.PySem.W.mg_of
def za6 := @_root_.List.length_set
def za7 := @_root_.PySem.wpAny_mono
def za8 := @_root_.PySem.strLen_append
def za9 := @_root_.PySem.W.kia_one
def zb0 := @_root_.Bool.true_and
def zb1 := @_root_.PySem.wpAny_truthy_bool
def zb2 := @_root_.PySem.mem_of_lookup
def zb3 := @_root_.PySem.wpAny_pure
def zb4 := @_root_.List.length_append
def zb5 := @_root_.List.lookup_cons
def zb6 := @_root_.List.getElem?_set_ne
def zb7 := @_root_.decide_eq_false_iff_not
def zb8 := @_root_.List.mem_append
def zb9 := @_root_.Array.toList_append
def zc0 := @_root_.List.all_eq_true
def zc1 := @_root_.List.getElem?_append_left
def zc2 := @_root_.List.mem_of_getElem?
def zc3 := @_root_.Bool.or_eq_true
def zc4 := @_root_.of_decide_eq_true
def zc5 := @_root_.Bool.false_and
def zc6 := @_root_.PyProof.Rows.boot_isinstance
def zc7 := @_root_.List.getElem?_append_right
def zc8 := @_root_.List.cons.inj
def zc9 := @_root_.List.drop_eq_getElem_cons
def zd0 := @_root_.PySem.Str.cps_append
def zd1 := @_root_.Nat.le_of_lt
def zd2 := @_root_.List.getElem?_replicate
def zd3 := @_root_.Nat.lt_irrefl
def zd4 := @_root_.PySem.wpAny_Call_Name_kw
def zd5 := @_root_.List.find?_cons
def zd6 := @_root_.List.nil_append
def zd7 := @_root_.List.getElem?_set_self
def zd8 := @_root_.PySem.F.slot_str_split
def zd9 := @_root_.PySem.StrLaws.join_length_le
def ze0 := @_root_.PyProof.Rows.callWith_type1
def ze1 := @_root_.Array.mem_toList_iff
def ze2 := @_root_.beq_eq_false_iff_ne
def ze3 := @_root_.PySem.wpAny_passesOwn
def ze4 := @_root_.List.append_nil
def ze5 := @_root_.PySem.W.callWith_K
def ze6 := @_root_.PySem.F.args_str_split_2
def ze7 := @_root_.List.mem_map
def ze8 := @_root_.Int.emod_lt_of_pos
def ze9 := @_root_.List.map_map
def zf0 := @_root_.PySem.wpAny_is_plain
def zf1 := @_root_.Int.eq_ofNat_of_zero_le
def zf2 := @_root_.PySem.F.entry_str_split
def zf3 := @_root_.Nat.lt_succ_self
def zf4 := @_root_.List.length_take
def zf5 := @_root_.List.drop_length
def zf6 := @_root_.PySem.W.methodCall_KW
def zf7 := @_root_.List.length_singleton
def zf8 := @_root_.Bool.eq_iff_iff
def zf9 := @_root_.List.nodup_cons
def zg0 := @_root_.Bool.or_eq_false_iff
def zg1 := @_root_.PySem.intText_digits
def zg2 := @_root_.Int.emod_nonneg
def zg3 := @_root_.PySem.PassesOwn.never
def zg4 := @_root_.List.map_append
def zg5 := @_root_.List.filterMap_cons
def zg6 := @_root_.Array.length_toList
def zg7 := @_root_.PySem.W.plainGet_of
def zg8 := @_root_.ne_true_of_eq_false
def zg9 := @_root_.PySem.boot_len
def zh0 := @_root_.Array.all_eq_true'
def zh1 := @_root_.List.all_cons
def zh2 := @_root_.List.any_cons
def zh3 := @_root_.Bool.false_or
def zh4 := @_root_.Bool.and_true
def zh5 := @_root_.List.sum_cons
namespace L2
open PySem PySem.Spec PyProof.Rows
abbrev Key :=Sum Int Str
def uU :Key→Value→Bool
 |.inl k,v=>Value.isInt k v
 |.inr x,v=>Value.isStrOf x v
def ao (w:World):Key→Int
 |.inl k=>hashInt k
 |.inr x=>hashStr w x
theorem zO :∀{k:Key} {v:Value},uU k v=true→(∃i t,k=Sum.inl i∧v=Value.int i t)∨(∃x t,k=Sum.inr x∧v=Value.str x t)
 |.inl i,v,h=>by
  obtain⟨t,e⟩:=Value.isInt_shape (k:=i) (v:=v) h
  exact .inl ⟨i,t,rfl,e⟩
 |.inr x,v,h=>by
  obtain⟨t,e⟩:=Value.isStrOf_shape (x:=x) (v:=v) h
  exact .inr ⟨x,t,rfl,e⟩
theorem ng (i:Int)(t:Tok):uU (.inl i) (.int i t)=true:=by simp[uU,Value.isInt]
theorem nI (x:Str)(t:Tok):uU (.inr x) (.str x t)=true:=by simp[uU,Value.isStrOf]
theorem eg (a b:Int):decide ((Sum.inl a:Key)=Sum.inl b)=(a == b):=by
 by_cases e:a=b
 ·subst e;simp
 ·have h:¬(Sum.inl a:Key)=Sum.inl b:=fun q=>e (Sum.inl.inj q)
  rw[aK h]
  exact (ze2.mpr e).symm
theorem eN (a b:Str):decide ((Sum.inr a:Key)=Sum.inr b)=decide (a=b):=by
 by_cases e:a=b
 ·subst e;simp
 ·have h:¬(Sum.inr a:Key)=Sum.inr b:=fun q=>e (Sum.inr.inj q)
  rw[aK h,aK e]
theorem eV (a:Int)(b:Str):decide ((Sum.inl a:Key)=Sum.inr b)=false:=aK (fun q=>nomatch q)
theorem fU (a:Str)(b:Int):decide ((Sum.inr a:Key)=Sum.inl b)=false:=aK (fun q=>nomatch q)
def yz (prog:Program)(w:World):PySem.KeyKind prog w Key where
 is:=uU
 hash:=ao w
 inj:=fun v a b ha hb=>by
  rcases zO ha with ⟨i,t,rfl,rfl⟩|⟨x,t,rfl,rfl⟩
  ·rcases zO hb with ⟨j,u,rfl,e⟩|⟨y,u,rfl,e⟩
   ·injection e with e1 _;rw[e1]
   ·exact nomatch e
  ·rcases zO hb with ⟨j,u,rfl,e⟩|⟨y,u,rfl,e⟩
   ·exact nomatch e
   ·injection e with e1 _;rw[e1]
 byValue:=fun k v h=>by
  rcases zO h with ⟨i,t,rfl,rfl⟩|⟨x,t,rfl,rfl⟩<;>rfl
 pyHash:=fun hv h=>by
  rcases zO hv with ⟨i,t,rfl,rfl⟩|⟨x,t,rfl,rfl⟩
  ·exact wpAny_pyHash_int h
  ·exact wpAny_pyHash_str h
 eqBool:=fun hu hv h=>by
  rcases zO hu with ⟨i,t,rfl,rfl⟩|⟨x,t,rfl,rfl⟩
  ·rcases zO hv with ⟨j,u,rfl,rfl⟩|⟨y,u,rfl,rfl⟩
   ·rw[eg] at h;exact wpAny_eqBool_int h
   ·rw[eV] at h;exact SeqAt.EqAt.int_str i t y u _ _ _ _ h
  ·rcases zO hv with ⟨j,u,rfl,rfl⟩|⟨y,u,rfl,rfl⟩
   ·rw[fU] at h;exact SeqAt.EqAt.str_int x t j u _ _ _ _ h
   ·rw[eN] at h;exact wpAny_eqBool_str h
 «strs»:=fun k x t v h=>by
  rcases zO h with ⟨i,u,rfl,e⟩|⟨y,u,rfl,e⟩
  ·exact nomatch e
  ·injection e with e1 _
   subst e1
   cases v<;>rfl
theorem rq (prog:Program)(w:World)(i:Int)(t:Tok):(yz prog w).is (.inl i) (.int i t)=true:=ng i t
theorem rk (prog:Program)(w:World)(x:Str)(t:Tok):(yz prog w).is (.inr x) (.str x t)=true:=nI x t
inductive V where
 |non|bl (b:Bool)|int (i:Int)|str (x:Str)|byt (b:Array UInt8)|flt (b:UInt64)|ref (a:Addr)|ty (n:String)
 deriving DecidableEq
def RelV :V→Value→Prop
 |.non,u=>u=Value.none
 |.bl b,u=>u=Value.bool b
 |.int i,u=>∃t,u=Value.int i t
 |.str x,u=>∃t,u=Value.str x t
 |.byt b,u=>∃t,u=Value.bytes b t
 |.flt b,u=>∃t,u=Value.float b t
 |.ref a,u=>u=Value.ref a
 |.ty n,u=>u=Value.type n
abbrev Vals :List V→List Value→Prop:=Paired RelV
theorem Vals.length {xs:List V}{us:List Value}(r:Vals xs us):xs.length=us.length:=Paired.length r
theorem Vals.get :∀{xs:List V} {us:List Value} {i:Nat} {x:V},Vals xs us→xs[i]?=some x→∃u,us[i]?=some u∧RelV x u
 |_,_,_,_,.nil,e=>by simp at e
 |_,_,0,_,.cons r _,e=>by simp at e;subst e;exact⟨_,rfl,r⟩
 |_,_,i+1,x,.cons _ t,e=>by
  obtain⟨u,h1,h2⟩:=Vals.get (i:=i) (x:=x) t (by simpa using e)
  exact⟨u,by simpa using h1,h2⟩
theorem Vals.set {x:V}{u:Value}(r:RelV x u):∀{xs:List V} {us:List Value} (i:Nat),Vals xs us→Vals (xs.set i x) (us.set i u)
 |_,_,_,.nil=>.nil
 |_,_,0,.cons _ t=>.cons r t
 |_,_,i+1,.cons q t=>.cons q (Vals.set r i t)
theorem Vals.append :∀{xs ys:List V} {us ws:List Value},Vals xs us→Vals ys ws→Vals (xs++ys) (us++ws)
 |_,_,_,_,.nil,s=>s
 |_,_,_,_,.cons r t,s=>.cons r (Vals.append t s)
theorem Vals.take :∀{xs:List V} {us:List Value} (n:Nat),Vals xs us→Vals (xs.take n) (us.take n)
 |_,_,0,_=>.nil
 |_,_,_+1,.nil=>.nil
 |_,_,n+1,.cons r t=>.cons r (Vals.take n t)
theorem Vals.drop :∀{xs:List V} {us:List Value} (n:Nat),Vals xs us→Vals (xs.drop n) (us.drop n)
 |_,_,0,r=>r
 |_,_,_+1,.nil=>.nil
 |_,_,n+1,.cons _ t=>Vals.drop n t
def wu :Option V→Option Value→Prop
 |some v,some u=>RelV v u
 |none,none=>True
 |_,_=>False
def KV {κ:Type}:List (κ×V)→List (κ×Value)→Prop:=Paired fun (p:κ×V) (q:κ×Value)=>p.1=q.1∧RelV p.2 q.2
def kV :Key→V
 |.inl i=>.int i
 |.inr x=>.str x
inductive HO where
  |lst (xs:List V)
  |tup (xs:List V)
  |dK (kvs:List (Key×V))|dT (kvs:List (List Key×V))
  |set (S:Int→Bool) (n:Nat)
  |ins (C dx:Addr) (fs:List (Str×V))
  |own (x:Addr)
  |xd (fs:List (Str×V))
  |met (f x:Addr)
  |rng (lo hi:Int)
  |frz (o:Obj) (u:HO)
  |tbl (ps:Array Value)
  |ext (φ:Heap→Prop)
abbrev Hp :=Addr→Option HO
def upd (H:Hp)(a:Addr)(o:HO):Hp:=fun b=>if b=a then some o else H b
theorem zl {H:Hp}{a:Addr}{o:HO}:upd H a o a=some o:=by unfold upd;rw[if_pos rfl]
theorem zj {H:Hp}{a b:Addr}{o:HO}(h:b≠a):upd H a o b=H b:=by unfold upd;rw[if_neg h]
theorem tR {H:Hp}{a:Addr}{o u:HO}:upd (upd H a o) a u=upd H a u:=by
 funext b;unfold upd;split<;>rfl
theorem zh {H:Hp}{a b:Addr}{o:HO}(h:H a=some o)(h':H b=none):a≠b:=by
 intro e;subst e;rw[h] at h';cases h'
section
variable (P:Program)(w:World)
def zW (H:Hp)(h:Heap)(a:Addr):HO→Prop
 |.lst xs=>xs.length≤sizeLine∧∃(its:List Value) (n:Nat),Vals xs its∧h.get? a=some {cls:=.type "list",data:=.seq its.toArray n}
 |.tup xs=>xs.length≤sizeLine∧∃its:List Value,Vals xs its∧IsTup h a its.toArray
 |.dK kvs=>kvs.length≤sizeLine∧(a == sysModules)=false∧∃vs,KV kvs vs∧h.DictOf (yz P w) a vs
 |.dT kvs=>kvs.length≤sizeLine∧(a == sysModules)=false∧∃xs:List (List Key×Addr×Value),
   Paired (fun (p:List Key×V) (q:List Key×Addr×Value)=>p.1=q.1∧H q.2.1=some (.tup (p.1.map kV))∧RelV p.2 q.2.2) kvs xs∧
   ∃o es ep,h.get? a=some o∧o.ExactDict∧o.data=.dict es ep∧es.toList=xs.map (entryOfKey (tupleKind (yz P w)))∧(xs.map (·.1)).Nodup
 |.set S n=>h.SetOf (intKind P w) a S n
 |.ins C dx fs=>H dx=some (.own a)∧fs.length≤1000∧dx≠a∧h.get? a=some (PySem.W.instObj C dx)∧
   ∃mA,h.Ns1 dx mA∧(∀f,wu (fs.lookup f) (mA f))∧PySem.Within mA (fs.map (·.1))
 |.own _=>∃o,h.get? a=some o
 |.xd fs=>∃mA,h.Ns1 a mA∧∀f,wu (fs.lookup f) (mA f)
 |.rng lo hi=>∃t u v,h.get? a=some {cls:=.type "range",data:=.fields #[.int lo t,.int hi u,.int 1 v]}
 |.frz o u=>h.get? a=some o∧zW H h a u
 |.tbl ps=>h.get? a=some {cls:=.none,data:=.fields ps}
 |.met f x=>h.get? a=some (PySem.W.methodObj (.ref f) (.ref x))
 |.ext φ=>φ h∧(∃o,h.get? a=some o)∧∀h1 h2:Heap,φ h1→(∀o,h1.get? a=some o→h2.get? a=some o)→φ h2
def HOk (H:Hp)(h:Heap):Prop:=∀a o,H a=some o→zW P w H h a o
end
section
variable {P:Program}{w:World}{H H':Hp}{h h':Heap}{a:Addr}{o:HO}
theorem zW.lt (x:zW P w H h a o):a<h.objs.size:=by
 cases o with
 |lst xs=>obtain⟨_,_,_,_,e⟩:=x;exact aF e
 |tup xs=>obtain⟨_,_,_,p⟩:=x;exact p.lt
 |dK kvs=>obtain⟨_,_,_,_,o,_,_,e,_⟩:=x;exact aF e
 |dT kvs=>obtain⟨_,_,_,_,o,_,_,e,_⟩:=x;exact aF e
 |set S n=>obtain⟨o,_,_,_,e,_⟩:=x;exact aF e
 |ins C dx fs=>obtain⟨_,_,_,e,_⟩:=x;exact aF e
 |own y=>obtain⟨_,e⟩:=x;exact aF e
 |xd fs=>obtain⟨_,⟨_,_,_,e,_⟩,_⟩:=x;exact aF e
 |rng lo hi=>obtain⟨_,_,_,e⟩:=x;exact aF e
 |frz ob u=>obtain⟨e,_⟩:=x;exact aF e
 |tbl ps=>exact aF (show h.get? a=some _ from x)
 |met f y=>exact aF (show h.get? a=some _ from x)
 |ext φ=>obtain⟨_,⟨_,e⟩,_⟩:=x;exact aF e
theorem Paired.mapP {α β:Type}{F G:α→β→Prop}:∀{l₁:List α} {l₂:List β},Paired F l₁ l₂→(∀a b,F a b→G a b)→Paired G l₁ l₂
 |_,_,.nil,_=>.nil
 |_,_,.cons r t,f=>.cons (f _ _ r) (Paired.mapP t f)
theorem zW.stay (x:zW P w H h a o)(k:∀b u,(b=a∨H b=some (.own a))→h.get? b=some u→h'.get? b=some u)
  (ho:∀b,H b=some (.own a)→H' b=some (.own a)) (ht:∀b xs,H b=some (.tup xs)→H' b=some (.tup xs)):zW P w H' h' a o:=by
 induction o with
 |lst xs=>obtain⟨z,its,n,r,e⟩:=x;exact⟨z,its,n,r,k _ _ (.inl rfl) e⟩
 |tup xs=>obtain⟨z,its,r,ob,e,c⟩:=x;exact⟨z,its,r,ob,k _ _ (.inl rfl) e,c⟩
 |dK kvs=>obtain⟨z,y,vs,r,ob,es,ep,e,c⟩:=x;exact⟨z,y,vs,r,ob,es,ep,k _ _ (.inl rfl) e,c⟩
 |dT kvs=>
  obtain⟨z,y,xs,r,ob,es,ep,e,c⟩:=x
  exact⟨z,y,xs,Paired.mapP r fun p q z=>⟨z.1,ht _ _ z.2.1,z.2.2⟩,ob,es,ep,k _ _ (.inl rfl) e,c⟩
 |set S n=>obtain⟨ob,es,ep,t,e,c⟩:=x;exact⟨ob,es,ep,t,k _ _ (.inl rfl) e,c⟩
 |ins C dx fs=>
  obtain⟨d,z,ne,e,mA,⟨od,es,ep,e2,c⟩,r⟩:=x
  exact⟨ho _ d,z,ne,k _ _ (.inl rfl) e,mA,⟨od,es,ep,k _ _ (.inr d) e2,c⟩,r⟩
 |own y=>obtain⟨ob,e⟩:=x;exact⟨ob,k _ _ (.inl rfl) e⟩
 |xd fs=>obtain⟨mA,⟨od,es,ep,e,c⟩,r⟩:=x;exact⟨mA,⟨od,es,ep,k _ _ (.inl rfl) e,c⟩,r⟩
 |rng lo hi=>obtain⟨t,u,v,e⟩:=x;exact⟨t,u,v,k _ _ (.inl rfl) e⟩
 |frz ob u ih=>obtain⟨e,q⟩:=x;exact⟨k _ _ (.inl rfl) e,ih q⟩
 |tbl ps=>
  have e:h.get? a=some {cls:=.none,data:=.fields ps}:=x
  show h'.get? a=some {cls:=.none,data:=.fields ps}
  exact k a _ (.inl rfl) e
 |met f y=>
  have e:h.get? a=some (PySem.W.methodObj (.ref f) (.ref y)):=x
  show h'.get? a=some (PySem.W.methodObj (.ref f) (.ref y))
  exact k a _ (.inl rfl) e
 |ext φ=>obtain⟨p,⟨o,e⟩,st⟩:=x;exact⟨st _ _ p fun o q=>k _ _ (.inl rfl) q,⟨o,k _ _ (.inl rfl) e⟩,st⟩
theorem HOk.lt (x:HOk P w H h)(e:H a=some o):a<h.objs.size:=(x a o e).lt
theorem HOk.fresh (x:HOk P w H h)(e:h.objs.size≤a):H a=none:=by
 cases q:H a with
 |none=>rfl
 |some u=>exact absurd (aR (x.lt q) e) (zd3 _)
theorem HOk.kept (x:HOk P w H h)(k:∀b u,h.get? b=some u→h'.get? b=some u):HOk P w H h':=fun a o e=>
 (x a o e).stay (fun b u _ q=>k b u q) (fun _ q=>q) fun _ _ q=>q
theorem HOk.laid (x:HOk P w H h)(k:∀b u,h.get? b=some u→h'.get? b=some u)(hp:h.objs.size≤a)(new:zW P w (upd H a o) h' a o):HOk P w (upd H a o) h':=fun b u e=>by
 have hn:=x.fresh hp
 by_cases hb:b=a
 ·subst hb;rw[zl] at e;cases e;exact new
 ·rw[zj hb] at e
  exact (x b u e).stay (fun c v _ q=>k c v q) (fun c q=>by rw[zj (zh q hn)];exact q) fun c xs q=>by rw[zj (zh q hn)];exact q
end
def Rd (H:Hp)(a:Addr)(u:HO):Prop:=H a=some u∨∃o,H a=some (.frz o u)
theorem Rd.ok {P:Program}{w:World}{H:Hp}{h:Heap}{a:Addr}{u:HO}(r:Rd H a u)(x:HOk P w H h):zW P w H h a u:=by
 rcases r with r|⟨o,r⟩
 ·exact x a u r
 ·obtain⟨_,q⟩:=x a _ r
  exact q
def Mut :Option HO→Prop
 |some (.lst _)=>True
 |some (.dK _)=>True
 |some (.dT _)=>True
 |some (.set _ _)=>True
 |some (.ins _ _ _)=>True
 |some (.ext _)=>True
 |_=>False
section
variable {P:Program}{w:World}{H:Hp}{h h':Heap}{x e:Addr}{o':HO}
theorem HOk.write (ok:HOk P w H h)(mu:Mut (H x))(he:e=x∨H e=some (.own x))(k:∀b u,b≠e→h.get? b=some u→h'.get? b=some u)(heo:∃u,h'.get? e=some u)
  (new:zW P w (upd H x o') h' x o'):HOk P w (upd H x o') h':=fun b u q=>by
 have nown:∀c y,H c=some (.own y)→c≠x:=fun c y r z=>by subst z;rw[r] at mu;exact mu
 have ntup:∀c xs,H c=some (.tup xs)→c≠x:=fun c xs r z=>by subst z;rw[r] at mu;exact mu
 by_cases hb:b=x
 ·subst hb;rw[zl] at q;cases q;exact new
 ·rw[zj hb] at q
  by_cases hbe:b=e
  ·have q':H b=some (.own x):=by
    rcases he with z|z
    ·exact absurd (hbe.trans z) hb
    ·rw[hbe];exact z
   rw[q] at q';cases q'
   obtain⟨v,hv⟩:=heo
   exact⟨v,by rw[hbe];exact hv⟩
  ·refine (ok b u q).stay (fun c v hc r=>k c v ?_ r) (fun c r=>by rw[zj (nown c b r)];exact r) fun c xs r=>by rw[zj (ntup c xs r)];exact r
   rcases hc with rfl|hc
   ·exact hbe
   ·rintro rfl
    rcases he with z|z
    ·exact nown c b hc z
    ·rw[hc] at z;cases z;exact hb rfl
end
structure Un (fs ex:List Addr)(H H':Hp)(h h':Heap):Prop where
 keep:∀b o,h.get? b=some o→H b=none→b∉fs→b∉ex→h'.get? b=some o
 slot:∀b o,h.get? b=some o→H b=none→b∈fs→b∉ex→∃sl,h'.get? b=some {o with slots:=sl}
 free:∀b o,h.get? b=some o→H b=none→b∉ex→H' b=none
 there:∀b o,h.get? b=some o→b∉ex→∃o',h'.get? b=some o'
 tups:∀b xs,H b=some (.tup xs)→H' b=some (.tup xs)
 frzs:∀b o u,H b=some (.frz o u)→H' b=some (.frz o u)
 tbls:∀b ps,H b=some (.tbl ps)→∃more,H' b=some (.tbl (ps++more))
section
variable {fs fs' ex ex':List Addr}{H H1 H2:Hp}{h h1 h2 h':Heap}{a x e:Addr}{o:HO}
theorem Un.any (u:Un fs ex H H1 h h1){b:Addr}{ob:Obj}(q:h.get? b=some ob)(n:H b=none)(hx:b∉ex):∃sl,h1.get? b=some {ob with slots:=sl}:=by
 by_cases hb:b∈fs
 ·exact u.slot b ob q n hb hx
 ·exact⟨ob.slots,u.keep b ob q n hb hx⟩
theorem Un.kept (k:∀b u,h.get? b=some u→h'.get? b=some u):Un fs ex H H h h':=
 ⟨fun b ob q _ _ _=>k b ob q,fun b ob q _ _ _=>⟨ob.slots,k b ob q⟩,fun _ _ _ n _=>n,fun b ob q _=>⟨ob,k b ob q⟩,fun _ _ q=>q,fun _ _ _ q=>q,fun _ ps q=>⟨#[],by rw[q];simp⟩⟩
theorem Un.refl :Un fs ex H H h h:=Un.kept fun _ _ q=>q
theorem Un.laid (k:∀b u,h.get? b=some u→h'.get? b=some u)(hp:h.objs.size≤a)(hn:H a=none):Un fs ex H (upd H a o) h h' where
 keep:=fun b u q _ _ _=>k b u q
 slot:=fun b u q _ _ _=>⟨u.slots,k b u q⟩
 free:=fun b u q n _=>by rw[zj (aX (aR (aF q) hp))];exact n
 there:=fun b u q _=>⟨u,k b u q⟩
 tups:=fun b xs q=>by rw[zj (zh q hn)];exact q
 frzs:=fun b u xs q=>by rw[zj (zh q hn)];exact q
 tbls:=fun b ps q=>⟨#[],by rw[zj (zh q hn),q];simp⟩
theorem Un.write (mu:Mut (H x))(he:e=x∨H e=some (.own x))(k:∀b u,b≠e→h.get? b=some u→h'.get? b=some u)(heo:∃u,h'.get? e=some u):Un fs ex H (upd H x o) h h':=by
 have hx:∀b,H b=none→b≠x:=fun b n z=>by subst z;rw[n] at mu;exact mu
 have hb:∀b,H b=none→b≠e:=fun b n z=>by
  subst z
  rcases he with r|r
  ·exact hx b n r
  ·rw[n] at r;cases r
 have hm:∀b u,H b=some u→¬Mut (some u)→b≠x:=fun b u q nm z=>by subst z;rw[q] at mu;exact nm mu
 refine⟨fun b u q n _ _=>k b u (hb b n) q,fun b u q n _ _=>⟨u.slots,k b u (hb b n) q⟩,fun b u q n _=>by rw[zj (hx b n)];exact n,fun b u q _=>?_,
  fun b xs q=>by rw[zj (hm b _ q fun z=>z)];exact q,fun b u xs q=>by rw[zj (hm b _ q fun z=>z)];exact q,fun b ps q=>⟨#[],by rw[zj (hm b _ q fun z=>z),q];simp⟩⟩
 by_cases hbe:b=e
 ·subst hbe;exact heo
 ·exact⟨u,k b u hbe q⟩
end
def trk (h:Heap)(H:Hp):List Addr:=(List.range h.objs.size).filter fun a=>(H a).isSome
def sD (h:Heap)(H:Hp):Heap:=PySem.W.hideAll h (trk h H)
theorem ni (h:Heap)(H:Hp):(sD h H).objs.size=h.objs.size:=PySem.W.hideAll_size _ _
theorem kO {h:Heap}{H:Hp}{b:Addr}{o:Obj}(e:h.get? b=some o)(n:H b=none):(sD h H).get? b=some o:=
 PySem.W.hideAll_get _ e fun hm=>by
  have q:(H b).isSome=true:=(List.mem_filter.mp hm).2
  rw[n] at q;simp at q
theorem ik {h:Heap}{H:Hp}{b:Addr}{o:Obj}(e:(sD h H).get? b=some o):h.get? b=some o∧H b=none:=by
 have e':h.get? b=some o:=PySem.W.of_hideAll (trk h H) e
 refine⟨e',?_⟩
 cases q:H b with
 |none=>rfl
 |some x=>
  have hm:b∈trk h H:=List.mem_filter.mpr ⟨List.mem_range.mpr (aF e'),by simp[q]⟩
  have z:(sD h H).get? b=none:=PySem.W.hideAll_none (trk h H) hm
  rw[z] at e;cases e
structure Mod (K:PySem.W.Frag)(mg:Str→Option Value)(base:Heap):Prop where
 kin:K.In base
 glob:base.Ns mainGlobals mg
 blt:∃mb,base.Ns builtinsNs mb∧∀x:Str,x≠"__name__"→mb x=bootBuiltins x
 nolimit:base.NoLimit
structure Cx where
 prog:Program
 w:World
 K:PySem.W.Frag
 mg:Str→Option Value
 base:Heap
 A:Around
 N:List Str
 s₀:Shared
 H₀:Hp
 env:Env
 outer:List Env
 stack:List Env
 ex:List Addr
 fn:Str→Bool
 calm:Bool
 pn:List (Addr×Obj)
 xe:Value→Shared→Prop
def frs (l:List Env):List Addr:=l.filterMap (·.frame)
abbrev Cx.fs (X:Cx):List Addr:=frs X.outer
def Vis (sc:Scope)(x:Str):Prop:=sc.names.lookup x=some .local∨sc.names.lookup x=some .cell∨sc.names.lookup x=some .free
def Loc (sc:Scope)(x:Str):Prop:=sc.names.lookup x=some .local∨sc.names.lookup x=some .cell
def Look (env:Env)(h:Heap)(m:Str→Option Value)(x:Str)(u:Value):Prop:=
 (env.kindOf x=some .local∧m x=some u)∨((env.kindOf x=some .cell∨env.kindOf x=some .free)∧∃c,env.cells.lookup x=some c∧h.IsCell c (some u))
structure Cx.Ok (X:Cx):Prop where
 mod:Mod X.K X.mg X.base
 kind:X.env.scope.kind=.function
 glob:X.env.globals=mainGlobals
 blt:X.env.builtins=builtinsNs
 above:X.s₀.heap.objs.size≤X.env.locals
 inj:∀x y c,X.env.cells.lookup x=some c→X.env.cells.lookup y=some c→x=y
 has:∀x,(X.env.kindOf x=some .cell∨X.env.kindOf x=some .free)→∃c,X.env.cells.lookup x=some c
 cab:∀x c,X.fn x=true→X.env.cells.lookup x=some c→X.s₀.heap.objs.size≤c
 hd:X.calm=true→X.A.handled=none
 frames:X.A.frames=some X.stack
 stk:X.stack=X.outer∨(X.stack=X.env::X.outer∧X.env.frame=some X.env.locals)
 exf:∀b∈X.ex,b≠X.env.locals∧∀x c,X.env.cells.lookup x=some c→c≠b
 bs:∀b o,X.base.get? b=some o→X.s₀.heap.get? b=some o∧X.H₀ b=none
 bsz:X.base.objs.size≤X.s₀.heap.objs.size
 noex:∀b o,X.base.get? b=some o→b∉X.ex
 exfs:∀b∈X.ex,b∉X.fs
 funs:X.s₀.heap.FunFrames X.base X.outer
 frf:∀b∈X.fs,X.H₀ b=none
structure Inv (X:Cx)(pins:List (Addr×Obj))(σ:List (Option V))(H:Hp)(s:Shared):Prop where
 ok:X.Ok
 os:s.os=X.s₀.os
 bare:AllBare s.gens
 base:Un X.fs X.ex X.H₀ H X.s₀.heap s.heap
 loc:∃m,s.heap.Ns X.env.locals m∧∀(i:Nat) (x:Str) (v:V),X.N[i]?=some x→σ[i]?=some (some v)→Vis X.env.scope x→∃u,RelV v u∧Look X.env s.heap m x u
 cell:∀x c,X.env.cells.lookup x=some c→∃v,s.heap.IsCell c v
 free:H X.env.locals=none
 freeC:∀x c,X.env.cells.lookup x=some c→H c=none
 pin:∀p∈X.pn++pins,s.heap.get? p.1=some p.2∧H p.1=none∧p.1≠X.env.locals∧p.1∉X.fs∧∀v,p.2.data≠.cell v
 hok:HOk X.prog X.w H s.heap
 len:σ.length=X.N.length
section
variable {X:Cx}{pins:List (Addr×Obj)}{σ:List (Option V)}{H H':Hp}{s:Shared}{h':Heap}
theorem Cx.Ok.nofr (ok:X.Ok){b:Addr}{o:Obj}(e:X.base.get? b=some o):b∉X.fs:=fun hb=>by
 have:=(ok.funs.mem hb).1
 rw[e] at this;cases this
theorem Inv.bs (I:Inv X pins σ H s):∀b o,X.base.get? b=some o→s.heap.get? b=some o∧H b=none:=fun b o e=>
 ⟨I.base.keep b o (I.ok.bs b o e).1 (I.ok.bs b o e).2 (I.ok.nofr e) (I.ok.noex b o e),I.base.free b o (I.ok.bs b o e).1 (I.ok.bs b o e).2 (I.ok.noex b o e)⟩
theorem Inv.bk (I:Inv X pins σ H s):∀b o,X.base.get? b=some o→s.heap.get? b=some o:=fun b o e=>(I.bs b o e).1
theorem Inv.mod (I:Inv X pins σ H s):Mod X.K X.mg X.base:=I.ok.mod
theorem Inv.kIn (I:Inv X pins σ H s):X.K.In s.heap:=I.ok.mod.kin.keeps I.bk
theorem Inv.lt (I:Inv X pins σ H s):X.env.locals<s.heap.objs.size:=let ⟨_,hn,_⟩:=I.loc;hn.lt
theorem Inv.sz (I:Inv X pins σ H s):X.s₀.heap.objs.size≤s.heap.objs.size:=aP I.ok.above (zd1 I.lt)
theorem Inv.nofs (I:Inv X pins σ H s){a:Addr}(h:s.heap.objs.size≤a):a∉X.fs:=fun hb=>by
 obtain⟨_,o,ho,_⟩:=I.ok.funs.mem hb
 exact absurd (aR (aF ho) (aP I.sz h)) (zd3 _)
theorem Inv.cne (I:Inv X pins σ H s):∀x c,X.env.cells.lookup x=some c→c≠X.env.locals:=fun x c e z=>by
 obtain⟨v,o,ho,hd⟩:=I.cell x c e
 obtain⟨m,⟨o',es,ep,ho',hd',_⟩,_⟩:=I.loc
 rw[z,ho'] at ho;cases ho;rw[hd'] at hd;cases hd
theorem Inv.funs (I:Inv X pins σ H s):s.heap.FunFrames X.base X.outer:=by
 have all:∀(l:List Env),(∀b∈frs l,b∈X.fs)→X.s₀.heap.FunFrames X.base l→s.heap.FunFrames X.base l:=by
  intro l
  induction l with
  |nil=>intro _ _;trivial
  |cons env r ih=>
   intro hs hl
   obtain⟨hk,⟨L,o,hf,hn,ho,hd⟩,hr⟩:=hl
   have hL:L∈X.fs:=hs L (by unfold frs;rw[zg5,hf];exact aA)
   obtain⟨sl,e⟩:=I.base.slot L o ho (I.ok.frf L hL) hL fun z=>I.ok.exfs L z hL
   exact⟨hk,⟨L,_,hf,hn,e,hd⟩,ih (fun b hb=>hs b (by unfold frs;rw[zg5,hf];exact az _ hb)) hr⟩
 exact all X.outer (fun _ hb=>hb) I.ok.funs
theorem Inv.stack (I:Inv X pins σ H s):s.heap.FunFrames X.base X.stack:=by
 rcases I.ok.stk with e|⟨e,hf⟩
 ·rw[e];exact I.funs
 ·rw[e]
  obtain⟨m,hn,_⟩:=I.loc
  refine .cons (by rw[I.ok.kind];decide) hf hn ?_ I.funs
  exact Heap.get?_none_of_le (aP I.ok.bsz I.ok.above)
theorem Inv.stkSub (I:Inv X pins σ H s):∀b∈frs X.stack,b∈X.env.locals::X.fs:=fun b hb=>by
 rcases I.ok.stk with e|⟨e,hf⟩
 ·rw[e] at hb;exact az _ hb
 ·rw[e] at hb
  unfold frs at hb
  rw[zg5,hf] at hb
  exact hb
theorem Inv.stkFree (I:Inv X pins σ H s):∀b∈frs X.stack,H b=none:=fun b hb=>by
 rcases ay.mp (I.stkSub b hb) with e|hb
 ·rw[e];exact I.free
 ·obtain⟨_,o,ho,_⟩:=I.ok.funs.mem hb
  exact I.base.free b o ho (I.ok.frf b hb) fun z=>I.ok.exfs b z hb
theorem Inv.step {g':Array GenState}{t':Nat}{d':Drawn}{ch:List Addr}(I:Inv X pins σ H s)
  (hch:∀b∈ch,(b∈X.ex∨X.s₀.heap.objs.size≤b)∧b≠X.env.locals∧(∀x c,X.env.cells.lookup x=some c→c≠b)∧∀p∈X.pn++pins,p.1≠b)
  (keep:∀b o,b≠X.env.locals→b∉X.fs→b∉ch→s.heap.get? b=some o→H b=none→h'.get? b=some o)
  (slot:∀b o,b≠X.env.locals→b∈X.fs→b∉ch→s.heap.get? b=some o→H b=none→∃sl,h'.get? b=some {o with slots:=sl}) (free:∀b o,b∉ch→s.heap.get? b=some o→H b=none→H' b=none)
  (there:∀b o,b∉ch→s.heap.get? b=some o→∃o',h'.get? b=some o')
  (tups:∀b xs,H b=some (.tup xs)→H' b=some (.tup xs)) (frzs:∀b o u,H b=some (.frz o u)→H' b=some (.frz o u)) (tbls:∀b ps,H b=some (.tbl ps)→∃more,H' b=some (.tbl (ps++more)))
  (ns:∀m,s.heap.Ns X.env.locals m→h'.Ns X.env.locals m) (hok:HOk X.prog X.w H' h') (hg:AllBare g'):
  Inv X pins σ H' {s with heap:=h',gens:=g',drawn:=d',toks:=t'}:=by
 have neL:∀b o,X.s₀.heap.get? b=some o→b≠X.env.locals:=fun b o e=>aX (aR (aF e) I.ok.above)
 have neC:∀b o,X.s₀.heap.get? b=some o→b∉X.ex→b∉ch:=fun b o e hx hb=>by
  rcases (hch b hb).1 with z|z
  ·exact hx z
  ·exact absurd (aR (aF e) z) (zd3 _)
 have cellK:∀x c,X.env.cells.lookup x=some c→∀v,s.heap.IsCell c v→h'.IsCell c v:=fun x c e v ⟨o,ho,hd⟩=>by
  have nch:c∉ch:=fun z=>(hch c z).2.2.1 x c e rfl
  by_cases hc:c∈X.fs
  ·obtain⟨sl,q⟩:=slot c o (I.cne x c e) hc nch ho (I.freeC x c e)
   exact⟨_,q,hd⟩
  ·exact⟨o,keep c o (I.cne x c e) hc nch ho (I.freeC x c e),hd⟩
 refine⟨I.ok,I.os,hg,⟨fun b o e n hb hx=>?_,fun b o e n hb hx=>?_,fun b o e n hx=>?_,fun b o e hx=>?_,fun b xs e=>tups b xs (I.base.tups b xs e),fun b o xs e=>frzs b o xs (I.base.frzs b o xs e),fun b ps e=>?_⟩,?_,fun x c e=>?_,?_,fun x c e=>?_,fun p hp=>?_,hok,I.len⟩
 ·exact keep b o (neL b o e) hb (neC b o e hx) (I.base.keep b o e n hb hx) (I.base.free b o e n hx)
 ·obtain⟨sl,e1⟩:=I.base.slot b o e n hb hx
  obtain⟨sl',e2⟩:=slot b _ (neL b o e) hb (neC b o e hx) e1 (I.base.free b o e n hx)
  exact⟨sl',e2⟩
 ·obtain⟨o',e1⟩:=I.base.there b o e hx
  exact free b o' (neC b o e hx) e1 (I.base.free b o e n hx)
 ·obtain⟨o',e1⟩:=I.base.there b o e hx
  exact there b o' (neC b o e hx) e1
 ·obtain⟨m1,e1⟩:=I.base.tbls b ps e
  obtain⟨m2,e2⟩:=tbls b _ e1
  exact⟨m1++m2,by rw[e2,Array.append_assoc]⟩
 ·obtain⟨m,hn,hl⟩:=I.loc
  refine⟨m,ns m hn,fun i x v e1 e2 e3=>?_⟩
  obtain⟨u,r,l⟩:=hl i x v e1 e2 e3
  refine⟨u,r,?_⟩
  rcases l with l|⟨k,c,e,z⟩
  ·exact .inl l
  ·exact .inr ⟨k,c,e,cellK x c e _ z⟩
 ·obtain⟨v,z⟩:=I.cell x c e
  exact⟨v,cellK x c e v z⟩
 ·obtain⟨m,⟨o,_,_,ho,_⟩,_⟩:=I.loc
  exact free _ o (fun z=>(hch _ z).2.1 rfl) ho I.free
 ·obtain⟨v,o,ho,hd⟩:=I.cell x c e
  exact free c o (fun z=>(hch c z).2.2.1 x c e rfl) ho (I.freeC x c e)
 ·obtain⟨e,n,ne,nf,d⟩:=I.pin p hp
  have nch:p.1∉ch:=fun z=>(hch p.1 z).2.2.2 p hp rfl
  exact⟨keep p.1 p.2 ne nf nch e n,free p.1 p.2 nch e n,ne,nf,d⟩
theorem Inv.un {t':Nat}(I:Inv X pins σ H s)(u:Un X.fs [] H H' s.heap h')(hok:HOk X.prog X.w H' h'):Inv X pins σ H' {s with heap:=h',toks:=t'}:=by
 obtain⟨m,⟨o,es,ep,ho,r⟩,_⟩:=id I.loc
 obtain⟨sl,hL⟩:=u.any ho I.free (by simp)
 exact I.step (g':=s.gens) (d':=s.drawn) (ch:=[]) (fun _ z=>nomatch z) (fun b o _ hb _ e n=>u.keep b o e n hb (by simp)) (fun b o _ hb _ e n=>u.slot b o e n hb (by simp)) (fun b o _ e n=>u.free b o e n (by simp)) (fun b o _ e=>u.there b o e (by simp)) u.tups u.frzs u.tbls (fun m' hm=>by
  obtain⟨o',es',ep',ho',r'⟩:=hm
  rw[ho] at ho';cases ho'
  exact⟨_,es',ep',hL,r'⟩) hok I.bare
theorem Inv.call {g':Array GenState}{t':Nat}{d':Drawn}{ch:List Addr}(I:Inv X pins σ H s)(u:Un (frs X.stack) ch H H' s.heap h')(hok:HOk X.prog X.w H' h')(hg:AllBare g')
  (hch:∀b∈ch,(b∈X.ex∨X.s₀.heap.objs.size≤b)∧b≠X.env.locals∧(∀x c,X.env.cells.lookup x=some c→c≠b)∧∀p∈X.pn++pins,p.1≠b):
  Inv X pins σ H' {s with heap:=h',gens:=g',drawn:=d',toks:=t'}:=by
 obtain⟨m,⟨o,es,ep,ho,r⟩,_⟩:=id I.loc
 obtain⟨sl,hL⟩:=u.any ho I.free fun z=>(hch _ z).2.1 rfl
 exact I.step (ch:=ch) hch (fun b o hL hb hc e n=>u.keep b o e n (fun z=>(ay.mp (I.stkSub b z)).elim hL hb) hc) (fun b o _ _ hc e n=>u.any e n hc) (fun b o hc e n=>u.free b o e n hc) (fun b o hc e=>u.there b o e hc) u.tups u.frzs u.tbls (fun m' hm=>by
  obtain⟨o',es',ep',ho',r'⟩:=hm
  rw[ho] at ho';cases ho'
  exact⟨_,es',ep',hL,r'⟩) hok hg
theorem Inv.turned {t':Nat}{it:Addr}(I:Inv X pins σ H s)(k:∀b o,b≠it→s.heap.get? b=some o→h'.get? b=some o)(hn:H it=none)(hL:it≠X.env.locals)
  (h1:it∈X.ex∨X.s₀.heap.objs.size≤it) (h2:∀x c,X.env.cells.lookup x=some c→c≠it) (h3:∀p∈X.pn++pins,p.1≠it):Inv X pins σ H {s with heap:=h',toks:=t'}:=by
 have nit:∀b u,H b=some u→b≠it:=fun b u e z=>by rw[z,hn] at e;cases e
 refine I.step (g':=s.gens) (d':=s.drawn) (ch:=[it]) (fun b hb=>?_) (fun b o _ _ hc e _=>k b o (fun z=>hc (by simp[z])) e) (fun b o _ _ hc e _=>⟨o.slots,k b o (fun z=>hc (by simp[z])) e⟩) (fun _ _ _ _ n=>n)
  (fun b o hc e=>⟨o,k b o (fun z=>hc (by simp[z])) e⟩) (fun _ _ e=>e) (fun _ _ _ e=>e) (fun b ps e=>⟨#[],by rw[e];simp⟩) (fun m hm=>?_) (fun b u e=>?_) I.bare
 ·have e:b=it:=by simpa using hb
  subst e
  exact⟨h1,hL,h2,h3⟩
 ·obtain⟨o,es,ep,ho,r⟩:=hm
  exact⟨o,es,ep,k _ o (Ne.symm hL) ho,r⟩
 ·refine (I.hok b u e).stay (fun c v hc q=>k c v ?_ q) (fun _ q=>q) fun _ _ q=>q
  rcases hc with z|z
  ·rw[z];exact nit b u e
  ·exact nit c _ z
theorem Inv.tok (I:Inv X pins σ H s)(t:Nat):Inv X pins σ H {s with toks:=t}:=I.un (h':=s.heap) (t':=t) Un.refl I.hok
theorem Inv.kept {t':Nat}(I:Inv X pins σ H s)(k:∀b u,s.heap.get? b=some u→h'.get? b=some u):Inv X pins σ H {s with heap:=h',toks:=t'}:=I.un (Un.kept k) (I.hok.kept k)
theorem Inv.laid {a:Addr}{o:HO}{t':Nat}(I:Inv X pins σ H s)(k:∀b u,s.heap.get? b=some u→h'.get? b=some u)(hp:s.heap.objs.size≤a)(new:zW X.prog X.w (upd H a o) h' a o):
  Inv X pins σ (upd H a o) {s with heap:=h',toks:=t'}:=I.un (Un.laid k hp (I.hok.fresh hp)) (I.hok.laid k hp new)
theorem Inv.write {x e:Addr}{o:HO}{t':Nat}(I:Inv X pins σ H s)(mu:Mut (H x))(he:e=x∨H e=some (.own x))(k:∀b u,b≠e→s.heap.get? b=some u→h'.get? b=some u)(heo:∃u,h'.get? e=some u)
  (new:zW X.prog X.w (upd H x o) h' x o):Inv X pins σ (upd H x o) {s with heap:=h',toks:=t'}:=I.un (Un.write mu he k heo) (I.hok.write mu he k heo new)
theorem Inv.pins_of {pins':List (Addr×Obj)}(I:Inv X pins σ H s)(h:∀p∈pins',s.heap.get? p.1=some p.2∧H p.1=none∧p.1≠X.env.locals∧p.1∉X.fs∧∀v,p.2.data≠.cell v):Inv X pins' σ H s:=
 ⟨I.ok,I.os,I.bare,I.base,I.loc,I.cell,I.free,I.freeC,fun p hp=>(zb8.mp hp).elim (fun z=>I.pin p (List.mem_append_left _ z)) (h p),I.hok,I.len⟩
theorem qj {N:List Str}(hN:N.Nodup){i j:Nat}{x:Str}(a:N[i]?=some x)(b:N[j]?=some x):i=j:=by
 obtain⟨h1,e1⟩:=aH.mp a
 obtain⟨h2,e2⟩:=aH.mp b
 exact (List.getElem_inj hN).mp (e1.trans e2.symm)
theorem tI {M:Model}{A:Around}{E:Value→Shared→Prop}{i:Nat}{x:Str}{v:V}{u:Value}{Q:Unit→Shared→Prop}(I:Inv X pins σ H s)(hN:X.N.Nodup)(hi:X.N[i]?=some x)(hx:Loc X.env.scope x)(r:RelV v u)
  (h:∀s',Inv X pins (σ.set i (some v)) H s'→(∃a,Heap.SameBut a s.heap s'.heap∧(a=X.env.locals∨X.env.cells.lookup x=some a))→Q () s') (hf:X.fn x=true∨X.env.scope.names.lookup x=some .local:=by first|exact .inl rfl|exact .inr rfl|assumption):wpAny M A (storeName X.env x u) Q E s:=by
 obtain⟨m,hn,hl⟩:=id I.loc
 have hcls:(X.env.scope.kind == .class||(X.env.scope.kind == .module&&X.env.locals != X.env.globals))=false:=by rw[I.ok.kind];rfl
 have hiσ:i<σ.length:=by rw[I.len];exact (aH.mp hi).1
 have cne:=I.cne
 have tracked:∀{a:Addr} {h':Heap},(∃o,s.heap.get? a=some o∧H a=none)→Heap.SameBut a s.heap h'→HOk X.prog X.w H h':=fun {a h'} ha hs b ob e=>by
  obtain⟨_,_,hfree⟩:=ha
  refine (I.hok b ob e).stay (fun c w' hc q=>(hs.2 c ?_).trans q) (fun _ q=>q) fun _ _ q=>q
  rintro rfl
  rcases hc with rfl|hc
  ·rw[hfree] at e;cases e
  ·rw[hfree] at hc;cases hc
 rcases hx with hk|hk
 ·refine wpAny_storeName_local hk hn (fun h' hn' hs=>?_) hcls
  obtain⟨oL,_,_,hoL,_⟩:=id hn
  refine h _ ⟨I.ok,I.os,I.bare,⟨fun b o e n hb hx=>?_,fun b o e n hb hx=>?_,I.base.free,fun b o e hx=>?_,I.base.tups,I.base.frzs,I.base.tbls⟩,⟨_,hn',fun j y v' e1 e2 e3=>?_⟩,fun y c e=>?_,I.free,I.freeC,fun p hp=>?_,tracked ⟨oL,hoL,I.free⟩ hs,by simpa using I.len⟩ ⟨_,hs,.inl rfl⟩
  ·exact (hs.2 b (aX (aR (aF e) I.ok.above))).trans (I.base.keep b o e n hb hx)
  ·obtain⟨sl,e1⟩:=I.base.slot b o e n hb hx
   exact⟨sl,(hs.2 b (aX (aR (aF e) I.ok.above))).trans e1⟩
  ·obtain⟨o',e1⟩:=I.base.there b o e hx
   exact⟨o',(hs.2 b (aX (aR (aF e) I.ok.above))).trans e1⟩
  ·by_cases hj:j=i
   ·subst hj
    rw[hi] at e1;cases e1
    rw[zd7 hiσ] at e2
    cases e2
    exact⟨u,r,.inl ⟨hk,by simp⟩⟩
   ·rw[zb6 (Ne.symm hj)] at e2
    obtain⟨u',r',q⟩:=hl j y v' e1 e2 e3
    refine⟨u',r',?_⟩
    rcases q with ⟨k,e⟩|⟨k,c,e,z⟩
    ·refine .inl ⟨k,?_⟩
     have:y≠x:=fun e=>hj (qj hN e1 (e▸hi))
     simp[this,e]
    ·exact .inr ⟨k,c,e,z.sameBut hs (cne y c e)⟩
  ·obtain⟨w',z⟩:=I.cell y c e
   exact⟨w',z.sameBut hs (cne y c e)⟩
  ·obtain⟨e,n,ne,nf,d⟩:=I.pin p hp
   exact⟨(hs.2 p.1 ne).trans e,n,ne,nf,d⟩
 ·have hfn:X.fn x=true:=by
   rcases hf with z|z
   ·exact z
   ·rw[z] at hk;cases hk
  obtain⟨c,hc⟩:=I.ok.has x (.inl hk)
  obtain⟨w',z⟩:=I.cell x c hc
  refine wpAny_storeName_cell I.ok.kind hk hc z (fun h' hc' hs=>?_)
  obtain⟨oc,hoc,hocd⟩:=id z
  refine h {s with heap:=h'} ⟨I.ok,I.os,I.bare,⟨fun b o e n hb hx=>?_,fun b o e n hb hx=>?_,I.base.free,fun b o e hx=>?_,I.base.tups,I.base.frzs,I.base.tbls⟩,⟨m,hn.sameBut hs (Ne.symm (cne x c hc)),fun j y v' e1 e2 e3=>?_⟩,fun y c' e=>?_,I.free,I.freeC,fun p hp=>?_,tracked ⟨oc,hoc,I.freeC x c hc⟩ hs,by simpa using I.len⟩ ⟨c,hs,.inr hc⟩
  ·exact (hs.2 b (aX (aR (aF e) (I.ok.cab x c hfn hc)))).trans (I.base.keep b o e n hb hx)
  ·obtain⟨sl,e1⟩:=I.base.slot b o e n hb hx
   exact⟨sl,(hs.2 b (aX (aR (aF e) (I.ok.cab x c hfn hc)))).trans e1⟩
  ·obtain⟨o',e1⟩:=I.base.there b o e hx
   exact⟨o',(hs.2 b (aX (aR (aF e) (I.ok.cab x c hfn hc)))).trans e1⟩
  ·by_cases hj:j=i
   ·subst hj
    rw[hi] at e1;cases e1
    rw[zd7 hiσ] at e2
    cases e2
    exact⟨u,r,.inr ⟨.inl hk,c,hc,hc'⟩⟩
   ·rw[zb6 (Ne.symm hj)] at e2
    obtain⟨u',r',q⟩:=hl j y v' e1 e2 e3
    refine⟨u',r',?_⟩
    rcases q with q|⟨k,c',e,z'⟩
    ·exact .inl q
    ·refine .inr ⟨k,c',e,z'.sameBut hs ?_⟩
     rintro rfl
     exact hj (qj hN e1 (I.ok.inj _ _ _ e hc▸hi))
  ·by_cases hcc:c'=c
   ·subst hcc;exact⟨_,hc'⟩
   ·obtain⟨w2,z2⟩:=I.cell y c' e
    exact⟨w2,z2.sameBut hs hcc⟩
  ·obtain⟨e,n,ne,nf,d⟩:=I.pin p hp
   refine⟨(hs.2 p.1 ?_).trans e,n,ne,nf,d⟩
   intro q
   rw[q,hoc] at e
   have q':oc=p.2:=aL e
   exact d w' (by rw[←q'];exact hocd)
theorem qh {M:Model}{A:Around}{E:Value→Shared→Prop}{i:Nat}{x:Str}{v:V}{u:Value}{Q:Unit→Shared→Prop}(I:Inv X pins σ H s)(hN:X.N.Nodup)(hi:X.N[i]?=some x)(hx:Loc X.env.scope x)(r:RelV v u)
  (h:∀s',Inv X pins (σ.set i (some v)) H s'→Q () s') (hf:X.fn x=true∨X.env.scope.names.lookup x=some .local:=by first|exact .inl rfl|exact .inr rfl|assumption):wpAny M A (storeName X.env x u) Q E s:=
 tI I hN hi hx r (fun s' I' _=>h s' I') hf
theorem Inv.call' {s':Shared}{ch:List Addr}(I:Inv X pins σ H s)(ho:s'.os=s.os)(u:Un (frs X.stack) ch H H' s.heap s'.heap)(hok:HOk X.prog X.w H' s'.heap)(hg:AllBare s'.gens)
  (hch:∀b∈ch,(b∈X.ex∨X.s₀.heap.objs.size≤b)∧b≠X.env.locals∧(∀x c,X.env.cells.lookup x=some c→c≠b)∧∀p∈X.pn++pins,p.1≠b):Inv X pins σ H' s':=by
 obtain⟨h',g',d',t',o'⟩:=s'
 have e:o'=s.os:=ho
 subst e
 exact I.call (g':=g') (t':=t') (d':=d') u hok hg hch
end
abbrev XK :=Value→Option Addr→Hp→Prop
abbrev St :=List (Option V)
abbrev VK :=V→Hp→Prop
abbrev TE :=St→Hp→VK→Prop
abbrev TT :=St→Hp→(Bool→Hp→Prop)→Prop
abbrev TA :=St→Hp→(List V→Hp→Prop)→Prop
structure Ends where
 nx:St→Hp→Prop
 rt:VK
 bk:St→Hp→Prop:=fun _ _=>False
 ct:St→Hp→Prop:=fun _ _=>False
abbrev TS :=Ends→St→Hp→Prop
def EP (X:Cx)(pins:List (Addr×Obj))(σ:St)(Q:VK)(u:Value)(s':Shared):Prop:=∃v H',Inv X pins σ H' s'∧RelV v u∧Q v H'
def TP (X:Cx)(pins:List (Addr×Obj))(σ:St)(Q:Bool→Hp→Prop)(b:Bool)(s':Shared):Prop:=∃H',Inv X pins σ H' s'∧Q b H'
def AP (X:Cx)(pins:List (Addr×Obj))(σ:St)(Q:List V→Hp→Prop)(us:List Value)(s':Shared):Prop:=∃vs H',Inv X pins σ H' s'∧Vals vs us∧Q vs H'
def SP (X:Cx)(pins:List (Addr×Obj))(D:Ends)(f:Flow)(s':Shared):Prop:=
 match f with
 |.next=>∃σ' H',Inv X pins σ' H' s'∧D.nx σ' H'
 |.brk=>∃σ' H',Inv X pins σ' H' s'∧D.bk σ' H'
 |.cont=>∃σ' H',Inv X pins σ' H' s'∧D.ct σ' H'
 |.ret u=>∃v σ' H',Inv X pins σ' H' s'∧RelV v u∧D.rt v H'
def PE (X:Cx)(e:Expr)(t:TE):Prop:=
 ∀(pins:List (Addr×Obj)) (s:Shared) (σ:St) (H:Hp) (Q:VK),Inv X pins σ H s→t σ H Q→wpAny (model X.prog X.w) X.A (eval e X.env) (EP X pins σ Q) X.xe s
def PT (X:Cx)(e:Expr)(t:TT):Prop:=
 ∀(pins:List (Addr×Obj)) (s:Shared) (σ:St) (H:Hp) (Q:Bool→Hp→Prop),Inv X pins σ H s→t σ H Q→wpAny (model X.prog X.w) X.A (isTrue e X.env (eval e X.env)) (TP X pins σ Q) X.xe s
def PW (X:Cx)(e:Expr)(t:TT):Prop:=
 ∀(whole:Sem Value) (pins:List (Addr×Obj)) (s:Shared) (σ:St) (H:Hp) (Q:Bool→Hp→Prop),Inv X pins σ H s→t σ H Q→wpAny (model X.prog X.w) X.A (isTrue e X.env whole) (TP X pins σ Q) X.xe s
theorem PW.pt {X:Cx}{e:Expr}{t:TT}(h:PW X e t):PT X e t:=h _
def PA (X:Cx)(es:List Expr)(t:TA):Prop:=
 ∀(pos:Pos) (pins:List (Addr×Obj)) (s:Shared) (σ:St) (H:Hp) (Q:List V→Hp→Prop),Inv X pins σ H s→t σ H Q→wpAny (model X.prog X.w) X.A (spliced (backTo pos (starEach es X.env))) (AP X pins σ Q) X.xe s
def PS (X:Cx)(st:Stmt)(t:TS):Prop:=
 ∀(pins:List (Addr×Obj)) (s:Shared) (σ:St) (H:Hp) (D:Ends),Inv X pins σ H s→t D σ H→wpAny (model X.prog X.w) X.A (exec st X.env) (SP X pins D) X.xe s
def PSs (X:Cx)(st:List Stmt)(t:TS):Prop:=
 ∀(pins:List (Addr×Obj)) (s:Shared) (σ:St) (H:Hp) (D:Ends),Inv X pins σ H s→t D σ H→wpAny (model X.prog X.w) X.A (execs st X.env) (SP X pins D) X.xe s
theorem thn {α:Type}{t:Sem α}{Q Q':α→Shared→Prop}{M:Model}{A:Around}{E:Value→Shared→Prop}{s:Shared}(h:wpAny M A t Q E s)(hQ:∀a s,Q a s→Q' a s):wpAny M A t Q' E s:=za7 h hQ fun _ _ x=>x
section
variable {X:Cx}
theorem bin {a b:Expr}{ta tb:TE}(ha:PE X a ta)(hb:PE X b tb){pins:List (Addr×Obj)}{s:Shared}{σ:St}{H:Hp}{R:V→V→Hp→Prop}(I:Inv X pins σ H s)(h:ta σ H fun x H1=>tb σ H1 fun y H2=>R x y H2)
  {α:Type} {Q:α→Shared→Prop} {f:Value→Value→Sem α}
  (hf:∀v u s2 x y H2,Inv X pins σ H2 s2→RelV x v→RelV y u→R x y H2→wpAny (model X.prog X.w) X.A (f v u) Q X.xe s2):
  wpAny (model X.prog X.w) X.A (eval a X.env) (fun v s₁=>wpAny (model X.prog X.w) X.A (eval b X.env) (fun u s₂=>wpAny (model X.prog X.w) X.A (f v u) Q X.xe s₂) X.xe s₁) X.xe s:=by
 refine thn (ha pins s σ H _ I h) fun v s1 ⟨x,H1,I1,r1,q1⟩=>?_
 refine thn (hb pins s1 σ H1 _ I1 q1) fun u s2 ⟨y,H2,I2,r2,q2⟩=>?_
 exact hf v u s2 x y H2 I2 r1 r2 q2
def dq (i:Nat):TE:=fun σ H Q=>∃v,σ[i]?=some (some v)∧Q v H
def tC (v:V):TE:=fun _ H Q=>Q v H
theorem yZ {i:Nat}{x:Str}{pos:Pos}(hN:X.N[i]?=some x)(hv:Vis X.env.scope x)(hd:(x == ("__debug__":Str))=false:=by decide)(hcd:(x == ("__classdict__":Str))=false:=by decide):PE X (.Name x pos) (dq i):=by
 intro pins s σ H Q I h
 obtain⟨v,e,h⟩:=h
 obtain⟨m,hn,hl⟩:=I.loc
 obtain⟨u,r,l⟩:=hl i x v hN e hv
 have fin:EP X pins σ Q u s:=⟨v,H,I,r,h⟩
 rcases l with ⟨hk,hm⟩|⟨hk,c,hc,hcell⟩
 ·exact wpAny_Name (wpAny_loadName_local I.ok.kind hk hn hm fin) hd
 ·rcases hk with hk|hk
  ·exact wpAny_Name (wpAny_loadName_cell I.ok.kind hk hc hcell fin) hd
  ·exact wpAny_Name (wpAny_loadName_free I.ok.kind hk hc hcell fin hcd) hd
theorem zq {i j pos}:PE X (.Constant (.int i) j pos) (tC (.int i)):=fun _ _ _ H _ I h=>wpAny_Constant_int ⟨.int i,H,I.tok _,⟨_,rfl⟩,h⟩
theorem bf {b j pos}:PE X (.Constant (.bool b) j pos) (tC (.bl b)):=fun _ _ _ H _ I h=>Constant_bool ⟨.bl b,H,I,rfl,h⟩
theorem si {j pos}:PE X (.Constant .none j pos) (tC .non):=fun _ _ _ H _ I h=>Constant_none ⟨.non,H,I,rfl,h⟩
theorem zP {x j pos}:PE X (.Constant (.str x) j pos) (tC (.str x)):=fun _ _ _ H _ I h=>Calls.Constant_str ⟨.str x,H,I.tok _,⟨_,rfl⟩,h⟩
def Gl (X:Cx)(x:Str):Prop:=X.env.kindOf x=some .globalImplicit
theorem vQ {E:Value→Shared→Prop}{pins:List (Addr×Obj)}{s:Shared}{σ:St}{H:Hp}{x:Str}{u:Value}{pos:Pos}{Q:Value→Shared→Prop}(I:Inv X pins σ H s)(hg:Gl X x)(hm:X.mg x=some u)(h:Q u s)
  (hd:(x == ("__debug__":Str))=false:=by decide):wpAny (model X.prog X.w) X.A (eval (.Name x pos) X.env) Q E s:=
 Calls.Name_function_global I.ok.kind hg (Calls.loadGlobal_global (by rw[I.ok.glob];exact I.mod.glob.keeps I.bk) hm h) hd
theorem uE {E:Value→Shared→Prop}{pins:List (Addr×Obj)}{s:Shared}{σ:St}{H:Hp}{x:Str}{u:Value}{pos:Pos}{Q:Value→Shared→Prop}(I:Inv X pins σ H s)(hg:Gl X x)(hm:X.mg x=none)(hv:bootBuiltins x=some u)(h:Q u s)
  (hn:x≠"__name__":=by decide) (hd:(x == ("__debug__":Str))=false:=by decide):wpAny (model X.prog X.w) X.A (eval (.Name x pos) X.env) Q E s:=by
 obtain⟨mb,h1,h2⟩:=I.mod.blt
 exact Calls.Name_function_global I.ok.kind hg (Calls.loadGlobal_builtin (by rw[I.ok.glob];exact I.mod.glob.keeps I.bk) hm (by rw[I.ok.blt];exact h1.keeps I.bk) ((h2 x hn).trans hv) h) hd
theorem xF {x:Str}{v:V}{u:Value}{pos:Pos}(hg:Gl X x)(hm:X.mg x=some u)(r:RelV v u)(hd:(x == ("__debug__":Str))=false:=by decide):PE X (.Name x pos) (tC v):=
 fun _ _ _ H _ I h=>vQ I hg hm ⟨v,H,I,r,h⟩ hd
theorem wg {x:Str}{v:V}{u:Value}{pos:Pos}(hg:Gl X x)(hm:X.mg x=none)(hv:bootBuiltins x=some u)(r:RelV v u)(hn:x≠"__name__":=by decide)(hd:(x == ("__debug__":Str))=false:=by decide):PE X (.Name x pos) (tC v):=
 fun _ _ _ H _ I h=>uE I hg hm hv ⟨v,H,I,r,h⟩ hn hd
variable {a b:Expr}{ta tb:TE}{pos:Pos}
def PC (X:Cx)(op:CmpOp)(a b:Expr)(t:TE):Prop:=
 ∀(pins:List (Addr×Obj)) (s:Shared) (σ:St) (H:Hp) (Q:VK),Inv X pins σ H s→t σ H Q→
  wpAny (model X.prog X.w) X.A (eval a X.env) (fun v s₁=>wpAny (model X.prog X.w) X.A (eval b X.env) (fun u s₂=>wpAny (model X.prog X.w) X.A (compareOp op v u) (EP X pins σ Q) X.xe s₂) X.xe s₁) X.xe s
def tB (t:TE):TT:=fun σ H Q=>t σ H fun x H1=>∃c,x=.bl c∧Q c H1
theorem bZ {op:CmpOp}{t:TE}(h:PC X op a b t)(h1:behindInMarks op b=false:=by first|exact nobehind _ (by decide) (by decide)|rfl):PT X (.Compare a [op] [b] pos) (tB t):=by
 intro pins s σ H Q I hw
 refine wpAny_isTrue_Compare1 (thn (h pins s σ H _ I hw) fun v s1 h1=>thn h1 fun u s2 h2=>thn h2 fun c s3 ⟨x,H1,I1,r1,q1⟩=>?_) h1
 obtain⟨d,rfl,q⟩:=q1
 cases r1
 exact zb1 ⟨H1,I1,q⟩
theorem jl {e:Expr}{t:TE}(h:PE X e t)(he:∀whole,isTrue e X.env whole=(do let v ←whole;standAt e.pos;holding [v] (truthy v)):=by intro _;rfl):PT X e (tB t):=by
 intro pins s σ H Q I hw
 refine isTrue_plain (thn (h pins s σ H _ I hw) fun v s1 ⟨x,H1,I1,r1,q1⟩=>?_) (he _)
 obtain⟨d,rfl,q⟩:=q1
 cases r1
 exact zb1 ⟨H1,I1,q⟩
variable {tA tB':TT}{rest:List Expr}
def bJ (t u:TT):TT:=fun σ H Q=>t σ H fun c H1=>if c=true then u σ H1 Q else Q false H1
def tOr (t u:TT):TT:=fun σ H Q=>t σ H fun c H1=>if c=true then Q true H1 else u σ H1 Q
def bU (t:TT):TT:=fun σ H Q=>t σ H fun c H1=>Q (!c) H1
theorem jU (ha:PT X a tA):PW X (.BoolOp .And [a] pos) tA:=by
 intro wh pins s σ H Q I h
 refine isTrue_and (thn (ha pins s σ H Q I h) fun c s1 e=>?_)
 cases c with
 |true=>exact isTrue_and_nil e
 |false=>exact e
theorem qB (ha:PT X a tA):PW X (.BoolOp .Or [a] pos) tA:=by
 intro wh pins s σ H Q I h
 refine isTrue_or (thn (ha pins s σ H Q I h) fun c s1 e=>?_)
 cases c with
 |false=>exact isTrue_or_nil e
 |true=>exact e
theorem de (ha:PT X a tA)(hb:PW X (.BoolOp .And (b::rest) pos) tB'):PW X (.BoolOp .And (a::b::rest) pos) (bJ tA tB'):=by
 intro wh pins s σ H Q I h
 refine isTrue_and (thn (ha pins s σ H _ I h) fun c s1 ⟨H1,I1,q1⟩=>?_)
 cases c with
 |true=>exact hb wh pins s1 σ H1 Q I1 q1
 |false=>exact⟨H1,I1,q1⟩
theorem mM (ha:PT X a tA)(hb:PW X (.BoolOp .Or (b::rest) pos) tB'):PW X (.BoolOp .Or (a::b::rest) pos) (tOr tA tB'):=by
 intro wh pins s σ H Q I h
 refine isTrue_or (thn (ha pins s σ H _ I h) fun c s1 ⟨H1,I1,q1⟩=>?_)
 cases c with
 |true=>exact⟨H1,I1,q1⟩
 |false=>exact hb wh pins s1 σ H1 Q I1 q1
theorem ku (ha:PT X a tA):PT X (.UnaryOp .Not a pos) (bU tA):=by
 intro pins s σ H Q I h
 exact isTrue_not (ha pins s σ H (fun c H1=>Q (!c) H1) I h)
def dR (ta tb:TE):TE:=fun σ H Q=>ta σ H fun x H1=>∃c,x=.bl c∧if c=true then tb σ H1 Q else Q (.bl false) H1
def bE (ta tb:TE):TE:=fun σ H Q=>ta σ H fun x H1=>∃c,x=.bl c∧if c=true then Q (.bl true) H1 else tb σ H1 Q
def cC (ta:TE):TE:=fun σ H Q=>ta σ H fun x H1=>∃c,x=.bl c∧Q (.bl (!c)) H1
theorem xf {op}{t:TE}(h:PE X a t):PE X (.BoolOp op [a] pos) t:=fun pins s σ H Q I hw=>BoolOp_one (h pins s σ H Q I hw)
theorem yB (ha:PE X a ta)(hb:PE X (.BoolOp .And (b::rest) pos) tb):PE X (.BoolOp .And (a::b::rest) pos) (dR ta tb):=by
 intro pins s σ H Q I h
 refine BoolOp_and (thn (ha pins s σ H _ I h) fun v s1 ⟨x,H1,I1,r1,q1⟩=>?_)
 obtain⟨c,rfl,q1⟩:=q1
 cases r1
 refine zb1 ?_
 cases c with
 |true=>exact hb pins s1 σ H1 Q I1 q1
 |false=>exact⟨.bl false,H1,I1,rfl,q1⟩
theorem kZ (ha:PE X a ta)(hb:PE X (.BoolOp .Or (b::rest) pos) tb):PE X (.BoolOp .Or (a::b::rest) pos) (bE ta tb):=by
 intro pins s σ H Q I h
 refine BoolOp_or (thn (ha pins s σ H _ I h) fun v s1 ⟨x,H1,I1,r1,q1⟩=>?_)
 obtain⟨c,rfl,q1⟩:=q1
 cases r1
 refine zb1 ?_
 cases c with
 |false=>exact hb pins s1 σ H1 Q I1 q1
 |true=>exact⟨.bl true,H1,I1,rfl,q1⟩
theorem fA (ha:PE X a ta):PE X (.UnaryOp .Not a pos) (cC ta):=by
 intro pins s σ H Q I h
 refine UnaryOp_ (thn (ha pins s σ H _ I h) fun v s1 ⟨x,H1,I1,r1,q1⟩=>?_)
 obtain⟨c,rfl,q1⟩:=q1
 cases r1
 exact not_of (zb1 ⟨.bl (!c),H1,I1,rfl,q1⟩)
def tIf (t:TT)(ta tb:TE):TE:=fun σ H Q=>t σ H fun c H1=>if c=true then ta σ H1 Q else tb σ H1 Q
theorem js {c:Expr}(hc:PT X c tA)(ha:PE X a ta)(hb:PE X b tb):PE X (.IfExp c a b pos) (tIf tA ta tb):=by
 intro pins s σ H Q I h
 refine wpAny_IfExp (thn (hc pins s σ H _ I h) fun d s1 ⟨H1,I1,q1⟩=>?_)
 cases d with
 |true=>exact ha pins s1 σ H1 Q I1 q1
 |false=>exact hb pins s1 σ H1 Q I1 q1
end
def SqL (K:PySem.W.Frag)(H:Hp)(a:Addr)(xs:List V):Prop:=
 Rd H a (.lst xs)∨
  ∃(o:Obj) (its:Array Value) (n:Nat),K.lookup a=some o∧o.cls=.type "list"∧o.dict=none∧o.data=.seq its n∧its.size≤sizeLine∧Vals xs its.toList
def SqT (K:PySem.W.Frag)(H:Hp)(a:Addr)(xs:List V):Prop:=
 Rd H a (.tup xs)∨
  ∃(o:Obj) (its:Array Value) (n:Nat),K.lookup a=some o∧o.cls=.type "tuple"∧o.data=.seq its n∧its.size≤sizeLine∧Vals xs its.toList
def bO :Value→Option V
 |.none=>some .non
 |.bool b=>some (.bl b)
 |.int i _=>some (.int i)
 |.str x _=>some (.str x)
 |.bytes b _=>some (.byt b)
 |.float b _=>some (.flt b)
 |.ref a=>some (.ref a)
 |.type n=>some (.ty n)
 |_=>none
theorem RelV.abs {x:V}{u:Value}(r:RelV x u):bO u=some x:=by
 cases x with
 |non=>cases r;rfl
 |bl _=>cases r;rfl
 |int _=>obtain⟨t,rfl⟩:=r;rfl
 |str _=>obtain⟨t,rfl⟩:=r;rfl
 |byt _=>obtain⟨t,rfl⟩:=r;rfl
 |flt _=>obtain⟨t,rfl⟩:=r;rfl
 |ref _=>cases r;rfl
 |ty _=>cases r;rfl
theorem RelV.inj {x y:V}{u:Value}(r:RelV x u)(q:RelV y u):x=y:=aL (r.abs.symm.trans q.abs)
theorem Vals.inj :∀{xs ys:List V} {us:List Value},Vals xs us→Vals ys us→xs=ys
 |_,_,_,.nil,.nil=>rfl
 |_,_,_,.cons r t,.cons r' t'=>by rw[r.inj r',Vals.inj t t']
section
variable {X:Cx}{pins:List (Addr×Obj)}{σ:St}{H:Hp}{s:Shared}{a:Addr}{xs ys:List V}
theorem SqL.of {K:PySem.W.Frag}(h:H a=some (.lst xs)):SqL K H a xs:=.inl (.inl h)
theorem SqT.of {K:PySem.W.Frag}(h:H a=some (.tup xs)):SqT K H a xs:=.inl (.inl h)
theorem Inv.list (I:Inv X pins σ H s)(h:SqL X.K H a xs):∃its:List Value,Vals xs its∧PlainL s.heap a its.toArray∧xs.length≤sizeLine:=by
 rcases h with h|⟨o,its,n,hk,hc,hd,hs,hz,r⟩
 ·obtain⟨z,its,n,r,e⟩:=h.ok I.hok
  exact⟨its,r,⟨_,n,e,rfl,rfl,rfl⟩,z⟩
 ·refine⟨its.toList,r,⟨o,n,I.kIn a o hk,hc,hd,by simpa using hs⟩,?_⟩
  have e:=r.length
  simp only[zg6] at e
  omega
theorem Inv.tuple (I:Inv X pins σ H s)(h:SqT X.K H a xs):∃its:List Value,Vals xs its∧IsTup s.heap a its.toArray∧xs.length≤sizeLine:=by
 rcases h with h|⟨o,its,n,hk,hc,hs,hz,r⟩
 ·obtain⟨z,its,r,p⟩:=h.ok I.hok
  exact⟨its,r,p,z⟩
 ·refine⟨its.toList,r,⟨o,I.kIn a o hk,hc,n,by simpa using hs⟩,?_⟩
  have e:=r.length
  simp only[zg6] at e
  omega
theorem Inv.list_inj (I:Inv X pins σ H s)(h:SqL X.K H a xs)(h':SqL X.K H a ys):xs=ys:=by
 obtain⟨its,r,⟨o,n,e,_,_,d⟩,_⟩:=I.list h
 obtain⟨its',r',⟨o',n',e',_,_,d'⟩,_⟩:=I.list h'
 rw[e] at e';cases e'
 rw[d] at d'
 injection d' with d1 _
 have:its=its':=by simpa using congrArg Array.toList d1
 subst this
 exact r.inj r'
theorem Inv.tuple_inj (I:Inv X pins σ H s)(h:SqT X.K H a xs)(h':SqT X.K H a ys):xs=ys:=by
 obtain⟨its,r,⟨o,e,_,n,d⟩,_⟩:=I.tuple h
 obtain⟨its',r',⟨o',e',_,n',d'⟩,_⟩:=I.tuple h'
 rw[e] at e';cases e'
 rw[d] at d'
 injection d' with d1 _
 have:its=its':=by simpa using congrArg Array.toList d1
 subst this
 exact r.inj r'
end
abbrev Cx.wish (X:Cx)(E:Value→Shared→Prop):Cx:={X with xe:=E}
abbrev Cx.nox (X:Cx):Cx:=X.wish fun _ _=>False
theorem Cx.Ok.wish {X:Cx}(ok:X.Ok)(E:Value→Shared→Prop):(X.wish E).Ok:=
 ⟨ok.mod,ok.kind,ok.glob,ok.blt,ok.above,ok.inj,ok.has,ok.cab,ok.hd,ok.frames,ok.stk,ok.exf,ok.bs,ok.bsz,ok.noex,ok.exfs,ok.funs,ok.frf⟩
theorem Cx.Ok.unwish {X:Cx}{E:Value→Shared→Prop}(ok:(X.wish E).Ok):X.Ok:=
 ⟨ok.mod,ok.kind,ok.glob,ok.blt,ok.above,ok.inj,ok.has,ok.cab,ok.hd,ok.frames,ok.stk,ok.exf,ok.bs,ok.bsz,ok.noex,ok.exfs,ok.funs,ok.frf⟩
section
variable {X:Cx}{pins:List (Addr×Obj)}{σ:St}{H:Hp}{s:Shared}{E:Value→Shared→Prop}
theorem Inv.wish (I:Inv X pins σ H s)(E:Value→Shared→Prop):Inv (X.wish E) pins σ H s:=⟨I.ok.wish E,I.os,I.bare,I.base,I.loc,I.cell,I.free,I.freeC,I.pin,I.hok,I.len⟩
theorem Inv.unwish (I:Inv (X.wish E) pins σ H s):Inv X pins σ H s:=⟨I.ok.unwish,I.os,I.bare,I.base,I.loc,I.cell,I.free,I.freeC,I.pin,I.hok,I.len⟩
theorem SP.unwish {D:Ends}{f:Flow}{s':Shared}(h:SP (X.wish E) pins D f s'):SP X pins D f s':=by
 cases f with
 |next=>obtain⟨σ',H',I,q⟩:=h;exact⟨σ',H',I.unwish,q⟩
 |brk=>obtain⟨σ',H',I,q⟩:=h;exact⟨σ',H',I.unwish,q⟩
 |cont=>obtain⟨σ',H',I,q⟩:=h;exact⟨σ',H',I.unwish,q⟩
 |ret u=>obtain⟨v,σ',H',I,r,q⟩:=h;exact⟨v,σ',H',I.unwish,r,q⟩
theorem PSs.nox {st:List Stmt}{t:TS}(h:PSs X.nox st t):PSs X st t:=fun pins s σ H D I hw=>
 za7 (h pins s σ H D (I.wish _) hw) (fun _ _ q=>q.unwish) fun _ _ z=>False.elim z
end
section
variable {X:Cx}{st:Stmt}{rest:List Stmt}{t u:TS}{e:Expr}{te:TE}{pos:Pos}
def cM :TS:=fun D σ H=>D.nx σ H
def bb (t u:TS):TS:=fun D σ H=>t {D with nx:=u D} σ H
theorem ym :PSs X [] cM:=fun _ _ σ H _ I h=>wpAny_execs_nil ⟨σ,H,I,h⟩
theorem zG (h1:PS X st t)(h2:PSs X rest u):PSs X (st::rest) (bb t u):=by
 intro pins s σ H D I h
 refine wpAny_execs_cons (thn (h1 pins s σ H {D with nx:=u D} I h) fun f s1 q=>?_)
 cases f with
 |next=>
  obtain⟨σ',H',I',q⟩:=q
  exact h2 pins s1 σ' H' D I' q
 |ret v=>exact q
 |brk=>exact q
 |cont=>exact q
theorem zp (h1:PS X st t):PSs X [st] t:=by
 intro pins s σ H D I h
 refine wpAny_execs_cons (thn (h1 pins s σ H D I h) fun f s1 q=>?_)
 cases f with
 |next=>exact wpAny_execs_nil q
 |ret v=>exact q
 |brk=>exact q
 |cont=>exact q
theorem Inv.quiet {pins:List (Addr×Obj)}{σ:St}{H:Hp}{s:Shared}(I:Inv X pins σ H s):interactive X.env=false:=by simp[interactive,I.ok.kind]
def cJ (te:TE):TS:=fun D σ H=>te σ H fun _ H1=>D.nx σ H1
theorem ou (he:PE X e te)(hs:swapsWith e none pos.line X.env=pure false:=by rfl):PS X (.Expr e pos) (cJ te):=by
 intro pins s σ H D I h
 exact wpAny_Expr_any (thn (he pins s σ H _ I h) fun v s1 ⟨x,H1,I1,r1,q1⟩=>⟨σ,H1,I1,q1⟩) I.quiet hs
def bX (te:TE):TS:=fun D σ H=>te σ H D.rt
theorem zu (he:PE X e te):PS X (.Return (some e) pos) (bX te):=by
 intro pins s σ H D I h
 exact wpAny_Return_some (thn (he pins s σ H _ I h) fun v s1 ⟨x,H1,I1,r1,q1⟩=>⟨x,σ,H1,I1,r1,q1⟩)
def ae (c:TT)(t u:TS):TS:=fun D σ H=>c σ H fun b H1=>if b=true then t D σ H1 else u D σ H1
theorem xq {c:Expr}{a b:List Stmt}{tc:TT}(hc:PT X c tc)(ha:PSs X a t)(hb:PSs X b u):PS X (.If c a b pos) (ae tc t u):=by
 intro pins s σ H D I h
 refine wpAny_If (thn (hc pins s σ H _ I h) fun d s1 ⟨H1,I1,q1⟩=>?_)
 cases d with
 |true=>exact ha pins s1 σ H1 D I1 q1
 |false=>exact hb pins s1 σ H1 D I1 q1
end
abbrev TG :=V→St→Hp→(St→Hp→Prop)→Prop
abbrev TGs :=List V→St→Hp→(St→Hp→Prop)→Prop
def PG (X:Cx)(target:Expr)(t:TG):Prop:=
 ∀(pins:List (Addr×Obj)) (s:Shared) (σ:St) (H:Hp) (v:V) (u:Value) (Q:St→Hp→Prop),Inv X pins σ H s→RelV v u→t v σ H Q→
  wpAny (model X.prog X.w) X.A (assign target X.env u) (fun _ s'=>∃σ' H',Inv X pins σ' H' s'∧Q σ' H') X.xe s
def PGs (X:Cx)(ts:List Expr)(t:TGs):Prop:=
 ∀(pins:List (Addr×Obj)) (s:Shared) (σ:St) (H:Hp) (vs:List V) (us:List Value) (Q:St→Hp→Prop),Inv X pins σ H s→Vals vs us→t vs σ H Q→
  wpAny (model X.prog X.w) X.A (assignInOrder ((assignEach ts X.env).map (·.2)) us) (fun _ s'=>∃σ' H',Inv X pins σ' H' s'∧Q σ' H') X.xe s
abbrev ez :=V→V→V→Hp→(Hp→Prop)→Prop
def cQ (X:Cx)(t:ez):Prop:=
 ∀(pins:List (Addr×Obj)) (s:Shared) (σ:St) (H:Hp) (o i v:V) (ov iv u:Value) (Q:Hp→Prop),Inv X pins σ H s→RelV o ov→RelV i iv→RelV v u→t o i v H Q→
  wpAny (model X.prog X.w) X.A (setItem ov iv u) (fun _ s'=>∃H',Inv X pins σ H' s'∧Q H') X.xe s
section
variable {X:Cx}{pos:Pos}
def tf (i:Nat):TG:=fun v σ H Q=>Q (σ.set i (some v)) H
theorem zZ {i:Nat}{x:Str}(hN:X.N.Nodup)(hi:X.N[i]?=some x)(hx:Loc X.env.scope x)(hf:X.fn x=true∨X.env.scope.names.lookup x=some .local:=by first|exact .inl rfl|exact .inr rfl|assumption):PG X (.Name x pos) (tf i):=by
 intro pins s σ H v u Q I r h
 exact wpAny_assign_Name (qh I hN hi hx r (fun s' I'=>⟨_,H,I',h⟩) hf)
def cb :TGs:=fun vs σ H Q=>vs=[]∧Q σ H
def gS (t:TG)(u:TGs):TGs:=fun vs σ H Q=>∃v r,vs=v::r∧t v σ H fun σ' H'=>u r σ' H' Q
theorem ve :PGs X [] cb:=by
 intro pins s σ H vs us Q I r h
 obtain⟨e,h⟩:=h
 subst e
 cases r
 exact assignInOrder_nil ⟨σ,H,I,h⟩
theorem yr {e:Expr}{es:List Expr}{t:TG}{u:TGs}(h1:PG X e t)(h2:PGs X es u)
  (hs:(assignEach (e::es) X.env).map (·.2)=assign e X.env::(assignEach es X.env).map (·.2):=by rfl):PGs X (e::es) (gS t u):=by
 intro pins s σ H vs us Q I r h
 obtain⟨v,vr,e1,h⟩:=h
 subst e1
 cases r with
 |cons r rr=>
  rw[hs]
  refine assignInOrder_cons (thn (h1 pins s σ H _ _ _ I r h) fun _ s1 ⟨σ1,H1,I1,q1⟩=>?_)
  exact h2 pins s1 σ1 H1 _ _ Q I1 rr q1
def eW (K:PySem.W.Frag)(n:Nat)(t:TGs):TG:=fun v σ H Q=>∃a xs,v=.ref a∧SqT K H a xs∧xs.length=n∧t xs σ H Q
theorem en {es:List Expr}{k:Nat}{t:TGs}{n:Nat}(hc:X.calm=true)(h:PGs X es t)
  (hn:(assignEach es X.env).length=n:=by rfl) (hst:(assignEach es X.env).findIdx? (·.1)=none:=by rfl):PG X (.Tuple es k pos) (eW X.K n t):=by
 intro pins s σ H v u Q I r hw
 obtain⟨a,xs,e1,hq,hl,hw⟩:=hw
 subst e1
 cases r
 obtain⟨its,rv,ht,hz⟩:=I.tuple hq
 refine assign_Tuple_tuple (I.ok.hd hc) ht (by simp[hn,←hl,rv.length]) hst fun h' hx=>?_
 have I1:Inv X pins σ H {s with heap:=h'}:=I.kept (t':=s.toks) fun b o e=>hx b o (aX (aF e)) e
 exact h pins _ σ H xs _ Q I1 (by simpa using rv) hw
def cu (to ti:TE)(t:ez):TG:=fun v σ H Q=>to σ H fun o H1=>ti σ H1 fun i H2=>t o i v H2 fun H3=>Q σ H3
theorem qN {o i:Expr}{to ti:TE}{t:ez}(ho:PE X o to)(hi:PE X i ti)(hs:cQ X t)
  (ha:∀v,assign (.Subscript o i pos) X.env v=(do
   let ov ←holding [v] (eval o X.env)
   let iv ←holding [v,ov] (eval i X.env)
   standAt pos
   holding [v,ov,iv] (setItem ov iv v)
   release [v,ov,iv] []):=by intro _;rfl):PG X (.Subscript o i pos) (cu to ti t):=by
 intro pins s σ H v u Q I r h
 rw[ha]
 refine za1 (wpAny_holding (thn (ho pins s σ H _ I h) fun ov s1 ⟨x,H1,I1,r1,q1⟩=>?_))
 refine za1 (wpAny_holding (thn (hi pins s1 σ H1 _ I1 q1) fun iv s2 ⟨y,H2,I2,r2,q2⟩=>?_))
 refine za1 (wpAny_standAt (za1 (wpAny_holding (thn (hs pins s2 σ H2 x y v ov iv u _ I2 r1 r2 r q2) fun _ s3 ⟨H3,I3,q3⟩=>?_))))
 exact wpAny_release ⟨σ,H3,I3,q3⟩
def dG (te:TE)(g:TG):TS:=fun D σ H=>te σ H fun x H1=>g x σ H1 D.nx
theorem sJ {tg e:Expr}{te:TE}{g:TG}(he:PE X e te)(hg:PG X tg g)(hs:swapsWithSole [tg] e pos.line X.env=pure false:=by rfl)(hw:swappedStores [tg] e X.env=pure none:=by rfl)
  (h1:(assignEach [tg] X.env).map (·.2)=[assign tg X.env]:=by rfl):PS X (.Assign [tg] e pos) (dG te g):=by
 intro pins s σ H D I h
 refine wpAny_Assign_stores (thn (he pins s σ H _ I h) fun v s1 ⟨x,H1,I1,r1,q1⟩=>?_) hs hw
 rw[h1]
 exact thn (hg pins s1 σ H1 x v _ I1 r1 q1) fun _ s2 q=>q
theorem uD {i:Nat}{x:Str}{e:Expr}{te:TE}{pos':Pos}(hN:X.N.Nodup)(hi:X.N[i]?=some x)(hx:Loc X.env.scope x)(he:PE X e te)(hs:swapsWith e (some (.Name x pos')) pos.line X.env=pure false:=by rfl)(hf:X.fn x=true∨X.env.scope.names.lookup x=some .local:=by first|exact .inl rfl|exact .inr rfl|assumption):
  PS X (.Assign [.Name x pos'] e pos) (dG te (tf i)):=by
 intro pins s σ H D I h
 refine wpAny_Assign_Name (thn (he pins s σ H _ I h) fun v s1 ⟨y,H1,I1,r1,q1⟩=>?_) hs
 exact qh I1 hN hi hx r1 (fun s2 I2=>⟨_,H1,I2,q1⟩) hf
end
section
variable {X:Cx}{pos:Pos}
end
structure It where
 go:Nat→Hp→Prop
 yld:Nat→Hp→V→Hp→Prop
 stop:Nat→Hp→Prop
def vk (X:Cx)(pins:List (Addr×Obj))(H:Hp)(b:Addr):Prop:=
 H b=none∧b≠X.env.locals∧b∉X.fs∧(b∈X.ex∨X.s₀.heap.objs.size≤b)∧(∀x c,X.env.cells.lookup x=some c→c≠b)∧∀p∈X.pn++pins,p.1≠b
theorem Inv.fpOk {X:Cx}{pins:List (Addr×Obj)}{σ:St}{H H':Hp}{s:Shared}{b:Addr}(I:Inv X pins σ H s)(hb:s.heap.objs.size≤b)(hn:H' b=none):vk X pins H' b:=by
 refine⟨hn,Nat.ne_of_gt (aR I.lt hb),I.nofs hb,.inr (aP I.sz hb),fun x c e z=>?_,fun p hp z=>?_⟩
 ·obtain⟨v,q⟩:=I.cell x c e
  exact absurd (aR q.lt (by rw[z];exact hb)) (zd3 _)
 ·exact absurd (aR (aF (I.pin p hp).1) (by rw[z];exact hb)) (zd3 _)
structure Turn (P:Program)(w:World)(K:PySem.W.Frag)(tg:Expr)(J:It)(fp:List Addr)(it:Addr)(tn:Nat→Heap→Prop):Prop where
 mem:it∈fp
 obj:∀i h,tn i h→∀b∈fp,∃o,h.get? b=some o∧∀v,o.data≠.cell v
 keep:∀i h h',tn i h→(∀b∈fp,∀o,h.get? b=some o→h'.get? b=some o)→tn i h'
 item:∀(X:Cx),X.prog=P→X.w=w→X.K=K→X.calm=true→∀(i:Nat) (pins:List (Addr×Obj)) (s:Shared) (σ:St) (H:Hp) (E:Value→Shared→Prop),Inv X pins σ H s→(∀b∈fp,vk X pins H b)→tn i s.heap→J.go i H→
  wpAny (model P w) X.A (pyNext (.ref it)) (fun r s1=>∃u,r=some u∧
   wpAny (model P w) X.A (letOwnedTupleGo tg (.ref it) u) (fun _ s2=>∃x H',Inv X pins σ H' s2∧RelV x u∧J.yld i H x H'∧tn (i+1) s2.heap∧∀b∈fp,H' b=none) E s1) E s
 done:∀(X:Cx),X.prog=P→X.w=w→X.K=K→X.calm=true→∀(i:Nat) (pins:List (Addr×Obj)) (s:Shared) (σ:St) (H:Hp) (E:Value→Shared→Prop),Inv X pins σ H s→(∀b∈fp,vk X pins H b)→tn i s.heap→J.stop i H→
  wpAny (model P w) X.A (pyNext (.ref it)) (fun r s1=>r=none∧Inv X pins σ H s1) E s
 self:∀(A:Around) (i:Nat) (s:Shared) (Q:Value→Shared→Prop) (E:Value→Shared→Prop),tn i s.heap→Q (.ref it) s→wpAny (model P w) A (pyIter (.ref it)) Q E s
abbrev TI :=St→Hp→(It→Hp→Prop)→Prop
def PIE (X:Cx)(pins:List (Addr×Obj))(σ:St)(tg:Expr)(R:It→Hp→Prop)(itv:Value)(s2:Shared):Prop:=
 ∃(it:Addr) (fp:List Addr) (tn:Nat→Heap→Prop) (J:It) (H':Hp),itv=.ref it∧Inv X pins σ H' s2∧Turn X.prog X.w X.K tg J fp it tn∧tn 0 s2.heap∧(∀b∈fp,vk X pins H' b)∧R J H'
def PI (X:Cx)(tg iter:Expr)(wi:TI):Prop:=
 ∀(pins:List (Addr×Obj)) (s:Shared) (σ:St) (H:Hp) (R:It→Hp→Prop),Inv X pins σ H s→wi σ H R→
  wpAny (model X.prog X.w) X.A (eval iter X.env) (fun v s1=>wpAny (model X.prog X.w) X.A (pyIter v) (PIE X pins σ tg R) X.xe s1) X.xe s
theorem pZ {M:Model}{A:Around}{E:Value→Shared→Prop}{s:Shared}{tg:Expr}{it:Addr}{u:Value}{o:Obj}{n:String}{vs:Array Value}{Q:Unit→Shared→Prop}(ho:s.heap.get? it=some o)(hc:o.cls=.type n)(hd:o.data=.fields vs)
  (hn:["enumerate","zip","dict_itemiterator","dict_reverseitemiterator","odict_iterator","itertools.zip_longest","itertools.pairwise"].contains n=false) (hQ:Q () s):wpAny M A (letOwnedTupleGo tg (.ref it) u) Q E s:=by
 unfold letOwnedTupleGo
 cases tg<;>first
  |exact zb3 hQ
  |(cases u<;>first
    |exact zb3 hQ
    |(refine za1 (wpAny_load ho ?_)
      rw[hc,hd]
      show wpAny M A (if (["enumerate","zip","dict_itemiterator","dict_reverseitemiterator","odict_iterator","itertools.zip_longest","itertools.pairwise"].contains n&&vs[0]? == some (rawInt _))=true then _ else _) Q E s
      rw[if_neg (by intro h;rw[hn,zc5] at h;cases h)]
      exact zb3 hQ))
def Itl (K:PySem.W.Frag)(a:Addr):It:=
 ⟨fun i H=>∃xs x,SqL K H a xs∧xs[i]?=some x,fun i H x H'=>H'=H∧∀xs,SqL K H a xs→xs[i]?=some x,fun i H=>∃xs,SqL K H a xs∧xs.length≤i⟩
def Itt (K:PySem.W.Frag)(a:Addr):It:=
 ⟨fun i H=>∃xs x,SqT K H a xs∧xs[i]?=some x,fun i H x H'=>H'=H∧∀xs,SqT K H a xs→xs[i]?=some x,fun i H=>∃xs,SqT K H a xs∧xs.length≤i⟩
def Itr (lo:Int)(n:Nat):It:=⟨fun i _=>i<n,fun i H x H'=>H'=H∧x=.int (lo+i),fun i _=>n≤i⟩
theorem nM {P:Program}{w:World}{K:PySem.W.Frag}{tg:Expr}(a it:Addr):Turn P w K tg (Itl K a) [it] it (fun i h=>h.IsListIter it a i) where
 mem:=by simp
 obj:=fun i h st b hb=>by
  have e:b=it:=by simpa using hb
  subst e
  obtain⟨o,e,c,d⟩:=st
  exact⟨o,e,fun v z=>by rw[d] at z;cases z⟩
 keep:=fun i h h' st k=>st.at fun o e=>k it (by simp) o e
 item:=by
  intro X hP hw hK hc i pins s σ H E I hf st hg
  subst hP hw hK
  obtain⟨xs,x,hq,hx⟩:=hg
  obtain⟨its,rv,p,hz⟩:=I.list hq
  obtain⟨u,hu,ru⟩:=rv.get hx
  obtain⟨f0,f1,f2,f3,f4,f5⟩:=hf it (by simp)
  refine wpAny_pyNext_list_item st p.isList (x:=u) (by simpa using hu) fun h' st' sb=>?_
  have I1:Inv X pins σ H {s with heap:=h'}:=I.turned (t':=s.toks) (fun b o hb e=>(sb.2 b hb).trans e) f0 f1 f3 f4 f5
  obtain⟨o,e,c,d⟩:=id st'
  exact⟨u,rfl,pZ (s:={s with heap:=h'}) e c d (by decide) ⟨x,H,I1,ru,⟨rfl,fun ys hy=>by rw[I.list_inj hy hq];exact hx⟩,st',fun b hb=>(hf b hb).1⟩⟩
 done:=by
  intro X hP hw hK hc i pins s σ H E I hf st hg
  subst hP hw hK
  obtain⟨xs,hq,hx⟩:=hg
  obtain⟨its,rv,p,hz⟩:=I.list hq
  obtain⟨f0,f1,f2,f3,f4,f5⟩:=hf it (by simp)
  have hl:=rv.length
  exact wpAny_pyNext_list_end (I.ok.hd hc) st p.isList (by simp;omega) fun h' eb=>⟨rfl,I.turned (t':=s.toks) (fun b o hb e=>eb b o hb e) f0 f1 f3 f4 f5⟩
 self:=fun _ _ _ _ _ st h=>wpAny_pyIter_listiter st h
theorem pC {P:Program}{w:World}{K:PySem.W.Frag}{tg:Expr}(a it:Addr):Turn P w K tg (Itt K a) [it] it (fun i h=>h.IsTupleIter it a i) where
 mem:=by simp
 obj:=fun i h st b hb=>by
  have e:b=it:=by simpa using hb
  subst e
  obtain⟨o,e,c,d⟩:=st
  exact⟨o,e,fun v z=>by rw[d] at z;cases z⟩
 keep:=fun i h h' st k=>st.at fun o e=>k it (by simp) o e
 item:=by
  intro X hP hw hK hc i pins s σ H E I hf st hg
  subst hP hw hK
  obtain⟨xs,x,hq,hx⟩:=hg
  obtain⟨its,rv,p,hz⟩:=I.tuple hq
  obtain⟨u,hu,ru⟩:=rv.get hx
  obtain⟨f0,f1,f2,f3,f4,f5⟩:=hf it (by simp)
  refine wpAny_pyNext_tuple_item st (show s.heap.IsTuple a its.toArray from p) (x:=u) (by simpa using hu) fun h' st' sb=>?_
  have I1:Inv X pins σ H {s with heap:=h'}:=I.turned (t':=s.toks) (fun b o hb e=>(sb.2 b hb).trans e) f0 f1 f3 f4 f5
  obtain⟨o,e,c,d⟩:=id st'
  exact⟨u,rfl,pZ (s:={s with heap:=h'}) e c d (by decide) ⟨x,H,I1,ru,⟨rfl,fun ys hy=>by rw[I.tuple_inj hy hq];exact hx⟩,st',fun b hb=>(hf b hb).1⟩⟩
 done:=by
  intro X hP hw hK hc i pins s σ H E I hf st hg
  subst hP hw hK
  obtain⟨xs,hq,hx⟩:=hg
  obtain⟨its,rv,p,hz⟩:=I.tuple hq
  obtain⟨f0,f1,f2,f3,f4,f5⟩:=hf it (by simp)
  have hl:=rv.length
  exact wpAny_pyNext_tuple_end (I.ok.hd hc) st (show s.heap.IsTuple a its.toArray from p) (by simp;omega) fun h' eb=>⟨rfl,I.turned (t':=s.toks) (fun b o hb e=>eb b o hb e) f0 f1 f3 f4 f5⟩
 self:=fun _ _ _ _ _ st h=>wpAny_pyIter_tupleiter st h
theorem pI {P:Program}{w:World}{K:PySem.W.Frag}{tg:Expr}(it:Addr)(lo:Int)(n:Nat):Turn P w K tg (Itr lo n) [it] it (fun i h=>IsRangeIter h it (lo+(i:Nat)*1) ((n:Int)-(i:Nat)) 1) where
 mem:=by simp
 obj:=fun i h st b hb=>by
  have e:b=it:=by simpa using hb
  subst e
  exact⟨_,st,fun v z=>by
   have z':Data.fields _=Data.cell v:=z
   cases z'⟩
 keep:=fun i h h' st k=>k it (by simp) _ st
 item:=by
  intro X hP hw hK hc i pins s σ H E I hf st hg
  subst hP hw hK
  obtain⟨f0,f1,f2,f3,f4,f5⟩:=hf it (by simp)
  have W:=Walks.range (prog:=X.prog) (w:=X.w) (I.ok.hd hc) it lo 1 n
  refine W.item i s _ _ hg st fun v h' tk hv st' kk=>?_
  obtain⟨t,rfl⟩:=hv
  have I1:Inv X pins σ H {s with heap:=h',toks:=tk}:=I.turned (fun b o hb e=>kk b o (by simpa using hb) e) f0 f1 f3 f4 f5
  refine⟨_,rfl,pZ (s:={s with heap:=h',toks:=tk}) (n:="range_iterator") st' rfl rfl (by decide) ⟨.int (lo+i),H,I1,⟨t,?_⟩,⟨rfl,rfl⟩,st',fun b hb=>(hf b hb).1⟩⟩
  rw[Int.mul_one]
 done:=by
  intro X hP hw hK hc i pins s σ H E I hf st hg
  subst hP hw hK
  obtain⟨f0,f1,f2,f3,f4,f5⟩:=hf it (by simp)
  exact wpAny_pyNext_range_end (I.ok.hd hc) st (by have:n≤i:=hg;omega) fun h' eb=>⟨rfl,I.turned (t':=s.toks) (fun b o hb e=>eb b o hb e) f0 f1 f3 f4 f5⟩
 self:=fun _ _ _ _ _ st h=>wpAny_pyIter_rangeiter st h
section
variable {X:Cx}{tg:Expr}
def cS (K:PySem.W.Frag)(tl:TE):TI:=fun σ H R=>tl σ H fun x H1=>∃a,x=.ref a∧(∃xs,SqL K H1 a xs)∧R (Itl K a) H1
def aj (K:PySem.W.Frag)(tl:TE):TI:=fun σ H R=>tl σ H fun x H1=>∃a,x=.ref a∧(∃xs,SqT K H1 a xs)∧R (Itt K a) H1
theorem gh {l:Expr}{tl:TE}(hl:PE X l tl):PI X tg l (cS X.K tl):=by
 intro pins s σ H R I h
 refine thn (hl pins s σ H _ I h) fun v s1 ⟨x,H1,I1,r1,q1⟩=>?_
 obtain⟨a,e,⟨xs,hq⟩,q⟩:=q1
 subst e
 cases r1
 obtain⟨its,rv,p,hz⟩:=I1.list hq
 refine wpAny_pyIter_list p.isList ?_
 refine⟨s1.heap.objs.size,[s1.heap.objs.size],_,_,H1,rfl,I1.kept (t':=s1.toks) fun b o e=>aG _ e,nM a _,⟨_,za2 _ rfl,rfl,rfl⟩,fun b hb=>?_,q⟩
 have e:b=s1.heap.objs.size:=by simpa using hb
 subst e
 exact I1.fpOk (aC _) (I1.hok.fresh (aC _))
theorem fw {l:Expr}{tl:TE}(hl:PE X l tl):PI X tg l (aj X.K tl):=by
 intro pins s σ H R I h
 refine thn (hl pins s σ H _ I h) fun v s1 ⟨x,H1,I1,r1,q1⟩=>?_
 obtain⟨a,e,⟨xs,hq⟩,q⟩:=q1
 subst e
 cases r1
 obtain⟨its,rv,p,hz⟩:=I1.tuple hq
 refine wpAny_pyIter_tuple (show s1.heap.IsTuple a its.toArray from p) ?_
 refine⟨s1.heap.objs.size,[s1.heap.objs.size],_,_,H1,rfl,I1.kept (t':=s1.toks) fun b o e=>aG _ e,pC a _,⟨_,za2 _ rfl,rfl,rfl⟩,fun b hb=>?_,q⟩
 have e:b=s1.heap.objs.size:=by simpa using hb
 subst e
 exact I1.fpOk (aC _) (I1.hok.fresh (aC _))
theorem mN {pins:List (Addr×Obj)}{σ:St}{H:Hp}{s:Shared}{R:It→Hp→Prop}{E:Value→Shared→Prop}{lo hi:Int}{t u v:Tok}{tk:Nat}(I:Inv X pins σ H s)(h1:-(2 ^ 62)≤lo)(h2:lo<2 ^ 62)(h3:-(2 ^ 62)≤hi)(h4:hi<2 ^ 62)
  (q:R (Itr lo (hi-lo).toNat) H):wpAny (model X.prog X.w) X.A (pyIter (.ref s.heap.objs.size)) (PIE X pins σ tg R) E {s with heap:=s.heap.push {cls:=.type "range",data:=.fields #[.int lo t,.int hi u,.int 1 v]},toks:=tk}:=by
 refine wpAny_pyIter_range (IsRange.new ..) (small_one h1 h2 h3 h4) ?_
 have I1:Inv X pins σ H {s with heap:=s.heap.push {cls:=.type "range",data:=.fields #[.int lo t,.int hi u,.int 1 v]},toks:=tk}:=I.kept fun b o e=>aG _ e
 refine⟨(s.heap.push {cls:=.type "range",data:=.fields #[.int lo t,.int hi u,.int 1 v]}).objs.size,[(s.heap.push {cls:=.type "range",data:=.fields #[.int lo t,.int hi u,.int 1 v]}).objs.size],_,_,H,rfl,
  I1.kept (t':=tk) fun b o e=>aG _ e,pI _ lo (hi-lo).toNat,?_,fun b hb=>?_,q⟩
 ·have e1:lo+((0:Nat):Int)*1=lo:=by simp
  have e2:(((hi-lo).toNat:Nat):Int)-((0:Nat):Int)=Builtin.Range.rangeSize lo hi 1:=by rw[rangeSize_one];split<;>omega
  show IsRangeIter _ _ (lo+((0:Nat):Int)*1) ((((hi-lo).toNat:Nat):Int)-((0:Nat):Int)) 1
  rw[e1,e2]
  exact za2 _ rfl
 ·have e:b=(s.heap.push {cls:=.type "range",data:=.fields #[.int lo t,.int hi u,.int 1 v]}).objs.size:=by simpa using hb
  subst e
  exact I1.fpOk (aC _) (I1.hok.fresh (aC _))
def dX (ta:TA):TI:=fun σ H R=>ta σ H fun vs H1=>∃j:Int,vs=[.int j]∧-(2 ^ 62)≤j∧j<2 ^ 62∧R (Itr 0 j.toNat) H1
theorem nD {a:Expr}{ta:TA}{p pos:Pos}(hg:Gl X "range")(hm:X.mg "range"=none)(ha:PA X [a] ta)(hs:starEach [a] X.env=[(false,eval a X.env)]:=by rfl):PI X tg (.Call (.Name "range" p) [a] [] pos) (dX ta):=by
 intro pins s σ H R I h
 refine Call_ (uE I hg hm boot_range (ze0 (thn (ha pos pins s σ H _ I h) fun us s1 ⟨vs,H1,I1,r1,q1⟩=>?_) hs rfl))
 obtain⟨j,e,q1,q2,q⟩:=q1
 subst e
 cases r1 with
 |cons r rr=>
  cases rr
  obtain⟨t,rfl⟩:=r
  exact call_range_1 (mN I1 (by omega) (by omega) q1 q2 (by simpa using q))
def bH (wi:TI)(g:TG)(tb:TS):TS:=fun D σ H=>wi σ H fun J H1=>∃W:Nat→Nat→St→Hp→Prop,(∃m,W 0 m σ H1)∧∀i m σ H,W i m σ H→
 (J.stop i H∧D.nx σ H)∨(J.go i H∧∃N:St→Hp→Prop,(∀σ' H',N σ' H'→∃m',m'<m∧W (i+1) m' σ' H')∧∀x H',J.yld i H x H'→g x σ H' fun σ2 H2=>tb {D with nx:=N,ct:=N,bk:=D.nx} σ2 H2)
def ug (fp:List Addr)(h:Heap):List (Addr×Obj):=fp.filterMap fun b=>(h.get? b).map fun o=>(b,o)
theorem xC {fp:List Addr}{h:Heap}{b:Addr}{o:Obj}(hb:b∈fp)(e:h.get? b=some o):(b,o)∈ug fp h:=List.mem_filterMap.mpr ⟨b,hb,by rw[e];rfl⟩
theorem mi {fp:List Addr}{h:Heap}{p:Addr×Obj}(hp:p∈ug fp h):p.1∈fp∧h.get? p.1=some p.2:=by
 obtain⟨b,hb,e⟩:=List.mem_filterMap.mp hp
 cases q:h.get? b with
 |none=>rw[q] at e;cases e
 |some o=>
  rw[q] at e
  have e':(b,o)=p:=aL e
  subst e'
  exact⟨hb,q⟩
theorem Inv.pinned {pins:List (Addr×Obj)}{σ:St}{H:Hp}{s:Shared}{fp:List Addr}(I:Inv X pins σ H s)(hf:∀b∈fp,vk X pins H b)(ho:∀b∈fp,∃o,s.heap.get? b=some o∧∀v,o.data≠.cell v):Inv X (pins++ug fp s.heap) σ H s:=
 I.pins_of fun p hp=>(zb8.mp hp).elim (fun z=>I.pin p (aV _ z)) fun z=>by
  obtain⟨hb,e⟩:=mi z
  obtain⟨f0,f1,f2,_⟩:=hf p.1 hb
  obtain⟨o,e',d⟩:=ho p.1 hb
  rw[e] at e';cases e'
  exact⟨e,f0,f1,f2,d⟩
theorem Inv.unpinned {pins pl:List (Addr×Obj)}{σ:St}{H:Hp}{s:Shared}(I:Inv X (pins++pl) σ H s):Inv X pins σ H s:=I.pins_of fun p hp=>I.pin p (aV _ (List.mem_append_left _ hp))
theorem eX {iter:Expr}{body:List Stmt}{wi:TI}{g:TG}{tb:TS}{pos:Pos}(hp:PassesOwn (model X.prog X.w) X.A X.env X.xe)(hc:X.calm=true)(hi:PI X tg iter wi)(hg:PG X tg g)(hb:PSs X body tb)
  (hs:∀x,foldedSetIterable iter X.env x=pure x:=by intro _;rfl):PS X (.For tg iter body [] pos) (bH wi g tb):=by
 intro pins s σ H D I h
 refine wpAny_For (thn (hi pins s σ H _ I h) fun v s1 h1=>thn h1 fun itv s2 h2=>?_) hs
 obtain⟨it,fp,tn,J,H2,e,I2,T,st2,f2,W,⟨m0,w0⟩,turn⟩:=h2
 subst e
 -- what stays true of the iterator's objects through the loop
 have stat:∀{H':Hp},(∀b∈fp,H' b=none)→∀b∈fp,vk X pins H' b:=fun hn b hb=>⟨hn b hb,(f2 b hb).2⟩
 refine codeAny_forLoop_any (fun n s'=>∃i σ' H',Inv X pins σ' H' s'∧tn i s'.heap∧(∀b∈fp,H' b=none)∧W i n σ' H') ?_ m0 ⟨0,σ,H2,I2,st2,fun b hb=>(f2 b hb).1,w0⟩
 rintro n s3 ⟨i,σ3,H3,I3,st3,fr3,w3⟩
 rcases turn i n σ3 H3 w3 with ⟨stop,qn⟩|⟨go,N,hN,step⟩
 ·refine ze3 hp (thn (T.done X rfl rfl rfl hc i pins s3 σ3 H3 X.xe I3 (stat fr3) st3 stop) fun r s4 ⟨hr,I4⟩=>?_)
  subst hr
  exact wpAny_execs_nil ⟨σ3,H3,I4,qn⟩
 ·refine ze3 hp (thn (T.item X rfl rfl rfl hc i pins s3 σ3 H3 X.xe I3 (stat fr3) st3 go) fun r s4 ⟨u,hr,h4⟩=>?_)
  subst hr
  refine ze3 hp (thn h4 fun _ s5 ⟨x,H5,I5,r5,y5,st5,fr5⟩=>?_)
  have I5':=I5.pinned (stat fr5) (T.obj _ _ st5)
  refine ze3 hp (thn (hg _ s5 σ3 H5 x u _ I5' r5 (step x H5 y5)) fun _ s6 ⟨σ6,H6,I6,q6⟩=>?_)
  refine ze3 hp (thn (hb _ s6 σ6 H6 _ I6 q6) fun f s7 q7=>?_)
  have again:∀{σ7:St} {H7:Hp},Inv X (pins++ug fp s5.heap) σ7 H7 s7→N σ7 H7→∃m,m<n∧∃i σ' H',Inv X pins σ' H' s7∧tn i s7.heap∧(∀b∈fp,H' b=none)∧W i m σ' H':=fun {σ7 H7} I7 n7=>by
   obtain⟨m',hm,w7⟩:=hN σ7 H7 n7
   refine⟨m',hm,i+1,σ7,H7,I7.unpinned,T.keep _ _ _ st5 fun b hb o e=>(I7.pin (b,o) (aV _ (aV _ (xC hb e)))).1,fun b hb=>?_,w7⟩
   obtain⟨o,e,d⟩:=T.obj _ _ st5 b hb
   exact (I7.pin (b,o) (aV _ (aV _ (xC hb e)))).2.1
  cases f with
  |next=>obtain⟨σ7,H7,I7,n7⟩:=q7;exact again I7 n7
  |cont=>obtain⟨σ7,H7,I7,n7⟩:=q7;exact again I7 n7
  |brk=>obtain⟨σ7,H7,I7,q7⟩:=q7;exact⟨σ7,H7,I7.unpinned,q7⟩
  |ret v=>obtain⟨x7,σ7,H7,I7,r7,q7⟩:=q7;exact⟨x7,σ7,H7,I7.unpinned,r7,q7⟩
end
abbrev R2 :=V→V→Hp→VK→Prop
def OpR (X:Cx)(f:Value→Value→Sem Value)(r:R2):Prop:=
 ∀(pins:List (Addr×Obj)) (s:Shared) (σ:St) (H:Hp) (x y:V) (v u:Value) (Q:VK),Inv X pins σ H s→RelV x v→RelV y u→r x y H Q→
  wpAny (model X.prog X.w) X.A (f v u) (EP X pins σ Q) X.xe s
def UnR (X:Cx)(f:Value→Sem Value)(r:V→Hp→VK→Prop):Prop:=
 ∀(pins:List (Addr×Obj)) (s:Shared) (σ:St) (H:Hp) (x:V) (v:Value) (Q:VK),Inv X pins σ H s→RelV x v→r x H Q→
  wpAny (model X.prog X.w) X.A (f v) (EP X pins σ Q) X.xe s
def yN (X:Cx)(f:Value)(r:List V→Hp→VK→Prop):Prop:=
 ∀(pins:List (Addr×Obj)) (s:Shared) (σ:St) (H:Hp) (xs:List V) (us:List Value) (Q:VK),Inv X pins σ H s→Vals xs us→r xs H Q→
  wpAny (model X.prog X.w) X.A (call f us) (EP X pins σ Q) X.xe s
def aq (X:Cx)(r:V→Hp→(Bool→Hp→Prop)→Prop):Prop:=
 ∀(pins:List (Addr×Obj)) (s:Shared) (σ:St) (H:Hp) (x:V) (v:Value) (Q:Bool→Hp→Prop),Inv X pins σ H s→RelV x v→r x H Q→
  wpAny (model X.prog X.w) X.A (truthy v) (TP X pins σ Q) X.xe s
def tOp (r:R2)(ta tb:TE):TE:=fun σ H Q=>ta σ H fun x H1=>tb σ H1 fun y H2=>r x y H2 Q
def tUn (r:V→Hp→VK→Prop)(ta:TE):TE:=fun σ H Q=>ta σ H fun x H1=>r x H1 Q
def rI (C:Int→Int→Prop)(g:Int→Int→V):R2:=fun x y H Q=>∃i j,x=.int i∧y=.int j∧C i j∧Q (g i j) H
def rI0 (g:Int→Int→V):R2:=fun x y H Q=>∃i j,x=.int i∧y=.int j∧Q (g i j) H
def rU (g:Int→V):V→Hp→VK→Prop:=fun x H Q=>∃i,x=.int i∧Q (g i) H
section
variable {X:Cx}{a b c:Expr}{ta tb tc:TE}{pos:Pos}
theorem dC (ha:PE X a ta)(hb:PE X b tb){pins:List (Addr×Obj)}{s:Shared}{σ:St}{H:Hp}{R:V→V→Hp→Prop}(I:Inv X pins σ H s)
  (h:ta σ H fun x H1=>tb σ H1 fun y H2=>R x y H2) {Q:Value→Shared→Prop} {f:Value→Value→Sem Value}
  (hf:∀v u s2 x y H2,Inv X pins σ H2 s2→RelV x v→RelV y u→R x y H2→wpAny (model X.prog X.w) X.A (f v u) Q X.xe s2):
  wpAny (model X.prog X.w) X.A (eval a X.env) (fun v s₁=>wpAny (model X.prog X.w) X.A (eval b X.env) (fun u s₂=>wpAny (model X.prog X.w) X.A (f v u) Q X.xe s₂) X.xe s₁) X.xe s:=by
 refine thn (ha pins s σ H _ I h) fun v s1 ⟨x,H1,I1,r1,q1⟩=>?_
 refine thn (hb pins s1 σ H1 _ I1 q1) fun u s2 ⟨y,H2,I2,r2,q2⟩=>?_
 exact hf v u s2 x y H2 I2 r1 r2 q2
theorem yL {op:Operator}{r:R2}(ho:OpR X (binaryOp op) r)(ha:PE X a ta)(hb:PE X b tb):PE X (.BinOp a op b pos) (tOp r ta tb):=by
 intro pins s σ H Q I h
 exact wpAny_BinOp (dC ha hb I h fun v u s2 x y H2 I2 rx ry q=>ho pins s2 σ H2 x y v u Q I2 rx ry q)
theorem cE {op:UnaryOp}{r:V→Hp→VK→Prop}(ho:UnR X (unaryOp op) r)(ha:PE X a ta):PE X (.UnaryOp op a pos) (tUn r ta):=by
 intro pins s σ H Q I h
 exact UnaryOp_ (thn (ha pins s σ H _ I h) fun v s1 ⟨x,H1,I1,r1,q1⟩=>ho pins s1 σ H1 x v Q I1 r1 q1)
theorem opI {f:Value→Value→Sem Value}{C:Int→Int→Prop}{g:Int→Int→Int}
  (rule:∀(i j:Int) (t u:Tok) (s:Shared) (Q:Value→Shared→Prop) (E:Value→Shared→Prop),C i j→Q (.int (g i j) s.toks) {s with toks:=s.toks+1}→wpAny (model X.prog X.w) X.A (f (.int i t) (.int j u)) Q E s):
  OpR X f (rI C fun i j=>.int (g i j)):=by
 intro pins s σ H x y v u Q I rx ry h
 obtain⟨i,j,rfl,rfl,hc,q⟩:=h
 obtain⟨t,rfl⟩:=rx
 obtain⟨t',rfl⟩:=ry
 exact rule i j t t' s _ _ hc ⟨.int (g i j),H,I.tok _,⟨_,rfl⟩,q⟩
theorem cc {f:Value→Value→Sem Value}{g:Int→Int→Int}
  (rule:∀(i j:Int) (t u:Tok) (s:Shared) (Q:Value→Shared→Prop) (E:Value→Shared→Prop),Q (.int (g i j) s.toks) {s with toks:=s.toks+1}→wpAny (model X.prog X.w) X.A (f (.int i t) (.int j u)) Q E s):
  OpR X f (rI0 fun i j=>.int (g i j)):=by
 intro pins s σ H x y v u Q I rx ry h
 obtain⟨i,j,rfl,rfl,q⟩:=h
 obtain⟨t,rfl⟩:=rx
 obtain⟨t',rfl⟩:=ry
 exact rule i j t t' s _ _ ⟨.int (g i j),H,I.tok _,⟨_,rfl⟩,q⟩
theorem iB {f:Value→Value→Sem Value}{g:Int→Int→Bool}
  (rule:∀(i j:Int) (t u:Tok) (s:Shared) (Q:Value→Shared→Prop) (E:Value→Shared→Prop),Q (.bool (g i j)) s→wpAny (model X.prog X.w) X.A (f (.int i t) (.int j u)) Q E s):
  OpR X f (rI0 fun i j=>.bl (g i j)):=by
 intro pins s σ H x y v u Q I rx ry h
 obtain⟨i,j,rfl,rfl,q⟩:=h
 obtain⟨t,rfl⟩:=rx
 obtain⟨t',rfl⟩:=ry
 exact rule i j t t' s _ _ ⟨.bl (g i j),H,I,rfl,q⟩
def fO (i j:Int):Prop:=0≤j∧j≤1000000∧i.natAbs<2 ^ 64
def gG (i j:Int):Prop:=(-(2 ^ 64)<i∧i<2 ^ 64)∨(-(2 ^ 64)<j∧j<2 ^ 64)
theorem gG.ok {i j:Int}(h:gG i j):IntMulOk i j:=by
 rcases h with ⟨h1,h2⟩|⟨h1,h2⟩
 ·exact .of_left (intBits_le_64 h1 h2)
 ·exact .of_right (intBits_le_64 h1 h2)
theorem sM :OpR X (binaryOp .Add) (rI0 fun i j=>.int (i+j)):=cc fun _ _ _ _ _ _ _ q=>add_int q
theorem kU :OpR X (binaryOp .Sub) (rI0 fun i j=>.int (i-j)):=cc fun _ _ _ _ _ _ _ q=>sub_int q
theorem su :OpR X (binaryOp .Mult) (rI gG fun i j=>.int (i*j)):=opI fun _ _ _ _ _ _ _ hc q=>mul_int q hc.ok
theorem ue :OpR X (binaryOp .Mod) (rI (fun _ j=>0<j) fun i j=>.int (i % j)):=opI fun i j _ _ _ _ _ hc q=>by
 have h1:(0:Int)<j:=hc
 exact mod_int' (by omega) (by rw[Int.fmod_eq_emod_of_nonneg i (by omega)];exact q)
theorem fQ :OpR X (binaryOp .Pow) (rI fO fun i j=>.int (i ^ j.toNat)):=opI fun _ _ _ _ _ _ _ hc q=>pow_int_small hc.1 hc.2.1 hc.2.2 q
theorem unI {f:Value→Sem Value}{g:Int→Int}
  (rule:∀(i:Int) (t:Tok) (s:Shared) (Q:Value→Shared→Prop) (E:Value→Shared→Prop),Q (.int (g i) s.toks) {s with toks:=s.toks+1}→wpAny (model X.prog X.w) X.A (f (.int i t)) Q E s):
  UnR X f (rU fun i=>.int (g i)):=by
 intro pins s σ H x v Q I rx h
 obtain⟨i,rfl,q⟩:=h
 obtain⟨t,rfl⟩:=rx
 exact rule i t s _ _ ⟨.int (g i),H,I.tok _,⟨_,rfl⟩,q⟩
theorem eP :UnR X (unaryOp .USub) (rU fun i=>.int (-i)):=unI fun _ _ _ _ _ q=>neg_int q
end
def cH :V→V→Bool
 |.non,.non=>true|.non,.int _=>true|.int _,.non=>true|.non,.bl _=>true|.bl _,.non=>true|.non,.str _=>true|.str _,.non=>true
 |.int _,.int _=>true|.bl _,.bl _=>true|.str _,.str _=>true|.byt _,.byt _=>true
 |.int _,.str _=>true|.str _,.int _=>true|.bl _,.str _=>true|.str _,.bl _=>true
 |_,_=>false
def rEq :R2:=fun x y H Q=>cH x y=true∧Q (.bl (decide (x=y))) H
def rNe :R2:=fun x y H Q=>cH x y=true∧Q (.bl (!decide (x=y))) H
theorem oJ {i j:Int}:decide (V.int i=V.int j)=(i == j):=by
 rw[zf8]
 simp
theorem mS {i j:Bool}:decide (V.bl i=V.bl j)=(i == j):=by
 rw[zf8]
 simp
theorem pX {i j:Str}:decide (V.str i=V.str j)=(i == j):=by
 rw[zf8]
 simp
theorem pP {i j:Array UInt8}:decide (V.byt i=V.byt j)=(i.toList == j.toList):=by
 rw[zf8]
 cases i
 cases j
 simp
section
variable {X:Cx}{a b c:Expr}{ta tb tc:TE}{pos:Pos}
theorem zt {pins:List (Addr×Obj)}{σ:St}{H:Hp}{s:Shared}{Q:VK}{k k':Bool}(I:Inv X pins σ H s)(q:Q (.bl k) H)(e:k=k'):EP X pins σ Q (.bool k') s:=by
 subst e
 exact⟨.bl k,H,I,rfl,q⟩
theorem xM :OpR X (compareOp .Eq) rEq:=by
 intro pins s σ H x y v u Q I rx ry h
 obtain⟨hs,q⟩:=h
 cases x with
 |non=>
  cases rx
  cases y with
  |non=>cases ry;exact PySem.EqNone.eq_none_none (zt I q (by simp))
  |bl j=>cases ry;exact PySem.EqNone.eq_none_bool (zt I q (by simp))
  |int j=>obtain⟨t',rfl⟩:=ry;exact PySem.EqNone.eq_none_int (zt I q (by simp))
  |str j=>obtain⟨t',rfl⟩:=ry;exact PySem.EqNone.eq_none_str (zt I q (by simp))
  |_=>exact absurd (show false=true from hs) aD
 |bl i=>
  cases rx
  cases y with
  |non=>cases ry;exact PySem.EqNone.eq_bool_none (zt I q (by simp))
  |bl j=>cases ry;exact eq_bool (zt I q mS)
  |str j=>obtain⟨t',rfl⟩:=ry;exact PySem.EqMixed.eq_bool_str (zt I q (by simp))
  |_=>exact absurd (show false=true from hs) aD
 |int i=>
  obtain⟨t,rfl⟩:=rx
  cases y with
  |non=>cases ry;exact PySem.EqNone.eq_int_none (zt I q (by simp))
  |int j=>obtain⟨t',rfl⟩:=ry;exact eq_int (zt I q oJ)
  |str j=>obtain⟨t',rfl⟩:=ry;exact PySem.EqMixed.eq_int_str (zt I q (by simp))
  |_=>exact absurd (show false=true from hs) aD
 |str i=>
  obtain⟨t,rfl⟩:=rx
  cases y with
  |non=>cases ry;exact PySem.EqNone.eq_str_none (zt I q (by simp))
  |bl j=>cases ry;exact PySem.EqMixed.eq_str_bool (zt I q (by simp))
  |int j=>obtain⟨t',rfl⟩:=ry;exact PySem.EqMixed.eq_str_int (zt I q (by simp))
  |str j=>obtain⟨t',rfl⟩:=ry;exact eq_str (zt I q pX)
  |_=>exact absurd (show false=true from hs) aD
 |byt i=>
  obtain⟨t,rfl⟩:=rx
  cases y with
  |byt j=>obtain⟨t',rfl⟩:=ry;exact PySem.W.eq_bytes (zt I q pP)
  |_=>exact absurd (show false=true from hs) aD
 |_=>cases y<;>exact absurd (show false=true from hs) aD
theorem cn :OpR X (compareOp .NotEq) rNe:=by
 intro pins s σ H x y v u Q I rx ry h
 obtain⟨hs,q⟩:=h
 cases x with
 |non=>
  cases rx
  cases y with
  |non=>cases ry;exact PySem.EqNone.ne_none_none (zt I q (by simp))
  |bl j=>cases ry;exact PySem.EqNone.ne_none_bool (zt I q (by simp))
  |int j=>obtain⟨t',rfl⟩:=ry;exact PySem.EqNone.ne_none_int (zt I q (by simp))
  |str j=>obtain⟨t',rfl⟩:=ry;exact PySem.EqNone.ne_none_str (zt I q (by simp))
  |_=>exact absurd (show false=true from hs) aD
 |bl i=>
  cases rx
  cases y with
  |non=>cases ry;exact PySem.EqNone.ne_bool_none (zt I q (by simp))
  |bl j=>cases ry;exact ne_bool (zt I q (congrArg not mS))
  |str j=>obtain⟨t',rfl⟩:=ry;exact PySem.EqMixed.ne_bool_str (zt I q (by simp))
  |_=>exact absurd (show false=true from hs) aD
 |int i=>
  obtain⟨t,rfl⟩:=rx
  cases y with
  |non=>cases ry;exact PySem.EqNone.ne_int_none (zt I q (by simp))
  |int j=>obtain⟨t',rfl⟩:=ry;exact ne_int (zt I q (congrArg not oJ))
  |str j=>obtain⟨t',rfl⟩:=ry;exact PySem.EqMixed.ne_int_str (zt I q (by simp))
  |_=>exact absurd (show false=true from hs) aD
 |str i=>
  obtain⟨t,rfl⟩:=rx
  cases y with
  |non=>cases ry;exact PySem.EqNone.ne_str_none (zt I q (by simp))
  |bl j=>cases ry;exact PySem.EqMixed.ne_str_bool (zt I q (by simp))
  |int j=>obtain⟨t',rfl⟩:=ry;exact PySem.EqMixed.ne_str_int (zt I q (by simp))
  |str j=>obtain⟨t',rfl⟩:=ry;exact ne_str (zt I q (congrArg not pX))
  |_=>exact absurd (show false=true from hs) aD
 |byt i=>
  obtain⟨t,rfl⟩:=rx
  cases y with
  |byt j=>obtain⟨t',rfl⟩:=ry;exact PySem.W.ne_bytes (zt I q (congrArg not pP))
  |_=>exact absurd (show false=true from hs) aD
 |_=>cases y<;>exact absurd (show false=true from hs) aD
theorem cq :OpR X (compareOp .Lt) (rI0 fun i j=>.bl (decide (i<j))):=iB fun _ _ _ _ _ _ _ q=>lt_int q
theorem kG :OpR X (compareOp .LtE) (rI0 fun i j=>.bl (decide (i≤j))):=iB fun _ _ _ _ _ _ _ q=>le_int q
theorem fk :OpR X (compareOp .Gt) (rI0 fun i j=>.bl (decide (j<i))):=iB fun _ _ _ _ _ _ _ q=>gt_int q
theorem cO :OpR X (compareOp .GtE) (rI0 fun i j=>.bl (decide (j≤i))):=iB fun _ _ _ _ _ _ _ q=>ge_int q
theorem nv :OpR X (compareOp .In) (fun x y H Q=>∃i j,x=.str i∧y=.str j∧Q (.bl (!(Builtin.Str.occurrences j i 0 j.length 1).isEmpty)) H):=by
 intro pins s σ H x y v u Q I rx ry h
 obtain⟨i,j,rfl,rfl,q⟩:=h
 obtain⟨t,rfl⟩:=rx
 obtain⟨t',rfl⟩:=ry
 exact in_str (zt I q rfl)
theorem pD :OpR X (compareOp .Is) (fun x y H Q=>y=.non∧Q (.bl (decide (x=.non))) H):=by
 intro pins s σ H x y v u Q I rx ry h
 obtain⟨rfl,q⟩:=h
 cases ry
 refine is_none_gen (zt I q ?_)
 cases x<;>first
  |(cases rx;rfl)
  |(obtain⟨t,rfl⟩:=rx;rfl)
theorem gP :OpR X (compareOp .IsNot) (fun x y H Q=>y=.non∧Q (.bl (!decide (x=.non))) H):=by
 intro pins s σ H x y v u Q I rx ry h
 obtain⟨rfl,q⟩:=h
 cases ry
 refine isnot_none_gen (zt I q ?_)
 cases x<;>first
  |(cases rx;rfl)
  |(obtain⟨t,rfl⟩:=rx;rfl)
theorem zy (b:Expr){op:CmpOp}(h:op≠.In:=by decide)(h2:op≠.NotIn:=by decide):behindInMarks op b=false:=by
 have e1:(op == CmpOp.In)=false:=by cases op<;>first|rfl|exact absurd rfl h
 have e2:(op == CmpOp.NotIn)=false:=by cases op<;>first|rfl|exact absurd rfl h2
 cases b<;>simp[behindInMarks,e1,e2]
theorem xo {op:CmpOp}{r:R2}(ho:OpR X (compareOp op) r)(ha:PE X a ta)(hb:PE X b tb)(hm:behindInMarks op b=false):PE X (.Compare a [op] [b] pos) (tOp r ta tb):=by
 intro pins s σ H Q I h
 exact wpAny_Compare1 (dC ha hb I h fun v u s2 x y H2 I2 rx ry q=>ho pins s2 σ H2 x y v u Q I2 rx ry q) hm
def dI (t:TE):TT:=fun σ H Q=>t σ H fun x H'=>∃k,x=.bl k∧Q k H'
theorem ye {op:CmpOp}{r:R2}(ho:OpR X (compareOp op) r)(ha:PE X a ta)(hb:PE X b tb)(hm:behindInMarks op b=false):PT X (.Compare a [op] [b] pos) (dI (tOp r ta tb)):=by
 intro pins s σ H Q I h
 refine wpAny_isTrue_Compare1 (thn (ha pins s σ H _ I h) fun v s1 ⟨x,H1,I1,r1,q1⟩=>thn (hb pins s1 σ H1 _ I1 q1) fun u s2 ⟨y,H2,I2,r2,q2⟩=>
  thn (ho pins s2 σ H2 x y v u _ I2 r1 r2 q2) fun c s3 ⟨z,H3,I3,r3,k,e,q3⟩=>?_) hm
 subst e
 cases r3
 exact zb1 ⟨H3,I3,q3⟩
def eH (r r':R2)(ta tb tc:TE):TE:=fun σ H Q=>ta σ H fun x H1=>tb σ H1 fun y H2=>r x y H2 fun z H3=>∃k,z=.bl k∧
 (if k=true then tc σ H3 fun w' H4=>r' y w' H4 Q else Q (.bl false) H3)
theorem jD {op op':CmpOp}{r r':R2}(ho:OpR X (compareOp op) r)(ho':OpR X (compareOp op') r')(ha:PE X a ta)(hb:PE X b tb)(hc:PE X c tc)
  (hm:lastMarks [op,op'] [b,c]=false:=by with_unfolding_all rfl):PE X (.Compare a [op,op'] [b,c] pos) (eH r r' ta tb tc):=by
 intro pins s σ H Q I h
 refine Compare_chain (thn (ha pins s σ H _ I h) fun v s1 ⟨x,H1,I1,r1,q1⟩=>chain_link (thn (hb pins s1 σ H1 _ I1 q1) fun u s2 ⟨y,H2,I2,r2,q2⟩=>
  thn (ho pins s2 σ H2 x y v u _ I2 r1 r2 q2) fun d s3 ⟨z,H3,I3,r3,k,e,q3⟩=>?_)) hm
 subst e
 cases r3
 refine zb1 ?_
 cases k with
 |false=>exact ite_ff ⟨.bl false,H3,I3,rfl,q3⟩
 |true=>exact ite_tt (chain_last (thn (hc pins s3 σ H3 _ I3 q3) fun w' s4 ⟨z',H4,I4,r4,q4⟩=>ho' pins s4 σ H4 y z' u w' Q I4 r2 r4 q4))
def dY (K:PySem.W.Frag)(x:V)(H:Hp)(k:Bool):Prop:=
 match x with
 |.non=>k=false
 |.bl b=>k=b
 |.int i=>k=(i != 0)
 |.str y=>y.length≤sizeLine∧k=((y.length:Int) != 0)
 |.byt y=>y.size≤sizeLine∧k=((y.size:Int) != 0)
 |.ref p=>(∃xs,SqL K H p xs∧k=!xs.isEmpty)∨(∃xs,SqT K H p xs∧k=!xs.isEmpty)∨∃kvs,H p=some (.dK kvs)∧k=!kvs.isEmpty
 |_=>False
theorem pL {κ:Type}{kvs:List (κ×V)}{vs:List (κ×Value)}(r:KV kvs vs):(!vs.isEmpty)=!kvs.isEmpty:=by
 cases r<;>rfl
theorem ui {xs:List V}{its:List Value}(r:Vals xs its):(!its.toArray.isEmpty)=!xs.isEmpty:=by
 cases r<;>simp
theorem vv :(sizeLine:Nat)<2 ^ 63:=by rw[sizeLine_eq];decide
theorem eZ :aq X (fun x H Q=>∃k,dY X.K x H k∧Q k H):=by
 intro pins s σ H x v Q I rx h
 obtain⟨k,e,q⟩:=h
 have hl:=vv
 have hs:sizeLine=16777216:=sizeLine_eq
 cases x with
 |non=>
  cases rx
  have e':k=false:=e
  subst e'
  exact truthy_none ⟨H,I,q⟩
 |bl b=>
  cases rx
  have e':k=b:=e
  subst e'
  exact zb1 ⟨H,I,q⟩
 |int i=>
  obtain⟨t,rfl⟩:=rx
  have e':k=(i != 0):=e
  subst e'
  exact PySem.P.truthy_int ⟨H,I,q⟩
 |str y=>
  obtain⟨t,rfl⟩:=rx
  obtain⟨hy,e'⟩:y.length≤sizeLine∧k=((y.length:Int) != 0):=e
  subst e'
  exact PySem.P.truthy_str (by omega) ⟨H,I.tok _,q⟩
 |byt y=>
  obtain⟨t,rfl⟩:=rx
  obtain⟨hy,e'⟩:y.size≤sizeLine∧k=((y.size:Int) != 0):=e
  subst e'
  exact PySem.W.truthy_bytes (by omega) ⟨H,I.tok _,q⟩
 |ref p=>
  cases rx
  have e':(∃xs,SqL X.K H p xs∧k=!xs.isEmpty)∨(∃xs,SqT X.K H p xs∧k=!xs.isEmpty)∨∃kvs,H p=some (.dK kvs)∧k=!kvs.isEmpty:=e
  rcases e' with ⟨xs,hx,e'⟩|⟨xs,hx,e'⟩|⟨kvs,hx,e'⟩
  ·subst e'
   obtain⟨its,r,pl,hz⟩:=I.list hx
   have hlen:=r.length
   exact wpAny_truthy_list pl.isList (by simp only[aN];omega) ⟨H,I.tok _,by rw[ui r];exact q⟩
  ·subst e'
   obtain⟨its,r,pl,hz⟩:=I.tuple hx
   have hlen:=r.length
   exact truthy_tuple pl (by simp only[aN];omega) ⟨H,I.tok _,by rw[ui r];exact q⟩
  ·subst e'
   obtain⟨hz,hS,vs,r,m⟩:kvs.length≤sizeLine∧(p == sysModules)=false∧∃vs,KV kvs vs∧s.heap.DictOf (yz X.prog X.w) p vs:=I.hok p _ hx
   have hlen:kvs.length=vs.length:=Paired.length r
   exact wpAny_truthy_dict hS m (by omega) ⟨H,I.tok _,by rw[pL r];exact q⟩
 |_=>exact (show False from e).elim
theorem jy (ha:PE X a ta)(he:∀whole,isTrue a X.env whole=(do let v ←whole;standAt a.pos;holding [v] (truthy v))):
  PT X a (fun σ H Q=>ta σ H fun x H'=>∃k,dY X.K x H' k∧Q k H'):=by
 intro pins s σ H Q I h
 exact isTrue_plain (thn (ha pins s σ H _ I h) fun v s1 ⟨x,H1,I1,r1,q1⟩=>eZ pins s1 σ H1 x v Q I1 r1 q1) (he _)
theorem qH :OpR X (binaryOp .Add) (fun x y H Q=>∃i j,x=.str i∧y=.str j∧i.length+j.length≤sizeLine∧Q (.str (i++j)) H):=by
 intro pins s σ H x y v u Q I rx ry h
 obtain⟨i,j,rfl,rfl,hz,q⟩:=h
 obtain⟨t,rfl⟩:=rx
 obtain⟨t',rfl⟩:=ry
 exact add_str (fun t' tk=>⟨.str (i++j),H,I.tok _,⟨_,rfl⟩,q⟩) hz
theorem vals1 {x:V}{us:List Value}(r:Vals [x] us):∃u,us=[u]∧RelV x u:=by
 cases r with
 |cons r1 r2=>cases r2;exact⟨_,rfl,r1⟩
theorem vals2 {x y:V}{us:List Value}(r:Vals [x,y] us):∃u w',us=[u,w']∧RelV x u∧RelV y w':=by
 cases r with
 |cons r1 r2=>
  cases r2 with
  |cons r3 r4=>cases r4;exact⟨_,_,rfl,r1,r3⟩
theorem nF (hc:X.calm=true):yN X (.builtin "max") (fun xs H Q=>∃i j,xs=[.int i,.int j]∧Q (.int (if j > i then j else i)) H):=by
 intro pins s σ H xs us Q I r h
 obtain⟨i,j,rfl,q⟩:=h
 obtain⟨u,w',rfl,⟨t,rfl⟩,⟨t',rfl⟩⟩:=vals2 r
 refine max_two_ints (I.ok.hd hc) fun h' tk k=>⟨_,H,I.kept k,?_,q⟩
 by_cases hj:j > i
 ·rw[if_pos hj,if_pos hj];exact⟨_,rfl⟩
 ·rw[if_neg hj,if_neg hj];exact⟨_,rfl⟩
theorem mm (hc:X.calm=true):yN X (.builtin "min") (fun xs H Q=>∃i j,xs=[.int i,.int j]∧Q (.int (if j<i then j else i)) H):=by
 intro pins s σ H xs us Q I r h
 obtain⟨i,j,rfl,q⟩:=h
 obtain⟨u,w',rfl,⟨t,rfl⟩,⟨t',rfl⟩⟩:=vals2 r
 refine min_two_ints (I.ok.hd hc) fun h' tk k=>⟨_,H,I.kept k,?_,q⟩
 by_cases hj:j<i
 ·rw[if_pos hj,if_pos hj];exact⟨_,rfl⟩
 ·rw[if_neg hj,if_neg hj];exact⟨_,rfl⟩
theorem nu :yN X (.type "int") (fun xs H Q=>(∃i,xs=[.int i]∧Q (.int i) H)∨∃k,xs=[.bl k]∧Q (.int (if k then 1 else 0)) H):=by
 intro pins s σ H xs us Q I r h
 rcases h with ⟨i,rfl,q⟩|⟨k,rfl,q⟩
 ·obtain⟨u,rfl,t,rfl⟩:=vals1 r
  exact call_int_int ⟨.int i,H,I,⟨_,rfl⟩,q⟩
 ·obtain⟨u,rfl,r1⟩:=vals1 r
  cases r1
  exact call_int_bool ⟨.int (if k then 1 else 0),H,I.tok _,⟨_,rfl⟩,q⟩
theorem sk :yN X (.type "str") (fun xs H Q=>∃i,xs=[.int i]∧i.natAbs.log2<1920∧Q (.str (toString i)) H):=by
 intro pins s σ H xs us Q I r h
 obtain⟨i,rfl,hz,q⟩:=h
 obtain⟨u,rfl,t,rfl⟩:=vals1 r
 exact PySem.P.str_of_int hz ⟨.str _,H,I.tok _,⟨_,rfl⟩,q⟩
end
structure pF (h:Heap)(x dx C:Addr)(mA:Str→Option Value):Prop where
 obj:h.get? x=some (PySem.W.instObj C dx)
 ns:h.Ns1 dx mA
 ne:dx≠x
theorem mx {h:Heap}{dx:Addr}{mA:Str→Option Value}(n:h.Ns1 dx mA):∃od,h.get? dx=some od∧∀name,PySem.W.lookIn name od=some (mA name):=by
 obtain⟨o,es,ep,ho,hd,hk,_,hm⟩:=n
 refine⟨o,ho,fun name=>?_⟩
 have e:=hm name
 unfold nsFind findBy at e
 rw[←Array.find?_toList] at e
 unfold PySem.W.lookIn
 rw[hd]
 dsimp only
 split
 ·rename_i y q
  rw[q] at e
  exact congrArg some e
 ·rename_i q
  rw[q] at e
  have a:es.toList.any (·.refKey)=false:=by
   rw[List.any_eq_false]
   intro y hy
   obtain⟨z,t,hkey⟩:=hk y (ze1.mp hy)
   simp[DictEntry.refKey,hkey]
  have a':¬es.toList.any (·.refKey)=true:=by rw[a];exact aD
  rw[if_neg a']
  exact congrArg some e
theorem pF.look {h:Heap}{x dx C:Addr}{mA:Str→Option Value}(I:pF h x dx C mA):∃od,PySem.W.InstAt h x (PySem.W.instObj C dx) C (some od)∧∀name,PySem.W.lookIn name od=some (mA name):=
 let ⟨od,ho,hl⟩:=mx I.ns
 ⟨od,⟨I.obj,rfl,rfl,ho⟩,hl⟩
section
variable {prog:Program}{w:World}{A:Around}{E:Value→Shared→Prop}{s:Shared}{K:PySem.W.Frag}{x dx C f:Addr}{mA:Str→Option Value}{name:Str}{v:Value}
theorem get_map {expr:Bool}{Q:Value→Shared→Prop}(X:K.In s.heap)(I:pF s.heap x dx C mA)(hg:PySem.W.plainGet K C name=true)(hh:PySem.W.hasDictIn K C=true)
  (ha:PySem.W.findIn K (.ref C) name=some none) (hv:mA name=some v) (hv':PySem.W.handedIn v=true) (h:Q v {s with toks:=s.toks+1}):
  wpAny (model prog w) A (getAttr (.ref x) name expr) Q E s:=by
 obtain⟨od,J,hl⟩:=I.look
 exact PySem.W.get_value X J (zg7 hg).1 (PySem.W.findObj_own hh ha rfl (by rw[hl,hv])) hv' h
theorem lZ {pl:Sem Bool}{Q:Value×List Value→Shared→Prop}(X:K.In s.heap)(I:pF s.heap x dx C mA)(hg:PySem.W.plainGet K C name=true)
  (hf:PySem.W.findIn K (.ref C) name=some (some (.ref f))) (ht:PySem.W.isFn K (.ref f)=true) (hv:mA name=none) (h:Q (.ref f,[.ref x]) s):
  wpAny (model prog w) A (getMethod (.ref x) name pl) Q E s:=by
 obtain⟨od,J,hl⟩:=I.look
 exact PySem.W.method_fn X J (zg7 hg).1 (zg7 hg).2 hf (beq_iff_eq.mp ht) (by show (PySem.W.lookIn name od).map (·.isSome)=some false;rw[hl,hv];rfl) h
theorem gx {ns:List Str}{Q:Unit→Shared→Prop}(X:K.In s.heap)(I:pF s.heap x dx C mA)
  (hs:PySem.W.findIn K (.ref C) "__setattr__"=some (some (.builtin "object.__setattr__"))) (hp:PySem.W.plainOver K C=true) (ht:PySem.W.takerIn K C name=some none) (hh:PySem.W.hasDictIn K C=true)
  (hw:PySem.Within mA ns) (hsz:ns.length≤sizeLine)
  (h:∀h',pF h' x dx C (fun y=>if y=name then some v else mA y)→Heap.SameBut dx s.heap h'→Q () {s with heap:=h',toks:=s.toks+2}):
  wpAny (model prog w) A (setAttr (.ref x) name v) Q E s:=by
 obtain⟨od,J,hl⟩:=I.look
 refine PySem.W.set_plain X J hs (PySem.W.osa_open (s:={s with toks:=s.toks+1}) (r:=none) X J hp ht fun b=>?_)
 obtain⟨cd,hc,hd'⟩:=PySem.W.any_some hh
 have hx:s.heap.get? x=some ⟨.ref C,some dx,.plain,#[]⟩:=I.obj
 refine za1 (zb3 (za1 (za1 (wpAny_loadPart hx (za1 (PySem.W.Looks.here (s:={s with toks:=s.toks+1}) (PySem.W.looks_clsIn X hc) ?_))))))
 rw[hd']
 refine zb3 (a:=some dx) (za1 (zb3 (za1 ?_)))
 refine wpAny_nsSet1 (s:={s with toks:=s.toks+1}) I.ns fun h' hn2 hs2=>?_
 obtain⟨oD,esD,epD,hoD,hdD,hcD⟩:=hn2.count (PySem.Within.cons name v hw)
 refine za1 (wpAny_lookBehind hoD (by rw[hdD];exact pastItsLine_dict (aP hcD (by rw[aJ];omega))) ?_)
 exact zb3 (h _ ⟨(hs2.2 _ (Ne.symm I.ne)).trans I.obj,hn2,I.ne⟩ hs2)
theorem jo {R:Result→Shared→Prop}{vs:List Value}{kw:List (Str×Value)}(X:K.In s.heap)(hm:PySem.W.makesIn K C=true)
  (hi:PySem.W.findIn K (.ref C) "__init__"=some (some (.ref f))) (hf:PySem.W.typeIn K (.ref f)=some (.type "function"))
  (h:codeAny (model prog w) (A.under (.builtin "type.__call__" ⟨.ref C::vs,kw⟩)) (.call (.ref f) ⟨.ref (s.heap.objs.size+1)::vs,kw⟩) (PySem.W.InitBack (s.heap.objs.size+1) R)
   {s with heap:=(s.heap.push PySem.W.emptyDict).push (PySem.W.instObj C s.heap.objs.size)}):
  codeAny (model prog w) A (.call (.ref C) ⟨vs,kw⟩) R s:=by
 obtain⟨hh,g,d,t,os⟩:=s
 exact PySem.W.make_core (PySem.W.makes_of X hm) (PySem.W.looks_findIn X hi) (fun self=>PySem.W.bind_fn X self hf) (.inl rfl) h
end
def xj (f:Str)(v:V):List (Str×V)→List (Str×V)
 |[]=>[(f,v)]
 |(g,x)::r=>if g=f then (g,v)::r else (g,x)::xj f v r
theorem zH (f g:Str)(v:V):∀fs:List (Str×V),(xj f v fs).lookup g=if g=f then some v else fs.lookup g
 |[]=>by
  show List.lookup g [(f,v)]=_
  by_cases h:g=f
  ·have hb:(g == f)=true:=beq_iff_eq.mpr h
   simp only[List.lookup,hb,if_pos h]
  ·have hb:(g == f)=false:=ze2.mpr h
   simp only[List.lookup,hb,if_neg h]
 |(k,x)::r=>by
  have ih:=zH f g v r
  rw[show xj f v ((k,x)::r)=(if k=f then (k,v)::r else (k,x)::xj f v r) from rfl]
  by_cases hk:k=f
  ·rw[if_pos hk]
   by_cases h:g=k
   ·have hb:(g == k)=true:=beq_iff_eq.mpr h
    simp only[List.lookup,hb,if_pos (h.trans hk)]
   ·have hb:(g == k)=false:=ze2.mpr h
    simp only[List.lookup,hb,if_neg (fun e:g=f=>h (e.trans hk.symm))]
  ·rw[if_neg hk]
   by_cases h:g=k
   ·have hb:(g == k)=true:=beq_iff_eq.mpr h
    simp only[List.lookup,hb,if_neg (fun e:g=f=>hk (h.symm.trans e))]
   ·have hb:(g == k)=false:=ze2.mpr h
    simp only[List.lookup,hb]
    exact ih
theorem vf (f:Str)(v:V):∀fs:List (Str×V),f∈(xj f v fs).map (·.1)∧∀g,g∈fs.map (·.1)→g∈(xj f v fs).map (·.1)
 |[]=>⟨by simp[xj],fun g h=>by simp at h⟩
 |(k,x)::r=>by
  obtain⟨i1,i2⟩:=vf f v r
  rw[show xj f v ((k,x)::r)=(if k=f then (k,v)::r else (k,x)::xj f v r) from rfl]
  by_cases hk:k=f
  ·rw[if_pos hk]
   subst hk
   exact⟨by simp,fun g h=>by simpa using h⟩
  ·rw[if_neg hk]
   refine⟨?_,fun g h=>?_⟩
   ·rw[aW]
    exact az _ i1
   ·rw[aW] at h ⊢
    rcases ay.mp h with e|e
    ·exact ay.mpr (.inl e)
    ·exact az _ (i2 g e)
theorem vF (f:Str)(v:V):∀fs:List (Str×V),(xj f v fs).length≤fs.length+1
 |[]=>by simp[xj]
 |(k,x)::r=>by
  have ih:=vF f v r
  rw[show xj f v ((k,x)::r)=(if k=f then (k,v)::r else (k,x)::xj f v r) from rfl]
  by_cases hk:k=f
  ·rw[if_pos hk,aJ,aJ];omega
  ·rw[if_neg hk,aJ,aJ];omega
theorem wu.some_of {v:V}{o:Option Value}(r:wu (some v) o):∃u,o=some u∧RelV v u:=by
 cases o with
 |none=>exact (show False from r).elim
 |some u=>exact⟨u,rfl,r⟩
theorem wu.none_of {o:Option Value}(r:wu none o):o=none:=by
 cases o with
 |none=>rfl
 |some u=>exact (show False from r).elim
theorem mj {v:V}{u:Value}(r:RelV v u):PySem.W.handedIn u=true:=by
 cases v with
 |non=>cases (show u=Value.none from r);rfl
 |bl b=>cases (show u=Value.bool b from r);rfl
 |int i=>obtain⟨t,e⟩:=(show ∃t,u=Value.int i t from r);cases e;rfl
 |str x=>obtain⟨t,e⟩:=(show ∃t,u=Value.str x t from r);cases e;rfl
 |byt b=>obtain⟨t,e⟩:=(show ∃t,u=Value.bytes b t from r);cases e;rfl
 |flt b=>obtain⟨t,e⟩:=(show ∃t,u=Value.float b t from r);cases e;rfl
 |ref a=>cases (show u=Value.ref a from r);rfl
 |ty n=>cases (show u=Value.type n from r);rfl
section
variable {P:Program}{w:World}{H H':Hp}{h h':Heap}{a C dx:Addr}{fs fs':List (Str×V)}
theorem vS (hok:HOk P w H h)(e:H a=some (.ins C dx fs)):∃mA,pF h a dx C mA∧(∀f,wu (fs.lookup f) (mA f))∧PySem.Within mA (fs.map (·.1))∧fs.length≤1000∧H dx=some (.own a):=by
 obtain⟨d,z,ne,ob,mA,n,r,q⟩:=(show zW P w H h a (.ins C dx fs) from hok a _ e)
 exact⟨mA,⟨ob,n,ne⟩,r,q,z,d⟩
end
structure Cls (K:PySem.W.Frag)(C:Addr):Prop where
 pg:PySem.W.plainGet K C Str.empty=true
 hd:PySem.W.hasDictIn K C=true
 po:PySem.W.plainOver K C=true
 sa:PySem.W.findIn K (.ref C) "__setattr__"=some (some (.builtin "object.__setattr__"))
theorem Cls.get {K:PySem.W.Frag}{C:Addr}(c:Cls K C)(f:Str):PySem.W.plainGet K C f=true:=c.pg
def yD (K:PySem.W.Frag)(C:Addr)(f:Str):Prop:=PySem.W.findIn K (.ref C) f=some none
theorem yD.taker {K:PySem.W.Frag}{C:Addr}{f:Str}(n:yD K C f):PySem.W.takerIn K C f=some none:=by
 unfold PySem.W.takerIn
 rw[show PySem.W.findIn K (.ref C) f=some none from n]
 rfl
structure Meth (K:PySem.W.Frag)(C:Addr)(m:Str)(f:Addr):Prop where
 at_:PySem.W.findIn K (.ref C) m=some (some (.ref f))
 fn:PySem.W.isFn K (.ref f)=true
 kp:PySem.W.keepIn K (.ref f)=true
section
variable {X:Cx}{pins:List (Addr×Obj)}{σ:St}{H:Hp}{s:Shared}{a C dx:Addr}{fs:List (Str×V)}{f:Str}{v:V}{A:Around}{E:Value→Shared→Prop}
theorem qJ {b:Bool}{Q:Value→Shared→Prop}(I:Inv X pins σ H s)(e:H a=some (.ins C dx fs))(c:Cls X.K C)(n:yD X.K C f)(l:fs.lookup f=some v)
  (h:∀u s',Inv X pins σ H s'→RelV v u→Q u s'):wpAny (model X.prog X.w) A (getAttr (.ref a) f b) Q E s:=by
 obtain⟨mA,O,r,_,_,_⟩:=vS I.hok e
 obtain⟨u,hu,ru⟩:=wu.some_of (v:=v) (o:=mA f) (by rw[←l];exact r f)
 exact get_map I.kIn O (c.get f) c.hd n hu (mj ru) (h u _ (I.tok _) ru)
theorem wG {m:Str}{g:Addr}{pl:Sem Bool}{Q:Value×List Value→Shared→Prop}(I:Inv X pins σ H s)(e:H a=some (.ins C dx fs))(c:Cls X.K C)(k:Meth X.K C m g)(l:fs.lookup m=none)
  (h:Q (.ref g,[.ref a]) s):wpAny (model X.prog X.w) A (getMethod (.ref a) m pl) Q E s:=by
 obtain⟨mA,O,r,_,_,_⟩:=vS I.hok e
 have hn:mA m=none:=wu.none_of (by rw[←l];exact r m)
 exact lZ I.kIn O (c.get m) k.at_ k.fn hn h
theorem pG {y:V}{u:Value}{Q:Unit→Shared→Prop}(I:Inv X pins σ H s)(e:H a=some (.ins C dx fs))(c:Cls X.K C)(n:yD X.K C f)(hl:fs.length<1000)(ry:RelV y u)
  (h:∀s',Inv X pins σ (upd H a (.ins C dx (xj f y fs))) s'→Q () s'):wpAny (model X.prog X.w) A (setAttr (.ref a) f u) Q E s:=by
 obtain⟨mA,O,r,wi,_,ho⟩:=vS I.hok e
 have hz:(fs.map (·.1)).length≤sizeLine:=by rw[ax,sizeLine_eq];omega
 refine gx I.kIn O c.sa c.po n.taker c.hd wi hz fun h' O' sb=>h _ ?_
 have hd:∃o,h'.get? dx=some o:=let ⟨o,_,_,e',_⟩:=O'.ns;⟨o,e'⟩
 refine I.write (x:=a) (e:=dx) (by rw[e];exact True.intro) (.inr ho) (fun b q hb z=>(sb.2 b hb).trans z) hd ?_
 refine⟨by rw[zj O.ne];exact ho,?_,O.ne,O'.obj,_,O'.ns,fun g=>?_,fun g hg=>?_⟩
 ·have:=vF f y fs;omega
 ·show wu ((xj f y fs).lookup g) (if g=f then some u else mA g)
  rw[zH]
  by_cases q:g=f
  ·rw[if_pos q,if_pos q];exact ry
  ·rw[if_neg q,if_neg q];exact r g
 ·by_cases q:g=f
  ·rw[q];exact (vf f y fs).1
  ·refine (vf f y fs).2 g (wi g fun z=>hg ?_)
   show (if g=f then some u else mA g)=none
   rw[if_neg q];exact z
theorem Inv.made (I:Inv X pins σ H s):Inv X pins σ (upd (upd H s.heap.objs.size (.own (s.heap.objs.size+1))) (s.heap.objs.size+1) (.ins C s.heap.objs.size []))
  {s with heap:=(s.heap.push PySem.W.emptyDict).push (PySem.W.instObj C s.heap.objs.size)}:=by
 have e1:(s.heap.push PySem.W.emptyDict).get? s.heap.objs.size=some PySem.W.emptyDict:=za2 s.heap rfl
 have e2:((s.heap.push PySem.W.emptyDict).push (PySem.W.instObj C s.heap.objs.size)).get? (s.heap.objs.size+1)=some (PySem.W.instObj C s.heap.objs.size):=by
  have:=za2 (s.heap.push PySem.W.emptyDict) (o:=PySem.W.instObj C s.heap.objs.size) rfl
  rwa [Heap.size_push] at this
 have e3:(s.heap.push PySem.W.emptyDict).Ns s.heap.objs.size (fun _=>none):=⟨PySem.W.emptyDict,#[],_,e1,rfl,(fun e he=>absurd he (by simp)),fun _=>rfl⟩
 have I1:=I.laid (a:=s.heap.objs.size) (o:=.own (s.heap.objs.size+1)) (h':=s.heap.push PySem.W.emptyDict) (t':=s.toks) (fun b u q=>aG _ q) (aC _) ⟨_,e1⟩
 refine I1.laid (a:=s.heap.objs.size+1) (o:=.ins C s.heap.objs.size []) (t':=s.toks) (fun b u q=>aG _ q) (Nat.le_of_eq (Heap.size_push _ _)) ?_
 have ne:s.heap.objs.size≠s.heap.objs.size+1:=aX (zf3 _)
 refine⟨by rw[zj ne,zl],aT _,ne,e2,fun _=>none,(Heap.Ns1.of_empty e3).at fun o q=>aG _ q,fun _=>True.intro,fun y hy=>absurd rfl hy⟩
theorem gn {prog:Program}{w:World}{env:Env}{e:Expr}{f:Str}{pos:Pos}{s:Shared}{Q:Value→Shared→Prop}(hb:attributeBase e f env (eval e env)=eval e env)
  (h:wpAny (model prog w) A (eval e env) (fun o s₁=>wpAny (model prog w) A (getAttr o f true) Q E s₁) E s):wpAny (model prog w) A (eval (.Attribute e f pos) env) Q E s:=
 Attribute_any_ h (by rw[arm_eval_Attribute,hb])
end
def af (K:PySem.W.Frag)(ta:TE)(f:Str):TE:=fun σ H Q=>ta σ H fun x H1=>∃a C dx fs v,x=.ref a∧H1 a=some (.ins C dx fs)∧Cls K C∧yD K C f∧fs.lookup f=some v∧Q v H1
def bw (K:PySem.W.Frag)(ta tv:TE)(f:Str):TS:=fun D σ H=>tv σ H fun y H1=>ta σ H1 fun x H2=>∃a C dx fs,x=.ref a∧H2 a=some (.ins C dx fs)∧Cls K C∧yD K C f∧fs.length<1000∧
 D.nx σ (upd H2 a (.ins C dx (xj f y fs)))
section
variable {X:Cx}{o e value:Expr}{f:Str}{pos pos' tpos:Pos}{ta tv:TE}
theorem tZ (he:PE X e ta)(hb:attributeBase e f X.env (eval e X.env)=eval e X.env):PE X (.Attribute e f pos) (af X.K ta f):=by
 intro pins s σ H Q I h
 refine gn hb (thn (he pins s σ H _ I h) fun u s1 ⟨x,H1,I1,rx,a,C,dx,fs,v,ex,ea,c,n,l,q⟩=>?_)
 subst ex
 obtain rfl:u=Value.ref a:=rx
 exact qJ I1 ea c n l fun u' s2 I2 ru=>⟨v,H1,I2,ru,q⟩
theorem sQ (ha:PE X o ta)(hv:PE X value tv)(hs:swapsWith value (some (.Attribute o f pos')) pos.line X.env=pure false):PS X (.Assign [.Attribute o f pos'] value pos) (bw X.K ta tv f):=by
 intro pins s σ H D I h
 refine plainObj_wpAny_Assign_Attribute (thn (hv pins s σ H _ I h) fun u s1 ⟨y,H1,I1,ry,q⟩=>thn (ha pins s1 σ H1 _ I1 q) fun ov s2 ⟨x,H2,I2,rx,a,C,dx,fs,ex,ea,c,n,l,q2⟩=>?_) hs
 subst ex
 obtain rfl:ov=Value.ref a:=rx
 exact pG I2 ea c n l ry fun s3 I3=>⟨σ,_,I3,q2⟩
theorem fm {pl:Sem Bool}{m:Str}{apos:Pos}{args:List Expr}{pins:List (Addr×Obj)}{s:Shared}{σ:St}{H:Hp}{Q:Value→Shared→Prop}{te:TE}(he:PE X e te)(I:Inv X pins σ H s)
  (h:te σ H fun x H1=>∃a C dx fs g,x=.ref a∧H1 a=some (.ins C dx fs)∧Cls X.K C∧Meth X.K C m g∧fs.lookup m=none∧
   ∀s1,Inv X pins σ H1 s1→wpAny (model X.prog X.w) X.A (callWith pos (.ref g) [.ref a] (backTo pos (starEach args X.env)) (backToKw pos (keywordEach [] X.env))) Q X.xe s1)
  (ht:eval (.Call (.Attribute e m apos) args [] pos) X.env=(do
   let ov ←eval e X.env
   standAt apos.atName
   let (f,first) ←holding [ov] (getMethod ov m pl)
   callWith pos f first (backTo pos (starEach args X.env)) (backToKw pos (keywordEach [] X.env)))):
  wpAny (model X.prog X.w) X.A (eval (.Call (.Attribute e m apos) args [] pos) X.env) Q X.xe s:=by
 refine zf6 (pl:=pl) (thn (he pins s σ H _ I h) fun u s1 ⟨x,H1,I1,rx,a,C,dx,fs,g,ex,ea,c,k,l,q⟩=>?_) ht
 subst ex
 obtain rfl:u=Value.ref a:=rx
 exact wG I1 ea c k l (q s1 I1)
end
section
variable {X:Cx}{pins:List (Addr×Obj)}{σ:St}{H:Hp}{s:Shared}{A:Around}{E:Value→Shared→Prop}{Q:Value→Shared→Prop}{c:Value}{b:Bool}
inductive wx (K:PySem.W.Frag)(H:Hp):V→Value→Prop where
 |non:wx K H .non (.type "NoneType")
 |bl (x:Bool):wx K H (.bl x) (.type "bool")
 |int (i:Int):wx K H (.int i) (.type "int")
 |str (x:Str):wx K H (.str x) (.type "str")
 |flt (x:UInt64):wx K H (.flt x) (.type "float")
 |lst {a:Addr} {xs:List V} (e:H a=some (.lst xs)):wx K H (.ref a) (.type "list")
 |frz {a:Addr} {o:Obj} {xs:List V} (e:H a=some (.frz o (.lst xs))):wx K H (.ref a) (.type "list")
 |tup {a:Addr} {xs:List V} (e:H a=some (.tup xs)):wx K H (.ref a) (.type "tuple")
 |dK {a:Addr} {kvs:List (Key×V)} (e:H a=some (.dK kvs)):wx K H (.ref a) (.type "dict")
 |dT {a:Addr} {kvs:List (List Key×V)} (e:H a=some (.dT kvs)):wx K H (.ref a) (.type "dict")
 |ins {a C dx:Addr} {fs:List (Str×V)} (e:H a=some (.ins C dx fs)) (cl:Cls K C) (ha:PySem.W.findIn K (.ref C) "__class__"=some (some (.builtin "object.__class__")))
   (hn:PySem.W.specialIn K (.builtin "object.__class__") "__get__"=some (some (.builtin "getset_descriptor.__get__"))) (htk:PySem.W.takesIn K (.builtin "object.__class__")=some true)
   (hm:PySem.W.mroIn K C (.type "object")=some true):wx K H (.ref a) (.ref C)
theorem tq {x:V}{u t:Value}(I:Inv X pins σ H s)(rx:RelV x u)(ty:wx X.K H x t)(e:PySem.W.kitOne X.K t c=some b)(h:∀tk,Q (.bool b) {s with toks:=tk}):
  wpAny (model X.prog X.w) A (call (.builtin "isinstance") [u,c]) Q E s:=by
 cases ty with
 |non=>cases (show u=Value.none from rx);exact za9 PySem.W.kitx_none I.kIn True.intro e (fun z=>nomatch z) h
 |bl y=>cases (show u=Value.bool y from rx);exact za9 PySem.W.kitx_bool I.kIn True.intro e (fun z=>nomatch z) h
 |int i=>obtain⟨t,q⟩:=(show ∃t,u=Value.int i t from rx);cases q;exact za9 PySem.W.kitx_int I.kIn True.intro e (fun z=>nomatch z) h
 |str y=>obtain⟨t,q⟩:=(show ∃t,u=Value.str y t from rx);cases q;exact za9 PySem.W.kitx_str I.kIn True.intro e (fun z=>nomatch z) h
 |flt y=>obtain⟨t,q⟩:=(show ∃t,u=Value.float y t from rx);cases q;exact za9 PySem.W.kitx_float I.kIn True.intro e (fun z=>nomatch z) h
 |@lst a xs ea=>
  cases (show u=Value.ref a from rx)
  obtain⟨_,_,n,_,h1⟩:=(show zW X.prog X.w H s.heap a (.lst xs) from I.hok a _ ea)
  exact za9 PySem.W.kitx_list I.kIn ⟨_,h1,rfl⟩ e (fun z=>nomatch z) h
 |@frz a ob xs ea=>
  cases (show u=Value.ref a from rx)
  obtain⟨_,_,_,n,_,h1⟩:=(show zW X.prog X.w H s.heap a (.frz ob (.lst xs)) from I.hok a _ ea)
  exact za9 PySem.W.kitx_list I.kIn ⟨_,h1,rfl⟩ e (fun z=>nomatch z) h
 |@tup a xs ea=>
  cases (show u=Value.ref a from rx)
  obtain⟨_,_,_,p⟩:=(show zW X.prog X.w H s.heap a (.tup xs) from I.hok a _ ea)
  obtain⟨o,h1,h2,_⟩:=p
  exact za9 PySem.W.kitx_tuple I.kIn ⟨o,h1,h2⟩ e (fun z=>nomatch z) h
 |@dK a kvs ea=>
  cases (show u=Value.ref a from rx)
  obtain⟨_,_,vs,_,p⟩:=(show zW X.prog X.w H s.heap a (.dK kvs) from I.hok a _ ea)
  obtain⟨o,es,ep,h1,h2,_⟩:=p
  exact za9 PySem.W.kitx_dict I.kIn ⟨o,h1,h2.1⟩ e (fun z=>nomatch z) h
 |@dT a kvs ea=>
  cases (show u=Value.ref a from rx)
  obtain⟨_,_,xs,_,o,es,ep,h1,h2,_⟩:=(show zW X.prog X.w H s.heap a (.dT kvs) from I.hok a _ ea)
  exact za9 PySem.W.kitx_dict I.kIn ⟨o,h1,h2.1⟩ e (fun z=>nomatch z) h
 |@ins a C dx fs ea cl ha hn htk hm=>
  cases (show u=Value.ref a from rx)
  obtain⟨mA,O,_⟩:=vS I.hok ea
  obtain⟨od,J,_⟩:=O.look
  exact za9 (PySem.W.kitx_own (cl.get _) cl.hd ha hn htk hm) I.kIn J e (fun z=>nomatch z) h
end
structure zJ (k:Nat)(A:Around):Prop where
 hd:A.handled=none
 dp:A.depth+3*k+5<recursionLimit
 un:A.units+16*k+200<cLine
 gd:A.guards=some []
theorem zJ.mono {j k:Nat}{A:Around}(r:zJ k A)(h:j≤k):zJ j A:=⟨r.hd,by have:=r.dp;omega,by have:=r.un;omega,r.gd⟩
theorem zJ.deeper {k:Nat}{A:Around}(r:zJ (k+1) A)(env:Env):zJ k (A.deeper env):=
 ⟨r.hd,by have:=r.dp;show A.depth+1+3*k+5<_;omega,by have:=r.un;show A.units+3+16*k+200<_;omega,r.gd⟩
theorem qA {A:Around}{C:Addr}{us:List Value}{kw:List (Str×Value)}:(A.under (.builtin "type.__call__" ⟨.ref C::us,kw⟩)).depth=A.depth+1:=by
 first|rfl|simp[Around.under,Code.weight,Code.isCreation,Code.isGuard,Code.isCaller,Code.frames,Code.isFrame,guardIds]
theorem pA {A:Around}{C:Addr}{us:List Value}{kw:List (Str×Value)}:(A.under (.builtin "type.__call__" ⟨.ref C::us,kw⟩)).units=A.units+1:=by
 first|rfl|simp[Around.under,Code.cUnits,Code.frames,Code.isFrame]
theorem qp {A:Around}{C:Addr}{us:List Value}{kw:List (Str×Value)}:(A.under (.builtin "type.__call__" ⟨.ref C::us,kw⟩)).guards=A.guards:=by
 first|rfl|simp[Around.under,Code.guards,Code.isGuard,guardIds,pushGuards]
theorem zJ.make {k:Nat}{A:Around}(r:zJ (k+1) A)(C:Addr)(us:List Value)(kw:List (Str×Value)):zJ k (A.under (.builtin "type.__call__" ⟨.ref C::us,kw⟩)):=
 ⟨r.hd,by have:=r.dp;rw[qA];omega,by have:=r.un;rw[pA];omega,(qp (A:=A)).trans r.gd⟩
theorem zJ.depth {k:Nat}{A:Around}(r:zJ k A):A.depth<recursionLimit:=by have:=r.dp;omega
theorem zJ.units {k:Nat}{A:Around}(r:zJ k A):A.units+64<cLine:=by have:=r.un;omega
def dW :TA:=fun _ H Q=>Q [] H
def cK (ta:TE)(tr:TA):TA:=fun σ H Q=>ta σ H fun x H1=>tr σ H1 fun xs H2=>Q (x::xs) H2
section
variable {X:Cx}{e:Expr}{es:List Expr}{te:TE}{t:TA}{pos:Pos}
theorem zm :PA X [] dW:=fun _ _ _ _ H Q I h=>Calls.spliced_nil ⟨[],H,I,.nil,h⟩
theorem zc (ha:PE X e te)(hr:PA X es t)(hs:starEach (e::es) X.env=(false,eval e X.env)::starEach es X.env:=by rfl):PA X (e::es) (cK te t):=by
 intro pos pins s σ H Q I h
 rw[hs]
 show wpAny _ _ (spliced ((false,eval e X.env)::backTo pos (starEach es X.env))) _ _ s
 refine Calls.spliced_cons (thn (ha pins s σ H _ I h) fun u s1 ⟨x,H1,I1,r1,q1⟩=>?_)
 exact thn (hr pos pins s1 σ H1 _ I1 q1) fun us s2 ⟨xs,H2,I2,r2,q2⟩=>⟨x::xs,H2,I2,.cons r1 r2,q2⟩
def bV (t:TA):TE:=fun σ H Q=>t σ H fun xs H1=>xs.length≤sizeLine∧∀p,H1 p=none→Q (.ref p) (upd H1 p (.tup xs))
def bz (t:TA):TE:=fun σ H Q=>t σ H fun xs H1=>xs.length≤sizeLine∧∀p,H1 p=none→Q (.ref p) (upd H1 p (.lst xs))
theorem qC {x1}(h:PA X es t):PE X (.Tuple es x1 pos) (bV t):=by
 intro pins s σ H Q I hq
 refine wpAny_Tuple_spliced (thn (h pos pins s σ H _ I hq) fun us s1 ⟨xs,H1,I1,r,z,q⟩=>⟨by rw[←r.length];exact z,?_⟩)
 have hf:H1 s1.heap.objs.size=none:=I1.hok.fresh (aC _)
 refine⟨.ref s1.heap.objs.size,upd H1 s1.heap.objs.size (.tup xs),I1.laid (t':=s1.toks) (fun b u e=>aG _ e) (aC _) ?_,rfl,q _ hf⟩
 exact⟨z,us,r,⟨_,za2 _ rfl,rfl,_,rfl⟩⟩
theorem eB (h:PA X es t):PE X (.List es pos) (bz t):=by
 intro pins s σ H Q I hq
 refine wpAny_List_spliced (thn (h pos pins s σ H _ I hq) fun us s1 ⟨xs,H1,I1,r,z,q⟩=>⟨by rw[←r.length];exact z,?_⟩)
 have hf:H1 s1.heap.objs.size=none:=I1.hok.fresh (aC _)
 refine⟨.ref s1.heap.objs.size,upd H1 s1.heap.objs.size (.lst xs),I1.laid (t':=s1.toks) (fun b u e=>aG _ e) (aC _) ?_,rfl,q _ hf⟩
 exact⟨z,us,0,r,za2 _ rfl⟩
end
abbrev Sp :=List V→Hp→VK→XK→Prop
abbrev CXT :=List Env→Hp→Shared→XK→Value→Shared→Prop
structure qz (P:Program)(w:World)(K:PySem.W.Frag)(mg:Str→Option Value)(base:Heap)(A:Around)(outer:List Env)(s:Shared)(H:Hp):Prop where
 frames:A.frames=some outer
 mod:Mod K mg base
 bs:∀b o,base.get? b=some o→s.heap.get? b=some o∧H b=none
 bsz:base.objs.size≤s.heap.objs.size
 funs:s.heap.FunFrames base outer
 frf:∀b∈frs outer,H b=none
 hok:HOk P w H s.heap
 bare:AllBare s.gens
def CE (outer:List Env)(P:Program)(w:World)(H:Hp)(s:Shared)(Q:VK)(u:Value)(s':Shared):Prop:=
 ∃v H',s'.os=s.os∧AllBare s'.gens∧Un (frs outer) [] H H' s.heap s'.heap∧HOk P w H' s'.heap∧RelV v u∧Q v H'
def CR (CX:CXT)(outer:List Env)(P:Program)(w:World)(H:Hp)(s:Shared)(Q:VK)(E:XK)(r:Result)(s':Shared):Prop:=
 match r with
 |.ok (.ret u)=>CE outer P w H s Q u s'
 |.ok _=>False
 |.error e=>CX outer H s E e s'
structure zv (P:Program)(w:World)(K:PySem.W.Frag)(mg:Str→Option Value)(base:Heap)(CX:CXT)(k:Nat)(f:Addr)(fd:FuncData)(ps:List Str)(sp:Sp):Prop where
 len:∀vs H Q E,sp vs H Q E→vs.length=ps.length
 run:∀(A:Around) (outer:List Env) (s:Shared) (H:Hp) (args:Args) (us:List Value) (vs:List V) (Q:VK) (E:XK),zJ k A→qz P w K mg base A outer s H→BindsTo s fd args (ps.zip us)→Vals vs us→sp vs H Q E→
  codeAny (model P w) A (.call (.ref f) args) (CR CX outer P w H s Q E) s
theorem zv.imp {P:Program}{w:World}{K:PySem.W.Frag}{mg:Str→Option Value}{base:Heap}{CX:CXT}{k:Nat}{f:Addr}{fd:FuncData}{ps:List Str}{sp sp':Sp}(F:zv P w K mg base CX k f fd ps sp)
  (h:∀vs H Q E,sp' vs H Q E→sp vs H Q E):zv P w K mg base CX k f fd ps sp':=
 ⟨fun vs H Q E q=>F.len vs H Q E (h _ _ _ _ q),fun A outer s H args us vs Q E hr he hb hv hs=>F.run A outer s H args us vs Q E hr he hb hv (h _ _ _ _ hs)⟩
theorem qz.make {P:Program}{w:World}{K:PySem.W.Frag}{mg:Str→Option Value}{base:Heap}{A:Around}{outer:List Env}{s:Shared}{H:Hp}(e:qz P w K mg base A outer s H)(C:Addr)(us:List Value)(kw:List (Str×Value)):
  qz P w K mg base (A.under (.builtin "type.__call__" ⟨.ref C::us,kw⟩)) outer s H:=⟨by first|exact e.frames|(simpa[Around.under,Code.envs,Code.isFrame,pushEnvs] using e.frames),e.mod,e.bs,e.bsz,e.funs,e.frf,e.hok,e.bare⟩
section
variable {X:Cx}{pins:List (Addr×Obj)}{σ:St}{H:Hp}{s s':Shared}
theorem Inv.env0 (I:Inv X pins σ H s):qz X.prog X.w X.K X.mg X.base X.A X.stack s H:=
 ⟨I.ok.frames,I.ok.mod,I.bs,aP I.ok.bsz I.sz,I.stack,I.stkFree,I.hok,I.bare⟩
theorem Inv.after {Q:VK}{u:Value}(I:Inv X pins σ H s)(h:CE X.stack X.prog X.w H s Q u s'):EP X pins σ Q u s':=by
 obtain⟨v,H',os,bare,un,hok,r,q⟩:=h
 obtain⟨hh,g,d,t,os'⟩:=s'
 obtain rfl:os'=s.os:=os
 exact⟨v,H',I.call (h':=hh) (g':=g) (d':=d) (t':=t) (ch:=[]) un hok bare (fun b z=>absurd z (by simp)),r,q⟩
end
def cI (sp:Sp)(dvs:List V)(E:XK)(t:TA):TE:=fun σ H Q=>t σ H fun vs H1=>sp (vs++dvs) H1 Q E
def gZ (C:Addr)(m:Str)(sp:Sp)(dvs:List V)(E:XK)(ta:TE)(t:TA):TE:=fun σ H Q=>ta σ H fun x H1=>∃a dx fs,x=.ref a∧H1 a=some (.ins C dx fs)∧fs.lookup m=none∧
 t σ H1 fun vs H2=>sp (x::(vs++dvs)) H2 Q E
def cF (C:Addr)(sp:Sp)(dvs:List V)(E:XK)(t:TA):TE:=fun σ H Q=>t σ H fun vs H1=>∀x dx,H1 x=none→H1 dx=none→dx≠x→
 sp (.ref x::(vs++dvs)) (upd (upd H1 dx (.own x)) x (.ins C dx [])) (fun v H2=>v=.non∧Q (.ref x) H2) E
def Binds (K:PySem.W.Frag)(fd:FuncData)(ps:List Str)(ds:List Value):Prop:=
 ∀(s:Shared) (us:List Value),K.In s.heap→(us++ds).length=ps.length→BindsTo s fd ⟨us,[]⟩ (ps.zip (us++ds))
theorem Binds.all {K:PySem.W.Frag}{fd:FuncData}{ps:List Str}(h:∀us:List Value,us.length=ps.length→bindArgs fd ⟨us,[]⟩=pure (ps.zip us)):Binds K fd ps []:=fun s us _ hl=>by
 rw[ze4] at hl ⊢
 exact .of_eq (h us hl)
def Passes (CX:CXT)(X:Cx)(E:XK):Prop:=∀(pins:List (Addr×Obj)) (σ:St) (H:Hp) (s:Shared) (e:Value) (s':Shared),Inv X pins σ H s→CX X.stack H s E e s'→X.xe e s'
section
variable {X:Cx}{CX:CXT}{k:Nat}{f C:Addr}{fd:FuncData}{ps:List Str}{sp:Sp}{dvs:List V}{ds:List Value}{E:XK}{x m:Str}{p pos apos:Pos}{e o:Expr}{es:List Expr}{ta:TE}{t:TA}
theorem sT {pins:List (Addr×Obj)}{σ:St}{H:Hp}{s:Shared}{Q:VK}{us:List Value}{vs:List V}(F:zv X.prog X.w X.K X.mg X.base CX k f fd ps sp)(hr:zJ k X.A)(hb:Binds X.K fd ps ds)(hd:Vals dvs ds)(hx:Passes CX X E)
  (I:Inv X pins σ H s) (r:Vals vs us) (h:sp (vs++dvs) H Q E):wpAny (model X.prog X.w) X.A (call (.ref f) us) (EP X pins σ Q) X.xe s:=by
 have r2:Vals (vs++dvs) (us++ds):=r.append hd
 have hl:(us++ds).length=ps.length:=by rw[←r2.length];exact F.len _ _ _ _ h
 refine wpAny_call (codeAny_mono (F.run X.A X.stack s H ⟨us,[]⟩ (us++ds) (vs++dvs) Q E hr I.env0 (hb s us I.kIn hl) r2 h) fun r s' hq=>?_)
 cases r with
 |error e=>exact hx pins σ H s e s' I hq
 |ok fl=>
  cases fl with
  |ret u=>exact I.after hq
  |next=>exact False.elim hq
  |brk=>exact False.elim hq
  |cont=>exact False.elim hq
theorem zI (F:zv X.prog X.w X.K X.mg X.base CX k f fd ps sp)(hr:zJ k X.A)(hg:Gl X x)(hm:X.mg x=some (.ref f))(hk:PySem.W.keepIn X.K (.ref f)=true)(hb:Binds X.K fd ps ds)(hd:Vals dvs ds)(hx:Passes CX X E)
  (ha:PA X (e::es) t) (hdb:(x == ("__debug__":Str))=false:=by decide) (he:starEach (e::es) X.env=(false,eval e X.env)::starEach es X.env:=by rfl) (hpl:(backTo pos (starEach es X.env)).any (·.1)=false:=by rfl):
  PE X (.Call (.Name x p) (e::es) [] pos) (cI sp dvs E t):=by
 intro pins s σ H Q I h
 refine zd4 (vQ I hg hm ?_ hdb)
 refine ze5 (h₀:=X.base) I.ok.mod.kin hk (thn (ha pos pins s σ H _ I h) fun us s1 ⟨vs,H1,I1,r,q⟩=>⟨I1.kIn,?_⟩) he hpl
 exact sT F hr hb hd hx I1 r q
theorem ia {pl:Sem Bool}(he:PE X o ta)(c:Cls X.K C)(hm:Meth X.K C m f)(F:zv X.prog X.w X.K X.mg X.base CX k f fd ps sp)(hr:zJ k X.A)(hb:Binds X.K fd ps ds)(hd:Vals dvs ds)(hx:Passes CX X E)(ha:PA X (e::es) t)
  (hst:starEach (e::es) X.env=(false,eval e X.env)::starEach es X.env:=by rfl) (hpl:(backTo pos (starEach es X.env)).any (·.1)=false:=by rfl)
  (ht:eval (.Call (.Attribute o m apos) (e::es) [] pos) X.env=(do
   let ov ←eval o X.env
   standAt apos.atName
   let (f,first) ←holding [ov] (getMethod ov m pl)
   callWith pos f first (backTo pos (starEach (e::es) X.env)) (backToKw pos (keywordEach [] X.env))):=by rfl):
  PE X (.Call (.Attribute o m apos) (e::es) [] pos) (gZ C m sp dvs E ta t):=by
 intro pins s σ H Q I h
 refine zf6 (pl:=pl) (thn (he pins s σ H _ I h) fun u s1 ⟨x,H1,I1,rx,a,dx,fs,ex,ea,l,q⟩=>?_) ht
 subst ex
 obtain rfl:u=Value.ref a:=rx
 refine wG I1 ea c hm l ?_
 refine ze5 (first:=[.ref a]) (h₀:=X.base) I.ok.mod.kin hm.kp (thn (ha pos pins s1 σ H1 _ I1 q) fun us s2 ⟨vs,H2,I2,r,q2⟩=>⟨I2.kIn,?_⟩) hst hpl
 exact sT (us:=.ref a::us) (vs:=.ref a::vs) F hr hb hd hx I2 (.cons rfl r) q2
theorem vX {pl:Sem Bool}(he:PE X o ta)(c:Cls X.K C)(hm:Meth X.K C m f)(F:zv X.prog X.w X.K X.mg X.base CX k f fd ps sp)(hr:zJ k X.A)(hb:Binds X.K fd ps ds)(hd:Vals dvs ds)(hx:Passes CX X E)
  (ht:eval (.Call (.Attribute o m apos) [] [] pos) X.env=(do
   let ov ←eval o X.env
   standAt apos.atName
   let (f,first) ←holding [ov] (getMethod ov m pl)
   callWith pos f first (backTo pos (starEach [] X.env)) (backToKw pos (keywordEach [] X.env))):=by rfl):
  PE X (.Call (.Attribute o m apos) [] [] pos) (gZ C m sp dvs E ta dW):=by
 intro pins s σ H Q I h
 refine zf6 (pl:=pl) (thn (he pins s σ H _ I h) fun u s1 ⟨x,H1,I1,rx,a,dx,fs,ex,ea,l,q⟩=>?_) ht
 subst ex
 obtain rfl:u=Value.ref a:=rx
 refine wG I1 ea c hm l ?_
 exact PySem.W.callWith_K0 (first:=[.ref a]) I1.kIn hm.kp (sT (us:=[.ref a]) (vs:=[.ref a]) F hr hb hd hx I1 (.cons rfl .nil) q)
structure Mk (K:PySem.W.Frag)(C f:Addr):Prop where
 makes:PySem.W.makesIn K C=true
 init:PySem.W.findIn K (.ref C) "__init__"=some (some (.ref f))
 fn:PySem.W.isFn K (.ref f)=true
 kp:PySem.W.keepIn K (.ref C)=true
theorem kr {pins:List (Addr×Obj)}{σ:St}{H:Hp}{s:Shared}{Q:VK}{us:List Value}{vs:List V}(M:Mk X.K C f)(F:zv X.prog X.w X.K X.mg X.base CX k f fd ps sp)(hr:zJ (k+1) X.A)(hb:Binds X.K fd ps ds)(hd:Vals dvs ds)
  (hx:Passes CX X E) (I:Inv X pins σ H s) (r:Vals vs us)
  (h:∀x dx,H x=none→H dx=none→dx≠x→sp (.ref x::(vs++dvs)) (upd (upd H dx (.own x)) x (.ins C dx [])) (fun v H2=>v=.non∧Q (.ref x) H2) E):
  wpAny (model X.prog X.w) X.A (call (.ref C) us) (EP X pins σ Q) X.xe s:=by
 have hq:=h (s.heap.objs.size+1) s.heap.objs.size (I.hok.fresh (Nat.le_succ _)) (I.hok.fresh (aC _)) (aX (zf3 _))
 have I2:=Inv.made (C:=C) I
 have r2:Vals (V.ref (s.heap.objs.size+1)::(vs++dvs)) (Value.ref (s.heap.objs.size+1)::(us++ds)):=.cons rfl (r.append hd)
 have hl:(Value.ref (s.heap.objs.size+1)::us++ds).length=ps.length:=by
  have e:=r2.length
  rw[F.len _ _ _ _ hq] at e
  exact e.symm
 refine wpAny_call (jo (f:=f) I.kIn M.makes M.init (beq_iff_eq.mp M.fn) (codeAny_mono (F.run _ X.stack _ _ ⟨Value.ref (s.heap.objs.size+1)::us,[]⟩ (Value.ref (s.heap.objs.size+1)::(us++ds)) _ _ E (hr.make C us [])
  (I2.env0.make C us []) (hb _ (Value.ref (s.heap.objs.size+1)::us) I2.kIn hl) r2 hq) fun r s' hq'=>?_))
 cases r with
 |error e=>exact hx pins σ _ _ e s' I2 hq'
 |ok fl=>
  cases fl with
  |ret u=>
   obtain⟨v,H',I3,rv,ev,q3⟩:=I2.after hq'
   subst ev
   exact⟨rv,⟨V.ref (s.heap.objs.size+1),H',I3,rfl,q3⟩⟩
  |next=>exact False.elim hq'
  |brk=>exact False.elim hq'
  |cont=>exact False.elim hq'
theorem xm (M:Mk X.K C f)(F:zv X.prog X.w X.K X.mg X.base CX k f fd ps sp)(hr:zJ (k+1) X.A)(hg:Gl X x)(hm:X.mg x=some (.ref C))(hb:Binds X.K fd ps ds)(hd:Vals dvs ds)(hx:Passes CX X E)
  (ha:PA X (e::es) t) (hdb:(x == ("__debug__":Str))=false:=by decide) (he:starEach (e::es) X.env=(false,eval e X.env)::starEach es X.env:=by rfl) (hpl:(backTo pos (starEach es X.env)).any (·.1)=false:=by rfl):
  PE X (.Call (.Name x p) (e::es) [] pos) (cF C sp dvs E t):=by
 intro pins s σ H Q I h
 refine zd4 (vQ I hg hm ?_ hdb)
 refine ze5 (h₀:=X.base) I.ok.mod.kin M.kp (thn (ha pos pins s σ H _ I h) fun us s1 ⟨vs,H1,I1,r,q⟩=>⟨I1.kIn,?_⟩) he hpl
 exact kr M F hr hb hd hx I1 r q
end
section
variable {X:Cx}{CX:CXT}{k:Nat}{f C:Addr}{fd:FuncData}{ps ks:List Str}{sp:Sp}{E:XK}{x m:Str}{p pos apos kpos:Pos}{e o:Expr}{es:List Expr}{kws:List Keyword}{te ta:TE}{t tk:TA}{nm:Option Str}
variable {g:List Value→List Value→List Value}{gV:List V→List V→List V}
end
structure zi (N P:List Str)(sc:Scope):Prop where
 kind:sc.kind=.function
 co:sc.isCoroutine=false
 gen:sc.isGenerator=false
 nd:N.Nodup
 pre:N.take P.length=P
 par:∀x∈P,sc.names.lookup x=some .local∨sc.names.lookup x=some .cell
 nofree:∀y∈sc.names,y.2≠.free
theorem tj {kindOf:Str→Option NameKind}{x:Str}:∀{binds:List (Str×Value)} {m:Str→Option Value},(∀v,(x,v)∉binds)→bindL kindOf binds m x=m x
 |[],_,_=>rfl
 |(n,v)::r,m,h=>by
  unfold bindL
  rw[tj fun w hw=>h w (az _ hw)]
  split
  ·have:x≠n:=by rintro rfl;exact h v aA
   simp[this]
  ·rfl
theorem tF {kindOf:Str→Option NameKind}{x:Str}:∀{binds:List (Str×Value)} {m:Str→Option Value},(∀v,(x,v)∉binds)→bindC kindOf binds m x=m x
 |[],_,_=>rfl
 |(n,v)::r,m,h=>by
  unfold bindC
  rw[tF fun w hw=>h w (az _ hw)]
  split
  ·rfl
  ·have:x≠n:=by rintro rfl;exact h v aA
   simp[this]
theorem uW {kindOf:Str→Option NameKind}{x:Str}{v:Value}:∀{P:List Str} {vs:List Value} {i:Nat} {m:Str→Option Value},P.Nodup→P[i]?=some x→vs[i]?=some v→kindOf x=some .local→
  bindL kindOf (P.zip vs) m x=some v
 |[],_,_,_,_,h,_,_=>by simp at h
 |_::_,[],_,_,_,_,h,_=>by simp at h
 |p::P,w::vs,0,m,nd,h1,h2,hk=>by
  simp at h1 h2;subst h1;subst h2
  show bindL kindOf ((p,w)::P.zip vs) m p=_
  unfold bindL
  rw[tj fun v hv=>(zf9.mp nd).1 (List.of_mem_zip hv).1,if_pos hk]
  simp
 |p::P,w::vs,i+1,m,nd,h1,h2,hk=>by
  show bindL kindOf ((p,w)::P.zip vs) m x=_
  unfold bindL
  exact uW (i:=i) (zf9.mp nd).2 (by simpa using h1) (by simpa using h2) hk
theorem tu {kindOf:Str→Option NameKind}{x:Str}{v:Value}:∀{P:List Str} {vs:List Value} {i:Nat} {m:Str→Option Value},P.Nodup→P[i]?=some x→vs[i]?=some v→kindOf x≠some .local→
  bindC kindOf (P.zip vs) m x=some v
 |[],_,_,_,_,h,_,_=>by simp at h
 |_::_,[],_,_,_,_,h,_=>by simp at h
 |p::P,w::vs,0,m,nd,h1,h2,hk=>by
  simp at h1 h2;subst h1;subst h2
  show bindC kindOf ((p,w)::P.zip vs) m p=_
  unfold bindC
  rw[tF fun v hv=>(zf9.mp nd).1 (List.of_mem_zip hv).1,if_neg hk]
  simp
 |p::P,w::vs,i+1,m,nd,h1,h2,hk=>by
  show bindC kindOf ((p,w)::P.zip vs) m x=_
  unfold bindC
  exact tu (i:=i) (zf9.mp nd).2 (by simpa using h1) (by simpa using h2) hk
def start (N:List Str)(vs:List V):St:=vs.map some++List.replicate (N.length-vs.length) none
def vq (CX:CXT)(P:Program)(w:World)(K:PySem.W.Frag)(mg:Str→Option Value)(base:Heap)(N:List Str)(qual:Str)(scope:Scope)(f:Addr)(cd:Value)(A:Around)(outer:List Env)(s:Shared)(H:Hp)(E:XK):Cx where
 prog:=P
 w:=w
 K:=K
 mg:=mg
 base:=base
 A:=A.deeper (envOfC qual scope s.heap.objs.size f cd)
 N:=N
 s₀:=s
 H₀:=H
 env:=envOfC qual scope s.heap.objs.size f cd
 outer:=outer
 stack:=envOfC qual scope s.heap.objs.size f cd::outer
 ex:=[]
 calm:=true
 fn:=fun _=>true
 pn:=[]
 xe:=fun e s'=>wpAny (model P w) (A.deeper (envOfC qual scope s.heap.objs.size f cd)) (leaving (envOfC qual scope s.heap.objs.size f cd) e) (fun _ s''=>CX outer H s E e s'') (fun e' s''=>CX outer H s E e' s'') s'
theorem rY {sc:Scope}{n:Nat}{x:Str}(h:sc.names.lookup x=some .cell):∃c,(cellsFrom n sc.names []).lookup x=some c:=by
 have q:=PySem.W.cellsFrom_some sc.names n [] (.inl h)
 exact Option.isSome_iff_exists.mp q
theorem nZ {CX:CXT}{P:Program}{w:World}{K:PySem.W.Frag}{mg:Str→Option Value}{base:Heap}{N ps:List Str}{qual:Str}{scope:Scope}{f:Addr}{cd:Value}{A:Around}{outer:List Env}{s s1:Shared}{H:Hp}{E:XK}{us:List Value}{vs:List V}
  (S:zi N ps scope) (hd:A.handled=none) (e0:qz P w K mg base A outer s H) (hl:vs.length=ps.length) (r:Vals vs us)
  (x:InCallC s s.heap.objs.size (bindL (envOfC qual scope s.heap.objs.size f cd).kindOf (ps.zip us) fun _=>none) (cellsFrom (s.heap.objs.size+1) scope.names []) (bindC (envOfC qual scope s.heap.objs.size f cd).kindOf (ps.zip us) fun _=>none) s1):
  Inv (vq CX P w K mg base N qual scope f cd A outer s H E) [] (start N vs) H s1:=by
 have hpl:ps.length≤N.length:=by have:=congrArg List.length S.pre;rw[zf4] at this;omega
 obtain⟨h1,tk,rfl,hk⟩:=x.done
 have noA:∀b:Addr,b∉(vq CX P w K mg base N qual scope f cd A outer s H E).ex:=fun b z=>absurd (show b∈([]:List Addr) from z) (by simp)
 refine⟨⟨e0.mod,S.kind,rfl,rfl,aC _,fun y z c h1 h2=>?_,fun y hy=>?_,fun y c _ h=>?_,fun _=>hd,Around.frames_deeper e0.frames,.inr ⟨rfl,rfl⟩,fun b z=>absurd z (noA b),e0.bs,e0.bsz,fun b _ _=>noA b,fun b z=>absurd z (noA b),e0.funs,e0.frf⟩,
  rfl,e0.bare,Un.kept hk,⟨_,x.toInCall.ns,fun i y v h1 h2 h3=>?_⟩,fun y c h=>⟨_,x.cell y c h⟩,e0.hok.fresh (aC _),fun y c h=>?_,fun p hp=>absurd (show p∈([]:List (Addr×Obj)) from hp) (by simp),e0.hok.kept hk,?_⟩
 ·exact name_of_addr x.apart (zb2 h1) (zb2 h2)
 ·have hy:scope.names.lookup y=some .cell∨scope.names.lookup y=some .free:=hy
  rcases hy with hy|hy
  ·exact rY hy
  ·exact absurd rfl (S.nofree _ (zb2 hy))
 ·exact zd1 (x.above y c (zb2 h))
 ·have hi:i<vs.length:=by
   unfold start at h2
   by_cases hi:i<vs.length
   ·exact hi
   ·rw[zc7 (by simpa using hi)] at h2
    rw[zd2] at h2
    split at h2<;>cases h2
  have ha:vs[i]?=some v:=by
   unfold start at h2
   rw[zc1 (by simpa using hi),aU] at h2
   cases e:vs[i]? with
   |none=>rw[e] at h2;cases h2
   |some a=>rw[e] at h2;cases h2;rfl
  obtain⟨u,hu,rv⟩:=r.get ha
  have hp:ps[i]?=some y:=by
   rw[←S.pre,List.getElem?_take_of_lt (by omega)];exact h1
  have ndP:ps.Nodup:=by rw[←S.pre];exact S.nd.sublist (List.take_sublist _ _)
  refine⟨u,rv,?_⟩
  rcases S.par y (zc2 hp) with k|k
  ·exact .inl ⟨k,uW ndP hp hu k⟩
  ·obtain⟨c,e⟩:=rY (n:=s.heap.objs.size+1) k
   refine .inr ⟨.inl k,c,e,?_⟩
   have q:=x.cell y c e
   rw[tu ndP hp hu (by show scope.names.lookup y≠_;rw[k];decide)] at q
   exact q
 ·exact e0.hok.fresh (zd1 (x.above y c (zb2 h)))
 ·unfold start
  show _=N.length
  rw[zb4,ax,List.length_replicate]
  omega
theorem gW {CX:CXT}{P:Program}{w:World}{K:PySem.W.Frag}{mg:Str→Option Value}{base:Heap}{k:Nat}{f:Addr}{name qual:Str}{params:Arguments}{body:List Stmt}{scope:Scope}{dV kV doc pm cdv ct oc:Value}{an od:Option Addr}
  {osl:Array (Option Value)} {N ps:List Str} {sp:Sp} (lk:K.lookup f=some ⟨oc,od,.func (PySem.W.fnOf name qual params body scope dV kV doc pm an cdv ct),osl⟩) (hcd:PySem.W.codeIn K cdv qual=true) (S:zi N ps scope)
  (len:∀vs H Q E,sp vs H Q E→vs.length=ps.length)
  (hbody:∀(A:Around) (outer:List Env) (s:Shared) (H:Hp) (vs:List V) (Q:VK) (E:XK),zJ k (A.deeper (envOfC qual scope s.heap.objs.size f cdv))→sp vs H Q E→
   ∃t,PSs (vq CX P w K mg base N qual scope f cdv A outer s H E) body t∧t {nx:=fun _ H'=>Q .non H',rt:=Q} (start N vs) H):
  zv P w K mg base CX (k+1) f (PySem.W.fnOf name qual params body scope dV kV doc pm an cdv ct) ps sp:=by
 refine⟨len,fun A outer s H args us vs Q E hr e0 hb r hsp=>?_⟩
 have hl:=len _ _ _ _ hsp
 have KX:K.In s.heap:=e0.mod.kin.keeps fun b o e=>(e0.bs b o e).1
 have lim:s.heap.NoLimit:=e0.mod.nolimit.keeps fun b o e=>(e0.bs b o e).1
 have hkind:∀y∈ps.zip us,scope.names.lookup y.1=some .local∨(scope.names.lookup y.1=some .cell∧((cellsFrom (s.heap.objs.size+1) scope.names []).lookup y.1).isSome=true):=fun⟨n,v⟩ hy=>by
  rcases S.par n (List.of_mem_zip hy).1 with q|q
  ·exact .inl q
  ·exact .inr ⟨q,PySem.W.cellsFrom_some _ _ _ (.inl q)⟩
 refine codeAny_call_function hr.depth (KX _ _ lk) rfl S.co S.gen rfl (PySem.W.codeRec_of KX hcd) (hb _ _ _ _ ?_)
 refine wpAny_newFunctionEnv_cells S.kind hkind fun env he s1 x=>?_
 subst he
 refine⟨lim.keeps x.toInCall.keep,codeAny_func ?_⟩
 obtain⟨t,ht,hq⟩:=hbody A outer s H vs Q E (hr.deeper _) hsp
 have I:Inv (vq CX P w K mg base N qual scope f cdv A outer s H E) [] (start N vs) H s1:=nZ S hr.hd e0 hl r x
 refine za7 (ht [] s1 (start N vs) H _ I hq) (fun fl s' hs=>?_) fun e s' hs=>hs
 have fin:∀{σ':St} {H':Hp} {v:V} {u:Value},Inv (vq CX P w K mg base N qual scope f cdv A outer s H E) [] σ' H' s'→RelV v u→Q v H'→CE outer P w H s Q u s':=
  fun {σ' H' v u} J rv q=>⟨v,H',J.os,J.bare,J.base,J.hok,rv,q⟩
 cases fl with
 |ret u=>
  obtain⟨v,σ',H',J,rv,q⟩:=hs
  exact fin J rv q
 |next=>
  obtain⟨σ',H',J,q⟩:=hs
  exact fin (v:=V.non) (u:=Value.none) J rfl q
 |brk=>
  obtain⟨_,_,_,q⟩:=hs
  exact False.elim q
 |cont=>
  obtain⟨_,_,_,q⟩:=hs
  exact False.elim q
section
variable {X:Cx}{x:Str}{p pos:Pos}{e:Expr}{es:List Expr}{t:TA}{id T:String}{r:List V→Hp→VK→Prop}
def tCB (r:List V→Hp→VK→Prop)(t:TA):TE:=fun σ H Q=>t σ H fun vs H1=>r vs H1 Q
theorem yh (hc:yN X (.builtin id) r)(hg:Gl X x)(hm:X.mg x=none)(hv:bootBuiltins x=some (.builtin id))(ha:PA X (e::es) t)(hn:x≠"__name__":=by decide)(hdb:(x == ("__debug__":Str))=false:=by decide)
  (he:starEach (e::es) X.env=(false,eval e X.env)::starEach es X.env:=by rfl) (hpl:(backTo pos (starEach es X.env)).any (·.1)=false:=by rfl):PE X (.Call (.Name x p) (e::es) [] pos) (tCB r t):=by
 intro pins s σ H Q I h
 refine zd4 (uE I hg hm hv ?_ hn hdb)
 exact PyProof.Rows.callWith_builtin1 (thn (ha pos pins s σ H _ I h) fun us s1 ⟨vs,H1,I1,r1,q1⟩=>hc pins s1 σ H1 vs us Q I1 r1 q1) he hpl
theorem xt (hc:yN X (.type T) r)(hg:Gl X x)(hm:X.mg x=none)(hv:bootBuiltins x=some (.type T))(ha:PA X (e::es) t)(hn:x≠"__name__":=by decide)(hdb:(x == ("__debug__":Str))=false:=by decide)
  (he:starEach (e::es) X.env=(false,eval e X.env)::starEach es X.env:=by rfl) (hpl:(backTo pos (starEach es X.env)).any (·.1)=false:=by rfl):PE X (.Call (.Name x p) (e::es) [] pos) (tCB r t):=by
 intro pins s σ H Q I h
 refine zd4 (uE I hg hm hv ?_ hn hdb)
 exact ze0 (thn (ha pos pins s σ H _ I h) fun us s1 ⟨vs,H1,I1,r1,q1⟩=>hc pins s1 σ H1 vs us Q I1 r1 q1) he hpl
end
end L2
namespace HT
open PySem PyProof.Rows
section
open PySem.SeqAt
open PySem.AutoSeq1 (wpAny_loadPart')
open PySem.MeetsSeq PySem.MeetsSeq2 PySem.MeetsSeq3
end
section
variable {prog:Program}{w:World}{A:Around}{E:Value→Shared→Prop}{s:Shared}
def sIx (n d:Nat):Option Int→Nat
 |none=>d
 |some v=>if v<0 then (v+(n:Int)).toNat else min v.toNat n
theorem rp (n d:Nat):sIx n d none=d:=rfl
theorem jX (n d k:Nat):sIx n d (some (k:Int))=min k n:=by
 show (if (k:Int)<0 then ((k:Int)+(n:Int)).toNat else min (k:Int).toNat n)=min k n
 rw[if_neg (by omega),Int.toNat_natCast]
end
end HT
namespace L2
open PySem PySem.Spec PyProof.Rows
abbrev TO :=St→Hp→(Option Int→Hp→Prop)→Prop
def PO (X:Cx)(e:Option Expr)(t:TO):Prop:=
 ∀(pins:List (Addr×Obj)) (s:Shared) (σ:St) (H:Hp) (Q:Option Int→Hp→Prop),Inv X pins σ H s→t σ H Q→
  wpAny (model X.prog X.w) X.A (evalPart e X.env) (fun u s'=>∃o H',Inv X pins σ H' s'∧IsPart u o∧Q o H') X.xe s
def iR :TO:=fun _ H Q=>Q none H
def cZ (t:TE):TO:=fun σ H Q=>t σ H fun x H1=>∃i,x=.int i∧Q (some i) H1
section
variable {X:Cx}{e:Expr}{te:TE}{lo hi:Option Expr}{tl th:TO}{pos p2:Pos}
theorem gk :PO X none iR:=by
 intro pins s σ H Q I h
 rw[evalPart_none]
 exact zb3 ⟨none,H,I,.none,h⟩
theorem gf (h:PE X e te):PO X (some e) (cZ te):=by
 intro pins s σ H Q I hw
 rw[evalPart_some]
 refine thn (h pins s σ H _ I hw) fun u s1 ⟨x,H1,I1,r1,q1⟩=>?_
 obtain⟨i,rfl,q⟩:=q1
 obtain⟨t,rfl⟩:=r1
 exact⟨some i,H1,I1,.int i t,q⟩
def SlR (X:Cx)(r:V→Option Int→Option Int→Hp→VK→Prop):Prop:=
 ∀(pins:List (Addr×Obj)) (s:Shared) (σ:St) (H:Hp) (x:V) (v vl vu:Value) (lo hi:Option Int) (sl:Addr) (Q:VK),Inv X pins σ H s→RelV x v→s.heap.IsSliceOf sl vl vu .none→IsPart vl lo→IsPart vu hi→r x lo hi H Q→
  ∃T id,typeLookup (.type T) "__getitem__"=pure (some (.builtin id))∧s.TypeIs v T∧wpAny (model X.prog X.w) X.A (getItem v (.ref sl)) (EP X pins σ Q) X.xe s
def tSl (r:V→Option Int→Option Int→Hp→VK→Prop)(te:TE)(tl th:TO):TE:=fun σ H Q=>te σ H fun x H1=>tl σ H1 fun l H2=>th σ H2 fun u H3=>r x l u H3 Q
theorem jd {r:V→Option Int→Option Int→Hp→VK→Prop}(hr:SlR X r)(he:PE X e te)(hl:PO X lo tl)(hu:PO X hi th):PE X (.Subscript e (.Slice lo hi none p2) pos) (tSl r te tl th):=by
 intro pins s σ H Q I h
 refine Subscript_ (thn (he pins s σ H _ I h) fun v s1 ⟨x,H1,I1,r1,q1⟩=>?_)
 refine wpAny_Slice (thn (hl pins s1 σ H1 _ I1 q1) fun vl s2 ⟨l,H2,I2,pl,q2⟩=>thn (hu pins s2 σ H2 _ I2 q2) fun vu s3 ⟨u,H3,I3,pu,q3⟩=>?_)
 rw[evalPart_none]
 refine zb3 ?_
 have I4:Inv X pins σ H3 {s3 with heap:=s3.heap.push {cls:=.type "slice",data:=.fields #[vl,vu,.none]}}:=I3.kept (t':=s3.toks) fun b ob q=>aG _ q
 obtain⟨T,id,hT,ht,hg⟩:=hr pins {s3 with heap:=s3.heap.push {cls:=.type "slice",data:=.fields #[vl,vu,.none]}} σ H3 x v vl vu l u s3.heap.objs.size Q I4 r1 (Heap.IsSliceOf.new ..) pl pu q3
 show wpAny (model X.prog X.w) X.A (subscriptTail e (.Slice lo hi none p2) v (.ref s3.heap.objs.size)) (EP X pins σ Q) X.xe {s3 with heap:=s3.heap.push {cls:=.type "slice",data:=.fields #[vl,vu,.none]}}
 exact tail_any (ops:=[.ref s3.heap.objs.size,v]) ht hT hg (by with_unfolding_all rfl)
def ml (xs:List V)(lo hi:Option Int):List V:=(xs.drop (HT.sIx xs.length 0 lo)).take (HT.sIx xs.length xs.length hi-HT.sIx xs.length 0 lo)
theorem rC (xs:List V)(lo hi:Option Int):(ml xs lo hi).length≤xs.length:=by
 unfold ml
 rw[zf4,List.length_drop]
 omega
end
def ixN (n:Nat)(i:Int):Option Nat:=if 0≤i then (if i<n then some i.toNat else none) else if -(n:Int)≤i then some (i+n).toNat else none
def atI {α:Type}(xs:List α)(i:Int):Option α:=(ixN xs.length i).bind fun j=>xs[j]?
theorem oO {n:Nat}{i:Int}{j:Nat}(h:ixN n i=some j):seqIndex? i n=some j∧j<n∧-(n:Int)≤i∧i<n:=by
 unfold ixN at h
 by_cases h0:0≤i
 ·rw[if_pos h0] at h
  by_cases h1:i<n
  ·rw[if_pos h1] at h
   have e:i.toNat=j:=aL h
   exact⟨by rw[seqIndex_of h0 h1,e],by omega,by omega,h1⟩
  ·rw[if_neg h1] at h;cases h
 ·rw[if_neg h0] at h
  by_cases h1:-(n:Int)≤i
  ·rw[if_pos h1] at h
   have e:(i+n).toNat=j:=aL h
   exact⟨by rw[seqIndex_neg (by omega) h1,e],by omega,h1,by omega⟩
  ·rw[if_neg h1] at h;cases h
theorem tX {α:Type}{xs:List α}{i:Int}{v:α}(h:atI xs i=some v):∃j,seqIndex? i xs.length=some j∧xs[j]?=some v∧j<xs.length∧-(xs.length:Int)≤i∧i<xs.length:=by
 unfold atI at h
 cases e:ixN xs.length i with
 |none=>rw[e] at h;cases h
 |some j=>
  rw[e] at h
  obtain⟨h1,h2,h3,h4⟩:=oO e
  exact⟨j,h1,h,h2,h3,h4⟩
theorem xH {α:Type}{xs:List α}{j:Nat}{v:α}(h:xs[j]?=some v):atI xs (j:Int)=some v:=by
 have hj:j<xs.length:=(aH.mp h).1
 have e:ixN xs.length (j:Int)=some j:=by
  unfold ixN
  rw[if_pos (by omega),if_pos (by omega)];simp
 unfold atI;rw[e];exact h
def vc (b:Expr):Prop:=∀o i,subscripted b false o i=operate [o,i] (getItem o i)
def IxR (X:Cx)(r:R2):Prop:=
 ∀(value slice:Expr) (pins:List (Addr×Obj)) (s:Shared) (σ:St) (H:Hp) (x y:V) (v u:Value) (Q:VK),Inv X pins σ H s→RelV x v→RelV y u→r x y H Q→
  subscripted slice false v u=operate [v,u] (getItem v u)→wpAny (model X.prog X.w) X.A (subscriptTail value slice v u) (EP X pins σ Q) X.xe s
def MtR (X:Cx)(id:String)(r:V→List V→Hp→VK→Prop):Prop:=
 ∀(pins:List (Addr×Obj)) (s:Shared) (σ:St) (H:Hp) (x:V) (xs:List V) (v:Value) (us:List Value) (Q:VK),Inv X pins σ H s→RelV x v→Vals xs us→r x xs H Q→
  wpAny (model X.prog X.w) X.A (call (.builtin id) (v::us)) (EP X pins σ Q) X.xe s
section
variable {X:Cx}{a b:Expr}{ta tb:TE}{pos:Pos}
theorem IxR.or {r r':R2}(h:IxR X r)(h':IxR X r'):IxR X (fun x y H Q=>r x y H Q∨r' x y H Q):=by
 intro value slice pins s σ H x y v u Q I rx ry q hs
 rcases q with q|q
 ·exact h value slice pins s σ H x y v u Q I rx ry q hs
 ·exact h' value slice pins s σ H x y v u Q I rx ry q hs
theorem zV {r:R2}(hr:IxR X r)(ha:PE X a ta)(hb:PE X b tb)(hs:vc b):PE X (.Subscript a b pos) (tOp r ta tb):=by
 intro pins s σ H Q I h
 exact Subscript_ (dC ha hb I h fun v u s2 x y H2 I2 rx ry q=>hr a b pins s2 σ H2 x y v u Q I2 rx ry q (hs _ _))
def ej (K:PySem.W.Frag):R2:=fun x y H Q=>∃p xs i v,x=.ref p∧y=.int i∧SqL K H p xs∧atI xs i=some v∧Q v H
def dS (K:PySem.W.Frag):R2:=fun x y H Q=>∃p xs i v,x=.ref p∧y=.int i∧SqT K H p xs∧atI xs i=some v∧Q v H
def dU :R2:=fun x y H Q=>∃z i c,x=.str z∧y=.int i∧z.length≤sizeLine∧atI z.cps.toList i=some c∧Q (.str ⟨#[c]⟩) H
theorem yI :IxR X (ej X.K):=by
 intro value slice pins s σ H x y v u Q I rx ry h hs
 obtain⟨p,xs,i,z,rfl,rfl,hq,he,q⟩:=h
 cases rx
 obtain⟨t,rfl⟩:=ry
 obtain⟨its,r,pl,hz⟩:=I.list hq
 obtain⟨j,h1,h2,h3,h4,h5⟩:=tX he
 obtain⟨w,ew,rw'⟩:=r.get h2
 have hl:=r.length
 have hn:=vv
 have fin:EP X pins σ Q w s:=⟨z,H,I,rw',q⟩
 by_cases h0:0≤i
 ·have hj:i.toNat=j:=by
   rw[seqIndex_of h0 h5] at h1
   exact aL h1
  exact item_listR pl.isList h0 (by omega) (by rw[hj];simpa using ew) fin hs
 ·have hj:(i+(its.toArray.size:Int)).toNat=j:=by
   rw[seqIndex_neg (by omega) h4] at h1
   rw[aN,←hl]
   exact aL h1
  exact subscriptTail_builtinR (x:=w) pl.isList.typeIs slot_list_getitem.lookup
   (wpAny_getItem_list_neg (Q:=fun r s'=>r=w∧EP X pins σ Q r s') pl.isList (by omega) (by rw[aN]<;>omega) (by omega) (by rw[hj];simpa using ew) ⟨rfl,fin⟩) hs
theorem yp :IxR X (dS X.K):=by
 intro value slice pins s σ H x y v u Q I rx ry h hs
 obtain⟨p,xs,i,z,rfl,rfl,hq,he,q⟩:=h
 cases rx
 obtain⟨t,rfl⟩:=ry
 obtain⟨its,r,pl,hz⟩:=I.tuple hq
 obtain⟨j,h1,h2,h3,h4,h5⟩:=tX he
 obtain⟨w,ew,rw'⟩:=r.get h2
 have hl:=r.length
 have hn:=vv
 have fin:EP X pins σ Q w s:=⟨z,H,I,rw',q⟩
 exact subscriptTail_builtinR (x:=w) pl.typeIs slot_tuple_getitem.lookup
  (getItem_tuple (j:=j) (Q:=fun r s'=>r=w∧EP X pins σ Q r s') pl (by omega) (by omega) (by rw[aN,←hl];exact h1) (by simpa using ew) ⟨rfl,fin⟩) hs
theorem mV :IxR X dU:=by
 intro value slice pins s σ H x y v u Q I rx ry h hs
 obtain⟨z,i,c,rfl,rfl,hz,he,q⟩:=h
 obtain⟨t,rfl⟩:=rx
 obtain⟨t',rfl⟩:=ry
 obtain⟨j,h1,h2,h3,h4,h5⟩:=tX he
 have hl:z.cps.toList.length=z.length:=by simp[Str.length]
 rw[hl] at h1 h4 h5
 have hn:=vv
 exact tail_any (typeIs_str s z t) slot_str_getitem.lookup (getItem_str (c:=c) (by
  have e1:decide (i < -(2 ^ 63:Int))=false:=aK (by omega)
  have e2:decide (i≥2 ^ 63)=false:=aK (by omega)
  rw[e1,e2,Bool.or_false]) (by rw[h1];simpa using h2) ⟨.str ⟨#[c]⟩,H,I.tok _,⟨_,rfl⟩,q⟩) hs
def rIx (K:PySem.W.Frag):R2:=fun x y H Q=>ej K x y H Q∨dS K x y H Q∨dU x y H Q
theorem fK :IxR X (rIx X.K):=yI.or (yp.or mV)
theorem qM (its:List Value)(n j:Nat)(u:Value):Obj.mapSeq (·.setIfInBounds j u) {cls:=.type "list",data:=.seq its.toArray n}={cls:=.type "list",data:=.seq (its.set j u).toArray n}:=by
 simp[Obj.mapSeq]
theorem Inv.lst {pins:List (Addr×Obj)}{σ:St}{H:Hp}{s:Shared}{p:Addr}{xs:List V}(I:Inv X pins σ H s)(h:H p=some (.lst xs)):
  ∃(its:List Value) (n:Nat),Vals xs its∧s.heap.get? p=some {cls:=.type "list",data:=.seq its.toArray n}∧xs.length≤sizeLine:=by
 obtain⟨z,its,n,r,e⟩:=I.hok p _ h
 exact⟨its,n,r,e,z⟩
theorem Inv.lstUpd {pins:List (Addr×Obj)}{σ:St}{H:Hp}{s:Shared}{p:Addr}{xs ys:List V}{its its':List Value}{n n':Nat}{f:Obj→Obj}(I:Inv X pins σ H s)(h:H p=some (.lst xs))
  (ho:s.heap.get? p=some {cls:=.type "list",data:=.seq its.toArray n}) (hf:f {cls:=.type "list",data:=.seq its.toArray n}={cls:=.type "list",data:=.seq its'.toArray n'}) (r:Vals ys its') (hz:ys.length≤sizeLine) (t:Nat):
  Inv X pins σ (upd H p (.lst ys)) {s with heap:=s.heap.update p f,toks:=t}:=by
 have e:(s.heap.update p f).get? p=some {cls:=.type "list",data:=.seq its'.toArray n'}:=by
  rw[Heap.get?_update_self f ho (by rw[hf]<;>rfl),hf]
 refine I.write (x:=p) (e:=p) (by rw[h];trivial) (.inl rfl) (fun b u hb q=>(Heap.get?_update_other _ _ (Ne.symm hb)).trans q) ⟨_,e⟩ ?_
 exact⟨hz,its',n',r,e⟩
def fu :V→V→V→Hp→(Hp→Prop)→Prop:=fun o i v H Q=>∃p xs k j,o=.ref p∧i=.int k∧H p=some (.lst xs)∧ixN xs.length k=some j∧Q (upd H p (.lst (xs.set j v)))
theorem set_list :cQ X fu:=by
 intro pins s σ H o i v ov iv u Q I ro ri rv h
 obtain⟨p,xs,k,j,rfl,rfl,hp,hj,q⟩:=h
 cases ro
 obtain⟨t,rfl⟩:=ri
 obtain⟨its,n,r,ho,hz⟩:=I.lst hp
 obtain⟨h1,h2,h3,h4⟩:=oO hj
 have hl:=r.length
 have hn:=vv
 have I':Inv X pins σ (upd H p (.lst (xs.set j v))) {s with heap:=s.heap.update p (Obj.mapSeq (·.setIfInBounds j u))}:=
  I.lstUpd hp ho (qM its n j u) (r.set rv j) (by rw[za6];exact hz) s.toks
 by_cases h0:0≤k
 ·have hk:k.toNat=j:=by
   rw[seqIndex_of h0 h4] at h1
   exact aL h1
  exact PySem.W.ki_setAt ho h0 (by omega) (by rw[aN,←hl];exact h4) (by rw[hk];exact⟨_,I',q⟩)
 ·have hk:(k+(its.toArray.size:Int)).toNat=j:=by
   rw[seqIndex_neg (by omega) h3] at h1
   rw[aN,←hl]
   exact aL h1
  exact PySem.W.ki_setBack ho (by omega) (by rw[aN,←hl];exact h3) (by omega) (by rw[hk];exact⟨_,I',q⟩)
theorem sF (lo hi:Option Int)(n:Nat):(sliceBounds lo hi none n).1=((HT.sIx n 0 lo:Nat):Int)∧(sliceBounds lo hi none n).2.1=((HT.sIx n n hi:Nat):Int)∧(sliceBounds lo hi none n).2.2=1:=by
 refine⟨?_,?_,rfl⟩
 ·cases lo with
  |none=>simp[sliceBounds,HT.sIx]
  |some i=>
   simp only[sliceBounds,HT.sIx,Option.getD_none,show (1:Int) > 0 by decide,if_true]
   by_cases h:i<0
   ·simp only[h,if_true]<;>omega
   ·simp only[h,if_false]<;>omega
 ·cases hi with
  |none=>simp[sliceBounds,HT.sIx]
  |some i=>
   simp only[sliceBounds,HT.sIx,Option.getD_none,show (1:Int) > 0 by decide,if_true]
   by_cases h:i<0
   ·simp only[h,if_true]<;>omega
   ·simp only[h,if_false]<;>omega
theorem uQ (its:List Value)(lo hi:Option Int):slicePick its.toArray lo hi none=((its.drop (HT.sIx its.length 0 lo)).take (HT.sIx its.length its.length hi-HT.sIx its.length 0 lo)).toArray:=by
 obtain⟨h1,h2,h3⟩:=sF lo hi its.toArray.size
 unfold slicePick
 rw[h1,h2,h3]
 simp only[sliceRange_one,pick_run,aN]<;>rfl
def bA (K:PySem.W.Frag):V→Option Int→Option Int→Hp→VK→Prop:=fun x lo hi H Q=>∃a xs,x=.ref a∧SqL K H a xs∧∀p,H p=none→Q (.ref p) (upd H p (.lst (ml xs lo hi)))
theorem gr :SlR X (bA X.K):=by
 intro pins s σ H x v vl vu lo hi sl Q I rx hs pl pu h
 obtain⟨a,xs,rfl,hx,q⟩:=h
 cases rx
 obtain⟨its,r,ht,hz⟩:=I.list hx
 have hlen:=r.length
 refine⟨"list",_,slot_list_getitem.lookup,ht.isList.typeIs,?_⟩
 refine wpAny_getItem_list_slice ht.isList hs pl pu .none (by simp) ?_ (by rw[aN]<;>omega)
 rw[uQ,←hlen]
 refine⟨.ref s.heap.objs.size,_,I.laid (t':=s.toks) (o:=.lst (ml xs lo hi)) (fun b ob q=>aG _ q) (aC _) ?_,rfl,q _ (I.hok.fresh (aC _))⟩
 exact⟨aP (rC xs lo hi) hz,_,0,(r.drop (HT.sIx xs.length 0 lo)).take (HT.sIx xs.length xs.length hi-HT.sIx xs.length 0 lo),za2 _ rfl⟩
def wy :V→Bool
 |.non=>true
 |.bl _=>true
 |.int _=>true
 |.str _=>true
 |_=>false
def eqV :V→V→Bool
 |.non,.non=>true
 |.bl a,.bl b=>a == b
 |.bl a,.int b=>(if a then 1 else 0)==b
 |.int a,.bl b=>a == (if b then 1 else 0)
 |.int a,.int b=>a == b
 |.str a,.str b=>a == b
 |_,_=>false
theorem dz {A:Around}{s:Shared}{y x:V}{u v:Value}(ry:RelV y u)(rx:RelV x v)(fy:wy y=true)(fx:wy x=true):SeqAt.EqAt A s u v (eqV y x):=by
 cases y with
 |non=>
  cases ry
  cases x with
  |non=>cases rx;exact SeqAt.EqAt.same _
  |bl b=>cases rx;exact SeqAt.EqAt.none_bool b
  |int b=>obtain⟨t,rfl⟩:=rx;exact SeqAt.EqAt.none_int b t
  |str b=>obtain⟨t,rfl⟩:=rx;exact SeqAt.EqAt.none_str b t
  |_=>exact absurd (show false=true from fx) aD
 |bl a=>
  cases ry
  cases x with
  |non=>cases rx;exact SeqAt.EqAt.bool_none a
  |bl b=>cases rx;exact SeqAt.EqAt.bool_bool a b
  |int b=>obtain⟨t,rfl⟩:=rx;exact SeqAt.EqAt.bool_int a b t
  |str b=>obtain⟨t,rfl⟩:=rx;exact SeqAt.EqAt.bool_str a b t
  |_=>exact absurd (show false=true from fx) aD
 |int a=>
  obtain⟨t',rfl⟩:=ry
  cases x with
  |non=>cases rx;exact SeqAt.EqAt.int_none a t'
  |bl b=>cases rx;exact SeqAt.EqAt.int_bool a t' b
  |int b=>obtain⟨t,rfl⟩:=rx;exact SeqAt.EqAt.int_int a t' b t
  |str b=>obtain⟨t,rfl⟩:=rx;exact SeqAt.EqAt.int_str a t' b t
  |_=>exact absurd (show false=true from fx) aD
 |str a=>
  obtain⟨t',rfl⟩:=ry
  cases x with
  |non=>cases rx;exact SeqAt.EqAt.str_none a t'
  |bl b=>cases rx;exact SeqAt.EqAt.str_bool a t' b
  |int b=>obtain⟨t,rfl⟩:=rx;exact SeqAt.EqAt.str_int a t' b t
  |str b=>obtain⟨t,rfl⟩:=rx;exact SeqAt.EqAt.str_str a t' b t
  |_=>exact absurd (show false=true from fx) aD
 |_=>exact absurd (show false=true from fy) aD
def eqU (x:V)(u:Value):Bool:=match u with
 |.none=>eqV .non x
 |.bool b=>eqV (.bl b) x
 |.int i _=>eqV (.int i) x
 |.str z _=>eqV (.str z) x
 |_=>false
theorem mG {x y:V}{u:Value}(r:RelV y u)(f:wy y=true):eqU x u=eqV y x:=by
 cases y with
 |non=>cases r;rfl
 |bl b=>cases r;rfl
 |int i=>obtain⟨t,rfl⟩:=r;rfl
 |str z=>obtain⟨t,rfl⟩:=r;rfl
 |_=>exact absurd (show false=true from f) aD
theorem sv {x:V}:∀{xs:List V} {us:List Value},Vals xs us→xs.all wy=true→us.any (eqU x)=xs.any fun y=>eqV y x
 |_,_,.nil,_=>rfl
 |y::xs,u::us,.cons r t,f=>by
  rw[zh1,aI] at f
  rw[zh2,zh2,mG r f.1,sv t f.2]
theorem vY {A:Around}{s:Shared}{x:V}{v:Value}(rx:RelV x v)(fx:wy x=true):∀{xs:List V} {us:List Value},Vals xs us→xs.all wy=true→∀u∈us,SeqAt.EqAt A s u v (eqU x u)
 |_,_,.nil,_=>fun u hu=>by cases hu
 |y::xs,u::us,.cons r t,f=>fun u' hu=>by
  rw[zh1,aI] at f
  rcases ay.mp hu with rfl|hu
  ·rw[mG r f.1];exact dz r rx f.1 fx
  ·exact vY rx fx t f.2 u' hu
def inV (x:V)(xs:List V):Bool:=xs.any fun y=>eqV y x
def rIn (K:PySem.W.Frag)(neg:Bool):R2:=fun x y H Q=>∃p xs,y=.ref p∧(SqL K H p xs∨SqT K H p xs)∧wy x=true∧xs.all wy=true∧Q (.bl (if neg then !inV x xs else inV x xs)) H
theorem uX :OpR X (compareOp .In) (rIn X.K false):=by
 intro pins s σ H x y v u Q I rx ry h
 obtain⟨p,xs,rfl,hq,fx,fs,q⟩:=h
 cases ry
 rcases hq with hq|hq
 ·obtain⟨its,r,pl,hz⟩:=I.list hq
  refine SeqAt.in_listAt (eqU x) pl.isList (fun w hw=>vY rx fx r fs w (by simpa using hw)) ⟨.bl _,H,I,rfl,?_⟩
  rw[show its.toArray.any (eqU x)=its.any (eqU x) by simp,sv r fs]
  exact q
 ·obtain⟨its,r,pl,hz⟩:=I.tuple hq
  refine SeqAt.in_tupleAt (eqU x) pl (fun w hw=>vY rx fx r fs w (by simpa using hw)) ⟨.bl _,H,I,rfl,?_⟩
  rw[show its.toArray.any (eqU x)=its.any (eqU x) by simp,sv r fs]
  exact q
theorem yQ :yN X (.builtin "len") (fun xs H Q=>∃p ys,xs=[.ref p]∧(SqL X.K H p ys∨SqT X.K H p ys)∧Q (.int ys.length) H):=by
 intro pins s σ H xs us Q I r h
 obtain⟨p,ys,rfl,hq,q⟩:=h
 obtain⟨u,rfl,rx⟩:=vals1 r
 cases rx
 have hn:=vv
 rcases hq with hq|hq
 ·obtain⟨its,r',pl,hz⟩:=I.list hq
  have hlen:=r'.length
  exact Calls.call_len_list pl.isList (by simp only[aN]<;>omega) ⟨.int ys.length,H,I.tok _,⟨s.toks+1,by rw[aN,hlen]⟩,q⟩
 ·obtain⟨its,r',pl,hz⟩:=I.tuple hq
  have hlen:=r'.length
  exact len_tuple pl (by simp only[aN]<;>omega) ⟨.int ys.length,H,I.tok _,⟨s.toks+1,by rw[aN,hlen]⟩,q⟩
theorem tV :yN X (.type "list") (fun xs H Q=>∃p ys,xs=[.ref p]∧(SqL X.K H p ys∨SqT X.K H p ys)∧∀l,H l=none→Q (.ref l) (upd H l (.lst ys))):=by
 intro pins s σ H xs us Q I r h
 obtain⟨p,ys,rfl,hq,q⟩:=h
 obtain⟨u,rfl,rx⟩:=vals1 r
 cases rx
 have fin:∀(its:List Value),Vals ys its→ys.length≤sizeLine→∀(h':Heap) (c':Nat),(∀b o',s.heap.get? b=some o'→h'.get? b=some o')→
   h'.get? s.heap.objs.size=some {cls:=.type "list",dict:=none,data:=.seq its.toArray c',slots:=#[]}→EP X pins σ Q (.ref s.heap.objs.size) {s with heap:=h'}:=fun its r' hz h' c' kp e=>
  ⟨.ref s.heap.objs.size,_,I.laid (t':=s.toks) kp (aC _) (show zW X.prog X.w _ h' _ (.lst ys) from ⟨hz,its,c',r',e⟩),rfl,q _ (I.hok.fresh (aC _))⟩
 rcases hq with hq|hq
 ·obtain⟨its,r',pl,hz⟩:=I.list hq
  have hlen:=r'.length
  obtain⟨o,ho,hc,n,hd⟩:=pl.isList
  exact call_list_seq p (.inl rfl) ho hc hd (fun h' c' kp e=>fin its r' hz h' c' kp e) (by simp only[aN]<;>omega)
 ·obtain⟨its,r',pl,hz⟩:=I.tuple hq
  have hlen:=r'.length
  obtain⟨o,ho,hc,n,hd⟩:=pl
  exact call_list_seq p (.inr rfl) ho hc hd (fun h' c' kp e=>fin its r' hz h' c' kp e) (by simp only[aN]<;>omega)
theorem uS :yN X (.type "tuple") (fun xs H Q=>∃p ys,xs=[.ref p]∧((SqL X.K H p ys∧∀l,H l=none→Q (.ref l) (upd H l (.tup ys)))∨(SqT X.K H p ys∧Q (.ref p) H))):=by
 intro pins s σ H xs us Q I r h
 obtain⟨p,ys,rfl,h⟩:=h
 obtain⟨u,rfl,rx⟩:=vals1 r
 cases rx
 rcases h with ⟨hq,q⟩|⟨hq,q⟩
 ·obtain⟨its,r',pl,hz⟩:=I.list hq
  have hlen:=r'.length
  refine call_tuple_list pl.isList (fun h' kp=>?_) (by simp only[aN]<;>omega)
  have I1:Inv X pins σ H {s with heap:=h'}:=I.kept (t':=s.toks) kp
  have I2:Inv X pins σ (upd H h'.objs.size (.tup ys)) {s with heap:=h'.push {cls:=.type "tuple",data:=.seq its.toArray}}:=
   I1.laid (t':=s.toks) (fun b o e=>aG _ e) (aC _) (show zW X.prog X.w _ _ _ (.tup ys) from ⟨hz,its,r',IsTup.new _ _⟩)
  exact⟨.ref h'.objs.size,_,I2,rfl,q _ (I1.hok.fresh (aC _))⟩
 ·obtain⟨its,r',pl,hz⟩:=I.tuple hq
  exact call_tuple_same pl ⟨.ref p,H,I,rfl,q⟩
def tyV (K:PySem.W.Frag)(T:String)(x:V)(H:Hp):Prop:=match x with
 |.str _=>T="str"
 |.int _=>T="int"
 |.ref p=>(T="list"∧∃xs,SqL K H p xs)∨(T="tuple"∧∃o,K.lookup p=some o∧o.cls=.type "tuple"∧o.dict=none)∨
   (T="dict"∧((∃kvs,H p=some (.dK kvs))∨∃kvs,H p=some (.dT kvs)))∨(T="set"∧∃S n,H p=some (.set S n))
 |_=>False
theorem fY {pins:List (Addr×Obj)}{σ:St}{H:Hp}{s:Shared}{T:String}{x:V}{v:Value}(I:Inv X pins σ H s)(r:RelV x v)(ty:tyV X.K T x H):
  s.TypeIs v T∧∀a,v=.ref a→∃ob,s.heap.get? a=some ob∧ob.dict=none:=by
 cases x with
 |str z=>
  obtain⟨t,rfl⟩:=r
  cases (show T="str" from ty)
  exact⟨typeIs_str s z t,fun _ e=>nomatch e⟩
 |int i=>
  obtain⟨t,rfl⟩:=r
  cases (show T="int" from ty)
  exact⟨typeIs_int s i t,fun _ e=>nomatch e⟩
 |ref p=>
  cases r
  rcases ty with ⟨rfl,xs,hq⟩|⟨rfl,o,hk,hc,hd⟩|⟨rfl,hk⟩|⟨rfl,S,n,hk⟩
  ·obtain⟨its,_,pl,_⟩:=I.list hq
   refine⟨pl.isList.typeIs,fun a e=>?_⟩
   cases e
   obtain⟨o,n,e,c,hd,_⟩:=pl
   exact⟨o,e,hd⟩
  ·refine⟨⟨o,I.kIn p o hk,hc⟩,fun a e=>?_⟩
   cases e
   exact⟨o,I.kIn _ o hk,hd⟩
  ·have z:∃o,s.heap.get? p=some o∧o.ExactDict:=by
    rcases hk with ⟨kvs,hk⟩|⟨kvs,hk⟩
    ·obtain⟨_,_,_,_,o,_,_,e,ex,_⟩:=I.hok p _ hk
     exact⟨o,e,ex⟩
    ·obtain⟨_,_,_,_,o,_,_,e,ex,_⟩:=I.hok p _ hk
     exact⟨o,e,ex⟩
   obtain⟨o,e,ex⟩:=z
   refine⟨⟨o,e,ex.1⟩,fun a e2=>?_⟩
   cases e2
   exact⟨o,e,ex.2.1⟩
  ·obtain⟨o,_,_,_,e,ex,_⟩:=I.hok p _ hk
   refine⟨⟨o,e,ex.1⟩,fun a e2=>?_⟩
   cases e2
   exact⟨o,e,ex.2.1⟩
 |_=>exact False.elim ty
def tBM (K:PySem.W.Frag)(T:String)(r:V→List V→Hp→VK→Prop)(to:TE)(t:TA):TE:=fun σ H Q=>to σ H fun x H1=>tyV K T x H1∧t σ H1 fun xs H2=>r x xs H2 Q
variable {o e:Expr}{es:List Expr}{to:TE}{t:TA}{name:Str}{apos cpos:Pos}{T id:String}{r:V→List V→Hp→VK→Prop}
theorem oS (pa:PlainAttrs T)(slot:Slot T name id)(hty:typeOf (.builtin id)=pure (.type "method_descriptor"))(hm:MtR X id r)(ho:PE X o to)(ha:PA X (e::es) t)
  (hbase:attributeBase o name X.env (eval o X.env)=eval o X.env:=by rfl)
  (hfew:((backTo cpos (starEach (e::es) X.env)).all (fun x=>!x.1)&&(backToKw cpos (keywordEach [] X.env)).all (fun x=>x.1.isSome)
   &&decide ((e::es).length+([]:List Keyword).length+(if ([]:List Keyword).isEmpty then 0 else 1)<30))=true:=by rfl)
  (hline:(apos.endLine == cpos.line)=true:=by rfl) (hs:starEach (e::es) X.env=(false,eval e X.env)::starEach es X.env:=by rfl) (hplain:(backTo cpos (starEach es X.env)).any (·.1)=false:=by rfl):
  PE X (.Call (.Attribute o name apos) (e::es) [] cpos) (tBM X.K T r to t):=by
 intro pins s σ H Q I h
 refine wpAny_Call_method_late hbase hfew hline rfl (thn (ho pins s σ H _ I h) fun v s1 ⟨x,H1,I1,r1,ty,q1⟩=>?_)
 obtain⟨h1,h2⟩:=fY I1 r1 ty
 refine⟨T,id,pa,slot,hty,h1,h2,?_⟩
 have hA:=ha cpos pins s1 σ H1 _ I1 q1
 rw[hs] at hA ⊢
 refine Calls.callWith_builtin (by show (false||(backTo cpos (starEach es X.env)).any (·.1))=false;rw[hplain]<;>rfl) (Calls.evalArgs_plain ?_)
 exact thn hA fun us s2 ⟨vs,H2,I2,r2,q2⟩=>hm pins s2 σ H2 x vs v us Q I2 r1 r2 q2
/- xs.append(e),list.index on a module's tuple .. are MtR facts of 06m -/
end
def MtM (X:Cx)(id:String)(r:V→List V→Hp→VK→Prop):Prop:=
 ∀(pins:List (Addr×Obj)) (s:Shared) (σ:St) (H:Hp) (x:V) (xs:List V) (v:Value) (us:List Value) (Q:VK),Inv X pins σ H s→RelV x v→Vals xs us→r x xs H Q→
  wpAny (model X.prog X.w) X.A (call (.builtin id) (v::us)) (EP X pins σ Q) X.xe s
theorem Vals.one :∀{x:V} {us:List Value},Vals [x] us→∃u,us=[u]∧RelV x u
 |_,_,.cons r .nil=>⟨_,rfl,r⟩
theorem Vals.two :∀{x y:V} {us:List Value},Vals [x,y] us→∃u v,us=[u,v]∧RelV x u∧RelV y v
 |_,_,_,.cons r (.cons q .nil)=>⟨_,_,rfl,r,q⟩
section
variable {X:Cx}{pins:List (Addr×Obj)}{σ:St}{H:Hp}{s:Shared}{l b:Addr}{xs ys zs:List V}
theorem Inv.lset {its its':List Value}{n:Nat}{f:Array Value→Array Value}{t':Nat}(I:Inv X pins σ H s)(hH:H l=some (.lst xs))
  (e:s.heap.get? l=some {cls:=.type "list",data:=.seq its.toArray n}) (hf:f its.toArray=its'.toArray) (hv:Vals ys its') (hz:ys.length≤sizeLine):
  Inv X pins σ (upd H l (.lst ys)) {s with heap:=s.heap.update l (Obj.mapSeq f),toks:=t'}:=by
 have q:=PySem.IsL.update e f
 rw[hf] at q
 refine I.write (x:=l) (e:=l) (by rw[hH];exact trivial) (.inl rfl) (fun b' u hb hu=>(Heap.get?_update_other s.heap (Obj.mapSeq f) (Ne.symm hb)).trans hu) ⟨_,q⟩ ?_
 exact⟨hz,its',_,hv,q⟩
theorem Inv.fresh (I:Inv X pins σ H s):H s.heap.objs.size=none:=I.hok.fresh (aC _)
theorem Inv.lstM (I:Inv X pins σ H s)(hH:H l=some (.lst xs)):xs.length≤sizeLine∧∃(its:List Value) (n:Nat),Vals xs its∧xs.length=its.length∧s.heap.get? l=some {cls:=.type "list",data:=.seq its.toArray n}:=by
 obtain⟨z,its,n,r,e⟩:=I.hok l _ hH
 exact⟨z,its,n,r,r.length,e⟩
end
section
variable {X:Cx}
def gK :V→List V→Hp→VK→Prop:=fun x vs H Q=>∃l xs y,x=.ref l∧vs=[y]∧H l=some (.lst xs)∧xs.length<sizeLine∧Q .non (upd H l (.lst (xs++[y])))
theorem vz :MtM X "list.append" gK:=by
 intro pins s σ H x vs v us Q I rx rv h
 obtain⟨l,xs,y,rfl,rfl,hH,hz,q⟩:=h
 cases rx
 obtain⟨u,rfl,ru⟩:=rv.one
 obtain⟨z,its,n,r,hl,e⟩:=I.lstM hH
 refine call_meets F.slot_list_append ⟨_,e,rfl⟩ F.entry_list_append (F.args_list_append_2 _ _) (PySem.list_append l its.toArray n u (by rw[aN];omega)) ⟨e,?_⟩
 refine⟨.non,_,I.lset (its':=its++[u]) hH e (by simp) (r.append (.cons ru .nil)) ?_,rfl,q⟩
 rw[zb4,zf7]
 omega
end
section
variable {prog:Program}{w:World}{A:Around}{E:Value→Shared→Prop}{s:Shared}
end
section
variable {X:Cx}
end
end L2
namespace Att
open PySem PySem.W PySem.Calls PyProof.Rows
theorem vL {P:Params}{h:Heap}:∀(ns:List Int) (vs:List Value),WellAll P h vs (ns.map WData.int)→IntsAre vs ns:=by
 intro ns
 induction ns with
 |nil=>
  intro vs w
  rw[List.map_nil] at w
  cases w
  exact .nil
 |cons n ns ih=>
  intro vs w
  rw[aW] at w
  cases w with
  |cons a b=>
   cases a
   exact .cons _ _ (ih _ b)
theorem nh {l:OpenLaw}{n:Nat}(hn:l.most=some n){P:Params}{h:Heap}{args:List WData}{vals:List Value}
  (hpre:l.row.toRowW.claim.pre args=true) (hwl:WellAll P h vals args):
  ∃a vs ns,vals=[Value.ref a]∧args=[WData.list (ns.map WData.int)]∧h.get? a=some {cls:=.type "list",data:=.seq vs.toArray}∧IntsAre vs ns∧ns.length≤n:=by
 have hsh:WShape.hasAll [] args [.list .int]=true:=(pre_splitW hpre).1
 have hc:l.pre.holds [] {args:=args}=true:=(pre_splitW hpre).2
 obtain⟨d,r,rfl,h1,h2⟩:=hasAllW_cons hsh
 obtain rfl:=hasAllW_nil h2
 obtain⟨xs,rfl,h3⟩:=hasW_list h1
 obtain⟨ns,rfl⟩:=items_int h3
 have hlen:ns.length≤n:=by
  unfold OpenLaw.pre at hc
  have h4:(WTm.not (.lt (.lit (.int (n:Int))) (.len (.arg 0)))).holds [] {args:=[.list (ns.map .int)]}=true:=by
   have h4:=(holds_andW hc).1
   rw[hn] at h4
   exact h4
  have h5:=condW_of h4 (w_not (w_lt w_lit (w_len_list (w_arg rfl))))
  rw[ax] at h5
  refine Nat.le_of_not_lt fun q=>?_
  have q':(n:Int)<((ns.length:Nat):Int):=by omega
  first
   |(rw[aQ q'] at h5;exact absurd h5 (by decide))
   |(simp at h5;omega)
 cases hwl with
 |cons w1 w2=>
  cases w2
  cases w1 with
  |list ho hall=>exact⟨_,_,ns,rfl,rfl,ho,vL ns _ hall,hlen⟩
theorem md (l:OpenLaw)(args:List WData):l.row.toRowW.claim.post args (.bool true) args=true:=
 postW_of (r:=l.row.toRowW) (X:=(true == true))
  (show WShape.has [] (.bool true) .bool=true by first|rfl|decide|simp[WShape.has,WShape.arms,WShape.armsAll])
  (show (WTm.eq .res (.lit (.bool true))).value [] {args:=args,res:=some (.bool true),after:=args}=some (.bool (true == true)) from w_eq_bool (w_res rfl) w_lit) rfl
theorem attach_call {l:OpenLaw}{n:Nat}{q:Program}{loose:List Str}{XP:(Str→Option Value)→Heap→Prop}{YP:World→Heap→Prop}{d:DefRec}
  (hn:l.most=some n) (hdf:d.params.defaults=[])
  (call:∀(w:World) (s₀ s₁:Shared) (mg mb:Str→Option Value) (fa:Addr) (o:Obj) (pm cd doc:Value) (a:Addr) (vs:List Value) (ns:List Int),
   Ground q loose [] XP w s₀ mg mb s₁.heap→YP w s₁.heap→
   s₁.heap.get? fa=some o→o.data=.func (docDef d.name d.params d.body d.scope pm cd doc)→s₁.heap.CodeRec cd d.name→mg d.name=some (.ref fa)→
   s₁.heap.get? a=some {cls:=.type "list",data:=.seq vs.toArray}→IntsAre vs ns→ns.length≤n→s₁.gens=#[]→
   codeAny (model l.prog w) callerA (.call (.ref fa) ⟨[.ref a],[]⟩) (fun r s'=>r=.ok (.ret (.bool true))∧OldK s₁.heap s'.heap∧s'.os=s₁.os∧AllBare s'.gens) s₁):
  WalkO q loose XP YP l.row.toRowW d [] (fun f vs=>PySem.call f vs):=by
 intro w s₀ s₁ mg mb G Y fa o pm cd doc dV kV ho hd hcd hD hmg hg args vals as hpre hlay hrd hwl hlo
 obtain rfl:dV=.none:=Dflts.none hD hdf
 obtain rfl:kV=.none:=Dflts.noKw hD
 obtain⟨a,vs,ns,rfl,rfl,hobj,hints,hlen⟩:=nh hn hpre hwl
 refine enter_call (codeAny_mono (call w s₀ s₁ mg mb fa o pm cd doc a vs ns G Y ho (fd_plain hd) hcd hmg hobj hints hlen hg) fun r s' hq=>?_)
 obtain⟨rfl,h2,h3,h4⟩:=hq
 exact⟨.inl ⟨.bool true,.bool true,[],rfl,fun _=>rfl,.bool true,md l _,fun _=>⟨List.Pairwise.nil,fun _ hm=>(nomatch hm)⟩⟩,h2,h3,h4⟩
section
variable {prog:Program}{w:World}{A:Around}{E:Value→Shared→Prop}{s:Shared}{K:Frag}
end
end Att
namespace L2
open PySem PySem.Spec PyProof.Rows
theorem uV :∀{vs:List Value} {ns:List Int},IntsAre vs ns→Vals (ns.map V.int) vs
 |_,_,.nil=>.nil
 |_,_,.cons n t h=>.cons ⟨t,rfl⟩ (uV h)
def iC (H:Hp):Prop:=∀b,H b=none∨∃o xs,H b=some (.frz o (.lst xs))
theorem kA {P:Program}{w:World}{K:PySem.W.Frag}{mg mb:Str→Option Value}{CX:CXT}{k:Nat}{fa a:Addr}{fd:FuncData}{x:Str}{sp:Sp}{s₁:Shared}{vs:List Value}{ns:List Int}
  (KX:K.In s₁.heap) (hns:s₁.heap.Ns mainGlobals mg) (hb:s₁.heap.Ns builtinsNs mb) (hbb:∀x:Str,x≠"__name__"→mb x=bootBuiltins x) (hlim:s₁.heap.NoLimit) (hg:s₁.gens=#[])
  (ha:s₁.heap.get? a=some {cls:=.type "list",data:=.seq vs.toArray}) (hi:IntsAre vs ns) (hl:ns.length≤sizeLine) (hr:zJ k callerA)
  (F:∀base:Heap,K.In base→base.Ns mainGlobals mg→zv P w K mg base CX k fa fd [x] sp) (hbind:∀(s:Shared) (u:Value),BindsTo s fd ⟨[u],[]⟩ [(x,u)])
  (hsp:∀H:Hp,iC H→SqL K H a (ns.map V.int)→sp [.ref a] H (fun v _=>v=.bl true) fun _ _ _=>False)
  (hCX:∀H e s',CX [] H s₁ (fun _ _ _=>False) e s'→False):
  codeAny (model P w) callerA (.call (.ref fa) ⟨[.ref a],[]⟩) (fun r s'=>r=.ok (.ret (.bool true))∧OldK s₁.heap s'.heap∧s'.os=s₁.os∧AllBare s'.gens) s₁:=by
 have rv:=uV hi
 have lenV:=hi.length
 -- from an abstract heap in which nothing but the script may be tracked
 have core:∀H:Hp,iC H→SqL K H a (ns.map V.int)→HOk P w H s₁.heap→(∀b,H b≠none→b=a)→(H a≠none→K.lookup a=none)→
   codeAny (model P w) callerA (.call (.ref fa) ⟨[.ref a],[]⟩) (fun r s'=>r=.ok (.ret (.bool true))∧OldK s₁.heap s'.heap∧s'.os=s₁.os∧AllBare s'.gens) s₁:=by
  intro H hO hS hok hA hK
  have base_of:∀{b:Addr} {o:Obj},s₁.heap.get? b=some o→H b=none→(sD s₁.heap H).get? b=some o:=fun e n=>kO e n
  have noA:∀{b:Addr} {o:Obj} {es:Array DictEntry} {ep:Nat},s₁.heap.get? b=some o→o.data=.dict es ep→H b=none:=fun {b o es ep} e d=>by
   cases q:H b with
   |none=>rfl
   |some u=>
    have e':b=a:=hA b (by rw[q];simp)
    subst e'
    rw[ha] at e;cases e
    have d':Data.seq vs.toArray _=Data.dict es ep:=d
    cases d'
  have nsK:∀{b:Addr} {m:Str→Option Value},s₁.heap.Ns b m→(sD s₁.heap H).Ns b m:=fun {b m} ⟨o,es,ep,e,d,r⟩=>⟨o,es,ep,base_of e (noA e d),d,r⟩
  have hKb:K.In (sD s₁.heap H):=fun b o e=>base_of (KX b o e) (by
   cases q:H b with
   |none=>rfl
   |some u=>
    have e':b=a:=hA b (by rw[q];simp)
    subst e'
    rw[hK (by rw[q];simp)] at e;cases e)
  have hM:Mod K mg (sD s₁.heap H):=⟨hKb,nsK hns,⟨mb,nsK hb,hbb⟩,let ⟨mc,h1,h2⟩:=hlim;⟨mc,nsK h1,h2⟩⟩
  have e0:qz P w K mg (sD s₁.heap H) callerA [] s₁ H:=⟨rfl,hM,fun b o e=>ik e,Nat.le_of_eq (ni _ _),trivial,fun b hb=>absurd (show b∈([]:List Addr) from hb) (by simp),hok,.of_eq hg⟩
  refine codeAny_mono ((F _ hKb (nsK hns)).run callerA [] s₁ H ⟨[.ref a],[]⟩ [.ref a] [.ref a] _ _ hr e0 (hbind s₁ (.ref a)) (.cons rfl .nil) (hsp H hO hS)) fun r s' h=>?_
  cases r with
  |error e=>exact (hCX H e s' h).elim
  |ok fl=>
   cases fl with
   |next=>exact False.elim h
   |brk=>exact False.elim h
   |cont=>exact False.elim h
   |ret u=>
    obtain⟨v,H',os,bare,un,hok',r',q⟩:=h
    have q':v=.bl true:=q
    subst q'
    obtain rfl:u=Value.bool true:=r'
    refine⟨rfl,OldK.of_keep fun b o e=>?_,os,bare⟩
    cases q:H b with
    |none=>exact un.keep b o e q (by intro z;exact absurd (show b∈([]:List Addr) from z) (by simp)) (by simp)
    |some u=>
     rcases hO b with z|⟨ob,xs,z⟩
     ·rw[q] at z;cases z
     ·have z2:=un.frzs b ob _ z
      obtain⟨e1,_⟩:=hok b _ z
      obtain⟨e2,_⟩:=hok' b _ z2
      rw[e] at e1;cases e1
      exact e2
 cases hk:K.lookup a with
 |some o=>
  -- the script is one of the module's own objects
  have e:=KX a o hk
  rw[ha] at e
  cases e
  refine core (fun _=>none) (fun _=>.inl rfl) (.inr ⟨_,vs.toArray,_,hk,rfl,rfl,rfl,by rw[aN,lenV];exact hl,by simpa using rv⟩) (fun b u z=>by have z':(none:Option HO)=some u:=z;cases z') (fun b z=>absurd rfl z) fun z=>absurd rfl z
 |none=>
  refine core (fun b=>if b=a then some (.frz {cls:=.type "list",data:=.seq vs.toArray} (.lst (ns.map V.int))) else none) (fun b=>?_) (.inl (.inr ⟨{cls:=.type "list",data:=.seq vs.toArray},if_pos rfl⟩)) (fun b u z=>?_) (fun b z=>?_) fun _=>hk
  ·by_cases hb:b=a
   ·exact .inr ⟨_,_,if_pos hb⟩
   ·exact .inl (if_neg hb)
  ·by_cases hb:b=a
   ·have z':=(if_pos hb).symm.trans z
    cases z'
    subst hb
    exact⟨ha,by rw[ax];exact hl,vs,_,rv,ha⟩
   ·have z':=(if_neg hb).symm.trans z
    cases z'
  ·by_cases hb:b=a
   ·exact hb
   ·exact absurd (if_neg hb) z
theorem iT {l:PySem.W.OpenLaw}{n k:Nat}{q:Program}{loose:List Str}{XP:(Str→Option Value)→Heap→Prop}{YP:World→Heap→Prop}{d:DefRec}{K:Params→PySem.W.Frag}{CX:World→CXT}{sp:World→Sp}{x:Str}
  (hn:l.most=some n) (hn2:n≤sizeLine) (hdf:d.params.defaults=[]) (hr:zJ k callerA)
  (hY:∀(w:World) (h:Heap),YP w h→(K w.params).In h)
  (F:∀(w:World) (mg:Str→Option Value) (fa:Addr) (h:Heap),(K w.params).In h→h.Ns mainGlobals mg→mg d.name=some (.ref fa)→
   ∃fd:FuncData,(∀(s:Shared) (u:Value),BindsTo s fd ⟨[u],[]⟩ [(x,u)])∧
    ∀base:Heap,(K w.params).In base→base.Ns mainGlobals mg→zv l.prog w (K w.params) mg base (CX w) k fa fd [x] (sp w))
  (hsp:∀(w:World) (H:Hp) (a:Addr) (ns:List Int),ns.length≤n→iC H→SqL (K w.params) H a (ns.map V.int)→sp w [.ref a] H (fun v _=>v=.bl true) fun _ _ _=>False)
  (hCX:∀(w:World) (H:Hp) (s:Shared) (e:Value) (s':Shared),CX w [] H s (fun _ _ _=>False) e s'→False):
  PySem.W.WalkO q loose XP YP l.row.toRowW d [] (fun f vs=>PySem.call f vs):=by
 refine Att.attach_call hn hdf fun w s₀ s₁ mg mb fa o pm cd doc a vs ns G Y ho hd hcd hmg hobj hints hlen hg=>?_
 have KX:=hY w _ Y
 obtain⟨fd,hb,hF⟩:=F w mg fa _ KX G.T.g hmg
 exact kA KX G.T.g G.T.b G.T.builtins G.T.nolimit hg hobj hints (aP hlen hn2) hr hF hb (fun H hO hS=>hsp w H a ns hlen hO hS) fun H e s'=>hCX w H s₁ e s'
def inClass (s:Stmt)(j:Nat):Stmt:=match s with
 |.ClassDef _ _ _ body _ _ _ _ _ _ _=>body.getD j (.Pass ⟨0,0,0,0⟩)
 |_=>.Pass ⟨0,0,0,0⟩
def zS (s:Stmt):Arguments:=match s with
 |.FunctionDef _ a _ _ _ _ _ _ _ _=>a
 |_=>{posonlyargs:=[],args:=[],vararg:=none,kwonlyargs:=[],kw_defaults:=[],kwarg:=none,defaults:=[]}
def zA (s:Stmt):List Stmt:=match s with
 |.FunctionDef _ _ b _ _ _ _ _ _ _=>b
 |_=>[]
def zb (s:Stmt):Scope:=match s with
 |.FunctionDef _ _ _ _ _ _ sc _ _ _=>sc
 |_=>{kind:=.function,names:=[],isGenerator:=false,isCoroutine:=false}
abbrev CX0 :CXT:=fun _ _ _ _ _ _=>False
abbrev E0 :XK:=fun _ _ _=>False
theorem zK {X:Cx}:Passes CX0 X E0:=fun _ _ _ _ _ _ _ h=>h.elim
structure Fun (K:PySem.W.Frag)(x qual:Str)(st:Stmt)(f:Addr)(fd:FuncData):Prop where
 ex:∃(oc:Value) (od:Option Addr) (kV doc pm:Value) (an:Option Addr) (cdv ct:Value) (osl:Array (Option Value)),
  fd=PySem.W.fnOf x qual (zS st) (zA st) (zb st) .none kV doc pm an cdv ct∧K.lookup f=some ⟨oc,od,.func fd,osl⟩∧PySem.W.codeIn K cdv qual=true
 kp:PySem.W.keepIn K (.ref f)=true
section
variable {P:Program}{w:World}{K:PySem.W.Frag}{mg:Str→Option Value}{base:Heap}
theorem Fun.ok {x qual:Str}{st:Stmt}{f:Addr}{fd:FuncData}{N ps:List Str}{k:Nat}{sp:Sp}(F:Fun K x qual st f fd)(S:zi N ps (zb st))(len:∀vs H Q E,sp vs H Q E→vs.length=ps.length)
  (hbody:∀(cdv:Value) (A:Around) (outer:List Env) (s:Shared) (H:Hp) (vs:List V) (Q:VK) (E:XK),zJ k (A.deeper (envOfC qual (zb st) s.heap.objs.size f cdv))→sp vs H Q E→
   ∃t,PSs (vq CX0 P w K mg base N qual (zb st) f cdv A outer s H E).nox (zA st) t∧t {nx:=fun _ H'=>Q .non H',rt:=Q} (start N vs) H):zv P w K mg base CX0 (k+1) f fd ps sp:=by
 obtain⟨oc,od,kV,doc,pm,an,cdv,ct,osl,rfl,lk,hcd⟩:=F.ex
 refine gW lk hcd S len fun A outer s H vs Q E hr hsp=>?_
 obtain⟨t,h,q⟩:=hbody cdv A outer s H vs Q E hr hsp
 exact⟨t,h.nox,q⟩
theorem Fun.binds {x qual:Str}{st:Stmt}{f:Addr}{fd:FuncData}{ps:List Str}(F:Fun K x qual st f fd)
  (h:∀(kV doc pm:Value) (an:Option Addr) (cdv ct:Value) (us:List Value),us.length=ps.length→bindArgs (PySem.W.fnOf x qual (zS st) (zA st) (zb st) .none kV doc pm an cdv ct) ⟨us,[]⟩=pure (ps.zip us)):Binds K fd ps []:=by
 obtain⟨oc,od,kV,doc,pm,an,cdv,ct,osl,rfl,lk,hcd⟩:=F.ex
 exact .all (h kV doc pm an cdv ct)
theorem je {x qual:Str}{st:Stmt}{f:Addr}{oc:Value}{od an:Option Addr}{osl:Array (Option Value)}{kV doc pm cdv ct:Value}(l:K.lookup f=some ⟨oc,od,.func (PySem.W.fnOf x qual (zS st) (zA st) (zb st) .none kV doc pm an cdv ct),osl⟩)
  (c:PySem.W.codeIn K cdv qual=true) (k:PySem.W.keepIn K (.ref f)=true):Fun K x qual st f (PySem.W.fnOf x qual (zS st) (zA st) (zb st) .none kV doc pm an cdv ct):=⟨⟨oc,od,kV,doc,pm,an,cdv,ct,osl,rfl,l,c⟩,k⟩
end
theorem xu {n:Nat}(h:n≤1000):n<sizeLine:=Nat.lt_of_le_of_lt h (by decide)
section
variable {X:Cx}
theorem pv (i:Nat){x:Str}{pos:Pos}(hN:X.N[i]?=some x:=by rfl)(hv:Vis X.env.scope x:=by first|exact Or.inl rfl|exact Or.inr (Or.inl rfl)|exact Or.inr (Or.inr rfl))(hd:(x == ("__debug__":Str))=false:=by decide)
  (hcd:(x == ("__classdict__":Str))=false:=by decide):PE X (.Name x pos) (dq i):=yZ hN hv hd hcd
end
theorem vM {A B:Prop}(h:B):if false=true then A else B:=by
 rw[if_neg aD]
 exact h
theorem vw {A B:Prop}(h:A):if true=true then A else B:=by
 rw[if_pos rfl]
 exact h
theorem yq {c A B:Prop}[Decidable c](h1:c→A)(h2:¬c→B):if c then A else B:=by
 by_cases h:c
 ·rw[if_pos h]
  exact h1 h
 ·rw[if_neg h]
  exact h2 h
def zr (H H':Hp):Prop:=∀b o,H b=some o→H' b=some o
theorem zr.refl (H:Hp):zr H H:=fun _ _ h=>h
theorem zr.trans {H H1 H2:Hp}(a:zr H H1)(b:zr H1 H2):zr H H2:=fun c o h=>b c o (a c o h)
theorem zr.free {H H':Hp}(e:zr H H'){l:Addr}(h:H' l=Option.none):H l=Option.none:=by
 cases q:H l with
 |none=>rfl
 |some o=>
  rw[e l o q] at h
  cases h
def wI (cells:List (Str×Addr)):List (Str×NameKind)→List (Str×Addr)→List (Str×Addr)
 |[],acc=>acc
 |(n,k)::r,acc=>wI cells r (if k=.free then (n,(cells.lookup n).getD 0)::acc else acc)
theorem wA {env:Env}{scope:Scope}(h:∀y∈scope.names,y.2=.free→∃c,env.cells.lookup y.1=some c):
  closureFor scope env=pure (wI env.cells scope.names []):=by
 have key:∀(ns:List (Str×NameKind)) (acc:List (Str×Addr)),(∀y∈ns,y.2=.free→∃c,env.cells.lookup y.1=some c)→
   (forIn ns acc fun (x:Str×NameKind) (r:List (Str×Addr))=>(if (x.2 == NameKind.free)=true then (do let a ←cellOf env x.1;pure (ForInStep.yield ((x.1,a)::r))) else pure (ForInStep.yield r):Sem (ForInStep (List (Str×Addr)))))=pure (wI env.cells ns acc):=by
  intro ns
  induction ns with
  |nil=>intro acc _;rfl
  |cons y r ih=>
   intro acc hy
   obtain⟨n,k⟩:=y
   rw[List.forIn_cons]
   have hr:∀z∈r,z.2=.free→∃c,env.cells.lookup z.1=some c:=fun z hz=>hy z (az _ hz)
   by_cases hk:k=.free
   ·subst hk
    obtain⟨c,hc⟩:=hy (n,.free) aA rfl
    have e1:cellOf env n=pure c:=by
     unfold cellOf
     rw[hc]
    have e2:((NameKind.free == NameKind.free)=true):=rfl
    simp only[e2,if_true,e1,pure_bind]
    rw[ih _ hr]
    show _=pure (wI env.cells r (if NameKind.free=NameKind.free then (n,(env.cells.lookup n).getD 0)::acc else acc))
    rw[if_pos rfl,hc]
    rfl
   ·have e2:(k == NameKind.free)=false:=by simpa using hk
    simp only[e2,Bool.false_eq_true,if_false,pure_bind]
    rw[ih _ hr]
    show _=pure (wI env.cells r (if k=NameKind.free then (n,(env.cells.lookup n).getD 0)::acc else acc))
    rw[if_neg hk]
 have q:=key scope.names [] h
 unfold closureFor
 simp only[] at q ⊢
 rw[show (forIn scope.names ([]:List (Str×Addr)) fun (x:Str×NameKind) (r:List (Str×Addr))=>_)=_ from q]
 rfl
theorem rZ {cells:List (Str×Addr)}:∀(ns:List (Str×NameKind)) (acc:List (Str×Addr)),(∀y∈ns,y.2=.free→∃c,cells.lookup y.1=some c)→
  ∀x c,(x,c)∈wI cells ns acc→(x,c)∈acc∨((x,NameKind.free)∈ns∧cells.lookup x=some c)
 |[],acc,_,x,c,h=>.inl h
 |(n,k)::r,acc,hy,x,c,h=>by
  have hr:∀z∈r,z.2=.free→∃c,cells.lookup z.1=some c:=fun z hz=>hy z (az _ hz)
  have h':(x,c)∈wI cells r (if k=.free then (n,(cells.lookup n).getD 0)::acc else acc):=h
  rcases rZ r _ hr x c h' with q|⟨q1,q2⟩
  ·by_cases hk:k=.free
   ·rw[if_pos hk] at q
    rcases ay.mp q with e|q
    ·obtain⟨c',hc⟩:=hy (n,k) aA hk
     have e1:x=n:=congrArg Prod.fst e
     have e2:c=(cells.lookup n).getD 0:=congrArg Prod.snd e
     have hc':cells.lookup n=some c':=hc
     rw[hc'] at e2
     have e3:c=c':=e2
     subst e1 e3 hk
     exact .inr ⟨aA,hc'⟩
    ·exact .inl q
   ·rw[if_neg hk] at q
    exact .inl q
  ·exact .inr ⟨az _ q1,q2⟩
theorem rP {cells:List (Str×Addr)}:∀(ns:List (Str×NameKind)) (acc:List (Str×Addr)) (p:Str×Addr),p∈acc→p∈wI cells ns acc
 |[],_,_,h=>h
 |(n,k)::r,acc,p,h=>by
  show p∈wI cells r (if k=.free then (n,(cells.lookup n).getD 0)::acc else acc)
  refine rP r _ p ?_
  split
  ·exact az _ h
  ·exact h
theorem rW {cells:List (Str×Addr)}:∀(ns:List (Str×NameKind)) (acc:List (Str×Addr)) (x:Str),(x,NameKind.free)∈ns→∃c,(x,c)∈wI cells ns acc
 |[],_,_,h=>by simp at h
 |(n,k)::r,acc,x,h=>by
  show ∃c,(x,c)∈wI cells r (if k=.free then (n,(cells.lookup n).getD 0)::acc else acc)
  rcases ay.mp h with e|h
  ·have e1:x=n:=congrArg Prod.fst e
   have e2:NameKind.free=k:=congrArg Prod.snd e
   subst e1 e2
   rw[if_pos rfl]
   exact⟨_,rP r _ _ aA⟩
  ·exact rW r _ x h
theorem mem_lookup {x:Str}{c:Addr}:∀{l:List (Str×Addr)},(x,c)∈l→∃d,l.lookup x=some d
 |[],h=>by simp at h
 |(n,a)::r,h=>by
  rw[zb5]
  cases e:x == n with
  |true=>exact⟨a,rfl⟩
  |false=>
   rcases ay.mp h with q|q
   ·have e1:x=n:=congrArg Prod.fst q
    rw[e1] at e
    simp at e
   ·exact mem_lookup q
structure zN (XN:List Str)(xs:Scope)(N:List Str)(imp:List (Option Nat))(scope:Scope):Prop where
 kind:scope.kind=.function
 nd:N.Nodup
 nocell:∀y∈scope.names,y.2≠.cell
 locs:∀y∈scope.names,y.2=.local→scope.names.lookup y.1=some .local
 frees:∀y∈scope.names,y.2=.free→xs.names.lookup y.1=some .cell∨xs.names.lookup y.1=some .free
 len:imp.length=N.length
 impsB:((imp.zip N).all fun p=>match p.1 with|none=>true|some j=>XN[j]? == some p.2&&scope.names.lookup p.2 == some .free)=true
theorem zN.imps {XN N:List Str}{xs scope:Scope}{imp:List (Option Nat)}(S:zN XN xs N imp scope):∀(i j:Nat),imp[i]?=some (some j)→∃x,N[i]?=some x∧XN[j]?=some x∧scope.names.lookup x=some .free:=by
 intro i j h
 have hi:i<imp.length:=(aH.mp h).1
 have hn:i<N.length:=by rw[←S.len];exact hi
 have hx:N[i]?=some N[i]:=za4 hn
 have hm:(some j,N[i])∈imp.zip N:=by
  have hz:(imp.zip N)[i]?=some (some j,N[i]):=by
   rw[List.getElem?_zip_eq_some]
   exact⟨h,hx⟩
  exact zc2 hz
 have q:=zc0.mp S.impsB _ hm
 have q':(XN[j]? == some N[i]&&scope.names.lookup N[i]==some .free)=true:=q
 rw[aI] at q'
 exact⟨N[i],hx,eq_of_beq q'.1,eq_of_beq q'.2⟩
def xx (imp:List (Option Nat))(σ:St):St:=imp.map fun o=>o.bind fun j=>(σ[j]?).bind id
theorem nW {imp:List (Option Nat)}{σ:St}{i:Nat}{v:V}(h:(xx imp σ)[i]?=some (some v)):∃j,imp[i]?=some (some j)∧σ[j]?=some (some v):=by
 unfold xx at h
 rw[aU] at h
 cases e:imp[i]? with
 |none=>rw[e] at h;cases h
 |some o=>
  rw[e] at h
  have h':(o.bind fun j=>(σ[j]?).bind id)=some v:=aL h
  cases o with
  |none=>cases h'
  |some j=>
   have h2:(σ[j]?).bind id=some v:=h'
   cases e2:σ[j]? with
   |none=>rw[e2] at h2;cases h2
   |some w=>
    rw[e2] at h2
    have h3:w=some v:=h2
    exact⟨j,rfl,by rw[e2,h3]⟩
def Cx.comp (X:Cx)(N:List Str)(scope:Scope)(C:Addr)(s2:Shared)(H2:Hp)(fp:List Addr):Cx where
 prog:=X.prog
 w:=X.w
 K:=X.K
 mg:=X.mg
 base:=X.base
 A:=X.A
 N:=N
 s₀:=s2
 H₀:=H2
 env:=compEnvC scope (wI X.env.cells scope.names []) C X.env
 outer:=X.stack
 stack:=X.stack
 ex:=fp
 fn:=fun _=>false
 calm:=X.calm
 pn:=[]
 xe:=fun _ _=>False
theorem wZ {env:Env}:∀{names:List (Str×NameKind)} {x:Str},
  (names.map fun (n,k)=>if (k == NameKind.free&&env.scope.kind == .function&&env.kindOf n == some .cell) then (n,NameKind.cell) else (n,k)).lookup x=some .cell∨
  (names.map fun (n,k)=>if (k == NameKind.free&&env.scope.kind == .function&&env.kindOf n == some .cell) then (n,NameKind.cell) else (n,k)).lookup x=some .free→
  (∀y∈names,y.2≠.cell)→(x,NameKind.free)∈names
 |[],x,h,_=>by simp at h
 |(n,k)::r,x,h,hc=>by
  have ih:=@wZ env r x
  rw[aW] at h
  dsimp only at h
  by_cases hx:x=n
  ·subst hx
   by_cases hk:k=.free
   ·subst hk;exact aA
   ·have hk':(k == NameKind.free)=false:=by simpa using hk
    simp only[hk',zc5,Bool.false_eq_true,if_false,zb5,beq_self_eq_true,if_true] at h
    rcases h with h|h
    ·have e:k=.cell:=aL h
     exact absurd e (hc (x,k) aA)
    ·have e:k=.free:=aL h
     exact absurd e hk
  ·have hxn:(x == n)=false:=by simpa using hx
   have step:∀(b:Bool) (l:List (Str×NameKind)),List.lookup x ((if b=true then (n,NameKind.cell) else (n,k))::l)=l.lookup x:=fun b l=>by
    cases b<;>simp[zb5,hxn]
   rw[step] at h
   exact az _ (ih h fun y hy=>hc y (az _ hy))
theorem vE {env:Env}:∀{names:List (Str×NameKind)} {x:Str},names.lookup x=some .free→
  (names.map fun (n,k)=>if (k == NameKind.free&&env.scope.kind == .function&&env.kindOf n == some .cell) then (n,NameKind.cell) else (n,k)).lookup x=some .cell∨
  (names.map fun (n,k)=>if (k == NameKind.free&&env.scope.kind == .function&&env.kindOf n == some .cell) then (n,NameKind.cell) else (n,k)).lookup x=some .free
 |[],x,h=>by simp at h
 |(n,k)::r,x,h=>by
  have ih:=@vE env r x
  rw[aW]
  dsimp only
  rw[zb5] at h
  cases hx:x == n with
  |true=>
   rw[hx] at h
   have e:k=.free:=aL h
   subst e
   by_cases hb:(NameKind.free == NameKind.free&&env.scope.kind == .function&&env.kindOf n == some .cell)=true
   ·left;rw[if_pos hb];simp[zb5,hx]
   ·right;rw[if_neg hb];simp[zb5,hx]
  |false=>
   rw[hx] at h
   have step:∀(b:Bool) (l:List (Str×NameKind)),List.lookup x ((if b=true then (n,NameKind.cell) else (n,k))::l)=l.lookup x:=fun b l=>by
    cases b<;>simp[zb5,hx]
   rw[step]
   exact ih h
section
variable {X:Cx}{pins:List (Addr×Obj)}{σ:St}{H2 H':Hp}{s2 s':Shared}{fp:List Addr}{N:List Str}{imp:List (Option Nat)}{scope:Scope}{C acc:Addr}
theorem wH (I:Inv X pins σ H2 s2)(S:zN X.N X.env.scope N imp scope):∀y∈scope.names,y.2=.free→∃c,X.env.cells.lookup y.1=some c:=fun y hy hk=>I.ok.has y.1 (S.frees y hy hk)
theorem yS (I:Inv X pins σ H2 s2)(S:zN X.N X.env.scope N imp scope){x:Str}{c:Addr}(h:(wI X.env.cells scope.names []).lookup x=some c):(x,NameKind.free)∈scope.names∧X.env.cells.lookup x=some c:=by
 rcases rZ scope.names [] (wH I S) x c (zb2 h) with q|q
 ·exact absurd q (by simp)
 ·exact q
theorem wV (I:Inv X pins σ H2 s2)(S:zN X.N X.env.scope N imp scope){x:Str}(h:(x,NameKind.free)∈scope.names):∃c,(wI X.env.cells scope.names []).lookup x=some c:=by
 obtain⟨c,hc⟩:=rW (cells:=X.env.cells) scope.names [] x h
 exact mem_lookup hc
theorem jO {h1:Heap}{tk:Nat}{m:Str→Option Value}{n0:Nat}(I:Inv X pins σ H2 s2)(S:zN X.N X.env.scope N imp scope)(hf:∀b∈fp,vk X pins H2 b)(ho:∀b∈fp,∃o,s2.heap.get? b=some o)
  (hacc:acc=s2.heap.objs.size) (hC:C=s2.heap.objs.size+1) (old:∀b o,s2.heap.get? b=some o→h1.get? b=some o) (hn:h1.Ns C m)
  (hl:h1.get? acc=some {cls:=.type "list",data:=.seq ([]:List Value).toArray n0}):
  Inv (X.comp N scope C s2 H2 fp) [] (xx imp σ) (upd H2 acc (.lst [])) {s2 with heap:=h1,toks:=tk}:=by
 have fa:H2 acc=none:=I.hok.fresh (by rw[hacc];exact aC _)
 have cac:C≠acc:=by rw[hC,hacc];exact Nat.succ_ne_self _
 have clt:∀x c,X.env.cells.lookup x=some c→c<s2.heap.objs.size:=fun x c e=>by
  obtain⟨v,q⟩:=I.cell x c e
  exact q.lt
 refine⟨⟨I.ok.mod,S.kind,I.ok.glob,I.ok.blt,?above,?inj,?has,?cab,I.ok.hd,I.ok.frames,.inl rfl,?exf,fun b o e=>I.bs b o e,aP I.ok.bsz I.sz,?noex,?exfs,I.stack,I.stkFree⟩,
  rfl,I.bare,Un.laid old (by rw[hacc];exact aC _) fa,⟨m,hn,?loc⟩,?cell,?free,?freeC,fun p hp=>absurd (show p∈([]:List (Addr×Obj)) from hp) (by simp),I.hok.laid old (by rw[hacc];exact aC _) ⟨aT _,[],n0,.nil,hl⟩,?len⟩
 case above=>show s2.heap.objs.size≤C;rw[hC];exact Nat.le_succ _
 case inj=>exact fun x y c h1 h2=>I.ok.inj x y c (yS I S h1).2 (yS I S h2).2
 case has=>exact fun x hx=>wV I S (wZ (env:=X.env) hx S.nocell)
 case cab=>exact fun x c h _=>absurd h (by show ¬(false=true);simp)
 case exf=>
  intro b hb
  obtain⟨o,hob⟩:=ho b hb
  refine⟨?_,fun x c e=>(hf b hb).2.2.2.2.1 x c (yS I S e).2⟩
  show b≠C
  rw[hC]
  exact aX (Nat.lt_succ_of_lt (aF hob))
 case noex=>
  intro b o e hb
  rcases (hf b hb).2.2.2.1 with z|z
  ·exact I.ok.noex b o e z
  ·exact absurd (aR (aF e) (aP I.ok.bsz z)) (zd3 _)
 case exfs=>
  intro b hb hz
  rcases ay.mp (I.stkSub b hz) with e|e
  ·exact (hf b hb).2.1 e
  ·exact (hf b hb).2.2.1 e
 case loc=>
  intro i x v e1 e2 e3
  obtain⟨j,q1,q2⟩:=nW e2
  obtain⟨y,n1,n2,n3⟩:=S.imps i j q1
  have n1':(X.comp N scope C s2 H2 fp).N[i]?=some y:=n1
  rw[n1'] at e1
  have exy:y=x:=aL e1
  subst exy
  have hfr:=S.frees (y,.free) (zb2 n3) rfl
  obtain⟨mX,hnX,hlX⟩:=I.loc
  obtain⟨u,r,l⟩:=hlX j y v n2 q2 (.inr hfr)
  refine⟨u,r,?_⟩
  rcases l with ⟨k,_⟩|⟨k,c,e,z⟩
  ·have k':X.env.scope.names.lookup y=some .local:=k
   rcases hfr with z|z
   ·have z':X.env.scope.names.lookup y=some .cell:=z
    rw[k'] at z';cases z'
   ·have z':X.env.scope.names.lookup y=some .free:=z
    rw[k'] at z';cases z'
  ·obtain⟨d,hd⟩:=wV I S (zb2 n3)
   have hd2:=(yS I S hd).2
   rw[e] at hd2
   have edc:c=d:=aL hd2
   subst edc
   exact .inr ⟨vE (env:=X.env) n3,c,hd,z.keeps old⟩
 case cell=>
  intro x c e
  obtain⟨v,q⟩:=I.cell x c (yS I S e).2
  exact⟨v,q.keeps old⟩
 case free=>
  show upd H2 acc _ C=none
  rw[zj cac]
  exact I.hok.fresh (by rw[hC];exact Nat.le_succ _)
 case freeC=>
  intro x c e
  have e':=(yS I S e).2
  have hlt:=clt x c e'
  show upd H2 acc _ c=none
  rw[zj (by rw[hacc];exact aX hlt)]
  exact I.freeC x c e'
 case len=>
  show (xx imp σ).length=N.length
  unfold xx
  rw[ax]
  exact S.len
theorem nJ {pl:List (Addr×Obj)}{τ:St}(I:Inv X pins σ H2 s2)(hf:∀b∈fp,vk X pins H2 b)(J:Inv (X.comp N scope C s2 H2 fp) pl τ H' s'):Inv X pins σ H' s':=
 I.call' (ch:=fp) J.os J.base J.hok J.bare fun b hb=>⟨(hf b hb).2.2.2.1,(hf b hb).2.1,(hf b hb).2.2.2.2.1,(hf b hb).2.2.2.2.2⟩
end
section
variable {prog:Program}{w:World}{A:Around}{R:Result→Shared→Prop}{s:Shared}
theorem sL {elt target iter:Expr}{ifs:List Expr}{scope:Scope}{pos:Pos}{it acc:Value}{env:Env}(I:Nat→Shared→Prop)
  (turn:∀n s,I n s→wpAny (model prog w) A (pyNext it) (fun r s1=>match r with
   |none=>R (.ok .next) s1
   |some v=>wpAny (model prog w) A (letOwnedTupleGo target it v) (fun _ s2=>wpAny (model prog w) A (assign target env v) (fun _ s3=>
     wpAny (model prog w) A (forIn ifs true fun c r=>if r=true then do let ok ←isTrue c env (eval c env);pure (ForInStep.yield ok) else pure (ForInStep.yield r)) (fun ok s4=>
      if ok=true then wpAny (model prog w) A (eval elt env) (fun x s5=>
       wpAny (model prog w) A (call (.builtin "list.append") [acc,x]) (fun _ s6=>∃m,m<n∧I m s6) (fun _ _=>False) s5) (fun _ _=>False) s4
      else ∃m,m<n∧I m s4) (fun _ _=>False) s3) (fun _ _=>False) s2) (fun _ _=>False) s1) (fun _ _=>False) s)
  (n:Nat) (h:I n s):codeAny (model prog w) A (.compLoop (.ListComp elt [⟨target,iter,ifs,0⟩] scope pos) 0 it acc env) R s:=by
 refine codeAny_loop rfl I (fun n s hI=>?_) n h
 show wpAny _ A ((compTurn (.ListComp elt [⟨target,iter,ifs,0⟩] scope pos) 0 it acc env).onRaise (fun x=>do noteFrame x env;theTreesLotGoes x)) _ _ s
 refine wpAny_noted ?_
 rw[compTurn_list]
 refine za1 (wpAny_standAt (za1 (za7 (turn n s hI) (fun r s1 h1=>?_) fun _ _ h'=>False.elim h')))
 cases r with
 |none=>exact zb3 h1
 |some v=>
  refine za1 (za7 h1 (fun _ s2 h2=>?_) fun _ _ h'=>False.elim h')
  refine za1 (za7 h2 (fun _ s3 h3=>za1 (za7 h3 (fun ok s4 h4=>?_) fun _ _ h'=>False.elim h')) fun _ _ h'=>False.elim h')
  cases ok with
  |false=>exact zb3 ⟨rfl,h4⟩
  |true=>
   exact za1 (za1 (za7 h4 (fun x s5 h5=>za1 (za7 h5 (fun _ s6 h6=>zb3 (zb3 ⟨rfl,h6⟩)) fun _ _ h'=>False.elim h')) fun _ _ h'=>False.elim h'))
end
def wB (Y:Cx)(ifs:List Expr)(t:TT):Prop:=
 ∀(pins:List (Addr×Obj)) (s:Shared) (σ:St) (H:Hp) (Q:Bool→Hp→Prop),Inv Y pins σ H s→t σ H Q→
  wpAny (model Y.prog Y.w) Y.A (forIn ifs true fun c r=>if r=true then do let ok ←isTrue c Y.env (eval c Y.env);pure (ForInStep.yield ok) else pure (ForInStep.yield r)) (TP Y pins σ Q) Y.xe s
def ag :TT:=fun _ H Q=>Q true H
theorem ir {Y:Cx}:wB Y [] ag:=fun _ _ _ H _ I h=>wpAny_tests_nil ⟨H,I,h⟩
def pV (J:It)(acc:Addr)(g:TG)(tt:TT)(te:TE)(τ0:St)(H0:Hp)(Q:VK):Prop:=
 ∃W:Nat→Nat→List V→St→Hp→Prop,(∃m,W 0 m [] τ0 H0)∧∀i m ys τ H2,W i m ys τ H2→
  (J.stop i H2∧Q (.ref acc) H2)∨(J.go i H2∧∃N:List V→St→Hp→Prop,(∀ys' τ' H',N ys' τ' H'→∃m',m'<m∧W (i+1) m' ys' τ' H')∧
   ∀x H3,J.yld i H2 x H3→g x τ H3 fun τ2 H4=>tt τ2 H4 fun c H5=>
    if c=true then te τ2 H5 fun y H6=>H6 acc=some (.lst ys)∧ys.length<sizeLine∧N (ys++[y]) τ2 (upd H6 acc (.lst (ys++[y]))) else N ys τ2 H5)
def jB (wi:TI)(imp:List (Option Nat))(g:TG)(tt:TT)(te:TE):TE:=fun σ H Q=>wi σ H fun J H1=>∀acc,H1 acc=none→pV J acc g tt te (xx imp σ) (upd H1 acc (.lst [])) Q
section
variable {X:Cx}{pins:List (Addr×Obj)}{σ:St}{elt iter tg:Expr}{ifs:List Expr}{scope:Scope}{pos:Pos}{wi:TI}{g:TG}{tt:TT}{te:TE}{N:List Str}{imp:List (Option Nat)}
theorem uu {H2:Hp}{s2:Shared}{it:Addr}{fp:List Addr}{tn:Nat→Heap→Prop}{J:It}{RR:Value→Addr→Result→Shared→Prop}{E:Value→Shared→Prop}{Q:VK}
  (hc:X.calm=true) (S:zN X.N X.env.scope N imp scope) (hg:∀C s2 H2 fp,PG (X.comp N scope C s2 H2 fp) tg g) (ht:∀C s2 H2 fp,wB (X.comp N scope C s2 H2 fp) ifs tt) (he:∀C s2 H2 fp,PE (X.comp N scope C s2 H2 fp) elt te)
  (I2:Inv X pins σ H2 s2) (T:Turn X.prog X.w X.K tg J fp it tn) (st2:tn 0 s2.heap) (f2:∀b∈fp,vk X pins H2 b)
  (hW:∀acc,H2 acc=none→pV J acc g tt te (xx imp σ) (upd H2 acc (.lst [])) Q)
  (hRR:∀a C H' s' m,Inv X pins σ H' s'→s'.heap.Ns C m→vk X pins H' C→Q (.ref a) H'→RR (.ref a) C (.ok .next) s'):
  wpAny (model X.prog X.w) X.A (newList []) (fun acc s3=>wpAny (model X.prog X.w) X.A (newFunctionEnv scope X.env.globals (wI X.env.cells scope.names []) [] X.env.qual none .none (some X.env)) (fun cenv s4=>
   codeAny (model X.prog X.w) X.A (.compStart (.ListComp elt [⟨tg,iter,ifs,0⟩] scope pos) 0 (.ref it) acc {cenv with scope:=relabel scope X.env}) (RR acc cenv.locals) s4) E s3) E s2:=by
 refine wpAny_newObj_type (wpAny_newFunctionEnv S.nocell (by intro y hy;simp at hy) (fun h1 hns1 hsb1=>?_) S.kind)
 dsimp only at hns1 hsb1 ⊢
 generalize hHH:s2.heap.push {cls:=.type "list",dict:=none,data:=.seq ([]:List Value).toArray}=HH at hns1 hsb1 ⊢
 have hC:HH.objs.size=s2.heap.objs.size+1:=by rw[←hHH,Heap.size_push]
 have hDC:s2.heap.objs.size≠HH.objs.size:=by rw[hC];exact aX (zf3 _)
 have old:∀b o,s2.heap.get? b=some o→h1.get? b=some o:=fun b o e=>hsb1.extBut b o (by rw[hC];exact aX (Nat.lt_succ_of_lt (aF e))) (aG _ (hHH▸aG _ e))
 have hacc:h1.get? s2.heap.objs.size=some {cls:=.type "list",data:=.seq ([]:List Value).toArray}:=hsb1.extBut _ _ hDC (aG _ (hHH▸za2 _ rfl))
 obtain⟨W,⟨m0,w0⟩,turn⟩:=hW s2.heap.objs.size I2.fresh
 generalize hCC:HH.objs.size=C at hns1 hsb1 hC hDC ⊢
 have ho:∀b∈fp,∃o,s2.heap.get? b=some o:=fun b hb=>let ⟨o,e,_⟩:=T.obj 0 _ st2 b hb;⟨o,e⟩
 generalize hacc0:s2.heap.objs.size=acc at *
 have loop:∀s3:Shared,s3={s2 with heap:=h1,toks:=s2.toks+([]:List (Str×Value)).length}→
   codeAny (model X.prog X.w) X.A (.compLoop (.ListComp elt [⟨tg,iter,ifs,0⟩] scope pos) 0 (.ref it) (.ref acc) (X.comp N scope C s2 H2 fp).env) (RR (.ref acc) C) s3:=by
  rintro s3 rfl
  have I3:Inv (X.comp N scope C s2 H2 fp) [] (xx imp σ) (upd H2 acc (.lst [])) {s2 with heap:=h1,toks:=s2.toks+([]:List (Str×Value)).length}:=
   jO I2 S f2 ho hacc0.symm (by rw[hC,hacc0]) old hns1 hacc
  have fpn:∀b∈fp,upd H2 acc (.lst []) b=none:=fun b hb=>by
   obtain⟨o,e⟩:=ho b hb
   rw[zj (by rw[←hacc0];exact aX (aF e))]
   exact (f2 b hb).1
  have stat:∀{H':Hp},(∀b∈fp,H' b=none)→∀b∈fp,vk (X.comp N scope C s2 H2 fp) [] H' b:=fun hn b hb=>by
   obtain⟨e1,e2⟩:=I3.ok.exf b hb
   exact⟨hn b hb,e1,I3.ok.exfs b hb,.inl hb,e2,fun p hp=>absurd (show p∈([]:List (Addr×Obj)) from hp) (by simp)⟩
  refine sL (fun n s'=>∃i ys τ H',Inv (X.comp N scope C s2 H2 fp) [] τ H' s'∧tn i s'.heap∧(∀b∈fp,H' b=none)∧W i n ys τ H') ?_ m0
   ⟨0,[],_,_,I3,T.keep _ _ _ st2 fun b _ o e=>old b o e,fpn,w0⟩
  rintro n s4 ⟨i,ys,τ,H4,I4,st4,fr4,w4⟩
  rcases turn i n ys τ H4 w4 with ⟨stop,qn⟩|⟨go,NN,hN,step⟩
  ·refine za7 (T.done (X.comp N scope C s2 H2 fp) rfl rfl rfl hc i [] s4 τ H4 (fun _ _=>False) I4 (stat fr4) st4 stop) (fun r s5 ⟨hr,I5⟩=>?_) fun _ _ z=>z
   subst hr
   obtain⟨m5,hn5,_⟩:=id I5.loc
   exact hRR acc C H4 s5 m5 (nJ I2 f2 I5) hn5 (I2.fpOk (by rw[hC,hacc0];exact Nat.le_succ _) I5.free) qn
  ·refine za7 (T.item (X.comp N scope C s2 H2 fp) rfl rfl rfl hc i [] s4 τ H4 (fun _ _=>False) I4 (stat fr4) st4 go) (fun r s5 ⟨u,hr,h5⟩=>?_) fun _ _ z=>z
   subst hr
   refine za7 h5 (fun _ s6 ⟨x,H6,I6,r6,y6,st6,fr6⟩=>?_) fun _ _ z=>z
   have I6':=I6.pinned (stat fr6) (T.obj _ _ st6)
   refine za7 (hg C s2 H2 fp _ s6 τ H6 x u _ I6' r6 (step x H6 y6)) (fun _ s7 ⟨τ7,H7,I7,q7⟩=>?_) fun _ _ z=>z
   refine za7 (ht C s2 H2 fp _ s7 τ7 H7 _ I7 q7) (fun ok s8 ⟨H8,I8,q8⟩=>?_) fun _ _ z=>z
   have again:∀{ys9:List V} {H9:Hp} {s9:Shared},Inv (X.comp N scope C s2 H2 fp) ([]++ug fp s6.heap) τ7 H9 s9→NN ys9 τ7 H9→∃m,m<n∧∃i ys τ H',Inv (X.comp N scope C s2 H2 fp) [] τ H' s9∧tn i s9.heap∧(∀b∈fp,H' b=none)∧W i m ys τ H':=fun {ys9 H9 s9} I9 n9=>by
    obtain⟨m',hm,w9⟩:=hN ys9 τ7 H9 n9
    refine⟨m',hm,i+1,ys9,τ7,H9,I9.unpinned,T.keep _ _ _ st6 fun b hb o e=>(I9.pin (b,o) (aV _ (aV _ (xC hb e)))).1,fun b hb=>?_,w9⟩
    obtain⟨o,e,d⟩:=T.obj _ _ st6 b hb
    exact (I9.pin (b,o) (aV _ (aV _ (xC hb e)))).2.1
   cases ok with
   |false=>
    have q8':NN ys τ7 H8:=by
     have z:=q8
     rw[if_neg aD] at z
     exact z
    rw[if_neg aD]
    exact again I8 q8'
   |true=>
    rw[if_pos rfl] at q8 ⊢
    refine za7 (he C s2 H2 fp _ s8 τ7 H8 _ I8 q8) (fun v s9 ⟨y,H9,I9,r9,a9,z9,q9⟩=>?_) fun _ _ z=>z
    refine za7 (vz (X:=X.comp N scope C s2 H2 fp) _ s9 τ7 H9 (.ref acc) [y] (.ref acc) [v] (fun _ H10=>H10=upd H9 acc (.lst (ys++[y]))) I9 rfl (.cons r9 .nil) ⟨acc,ys,y,rfl,rfl,a9,z9,rfl⟩) (fun _ s10 ⟨_,H10,I10,_,e10⟩=>?_) fun _ _ z=>z
    subst e10
    exact again I10 q9
 exact codeAny_compStart_list (loop _ rfl) (T.self X.A 0 _ _ _ (T.keep _ _ _ st2 fun b _ o e=>old b o e) (loop _ rfl))
theorem cR (hc:X.calm=true)(S:zN X.N X.env.scope N imp scope)(hi:PI X tg iter wi)(hg:∀C s2 H2 fp,PG (X.comp N scope C s2 H2 fp) tg g)(ht:∀C s2 H2 fp,wB (X.comp N scope C s2 H2 fp) ifs tt)
  (he:∀C s2 H2 fp,PE (X.comp N scope C s2 H2 fp) elt te) (hs:∀x,foldedSetIterable iter X.env x=pure x:=by intro _;rfl):
  PE X (.ListComp elt [⟨tg,iter,ifs,0⟩] scope pos) (jB wi imp g tt te):=by
 intro pins s σ H Q I h
 rw[eval_ListComp]
 refine wpAny_comprehension_free (use:=none) rfl hs (wA (wH I S)) S.kind S.locs (thn (hi pins s σ H _ I h) fun v s1 h1=>thn h1 fun itv s2 h2=>?_)
 obtain⟨it,fp,tn,J,H2,e,I2,T,st2,f2,hW⟩:=h2
 subst e
 refine uu (RR:=fun acc C=>compPost (model X.prog X.w) X.A X.xe none (EP X pins σ Q) acc C) hc S hg ht he I2 T st2 f2 hW fun a C H' s' m I' hn f q=>?_
 refine⟨m,hn,fun h' sb=>?_⟩
 obtain⟨g0,g1,g2,g3,g4,g5⟩:=f
 exact⟨.ref a,H',I'.turned (t':=s'.toks) (it:=C) (fun b o hb e=>(sb.2 b hb).trans e) g0 g1 g3 g4 g5,rfl,q⟩
theorem kg {i:Nat}{x:Str}{px:Pos}{spos:Pos}(hc:X.calm=true)(S:zN X.N X.env.scope N imp scope)(hi:PI X tg iter wi)(hg:∀C s2 H2 fp,PG (X.comp N scope C s2 H2 fp) tg g)(ht:∀C s2 H2 fp,wB (X.comp N scope C s2 H2 fp) ifs tt)
  (he:∀C s2 H2 fp,PE (X.comp N scope C s2 H2 fp) elt te) (hN:X.N.Nodup) (hx:X.N[i]?=some x) (hl:Loc X.env.scope x) (hsw:swapsWith (.ListComp elt [⟨tg,iter,ifs,0⟩] scope pos) (some (.Name x px)) spos.line X.env=pure true:=by rfl)
  (hf:X.fn x=true∨X.env.scope.names.lookup x=some .local:=by first|exact .inl rfl|exact .inr rfl|assumption) (hs:∀x,foldedSetIterable iter X.env x=pure x:=by intro _;rfl):
  PS X (.Assign [.Name x px] (.ListComp elt [⟨tg,iter,ifs,0⟩] scope pos) spos) (dG (jB wi imp g tt te) (tf i)):=by
 intro pins s σ H D I h
 rw[exec_Assign_Name_used _ _ _ _ hsw]
 refine za1 (wpAny_standAt (za1 ?_))
 show wpAny _ X.A (do let _ ←comprehension (.ListComp elt [⟨tg,iter,ifs,0⟩] scope pos) scope X.env _ (newList []) false (eval iter X.env) (some (assign (.Name x px) X.env))) _ _ s
 refine za1 (za7 (wpAny_comprehension_free (use:=some (assign (.Name x px) X.env)) (Q:=fun _ s'=>SP X pins D .next s') rfl hs (wA (wH I S)) S.kind S.locs (thn (hi pins s σ H _ I h) fun v s1 h1=>thn h1 fun itv s2 h2=>?_))
  (fun _ s' hq=>zb3 (zb3 hq)) fun _ _ e=>e)
 obtain⟨it,fp,tn,J,H2,e,I2,T,st2,f2,hW⟩:=h2
 subst e
 refine uu (Q:=fun x H1=>tf i x σ H1 D.nx) (RR:=fun acc C=>compPost (model X.prog X.w) X.A X.xe (some (assign (.Name x px) X.env)) (fun _ s'=>SP X pins D .next s') acc C) hc S hg ht he I2 T st2 f2 hW fun a C H' s' m I' hn f q=>?_
 show wpAny _ X.A (assign (.Name x px) X.env (.ref a)) _ _ _
 obtain⟨g0,g1,g2,g3,g4,g5⟩:=f
 refine wpAny_assign_Name (tI I' hN hx hl (show RelV (.ref a) (.ref a) from rfl) (fun s4 I4 hch=>?_) hf)
 obtain⟨ad,sb,had⟩:=hch
 have hCa:C≠ad:=by
  rcases had with e|e
  ·rw[e];exact g1
  ·exact (g4 x ad e).symm
 refine⟨m,hn.sameBut sb hCa,fun h' sb2=>?_⟩
 exact⟨_,H',I4.turned (t':=s4.toks) (it:=C) (fun b o hb e=>(sb2.2 b hb).trans e) g0 g1 g3 g4 g5,q⟩
end
mutual
inductive DV (H:Hp):V→PyData→Prop where
 |non:DV H .non .none
 |bl (b:Bool):DV H (.bl b) (.bool b)
 |int (i:Int):DV H (.int i) (.int i)
 |str (x:Str):DV H (.str x) (.str x)
 |lst {a:Addr} {xs:List V} {ds:List PyData}:H a=some (.lst xs)→DVs H xs ds→DV H (.ref a) (.list ds)
 |tup {a:Addr} {xs:List V} {ds:List PyData}:H a=some (.tup xs)→DVs H xs ds→DV H (.ref a) (.tuple ds)
inductive DVs (H:Hp):List V→List PyData→Prop where
 |nil:DVs H [] []
 |cons {x:V} {xs:List V} {d:PyData} {ds:List PyData}:DV H x d→DVs H xs ds→DVs H (x::xs) (d::ds)
end
section
variable {X:Cx}{pins:List (Addr×Obj)}{σ:St}{H:Hp}{s:Shared}
mutual
theorem DV.reads (I:Inv X pins σ H s):∀{x:V} {d:PyData} {u:Value},DV H x d→RelV x u→∃as,Reads s.heap u d as
 |_,_,u,.non,r=>by cases (show u=Value.none from r);exact⟨_,.none⟩
 |_,_,u,.bl b,r=>by cases (show u=Value.bool b from r);exact⟨_,.bool b⟩
 |_,_,u,.int i,r=>by obtain⟨t,rfl⟩:=(show ∃t,u=Value.int i t from r);exact⟨_,.int i t⟩
 |_,_,u,.str x,r=>by obtain⟨t,rfl⟩:=(show ∃t,u=Value.str x t from r);exact⟨_,.str x t⟩
 |_,_,u,.lst (a:=a) hq hs,r=>by
  cases (show u=Value.ref a from r)
  obtain⟨its,rv,p,hz⟩:=I.list (SqL.of hq)
  obtain⟨o,ho,hc,n,hd⟩:=p.isList
  obtain⟨as,ra⟩:=DVs.reads I hs rv
  exact⟨_,.list ho hc hd (by simpa using ra)⟩
 |_,_,u,.tup (a:=a) hq hs,r=>by
  cases (show u=Value.ref a from r)
  obtain⟨its,rv,p,hz⟩:=I.tuple (SqT.of hq)
  obtain⟨o,ho,hc,n,hd⟩:=p
  obtain⟨as,ra⟩:=DVs.reads I hs rv
  exact⟨_,.tuple ho hc hd (by simpa using ra)⟩
theorem DVs.reads (I:Inv X pins σ H s):∀{xs:List V} {ds:List PyData} {us:List Value},DVs H xs ds→Vals xs us→∃as,ReadsAll s.heap us ds as
 |_,_,_,.nil,.nil=>⟨_,.nil⟩
 |_,_,_,.cons h hs,.cons r rs=>by
  obtain⟨as,ra⟩:=DV.reads I h r
  obtain⟨bs,rb⟩:=DVs.reads I hs rs
  exact⟨_,.cons ra rb⟩
end
end
mutual
theorem DV.same {H H':Hp}(e:zr H H'):∀{x:V} {d:PyData},DV H x d→DV H' x d
 |_,_,.non=>.non
 |_,_,.bl b=>.bl b
 |_,_,.int i=>.int i
 |_,_,.str x=>.str x
 |_,_,.lst hq hs=>.lst (e _ _ hq) (DVs.same e hs)
 |_,_,.tup hq hs=>.tup (e _ _ hq) (DVs.same e hs)
theorem DVs.same {H H':Hp}(e:zr H H'):∀{xs:List V} {ds:List PyData},DVs H xs ds→DVs H' xs ds
 |_,_,.nil=>.nil
 |_,_,.cons h hs=>.cons (DV.same e h) (DVs.same e hs)
end
theorem DVs.length {H:Hp}:∀{xs:List V} {ds:List PyData},DVs H xs ds→xs.length=ds.length
 |_,_,.nil=>rfl
 |_,_,.cons _ hs=>by rw[aJ,aJ,DVs.length hs]
def tyD :PyData→String
 |.none=>"NoneType"
 |.bool _=>"bool"
 |.int _=>"int"
 |.str _=>"str"
 |.list _=>"list"
 |.tuple _=>"tuple"
 |.dict _=>"dict"
theorem DV.ty {K:PySem.W.Frag}{H:Hp}{x:V}{d:PyData}(h:DV H x d):wx K H x (.type (tyD d)):=by
 cases h with
 |non=>exact .non
 |bl b=>exact .bl b
 |int i=>exact .int i
 |str x=>exact .str x
 |lst e _=>exact .lst e
 |tup e _=>exact .tup e
def isInt :PyData→Bool
 |.int _=>true
 |.bool _=>true
 |_=>false
def isBool :PyData→Bool
 |.bool _=>true
 |_=>false
def isStr :PyData→Bool
 |.str _=>true
 |_=>false
def isList :PyData→Bool
 |.list _=>true
 |_=>false
def oa :PyData→Bool
 |.tuple _=>true
 |_=>false
def uP (T:String)(d:PyData):Option Bool:=
 if T="int" then some (isInt d) else if T="bool" then some (isBool d) else if T="str" then some (isStr d) else if T="list" then some (isList d) else if T="tuple" then some (oa d) else none
def fN (t T:String):Option Bool:=if (Value.type t == Value.type T)=true then some true else if PySem.W.kitMeta T=true then (fastBuiltinMro t).map (·.contains (Value.type T)) else none
theorem jA (K:PySem.W.Frag)(t T:String):PySem.W.kitOne K (.type t) (.type T)=fN t T:=rfl
theorem mW :(["NoneType","bool","int","str","list","tuple"].all fun t=>["int","bool","str","list","tuple"].all fun T=>
  fN t T == some (if T="int" then t == "int"||t == "bool" else t == T))=true:=by decide +kernel
theorem cL (K:PySem.W.Frag){H:Hp}{x:V}{d:PyData}(h:DV H x d){T:String}{b:Bool}(e:uP T d=some b):PySem.W.kitOne K (.type (tyD d)) (.type T)=some b:=by
 rw[jA]
 have key:∀t∈["NoneType","bool","int","str","list","tuple"],∀T∈["int","bool","str","list","tuple"],fN t T=some (if T="int" then t == "int"||t == "bool" else t == T):=fun t ht T hT=>
  eq_of_beq (zc0.mp (zc0.mp mW t ht) T hT)
 have hd:tyD d∈["NoneType","bool","int","str","list","tuple"]:=by cases h<;>simp[tyD]
 unfold uP at e
 split at e
 ·rename_i eT
  subst eT
  rw[key _ hd "int" (by decide)]
  cases e
  cases h<;>rfl
 ·split at e
  ·rename_i eT
   subst eT
   rw[key _ hd "bool" (by decide)]
   cases e
   cases h<;>rfl
  ·split at e
   ·rename_i eT
    subst eT
    rw[key _ hd "str" (by decide)]
    cases e
    cases h<;>rfl
   ·split at e
    ·rename_i eT
     subst eT
     rw[key _ hd "list" (by decide)]
     cases e
     cases h<;>rfl
    ·split at e
     ·rename_i eT
      subst eT
      rw[key _ hd "tuple" (by decide)]
      cases e
      cases h<;>rfl
     ·cases e
section
variable {X:Cx}
def cP :R2:=fun x y H Q=>∃d e,DV H x d∧DV H y e∧SeqAt.shaped d=true∧SeqAt.shaped e=true∧Q (.bl (PyData.eqv d e)) H
def cD :R2:=fun x y H Q=>∃d e,DV H x d∧DV H y e∧SeqAt.shaped d=true∧SeqAt.shaped e=true∧Q (.bl (!PyData.eqv d e)) H
theorem xR (hu:X.A.units+64<cLine):OpR X (compareOp .Eq) cP:=by
 intro pins s σ H x y v u Q I rx ry h
 obtain⟨d,e,hd,he,sd,se,q⟩:=h
 obtain⟨as,ra⟩:=hd.reads I rx
 obtain⟨bs,rb⟩:=he.reads I ry
 exact SeqAt.compareEq_shaped ra rb sd se hu ⟨.bl _,H,I,rfl,q⟩
theorem eQ (hu:X.A.units+64<cLine):OpR X (compareOp .NotEq) cD:=by
 intro pins s σ H x y v u Q I rx ry h
 obtain⟨d,e,hd,he,sd,se,q⟩:=h
 obtain⟨as,ra⟩:=hd.reads I rx
 obtain⟨bs,rb⟩:=he.reads I ry
 exact SeqAt.compareNe_shaped ra rb sd se hu ⟨.bl _,H,I,rfl,q⟩
theorem jt :yN X (.builtin "isinstance") (fun xs H Q=>∃x T t b,xs=[x,.ty T]∧wx X.K H x t∧PySem.W.kitOne X.K t (.type T)=some b∧Q (.bl b) H):=by
 intro pins s σ H xs us Q I r h
 obtain⟨x,T,t,b,rfl,ty,e,q⟩:=h
 obtain⟨u,v,rfl,rx,ry⟩:=Vals.two r
 cases (show v=Value.type T from ry)
 exact tq I rx ty e fun tk=>⟨.bl b,H,I.tok tk,rfl,q⟩
theorem yT :yN X (.builtin "isinstance") (fun xs H Q=>∃x T d b,xs=[x,.ty T]∧DV H x d∧uP T d=some b∧Q (.bl b) H):=by
 intro pins s σ H xs us Q I r h
 obtain⟨x,T,d,b,e,hd,ht,q⟩:=h
 exact jt pins s σ H xs us Q I r ⟨x,T,_,b,e,hd.ty,cL X.K hd ht,q⟩
def gU (i j:Int):Prop:=0<j∧j.natAbs.log2<9000
theorem ud :OpR X (binaryOp .FloorDiv) (rI gU fun i j=>.int (i / j)):=opI fun i j _ _ _ _ _ hc q=>by
 have h1:(0:Int)<j:=hc.1
 refine floordiv_int (Int.ne_of_gt h1) ?_ (.inl (PyProof.noPylong_of_log2 hc.2))
 rw[Int.fdiv_eq_ediv_of_nonneg _ (Int.le_of_lt h1)]
 exact q
abbrev big :Int:=115792089237316195423570985008687907853269984665640564039457584007913129639936
theorem log2_small {j:Int}(h0:0<j)(h:j<big):j.natAbs.log2<9000:=by
 have hn:j.natAbs≠0:=by omega
 have h2:j.natAbs<2 ^ 256:=by
  have e:(2:Nat) ^ 256=115792089237316195423570985008687907853269984665640564039457584007913129639936:=by decide +kernel
  rw[e]
  unfold big at h
  omega
 have h3:j.natAbs.log2<256:=(Nat.log2_lt hn).mpr h2
 omega
def vg (lo:Int)(n:Nat):List Int:=(List.range n).map fun i=>lo+(i:Nat)
theorem yH (lo:Int)(n:Nat):(vg lo n).length=n:=by simp[vg]
theorem uy {lo:Int}{n i:Nat}(h:i<n):(vg lo n)[i]?=some (lo+(i:Nat)):=by simp[vg,h]
theorem kK {bs:List Bool}:∀{us:List Value},Vals (bs.map V.bl) us→LSm.BoolsAre us bs:=by
 induction bs with
 |nil=>intro us h;cases h;exact .nil
 |cons b bs ih=>
  intro us h
  cases h with
  |cons r rr=>
   cases (show _=Value.bool b from r)
   exact .cons b (ih rr)
end
def gL (X:Cx)(body:List Stmt):TS:=fun D σ H=>∃t,PSs X body t∧t D σ H
theorem zT {X:Cx}{body:List Stmt}:PSs X body (gL X body):=fun pins s σ H D I ⟨t,p,q⟩=>p pins s σ H D I q
theorem zX {X:Cx}{st:Stmt}{rest:List Stmt}{D:Ends}{σ:St}{H:Hp}(M:St→Hp→Prop)(h1:∃t,PS X st t∧t {D with nx:=M} σ H)(h2:∀σ' H',M σ' H'→∃t,PSs X rest t∧t D σ' H'):
  ∃t,PSs X (st::rest) t∧t D σ H:=by
 obtain⟨t1,p1,q1⟩:=h1
 refine⟨fun D' σ' H'=>D'=D∧σ'=σ∧H'=H,?_,rfl,rfl,rfl⟩
 intro pins s σ' H' D' I h
 obtain⟨e1,e2,e3⟩:=h
 subst e1 e2 e3
 have step:PSs X (st::rest) (bb t1 fun D2 σ2 H2=>D2=D'∧M σ2 H2):=zG p1 fun pins s σ2 H2 D2 I2 ⟨e,m⟩=>by
  subst e
  obtain⟨t2,p2,q2⟩:=h2 σ2 H2 m
  exact p2 pins s σ2 H2 _ I2 q2
 refine step pins s _ _ _ I ?_
 show t1 {D' with nx:=fun σ2 H2=>D'=D'∧M σ2 H2} _ _
 have e:(fun (σ2:St) (H2:Hp)=>D'=D'∧M σ2 H2)=M:=by
  funext σ2 H2
  exact propext ⟨fun z=>z.2,fun z=>⟨rfl,z⟩⟩
 rw[e]
 exact q1
def dN (bs:List Int):Prop:=∃x y:Int,bs=[x,y]∧0≤y∧y<4294967296
structure yG (H:Hp)(t b c:Addr):Prop where
 ex:∃(n:Int) (bs cs:List Int),(b=t∧c=t)∧H t=some (.lst (bs.map V.int))∧H b=some (.lst (bs.map V.int))∧H c=some (.lst (cs.map V.int))∧dN bs∧n=0
def eO (t b:Addr)(H H':Hp):Prop:=∀a,a≠t→a≠b→H' a=H a
def jE :Sp:=fun vs H Q _=>∃(t b c:Addr) (many:Int),vs=[.ref t,.int many]∧yG H t b c∧0<many∧many<big∧
 ∀(v:Int) (H':Hp),0≤v→v<many→yG H' t b c→eO t b H H'→Q (.int v) H'
theorem yG.free {H:Hp}{t b c l:Addr}(T:yG H t b c)(h:H l=none):l≠t∧l≠b∧l≠c:=by
 obtain⟨n,bs,cs,n1,e1,e2,e3,l1,l2⟩:=T.ex
 exact⟨(zh e1 h).symm,(zh e2 h).symm,(zh e3 h).symm⟩
theorem yG.off {H H':Hp}{t b c:Addr}(T:yG H t b c)(h:∀a,a=t∨a=b∨a=c→H' a=H a):yG H' t b c:=by
 obtain⟨n,bs,cs,n1,e1,e2,e3,l1,l2⟩:=T.ex
 exact⟨n,bs,cs,n1,by rw[h t (.inl rfl)];exact e1,by rw[h b (.inr (.inl rfl))];exact e2,by rw[h c (.inr (.inr rfl))];exact e3,l1,l2⟩
theorem kn {H:Hp}{t b c l:Addr}{o:HO}(T:yG H t b c)(h:l≠t∧l≠b∧l≠c):yG (upd H l o) t b c:=
 T.off fun a ha=>zj (ha.elim (fun e=>e▸h.1.symm) fun ha=>ha.elim (fun e=>e▸h.2.1.symm) fun e=>e▸h.2.2.symm)
theorem nX {H H':Hp}{t b c:Addr}(T:yG H t b c)(s:zr H H'):yG H' t b c:=by
 obtain⟨n,bs,cs,n1,e1,e2,e3,l1,l2⟩:=T.ex
 exact⟨n,bs,cs,n1,s _ _ e1,s _ _ e2,s _ _ e3,l1,l2⟩
theorem yg {H:Hp}{p:Addr}{o:HO}(h:H p=none):zr H (upd H p o):=fun b u e=>by rw[zj (zh e h)];exact e
def uc (x:Addr):Prop:=False
def TabAt (H:Hp):Prop:=True
def Plain (H:Hp)(l:Addr):Prop:=True
theorem qc {H H':Hp}(T:TabAt H)(h:∀a o,(∀xs,o≠.lst xs)→H a=some o→H' a=some o):TabAt H':=trivial
theorem gu {H:Hp}{l:Addr}{o:HO}(T:TabAt H)(h:Plain H l):TabAt (upd H l o):=trivial
theorem vP {H:Hp}{x:Addr}(T:TabAt H)(h:uc x):∃o,H x=some o∧(∀ts,o≠.tup ts)∧∀xs,o≠.lst xs:=h.elim
theorem vo {H:Hp}{l:Addr}{xs:List V}(h:H l=some (.lst xs)):Plain H l:=trivial
theorem lP {H:Hp}{l:Addr}{xs:List (Key×V)}(h:H l=some (.dK xs)):Plain H l:=trivial
theorem nc {H:Hp}{l C dx:Addr}{fs:List (Str×V)}(h:H l=some (.ins C dx fs)):Plain H l:=trivial
theorem rn {H:Hp}{l:Addr}(T:TabAt H)(h:H l=none):¬uc l:=fun z=>by
 obtain⟨o,e,_⟩:=vP T z
 rw[h] at e;cases e
theorem jW {H H':Hp}{t b:Addr}{xs ys:List V}(T:TabAt H)(ht:H t=some (.lst xs))(hb:H b=some (.lst ys))(off:eO t b H H'):TabAt H':=qc T fun a o no e=>by
 have n1:a≠t:=fun z=>by rw[z,ht] at e;cases e;exact no _ rfl
 have n2:a≠b:=fun z=>by rw[z,hb] at e;cases e;exact no _ rfl
 rw[off a n1 n2];exact e
theorem dr {H H':Hp}(T:TabAt H)(h:zr H H'):TabAt H':=qc T fun a o _ e=>h a o e
theorem iw (d:PyData):uP "int" d=some (isInt d):=by unfold uP;rw[if_pos rfl]
theorem ub (d:PyData):uP "bool" d=some (isBool d):=by unfold uP;rw[if_neg (by decide),if_pos rfl]
theorem uT (d:PyData):uP "tuple" d=some (oa d):=by unfold uP;rw[if_neg (by decide),if_neg (by decide),if_neg (by decide),if_neg (by decide),if_pos rfl]
structure yi (n:Nat)(d:PyData):Prop where
 shw:d.showable=true
 nod:d.hasDict=false
 dep:d.depth≤8
 len:d.shown.length≤n
 lay:d.canLay0=true
theorem yi.mono {m n:Nat}{d:PyData}(h:yi m d)(e:m≤n):yi n d:=⟨h.shw,h.nod,h.dep,aP h.len e,h.lay⟩
theorem vJ :∀(ts:List Str) (k:Nat) (acc:Str),(textFrom k acc ts).length≤acc.length+piled ts
 |[],_,acc=>by rw[piled_nil];exact aC _
 |t::r,k,acc=>by
  have h:=vJ r (k+1) (acc++(if k > 0 then ", " else "":String)++t)
  rw[piled_cons]
  have e2:(Str.ofString (if k > 0 then ", " else "":String)).length≤2:=by
   split
   ·exact Nat.le_of_eq rfl
   ·exact aT _
  have e3:=za8 (acc++Str.ofString (if k > 0 then ", " else "":String)) t
  have e4:=za8 acc (Str.ofString (if k > 0 then ", " else "":String))
  show (textFrom (k+1) (acc++Str.ofString (if k > 0 then ", " else "":String)++t) r).length≤_
  have h':(textFrom (k+1) (acc++Str.ofString (if k > 0 then ", " else "":String)++t) r).length≤(acc++Str.ofString (if k > 0 then ", " else "":String)++t).length+piled r:=h
  omega
theorem qk (ts:List Str):(listText ts).length≤piled ts+2:=by
 unfold listText
 rw[za8]
 have h:=vJ ts 0 (Str.ofString "[")
 have e1:(Str.ofString "[").length=1:=rfl
 have e2:(Str.ofString "]").length=1:=rfl
 show (textFrom 0 (Str.ofString "[") ts).length+(Str.ofString "]").length≤_
 omega
theorem sR (ts:List Str):(tupleText ts).length≤piled ts+3:=by
 cases ts with
 |nil=>decide +kernel
 |cons t r=>
  have h:=join_length_add (t::r) (by simp)
  unfold tupleText
  rw[za8,za8]
  have e1:(Str.ofString "(").length=1:=rfl
  have e2:(Str.ofString (if (t::r).length == 1 then ",)" else ")":String)).length≤2:=by
   split
   ·exact Nat.le_of_eq rfl
   ·exact zd1 (show 1<2 by decide)
  show (Str.ofString "(").length+(Str.join ", " (t::r)).length+(Str.ofString (if (t::r).length == 1 then ",)" else ")":String)).length≤_
  omega
theorem xW {n:Nat}:∀(ds:List PyData),(∀d∈ds,yi n d)→piled (PyData.shownAll ds)≤ds.length*(n+2)
 |[],_=>aT _
 |d::r,h=>by
  have h1:=(h d aA).len
  have h2:=xW r fun e he=>h e (az _ he)
  show piled (d.shown::PyData.shownAll r)≤_
  rw[piled_cons,aJ,Nat.succ_mul]
  omega
structure zY (n:Nat)(ds:List PyData):Prop where
 all:∀d∈ds,yi n d
 dep:∀d∈ds,d.depth≤7
theorem zY.parts {n:Nat}:∀{ds:List PyData},zY n ds→PyData.showableAll ds=true∧PyData.hasDictAll ds=false∧PyData.depthAll ds≤7∧PyData.canLayAll0 ds=true
 |[],_=>⟨rfl,rfl,aT _,rfl⟩
 |d::r,h=>by
  obtain⟨a,b,c,e⟩:=zY.parts (ds:=r) ⟨fun x hx=>h.all x (az _ hx),fun x hx=>h.dep x (az _ hx)⟩
  have hd:=h.all d aA
  have hp:=h.dep d aA
  refine⟨?_,?_,?_,?_⟩
  ·simp only[PyData.showableAll,hd.shw,a,Bool.and_self]
  ·simp only[PyData.hasDictAll,hd.nod,b,Bool.or_self]
  ·simp only[PyData.depthAll];omega
  ·simp only[PyData.canLayAll0,hd.lay,e,Bool.and_self]
theorem yi.list {n m:Nat}{ds:List PyData}(h:zY n ds)(e:ds.length*(n+2)+2≤m):yi m (.list ds):=by
 obtain⟨a,b,c,f⟩:=h.parts
 refine⟨by simp only[PyData.showable,a],by simp only[PyData.hasDict,b],by simp only[PyData.depth];omega,?_,by simp only[PyData.canLay0,f]⟩
 show (listText (PyData.shownAll ds)).length≤m
 have h1:=qk (PyData.shownAll ds)
 have h2:=xW ds h.all
 omega
theorem yi.tuple {n m:Nat}{ds:List PyData}(h:zY n ds)(e:ds.length*(n+2)+3≤m):yi m (.tuple ds):=by
 obtain⟨a,b,c,f⟩:=h.parts
 refine⟨by simp only[PyData.showable,a],by simp only[PyData.hasDict,b],by simp only[PyData.depth];omega,?_,by simp only[PyData.canLay0,f]⟩
 show (tupleText (PyData.shownAll ds)).length≤m
 have h1:=sR (PyData.shownAll ds)
 have h2:=xW ds h.all
 omega
theorem jx {i:Int}(h0:-big<i)(h1:i<big):i.natAbs.log2<1920:=by
 by_cases hn:i.natAbs=0
 ·rw[hn];decide
 ·have h2:i.natAbs<2 ^ 256:=by
   have e:(2:Nat) ^ 256=115792089237316195423570985008687907853269984665640564039457584007913129639936:=by decide +kernel
   rw[e]
   unfold big at h0 h1
   omega
  have h3:i.natAbs.log2<256:=(Nat.log2_lt hn).mpr h2
  omega
theorem yi.int {i:Int}(h0:-big<i)(h1:i<big):yi 2000 (.int i):=by
 have hl:=jx h0 h1
 refine⟨by simp only[PyData.showable,aO];exact hl,rfl,aT _,?_,rfl⟩
 have:=int_text_len_1921 hl
 show (Str.ofString (toString i)).length≤2000
 omega
theorem yi.none :yi 2000 .none:=⟨rfl,rfl,aT _,by decide +kernel,rfl⟩
theorem yi.bool (b:Bool):yi 2000 (.bool b):=⟨rfl,rfl,aT _,by cases b<;>decide +kernel,rfl⟩
theorem yi.shaped {n:Nat}{d:PyData}(h:yi n d):SeqAt.shaped d=true:=by
 unfold SeqAt.shaped
 rw[h.lay,zb0,aO]
 have:=h.dep
 omega
section
variable {X:Cx}
theorem oW {s:Shared}{h':Heap}{o:Obj}{q:Addr}(hq:q=s.heap.objs.size)(hk:∀b x,b∉[q]→(s.heap.push o).get? b=some x→h'.get? b=some x):∀b x,s.heap.get? b=some x→h'.get? b=some x:=fun b x e=>by
 refine hk b x (fun hm=>?_) (aG _ e)
 have e2:b=q:=by simpa using hm
 rw[e2,hq] at e
 exact zd3 _ (aF e)
theorem mE (hc:X.calm=true):yN X (.builtin "all") (fun xs H Q=>∃(p:Addr) (bs:List Bool),xs=[.ref p]∧H p=some (.lst (bs.map V.bl))∧Q (.bl (bs.all id)) H):=by
 intro pins s σ H xs us Q I r h
 obtain⟨p,bs,rfl,hp,q⟩:=h
 obtain⟨u,rfl,rx⟩:=Vals.one r
 cases (show u=Value.ref p from rx)
 obtain⟨its,rv,pl,hz⟩:=I.list (SqL.of hp)
 have hB:=kK rv
 have hL:=pl.isList
 have hlt:p<s.heap.objs.size:=I.hok.lt hp
 refine call_all_walk (wpAny_pyIter_list hL ⟨s.heap.objs.size,[s.heap.objs.size,p],[s.heap.objs.size],its.toArray.size,_,_,fun i=>(bs[i]?).getD true,rfl,
  Walks.list (A:=X.A.in1) (I.ok.hd hc) _ p (aX hlt) its.toArray,⟨⟨_,za2 _ rfl,rfl,rfl⟩,hL.push _⟩,fun i v s' Q' E' hP hQ=>?_,fun h' tk hk=>?_⟩)
 ·obtain⟨b,eb,rfl⟩:=hB.get i v (by simpa using hP)
  dsimp only at hQ
  rw[eb] at hQ
  exact zb1 hQ
 ·have ee:((List.range its.toArray.size).all fun i=>(bs[i]?).getD true)=bs.all id:=by
   rw[aN,hB.length]
   exact LSm.range_all bs
  rw[ee]
  exact⟨.bl _,H,I.kept (t':=tk) (oW rfl hk),rfl,q⟩
end
def pf :PyData→Bool
 |.int _=>true
 |_=>false
def zL (lo hi:Int):PyData→Bool
 |.int i=>decide (lo≤i)&&decide (i≤hi)
 |_=>false
def pairD :PyData→Bool
 |.tuple ds=>decide ((ds.length:Int)=2)
 |_=>false
abbrev wU :PyData→Bool:=zL 0 1000000
def uj :PyData→Bool
 |.tuple [a,b]=>wU a&&wU b
 |_=>false
def uR :PyData→Option Int
 |.tuple [.int a,.int b]=>if wU (.int a)&&wU (.int b) then some (b-a) else none
 |_=>none
def zU (d:PyData):Bool:=match uR d with
 |some k=>decide (0≤k)
 |none=>false
theorem nS (d:PyData):pf d=(isInt d&&!isBool d):=by cases d<;>rfl
theorem vC {d:PyData}(h:pairD d=true):∃a b,d=.tuple [a,b]:=by
 cases d with
 |tuple ds=>
  have h':(ds.length:Int)=2:=zc4 h
  match ds,h' with
  |[a,b],_=>exact⟨a,b,rfl⟩
  |[],z=>simp at z
  |[_],z=>simp at z
  |_::_::_::_,z=>simp at z;omega
 |_=>cases h
theorem ur (d:PyData):uj d=(uR d).isSome:=by
 unfold uj uR
 split
 ·rename_i a b
  cases a with
  |int i=>
   cases b with
   |int j=>
    show (wU (.int i)&&wU (.int j))=_
    cases e:(wU (.int i)&&wU (.int j))<;>simp[e]
   |_=>simp[zL]
  |_=>simp[zL]
 ·rename_i h
  split
  ·rename_i a b
   exact absurd rfl (h (.int a) (.int b))
  ·rfl
theorem qI {d:PyData}(h:uj d=true):∃a b:Int,d=.tuple [.int a,.int b]∧uR d=some (b-a):=by
 rw[ur] at h
 unfold uR at h ⊢
 split at h
 ·rename_i a b
  split at h
  ·rename_i hc
   exact⟨a,b,rfl,by simp[hc]⟩
  ·cases h
 ·cases h
def yu (g:PyData→Bool):Sp:=fun vs H Q _=>∃x d,vs=[x]∧DV H x d∧Q (.bl (g d)) H
def xZ :Sp:=fun vs H Q _=>∃x d lo hi,vs=[x,.int lo,.int hi]∧DV H x d∧Q (.bl (zL lo hi d)) H
theorem gI {n:Nat}:decide (V.int (n:Int)=V.int 2)=decide ((n:Int)=2):=by simp
noncomputable def sub (p:Addr→Prop)(H:Hp):Hp:=fun a=>open Classical in if p a then H a else none
theorem zf {p:Addr→Prop}{H:Hp}{a:Addr}{o:HO}(h:sub p H a=some o):p a∧H a=some o:=by
 unfold sub at h
 split at h
 ·rename_i hp;exact⟨hp,h⟩
 ·cases h
theorem zQ {p:Addr→Prop}{H:Hp}{a:Addr}{o:HO}(hp:p a)(h:H a=some o):sub p H a=some o:=by
 unfold sub
 rw[if_pos hp]
 exact h
theorem zo {p q:Addr→Prop}{H H':Hp}(h:∀a o,p a→H a=some o→q a∧H' a=some o):zr (sub p H) (sub q H'):=fun a o e=>by
 obtain⟨hp,he⟩:=zf e
 obtain⟨hq,he'⟩:=h a o hp he
 exact zQ hq he'
theorem yW {p:Addr→Prop}{H:Hp}:zr (sub p H) H:=fun _ _ e=>(zf e).2
theorem zY.snoc {n:Nat}{ds:List PyData}{d:PyData}(h:zY n ds)(hd:yi n d)(hp:d.depth≤7):zY n (ds++[d]):=
 ⟨fun e he=>(zb8.mp he).elim (h.all e) fun z=>by rw[aS.mp z];exact hd,fun e he=>(zb8.mp he).elim (h.dep e) fun z=>by rw[aS.mp z];exact hp⟩
theorem zY.nil {n:Nat}:zY n []:=⟨fun d hd=>by simp at hd,fun d hd=>by simp at hd⟩
theorem zY.two {n:Nat}{d e:PyData}(hd:yi n d)(he:yi n e)(h1:d.depth≤7)(h2:e.depth≤7):zY n [d,e]:=(zY.nil.snoc hd h1).snoc he h2
section
variable {X:Cx}{e:Expr}{es:List Expr}
def vO (X:Cx)(e:Expr):TE:=fun σ H Q=>∃t,PE X e t∧t σ H Q
theorem zd :PE X e (vO X e):=fun pins s σ H Q I ⟨t,p,q⟩=>p pins s σ H Q I q
def cG (X:Cx)(e:Expr):TT:=fun σ H Q=>∃t,PT X e t∧t σ H Q
theorem xG :PT X e (cG X e):=fun pins s σ H Q I ⟨t,p,q⟩=>p pins s σ H Q I q
def bj (X:Cx)(es:List Expr):TA:=fun σ H Q=>∃t,PA X es t∧t σ H Q
theorem yP :PA X es (bj X es):=fun pos pins s σ H Q I ⟨t,p,q⟩=>p pos pins s σ H Q I q
end
def oX :Key→PyData
 |.inl i=>.int i
 |.inr x=>.str x
def xcO (a C:Addr)(d:Option Addr):HO:=.ext fun h=>∃o vs,h.get? a=some o∧o.cls=.ref C∧o.dict=d∧o.data=.fields vs
mutual
inductive AV (H:Hp):V→PyData→Prop where
 |non:AV H .non .none
 |bl (b:Bool):AV H (.bl b) (.bool b)
 |int (i:Int):AV H (.int i) (.int i)
 |str (x:Str):AV H (.str x) (.str x)
 |lst {a:Addr} {xs:List V} {ds:List PyData}:H a=some (.lst xs)→AVs H xs ds→AV H (.ref a) (.list ds)
 |tup {a:Addr} {xs:List V} {ds:List PyData}:H a=some (.tup xs)→AVs H xs ds→AV H (.ref a) (.tuple ds)
 |ins {a C dx:Addr} {fs:List (Str×V)} {ds:List (PyData×PyData)}:H a=some (.ins C dx fs)→AVf H fs ds→AV H (.ref a) (.dict ((.int (C:Nat),.none)::ds))
 |dk {a:Addr} {o:Obj} {kvs:List (Key×V)} {ds:List (PyData×PyData)}:H a=some (.frz o (.dK kvs))→AVk H kvs ds→AV H (.ref a) (.dict ((.none,.none)::ds))
 |dt {a:Addr} {o:Obj} {kvs:List (List Key×V)} {ds:List (PyData×PyData)}:H a=some (.frz o (.dT kvs))→AVt H kvs ds→AV H (.ref a) (.dict ((.none,.bool true)::ds))
 |xc {a C dx:Addr} {fs:List (Str×V)} {ds:List (PyData×PyData)}:H a=some (xcO a C (some dx))→H dx=some (.xd fs)→AVf H fs ds→AV H (.ref a) (.dict ((.int (C:Nat),.bool true)::ds))
 |xn {a C:Addr}:H a=some (xcO a C none)→AV H (.ref a) (.dict [(.int (C:Nat),.bool false)])
inductive AVs (H:Hp):List V→List PyData→Prop where
 |nil:AVs H [] []
 |cons {x:V} {xs:List V} {d:PyData} {ds:List PyData}:AV H x d→AVs H xs ds→AVs H (x::xs) (d::ds)
inductive AVf (H:Hp):List (Str×V)→List (PyData×PyData)→Prop where
 |nil:AVf H [] []
 |cons {f:Str} {x:V} {fs:List (Str×V)} {d:PyData} {ds:List (PyData×PyData)}:AV H x d→AVf H fs ds→AVf H ((f,x)::fs) ((.str f,d)::ds)
inductive AVk (H:Hp):List (Key×V)→List (PyData×PyData)→Prop where
 |nil:AVk H [] []
 |cons {k:Key} {x:V} {fs:List (Key×V)} {d:PyData} {ds:List (PyData×PyData)}:AV H x d→AVk H fs ds→AVk H ((k,x)::fs) ((oX k,d)::ds)
inductive AVt (H:Hp):List (List Key×V)→List (PyData×PyData)→Prop where
 |nil:AVt H [] []
 |cons {k:List Key} {x:V} {fs:List (List Key×V)} {d:PyData} {ds:List (PyData×PyData)}:AV H x d→AVt H fs ds→AVt H ((k,x)::fs) ((.tuple (k.map oX),d)::ds)
end
mutual
theorem AV.same {H H':Hp}(e:zr H H'):∀{x:V} {d:PyData},AV H x d→AV H' x d
 |_,_,.non=>.non
 |_,_,.bl b=>.bl b
 |_,_,.int i=>.int i
 |_,_,.str x=>.str x
 |_,_,.lst hq hs=>.lst (e _ _ hq) (AVs.same e hs)
 |_,_,.tup hq hs=>.tup (e _ _ hq) (AVs.same e hs)
 |_,_,.ins hq hs=>.ins (e _ _ hq) (AVf.same e hs)
 |_,_,.dk hq hs=>.dk (e _ _ hq) (AVk.same e hs)
 |_,_,.dt hq hs=>.dt (e _ _ hq) (AVt.same e hs)
 |_,_,.xc hq hd hs=>.xc (e _ _ hq) (e _ _ hd) (AVf.same e hs)
 |_,_,.xn hq=>.xn (e _ _ hq)
theorem AVs.same {H H':Hp}(e:zr H H'):∀{xs:List V} {ds:List PyData},AVs H xs ds→AVs H' xs ds
 |_,_,.nil=>.nil
 |_,_,.cons h hs=>.cons (AV.same e h) (AVs.same e hs)
theorem AVf.same {H H':Hp}(e:zr H H'):∀{fs:List (Str×V)} {ds:List (PyData×PyData)},AVf H fs ds→AVf H' fs ds
 |_,_,.nil=>.nil
 |_,_,.cons h hs=>.cons (AV.same e h) (AVf.same e hs)
theorem AVk.same {H H':Hp}(e:zr H H'):∀{fs:List (Key×V)} {ds:List (PyData×PyData)},AVk H fs ds→AVk H' fs ds
 |_,_,.nil=>.nil
 |_,_,.cons h hs=>.cons (AV.same e h) (AVk.same e hs)
theorem AVt.same {H H':Hp}(e:zr H H'):∀{fs:List (List Key×V)} {ds:List (PyData×PyData)},AVt H fs ds→AVt H' fs ds
 |_,_,.nil=>.nil
 |_,_,.cons h hs=>.cons (AV.same e h) (AVt.same e hs)
end
mutual
theorem AV.dv {H:Hp}:∀{x:V} {d:PyData},AV H x d→d.hasDict=false→DV H x d
 |_,_,.non,_=>.non
 |_,_,.bl b,_=>.bl b
 |_,_,.int i,_=>.int i
 |_,_,.str x,_=>.str x
 |_,_,.lst hq hs,h=>.lst hq (AVs.dv hs (by simpa only[PyData.hasDict] using h))
 |_,_,.tup hq hs,h=>.tup hq (AVs.dv hs (by simpa only[PyData.hasDict] using h))
 |_,_,.ins hq hs,h=>by simp[PyData.hasDict] at h
 |_,_,.dk hq hs,h=>by simp[PyData.hasDict] at h
 |_,_,.dt hq hs,h=>by simp[PyData.hasDict] at h
 |_,_,.xc hq _ hs,h=>by simp[PyData.hasDict] at h
 |_,_,.xn hq,h=>by simp[PyData.hasDict] at h
theorem AVs.dv {H:Hp}:∀{xs:List V} {ds:List PyData},AVs H xs ds→PyData.hasDictAll ds=false→DVs H xs ds
 |_,_,.nil,_=>.nil
 |_,_,.cons h hs,e=>by
  simp only[PyData.hasDictAll,zg0] at e
  exact .cons (AV.dv h e.1) (AVs.dv hs e.2)
end
mutual
theorem DV.av {H:Hp}:∀{x:V} {d:PyData},DV H x d→AV H x d
 |_,_,.non=>.non
 |_,_,.bl b=>.bl b
 |_,_,.int i=>.int i
 |_,_,.str x=>.str x
 |_,_,.lst hq hs=>.lst hq (DVs.av hs)
 |_,_,.tup hq hs=>.tup hq (DVs.av hs)
theorem DVs.av {H:Hp}:∀{xs:List V} {ds:List PyData},DVs H xs ds→AVs H xs ds
 |_,_,.nil=>.nil
 |_,_,.cons h hs=>.cons (DV.av h) (DVs.av hs)
end
theorem AVs.length {H:Hp}:∀{xs:List V} {ds:List PyData},AVs H xs ds→xs.length=ds.length
 |_,_,.nil=>rfl
 |_,_,.cons _ hs=>by rw[aJ,aJ,AVs.length hs]
theorem AVs.append {H:Hp}:∀{xs ys:List V} {ds es:List PyData},AVs H xs ds→AVs H ys es→AVs H (xs++ys) (ds++es)
 |_,_,_,_,.nil,h=>h
 |_,_,_,_,.cons a r,h=>.cons a (AVs.append r h)
theorem AVs.get {H:Hp}:∀{xs:List V} {ds:List PyData} {i:Nat} {d:PyData},AVs H xs ds→ds[i]?=some d→∃x,xs[i]?=some x∧AV H x d
 |_,_,_,_,.nil,e=>by simp at e
 |_,_,0,_,.cons a _,e=>by simp at e;subst e;exact⟨_,rfl,a⟩
 |_,_,i+1,d,.cons _ r,e=>by
  obtain⟨x,h1,h2⟩:=AVs.get (i:=i) (d:=d) r (by simpa using e)
  exact⟨x,by simpa using h1,h2⟩
theorem AVs.take {H:Hp}:∀{xs:List V} {ds:List PyData} (n:Nat),AVs H xs ds→AVs H (xs.take n) (ds.take n)
 |_,_,0,_=>.nil
 |_,_,_+1,.nil=>.nil
 |_,_,n+1,.cons a r=>.cons a (AVs.take n r)
theorem AVs.drop {H:Hp}:∀{xs:List V} {ds:List PyData} (n:Nat),AVs H xs ds→AVs H (xs.drop n) (ds.drop n)
 |_,_,0,r=>r
 |_,_,_+1,.nil=>.nil
 |_,_,n+1,.cons _ r=>AVs.drop n r
theorem AVs.set {H:Hp}{x:V}{d:PyData}(a:AV H x d):∀{xs:List V} {ds:List PyData} (i:Nat),AVs H xs ds→AVs H (xs.set i x) (ds.set i d)
 |_,_,_,.nil=>.nil
 |_,_,0,.cons _ r=>.cons a r
 |_,_,i+1,.cons q r=>.cons q (AVs.set a i r)
theorem AVs.atI {H:Hp}{xs:List V}{ds:List PyData}{i:Int}{d:PyData}(h:AVs H xs ds)(e:atI ds i=some d):∃x,L2.atI xs i=some x∧AV H x d:=by
 unfold L2.atI at e ⊢
 rw[h.length]
 cases q:ixN ds.length i with
 |none=>rw[q] at e;cases e
 |some j=>
  rw[q] at e
  exact h.get (i:=j) e
def cutD (ds:List PyData)(lo hi:Option Int):List PyData:=(ds.drop (HT.sIx ds.length 0 lo)).take (HT.sIx ds.length ds.length hi-HT.sIx ds.length 0 lo)
theorem AVs.cut {H:Hp}{xs:List V}{ds:List PyData}(h:AVs H xs ds)(lo hi:Option Int):AVs H (ml xs lo hi) (cutD ds lo hi):=by
 unfold ml cutD
 rw[h.length]
 exact (h.drop _).take _
mutual
def noL :PyData→Bool
 |.list _=>false
 |.dict ((.none,_)::_)=>false
 |.dict kvs=>qF kvs
 |.tuple ds=>sX ds
 |_=>true
def sX :List PyData→Bool
 |[]=>true
 |d::r=>noL d&&sX r
def qF :List (PyData×PyData)→Bool
 |[]=>true
 |(_,d)::r=>noL d&&qF r
end
def Ob :HO→Prop
 |.lst _=>True
 |.dK _=>True
 |.frz _ _=>True
 |_=>False
mutual
theorem AV.noL {H H':Hp}(e:∀a o,¬Ob o→H a=some o→H' a=some o):∀{x:V} {d:PyData},AV H x d→noL d=true→AV H' x d
 |_,_,.non,_=>.non
 |_,_,.bl b,_=>.bl b
 |_,_,.int i,_=>.int i
 |_,_,.str x,_=>.str x
 |_,_,.lst _ _,h=>by simp[L2.noL] at h
 |_,_,.tup hq hs,h=>.tup (e _ _ (fun z=>z) hq) (AVs.noL e hs (by simpa only[L2.noL] using h))
 |_,_,.ins hq hs,h=>.ins (e _ _ (fun z=>z) hq) (AVf.noL e hs (by simpa[L2.noL,L2.qF] using h))
 |_,_,.dk _ _,h=>by simp[L2.noL] at h
 |_,_,.dt _ _,h=>by simp[L2.noL] at h
 |_,_,.xc hq hd hs,h=>.xc (e _ _ (fun z=>z) hq) (e _ _ (fun z=>z) hd) (AVf.noL e hs (by simpa[L2.noL,L2.qF] using h))
 |_,_,.xn hq,h=>.xn (e _ _ (fun z=>z) hq)
theorem AVs.noL {H H':Hp}(e:∀a o,¬Ob o→H a=some o→H' a=some o):∀{xs:List V} {ds:List PyData},AVs H xs ds→sX ds=true→AVs H' xs ds
 |_,_,.nil,_=>.nil
 |_,_,.cons h hs,q=>by
  simp only[L2.sX,aI] at q
  exact .cons (AV.noL e h q.1) (AVs.noL e hs q.2)
theorem AVf.noL {H H':Hp}(e:∀a o,¬Ob o→H a=some o→H' a=some o):∀{fs:List (Str×V)} {ds:List (PyData×PyData)},AVf H fs ds→qF ds=true→AVf H' fs ds
 |_,_,.nil,_=>.nil
 |_,_,.cons h hs,q=>by
  simp only[L2.qF,aI] at q
  exact .cons (AV.noL e h q.1) (AVf.noL e hs q.2)
end
structure Fr where
 H0:Hp
 O0:Addr→Prop
 tp:Option (Addr×Addr×Addr)
inductive A where
 |dat (d:PyData)
 |ow (c:PyData)
 |deep (d:PyData) (S:Addr→Prop)
 |tape
 |at (l:Addr)
 |exc (r:Fr) (q:PyData→Prop)
 |pin (l:Addr) (vs:List V) (ds:List PyData)
@[reducible] def A.own (ds:List PyData):A:=.ow (.list ds)
abbrev gm (ds:List (PyData×PyData)):PyData:=.dict ((.none,.none)::ds)
abbrev Ev :=List (Option A)
def xK (o:HO):Prop:=∀ts,o≠.tup ts
theorem yF {xs:List V}:xK (.lst xs):=fun _ z=>by cases z
theorem Ob.notup {o:HO}(h:Ob o):xK o:=fun ts z=>by subst z;exact h
def NT (F:Fr)(x:Addr):Prop:=(∀t b c,F.tp=some (t,b,c)→x≠t∧x≠b)∧¬uc x
def Kz (F:Fr)(H H':Hp):Prop:=∀x o,H x=some o→NT F x→H' x=some o
structure zB (F:Fr)(H:Hp):Prop where
 tab:TabAt H
 ot:∀x,uc x→F.O0 x
 all:∀t b c,F.tp=some (t,b,c)→yG H t b c∧F.O0 t∧F.O0 b∧F.O0 c
instance {F:Fr} {H:Hp}:CoeFun (zB F H) (fun _=>∀t b c,F.tp=some (t,b,c)→yG H t b c∧F.O0 t∧F.O0 b∧F.O0 c):=⟨zB.all⟩
theorem zB.to {F F':Fr}{H:Hp}(t:zB F H)(hp:F'.tp=F.tp)(ho:∀x,F.O0 x→F'.O0 x):zB F' H:=⟨t.tab,fun x h=>ho x (t.ot x h),fun a b c e=>by
 obtain⟨h1,h2,h3,h4⟩:=t a b c (hp▸e)
 exact⟨h1,ho _ h2,ho _ h3,ho _ h4⟩⟩
theorem zB.re {F F':Fr}{H H':Hp}(t:zB F H)(t':zB F' H')(hp:F'.tp=F.tp):zB F H':=⟨t'.tab,t.ot,fun a b c e=>⟨(t' a b c (hp▸e)).1,(t a b c e).2⟩⟩
theorem zB.upd {F:Fr}{H:Hp}{l:Addr}{o:HO}(t:zB F H)(h:∀a b c,F.tp=some (a,b,c)→l≠a∧l≠b∧l≠c)(hp:Plain H l):zB F (upd H l o):=⟨gu t.tab hp,t.ot,fun a b c e=>⟨kn (t a b c e).1 (h a b c e),(t a b c e).2⟩⟩
theorem zB.updO {F:Fr}{H:Hp}{l:Addr}{o:HO}(t:zB F H)(h:¬F.O0 l)(hp:Plain H l):zB F (L2.upd H l o):=t.upd (fun a b c e=>⟨fun z=>h (by rw[z];exact (t a b c e).2.1),fun z=>h (by rw[z];exact (t a b c e).2.2.1),fun z=>h (by rw[z];exact (t a b c e).2.2.2)⟩) hp
def foot (s:Option V):A→Addr→Prop
 |.ow _,x=>s=some (.ref x)
 |.deep _ S,x=>S x
 |_,_=>False
def Ow (F:Fr)(α:Ev)(σ:St)(x:Addr):Prop:=F.O0 x∨∃(i:Nat) (a:A) (s:Option V),α[i]?=some (some a)∧σ[i]?=some s∧foot s a x
noncomputable abbrev Gz (F:Fr)(α:Ev)(σ:St)(H:Hp):Hp:=sub (fun x=>¬Ow F α σ x) H
noncomputable def pO (S:Addr→Prop)(G H:Hp):Hp:=fun x=>open Classical in if S x then H x else match G x with
 |some (.lst _)=>none
 |o=>o
theorem vm {S:Addr→Prop}{G G' H H':Hp}(h:zr G G')(hS:∀x o,S x→H x=some o→H' x=some o):zr (pO S G H) (pO S G' H'):=fun x o e=>by
 unfold pO at e ⊢
 by_cases z:S x
 ·rw[if_pos z] at e ⊢;exact hS x o z e
 ·rw[if_neg z] at e ⊢
  cases q:G x with
  |none=>rw[q] at e;cases e
  |some u=>
   rw[h _ _ q]
   rw[q] at e
   exact e
theorem jj {S:Addr→Prop}{G H:Hp}{x:Addr}{o:HO}(h:pO S G H x=some o):(S x∧H x=some o)∨(¬S x∧G x=some o):=by
 unfold pO at h
 by_cases z:S x
 ·rw[if_pos z] at h;exact .inl ⟨z,h⟩
 ·rw[if_neg z] at h
  split at h
  ·cases h
  ·exact .inr ⟨z,h⟩
inductive yJ (G:Hp):HO→PyData→Prop where
 |lst {xs:List V} {ds:List PyData}:AVs G xs ds→yJ G (.lst xs) (.list ds)
 |dk {kvs:List (Key×V)} {ds:List (PyData×PyData)}:AVk G kvs ds→yJ G (.dK kvs) (gm ds)
theorem yJ.ob {G:Hp}{o:HO}{c:PyData}(h:yJ G o c):Ob o:=by cases h<;>trivial
theorem yJ.same {G G':Hp}{o:HO}{c:PyData}(h:yJ G o c)(s:zr G G'):yJ G' o c:=by
 cases h with
 |lst h=>exact .lst (h.same s)
 |dk h=>exact .dk (h.same s)
theorem yJ.av {G:Hp}{o:HO}{ds:List PyData}{l:Addr}(h:yJ G o (.list ds))(e:G l=some o):AV G (.ref l) (.list ds):=by
 cases h with
 |lst h=>exact .lst e h
theorem yJ.lst_inv {G:Hp}{o:HO}{ds:List PyData}(h:yJ G o (.list ds)):∃xs,o=.lst xs∧AVs G xs ds:=by cases h;exact⟨_,rfl,by assumption⟩
theorem yJ.plain {G H:Hp}{o:HO}{c:PyData}{l:Addr}(h:yJ G o c)(e:H l=some o):Plain H l:=by
 cases h with
 |lst h=>exact vo e
 |dk h=>exact lP e
structure Lnk (r F:Fr)(H:Hp):Prop where
 tp:r.tp=F.tp
 o:∀x,r.O0 x→F.O0 x
 ok:zB r H
 k:Kz r r.H0 H
def xh (G:Hp)(F:Fr)(H:Hp)(s:Option V):A→Prop
 |.dat d=>∃v,s=some v∧AV G v d
 |.ow c=>∃l o,s=some (.ref l)∧H l=some o∧yJ G o c∧¬F.O0 l∧F.H0 l=none
 |.deep d S=>∃v,s=some v∧AV (pO S G H) v d∧∀x,S x→¬F.O0 x∧F.H0 x=none∧∃xs,H x=some (.lst xs)
 |.tape=>∃t b c,F.tp=some (t,b,c)∧s=some (.ref t)
 |.at l=>s=some (.ref l)
 |.exc r _=>Lnk r F H
 |.pin l vs ds=>s=some (.ref l)∧G l=some (.lst vs)∧AVs G vs ds
structure M (F:Fr)(α:Ev)(σ:St)(H:Hp):Prop where
 len:α.length=σ.length
 ok:∀(i:Nat) (a:A) (s:Option V),α[i]?=some (some a)→σ[i]?=some s→xh (Gz F α σ H) F H s a
 dj:∀(i j:Nat) (a b:A) (s t:Option V) (x:Addr),α[i]?=some (some a)→α[j]?=some (some b)→σ[i]?=some s→σ[j]?=some t→foot s a x→foot t b x→i=j
 xd:∀(i:Nat) (r:Fr) (q:PyData→Prop),α[i]?=some (some (.exc r q))→∀(j:Nat) (a:A) (s:Option V) (x:Addr),α[j]?=some (some a)→σ[j]?=some s→foot s a x→r.H0 x=none
 tp:zB F H
 keep:Kz F F.H0 H
 oex:∀x,F.O0 x→∃o,H x=some o∧xK o
theorem M.at' {F:Fr}{α:Ev}{σ:St}{H:Hp}(m:M F α σ H){i:Nat}{a:Option A}(e:α[i]?=some a):∃s,σ[i]?=some s:=by
 have:i<σ.length:=by rw[←m.len];exact (aH.mp e).1
 exact⟨_,za4 this⟩
theorem sU {G:Hp}{F:Fr}{H:Hp}{s:Option V}{a:A}{x:Addr}(h:xh G F H s a)(f:foot s a x):¬F.O0 x∧F.H0 x=none∧∃o,H x=some o∧Ob o:=by
 cases a with
 |ow c=>
  obtain⟨l,o,h1,h2,h3,h4,h5⟩:=h
  have f':s=some (.ref x):=f
  rw[f'] at h1;cases h1
  exact⟨h4,h5,o,h2,h3.ob⟩
 |deep d S=>
  obtain⟨v,h1,h2,h3⟩:=h
  obtain⟨z1,z2,xs,z3⟩:=h3 x f
  exact⟨z1,z2,_,z3,trivial⟩
 |dat d=>exact f.elim
 |tape=>exact f.elim
 |«at» l=>exact f.elim
 |exc r q=>exact f.elim
 |pin l vs ds=>exact f.elim
theorem Lnk.kz {r F:Fr}{H H':Hp}(l:Lnk r F H)(k:Kz F H H')(t:zB F H'):Lnk r F H':=⟨l.tp,l.o,l.ok.re t l.tp.symm,fun x o e n=>k x o (l.k x o e n) ⟨fun a b c z=>n.1 a b c (l.tp.trans z),n.2⟩⟩
theorem Lnk.none {r F:Fr}{H:Hp}(l:Lnk r F H){x:Addr}(h:H x=Option.none):r.H0 x=Option.none:=by
 cases q:r.H0 x with
 |none=>rfl
 |some o=>rw[l.k x o q ⟨fun a b c e=>⟨((l.ok a b c e).1.free h).1,((l.ok a b c e).1.free h).2.1⟩,rn l.ok.tab h⟩] at h;cases h
def noX :A→Prop
 |.exc _ _=>False
 |_=>True
theorem xh.stay {G G':Hp}{F F':Fr}{H H':Hp}{s:Option V}{a:A}(h:xh G F H s a)(g:zr G G')(hf:∀x o,foot s a x→H x=some o→H' x=some o∧¬F'.O0 x∧F'.H0 x=none)(hp:F'.tp=F.tp)(hl:∀r q,a=.exc r q→Lnk r F H→Lnk r F' H'):xh G' F' H' s a:=by
 cases a with
 |dat d=>obtain⟨v,h1,h2⟩:=h;exact⟨v,h1,h2.same g⟩
 |ow c=>
  obtain⟨l,o,h1,h2,h3,h4,h5⟩:=h
  obtain⟨z1,z2,z3⟩:=hf l o h1 h2
  exact⟨l,o,h1,z1,h3.same g,z2,z3⟩
 |deep d S=>
  obtain⟨v,h1,h2,h3⟩:=h
  refine⟨v,h1,h2.same (vm g fun x o z e=>(hf x o z e).1),fun x z=>?_⟩
  obtain⟨_,_,xs,e⟩:=h3 x z
  obtain⟨z1,z2,z3⟩:=hf x _ z e
  exact⟨z2,z3,xs,z1⟩
 |tape=>obtain⟨t,b,c,e,z⟩:=h;exact⟨t,b,c,hp.trans e,z⟩
 |«at» l=>exact h
 |exc r q=>exact hl r q rfl h
 |pin l vs ds=>exact⟨h.1,g _ _ h.2.1,h.2.2.same g⟩
section
variable {F:Fr}{α:Ev}{σ:St}{H H' H'':Hp}
theorem M.dat (m:M F α σ H)(i:Nat)(d:PyData)(e:α[i]?=some (some (.dat d))):∃v,σ[i]?=some (some v)∧AV (Gz F α σ H) v d:=by
 obtain⟨s,hs⟩:=m.at' e
 obtain⟨v,rfl,h⟩:=m.ok i _ s e hs
 exact⟨v,hs,h⟩
theorem M.owc (m:M F α σ H)(i:Nat)(c:PyData)(e:α[i]?=some (some (.ow c))):∃l o,σ[i]?=some (some (.ref l))∧H l=some o∧yJ (Gz F α σ H) o c∧¬F.O0 l∧F.H0 l=none:=by
 obtain⟨s,hs⟩:=m.at' e
 obtain⟨l,o,rfl,h⟩:=m.ok i _ s e hs
 exact⟨l,o,hs,h⟩
theorem M.own (m:M F α σ H)(i:Nat)(ds:List PyData)(e:α[i]?=some (some (.own ds))):∃l xs,σ[i]?=some (some (.ref l))∧H l=some (.lst xs)∧AVs (Gz F α σ H) xs ds∧¬F.O0 l∧F.H0 l=none:=by
 obtain⟨l,o,h1,h2,h3,h4⟩:=m.owc i _ e
 obtain⟨xs,rfl,h5⟩:=h3.lst_inv
 exact⟨l,xs,h1,h2,h5,h4⟩
theorem M.tvar (m:M F α σ H)(i:Nat)(e:α[i]?=some (some .tape)):∃t b c,F.tp=some (t,b,c)∧σ[i]?=some (some (.ref t)):=by
 obtain⟨s,hs⟩:=m.at' e
 obtain⟨t,b,c,h,rfl⟩:=m.ok i _ s e hs
 exact⟨t,b,c,h,hs⟩
theorem M.lnk (m:M F α σ H){i:Nat}{r:Fr}{q:PyData→Prop}(e:α[i]?=some (some (.exc r q))):Lnk r F H:=by
 obtain⟨s,hs⟩:=m.at' e
 exact m.ok i _ s e hs
theorem Kz.refl :Kz F H H:=fun _ _ e _=>e
theorem Kz.trans (h:Kz F H H')(k:Kz F H' H''):Kz F H H'':=fun x o e n=>k x o (h x o e n) n
theorem Kz.of_same (h:zr H H'):Kz F H H':=fun x o e _=>h x o e
theorem zB.same (t:zB F H)(h:zr H H'):zB F H':=⟨dr t.tab h,t.ot,fun a b c e=>⟨nX (t a b c e).1 h,(t a b c e).2⟩⟩
theorem zB.nt (t:zB F H){x:Addr}(h:¬F.O0 x):NT F x:=⟨fun a b c e=>⟨fun z=>h (z▸(t a b c e).2.1),fun z=>h (z▸(t a b c e).2.2.1)⟩,fun z=>h (t.ot x z)⟩
theorem ow0 {x:Addr}(h:¬Ow F α σ x):¬F.O0 x:=fun z=>h (.inl z)
theorem Kz.gz (k:Kz F H H')(t:zB F H):zr (Gz F α σ H) (Gz F α σ H'):=zo fun a o h e=>⟨h,k a o e (t.nt (ow0 h))⟩
theorem M.oex' (t:zB F H')(k:Kz F H H')(h:∀x,F.O0 x→∃o,H x=some o∧xK o):∀x,F.O0 x→∃o,H' x=some o∧xK o:=fun x hx=>by
 by_cases n:NT F x
 ·obtain⟨o,ho,hn⟩:=h x hx
  exact⟨o,k _ _ ho n,hn⟩
 ·by_cases z:uc x
  ·obtain⟨o,ho,hn,_⟩:=vP t.tab z
   exact⟨o,ho,hn⟩
  ·have:∃a b c,F.tp=some (a,b,c)∧¬(x≠a∧x≠b):=by
    refine Classical.byContradiction fun q=>n ⟨fun a b c e=>?_,z⟩
    exact Classical.byContradiction fun w=>q ⟨a,b,c,e,w⟩
   obtain⟨a,b,c,e,w⟩:=this
   obtain⟨n,bs,cs,_,e1,e2,e3,_⟩:=(t a b c e).1.ex
   by_cases xa:x=a
   ·exact⟨_,xa▸e1,yF⟩
   ·by_cases xb:x=b
    ·exact⟨_,xb▸e2,yF⟩
    ·exact absurd ⟨xa,xb⟩ w
theorem M.kz (m:M F α σ H)(k:Kz F H H')(t:zB F H'):M F α σ H' where
 len:=m.len
 ok:=fun i a s e1 e2=>(m.ok i a s e1 e2).stay (k.gz m.tp) (fun x o hf e=>by
  obtain⟨h1,h2,_⟩:=sU (m.ok i a s e1 e2) hf
  exact⟨k x o e (m.tp.nt h1),h1,h2⟩) rfl fun r _ _ l=>l.kz k t
 dj:=m.dj
 xd:=m.xd
 tp:=t
 keep:=m.keep.trans k
 oex:=M.oex' t k m.oex
theorem M.ft (m:M F α σ H){i:Nat}{a:A}{s:Option V}{x:Addr}(e1:α[i]?=some (some a))(e2:σ[i]?=some s)(f:foot s a x):¬F.O0 x∧F.H0 x=none∧∃o,H x=some o∧Ob o:=sU (m.ok i a s e1 e2) f
theorem M.owEx (m:M F α σ H){x:Addr}(h:Ow F α σ x):∃o,H x=some o∧xK o:=by
 rcases h with z|⟨i,a,s,e1,e2,f⟩
 ·exact m.oex x z
 ·obtain⟨_,_,o,ho,hb⟩:=m.ft e1 e2 f
  exact⟨o,ho,hb.notup⟩
theorem M.fresh (m:M F α σ H){l:Addr}(h:H l=none):¬Ow F α σ l:=fun z=>by
 obtain⟨o,ho,_⟩:=m.owEx z
 rw[h] at ho;cases ho
theorem M.fresh0 (m:M F α σ H){l:Addr}(h:H l=none):F.H0 l=none:=by
 cases q:F.H0 l with
 |none=>rfl
 |some o=>rw[m.keep l o q (m.tp.nt fun z=>m.fresh h (.inl z))] at h;cases h
theorem M.old (m:M F α σ H):zr (sub (fun x=>¬F.O0 x) F.H0) (Gz F α σ H):=fun a o e=>by
 obtain⟨h1,h2⟩:=zf e
 refine zQ ?_ (m.keep a o h2 (m.tp.nt h1))
 rintro (z|⟨i,b,s,e1,e2,f⟩)
 ·exact h1 z
 ·obtain⟨_,z,_⟩:=m.ft e1 e2 f
  rw[h2] at z;cases z
noncomputable def Fr.up (F:Fr)(G:Hp):Fr:={F with H0:=fun x=>(F.H0 x).or (G x)}
theorem tY {G:Hp}{x:Addr}{o:HO}(h:F.H0 x=some o):(F.up G).H0 x=some o:=by show (F.H0 x).or (G x)=some o;rw[h];rfl
theorem oe {G:Hp}{x:Addr}(h:(F.up G).H0 x=none):F.H0 x=none:=by
 cases q:F.H0 x with
 |none=>rfl
 |some o=>rw[tY q] at h;cases h
theorem M.up (m:M F α σ H):M (F.up (Gz F α σ H)) α σ H where
 len:=m.len
 ok:=fun i a s e1 e2=>(m.ok i a s e1 e2).stay (fun _ _ e=>e) (fun x o hf e=>by
  obtain⟨h1,h2,_⟩:=m.ft e1 e2 hf
  refine⟨e,h1,?_⟩
  show (F.H0 x).or (Gz F α σ H x)=none
  rw[h2]
  show Gz F α σ H x=none
  cases q:Gz F α σ H x with
  |none=>rfl
  |some o=>exact absurd (.inr ⟨i,a,s,e1,e2,hf⟩) (zf q).1) rfl fun r _ _ l=>⟨l.tp,l.o,l.ok,l.k⟩
 dj:=m.dj
 xd:=m.xd
 tp:=m.tp.to rfl fun _ z=>z
 keep:=fun x o e n=>by
  have e':(F.H0 x).or (Gz F α σ H x)=some o:=e
  cases q:F.H0 x with
  |none=>rw[q,Option.none_or] at e';exact (zf e').2
  |some o'=>rw[q] at e';cases e';exact m.keep x _ q n
 oex:=m.oex
theorem M.down {G:Hp}(m:M (F.up G) α σ H):M F α σ H where
 len:=m.len
 ok:=fun i a s e1 e2=>(m.ok i a s e1 e2).stay (fun _ _ e=>e) (fun x o hf e=>by
  obtain⟨h1,h2,_⟩:=m.ft e1 e2 hf
  exact⟨e,h1,oe h2⟩) rfl fun r _ _ l=>⟨l.tp,l.o,l.ok,l.k⟩
 dj:=m.dj
 xd:=m.xd
 tp:=m.tp.to rfl fun _ z=>z
 keep:=fun x o e n=>m.keep x o (tY e) n
 oex:=m.oex
theorem M.upold {α0:Ev}{σ0:St}{H1:Hp}(m0:M F α0 σ0 H1)(m:M (F.up (Gz F α0 σ0 H1)) α σ H):zr (Gz F α0 σ0 H1) (Gz F α σ H):=fun a o e=>by
 obtain⟨h1,h2⟩:=zf e
 have e0:(F.up (Gz F α0 σ0 H1)).H0 a=some o:=by
  show (F.H0 a).or (Gz F α0 σ0 H1 a)=some o
  cases q:F.H0 a with
  |none=>exact e
  |some o'=>
   have:=m0.keep a o' q (m0.tp.nt (ow0 h1))
   rw[h2] at this;cases this;rfl
 exact m.old a o (zQ (p:=fun x=>¬F.O0 x) (ow0 h1) e0)
end
def yA (F:Fr)(α:Ev)(σ:St)(H:Hp)(v:V)(H':Hp)(ds:List PyData):Prop:=
 ∃l xs,v=.ref l∧H l=none∧H' l=some (.lst xs)∧AVs (sub (fun x=>¬Ow F α σ x∧x≠l) H') xs ds
def jg (F:Fr)(α:Ev)(σ:St)(H:Hp)(v:V)(H':Hp)(c:PyData):Prop:=
 ∃l o,v=.ref l∧H l=none∧H' l=some o∧yJ (sub (fun x=>¬Ow F α σ x∧x≠l) H') o c
theorem yA.c {F:Fr}{α:Ev}{σ:St}{H H':Hp}{v:V}{ds:List PyData}(h:yA F α σ H v H' ds):jg F α σ H v H' (.list ds):=by
 obtain⟨l,xs,h1,h2,h3,h4⟩:=h
 exact⟨l,_,h1,h2,h3,.lst h4⟩
theorem yA.av {F:Fr}{α:Ev}{σ:St}{H H':Hp}{v:V}{ds:List PyData}(m:M F α σ H)(h:yA F α σ H v H' ds):AV (Gz F α σ H') v (.list ds):=by
 obtain⟨l,xs,rfl,h1,h2,h3⟩:=h
 exact .lst (zQ (m.fresh h1) h2) (h3.same (zo fun a o h e=>⟨h.1,e⟩))
section
variable (X:Cx)(α:Ev)
def EvD (e:Expr)(Q:PyData→Prop):Prop:=∀(F:Fr) (σ:St) (H:Hp) (R:VK),M F α σ H→(∀d v H',Q d→zB F H'→Kz F H H'→AV (Gz F α σ H') v d→R v H')→vO X e σ H R
def EvL (e:Expr)(Q:List PyData→Prop):Prop:=∀(F:Fr) (σ:St) (H:Hp) (R:VK),M F α σ H→(∀ds v H',Q ds→zB F H'→Kz F H H'→yA F α σ H v H' ds→R v H')→vO X e σ H R
def EvT (e:Expr)(Q:Bool→Prop):Prop:=∀(F:Fr) (σ:St) (H:Hp) (R:Bool→Hp→Prop),M F α σ H→(∀b H',Q b→zB F H'→Kz F H H'→R b H')→cG X e σ H R
def nY (F:Fr)(G:Hp)(v:V):A→Prop
 |.dat d=>AV G v d
 |.tape=>∃t b c,F.tp=some (t,b,c)∧v=.ref t
 |_=>False
inductive zR (F:Fr)(G:Hp):List V→List A→Prop where
 |nil:zR F G [] []
 |cons {v:V} {vs:List V} {a:A} {as:List A}:nY F G v a→zR F G vs as→zR F G (v::vs) (a::as)
def EvA (es:List Expr)(Q:List A→Prop):Prop:=∀(F:Fr) (σ:St) (H:Hp) (R:List V→Hp→Prop),M F α σ H→(∀as vs H',Q as→zB F H'→Kz F H H'→zR F (Gz F α σ H') vs as→R vs H')→bj X es σ H R
end
theorem nY.to {F F':Fr}{G G':Hp}(s:zr G G')(hp:F'.tp=F.tp){v:V}:∀{a:A},nY F G v a→nY F' G' v a
 |.dat _,h=>AV.same s h
 |.tape,⟨t,b,c,e,z⟩=>⟨t,b,c,hp.trans e,z⟩
 |.ow _,h=>h
 |.deep _ _,h=>h
 |.at _,h=>h
 |.exc _ _,h=>h
 |.pin _ _ _,h=>h
theorem zR.to {F F':Fr}{G G':Hp}(s:zr G G')(hp:F'.tp=F.tp):∀{vs:List V} {as:List A},zR F G vs as→zR F' G' vs as
 |_,_,.nil=>.nil
 |_,_,.cons h r=>.cons (h.to s hp) (zR.to s hp r)
theorem zR.length {F:Fr}{G:Hp}:∀{vs:List V} {as:List A},zR F G vs as→vs.length=as.length
 |_,_,.nil=>rfl
 |_,_,.cons _ r=>by rw[aJ,aJ,zR.length r]
def A.d :A→PyData
 |.dat d=>d
 |.ow c=>c
 |.deep d _=>d
 |_=>.none
def ie (F:Fr)(v:V)(H':Hp):A→Prop
 |.dat d=>AV (sub (fun x=>¬F.O0 x) H') v d
 |.ow c=>∃l xs ds,v=.ref l∧c=.list ds∧F.H0 l=none∧¬F.O0 l∧H' l=some (.lst xs)∧AVs (sub (fun x=>¬F.O0 x∧x≠l) H') xs ds
 |.deep d S=>AV (pO S (sub (fun x=>¬F.O0 x) H') H') v d∧∀x,S x→¬F.O0 x∧F.H0 x=none∧∃xs,H' x=some (.lst xs)
 |_=>False
def xP (F:Fr)(v:V)(H':Hp)(a:A):Prop:=zB F H'∧Kz F F.H0 H'∧ie F v H' a
def spA (φ:List A→(A→Prop)→Prop):Sp:=fun vs H Qc _=>∃(F:Fr) (as:List A) (Q:A→Prop),F.H0=H∧zB F H∧(∀x,F.O0 x→∃o,H x=some o∧xK o)∧zR F (sub (fun x=>¬F.O0 x) H) vs as∧φ as Q∧∀a v H',Q a→xP F v H' a→Qc v H'
theorem ie.to {F F':Fr}{v:V}{H':Hp}{a:A}(r:ie F v H' a)(ho:∀x,F'.O0 x→F.O0 x)(h0:∀x,F.H0 x=none→F'.H0 x=none):ie F' v H' a:=by
 have s:zr (sub (fun x=>¬F.O0 x) H') (sub (fun x=>¬F'.O0 x) H'):=zo fun a o h e=>⟨fun z=>h (ho _ z),e⟩
 cases a with
 |dat d=>exact AV.same s r
 |ow c=>
  obtain⟨l,xs,ds,h1,hc,h2,h3,h4,h5⟩:=r
  exact⟨l,xs,ds,h1,hc,h0 _ h2,fun z=>h3 (ho _ z),h4,h5.same (zo fun a o h e=>⟨⟨fun z=>h.1 (ho _ z),h.2⟩,e⟩)⟩
 |deep d S=>
  obtain⟨h1,h2⟩:=r
  refine⟨h1.same (vm s fun _ _ _ e=>e),fun x z=>?_⟩
  obtain⟨z1,z2,z3⟩:=h2 x z
  exact⟨fun w=>z1 (ho _ w),h0 _ z2,z3⟩
 |tape=>exact r
 |«at» _=>exact r
 |exc _ _=>exact r
 |pin _ _ _=>exact r
structure yd where
 nx:Ev→Prop
 rt:A→Prop
 bk:Ev→Prop:=fun _=>False
 ct:Ev→Prop:=fun _=>False
structure rS (F:Fr)(E:yd)(D:Ends):Prop where
 nx:∀α σ H,M F α σ H→E.nx α→D.nx σ H
 rt:∀a v H,xP F v H a→E.rt a→D.rt v H
 bk:∀α σ H,M F α σ H→E.bk α→D.bk σ H
 ct:∀α σ H,M F α σ H→E.ct α→D.ct σ H
def SvS (X:Cx)(α:Ev)(sts:List Stmt)(E:yd):Prop:=∀(F:Fr) (σ:St) (H:Hp) (D:Ends),M F α σ H→rS F E D→gL X sts D σ H
theorem rS.up {F:Fr}{G:Hp}{E:yd}{D:Ends}(e:rS F E D):rS (F.up G) E D where
 nx:=fun α σ H m q=>e.nx α σ H m.down q
 bk:=fun α σ H m q=>e.bk α σ H m.down q
 ct:=fun α σ H m q=>e.ct α σ H m.down q
 rt:=fun a v H r q=>e.rt a v H (by
  obtain⟨t,k,r⟩:=r
  exact⟨t.to rfl fun _ z=>z,fun x o e n=>k x o (tY e) n,r.to (fun _ z=>z) fun x z=>oe z⟩) q
section
variable {X:Cx}{α:Ev}{e a b c:Expr}{es:List Expr}{pos p q:Pos}{Q:PyData→Prop}
theorem EvL.d (h:EvL X α e (fun ds=>Q (.list ds))):EvD X α e Q:=fun F σ H R m k=>h F σ H R m fun ds v H' q t z f=>k _ v H' q t z (f.av m)
theorem EvD.imp {Q':PyData→Prop}(h:EvD X α e Q')(k:∀d,Q' d→Q d):EvD X α e Q:=fun F σ H R m r=>h F σ H R m fun d v H' q=>r d v H' (k d q)
theorem ze (i:Nat){x:Str}{d:PyData}(hi:α[i]?=some (some (.dat d)))(q:Q d)(hN:X.N[i]?=some x:=by rfl)(hv:Vis X.env.scope x:=by first|exact Or.inl rfl|exact Or.inr (Or.inl rfl)|exact Or.inr (Or.inr rfl))
  (hd:(x == ("__debug__":Str))=false:=by decide) (hcd:(x == ("__classdict__":Str))=false:=by decide):EvD X α (.Name x pos) Q:=fun F σ H R m k=>by
 obtain⟨v,h1,h2⟩:=m.dat i d hi
 exact⟨_,yZ hN hv hd hcd,v,h1,k d v H q m.tp Kz.refl h2⟩
theorem zk {i:Int}{j:Nat}(q:Q (.int i)):EvD X α (.Constant (.int i) j pos) Q:=fun F σ H R m k=>⟨_,zq,k _ _ H q m.tp Kz.refl (.int i)⟩
theorem gY {i:Bool}{j:Nat}(q:Q (.bool i)):EvD X α (.Constant (.bool i) j pos) Q:=fun F σ H R m k=>⟨_,bf,k _ _ H q m.tp Kz.refl (.bl i)⟩
theorem wM {j:Nat}(q:Q .none):EvD X α (.Constant .none j pos) Q:=fun F σ H R m k=>⟨_,si,k _ _ H q m.tp Kz.refl .non⟩
theorem zz {x:Str}{j:Nat}(q:Q (.str x)):EvD X α (.Constant (.str x) j pos) Q:=fun F σ H R m k=>⟨_,zP,k _ _ H q m.tp Kz.refl (.str x)⟩
theorem jG {x:Str}{i:Int}(hg:Gl X x)(hm:∃t,X.mg x=some (.int i t))(q:Q (.int i))(hd:(x == ("__debug__":Str))=false:=by decide):EvD X α (.Name x pos) Q:=fun F σ H R m k=>by
 obtain⟨t,hm⟩:=hm
 exact⟨_,xF hg hm (show RelV (.int i) (.int i t) from ⟨t,rfl⟩) hd,k _ _ H q m.tp Kz.refl (.int i)⟩
theorem vZ {f:TE→TE→TE}(hf:PE X e (f (vO X a) (vO X b)))(hr:∀σ H R,f (vO X a) (vO X b) σ H R↔vO X a σ H (fun x H1=>vO X b σ H1 fun y H2=>f (tC x) (tC y) σ H2 R))
  (h:EvD X α a fun x=>EvD X α b fun y=>∀(F:Fr) (σ:St) (H:Hp) (vx vy:V) (R:VK),M F α σ H→AV (Gz F α σ H) vx x→AV (Gz F α σ H) vy y→(∀d v H',Q d→zB F H'→Kz F H H'→AV (Gz F α σ H') v d→R v H')→f (tC vx) (tC vy) σ H R):
  EvD X α e Q:=fun F σ H R m k=>by
 refine⟨_,hf,(hr σ H R).mpr ?_⟩
 refine h F σ H _ m fun x vx H1 q1 t1 k1 r1=>?_
 have m1:=m.kz k1 t1
 refine q1 F σ H1 _ m1 fun y vy H2 q2 t2 k2 r2=>?_
 exact q2 F σ H2 vx vy R (m1.kz k2 t2) (r1.same (k2.gz m1.tp)) r2 fun d v H' qd t3 k3 r3=>k d v H' qd t3 ((k1.trans k2).trans k3) r3
theorem AV.int_inv {H:Hp}{v:V}{i:Int}(h:AV H v (.int i)):v=.int i:=by cases h;rfl
theorem AV.bl_inv {H:Hp}{v:V}{i:Bool}(h:AV H v (.bool i)):v=.bl i:=by cases h;rfl
theorem AV.str_inv {H:Hp}{v:V}{i:Str}(h:AV H v (.str i)):v=.str i:=by cases h;rfl
theorem AV.tup_inv {H:Hp}{v:V}{ds:List PyData}(h:AV H v (.tuple ds)):∃a xs,v=.ref a∧H a=some (.tup xs)∧AVs H xs ds:=by cases h;exact⟨_,_,rfl,by assumption,by assumption⟩
theorem AV.lst_inv {H:Hp}{v:V}{ds:List PyData}(h:AV H v (.list ds)):∃a xs,v=.ref a∧H a=some (.lst xs)∧AVs H xs ds:=by cases h;exact⟨_,_,rfl,by assumption,by assumption⟩
theorem AV.non_inv {H:Hp}{v:V}(h:AV H v .none):v=.non:=by cases h;rfl
theorem AV.isnon {H:Hp}{v:V}{d:PyData}(h:AV H v d):decide (v=.non)=(match d with|.none=>true|_=>false):=by cases h<;>simp
theorem sO {op:Operator}{C:Int→Int→Prop}{g:Int→Int→V}{gd:Int→Int→PyData}(ho:OpR X (binaryOp op) (rI C g))(hg:∀H i j,AV H (g i j) (gd i j))
  (h:EvD X α a fun x=>EvD X α b fun y=>∃i j,x=.int i∧y=.int j∧C i j∧Q (gd i j)):EvD X α (.BinOp a op b pos) Q:=by
 refine vZ (f:=tOp (rI C g)) (yL ho zd zd) (fun _ _ _=>Iff.rfl) (h.imp fun x h=>h.imp fun y ⟨i,j,e1,e2,hc,hq⟩=>?_)
 subst e1 e2
 intro F σ H vx vy R m rx ry k
 cases rx.int_inv;cases ry.int_inv
 exact⟨i,j,rfl,rfl,hc,k _ _ H hq m.tp Kz.refl (hg _ i j)⟩
theorem oM {op:Operator}{g:Int→Int→V}{gd:Int→Int→PyData}(ho:OpR X (binaryOp op) (rI0 g))(hg:∀H i j,AV H (g i j) (gd i j))
  (h:EvD X α a fun x=>EvD X α b fun y=>∃i j,x=.int i∧y=.int j∧Q (gd i j)):EvD X α (.BinOp a op b pos) Q:=by
 refine vZ (f:=tOp (rI0 g)) (yL ho zd zd) (fun _ _ _=>Iff.rfl) (h.imp fun x h=>h.imp fun y ⟨i,j,e1,e2,hq⟩=>?_)
 subst e1 e2
 intro F σ H vx vy R m rx ry k
 cases rx.int_inv;cases ry.int_inv
 exact⟨i,j,rfl,rfl,k _ _ H hq m.tp Kz.refl (hg _ i j)⟩
theorem yY (h:EvD X α a fun x=>EvD X α b fun y=>∃i j,x=.int i∧y=.int j∧Q (.int (i+j))):EvD X α (.BinOp a .Add b pos) Q:=oM (gd:=fun i j=>.int (i+j)) sM (fun _ _ _=>.int _) h
theorem sP (h:EvD X α a fun x=>EvD X α b fun y=>∃i j,x=.int i∧y=.int j∧Q (.int (i-j))):EvD X α (.BinOp a .Sub b pos) Q:=oM (gd:=fun i j=>.int (i-j)) kU (fun _ _ _=>.int _) h
theorem tK (h:EvD X α a fun x=>EvD X α b fun y=>∃i j,x=.int i∧y=.int j∧gG i j∧Q (.int (i*j))):EvD X α (.BinOp a .Mult b pos) Q:=sO (gd:=fun i j=>.int (i*j)) su (fun _ _ _=>.int _) h
theorem fJ (h:EvD X α a fun x=>EvD X α b fun y=>∃i j,x=.int i∧y=.int j∧fO i j∧Q (.int (i ^ j.toNat))):EvD X α (.BinOp a .Pow b pos) Q:=sO (gd:=fun i j=>.int (i ^ j.toNat)) fQ (fun _ _ _=>.int _) h
theorem kN (h:EvD X α a fun x=>EvD X α b fun y=>∃i j,x=.int i∧y=.int j∧0<j∧Q (.int (i % j))):EvD X α (.BinOp a .Mod b pos) Q:=sO (gd:=fun i j=>.int (i % j)) ue (fun _ _ _=>.int _) h
theorem oN (h:EvD X α a fun x=>EvD X α b fun y=>∃i j,x=.int i∧y=.int j∧gU i j∧Q (.int (i / j))):EvD X α (.BinOp a .FloorDiv b pos) Q:=sO (gd:=fun i j=>.int (i / j)) ud (fun _ _ _=>.int _) h
theorem yt {i j r:Int}{p1 p2:Pos}{n1 n2:Nat}(hc:fO i j)(hr:i ^ j.toNat=r)(q:Q (.int r)):EvD X α (.BinOp (.Constant (.int i) n1 p1) .Pow (.Constant (.int j) n2 p2) pos) Q:=
 fJ (zk (zk ⟨i,j,rfl,rfl,hc,hr▸q⟩))
theorem qR (h:EvD X α a fun x=>∃i,x=.int i∧Q (.int (-i))):EvD X α (.UnaryOp .USub a pos) Q:=fun F σ H R m k=>by
 refine⟨_,cE eP zd,?_⟩
 refine h F σ H _ m fun x vx H1 q1 t1 k1 r1=>?_
 obtain⟨i,rfl,q⟩:=q1
 cases r1.int_inv
 exact⟨i,rfl,k _ _ H1 q t1 k1 (.int _)⟩
def xJ :PyData→Bool
 |.none=>true
 |_=>false
theorem AV.non_iff {H:Hp}{v:V}{d:PyData}(h:AV H v d):decide (v=.non)=xJ d:=by cases h<;>simp[xJ]
theorem fG {Q:Bool→Prop}(h:EvD X α e fun x=>∃k,x=.bool k∧Q k)(he:∀whole,isTrue e X.env whole=(do let v ←whole;standAt e.pos;holding [v] (truthy v)):=by intro _;rfl):EvT X α e Q:=fun F σ H R m k=>by
 refine⟨_,jl zd he,?_⟩
 refine h F σ H _ m fun x vx H1 q1 t1 k1 r1=>?_
 obtain⟨b,rfl,q⟩:=q1
 cases r1.bl_inv
 exact⟨b,rfl,k b H1 q t1 k1⟩
def Cmp (r:R2)(x y:PyData)(k:Bool):Prop:=∀(p:Addr→Prop) (H:Hp) (vx vy:V) (R:VK),AV (sub p H) vx x→AV (sub p H) vy y→R (.bl k) H→r vx vy H R
theorem xp {op:CmpOp}{r:R2}{Q:Bool→Prop}(ho:OpR X (compareOp op) r)(hm:behindInMarks op b=false)(h:EvD X α a fun x=>EvD X α b fun y=>∃k,Cmp r x y k∧Q k):EvT X α (.Compare a [op] [b] pos) Q:=fun F σ H R m k=>by
 refine⟨_,ye ho zd zd hm,?_⟩
 refine h F σ H _ m fun x vx H1 q1 t1 k1 r1=>?_
 have m1:=m.kz k1 t1
 refine q1 F σ H1 _ m1 fun y vy H2 q2 t2 k2 r2=>?_
 obtain⟨b,hc,q⟩:=q2
 exact hc _ H2 vx vy _ (r1.same (k2.gz m1.tp)) r2 ⟨b,rfl,k b H2 q t2 (k1.trans k2)⟩
theorem gH {g:Int→Int→Bool}{i j:Int}:Cmp (rI0 fun i j=>.bl (g i j)) (.int i) (.int j) (g i j):=fun p H vx vy R rx ry h=>by
 cases rx.int_inv;cases ry.int_inv
 exact⟨i,j,rfl,rfl,h⟩
theorem sS {op:CmpOp}{g:Int→Int→Bool}{Q:Bool→Prop}(ho:OpR X (compareOp op) (rI0 fun i j=>.bl (g i j)))(hm:behindInMarks op b=false)
  (h:EvD X α a fun x=>EvD X α b fun y=>∃i j,x=.int i∧y=.int j∧Q (g i j)):EvT X α (.Compare a [op] [b] pos) Q:=
 xp ho hm (h.imp fun x h=>h.imp fun y ⟨i,j,e1,e2,q⟩=>⟨_,by subst e1 e2;exact gH,q⟩)
theorem ke {Q:Bool→Prop}(h:EvD X α a fun x=>EvD X α b fun y=>∃i j,x=.int i∧y=.int j∧Q (decide (i<j))):EvT X α (.Compare a [.Lt] [b] pos) Q:=sS cq (zy _) h
theorem fg {Q:Bool→Prop}(h:EvD X α a fun x=>EvD X α b fun y=>∃i j,x=.int i∧y=.int j∧Q (decide (j<i))):EvT X α (.Compare a [.Gt] [b] pos) Q:=sS fk (zy _) h
theorem gX {Q:Bool→Prop}(h:EvD X α a fun x=>EvD X α b fun y=>∃i j,x=.int i∧y=.int j∧Q (decide (j≤i))):EvT X α (.Compare a [.GtE] [b] pos) Q:=sS cO (zy _) h
theorem wJ {j:Nat}{Q:Bool→Prop}(h:EvD X α a fun x=>Q (xJ x)):EvT X α (.Compare a [.Is] [.Constant .none j p] pos) Q:=
 xp pD (zy _) (h.imp fun x h=>wM ⟨_,fun p H vx vy R rx ry z=>⟨ry.non_inv,by rw[rx.non_iff];exact z⟩,h⟩)
theorem iQ {j:Nat}{Q:Bool→Prop}(h:EvD X α a fun x=>Q (!xJ x)):EvT X α (.Compare a [.IsNot] [.Constant .none j p] pos) Q:=
 xp gP (zy _) (h.imp fun x h=>wM ⟨_,fun p H vx vy R rx ry z=>⟨ry.non_inv,by rw[rx.non_iff];exact z⟩,h⟩)
def bp :PyData→Option Bool
 |.none=>some false
 |.bool b=>some b
 |.int i=>some (i != 0)
 |.list ds=>some (!ds.isEmpty)
 |.tuple ds=>some (!ds.isEmpty)
 |_=>none
theorem AVs.isEmpty {H:Hp}{xs:List V}{ds:List PyData}(h:AVs H xs ds):xs.isEmpty=ds.isEmpty:=by cases h<;>rfl
theorem jP {Q:Bool→Prop}(h:EvD X α e fun x=>∃k,bp x=some k∧Q k)(he:∀whole,isTrue e X.env whole=(do let v ←whole;standAt e.pos;holding [v] (truthy v)):=by intro _;rfl):EvT X α e Q:=fun F σ H R m k=>by
 refine⟨_,jy zd he,?_⟩
 refine h F σ H _ m fun x vx H1 q1 t1 k1 r1=>?_
 obtain⟨b,hb,q⟩:=q1
 refine⟨b,?_,k b H1 q t1 k1⟩
 cases r1 with
 |non=>cases hb;rfl
 |bl z=>cases hb;rfl
 |int i=>cases hb;rfl
 |str s=>cases hb
 |lst h1 h2=>cases hb;exact .inl ⟨_,SqL.of (zf h1).2,by rw[h2.isEmpty]⟩
 |tup h1 h2=>cases hb;exact .inr (.inl ⟨_,SqT.of (zf h1).2,by rw[h2.isEmpty]⟩)
 |ins _ _=>cases hb
 |dk _ _=>cases hb
 |dt _ _=>cases hb
 |xc _ _ _=>cases hb
 |xn _=>cases hb
theorem jS {Q:Bool→Prop}(h:EvT X α a fun k=>Q (!k)):EvT X α (.UnaryOp .Not a pos) Q:=fun F σ H R m k=>by
 refine⟨_,ku xG,?_⟩
 exact h F σ H _ m fun b H1 q1 t1 k1=>k _ H1 q1 t1 k1
def EvW (X:Cx)(α:Ev)(e:Expr)(Q:Bool→Prop):Prop:=∀(F:Fr) (σ:St) (H:Hp) (R:Bool→Hp→Prop),M F α σ H→(∀b H',Q b→zB F H'→Kz F H H'→R b H')→∃t,PW X e t∧t σ H R
def bG (X:Cx)(e:Expr):TT:=fun σ H Q=>∃t,PW X e t∧t σ H Q
theorem oP :PW X e (bG X e):=fun w pins s σ H Q I ⟨t,p,q⟩=>p w pins s σ H Q I q
theorem EvW.t {Q:Bool→Prop}(h:EvW X α e Q):EvT X α e Q:=fun F σ H R m k=>by
 obtain⟨t,p,q⟩:=h F σ H R m k
 exact⟨t,p.pt,q⟩
variable {rest:List Expr}
theorem oj {Q:Bool→Prop}(h:EvT X α a Q):EvW X α (.BoolOp .And [a] pos) Q:=fun F σ H R m k=>⟨_,jU xG,h F σ H R m k⟩
theorem eF {Q:Bool→Prop}(h:EvT X α a Q):EvW X α (.BoolOp .Or [a] pos) Q:=fun F σ H R m k=>⟨_,qB xG,h F σ H R m k⟩
theorem ji {Q:Bool→Prop}(h:EvT X α a fun k=>if k=true then EvW X α (.BoolOp .And (b::rest) pos) Q else Q false):EvW X α (.BoolOp .And (a::b::rest) pos) Q:=fun F σ H R m k=>by
 refine⟨_,de xG oP,?_⟩
 refine h F σ H _ m fun c H1 q1 t1 k1=>?_
 cases c with
 |true=>exact vw ((by simpa using q1:EvW X α _ Q) F σ H1 R (m.kz k1 t1) fun b H2 q2 t2 k2=>k b H2 q2 t2 (k1.trans k2))
 |false=>exact vM (k _ H1 (by simpa using q1) t1 k1)
theorem fj {Q:Bool→Prop}(h:EvT X α a fun k=>if k=true then Q true else EvW X α (.BoolOp .Or (b::rest) pos) Q):EvW X α (.BoolOp .Or (a::b::rest) pos) Q:=fun F σ H R m k=>by
 refine⟨_,mM xG oP,?_⟩
 refine h F σ H _ m fun c H1 q1 t1 k1=>?_
 cases c with
 |false=>exact vM ((by simpa using q1:EvW X α _ Q) F σ H1 R (m.kz k1 t1) fun b H2 q2 t2 k2=>k b H2 q2 t2 (k1.trans k2))
 |true=>exact vw (k _ H1 (by simpa using q1) t1 k1)
theorem mH {op}(h:EvD X α a Q):EvD X α (.BoolOp op [a] pos) Q:=fun F σ H R m k=>⟨_,xf zd,h F σ H R m k⟩
theorem df (h:EvD X α a fun x=>∃k,x=.bool k∧if k=true then EvD X α (.BoolOp .And (b::rest) pos) Q else Q (.bool false)):EvD X α (.BoolOp .And (a::b::rest) pos) Q:=fun F σ H R m k=>by
 refine⟨_,yB zd zd,?_⟩
 refine h F σ H _ m fun x vx H1 q1 t1 k1 r1=>?_
 obtain⟨c,rfl,q1⟩:=q1
 cases r1.bl_inv
 refine⟨c,rfl,?_⟩
 cases c with
 |true=>exact vw ((by simpa using q1:EvD X α _ Q) F σ H1 R (m.kz k1 t1) fun d v H2 q2 t2 k2 r2=>k d v H2 q2 t2 (k1.trans k2) r2)
 |false=>exact vM (k _ _ H1 (by simpa using q1) t1 k1 (.bl _))
theorem dO (h:EvD X α a fun x=>∃k,x=.bool k∧if k=true then Q (.bool true) else EvD X α (.BoolOp .Or (b::rest) pos) Q):EvD X α (.BoolOp .Or (a::b::rest) pos) Q:=fun F σ H R m k=>by
 refine⟨_,kZ zd zd,?_⟩
 refine h F σ H _ m fun x vx H1 q1 t1 k1 r1=>?_
 obtain⟨c,rfl,q1⟩:=q1
 cases r1.bl_inv
 refine⟨c,rfl,?_⟩
 cases c with
 |false=>exact vM ((by simpa using q1:EvD X α _ Q) F σ H1 R (m.kz k1 t1) fun d v H2 q2 t2 k2 r2=>k d v H2 q2 t2 (k1.trans k2) r2)
 |true=>exact vw (k _ _ H1 (by simpa using q1) t1 k1 (.bl _))
theorem qw (h:EvT X α c fun k=>if k=true then EvD X α a Q else EvD X α b Q):EvD X α (.IfExp c a b pos) Q:=fun F σ H R m k=>by
 refine⟨_,js xG zd zd,?_⟩
 refine h F σ H _ m fun x H1 q1 t1 k1=>?_
 cases x with
 |true=>exact vw ((by simpa using q1:EvD X α _ Q) F σ H1 R (m.kz k1 t1) fun d v H2 q2 t2 k2 r2=>k d v H2 q2 t2 (k1.trans k2) r2)
 |false=>exact vM ((by simpa using q1:EvD X α _ Q) F σ H1 R (m.kz k1 t1) fun d v H2 q2 t2 k2 r2=>k d v H2 q2 t2 (k1.trans k2) r2)
theorem wF (hs:vc b)(h:EvD X α a fun x=>EvD X α b fun y=>∃ds i d,x=.list ds∧y=.int i∧atI ds i=some d∧Q d):EvD X α (.Subscript a b pos) Q:=by
 refine vZ (f:=tOp (ej X.K)) (zV yI zd zd hs) (fun _ _ _=>Iff.rfl) (h.imp fun x h=>h.imp fun y ⟨ds,i,d,e1,e2,hat,hq⟩=>?_)
 subst e1 e2
 intro F σ H vx vy R m rx ry k
 obtain⟨a,xs,rfl,h1,h2⟩:=rx.lst_inv
 cases ry.int_inv
 obtain⟨v,hv,av⟩:=h2.atI hat
 exact⟨a,xs,i,v,rfl,rfl,SqL.of (zf h1).2,hv,k d v H hq m.tp Kz.refl av⟩
def EvO (X:Cx)(α:Ev)(e:Option Expr)(Q:Option Int→Prop):Prop:=∀(F:Fr) (σ:St) (H:Hp) (R:Option Int→Hp→Prop),M F α σ H→(∀i H',Q i→zB F H'→Kz F H H'→R i H')→∃t,PO X e t∧t σ H R
def bN (X:Cx)(e:Option Expr):TO:=fun σ H Q=>∃t,PO X e t∧t σ H Q
theorem oq {e:Option Expr}:PO X e (bN X e):=fun pins s σ H Q I ⟨t,p,q⟩=>p pins s σ H Q I q
theorem oK {Q:Option Int→Prop}(q:Q none):EvO X α none Q:=fun F σ H R m k=>⟨_,gk,k _ H q m.tp Kz.refl⟩
theorem pY {Q:Option Int→Prop}(h:EvD X α a fun x=>∃i,x=.int i∧Q (some i)):EvO X α (some a) Q:=fun F σ H R m k=>by
 refine⟨_,gf zd,?_⟩
 refine h F σ H _ m fun x vx H1 q1 t1 k1 r1=>?_
 obtain⟨i,rfl,q⟩:=q1
 cases r1.int_inv
 exact⟨i,rfl,k _ H1 q t1 k1⟩
theorem M.lay {F:Fr}{σ:St}{H:Hp}{l:Addr}{xs:List V}{ds:List PyData}(m:M F α σ H)(hl:H l=none)(h:AVs (Gz F α σ H) xs ds):zB F (upd H l (.lst xs))∧Kz F H (upd H l (.lst xs))∧yA F α σ H (.ref l) (upd H l (.lst xs)) ds:=by
 refine⟨m.tp.same (yg hl),Kz.of_same (yg hl),l,xs,rfl,hl,zl,h.same (zo fun a o ha e=>?_)⟩
 have:=zh e hl
 exact⟨⟨ha,this⟩,by rw[zj this];exact e⟩
theorem kX {lo hi:Option Expr}{Q:List PyData→Prop}(h:EvD X α a fun x=>EvO X α lo fun l=>EvO X α hi fun u=>∃ds,x=.list ds∧Q (cutD ds l u)):EvL X α (.Subscript a (.Slice lo hi none p) pos) Q:=fun F σ H R m k=>by
 refine⟨_,jd gr zd oq oq,?_⟩
 refine h F σ H _ m fun x vx H1 q1 t1 k1 r1=>?_
 have m1:=m.kz k1 t1
 refine q1 F σ H1 _ m1 fun l H2 q2 t2 k2=>?_
 have m2:=m1.kz k2 t2
 refine q2 F σ H2 _ m2 fun u H3 q3 t3 k3=>?_
 have m3:=m2.kz k3 t3
 obtain⟨ds,rfl,q⟩:=q3
 obtain⟨a,xs,rfl,h1,h2⟩:=(r1.same ((k2.gz m1.tp).trans (k3.gz m2.tp))).lst_inv
 refine⟨a,xs,rfl,SqL.of (zf h1).2,fun p hp=>?_⟩
 obtain⟨g1,g2,g3⟩:=m3.lay hp (h2.cut l u)
 have kk:=(k1.trans k2).trans k3
 obtain⟨l',xs',e1,e2,e3,e4⟩:=g3
 refine k _ _ _ q g1 (kk.trans g2) ⟨l',xs',e1,?_,e3,e4⟩
 cases z:H l' with
 |none=>rfl
 |some o=>rw[kk l' o z (m.tp.nt (ow0 (m3.fresh e2)))] at e2;cases e2
theorem yA.back {F:Fr}{σ:St}{H H1 H':Hp}{v:V}{ds:List PyData}(m:M F α σ H)(k:Kz F H H1)(t1:zB F H1)(h:yA F α σ H1 v H' ds):yA F α σ H v H' ds:=by
 obtain⟨l',xs',e1,e2,e3,e4⟩:=h
 refine⟨l',xs',e1,?_,e3,e4⟩
 cases z:H l' with
 |none=>rfl
 |some o=>rw[k l' o z (m.tp.nt (ow0 ((m.kz k t1).fresh e2)))] at e2;cases e2
theorem zg {Q:List A→Prop}(q:Q []):EvA X α [] Q:=fun F σ H R m k=>⟨_,zm,k _ _ H q m.tp Kz.refl .nil⟩
theorem za {Q:List A→Prop}(h:EvD X α e fun d=>EvA X α es fun as=>Q (.dat d::as))(hs:starEach (e::es) X.env=(false,eval e X.env)::starEach es X.env:=by rfl):EvA X α (e::es) Q:=fun F σ H R m k=>by
 refine⟨_,zc zd yP hs,?_⟩
 refine h F σ H _ m fun d v H1 q1 t1 k1 r1=>?_
 have m1:=m.kz k1 t1
 exact q1 F σ H1 _ m1 fun as vs H2 q2 t2 k2 r2=>k _ _ H2 q2 t2 (k1.trans k2) (.cons (r1.same (k2.gz m1.tp)) r2)
theorem zw {Q:List A→Prop}(i:Nat){x:Str}(hi:α[i]?=some (some .tape))(h:EvA X α es fun as=>Q (.tape::as))(hN:X.N[i]?=some x:=by rfl)(hv:Vis X.env.scope x:=by first|exact Or.inl rfl|exact Or.inr (Or.inl rfl)|exact Or.inr (Or.inr rfl))
  (hd:(x == ("__debug__":Str))=false:=by decide) (hcd:(x == ("__classdict__":Str))=false:=by decide) (hs:starEach (.Name x pos::es) X.env=(false,eval (.Name x pos) X.env)::starEach es X.env:=by rfl):EvA X α (.Name x pos::es) Q:=fun F σ H R m k=>by
 obtain⟨t,b,c,h1,h2⟩:=m.tvar i hi
 refine⟨_,zc (yZ hN hv hd hcd) yP hs,.ref t,h2,?_⟩
 exact h F σ H _ m fun as vs H2 q2 t2 k2 r2=>k _ _ H2 q2 t2 k2 (.cons ⟨t,b,c,h1,rfl⟩ r2)
def datas :List A→Option (List PyData)
 |[]=>some []
 |.dat d::r=>(datas r).map (d::·)
 |_::_=>none
theorem zR.datas {F:Fr}{G:Hp}:∀{vs:List V} {as:List A} {ds:List PyData},zR F G vs as→L2.datas as=some ds→AVs G vs ds
 |_,_,ds,.nil,h=>by cases h;exact .nil
 |_,_,ds,.cons (a:=.dat d) (as:=as) h r,e=>by
  simp only[L2.datas,za3] at e
  obtain⟨es,e1,rfl⟩:=e
  exact .cons h (zR.datas r e1)
 |_,_,ds,.cons (a:=.ow _) h r,e=>by cases h
 |_,_,ds,.cons (a:=.deep _ _) h r,e=>by cases h
 |_,_,ds,.cons (a:=.exc _ _) h r,e=>by cases h
 |_,_,ds,.cons (a:=.pin _ _ _) h r,e=>by cases h
 |_,_,ds,.cons (a:=.tape) h r,e=>by cases e
 |_,_,ds,.cons (a:=.at _) h r,e=>by cases h
theorem wD {n:Nat}(h:EvA X α es fun as=>∃ds,datas as=some ds∧ds.length≤1000∧Q (.tuple ds)):EvD X α (.Tuple es n pos) Q:=fun F σ H R m k=>by
 refine⟨_,qC yP,?_⟩
 refine h F σ H _ m fun as vs H1 q1 t1 k1 r1=>?_
 obtain⟨ds,e,hl,q⟩:=q1
 have r:=r1.datas e
 have m1:=m.kz k1 t1
 refine⟨by rw[r.length];exact zd1 (xu hl),fun p hp=>?_⟩
 refine k _ _ _ q (t1.same (yg hp)) (k1.trans (Kz.of_same (yg hp))) (.tup (xs:=vs) (zQ (m1.fresh hp) zl) (r.same (zo fun a o ha e=>⟨ha,by rw[zj (zh e hp)];exact e⟩)))
theorem ya {Q:List PyData→Prop}(h:EvA X α es fun as=>∃ds,datas as=some ds∧ds.length≤1000∧Q ds):EvL X α (.List es pos) Q:=fun F σ H R m k=>by
 refine⟨_,eB yP,?_⟩
 refine h F σ H _ m fun as vs H1 q1 t1 k1 r1=>?_
 obtain⟨ds,e,hl,q⟩:=q1
 have r:=r1.datas e
 have m1:=m.kz k1 t1
 refine⟨by rw[r.length];exact zd1 (xu hl),fun p hp=>?_⟩
 obtain⟨g1,g2,g3⟩:=m1.lay hp r
 exact k _ _ _ q g1 (k1.trans g2) (g3.back m k1 t1)
theorem wY {id:String}{x:Str}{r:List V→Hp→VK→Prop}(hc:yN X (.builtin id) r)(hg:Gl X x)(hm:X.mg x=none)(hv:bootBuiltins x=some (.builtin id))
  (h:EvA X α (e::es) fun as=>∀(F:Fr) (σ:St) (H:Hp) (vs:List V) (R:VK),M F α σ H→zR F (Gz F α σ H) vs as→(∀d v H',Q d→zB F H'→Kz F H H'→AV (Gz F α σ H') v d→R v H')→r vs H R)
  (hn:x≠"__name__":=by decide) (hdb:(x == ("__debug__":Str))=false:=by decide) (he:starEach (e::es) X.env=(false,eval e X.env)::starEach es X.env:=by rfl) (hpl:(backTo pos (starEach es X.env)).any (·.1)=false:=by rfl):
  EvD X α (.Call (.Name x p) (e::es) [] pos) Q:=fun F σ H R m k=>by
 refine⟨_,yh hc hg hm hv yP hn hdb he hpl,?_⟩
 refine h F σ H _ m fun as vs H1 q1 t1 k1 r1=>?_
 exact q1 F σ H1 vs R (m.kz k1 t1) r1 fun d v H' qd t2 k2 r2=>k d v H' qd t2 (k1.trans k2) r2
end
section
variable {X:Cx}{α:Ev}{e a b c:Expr}{es:List Expr}{pos p q:Pos}{Q:PyData→Prop}
theorem zR.one {F:Fr}{G:Hp}{vs:List V}{d:PyData}(h:zR F G vs [.dat d]):∃v,vs=[v]∧AV G v d:=by
 cases h with|cons h r=>cases r;exact⟨_,rfl,h⟩
theorem zR.two {F:Fr}{G:Hp}{vs:List V}{d e:PyData}(h:zR F G vs [.dat d,.dat e]):∃v u,vs=[v,u]∧AV G v d∧AV G u e:=by
 cases h with|cons h r=>obtain⟨u,rfl,h2⟩:=r.one;exact⟨_,u,rfl,h,h2⟩
def bK :PyData→Option Int
 |.list ds=>some ds.length
 |.tuple ds=>some ds.length
 |_=>none
theorem ko (hg:Gl X "len")(hm:X.mg "len"=none)(h:EvD X α e fun x=>∃n,bK x=some n∧Q (.int n))(he:starEach [e] X.env=(false,eval e X.env)::starEach [] X.env:=by rfl):
  EvD X α (.Call (.Name "len" p) [e] [] pos) Q:=by
 refine wY yQ hg hm zg9 (za (h.imp fun x ⟨n,e1,q⟩=>zg ?_) he) (he:=he)
 intro F σ H vs R m rv k
 obtain⟨v,rfl,av⟩:=rv.one
 cases av with
 |lst h1 h2=>cases e1;rw[←h2.length] at q;exact⟨_,_,rfl,.inl (SqL.of (zf h1).2),k _ _ H q m.tp Kz.refl (.int _)⟩
 |tup h1 h2=>cases e1;rw[←h2.length] at q;exact⟨_,_,rfl,.inr (SqT.of (zf h1).2),k _ _ H q m.tp Kz.refl (.int _)⟩
 |_=>cases e1
theorem jf (hc:X.calm=true)(hg:Gl X "max")(hm:X.mg "max"=none)(h:EvD X α a fun x=>EvD X α b fun y=>∃i j,x=.int i∧y=.int j∧Q (.int (if j > i then j else i)))
  (he:starEach [a,b] X.env=(false,eval a X.env)::starEach [b] X.env:=by rfl) (he2:starEach [b] X.env=(false,eval b X.env)::starEach [] X.env:=by rfl) (hpl:(backTo pos (starEach [b] X.env)).any (·.1)=false:=by rfl):
  EvD X α (.Call (.Name "max" p) [a,b] [] pos) Q:=by
 refine wY (nF hc) hg hm boot_max (za (h.imp fun x h=>za (h.imp fun y ⟨i,j,e1,e2,q⟩=>zg ?_) he2) he) (he:=he) (hpl:=hpl)
 intro F σ H vs R m rv k
 subst e1 e2
 obtain⟨v,u,rfl,av,au⟩:=rv.two
 cases av.int_inv;cases au.int_inv
 exact⟨i,j,rfl,k _ _ H q m.tp Kz.refl (.int _)⟩
theorem qP (hc:X.calm=true)(hg:Gl X "min")(hm:X.mg "min"=none)(h:EvD X α a fun x=>EvD X α b fun y=>∃i j,x=.int i∧y=.int j∧Q (.int (if j<i then j else i)))
  (he:starEach [a,b] X.env=(false,eval a X.env)::starEach [b] X.env:=by rfl) (he2:starEach [b] X.env=(false,eval b X.env)::starEach [] X.env:=by rfl) (hpl:(backTo pos (starEach [b] X.env)).any (·.1)=false:=by rfl):
  EvD X α (.Call (.Name "min" p) [a,b] [] pos) Q:=by
 refine wY (mm hc) hg hm boot_min (za (h.imp fun x h=>za (h.imp fun y ⟨i,j,e1,e2,q⟩=>zg ?_) he2) he) (he:=he) (hpl:=hpl)
 intro F σ H vs R m rv k
 subst e1 e2
 obtain⟨v,u,rfl,av,au⟩:=rv.two
 cases av.int_inv;cases au.int_inv
 exact⟨i,j,rfl,k _ _ H q m.tp Kz.refl (.int _)⟩
theorem vU {T:String}{x:Str}{p1:Pos}(hg:Gl X "isinstance")(hm:X.mg "isinstance"=none)(hgT:Gl X x)(hmT:X.mg x=none)(hT:bootBuiltins x=some (.type T))
  (h:EvD X α a fun x=>∃k,x.hasDict=false∧uP T x=some k∧Q (.bool k)) (hnx:x≠"__name__":=by decide) (hdx:(x == ("__debug__":Str))=false:=by decide)
  (he:starEach [a,.Name x p1] X.env=(false,eval a X.env)::starEach [.Name x p1] X.env:=by rfl) (he2:starEach [.Name x p1] X.env=(false,eval (.Name x p1) X.env)::starEach [] X.env:=by rfl) (hpl:(backTo pos (starEach [.Name x p1] X.env)).any (·.1)=false:=by rfl):
  EvD X α (.Call (.Name "isinstance" p) [a,.Name x p1] [] pos) Q:=fun F σ H R m k=>by
 refine⟨_,yh yT hg hm zc6 (zc zd (zc (wg hgT hmT hT (show RelV (.ty T) (.type T) from rfl) hnx hdx) zm he2) he) (he:=he) (hpl:=hpl),?_⟩
 refine h F σ H _ m fun x vx H1 q1 t1 k1 r1=>?_
 obtain⟨b,hd,e,q⟩:=q1
 exact⟨vx,T,x,b,rfl,(r1.dv hd).same yW,e,k _ _ H1 q t1 k1 (.bl b)⟩
def vi :PyData→Option (List PyData)
 |.list ds=>some ds
 |.tuple ds=>some ds
 |_=>none
theorem oC {Q:List PyData→Prop}(hg:Gl X "list")(hm:X.mg "list"=none)(h:EvD X α e fun x=>∃ds,vi x=some ds∧Q ds)(he:starEach [e] X.env=(false,eval e X.env)::starEach [] X.env:=by rfl):
  EvL X α (.Call (.Name "list" p) [e] [] pos) Q:=fun F σ H R m k=>by
 refine⟨_,xt tV hg hm boot_list (zc zd zm he) (he:=he),?_⟩
 refine h F σ H _ m fun x vx H1 q1 t1 k1 r1=>?_
 obtain⟨ds,e1,q⟩:=q1
 have m1:=m.kz k1 t1
 have fin:∀{xs:List V},AVs (Gz F α σ H1) xs ds→∀l,H1 l=none→R (.ref l) (upd H1 l (.lst xs)):=fun {xs} h2 l hl=>by
  obtain⟨g1,g2,g3⟩:=m1.lay hl h2
  exact k _ _ _ q g1 (k1.trans g2) (g3.back m k1 t1)
 cases r1 with
 |lst h1 h2=>cases e1;exact⟨_,_,rfl,.inl (SqL.of (zf h1).2),fin h2⟩
 |tup h1 h2=>cases e1;exact⟨_,_,rfl,.inr (SqT.of (zf h1).2),fin h2⟩
 |_=>cases e1
theorem AVs.bools {H:Hp}:∀{xs:List V} {bs:List Bool},AVs H xs (bs.map .bool)→xs=bs.map V.bl
 |_,[],.nil=>rfl
 |_,b::bs,.cons h r=>by rw[h.bl_inv,AVs.bools r];rfl
theorem dn (hc:X.calm=true)(hg:Gl X "all")(hm:X.mg "all"=none)(h:EvD X α e fun x=>∃bs:List Bool,x=.list (bs.map .bool)∧Q (.bool (bs.all id)))(he:starEach [e] X.env=(false,eval e X.env)::starEach [] X.env:=by rfl):
  EvD X α (.Call (.Name "all" p) [e] [] pos) Q:=by
 refine wY (mE hc) hg hm boot_all (za (h.imp fun x ⟨bs,e1,q⟩=>zg ?_) he) (he:=he)
 intro F σ H vs R m rv k
 subst e1
 obtain⟨v,rfl,av⟩:=rv.one
 obtain⟨a,xs,rfl,h1,h2⟩:=av.lst_inv
 exact⟨a,bs,rfl,by rw[(zf h1).2,h2.bools],k _ _ H q m.tp Kz.refl (.bl _)⟩
section
variable {k:Nat}{f:Addr}{fd:FuncData}{ps:List Str}{φ:List A→(A→Prop)→Prop}{x:Str}
theorem xg {F:Fr}{σ:St}{H:Hp}{vs:List V}{as:List A}{QA:A→Prop}{R:VK}(m:M F α σ H)(rv:zR F (Gz F α σ H) vs as)(hφ:φ as QA)
  (kk:∀a v H',QA a→xP ⟨H,Ow F α σ,F.tp⟩ v H' a→R v H') {E:XK}:spA φ (vs++[]) H R E:=by
 refine⟨⟨H,Ow F α σ,F.tp⟩,as,QA,rfl,?_,?_,?_,hφ,kk⟩
 ·exact m.tp.to rfl fun _ z=>.inl z
 ·exact fun y z=>m.owEx z
 ·rw[ze4]
  exact zR.to (F:=F) (F':=⟨H,Ow F α σ,F.tp⟩) (fun _ _ e=>e) rfl rv
theorem xP.back {F:Fr}{σ:St}{H H':Hp}{v:V}{a:A}(m:M F α σ H)(h:xP ⟨H,Ow F α σ,F.tp⟩ v H' a):zB F H'∧Kz F H H'∧AV (Gz F α σ H') v a.d:=by
 obtain⟨t,kz,r⟩:=h
 refine⟨m.tp.re t rfl,kz,?_⟩
 cases a with
 |dat d=>exact r
 |ow c=>
  obtain⟨l,xs,ds,rfl,rfl,h1,h2,h3,h4⟩:=r
  exact .lst (zQ h2 h3) (h4.same (zo fun a o h e=>⟨h.1,e⟩))
 |deep d S=>
  obtain⟨h1,h2⟩:=r
  refine h1.same fun x o e=>?_
  rcases jj e with ⟨z1,z2⟩|⟨_,z2⟩
  ·exact zQ (h2 x z1).1 z2
  ·exact z2
 |tape=>exact r.elim
 |«at» _=>exact r.elim
 |exc _ _=>exact r.elim
 |pin _ _ _=>exact r.elim
theorem gR (G:zv X.prog X.w X.K X.mg X.base CX0 k f fd ps (spA φ))(hr:zJ k X.A)(hg:Gl X x)(hm:X.mg x=some (.ref f))(hk:PySem.W.keepIn X.K (.ref f)=true)(hb:Binds X.K fd ps [])
  (h:EvA X α (e::es) fun as=>φ as fun a=>Q a.d) (hdb:(x == ("__debug__":Str))=false:=by decide) (he:starEach (e::es) X.env=(false,eval e X.env)::starEach es X.env:=by rfl) (hpl:(backTo pos (starEach es X.env)).any (·.1)=false:=by rfl):
  EvD X α (.Call (.Name x p) (e::es) [] pos) Q:=fun F σ H R m kk=>by
 refine⟨_,zI G hr hg hm hk hb .nil zK yP hdb he hpl,?_⟩
 refine h F σ H _ m fun as vs H1 q1 t1 k1 r1=>?_
 have m1:=m.kz k1 t1
 refine xg m1 r1 q1 fun a v H' qa ra=>?_
 obtain⟨g1,g2,g3⟩:=ra.back m1
 exact kk _ v H' qa g1 (k1.trans g2) g3
theorem hZ {Q:List PyData→Prop}(G:zv X.prog X.w X.K X.mg X.base CX0 k f fd ps (spA φ))(hr:zJ k X.A)(hg:Gl X x)(hm:X.mg x=some (.ref f))(hk:PySem.W.keepIn X.K (.ref f)=true)(hb:Binds X.K fd ps [])
  (h:EvA X α (e::es) fun as=>φ as fun a=>∃ds,a=.own ds∧Q ds) (hdb:(x == ("__debug__":Str))=false:=by decide) (he:starEach (e::es) X.env=(false,eval e X.env)::starEach es X.env:=by rfl) (hpl:(backTo pos (starEach es X.env)).any (·.1)=false:=by rfl):
  EvL X α (.Call (.Name x p) (e::es) [] pos) Q:=fun F σ H R m kk=>by
 refine⟨_,zI G hr hg hm hk hb .nil zK yP hdb he hpl,?_⟩
 refine h F σ H _ m fun as vs H1 q1 t1 k1 r1=>?_
 have m1:=m.kz k1 t1
 refine xg m1 r1 q1 fun a v H' qa ra=>?_
 obtain⟨ds,rfl,q⟩:=qa
 obtain⟨g1,g2,_⟩:=ra.back m1
 obtain⟨_,_,l,xs,ds',rfl,hc,h1,h2,h3,h4⟩:=ra
 cases hc
 exact kk ds _ H' q g1 (k1.trans g2) (yA.back m k1 t1 ⟨l,xs,rfl,h1,h3,h4⟩)
end
theorem qK {i j:Nat}{x:Option A}(h:i≠j):(α.set i x)[j]?=α[j]?:=zb6 h
theorem zF {i:Nat}{x:Option A}{j:Nat}{y:Option A}(h:(α.set i x)[j]?=some y):(i=j∧x=y)∨(i≠j∧α[j]?=some y):=by
 by_cases hij:i=j
 ·subst hij
  left
  have hl:i<α.length:=by
   have:=(aH.mp h).1
   rwa [za6] at this
  rw[zd7 hl] at h
  exact⟨rfl,aL h⟩
 ·right
  rw[zb6 hij] at h
  exact⟨hij,h⟩
theorem M.put {F:Fr}{σ:St}{H:Hp}{i:Nat}{b:Option A}(m:M F α σ H)(hf:∀s c x,σ[i]?=some s→b=some c→foot s c x→∃a,α[i]?=some (some a)∧foot s a x)
  (hok:∀s c,i<α.length→σ[i]?=some s→b=some c→xh (Gz F (α.set i b) σ H) F H s c) (hx:∀c,b=some c→noX c:=by intro c z;cases z;trivial):zr (Gz F α σ H) (Gz F (α.set i b) σ H)∧M F (α.set i b) σ H:=by
 have gs:zr (Gz F α σ H) (Gz F (α.set i b) σ H):=zo fun a o h e=>⟨fun z=>h (by
  rcases z with z|⟨j,c,s,e1,e2,f⟩
  ·exact .inl z
  ·rcases zF e1 with ⟨rfl,z⟩|⟨hj,e1'⟩
   ·obtain⟨a',h1,h2⟩:=hf s c a e2 z f
    exact .inr ⟨i,a',s,h1,e2,h2⟩
   ·exact .inr ⟨j,c,s,e1',e2,f⟩),e⟩
 have old:∀{j:Nat} {c:A} {s:Option V} {x:Addr},(α.set i b)[j]?=some (some c)→σ[j]?=some s→foot s c x→∃a,α[j]?=some (some a)∧foot s a x:=fun {j c s x} e1 e2 f=>by
  rcases zF e1 with ⟨rfl,z⟩|⟨hj,e1'⟩
  ·exact hf s c x e2 z f
  ·exact⟨c,e1',f⟩
 refine⟨gs,by rw[za6];exact m.len,fun j c s e1 e2=>?_,fun j k c d s t x e1 e2 h1 h2 f1 f2=>?_,fun j r q e j' c s x e1 e2 f=>?_,m.tp,m.keep,m.oex⟩
 ·rcases zF e1 with ⟨rfl,z⟩|⟨hj,e1'⟩
  ·refine hok s c ?_ e2 z
   have:=(aH.mp e1).1
   rwa [za6] at this
  ·exact (m.ok j c s e1' e2).stay gs (fun x o f e=>⟨e,(m.ft e1' e2 f).1,(m.ft e1' e2 f).2.1⟩) rfl fun _ _ _ l=>l
 ·obtain⟨a',g1,g2⟩:=old e1 h1 f1
  obtain⟨b',g3,g4⟩:=old e2 h2 f2
  exact m.dj j k a' b' s t x g1 g3 h1 h2 g2 g4
 ·obtain⟨a',g1,g2⟩:=old e1 e2 f
  rcases zF e with ⟨rfl,z⟩|⟨_,e'⟩
  ·exact (hx _ z).elim
  ·exact m.xd j r q e' j' a' s x g1 e2 g2
theorem M.gave {F:Fr}{σ:St}{H:Hp}{i:Nat}{a:A}{s:Option V}{b:Option A}{x:Addr}(m:M F α σ H)(e1:α[i]?=some (some a))(e2:σ[i]?=some s)(f:foot s a x)(hb:∀c,b=some c→¬foot s c x):¬Ow F (α.set i b) σ x:=by
 rintro (z|⟨j,c,t,h1,h2,g⟩)
 ·exact (m.ft e1 e2 f).1 z
 ·rcases zF h1 with ⟨rfl,z⟩|⟨hj,h1'⟩
  ·rw[e2] at h2;cases h2;exact hb c z g
  ·exact hj (m.dj i j a c s t x e1 h1' e2 h2 f g)
theorem kj {F:Fr}{σ:St}{H:Hp}{i:Nat}{b:A}(hb:∀s x,¬foot s b x):zr (Gz F α σ H) (Gz F (α.set i (some b)) σ H):=zo fun a o h e=>⟨fun z=>h (by
 rcases z with z|⟨j,c,s,e1,e2,f⟩
 ·exact .inl z
 ·rcases zF e1 with ⟨rfl,z⟩|⟨hj,e1'⟩
  ·cases z;exact (hb _ _ f).elim
  ·exact .inr ⟨j,c,s,e1',e2,f⟩),e⟩
theorem M.frz {F:Fr}{σ:St}{H:Hp}{i:Nat}{ds:List PyData}(m:M F α σ H)(hi:α[i]?=some (some (.own ds))):M F (α.set i (some (.dat (.list ds)))) σ H:=
 (m.put (b:=some (.dat (.list ds))) (fun s c' x _ z f=>by cases z;exact f.elim) fun s c' _ e2 z=>by
  cases z
  obtain⟨l,o,h1,h2,h3,h4,h5⟩:=m.owc i _ hi
  rw[h1] at e2;cases e2
  exact⟨.ref l,rfl,(h3.same (kj (b:=.dat (.list ds)) fun _ _ f=>f)).av (zQ (m.gave hi h1 rfl fun c z=>by cases z;exact id) h2)⟩).2
theorem fz {F:Fr}{σ:St}{H H':Hp}{i:Nat}{a:A}{b:Option A}(m:M F α σ H)(k:Kz F H H')(hi:α[i]?=some (some a))(x:Addr)(o:HO)(ho:¬Ob o)(h:Gz F (α.set i b) σ H' x=some o):Gz F α σ H' x=some o:=by
 obtain⟨h1,h2⟩:=zf h
 refine zQ ?_ h2
 rintro (z|⟨j,c,s,e1,e2,f⟩)
 ·exact h1 (.inl z)
 ·by_cases hj:i=j
  ·subst hj
   obtain⟨g1,g2,o',g3,g4⟩:=m.ft e1 e2 f
   rw[k _ _ g3 (m.tp.nt g1)] at h2;cases h2;exact ho g4
  ·exact h1 (.inr ⟨j,c,s,by rw[qK hj];exact e1,e2,f⟩)
theorem iN (i:Nat){ds:List PyData}(hi:α[i]?=some (some (.own ds)))(h:EvD X (α.set i (some (.dat (.list ds)))) e fun d=>noL d=true∧Q d):EvD X α e Q:=fun F σ H R m k=>
 h F σ H R (m.frz hi) fun d v H' q t kz r=>k d v H' q.2 t kz (r.noL (fz m kz hi) q.1)
theorem gO {Q:Bool→Prop}(i:Nat){ds:List PyData}(hi:α[i]?=some (some (.own ds)))(h:EvT X (α.set i (some (.dat (.list ds)))) e Q):EvT X α e Q:=fun F σ H R m k=>h F σ H R (m.frz hi) k
def ItW (p:Addr→Prop)(J:It)(ds:List PyData)(G:Hp):Prop:=∀(i:Nat) (H2:Hp) (q:Addr→Prop),zr G (sub q H2)→
 (∀d,ds[i]?=some d→J.go i H2∧∀x H3,J.yld i H2 x H3→zr H2 H3∧((∀a o,H3 a=some o→H2 a=none→q a)→AV (sub q H3) x d))∧(ds.length≤i→J.stop i H2)
def el (X:Cx)(tg e:Expr):TI:=fun σ H R=>∃t,PI X tg e t∧t σ H R
theorem sj {tg e:Expr}:PI X tg e (el X tg e):=fun pins s σ H R I ⟨t,p,q⟩=>p pins s σ H R I q
def EvI (X:Cx)(α:Ev)(tg e:Expr)(Q:List PyData→Prop):Prop:=∀(F:Fr) (σ:St) (H:Hp) (R:It→Hp→Prop),M F α σ H→
 (∀ds J H',Q ds→zB F H'→Kz F H H'→ItW (fun x=>¬Ow F α σ x) J ds (Gz F α σ H')→R J H')→el X tg e σ H R
theorem wq {tg:Expr}{Q:List PyData→Prop}(h:EvD X α e fun x=>∃ds,x=.list ds∧Q ds):EvI X α tg e Q:=fun F σ H R m k=>by
 refine⟨_,gh zd,?_⟩
 refine h F σ H _ m fun x vx H1 q1 t1 k1 r1=>?_
 obtain⟨ds,rfl,q⟩:=q1
 obtain⟨a,xs,rfl,h1,h2⟩:=r1.lst_inv
 refine⟨a,rfl,⟨xs,SqL.of (zf h1).2⟩,k ds _ H1 q t1 k1 fun i H2 p s=>⟨fun d hd=>?_,fun hl=>?_⟩⟩
 ·obtain⟨x,hx,av⟩:=h2.get hd
  have ha:=SqL.of (K:=X.K) (zf (s _ _ h1)).2
  refine⟨⟨xs,x,ha,hx⟩,fun x' H3 y=>?_⟩
  obtain⟨e,y⟩:=y
  subst e
  have:=y xs ha
  rw[hx] at this;cases this
  exact⟨zr.refl _,fun _=>av.same s⟩
 ·exact⟨xs,SqL.of (zf (s _ _ h1)).2,by rw[h2.length];exact hl⟩
theorem nC {p:Addr→Prop}{lo:Int}{n:Nat}{G:Hp}:ItW p (Itr lo n) ((vg lo n).map .int) G:=fun i H2 q s=>⟨fun d hd=>by
  rw[aU,za3] at hd
  obtain⟨z,h1,rfl⟩:=hd
  have hi:i<n:=by
   have:=(aH.mp h1).1
   rwa [yH] at this
  rw[uy hi] at h1
  cases h1
  refine⟨hi,fun x H3 y=>?_⟩
  obtain⟨rfl,rfl⟩:=y
  exact⟨zr.refl _,fun _=>.int _⟩,fun hl=>by
  rw[ax,yH] at hl
  exact hl⟩
theorem uZ {tg:Expr}{Q:List PyData→Prop}(hg:Gl X "range")(hm:X.mg "range"=none)(h:EvD X α a fun x=>∃j,x=.int j∧-(2 ^ 62)≤j∧j<2 ^ 62∧Q ((vg 0 j.toNat).map .int))(hs:starEach [a] X.env=[(false,eval a X.env)]:=by rfl):
  EvI X α tg (.Call (.Name "range" p) [a] [] pos) Q:=fun F σ H R m k=>by
 refine⟨_,nD hg hm (zc zd zm hs) hs,?_⟩
 refine h F σ H _ m fun x vx H1 q1 t1 k1 r1=>?_
 obtain⟨j,rfl,b1,b2,q⟩:=q1
 cases r1.int_inv
 exact⟨j,rfl,b1,b2,k _ _ H1 q t1 k1 nC⟩
end
inductive Pat where
 |one (i:Nat)
 |many (is:List Nat)
def xV :List Nat→List PyData→Ev→Option Ev
 |[],[],α=>some α
 |i::is,d::ds,α=>xV is ds (α.set i (some (.dat d)))
 |_,_,_=>none
def Pat.bind :Pat→PyData→Ev→Option Ev
 |.one i,d,α=>some (α.set i (some (.dat d)))
 |.many is,.tuple ds,α=>xV is ds α
 |_,_,_=>none
def gIs :List Nat→TGs
 |[]=>cb
 |i::is=>gS (tf i) (gIs is)
def rA (K:PySem.W.Frag):Pat→TG
 |.one i=>tf i
 |.many is=>eW K is.length (gIs is)
def Pat.slots :Pat→List Nat
 |.one i=>[i]
 |.many is=>is
def isFree (α:Ev)(i:Nat):Bool:=match α[i]? with
 |some none=>true
 |_=>false
def Pat.free (p:Pat)(α:Ev):Bool:=p.slots.all (isFree α)
section
variable {X:Cx}{α α':Ev}{F:Fr}{σ:St}{H:Hp}
theorem M.store {i:Nat}{v:V}{b:A}{H':Hp}(m:M F α σ H)(t:zB F H')(k:Kz F H H')(hn:∀x,foot (some v) b x→H x=none)(hok:xh (sub (fun x=>¬Ow F α σ x∧¬foot (some v) b x) H') F H' (some v) b)(hx:noX b:=by trivial):M F (α.set i (some b)) (σ.set i (some v)) H':=by
 have m':=m.kz k t
 have hs:∀{j:Nat} {c:A} {s:Option V},(α.set i (some b))[j]?=some (some c)→(σ.set i (some v))[j]?=some s→(i=j∧c=b∧s=some v)∨(i≠j∧α[j]?=some (some c)∧σ[j]?=some s):=fun {j c s} e1 e2=>by
  rcases zF e1 with ⟨rfl,z⟩|⟨hj,e1'⟩
  ·cases z
   have hl:i<σ.length:=by
    have:=(aH.mp e2).1
    rwa [za6] at this
   rw[zd7 hl] at e2
   cases e2
   exact .inl ⟨rfl,rfl,rfl⟩
  ·rw[zb6 hj] at e2
   exact .inr ⟨hj,e1',e2⟩
 have ow:∀{y:Addr},Ow F (α.set i (some b)) (σ.set i (some v)) y→Ow F α σ y∨foot (some v) b y:=fun {y} h=>by
  rcases h with z|⟨j,c,s,e1,e2,f⟩
  ·exact .inl (.inl z)
  ·rcases hs e1 e2 with ⟨_,rfl,rfl⟩|⟨_,g1,g2⟩
   ·exact .inr f
   ·exact .inl (.inr ⟨j,c,s,g1,g2,f⟩)
 have g1:zr (sub (fun x=>¬Ow F α σ x∧¬foot (some v) b x) H') (Gz F (α.set i (some b)) (σ.set i (some v)) H'):=zo fun a o h e=>⟨fun z=>(ow z).elim h.1 h.2,e⟩
 have g0:zr (Gz F α σ H) (sub (fun x=>¬Ow F α σ x∧¬foot (some v) b x) H'):=zo fun a o h e=>⟨⟨h,fun z=>by rw[hn a z] at e;cases e⟩,k a o e (m.tp.nt (ow0 h))⟩
 refine⟨by rw[za6,za6];exact m.len,fun j c s e1 e2=>?_,fun j j' c d s s' x e1 e2 h1 h2 f1 f2=>?_,fun j r q e j' c s x e1 e2 f=>?_,t,m.keep.trans k,m'.oex⟩
 ·rcases hs e1 e2 with ⟨rfl,rfl,rfl⟩|⟨_,z1,z2⟩
  ·exact hok.stay g1 (fun x o f e=>by
    obtain⟨w1,w2,_⟩:=sU hok f
    exact⟨e,w1,w2⟩) rfl fun _ _ _ l=>l
  ·exact (m.ok j c s z1 z2).stay (g0.trans g1) (fun x o f e=>by
    obtain⟨w1,w2,_⟩:=m.ft z1 z2 f
    exact⟨k x o e (m.tp.nt w1),w1,w2⟩) rfl fun _ _ _ l=>l.kz k t
 ·have nn:∀{j:Nat} {c:A} {s:Option V},α[j]?=some (some c)→σ[j]?=some s→foot s c x→¬foot (some v) b x:=fun {j c s} z1 z2 f g=>by
   obtain⟨_,_,o,w,_⟩:=m.ft z1 z2 f
   rw[hn x g] at w;cases w
  rcases hs e1 h1 with ⟨rfl,rfl,rfl⟩|⟨_,z1,z2⟩
  ·rcases hs e2 h2 with ⟨rfl,_⟩|⟨_,w1,w2⟩
   ·rfl
   ·exact absurd f1 (nn w1 w2 f2)
  ·rcases hs e2 h2 with ⟨rfl,rfl,rfl⟩|⟨_,w1,w2⟩
   ·exact absurd f2 (nn z1 z2 f1)
   ·exact m.dj j j' c d s s' x z1 w1 z2 w2 f1 f2
 ·rcases zF e with ⟨rfl,z⟩|⟨_,e'⟩
  ·cases z;exact hx.elim
  ·rcases hs e1 e2 with ⟨rfl,rfl,rfl⟩|⟨_,z1,z2⟩
   ·exact (m.lnk e').none (hn x f)
   ·exact m.xd j r q e' j' c s x z1 z2 f
theorem M.set {i:Nat}{v:V}{d:PyData}(m:M F α σ H)(av:AV (Gz F α σ H) v d):M F (α.set i (some (.dat d))) (σ.set i (some v)) H:=
 m.store m.tp Kz.refl (fun x z=>z.elim) ⟨v,rfl,av.same (zo fun a o h e=>⟨⟨h,fun z=>z⟩,e⟩)⟩
theorem M.setC {i:Nat}{v:V}{c:PyData}{H':Hp}(m:M F α σ H)(t:zB F H')(k:Kz F H H')(fl:jg F α σ H v H' c):M F (α.set i (some (.ow c))) (σ.set i (some v)) H':=by
 obtain⟨l,o,rfl,h1,h2,h3⟩:=fl
 have nl:¬Ow F α σ l:=m.fresh h1
 refine m.store t k (fun x z=>?_) ⟨l,o,rfl,h2,h3.same (zo fun a o h e=>⟨⟨h.1,fun z=>h.2 (by cases z;rfl)⟩,e⟩),ow0 nl,m.fresh0 h1⟩
 have z':some (V.ref l)=some (.ref x):=z
 cases z';exact h1
theorem M.setOwn {i:Nat}{v:V}{ds:List PyData}{H':Hp}(m:M F α σ H)(t:zB F H')(k:Kz F H H')(fl:yA F α σ H v H' ds):M F (α.set i (some (.own ds))) (σ.set i (some v)) H':=m.setC t k fl.c
theorem M.wr {x:Addr}{o:HO}(m:M F α σ H)(hno:xK o)(ho:F.O0 x)(ht:∀t b c,F.tp=some (t,b,c)→x≠t∧x≠b∧x≠c)(h0:F.H0 x=none)(hpl:Plain H x)(hx:∀(i:Nat) r q,α[i]?=some (some (.exc r q))→r.H0 x=none):M F α σ (upd H x o):=by
 have gs:zr (Gz F α σ H) (Gz F α σ (upd H x o)):=zo fun a u h e=>⟨h,by rw[zj (fun z=>h (.inl (by rw[z];exact ho)))];exact e⟩
 refine⟨m.len,fun j c s e1 e2=>?_,m.dj,m.xd,m.tp.upd ht hpl,fun y u e n=>?_,fun y hy=>?_⟩
 ·have:=m.ok j c s e1 e2
  cases c with
  |exc r q=>
   have l:Lnk r F H:=this
   exact⟨l.tp,l.o,l.ok.upd (fun a b c e=>ht a b c (l.tp▸e)) hpl,fun y u e n=>by rw[zj (zh e (hx j r q e1))];exact l.k y u e n⟩
  |_=>exact this.stay gs (fun y u f e=>by
    obtain⟨w1,w2,_⟩:=m.ft e1 e2 f
    exact⟨by rw[zj (fun z=>w1 (by rw[z];exact ho))];exact e,w1,w2⟩) rfl fun _ _ z=>by cases z
 ·rw[zj (zh e h0)];exact m.keep y u e n
 ·by_cases z:y=x
  ·exact⟨o,by rw[z];exact zl,hno⟩
  ·obtain⟨u,hu,hn⟩:=m.oex y hy
   exact⟨u,by rw[zj z];exact hu,hn⟩
theorem M.forget {α0:Ev}(m:M F α σ H)(hl:α0.length=α.length)(le:∀(i:Nat) a,α0[i]?=some (some a)→α[i]?=some (some a)):M F α0 σ H:=by
 have ow:∀{y:Addr},Ow F α0 σ y→Ow F α σ y:=fun {y} h=>by
  rcases h with z|⟨j,c,s,e1,e2,f⟩
  ·exact .inl z
  ·exact .inr ⟨j,c,s,le _ _ e1,e2,f⟩
 have gs:zr (Gz F α σ H) (Gz F α0 σ H):=zo fun a o h e=>⟨fun z=>h (ow z),e⟩
 exact⟨hl.trans m.len,fun j c s e1 e2=>(m.ok j c s (le _ _ e1) e2).stay gs (fun x o f e=>⟨e,(m.ft (le _ _ e1) e2 f).1,(m.ft (le _ _ e1) e2 f).2.1⟩) rfl fun _ _ _ l=>l,fun j j' c d s s' x e1 e2=>m.dj j j' c d s s' x (le _ _ e1) (le _ _ e2),fun j r q e j' c s x e1=>m.xd j r q (le _ _ e) j' c s x (le _ _ e1),m.tp,m.keep,m.oex⟩
theorem uY {H:Hp}:∀{is:List Nat} {ds:List PyData} {α α':Ev} {σ:St} {xs:List V} {R:St→Hp→Prop},xV is ds α=some α'→M F α σ H→(∀G,zr (Gz F α σ H) G→AVs G xs ds)→(∀σ',M F α' σ' H→R σ' H)→gIs is xs σ H R
 |[],[],α,α',σ,xs,R,e,m,av,k=>by
  cases e
  cases av _ (zr.refl _)
  exact⟨rfl,k σ m⟩
 |i::is,d::ds,α,α',σ,xs,R,e,m,av,k=>by
  cases h:av _ (zr.refl _) with
  |@cons x xs _ _ h1 h2=>
   refine⟨x,xs,rfl,?_⟩
   have gs:zr (Gz F α σ H) (Gz F (α.set i (some (.dat d))) (σ.set i (some x)) H):=zo fun a o h e=>⟨fun z=>h (by
    rcases z with z|⟨j,c,s,e1,e2,f⟩
    ·exact .inl z
    ·rcases zF e1 with ⟨_,z⟩|⟨hj,e1'⟩
     ·cases z;exact f.elim
     ·rw[zb6 hj] at e2
      exact .inr ⟨j,c,s,e1',e2,f⟩),e⟩
   exact uY (is:=is) (ds:=ds) e (m.set (i:=i) h1) (fun G s=>h2.same (gs.trans s)) k
 |[],_::_,_,_,_,_,_,e,_,_,_=>by cases e
 |_::_,[],_,_,_,_,_,e,_,_,_=>by cases e
theorem sV {K:PySem.W.Frag}{pat:Pat}{d:PyData}{v:V}{R:St→Hp→Prop}(e:pat.bind d α=some α')(m:M F α σ H)(av:AV (Gz F α σ H) v d)(k:∀σ',M F α' σ' H→R σ' H):rA K pat v σ H R:=by
 cases pat with
 |one i=>cases e;exact k _ (m.set av)
 |many is=>
  cases d with
  |tuple ds=>
   obtain⟨a,xs,rfl,h1,h2⟩:=av.tup_inv
   have hl:∀{is:List Nat} {ds:List PyData} {α α':Ev},xV is ds α=some α'→ds.length=is.length:=by
    intro is
    induction is with
    |nil=>intro ds α α' h;cases ds with|nil=>rfl|cons _ _=>cases h
    |cons i is ih=>intro ds α α' h;cases ds with|nil=>cases h|cons d ds=>rw[aJ,aJ,ih h]
   exact⟨a,xs,rfl,SqT.of (zf h1).2,by rw[h2.length];exact hl e,uY e m (fun G s=>h2.same s) k⟩
  |_=>cases e
theorem uv :∀{is:List Nat} {ds:List PyData} {α α':Ev},xV is ds α=some α'→α'.length=α.length
 |[],[],_,_,e=>by cases e;rfl
 |i::is,d::ds,α,α',e=>by
  have:=uv (is:=is) (ds:=ds) e
  rwa [za6] at this
 |[],_::_,_,_,e=>by cases e
 |_::_,[],_,_,e=>by cases e
theorem uq :∀{is:List Nat} {ds:List PyData} {α α':Ev} {j:Nat},xV is ds α=some α'→j∉is→α'[j]?=α[j]?
 |[],[],_,_,_,e,_=>by cases e;rfl
 |i::is,d::ds,α,α',j,e,h=>by
  rw[uq (is:=is) (ds:=ds) e fun z=>h (az _ z)]
  exact zb6 fun (z:i=j)=>h (by rw[←z];exact aA)
 |[],_::_,_,_,_,e,_=>by cases e
 |_::_,[],_,_,_,e,_=>by cases e
theorem uL :∀{is:List Nat} {ds:List PyData} {α α':Ev} {j:Nat} {a:A},xV is ds α=some α'→α'[j]?=some (some a)→(∀d,a≠.dat d)→α[j]?=some (some a)
 |[],[],_,_,_,_,e,h,_=>by cases e;exact h
 |i::is,d::ds,α,α',j,a,e,h,hn=>by
  rcases zF (uL (is:=is) (ds:=ds) e h hn) with ⟨_,z⟩|⟨_,z⟩
  ·cases z;exact absurd rfl (hn d)
  ·exact z
 |[],_::_,_,_,_,_,e,_,_=>by cases e
 |_::_,[],_,_,_,_,e,_,_=>by cases e
theorem Pat.is_ok {pat:Pat}{d:PyData}(e:pat.bind d α=some α'):∃is ds,pat.slots=is∧xV is ds α=some α':=by
 cases pat with
 |one i=>cases e;exact⟨_,[d],rfl,rfl⟩
 |many is=>
  cases d with
  |tuple ds=>exact⟨_,ds,rfl,e⟩
  |_=>cases e
theorem Pat.back {pat:Pat}{d:PyData}(e:pat.bind d α=some α')(fr:pat.free α=true)(m:M F α' σ H):M F α σ H:=by
 obtain⟨is,ds,rfl,e⟩:=Pat.is_ok e
 refine m.forget (uv e).symm fun j a h=>?_
 by_cases hj:j∈pat.slots
 ·have:=zc0.mp fr j hj
  unfold isFree at this
  rw[h] at this
  cases this
 ·rw[uq e hj];exact h
end
section
variable {X:Cx}{α:Ev}
def iG (X:Cx)(α:Ev)(ifs:List Expr)(Q:Bool→Prop):Prop:=∀(F:Fr) (σ:St) (H:Hp) (R:Bool→Hp→Prop),M F α σ H→(∀b H',Q b→zB F H'→Kz F H H'→R b H')→∃t,wB X ifs t∧t σ H R
def fo (X:Cx)(ifs:List Expr):TT:=fun σ H R=>∃t,wB X ifs t∧t σ H R
theorem oI {ifs:List Expr}:wB X ifs (fo X ifs):=fun pins s σ H Q I ⟨t,p,q⟩=>p pins s σ H Q I q
theorem lJ {Q:Bool→Prop}(q:Q true):iG X α [] Q:=fun F σ H R m k=>⟨_,ir,k _ H q m.tp Kz.refl⟩
def seen :Option A→Option A
 |some (.dat d)=>some (.dat d)
 |some .tape=>some .tape
 |_=>none
def yx (imp:List (Option Nat))(α:Ev):Ev:=imp.map fun o=>o.bind fun j=>(α[j]?).bind seen
theorem rV {imp:List (Option Nat)}{i:Nat}{a:A}(h:(yx imp α)[i]?=some (some a)):∃j,imp[i]?=some (some j)∧α[j]?=some (some a)∧((∃d,a=.dat d)∨a=.tape):=by
 unfold yx at h
 rw[aU,za3] at h
 obtain⟨o,h1,h2⟩:=h
 cases o with
 |none=>cases h2
 |some j=>
  have h2':(α[j]?).bind seen=some a:=h2
  cases q:α[j]? with
  |none=>rw[q] at h2';cases h2'
  |some b=>
   rw[q] at h2'
   cases b with
   |none=>cases h2'
   |some b=>
    cases b with
    |dat d=>cases h2';exact⟨j,h1,q,.inl ⟨d,rfl⟩⟩
    |tape=>cases h2';exact⟨j,h1,q,.inr rfl⟩
    |_=>cases h2'
theorem qi {imp:List (Option Nat)}{σ:St}{i j:Nat}{v:V}(h1:imp[i]?=some (some j))(h2:σ[j]?=some (some v)):(xx imp σ)[i]?=some (some v):=by
 unfold xx
 rw[aU,h1]
 show some ((σ[j]?).bind id)=_
 rw[h2];rfl
def yw (Y:Addr→Shared→Hp→List Addr→Cx)(pat:Pat)(ifs:List Expr)(elt:Expr)(α0:Ev):List PyData→List PyData→(List PyData→Prop)→Prop
 |[],acc,Q=>Q acc
 |d::ds,acc,Q=>∃α1,pat.bind d α0=some α1∧∀C s2 H2 fp,iG (Y C s2 H2 fp) α1 ifs fun k=>if k=true then ∀C s2 H2 fp,EvD (Y C s2 H2 fp) α1 elt fun y=>yw Y pat ifs elt α0 ds (acc++[y]) Q else yw Y pat ifs elt α0 ds acc Q
def eC (Y:Addr→Shared→Hp→List Addr→Cx)(e:Expr):TE:=fun σ H Q=>∀C s2 H2 fp,vO (Y C s2 H2 fp) e σ H Q
def tsC (Y:Addr→Shared→Hp→List Addr→Cx)(ifs:List Expr):TT:=fun σ H Q=>∀C s2 H2 fp,fo (Y C s2 H2 fp) ifs σ H Q
theorem pT {N:List Str}{imp:List (Option Nat)}{scope:Scope}{tg iter elt:Expr}{ifs:List Expr}{pat:Pat}{Q:List PyData→Prop}(hfree:pat.free (yx imp α)=true)
  (h:EvI X α tg iter fun ds=>ds.length≤1000∧yw (fun C s2 H2 fp=>X.comp N scope C s2 H2 fp) pat ifs elt (yx imp α) ds [] Q)
  (F:Fr) (σ:St) (H:Hp) (R:VK) (m:M F α σ H) (k:∀ds v H',Q ds→zB F H'→Kz F H H'→yA F α σ H v H' ds→R v H'):
  ∃Y:Addr→Shared→Hp→List Addr→Cx,Y=(fun C s2 H2 fp=>X.comp N scope C s2 H2 fp)∧jB (el X tg iter) imp (rA X.K pat) (tsC Y ifs) (eC Y elt) σ H R:=by
 refine⟨_,rfl,?_⟩
 refine h F σ H _ m fun ds J H1 ⟨hl,q1⟩ t1 k1 itw acc hacc=>?_
 have m1:=m.kz k1 t1
 have nacc:¬Ow F α σ acc:=m1.fresh hacc
 let Fc:Fr:=⟨H1,fun x=>Ow F α σ x∨x=acc,F.tp⟩
 let Nd:Ev→Prop:=fun α1=>∀(j:Nat) a,α1[j]?=some (some a)→(∃d,a=.dat d)∨a=.tape
 have no0:Nd (yx imp α):=fun j a z=>by
  obtain⟨_,_,_,n⟩:=rV z
  exact n
 have owc:∀{α1:Ev} {τ:St} {x:Addr},Nd α1→(Ow Fc α1 τ x↔Fc.O0 x):=fun {α1 τ x} hh=>⟨fun z=>z.elim id fun⟨j,a,s,e1,e2,f⟩=>by
  rcases hh j a e1 with ⟨d,rfl⟩|rfl
  ·exact f.elim
  ·exact f.elim,.inl⟩
 have gz:∀{α1 α2:Ev} {τ1 τ2:St} {H:Hp},Nd α1→Nd α2→zr (Gz Fc α1 τ1 H) (Gz Fc α2 τ2 H):=fun h1 h2=>zo fun a o h e=>⟨fun z=>h ((owc h1).mpr ((owc h2).mp z)),e⟩
 have tpc:∀{H2:Hp},zB F H2→zB Fc H2:=fun t=>t.to rfl fun x z=>.inl (.inl z)
 have s01:zr H1 (upd H1 acc (.lst [])):=yg hacc
 have mc0:M Fc (yx imp α) (xx imp σ) (upd H1 acc (.lst [])):=by
  have g1:zr (Gz F α σ H1) (Gz Fc (yx imp α) (xx imp σ) (upd H1 acc (.lst []))):=fun a o e=>by
   obtain⟨z1,z2⟩:=zf e
   have na:a≠acc:=zh z2 hacc
   exact zQ (fun z=>((owc no0).mp z).elim z1 na) (by rw[zj na];exact z2)
  refine⟨by unfold yx xx;rw[ax,ax],fun i a s e1 e2=>?_,fun i j a b s t x e1 e2 _ _ f=>?_,fun i r q e=>(by rcases no0 i _ e with ⟨d,w⟩|w<;>cases w),tpc (t1.same s01),fun x o e _=>s01 x o e,?_⟩
  ·obtain⟨j,w1,w2,w3⟩:=rV e1
   rcases w3 with ⟨d,rfl⟩|rfl
   ·obtain⟨v,g2,g3⟩:=m1.dat j d w2
    rw[qi w1 g2] at e2;cases e2
    exact⟨v,rfl,g3.same g1⟩
   ·obtain⟨t,b,c,g2,g3⟩:=m1.tvar j w2
    rw[qi w1 g3] at e2;cases e2
    exact⟨t,b,c,g2,rfl⟩
  ·rcases no0 i a e1 with ⟨d,rfl⟩|rfl
   ·exact f.elim
   ·exact f.elim
  ·rintro x (z|z)
   ·have:∃o,H1 x=some o∧xK o:=m1.owEx z
    obtain⟨o,ho,hn⟩:=this
    exact⟨o,s01 _ _ ho,hn⟩
   ·exact⟨_,by rw[z];exact zl,yF⟩
 refine⟨fun i n ys τ H2=>n=ds.length-i∧i≤ds.length∧∃ad:List PyData,M Fc (yx imp α) τ H2∧H2 acc=some (.lst ys)∧AVs (Gz Fc (yx imp α) τ H2) ys ad∧ad.length≤i∧yw (fun C s2 H2 fp=>X.comp N scope C s2 H2 fp) pat ifs elt (yx imp α) (ds.drop i) ad Q,
  ⟨ds.length,by simp,aT _,[],mc0,zl,.nil,aC _,q1⟩,?_⟩
 rintro i n ys τ H2 ⟨rfl,hi,ad,m2,ha,av,had,cw⟩
 have sG:zr (Gz F α σ H1) (Gz Fc (yx imp α) τ H2):=fun a o e=>by
  obtain⟨z1,z2⟩:=zf e
  exact m2.old a o (zQ (p:=fun x=>¬Fc.O0 x) (fun z=>z.elim z1 (zh z2 hacc)) z2)
 obtain⟨w1,w2⟩:=itw i H2 _ sG
 by_cases hlt:i<ds.length
 ·have hd:ds[i]?=some ds[i]:=za4 hlt
  have hdr:ds.drop i=ds[i]::ds.drop (i+1):=zc9 hlt
  rw[hdr] at cw
  obtain⟨α1,eb,body⟩:=cw
  obtain⟨go,yl⟩:=w1 _ hd
  have no1:Nd α1:=fun j a z=>by
   obtain⟨is,ds',_,e⟩:=Pat.is_ok eb
   by_cases hn:∀d,a≠.dat d
   ·exact no0 j a (uL e z hn)
   ·simp only[Classical.not_forall,Classical.not_not] at hn
    exact .inl hn
  refine .inr ⟨go,fun ys' τ' H'=>∃ad:List PyData,M Fc (yx imp α) τ' H'∧H' acc=some (.lst ys')∧AVs (Gz Fc (yx imp α) τ' H') ys' ad∧ad.length≤i+1∧yw (fun C s2 H2 fp=>X.comp N scope C s2 H2 fp) pat ifs elt (yx imp α) (ds.drop (i+1)) ad Q,
   fun ys' τ' H' ⟨ad',r1,r2,r3,r4,r5⟩=>⟨ds.length-(i+1),by omega,rfl,hlt,ad',r1,r2,r3,r4,r5⟩,fun x H3 y=>?_⟩
  obtain⟨s23,avx⟩:=yl x H3 y
  have m3:M Fc (yx imp α) τ H3:=m2.kz (Kz.of_same s23) (m2.tp.same s23)
  have avx':=avx fun a o _ e=>m2.fresh e
  refine sV eb m3 avx' fun τ1 m4 C s2 H2' fp=>?_
  refine body C s2 H2' fp Fc τ1 H3 _ m4 fun b H5 qb t5 k5=>?_
  have m5:=m4.kz k5 t5
  have av5:AVs (Gz Fc (yx imp α) τ1 H5) ys ad:=av.same ((Kz.of_same s23).gz m2.tp |>.trans ((gz (τ2:=τ1) no0 no1).trans ((k5.gz m4.tp).trans (gz no1 no0))))
  have accN:NT Fc acc:=⟨fun t b c e=>by
   have:=(t1 t b c e).1.free hacc
   exact⟨this.1,this.2.1⟩,rn t1.tab hacc⟩
  have ha5:H5 acc=some (.lst ys):=k5 _ _ (s23 _ _ ha) accN
  cases b with
  |false=>
   have qb':yw (fun C s2 H2 fp=>X.comp N scope C s2 H2 fp) pat ifs elt (yx imp α) (ds.drop (i+1)) ad Q:=by simpa using qb
   exact vM ⟨ad,Pat.back eb hfree m5,ha5,av5,by omega,qb'⟩
  |true=>
   refine vw fun C s2 H2'' fp=>?_
   have qe:EvD (X.comp N scope C s2 H2'' fp) α1 elt fun y=>yw (fun C s2 H2 fp=>X.comp N scope C s2 H2 fp) pat ifs elt (yx imp α) (ds.drop (i+1)) (ad++[y]) Q:=by
    have z:=qb
    rw[if_pos rfl] at z
    exact z C s2 H2'' fp
   refine qe Fc τ1 H5 _ m5 fun y v H6 qy t6 k6 r6=>?_
   have m6:=m5.kz k6 t6
   have ha6:H6 acc=some (.lst ys):=k6 _ _ ha5 accN
   have hlen:ys.length≤i:=by rw[av.length];exact had
   have oacc:Fc.O0 acc:=.inr rfl
   have tacc:∀t b c,Fc.tp=some (t,b,c)→acc≠t∧acc≠b∧acc≠c:=fun t b c e=>(t1 t b c e).1.free hacc
   have m7:=(Pat.back eb hfree m6).wr (o:=.lst (ys++[v])) yF oacc tacc hacc (vo ha6) (fun i r q z=>by rcases no0 i _ z with ⟨d,w⟩|w<;>cases w)
   refine⟨ha6,xu (by omega),ad++[y],m7,zl,?_,by simp;omega,qy⟩
   have g67:zr (Gz Fc (yx imp α) τ1 H6) (Gz Fc (yx imp α) τ1 (upd H6 acc (.lst (ys++[v])))):=zo fun a o h e=>⟨h,by rw[zj (fun z=>h (.inl (by rw[z];exact oacc)))];exact e⟩
   exact ((av5.same ((gz (τ2:=τ1) no0 no1).trans ((k6.gz m5.tp).trans (gz no1 no0)))).append (.cons (r6.same (gz no1 no0)) .nil)).same g67
 ·have e:i=ds.length:=by omega
  subst e
  rw[zf5] at cw
  refine .inl ⟨w2 (aC _),k ad _ H2 cw ?_ (k1.trans m2.keep) (yA.back m k1 t1 ⟨acc,ys,rfl,hacc,ha,av.same (zo fun a o h e=>⟨⟨fun z=>h (.inl (.inl z)),fun z=>h (.inl (.inr z))⟩,e⟩)⟩)⟩
  exact m.tp.re m2.tp rfl
theorem fh {N:List Str}{imp:List (Option Nat)}{scope:Scope}{tg iter elt:Expr}{ifs:List Expr}{pat:Pat}{Q:List PyData→Prop}{pos:Pos}(hc:X.calm=true)(S:zN X.N X.env.scope N imp scope)(hfree:pat.free (yx imp α)=true)
  (hg:∀C s2 H2 fp,PG (X.comp N scope C s2 H2 fp) tg (rA X.K pat))
  (h:EvI X α tg iter fun ds=>ds.length≤1000∧yw (fun C s2 H2 fp=>X.comp N scope C s2 H2 fp) pat ifs elt (yx imp α) ds [] Q) (hs:∀x,foldedSetIterable iter X.env x=pure x:=by intro _;rfl):
  EvL X α (.ListComp elt [⟨tg,iter,ifs,0⟩] scope pos) Q:=fun F σ H R m k=>by
 obtain⟨Y,rfl,h⟩:=pT hfree h F σ H R m k
 exact⟨_,cR hc S sj hg (fun C s2 H2 fp pins s σ H Q I h=>oI pins s σ H Q I (h C s2 H2 fp)) (fun C s2 H2 fp pins s σ H Q I h=>zd pins s σ H Q I (h C s2 H2 fp)) hs,h⟩
section
variable {E:yd}{rest body:List Stmt}{e c tg iter:Expr}{pos p:Pos}
theorem rS.then {F:Fr}{D:Ends}(h:rS F E D):rS F {E with nx:=fun α'=>SvS X α' rest E} {D with nx:=gL X rest D}:=
 ⟨fun α' σ' H' m q=>q F σ' H' D m h,h.rt,h.bk,h.ct⟩
theorem zC (q:E.nx α):SvS X α [] E:=fun F σ H D m h=>⟨_,ym,h.nx _ _ _ m q⟩
theorem SvS.imp {sts:List Stmt}{E':yd}(h:SvS X α sts E')(hn:∀α,E'.nx α→E.nx α)(hr:∀a,E'.rt a→E.rt a)(hb:∀α,E'.bk α→E.bk α)(hc:∀α,E'.ct α→E.ct α):SvS X α sts E:=fun F σ H D m r=>
 h F σ H D m ⟨fun α σ H m q=>r.nx α σ H m (hn _ q),fun a v H m q=>r.rt a v H m (hr _ q),fun α σ H m q=>r.bk α σ H m (hb _ q),fun α σ H m q=>r.ct α σ H m (hc _ q)⟩
theorem yb (i:Nat){x:Str}{pos':Pos}(hN:X.N.Nodup)(h:EvD X α e fun d=>SvS X (α.set i (some (.dat d))) rest E)(hi:X.N[i]?=some x:=by rfl)(hx:Loc X.env.scope x:=by first|exact Or.inl rfl|exact Or.inr rfl)
  (hs:swapsWith e (some (.Name x pos')) pos.line X.env=pure false:=by rfl) (hf:X.fn x=true∨X.env.scope.names.lookup x=some .local:=by first|exact .inl rfl|exact .inr rfl|assumption):SvS X α (.Assign [.Name x pos'] e pos::rest) E:=fun F σ H D m r=>by
 refine⟨_,zG (uD hN hi hx zd hs hf) zT,?_⟩
 exact h F σ H _ m fun d v H1 q1 t1 k1 r1=>q1 F _ H1 D ((m.kz k1 t1).set r1) r
theorem wo (i:Nat){x:Str}{pos':Pos}(hN:X.N.Nodup)(h:EvL X α e fun ds=>SvS X (α.set i (some (.own ds))) rest E)(hi:X.N[i]?=some x:=by rfl)(hx:Loc X.env.scope x:=by first|exact Or.inl rfl|exact Or.inr rfl)
  (hs:swapsWith e (some (.Name x pos')) pos.line X.env=pure false:=by rfl) (hf:X.fn x=true∨X.env.scope.names.lookup x=some .local:=by first|exact .inl rfl|exact .inr rfl|assumption):SvS X α (.Assign [.Name x pos'] e pos::rest) E:=fun F σ H D m r=>by
 refine⟨_,zG (uD hN hi hx zd hs hf) zT,?_⟩
 exact h F σ H _ m fun d v H1 q1 t1 k1 r1=>q1 F _ H1 D (m.setOwn t1 k1 r1) r
theorem bo (i:Nat){x:Str}{pos' cpos:Pos}{N:List Str}{imp:List (Option Nat)}{scope:Scope}{elt:Expr}{ifs:List Expr}{pat:Pat}(hN:X.N.Nodup)(hc:X.calm=true)(S:zN X.N X.env.scope N imp scope)(hfree:pat.free (yx imp α)=true)
  (hg:∀C s2 H2 fp,PG (X.comp N scope C s2 H2 fp) tg (rA X.K pat))
  (h:EvI X α tg iter fun ds=>ds.length≤1000∧yw (fun C s2 H2 fp=>X.comp N scope C s2 H2 fp) pat ifs elt (yx imp α) ds [] fun ds=>SvS X (α.set i (some (.own ds))) rest E)
  (hi:X.N[i]?=some x:=by rfl) (hx:Loc X.env.scope x:=by first|exact Or.inl rfl|exact Or.inr rfl) (hsw:swapsWith (.ListComp elt [⟨tg,iter,ifs,0⟩] scope cpos) (some (.Name x pos')) pos.line X.env=pure true:=by rfl)
  (hf:X.fn x=true∨X.env.scope.names.lookup x=some .local:=by first|exact .inl rfl|exact .inr rfl|assumption) (hs:∀x,foldedSetIterable iter X.env x=pure x:=by intro _;rfl):
  SvS X α (.Assign [.Name x pos'] (.ListComp elt [⟨tg,iter,ifs,0⟩] scope cpos) pos::rest) E:=fun F σ H D m r=>by
 obtain⟨Y,rfl,h⟩:=pT hfree h F σ H (fun v H'=>gL X rest D (σ.set i (some v)) H') m fun ds v H' q t k fl=>q F _ H' D (m.setOwn t k fl) r
 exact⟨_,zG (kg hc S sj hg (fun C s2 H2 fp pins s σ H Q I h=>oI pins s σ H Q I (h C s2 H2 fp)) (fun C s2 H2 fp pins s σ H Q I h=>zd pins s σ H Q I (h C s2 H2 fp)) hN hi hx hsw hf hs) zT,h⟩
theorem xP.dat {F:Fr}{σ:St}{H:Hp}{v:V}{d:PyData}(m:M F α σ H)(r:AV (Gz F α σ H) v d):xP F v H (.dat d):=
 ⟨m.tp,m.keep,r.same (zo fun a o h e=>⟨ow0 h,e⟩)⟩
theorem yn (h:EvD X α e fun d=>E.rt (.dat d)):SvS X α (.Return (some e) pos::rest) E:=fun F σ H D m r=>by
 refine⟨_,zG (zu zd) zT,?_⟩
 exact h F σ H _ m fun d v H1 q1 t1 k1 r1=>r.rt _ _ _ (xP.dat (m.kz k1 t1) r1) q1
theorem tM (h:EvL X α e fun ds=>E.rt (.own ds)):SvS X α (.Return (some e) pos::rest) E:=fun F σ H D m r=>by
 refine⟨_,zG (zu zd) zT,?_⟩
 refine h F σ H _ m fun d v H1 q1 t1 k1 r1=>r.rt _ _ _ ?_ q1
 obtain⟨l,xs,h1,h2,h3,h4⟩:=r1
 exact⟨t1,m.keep.trans k1,l,xs,_,h1,rfl,m.fresh0 h2,ow0 (m.fresh h2),h3,h4.same (zo fun a o h e=>⟨⟨ow0 h.1,h.2⟩,e⟩)⟩
theorem oR (i:Nat){x:Str}{ds:List PyData}(hi:α[i]?=some (some (.own ds)))(q:E.rt (.own ds))(hN:X.N[i]?=some x:=by rfl)(hv:Vis X.env.scope x:=by first|exact Or.inl rfl|exact Or.inr (Or.inl rfl)|exact Or.inr (Or.inr rfl))
  (hd:(x == ("__debug__":Str))=false:=by decide) (hcd:(x == ("__classdict__":Str))=false:=by decide):SvS X α (.Return (some (.Name x p)) pos::rest) E:=fun F σ H D m r=>by
 obtain⟨l,xs,h1,h2,h3,h4,h5⟩:=m.own i ds hi
 refine⟨_,zG (zu (yZ hN hv hd hcd)) zT,.ref l,h1,r.rt (.own ds) _ _ ⟨m.tp,m.keep,l,xs,_,rfl,rfl,h5,h4,h2,h3.same (zo fun a o h e=>⟨⟨ow0 h,fun z=>h (by rw[z];exact .inr ⟨i,_,_,hi,h1,rfl⟩)⟩,e⟩)⟩ q⟩
theorem yM {a b:List Stmt}(h:EvT X α c fun k=>SvS X α (if k=true then a else b) {E with nx:=fun α'=>SvS X α' rest E}):SvS X α (.If c a b pos::rest) E:=fun F σ H D m r=>by
 refine⟨_,zG (xq xG zT zT) zT,?_⟩
 refine h F σ H _ m fun k H1 q1 t1 k1=>?_
 cases k with
 |true=>exact vw ((by simpa using q1:SvS X α a _) F σ H1 _ (m.kz k1 t1) r.then)
 |false=>exact vM ((by simpa using q1:SvS X α b _) F σ H1 _ (m.kz k1 t1) r.then)
theorem sx (i:Nat){ds:List PyData}{sts:List Stmt}(hi:α[i]?=some (some (.own ds)))(h:SvS X (α.set i (some (.dat (.list ds)))) sts E):SvS X α sts E:=fun F σ H D m r=>h F σ H D (m.frz hi) r
theorem M.wrC {F:Fr}{σ:St}{H:Hp}{i:Nat}{c c':PyData}{l:Addr}{o':HO}(m:M F α σ H)(hi:α[i]?=some (some (.ow c)))(hl:σ[i]?=some (some (.ref l)))(av:yJ (Gz F α σ H) o' c'):
  M F (α.set i (some (.ow c'))) σ (upd H l o'):=by
 obtain⟨l',o,h1,h2,h3,h4,h5⟩:=m.owc i c hi
 rw[hl] at h1;cases h1
 have hs:∀{j:Nat} {a:A} {s:Option V},(α.set i (some (.ow c')))[j]?=some (some a)→σ[j]?=some s→(i=j∧a=.ow c'∧s=some (.ref l))∨(i≠j∧α[j]?=some (some a)):=fun {j a s} e1 e2=>by
  rcases zF e1 with ⟨rfl,z⟩|⟨hj,e1'⟩
  ·cases z;rw[hl] at e2;cases e2;exact .inl ⟨rfl,rfl,rfl⟩
  ·exact .inr ⟨hj,e1'⟩
 have oww:∀{y:Addr},Ow F (α.set i (some (.ow c'))) σ y→Ow F α σ y:=fun {y} h=>by
  rcases h with z|⟨j,a,s,e1,e2,f⟩
  ·exact .inl z
  ·rcases hs e1 e2 with ⟨rfl,rfl,rfl⟩|⟨hj,e1'⟩
   ·exact .inr ⟨i,_,_,hi,hl,f⟩
   ·exact .inr ⟨j,a,s,e1',e2,f⟩
 have ol:Ow F α σ l:=.inr ⟨i,_,_,hi,hl,rfl⟩
 have gs:zr (Gz F α σ H) (Gz F (α.set i (some (.ow c'))) σ (upd H l o')):=zo fun a o h e=>⟨fun z=>h (oww z),by rw[zj (fun z=>h (by rw[z];exact ol))];exact e⟩
 refine⟨by rw[za6];exact m.len,fun j a s e1 e2=>?_,fun j j' a b s t x e1 e2 q1 q2 f1 f2=>?_,fun j r q e j' a s x e1 e2 f=>?_,m.tp.updO h4 (h3.plain h2),fun y o e n=>?_,fun y hy=>?_⟩
 ·rcases hs e1 e2 with ⟨rfl,rfl,rfl⟩|⟨hj,e1'⟩
  ·exact⟨l,o',rfl,zl,av.same gs,h4,h5⟩
  ·refine (m.ok j a s e1' e2).stay gs (fun y u f e=>?_) rfl fun r q ea k=>⟨k.tp,k.o,k.ok.updO (fun z=>h4 (k.o _ z)) (h3.plain h2),fun y u e n=>?_⟩
   ·obtain⟨w1,w2,_⟩:=m.ft e1' e2 f
    refine⟨?_,w1,w2⟩
    rw[zj fun z=>hj (m.dj i j _ a _ s l hi e1' hl e2 rfl (by rw[←z];exact f))]
    exact e
   ·rw[zj (zh e (m.xd j r q (by rw[←ea];exact e1') i _ _ l hi hl rfl))];exact k.k y u e n
 ·rcases hs e1 q1 with ⟨rfl,rfl,rfl⟩|⟨hj,e1'⟩
  ·rcases hs e2 q2 with ⟨rfl,_⟩|⟨hj',e2'⟩
   ·rfl
   ·exact m.dj i j' _ b _ t x hi e2' hl q2 f1 f2
  ·rcases hs e2 q2 with ⟨rfl,rfl,rfl⟩|⟨hj',e2'⟩
   ·exact m.dj j i a _ s _ x e1' hi q1 hl f1 f2
   ·exact m.dj j j' a b s t x e1' e2' q1 q2 f1 f2
 ·rcases zF e with ⟨_,z⟩|⟨_,e'⟩
  ·cases z
  ·rcases hs e1 e2 with ⟨rfl,rfl,rfl⟩|⟨_,e1'⟩
   ·exact m.xd j r q e' i _ _ x hi hl f
   ·exact m.xd j r q e' j' a s x e1' e2 f
 ·rw[zj (zh e h5)];exact m.keep y o e n
 ·rw[zj (fun z=>h4 (by rw[←z];exact hy))];exact m.oex y hy
theorem M.wrOwn {F:Fr}{σ:St}{H:Hp}{i:Nat}{ds es:List PyData}{l:Addr}{ys:List V}(m:M F α σ H)(hi:α[i]?=some (some (.own ds)))(hl:σ[i]?=some (some (.ref l)))(av:AVs (Gz F α σ H) ys es):
  M F (α.set i (some (.own es))) σ (upd H l (.lst ys)):=m.wrC hi hl (.lst av)
theorem xr (i:Nat){x:Str}{ds:List PyData}{p1 p2 p3:Pos}(hi:α[i]?=some (some (.own ds)))(h:EvD X α e fun d=>ds.length<1000∧SvS X (α.set i (some (.own (ds++[d])))) rest E)
  (hN:X.N[i]?=some x:=by rfl) (hv:Vis X.env.scope x:=by first|exact Or.inl rfl|exact Or.inr (Or.inl rfl)|exact Or.inr (Or.inr rfl)) (hd:(x == ("__debug__":Str))=false:=by decide) (hcd:(x == ("__classdict__":Str))=false:=by decide)
  (hbase:attributeBase (.Name x p1) "append" X.env (eval (.Name x p1) X.env)=eval (.Name x p1) X.env:=by rfl) (hs:starEach [e] X.env=(false,eval e X.env)::starEach [] X.env:=by rfl)
  (hpl:((((backTo p3 (starEach [e] X.env)).all fun x=>!x.fst)&&(backToKw p3 (keywordEach [] X.env)).all fun x=>x.fst.isSome)&&decide (([e].length+([]:List Keyword).length+if ([]:List Keyword).isEmpty=true then 0 else 1)<30))=true:=by rfl)
  (hline:(p2.endLine == p3.line)=true:=by rfl) (hsw:swapsWith (.Call (.Attribute (.Name x p1) "append" p2) [e] [] p3) none pos.line X.env=pure false:=by rfl):SvS X α (.Expr (.Call (.Attribute (.Name x p1) "append" p2) [e] [] p3) pos::rest) E:=fun F σ H D m r=>by
 obtain⟨l,xs,h1,h2,h3,h4,h5⟩:=m.own i ds hi
 refine⟨_,zG (ou (oS PySem.F.plainAttrs_list PySem.F.slot_list_append PySem.F.type_list_append vz (yZ hN hv hd hcd) (zc zd zm hs) hbase hpl hline hs) hsw) zT,?_⟩
 refine⟨.ref l,h1,.inl ⟨rfl,_,SqL.of h2⟩,?_⟩
 refine h F σ H _ m fun d v H1 q1 t1 k1 r1=>?_
 have m1:=m.kz k1 t1
 refine⟨l,xs,v,rfl,rfl,k1 _ _ h2 (m.tp.nt h4),by rw[h3.length];exact xu (zd1 q1.1),?_⟩
 exact q1.2 F σ _ D (m1.wrOwn hi h1 ((h3.same (k1.gz m.tp)).append (.cons r1 .nil))) r
theorem ek (i:Nat){x:Str}{ix:Expr}{ds:List PyData}{p1 p2:Pos}(hi:α[i]?=some (some (.own ds)))(h:EvD X α e fun d=>EvD X α ix fun y=>∃k j,y=.int k∧ixN ds.length k=some j∧SvS X (α.set i (some (.own (ds.set j d)))) rest E)
  (hN:X.N[i]?=some x:=by rfl) (hv:Vis X.env.scope x:=by first|exact Or.inl rfl|exact Or.inr (Or.inl rfl)|exact Or.inr (Or.inr rfl)) (hd:(x == ("__debug__":Str))=false:=by decide) (hcd:(x == ("__classdict__":Str))=false:=by decide)
  (hs:swapsWithSole [.Subscript (.Name x p1) ix p2] e pos.line X.env=pure false:=by rfl) (hw:swappedStores [.Subscript (.Name x p1) ix p2] e X.env=pure none:=by rfl)
  (ha:(assignEach [.Subscript (.Name x p1) ix p2] X.env).map (·.2)=[assign (.Subscript (.Name x p1) ix p2) X.env]:=by rfl) (hps:PG X (.Subscript (.Name x p1) ix p2) (cu (dq i) (vO X ix) fu):=by exact qN (yZ rfl (by first|exact Or.inl rfl|exact Or.inr (Or.inl rfl)|exact Or.inr (Or.inr rfl))) zd set_list):
  SvS X α (.Assign [.Subscript (.Name x p1) ix p2] e pos::rest) E:=fun F σ H D m r=>by
 obtain⟨l,xs,h1,h2,h3,h4,h5⟩:=m.own i ds hi
 refine⟨_,zG (sJ zd hps hs hw ha) zT,?_⟩
 refine h F σ H _ m fun d v H1 q1 t1 k1 r1=>?_
 have m1:=m.kz k1 t1
 refine⟨.ref l,h1,?_⟩
 refine q1 F σ H1 _ m1 fun y vy H2 q2 t2 k2 r2=>?_
 have m2:=m1.kz k2 t2
 obtain⟨k,j,rfl,hj,q⟩:=q2
 cases r2.int_inv
 refine⟨l,xs,k,j,rfl,rfl,k2 _ _ (k1 _ _ h2 (m.tp.nt h4)) (m.tp.nt h4),by rw[h3.length];exact hj,?_⟩
 exact q F σ _ D (m2.wrOwn hi h1 (((h3.same (k1.gz m.tp)).same (k2.gz m1.tp)).set (r1.same (k2.gz m1.tp)) j)) r
def uF (X:Cx)(pat:Pat)(body rest:List Stmt)(E:yd):List PyData→Ev→Prop
 |[],α=>SvS X α rest E
 |d::ds,α=>∃α1,pat.bind d α=some α1∧SvS X α1 body {nx:=uF X pat body rest E ds,ct:=uF X pat body rest E ds,bk:=fun α'=>SvS X α' rest E,rt:=E.rt}
theorem sI {pat:Pat}(hp:PassesOwn (model X.prog X.w) X.A X.env X.xe)(hc:X.calm=true)(hg:PG X tg (rA X.K pat))(h:EvI X α tg iter fun ds=>uF X pat body rest E ds α)
  (hs:∀x,foldedSetIterable iter X.env x=pure x:=by intro _;rfl):SvS X α (.For tg iter body [] pos::rest) E:=fun F σ H D m r=>by
 refine⟨_,zG (eX hp hc sj hg zT hs) zT,?_⟩
 refine h F σ H _ m fun ds J H1 q1 t1 k1 itw=>?_
 have m1:=m.kz k1 t1
 have mu:=m1.up
 have ru:rS (F.up (Gz F α σ H1)) E D:=r.up
 refine⟨fun i n σ' H'=>n=ds.length-i∧i≤ds.length∧∃α',M (F.up (Gz F α σ H1)) α' σ' H'∧uF X pat body rest E (ds.drop i) α',⟨ds.length,by simp,aT _,α,mu,q1⟩,?_⟩
 rintro i n σ' H' ⟨rfl,hi,α',m',lw⟩
 obtain⟨w1,w2⟩:=itw i H' _ (m1.upold m')
 by_cases hlt:i<ds.length
 ·have hd:ds[i]?=some ds[i]:=za4 hlt
  rw[zc9 hlt] at lw
  obtain⟨α1,eb,body⟩:=lw
  obtain⟨go,yl⟩:=w1 _ hd
  refine .inr ⟨go,fun σ'' H''=>∃α',M (F.up (Gz F α σ H1)) α' σ'' H''∧uF X pat _ rest E (ds.drop (i+1)) α',fun σ'' H'' ⟨α'',r1,r2⟩=>⟨ds.length-(i+1),by omega,rfl,hlt,α'',r1,r2⟩,fun x H3 y=>?_⟩
  obtain⟨s23,avx⟩:=yl x H3 y
  have m3:=m'.kz (Kz.of_same s23) (m'.tp.same s23)
  refine sV eb m3 (avx fun a o _ e=>m'.fresh e) fun σ1 m4=>?_
  exact body _ σ1 H3 _ m4 ⟨fun α2 σ2 H2 m2 q=>⟨α2,m2,q⟩,ru.rt,fun α2 σ2 H2 m2 q=>q _ σ2 H2 D m2 ru,fun α2 σ2 H2 m2 q=>⟨α2,m2,q⟩⟩
 ·have e:i=ds.length:=by omega
  subst e
  rw[zf5] at lw
  exact .inl ⟨w2 (aC _),lw _ σ' H' D m' ru⟩
theorem va {pat:Pat}{ds:List PyData}(P:Nat→Ev→Prop)(h0:P 0 α)(hs:∀i d α,ds[i]?=some d→P i α→∃α1,pat.bind d α=some α1∧SvS X α1 body {nx:=P (i+1),ct:=P (i+1),bk:=fun α'=>SvS X α' rest E,rt:=E.rt})
  (hd:∀α,P ds.length α→SvS X α rest E):uF X pat body rest E ds α:=by
 have key:∀n i α,n=ds.length-i→i≤ds.length→P i α→uF X pat body rest E (ds.drop i) α:=by
  intro n
  induction n with
  |zero=>
   intro i α hn hi p
   have e:i=ds.length:=by omega
   subst e
   rw[zf5]
   exact hd α p
  |succ n ih=>
   intro i α hn hi p
   have hlt:i<ds.length:=by omega
   rw[zc9 hlt]
   obtain⟨α1,e,b⟩:=hs i ds[i] α (za4 hlt) p
   exact⟨α1,e,b.imp (fun α p=>ih (i+1) α (by omega) hlt p) (fun _ z=>z) (fun _ z=>z) (fun α p=>ih (i+1) α (by omega) hlt p)⟩
 exact key _ 0 α rfl (aT _) h0
end
end
section
variable {P:Program}{w:World}{K:PySem.W.Frag}{mg:Str→Option Value}{base:Heap}
theorem M.start {F:Fr}{N:List Str}{vs:List V}{as:List A}{H:Hp}(e:F.H0=H)(t:zB F H)(o:∀x,F.O0 x→∃u,H x=some u∧xK u)(rv:zR F (sub (fun x=>¬F.O0 x) H) vs as):
  M F (as.map some++List.replicate (N.length-as.length) none) (L2.start N vs) H:=by
 have hl:=rv.length
 have g:∀{i:Nat} {a:A},(as.map some++List.replicate (N.length-as.length) none)[i]?=some (some a)→as[i]?=some a:=fun {i a} h=>by
  rcases Nat.lt_or_ge i as.length with z|z
  ·rw[zc1 (by rw[ax];exact z),aU,za3] at h
   obtain⟨b,h1,h2⟩:=h
   cases h2;exact h1
  ·rw[zc7 (by rw[ax];exact z),zd2] at h
   split at h<;>cases h
 have at':∀{vs:List V} {as:List A} {i:Nat} {a:A},zR F (sub (fun x=>¬F.O0 x) H) vs as→as[i]?=some a→∃v,vs[i]?=some v∧nY F (sub (fun x=>¬F.O0 x) H) v a:=by
  intro vs as i a h
  induction h generalizing i with
  |nil=>intro e;simp at e
  |cons h r ih=>
   intro e
   cases i with
   |zero=>simp at e;subst e;exact⟨_,rfl,h⟩
   |succ i=>obtain⟨v,h1,h2⟩:=ih (by simpa using e);exact⟨v,by simpa using h1,h2⟩
 have gv:∀{i:Nat} {v:V},vs[i]?=some v→(L2.start N vs)[i]?=some (some v):=fun {i v} h=>by
  have hi:i<vs.length:=(aH.mp h).1
  unfold L2.start
  rw[zc1 (by rw[ax];exact hi),aU,h];rfl
 have no:∀(i:Nat) a,(as.map some++List.replicate (N.length-as.length) none)[i]?=some (some a)→(∃d,a=.dat d)∨a=.tape:=fun i a z=>by
  obtain⟨v,_,h⟩:=at' rv (g z)
  cases a with
  |dat d=>exact .inl ⟨d,rfl⟩
  |tape=>exact .inr rfl
  |_=>exact h.elim
 have gs:zr (sub (fun x=>¬F.O0 x) H) (Gz F (as.map some++List.replicate (N.length-as.length) none) (L2.start N vs) H):=zo fun a o h e=>⟨fun z=>z.elim h fun⟨i,b,s,e1,_,f⟩=>by
  rcases no i b e1 with ⟨d,rfl⟩|rfl
  ·exact f.elim
  ·exact f.elim,e⟩
 refine⟨by unfold L2.start;simp[hl],fun i a s e1 e2=>?_,fun i j a b s t x e1 _ _ _ f=>?_,fun i r q z=>(by rcases no i _ z with ⟨d,w⟩|w<;>cases w),t,fun x o' h _=>by rw[←e];exact h,o⟩
 ·obtain⟨v,h1,h2⟩:=at' rv (g e1)
  rw[gv h1] at e2;cases e2
  rcases no i a e1 with ⟨d,rfl⟩|rfl
  ·exact⟨v,rfl,AV.same gs h2⟩
  ·obtain⟨t',b,c,h3,rfl⟩:=h2
   exact⟨t',b,c,h3,rfl⟩
 ·rcases no i a e1 with ⟨d,rfl⟩|rfl
  ·exact f.elim
  ·exact f.elim
theorem fnA {x qual:Str}{st:Stmt}{f:Addr}{fd:FuncData}{N ps:List Str}{k:Nat}{φ:List A→(A→Prop)→Prop}(G:Fun K x qual st f fd)(S:zi N ps (zb st))(hlen:∀as Q,φ as Q→as.length=ps.length)
  (hbody:∀(cdv:Value) (A':Around) (outer:List Env) (s:Shared) (H:Hp) (E:XK) (as:List A) (Q:A→Prop),zJ k (A'.deeper (envOfC qual (zb st) s.heap.objs.size f cdv))→φ as Q→
   SvS (vq CX0 P w K mg base N qual (zb st) f cdv A' outer s H E).nox (as.map some++List.replicate (N.length-as.length) none) (zA st) {nx:=fun _=>Q (.dat .none),rt:=Q}):zv P w K mg base CX0 (k+1) f fd ps (spA φ):=by
 refine G.ok S (fun vs H Q E h=>?_) (fun cdv A' outer s H vs Qc E hr h=>?_)
 ·obtain⟨F,as,Q',_,_,_,rv,hφ,_⟩:=h
  rw[rv.length,hlen as _ hφ]
 ·obtain⟨F,as,Q',e,t,o,rv,hφ,kk⟩:=h
  refine hbody cdv A' outer s H E as Q' hr hφ F _ H _ (M.start e t o rv) ⟨fun α σ H' m q=>?_,fun a v H' r q=>kk a v H' q r,fun _ _ _ _ z=>z.elim,fun _ _ _ _ z=>z.elim⟩
  exact kk _ _ _ q ⟨m.tp,m.keep,.non⟩
end
section
variable {X:Cx}{pins:List (Addr×Obj)}{σ:St}{H:Hp}{s:Shared}{h':Heap}
theorem Inv.turnL {t':Nat}{ch:List Addr}(I:Inv X pins σ H s)(k:∀b o,b∉ch→s.heap.get? b=some o→h'.get? b=some o)(hf:∀b∈ch,vk X pins H b):Inv X pins σ H {s with heap:=h',toks:=t'}:=by
 have nit:∀b u,H b=some u→b∉ch:=fun b u e z=>by rw[(hf b z).1] at e;cases e
 refine I.step (g':=s.gens) (d':=s.drawn) (ch:=ch) (fun b hb=>?_) (fun b o _ _ hc e _=>k b o hc e) (fun b o _ _ hc e _=>⟨o.slots,k b o hc e⟩) (fun _ _ _ _ n=>n)
  (fun b o hc e=>⟨o,k b o hc e⟩) (fun _ _ e=>e) (fun _ _ _ e=>e) (fun b ps e=>⟨#[],by rw[e];simp⟩) (fun m hm=>?_) (fun b u e=>?_) I.bare
 ·obtain⟨_,f1,_,f3,f4,f5⟩:=hf b hb
  exact⟨f3,f1,f4,f5⟩
 ·obtain⟨o,es,ep,ho,r⟩:=hm
  exact⟨o,es,ep,k _ o (fun z=>(hf _ z).2.1 rfl) ho,r⟩
 ·refine (I.hok b u e).stay (fun c v hc q=>k c v ?_ q) (fun _ q=>q) fun _ _ q=>q
  rcases hc with z|z
  ·rw[z];exact nit b u e
  ·exact nit c _ z
theorem Inv.turnLay {t':Nat}{ch:List Addr}{T:Addr}{o:HO}(I:Inv X pins σ H s)(k:∀b o,b∉ch→s.heap.get? b=some o→h'.get? b=some o)(hf:∀b∈ch,vk X pins H b)(hT:s.heap.objs.size≤T)(new:zW X.prog X.w (upd H T o) h' T o):
  Inv X pins σ (upd H T o) {s with heap:=h',toks:=t'}:=by
 have nit:∀b u,H b=some u→b∉ch:=fun b u e z=>by rw[(hf b z).1] at e;cases e
 have hn:H T=none:=I.hok.fresh hT
 have lt:∀{b:Addr} {u:Obj},s.heap.get? b=some u→b≠T:=fun e=>aX (aR (aF e) hT)
 refine I.step (g':=s.gens) (d':=s.drawn) (ch:=ch) (fun b hb=>?_) (fun b o _ _ hc e _=>k b o hc e) (fun b o _ _ hc e _=>⟨o.slots,k b o hc e⟩) (fun b u _ e n=>by rw[zj (lt e)];exact n)
  (fun b o hc e=>⟨o,k b o hc e⟩) (fun b xs e=>by rw[zj (zh e hn)];exact e) (fun b u xs e=>by rw[zj (zh e hn)];exact e) (fun b ps e=>⟨#[],by rw[zj (zh e hn),e];simp⟩) (fun m hm=>?_) (fun b u e=>?_) I.bare
 ·obtain⟨_,f1,_,f3,f4,f5⟩:=hf b hb
  exact⟨f3,f1,f4,f5⟩
 ·obtain⟨o,es,ep,ho,r⟩:=hm
  exact⟨o,es,ep,k _ o (fun z=>(hf _ z).2.1 rfl) ho,r⟩
 ·by_cases hb:b=T
  ·subst hb;rw[zl] at e;cases e;exact new
  ·rw[zj hb] at e
   refine (I.hok b u e).stay (fun c v hc q=>k c v ?_ q) (fun c q=>by rw[zj (zh q hn)];exact q) fun c xs q=>by rw[zj (zh q hn)];exact q
   rcases hc with z|z
   ·rw[z];exact nit b u e
   ·exact nit c _ z
end
theorem bB {a b:Nat}(h:b<a):(a:Addr)≠b:=Nat.ne_of_gt h
def Itz (K:PySem.W.Frag)(l1 l2:Addr):It:=
 ⟨fun i H=>∃xs ys x y,SqL K H l1 xs∧SqL K H l2 ys∧xs[i]?=some x∧ys[i]?=some y,
  fun i H v H'=>∃T x y,v=.ref T∧H T=none∧H'=upd H T (.tup [x,y])∧(∀xs,SqL K H l1 xs→xs[i]?=some x)∧∀ys,SqL K H l2 ys→ys[i]?=some y,
  fun i H=>∃xs ys,SqL K H l1 xs∧SqL K H l2 ys∧(xs.length≤i∨ys.length≤i)⟩
def Ite (K:PySem.W.Frag)(l:Addr):It:=
 ⟨fun i H=>∃xs x,SqL K H l xs∧xs[i]?=some x,
  fun i H v H'=>∃T x,v=.ref T∧H T=none∧H'=upd H T (.tup [.int i,x])∧∀xs,SqL K H l xs→xs[i]?=some x,
  fun i H=>∃xs,SqL K H l xs∧xs.length≤i⟩
theorem cA {P:Program}{w:World}{K:PySem.W.Frag}{elts:List Expr}{kk:Nat}{pos:Pos}{z TI TO i1 i2 l1 l2:Addr}(D:ZipApart z TI TO i1 i2 l1 l2):
  Turn P w K (.Tuple elts kk pos) (Itz K l1 l2) [z,TI,TO,i1,i2] z (fun i h=>IsZip h z TI TO .none∧IsPair h TI (.ref i1) (.ref i2)∧(∃a b,IsPair h TO a b)∧h.IsListIter i1 l1 i∧h.IsListIter i2 l2 i) where
 mem:=by simp
 obj:=fun i h st b hb=>by
  obtain⟨h1,h2,⟨a,c,h3⟩,⟨o1,e1,_,d1⟩,⟨o2,e2,_,d2⟩⟩:=st
  simp only[ay,aE,aZ] at hb
  rcases hb with rfl|rfl|rfl|rfl|rfl
  ·exact⟨_,h1,fun v z=>by cases (show Data.fields _=Data.cell v from z)⟩
  ·exact⟨_,h2,fun v z=>by cases (show Data.seq _ _=Data.cell v from z)⟩
  ·exact⟨_,h3,fun v z=>by cases (show Data.seq _ _=Data.cell v from z)⟩
  ·exact⟨o1,e1,fun v z=>by rw[d1] at z;cases z⟩
  ·exact⟨o2,e2,fun v z=>by rw[d2] at z;cases z⟩
 keep:=fun i h h' st k=>by
  obtain⟨h1,h2,⟨a,c,h3⟩,h4,h5⟩:=st
  exact⟨k z (by simp) _ h1,k TI (by simp) _ h2,⟨a,c,k TO (by simp) _ h3⟩,h4.at fun o e=>k i1 (by simp) o e,h5.at fun o e=>k i2 (by simp) o e⟩
 item:=by
  intro X hP hw hK hc i pins s σ H E I hf st hg
  subst hP hw hK
  obtain⟨xs,ys,x,y,hq1,hq2,hx,hy⟩:=hg
  obtain⟨its1,rv1,p1,hz1⟩:=I.list hq1
  obtain⟨its2,rv2,p2,hz2⟩:=I.list hq2
  obtain⟨u,hu,ru⟩:=rv1.get hx
  obtain⟨v,hv,rv⟩:=rv2.get hy
  obtain⟨h1,h2,⟨a,c,h3⟩,h4,h5⟩:=st
  refine wpAny_pyNext_zip_item D h1 h2 h3 h4 h5 p1.isList p2.isList (x:=u) (y:=v) (by simpa using hu) (by simpa using hv) fun h' a1 a2 a3 a4 a5 a6 hk=>⟨_,rfl,?_⟩
  refine wpAny_letOwnedTupleGo_zip (s:={s with heap:=h'}) a1 fun h'' b1 b2=>?_
  have hTz:s.heap.objs.size≠z:=Nat.ne_of_gt (aF h1)
  have hk2:∀b o,b∉[z,TI,TO,i1,i2]→s.heap.get? b=some o→h''.get? b=some o:=fun b o hb e=>by
   simp only[ay,aE,aZ,not_or] at hb
   exact b2.extBut _ _ hb.1 (hk b o hb.1 hb.2.2.1 hb.2.2.2.1 hb.2.2.2.2 e)
  have gT:h''.get? s.heap.objs.size=some {cls:=.type "tuple",data:=.seq #[u,v]}:=b2.extBut _ _ hTz a5
  have J:=I.turnLay (t':=s.toks) (T:=s.heap.objs.size) (o:=.tup [x,y]) hk2 hf (aC _) ⟨by show 2≤sizeLine;decide,[u,v],.cons ru (.cons rv .nil),_,gT,rfl,0,rfl⟩
  refine⟨.ref s.heap.objs.size,_,J,rfl,⟨_,x,y,rfl,I.hok.fresh (aC _),rfl,fun zs hz=>by rw[I.list_inj hz hq1];exact hx,fun zs hz=>by rw[I.list_inj hz hq2];exact hy⟩,⟨b1,b2.extBut _ _ D.TIz (hk _ _ D.TIz D.TITO D.TIi1 D.TIi2 h2),⟨u,v,b2.extBut _ _ D.TOz a2⟩,a3.extBut b2.extBut D.i1z,a4.extBut b2.extBut D.i2z⟩,fun b hb=>?_⟩
  rw[zj]
  ·exact (hf b hb).1
  ·obtain⟨o,e,_⟩:=(show ∃o,s.heap.get? b=some o∧True from by
    simp only[ay,aE,aZ] at hb
    obtain⟨o1,e1,_⟩:=h4
    obtain⟨o2,e2,_⟩:=h5
    rcases hb with rfl|rfl|rfl|rfl|rfl
    ·exact⟨_,h1,trivial⟩
    ·exact⟨_,h2,trivial⟩
    ·exact⟨_,h3,trivial⟩
    ·exact⟨_,e1,trivial⟩
    ·exact⟨_,e2,trivial⟩)
   exact aX (aF e)
 done:=by
  intro X hP hw hK hc i pins s σ H E I hf st hg
  subst hP hw hK
  obtain⟨xs,ys,hq1,hq2,hl⟩:=hg
  obtain⟨its1,rv1,p1,hz1⟩:=I.list hq1
  obtain⟨its2,rv2,p2,hz2⟩:=I.list hq2
  obtain⟨h1,h2,⟨a,c,h3⟩,h4,h5⟩:=st
  have e1:=rv1.length
  have e2:=rv2.length
  refine wpAny_pyNext_zip_end (I.ok.hd hc) D h1 h2 h3 h4 h5 p1.isList p2.isList (hl.imp (fun z=>by simp;omega) fun z=>by simp;omega) fun h' hk=>⟨rfl,?_⟩
  exact I.turnL (t':=s.toks) (ch:=[z,TI,TO,i1,i2]) (fun b o hb e=>by
   simp only[ay,aE,aZ,not_or] at hb
   exact hk b o hb.1 hb.2.2.1 hb.2.2.2.1 hb.2.2.2.2 e) hf
 self:=fun A i s Q E st h=>wpAny_pyIter_zip st.1 h
theorem nE {P:Program}{w:World}{K:PySem.W.Frag}{elts:List Expr}{kk:Nat}{pos:Pos}{e it l:Addr}(hne:e≠it):
  Turn P w K (.Tuple elts kk pos) (Ite K l) [e,it] e (fun i h=>(∃old,IsEnum h e it i old)∧h.IsListIter it l i) where
 mem:=by simp
 obj:=fun i h st b hb=>by
  obtain⟨⟨old,h1⟩,⟨o1,e1,_,d1⟩⟩:=st
  simp only[ay,aE,aZ] at hb
  rcases hb with rfl|rfl
  ·exact⟨_,h1,fun v z=>by cases (show Data.fields _=Data.cell v from z)⟩
  ·exact⟨o1,e1,fun v z=>by rw[d1] at z;cases z⟩
 keep:=fun i h h' st k=>by
  obtain⟨⟨old,h1⟩,h4⟩:=st
  exact⟨⟨old,k e (by simp) _ h1⟩,h4.at fun o q=>k it (by simp) o q⟩
 item:=by
  intro X hP hw hK hc i pins s σ H E I hf st hg
  subst hP hw hK
  obtain⟨xs,x,hq1,hx⟩:=hg
  obtain⟨its1,rv1,p1,hz1⟩:=I.list hq1
  obtain⟨u,hu,ru⟩:=rv1.get hx
  obtain⟨⟨old,h1⟩,h4⟩:=st
  refine wpAny_pyNext_enum_item h1 h4 p1.isList (x:=u) (by simpa using hu) hne fun h' a1 a3 a5 a6 hk=>⟨_,rfl,?_⟩
  refine wpAny_letOwnedTupleGo_enum (s:={s with heap:=h',toks:=s.toks+1}) a1 fun h'' b1 b2=>?_
  have hTz:s.heap.objs.size≠e:=Nat.ne_of_gt (aF h1)
  have hk2:∀b o,b∉[e,it]→s.heap.get? b=some o→h''.get? b=some o:=fun b o hb q=>by
   simp only[ay,aE,aZ,not_or] at hb
   exact b2.extBut _ _ hb.1 (hk b o hb.1 hb.2 q)
  have gT:h''.get? s.heap.objs.size=some {cls:=.type "tuple",data:=.seq #[.int i s.toks,u]}:=b2.extBut _ _ hTz a5
  have J:=I.turnLay (t':=s.toks+1) (T:=s.heap.objs.size) (o:=.tup [.int i,x]) hk2 hf (aC _) ⟨by show 2≤sizeLine;decide,[.int i s.toks,u],.cons ⟨_,rfl⟩ (.cons ru .nil),_,gT,rfl,0,rfl⟩
  refine⟨.ref s.heap.objs.size,_,J,rfl,⟨_,x,rfl,I.hok.fresh (aC _),rfl,fun zs hz=>by rw[I.list_inj hz hq1];exact hx⟩,⟨⟨u,by simpa using b1⟩,a3.extBut b2.extBut hne.symm⟩,fun b hb=>?_⟩
  rw[zj]
  ·exact (hf b hb).1
  ·obtain⟨o,q,_⟩:=(show ∃o,s.heap.get? b=some o∧True from by
    simp only[ay,aE,aZ] at hb
    obtain⟨o1,e1,_⟩:=h4
    rcases hb with rfl|rfl
    ·exact⟨_,h1,trivial⟩
    ·exact⟨_,e1,trivial⟩)
   exact aX (aF q)
 done:=by
  intro X hP hw hK hc i pins s σ H E I hf st hg
  subst hP hw hK
  obtain⟨xs,hq1,hl⟩:=hg
  obtain⟨its1,rv1,p1,hz1⟩:=I.list hq1
  obtain⟨⟨old,h1⟩,h4⟩:=st
  have e1:=rv1.length
  refine wpAny_pyNext_enum_end (I.ok.hd hc) h1 h4 p1.isList (by simp;omega) fun h' hk=>⟨rfl,?_⟩
  exact I.turnL (t':=s.toks) (ch:=[e,it]) (fun b o hb q=>by
   simp only[ay,aE,aZ,not_or] at hb
   exact hk b o hb.2 q) hf
 self:=fun A i s Q E st h=>by
  obtain⟨⟨old,h1⟩,h4⟩:=st
  exact wpAny_pyIter_enum h1 h
section
variable {X:Cx}{α:Ev}{elts:List Expr}{kk:Nat}{tp p pos:Pos}{a b:Expr}
def cj (K:PySem.W.Frag)(ta:TA):TI:=fun σ H R=>ta σ H fun vs H1=>∃l,vs=[.ref l]∧(∃xs,SqL K H1 l xs)∧R (Ite K l) H1
theorem gA {ta:TA}(hg:Gl X "enumerate")(hm:X.mg "enumerate"=none)(ha:PA X [a] ta)(hs:starEach [a] X.env=[(false,eval a X.env)]:=by rfl):
  PI X (.Tuple elts kk tp) (.Call (.Name "enumerate" p) [a] [] pos) (cj X.K ta):=by
 intro pins s σ H R I h
 refine Call_ (uE I hg hm boot_enumerate (ze0 (thn (ha pos pins s σ H _ I h) fun us s1 ⟨vs,H1,I1,r1,q1⟩=>?_) hs rfl))
 obtain⟨l1,e,⟨xs,hq1⟩,q⟩:=q1
 subst e
 obtain⟨u,rfl,ru⟩:=Vals.one r1
 cases (show u=Value.ref l1 from ru)
 obtain⟨its1,rv1,p1,hz1⟩:=I1.list hq1
 refine call_enumerate_list p1.isList fun h' z1 z4 z6 hk=>?_
 refine wpAny_pyIter_enum (s:={s1 with heap:=h'}) z1 ?_
 refine⟨_,_,_,_,H1,rfl,I1.kept (t':=s1.toks) fun b o e=>hk b o e,nE (bB (a:=s1.heap.objs.size+1) (b:=s1.heap.objs.size) (zf3 _)),⟨⟨_,z1⟩,z4⟩,fun b hb=>?_,q⟩
 simp only[ay,aE,aZ] at hb
 have hb':s1.heap.objs.size≤b:=by
  have key:∀n b:Nat,n=s1.heap.objs.size→(b=n+1∨b=n)→n≤b:=fun n b _ h=>by omega
  exact key _ _ rfl hb
 exact I1.fpOk hb' (I1.hok.fresh hb')
def vK (n:Nat):List PyData→List PyData
 |[]=>[]
 |d::ds=>.tuple [.int n,d]::vK (n+1) ds
theorem wt :∀{ds:List PyData} {n i:Nat} {d:PyData},(vK n ds)[i]?=some d→∃e,ds[i]?=some e∧d=.tuple [.int ((n+i:Nat):Int),e]
 |[],n,i,d,h=>by simp[vK] at h
 |e::ds,n,0,d,h=>by simp[vK] at h;exact⟨e,rfl,by simp[←h]⟩
 |e::ds,n,i+1,d,h=>by
  simp only[vK,List.getElem?_cons_succ] at h
  obtain⟨e',h1,h2⟩:=wt h
  exact⟨e',by simpa using h1,by rw[h2,Nat.add_assoc,Nat.add_comm 1 i]⟩
theorem wm :∀(ds:List PyData) (n:Nat),(vK n ds).length=ds.length
 |[],_=>rfl
 |_::ds,n=>by simp[vK,wm ds (n+1)]
theorem oB {Q:List PyData→Prop}(hg:Gl X "enumerate")(hm:X.mg "enumerate"=none)(h:EvD X α a fun x=>∃ds,x=.list ds∧Q (vK 0 ds))(hs:starEach [a] X.env=[(false,eval a X.env)]:=by rfl):
  EvI X α (.Tuple elts kk tp) (.Call (.Name "enumerate" p) [a] [] pos) Q:=fun F σ H R m k=>by
 refine⟨_,gA hg hm (zc zd zm hs) hs,?_⟩
 refine h F σ H _ m fun x vx H1 q1 t1 k1 r1=>?_
 obtain⟨ds,rfl,q⟩:=q1
 obtain⟨l1,xs,rfl,g1,g2⟩:=r1.lst_inv
 refine⟨l1,rfl,⟨xs,SqL.of (zf g1).2⟩,k _ _ H1 q t1 k1 fun i H3 p s=>⟨fun d hd=>?_,fun hl=>?_⟩⟩
 ·have s1:=SqL.of (K:=X.K) (zf (s _ _ g1)).2
  obtain⟨e,he,rfl⟩:=wt hd
  obtain⟨x1,hx1,av1⟩:=g2.get he
  refine⟨⟨xs,x1,s1,hx1⟩,fun v H4 y=>?_⟩
  obtain⟨T,x,rfl,hT,rfl,hx⟩:=y
  have hx:=hx _ s1
  rw[hx1] at hx;cases hx
  refine⟨yg hT,fun fr=>?_⟩
  have gs:zr (Gz F α σ H1) (sub p (upd H3 T (.tup [.int i,x1]))):=fun a o e=>by
   obtain⟨z1,z2⟩:=zf (s a o e)
   exact zQ z1 (by rw[zj (zh z2 hT)];exact z2)
  refine .tup (zQ (fr T _ zl hT) zl) (.cons ?_ (.cons (av1.same gs) .nil))
  rw[Nat.zero_add]
  exact .int _
 ·refine⟨xs,SqL.of (zf (s _ _ g1)).2,?_⟩
  rw[wm,←g2.length] at hl
  exact hl
end
structure Cal (P:Program)(w:World)(K:PySem.W.Frag)(mg:Str→Option Value)(base:Heap)(x:Str)(k:Nat)(φ:List A→(A→Prop)→Prop):Prop where
 ex:∃f fd ps,mg x=some (.ref f)∧PySem.W.keepIn K (.ref f)=true∧Binds K fd ps []∧zv P w K mg base CX0 k f fd ps (spA φ)
section
variable {X:Cx}{α:Ev}{e a b:Expr}{es:List Expr}{pos p:Pos}{Q:PyData→Prop}{k:Nat}{φ:List A→(A→Prop)→Prop}{x:Str}
theorem zx (C:Cal X.prog X.w X.K X.mg X.base x k φ)(hr:zJ k X.A)(hg:Gl X x)(h:EvA X α (e::es) fun as=>φ as fun a=>Q a.d)
  (hdb:(x == ("__debug__":Str))=false:=by decide) (he:starEach (e::es) X.env=(false,eval e X.env)::starEach es X.env:=by rfl) (hpl:(backTo pos (starEach es X.env)).any (·.1)=false:=by rfl):EvD X α (.Call (.Name x p) (e::es) [] pos) Q:=by
 obtain⟨f,fd,ps,h1,h2,h3,h4⟩:=C.ex
 exact gR h4 hr hg h1 h2 h3 h hdb he hpl
theorem sH {Q:List PyData→Prop}(C:Cal X.prog X.w X.K X.mg X.base x k φ)(hr:zJ k X.A)(hg:Gl X x)(h:EvA X α (e::es) fun as=>φ as fun a=>∃ds,a=.own ds∧Q ds)
  (hdb:(x == ("__debug__":Str))=false:=by decide) (he:starEach (e::es) X.env=(false,eval e X.env)::starEach es X.env:=by rfl) (hpl:(backTo pos (starEach es X.env)).any (·.1)=false:=by rfl):EvL X α (.Call (.Name x p) (e::es) [] pos) Q:=by
 obtain⟨f,fd,ps,h1,h2,h3,h4⟩:=C.ex
 exact hZ h4 hr hg h1 h2 h3 h hdb he hpl
end
section
variable {P:Program}{w:World}{K:PySem.W.Frag}{mg:Str→Option Value}{base:Heap}
theorem wQ {x qual:Str}{st:Stmt}{f:Addr}{fd:FuncData}{N ps:List Str}{k:Nat}{φ:List A→(A→Prop)→Prop}(G:Fun K x qual st f fd)(hm:mg x=some (.ref f))(hb:Binds K fd ps [])(S:zi N ps (zb st))(hlen:∀as Q,φ as Q→as.length=ps.length)
  (hbody:∀(cdv:Value) (A':Around) (outer:List Env) (s:Shared) (H:Hp) (E:XK) (as:List A) (Q:A→Prop),zJ k (A'.deeper (envOfC qual (zb st) s.heap.objs.size f cdv))→φ as Q→
   SvS (vq CX0 P w K mg base N qual (zb st) f cdv A' outer s H E).nox (as.map some++List.replicate (N.length-as.length) none) (zA st) {nx:=fun _=>Q (.dat .none),rt:=Q}):Cal P w K mg base x (k+1) φ:=
 ⟨f,fd,ps,hm,G.kp,hb,fnA G S hlen hbody⟩
def wO :List A→(A→Prop)→Prop:=fun as Q=>∃n:Int,as=[.tape,.dat (.int n)]∧0<n∧n<big∧∀v,0≤v→v<n→Q (.dat (.int v))
end
section
variable {Y:Addr→Shared→Hp→List Addr→Cx}{pat:Pat}{ifs:List Expr}{elt:Expr}{α0:Ev}
theorem ny {ds acc:List PyData}{Q:List PyData→Prop}(P:Nat→List PyData→Prop)(h0:P 0 acc)
  (hs:∀i d acc,ds[i]?=some d→P i acc→∃α1,pat.bind d α0=some α1∧∀C s2 H2 fp,iG (Y C s2 H2 fp) α1 ifs fun k=>if k=true then ∀C s2 H2 fp,EvD (Y C s2 H2 fp) α1 elt fun y=>P (i+1) (acc++[y]) else P (i+1) acc)
  (hd:∀acc,P ds.length acc→Q acc):yw Y pat ifs elt α0 ds acc Q:=by
 have key:∀n i acc,n=ds.length-i→i≤ds.length→P i acc→yw Y pat ifs elt α0 (ds.drop i) acc Q:=by
  intro n
  induction n with
  |zero=>
   intro i acc hn hi p
   have e:i=ds.length:=by omega
   subst e
   rw[zf5]
   exact hd acc p
  |succ n ih=>
   intro i acc hn hi p
   have hlt:i<ds.length:=by omega
   rw[zc9 hlt]
   obtain⟨α1,e,b⟩:=hs i ds[i] acc (za4 hlt) p
   refine⟨α1,e,fun C s2 H2 fp F σ H R m kk=>b C s2 H2 fp F σ H R m fun k H' q=>kk k H' ?_⟩
   cases k with
   |true=>
    rw[if_pos rfl] at q ⊢
    exact fun C s2 H2 fp=>(q C s2 H2 fp).imp fun y p=>ih (i+1) _ (by omega) hlt p
   |false=>
    rw[if_neg (by decide)] at q ⊢
    exact ih (i+1) _ (by omega) hlt q
 exact key _ 0 acc rfl (aT _) h0
end
theorem vG {ds:List PyData}{v:Int}(h0:0≤v)(h1:v<ds.length):∃d,d∈ds∧atI ds v=some d:=by
 obtain⟨j,rfl⟩:=zf1 h0
 have hj:j<ds.length:=by omega
 exact⟨ds[j],List.getElem_mem hj,xH (za4 hj)⟩
theorem pB (st:Stmt)(env:Env):execs [st] env=exec st env:=by
 rw[PySem.execs_cons]
 have:(fun f:Flow=>(match f with|.next=>execs [] env|f=>pure f:Sem Flow))=pure:=by
  funext f
  cases f<;>rfl
 exact (congrArg (fun g=>exec st env >>= g) this).trans (bind_pure _)
section
variable {X:Cx}{α:Ev}{e a b c:Expr}{es rest:List Expr}{pos p:Pos}{Q:PyData→Prop}{E:yd}{st:Stmt}{sts sts':List Stmt}
theorem qT (P:Ev→Prop)(h1:SvS X α [st] {E with nx:=P})(h2:∀α',P α'→SvS X α' sts E):SvS X α (st::sts) E:=fun F σ H D m r=>by
 refine zX (fun σ' H'=>∃α',M F α' σ' H'∧P α') ?_ ?_
 ·obtain⟨t,p,q⟩:=h1 F σ H {D with nx:=fun σ' H'=>∃α',M F α' σ' H'∧P α'} m ⟨fun α' σ' H' m' z=>⟨α',m',z⟩,r.rt,r.bk,r.ct⟩
  exact⟨t,fun pins s σ H D I h=>(by
   have:=p pins s σ H D I h
   rw[pB] at this
   exact this),q⟩
 ·rintro σ' H' ⟨α',m',z⟩
  exact h2 α' z F σ' H' D m' r
theorem qX {c:Prop}[Decidable c]{a b:List Stmt}(h1:c→SvS X α a E)(h2:¬c→SvS X α b E):SvS X α (if decide c=true then a else b) E:=by
 by_cases h:c
 ·rw[aQ h];exact h1 h
 ·rw[aK h];exact h2 h
theorem xk {k:Bool}{a b:List Stmt}(h1:k=true→SvS X α a E)(h2:k=false→SvS X α b E):SvS X α (if k=true then a else b) E:=by
 cases k with
 |true=>exact h1 rfl
 |false=>exact h2 rfl
theorem tP {i j:Int}:Cmp rEq (.int i) (.int j) (decide (i=j)):=fun p H vx vy R rx ry h=>by
 cases rx.int_inv;cases ry.int_inv
 refine⟨rfl,?_⟩
 rw[show decide (V.int i=V.int j)=decide (i=j) by simp]
 exact h
theorem hU {i j:Int}:Cmp rNe (.int i) (.int j) (!decide (i=j)):=fun p H vx vy R rx ry h=>by
 cases rx.int_inv;cases ry.int_inv
 refine⟨rfl,?_⟩
 rw[show decide (V.int i=V.int j)=decide (i=j) by simp]
 exact h
theorem oh {i j:Str}:Cmp rEq (.str i) (.str j) (decide (i=j)):=fun p H vx vy R rx ry h=>by
 cases rx.str_inv;cases ry.str_inv
 refine⟨rfl,?_⟩
 rw[show decide (V.str i=V.str j)=decide (i=j) by simp]
 exact h
theorem pe {op:CmpOp}{r:R2}(ho:OpR X (compareOp op) r)(hm:behindInMarks op b=false)(h:EvD X α a fun x=>EvD X α b fun y=>∃k,Cmp r x y k∧Q (.bool k)):EvD X α (.Compare a [op] [b] pos) Q:=fun F σ H R m k=>by
 refine⟨_,xo ho zd zd hm,?_⟩
 refine h F σ H _ m fun x vx H1 q1 t1 k1 r1=>?_
 have m1:=m.kz k1 t1
 refine q1 F σ H1 _ m1 fun y vy H2 q2 t2 k2 r2=>?_
 obtain⟨b,hc,q⟩:=q2
 exact hc _ H2 vx vy _ (r1.same (k2.gz m1.tp)) r2 (k _ _ H2 q t2 (k1.trans k2) (.bl b))
theorem dh {Q:Bool→Prop}(h:EvD X α a fun x=>EvD X α b fun y=>∃i j,x=.int i∧y=.int j∧Q (decide (i=j))):EvT X α (.Compare a [.Eq] [b] pos) Q:=
 xp xM (zy _) (h.imp fun x h=>h.imp fun y ⟨i,j,e1,e2,q⟩=>⟨_,by subst e1 e2;exact tP,q⟩)
theorem di (h:EvD X α a fun x=>EvD X α b fun y=>∃i j,x=.int i∧y=.int j∧Q (.bool (decide (i=j)))):EvD X α (.Compare a [.Eq] [b] pos) Q:=
 pe xM (zy _) (h.imp fun x h=>h.imp fun y ⟨i,j,e1,e2,q⟩=>⟨_,by subst e1 e2;exact tP,q⟩)
theorem lR {Q:Bool→Prop}(h:EvD X α a fun x=>EvD X α b fun y=>∃i j,x=.str i∧y=.str j∧Q (decide (i=j))):EvT X α (.Compare a [.Eq] [b] pos) Q:=
 xp xM (zy _) (h.imp fun x h=>h.imp fun y ⟨i,j,e1,e2,q⟩=>⟨_,by subst e1 e2;exact oh,q⟩)
theorem M.park {F:Fr}{σ:St}{H H1:Hp}{l:Addr}{o:HO}(m:M F α σ H)(k1:Kz F H H1)(t1:zB F H1)(hl:H l=none)(hl1:H1 l=some o)(no:xK o):M ⟨F.H0,fun x=>F.O0 x∨x=l,F.tp⟩ α σ H1:=by
 have m1:=m.kz k1 t1
 have g0:zr (Gz F α σ H) (Gz ⟨F.H0,fun x=>F.O0 x∨x=l,F.tp⟩ α σ H1):=fun y o z=>by
  obtain⟨z1,z2⟩:=zf z
  refine zQ ?_ (k1 _ _ z2 (m.tp.nt (ow0 z1)))
  rintro ((w|w)|⟨i,a,s,e1,e2,f⟩)
  ·exact z1 (.inl w)
  ·rw[w,hl] at z2;cases z2
  ·exact z1 (.inr ⟨i,a,s,e1,e2,f⟩)
 refine⟨m.len,fun i a s e1 e2=>(m.ok i a s e1 e2).stay g0 (fun x o f e=>?_) rfl fun r q _ y=>?_,m.dj,m.xd,t1.to rfl fun _ z=>.inl z,fun y o z n=>m1.keep y o z n,fun y z=>?_⟩
 ·obtain⟨w1,w2,_⟩:=m.ft e1 e2 f
  exact⟨k1 _ _ e (m.tp.nt w1),fun (w:F.O0 x∨x=l)=>w.elim w1 (fun w=>by rw[w,hl] at e;cases e),w2⟩
 ·have y':=y.kz k1 t1
  exact⟨y'.tp,fun x z=>.inl (y'.o x z),y'.ok,y'.k⟩
 ·rcases z with z|z
  ·exact m1.oex y z
  ·exact⟨_,by rw[z];exact hl1,no⟩
theorem M.unpark {F:Fr}{σ:St}{H H':Hp}{l:Addr}(m:M F α σ H)(m':M ⟨F.H0,fun x=>F.O0 x∨x=l,F.tp⟩ α σ H'):M F α σ H':=by
 have g1:zr (Gz ⟨F.H0,fun x=>F.O0 x∨x=l,F.tp⟩ α σ H') (Gz F α σ H'):=zo fun y o z w=>⟨fun q=>z (q.elim (fun q=>.inl (.inl q)) .inr),w⟩
 refine⟨m'.len,fun i a s e1 e2=>(m'.ok i a s e1 e2).stay g1 (fun x o f e=>?_) rfl fun r q ea y=>?_,m'.dj,m'.xd,m.tp.re m'.tp rfl,m'.keep,fun y z=>m'.oex y (.inl z)⟩
 ·obtain⟨w1,w2,_⟩:=m'.ft e1 e2 f
  exact⟨e,fun w=>w1 (.inl w),w2⟩
 ·subst ea
  exact⟨y.tp,(m.lnk e1).o,y.ok,y.k⟩
theorem jZ {p2 p3:Pos}(h:EvL X α a fun ds=>ds.length<1000∧EvD X α e fun d=>SvS X α sts E)
  (hbase:attributeBase a "append" X.env (eval a X.env)=eval a X.env:=by rfl) (hs:starEach [e] X.env=(false,eval e X.env)::starEach [] X.env:=by rfl)
  (hpl:((((backTo p3 (starEach [e] X.env)).all fun x=>!x.fst)&&(backToKw p3 (keywordEach [] X.env)).all fun x=>x.fst.isSome)&&decide (([e].length+([]:List Keyword).length+if ([]:List Keyword).isEmpty=true then 0 else 1)<30))=true:=by rfl)
  (hline:(p2.endLine == p3.line)=true:=by rfl) (hsw:swapsWith (.Call (.Attribute a "append" p2) [e] [] p3) none pos.line X.env=pure false:=by rfl):SvS X α (.Expr (.Call (.Attribute a "append" p2) [e] [] p3) pos::sts) E:=fun F σ H D m r=>by
 refine⟨_,zG (ou (oS PySem.F.plainAttrs_list PySem.F.slot_list_append PySem.F.type_list_append vz zd (zc zd zm hs) hbase hpl hline hs) hsw) zT,?_⟩
 refine h F σ H _ m fun ds v H1 q1 t1 k1 f1=>?_
 have m1:=m.kz k1 t1
 obtain⟨l,xs,rfl,hl,hl1,av⟩:=f1
 refine⟨.inl ⟨rfl,_,SqL.of hl1⟩,?_⟩
 have nl:¬Ow F α σ l:=m.fresh hl
 have ntl:NT F l:=m.tp.nt (ow0 nl)
 have m2:=m.park k1 t1 hl hl1 yF
 refine q1.2 _ σ H1 _ m2 fun d vd H2 q2 t2 k2 r2=>?_
 have tl:∀t b c,F.tp=some (t,b,c)→l≠t∧l≠b∧l≠c:=fun t b c z=>by
  obtain⟨w1,w2,w3,w4⟩:=t1 t b c z
  exact⟨fun y=>ow0 nl (by rw[y];exact w2),fun y=>ow0 nl (by rw[y];exact w3),fun y=>ow0 nl (by rw[y];exact w4)⟩
 refine⟨l,xs,vd,rfl,rfl,k2 _ _ hl1 ntl,by rw[av.length];exact xu (zd1 q1.1),?_⟩
 have m3:=(m2.kz k2 t2).wr (x:=l) (o:=.lst (xs++[vd])) yF (.inr rfl) tl (m.fresh0 hl) (vo (k2 _ _ hl1 ntl)) fun i r q e=>(m.lnk e).none hl
 exact q2 F σ _ D (m.unpark m3) r
end
structure NbT (mg:Str→Option Value):Prop where
 abs:mg "abs"=none
 list:mg "list"=none
 len:mg "len"=none
 range:mg "range"=none
 min:mg "min"=none
 max:mg "max"=none
 sorted:mg "sorted"=none
 isinstance:mg "isinstance"=none
 int:mg "int"=none
 bool:mg "bool"=none
 str:mg "str"=none
 tuple:mg "tuple"=none
 all:mg "all"=none
 any:mg "any"=none
 repr:mg "repr"=none
 zip:mg "zip"=none
 enumerate:mg "enumerate"=none
 reversed:mg "reversed"=none
 sum:mg "sum"=none
theorem xS {X:Cx}{K:PySem.W.Frag}{es:List Expr}{k:Nat}{t:TGs}{n:Nat}{pos:Pos}(hK:X.K=K)(hc:X.calm=true)(h:PGs X es t)
  (hn:(assignEach es X.env).length=n:=by rfl) (hst:(assignEach es X.env).findIdx? (·.1)=none:=by rfl):PG X (.Tuple es k pos) (eW K n t):=by
 subst hK
 exact en hc h hn hst
end L2
namespace SortA
open PySem PySem.W PyProof.Rows
abbrev g (p:Array Nat)(i:Nat):Nat:=p.getD i 0
variable {lt:Nat→Nat→Bool}
end SortA
namespace SortA
open PySem PySem.W PyProof.Rows
end SortA
namespace L2
open PySem PySem.Spec PySem.Calls PySem.W PyProof.Rows SortA
section
variable {prog:Program}{w:World}{A:Around}{E:Value→Shared→Prop}{s:Shared}
end
section
variable {X:Cx}{pins:List (Addr×Obj)}{σ:St}{H H':Hp}{s:Shared}
end
end L2
namespace Days
end Days
namespace L2
open PySem PySem.Spec PyProof.Rows Days
section
variable {X:Cx}{α:Ev}{e a b c tg:Expr}{pos p:Pos}{Q:PyData→Prop}{E:yd}{sts:List Stmt}
theorem iP {pat:Pat}(hg:PG X tg (rA X.K pat))(h:EvD X α e fun d=>∃α1,pat.bind d α=some α1∧SvS X α1 sts E)
  (hs:swapsWithSole [tg] e pos.line X.env=pure false:=by rfl) (hw:swappedStores [tg] e X.env=pure none:=by rfl) (h1:(assignEach [tg] X.env).map (·.2)=[assign tg X.env]:=by rfl):SvS X α (.Assign [tg] e pos::sts) E:=fun F σ H D m r=>by
 refine⟨_,zG (sJ zd hg hs hw h1) zT,?_⟩
 refine h F σ H _ m fun d v H1 q1 t1 k1 r1=>?_
 obtain⟨α1,eb,q⟩:=q1
 exact sV eb (m.kz k1 t1) r1 fun σ' m'=>q F σ' H1 D m' r
end
section
variable {X:Cx}{α:Ev}{tg:Expr}{pos p:Pos}{E:yd}{sts body:List Stmt}
end
def isNone :PyData→Bool
 |.none=>true
 |_=>false
theorem DV.non_iff {H:Hp}{x:V}{d:PyData}(h:DV H x d):decide (x=.non)=isNone d:=by
 cases h<;>simp[isNone]
abbrev eqS (d:PyData)(s:Str):Bool:=PyData.eqv d (.str s)
abbrev wK :PyData→Bool:=zL 0 1000000000000
def vD :PyData→Bool
 |.tuple [.int m,f]=>zL 2 14 (.int m)&&zL 1 (m-1) f
 |_=>false
def zD (w v:PyData):Bool:=
 if eqS w "price"=true then isNone v||wK v
 else if (eqS w "come"||eqS w "go")=true then isBool v
 else if (eqS w "least"||eqS w "most")=true then zL 1 14 v
 else if eqS w "deal"=true then isNone v||vD v
 else eqS w "fee"&&wK v
def yf :PyData→Bool
 |.tuple [w,a,b,v]=>zU (.tuple [a,b])&&zD w v
 |_=>false
abbrev words :List Str:=["price","come","go","least","most","deal","fee"]
theorem qZ {x:Str}(h:(PyData.str x).canLay0=true):SeqAt.shaped (.str x)=true:=by
 unfold SeqAt.shaped
 rw[h]
 rfl
def oH :Sp:=fun vs H Q _=>∃x y dw dv,vs=[x,y]∧DV H x dw∧SeqAt.shaped dw=true∧DV H y dv∧Q (.bl (zD dw dv)) H
def qE :Sp:=fun vs H Q _=>∃x d,vs=[x]∧DV H x d∧SeqAt.shaped d=true∧∀H',zr H H'→Q (.bl (yf d)) H'
theorem tN {ds:List PyData}(h:SeqAt.shaped (.tuple ds)=true):∀d∈ds,SeqAt.shaped d=true:=by
 unfold SeqAt.shaped at h
 rw[aI,aO] at h
 obtain⟨h1,h2⟩:=h
 simp only[PyData.canLay0] at h1
 simp only[PyData.depth] at h2
 have key:∀(ds:List PyData),PyData.canLayAll0 ds=true→PyData.depthAll ds+1≤64→∀d∈ds,SeqAt.shaped d=true:=by
  intro ds
  induction ds with
  |nil=>intro _ _ d hd;simp at hd
  |cons e r ih=>
   intro a b d hd
   simp only[PyData.canLayAll0,aI] at a
   simp only[PyData.depthAll] at b
   rcases ay.mp hd with z|z
   ·subst z
    unfold SeqAt.shaped
    rw[a.1,zb0,aO]
    omega
   ·exact ih a.2 (by omega) d z
 exact key ds h1 (by omega)
def xY (x y z:V):List (Str×V):=xj "worth" z (xj "last" y (xj "first" x []))
theorem fe :¬(("worth":Str)="last"):=by decide +kernel
theorem fb :¬(("worth":Str)="first"):=by decide +kernel
theorem lC :¬(("last":Str)="first"):=by decide +kernel
theorem pJ (x y z:V):(xY x y z).lookup ("first":Str)=some x:=by
 unfold xY
 rw[zH,if_neg (fun e=>fb e.symm),zH,if_neg (fun e=>lC e.symm),zH,if_pos rfl]
theorem oV (x y z:V):(xY x y z).lookup ("last":Str)=some y:=by
 unfold xY
 rw[zH,if_neg (fun e=>fe e.symm),zH,if_pos rfl]
theorem pj (x y z:V):(xY x y z).lookup ("worth":Str)=some z:=by
 unfold xY
 rw[zH,if_pos rfl]
theorem ib (x y z:V){m:Str}(h1:¬m="worth")(h2:¬m="last")(h3:¬m="first"):(xY x y z).lookup m=none:=by
 unfold xY
 rw[zH,if_neg h1,zH,if_neg h2,zH,if_neg h3]
 rfl
structure Cs where
 price:Addr
 come:Addr
 go:Addr
 least:Addr
 most:Addr
 deal:Addr
 fee:Addr
def Cs.of (c:Cs)(w:Str):Addr:=
 if w="price" then c.price else if w="come" then c.come else if w="go" then c.go else if w="least" then c.least else if w="most" then c.most else if w="deal" then c.deal else c.fee
structure xN (K:PySem.W.Frag)(C fI fT fE fW:Addr):Prop where
 cl:Cls K C
 nf:yD K C "first"
 nl:yD K C "last"
 nw:yD K C "worth"
 makes:Mk K C fI
 told:Meth K C "told" fT
 tells:Meth K C "tells" fE
 word:Meth K C "word" fW
def eS (C:Addr):Sp:=fun vs H Q _=>∃(p dx:Addr) (x y z:V),vs=[.ref p,x,y,z]∧H p=some (.ins C dx [])∧Q .non (upd H p (.ins C dx (xY x y z)))
def xU (w:Str):Sp:=fun vs H Q _=>∃p,vs=[.ref p]∧Q (.str w) H
def jC (C:Addr)(w:Str):Sp:=fun vs H Q _=>∃(p dx:Addr) (x y z:V),vs=[.ref p]∧H p=some (.ins C dx (xY x y z))∧∀q,H q=none→Q (.ref q) (upd H q (.tup [.str w,x,y,z]))
def lO (cs:Cs):Sp:=fun vs H Q _=>∃(w:Str) (x y z:V),vs=[.str w,x,y,z]∧w∈words∧∀(p dx:Addr) (H':Hp),H' p=some (.ins (cs.of w) dx (xY x y z))→H p=none→zr H H'→Q (.ref p) H'
def rD (cs:Cs):Sp:=fun vs H Q _=>∃x d,vs=[x]∧DV H x d∧SeqAt.shaped d=true∧(yf d=false→∀H',zr H H'→Q .non H')∧
 (∀(r:Addr) (w:Str) (x1 x2 x3:V) (p dx:Addr) (H':Hp),x=.ref r→yf d=true→w∈words→H r=some (.tup [.str w,x1,x2,x3])→H' p=some (.ins (cs.of w) dx (xY x1 x2 x3))→H p=none→zr H H'→Q (.ref p) H')
theorem xA {d:PyData}{s:Str}(h:eqS d s=true):d=.str s:=by
 cases d with
 |str x=>
  have h':(x == s)=true:=h
  rw[eq_of_beq h']
 |_=>simp[PyData.eqv] at h
theorem rG {w v:PyData}(h:zD w v=true):∃s∈words,w=.str s:=by
 unfold zD at h
 split at h
 ·rename_i e;exact⟨"price",by simp[words],xA e⟩
 ·split at h
  ·rename_i e
   rcases (zc3 _ _).mp e with e|e
   ·exact⟨"come",by simp[words],xA e⟩
   ·exact⟨"go",by simp[words],xA e⟩
  ·split at h
   ·rename_i e
    rcases (zc3 _ _).mp e with e|e
    ·exact⟨"least",by simp[words],xA e⟩
    ·exact⟨"most",by simp[words],xA e⟩
   ·split at h
    ·rename_i e;exact⟨"deal",by simp[words],xA e⟩
    ·rw[aI] at h;exact⟨"fee",by simp[words],xA h.1⟩
theorem xl {d:PyData}(h:yf d=true):∃(s:Str) (a b v:PyData),s∈words∧d=.tuple [.str s,a,b,v]:=by
 unfold yf at h
 split at h
 ·rename_i w a b v
  rw[aI] at h
  obtain⟨s,hs,rfl⟩:=rG h.2
  exact⟨s,a,b,v,hs,rfl⟩
 ·cases h
section
variable {X:Cx}
theorem mq :yN X (.builtin "isinstance") (fun xs H Q=>∃x C t b,xs=[x,.ref C]∧wx X.K H x t∧PySem.W.kitOne X.K t (.ref C)=some b∧Q (.bl b) H):=by
 intro pins s σ H xs us Q I r h
 obtain⟨x,C,t,b,rfl,ty,e,q⟩:=h
 obtain⟨u,v,rfl,rx,ry⟩:=Vals.two r
 cases (show v=Value.ref C from ry)
 exact tq I rx ty e fun tk=>⟨.bl b,H,I.tok tk,rfl,q⟩
end
abbrev xi (C:Addr)(fs:List (PyData×PyData)):PyData:=.dict ((.int (C:Nat),.none)::fs)
def vp :List (PyData×PyData)→Str→Option PyData
 |[],_=>none
 |(.str g,d)::r,f=>if f=g then some d else vp r f
 |_::r,f=>vp r f
theorem AVf.get {H:Hp}:∀{fs:List (Str×V)} {ds:List (PyData×PyData)} {f:Str} {d:PyData},AVf H fs ds→vp ds f=some d→∃v,fs.lookup f=some v∧AV H v d
 |_,_,f,d,.nil,e=>by cases e
 |_,_,f,d,.cons (f:=g) h r,e=>by
  rw[zb5]
  unfold vp at e
  by_cases z:f=g
  ·subst z
   rw[if_pos rfl] at e
   cases e
   exact⟨_,by simp,h⟩
  ·rw[if_neg z] at e
   have z':(f == g)=false:=by simpa using z
   rw[z']
   exact AVf.get r e
theorem AVf.none {H:Hp}:∀{fs:List (Str×V)} {ds:List (PyData×PyData)} {f:Str},AVf H fs ds→vp ds f=Option.none→fs.lookup f=Option.none
 |_,_,f,.nil,e=>rfl
 |_,_,f,.cons (f:=g) h r,e=>by
  rw[zb5]
  unfold vp at e
  by_cases z:f=g
  ·subst z
   rw[if_pos rfl] at e
   cases e
  ·rw[if_neg z] at e
   have z':(f == g)=false:=by simpa using z
   rw[z']
   exact AVf.none r e
theorem AV.ins_inv {H:Hp}{v:V}{C:Addr}{ds:List (PyData×PyData)}(h:AV H v (xi C ds)):∃a dx fs,v=.ref a∧H a=some (.ins C dx fs)∧AVf H fs ds:=by
 generalize e:xi C ds=d at h
 cases h with
 |@ins a C' dx fs ds' h1 h2=>
  injection e with e
  injection e with e1 e2
  have e3:(C:Int)=(C':Int):=by
   have:=congrArg Prod.fst e1
   injection this
  have e4:C=C':=Int.ofNat.inj e3
  subst e4 e2
  exact⟨a,dx,fs,rfl,h1,h2⟩
 |_=>cases e
section
variable {X:Cx}{α:Ev}{o e:Expr}{es:List Expr}{pos apos p:Pos}{Q:PyData→Prop}{C:Addr}{f m:Str}
theorem dD (c:Cls X.K C)(na:yD X.K C f)(h:EvD X α o fun x=>∃fs d,x=xi C fs∧vp fs f=some d∧Q d)(hb:attributeBase o f X.env (eval o X.env)=eval o X.env:=by rfl):EvD X α (.Attribute o f pos) Q:=fun F σ H R m k=>by
 refine⟨_,tZ zd hb,?_⟩
 refine h F σ H _ m fun x vx H1 q1 t1 k1 r1=>?_
 obtain⟨fs,d,rfl,hf,q⟩:=q1
 obtain⟨a,dx,gs,rfl,h1,h2⟩:=r1.ins_inv
 obtain⟨v,hv,av⟩:=h2.get hf
 exact⟨a,C,dx,gs,v,rfl,(zf h1).2,c,na,hv,k d v H1 q t1 k1 av⟩
structure vN (P:Program)(w:World)(K:PySem.W.Frag)(mg:Str→Option Value)(base:Heap)(C:Addr)(m:Str)(k:Nat)(φ:List A→(A→Prop)→Prop):Prop where
 ex:∃f fd ps,Cls K C∧Meth K C m f∧Binds K fd ps []∧zv P w K mg base CX0 k f fd ps (spA φ)
theorem iV {k:Nat}{φ:List A→(A→Prop)→Prop}{pl:Sem Bool}(M':vN X.prog X.w X.K X.mg X.base C m k φ)(hr:zJ k X.A)(h:EvD X α o fun x=>∃fs,x=xi C fs∧vp fs m=none∧EvA X α (e::es) fun as=>φ (.dat (xi C fs)::as) fun a=>Q a.d)
  (hst:starEach (e::es) X.env=(false,eval e X.env)::starEach es X.env:=by rfl) (hpl:(backTo pos (starEach es X.env)).any (·.1)=false:=by rfl)
  (ht:eval (.Call (.Attribute o m apos) (e::es) [] pos) X.env=(do
   let ov ←eval o X.env
   standAt apos.atName
   let (f,first) ←holding [ov] (getMethod ov m pl)
   callWith pos f first (backTo pos (starEach (e::es) X.env)) (backToKw pos (keywordEach [] X.env))):=by rfl):EvD X α (.Call (.Attribute o m apos) (e::es) [] pos) Q:=fun F σ H R m' kk=>by
 obtain⟨f,fd,ps,c,hm,hb,G⟩:=M'.ex
 refine⟨_,ia zd c hm G hr hb .nil zK yP hst hpl ht,?_⟩
 refine h F σ H _ m' fun x vx H1 q1 t1 k1 r1=>?_
 obtain⟨fs,rfl,hf,q⟩:=q1
 have m1:=m'.kz k1 t1
 obtain⟨a,dx,gs,rfl,h1,h2⟩:=r1.ins_inv
 refine⟨a,dx,gs,rfl,(zf h1).2,h2.none hf,?_⟩
 refine q F σ H1 _ m1 fun as vs H2 q2 t2 k2 r2=>?_
 have m2:=m1.kz k2 t2
 have cf:=xg (vs:=.ref a::vs) (as:=.dat (xi C fs)::as) (R:=R) (E:=E0) m2 (.cons (r1.same (k2.gz m1.tp)) r2) q2 fun z v H' qa ra=>by
  obtain⟨g1,g2,g3⟩:=ra.back m2
  exact kk _ v H' qa g1 ((k1.trans k2).trans g2) g3
 exact cf
theorem qf {k:Nat}{φ:List A→(A→Prop)→Prop}{pl:Sem Bool}(M':vN X.prog X.w X.K X.mg X.base C m k φ)(hr:zJ k X.A)(h:EvD X α o fun x=>∃fs,x=xi C fs∧vp fs m=none∧φ [.dat (xi C fs)] fun a=>Q a.d)
  (ht:eval (.Call (.Attribute o m apos) [] [] pos) X.env=(do
   let ov ←eval o X.env
   standAt apos.atName
   let (f,first) ←holding [ov] (getMethod ov m pl)
   callWith pos f first (backTo pos (starEach [] X.env)) (backToKw pos (keywordEach [] X.env))):=by rfl):EvD X α (.Call (.Attribute o m apos) [] [] pos) Q:=fun F σ H R m' kk=>by
 obtain⟨f,fd,ps,c,hm,hb,G⟩:=M'.ex
 refine⟨_,vX zd c hm G hr hb .nil zK ht,?_⟩
 refine h F σ H _ m' fun x vx H1 q1 t1 k1 r1=>?_
 obtain⟨fs,rfl,hf,q⟩:=q1
 have m1:=m'.kz k1 t1
 obtain⟨a,dx,gs,rfl,h1,h2⟩:=r1.ins_inv
 refine⟨a,dx,gs,rfl,(zf h1).2,h2.none hf,?_⟩
 have cf:=xg (vs:=[.ref a]) (as:=[.dat (xi C fs)]) (R:=R) (E:=E0) m1 (.cons r1 .nil) q fun z v H' qa ra=>by
  obtain⟨g1,g2,g3⟩:=ra.back m1
  exact kk _ v H' qa g1 (k1.trans g2) g3
 exact cf
theorem uG {k:Nat}{φ:List A→(A→Prop)→Prop}{pl:Sem Bool}{Q:List PyData→Prop}(M':vN X.prog X.w X.K X.mg X.base C m k φ)(hr:zJ k X.A)(h:EvD X α o fun x=>∃fs,x=xi C fs∧vp fs m=none∧φ [.dat (xi C fs)] fun a=>∃ds,a=.own ds∧Q ds)
  (ht:eval (.Call (.Attribute o m apos) [] [] pos) X.env=(do
   let ov ←eval o X.env
   standAt apos.atName
   let (f,first) ←holding [ov] (getMethod ov m pl)
   callWith pos f first (backTo pos (starEach [] X.env)) (backToKw pos (keywordEach [] X.env))):=by rfl):EvL X α (.Call (.Attribute o m apos) [] [] pos) Q:=fun F σ H R m' kk=>by
 obtain⟨f,fd,ps,c,hm,hb,G⟩:=M'.ex
 refine⟨_,vX zd c hm G hr hb .nil zK ht,?_⟩
 refine h F σ H _ m' fun x vx H1 q1 t1 k1 r1=>?_
 obtain⟨fs,rfl,hf,q⟩:=q1
 have m1:=m'.kz k1 t1
 obtain⟨a,dx,gs,rfl,h1,h2⟩:=r1.ins_inv
 refine⟨a,dx,gs,rfl,(zf h1).2,h2.none hf,?_⟩
 have cf:=xg (vs:=[.ref a]) (as:=[.dat (xi C fs)]) (R:=R) (E:=E0) m1 (.cons r1 .nil) q fun z v H' qa ra=>by
  obtain⟨ds,rfl,q⟩:=qa
  obtain⟨g1,g2,_⟩:=ra.back m1
  obtain⟨_,_,l,xs,ds',rfl,hc,h1,h2,h3,h4⟩:=ra
  cases hc
  exact kk ds _ H' q g1 (k1.trans g2) (yA.back m' k1 t1 ⟨l,xs,rfl,h1,h3,h4⟩)
 exact cf
def hG (F:Fr)(v:V)(H':Hp)(d:PyData):Prop:=zB F H'∧Kz F F.H0 H'∧AV (sub (fun x=>¬F.O0 x∧∀xs,F.H0 x≠some (.lst xs)) H') v d
def EvN (X:Cx)(α:Ev)(e:Expr)(Q:PyData→Prop):Prop:=∀(F:Fr) (σ:St) (H:Hp) (R:VK),M F α σ H→(∀d v H',Q d→zB F H'→Kz F H H'→AV (sub (fun x=>¬Ow F α σ x∧∀xs,H x≠some (.lst xs)) H') v d→R v H')→vO X e σ H R
theorem EvN.d (h:EvN X α e Q):EvD X α e Q:=fun F σ H R m k=>h F σ H R m fun d v H' q t z r=>k d v H' q t z (r.same (zo fun a o h e=>⟨h.1,e⟩))
def spI (C:Addr)(φ:List A→(A→Prop)→Prop):Sp:=fun vs H Qc _=>∃(F:Fr) (as:List A) (Q:A→Prop) (x dx:Addr) (vs':List V) (H1:Hp),vs=.ref x::vs'∧H1 x=none∧H1 dx=none∧dx≠x∧H=upd (upd H1 dx (.own x)) x (.ins C dx [])∧
 F.H0=H1∧zB F H1∧(∀y,F.O0 y→∃u,H1 y=some u∧xK u)∧zR F (sub (fun y=>¬F.O0 y) H1) vs' as∧φ as Q∧∀d H',Q (.dat d)→hG F (.ref x) H' d→Qc .non H'
structure nA (P:Program)(w:World)(K:PySem.W.Frag)(mg:Str→Option Value)(base:Heap)(x:Str)(k:Nat)(dvs:List V)(φ:List A→(A→Prop)→Prop):Prop where
 ex:∃C f fd ps ds,mg x=some (.ref C)∧Mk K C f∧Binds K fd ps ds∧Vals dvs ds∧zv P w K mg base CX0 k f fd ps (spI C φ)
theorem qx {F:Fr}{σ:St}{H:Hp}{vs:List V}{as:List A}{QA:A→Prop}{R:VK}{φ:List A→(A→Prop)→Prop}(m:M F α σ H)(rv:zR F (Gz F α σ H) vs as)(hφ:φ as QA)
  (kk:∀d v H',QA (.dat d)→hG ⟨H,Ow F α σ,F.tp⟩ v H' d→R v H') {E:XK} (x dx:Addr) (hx:H x=none) (hdx:H dx=none) (hne:dx≠x):spI C φ (.ref x::vs) (upd (upd H dx (.own x)) x (.ins C dx [])) (fun v H2=>v=.non∧R (.ref x) H2) E:=by
 refine⟨⟨H,Ow F α σ,F.tp⟩,as,QA,x,dx,vs,H,rfl,hx,hdx,hne,rfl,rfl,?_,?_,?_,hφ,fun d H' qa ra=>⟨rfl,kk d _ H' qa ra⟩⟩
 ·exact m.tp.to rfl fun _ z=>.inl z
 ·exact fun y z=>m.owEx z
 ·exact zR.to (F:=F) (F':=⟨H,Ow F α σ,F.tp⟩) (fun _ _ e=>e) rfl rv
theorem hG.back {F:Fr}{σ:St}{H H1 H':Hp}{v:V}{d:PyData}(m:M F α σ H)(k1:Kz F H H1)(h:hG ⟨H1,Ow F α σ,F.tp⟩ v H' d):zB F H'∧Kz F H1 H'∧AV (sub (fun x=>¬Ow F α σ x∧∀xs,H x≠some (.lst xs)) H') v d:=by
 obtain⟨t,kz,r⟩:=h
 refine⟨m.tp.re t rfl,kz,r.same (zo fun a o h e=>⟨⟨h.1,fun xs z=>h.2 xs (k1 _ _ z (m.tp.nt (ow0 h.1)))⟩,e⟩)⟩
theorem iu {k:Nat}{φ:List A→(A→Prop)→Prop}{x:Str}(M':nA X.prog X.w X.K X.mg X.base x k [] φ)(hr:zJ (k+1) X.A)(hg:Gl X x)(h:EvA X α (e::es) fun as=>φ as fun a=>Q a.d)
  (hdb:(x == ("__debug__":Str))=false:=by decide) (he:starEach (e::es) X.env=(false,eval e X.env)::starEach es X.env:=by rfl) (hpl:(backTo pos (starEach es X.env)).any (·.1)=false:=by rfl):EvN X α (.Call (.Name x p) (e::es) [] pos) Q:=fun F σ H R m kk=>by
 obtain⟨C,f,fd,ps,ds,hm,hk,hb,hd,G⟩:=M'.ex
 cases hd
 refine⟨_,xm hk G hr hg hm hb .nil zK yP hdb he hpl,?_⟩
 refine h F σ H _ m fun as vs H1 q1 t1 k1 r1=>?_
 have m1:=m.kz k1 t1
 intro y dx hy hdx hne
 rw[ze4]
 refine qx m1 r1 q1 (fun d v H' qa ra=>?_) y dx hy hdx hne
 obtain⟨g1,g2,g3⟩:=ra.back m k1
 exact kk d v H' qa g1 (k1.trans g2) g3
end
structure fH (K:PySem.W.Frag)(x qual:Str)(st:Stmt)(dV:Value)(f:Addr)(fd:FuncData):Prop where
 ex:∃(oc:Value) (od:Option Addr) (kV doc pm:Value) (an:Option Addr) (cdv ct:Value) (osl:Array (Option Value)),
  fd=PySem.W.fnOf x qual (zS st) (zA st) (zb st) dV kV doc pm an cdv ct∧K.lookup f=some ⟨oc,od,.func fd,osl⟩∧PySem.W.codeIn K cdv qual=true
 kp:PySem.W.keepIn K (.ref f)=true
theorem iI {K:PySem.W.Frag}{x qual:Str}{st:Stmt}{f:Addr}{oc:Value}{od an:Option Addr}{osl:Array (Option Value)}{dV kV doc pm cdv ct:Value}(l:K.lookup f=some ⟨oc,od,.func (PySem.W.fnOf x qual (zS st) (zA st) (zb st) dV kV doc pm an cdv ct),osl⟩)
  (c:PySem.W.codeIn K cdv qual=true) (k:PySem.W.keepIn K (.ref f)=true):fH K x qual st dV f (PySem.W.fnOf x qual (zS st) (zA st) (zb st) dV kV doc pm an cdv ct):=⟨⟨oc,od,kV,doc,pm,an,cdv,ct,osl,rfl,l,c⟩,k⟩
section
variable {P:Program}{w:World}{K:PySem.W.Frag}{mg:Str→Option Value}{base:Heap}
theorem bc {qual:Str}{st:Stmt}{f C:Addr}{dV:Value}{fd:FuncData}{N:List Str}{x:Str}{k:Nat}{φ:List A→(A→Prop)→Prop}{fl:Str}{e:Expr}{p1 p2 p3:Pos}(G:fH K "__init__" qual st dV f fd)(S:zi ("self"::x::N) ["self",x] (zb st))(c:Cls K C)(na:yD K C fl)
  (hb:zA st=[.Assign [.Attribute (.Name "self" p1) fl p2] e p3]) (hlen:∀as Q,φ as Q→as.length=1)
  (hbody:∀(cdv:Value) (A':Around) (outer:List Env) (s:Shared) (H:Hp) (E:XK) (as:List A) (Q:A→Prop),zJ k (A'.deeper (envOfC qual (zb st) s.heap.objs.size f cdv))→φ as Q→
   EvL (vq CX0 P w K mg base ("self"::x::N) qual (zb st) f cdv A' outer s H E).nox (none::as.map some++List.replicate N.length none) e fun ds=>sX ds=true∧Q (.dat (xi C [(.str fl,.list ds)])))
  (hsw:∀(cdv:Value) (A':Around) (outer:List Env) (s:Shared) (H:Hp) (E:XK),swapsWith e (some (.Attribute (.Name "self" p1) fl p2)) p3.line (vq CX0 P w K mg base ("self"::x::N) qual (zb st) f cdv A' outer s H E).nox.env=pure false)
  (hv:Vis (zb st) "self"):zv P w K mg base CX0 (k+1) f fd ["self",x] (spI C φ):=by
 obtain⟨oc,od,kV,doc,pm,an,cdv,ct,osl,rfl,lk,hcd⟩:=G.ex
 refine gW lk hcd S (fun vs H Q E h=>?_) fun A' outer s H vs Qc E hr h=>?_
 ·obtain⟨F,as,Q',y,dx,vs',H1,rfl,_,_,_,_,_,_,_,rv,hφ,_⟩:=h
  rw[aJ,rv.length,hlen as _ hφ]
  rfl
 ·obtain⟨F,as,Q',y,dx,vs',H1,rfl,hy,hdx,hne,rfl,rfl,t,o,rv,hφ,kk⟩:=h
  have hl:=rv.length
  have hl1:=hlen as _ hφ
  rw[hb]
  refine⟨_,(show PSs _ _ _ from (zp (sQ (X:=(vq CX0 P w K mg base ("self"::x::N) qual (zb st) f cdv A' outer s (upd (upd F.H0 dx (.own y)) y (.ins C dx [])) E).nox) (yZ (i:=0) rfl hv) zd (hsw cdv A' outer s _ E))).nox),?_⟩
  let F2:Fr:=⟨F.H0,fun z=>F.O0 z∨z=y∨z=dx,F.tp⟩
  have s1:zr F.H0 (upd (upd F.H0 dx (.own y)) y (.ins C dx [])):=fun a u q=>by
   rw[zj (zh q hy),zj (zh q hdx)];exact q
  have noy:¬F.O0 y:=fun z=>by obtain⟨u,hu,_⟩:=o y z;rw[hy] at hu;cases hu
  have nodx:¬F.O0 dx:=fun z=>by obtain⟨u,hu,_⟩:=o dx z;rw[hdx] at hu;cases hu
  have t2:zB F2 (upd (upd F.H0 dx (.own y)) y (.ins C dx [])):=(t.same s1).to rfl fun _ z=>.inl z
  -- the names of the body
  have g:∀{i:Nat} {a:A},(none::as.map some++List.replicate N.length none:Ev)[i]?=some (some a)→∃j,i=j+1∧as[j]?=some a:=fun {i a} h=>by
   cases i with
   |zero=>simp at h
   |succ j=>
    refine⟨j,rfl,?_⟩
    have h':(as.map some++List.replicate N.length none:Ev)[j]?=some (some a):=by simpa using h
    rcases Nat.lt_or_ge j as.length with z|z
    ·rw[zc1 (by rw[ax];exact z),aU,za3] at h'
     obtain⟨b,h1,h2⟩:=h'
     cases h2;exact h1
    ·rw[zc7 (by rw[ax];exact z),zd2] at h'
     split at h'<;>cases h'
  have at':∀{vs:List V} {as:List A} {i:Nat} {a:A},zR F (sub (fun x=>¬F.O0 x) F.H0) vs as→as[i]?=some a→∃v,vs[i]?=some v∧nY F (sub (fun x=>¬F.O0 x) F.H0) v a:=by
   intro vs as i a h
   induction h generalizing i with
   |nil=>intro e;simp at e
   |cons h r ih=>
    intro e
    cases i with
    |zero=>simp at e;subst e;exact⟨_,rfl,h⟩
    |succ i=>obtain⟨v,h1,h2⟩:=ih (by simpa using e);exact⟨v,by simpa using h1,h2⟩
  have gv:∀{j:Nat} {v:V},vs'[j]?=some v→(L2.start ("self"::x::N) (.ref y::vs'))[j+1]?=some (some v):=fun {j v} h=>by
   have hj:j<vs'.length:=(aH.mp h).1
   unfold L2.start
   rw[zc1 (by rw[ax,aJ];omega),aU,List.getElem?_cons_succ,h];rfl
  have no:∀(i:Nat) a,(none::as.map some++List.replicate N.length none:Ev)[i]?=some (some a)→(∃d,a=.dat d)∨a=.tape:=fun i a z=>by
   obtain⟨j,_,hj⟩:=g z
   obtain⟨v,_,h⟩:=at' rv hj
   cases a with
   |dat d=>exact .inl ⟨d,rfl⟩
   |tape=>exact .inr rfl
   |_=>exact h.elim
  have gs:zr (sub (fun x=>¬F.O0 x) F.H0) (Gz F2 (none::as.map some++List.replicate N.length none) (L2.start ("self"::x::N) (.ref y::vs')) (upd (upd F.H0 dx (.own y)) y (.ins C dx []))):=fun a u q=>by
   obtain⟨z1,z2⟩:=zf q
   refine zQ ?_ (s1 _ _ z2)
   rintro ((z|z|z)|⟨i,b,s,e,_,f⟩)
   ·exact z1 z
   ·rw[z,hy] at z2;cases z2
   ·rw[z,hdx] at z2;cases z2
   ·rcases no i b e with ⟨d,rfl⟩|rfl
    ·exact f.elim
    ·exact f.elim
  have m2:M F2 (none::as.map some++List.replicate N.length none) (L2.start ("self"::x::N) (.ref y::vs')) (upd (upd F.H0 dx (.own y)) y (.ins C dx [])):=by
   refine⟨by unfold L2.start;simp[hl,hl1],fun i a s e1 e2=>?_,fun i j a b s t x e1 _ _ _ f=>?_,fun i r q z=>(by rcases no i _ z with ⟨d,w⟩|w<;>cases w),t2,fun z u h _=>s1 z u h,fun z hz=>?_⟩
   ·obtain⟨j,rfl,hj⟩:=g e1
    obtain⟨v,h1,h2⟩:=at' rv hj
    rw[gv h1] at e2;cases e2
    rcases no _ a e1 with ⟨d,rfl⟩|rfl
    ·exact⟨v,rfl,AV.same gs h2⟩
    ·obtain⟨t',b,c,h3,rfl⟩:=h2
     exact⟨t',b,c,h3,rfl⟩
   ·rcases no i a e1 with ⟨d,rfl⟩|rfl
    ·exact f.elim
    ·exact f.elim
   ·rcases hz with q|q|q
    ·obtain⟨u,hu,hn⟩:=o z q
     exact⟨u,s1 _ _ hu,hn⟩
    ·exact⟨_,by rw[q];exact zl,fun _ q=>by cases q⟩
    ·exact⟨_,by rw[q,zj hne];exact zl,fun _ q=>by cases q⟩
  refine hbody cdv A' outer s _ E as Q' hr hφ F2 _ _ _ m2 fun d v H2 qd t3 k3 r3=>?_
  obtain⟨l,xs,rfl,hl0,hl2,avl⟩:=r3
  obtain⟨nol,qd⟩:=qd
  have nly:l≠y:=fun z=>by rw[z,zl] at hl0;cases hl0
  have nldx:l≠dx:=fun z=>by rw[z,zj hne,zl] at hl0;cases hl0
  have hl00:F.H0 l=none:=by rw[zj nly,zj nldx] at hl0;exact hl0
  have nol0:¬F.O0 l:=fun z=>by obtain⟨u,hu,_⟩:=o l z;rw[hl00] at hu;cases hu
  have nty:NT F2 y:=t.nt noy
  have hy2:H2 y=some (.ins C dx []):=k3 _ _ zl nty
  refine⟨.ref y,rfl,y,C,dx,[],rfl,hy2,c,na,by show 0<1000;decide,?_⟩
  refine kk _ _ qd ⟨(t.re t3 rfl).updO noy (nc hy2),fun z u h n=>?_,?_⟩
  ·rw[zj (zh h hy)]
   exact k3 _ _ (s1 _ _ h) n
  ·refine AV.ins (zQ ⟨noy,fun xs z=>by rw[hy] at z;cases z⟩ zl) (.cons (.lst (zQ ⟨nol0,fun xs z=>by rw[hl00] at z;cases z⟩ (by rw[zj nly];exact hl2)) ?_) .nil)
   refine avl.noL (fun a u hno z=>?_) nol
   obtain⟨z1,z2⟩:=zf z
   have na:a≠y:=fun w=>z1.1 (.inl (.inr (.inl w)))
   refine zQ ⟨fun w=>z1.1 (.inl (.inl w)),fun xs w=>?_⟩ (by rw[zj na];exact z2)
   have:H2 a=some (.lst xs):=k3 _ _ (s1 _ _ w) (t.nt fun w=>z1.1 (.inl (.inl w)))
   rw[z2] at this
   cases this
   exact hno trivial
end
section
variable {X:Cx}{α:Ev}{e e':Expr}{pos:Pos}{E:yd}{sts:List Stmt}
end
section
variable {X:Cx}{α:Ev}{tg:Expr}{p pos:Pos}{a:Expr}
end
section
variable {X:Cx}{α:Ev}{p pos:Pos}{a:Expr}{g:Str}{Q:PyData→Prop}
def scV :PyData→Option V
 |.none=>some .non
 |.bool b=>some (.bl b)
 |.int i=>some (.int i)
 |.str x=>some (.str x)
 |_=>Option.none
end
section
variable {X:Cx}{α:Ev}{p pos:Pos}{a b:Expr}{g:Str}{Q:PyData→Prop}
theorem yj (h:EvD X α a fun x=>EvD X α b fun y=>∃i j,x=.str i∧y=.str j∧i.length+j.length≤sizeLine∧Q (.str (i++j))):EvD X α (.BinOp a .Add b pos) Q:=by
 refine vZ (f:=tOp _) (yL qH zd zd) (fun _ _ _=>Iff.rfl) (h.imp fun x h=>h.imp fun y ⟨i,j,e1,e2,hl,hq⟩=>?_)
 subst e1 e2
 intro F σ H vx vy R m rx ry k
 cases rx.str_inv;cases ry.str_inv
 exact⟨i,j,rfl,rfl,hl,k _ _ H hq m.tp Kz.refl (.str _)⟩
def wz :PyData→Bool
 |.none=>true
 |.bool _=>true
 |.int _=>true
 |.str _=>true
 |_=>false
theorem sr {H:Hp}{v:V}{d:PyData}(h:AV H v d)(f:wz d=true):wy v=true∧scV d=some v:=by
 cases h<;>first|exact⟨rfl,rfl⟩|cases f
theorem uA {H:Hp}:∀{xs:List V} {ds:List PyData},AVs H xs ds→ds.all wz=true→xs.all wy=true∧ds.map scV=xs.map some
 |_,_,.nil,_=>⟨rfl,rfl⟩
 |_,_,.cons h r,f=>by
  rw[zh1,aI] at f
  obtain⟨h1,h2⟩:=sr h f.1
  obtain⟨h3,h4⟩:=uA r f.2
  exact⟨by rw[zh1,h1,h3];rfl,by rw[aW,aW,h2,h4]⟩
def inD (x:PyData)(ds:List PyData):Bool:=ds.any fun y=>match scV y,scV x with
 |some u,some v=>eqV u v
 |_,_=>false
theorem sC {v:V}{x:PyData}(hx:scV x=some v):∀{xs:List V} {ds:List PyData},ds.map scV=xs.map some→inV v xs=inD x ds
 |[],[],_=>rfl
 |[],_::_,e=>by cases e
 |_::_,[],e=>by cases e
 |u::xs,d::ds,e=>by
  rw[aW,aW] at e
  injection e with e1 e2
  have ih:=sC hx e2
  unfold inV inD at ih ⊢
  rw[zh2,zh2,ih,e1,hx]
theorem dA {neg:Bool}{x:PyData}{ds:List PyData}(fx:wz x=true)(fs:ds.all wz=true):Cmp (rIn X.K neg) x (.list ds) (if neg then !inD x ds else inD x ds):=fun p H vx vy R rx ry h=>by
 obtain⟨ad,xs,rfl,g1,g2⟩:=ry.lst_inv
 obtain⟨f1,s1⟩:=sr rx fx
 obtain⟨f2,s2⟩:=uA g2 fs
 refine⟨ad,xs,rfl,.inl (SqL.of (zf g1).2),f1,f2,?_⟩
 rw[sC s1 s2]
 exact h
theorem sA {neg:Bool}{x:PyData}{ds:List PyData}(fx:wz x=true)(fs:ds.all wz=true):Cmp (rIn X.K neg) x (.tuple ds) (if neg then !inD x ds else inD x ds):=fun p H vx vy R rx ry h=>by
 obtain⟨ad,xs,rfl,g1,g2⟩:=ry.tup_inv
 obtain⟨f1,s1⟩:=sr rx fx
 obtain⟨f2,s2⟩:=uA g2 fs
 refine⟨ad,xs,rfl,.inr (SqT.of (zf g1).2),f1,f2,?_⟩
 rw[sC s1 s2]
 exact h
theorem ff {Q:Bool→Prop}(h:EvD X α a fun x=>EvD X α b fun y=>∃ds,(y=.list ds∨y=.tuple ds)∧wz x=true∧ds.all wz=true∧Q (inD x ds))(hm:behindInMarks .In b=false:=by rfl):EvT X α (.Compare a [.In] [b] pos) Q:=
 xp uX hm (h.imp fun x h=>h.imp fun y ⟨ds,e,f1,f2,q⟩=>⟨inD x ds,by rcases e with rfl|rfl;exact dA (neg:=false) f1 f2;exact sA (neg:=false) f1 f2,q⟩)
end
section
variable {X:Cx}{α:Ev}{p pos:Pos}{a b:Expr}{Q:PyData→Prop}
end
section
variable {X:Cx}{α:Ev}{a e:Expr}{pos p2 p3 p4:Pos}{n1:Nat}{te:TE}
end
section
variable {X:Cx}{pins:List (Addr×Obj)}{σ:St}{H:Hp}{s:Shared}
end
section
variable {X:Cx}{α:Ev}{p q pos:Pos}{a b:Expr}
end
section
variable {X:Cx}{α:Ev}{p pos:Pos}{a b:Expr}{Q:PyData→Prop}
structure cV (K:PySem.W.Frag)(C:Addr):Prop where
 cl:Cls K C
 ha:PySem.W.findIn K (.ref C) "__class__"=some (some (.builtin "object.__class__"))
 hn:PySem.W.specialIn K (.builtin "object.__class__") "__get__"=some (some (.builtin "getset_descriptor.__get__"))
 ht:PySem.W.takesIn K (.builtin "object.__class__")=some true
 hm:PySem.W.mroIn K C (.type "object")=some true
theorem iH {C:Addr}{x:Str}{p1:Pos}(hg:Gl X "isinstance")(hm:X.mg "isinstance"=none)(hgC:Gl X x)(hmC:X.mg x=some (.ref C))(h:EvD X α a fun d=>∃C' fs k,d=xi C' fs∧cV X.K C'∧PySem.W.kitOne X.K (.ref C') (.ref C)=some k∧Q (.bool k))
  (hdx:(x == ("__debug__":Str))=false:=by decide) (he:starEach [a,.Name x p1] X.env=(false,eval a X.env)::starEach [.Name x p1] X.env:=by rfl) (he2:starEach [.Name x p1] X.env=(false,eval (.Name x p1) X.env)::starEach [] X.env:=by rfl) (hpl:(backTo pos (starEach [.Name x p1] X.env)).any (·.1)=false:=by rfl):
  EvD X α (.Call (.Name "isinstance" p) [a,.Name x p1] [] pos) Q:=fun F σ H R m k=>by
 refine⟨_,yh mq hg hm zc6 (zc zd (zc (xF (v:=.ref C) hgC hmC rfl hdx) zm he2) he) (he:=he) (hpl:=hpl),?_⟩
 refine h F σ H _ m fun d vx H1 q1 t1 k1 r1=>?_
 obtain⟨C',fs,b,rfl,ck,e,q⟩:=q1
 obtain⟨ad,dx,gs,rfl,h1,h2⟩:=r1.ins_inv
 exact⟨.ref ad,C,.ref C',b,rfl,wx.ins (zf h1).2 ck.cl ck.ha ck.hn ck.ht ck.hm,e,k _ _ H1 q t1 k1 (.bl b)⟩
end
open PySem.W SortA
section
variable {P:Program}{w:World}{K:PySem.W.Frag}{mg:Str→Option Value}{base:Heap}
end
section
variable {X:Cx}{α:Ev}{Q:PyData→Prop}{a b:Expr}{pos:Pos}
end
open PySem (IsZip)
section
variable {prog:Program}{w:World}{A:Around}{E:Value→Shared→Prop}{s:Shared}
abbrev z3 (n:Nat):List Addr:=[(n:Nat),(n+1:Nat),(n+2:Nat),(n+3:Nat),(n+4:Nat),(n+5:Nat)]
end
section
variable {X:Cx}{pins:List (Addr×Obj)}{σ:St}{H:Hp}{s:Shared}
end
section
variable {prog:Program}{w:World}{A:Around}{E:Value→Shared→Prop}{s:Shared}
end
section
variable {X:Cx}{pins:List (Addr×Obj)}{σ:St}{H:Hp}{s:Shared}
end
section
variable {X:Cx}{pins:List (Addr×Obj)}{σ:St}{H:Hp}{s:Shared}
variable {a b c:Expr}{p p0 pos pos2:Pos}
end
section
variable {X:Cx}{α:Ev}{a b c:Expr}{p p0 pos pos2:Pos}
end
section
variable {κ:Type}[DecidableEq κ]
def uO (kvs:List (κ×V))(k:κ):Option V:=(kvs.find? fun kv=>decide (kv.1=k)).map (·.2)
theorem uw {p:κ×V}{r:List (κ×V)}{k:κ}(e:p.1=k):uO (p::r) k=some p.2:=by simp[uO,zd5,e]
theorem uI {p:κ×V}{r:List (κ×V)}{k:κ}(e:¬p.1=k):uO (p::r) k=uO r k:=by simp[uO,zd5,e]
theorem wu.isSome_eq {o:Option V}{u:Option Value}(r:wu o u):o.isSome=u.isSome:=by
 cases o with
 |none=>cases u with
  |none=>rfl
  |some _=>exact (show False from r).elim
 |some _=>cases u with
  |none=>exact (show False from r).elim
  |some _=>rfl
theorem KV.val {kvs:List (κ×V)}{vs:List (κ×Value)}(r:KV kvs vs)(k:κ):wu (uO kvs k) (valueAt vs k):=by
 unfold KV at r
 induction r with
 |nil=>exact True.intro
 |@cons p q ps qs h t ih=>
  obtain⟨h1,h2⟩:=h
  by_cases e:p.1=k
  ·have e':q.1=k:=h1.symm.trans e
   have b:valueAt (q::qs) k=some q.2:=by simp[valueAt,zd5,e']
   rw[uw e,b];exact h2
  ·have e':¬q.1=k:=fun z=>e (h1.trans z)
   have b:valueAt (q::qs) k=valueAt qs k:=by simp[valueAt,zd5,e']
   rw[uI e,b];exact ih
end
theorem jN {P:Program}{w:World}{k:Key}{u:Value}(r:RelV (kV k) u):(yz P w).is k u=true:=by
 cases k with
 |inl i=>obtain⟨t,e⟩:=(show ∃t,u=Value.int i t from r);subst e;exact rq P w i t
 |inr x=>obtain⟨t,e⟩:=(show ∃t,u=Value.str x t from r);subst e;exact rk P w x t
theorem tw {P:Program}{w:World}:∀{ks:List Key} {us:List Value},Vals (ks.map kV) us→ItemsAre (yz P w) ks us
 |[],_,r=>by rw[List.map_nil] at r;cases r;exact .nil
 |k::ks,_,r=>by
  rw[aW] at r
  cases r with
  |cons h t=>exact .cons (jN h) (tw t)
abbrev KT (H:Hp):List (List Key×V)→List (List Key×Addr×Value)→Prop:=Paired fun p q=>p.1=q.1∧H q.2.1=some (.tup (p.1.map kV))∧RelV p.2 q.2.2
theorem KT.val {H:Hp}{kvs:List (List Key×V)}{xs:List (List Key×Addr×Value)}(r:KT H kvs xs)(k:List Key):wu (uO kvs k) ((atKey xs k).map (·.2)):=by
 induction r with
 |nil=>exact True.intro
 |@cons p q ps qs h t ih=>
  obtain⟨h1,_,h2⟩:=h
  by_cases e:p.1=k
  ·have e':q.1=k:=h1.symm.trans e
   have b:atKey (q::qs) k=some q.2:=by simp[atKey,zd5,e']
   rw[uw e,b];exact h2
  ·have e':¬q.1=k:=fun z=>e (h1.trans z)
   have b:atKey (q::qs) k=atKey qs k:=by simp[atKey,zd5,e']
   rw[uI e,b];exact ih
section
variable {P:Program}{w:World}{H:Hp}{h:Heap}{a:Addr}
theorem fc {u:HO}(ok:HOk P w H h)(e:Rd H a u):zW P w H h a u:=e.ok ok
theorem jn {kvs:List (Key×V)}(ok:HOk P w H h)(e:Rd H a (.dK kvs)):kvs.length≤sizeLine∧(a == sysModules)=false∧∃vs,KV kvs vs∧h.DictOf (yz P w) a vs:=
 show zW P w H h a (.dK kvs) from fc ok e
theorem pb {ks:List Key}(ok:HOk P w H h)(e:H a=some (.tup (ks.map kV))):(tupleKind (yz P w)).is h ks a:=by
 obtain⟨_,its,r,o,h1,h2,n,h3⟩:=(show zW P w H h a (.tup (ks.map kV)) from ok a _ e)
 exact⟨o,its.toArray,n,h1,h2,h3,by simpa using tw r⟩
theorem jI {kvs:List (List Key×V)}(ok:HOk P w H h)(e:Rd H a (.dT kvs)):kvs.length≤sizeLine∧(a == sysModules)=false∧
  ∃xs,KT H kvs xs∧h.DictOfH (tupleKind (yz P w)) a xs:=by
 obtain⟨z,y,xs,r,o,es,ep,h1,h2,h3,h4,h5⟩:=(show zW P w H h a (.dT kvs) from fc ok e)
 refine⟨z,y,xs,r,o,es,ep,h1,h2,h3,h4,fun x hx=>?_,h5⟩
 have all:∀{l:List (List Key×V)} {m:List (List Key×Addr×Value)},KT H l m→∀x∈m,(tupleKind (yz P w)).is h x.1 x.2.1:=by
  intro l m q
  induction q with
  |nil=>intro x hx;exact nomatch hx
  |@cons p q ps qs hq t ih=>
   intro x hx
   rcases ay.mp hx with e|hx
   ·subst e
    exact pb ok (by rw[←hq.1];exact hq.2.1)
   ·exact ih x hx
 exact all r x hx
end
def kF (H:Hp)(a:Addr)(y:V)(r:Option V):Prop:=
 (∃kvs k,Rd H a (.dK kvs)∧y=kV k∧r=uO kvs k)∨∃kvs k b,Rd H a (.dT kvs)∧y=.ref b∧H b=some (.tup (k.map kV))∧r=uO kvs k
section
variable {X:Cx}{pins:List (Addr×Obj)}{σ:St}{H:Hp}{s:Shared}{a:Addr}{y v:V}{u r:Value}{o:Option V}{A:Around}{E:Value→Shared→Prop}
theorem nK {Q:Value→Shared→Prop}(hu:A.units+1<cLine)(I:Inv X pins σ H s)(g:kF H a y (some v))(ry:RelV y u)(h:∀w' s',Inv X pins σ H s'→RelV v w'→Q w' s'):
  wpAny (model X.prog X.w) A (getItem (.ref a) u) Q E s:=by
 rcases g with ⟨kvs,k,e,ey,l⟩|⟨kvs,k,b,e,ey,eb,l⟩
 ·subst ey
  obtain⟨z,hd,vs,rel,dd⟩:=jn I.hok e
  obtain⟨w',hw,rw'⟩:=wu.some_of (v:=v) (o:=valueAt vs k) (by rw[l];exact rel.val k)
  exact wpAny_getItem_of (jN ry) dd.mapOf hw (h w' _ (I.tok _) rw')
 ·subst ey
  cases (show u=Value.ref b from ry)
  obtain⟨z,hd,xs,rel,dd⟩:=jI I.hok e
  obtain⟨w',hw,rw'⟩:=wu.some_of (v:=v) (o:=(atKey xs k).map (·.2)) (by rw[l];exact rel.val k)
  obtain⟨p,hp,hp2⟩:=za3.mp hw
  refine wpAny_getItem_heap (tupleKind_room_in1 hu) (pb I.hok eb) dd hp ?_
  rw[hp2]
  exact h w' _ (I.tok _) rw'
theorem bL {Q:Value→Shared→Prop}(hu:A.units+1<cLine)(I:Inv X pins σ H s)(g:kF H a y o)(ry:RelV y u)(h:∀s',Inv X pins σ H s'→Q (.bool o.isSome) s'):
  wpAny (model X.prog X.w) A (compareOp .In u (.ref a)) Q E s:=by
 rcases g with ⟨kvs,k,e,ey,l⟩|⟨kvs,k,b,e,ey,eb,l⟩
 ·subst ey
  obtain⟨z,hd,vs,rel,dd⟩:=jn I.hok e
  refine wpAny_in_of (jN ry) hd dd.mapOf ?_
  rw[←(rel.val k).isSome_eq,←l]
  exact h _ (I.tok _)
 ·subst ey
  cases (show u=Value.ref b from ry)
  obtain⟨z,hd,xs,rel,dd⟩:=jI I.hok e
  refine wpAny_in_heap (tupleKind_room_in1 hu) (pb I.hok eb) hd dd ?_
  have q:=(rel.val k).isSome_eq
  rw[Option.isSome_map] at q
  rw[←q,←l]
  exact h _ (I.tok _)
end
section
variable {X:Cx}{pins:List (Addr×Obj)}{σ:St}{H:Hp}{s:Shared}{a:Addr}{kvs:List (Key×V)}{k:Key}{u:Value}{A:Around}{E:Value→Shared→Prop}
end
theorem sY {X:Cx}{pins:List (Addr×Obj)}{σ:St}{H:Hp}{s:Shared}{a:Addr}{y:V}{o:Option V}(I:Inv X pins σ H s)(g:kF H a y o):s.TypeIs (.ref a) "dict":=by
 rcases g with ⟨kvs,k,e,_,_⟩|⟨kvs,k,b,e,_,_,_⟩
 ·obtain⟨_,_,vs,_,dd⟩:=jn I.hok e
  exact dd.typeIs
 ·obtain⟨_,_,xs,_,dd⟩:=jI I.hok e
  exact dd.typeIs
section
variable {X:Cx}{o i e value:Expr}{pos pos' tpos:Pos}{td ty tv:TE}
end
section
variable {X:Cx}{pos:Pos}
end
section
variable {X:Cx}{pins:List (Addr×Obj)}{σ:St}{H:Hp}{s:Shared}{a:Addr}{y d:V}{u r:Value}{o:Option V}{A:Around}{E:Value→Shared→Prop}
end
section
variable {X:Cx}{o e f:Expr}{apos cpos:Pos}{td ty tx:TE}
end
section
variable {X:Cx}{pins:List (Addr×Obj)}{σ:St}{H:Hp}{s:Shared}{a:Addr}{kvs:List (Key×V)}{A:Around}{E:Value→Shared→Prop}
end
section
variable {X:Cx}{pins:List (Addr×Obj)}{σ:St}{H:Hp}{s:Shared}{a:Addr}{y:V}{u:Value}{A:Around}{E:Value→Shared→Prop}
end
def kEq :PyData→Key→Bool
 |.int i,.inl j=>decide (i=j)
 |.str x,.inr y=>decide (x=y)
 |_,_=>false
theorem lK (k j:Key):kEq (oX k) j=decide (k=j):=by
 cases k<;>cases j<;>simp[kEq,oX]
def gB :List (PyData×PyData)→Key→Option PyData
 |[],_=>none
 |(p,d)::r,k=>if kEq p k=true then some d else gB r k
theorem AVk.get {H:Hp}:∀{kvs:List (Key×V)} {ds:List (PyData×PyData)} {k:Key} {d:PyData},AVk H kvs ds→gB ds k=some d→∃v,uO kvs k=some v∧AV H v d
 |_,_,k,d,.nil,e=>by cases e
 |_,_,k,d,.cons (k:=j) h r,e=>by
  unfold gB at e
  rw[lK] at e
  by_cases z:j=k
  ·rw[aQ z,if_pos rfl] at e
   cases e
   exact⟨_,uw z,h⟩
  ·rw[aK z,if_neg (by decide)] at e
   rw[uI z]
   exact AVk.get r e
theorem iM {H:Hp}{v:V}{k:Key}(h:AV H v (oX k)):v=kV k:=by
 cases k with
 |inl i=>exact h.int_inv
 |inr x=>exact h.str_inv
theorem AV.dk_inv {H:Hp}{v:V}{ds:List (PyData×PyData)}(h:AV H v (gm ds)):∃a o kvs,v=.ref a∧H a=some (.frz o (.dK kvs))∧AVk H kvs ds:=by
 generalize e:gm ds=d at h
 cases h with
 |dk h1 h2=>cases e;exact⟨_,_,_,rfl,h1,h2⟩
 |_=>cases e
section
variable {X:Cx}{pins:List (Addr×Obj)}{σ:St}{H:Hp}{s:Shared}{l:Addr}{kvs:List (Key×V)}
end
section
variable {X:Cx}{e:Expr}{sts:List Stmt}
end
section
variable {X:Cx}{α:Ev}{e a b:Expr}{pos p:Pos}{Q:PyData→Prop}
end
section
variable {X:Cx}{α:Ev}{e a b:Expr}{pos p:Pos}{Q:PyData→Prop}
end
section
variable {X:Cx}{tg:Expr}
end
section
variable {X:Cx}{α:Ev}{e a b tg:Expr}{pos p:Pos}{Q:List PyData→Prop}
end
mutual
def ltD :PyData→PyData→Option Bool
 |.int a,.int b=>some (decide (a<b))
 |.str a,.str b=>some (decide (a.cps.toList<b.cps.toList))
 |.tuple xs,.tuple ys=>ba xs ys
 |_,_=>none
def ba :List PyData→List PyData→Option Bool
 |[],[]=>some false
 |[],_::_=>some true
 |_::_,[]=>some false
 |x::xs,y::ys=>if PyData.eqv x y=true then ba xs ys else ltD x y
end
section
open PySem.SeqAt
open PySem.AutoSeq1 (wpAny_loadPart')
open PySem.MeetsSeq PySem.MeetsSeq2 PySem.MeetsSeq3
end
section
variable {prog:Program}{w:World}{A:Around}{R:Result→Shared→Prop}{it:Addr}{fp wr:List Addr}{m:Nat}{P:Nat→Value→Prop}{St:Nat→Heap→Prop}
end
section
variable {prog:Program}{w:World}{A:Around}{E:Value→Shared→Prop}{s:Shared}
end
section
variable {X:Cx}{α:Ev}{e:Expr}{pos p:Pos}{Q:PyData→Prop}
end
section
variable {prog:Program}{w:World}{A:Around}{E:Value→Shared→Prop}{s:Shared}{it l:Addr}{items:Array Value}
end
section
variable {X:Cx}{α:Ev}{a e c:Expr}{p p0 pos pos2:Pos}{Q:List PyData→Prop}
end
def nj (Q:PyData→Prop):List PyData→Prop
 |[]=>True
 |d::r=>Q d∧nj Q r
theorem nj.mem {Q:PyData→Prop}:∀{ds:List PyData},nj Q ds→∀d∈ds,Q d
 |[],_,d,h=>by cases h
 |x::r,h,d,hd=>by
  rcases ay.mp hd with rfl|hd
  ·exact h.1
  ·exact nj.mem h.2 d hd
theorem lI {x:PyData}{ds:List PyData}{v:Int}{Q:PyData→Prop}(P:PyData→Prop)(hx:vi x=some ds)(h0:0≤v)(h1:v<ds.length)(h:nj P ds)(k:∀d,P d→Q d):∃ds i d,vi x=some ds∧PyData.int v=.int i∧atI ds i=some d∧Q d:=by
 obtain⟨d,hd,e⟩:=vG h0 h1
 exact⟨ds,v,d,hx,rfl,e,k d (h.mem d hd)⟩
theorem cy {k:Bool}{p q:Prop}(h1:k=true→p)(h2:k=false→q):if k=true then p else q:=by
 cases k with
 |true=>exact h1 rfl
 |false=>exact h2 rfl
section
variable {X:Cx}{α:Ev}{e a b:Expr}{pos p:Pos}{E:yd}{rest:List Stmt}
end
def cW :R2:=fun x y H R=>rEq x y H R∨cP x y H R
def cN :R2:=fun x y H R=>rNe x y H R∨cD x y H R
theorem jR {X:Cx}(hu:X.A.units+64<cLine):OpR X (compareOp .Eq) cW:=fun pins s σ H x y v u Q I rx ry h=>h.elim (fun h=>xM _ _ _ _ _ _ _ _ _ I rx ry h) fun h=>xR hu _ _ _ _ _ _ _ _ _ I rx ry h
theorem mI {X:Cx}(hu:X.A.units+64<cLine):OpR X (compareOp .NotEq) cN:=fun pins s σ H x y v u Q I rx ry h=>h.elim (fun h=>cn _ _ _ _ _ _ _ _ _ I rx ry h) fun h=>eQ hu _ _ _ _ _ _ _ _ _ I rx ry h
theorem iY {i j:Str}:Cmp rNe (.str i) (.str j) (!decide (i=j)):=fun p H vx vy R rx ry h=>by
 cases rx.str_inv;cases ry.str_inv
 refine⟨rfl,?_⟩
 rw[show decide (V.str i=V.str j)=decide (i=j) by simp]
 exact h
def uh (x y:PyData)(Q:Bool→Prop):Prop:=∃k,Cmp cW x y k∧Cmp cN x y (!k)∧Q k
theorem iS {i j:Int}{Q:Bool→Prop}(h:Q (decide (i=j))):uh (.int i) (.int j) Q:=⟨_,fun p H vx vy R rx ry z=>.inl (tP p H vx vy R rx ry z),fun p H vx vy R rx ry z=>.inl (hU p H vx vy R rx ry z),h⟩
theorem vR {i j:Str}{Q:Bool→Prop}(h:Q (decide (i=j))):uh (.str i) (.str j) Q:=⟨_,fun p H vx vy R rx ry z=>.inl (oh p H vx vy R rx ry z),fun p H vx vy R rx ry z=>.inl (iY p H vx vy R rx ry z),h⟩
theorem eqk {x y:PyData}{Q:Bool→Prop}(s1:SeqAt.shaped x=true)(s2:SeqAt.shaped y=true)(d1:x.hasDict=false)(d2:y.hasDict=false)(h:Q (PyData.eqv x y)):uh x y Q:=
 ⟨_,fun p H vx vy R rx ry z=>.inr ⟨x,y,(rx.dv d1).same yW,(ry.dv d2).same yW,s1,s2,z⟩,fun p H vx vy R rx ry z=>.inr ⟨x,y,(rx.dv d1).same yW,(ry.dv d2).same yW,s1,s2,z⟩,h⟩
section
variable {X:Cx}{α:Ev}{a b:Expr}{pos:Pos}{Q:PyData→Prop}{T:Bool→Prop}
theorem dE (hu:X.A.units+64<cLine)(h:EvD X α a fun x=>EvD X α b fun y=>uh x y fun k=>Q (.bool k)):EvD X α (.Compare a [.Eq] [b] pos) Q:=pe (jR hu) (zy _) (h.imp fun x h=>h.imp fun y ⟨k,e,_,q⟩=>⟨k,e,q⟩)
theorem lB (hu:X.A.units+64<cLine)(h:EvD X α a fun x=>EvD X α b fun y=>uh x y fun k=>Q (.bool (!k))):EvD X α (.Compare a [.NotEq] [b] pos) Q:=pe (mI hu) (zy _) (h.imp fun x h=>h.imp fun y ⟨k,_,e,q⟩=>⟨!k,e,q⟩)
theorem lr (hu:X.A.units+64<cLine)(h:EvD X α a fun x=>EvD X α b fun y=>uh x y T):EvT X α (.Compare a [.Eq] [b] pos) T:=xp (jR hu) (zy _) (h.imp fun x h=>h.imp fun y ⟨k,e,_,q⟩=>⟨k,e,q⟩)
theorem ed (hu:X.A.units+64<cLine)(h:EvD X α a fun x=>EvD X α b fun y=>uh x y fun k=>T (!k)):EvT X α (.Compare a [.NotEq] [b] pos) T:=xp (mI hu) (zy _) (h.imp fun x h=>h.imp fun y ⟨k,_,e,q⟩=>⟨!k,e,q⟩)
theorem rM {k:Bool}{p q:Prop}(e:k=true)(h:p):if k=true then p else q:=by rw[if_pos e];exact h
theorem rg {k:Bool}{p q:Prop}(e:k=false)(h:q):if k=true then p else q:=by rw[if_neg (by rw[e];decide)];exact h
variable {E:yd}{s t:List Stmt}
theorem yR {k:Bool}(e:k=true)(h:SvS X α s E):SvS X α (if k=true then s else t) E:=by rw[if_pos e];exact h
theorem yc {k:Bool}(e:k=false)(h:SvS X α t E):SvS X α (if k=true then s else t) E:=by rw[if_neg (by rw[e];decide)];exact h
end
section
variable {X:Cx}{α:Ev}{a b:Expr}{pos:Pos}{Q:PyData→Prop}{T:Bool→Prop}
def cT :R2:=fun x y H Q=>∃a v,x=.ref a∧kF H a y (some v)∧Q v H
theorem iW (hu:X.A.units+1<cLine):IxR X cT:=fun value slice pins s σ H x y v u Q I rx ry h hs=>by
 obtain⟨a,z,rfl,g,q⟩:=h
 cases rx
 exact tail_any (sY I g) PySem.F.slot_dict_getitem.lookup (nK hu I g ry fun w' s' I' r'=>⟨z,H,I',r',q⟩) hs
def iA (x y:PyData)(Q:PyData→Prop):Prop:=(∃ds i d,vi x=some ds∧y=.int i∧atI ds i=some d∧Q d)∨∃ds k d,x=gm ds∧y=oX k∧gB ds k=some d∧Q d
theorem ixk {x y:PyData}{ds:List PyData}{i:Int}{d:PyData}(h1:vi x=some ds)(h2:y=.int i)(h3:atI ds i=some d)(h:Q d):iA x y Q:=.inl ⟨ds,i,d,h1,h2,h3,h⟩
theorem kE {x:PyData}{ds:List PyData}{v:Int}(P:PyData→Prop)(hx:vi x=some ds)(h0:0≤v)(h1:v<ds.length)(h:nj P ds)(k:∀d,P d→Q d):iA x (.int v) Q:=.inl (lI P hx h0 h1 h k)
theorem uz (hu:X.A.units+1<cLine)(hs:vc b)(h:EvD X α a fun x=>EvD X α b fun y=>iA x y Q):EvD X α (.Subscript a b pos) Q:=by
 refine vZ (f:=tOp (fun x y H Q=>rIx X.K x y H Q∨cT x y H Q)) (zV (fK.or (iW hu)) zd zd hs) (fun _ _ _=>Iff.rfl) (h.imp fun x h=>h.imp fun y h=>?_)
 intro F σ H vx vy R m rx ry k
 rcases h with ⟨ds,i,d,e1,rfl,hat,hq⟩|⟨ds,kk,d,rfl,rfl,hv,hq⟩
 ·cases ry.int_inv
  cases x with
  |list ds'=>
   cases e1
   obtain⟨a,xs,rfl,h1,h2⟩:=rx.lst_inv
   obtain⟨v,hv,av⟩:=h2.atI hat
   exact .inl (.inl ⟨a,xs,i,v,rfl,rfl,SqL.of (zf h1).2,hv,k d v H hq m.tp Kz.refl av⟩)
  |tuple ds'=>
   cases e1
   obtain⟨a,xs,rfl,h1,h2⟩:=rx.tup_inv
   obtain⟨v,hv,av⟩:=h2.atI hat
   exact .inl (.inr (.inl ⟨a,xs,i,v,rfl,rfl,SqT.of (zf h1).2,hv,k d v H hq m.tp Kz.refl av⟩))
  |_=>cases e1
 ·obtain⟨a,o,kvs,rfl,g1,g2⟩:=rx.dk_inv
  obtain⟨v,w1,w2⟩:=g2.get hv
  cases iM ry
  exact .inr ⟨a,v,rfl,.inl ⟨kvs,kk,.inr ⟨o,(zf g1).2⟩,rfl,w1.symm⟩,k d v H hq m.tp Kz.refl w2⟩
def eu (K:PySem.W.Frag)(neg:Bool):R2:=fun x y H Q=>rIn K neg x y H Q∨∃a o,y=.ref a∧kF H a x o∧Q (.bl (if neg then !o.isSome else o.isSome)) H
theorem fF (hu:X.A.units+1<cLine):OpR X (compareOp .In) (eu X.K false):=fun pins s σ H x y v u Q I rx ry h=>by
 rcases h with h|⟨a,o,rfl,g,q⟩
 ·exact uX pins s σ H x y v u Q I rx ry h
 ·cases ry
  exact bL hu I g rx fun s' I'=>⟨.bl o.isSome,H,I',rfl,q⟩
def fB (X:Cx)(x y:PyData)(Q:Bool→Prop):Prop:=∃k,Cmp (eu X.K false) x y k∧Cmp (eu X.K true) x y (!k)∧Q k
theorem cU {x:PyData}{ds:List PyData}(f1:wz x=true)(f2:ds.all wz=true)(q:T (inD x ds)):fB X x (.tuple ds) T:=
 ⟨_,fun p H vx vy R rx ry h=>.inl (sA (X:=X) (neg:=false) f1 f2 p H vx vy R rx ry h),fun p H vx vy R rx ry h=>.inl (sA (X:=X) (neg:=true) f1 f2 p H vx vy R rx ry h),q⟩
theorem lX (hu:X.A.units+1<cLine)(h:EvD X α a fun x=>EvD X α b fun y=>fB X x y T)(hm:behindInMarks .In b=false:=by rfl):EvT X α (.Compare a [.In] [b] pos) T:=
 xp (fF hu) hm (h.imp fun x h=>h.imp fun y ⟨k,e,_,q⟩=>⟨k,e,q⟩)
end
theorem zJ.one {k:Nat}{A:Around}(h:zJ k A):A.units+1<cLine:=by have:=h.units;omega
section
variable {X:Cx}{α:Ev}{E:yd}{rest body:List Stmt}{e c tg iter:Expr}{pos p:Pos}
def freeOk (xs:Scope)(y:Str×NameKind):Bool:=match y.2 with
 |.free=>match xs.names.lookup y.1 with
  |some .cell=>true
  |some .free=>true
  |_=>false
 |_=>true
theorem rH {xs scope:Scope}(h:scope.names.all (freeOk xs)=true):∀y∈scope.names,y.2=.free→xs.names.lookup y.1=some .cell∨xs.names.lookup y.1=some .free:=fun y hy e=>by
 have:=zc0.mp h y hy
 unfold freeOk at this
 rw[e] at this
 cases z:xs.names.lookup y.1 with
 |none=>rw[z] at this;cases this
 |some k=>
  rw[z] at this
  cases k<;>first|exact .inl rfl|exact .inr rfl|cases this
theorem uH (N:List Str)(imp:List (Option Nat))(pat:Pat){scope:Scope}{elt:Expr}{ifs:List Expr}{Q:List PyData→Prop}(h:EvI X α tg iter fun ds=>ds.length≤1000∧yw (fun C s2 H2 fp=>X.comp N scope C s2 H2 fp) pat ifs elt (yx imp α) ds [] Q)
  (nd:N.Nodup:=by decide +kernel) (h1:scope.kind=.function:=by rfl) (h2:∀y∈scope.names,y.2≠.cell:=by decide +kernel) (h3:∀y∈scope.names,y.2=.local→scope.names.lookup y.1=some .local:=by decide +kernel) (h4:scope.names.all (freeOk X.env.scope)=true:=by rfl) (h5:imp.length=N.length:=by rfl)
  (h6:((imp.zip N).all fun p=>match p.1 with|none=>true|some j=>X.N[j]? == some p.2&&scope.names.lookup p.2 == some .free)=true:=by rfl) (hfree:pat.free (yx imp α)=true:=by rfl)
  (hg:∀C s2 H2 fp,N.Nodup→PG (X.comp N scope C s2 H2 fp) tg (rA X.K pat):=by intro _ _ _ _ hnd;first|exact zZ hnd rfl (Or.inl rfl)|exact xS rfl rfl (by repeat (first|exact ve|refine yr (zZ hnd rfl (Or.inl rfl)) ?_)))
  (hc:X.calm=true:=by rfl) (hs:∀x,foldedSetIterable iter X.env x=pure x:=by intro _;rfl):EvL X α (.ListComp elt [⟨tg,iter,ifs,0⟩] scope pos) Q:=fh hc ⟨h1,nd,h2,h3,rH h4,h5,h6⟩ hfree (fun C s2 H2 fp=>hg C s2 H2 fp nd) h hs
theorem ja (i:Nat)(N:List Str)(imp:List (Option Nat))(pat:Pat){x:Str}{pos' cpos:Pos}{scope:Scope}{elt:Expr}{ifs:List Expr}(h:EvI X α tg iter fun ds=>ds.length≤1000∧yw (fun C s2 H2 fp=>X.comp N scope C s2 H2 fp) pat ifs elt (yx imp α) ds [] fun ds=>SvS X (α.set i (some (.own ds))) rest E)
  (hN:X.N.Nodup:=by assumption)
  (nd:N.Nodup:=by decide +kernel) (h1:scope.kind=.function:=by rfl) (h2:∀y∈scope.names,y.2≠.cell:=by decide +kernel) (h3:∀y∈scope.names,y.2=.local→scope.names.lookup y.1=some .local:=by decide +kernel) (h4:scope.names.all (freeOk X.env.scope)=true:=by rfl) (h5:imp.length=N.length:=by rfl)
  (h6:((imp.zip N).all fun p=>match p.1 with|none=>true|some j=>X.N[j]? == some p.2&&scope.names.lookup p.2 == some .free)=true:=by rfl) (hfree:pat.free (yx imp α)=true:=by rfl)
  (hg:∀C s2 H2 fp,N.Nodup→PG (X.comp N scope C s2 H2 fp) tg (rA X.K pat):=by intro _ _ _ _ hnd;first|exact zZ hnd rfl (Or.inl rfl)|exact xS rfl rfl (by repeat (first|exact ve|refine yr (zZ hnd rfl (Or.inl rfl)) ?_)))
  (hc:X.calm=true:=by rfl)
  (hi:X.N[i]?=some x:=by rfl) (hx:Loc X.env.scope x:=by first|exact Or.inl rfl|exact Or.inr rfl) (hsw:swapsWith (.ListComp elt [⟨tg,iter,ifs,0⟩] scope cpos) (some (.Name x pos')) pos.line X.env=pure true:=by rfl)
  (hf:X.fn x=true∨X.env.scope.names.lookup x=some .local:=by first|exact .inl rfl|exact .inr rfl|assumption) (hs:∀x,foldedSetIterable iter X.env x=pure x:=by intro _;rfl):
  SvS X α (.Assign [.Name x pos'] (.ListComp elt [⟨tg,iter,ifs,0⟩] scope cpos) pos::rest) E:=bo i hN hc ⟨h1,nd,h2,h3,rH h4,h5,h6⟩ hfree (fun C s2 H2 fp=>hg C s2 H2 fp nd) h hi hx hsw hf hs
end
section
variable {Y:Addr→Shared→Hp→List Addr→Cx}{pat:Pat}{ifs:List Expr}{elt:Expr}{α0:Ev}{ι:Type}{g f:ι→PyData}{l:List ι}{acc:List PyData}{Q:List PyData→Prop}
theorem jw (p:ι→Bool)(f:ι→PyData)(hs:∀x∈l,∃α1,pat.bind (g x) α0=some α1∧(∀C s2 H2 fp (Q:Bool→Prop),Q (p x)→iG (Y C s2 H2 fp) α1 ifs Q)∧(p x=true→∀C s2 H2 fp (Q:PyData→Prop),Q (f x)→EvD (Y C s2 H2 fp) α1 elt Q))
  (hd:Q (acc++(l.filter p).map f)):yw Y pat ifs elt α0 (l.map g) acc Q:=by
 induction l generalizing acc with
 |nil=>
  show Q acc
  simpa using hd
 |cons d ds ih=>
  obtain⟨α1,e,h1,h2⟩:=hs d aA
  refine⟨α1,e,fun C s2 H2 fp=>h1 C s2 H2 fp _ ?_⟩
  have ih':=fun acc=>ih (acc:=acc) fun d hd=>hs d (az _ hd)
  cases hp:p d with
  |true=>
   rw[if_pos rfl]
   refine fun C s2 H2 fp=>h2 hp C s2 H2 fp _ (ih' _ ?_)
   simpa[List.filter_cons,hp] using hd
  |false=>
   rw[if_neg (by decide)]
   refine ih' _ ?_
   simpa[List.filter_cons,hp] using hd
theorem yC (f:ι→PyData)(hs:∀x∈l,∃α1,pat.bind (g x) α0=some α1∧∀C s2 H2 fp (Q:PyData→Prop),Q (f x)→EvD (Y C s2 H2 fp) α1 elt Q)(hd:Q (acc++l.map f)):yw Y pat [] elt α0 (l.map g) acc Q:=
 jw (fun _=>true) f (fun x hx=>by
  obtain⟨α1,h1,h2⟩:=hs x hx
  exact⟨α1,h1,fun _ _ _ _ _ k=>lJ k,fun _=>h2⟩) (by rw[List.filter_eq_self.mpr fun _ _=>rfl];exact hd)
end
section
variable {co:Co}{N:Nat}
end
section
variable {co:Co}{N:Nat}
end
section
variable {X:Cx}{α:Ev}{a b e:Expr}{pos p:Pos}{Q:PyData→Prop}
end
section
variable {X:Cx}{α:Ev}{a b c e:Expr}{pos p:Pos}{Q:PyData→Prop}{T:Bool→Prop}
theorem gQ (hg:Gl X "int")(hm:X.mg "int"=none)(h:EvD X α e fun x=>∃k,x=.bool k∧Q (.int (if k then 1 else 0)))(he:starEach [e] X.env=(false,eval e X.env)::starEach [] X.env:=by rfl):
  EvD X α (.Call (.Name "int" p) [e] [] pos) Q:=fun F σ H R m k=>by
 refine⟨_,xt nu hg hm boot_int (zc zd zm he) (he:=he),?_⟩
 refine h F σ H _ m fun x vx H1 q1 t1 k1 r1=>?_
 obtain⟨b,rfl,q⟩:=q1
 cases r1.bl_inv
 exact .inr ⟨b,rfl,k _ _ H1 q t1 k1 (.int _)⟩
end
section
variable {X:Cx}{α:Ev}{a b c e:Expr}{pos p p2 pos2:Pos}{Q:PyData→Prop}{T:Bool→Prop}
end
section
variable {X:Cx}{α:Ev}{a b c d e:Expr}{pos p:Pos}{ta tb tc td:TE}{T:Bool→Prop}
end
theorem eI {X:Cx}{α:Ev}{e tg:Expr}{Q:List PyData→Prop}(h:EvD X α e fun x=>∃ds,x=.tuple ds∧Q ds):EvI X α tg e Q:=fun F σ H R m k=>by
 refine⟨_,fw zd,?_⟩
 refine h F σ H _ m fun x vx H1 q1 t1 k1 r1=>?_
 obtain⟨ds,rfl,q⟩:=q1
 obtain⟨a,xs,rfl,h1,h2⟩:=r1.tup_inv
 refine⟨a,rfl,⟨xs,SqT.of (zf h1).2⟩,k ds _ H1 q t1 k1 fun i H2 p s=>⟨fun d hd=>?_,fun hl=>?_⟩⟩
 ·obtain⟨x,hx,av⟩:=h2.get hd
  have ha:=SqT.of (K:=X.K) (zf (s _ _ h1)).2
  refine⟨⟨xs,x,ha,hx⟩,fun x' H3 y=>?_⟩
  obtain⟨e,y⟩:=y
  subst e
  have:=y xs ha
  rw[hx] at this;cases this
  exact⟨zr.refl _,fun _=>av.same s⟩
 ·exact⟨xs,SqT.of (zf (s _ _ h1)).2,by rw[h2.length];exact hl⟩
section
variable {X:Cx}{α:Ev}{a b c d e:Expr}{pos p:Pos}{T:Bool→Prop}
end
abbrev rj (X:Cx)(P:Program)(w:World)(K:PySem.W.Frag)(mg:Str→Option Value)(base:Heap):Prop:=X.prog=P∧X.w=w∧X.K=K∧X.mg=mg∧X.base=base
section
variable {X:Cx}{α:Ev}{e o:Expr}{es:List Expr}{pos p apos:Pos}{Q:PyData→Prop}{k:Nat}{φ:List A→(A→Prop)→Prop}{x m:Str}{C:Addr}{pl:Sem Bool}{P:Program}{w:World}{K:PySem.W.Frag}{mg:Str→Option Value}{base:Heap}
theorem iZ (D:Cal P w K mg base x k φ)(hX:rj X P w K mg base)(hr:zJ k X.A)(hg:Gl X x)(h:EvA X α (e::es) fun as=>φ as fun a=>Q a.d)
  (hdb:(x == ("__debug__":Str))=false:=by decide) (he:starEach (e::es) X.env=(false,eval e X.env)::starEach es X.env:=by rfl) (hpl:(backTo pos (starEach es X.env)).any (·.1)=false:=by rfl):EvD X α (.Call (.Name x p) (e::es) [] pos) Q:=by
 obtain⟨rfl,rfl,rfl,rfl,rfl⟩:=hX
 exact zx D hr hg h hdb he hpl
theorem lD (D:nA P w K mg base x k [] φ)(hX:rj X P w K mg base)(hr:zJ (k+1) X.A)(hg:Gl X x)(h:EvA X α (e::es) fun as=>φ as fun a=>Q a.d)
  (hdb:(x == ("__debug__":Str))=false:=by decide) (he:starEach (e::es) X.env=(false,eval e X.env)::starEach es X.env:=by rfl) (hpl:(backTo pos (starEach es X.env)).any (·.1)=false:=by rfl):EvN X α (.Call (.Name x p) (e::es) [] pos) Q:=by
 obtain⟨rfl,rfl,rfl,rfl,rfl⟩:=hX
 exact iu D hr hg h hdb he hpl
theorem jL (D:vN P w K mg base C m k φ)(hX:rj X P w K mg base)(hr:zJ k X.A)(h:EvD X α o fun x=>∃fs,x=xi C fs∧vp fs m=none∧EvA X α (e::es) fun as=>φ (.dat (xi C fs)::as) fun a=>Q a.d)
  (hst:starEach (e::es) X.env=(false,eval e X.env)::starEach es X.env:=by rfl) (hpl:(backTo pos (starEach es X.env)).any (·.1)=false:=by rfl)
  (ht:eval (.Call (.Attribute o m apos) (e::es) [] pos) X.env=(do
   let ov ←eval o X.env
   standAt apos.atName
   let (f,first) ←holding [ov] (getMethod ov m pl)
   callWith pos f first (backTo pos (starEach (e::es) X.env)) (backToKw pos (keywordEach [] X.env))):=by rfl):EvD X α (.Call (.Attribute o m apos) (e::es) [] pos) Q:=by
 obtain⟨rfl,rfl,rfl,rfl,rfl⟩:=hX
 exact iV D hr h hst hpl ht
theorem nL (D:vN P w K mg base C m k φ)(hX:rj X P w K mg base)(hr:zJ k X.A)(h:EvD X α o fun x=>∃fs,x=xi C fs∧vp fs m=none∧φ [.dat (xi C fs)] fun a=>Q a.d)
  (ht:eval (.Call (.Attribute o m apos) [] [] pos) X.env=(do
   let ov ←eval o X.env
   standAt apos.atName
   let (f,first) ←holding [ov] (getMethod ov m pl)
   callWith pos f first (backTo pos (starEach [] X.env)) (backToKw pos (keywordEach [] X.env))):=by rfl):EvD X α (.Call (.Attribute o m apos) [] [] pos) Q:=by
 obtain⟨rfl,rfl,rfl,rfl,rfl⟩:=hX
 exact qf D hr h ht
theorem nP {Q:List PyData→Prop}(D:vN P w K mg base C m k φ)(hX:rj X P w K mg base)(hr:zJ k X.A)(h:EvD X α o fun x=>∃fs,x=xi C fs∧vp fs m=none∧φ [.dat (xi C fs)] fun a=>∃ds,a=.own ds∧Q ds)
  (ht:eval (.Call (.Attribute o m apos) [] [] pos) X.env=(do
   let ov ←eval o X.env
   standAt apos.atName
   let (f,first) ←holding [ov] (getMethod ov m pl)
   callWith pos f first (backTo pos (starEach [] X.env)) (backToKw pos (keywordEach [] X.env))):=by rfl):EvL X α (.Call (.Attribute o m apos) [] [] pos) Q:=by
 obtain⟨rfl,rfl,rfl,rfl,rfl⟩:=hX
 exact uG D hr h ht
end
section
variable {X:Cx}{α:Ev}{pos:Pos}{Q:PyData→Prop}
end
section
variable {X:Cx}{α:Ev}{e ix:Expr}{pos:Pos}{rest:List Stmt}{E:yd}
end
section
variable {X:Cx}{tg:Expr}
variable {α:Ev}{a b c:Expr}{p pos:Pos}
end
section
variable {prog:Program}{w:World}{K:Type}[DecidableEq K](knd:KeyKind prog w K)
variable {knd}
end
section
variable {X:Cx}
end
section
variable {X:Cx}{α:Ev}{e a b:Expr}{p pos:Pos}{Q:PyData→Prop}
end
section
variable {M:Model}{A:Around}{E:Value→Shared→Prop}{s:Shared}
end
section
variable {P:Program}{w:World}{H H0:Hp}{h h' h0:Heap}{fs fs' ts:List Addr}{e:Addr}
end
section
variable {X:Cx}{pins:List (Addr×Obj)}{σ:St}{H H':Hp}{s s':Shared}{a:Addr}
end
section
variable {X:Cx}{E':Value→Shared→Prop}
end
section
variable {P:Program}{w:World}{K:PySem.W.Frag}{mg:Str→Option Value}{base:Heap}
end
section
variable {prog:Program}{w:World}{A:Around}{E:Value→Shared→Prop}{h:Heap}{g:Array GenState}{d:Drawn}{t:Nat}{os:OsState}
variable {nm q:Str}{C N:Addr}{bs bm bmB:List Value}{hdct:Bool}{sn:List Str}{sub:List Value}{ab:Bool}{col:Option Bool}{dd:Option Addr}{k0 k1 k2 k3 k5:Option Value}{B Bn newId nid initId inN:String}{bmN:List Value}
end
open Builtin Builtin.ObjectAttr
section
variable {prog:Program}{w:World}{A:Around}{E:Value→Shared→Prop}{h:Heap}{g:Array GenState}{d:Drawn}{t:Nat}{os:OsState}{K:Frag}{C S e t0:Addr}{dx:Option Addr}{init:Option Value}
end
section
variable {prog:Program}{w:World}{A:Around}{E:Value→Shared→Prop}{h:Heap}{g:Array GenState}{d:Drawn}{t:Nat}{os:OsState}{K:Frag}{C S e t0:Addr}{init:Option Value}
end
section
variable {X:Cx}{pins:List (Addr×Obj)}{σ:St}{H:Hp}{s:Shared}{a C:Addr}{d:Option Addr}{pos:Pos}
end
section
variable {prog:Program}{w:World}{A:Around}{E:Value→Shared→Prop}{h:Heap}{g:Array GenState}{d:Drawn}{t:Nat}{os:OsState}
variable {nm q:Str}{C N:Addr}{bs bm bmB:List Value}{hdct:Bool}{sn:List Str}{sub:List Value}{ab:Bool}{col:Option Bool}{dd:Option Addr}{k0 k1 k2 k3 k5:Option Value}{B Bn newId nid initId inN:String}{bmN:List Value}
end
section
variable {X:Cx}{pins:List (Addr×Obj)}{σ:St}{H:Hp}{s:Shared}{k:Nat}{f C S:Addr}{fd:FuncData}{ps:List Str}{sp:Sp}{x:Str}{p pos:Pos}{e:Expr}{es:List Expr}{t:TA}
end
section
variable {X:Cx}{pins:List (Addr×Obj)}{σ:St}{H:Hp}{s:Shared}{a:Addr}{D:Ends}{f:Flow}
end
section
variable {X:Cx}{body suite:List Stmt}{b0:Stmt}{x n:Str}{np hpos pos:Pos}{B:Addr}
end
section
variable {G:Hp}{v:V}{C:Addr}{ds:List (PyData×PyData)}
end
section
variable {F:Fr}{α αh:Ev}{σ:St}{H:Hp}
end
section
variable {F:Fr}{α αh:Ev}{σ:St}{H:Hp}
end
section
variable {P:Program}{w:World}{K:PySem.W.Frag}{mg:Str→Option Value}{base:Heap}
end
section
variable {X:Cx}{α αh:Ev}{r:Fr}{q q0:PyData→Prop}{j k:Nat}{x fl:Str}{C:Addr}{e:Expr}{es:List Expr}{p pos pos':Pos}{rest:List Stmt}{E:yd}
variable {φ:List A→(A→Prop)→(PyData→Prop)→Prop}{Q:PyData→Prop}
end
section
variable {P:Program}{w:World}{K:PySem.W.Frag}{mg:Str→Option Value}{base:Heap}
end
section
variable {X:Cx}{α αh:Ev}{q:PyData→Prop}{i j:Nat}{x n:Str}{B:Addr}{body suite rest:List Stmt}{b0:Stmt}{np hpos pos:Pos}{E:yd}
end
section
variable {X:Cx}{α:Ev}{p p1 pos:Pos}{a:Expr}{Q:PyData→Prop}{C S:Addr}{init:Option Value}
end
section
variable {X:Cx}{α:Ev}{pos:Pos}{o:Expr}{f:Str}{Q:PyData→Prop}{C S:Addr}{init:Option Value}
end
section
variable {P:Program}{w:World}{K:PySem.W.Frag}{mg:Str→Option Value}{base:Heap}
end
section
variable {X:Cx}{α αh:Ev}{r:Fr}{q q0:PyData→Prop}{j k:Nat}{x fl:Str}{C:Addr}{e:Expr}{es:List Expr}{p pos pos':Pos}{rest:List Stmt}{E:yd}
end
section
variable {P:Program}{w:World}{K:PySem.W.Frag}{mg:Str→Option Value}{base:Heap}
end
section
variable {P:Program}{w:World}{K:PySem.W.Frag}{mg:Str→Option Value}{base:Heap}
end
section
variable {X:Cx}{α αh:Ev}{r:Fr}{q q0:PyData→Prop}{j k:Nat}{x fl:Str}{C:Addr}{e:Expr}{es:List Expr}{p pos pos':Pos}{rest:List Stmt}{E:yd}{Q:PyData→Prop}{φ:List A→(PyData→Prop)→Prop}
end
def cx :Option A→Option A
 |some .tape=>none
 |some (.exc _ _)=>none
 |a=>a
def yv (α:Ev):Ev:=α.map cx
def lE :A→Prop
 |.tape=>False
 |.exc _ _=>False
 |_=>True
theorem yU {α:Ev}{i:Nat}{a:A}(h:(yv α)[i]?=some (some a)):α[i]?=some (some a)∧lE a:=by
 unfold yv at h
 rw[aU,za3] at h
 obtain⟨b,h1,h2⟩:=h
 cases b with
 |none=>cases h2
 |some b=>cases b<;>cases h2<;>exact⟨h1,trivial⟩
theorem xh.to {G G':Hp}{F F':Fr}{H H':Hp}{s:Option V}{a:A}(ka:lE a)(h:xh G F H s a)(g:zr G G')(hf:∀x o,foot s a x→H x=some o→H' x=some o∧¬F'.O0 x∧F'.H0 x=none):xh G' F' H' s a:=by
 cases a with
 |dat d=>obtain⟨v,h1,h2⟩:=h;exact⟨v,h1,h2.same g⟩
 |ow c=>
  obtain⟨l,o,h1,h2,h3,h4,h5⟩:=h
  obtain⟨z1,z2,z3⟩:=hf l o h1 h2
  exact⟨l,o,h1,z1,h3.same g,z2,z3⟩
 |deep d S=>
  obtain⟨v,h1,h2,h3⟩:=h
  refine⟨v,h1,h2.same (vm g fun x o z e=>(hf x o z e).1),fun x z=>?_⟩
  obtain⟨_,_,xs,e⟩:=h3 x z
  obtain⟨z1,z2,z3⟩:=hf x _ z e
  exact⟨z2,z3,xs,z1⟩
 |tape=>exact ka.elim
 |«at» l=>exact h
 |exc r q=>exact ka.elim
 |pin l vs ds=>exact⟨h.1,g _ _ h.2.1,h.2.2.same g⟩
def Tp (F:Fr)(x:Addr):Prop:=∃t b c,F.tp=some (t,b,c)∧(x=t∨x=b∨x=c)
noncomputable instance tpDec (F:Fr)(x:Addr):Decidable (Tp F x):=Classical.propDecidable _
noncomputable def Fr.row (F:Fr)(H:Hp)(l:Addr):Fr:=⟨fun x=>if Tp F x then H x else F.H0 x,fun x=>F.O0 x∨x=l,some (l,l,l)⟩
section
variable {F:Fr}{α α':Ev}{σ σ':St}{H H':Hp}{l:Addr}
theorem Tp.own (t:zB F H){x:Addr}(h:Tp F x):F.O0 x:=by
 obtain⟨a,b,c,e,z⟩:=h
 obtain⟨_,h1,h2,h3⟩:=t a b c e
 rcases z with z|z|z
 ·rw[z];exact h1
 ·rw[z];exact h2
 ·rw[z];exact h3
theorem Tp.lst (t:zB F H){x:Addr}(h:Tp F x):∃xs,H x=some (.lst xs):=by
 obtain⟨a,b,c,e,z⟩:=h
 obtain⟨n,bs,cs,n1,e1,e2,e3,_⟩:=(t a b c e).1.ex
 rcases z with z|z|z
 ·rw[z];exact⟨_,e1⟩
 ·rw[z];exact⟨_,e2⟩
 ·rw[z];exact⟨_,e3⟩
theorem Tp.noTab (t:zB F H){x:Addr}(h:Tp F x):¬uc x:=fun z=>by
 obtain⟨o,e,_,n⟩:=vP t.tab z
 obtain⟨xs,e2⟩:=Tp.lst t h
 rw[e] at e2;cases e2
 exact n _ rfl
theorem rz (t:zB F H){x:Addr}(h:(F.row H l).H0 x=none):F.H0 x=none:=by
 have h':(if Tp F x then H x else F.H0 x)=none:=h
 split at h'
 ·rename_i q
  obtain⟨xs,e⟩:=Tp.lst t q
  rw[e] at h';cases h'
 ·exact h'
theorem M.row {i:Nat}{x y:Int}(m:M F α σ H)(hi:α[i]?=some (some (.own [.int x,.int y])))(h0:0≤y)(h1:y<4294967296):∃l,F.H0 l=none∧¬F.O0 l∧M (F.row H l) ((yv α).set i (some .tape)) σ H:=by
 obtain⟨l,xs,e1,e2,e3,e4,e5⟩:=m.own i _ hi
 have ex:xs=[.int x,.int y]:=by
  cases e3 with
  |cons a r=>
   cases r with
   |cons b r=>
    cases r
    rw[a.int_inv,b.int_inv]
 subst ex
 have old:∀{j:Nat} {a:A},((yv α).set i (some .tape))[j]?=some (some a)→(i=j∧a=.tape)∨(i≠j∧α[j]?=some (some a)∧lE a):=fun {j a} e=>by
  rcases zF e with ⟨z,w⟩|⟨z,w⟩
  ·cases w;exact .inl ⟨z,rfl⟩
  ·obtain⟨w1,w2⟩:=yU w
   exact .inr ⟨z,w1,w2⟩
 have ow:∀{z:Addr},Ow (F.row H l) ((yv α).set i (some .tape)) σ z→Ow F α σ z:=fun {z} h=>by
  rcases h with (h|h)|⟨j,a,s,w1,w2,w3⟩
  ·exact .inl h
  ·rw[h];exact .inr ⟨i,_,_,hi,e1,rfl⟩
  ·rcases old w1 with ⟨_,q⟩|⟨_,q,_⟩
   ·subst q;exact w3.elim
   ·exact .inr ⟨j,a,s,q,w2,w3⟩
 have gs:zr (Gz F α σ H) (Gz (F.row H l) ((yv α).set i (some .tape)) σ H):=zo fun a o h e=>⟨fun z=>h (ow z),e⟩
 refine⟨l,e5,e4,?_,fun j a s q1 q2=>?_,fun j j' a b s t z q1 q2 q3 q4 f1 f2=>?_,fun j r q e=>?_,⟨m.tp.tab,fun x h=>.inl (m.tp.ot x h),fun t b c e=>?_⟩,fun z o e n=>?_,fun z hz=>?_⟩
 ·rw[za6]
  unfold yv
  rw[ax]
  exact m.len
 ·rcases old q1 with ⟨z,q⟩|⟨hj,q,ka⟩
  ·subst z q
   rw[e1] at q2;cases q2
   exact⟨l,l,l,rfl,rfl⟩
  ·refine (m.ok j a s q q2).to ka gs fun x o f e=>?_
   obtain⟨g1,g2,_⟩:=m.ft q q2 f
   refine⟨e,fun z=>z.elim g1 fun z=>hj (m.dj i j _ _ _ _ x hi q e1 q2 (by rw[z];exact rfl) f),?_⟩
   show (if Tp F x then H x else F.H0 x)=none
   rw[if_neg fun z=>g1 (Tp.own m.tp z)]
   exact g2
 ·rcases old q1 with ⟨_,q⟩|⟨_,w1,_⟩
  ·subst q;exact f1.elim
  ·rcases old q2 with ⟨_,q⟩|⟨_,w2,_⟩
   ·subst q;exact f2.elim
   ·exact m.dj j j' a b s t z w1 w2 q3 q4 f1 f2
 ·rcases old e with ⟨_,q⟩|⟨_,_,ka⟩
  ·cases q
  ·exact ka.elim
 ·cases e
  exact⟨⟨0,[x,y],[x,y],⟨rfl,rfl⟩,e2,e2,e2,⟨x,y,rfl,h0,h1⟩,rfl⟩,.inr rfl,.inr rfl,.inr rfl⟩
 ·have e':(if Tp F z then H z else F.H0 z)=some o:=e
  split at e'
  ·exact e'
  ·rename_i q
   exact m.keep z o e' ⟨fun t b c w=>⟨fun y=>q ⟨t,b,c,w,.inl y⟩,fun y=>q ⟨t,b,c,w,.inr (.inl y)⟩⟩,n.2⟩
 ·rcases hz with z|z
  ·exact m.oex _ z
  ·exact⟨_,by rw[z];exact e2,yF⟩
theorem zB.unrow (t:zB F H)(hl:¬F.O0 l)(tb:TabAt H')(k:Kz (F.row H l) (F.row H l).H0 H'):zB F H':=⟨tb,t.ot,fun a b c e=>by
 obtain⟨h1,h2,h3,h4⟩:=t a b c e
 refine⟨h1.off fun z hz=>?_,h2,h3,h4⟩
 have tz:Tp F z:=⟨a,b,c,e,hz⟩
 have oz:F.O0 z:=Tp.own t tz
 have nl:z≠l:=fun q=>hl (by rw[←q];exact oz)
 obtain⟨xs,ho⟩:=Tp.lst t tz
 rw[ho]
 refine k z _ ?_ ⟨fun t' b' c' w=>by cases w;exact⟨nl,nl⟩,Tp.noTab t tz⟩
 show (if Tp F z then H z else F.H0 z)=some _
 rw[if_pos tz];exact ho⟩
theorem Kz.unrow (m:M F α σ H)(h0:F.H0 l=none)(k:Kz (F.row H l) (F.row H l).H0 H'):Kz F F.H0 H':=fun x o e n=>by
 have nl:x≠l:=fun q=>by rw[q,h0] at e;cases e
 refine k x o ?_ ⟨fun t' b' c' w=>by cases w;exact⟨nl,nl⟩,n.2⟩
 show (if Tp F x then H x else F.H0 x)=some o
 split
 ·exact m.keep x o e n
 ·exact e
theorem M.unrow (m:M F α σ H)(h0:F.H0 l=none)(hl:¬F.O0 l)(m':M (F.row H l) α' σ' H'):M F (yv α') σ' H':=by
 have ow:∀{z:Addr},Ow F (yv α') σ' z→Ow (F.row H l) α' σ' z:=fun {z} h=>by
  rcases h with h|⟨j,a,s,w1,w2,w3⟩
  ·exact .inl (.inl h)
  ·exact .inr ⟨j,a,s,(yU w1).1,w2,w3⟩
 have gs:zr (Gz (F.row H l) α' σ' H') (Gz F (yv α') σ' H'):=zo fun a o h e=>⟨fun z=>h (ow z),e⟩
 refine⟨?_,fun j a s q1 q2=>?_,fun j j' a b s t z q1 q2=>m'.dj j j' a b s t z (yU q1).1 (yU q2).1,fun j r q e=>?_,m.tp.unrow hl m'.tp.tab m'.keep,Kz.unrow m h0 m'.keep,fun z hz=>m'.oex z (.inl hz)⟩
 ·unfold yv
  rw[ax]
  exact m'.len
 ·obtain⟨w1,ka⟩:=yU q1
  refine (m'.ok j a s w1 q2).to ka gs fun x o f e=>?_
  obtain⟨g1,g2,_⟩:=m'.ft w1 q2 f
  exact⟨e,fun z=>g1 (.inl z),rz m.tp g2⟩
 ·exact (yU e).2.elim
theorem xP.unrow {v:V}{a:A}(m:M F α σ H)(h0:F.H0 l=none)(hl:¬F.O0 l)(r:xP (F.row H l) v H' a):xP F v H' a:=by
 obtain⟨t,k,r⟩:=r
 exact⟨m.tp.unrow hl t.tab k,Kz.unrow m h0 k,r.to (fun _ z=>.inl z) fun x z=>rz m.tp z⟩
end
section
variable {X:Cx}{α:Ev}{E:yd}{sts rest body:List Stmt}{tg iter:Expr}{pos:Pos}
theorem eo (i:Nat){x y:Int}(hi:α[i]?=some (some (.own [.int x,.int y])))(h0:0≤y)(h1:y<4294967296)
  (h:SvS X ((yv α).set i (some .tape)) sts {nx:=fun α'=>E.nx (yv α'),rt:=E.rt,bk:=fun α'=>E.bk (yv α'),ct:=fun α'=>E.ct (yv α')}):SvS X α sts E:=fun F σ H D m r=>by
 obtain⟨l,e5,e4,mr⟩:=m.row hi h0 h1
 refine h _ σ H D mr ⟨fun α' σ' H' m' q=>r.nx _ _ _ (m.unrow e5 e4 m') q,fun a v H' z q=>r.rt a v H' (z.unrow m e5 e4) q,fun α' σ' H' m' q=>r.bk _ _ _ (m.unrow e5 e4 m') q,fun α' σ' H' m' q=>r.ct _ _ _ (m.unrow e5 e4 m') q⟩
end
section
variable {P:Program}{w:World}{K:PySem.W.Frag}{mg:Str→Option Value}{base:Heap}
def fr0 (H:Hp):Fr:=⟨H,uc,none⟩
theorem M.zero {H:Hp}{σ:St}{n:Nat}(tb:TabAt H)(hl:n=σ.length):M (fr0 H) (List.replicate n none) σ H:=by
 have no:∀(i:Nat) a,(List.replicate n (none:Option A))[i]?≠some (some a):=fun i a z=>by
  rw[zd2] at z
  split at z<;>cases z
 exact⟨by rw[List.length_replicate];exact hl,fun i a s e=>absurd e (no i _),fun i j a b s t l e=>absurd e (no i _),fun i r q e=>absurd e (no i _),⟨tb,fun _ h=>h,fun t b c e=>by (cases e)⟩,fun _ _ e _=>e,fun x hx=>by
  obtain⟨o,ho,hn,_⟩:=vP tb hx
  exact⟨o,ho,hn⟩⟩
end
section
variable {X:Cx}{α:Ev}{p pos ap:Pos}{a b c:Expr}{Q:PyData→Prop}
end
section
variable {X:Cx}{α:Ev}{E:yd}{rest:List Stmt}{tg iter:Expr}{pos:Pos}
end
section
variable {X:Cx}{α:Ev}{a b e tg:Expr}{p pos apos:Pos}{Q:PyData→Prop}
theorem gp (hg:Gl X "str")(hm:X.mg "str"=none)(h:EvD X α e fun x=>∃i:Int,x=.int i∧i.natAbs.log2<1920∧Q (.str (toString i)))(he:starEach [e] X.env=(false,eval e X.env)::starEach [] X.env:=by rfl):
  EvD X α (.Call (.Name "str" p) [e] [] pos) Q:=fun F σ H R m k=>by
 refine⟨_,xt sk hg hm boot_str (zc zd zm he) (he:=he),?_⟩
 refine h F σ H _ m fun x vx H1 q1 t1 k1 r1=>?_
 obtain⟨i,rfl,hz,q⟩:=q1
 cases r1.int_inv
 exact⟨i,rfl,hz,k _ _ H1 q t1 k1 (.str _)⟩
theorem uN :yN X (.type "int") (fun xs H Q=>∃x n,xs=[.str x]∧PySem.intText? x=some n∧x.length≤640∧Q (.int n) H):=by
 intro pins s σ H xs us Q I r h
 obtain⟨x,n,rfl,hn,hl,q⟩:=h
 obtain⟨u,rfl,t,rfl⟩:=vals1 r
 exact PySem.W.KIN.call_text hn hl ⟨.int n,H,I.tok _,⟨_,rfl⟩,q⟩
theorem om (hg:Gl X "int")(hm:X.mg "int"=none)(h:EvD X α e fun x=>∃z n,x=.str z∧PySem.intText? z=some n∧z.length≤640∧Q (.int n))(he:starEach [e] X.env=(false,eval e X.env)::starEach [] X.env:=by rfl):
  EvD X α (.Call (.Name "int" p) [e] [] pos) Q:=fun F σ H R m k=>by
 refine⟨_,xt uN hg hm boot_int (zc zd zm he) (he:=he),?_⟩
 refine h F σ H _ m fun x vx H1 q1 t1 k1 r1=>?_
 obtain⟨z,n,rfl,hn,hl,q⟩:=q1
 cases r1.str_inv
 exact⟨z,n,rfl,hn,hl,k _ _ H1 q t1 k1 (.int _)⟩
theorem fZ (hs:vc b)(h:EvD X α a fun x=>EvD X α b fun y=>∃z i c,x=.str z∧y=.int i∧z.length≤sizeLine∧atI z.cps.toList i=some c∧Q (.str ⟨#[c]⟩)):EvD X α (.Subscript a b pos) Q:=fun F σ H R m k=>by
 refine⟨_,zV mV zd zd hs,?_⟩
 refine h F σ H _ m fun x vx H1 q1 t1 k1 r1=>?_
 have m1:=m.kz k1 t1
 refine q1 F σ H1 _ m1 fun y vy H2 q2 t2 k2 r2=>?_
 obtain⟨z,i,c,rfl,rfl,hz,hc,q⟩:=q2
 cases r1.str_inv;cases r2.int_inv
 exact⟨z,i,c,rfl,rfl,hz,hc,k _ _ H2 q t2 (k1.trans k2) (.str _)⟩
theorem kh {x:Str}{z:Str}(hg:Gl X x)(hm:∃t,X.mg x=some (.str z t))(q:Q (.str z))(hd:(x == ("__debug__":Str))=false:=by decide):EvD X α (.Name x pos) Q:=fun F σ H R m k=>by
 obtain⟨t,hm⟩:=hm
 exact⟨_,xF hg hm (show RelV (.str z) _ from ⟨t,rfl⟩) hd,k _ _ H q m.tp Kz.refl (.str _)⟩
theorem fv (h:EvD X α a fun x=>EvD X α b fun y=>∃i j,x=.str i∧y=.str j∧Q (.bool (!(Builtin.Str.occurrences j i 0 j.length 1).isEmpty)))(hm:behindInMarks .In b=false:=by rfl):EvD X α (.Compare a [.In] [b] pos) Q:=fun F σ H R m k=>by
 refine⟨_,xo nv zd zd hm,?_⟩
 refine h F σ H _ m fun x vx H1 q1 t1 k1 r1=>?_
 have m1:=m.kz k1 t1
 refine q1 F σ H1 _ m1 fun y vy H2 q2 t2 k2 r2=>?_
 obtain⟨i,j,rfl,rfl,q⟩:=q2
 cases r1.str_inv;cases r2.str_inv
 exact⟨i,j,rfl,rfl,k _ _ H2 q t2 (k1.trans k2) (.bl _)⟩
theorem gD (hg:Gl X "tuple")(hm:X.mg "tuple"=none)(h:EvD X α e fun x=>∃ds,x=.list ds∧Q (.tuple ds))(he:starEach [e] X.env=(false,eval e X.env)::starEach [] X.env:=by rfl):
  EvD X α (.Call (.Name "tuple" p) [e] [] pos) Q:=fun F σ H R m k=>by
 refine⟨_,xt uS hg hm boot_tuple (zc zd zm he) (he:=he),?_⟩
 refine h F σ H _ m fun x vx H1 q1 t1 k1 r1=>?_
 obtain⟨ds,rfl,q⟩:=q1
 have m1:=m.kz k1 t1
 obtain⟨l,xs,rfl,h1,h2⟩:=r1.lst_inv
 refine⟨_,xs,rfl,.inl ⟨SqL.of (zf h1).2,fun l' hl=>?_⟩⟩
 exact k _ _ _ q (t1.same (yg hl)) (k1.trans (Kz.of_same (yg hl))) (.tup (xs:=xs) (zQ (m1.fresh hl) zl) (h2.same (zo fun a o ha e=>⟨ha,by rw[zj (zh e hl)];exact e⟩)))
theorem tH :∀{ts:List Str} {us:List Value},Vals (ts.map .str) us→∃l:List (Str×Tok),us=strValues l∧l.map (·.1)=ts
 |[],_,.nil=>⟨[],rfl,rfl⟩
 |x::r,_,.cons h q=>by
  obtain⟨t,rfl⟩:=h
  obtain⟨l,rfl,rfl⟩:=tH q
  exact⟨(x,t)::l,rfl,rfl⟩
theorem AVs.strs {H:Hp}:∀{xs:List V} {ts:List Str},AVs H xs (ts.map .str)→xs=ts.map V.str
 |_,[],.nil=>rfl
 |_,b::bs,.cons h r=>by rw[h.str_inv,AVs.strs r];rfl
theorem iE :MtM X "str.join" (fun x xs H Q=>∃i l ts,x=.str i∧xs=[.ref l]∧SqL X.K H l (ts.map .str)∧JoinOk i ts=true∧Q (.str (Txt.join i ts)) H):=by
 intro pins s σ H x xs v us Q I rx rv h
 obtain⟨i,l,ts,rfl,rfl,hq,hj,q⟩:=h
 obtain⟨t,rfl⟩:=rx
 obtain⟨u,rfl,r1⟩:=vals1 rv
 cases r1
 obtain⟨its,r',pl,hz⟩:=I.list hq
 obtain⟨l',rfl,e⟩:=tH r'
 exact SC.join pl.isList e hj fun t' k=>⟨.str _,H,I.tok _,⟨_,rfl⟩,q⟩
theorem tO (h:EvD X α a fun x=>∃i,x=.str i∧EvD X α e fun y=>∃ts,y=.list (ts.map .str)∧JoinOk i ts=true∧Q (.str (Txt.join i ts)))(hbase:attributeBase a "join" X.env (eval a X.env)=eval a X.env:=by rfl)(hline:(apos.endLine == pos.line)=true:=by rfl)
  (he:starEach [e] X.env=(false,eval e X.env)::starEach [] X.env:=by rfl) (hfew:((backTo pos (starEach (e::[]) X.env)).all (fun x=>!x.1)&&(backToKw pos (keywordEach [] X.env)).all (fun x=>x.1.isSome)
   &&decide ((e::[]).length+([]:List Keyword).length+(if ([]:List Keyword).isEmpty then 0 else 1)<30))=true:=by rfl):EvD X α (.Call (.Attribute a "join" apos) [e] [] pos) Q:=fun F σ H R m k=>by
 refine⟨_,oS PySem.F.plainAttrs_str PySem.F.slot_str_join PySem.F.type_str_join iE zd (zc zd zm he) hbase hfew hline he rfl,?_⟩
 refine h F σ H _ m fun x vx H1 q1 t1 k1 r1=>?_
 have m1:=m.kz k1 t1
 obtain⟨i,rfl,q1⟩:=q1
 cases r1.str_inv
 refine⟨rfl,?_⟩
 refine q1 F σ H1 _ m1 fun y vy H2 q2 t2 k2 r2=>?_
 obtain⟨ts,rfl,hj,q⟩:=q2
 obtain⟨l,xs,rfl,h1,h2⟩:=r2.lst_inv
 cases h2.strs
 exact⟨i,l,ts,rfl,rfl,SqL.of (zf h1).2,hj,k _ _ H2 q t2 (k1.trans k2) (.str _)⟩
theorem tD :∀(l:List (Str×Tok)),Vals ((l.map (·.1)).map V.str) (strValues l)
 |[]=>.nil
 |p::r=>.cons ⟨p.2,rfl⟩ (tD r)
theorem kY :MtM X "str.split" (fun x xs H Q=>∃i j,x=.str i∧xs=[.str j]∧(j.length == 0)=false∧i.length+2≤sizeLine∧∀l,H l=none→Q (.ref l) (upd H l (.lst ((Txt.split i j).map .str)))):=by
 intro pins s σ H x xs v us Q I rx rv h
 obtain⟨i,j,rfl,rfl,hj,hi,q⟩:=h
 obtain⟨t,rfl⟩:=rx
 obtain⟨u,rfl,t',rfl⟩:=vals1 rv
 have hs:(Txt.split i j).length≤sizeLine:=aP (split_le i j) hi
 have fin:∀(l:List (Str×Tok)) (tk:Nat),l.map (·.1)=Txt.split i j→EP X pins σ Q (.ref s.heap.objs.size) {s with heap:=s.heap.push {cls:=.type "list",data:=.seq (strValues l).toArray},toks:=tk}:=fun l tk e=>
  ⟨.ref s.heap.objs.size,_,I.laid (t':=tk) (fun b o e=>aG _ e) (aC _) (show zW X.prog X.w _ _ _ (.lst ((Txt.split i j).map .str)) from ⟨by rw[ax];exact hs,_,_,by rw[←e];exact tD l,za2 _ rfl⟩),rfl,q _ (I.hok.fresh (aC _))⟩
 cases h1:(decide (i.length<j.length)||decide (Builtin.Str.strKind i<Builtin.Str.strKind j))
 ·cases hf:(Builtin.Str.occurrences i j 0 i.length (i.length+1)).isEmpty
  ·have e:Builtin.Str.partsBetween i (Builtin.Str.occurrences i j 0 i.length (i.length+1)) j.length=Txt.split i j:=by
    rw[Txt.split,if_neg (zg8 h1),if_neg (zg8 hf)]
   refine call_meets zd8 (typeIs_str _ _ _) zf2 (ze6 _ _) (meets_str_split_sep i j t t' h1 hj hf (by omega) (by rw[e];exact hs)) ?_
   rw[e,strsFrom_eq]
   exact fin (numbered s.toks _) _ (numbered_texts _ _)
  ·exact call_meets zd8 (typeIs_str _ _ _) zf2 (ze6 _ _) (meets_str_split_not_found i j t t' h1 hj hf)
    (fin [(i,t)] s.toks (by rw[Txt.split,if_neg (zg8 h1),if_pos hf];rfl))
 ·exact call_meets zd8 (typeIs_str _ _ _) zf2 (ze6 _ _) (meets_str_split_cannot_occur i j t t' h1)
   (fin [(i,t)] s.toks (by rw[Txt.split,if_pos h1];rfl))
theorem AVs.of_strs {H:Hp}:∀(ts:List Str),AVs H (ts.map V.str) (ts.map .str)
 |[]=>.nil
 |x::r=>.cons (.str x) (AVs.of_strs r)
theorem rJ {Q:List PyData→Prop}(h:EvD X α a fun x=>∃i,x=.str i∧EvD X α e fun y=>∃j,y=.str j∧(j.length == 0)=false∧i.length+2≤sizeLine∧Q ((Txt.split i j).map .str))(hbase:attributeBase a "split" X.env (eval a X.env)=eval a X.env:=by rfl)(hline:(apos.endLine == pos.line)=true:=by rfl)
  (he:starEach [e] X.env=(false,eval e X.env)::starEach [] X.env:=by rfl) (hfew:((backTo pos (starEach (e::[]) X.env)).all (fun x=>!x.1)&&(backToKw pos (keywordEach [] X.env)).all (fun x=>x.1.isSome)
   &&decide ((e::[]).length+([]:List Keyword).length+(if ([]:List Keyword).isEmpty then 0 else 1)<30))=true:=by rfl):EvL X α (.Call (.Attribute a "split" apos) [e] [] pos) Q:=fun F σ H R m k=>by
 refine⟨_,oS PySem.F.plainAttrs_str zd8 PySem.F.type_str_split kY zd (zc zd zm he) hbase hfew hline he rfl,?_⟩
 refine h F σ H _ m fun x vx H1 q1 t1 k1 r1=>?_
 have m1:=m.kz k1 t1
 obtain⟨i,rfl,q1⟩:=q1
 cases r1.str_inv
 refine⟨rfl,?_⟩
 refine q1 F σ H1 _ m1 fun y vy H2 q2 t2 k2 r2=>?_
 have m2:=m1.kz k2 t2
 obtain⟨j,rfl,hj,hi,q⟩:=q2
 cases r2.str_inv
 refine⟨i,j,rfl,rfl,hj,hi,fun p hp=>?_⟩
 obtain⟨g1,g2,g3⟩:=m2.lay hp (AVs.of_strs (Txt.split i j))
 exact k _ _ _ q g1 ((k1.trans k2).trans g2) (g3.back m (k1.trans k2) t2)
def Its (z:Str):It:=⟨fun i _=>i<z.cps.size,fun i H x H'=>H'=H∧∃c,z.cps[i]?=some c∧x=.str ⟨#[c]⟩,fun i _=>z.cps.size≤i⟩
theorem kT {P:Program}{w:World}{K:PySem.W.Frag}{tg:Expr}(z:Str)(t:Tok)(it:Addr):Turn P w K tg (Its z) [it] it (fun i h=>h.IsStrIter it "str_ascii_iterator" z t i) where
 mem:=by simp
 obj:=fun i h st b hb=>by
  have e:b=it:=by simpa using hb
  subst e
  obtain⟨o,e,c,d⟩:=st
  exact⟨o,e,fun v z=>by rw[d] at z;cases z⟩
 keep:=fun i h h' st k=>by
  obtain⟨o,e,c,d⟩:=st
  exact⟨o,k it (by simp) o e,c,d⟩
 item:=by
  intro X hP hw hK hc i pins s σ H E I hf st hg
  subst hP hw hK
  obtain⟨f0,f1,f2,f3,f4,f5⟩:=hf it (by simp)
  have hx:z.cps[i]?=some z.cps[i]:=Array.getElem?_eq_getElem hg
  refine wpAny_pyNext_ascii_item st hx fun h' st' sb=>?_
  have I1:Inv X pins σ H {s with heap:=h',toks:=s.toks+1}:=I.turned (t':=s.toks+1) (fun b o hb e=>(sb.2 b hb).trans e) f0 f1 f3 f4 f5
  obtain⟨o,e,c,d⟩:=id st'
  exact⟨_,rfl,pZ (s:={s with heap:=h',toks:=s.toks+1}) e c d (by decide) ⟨.str ⟨#[z.cps[i]]⟩,H,I1,⟨_,rfl⟩,⟨rfl,_,hx,rfl⟩,st',fun b hb=>(hf b hb).1⟩⟩
 done:=by
  intro X hP hw hK hc i pins s σ H E I hf st hg
  subst hP hw hK
  obtain⟨f0,f1,f2,f3,f4,f5⟩:=hf it (by simp)
  exact wpAny_pyNext_ascii_end (I.ok.hd hc) st (Array.getElem?_eq_none hg) fun h' eb=>⟨rfl,I.turned (t':=s.toks) (fun b o hb e=>eb b o hb e) f0 f1 f3 f4 f5⟩
 self:=fun _ _ _ _ _ st h=>wpAny_pyIter_striter_ascii st h
def ai (tl:TE):TI:=fun σ H R=>tl σ H fun x H1=>∃z,x=.str z∧z.cps.all (·<128)=true∧R (Its z) H1
theorem eL {l:Expr}{tl:TE}(hl:PE X l tl):PI X tg l (ai tl):=by
 intro pins s σ H R I h
 refine thn (hl pins s σ H _ I h) fun v s1 ⟨x,H1,I1,r1,q1⟩=>?_
 obtain⟨z,e,ha,q⟩:=q1
 subst e
 obtain⟨t,rfl⟩:=r1
 refine wpAny_pyIter_ascii ha ?_
 refine⟨s1.heap.objs.size,[s1.heap.objs.size],_,_,H1,rfl,I1.kept (t':=s1.toks) fun b o e=>aG _ e,kT z t _,⟨_,za2 _ rfl,rfl,rfl⟩,fun b hb=>?_,q⟩
 have e:b=s1.heap.objs.size:=by simpa using hb
 subst e
 exact I1.fpOk (aC _) (I1.hok.fresh (aC _))
def sgn (z:Str):List PyData:=z.cps.toList.map fun c=>.str ⟨#[c]⟩
theorem eK {Q:List PyData→Prop}(h:EvD X α e fun x=>∃z,x=.str z∧z.cps.all (·<128)=true∧Q (sgn z)):EvI X α tg e Q:=fun F σ H R m k=>by
 refine⟨_,eL zd,?_⟩
 refine h F σ H _ m fun x vx H1 q1 t1 k1 r1=>?_
 obtain⟨z,rfl,ha,q⟩:=q1
 cases r1.str_inv
 refine⟨z,rfl,ha,k _ _ H1 q t1 k1 fun i H2 p s=>⟨fun d hd=>?_,fun hl=>?_⟩⟩
 ·rw[sgn,aU,Array.getElem?_toList] at hd
  obtain⟨c,hc,rfl⟩:=za3.mp hd
  obtain⟨hi,_⟩:=Array.getElem?_eq_some_iff.mp hc
  refine⟨hi,fun x' H3 y=>?_⟩
  obtain⟨e,c',hc',rfl⟩:=y
  subst e
  rw[hc] at hc';cases hc'
  exact⟨zr.refl _,fun _=>.str _⟩
 ·rw[sgn,ax,zg6] at hl
  exact hl
end
section
variable {X:Cx}{α:Ev}{a b e:Expr}{rest:List Expr}{p pos apos:Pos}{Q:PyData→Prop}
def eJ (c:Bool):PyData→Bool
 |.bool d=>d == c
 |_=>false
def plV :V→Bool
 |.non|.bl _|.int _|.str _|.ref _=>true
 |_=>false
def cz (c:Bool):V→Bool
 |.bl d=>d == c
 |_=>false
theorem fX :OpR X (compareOp .Is) (fun x y H Q=>∃c,y=.bl c∧plV x=true∧Q (.bl (cz c x)) H):=by
 intro pins s σ H x y v u Q I rx ry h
 obtain⟨c,rfl,hp,q⟩:=h
 cases ry
 cases x with
 |non=>cases rx;exact zf0 rfl (zt I q rfl)
 |bl d=>cases rx;exact zf0 rfl (zt I q (by cases c<;>cases d<;>rfl))
 |int i=>obtain⟨t,rfl⟩:=rx;exact zf0 rfl (zt I q rfl)
 |str i=>obtain⟨t,rfl⟩:=rx;exact zf0 rfl (zt I q rfl)
 |ref l=>cases rx;exact zf0 rfl (zt I q rfl)
 |_=>cases hp
theorem AV.isB {H:Hp}{v:V}{d:PyData}(c:Bool)(h:AV H v d):plV v=true∧cz c v=eJ c d:=by cases h<;>exact⟨rfl,rfl⟩
theorem eM {T:Bool→Prop}{j:Nat}{c:Bool}(h:EvD X α a fun x=>T (eJ c x)):EvT X α (.Compare a [.Is] [.Constant (.bool c) j p] pos) T:=
 xp fX (zy _) (h.imp fun x h=>gY ⟨eJ c x,fun p H vx vy R rx ry z=>by
  cases ry.bl_inv
  exact⟨c,rfl,(rx.isB c).1,by rw[(rx.isB c).2];exact z⟩,h⟩)
end
theorem sZ {c:Nat}:∀{a a' r r':List Nat},c∉a→c∉a'→a++c::r=a'++c::r'→a=a'∧r=r'
 |[],[],r,r',_,_,h=>⟨rfl,(zc8 h).2⟩
 |[],x::a',r,r',_,h2,h=>absurd ((zc8 h).1▸aA ..) h2
 |x::a,[],r,r',h1,_,h=>absurd ((zc8 h).1▸aA ..) h1
 |x::a,y::a',r,r',h1,h2,h=>by
  obtain⟨e,h⟩:=zc8 h
  obtain⟨e1,e2⟩:=sZ (fun z=>h1 (az _ z)) (fun z=>h2 (az _ z)) h
  exact⟨by rw[e,e1],e2⟩
theorem xI {x y:Str}(h:x.cps.toList=y.cps.toList):x=y:=by
 cases x;cases y;congr 1;exact Array.toList_inj.mp h
theorem join_list (c:Nat)(x y:Str)(r:List Str):(Str.join ⟨#[c]⟩ (x::y::r)).cps.toList=x.cps.toList++c::(Str.join ⟨#[c]⟩ (y::r)).cps.toList:=by
 show (x++(⟨#[c]⟩:Str)++Str.join ⟨#[c]⟩ (y::r)).cps.toList=_
 rw[zd0,zd0,zb9,zb9]
 simp
theorem rL (c:Nat):∀ts ts':List Str,(∀p∈ts,c∉p.cps.toList)→(∀p∈ts',c∉p.cps.toList)→ts≠[]→ts'≠[]→Str.join ⟨#[c]⟩ ts=Str.join ⟨#[c]⟩ ts'→ts=ts'
 |[],_,_,_,h,_,_=>absurd rfl h
 |_,[],_,_,_,h,_=>absurd rfl h
 |[x],[y],_,_,_,_,h=>by rw[show x=y from h]
 |[x],y::z::r,h1,_,_,_,h=>by
  have e:=congrArg (·.cps.toList) h
  rw[join_list] at e
  exact absurd (show c∈x.cps.toList from (show x.cps.toList=_ from e)▸aV _ (aA ..)) (h1 x (aA ..))
 |x::z::r,[y],_,h1,_,_,h=>by
  have e:=congrArg (·.cps.toList) h
  rw[join_list] at e
  exact absurd (show c∈y.cps.toList from (show y.cps.toList=_ from e.symm)▸aV _ (aA ..)) (h1 y (aA ..))
 |x::z::r,x'::z'::r',h1,h2,_,_,h=>by
  have e:=congrArg (·.cps.toList) h
  rw[join_list,join_list] at e
  obtain⟨e1,e2⟩:=sZ (h1 x (aA ..)) (h2 x' (aA ..)) e
  rw[xI e1,rL c (z::r) (z'::r') (fun p hp=>h1 p (az _ hp)) (fun p hp=>h2 p (az _ hp)) (by simp) (by simp) (xI e2)]
theorem uJ (c:Nat)(ts:List Str)(hf:∀p∈ts,c∉p.cps.toList)(hn:ts≠[]):Txt.split (Txt.join ⟨#[c]⟩ ts) ⟨#[c]⟩=ts:=by
 have h:=StrLaws.join_split (Txt.join ⟨#[c]⟩ ts) ⟨#[c]⟩
 have e:Txt.join ⟨#[c]⟩ ts=Str.join ⟨#[c]⟩ ts:=za0 _ _
 refine rL c _ ts (StrLaws.split_free _ c) hf ?_ hn (h.trans e)
 intro z
 have:=split_pos (Txt.join ⟨#[c]⟩ ts) ⟨#[c]⟩
 rw[z] at this
 exact absurd this (by decide)
def fig (n:Nat):Str:=toString (n:Int)
theorem wW (n:Nat):(fig n).cps.toList=(Nat.toDigits 10 n).map Char.toNat:=PySem.W.KIN.signs_num n
theorem wR (n:Nat):PySem.NumText.AllDigits (fig n).cps.toList:=by
 intro c hc
 rw[wW] at hc
 obtain⟨ch,hch,e⟩:=ze7.mp hc
 rw[←e]
 exact digit_range (Nat.isDigit_of_mem_toDigits (by decide) (by decide) hch)
theorem pN (n:Nat):(fig n).cps.toList≠[]:=by
 rw[wW]
 intro e
 have h:=Nat.length_toDigits_pos (b:=10) (n:=n)
 rw[List.map_eq_nil_iff.mp e] at h
 exact absurd h (by decide)
theorem pU {n k:Nat}(hk:1≤k)(h:n<10 ^ k):(fig n).length≤k:=toString_length_le (by omega) hk (by exact_mod_cast h)
theorem jV {n:Nat}(h:n<10 ^ 20):PySem.intText? (fig n)=some (n:Int):=by
 have hl:(fig n).length≤20:=pU (by decide) h
 have e:=zg1 (wR n) (pN n) (aP hl (by decide))
 rw[wW,PySem.W.KIN.val_back] at e
 exact e
section
variable {prog:Program}{w:World}{E:Value→Shared→Prop}{s:Shared}
end
section
variable {X:Cx}{α:Ev}{elts:List Expr}{kk:Nat}{tp p pos:Pos}{a b:Expr}
end
section
variable {X:Cx}{α:Ev}{a b e:Expr}{p pos apos:Pos}{Q:PyData→Prop}
end
section
variable {prog:Program}{w:World}{A:Around}{E:Value→Shared→Prop}{s:Shared}
end
section
variable {X:Cx}{α:Ev}{e:Expr}{es:List Expr}{kk:Nat}{p pos:Pos}{sts:List Stmt}{E:yd}
end
section
variable {X:Cx}{α:Ev}{a:Expr}{p pos:Pos}{Q:PyData→Prop}
end
section
variable {X:Cx}{α:Ev}{p pos ap:Pos}{a b c:Expr}{Q:PyData→Prop}
end
section
variable {X:Cx}{α:Ev}{e:Expr}{kk:Nat}{p pos:Pos}{rest:List Stmt}{E:yd}
end
def bt (K:PySem.W.Frag)(a:Addr)(xs:List V):Prop:=∃(o:Obj) (its:Array Value) (n:Nat),K.lookup a=some o∧o.cls=.type "list"∧o.dict=none∧o.data=.seq its n∧its.size≤sizeLine∧Vals xs its.toList
def ScH (K:PySem.W.Frag)(H:Hp)(a:Addr)(xs:List V):Prop:=(∃o,H a=some (.frz o (.lst xs)))∨bt K a xs
theorem ScH.sq {K:PySem.W.Frag}{H:Hp}{a:Addr}{xs:List V}(h:ScH K H a xs):SqL K H a xs:=h.elim (fun⟨o,e⟩=>.inl (.inr ⟨o,e⟩)) .inr
theorem hV {K:PySem.W.Frag}{H:Hp}{a:Addr}{xs:List V}(hO:iC H)(hS:SqL K H a xs):ScH K H a xs:=by
 rcases hS with (h|h)|h
 ·rcases hO a with z|⟨o,ys,z⟩<;>rw[z] at h<;>cases h
 ·exact .inl h
 ·exact .inr h
def vW (K:PySem.W.Frag):Sp:=fun vs H Q _=>∃(a:Addr) (ns:List Int),vs=[.ref a]∧ScH K H a (ns.map V.int)∧ns.length≤63∧TabAt H∧∀H',Q (.bl true) H'
def tS (K:PySem.W.Frag):Sp:=fun vs H Q _=>∃(a:Addr) (ns:List Int) (k:Int),vs=[.ref a,.int k]∧ScH K H a (ns.map V.int)∧0≤k∧ns.length≤63∧TabAt H∧∀z H',zr H H'→Q (.int z) H'
section
variable {X:Cx}{α:Ev}{a:Addr}{xs:List V}{pins:List (Addr×Obj)}{σ:St}{H:Hp}{s:Shared}
theorem Inv.sc (I:Inv X pins σ H s)(h:ScH X.K X.H₀ a xs):ScH X.K H a xs:=h.imp (fun⟨o,e⟩=>⟨o,I.base.frzs _ _ _ e⟩) id
theorem gj (sc:ScH X.K X.H₀ a xs):yN X (.builtin "len") (fun vs H Q=>vs=[.ref a]∧Q (.int xs.length) H):=by
 intro pins s σ H vs us Q I r h
 exact yQ pins s σ H vs us Q I r ⟨a,xs,h.1,.inl (Inv.sc I sc).sq,h.2⟩
theorem dJ (sc:ScH X.K X.H₀ a xs):IxR X (fun x y H Q=>∃i v,x=.ref a∧y=.int i∧atI xs i=some v∧Q v H):=by
 intro value slice pins s σ H x y v u Q I rx ry h hs
 obtain⟨i,z,e1,e2,e3,q⟩:=h
 exact yI value slice pins s σ H x y v u Q I rx ry ⟨a,xs,i,z,e1,e2,(Inv.sc I sc).sq,e3,q⟩ hs
end
section
variable {F:Fr}{α:Ev}{σ:St}{H:Hp}
theorem M.note {i:Nat}{b:A}(m:M F α σ H)(hb:∀s x,¬foot s b x)(hx:noX b)(hok:∀s,σ[i]?=some s→xh (Gz F (α.set i (some b)) σ H) F H s b):M F (α.set i (some b)) σ H:=by
 have gs:zr (Gz F α σ H) (Gz F (α.set i (some b)) σ H):=kj hb
 refine⟨by rw[za6];exact m.len,fun j c s e1 e2=>?_,fun j j' c d s t x e1 e2 q1 q2 f1 f2=>?_,fun j r q e j' c s x e1 e2 f=>?_,m.tp,m.keep,m.oex⟩
 ·rcases zF e1 with ⟨rfl,z⟩|⟨hj,e1'⟩
  ·cases z;exact hok s e2
  ·exact (m.ok j c s e1' e2).stay gs (fun y u f e=>⟨e,(m.ft e1' e2 f).1,(m.ft e1' e2 f).2.1⟩) rfl fun r q _ k=>k
 ·rcases zF e1 with ⟨rfl,z⟩|⟨hj,e1'⟩
  ·cases z;exact (hb _ _ f1).elim
  ·rcases zF e2 with ⟨rfl,z⟩|⟨hj',e2'⟩
   ·cases z;exact (hb _ _ f2).elim
   ·exact m.dj j j' c d s t x e1' e2' q1 q2 f1 f2
 ·rcases zF e with ⟨rfl,z⟩|⟨hj,e'⟩
  ·cases z;exact hx.elim
  ·rcases zF e1 with ⟨rfl,z⟩|⟨hj',e1'⟩
   ·cases z;exact (hb _ _ f).elim
   ·exact m.xd j r q e' j' c s x e1' e2 f
end
section
variable {X:Cx}{α:Ev}{E:yd}{sts rest:List Stmt}{e:Expr}{pos p p':Pos}{Q:PyData→Prop}{a:Addr}{ns:List Int}
theorem qu (i:Nat){n:Str}(hi:α[i]?=some (some (.at a)))(sc:ScH X.K X.H₀ a (ns.map V.int))(hg:Gl X "len")(hm:X.mg "len"=none)(h:Q (.int ns.length))(hN:X.N[i]?=some n:=by rfl)(hv:Vis X.env.scope n:=by first|exact Or.inl rfl|exact Or.inr (Or.inl rfl)|exact Or.inr (Or.inr rfl))
  (hd:(n == ("__debug__":Str))=false:=by decide) (hcd:(n == ("__classdict__":Str))=false:=by decide) (he:starEach [.Name n p'] X.env=(false,eval (.Name n p') X.env)::starEach [] X.env:=by rfl):EvD X α (.Call (.Name "len" p) [.Name n p'] [] pos) Q:=fun F σ H R m k=>by
 refine⟨_,yh (gj sc) hg hm zg9 (zc (yZ hN hv hd hcd) zm he) (he:=he),?_⟩
 obtain⟨s,hs⟩:=m.at' hi
 have e1:s=some (.ref a):=m.ok i _ s hi hs
 subst e1
 refine⟨.ref a,hs,rfl,?_⟩
 rw[ax]
 exact k _ _ H h m.tp Kz.refl (.int _)
theorem oA (i:Nat){n:Str}(hi:α[i]?=some (some (.at a)))(sc:ScH X.K X.H₀ a (ns.map V.int))(hs:vc e)(h:EvD X α e fun y=>∃k:Int,y=.int k∧0≤k∧k<ns.length∧∀z,Q (.int z))(hN:X.N[i]?=some n:=by rfl)(hv:Vis X.env.scope n:=by first|exact Or.inl rfl|exact Or.inr (Or.inl rfl)|exact Or.inr (Or.inr rfl))
  (hd:(n == ("__debug__":Str))=false:=by decide) (hcd:(n == ("__classdict__":Str))=false:=by decide):EvD X α (.Subscript (.Name n p') e pos) Q:=fun F σ H R m k=>by
 refine⟨_,zV (dJ sc) (yZ hN hv hd hcd) zd hs,?_⟩
 obtain⟨s,hs⟩:=m.at' hi
 have e1:s=some (.ref a):=m.ok i _ s hi hs
 subst e1
 refine⟨.ref a,hs,?_⟩
 refine h F σ H _ m fun y vy H1 q1 t1 k1 r1=>?_
 obtain⟨kk,rfl,k0,kl,q⟩:=q1
 cases r1.int_inv
 have lt:kk.toNat<ns.length:=by omega
 refine⟨kk,.int ns[kk.toNat],rfl,rfl,?_,k _ _ H1 (q _) t1 k1 (.int _)⟩
 unfold atI ixN
 rw[if_pos k0,ax,if_pos kl]
 show (ns.map V.int)[kk.toNat]?=_
 rw[aU,za4 lt];rfl
theorem et (i y:Nat){x n:Str}(hN:X.N.Nodup)(hy:α[y]?=some (some .tape))(h:SvS X (α.set i (some .tape)) rest E)(hn:X.N[y]?=some n:=by rfl)(hv:Vis X.env.scope n:=by first|exact Or.inl rfl|exact Or.inr (Or.inl rfl)|exact Or.inr (Or.inr rfl))
  (hdb:(n == ("__debug__":Str))=false:=by decide) (hcd:(n == ("__classdict__":Str))=false:=by decide) (hi:X.N[i]?=some x:=by rfl) (hx:Loc X.env.scope x:=by first|exact Or.inl rfl|exact Or.inr rfl)
  (hs:swapsWith (.Name n p) (some (.Name x p')) pos.line X.env=pure false:=by rfl) (hf:X.fn x=true∨X.env.scope.names.lookup x=some .local:=by first|exact .inl rfl|exact .inr rfl|assumption):SvS X α (.Assign [.Name x p'] (.Name n p) pos::rest) E:=fun F σ H D m r=>by
 refine⟨_,zG (uD hN hi hx (yZ hn hv hdb hcd) hs hf) zT,?_⟩
 obtain⟨t,b,c,h1,h2⟩:=m.tvar y hy
 exact⟨.ref t,h2,h F _ H D (m.store m.tp Kz.refl (fun x z=>z.elim) ⟨t,b,c,h1,rfl⟩) r⟩
theorem iO (r0 i:Nat){x y:Int}(hr:α[r0]?=some (some .tape))(hi:α[i]?=some (some (.own [.int x,.int y])))(h0:0≤y)(h1:y<4294967296)
  (h:∀t,SvS X (((yv α).set i (some .tape)).set r0 (some (.at t))) sts {nx:=fun α'=>α'[r0]?=some (some (.at t))∧E.nx ((yv α').set r0 (some .tape)),rt:=E.rt,bk:=fun α'=>α'[r0]?=some (some (.at t))∧E.bk ((yv α').set r0 (some .tape)),ct:=fun α'=>α'[r0]?=some (some (.at t))∧E.ct ((yv α').set r0 (some .tape))}):SvS X α sts E:=fun F σ H D m r=>by
 obtain⟨t,b,c,ht,hst⟩:=m.tvar r0 hr
 obtain⟨l,e5,e4,mr⟩:=m.row hi h0 h1
 have m2:=mr.note (i:=r0) (b:=.at t) (fun s x z=>z) trivial (fun s e=>by rw[hst] at e;exact (aL e).symm)
 have back:∀{α':Ev} {σ':St} {H':Hp},M (F.row H l) α' σ' H'→α'[r0]?=some (some (.at t))→M F ((yv α').set r0 (some .tape)) σ' H':=fun {α' σ' H'} m' q=>by
  refine (m.unrow e5 e4 m').note (fun s x z=>z) trivial fun s e=>⟨t,b,c,ht,?_⟩
  exact m'.ok r0 _ s q e
 exact h t _ σ H D m2 ⟨fun α' σ' H' m' q=>r.nx _ _ _ (back m' q.1) q.2,fun a v H' z q=>r.rt a v H' (z.unrow m e5 e4) q,fun α' σ' H' m' q=>r.bk _ _ _ (back m' q.1) q.2,fun α' σ' H' m' q=>r.ct _ _ _ (back m' q.1) q.2⟩
end
section
variable {X:Cx}{e:Expr}{es:List Expr}{x:Str}{p pos:Pos}{f:Addr}{fd:FuncData}{ps:List Str}{sp:Sp}{k:Nat}{CX:CXT}{E:XK}{t:TA}
theorem lh (F:zv X.prog X.w X.K X.mg X.base CX k f fd ps sp)(hr:zJ k X.A)(hg:Gl X x)(hm:X.mg x=some (.ref f))(hk:PySem.W.keepIn X.K (.ref f)=true)(hb:Binds X.K fd ps [])(hx:Passes CX X E)
  (ha:PA X (e::es) t) (hdb:(x == ("__debug__":Str))=false:=by decide) (he:starEach (e::es) X.env=(false,eval e X.env)::starEach es X.env:=by rfl) (hpl:(backTo pos (starEach es X.env)).any (·.1)=false:=by rfl):
  PE X (.Call (.Name x p) (e::es) [] pos) (fun σ H Q=>t σ H fun vs H1=>∀pins s,Inv X pins σ H1 s→sp (vs++[]) H1 Q E):=by
 intro pins s σ H Q I h
 refine zd4 (vQ I hg hm ?_ hdb)
 refine ze5 (h₀:=X.base) I.ok.mod.kin hk (thn (ha pos pins s σ H _ I h) fun us s1 ⟨vs,H1,I1,r,q⟩=>⟨I1.kIn,?_⟩) he hpl
 exact sT F hr hb .nil hx I1 r (q pins s1 I1)
end
section
variable {X:Cx}{α:Ev}{e:Expr}{pos p p':Pos}{Q:PyData→Prop}{a:Addr}{ns:List Int}{f:Addr}{fd:FuncData}{ps:List Str}{x n:Str}
theorem iD (i:Nat)(G:zv X.prog X.w X.K X.mg X.base CX0 1 f fd ps (tS X.K))(hr:zJ 1 X.A)(hg:Gl X x)(hm:X.mg x=some (.ref f))(hk:PySem.W.keepIn X.K (.ref f)=true)(hb:Binds X.K fd ps [])(hi:α[i]?=some (some (.at a)))(sc:ScH X.K X.H₀ a (ns.map V.int))(hl:ns.length≤63)
  (h:EvD X α e fun y=>∃k:Int,y=.int k∧0≤k∧∀z,Q (.int z)) (hN:X.N[i]?=some n:=by rfl) (hv:Vis X.env.scope n:=by first|exact Or.inl rfl|exact Or.inr (Or.inl rfl)|exact Or.inr (Or.inr rfl))
  (hd:(n == ("__debug__":Str))=false:=by decide) (hcd:(n == ("__classdict__":Str))=false:=by decide) (hdb:(x == ("__debug__":Str))=false:=by decide) (he:starEach [.Name n p',e] X.env=(false,eval (.Name n p') X.env)::starEach [e] X.env:=by rfl) (he2:starEach [e] X.env=(false,eval e X.env)::starEach [] X.env:=by rfl) (hpl:(backTo pos (starEach [e] X.env)).any (·.1)=false:=by rfl):
  EvD X α (.Call (.Name x p) [.Name n p',e] [] pos) Q:=fun F σ H R m k=>by
 refine⟨_,lh G hr hg hm hk hb zK (zc (yZ hN hv hd hcd) (zc zd zm he2) he) hdb he hpl,?_⟩
 obtain⟨s,hs⟩:=m.at' hi
 have e1:s=some (.ref a):=m.ok i _ s hi hs
 subst e1
 refine⟨.ref a,hs,?_⟩
 refine h F σ H _ m fun y vy H1 q1 t1 k1 r1=>?_
 obtain⟨kk,rfl,k0,q⟩:=q1
 cases r1.int_inv
 intro pins s I
 exact⟨a,ns,kk,rfl,Inv.sc I sc,k0,hl,t1.tab,fun z H' sm=>k _ _ H' (q z) (t1.same sm) (k1.trans (Kz.of_same sm)) (.int _)⟩
end
section
variable {P:Program}{w:World}{K:PySem.W.Frag}{mg:Str→Option Value}{base:Heap}
theorem bq {st:Stmt}{f:Addr}{fd:FuncData}{N':List Str}{k:Nat}(G:Fun K "law" "law" st f fd)(S:zi ("_law_script"::N') ["_law_script"] (zb st))
  (hbody:∀(cdv:Value) (A':Around) (outer:List Env) (s:Shared) (H:Hp) (E:XK) (a:Addr) (ns:List Int),zJ k (A'.deeper (envOfC "law" (zb st) s.heap.objs.size f cdv))→ns.length≤63→ScH K H a (ns.map V.int)→
   SvS (vq CX0 P w K mg base ("_law_script"::N') "law" (zb st) f cdv A' outer s H E).nox (some (.at a)::List.replicate N'.length none) (zA st) {nx:=fun _=>False,rt:=fun a=>a=.dat (.bool true)}):
  zv P w K mg base CX0 (k+1) f fd ["_law_script"] (vW K):=by
 refine G.ok S (fun vs H Q E h=>?_) (fun cdv A' outer s H vs Qc E hr h=>?_)
 ·obtain⟨a,ns,rfl,_⟩:=h
  rfl
 ·obtain⟨a,ns,rfl,hS,hn,tb,kq⟩:=h
  have mz:M (fr0 H) (List.replicate (N'.length+1) none) (L2.start ("_law_script"::N') [.ref a]) H:=M.zero tb (by unfold L2.start;simp)
  have m1:=mz.note (i:=0) (b:=.at a) (fun s x z=>z) trivial (fun s e=>(aL e).symm)
  refine hbody cdv A' outer s H E a ns hr hn hS (fr0 H) _ H _ m1 ⟨fun _ _ _ _ z=>z.elim,fun z v H' r e=>?_,fun _ _ _ _ z=>z.elim,fun _ _ _ _ z=>z.elim⟩
  cases e
  obtain⟨_,_,r⟩:=r
  rw[AV.bl_inv r]
  exact kq H'
theorem dQ {st:Stmt}{f:Addr}{fd:FuncData}{x:Str}(G:Fun K x x st f fd)(S:zi ["_law_script","_law_k"] ["_law_script","_law_k"] (zb st))
  (hbody:∀(cdv:Value) (A':Around) (outer:List Env) (s:Shared) (H:Hp) (E:XK) (a:Addr) (ns:List Int) (i:Int),zJ 0 (A'.deeper (envOfC x (zb st) s.heap.objs.size f cdv))→ns.length≤63→ScH K H a (ns.map V.int)→0≤i→
   SvS (vq CX0 P w K mg base ["_law_script","_law_k"] x (zb st) f cdv A' outer s H E).nox [some (.at a),some (.dat (.int i))] (zA st) {nx:=fun _=>False,rt:=fun b=>∃z,b=.dat (.int z)}):
  zv P w K mg base CX0 1 f fd ["_law_script","_law_k"] (tS K):=by
 refine G.ok S (fun vs H Q E h=>?_) (fun cdv A' outer s H vs Qc E hr h=>?_)
 ·obtain⟨a,ns,k,rfl,_⟩:=h
  rfl
 ·obtain⟨a,ns,i,rfl,hS,i0,hn,tb,kq⟩:=h
  have mz:M (fr0 H) (List.replicate 2 none) (L2.start ["_law_script","_law_k"] [.ref a,.int i]) H:=M.zero tb (by unfold L2.start;simp)
  have m1:=(mz.note (i:=0) (b:=.at a) (fun s x z=>z) trivial (fun s e=>(aL e).symm)).note (i:=1) (b:=.dat (.int i)) (fun s x z=>z) trivial (fun s e=>⟨.int i,(aL e).symm,.int _⟩)
  refine hbody cdv A' outer s H E a ns i hr hn hS i0 (fr0 H) _ H _ m1 ⟨fun _ _ _ _ z=>z.elim,fun z v H' r e=>?_,fun _ _ _ _ z=>z.elim,fun _ _ _ _ z=>z.elim⟩
  obtain⟨z,rfl⟩:=e
  obtain⟨_,kz,r⟩:=r
  cases AV.int_inv r
  exact kq z H' fun x o e=>kz x o e ⟨(fun t b c w=>by cases w),fun z=>z⟩
end
end L2
set_option maxHeartbeats 4000000
namespace K23
open PySem PySem.Spec PyProof.Rows L2
def top (i:Nat):Stmt:=PySem.Challenge.pw_stayprice_k23_books_as_texts.main.body.getD i (.Pass ⟨0,0,0,0⟩)
abbrev jm :Stmt:=top 48
abbrev qO :Stmt:=top 47
def pS :List A→(A→Prop)→Prop:=fun as Q=>∃c:Int,as=[.dat (.int c)]∧∀x y:Int,0≤y→y<4294967296→Q (.own [.int x,.int y])
section
variable {P:Program}{w:World}{K:PySem.W.Frag}{mg:Str→Option Value}{base:Heap}
theorem pd :zi ["_law_row","_law_base","_law_found","_law_number"] ["_law_row","_law_base"] (zb jm):=⟨rfl,rfl,rfl,by decide +kernel,rfl,by decide +kernel,by decide +kernel⟩
theorem il {f:Addr}{fd:FuncData}(F:Fun K "_law_take" "_law_take" jm f fd):zv P w K mg base CX0 1 f fd ["_law_row","_law_base"] jE:=by
 refine F.ok pd (fun vs H Q E h=>?_) (fun cdv A outer s H vs Q E hr h=>?_)
 ·obtain⟨t,b,c,many,rfl,_⟩:=h
  rfl
 ·obtain⟨t,b,c,many,rfl,⟨n,bs,cs,⟨eb,ec⟩,ht,hb,hc,⟨x,y,rfl,y0,y1⟩,hn⟩,hm0,hm1,k⟩:=h
  rw[eb,ec] at k
  have hlog:many.natAbs.log2<9000:=log2_small hm0 hm1
  have ht:H t=some (.lst [.int x,.int y]):=ht
  refine zX (fun σ H3=>σ=[some (.ref t),some (.int many),none,none]∧H=H3)
   ⟨_,xq (ye fk (zV yI (pv 0) zq (fun _ _=>rfl)) zq (zy _))
    (zG (uD (i:=2) pd.nd rfl (Or.inl rfl) (yL ue (zV yI (pv 0) zq (fun _ _=>rfl)) (pv 1)))
    (zG (sJ (yL ud (zV yI (pv 0) zq (fun _ _=>rfl)) (pv 1)) (qN (pv 0) zq set_list))
    (zp (zu (pv 2))))) ym,?_⟩ ?_
  ·refine⟨_,rfl,t,_,0,_,rfl,rfl,SqL.of ht,rfl,_,_,rfl,rfl,_,rfl,?_⟩
   refine yq (fun _=>?_) (fun _=>⟨rfl,rfl⟩)
   refine⟨_,rfl,t,_,0,_,rfl,rfl,SqL.of ht,rfl,_,rfl,_,_,rfl,rfl,hm0,?_⟩
   refine⟨_,rfl,t,_,0,_,rfl,rfl,SqL.of ht,rfl,_,rfl,_,_,rfl,rfl,⟨hm0,hlog⟩,?_⟩
   refine⟨_,rfl,t,_,0,0,rfl,rfl,ht,rfl,_,rfl,?_⟩
   refine k _ _ (zg2 _ (Int.ne_of_gt hm0)) (ze8 _ hm0) ⟨0,[x / many,y],[x / many,y],⟨rfl,rfl⟩,zl,zl,zl,⟨_,_,rfl,y0,y1⟩,rfl⟩ fun a h1 h2=>by rw[zj h1]
  rintro σ H3 ⟨rfl,rfl⟩
  refine zX (fun σ H1=>∃z:Int,0≤z∧z<2147483647∧σ=[some (.ref t),some (.int many),none,none]∧H1=upd H t (.lst [.int x,.int z]))
   ⟨_,sJ (yL ue (yL sM (yL su (zV yI (pv 0) zq (fun _ _=>rfl)) zq) zq) zq) (qN (pv 0) zq set_list),?_⟩ ?_
  ·refine⟨_,rfl,t,_,1,_,rfl,rfl,SqL.of ht,rfl,_,_,rfl,rfl,.inl ⟨by omega,by omega⟩,_,_,rfl,rfl,_,_,rfl,rfl,(by show (0:Int)<2147483647;decide),?_⟩
   exact⟨_,rfl,t,_,1,1,rfl,rfl,ht,rfl,_,zg2 _ (by decide),ze8 _ (by decide),rfl,rfl⟩
  rintro σ H1 ⟨z,z0,z1,rfl,hH1⟩
  have ht1:H1 t=some (.lst [.int x,.int z]):=by rw[hH1];exact zl
  have off:eO t t H H1:=fun a h1 _=>by rw[hH1,zj h1]
  clear hH1
  refine zX (fun σ H2=>∃u:Int,σ=[some (.ref t),some (.int many),none,some (.int u)]∧H1=H2)
   ⟨_,uD (i:=3) pd.nd rfl (Or.inl rfl) (yL ue (yL sM (yL sM (yL su (zV yI (pv 0) zq (fun _ _=>rfl)) (zV yI (pv 0) zq (fun _ _=>rfl))) (yL su zq (zV yI (pv 0) zq (fun _ _=>rfl)))) zq) zq),?_⟩ ?_
  ·exact⟨_,rfl,t,_,1,_,rfl,rfl,SqL.of ht1,rfl,_,rfl,t,_,1,_,rfl,rfl,SqL.of ht1,rfl,_,_,rfl,rfl,.inl ⟨by omega,by omega⟩,_,rfl,t,_,1,_,rfl,rfl,SqL.of ht1,rfl,_,_,rfl,rfl,.inl ⟨by decide,by decide⟩,_,_,rfl,rfl,_,_,rfl,rfl,_,_,rfl,rfl,(by show (0:Int)<2147483629;decide),_,rfl,rfl⟩
  rintro σ H2 ⟨u,rfl,rfl⟩
  refine⟨_,zp (zu (yL ue (yL ud (pv 3) zq) (pv 1))),?_⟩
  refine⟨_,rfl,_,_,rfl,rfl,⟨by decide,by decide +kernel⟩,_,rfl,_,_,rfl,rfl,hm0,?_⟩
  exact k _ _ (zg2 _ (Int.ne_of_gt hm0)) (ze8 _ hm0) ⟨0,[x,z],[x,z],⟨rfl,rfl⟩,ht1,ht1,ht1,⟨_,_,rfl,z0,by omega⟩,rfl⟩ off
theorem kQ {f:Addr}{fd:FuncData}(hm:mg "_law_take"=some (.ref f))(hk:PySem.W.keepIn K (.ref f)=true)(hb:Binds K fd ["_law_row","_law_base"] [])(G:zv P w K mg base CX0 1 f fd ["_law_row","_law_base"] jE):Cal P w K mg base "_law_take" 1 wO:=by
 refine⟨f,fd,_,hm,hk,hb,G.imp fun vs H Q E h=>?_⟩
 obtain⟨F,as,Q',rfl,t,o,rv,⟨n,rfl,h0,h1,hq⟩,kk⟩:=h
 cases rv with
 |cons a1 r=>
  obtain⟨ta,b,c,e,rfl⟩:=a1
  obtain⟨v,rfl,av⟩:=r.one
  cases av.int_inv
  refine⟨ta,b,c,n,rfl,(t ta b c e).1,h0,h1,fun z H' z0 z1 TA off=>kk _ _ _ (hq z z0 z1) ⟨⟨(by
   obtain⟨_,_,_,_,e1,e2,_⟩:=(t ta b c e).1.ex
   exact jW t.tab e1 e2 off),t.ot,fun t' b' c' e'=>?_⟩,fun y u hy n=>?_,.int z⟩⟩
  ·rw[e] at e';cases e'
   exact⟨TA,(t ta b c e).2⟩
  ·rw[off y (n.1 _ _ _ e).1 (n.1 _ _ _ e).2];exact hy
theorem ic :zi ["_law_cell"] ["_law_cell"] (zb qO):=⟨rfl,rfl,rfl,by decide +kernel,rfl,by decide +kernel,by decide +kernel⟩
theorem mv {f:Addr}{fd:FuncData}(F:Fun K "_law_begin" "_law_begin" qO f fd)(hm:mg "_law_begin"=some (.ref f))(hb:Binds K fd ["_law_cell"] []):Cal P w K mg base "_law_begin" 1 pS:=by
 refine wQ F hm hb ic (fun as Q h=>?_) (fun cdv A' outer s H E as Q hr h=>?_)
 ·obtain⟨c,rfl,_⟩:=h
  rfl
 ·obtain⟨c,rfl,q⟩:=h
  refine yM (gX (ze 0 rfl (yt (r:=1000000000000000000) ⟨by decide,by decide,by decide⟩ (by decide) ⟨_,_,rfl,rfl,?_⟩)))
  refine qX (fun _=>?_) (fun _=>zC ?_)
  ·exact tM (ya (za (sP (ze 0 rfl (yt (r:=1000000000000000000) ⟨by decide,by decide,by decide⟩ (by decide) ⟨_,_,rfl,rfl,za (zk (zg ⟨_,rfl,aB rfl,q _ _ (by decide) (by decide)⟩))⟩)))))
  ·refine tM (ya (za (zk (za (yY (kN (ze 0 rfl (zk ⟨_,_,rfl,rfl,by decide,zk ⟨_,_,rfl,rfl,zg ⟨_,rfl,aB rfl,?_⟩⟩⟩))))))))
   have h1:=zg2 c (show (2147483629:Int)≠0 by decide)
   have h2:=ze8 c (show (0:Int)<2147483629 by decide)
   exact q _ _ (by omega) (by omega)
end
abbrev tW :Stmt:=top 4
abbrev sf :Stmt:=top 5
abbrev kd :Stmt:=top 6
abbrev dm :Stmt:=top 7
abbrev lN :Stmt:=top 8
abbrev vV :Stmt:=top 9
structure qg (mg:Str→Option Value)(fW fI fP fD fPD:Addr):Prop where
 isi:mg "isinstance"=none
 int:mg "int"=none
 bool:mg "bool"=none
 tuple:mg "tuple"=none
 len:mg "len"=none
 last:∃t,mg "LAST_DAY"=some (.int 1000000 t)
 most:∃t,mg "MOST_NIGHTS"=some (.int 14 t)
 whole:mg "is_whole"=some (.ref fW)
 within:mg "is_whole_within"=some (.ref fI)
 pair:mg "is_pair"=some (.ref fP)
 day:mg "is_day"=some (.ref fD)
 days:mg "is_pair_of_days"=some (.ref fPD)
section
variable {P:Program}{w:World}{K:PySem.W.Frag}{mg:Str→Option Value}{base:Heap}{fW fI fP fD fPD:Addr}
theorem hE :zi ["thing"] ["thing"] (zb tW):=⟨rfl,rfl,rfl,by decide +kernel,rfl,by decide +kernel,by decide +kernel⟩
theorem mJ {f:Addr}{fd:FuncData}(F:Fun K "is_whole" "is_whole" tW f fd)(T:qg mg fW fI fP fD fPD):zv P w K mg base CX0 1 f fd ["thing"] (yu pf):=by
 refine F.ok hE (fun vs H Q E h=>?_) (fun cdv A outer s H vs Q E hr h=>?_)
 ·obtain⟨x,d,rfl,_⟩:=h
  rfl
 ·obtain⟨x,d,rfl,hd,q⟩:=h
  refine⟨_,zp (zu (yB (yh yT (by rfl) T.isi zc6 (zc (pv 0) (zc (wg (v:=.ty "int") (by rfl) T.int boot_int rfl) zm)))
   (xf (fA (yh yT (by rfl) T.isi zc6 (zc (pv 0) (zc (wg (v:=.ty "bool") (by rfl) T.bool boot_bool rfl) zm))))))),?_⟩
  rw[nS] at q
  refine⟨_,rfl,x,"int",d,_,rfl,hd,iw d,_,rfl,?_⟩
  refine yq (fun h=>?_) (fun h=>?_)
  ·rw[h,zb0] at q
   exact⟨_,rfl,x,"bool",d,_,rfl,hd,ub d,_,rfl,q⟩
  ·rw[aY.mpr h,zc5] at q
   exact q
theorem jz :zi ["thing","lowest","highest"] ["thing","lowest","highest"] (zb sf):=⟨rfl,rfl,rfl,by decide +kernel,rfl,by decide +kernel,by decide +kernel⟩
theorem nQ {f:Addr}{fd fdW:FuncData}(F:Fun K "is_whole_within" "is_whole_within" sf f fd)(T:qg mg fW fI fP fD fPD)(FW:Fun K "is_whole" "is_whole" tW fW fdW)(bW:Binds K fdW ["thing"] []):
  zv P w K mg base CX0 2 f fd ["thing","lowest","highest"] xZ:=by
 have GW:zv P w K mg base CX0 1 fW fdW ["thing"] (yu pf):=mJ FW T
 refine F.ok jz (fun vs H Q E h=>?_) (fun cdv A outer s H vs Q E hr h=>?_)
 ·obtain⟨x,d,lo,hi,rfl,_⟩:=h
  rfl
 ·obtain⟨x,d,lo,hi,rfl,hd,q⟩:=h
  refine⟨_,zp (zu (yB (zI GW hr (by rfl) T.whole FW.kp bW .nil zK (zc (pv 0) zm)) (xf (jD kG kG (pv 1) (pv 0) (pv 2))))),?_⟩
  refine⟨_,rfl,x,d,rfl,hd,_,rfl,?_⟩
  cases hd with
  |int i=>
   have q':Q (.bl (decide (lo≤i)&&decide (i≤hi))) H:=q
   refine vw ⟨_,rfl,_,rfl,_,_,rfl,rfl,_,rfl,?_⟩
   refine yq (fun h=>?_) (fun h=>?_)
   ·rw[h,zb0] at q'
    exact⟨_,rfl,_,_,rfl,rfl,q'⟩
   ·rw[aY.mpr h,zc5] at q'
    exact q'
  |_=>exact vM q
theorem eY :zi ["thing"] ["thing"] (zb kd):=⟨rfl,rfl,rfl,by decide +kernel,rfl,by decide +kernel,by decide +kernel⟩
theorem iX {f:Addr}{fd:FuncData}(F:Fun K "is_pair" "is_pair" kd f fd)(T:qg mg fW fI fP fD fPD):zv P w K mg base CX0 1 f fd ["thing"] (yu pairD):=by
 refine F.ok eY (fun vs H Q E h=>?_) (fun cdv A outer s H vs Q E hr h=>?_)
 ·obtain⟨x,d,rfl,_⟩:=h
  rfl
 ·obtain⟨x,d,rfl,hd,q⟩:=h
  refine⟨_,zp (zu (yB (yh yT (by rfl) T.isi zc6 (zc (pv 0) (zc (wg (v:=.ty "tuple") (by rfl) T.tuple boot_tuple rfl) zm)))
   (xf (xo xM (yh yQ (by rfl) T.len zg9 (zc (pv 0) zm)) zq (zy _))))),?_⟩
  refine⟨_,rfl,x,"tuple",d,_,rfl,hd,uT d,_,rfl,?_⟩
  cases hd with
  |@tup a xs ds e hs=>
   refine vw ⟨_,rfl,a,_,rfl,.inr (SqT.of e),rfl,?_⟩
   rw[gI,hs.length]
   exact q
  |_=>exact vM q
theorem cY :zi ["thing"] ["thing"] (zb dm):=⟨rfl,rfl,rfl,by decide +kernel,rfl,by decide +kernel,by decide +kernel⟩
theorem eG {f:Addr}{fd fdI:FuncData}(F:Fun K "is_day" "is_day" dm f fd)(T:qg mg fW fI fP fD fPD)(GI:zv P w K mg base CX0 2 fI fdI ["thing","lowest","highest"] xZ)(kI:PySem.W.keepIn K (.ref fI)=true)(bI:Binds K fdI ["thing","lowest","highest"] []):
  zv P w K mg base CX0 3 f fd ["thing"] (yu wU):=by
 obtain⟨tl,hl⟩:=T.last
 refine F.ok cY (fun vs H Q E h=>?_) (fun cdv A outer s H vs Q E hr h=>?_)
 ·obtain⟨x,d,rfl,_⟩:=h
  rfl
 ·obtain⟨x,d,rfl,hd,q⟩:=h
  refine⟨_,zp (zu (zI GI hr (by rfl) T.within kI bI .nil zK (zc (pv 0) (zc zq (zc (xF (v:=.int 1000000) (by rfl) hl ⟨tl,rfl⟩) zm))))),?_⟩
  exact⟨_,rfl,x,d,_,_,rfl,hd,q⟩
theorem eh :zi ["thing"] ["thing"] (zb lN):=⟨rfl,rfl,rfl,by decide +kernel,rfl,by decide +kernel,by decide +kernel⟩
theorem ig {f:Addr}{fd fdP fdD:FuncData}(F:Fun K "is_pair_of_days" "is_pair_of_days" lN f fd)(T:qg mg fW fI fP fD fPD)(GP:zv P w K mg base CX0 1 fP fdP ["thing"] (yu pairD))(kP:PySem.W.keepIn K (.ref fP)=true)(bP:Binds K fdP ["thing"] [])
  (GD:zv P w K mg base CX0 3 fD fdD ["thing"] (yu wU)) (kD:PySem.W.keepIn K (.ref fD)=true) (bD:Binds K fdD ["thing"] []):zv P w K mg base CX0 4 f fd ["thing"] (yu uj):=by
 refine F.ok eh (fun vs H Q E h=>?_) (fun cdv A outer s H vs Q E hr h=>?_)
 ·obtain⟨x,d,rfl,_⟩:=h
  rfl
 ·obtain⟨x,d,rfl,hd,q⟩:=h
  have hr1:zJ 1 _:=hr.mono (by decide)
  refine⟨_,zp (zu (yB (zI GP hr1 (by rfl) T.pair kP bP .nil zK (zc (pv 0) zm))
   (yB (zI GD hr (by rfl) T.day kD bD .nil zK (zc (zV yp (pv 0) zq (fun _ _=>rfl)) zm))
   (xf (zI GD hr (by rfl) T.day kD bD .nil zK (zc (zV yp (pv 0) zq (fun _ _=>rfl)) zm)))))),?_⟩
  refine⟨_,rfl,x,d,rfl,hd,_,rfl,?_⟩
  refine yq (fun h=>?_) (fun h=>?_)
  ·obtain⟨a,b,rfl⟩:=vC h
   cases hd with
   |tup e hs=>
    cases hs with
    |cons ha hs=>
     cases hs with
     |cons hb hs=>
      cases hs
      have q':Q (.bl (wU a&&wU b)) H:=q
      refine⟨_,rfl,_,_,0,_,rfl,rfl,SqT.of e,rfl,_,_,rfl,ha,_,rfl,?_⟩
      refine yq (fun h=>?_) (fun h=>?_)
      ·rw[h,zb0] at q'
       exact⟨_,rfl,_,_,1,_,rfl,rfl,SqT.of e,rfl,_,_,rfl,hb,q'⟩
      ·rw[aY.mpr h,zc5] at q'
       exact q'
  ·have e:uj d=false:=by
    unfold uj
    split
    ·exact absurd rfl h
    ·rfl
   rw[e] at q
   exact q
theorem nN :zi ["thing"] ["thing"] (zb vV):=⟨rfl,rfl,rfl,by decide +kernel,rfl,by decide +kernel,by decide +kernel⟩
theorem pk {f:Addr}{fd fdP:FuncData}(F:Fun K "is_stretch" "is_stretch" vV f fd)(T:qg mg fW fI fP fD fPD)(G:zv P w K mg base CX0 4 fPD fdP ["thing"] (yu uj))(kP:PySem.W.keepIn K (.ref fPD)=true)(bP:Binds K fdP ["thing"] []):
  zv P w K mg base CX0 5 f fd ["thing"] (yu zU):=by
 refine F.ok nN (fun vs H Q E h=>?_) (fun cdv A outer s H vs Q E hr h=>?_)
 ·obtain⟨x,d,rfl,_⟩:=h
  rfl
 ·obtain⟨x,d,rfl,hd,q⟩:=h
  refine⟨_,zp (zu (yB (zI G hr (by rfl) T.days kP bP .nil zK (zc (pv 0) zm))
   (xf (xo kG (zV yp (pv 0) zq (fun _ _=>rfl)) (zV yp (pv 0) zq (fun _ _=>rfl)) (zy _))))),?_⟩
  refine⟨_,rfl,x,d,rfl,hd,_,rfl,?_⟩
  refine yq (fun h=>?_) (fun h=>?_)
  ·obtain⟨a,b,rfl,ef⟩:=qI h
   unfold zU at q
   rw[ef] at q
   have q':Q (.bl (decide (0≤b-a))) H:=q
   have eq1:decide (0≤b-a)=decide (a≤b):=by
    rw[decide_eq_decide]
    omega
   rw[eq1] at q'
   cases hd with
   |tup e hs=>
    cases hs with
    |cons ha hs=>
     cases ha
     cases hs with
     |cons hb hs=>
      cases hb
      cases hs
      exact⟨_,rfl,_,_,0,_,rfl,rfl,SqT.of e,rfl,_,rfl,_,_,1,_,rfl,rfl,SqT.of e,rfl,_,_,rfl,rfl,q'⟩
  ·rw[ur] at h
   unfold zU at q
   cases ef:uR d with
   |some k=>rw[ef] at h;exact absurd rfl h
   |none=>
    rw[ef] at q
    exact q
end
abbrev ox :Stmt:=inClass (top 17) 0
abbrev jT :Stmt:=inClass (top 17) 2
abbrev tL :Stmt:=inClass (top 18) 0
abbrev pK :Stmt:=inClass (top 19) 0
abbrev eR :Stmt:=inClass (top 20) 0
abbrev sg :Stmt:=inClass (top 21) 0
abbrev pq :Stmt:=inClass (top 22) 0
abbrev qS :Stmt:=inClass (top 23) 0
abbrev mQ :Stmt:=inClass (top 24) 0
abbrev pw :Stmt:=top 25
abbrev tQ :Stmt:=top 26
abbrev qU :Stmt:=top 27
abbrev sN :Stmt:=top 28
abbrev lL :Stmt:=top 29
abbrev sy :Stmt:=top 30
structure qY (mg:Str→Option Value)(fW fI fP fD fPD fS fC fDl fWo fR fM:Addr)(cs:Cs):Prop where
 d:qg mg fW fI fP fD fPD
 coinsMost:∃t,mg "MOST_COINS"=some (.int 1000000000000 t)
 stretch:mg "is_stretch"=some (.ref fS)
 coins:mg "is_coins"=some (.ref fC)
 deal:mg "is_deal"=some (.ref fDl)
 worth:mg "is_worth"=some (.ref fWo)
 rule:mg "is_rule"=some (.ref fR)
 made:mg "made"=some (.ref fM)
 cPrice:mg "Price"=some (.ref cs.price)
 cCome:mg "Come"=some (.ref cs.come)
 cGo:mg "Go"=some (.ref cs.go)
 cLeast:mg "Least"=some (.ref cs.least)
 cMost:mg "Most"=some (.ref cs.most)
 cDeal:mg "Deal"=some (.ref cs.deal)
 cFee:mg "Fee"=some (.ref cs.fee)
section
variable {P:Program}{w:World}{K:PySem.W.Frag}{mg:Str→Option Value}{base:Heap}{fW fI fP fD fPD fS fC fDl fWo fR fM:Addr}{cs:Cs}
theorem dB :zi ["self","first","last","worth"] ["self","first","last","worth"] (zb ox):=⟨rfl,rfl,rfl,by decide +kernel,rfl,by decide +kernel,by decide +kernel⟩
theorem xB {f C fT fE fWd:Addr}{fd:FuncData}(F:Fun K "__init__" "Rule.__init__" ox f fd)(R:xN K C f fT fE fWd):zv P w K mg base CX0 1 f fd ["self","first","last","worth"] (eS C):=by
 refine F.ok dB (fun vs H Q E h=>?_) (fun cdv A outer s H vs Q E hr h=>?_)
 ·obtain⟨p,dx,x,y,z,rfl,_⟩:=h
  rfl
 ·obtain⟨p,dx,x,y,z,rfl,hp,q⟩:=h
  refine⟨_,zG (sQ (pv 0) (pv 1) rfl) (zG (sQ (pv 0) (pv 2) rfl) (zp (sQ (pv 0) (pv 3) rfl))),?_⟩
  refine⟨_,rfl,_,rfl,p,C,dx,[],rfl,hp,R.cl,R.nf,(by show 0<1000;decide),?_⟩
  refine⟨_,rfl,_,rfl,p,C,dx,_,rfl,zl,R.cl,R.nl,(by show 1<1000;decide),?_⟩
  refine⟨_,rfl,_,rfl,p,C,dx,xj "last" y (xj "first" x []),rfl,zl,R.cl,R.nw,?_,?_⟩
  ·show (if ("first":Str)="last" then _ else _:List (Str×V)).length<1000
   rw[if_neg (fun e=>lC e.symm)]
   show 2<1000
   decide
  ·rw[tR,tR]
   exact q
theorem lq :zi ["self"] ["self"] (zb tL):=⟨rfl,rfl,rfl,by decide +kernel,rfl,by decide +kernel,by decide +kernel⟩
theorem gJ :zi ["self"] ["self"] (zb pK):=⟨rfl,rfl,rfl,by decide +kernel,rfl,by decide +kernel,by decide +kernel⟩
theorem dH :zi ["self"] ["self"] (zb eR):=⟨rfl,rfl,rfl,by decide +kernel,rfl,by decide +kernel,by decide +kernel⟩
theorem mZ :zi ["self"] ["self"] (zb sg):=⟨rfl,rfl,rfl,by decide +kernel,rfl,by decide +kernel,by decide +kernel⟩
theorem gy :zi ["self"] ["self"] (zb pq):=⟨rfl,rfl,rfl,by decide +kernel,rfl,by decide +kernel,by decide +kernel⟩
theorem gC :zi ["self"] ["self"] (zb qS):=⟨rfl,rfl,rfl,by decide +kernel,rfl,by decide +kernel,by decide +kernel⟩
theorem eA :zi ["self"] ["self"] (zb mQ):=⟨rfl,rfl,rfl,by decide +kernel,rfl,by decide +kernel,by decide +kernel⟩
theorem nB {f:Addr}{fd:FuncData}(F:Fun K "word" "Price.word" tL f fd):zv P w K mg base CX0 1 f fd ["self"] (xU "price"):=by
 refine F.ok lq (fun vs H Q E h=>?_) (fun cdv A outer s H vs Q E hr h=>?_)
 ·obtain⟨p,rfl,_⟩:=h;rfl
 ·obtain⟨p,rfl,q⟩:=h;exact⟨_,zp (zu zP),q⟩
theorem mY {f:Addr}{fd:FuncData}(F:Fun K "word" "Come.word" pK f fd):zv P w K mg base CX0 1 f fd ["self"] (xU "come"):=by
 refine F.ok gJ (fun vs H Q E h=>?_) (fun cdv A outer s H vs Q E hr h=>?_)
 ·obtain⟨p,rfl,_⟩:=h;rfl
 ·obtain⟨p,rfl,q⟩:=h;exact⟨_,zp (zu zP),q⟩
theorem eD {f:Addr}{fd:FuncData}(F:Fun K "word" "Go.word" eR f fd):zv P w K mg base CX0 1 f fd ["self"] (xU "go"):=by
 refine F.ok dH (fun vs H Q E h=>?_) (fun cdv A outer s H vs Q E hr h=>?_)
 ·obtain⟨p,rfl,_⟩:=h;rfl
 ·obtain⟨p,rfl,q⟩:=h;exact⟨_,zp (zu zP),q⟩
theorem nO {f:Addr}{fd:FuncData}(F:Fun K "word" "Least.word" sg f fd):zv P w K mg base CX0 1 f fd ["self"] (xU "least"):=by
 refine F.ok mZ (fun vs H Q E h=>?_) (fun cdv A outer s H vs Q E hr h=>?_)
 ·obtain⟨p,rfl,_⟩:=h;rfl
 ·obtain⟨p,rfl,q⟩:=h;exact⟨_,zp (zu zP),q⟩
theorem mT {f:Addr}{fd:FuncData}(F:Fun K "word" "Most.word" pq f fd):zv P w K mg base CX0 1 f fd ["self"] (xU "most"):=by
 refine F.ok gy (fun vs H Q E h=>?_) (fun cdv A outer s H vs Q E hr h=>?_)
 ·obtain⟨p,rfl,_⟩:=h;rfl
 ·obtain⟨p,rfl,q⟩:=h;exact⟨_,zp (zu zP),q⟩
theorem jH {f:Addr}{fd:FuncData}(F:Fun K "word" "Deal.word" qS f fd):zv P w K mg base CX0 1 f fd ["self"] (xU "deal"):=by
 refine F.ok gC (fun vs H Q E h=>?_) (fun cdv A outer s H vs Q E hr h=>?_)
 ·obtain⟨p,rfl,_⟩:=h;rfl
 ·obtain⟨p,rfl,q⟩:=h;exact⟨_,zp (zu zP),q⟩
theorem hJ {f:Addr}{fd:FuncData}(F:Fun K "word" "Fee.word" mQ f fd):zv P w K mg base CX0 1 f fd ["self"] (xU "fee"):=by
 refine F.ok eA (fun vs H Q E h=>?_) (fun cdv A outer s H vs Q E hr h=>?_)
 ·obtain⟨p,rfl,_⟩:=h;rfl
 ·obtain⟨p,rfl,q⟩:=h;exact⟨_,zp (zu zP),q⟩
theorem dy :zi ["self"] ["self"] (zb jT):=⟨rfl,rfl,rfl,by decide +kernel,rfl,by decide +kernel,by decide +kernel⟩
theorem gq (x y z:V):(xY x y z).lookup ("word":Str)=none:=ib x y z (by decide +kernel) (by decide +kernel) (by decide +kernel)
theorem xE {f C fIn fE fWd:Addr}{fd fdW:FuncData}{wd:Str}(F:Fun K "told" "Rule.told" jT f fd)(R:xN K C fIn f fE fWd)(GW:zv P w K mg base CX0 1 fWd fdW ["self"] (xU wd))(bW:Binds K fdW ["self"] []):
  zv P w K mg base CX0 2 f fd ["self"] (jC C wd):=by
 refine F.ok dy (fun vs H Q E h=>?_) (fun cdv A outer s H vs Q E hr h=>?_)
 ·obtain⟨p,dx,x,y,z,rfl,_⟩:=h
  rfl
 ·obtain⟨p,dx,x,y,z,rfl,hp,q⟩:=h
  refine⟨_,zp (zu (qC (zc (vX (pv 0) R.cl R.word GW hr bW .nil zK) (zc (tZ (pv 0) rfl) (zc (tZ (pv 0) rfl) (zc (tZ (pv 0) rfl) zm)))))),?_⟩
  refine⟨_,rfl,p,dx,_,rfl,hp,gq _ _ _,p,rfl,?_⟩
  exact⟨_,rfl,p,C,dx,_,_,rfl,hp,R.cl,R.nf,pJ _ _ _,_,rfl,p,C,dx,_,_,rfl,hp,R.cl,R.nl,oV _ _ _,_,rfl,p,C,dx,_,_,rfl,hp,R.cl,R.nw,pj _ _ _,(by show 4≤sizeLine;decide),q⟩
theorem iL :zi ["thing"] ["thing"] (zb pw):=⟨rfl,rfl,rfl,by decide +kernel,rfl,by decide +kernel,by decide +kernel⟩
theorem ky {f:Addr}{fd fdI:FuncData}(F:Fun K "is_coins" "is_coins" pw f fd)(T:qY mg fW fI fP fD fPD fS fC fDl fWo fR fM cs)(GI:zv P w K mg base CX0 2 fI fdI ["thing","lowest","highest"] xZ)(kI:PySem.W.keepIn K (.ref fI)=true)(bI:Binds K fdI ["thing","lowest","highest"] []):
  zv P w K mg base CX0 3 f fd ["thing"] (yu wK):=by
 obtain⟨tl,hl⟩:=T.coinsMost
 refine F.ok iL (fun vs H Q E h=>?_) (fun cdv A outer s H vs Q E hr h=>?_)
 ·obtain⟨x,d,rfl,_⟩:=h
  rfl
 ·obtain⟨x,d,rfl,hd,q⟩:=h
  refine⟨_,zp (zu (zI GI hr (by rfl) T.d.within kI bI .nil zK (zc (pv 0) (zc zq (zc (xF (v:=.int 1000000000000) (by rfl) hl ⟨tl,rfl⟩) zm))))),?_⟩
  exact⟨_,rfl,x,d,_,_,rfl,hd,q⟩
theorem kf :zi ["thing"] ["thing"] (zb tQ):=⟨rfl,rfl,rfl,by decide +kernel,rfl,by decide +kernel,by decide +kernel⟩
theorem nV {f:Addr}{fd fdI fdP:FuncData}(F:Fun K "is_deal" "is_deal" tQ f fd)(T:qY mg fW fI fP fD fPD fS fC fDl fWo fR fM cs)(GI:zv P w K mg base CX0 2 fI fdI ["thing","lowest","highest"] xZ)(kI:PySem.W.keepIn K (.ref fI)=true)(bI:Binds K fdI ["thing","lowest","highest"] [])
  (GP:zv P w K mg base CX0 1 fP fdP ["thing"] (yu pairD)) (kP:PySem.W.keepIn K (.ref fP)=true) (bP:Binds K fdP ["thing"] []):zv P w K mg base CX0 3 f fd ["thing"] (yu vD):=by
 obtain⟨tm,hm⟩:=T.d.most
 refine F.ok kf (fun vs H Q E h=>?_) (fun cdv A outer s H vs Q E hr h=>?_)
 ·obtain⟨x,d,rfl,_⟩:=h
  rfl
 ·obtain⟨x,d,rfl,hd,q⟩:=h
  have hr1:zJ 1 _:=hr.mono (by decide)
  refine⟨_,zp (zu (yB (zI GP hr1 (by rfl) T.d.pair kP bP .nil zK (zc (pv 0) zm))
   (yB (zI GI hr (by rfl) T.d.within kI bI .nil zK (zc (zV yp (pv 0) zq (fun _ _=>rfl)) (zc zq (zc (xF (v:=.int 14) (by rfl) hm ⟨tm,rfl⟩) zm))))
   (xf (zI GI hr (by rfl) T.d.within kI bI .nil zK (zc (zV yp (pv 0) zq (fun _ _=>rfl)) (zc zq (zc (yL kU (zV yp (pv 0) zq (fun _ _=>rfl)) zq) zm)))))))),?_⟩
  refine⟨_,rfl,x,d,rfl,hd,_,rfl,?_⟩
  refine yq (fun h=>?_) (fun h=>?_)
  ·obtain⟨a,b,rfl⟩:=vC h
   cases hd with
   |tup e hs=>
    cases hs with
    |cons ha hs=>
     cases hs with
     |cons hb hs=>
      cases hs
      refine⟨_,rfl,_,_,0,_,rfl,rfl,SqT.of e,rfl,_,_,_,_,rfl,ha,_,rfl,?_⟩
      cases ha with
      |int m=>
       have q':Q (.bl (zL 2 14 (.int m)&&zL 1 (m-1) b)) H:=q
       refine yq (fun h=>?_) (fun h=>?_)
       ·rw[h,zb0] at q'
        exact⟨_,rfl,_,_,1,_,rfl,rfl,SqT.of e,rfl,_,rfl,_,_,0,_,rfl,rfl,SqT.of e,rfl,_,_,rfl,rfl,_,_,_,_,rfl,hb,q'⟩
       ·rw[aY.mpr h,zc5] at q'
        exact q'
      |_=>exact vM q
  ·have e:vD d=false:=by
    unfold vD
    split
    ·exact absurd rfl h
    ·rfl
   rw[e] at q
   exact q
theorem iK :zi ["word","thing"] ["word","thing"] (zb qU):=⟨rfl,rfl,rfl,by decide +kernel,rfl,by decide +kernel,by decide +kernel⟩
theorem kL {f:Addr}{fd fdI fdC fdDl:FuncData}(F:Fun K "is_worth" "is_worth" qU f fd)(T:qY mg fW fI fP fD fPD fS fC fDl fWo fR fM cs)(GI:zv P w K mg base CX0 2 fI fdI ["thing","lowest","highest"] xZ)(kI:PySem.W.keepIn K (.ref fI)=true)(bI:Binds K fdI ["thing","lowest","highest"] [])
  (GC:zv P w K mg base CX0 3 fC fdC ["thing"] (yu wK)) (kC:PySem.W.keepIn K (.ref fC)=true) (bC:Binds K fdC ["thing"] []) (GDl:zv P w K mg base CX0 3 fDl fdDl ["thing"] (yu vD)) (kDl:PySem.W.keepIn K (.ref fDl)=true) (bDl:Binds K fdDl ["thing"] []):
  zv P w K mg base CX0 4 f fd ["word","thing"] oH:=by
 obtain⟨tm,hm⟩:=T.d.most
 refine F.ok iK (fun vs H Q E h=>?_) (fun cdv A outer s H vs Q E hr h=>?_)
 ·obtain⟨x,y,dw,dv,rfl,_⟩:=h
  rfl
 ·obtain⟨x,y,dw,dv,rfl,hx,sw,hy,q⟩:=h
  have hr2:zJ 2 _:=hr.mono (by decide)
  have hu:=hr.units
  have st:∀{z:Str},z∈words→SeqAt.shaped (.str z)=true:=fun {z} hz=>qZ (by
   simp only[words,ay,aE,aZ] at hz
   rcases hz with rfl|rfl|rfl|rfl|rfl|rfl|rfl<;>decide +kernel)
  unfold zD at q
  -- if word == 'price'
  refine zX (fun σ H1=>σ=[some x,some y]∧eqS dw "price"=false∧H=H1)
   ⟨_,xq (ye (xR hu) (pv 0) zP (zy _)) (zp (zu (kZ (xo pD (pv 1) si (zy _)) (xf (zI GC hr (by rfl) T.coins kC bC .nil zK (zc (pv 1) zm)))))) ym,?_⟩ ?_
  ·refine⟨_,rfl,dw,.str "price",hx,.str _,sw,st (by simp[words]),_,rfl,?_⟩
   refine yq (fun h=>?_) (fun h=>⟨rfl,aY.mpr h,rfl⟩)
   rw[if_pos h] at q
   refine⟨_,rfl,rfl,_,rfl,?_⟩
   rw[hy.non_iff]
   refine yq (fun h2=>?_) (fun h2=>?_)
   ·rw[h2,Bool.true_or] at q
    exact q
   ·rw[aY.mpr h2,zh3] at q
    exact⟨_,rfl,y,dv,rfl,hy,q⟩
  rintro σ H1 ⟨rfl,e1,rfl⟩
  rw[e1,if_neg aD] at q
  -- if word == 'come' or word == 'go'
  refine zX (fun σ H1=>σ=[some x,some y]∧(eqS dw "come"||eqS dw "go")=false∧H=H1)
   ⟨_,xq (PW.pt (mM (ye (xR hu) (pv 0) zP (zy _)) (qB (ye (xR hu) (pv 0) zP (zy _))))) (zp (zu (yh yT (by rfl) T.d.isi zc6 (zc (pv 1) (zc (wg (v:=.ty "bool") (by rfl) T.d.bool boot_bool rfl) zm))))) ym,?_⟩ ?_
  ·refine⟨_,rfl,dw,.str "come",hx,.str _,sw,st (by simp[words]),_,rfl,?_⟩
   refine yq (fun h=>?_) (fun h=>?_)
   ·have h':eqS dw "come"=true:=h
    rw[h',Bool.true_or,if_pos rfl] at q
    exact vw ⟨_,rfl,y,"bool",dv,_,rfl,hy,ub dv,q⟩
   ·have h':eqS dw "come"=false:=aY.mpr h
    refine⟨_,rfl,dw,.str "go",hx,.str _,sw,st (by simp[words]),_,rfl,?_⟩
    refine yq (fun h2=>?_) (fun h2=>?_)
    ·have h2':eqS dw "go"=true:=h2
     rw[h',h2',zh3,if_pos rfl] at q
     exact⟨_,rfl,y,"bool",dv,_,rfl,hy,ub dv,q⟩
    ·have h2':eqS dw "go"=false:=aY.mpr h2
     exact⟨rfl,by rw[h',h2'];rfl,rfl⟩
  rintro σ H1 ⟨rfl,e2,rfl⟩
  rw[e2,if_neg aD] at q
  -- if word == 'least' or word == 'most'
  refine zX (fun σ H1=>σ=[some x,some y]∧(eqS dw "least"||eqS dw "most")=false∧H=H1)
   ⟨_,xq (PW.pt (mM (ye (xR hu) (pv 0) zP (zy _)) (qB (ye (xR hu) (pv 0) zP (zy _))))) (zp (zu (zI GI hr2 (by rfl) T.d.within kI bI .nil zK (zc (pv 1) (zc zq (zc (xF (v:=.int 14) (by rfl) hm ⟨tm,rfl⟩) zm)))))) ym,?_⟩ ?_
  ·refine⟨_,rfl,dw,.str "least",hx,.str _,sw,st (by simp[words]),_,rfl,?_⟩
   refine yq (fun h=>?_) (fun h=>?_)
   ·have h':eqS dw "least"=true:=h
    rw[h',Bool.true_or,if_pos rfl] at q
    exact vw ⟨_,rfl,y,dv,_,_,rfl,hy,q⟩
   ·have h':eqS dw "least"=false:=aY.mpr h
    refine⟨_,rfl,dw,.str "most",hx,.str _,sw,st (by simp[words]),_,rfl,?_⟩
    refine yq (fun h2=>?_) (fun h2=>?_)
    ·have h2':eqS dw "most"=true:=h2
     rw[h',h2',zh3,if_pos rfl] at q
     exact⟨_,rfl,y,dv,_,_,rfl,hy,q⟩
    ·have h2':eqS dw "most"=false:=aY.mpr h2
     exact⟨rfl,by rw[h',h2'];rfl,rfl⟩
  rintro σ H1 ⟨rfl,e3,rfl⟩
  rw[e3,if_neg aD] at q
  -- if word == 'deal'
  refine zX (fun σ H1=>σ=[some x,some y]∧eqS dw "deal"=false∧H=H1)
   ⟨_,xq (ye (xR hu) (pv 0) zP (zy _)) (zp (zu (kZ (xo pD (pv 1) si (zy _)) (xf (zI GDl hr (by rfl) T.deal kDl bDl .nil zK (zc (pv 1) zm)))))) ym,?_⟩ ?_
  ·refine⟨_,rfl,dw,.str "deal",hx,.str _,sw,st (by simp[words]),_,rfl,?_⟩
   refine yq (fun h=>?_) (fun h=>⟨rfl,aY.mpr h,rfl⟩)
   rw[if_pos h] at q
   refine⟨_,rfl,rfl,_,rfl,?_⟩
   rw[hy.non_iff]
   refine yq (fun h2=>?_) (fun h2=>?_)
   ·rw[h2,Bool.true_or] at q
    exact q
   ·rw[aY.mpr h2,zh3] at q
    exact⟨_,rfl,y,dv,rfl,hy,q⟩
  rintro σ H1 ⟨rfl,e4,rfl⟩
  rw[e4,if_neg aD] at q
  refine⟨_,zp (zu (yB (xo (xR hu) (pv 0) zP (zy _)) (xf (zI GC hr (by rfl) T.coins kC bC .nil zK (zc (pv 1) zm))))),?_⟩
  refine⟨_,rfl,dw,.str "fee",hx,.str _,sw,st (by simp[words]),_,rfl,?_⟩
  refine yq (fun h=>?_) (fun h=>?_)
  ·have h':eqS dw "fee"=true:=h
   rw[h',zb0] at q
   exact⟨_,rfl,y,dv,rfl,hy,q⟩
  ·have h':eqS dw "fee"=false:=aY.mpr h
   rw[h',zc5] at q
   exact q
theorem mL :zi ["thing"] ["thing"] (zb sN):=⟨rfl,rfl,rfl,by decide +kernel,rfl,by decide +kernel,by decide +kernel⟩
theorem nR {f:Addr}{fd fdS fdWo:FuncData}(F:Fun K "is_rule" "is_rule" sN f fd)(T:qY mg fW fI fP fD fPD fS fC fDl fWo fR fM cs)(GS:zv P w K mg base CX0 5 fS fdS ["thing"] (yu zU))(kS:PySem.W.keepIn K (.ref fS)=true)(bS:Binds K fdS ["thing"] [])
  (GW:zv P w K mg base CX0 4 fWo fdWo ["word","thing"] oH) (kW:PySem.W.keepIn K (.ref fWo)=true) (bW:Binds K fdWo ["word","thing"] []):zv P w K mg base CX0 6 f fd ["thing"] qE:=by
 refine F.ok mL (fun vs H Q E h=>?_) (fun cdv A outer s H vs Q E hr h=>?_)
 ·obtain⟨x,d,rfl,_⟩:=h
  rfl
 ·obtain⟨x,d,rfl,hd,sd,q⟩:=h
  have hr4:zJ 4 _:=hr.mono (by decide)
  refine⟨_,zp (zu (yB (yh yT (by rfl) T.d.isi zc6 (zc (pv 0) (zc (wg (v:=.ty "tuple") (by rfl) T.d.tuple boot_tuple rfl) zm)))
   (yB (xo xM (yh yQ (by rfl) T.d.len zg9 (zc (pv 0) zm)) zq (zy _))
   (yB (zI GS hr (by rfl) T.stretch kS bS .nil zK (zc (qC (zc (zV yp (pv 0) zq (fun _ _=>rfl)) (zc (zV yp (pv 0) zq (fun _ _=>rfl)) zm))) zm))
   (xf (zI GW hr4 (by rfl) T.worth kW bW .nil zK (zc (zV yp (pv 0) zq (fun _ _=>rfl)) (zc (zV yp (pv 0) zq (fun _ _=>rfl)) zm)))))))),?_⟩
  refine⟨_,rfl,x,"tuple",d,_,rfl,hd,uT d,_,rfl,?_⟩
  cases hd with
  |@tup a xs ds e hs=>
   refine vw ⟨_,rfl,a,_,rfl,.inr (SqT.of e),rfl,_,rfl,?_⟩
   match xs,ds,hs with
   |_,[dw,da,db,dv],.cons (x:=xw) hw (.cons (x:=xa) ha (.cons (x:=xb) hb (.cons (x:=xv) hv .nil)))=>
    refine yq (fun _=>?_) (fun h=>absurd rfl h)
    refine⟨_,rfl,a,_,1,_,rfl,rfl,SqT.of e,rfl,_,rfl,a,_,2,_,rfl,rfl,SqT.of e,rfl,(by show 2≤sizeLine;decide),fun p hp=>?_⟩
    have s1:zr H (upd H p (.tup [xa,xb])):=yg hp
    refine⟨_,.tuple [da,db],rfl,.tup zl (.cons (ha.same s1) (.cons (hb.same s1) .nil)),_,rfl,?_⟩
    have q':Q (.bl (zU (.tuple [da,db])&&zD dw dv)) (upd H p (.tup [xa,xb])):=q _ s1
    refine yq (fun h=>?_) (fun h=>?_)
    ·rw[h,zb0] at q'
     exact⟨_,rfl,a,_,0,_,rfl,rfl,SqT.of (s1 _ _ e),rfl,_,rfl,a,_,3,_,rfl,rfl,SqT.of (s1 _ _ e),rfl,_,_,_,_,rfl,hw.same s1,tN sd dw (by simp),hv.same s1,q'⟩
    ·rw[aY.mpr h,zc5] at q'
     exact q'
   |_,[],.nil=>exact yq (fun h=>absurd h (by simp)) (fun _=>q H (zr.refl H))
   |_,[_],.cons _ .nil=>exact yq (fun h=>absurd h (by simp)) (fun _=>q H (zr.refl H))
   |_,[_,_],.cons _ (.cons _ .nil)=>exact yq (fun h=>absurd h (by simp)) (fun _=>q H (zr.refl H))
   |_,[_,_,_],.cons _ (.cons _ (.cons _ .nil))=>exact yq (fun h=>absurd h (by simp)) (fun _=>q H (zr.refl H))
   |_,_::_::_::_::_::_,.cons _ (.cons _ (.cons _ (.cons _ (.cons _ _))))=>exact yq (fun h=>absurd h (by simp;omega)) (fun _=>q H (zr.refl H))
  |_=>exact vM (q H (zr.refl H))
end
section
variable {P:Program}{w:World}{K:PySem.W.Frag}{mg:Str→Option Value}{base:Heap}{fW fI fP fD fPD fS fC fDl fWo fR fM:Addr}{cs:Cs}
structure mR (K:PySem.W.Frag)(cs:Cs)(fIn fTo fTe w1 w2 w3 w4 w5 w6 w7:Addr):Prop where
 price:xN K cs.price fIn fTo fTe w1
 come:xN K cs.come fIn fTo fTe w2
 go:xN K cs.go fIn fTo fTe w3
 least:xN K cs.least fIn fTo fTe w4
 most:xN K cs.most fIn fTo fTe w5
 deal:xN K cs.deal fIn fTo fTe w6
 fee:xN K cs.fee fIn fTo fTe w7
theorem rf (cs:Cs):cs.of "price"=cs.price:=by unfold Cs.of;rw[if_pos rfl]
theorem pW (cs:Cs):cs.of "come"=cs.come:=by unfold Cs.of;rw[if_neg (by decide +kernel),if_pos rfl]
theorem fq (cs:Cs):cs.of "go"=cs.go:=by unfold Cs.of;rw[if_neg (by decide +kernel),if_neg (by decide +kernel),if_pos rfl]
theorem rE (cs:Cs):cs.of "least"=cs.least:=by unfold Cs.of;rw[if_neg (by decide +kernel),if_neg (by decide +kernel),if_neg (by decide +kernel),if_pos rfl]
theorem oi (cs:Cs):cs.of "most"=cs.most:=by unfold Cs.of;rw[if_neg (by decide +kernel),if_neg (by decide +kernel),if_neg (by decide +kernel),if_neg (by decide +kernel),if_pos rfl]
theorem og (cs:Cs):cs.of "deal"=cs.deal:=by unfold Cs.of;rw[if_neg (by decide +kernel),if_neg (by decide +kernel),if_neg (by decide +kernel),if_neg (by decide +kernel),if_neg (by decide +kernel),if_pos rfl]
theorem km (cs:Cs):cs.of "fee"=cs.fee:=by unfold Cs.of;rw[if_neg (by decide +kernel),if_neg (by decide +kernel),if_neg (by decide +kernel),if_neg (by decide +kernel),if_neg (by decide +kernel),if_neg (by decide +kernel)]
theorem vA {x y:Str}(h:decide (V.str x=V.str y)=true):x=y:=by
 have:=zc4 h
 injection this
theorem vh {x y:Str}(h:¬decide (V.str x=V.str y)=true):x≠y:=fun e=>h (by rw[e];exact aQ rfl)
theorem yX {C p dx:Addr}{H:Hp}{x y z:V}{Q:VK}(k:∀(p dx:Addr) (H':Hp),H' p=some (.ins C dx (xY x y z))→H p=none→zr H H'→Q (.ref p) H')(hp:H p=none)(hx:H dx=none)(n:dx≠p):
  Q (.ref p) (upd (upd (upd H dx (.own p)) p (.ins C dx [])) p (.ins C dx (xY x y z))):=by
 refine k p dx _ zl hp fun a o e=>?_
 rw[tR,zj (zh e hp),zj (zh e hx)]
 exact e
theorem eE :zi ["word","first","last","worth"] ["word","first","last","worth"] (zb lL):=⟨rfl,rfl,rfl,by decide +kernel,rfl,by decide +kernel,by decide +kernel⟩
set_option maxHeartbeats 4000000 in
theorem jY {f fIn fTo fTe w1 w2 w3 w4 w5 w6 w7:Addr}{fd fdIn:FuncData}(F:Fun K "made" "made" lL f fd)(T:qY mg fW fI fP fD fPD fS fC fDl fWo fR fM cs)(A7:mR K cs fIn fTo fTe w1 w2 w3 w4 w5 w6 w7)
  (FI:Fun K "__init__" "Rule.__init__" ox fIn fdIn) (bI:Binds K fdIn ["self","first","last","worth"] []):zv P w K mg base CX0 3 f fd ["word","first","last","worth"] (lO cs):=by
 refine F.ok eE (fun vs H Q E h=>?_) (fun cdv A outer s H vs Q E hr h=>?_)
 ·obtain⟨wd,x,y,z,rfl,_⟩:=h
  rfl
 ·obtain⟨wd,x,y,z,rfl,hw,k⟩:=h
  refine zX (fun σ H1=>σ=[some (.str wd),some x,some y,some z]∧wd≠"price"∧H=H1)
   ⟨_,xq (ye xM (pv 0) zP (zy _)) (zp (zu (xm A7.price.makes (xB FI A7.price) hr (by rfl) T.cPrice bI .nil zK (zc (pv 1) (zc (pv 2) (zc (pv 3) zm)))))) ym,?_⟩ ?_
  ·refine⟨_,rfl,rfl,_,rfl,yq (fun h=>?_) (fun h=>⟨rfl,vh h,rfl⟩)⟩
   rw[vA h,rf] at k
   exact⟨_,rfl,_,rfl,_,rfl,fun p dx hp hx n=>⟨p,dx,_,_,_,rfl,zl,rfl,yX k hp hx n⟩⟩
  rintro σ H1 ⟨rfl,n1,rfl⟩
  refine zX (fun σ H1=>σ=[some (.str wd),some x,some y,some z]∧wd≠"come"∧H=H1)
   ⟨_,xq (ye xM (pv 0) zP (zy _)) (zp (zu (xm A7.come.makes (xB FI A7.come) hr (by rfl) T.cCome bI .nil zK (zc (pv 1) (zc (pv 2) (zc (pv 3) zm)))))) ym,?_⟩ ?_
  ·refine⟨_,rfl,rfl,_,rfl,yq (fun h=>?_) (fun h=>⟨rfl,vh h,rfl⟩)⟩
   rw[vA h,pW] at k
   exact⟨_,rfl,_,rfl,_,rfl,fun p dx hp hx n=>⟨p,dx,_,_,_,rfl,zl,rfl,yX k hp hx n⟩⟩
  rintro σ H1 ⟨rfl,n2,rfl⟩
  refine zX (fun σ H1=>σ=[some (.str wd),some x,some y,some z]∧wd≠"go"∧H=H1)
   ⟨_,xq (ye xM (pv 0) zP (zy _)) (zp (zu (xm A7.go.makes (xB FI A7.go) hr (by rfl) T.cGo bI .nil zK (zc (pv 1) (zc (pv 2) (zc (pv 3) zm)))))) ym,?_⟩ ?_
  ·refine⟨_,rfl,rfl,_,rfl,yq (fun h=>?_) (fun h=>⟨rfl,vh h,rfl⟩)⟩
   rw[vA h,fq] at k
   exact⟨_,rfl,_,rfl,_,rfl,fun p dx hp hx n=>⟨p,dx,_,_,_,rfl,zl,rfl,yX k hp hx n⟩⟩
  rintro σ H1 ⟨rfl,n3,rfl⟩
  refine zX (fun σ H1=>σ=[some (.str wd),some x,some y,some z]∧wd≠"least"∧H=H1)
   ⟨_,xq (ye xM (pv 0) zP (zy _)) (zp (zu (xm A7.least.makes (xB FI A7.least) hr (by rfl) T.cLeast bI .nil zK (zc (pv 1) (zc (pv 2) (zc (pv 3) zm)))))) ym,?_⟩ ?_
  ·refine⟨_,rfl,rfl,_,rfl,yq (fun h=>?_) (fun h=>⟨rfl,vh h,rfl⟩)⟩
   rw[vA h,rE] at k
   exact⟨_,rfl,_,rfl,_,rfl,fun p dx hp hx n=>⟨p,dx,_,_,_,rfl,zl,rfl,yX k hp hx n⟩⟩
  rintro σ H1 ⟨rfl,n4,rfl⟩
  refine zX (fun σ H1=>σ=[some (.str wd),some x,some y,some z]∧wd≠"most"∧H=H1)
   ⟨_,xq (ye xM (pv 0) zP (zy _)) (zp (zu (xm A7.most.makes (xB FI A7.most) hr (by rfl) T.cMost bI .nil zK (zc (pv 1) (zc (pv 2) (zc (pv 3) zm)))))) ym,?_⟩ ?_
  ·refine⟨_,rfl,rfl,_,rfl,yq (fun h=>?_) (fun h=>⟨rfl,vh h,rfl⟩)⟩
   rw[vA h,oi] at k
   exact⟨_,rfl,_,rfl,_,rfl,fun p dx hp hx n=>⟨p,dx,_,_,_,rfl,zl,rfl,yX k hp hx n⟩⟩
  rintro σ H1 ⟨rfl,n5,rfl⟩
  refine zX (fun σ H1=>σ=[some (.str wd),some x,some y,some z]∧wd≠"deal"∧H=H1)
   ⟨_,xq (ye xM (pv 0) zP (zy _)) (zp (zu (xm A7.deal.makes (xB FI A7.deal) hr (by rfl) T.cDeal bI .nil zK (zc (pv 1) (zc (pv 2) (zc (pv 3) zm)))))) ym,?_⟩ ?_
  ·refine⟨_,rfl,rfl,_,rfl,yq (fun h=>?_) (fun h=>⟨rfl,vh h,rfl⟩)⟩
   rw[vA h,og] at k
   exact⟨_,rfl,_,rfl,_,rfl,fun p dx hp hx n=>⟨p,dx,_,_,_,rfl,zl,rfl,yX k hp hx n⟩⟩
  rintro σ H1 ⟨rfl,n6,rfl⟩
  have e7:wd="fee":=by
   simp only[words,ay,aE,aZ] at hw
   rcases hw with e|e|e|e|e|e|e
   ·exact absurd e n1
   ·exact absurd e n2
   ·exact absurd e n3
   ·exact absurd e n4
   ·exact absurd e n5
   ·exact absurd e n6
   ·exact e
  rw[e7,km] at k
  refine⟨_,zp (zu (xm A7.fee.makes (xB FI A7.fee) hr (by rfl) T.cFee bI .nil zK (zc (pv 1) (zc (pv 2) (zc (pv 3) zm))))),?_⟩
  exact⟨_,rfl,_,rfl,_,rfl,fun p dx hp hx n=>⟨p,dx,_,_,_,rfl,zl,rfl,yX k hp hx n⟩⟩
theorem lp :zi ["thing"] ["thing"] (zb sy):=⟨rfl,rfl,rfl,by decide +kernel,rfl,by decide +kernel,by decide +kernel⟩
theorem nq {f:Addr}{fd fdR fdM:FuncData}(F:Fun K "rule_of" "rule_of" sy f fd)(T:qY mg fW fI fP fD fPD fS fC fDl fWo fR fM cs)(GR:zv P w K mg base CX0 6 fR fdR ["thing"] qE)(kR:PySem.W.keepIn K (.ref fR)=true)(bR:Binds K fdR ["thing"] [])
  (GM:zv P w K mg base CX0 3 fM fdM ["word","first","last","worth"] (lO cs)) (kM:PySem.W.keepIn K (.ref fM)=true) (bM:Binds K fdM ["word","first","last","worth"] []):zv P w K mg base CX0 7 f fd ["thing"] (rD cs):=by
 refine F.ok lp (fun vs H Q E h=>?_) (fun cdv A outer s H vs Q E hr h=>?_)
 ·obtain⟨x,d,rfl,_⟩:=h
  rfl
 ·obtain⟨x,d,rfl,hd,sd,k0,k1⟩:=h
  have hr3:zJ 3 _:=hr.mono (by decide)
  refine zX (fun σ H1=>σ=[some x]∧yf d=true∧zr H H1)
   ⟨_,xq (ku (jl (zI GR hr (by rfl) T.rule kR bR .nil zK (zc (pv 0) zm)))) (zp (zu si)) ym,?_⟩ ?_
  ·refine⟨_,rfl,x,d,rfl,hd,sd,fun H1 s1=>⟨_,rfl,?_⟩⟩
   refine yq (fun h=>?_) (fun h=>?_)
   ·exact k0 (by simpa using h) H1 s1
   ·exact⟨rfl,by simpa using h,s1⟩
  rintro σ H1 ⟨rfl,er,s1⟩
  obtain⟨sw,da,db,dv,hsw,rfl⟩:=xl er
  cases hd with
  |@tup r xs ds e hs=>
   cases hs with
   |@cons xw _ _ _ hw hs=>
    cases hw
    cases hs with
    |@cons xa _ _ _ ha hs=>
     cases hs with
     |@cons xb _ _ _ hb hs=>
      cases hs with
      |@cons xv _ _ _ hv hs=>
       cases hs
       have e1:=s1 _ _ e
       refine⟨_,zp (zu (zI GM hr3 (by rfl) T.made kM bM .nil zK (zc (zV yp (pv 0) zq (fun _ _=>rfl)) (zc (zV yp (pv 0) zq (fun _ _=>rfl)) (zc (zV yp (pv 0) zq (fun _ _=>rfl)) (zc (zV yp (pv 0) zq (fun _ _=>rfl)) zm)))))),?_⟩
       refine⟨_,rfl,r,_,0,_,rfl,rfl,SqT.of e1,rfl,_,rfl,r,_,1,_,rfl,rfl,SqT.of e1,rfl,_,rfl,r,_,2,_,rfl,rfl,SqT.of e1,rfl,_,rfl,r,_,3,_,rfl,rfl,SqT.of e1,rfl,sw,_,_,_,rfl,hsw,fun p dx H2 h2 hp s2=>?_⟩
       exact k1 r sw xa xb xv p dx H2 rfl er hsw e h2 (s1.free hp) (s1.trans s2)
end
abbrev lH :Stmt:=top 34
abbrev yK :Stmt:=inClass (top 33) 0
abbrev wj :Stmt:=inClass (top 33) 1
def qt (C:Addr)(a b v:PyData):PyData:=xi C [(.str "first",a),(.str "last",b),(.str "worth",v)]
def vI (cs:Cs):PyData→PyData
 |.tuple [.str w,a,b,v]=>qt (cs.of w) a b v
 |_=>.none
def rF (C:Addr)(cs:Cs)(ds:List PyData):PyData:=xi C [(.str "kept",.list (ds.map (vI cs)))]
def Rules (ds:List PyData):Prop:=∀d∈ds,yf d=true∧SeqAt.shaped d=true∧d.hasDict=false
def uo (cs:Cs):List A→(A→Prop)→Prop:=fun as Q=>∃d,as=[.dat d]∧d.hasDict=false∧SeqAt.shaped d=true∧(yf d=false→Q (.dat .none))∧(yf d=true→Q (.dat (vI cs d)))
def pz (cs:Cs):List A→(A→Prop)→Prop:=fun as Q=>∃ds,as=[.dat (.list ds)]∧Rules ds∧ds.length≤24∧Q (.own (ds.map (vI cs)))
def uM (C:Addr)(cs:Cs):List A→(A→Prop)→Prop:=fun as Q=>∃ds,(as=[.dat (.list ds)]∨(as=[.dat .none]∧ds=[]))∧Rules ds∧ds.length≤24∧Q (.dat (rF C cs ds))
def qQ (C:Addr)(w:Str):List A→(A→Prop)→Prop:=fun as Q=>∃a b v,as=[.dat (qt C a b v)]∧Q (.dat (.tuple [.str w,a,b,v]))
def vT (C:Addr)(cs:Cs):List A→(A→Prop)→Prop:=fun as Q=>∃ds,as=[.dat (rF C cs ds)]∧Rules ds∧ds.length≤1000∧Q (.own ds)
theorem pR (x y z:V):xY x y z=[(("first":Str),x),(("last":Str),y),(("worth":Str),z)]:=by
 unfold xY
 show xj "worth" z (if ("first":Str)="last" then _ else _)=_
 rw[if_neg (fun e=>lC e.symm)]
 show (if ("first":Str)="worth" then _ else _)=_
 rw[if_neg (fun e=>fb e.symm)]
 show _::(if ("last":Str)="worth" then _ else _)=_
 rw[if_neg (fun e=>fe e.symm)]
 rfl
theorem wL {cs:Cs}{d:PyData}(h:yf d=true):∃(s:Str) (a b v:PyData),s∈words∧d=.tuple [.str s,a,b,v]∧vI cs d=qt (cs.of s) a b v:=by
 obtain⟨s,a,b,v,hs,rfl⟩:=xl h
 exact⟨s,a,b,v,hs,rfl,rfl⟩
def jJ :Scope:=match zA wj with
 |[.Return (some (.ListComp _ _ sc _)) _]=>sc
 |_=>zb wj
section
variable {P:Program}{w:World}{K:PySem.W.Frag}{mg:Str→Option Value}{base:Heap}{cs:Cs}
theorem pH {k:Nat}{f:Addr}{fd:FuncData}{ps:List Str}(hm:mg "rule_of"=some (.ref f))(hk:PySem.W.keepIn K (.ref f)=true)(hb:Binds K fd ps [])(G:zv P w K mg base CX0 k f fd ps (rD cs)):Cal P w K mg base "rule_of" k (uo cs):=by
 refine⟨f,fd,_,hm,hk,hb,G.imp fun vs H Q E h=>?_⟩
 obtain⟨F,as,Q',rfl,t,o,rv,⟨d,rfl,nd,sh,q0,q1⟩,kk⟩:=h
 obtain⟨x,rfl,av⟩:=rv.one
 have oo:∀{a:Addr},F.H0 a=none→¬F.O0 a:=fun {a} e z=>by
  obtain⟨u,hu,_⟩:=o a z
  rw[e] at hu;cases hu
 refine⟨x,d,rfl,(av.dv nd).same yW,sh,fun hr H' s=>kk _ _ _ (q0 hr) ⟨t.same s,Kz.of_same s,.non⟩,fun r wd x1 x2 x3 p dx H' hx hr hw he hp' hp s=>kk _ _ _ (q1 hr) ⟨t.same s,Kz.of_same s,?_⟩⟩
 subst hx
 obtain⟨s',a,b,v,_,rfl⟩:=xl hr
 obtain⟨r',xs,e1,e2,e3⟩:=av.tup_inv
 cases e1
 have e4:=(zf e2).2
 rw[he] at e4
 cases e4
 have gs:zr (sub (fun x=>¬F.O0 x) F.H0) (sub (fun x=>¬F.O0 x) H'):=zo fun a u h e=>⟨h,s _ _ e⟩
 cases e3 with
 |cons g1 e3=>
  cases g1.str_inv
  cases e3 with
  |cons g2 e3=>
   cases e3 with
   |cons g3 e3=>
    cases e3 with
    |cons g4 e3=>
     cases e3
     rw[pR] at hp'
     exact .ins (zQ (oo hp) hp') (.cons (g2.same gs) (.cons (g3.same gs) (.cons (g4.same gs) .nil)))
theorem yE {C f fIn fE fWd:Addr}{fd:FuncData}{wd:Str}(R:xN K C fIn f fE fWd)(hb:Binds K fd ["self"] [])(G:zv P w K mg base CX0 2 f fd ["self"] (jC C wd)):vN P w K mg base C "told" 2 (qQ C wd):=by
 refine⟨f,fd,_,R.cl,R.told,hb,G.imp fun vs H Q E h=>?_⟩
 obtain⟨F,as,Q',rfl,t,o,rv,⟨a,b,v,rfl,q⟩,kk⟩:=h
 obtain⟨x,rfl,av⟩:=rv.one
 obtain⟨p,dx,fs,rfl,h1,h2⟩:=av.ins_inv
 cases h2 with
 |cons g1 h2=>
  cases h2 with
  |cons g2 h2=>
   cases h2 with
   |cons g3 h2=>
    cases h2
    refine⟨p,dx,_,_,_,rfl,by rw[pR];exact (zf h1).2,fun r hr=>kk _ _ _ q ⟨t.same (yg hr),Kz.of_same (yg hr),?_⟩⟩
    have gs:∀o':HO,zr (sub (fun x=>¬F.O0 x) F.H0) (sub (fun x=>¬F.O0 x) (upd F.H0 r o')):=fun o'=>zo fun a u h e=>⟨h,by rw[zj (zh e hr)];exact e⟩
    refine .tup (zQ (fun z=>?_) zl) (.cons (.str _) (.cons (g1.same (gs _)) (.cons (g2.same (gs _)) (.cons (g3.same (gs _)) .nil))))
    obtain⟨u,hu,_⟩:=o r z
    rw[hr] at hu;cases hu
theorem jq :zi ["things","kept","number","thing","rule"] ["things"] (zb lH):=⟨rfl,rfl,rfl,by decide +kernel,rfl,by decide +kernel,by decide +kernel⟩
set_option maxHeartbeats 4000000 in
theorem jb {f:Addr}{fd:FuncData}(F:Fun K "kept_rules" "kept_rules" lH f fd)(hm:mg "kept_rules"=some (.ref f))(hb:Binds K fd ["things"] [])(nb:NbT mg)(gM:∃t,mg "MOST_RULES"=some (.int 24 t))(CRO:Cal P w K mg base "rule_of" 7 (uo cs)):Cal P w K mg base "kept_rules" 8 (pz cs):=by
 refine wQ F hm hb jq (fun as Q h=>?_) (fun cdv A' outer s H E as Q hr h=>?_)
 ·obtain⟨ds,rfl,_⟩:=h
  rfl
 ·obtain⟨ds,rfl,rd,hl,q⟩:=h
  refine wo 1 jq.nd (ya (zg (⟨_,rfl,aB rfl,?_⟩)))
  refine sI (pat:=.many [2,3]) zg3 rfl (xS (n:=2) (K:=K) rfl rfl (yr (zZ (i:=2) jq.nd rfl (Or.inl rfl)) (yr (zZ (i:=3) jq.nd rfl (Or.inl rfl)) (ve)))) (oB (by rfl) nb.enumerate (ze 0 rfl (⟨_,rfl,?_⟩)))
  refine va (fun i α=>∃v2 v3 v4,α=[some (.dat (.list ds)),some (.own ((ds.take i).map (vI cs))),v2,v3,v4]) ⟨none,none,none,rfl⟩ ?_ ?_
  ·rintro i d α hd ⟨v2,v3,v4,rfl⟩
   obtain⟨e,he,rfl⟩:=wt hd
   obtain⟨r1,r2,r3⟩:=rd e (zc2 he)
   have hi:i<ds.length:=(aH.mp he).1
   refine⟨_,rfl,?_⟩
   refine yb 4 jq.nd (zx CRO hr (by rfl) (za (ze 3 rfl (zg (⟨_,rfl,r3,r2,fun z=>(by rw[r1] at z;cases z),fun _=>?_⟩)))))
   refine yM (wJ (ze 4 rfl ?_))
   obtain⟨s',a,b,v,hs,rfl,ei⟩:=wL (cs:=cs) r1
   refine xk (fun h=>by rw[show (A.dat (vI cs (.tuple [.str s',a,b,v]))).d=qt (cs.of s') a b v from rfl] at h;cases h) (fun _=>zC ?_)
   refine xr 1 rfl (ze 4 rfl ⟨by rw[ax,zf4];omega,?_⟩)
   refine zC ⟨some (.dat (.int ((0+i:Nat):Int))),some (.dat (.tuple [.str s',a,b,v])),some (.dat (vI cs (.tuple [.str s',a,b,v]))),?_⟩
   rw[List.take_add_one,he,zg4]
   rfl
  ·rintro α ⟨v2,v3,v4,rfl⟩
   rw[wm,List.take_length]
   refine yM (gO 1 rfl (fg (ko (by rfl) nb.len (ze 1 rfl ⟨_,rfl,jG (by rfl) gM ⟨_,_,rfl,rfl,?_⟩⟩))))
   refine qX (fun h=>?_) (fun _=>zC ?_)
   ·rw[ax] at h
    omega
   ·exact oR 1 rfl q
theorem aa :zi ["self","rules"] ["self","rules"] (zb yK):=⟨rfl,rfl,rfl,by decide +kernel,rfl,by decide +kernel,by decide +kernel⟩
theorem tE {w' v:PyData}(h:zD w' v=true):noL v=true:=by
 have wi:∀{lo hi:Int} {x:PyData},zL lo hi x=true→noL x=true:=fun {lo hi x} h=>by
  cases x with
  |int i=>rfl
  |_=>cases h
 have nn:∀{x:PyData},isNone x=true→noL x=true:=fun {x} h=>by
  cases x with
  |none=>rfl
  |_=>cases h
 unfold zD at h
 split at h
 ·rcases (zc3 _ _).mp h with h|h
  ·exact nn h
  ·exact wi h
 ·split at h
  ·cases v with
   |bool b=>rfl
   |_=>cases h
  ·split at h
   ·exact wi h
   ·split at h
    ·rcases (zc3 _ _).mp h with h|h
     ·exact nn h
     ·unfold vD at h
      split at h
      ·rw[aI] at h
       simp only[noL,sX,wi h.2,Bool.and_self]
      ·cases h
    ·rw[aI] at h
     exact wi h.2
theorem lV {s':Str}{a b v:PyData}(h:yf (.tuple [.str s',a,b,v])=true):noL a=true∧noL b=true∧noL v=true:=by
 have h':(zU (.tuple [a,b])&&zD (.str s') v)=true:=h
 rw[aI] at h'
 refine⟨?_,?_,tE h'.2⟩
 ·have:=h'.1
  unfold zU uR at this
  split at this
  ·rename_i k e
   split at e
   ·rename_i z;cases z;rfl
   ·cases e
  ·cases this
 ·have:=h'.1
  unfold zU uR at this
  split at this
  ·rename_i k e
   split at e
   ·rename_i z;cases z;rfl
   ·cases e
  ·cases this
theorem rB {ds:List PyData}(rd:Rules ds):sX (ds.map (vI cs))=true:=by
 induction ds with
 |nil=>rfl
 |cons d r ih=>
  have ih':=ih fun x hx=>rd x (az _ hx)
  have h1:=(rd d aA).1
  obtain⟨s',a,b,v,hs,rfl,ei⟩:=wL (cs:=cs) h1
  obtain⟨z1,z2,z3⟩:=lV h1
  rw[aW,ei]
  simp only[sX,ih',zh4]
  simp[qt,xi,noL,qF,z1,z2,z3]
theorem lz {f C:Addr}{dV:Value}{fd:FuncData}(F:fH K "__init__" "Book.__init__" yK dV f fd)(c:Cls K C)(na:yD K C "kept")(CK:Cal P w K mg base "kept_rules" 8 (pz cs)):zv P w K mg base CX0 9 f fd ["self","rules"] (spI C (uM C cs)):=by
 refine bc (N:=[]) F aa c na rfl (fun as Q h=>?_) (fun cdv A' outer s H E as Q hr h=>?_) (fun _ _ _ _ _ _=>rfl) (Or.inl rfl)
 ·obtain⟨ds,h|⟨h,_⟩,_⟩:=h<;>rw[h]<;>rfl
 ·obtain⟨ds,h|⟨h,hz⟩,rd,hl,q⟩:=h
  ·subst h
   exact sH CK hr (by rfl) (za (qw (wJ (ze 1 rfl (vM (ze 1 rfl (zg ⟨_,rfl,rd,hl,_,rfl,rB rd,q⟩)))))))
  ·subst h hz
   exact sH CK hr (by rfl) (za (qw (wJ (ze 1 rfl (vw (EvL.d (ya (zg ⟨_,rfl,aB rfl,zg ⟨[],rfl,rd,hl,_,rfl,rB rd,q⟩⟩))))))))
theorem bQ :zi ["self"] ["self"] (zb wj):=⟨rfl,rfl,rfl,by decide +kernel,rfl,by decide +kernel,by decide +kernel⟩
theorem dP :zN ["self"] (zb wj) ["rule"] [none] jJ:=⟨rfl,by decide +kernel,by decide +kernel,by decide +kernel,by decide +kernel,rfl,by decide +kernel⟩
set_option maxHeartbeats 4000000 in
theorem me {f C:Addr}{fd:FuncData}(F:Fun K "rules" "Book.rules" wj f fd)(c:Cls K C)(na:yD K C "kept")(hb:Binds K fd ["self"] [])(O:∀w'∈words,vN P w K mg base (cs.of w') "told" 2 (qQ (cs.of w') w')):zv P w K mg base CX0 3 f fd ["self"] (spA (vT C cs)):=by
 refine fnA F bQ (fun as Q h=>?_) (fun cdv A' outer s H E as Q hr h=>?_)
 ·obtain⟨ds,rfl,_⟩:=h
  rfl
 ·obtain⟨ds,rfl,rd,hl,q⟩:=h
  refine tM (fh (pat:=.one 0) rfl dP rfl (fun _ _ _ _=>zZ (i:=0) dP.nd rfl (Or.inl rfl)) (wq (dD c na (ze 0 rfl ⟨_,_,rfl,rfl,⟨_,rfl,by rw[ax];exact hl,?comp⟩⟩))))
  case comp=>
   refine ny (fun i acc=>acc=ds.take i) rfl ?_ (fun acc h=>?_)
   ·rintro i d acc hd rfl
    rw[aU,za3] at hd
    obtain⟨e,he,rfl⟩:=hd
    obtain⟨s',a,b,v,hs,rfl,ei⟩:=wL (cs:=cs) (rd e (zc2 he)).1
    refine⟨_,rfl,fun C s2 H2 fp=>lJ ?_⟩
    rw[if_pos rfl]
    refine fun C s2 H2 fp=>qf (O s' hs) hr (ze 0 rfl ⟨_,rfl,rfl,_,_,_,rfl,?_⟩)
    show ds.take i++[_]=ds.take (i+1)
    rw[List.take_add_one,he]
    rfl
   ·rw[ax,List.take_length] at h
    rw[h]
    exact q
end
def iq :PyData→PyData
 |.tuple [_,_,_,v]=>v
 |_=>.none
theorem yV {d:PyData}(h:yf d=true):∃(s:Str) (i j:Int) (v:PyData),s∈words∧d=.tuple [.str s,.int i,.int j,v]∧0≤i∧i≤j∧j≤1000000∧zD (.str s) v=true:=by
 obtain⟨s,a,b,v,hs,rfl⟩:=xl h
 have h':(zU (.tuple [a,b])&&zD (.str s) v)=true:=h
 rw[aI] at h'
 have h1:=h'.1
 unfold zU uR at h1
 split at h1
 ·rename_i k e
  split at e
  ·rename_i z
   cases z
   split at e
   ·rename_i q
    cases e
    rw[aI] at q
    rename_i a' b'
    have qa:(decide (0≤a')&&decide (a'≤1000000))=true:=q.1
    have qb:(decide (0≤b')&&decide (b'≤1000000))=true:=q.2
    rw[aI,aO,aO] at qa qb
    have h2:=zc4 h1
    exact⟨s,a',b',v,hs,rfl,qa.1,by omega,qb.2,h'.2⟩
   ·cases e
  ·cases e
 ·cases h1
structure we (d:PyData):Prop where
 rule:yf d=true
 nice:yi 20011 d
 dep:d.depth≤2
 wn:yi 5000 (iq d)
def yO (ds:List PyData):Prop:=∀d∈ds,we d
theorem nG {s:Str}(h:s∈words):yi 2000 (.str s):=by
 simp only[words,ay,aE,aZ] at h
 rcases h with rfl|rfl|rfl|rfl|rfl|rfl|rfl<;>exact⟨rfl,rfl,aT _,by decide +kernel,by decide +kernel⟩
theorem we.of {s:Str}{i j:Int}{d:PyData}(hs:s∈words)(i0:0≤i)(ij:i≤j)(j1:j≤1000000)(hw:zD (.str s) d=true)(hn:yi 5000 d)(hd:d.depth≤1):we (.tuple [.str s,.int i,.int j,d]):=by
 have hbig:(1000001:Int)<big:=by decide
 have hneg:-big<(0:Int):=by decide
 have na:zY 5000 [.str s,.int i,.int j,d]:=by
  constructor
  ·intro x hx
   simp only[ay,aE,aZ] at hx
   rcases hx with rfl|rfl|rfl|rfl
   ·exact (nG hs).mono (by decide)
   ·exact (yi.int (by omega) (by omega)).mono (by decide)
   ·exact (yi.int (by omega) (by omega)).mono (by decide)
   ·exact hn
  ·intro x hx
   simp only[ay,aE,aZ] at hx
   rcases hx with rfl|rfl|rfl|rfl
   ·exact aT _
   ·exact aT _
   ·exact aT _
   ·omega
 refine⟨?_,yi.tuple na (by show 4*(5000+2)+3≤20011;decide),?_,hn⟩
 ·show (zU (.tuple [.int i,.int j])&&zD (.str s) d)=true
  rw[hw,zh4]
  unfold zU uR
  have h1:(wU (.int i)&&wU (.int j))=true:=by
   show ((decide (0≤i)&&decide (i≤1000000))&&(decide (0≤j)&&decide (j≤1000000)))=true
   simp only[aI,aO]
   omega
  simp only[h1,if_true,aO]
  omega
 ·simp only[PyData.depth,PyData.depthAll]
  omega
theorem yO.rules {ds:List PyData}(h:yO ds):Rules ds:=fun d hd=>⟨(h d hd).rule,(h d hd).nice.shaped,(h d hd).nice.nod⟩
abbrev sE :Stmt:=top 49
abbrev tT :Stmt:=top 50
abbrev pM :Stmt:=top 51
theorem xX (d:PyData):zD (.str "price") d=(isNone d||wK d):=by unfold zD;rw[if_pos (by decide +kernel)]
theorem uf (d:PyData):zD (.str "come") d=isBool d:=by unfold zD;rw[if_neg (by decide +kernel),if_pos (by decide +kernel)]
theorem qm (d:PyData):zD (.str "go") d=isBool d:=by unfold zD;rw[if_neg (by decide +kernel),if_pos (by decide +kernel)]
theorem vH (d:PyData):zD (.str "least") d=zL 1 14 d:=by unfold zD;rw[if_neg (by decide +kernel),if_neg (by decide +kernel),if_pos (by decide +kernel)]
theorem uK (d:PyData):zD (.str "most") d=zL 1 14 d:=by unfold zD;rw[if_neg (by decide +kernel),if_neg (by decide +kernel),if_pos (by decide +kernel)]
theorem wC (d:PyData):zD (.str "deal") d=(isNone d||vD d):=by unfold zD;rw[if_neg (by decide +kernel),if_neg (by decide +kernel),if_neg (by decide +kernel),if_pos (by decide +kernel)]
theorem tJ (d:PyData):zD (.str "fee") d=wK d:=by
 unfold zD;rw[if_neg (by decide +kernel),if_neg (by decide +kernel),if_neg (by decide +kernel),if_neg (by decide +kernel)]
 have:eqS (.str "fee") "fee"=true:=by decide +kernel
 rw[this,zb0]
theorem within_int {lo hi i:Int}(h1:lo≤i)(h2:i≤hi):zL lo hi (.int i)=true:=by
 show (decide (lo≤i)&&decide (i≤hi))=true
 rw[aQ h1,aQ h2];rfl
theorem wX {i:Int}(h0:-2000000000000≤i)(h1:i≤2000000000000):yi 2000 (.int i):=yi.int (by unfold big;omega) (by unfold big;omega)
def oQ :List A→(A→Prop)→Prop:=fun as Q=>as=[.tape]∧∀z:Int,0≤z→z≤1000000000000→Q (.dat (.int z))
def rQ :List A→(A→Prop)→Prop:=fun as Q=>∃wd,as=[.tape,.dat (.str wd)]∧wd∈words∧∀d,zD (.str wd) d=true→yi 5000 d→d.depth≤1→Q (.dat d)
def oG :List A→(A→Prop)→Prop:=fun as Q=>∃y:Int,as=[.tape,.dat (.int y)]∧0≤y∧y≤1000000∧∀d,we d→Q (.dat d)
section
variable {P:Program}{w:World}{K:PySem.W.Frag}{mg:Str→Option Value}{base:Heap}
theorem gN :zi ["_law_row","_law_few","_law_many","_law_great"] ["_law_row"] (zb sE):=⟨rfl,rfl,rfl,by decide +kernel,rfl,by decide +kernel,by decide +kernel⟩
set_option maxHeartbeats 4000000 in
theorem oY {f:Addr}{fd:FuncData}(F:Fun K "_law_coins" "_law_coins" sE f fd)(hm:mg "_law_coins"=some (.ref f))(hb:Binds K fd ["_law_row"] [])(CD:Cal P w K mg base "_law_take" 1 wO):Cal P w K mg base "_law_coins" 2 oQ:=by
 refine wQ F hm hb gN (fun as Q h=>?_) (fun cdv A' outer s H E as Q hr h=>?_)
 ·obtain⟨rfl,_⟩:=h
  rfl
 ·obtain⟨rfl,q⟩:=h
  refine yb 1 gN.nd (zx CD hr (by rfl) (zw 0 rfl (za (zk (zg (⟨_,rfl,by decide,by decide,fun v1 h1 g1=>?_⟩))))))
  refine yb 2 gN.nd (tK (zk (zx CD hr (by rfl) (zw 0 rfl (za (zk (zg (⟨_,rfl,by decide,by decide,fun v2 h2 g2=>⟨_,_,rfl,rfl,.inl ⟨by decide,by decide⟩,?_⟩⟩))))))))
  refine yb 3 gN.nd (yY (tK (zx CD hr (by rfl) (zw 0 rfl (za (yt (r:=1000000) ⟨by decide,by decide,by decide⟩ (by decide) (zg (⟨_,rfl,by decide,by decide,fun v4 h4 g4=>yt (r:=1000000) ⟨by decide,by decide,by decide⟩ (by decide) (⟨_,_,rfl,rfl,.inr ⟨by decide,by decide⟩,zx CD hr (by rfl) (zw 0 rfl (za (yt (r:=1000000) ⟨by decide,by decide,by decide⟩ (by decide) (zg (⟨_,rfl,by decide,by decide,fun v3 h3 g3=>⟨_,_,rfl,rfl,?_⟩⟩)))))⟩)⟩))))))))
  refine yn (wF (fun _ _=>rfl) (EvL.d (ya (za (ze 1 rfl (za (ze 2 rfl (za (yY (ze 1 rfl (tK (zk (ze 2 rfl (⟨_,_,rfl,rfl,.inl ⟨by decide,by decide⟩,⟨_,_,rfl,rfl,za (ze 3 rfl (za (yt (r:=1000000000000) ⟨by decide,by decide,by decide⟩ (by decide) (zg (⟨_,rfl,aB rfl,oN (zx CD hr (by rfl) (zw 0 rfl (za (zk (zg (⟨_,rfl,by decide,by decide,fun v5 h5 g5=>zk (⟨_,_,rfl,rfl,⟨by decide,by decide +kernel⟩,?_⟩)⟩))))))⟩)))))⟩⟩))))))))))))))
  obtain⟨z,hz,e⟩:=vG (ds:=[PyData.int v1,.int (10*v2),.int (v1+10*(10*v2)),.int (v4*1000000+v3),.int 1000000000000]) (v:=v5 / 2) (by omega) (by show v5 / 2<5;omega)
  refine⟨_,_,z,rfl,rfl,e,?_⟩
  simp only[ay,aE,aZ] at hz
  rcases hz with rfl|rfl|rfl|rfl|rfl
  ·exact q _ (by omega) (by omega)
  ·exact q _ (by omega) (by omega)
  ·exact q _ (by omega) (by omega)
  ·exact q _ (by omega) (by omega)
  ·exact q _ (by omega) (by omega)
theorem gg :zi ["_law_row","_law_word","_law_many","_law_free","_law_coins_here"] ["_law_row","_law_word"] (zb tT):=⟨rfl,rfl,rfl,by decide +kernel,rfl,by decide +kernel,by decide +kernel⟩
theorem qD (s a b:Str):inD (.str s) [.str a,.str b]=(decide (a=s)||decide (b=s)):=by
 show ((a == s)||((b == s)||false))=_
 rw[Bool.or_false]
 by_cases h1:a=s<;>by_cases h2:b=s<;>simp[h1,h2]
set_option maxHeartbeats 4000000 in
theorem nk {f:Addr}{fd:FuncData}(F:Fun K "_law_worth" "_law_worth" tT f fd)(hm:mg "_law_worth"=some (.ref f))(hb:Binds K fd ["_law_row","_law_word"] [])(CD:Cal P w K mg base "_law_take" 1 wO)(CC:Cal P w K mg base "_law_coins" 2 oQ):Cal P w K mg base "_law_worth" 3 rQ:=by
 refine wQ F hm hb gg (fun as Q h=>?_) (fun cdv A' outer s H E as Q hr h=>?_)
 ·obtain⟨wd,rfl,_⟩:=h
  rfl
 ·obtain⟨wd,rfl,hw,q⟩:=h
  have hr1:=hr.mono (show 1≤2 by decide)
  have hbig:(1000001:Int)<big:=by decide
  refine yM (ff (ze 1 rfl (wD (za (zz (za (zz (zg (⟨_,rfl,aB rfl,⟨_,.inr rfl,rfl,rfl,?_⟩⟩)))))))))
  rw[qD]
  refine xk (fun hc=>?_) (fun hc=>zC ?_)
  ·refine yn (di (zx CD hr1 (by rfl) (zw 0 rfl (za (zk (zg (⟨_,rfl,by decide,by decide,fun v1 h1 g1=>zk (⟨_,_,rfl,rfl,?_⟩)⟩)))))))
   refine q _ ?_ ((yi.bool _).mono (by decide)) (aT _)
   simp only[zc3,aO] at hc
   rcases hc with rfl|rfl
   ·rw[uf];rfl
   ·rw[qm];rfl
  simp only[zg0,zb7] at hc
  refine yM (ff (ze 1 rfl (wD (za (zz (za (zz (zg (⟨_,rfl,aB rfl,⟨_,.inr rfl,rfl,rfl,?_⟩⟩)))))))))
  rw[qD]
  refine xk (fun h2=>?_) (fun h2=>zC ?_)
  ·refine yn (yY (zk (zx CD hr1 (by rfl) (zw 0 rfl (za (EvD.imp (Q':=fun d=>∃z:Int,d=.int z∧0<z∧z≤14) (wF (fun _ _=>rfl) (EvL.d (ya (za (zk (za (zk (zg (⟨_,rfl,aB rfl,zx CD hr1 (by rfl) (zw 0 rfl (za (zk (zg (⟨_,rfl,by decide,by decide,fun v3 h3 g3=>?pick⟩)))))⟩))))))))) ?_))))))
   case pick=>
    obtain⟨z,hz,e⟩:=vG (ds:=[PyData.int 4,.int 14]) h3 g3
    refine⟨_,_,z,rfl,rfl,e,?_⟩
    simp only[ay,aE,aZ] at hz
    rcases hz with rfl|rfl
    ·exact⟨_,rfl,by decide,by decide⟩
    ·exact⟨_,rfl,by decide,by decide⟩
   rintro _ ⟨z,rfl,z0,z1⟩
   refine zg ⟨_,rfl,z0,by omega,fun v2 h2' g2=>⟨_,_,rfl,rfl,?_⟩⟩
   refine q _ ?_ ((wX (by omega) (by omega)).mono (by decide)) (aT _)
   simp only[zc3,aO] at h2
   rcases h2 with rfl|rfl
   ·rw[vH];exact within_int (by omega) (by omega)
   ·rw[uK];exact within_int (by omega) (by omega)
  simp only[zg0,zb7] at h2
  refine yM (lR (ze 1 rfl (zz (⟨_,_,rfl,rfl,?_⟩))))
  refine xk (fun h3=>?_) (fun h3=>zC ?_)
  ·rw[aO] at h3
   subst h3
   refine yb 2 gg.nd (yY (zk (zx CD hr1 (by rfl) (zw 0 rfl (za (EvD.imp (Q':=fun d=>∃z:Int,d=.int z∧0<z∧z≤13) (wF (fun _ _=>rfl) (EvL.d (ya (za (zk (za (zk (zg (⟨_,rfl,aB rfl,zx CD hr1 (by rfl) (zw 0 rfl (za (zk (zg (⟨_,rfl,by decide,by decide,fun v3 h3 g3=>?pick⟩)))))⟩))))))))) ?_))))))
   case pick=>
    obtain⟨z,hz,e⟩:=vG (ds:=[PyData.int 3,.int 13]) h3 g3
    refine⟨_,_,z,rfl,rfl,e,?_⟩
    simp only[ay,aE,aZ] at hz
    rcases hz with rfl|rfl
    ·exact⟨_,rfl,by decide,by decide⟩
    ·exact⟨_,rfl,by decide,by decide⟩
   rintro _ ⟨z,rfl,z0,z1⟩
   refine zg ⟨_,rfl,z0,by omega,fun v4 h4 g4=>⟨_,_,rfl,rfl,?_⟩⟩
   refine yb 3 gg.nd (yY (zk (zx CD hr1 (by rfl) (zw 0 rfl (za (sP (ze 2 rfl (zk (⟨_,_,rfl,rfl,zg (⟨_,rfl,by omega,by omega,fun v6 h6 g6=>⟨_,_,rfl,rfl,?_⟩⟩)⟩)))))))))
   refine yn (wF (fun _ _=>rfl) (EvL.d (ya (za (wD (za (ze 2 rfl (za (ze 3 rfl (zg (⟨_,rfl,aB rfl,za (wD (za (ze 2 rfl (za (ze 3 rfl (zg (⟨_,rfl,aB rfl,za (wM (zg (⟨_,rfl,aB rfl,zx CD hr1 (by rfl) (zw 0 rfl (za (zk (zg (⟨_,rfl,by decide,by decide,fun v7 h7 g7=>?_⟩)))))⟩)))⟩)))))))⟩)))))))))))
   obtain⟨u,hu,e⟩:=vG (ds:=[PyData.tuple [.int (2+v4),.int (1+v6)],.tuple [.int (2+v4),.int (1+v6)],.none]) h7 g7
   refine⟨_,_,u,rfl,rfl,e,?_⟩
   have dl:Q (.dat (.tuple [.int (2+v4),.int (1+v6)])):=by
    refine q _ ?_ (yi.tuple (n:=2000) (zY.two (wX (by omega) (by omega)) (wX (by omega) (by omega)) (aT _) (aT _)) (by show 2*(2000+2)+3≤5000;decide)) (aC _)
    rw[wC]
    show (false||(zL 2 14 (.int (2+v4))&&zL 1 (2+v4-1) (.int (1+v6))))=true
    rw[within_int (by omega) (by omega),within_int (by omega) (by omega)];rfl
   simp only[ay,aE,aZ] at hu
   rcases hu with rfl|rfl|rfl
   ·exact dl
   ·exact dl
   ·exact q _ (by rw[wC];rfl) (yi.none.mono (by decide)) (aT _)
  rw[zb7] at h3
  have hs:wd="price"∨wd="fee":=by
   simp only[words,ay,aE,aZ] at hw
   rcases hw with z|z|z|z|z|z|z
   ·exact .inl z
   ·exact absurd z.symm hc.1
   ·exact absurd z.symm hc.2
   ·exact absurd z.symm h2.1
   ·exact absurd z.symm h2.2
   ·exact absurd z h3
   ·exact .inr z
  refine yb 4 gg.nd (zx CC hr (by rfl) (zw 0 rfl (zg (⟨rfl,fun c8 p8 q8=>?_⟩))))
  have last:Q (.dat (.int c8)):=by
   refine q _ ?_ ((wX (by omega) (by omega)).mono (by decide)) (aT _)
   rcases hs with rfl|rfl
   ·rw[xX];show (false||zL 0 1000000000000 (.int c8))=true;rw[within_int p8 q8];rfl
   ·rw[tJ];exact within_int p8 q8
  refine yM (EvW.t (ji (lR (ze 1 rfl (zz (⟨_,_,rfl,rfl,?_⟩))))))
  refine yq (fun h9=>?_) (fun h9=>?_)
  ·rw[aO] at h9
   subst h9
   refine oj (dh (zx CD hr1 (by rfl) (zw 0 rfl (za (zk (zg (⟨_,rfl,by decide,by decide,fun v9 h9 g9=>zk (⟨_,_,rfl,rfl,?_⟩)⟩)))))))
   refine qX (fun _=>yn (wM ?_)) (fun _=>zC (yn (ze 4 rfl last)))
   exact q _ (by rw[xX];rfl) (yi.none.mono (by decide)) (aT _)
  ·exact xk (fun z=>nomatch z) (fun _=>zC (yn (ze 4 rfl last)))
theorem mU :zi ["_law_row","_law_day","_law_word","_law_ahead","_law_first","_law_last"] ["_law_row","_law_day"] (zb pM):=⟨rfl,rfl,rfl,by decide +kernel,rfl,by decide +kernel,by decide +kernel⟩
set_option maxHeartbeats 8000000 in
theorem mK {f:Addr}{fd:FuncData}(F:Fun K "_law_rule" "_law_rule" pM f fd)(hm:mg "_law_rule"=some (.ref f))(hb:Binds K fd ["_law_row","_law_day"] [])(nb:NbT mg)(CD:Cal P w K mg base "_law_take" 1 wO)(CW:Cal P w K mg base "_law_worth" 3 rQ):Cal P w K mg base "_law_rule" 4 oG:=by
 refine wQ F hm hb mU (fun as Q h=>?_) (fun cdv A' outer s H E as Q hr h=>?_)
 ·obtain⟨y,rfl,_⟩:=h
  rfl
 ·obtain⟨y,rfl,y0,y1,q⟩:=h
  have hr1:=hr.mono (show 1≤3 by decide)
  refine yb 2 mU.nd (EvD.imp (Q':=fun d=>∃x,d=.str x∧x∈words) (wF (fun _ _=>rfl) (EvL.d (ya (za (zz (za (zz (za (zz (za (zz (za (zz (za (zz (za (zz (za (zz (za (zz (zg (⟨_,rfl,aB rfl,zx CD hr1 (by rfl) (zw 0 rfl (za (zk (zg (⟨_,rfl,by decide,by decide,fun v1 h1 g1=>?pick⟩)))))⟩))))))))))))))))))))))) ?_)
  case pick=>
   obtain⟨z,hz,e⟩:=vG (ds:=[PyData.str "price",.str "price",.str "price",.str "come",.str "go",.str "least",.str "most",.str "deal",.str "fee"]) h1 g1
   refine⟨_,_,z,rfl,rfl,e,?_⟩
   simp only[ay,aE,aZ] at hz
   rcases hz with rfl|rfl|rfl|rfl|rfl|rfl|rfl|rfl|rfl<;>exact⟨_,rfl,by simp[words]⟩
  rintro _ ⟨wd,rfl,hw⟩
  refine yb 3 mU.nd (EvD.imp (Q':=fun d=>∃z:Int,d=.int z) (wF (fun _ _=>rfl) (EvL.d (ya (za (sP (zx CD hr1 (by rfl) (zw 0 rfl (za (zk (zg (⟨_,rfl,by decide,by decide,fun v4 h4 g4=>zk (⟨_,_,rfl,rfl,za (zx CD hr1 (by rfl) (zw 0 rfl (za (zk (zg (⟨_,rfl,by decide,by decide,fun v3 h3 g3=>za (qR (ze 1 rfl (⟨_,rfl,za (zk (zg (⟨_,rfl,aB rfl,zx CD hr1 (by rfl) (zw 0 rfl (za (zk (zg (⟨_,rfl,by decide,by decide,fun v2 h2 g2=>?pick⟩)))))⟩)))⟩)))⟩))))))⟩)⟩))))))))))) ?_)
  case pick=>
   obtain⟨z,hz,e⟩:=vG (ds:=[PyData.int (v4-3),.int v3,.int (-y),.int 0]) h2 g2
   refine⟨_,_,z,rfl,rfl,e,?_⟩
   simp only[ay,aE,aZ] at hz
   rcases hz with rfl|rfl|rfl|rfl<;>exact⟨_,rfl⟩
  rintro _ ⟨ah,rfl⟩
  refine qT (fun α=>∃fi:Int,0≤fi∧fi≤1000000∧α=[some .tape,some (.dat (.int y)),some (.dat (.str wd)),some (.dat (.int ah)),some (.dat (.int fi)),none]) ?_ ?_
  ·refine yb 4 mU.nd (qP rfl (by rfl) nb.min (yt (r:=1000000) ⟨by decide,by decide,by decide⟩ (by decide) (jf rfl (by rfl) nb.max (zk (yY (ze 1 rfl (ze 3 rfl (⟨_,_,rfl,rfl,⟨_,_,rfl,rfl,⟨_,_,rfl,rfl,zC ⟨_,?_,?_,rfl⟩⟩⟩⟩))))))))
   ·split<;>split<;>omega
   ·split<;>split<;>omega
  rintro α ⟨fi,f0,f1,rfl⟩
  refine qT (fun α=>∃la:Int,fi≤la∧α=[some .tape,some (.dat (.int y)),some (.dat (.str wd)),some (.dat (.int ah)),some (.dat (.int fi)),some (.dat (.int la))]) ?_ ?_
  ·refine yb 5 mU.nd (yY (ze 4 rfl (EvD.imp (Q':=fun d=>∃z:Int,d=.int z∧0≤z) (wF (fun _ _=>rfl) (EvL.d (ya (za (zk (za (zx CD hr1 (by rfl) (zw 0 rfl (za (zk (zg (⟨_,rfl,by decide,by decide,fun v7 h7 g7=>za (zx CD hr1 (by rfl) (zw 0 rfl (za (zk (zg (⟨_,rfl,by decide,by decide,fun v6 h6 g6=>za (zk (za (yt (r:=1000000) ⟨by decide,by decide,by decide⟩ (by decide) (zg (⟨_,rfl,aB rfl,zx CD hr1 (by rfl) (zw 0 rfl (za (zk (zg (⟨_,rfl,by decide,by decide,fun v5 h5 g5=>?pick⟩)))))⟩)))))⟩))))))⟩)))))))))))) ?_)))
   case pick=>
    obtain⟨z,hz,e⟩:=vG (ds:=[PyData.int 0,.int v7,.int v6,.int 60,.int 1000000]) h5 g5
    refine⟨_,_,z,rfl,rfl,e,?_⟩
    simp only[ay,aE,aZ] at hz
    rcases hz with rfl|rfl|rfl|rfl|rfl<;>exact⟨_,rfl,by omega⟩
   rintro _ ⟨z,rfl,z0⟩
   exact⟨_,_,rfl,rfl,zC ⟨fi+z,by omega,rfl⟩⟩
  rintro α ⟨la,hla,rfl⟩
  refine yn (wD (za (ze 2 rfl (za (ze 4 rfl (za (qP rfl (by rfl) nb.min (yt (r:=1000000) ⟨by decide,by decide,by decide⟩ (by decide) (ze 5 rfl (⟨_,_,rfl,rfl,za (zx CW hr (by rfl) (zw 0 rfl (za (ze 2 rfl (zg (⟨_,rfl,hw,fun d8 a8 b8 c8=>zg (⟨_,rfl,aB rfl,?_⟩)⟩))))))⟩))))))))))
  refine q _ (we.of hw f0 ?_ ?_ a8 b8 c8)
  ·split<;>omega
  ·split<;>omega
end
end K23
set_option compiler.extract_closed false
set_option hygiene false in
local macro_rules
 |`(tactic| exists $f,$a)=>`(tactic| first|refine $f 0 $a ?_|refine $f 1 $a ?_|refine $f 2 $a ?_|refine $f 3 $a ?_|refine $f 4 $a ?_|refine $f 5 $a ?_|refine $f 6 $a ?_|refine $f 7 $a ?_|refine $f 8 $a ?_|refine $f 9 $a ?_|refine $f 10 $a ?_|refine $f 11 $a ?_|refine $f 12 $a ?_|refine $f 13 $a ?_|refine $f 14 $a ?_|refine $f 15 $a ?_|refine $f 16 $a ?_|refine $f 17 $a ?_)
set_option hygiene false in
local macro_rules
 |`(tactic| and_intros)=>`(tactic| repeat (first
  |((with_reducible show EvD _ _ _ _);first
   |((with_reducible show EvD _ _ (.Name _ _) _);exists ze,rfl)
   |((with_reducible show EvD _ _ (.Call (.Name "str" _) _ _ _) _);refine gp (by rfl) nb.str ?_)
   |((with_reducible show EvD _ _ (.Call (.Name "len" _) [.Name "_law_word" _] _ _) _);refine ev_lenS (by rfl) nb.len ?_)
   |((with_reducible show EvD _ _ (.Call (.Name "len" _) [.Name "_law_text" _] _ _) _);refine ev_lenS (by rfl) nb.len ?_)
   |((with_reducible show EvD _ _ (.Call (.Name "tuple" _) _ _ _) _);refine gD (by rfl) nb.tuple ?_)
   |((with_reducible show EvD _ _ (.Call (.Attribute _ "join" _) _ _ _) _);refine tO ?_)
   |((with_reducible show EvD _ _ (.Call (.Attribute _ "split" _) _ _ _) _);refine EvL.d (rJ ?_))
   |((with_reducible show EvD _ _ (.Constant _ _ _) _);first|with_reducible refine zk ?_|with_reducible refine zz ?_|with_reducible refine gY ?_|with_reducible refine wM ?_)
   |((with_reducible show EvD _ _ (.BinOp (.Constant (.int 10) _ _) .Pow (.Constant (.int 6) _ _) _) _);refine yt (r:=1000000) ⟨by decide,by decide,by decide⟩ (by decide) ?_)
   |((with_reducible show EvD _ _ (.BinOp (.Constant (.int 10) _ _) .Pow (.Constant (.int 12) _ _) _) _);refine yt (r:=1000000000000) ⟨by decide,by decide,by decide⟩ (by decide) ?_)
   |((with_reducible show EvD _ _ (.BinOp (.Constant (.int 10) _ _) .Pow (.Constant (.int 9) _ _) _) _);refine yt (r:=1000000000) ⟨by decide,by decide,by decide⟩ (by decide) ?_)
   |((with_reducible show EvD _ _ (.BinOp (.Constant (.int 10) _ _) .Pow (.Constant (.int 11) _ _) _) _);refine yt (r:=100000000000) ⟨by decide,by decide,by decide⟩ (by decide) ?_)
   |((with_reducible show EvD _ _ (.BinOp _ .Add (.List _ _) _) _);refine EvL.d (el_cat ?_))
   |((with_reducible show EvD _ _ (.BinOp (.List _ _) .Add _ _) _);refine EvL.d (el_cat ?_))
   |((with_reducible show EvD _ _ (.BinOp (.Subscript _ (.Slice _ _ none _) _) .Add _ _) _);refine EvL.d (el_cat ?_))
   |((with_reducible show EvD _ _ (.BinOp _ .Add (.Subscript _ (.Slice _ _ none _) _) _) _);refine EvL.d (el_cat ?_))
   |((with_reducible show EvD _ _ (.BinOp (.Call (.Attribute _ "rules" _) _ _ _) .Add _ _) _);refine EvL.d (el_cat ?_))
   |with_reducible refine yY ?_
   |with_reducible refine sP ?_
   |with_reducible refine kN ?_
   |with_reducible refine oN ?_
   |with_reducible refine tK ?_
   |with_reducible refine ev_shl ?_
   |with_reducible refine qR ?_
   |with_reducible refine ev_not ?_
   |with_reducible refine wD ?_
   |((with_reducible show EvD _ _ (.Subscript _ (.Slice _ _ none _) _) _);refine EvL.d (kX ?_))
   |((with_reducible show EvD _ _ (.Subscript _ _ _) _);refine uz hr.one (fun _ _=>rfl) ?_)
   |((with_reducible show EvD _ _ (.List _ _) _);refine EvL.d (ya ?_))
   |((with_reducible show EvD _ _ (.Call (.Name "len" _) [.Call (.Name "set" _) _ _ _] _ _) _);refine ev_lenSet rfl (by rfl) nb.len (by rfl) (by assumption) ?_)
   |((with_reducible show EvD _ _ (.Call (.Name "len" _) _ _ _) _);refine ko (by rfl) nb.len ?_)
   |((with_reducible show EvD _ _ (.Call (.Name "min" _) [_,_] _ _) _);refine qP rfl (by rfl) nb.min ?_)
   |((with_reducible show EvD _ _ (.Call (.Name "max" _) [_,_] _ _) _);refine jf rfl (by rfl) nb.max ?_)
   |((with_reducible show EvD _ _ (.Call (.Name "list" _) _ _ _) _);refine EvL.d (oC (by rfl) nb.list ?_))
   |((with_reducible show EvD _ _ (.Call (.Name "repr" _) _ _ _) _);refine ev_repr hr.gd hr.units (by rfl) nb.repr ?_)
   |((with_reducible show EvD _ _ (.Call (.Name "min" _) [_] _ _) _);refine ev_minI rfl hr.few (by rfl) nb.min ?_)
   |((with_reducible show EvD _ _ (.Call (.Name "isinstance" _) _ _ _) _);first|refine vU (by rfl) nb.isinstance (by rfl) nb.int boot_int ?_|refine vU (by rfl) nb.isinstance (by rfl) nb.bool boot_bool ?_|refine vU (by rfl) nb.isinstance (by rfl) nb.str boot_str ?_|refine vU (by rfl) nb.isinstance (by rfl) nb.list boot_list ?_|refine vU (by rfl) nb.isinstance (by rfl) nb.tuple boot_tuple ?_)
   |((with_reducible show EvD _ _ (.Call (.Name "int" _) _ _ _) _);refine om (by rfl) nb.int ?_)
   |((with_reducible show EvD _ _ (.Call (.Name _ _) _ _ _) _);first|refine iZ (by with_reducible assumption) (by exact⟨rfl,rfl,rfl,rfl,rfl⟩) (hr.mono (by decide)) (by rfl) ?_|refine EvN.d (lD (by with_reducible assumption) (by exact⟨rfl,rfl,rfl,rfl,rfl⟩) (hr.mono (by decide)) (by rfl) ?_))
   |((with_reducible show EvD _ _ (.Call (.Attribute _ _ _) (_::_) _ _) _);refine jL (by with_reducible assumption) (by exact⟨rfl,rfl,rfl,rfl,rfl⟩) (hr.mono (by decide)) ?_)
   |((with_reducible show EvD _ _ (.Call (.Attribute _ _ _) [] _ _) _);refine nL (by with_reducible assumption) (by exact⟨rfl,rfl,rfl,rfl,rfl⟩) (hr.mono (by decide)) ?_)
   |((with_reducible show EvD _ _ (.Compare _ [_] _ _) _);first|with_reducible refine ev_lt ?_|with_reducible refine ev_le ?_|with_reducible refine ev_gt ?_|with_reducible refine ev_ge ?_|with_reducible refine ev_isN ?_|with_reducible refine ev_notN ?_|((with_reducible show EvD _ _ (.Compare _ [.Eq] _ _) _);refine dE hr.units ?_)|((with_reducible show EvD _ _ (.Compare _ [.NotEq] _ _) _);refine lB hr.units ?_)|((with_reducible show EvD _ _ (.Compare _ [.In] _ _) _);refine ev_ink hr.one ?_)|((with_reducible show EvD _ _ (.Compare _ [.NotIn] _ _) _);refine ev_nink hr.one ?_)|((with_reducible show EvD _ _ (.Compare _ [.Is] [.Constant (.bool _) _ _] _) _);refine ev_isT ?_))
   |((with_reducible show EvD _ _ (.Compare _ [_,_] _ _) _);first|refine ev_lelt ?_|refine ev_ltle ?_|refine ev_lele' ?_)
   |((with_reducible show EvD _ _ (.BoolOp _ _ _) _);first|with_reducible refine df ?_|with_reducible refine dO ?_|with_reducible refine mH ?_)
   |with_reducible refine qw ?_)
  |((with_reducible show EvA _ _ _ _);first
   |with_reducible refine zg ?_
   |((with_reducible show EvA _ _ (.Name "_law_row" _::_) _);exists zw,rfl)
   |refine za ?_)
  |((with_reducible show EvT _ _ _ _);first
   |((with_reducible show EvT _ _ (.Compare _ [_] _ _) _);first|with_reducible refine ke ?_|with_reducible refine et_le ?_|with_reducible refine fg ?_|with_reducible refine gX ?_|with_reducible refine wJ ?_|with_reducible refine iQ ?_|((with_reducible show EvT _ _ (.Compare _ [.Eq] _ _) _);refine lr hr.units ?_)|((with_reducible show EvT _ _ (.Compare _ [.NotEq] _ _) _);refine ed hr.units ?_)|((with_reducible show EvT _ _ (.Compare _ [.In] _ _) _);refine lX hr.one ?_)|((with_reducible show EvT _ _ (.Compare _ [.NotIn] _ _) _);refine et_nink hr.one ?_)|((with_reducible show EvT _ _ (.Compare _ [.Is] [.Constant (.bool _) _ _] _) _);refine eM ?_)|((with_reducible show EvT _ _ (.Compare _ [.IsNot] [.Constant (.bool _) _ _] _) _);refine et_isntB ?_))
   |((with_reducible show EvT _ _ (.Compare _ [_,_] _ _) _);first|refine et_lelt ?_|refine et_ltle ?_|refine et_lele' ?_)
   |with_reducible refine jS ?_
   |((with_reducible show EvT _ _ (.BoolOp _ _ _) _);with_reducible refine EvW.t ?_)
   |refine jP ?_)
  |((with_reducible show EvL _ _ _ _);first
   |with_reducible refine ya ?_
   |((with_reducible show EvL _ _ (.Call (.Name "list" _) _ _ _) _);refine oC (by rfl) nb.list ?_)
   |((with_reducible show EvL _ _ (.Call (.Name _ _) _ _ _) _);refine el_calR (by with_reducible assumption) (by exact⟨rfl,rfl,rfl,rfl,rfl⟩) (hr.mono (by decide)) (by rfl) ?_)
   |((with_reducible show EvL _ _ (.Call (.Attribute _ _ _) [] _ _) _);refine nP (by with_reducible assumption) (by exact⟨rfl,rfl,rfl,rfl,rfl⟩) (hr.mono (by decide)) ?_)
   |((with_reducible show EvL _ _ (.Subscript _ (.Slice _ _ none _) _) _);refine kX ?_)
   |((with_reducible show EvL _ _ (.BinOp _ .Add _ _) _);refine el_cat ?_))
  |((with_reducible show EvW _ _ _ _);first
   |with_reducible refine ji ?_
   |with_reducible refine fj ?_
   |with_reducible refine oj ?_
   |with_reducible refine eF ?_)
  |((with_reducible show EvO _ _ _ _);first
   |with_reducible refine oK ?_
   |with_reducible refine pY ?_)
  |((with_reducible show iA _ _ _);first
   |refine ixk rfl rfl rfl ?_
   |refine ixk_0 ?_
   |refine ixk_1 ?_)
  |((with_reducible show fB _ _ _ _);first
   |refine ink rfl rfl ?_
   |refine ink_hind ?_
   |refine cU rfl rfl ?_)
  |((with_reducible show uh _ _ _);first
   |with_reducible refine iS ?_
   |with_reducible refine vR ?_
   |with_reducible refine eqk_bool ?_
   |refine eqk rfl rfl rfl rfl ?_)
  |((with_reducible show SvS _ _ _ _);first
   |((with_reducible show SvS _ (List.set _ _ _) _ _);dsimp only[List.set])
   |((with_reducible show SvS _ _ (zA _) _);show SvS _ _ (_::_) _)
   |((with_reducible show SvS _ _ (.Assign [.Name _ _] (.List [] _) _::_) _);exists wo,nd)
   |((with_reducible show SvS _ _ (.Assign [.Name _ _] _ _::_) _);exists yb,nd)
   |((with_reducible show SvS _ _ (.Expr (.Call (.Attribute _ "append" _) _ _ _) _::_) _);exists xr,rfl)
   |((with_reducible show SvS _ _ (.Return (some (.Name _ _)) _::_) _);exists oR,rfl)
   |with_reducible refine yn ?_
   |with_reducible refine sv_cont ?_
   |with_reducible refine sv_pass ?_
   |with_reducible refine yM ?_
   |with_reducible refine zC ?_
   |((with_reducible refine yR ?hk ?_);case hk=>first|rfl|decide +kernel)
   |((with_reducible refine yc ?hk ?_);case hk=>first|rfl|decide +kernel))
  |((with_reducible show wO _ _);refine⟨_,rfl,by first|decide|omega,by first|decide|(show _<big;unfold big;omega),fun _ _ _=>?_⟩)
  |((with_reducible refine rM ?hk ?_);case hk=>first|rfl|decide +kernel)
  |((with_reducible refine rg ?hk ?_);case hk=>first|rfl|decide +kernel)
  |refine⟨_,_,rfl,rfl,?_⟩
  |refine⟨_,_,_,rfl,rfl,rfl,?_⟩
  |refine⟨_,rfl,aB rfl,?_⟩
  |refine⟨_,rfl,rfl,?_⟩
  |refine⟨_,rfl,?_⟩))
namespace K23
open PySem PySem.Spec PyProof.Rows L2
abbrev qL :Stmt:=top 37
abbrev qG :Stmt:=top 38
abbrev lg :Stmt:=top 39
abbrev lQ :Stmt:=top 40
abbrev fV :Stmt:=top 41
abbrev dF :Stmt:=top 42
inductive WOk :Str→PyData→Prop
 |non {s:Str}:(s="price"∨s="deal")→WOk s .none
 |bl {s:Str} (b:Bool):(s="come"∨s="go")→WOk s (.bool b)
 |int {s:Str} (n:Nat):s≠"come"→s≠"go"→s≠"deal"→n≤1000000000000→WOk s (.int n)
 |deal (a b:Nat):a≤14→b≤14→WOk "deal" (.tuple [.int a,.int b])
def zE :PyData→List Str
 |.none=>["none"]
 |.bool b=>[if b then "yes" else "no"]
 |.int n=>[fig n.toNat]
 |.tuple [.int a,.int b]=>[fig a.toNat,fig b.toNat]
 |_=>[]
def xQ (v:PyData):Str:=Txt.join " " (zE v)
def xy (s:Str)(i j:Nat)(v:PyData):Str:=Txt.join " " (s::fig i::fig j::zE v)
theorem lA {ts:List Str}(h:∀t∈ts,t.length≤100)(hl:ts.length≤20):JoinOk " " ts=true:=by
 unfold JoinOk Builtin.Str.tooLong
 rw[StrLaws.joinTotal,Bool.not_eq_true',zb7]
 have e:(" ":Str).length=1:=by decide +kernel
 have hs:(ts.map (·.length)).sum≤ts.length*100:=by
  clear hl
  induction ts with
  |nil=>exact aC _
  |cons x r ih=>
   have h1:=h x (aA ..)
   have h2:=ih fun t ht=>h t (az _ ht)
   simp only[aW,zh5,aJ]
   omega
 have:20*100+20*1≤sizeLine:=by decide
 rw[e]
 omega
theorem yo {n:Nat}(h:n≤1000000000000):(fig n).length≤13:=pU (by decide) (by omega)
theorem yk {n:Nat}(h:n≤1000000000000):((n:Int)).natAbs.log2<1920:=by
 have e:((n:Int)).natAbs=n:=by omega
 rw[e]
 by_cases z:n=0
 ·subst z;decide
 ·exact (Nat.log2_lt z).mpr (Nat.lt_of_le_of_lt h (aR (show 1000000000000<2 ^ 40 by decide) (Nat.pow_le_pow_right (by decide) (by decide))))
theorem mw {s:Str}(h:s∈words):s.length≤100:=by
 simp only[words,ay,aE,aZ] at h
 rcases h with rfl|rfl|rfl|rfl|rfl|rfl|rfl<;>decide +kernel
theorem wN {s:Str}{v:PyData}(h:WOk s v):(∀t∈zE v,t.length≤50)∧(zE v).length≤2:=by
 cases h with
 |non _=>exact⟨fun t ht=>by rw[aS.mp ht];decide +kernel,by decide⟩
 |bl b _=>exact⟨fun t ht=>by rw[aS.mp ht];cases b<;>decide +kernel,by cases b<;>decide⟩
 |int n _ _ _ hn=>exact⟨fun t ht=>by rw[aS.mp ht];exact aP (yo (by omega)) (by decide),by show 1≤2;decide⟩
 |deal a b ha hb=>
  refine⟨fun t ht=>?_,by show 2≤2;decide⟩
  rcases ay.mp ht with rfl|ht
  ·exact aP (yo (by omega)) (by decide)
  ·rw[aS.mp ht];exact aP (yo (by omega)) (by decide)
def oF :List A→(A→Prop)→Prop:=fun as Q=>∃s v,as=[.dat v]∧WOk s v∧Q (.dat (.str (xQ v)))
def oy :List A→(A→Prop)→Prop:=fun as Q=>∃(s:Str) (i j:Nat) (v:PyData),as=[.dat (.tuple [.str s,.int i,.int j,v])]∧s∈words∧i≤1000000∧j≤1000000∧WOk s v∧Q (.dat (.str (xy s i j v)))
section
variable {P:Program}{w:World}{K:PySem.W.Frag}{mg:Str→Option Value}{base:Heap}
theorem ak :zi ["worth"] ["worth"] (zb qL):=⟨rfl,rfl,rfl,by decide +kernel,rfl,by decide +kernel,by decide +kernel⟩
theorem nz {f:Addr}{fd:FuncData}(F:Fun K "worth_text" "worth_text" qL f fd)(hm:mg "worth_text"=some (.ref f))(hb:Binds K fd ["worth"] [])(nb:NbT mg):Cal P w K mg base "worth_text" 1 oF:=by
 refine wQ F hm hb ak (fun as Q h=>?_) (fun cdv A' outer s H E as Q hr h=>?_)
 ·obtain⟨s,v,rfl,_⟩:=h
  rfl
 ·obtain⟨x,v,rfl,hv,q⟩:=h
  cases hv with
  |non _=>and_intros;exact q
  |bl b _=>
   and_intros
   cases b with
   |true=>refine yR rfl ?_;and_intros;exact q
   |false=>refine yc rfl ?_;and_intros;exact q
  |int n _ _ _ hn=>
   and_intros
   exact⟨yk hn,q⟩
  |deal a b ha hb=>
   and_intros
   refine EvL.d (uH ["number"] [none] (.one 0) (eI (ze 0 rfl ⟨_,rfl,aB rfl,?_⟩)))
   refine yC (l:=[a,b]) (g:=fun n:Nat=>.int n) (fun n=>.str (fig n)) (fun n hn=>⟨_,rfl,fun C s2 H2 fp Q h=>?_⟩) ?_
   ·and_intros
    refine⟨yk ?_,h⟩
    simp only[ay,aE,aZ] at hn
    omega
   ·exact⟨[fig a,fig b],rfl,lA (fun t ht=>aP ((wN (.deal a b ha hb)).1 t ht) (by decide)) (by show 2≤20;decide),q⟩
theorem br :zi ["rule"] ["rule"] (zb qG):=⟨rfl,rfl,rfl,by decide +kernel,rfl,by decide +kernel,by decide +kernel⟩
theorem nU {s:Str}{v:PyData}(h:WOk s v)(a b c:Str):Txt.join " " [a,b,c,xQ v]=Txt.join " " (a::b::c::zE v):=by
 unfold xQ
 show Builtin.Str.glued _ _=Builtin.Str.glued _ _
 cases h<;>first
  |rfl
  |(rw[za0,za0];rfl)
theorem nr {s:Str}{v:PyData}(h:WOk s v):(xQ v).length≤100:=by
 have e:(" ":Str).length=1:=by decide +kernel
 unfold xQ
 rw[show Txt.join " " (zE v)=Str.join " " (zE v) from za0 _ _]
 have h1:=zd9 " " (zE v)
 obtain⟨h2,h3⟩:=wN h
 rw[e] at h1
 have:((zE v).map (·.length)).sum≤50*(zE v).length:=by
  clear h1 h3 h
  generalize zE v=l at h2
  induction l with
  |nil=>exact aC _
  |cons x r ih=>
   have g1:=h2 x (aA ..)
   have g2:=ih fun t ht=>h2 t (az _ ht)
   simp only[aW,zh5,aJ]
   omega
 have:(zE v).length≤1∨(zE v).length=2:=by omega
 cases h with
 |non _=>decide +kernel
 |bl b _=>cases b<;>decide +kernel
 |int n _ _ _ hn=>exact aP (yo (by omega)) (by decide)
 |deal a b ha hb=>
  have f1:(fig a).length≤13:=yo (by omega)
  have f2:(fig b).length≤13:=yo (by omega)
  have:(Str.join " " [fig a,fig b]).length≤13+13+2:=by
   have h1:=zd9 " " [fig a,fig b]
   simp only[aW,zh5,aJ,List.map_nil,List.sum_nil,List.length_nil] at h1
   rw[e] at h1
   omega
  exact aP this (by decide)
theorem oZ {f:Addr}{fd:FuncData}(F:Fun K "rule_text" "rule_text" qG f fd)(hm:mg "rule_text"=some (.ref f))(hb:Binds K fd ["rule"] [])(nb:NbT mg)(CWT:Cal P w K mg base "worth_text" 1 oF):Cal P w K mg base "rule_text" 2 oy:=by
 refine wQ F hm hb br (fun as Q h=>?_) (fun cdv A' outer s H E as Q hr h=>?_)
 ·obtain⟨s,i,j,v,rfl,_⟩:=h
  rfl
 ·obtain⟨x,i,j,v,rfl,hx,hi,hj,hv,q⟩:=h
  and_intros
  refine⟨yk (by omega),?_⟩
  and_intros
  refine⟨yk (by omega),?_⟩
  and_intros
  refine⟨x,v,rfl,hv,?_⟩
  and_intros
  refine⟨[x,fig i,fig j,xQ v],rfl,lA (fun t ht=>?_) (by show 4≤20;decide),?_⟩
  ·simp only[ay,aE,aZ] at ht
   rcases ht with rfl|rfl|rfl|rfl
   ·exact mw hx
   ·exact aP (yo (by omega)) (by decide)
   ·exact aP (yo (by omega)) (by decide)
   ·exact nr hv
  ·show Q (.dat (.str (Txt.join " " [x,fig i,fig j,xQ v])))
   rw[nU hv]
   exact q
end
def um (c:Nat):Bool:=decide (48≤c)&&decide (c≤57)
def Asc (w:Str):Prop:=w.cps.all (·<128)=true
def rO (w:Str):Bool:=!decide (w="")&&(w.cps.toList.all um&&(decide (w="0")||!decide (w.cps.toList.head?=some 48)))
def zM (w:Str):PyData:=if rO w then .int (PySem.NumText.digitsVal w.cps.toList:Nat) else .none
theorem Asc.lt {w:Str}(h:Asc w){c:Nat}(hc:c∈w.cps.toList):c<128:=by
 unfold Asc at h
 rw[zh0] at h
 exact zc4 (h c (ze1.mp hc))
theorem iU {c:Nat}(h:c<128):(!(Builtin.Str.occurrences ("0123456789":Str) ⟨#[c]⟩ 0 ("0123456789":Str).length 1).isEmpty)=um c:=by
 have:∀c:Fin 128,(!(Builtin.Str.occurrences ("0123456789":Str) ⟨#[c.1]⟩ 0 ("0123456789":Str).length 1).isEmpty)=um c.1:=by decide +kernel
 exact this ⟨c,h⟩
def jk :List A→(A→Prop)→Prop:=fun as Q=>∃w:Str,as=[.dat (.str w)]∧Asc w∧w.length≤600∧Q (.dat (.bool (rO w)))
def pE :List A→(A→Prop)→Prop:=fun as Q=>∃w:Str,as=[.dat (.str w)]∧Asc w∧w.length≤600∧Q (.dat (zM w))
section
variable {P:Program}{w:World}{K:PySem.W.Frag}{mg:Str→Option Value}{base:Heap}
theorem bF :zi ["word"] ["word"] (zb lg):=⟨rfl,rfl,rfl,by decide +kernel,rfl,by decide +kernel,by decide +kernel⟩
theorem mP {f:Addr}{fd:FuncData}(F:Fun K "is_number_text" "is_number_text" lg f fd)(hm:mg "is_number_text"=some (.ref f))(hb:Binds K fd ["word"] [])(nb:NbT mg)(gF:∃t,mg "FIGURES"=some (.str "0123456789" t)):Cal P w K mg base "is_number_text" 1 jk:=by
 refine wQ F hm hb bF (fun as Q h=>?_) (fun cdv A' outer s H E as Q hr h=>?_)
 ·obtain⟨n,rfl,_⟩:=h
  rfl
 ·obtain⟨x,rfl,hx,hl,q⟩:=h
  have h6:600≤sizeLine:=by decide
  unfold rO at q
  and_intros
  by_cases e:x=""
  ·refine rM (aQ e) ?_
   rw[aQ e] at q
   and_intros
   exact q
  refine rg (aK e) ?_
  rw[aK e] at q
  and_intros
  refine dn rfl (by rfl) nb.all (EvL.d (uH ["sign"] [none] (.one 0) (eK (ze 0 rfl ⟨_,rfl,hx,?_⟩))))
  have hl2:(sgn x).length≤1000:=by
   unfold sgn
   rw[ax]
   exact aP hl (by decide)
  refine⟨hl2,?_⟩
  refine yC (l:=x.cps.toList) (g:=fun c=>.str ⟨#[c]⟩) (fun c=>.bool (um c)) (fun c hc=>⟨_,rfl,fun C s2 H2 fp Q h=>?_⟩) ?_
  ·refine fv (ze 0 rfl (kh (by rfl) gF ⟨_,_,rfl,rfl,?_⟩))
   rw[iU (hx.lt hc)]
   exact h
  refine⟨x.cps.toList.map um,by rw[zd6,ze9];rfl,?_⟩
  rw[show (x.cps.toList.map um).all id=x.cps.toList.all um from by rw[List.all_map];rfl]
  cases ha:x.cps.toList.all um with
  |false=>
   rw[ha] at q
   and_intros
   exact q
  |true=>
   rw[ha] at q
   and_intros
   by_cases z:x="0"
   ·refine rM (aQ z) ?_
    rw[aQ z] at q
    exact q
   ·refine rg (aK z) ?_
    rw[aK z] at q
    cases e1:x.cps.toList with
    |nil=>exact absurd (xI (e1.trans (by decide +kernel))) e
    |cons c r=>
     refine mH (lB hr.units (fZ (fun _ _=>rfl) (ze 0 rfl (zk ⟨_,_,c,rfl,rfl,by omega,by rw[e1];exact xH (j:=0) rfl,?_⟩))))
     and_intros
     rw[e1] at q
     have e:decide ((⟨#[c]⟩:Str)="0")=decide (List.head? (c::r)=some 48):=by
      have z:("0":Str).cps.toList=[48]:=by decide +kernel
      by_cases hc:c=48
      ·subst hc
       exact (aQ (xI z.symm)).trans (aQ rfl).symm
      ·exact (aK fun e=>hc (zc8 ((congrArg (·.cps.toList) e).trans z)).1).trans (aK fun e=>hc (aL e)).symm
     rw[e]
     exact q
theorem kx {x:Str}(h:rO x=true):PySem.NumText.AllDigits x.cps.toList∧x.cps.toList≠[]:=by
 unfold rO at h
 simp only[aI,Bool.not_eq_true',zb7,zc0] at h
 refine⟨fun c hc=>?_,fun e=>h.1 (xI (e.trans (by decide +kernel)))⟩
 have:=h.2.1 c hc
 unfold um at this
 rw[aI,aO,aO] at this
 exact this
theorem bu :zi ["word"] ["word"] (zb lQ):=⟨rfl,rfl,rfl,by decide +kernel,rfl,by decide +kernel,by decide +kernel⟩
theorem jQ {f:Addr}{fd:FuncData}(F:Fun K "number_by" "number_by" lQ f fd)(hm:mg "number_by"=some (.ref f))(hb:Binds K fd ["word"] [])(nb:NbT mg)(CNT:Cal P w K mg base "is_number_text" 1 jk):Cal P w K mg base "number_by" 2 pE:=by
 refine wQ F hm hb bu (fun as Q h=>?_) (fun cdv A' outer s H E as Q hr h=>?_)
 ·obtain⟨n,rfl,_⟩:=h
  rfl
 ·obtain⟨x,rfl,hx,hl,q⟩:=h
  unfold zM at q
  and_intros
  refine⟨hx,hl,_,rfl,?_⟩
  cases hn:rO x with
  |true=>
   rw[hn] at q
   obtain⟨h1,h2⟩:=kx hn
   exact rM rfl (om (by rfl) nb.int (ze 0 rfl ⟨_,_,rfl,zg1 h1 h2 (aP hl (by decide)),aP hl (by decide),q⟩))
  |false=>
   rw[hn] at q
   exact rg rfl (wM q)
end
theorem Asc.ok {x:Str}(h:Asc x):PyData.strOk x=true:=by
 unfold PyData.strOk
 rw[zh0]
 intro c hc
 have:=h.lt (ze1.mpr hc)
 exact aQ (by omega)
def Ws (ws:List Str):Prop:=∀w∈ws,Asc w∧w.length≤600
theorem rR :∀{ws:List Str},Ws ws→PyData.canLayAll0 (ws.map .str)=true
 |[],_=>by simp[PyData.canLayAll0]
 |x::r,h=>by
  show PyData.canLayAll0 (.str x::r.map .str)=true
  simp only[PyData.canLayAll0,PyData.canLay0,aI]
  exact⟨(h x (aA ..)).1.ok,rR fun w hw=>h w (az _ hw)⟩
theorem qv :∀ws:List Str,PyData.depthAll (ws.map .str)=0
 |[]=>by simp[PyData.depthAll]
 |x::r=>by
  show PyData.depthAll (.str x::r.map .str)=0
  simp only[PyData.depthAll,PyData.depth,qv r]
  omega
theorem lM :∀ws:List Str,(PyData.list (ws.map .str)).hasDict=false:=by
 intro ws
 simp only[PyData.hasDict]
 induction ws with
 |nil=>simp[PyData.hasDictAll]
 |cons x r ih=>simp only[aW,PyData.hasDictAll,PyData.hasDict,ih,Bool.or_self]
theorem iy {ws:List Str}(h:Ws ws):SeqAt.shaped (.list (ws.map .str))=true:=by
 unfold SeqAt.shaped
 rw[aI,aO]
 refine⟨by simp only[PyData.canLay0];exact rR h,?_⟩
 simp only[PyData.depth,qv]
 omega
theorem mO (ws:List Str)(x:Str):PyData.eqv (.list (ws.map .str)) (.list [.str x])=decide (ws=[x]):=by
 match ws with
 |[]=>simp[PyData.eqv,PyData.eqvAll]
 |[a]=>
  show ((a == x)&&true)=_
  rw[zh4]
  by_cases h:a=x<;>simp[h]
 |a::b::r=>simp[PyData.eqv,PyData.eqvAll]
theorem uC {ws:List Str}{x:Str}{Q:Bool→Prop}(h1:Ws ws)(h2:PyData.strOk x=true)(h:Q (decide (ws=[x]))):uh (.list (ws.map .str)) (.list [.str x]) Q:=
 eqk (iy h1) (by simp[SeqAt.shaped,PyData.canLay0,PyData.canLayAll0,h2,PyData.depth,PyData.depthAll]) (lM ws) rfl (by rw[mO];exact h)
def cX (ds:List PyData):PyData:=match ds with
 |[d]=>if xJ d then .tuple [d] else d
 |ds=>.tuple ds
def wBy (ws:List Str):PyData:=if ws=[("none":Str)] then .none else if ws=[("yes":Str)] then .bool true else if ws=[("no":Str)] then .bool false else cX (ws.map zM)
def jc :List A→(A→Prop)→Prop:=fun as Q=>∃ws,as=[.dat (.list (ws.map .str))]∧Ws ws∧ws.length≤700∧Q (.dat (wBy ws))
section
variable {P:Program}{w:World}{K:PySem.W.Frag}{mg:Str→Option Value}{base:Heap}
theorem cm :zi ["words","numbers"] ["words"] (zb fV):=⟨rfl,rfl,rfl,by decide +kernel,rfl,by decide +kernel,by decide +kernel⟩
theorem jM {f:Addr}{fd:FuncData}(F:Fun K "worth_by" "worth_by" fV f fd)(hm:mg "worth_by"=some (.ref f))(hb:Binds K fd ["words"] [])(nb:NbT mg)(CNB:Cal P w K mg base "number_by" 2 pE):Cal P w K mg base "worth_by" 3 jc:=by
 refine wQ F hm hb cm (fun as Q h=>?_) (fun cdv A' outer s H E as Q hr h=>?_)
 ·obtain⟨ws,rfl,_⟩:=h
  rfl
 ·obtain⟨ws,rfl,hw,hl,q⟩:=h
  have nd:=cm.nd
  unfold wBy at q
  and_intros
  refine uC hw (by decide +kernel) ?_
  by_cases c1:ws=[("none":Str)]
  ·rw[if_pos c1] at q
   refine yR (aQ c1) ?_
   and_intros
   exact q
  rw[if_neg c1] at q
  refine yc (aK c1) ?_
  and_intros
  refine uC hw (by decide +kernel) ?_
  by_cases c2:ws=[("yes":Str)]
  ·rw[if_pos c2] at q
   refine yR (aQ c2) ?_
   and_intros
   exact q
  rw[if_neg c2] at q
  refine yc (aK c2) ?_
  and_intros
  refine uC hw (by decide +kernel) ?_
  by_cases c3:ws=[("no":Str)]
  ·rw[if_pos c3] at q
   refine yR (aQ c3) ?_
   and_intros
   exact q
  rw[if_neg c3] at q
  refine yc (aK c3) ?_
  and_intros
  refine ja 1 ["word"] [none] (.one 0) (wq (ze 0 rfl ⟨_,rfl,by rw[ax];omega,?_⟩))
  refine yC (l:=ws) (g:=fun x=>.str x) (fun x=>zM x) (fun x hx=>⟨_,rfl,fun C s2 H2 fp Q h=>?_⟩) ?_
  ·and_intros
   exact⟨(hw x hx).1,(hw x hx).2,h⟩
  refine sx 1 rfl ?_
  rw[zd6]
  generalize ws.map zM=ds at q
  match ds,q with
  |[],q=>
   and_intros
   exact q
  |[d],q=>
   have q:Q (.dat (if xJ d=true then .tuple [d] else d)):=q
   and_intros
   cases hd:xJ d with
   |true=>
    rw[hd] at q
    refine yc rfl ?_
    and_intros
    exact q
   |false=>
    rw[hd] at q
    refine yR rfl ?_
    and_intros
    exact q
  |d::e::r,q=>
   and_intros
   exact q
theorem mem_join {sep:Str}{c:Nat}:∀{ts:List Str} {p:Str},p∈ts→c∈p.cps.toList→c∈(Str.join sep ts).cps.toList
 |[x],p,hp,hc=>by rw[aS.mp hp] at hc;exact hc
 |x::y::r,p,hp,hc=>by
  show c∈(x++sep++Str.join sep (y::r)).cps.toList
  rw[zd0,zd0,zb9,zb9,zb8,zb8]
  rcases ay.mp hp with rfl|hp
  ·exact .inl (.inl hc)
  ·exact .inr (mem_join hp hc)
theorem Asc.of {x:Str}(h:∀c∈x.cps.toList,c<128):Asc x:=by
 unfold Asc
 rw[zh0]
 intro c hc
 exact aQ (h c (ze1.mpr hc))
theorem rN {x:Str}(h:Asc x)(hl:x.length≤600)(y:Str):Ws (Txt.split x y):=fun p hp=>
 ⟨.of fun c hc=>h.lt (by have:=mem_join (sep:=y) hp hc;rw[StrLaws.join_split] at this;exact this),aP (part_short hp) hl⟩
def gb (ws:List Str):PyData:=match ws with
 |a::b::c::d::r=>.tuple [.str a,zM b,zM c,wBy (d::r)]
 |_=>.none
def rBy (x:Str):PyData:=if yf (gb (Txt.split x " "))=true then gb (Txt.split x " ") else .none
theorem qV (x:Str):zM x=.none∨∃n:Nat,zM x=.int n:=by
 unfold zM
 split
 ·exact .inr ⟨_,rfl⟩
 ·exact .inl rfl
theorem vb (x:Str):(zM x).canLay0=true∧(zM x).depth=0∧(zM x).hasDict=false:=by
 rcases qV x with e|⟨n,e⟩<;>rw[e]<;>exact⟨by simp[PyData.canLay0],by simp[PyData.depth],by simp[PyData.hasDict]⟩
theorem qr :∀ws:List Str,PyData.canLayAll0 (ws.map zM)=true∧PyData.depthAll (ws.map zM)=0∧PyData.hasDictAll (ws.map zM)=false
 |[]=>by simp[PyData.canLayAll0,PyData.depthAll,PyData.hasDictAll]
 |x::r=>by
  obtain⟨a,b,c⟩:=vb x
  obtain⟨a',b',c'⟩:=qr r
  simp only[aW,PyData.canLayAll0,PyData.depthAll,PyData.hasDictAll,a,b,c,a',b',c']
  exact⟨rfl,by omega,rfl⟩
theorem iz (ws:List Str):(wBy ws).canLay0=true∧(wBy ws).depth≤1∧(wBy ws).hasDict=false:=by
 have k:∀d:PyData,(d=.none∨∃b,d=.bool b)→d.canLay0=true∧d.depth≤1∧d.hasDict=false:=by
  rintro d (rfl|⟨b,rfl⟩)<;>exact⟨by simp[PyData.canLay0],by simp[PyData.depth],by simp[PyData.hasDict]⟩
 unfold wBy
 split
 ·exact k _ (.inl rfl)
 split
 ·exact k _ (.inr ⟨_,rfl⟩)
 split
 ·exact k _ (.inr ⟨_,rfl⟩)
 have t:∀ws:List Str,(PyData.tuple (ws.map zM)).canLay0=true∧(PyData.tuple (ws.map zM)).depth≤1∧(PyData.tuple (ws.map zM)).hasDict=false:=fun ws=>by
  obtain⟨a,b,c⟩:=qr ws
  simp only[PyData.canLay0,PyData.depth,PyData.hasDict,a,b,c]
  exact⟨trivial,by omega,trivial⟩
 match ws with
 |[]=>exact t []
 |[x]=>
  show (if xJ (zM x)=true then PyData.tuple [zM x] else zM x).canLay0=true∧_
  show _∧(if xJ (zM x)=true then PyData.tuple [zM x] else zM x).depth≤1∧(if xJ (zM x)=true then PyData.tuple [zM x] else zM x).hasDict=false
  split
  ·exact t [x]
  ·obtain⟨a,b,c⟩:=vb x
   exact⟨a,by omega,c⟩
 |x::y::r=>exact t (x::y::r)
def rT :List A→(A→Prop)→Prop:=fun as Q=>∃d,as=[.dat d]∧d.hasDict=false∧SeqAt.shaped d=true∧Q (.dat (.bool (yf d)))
theorem ph {k:Nat}{f:Addr}{fd:FuncData}{ps:List Str}(hm:mg "is_rule"=some (.ref f))(hk:PySem.W.keepIn K (.ref f)=true)(hb:Binds K fd ps [])(G:zv P w K mg base CX0 k f fd ps qE):Cal P w K mg base "is_rule" k rT:=by
 refine⟨f,fd,_,hm,hk,hb,G.imp fun vs H Q E h=>?_⟩
 obtain⟨F,as,Q',rfl,t,o,rv,⟨d,rfl,nd,sh,q0⟩,kk⟩:=h
 obtain⟨x,rfl,av⟩:=rv.one
 exact⟨x,d,rfl,(av.dv nd).same yW,sh,fun H' s=>kk _ _ _ q0 ⟨t.same s,Kz.of_same s,.bl _⟩⟩
def lY :List A→(A→Prop)→Prop:=fun as Q=>∃x:Str,as=[.dat (.str x)]∧Asc x∧x.length≤600∧Q (.dat (rBy x))
theorem bT (a b c:Str)(r:List Str):L2.cutD (List.map PyData.str (a::b::c::r)) (some 3) none=r.map .str:=by
 unfold L2.cutD
 rw[show (some (3:Int))=some ((3:Nat):Int) from rfl,HT.rp,HT.jX]
 simp only[ax,aJ,aW]
 rw[Nat.min_eq_left (by omega)]
 simp
 rw[List.take_of_length_le (by rw[ax];exact aC _)]
theorem rK {a b c d:Str}{r:List Str}(ha:Asc a):SeqAt.shaped (.tuple [.str a,zM b,zM c,wBy (d::r)])=true∧(PyData.tuple [.str a,zM b,zM c,wBy (d::r)]).hasDict=false:=by
 obtain⟨b1,b2,b3⟩:=vb b
 obtain⟨c1,c2,c3⟩:=vb c
 obtain⟨d1,d2,d3⟩:=iz (d::r)
 unfold SeqAt.shaped
 simp only[PyData.canLay0,PyData.canLayAll0,PyData.depth,PyData.depthAll,PyData.hasDict,PyData.hasDictAll,ha.ok,b1,b2,b3,c1,c2,c3,d1,d3,zh4,zb0,Bool.or_false,aO]
 exact⟨by omega,trivial⟩
theorem dZ :zi ["text","words","rule"] ["text"] (zb dF):=⟨rfl,rfl,rfl,by decide +kernel,rfl,by decide +kernel,by decide +kernel⟩
theorem lF {f:Addr}{fd:FuncData}(F:Fun K "rule_by" "rule_by" dF f fd)(hm:mg "rule_by"=some (.ref f))(hb:Binds K fd ["text"] [])(nb:NbT mg)(CNB:Cal P w K mg base "number_by" 2 pE)(CWB:Cal P w K mg base "worth_by" 3 jc)(CIR:Cal P w K mg base "is_rule" 6 rT):Cal P w K mg base "rule_by" 7 lY:=by
 refine wQ F hm hb dZ (fun as Q h=>?_) (fun cdv A' outer s H E as Q hr h=>?_)
 ·obtain⟨x,rfl,_⟩:=h
  rfl
 ·obtain⟨x,rfl,hx,hl,q⟩:=h
  have nd:=dZ.nd
  have h6:1000≤sizeLine:=by decide
  refine yb 1 nd (EvL.d (rJ (ze 0 rfl ⟨_,rfl,zz ⟨_,rfl,by decide +kernel,by omega,?_⟩⟩)))
  have hw:=rN hx hl " "
  have hn:(Txt.split x " ").length≤602:=aP (split_le x " ") (by omega)
  unfold rBy at q
  generalize Txt.split x " "=ws at q hw hn
  match ws,q,hw,hn with
  |[],q,hw,hn=>and_intros;exact q
  |[a],q,hw,hn=>and_intros;exact q
  |[a,b],q,hw,hn=>and_intros;exact q
  |[a,b,c],q,hw,hn=>and_intros;exact q
  |a::b::c::d::r,q,hw,hn=>
   have wa:=hw a (by simp)
   have wb:=hw b (by simp)
   have wc:=hw c (by simp)
   have wd:Ws (d::r):=fun w h=>hw w (by simp only[ay] at h ⊢;exact .inr (.inr (.inr h)))
   obtain⟨s1,s2⟩:=rK (a:=a) (b:=b) (c:=c) (d:=d) (r:=r) wa.1
   have q:Q (.dat (if yf (.tuple [.str a,zM b,zM c,wBy (d::r)])=true then .tuple [.str a,zM b,zM c,wBy (d::r)] else .none)):=q
   and_intros
   refine ixk rfl rfl (xH (j:=0) rfl) ?_
   and_intros
   refine ixk rfl rfl (xH (j:=1) rfl) ?_
   and_intros
   refine⟨wb.1,wb.2,?_⟩
   and_intros
   refine ixk rfl rfl (xH (j:=2) rfl) ?_
   and_intros
   refine⟨wc.1,wc.2,?_⟩
   and_intros
   refine⟨d::r,by rw[bT],wd,by simp only[aJ] at hn ⊢;omega,?_⟩
   and_intros
   refine⟨s2,s1,_,rfl,?_⟩
   cases hu:yf (.tuple [.str a,zM b,zM c,wBy (d::r)]) with
   |true=>
    rw[hu] at q
    exact rM hu (ze 2 rfl q)
   |false=>
    rw[hu] at q
    exact rg hu (wM q)
end
abbrev jF :Stmt:=top 44
structure Lns (bs:List Str)(la:Str):Prop where
 all:∀t∈bs++[la],Asc t∧t.length≤600∧10∉t.cps.toList
 len:bs.length≤60
def txt (bs:List Str)(la:Str):Str:=Txt.join "\n" (bs++[la])
theorem bh :("\n":Str)=⟨#[10]⟩:=by decide +kernel
theorem nH {bs:List Str}{la:Str}(h:Lns bs la):Txt.split (txt bs la) "\n"=bs++[la]:=by
 unfold txt
 rw[bh]
 exact uJ 10 _ (fun t ht=>(h.all t ht).2.2) (by simp)
theorem oT {bs:List Str}{la:Str}(h:Lns bs la):(txt bs la).length≤40000:=by
 unfold txt
 rw[show Txt.join "\n" (bs++[la])=Str.join "\n" (bs++[la]) from za0 _ _]
 have h1:=zd9 "\n" (bs++[la])
 have h2:=StrLaws.sumLen_le (B:=600) (bs++[la]) fun y hy=>(h.all y hy).2.1
 have e:("\n":Str).length=1:=by decide +kernel
 rw[e] at h1
 have h3:(bs++[la]).length≤61:=by rw[zb4];have:=h.len;show bs.length+1≤61;omega
 have h4:(bs++[la]).length*600≤61*600:=Nat.mul_le_mul_right _ h3
 omega
def rl (b:Str):Bool:=!xJ (rBy b)
def dg (bs:List Str):Prop:=∀b∈bs,rl b=true
theorem kb {b:Str}(hb:Asc b)(hl:b.length≤600)(h:rl b=true):yf (rBy b)=true∧SeqAt.shaped (rBy b)=true∧(rBy b).hasDict=false:=by
 unfold rl at h
 have hw:=rN hb hl " "
 unfold rBy at h ⊢
 generalize Txt.split b " "=ws at h hw ⊢
 by_cases hr:yf (gb ws)=true
 ·rw[if_pos hr]
  refine⟨hr,?_⟩
  match ws,hr,hw with
  |a::b::c::d::r,hr,hw=>exact rK (hw a (by simp)).1
 ·rw[if_neg hr] at h
  cases h
theorem kH {bs:List Str}{la:Str}(h:Lns bs la)(ha:dg bs):Rules (bs.map rBy):=fun d hd=>by
 obtain⟨b,hb,rfl⟩:=ze7.mp hd
 have:=h.all b (by simp[hb])
 exact kb this.1 this.2.1 (ha b hb)
theorem bx (bs:List Str)(la:Str):L2.cutD (List.map PyData.str (bs++[la])) none (some (-1))=bs.map .str:=by
 unfold L2.cutD
 rw[HT.rp]
 have:HT.sIx (List.map PyData.str (bs++[la])).length (List.map PyData.str (bs++[la])).length (some (-1))=bs.length:=by
  show (if (-1:Int)<0 then ((-1:Int)+((List.map PyData.str (bs++[la])).length:Int)).toNat else min (-1:Int).toNat (List.map PyData.str (bs++[la])).length)=_
  rw[if_pos (by decide),ax,zb4,zf7];omega
 rw[this,zg4,List.drop_zero,Nat.sub_zero,List.take_append_of_le_length (by rw[ax];exact aC _),List.take_of_length_le (by rw[ax];exact aC _)]
theorem iJ (bs:List Str)(la:Str):atI ((bs++[la]).map PyData.str) (-1)=some (.str la):=by
 unfold atI ixN
 rw[if_neg (by decide),ax,zb4,zf7,if_pos (by omega)]
 show ((bs++[la]).map PyData.str)[((-1:Int)+((bs.length+1:Nat):Int)).toNat]?=_
 rw[show ((-1:Int)+((bs.length+1:Nat):Int)).toNat=bs.length by omega,zg4,zc7 (by rw[ax];exact aC _),ax,Nat.sub_self]
 rfl
def oE (C:Addr)(cs:Cs):List A→(A→Prop)→Prop:=fun as Q=>∃bs,as=[.dat (.str (txt bs ""))]∧Lns bs ""∧dg bs∧bs.length≤24∧Q (.dat (rF C cs (bs.map rBy)))
section
variable {P:Program}{w:World}{K:PySem.W.Frag}{mg:Str→Option Value}{base:Heap}{cs:Cs}
theorem cg :zi ["thing","lines","rules","number","line","rule"] ["thing"] (zb jF):=⟨rfl,rfl,rfl,by decide +kernel,rfl,by decide +kernel,by decide +kernel⟩
set_option maxHeartbeats 4000000 in
theorem mF {f C:Addr}{fd:FuncData}(F:Fun K "read_book" "read_book" jF f fd)(hm:mg "read_book"=some (.ref f))(hb:Binds K fd ["thing"] [])(nb:NbT mg)(CRB:Cal P w K mg base "rule_by" 7 lY)(CBk:nA P w K mg base "Book" 9 [] (uM C cs)):Cal P w K mg base "read_book" 11 (oE C cs):=by
 refine wQ F hm hb cg (fun as Q h=>?_) (fun cdv A' outer s H E as Q hr h=>?_)
 ·obtain⟨bs,rfl,_⟩:=h
  rfl
 ·obtain⟨bs,rfl,hL,hA,h24,q⟩:=h
  have nd:=cg.nd
  have h6:50000≤sizeLine:=by decide
  and_intros
  refine⟨by have:=oT hL;omega,?_⟩
  rw[nH hL]
  refine wo 2 nd (ya (zg (⟨_,rfl,aB rfl,?_⟩)))
  refine sI (pat:=.many [3,4]) zg3 rfl (xS (n:=2) (K:=K) rfl rfl (yr (zZ (i:=3) nd rfl (Or.inl rfl)) (yr (zZ (i:=4) nd rfl (Or.inl rfl)) (ve)))) (oB (by rfl) nb.enumerate (EvL.d (kX (ze 1 rfl (oK (pY ?_))))))
  and_intros
  rw[bx]
  refine va (fun i α=>i≤bs.length∧∃v3 v4 v5,α=[some (.dat (.str (txt bs ""))),some (.dat (.list ((bs++[("":Str)]).map .str))),some (.own ((bs.take i).map rBy)),v3,v4,v5]) ⟨aT _,none,none,none,rfl⟩ ?_ ?_
  ·rintro i d α hd ⟨ip,v3,v4,v5,rfl⟩
   obtain⟨e,he,rfl⟩:=wt hd
   rw[aU,za3] at he
   obtain⟨b,he,rfl⟩:=he
   have hi:i<bs.length:=(aH.mp he).1
   have hb:=hL.all b (by simp[zc2 he])
   have hr1:=hA b (zc2 he)
   refine⟨_,rfl,?_⟩
   refine yb 5 nd (zx CRB (hr.mono (by decide)) (by rfl) (za (ze 4 rfl (zg ⟨b,rfl,hb.1,hb.2.1,?_⟩))))
   refine yM (wJ (ze 5 rfl ?_))
   refine yc (show xJ (rBy b)=false by unfold rl at hr1;simpa using hr1) (zC ?_)
   refine xr 2 rfl (ze 5 rfl ⟨by rw[ax,zf4];omega,?_⟩)
   refine zC ⟨by omega,some (.dat (.int ((0+i:Nat):Int))),some (.dat (.str b)),some (.dat (rBy b)),?_⟩
   have mt:(bs.take (i+1)).map rBy=(bs.take i).map rBy++[rBy b]:=by rw[List.take_add_one,he,zg4];rfl
   rw[mt]
   rfl
  ·rintro α ⟨ip,v3,v4,v5,rfl⟩
   rw[wm,ax,List.take_length]
   refine sx 2 rfl ?_
   and_intros
   refine ixk rfl rfl (iJ bs "") ?_
   and_intros
   exact⟨bs.map rBy,.inl rfl,kH hL hA,by rw[ax];exact h24,q⟩
end
abbrev kJ :Stmt:=top 43
abbrev lU :Stmt:=top 52
def Pl (t:Str):Prop:=∀c∈t.cps.toList,32≤c∧c<128
theorem Pl.asc {t:Str}(h:Pl t):Asc t:=.of fun c hc=>(h c hc).2
theorem Pl.nl {t:Str}(h:Pl t):10∉t.cps.toList:=fun hc=>by have:=(h 10 hc).1;omega
theorem lu {x y:Str}(hx:Pl x)(hy:Pl y):Pl (x++y):=fun c hc=>by
 rw[zd0,zb9,zb8] at hc
 exact hc.elim (hx c) (hy c)
theorem oU {s:Str}(hs:Pl s):∀{ts:List Str},(∀t∈ts,Pl t)→Pl (Str.join s ts)
 |[],_=>fun c hc=>by
  have:(Str.join s []).cps.toList=[]:=by rfl
  rw[this] at hc;cases hc
 |[x],h=>h x (by simp)
 |x::y::r,h=>lu (lu (h x (by simp)) hs) (oU hs (ts:=y::r) fun t ht=>h t (az _ ht))
theorem pQ {t:Str}(h:(t.cps.toList.all fun c=>decide (32≤c)&&decide (c<128))=true):Pl t:=fun c hc=>by
 have:=zc0.mp h c hc
 simpa using this
theorem ua (n:Nat):Pl (fig n):=fun c hc=>by have:=wR n c hc;omega
theorem uk {s:Str}(h:s∈words):Pl s∧s.length≤5:=by
 simp only[words,ay,aE,aZ] at h
 rcases h with rfl|rfl|rfl|rfl|rfl|rfl|rfl<;>exact⟨pQ (by decide +kernel),by decide +kernel⟩
theorem mf {s:Str}{v:PyData}(h:WOk s v):∀t∈zE v,Pl t:=by
 intro t ht
 cases h with
 |non _=>rw[aS.mp ht];exact pQ (by decide +kernel)
 |bl b _=>rw[aS.mp ht];cases b<;>exact pQ (by decide +kernel)
 |int n _ _ _ hn=>rw[aS.mp ht];exact ua _
 |deal a b ha hb=>
  rcases ay.mp ht with rfl|ht
  ·exact ua _
  ·rw[aS.mp ht];exact ua _
theorem jK {s:Str}{i j:Nat}{v:PyData}(hs:s∈words)(hi:i≤1000000)(hj:j≤1000000)(h:WOk s v):Pl (xy s i j v)∧(xy s i j v).length≤140:=by
 obtain⟨h2,h3⟩:=wN h
 unfold xy
 rw[show Txt.join " " (s::fig i::fig j::zE v)=Str.join " " (s::fig i::fig j::zE v) from za0 _ _]
 refine⟨oU (pQ (by decide +kernel)) fun t ht=>?_,?_⟩
 ·simp only[ay] at ht
  rcases ht with rfl|rfl|rfl|ht
  ·exact (uk hs).1
  ·exact ua _
  ·exact ua _
  ·exact mf h t ht
 ·have f1:=yo (n:=i) (by omega)
  have f2:=yo (n:=j) (by omega)
  have w1:=(uk hs).2
  have e:(" ":Str).length=1:=by decide +kernel
  have h1:=zd9 " " (s::fig i::fig j::zE v)
  rw[e] at h1
  have h4:=StrLaws.sumLen_le (B:=50) (zE v) h2
  simp only[aW,zh5,aJ] at h1
  omega
theorem xD {lo hi:Int}{v:PyData}(h:zL lo hi v=true)(h0:0≤lo):∃n:Nat,v=.int n∧(n:Int)≤hi:=by
 cases v with
 |int i=>
  have h:(decide (lo≤i)&&decide (i≤hi))=true:=h
  rw[aI,aO,aO] at h
  exact⟨i.toNat,by rw[Int.toNat_of_nonneg (by omega)],by omega⟩
 |_=>cases h
theorem wok {s:Str}{v:PyData}(hs:s∈words)(h:zD (.str s) v=true):WOk s v:=by
 have none_of:isNone v=true→v=.none:=fun e=>by cases v<;>first|rfl|cases e
 have bool_of:isBool v=true→∃b,v=.bool b:=fun e=>by cases v<;>first|exact⟨_,rfl⟩|cases e
 have coins:∀{s:Str},s≠"come"→s≠"go"→s≠"deal"→wK v=true→WOk s v:=fun {s} a b c e=>by
  obtain⟨n,rfl,hn⟩:=xD (lo:=0) (hi:=1000000000000) e (by decide)
  exact .int n a b c (by omega)
 have few:∀{s:Str},s≠"come"→s≠"go"→s≠"deal"→zL 1 14 v=true→WOk s v:=fun {s} a b c e=>by
  obtain⟨n,rfl,hn⟩:=xD e (by decide)
  exact .int n a b c (by omega)
 simp only[words,ay,aE,aZ] at hs
 rcases hs with rfl|rfl|rfl|rfl|rfl|rfl|rfl
 ·rw[xX,zc3] at h
  rcases h with h|h
  ·rw[none_of h];exact .non (.inl rfl)
  ·exact coins (by decide +kernel) (by decide +kernel) (by decide +kernel) h
 ·rw[uf] at h
  obtain⟨b,rfl⟩:=bool_of h
  exact .bl b (.inl rfl)
 ·rw[qm] at h
  obtain⟨b,rfl⟩:=bool_of h
  exact .bl b (.inr rfl)
 ·rw[vH] at h
  exact few (by decide +kernel) (by decide +kernel) (by decide +kernel) h
 ·rw[uK] at h
  exact few (by decide +kernel) (by decide +kernel) (by decide +kernel) h
 ·rw[wC,zc3] at h
  rcases h with h|h
  ·rw[none_of h];exact .non (.inr rfl)
  ·unfold vD at h
   split at h
   ·rename_i m f
    rw[aI] at h
    obtain⟨a,ea,ha⟩:=xD h.1 (by decide)
    obtain⟨b,rfl,hb⟩:=xD h.2 (by decide)
    cases ea
    exact .deal a b (by omega) (by omega)
   ·cases h
 ·rw[tJ] at h
  exact coins (by decide +kernel) (by decide +kernel) (by decide +kernel) h
theorem uB {d:PyData}(h:yf d=true):∃(t:Str) (i j:Nat) (v:PyData),d=.tuple [.str t,.int i,.int j,v]∧t∈words∧i≤1000000∧j≤1000000∧WOk t v∧Pl (xy t i j v)∧(xy t i j v).length≤140:=by
 obtain⟨t,i,j,v,ht,rfl,i0,ij,j1,hw⟩:=yV h
 obtain⟨i,rfl⟩:=zf1 i0
 obtain⟨j,rfl⟩:=zf1 (show 0≤j by omega)
 have hv:=wok ht hw
 have hi:i≤1000000:=by omega
 have hj:j≤1000000:=by omega
 exact⟨t,i,j,v,rfl,ht,hi,hj,hv,jK ht hi hj hv⟩
theorem hd0 (n:Nat)(h:0<n):∃c r,Nat.toDigits 10 n=c::r∧c.toNat≠48:=by
 induction n using Nat.strongRecOn with
 |_ m ih=>
  by_cases hm:m<10
  ·rw[Nat.toDigits_of_lt_base hm]
   have:∀d,d<10→0<d→(Nat.digitChar d).toNat≠48:=by decide
   exact⟨_,_,rfl,this m hm h⟩
  ·have hm:m % 10<10:=Nat.mod_lt m (by decide)
   have t:Nat.toDigits 10 (m / 10)++Nat.toDigits 10 (m % 10)=Nat.toDigits 10 (10*(m / 10)+m % 10):=Nat.toDigits_append_toDigits (by decide) (by omega) hm
   rw[Nat.div_add_mod] at t
   obtain⟨c,r,e,hc⟩:=ih (m / 10) (by omega) (by omega)
   rw[←t,e]
   exact⟨c,_,rfl,hc⟩
theorem lG :fig 0=("0":Str):=by decide +kernel
theorem ki {n:Nat}(h:0<n):∃c r,(fig n).cps.toList=c::r∧c≠48:=by
 obtain⟨c,r,e,hc⟩:=hd0 n h
 exact⟨c.toNat,r.map Char.toNat,by rw[wW,e];rfl,hc⟩
theorem so (n:Nat):fig n≠("":Str):=by
 intro e
 have h:=pN n
 rw[e] at h
 exact h (by decide +kernel)
theorem ux {n:Nat}{c:Nat}{r:List Nat}{x:Str}(h:x.cps.toList=c::r)(hc:57<c):fig n≠x:=by
 intro e
 have:=wR n c (by rw[e,h];exact aA ..)
 omega
theorem lS (n:Nat):fig n≠("none":Str):=ux (c:=110) (r:=[111,110,101]) (by decide +kernel) (by decide)
theorem gc (n:Nat):fig n≠("yes":Str):=ux (c:=121) (r:=[101,115]) (by decide +kernel) (by decide)
theorem eU (n:Nat):fig n≠("no":Str):=ux (c:=110) (r:=[111]) (by decide +kernel) (by decide)
theorem qW {s:Str}(h:s∈words):32∉s.cps.toList:=by
 simp only[words,ay,aE,aZ] at h
 rcases h with rfl|rfl|rfl|rfl|rfl|rfl|rfl<;>decide +kernel
theorem xT (n:Nat):32∉(fig n).cps.toList:=fun h=>by
 have:=wR n 32 h
 omega
theorem rh {s:Str}{v:PyData}(h:WOk s v):∀t∈zE v,32∉t.cps.toList:=by
 intro t ht
 cases h with
 |non _=>rw[aS.mp ht];decide +kernel
 |bl b _=>rw[aS.mp ht];cases b<;>decide +kernel
 |int n _ _ _ hn=>rw[aS.mp ht];exact xT _
 |deal a b ha hb=>
  rcases ay.mp ht with rfl|ht
  ·exact xT _
  ·rw[aS.mp ht];exact xT _
theorem rX {s:Str}{i j:Nat}{v:PyData}(hs:s∈words)(h:WOk s v):Txt.split (xy s i j v) " "=s::fig i::fig j::zE v:=by
 have e:(" ":Str)=⟨#[32]⟩:=by decide +kernel
 unfold xy
 rw[e]
 refine uJ 32 _ (fun t ht=>?_) (by simp)
 simp only[ay] at ht
 rcases ht with rfl|rfl|rfl|ht
 ·exact qW hs
 ·exact xT _
 ·exact xT _
 ·exact rh h t ht
theorem join_cons (s x y:Str)(r:List Str):Str.join s (x::y::r)=x++s++Str.join s (y::r):=rfl
theorem iF (bs:List Str)(la:Str):txt bs la=Str.join "\n" (bs++[la]):=za0 _ _
theorem vB (x:Str):x++""=x:=xI (by rw[zd0,zb9,show ("":Str).cps.toList=[] by decide +kernel,ze4])
theorem wk (x y z:Str):x++y++z=x++(y++z):=xI (by simp only[zd0,zb9,List.append_assoc])
theorem sW (b:Str)(bs:List Str)(la:Str):txt (b::bs) la=b++"\n"++txt bs la:=by
 rw[iF,iF]
 cases bs with
 |nil=>rfl
 |cons c r=>rfl
theorem vj :∀ls:List Str,Str.join "" (ls.map (·++"\n"))=txt ls ""
 |[]=>by rw[iF];rfl
 |[x]=>by
  rw[sW,iF]
  show x++"\n"=x++"\n"++""
  rw[vB]
 |x::y::r=>by
  rw[sW,←vj (y::r)]
  show x++"\n"++""++Str.join "" ((y::r).map (·++"\n"))=_
  rw[vB]
theorem xO {n:Nat}(h:n≤1000000000000):zM (fig n)=.int n:=by
 have hd:=wR n
 have hb:rO (fig n)=true:=by
  unfold rO
  have h1:decide (fig n="")=false:=aK (so n)
  have h2:(fig n).cps.toList.all um=true:=by
   rw[zc0]
   intro c hc
   have:=hd c hc
   unfold um
   rw[aQ this.1,aQ this.2];rfl
  rw[h1,h2]
  by_cases z:n=0
  ·subst z
   rw[aQ lG];rfl
  ·obtain⟨c,r,e1,e2⟩:=ki (n:=n) (by omega)
   rw[e1]
   have:decide ((c::r).head?=some 48)=false:=aK fun z=>e2 (aL z)
   rw[this,Bool.not_false,Bool.or_true];rfl
 have hv:PySem.intText? (fig n)=some ((PySem.NumText.digitsVal (fig n).cps.toList:Nat):Int):=zg1 hd (pN n) (by have:=yo h;omega)
 rw[jV (by omega)] at hv
 unfold zM
 rw[if_pos hb,←aL hv]
theorem my {s:Str}{v:PyData}(h:WOk s v):wBy (zE v)=v:=by
 cases h with
 |non _=>exact if_pos rfl
 |bl b _=>
  cases b with
  |true=>unfold wBy;rw[if_neg (by decide +kernel)];exact if_pos rfl
  |false=>unfold wBy;rw[if_neg (by decide +kernel),if_neg (by decide +kernel)];exact if_pos rfl
 |int n _ _ _ hn=>
  show wBy [fig n]=_
  unfold wBy
  rw[if_neg (fun e=>lS n (zc8 e).1),if_neg (fun e=>gc n (zc8 e).1),if_neg (fun e=>eU n (zc8 e).1)]
  show cX [zM (fig n)]=_
  rw[xO hn];rfl
 |deal a b ha hb=>
  show wBy [fig a,fig b]=_
  unfold wBy
  rw[if_neg (by simp),if_neg (by simp),if_neg (by simp)]
  show PyData.tuple [zM (fig a),zM (fig b)]=_
  rw[xO (by omega),xO (by omega)]
def txO :PyData→Str
 |.tuple [.str s,.int i,.int j,v]=>xy s i.toNat j.toNat v
 |_=>""
theorem vt {d:PyData}(h:yf d=true):rBy (txO d)=d∧Pl (txO d)∧(txO d).length≤140:=by
 obtain⟨t,i,j,v,rfl,ht,hi,hj,hv,tp,tl⟩:=uB h
 refine⟨?_,tp,tl⟩
 show rBy (xy t i j v)=_
 unfold rBy
 rw[rX ht hv]
 have e:gb (t::fig i::fig j::zE v)=.tuple [.str t,.int i,.int j,v]:=by
  have hw:=my hv
  cases hc:zE v with
  |nil=>cases hv<;>cases hc
  |cons x r=>
   rw[hc] at hw
   show PyData.tuple [.str t,zM (fig i),zM (fig j),wBy (x::r)]=_
   rw[hw,xO (by omega),xO (by omega)]
 rw[e,if_pos h]
theorem jr {s:Str}{i j:Nat}{v:PyData}(h:WOk s v):xy s i j v=s++" "++fig i++" "++fig j++" "++xQ v:=by
 unfold xy xQ
 rw[show Txt.join " " (s::fig i::fig j::zE v)=Str.join " " (s::fig i::fig j::zE v) from za0 _ _,show Txt.join " " (zE v)=Str.join " " (zE v) from za0 _ _]
 have:∃x r,zE v=x::r:=by cases h<;>exact⟨_,_,rfl⟩
 obtain⟨x,r,e⟩:=this
 rw[e,join_cons,join_cons,join_cons]
 simp only[wk]
def jv (C:Addr)(cs:Cs):List A→(A→Prop)→Prop:=fun as Q=>∃ds,as=[.dat (rF C cs ds)]∧Rules ds∧ds.length≤24∧Q (.dat (.str (txt (ds.map txO) "")))
def rm :List A→(A→Prop)→Prop:=fun as Q=>∃d,as=[.dat d]∧yf d=true∧Q (.dat (.str (txO d)))
theorem qo {ds:List PyData}(h:∀d∈ds,yf d=true)(hl:ds.length≤24):JoinOk "" ((ds.map txO).map (·++"\n"))=true:=by
 unfold JoinOk Builtin.Str.tooLong
 rw[StrLaws.joinTotal,Bool.not_eq_true',zb7]
 have e:("":Str).length=0:=by decide +kernel
 have:=StrLaws.sumLen_le (B:=301) ((ds.map txO).map (·++"\n")) fun y hy=>by
  obtain⟨x,hx,rfl⟩:=ze7.mp hy
  obtain⟨d,hd,rfl⟩:=ze7.mp hx
  have:=(vt (h d hd)).2.2
  rw[za8]
  show (txO d).length+1≤301
  omega
 have h6:50000≤sizeLine:=by decide
 rw[ax,ax] at this
 have h7:ds.length*301≤24*301:=Nat.mul_le_mul_right _ hl
 rw[e,Nat.mul_zero]
 omega
section
variable {P:Program}{w:World}{K:PySem.W.Frag}{mg:Str→Option Value}{base:Heap}{cs:Cs}
theorem dM :zi ["book"] ["book"] (zb kJ):=⟨rfl,rfl,rfl,by decide +kernel,rfl,by decide +kernel,by decide +kernel⟩
theorem ju {f C:Addr}{fd:FuncData}(F:Fun K "show_book" "show_book" kJ f fd)(hm:mg "show_book"=some (.ref f))(hb:Binds K fd ["book"] [])(nb:NbT mg)(CRT:Cal P w K mg base "rule_text" 2 oy)(MR:vN P w K mg base C "rules" 3 (vT C cs)):Cal P w K mg base "show_book" 4 (jv C cs):=by
 refine wQ F hm hb dM (fun as Q h=>?_) (fun cdv A' outer s H E as Q hr h=>?_)
 ·obtain⟨ds,rfl,_⟩:=h
  rfl
 ·obtain⟨ds,rfl,rd,hl,q⟩:=h
  have nd:=dM.nd
  have h6:50000≤sizeLine:=by decide
  refine yn (tO (zz ⟨_,rfl,EvL.d (uH ["rule"] [none] (.one 0) (wq (EvL.d ?_)))⟩))
  and_intros
  refine⟨rd,by omega,?_⟩
  and_intros
  refine⟨by omega,?_⟩
  refine cast (congrArg (fun z=>yw _ _ _ _ _ z _ _) (List.map_id' ds)) ?_
  refine yC (l:=ds) (g:=fun d=>d) (fun d=>.str (txO d++"\n")) (fun d hd=>⟨_,rfl,fun C s2 H2 fp Q h=>?_⟩) ?_
  ·obtain⟨t,i,j,v,e,ht,hi,hj,hv,tp,tl⟩:=uB (rd d hd).1
   refine yj (zx CRT (hr.mono (by decide)) (by rfl) (za (ze 0 rfl (zg ⟨t,i,j,v,congrArg (fun z=>[A.dat z]) e,ht,hi,hj,hv,?_⟩))))
   refine zz ⟨_,_,rfl,rfl,by show (xy t i j v).length+1≤sizeLine;omega,?_⟩
   rw[e] at h
   exact h
  refine⟨(ds.map txO).map (·++"\n"),by rw[zd6,ze9,ze9];rfl,qo (fun d hd=>(rd d hd).1) hl,?_⟩
  rw[show Txt.join "" ((ds.map txO).map (·++"\n"))=txt (ds.map txO) "" from (za0 _ _).trans (vj _)]
  exact q
theorem cv :zi ["_law_rule_here","_law_word","_law_first","_law_last","_law_worth_here","_law_text_here"] ["_law_rule_here"] (zb lU):=⟨rfl,rfl,rfl,by decide +kernel,rfl,by decide +kernel,by decide +kernel⟩
theorem lW {f:Addr}{fd:FuncData}(F:Fun K "_law_text" "_law_text" lU f fd)(hm:mg "_law_text"=some (.ref f))(hb:Binds K fd ["_law_rule_here"] [])(nb:NbT mg):Cal P w K mg base "_law_text" 1 rm:=by
 refine wQ F hm hb cv (fun as Q h=>?_) (fun cdv A' outer s H E as Q hr h=>?_)
 ·obtain⟨d,rfl,_⟩:=h
  rfl
 ·obtain⟨d,rfl,hd,q⟩:=h
  have nd:=cv.nd
  have h6:50000≤sizeLine:=by decide
  obtain⟨x,i,j,v,rfl,hx,hi,hj,hv,tp,tl⟩:=uB hd
  refine iP (pat:=.many [1,2,3,4]) (xS (n:=4) (K:=K) rfl rfl (yr (zZ (i:=1) nd rfl (Or.inl rfl)) (yr (zZ (i:=2) nd rfl (Or.inl rfl)) (yr (zZ (i:=3) nd rfl (Or.inl rfl)) (yr (zZ (i:=4) nd rfl (Or.inl rfl)) ve))))) (ze 0 rfl ⟨_,rfl,?_⟩)
  have qq:Q (.dat (.str (x++" "++fig i++" "++fig j++" "++xQ v))):=by rw[←jr hv];exact q
  have lx:=(uk hx).2
  have li:=yo (n:=i) (by omega)
  have lj:=yo (n:=j) (by omega)
  have e1:(" ":Str).length=1:=by decide +kernel
  refine yb 5 nd (yj (yj (yj (yj (yj (ze 1 rfl (zz ⟨_,_,rfl,rfl,by omega,?_⟩)))))))
  have g1:(x++" ").length≤6:=by rw[za8];omega
  and_intros
  refine⟨yk (by omega),x++" ",fig i,rfl,rfl,by omega,?_⟩
  have g2:(x++" "++fig i).length≤19:=by rw[za8];omega
  refine zz ⟨_,_,rfl,rfl,by omega,?_⟩
  have g3:(x++" "++fig i++" ").length≤20:=by rw[za8];omega
  and_intros
  refine⟨yk (by omega),_,fig j,rfl,rfl,by omega,?_⟩
  have g4:(x++" "++fig i++" "++fig j).length≤33:=by rw[za8];omega
  refine zz ⟨_,_,rfl,rfl,by omega,?_⟩
  have g5:(x++" "++fig i++" "++fig j++" ").length≤34:=by rw[za8];omega
  generalize x++" "++fig i++" "++fig j++" "=z at qq g5 ⊢
  cases hv with
  |non _=>exact yM (wJ (ze 4 rfl (yR rfl (yn (yj (ze 5 rfl (zz ⟨_,_,rfl,rfl,by show z.length+4≤sizeLine;omega,qq⟩)))))))
  |bl b hs=>
   and_intros
   refine yR (by rcases hs with rfl|rfl<;>decide +kernel) ?_
   refine yn (yj (ze 5 rfl (uz hr.one (fun _ _=>rfl) (EvL.d (ya (za (zz (za (zz (zg ⟨_,rfl,aB rfl,gQ (by rfl) nb.int (ze 4 rfl ⟨b,rfl,?_⟩)⟩))))))))))
   cases b with
   |true=>
    refine ixk rfl rfl (xH (j:=1) rfl) ⟨_,_,rfl,rfl,by show z.length+3≤sizeLine;omega,qq⟩
   |false=>
    refine ixk rfl rfl (xH (j:=0) rfl) ⟨_,_,rfl,rfl,by show z.length+2≤sizeLine;omega,qq⟩
  |int n h1 h2 h3 hn=>
   have ln:=yo hn
   and_intros
   refine yc (by rw[qD,aK (fun e=>h1 e.symm),aK (fun e=>h2 e.symm)];rfl) ?_
   and_intros
   refine yc (aK h3) (zC ?_)
   refine yn (yj (ze 5 rfl ?_))
   and_intros
   exact⟨yk hn,_,fig n,rfl,rfl,by omega,qq⟩
  |deal a b ha hb=>
   have la:=yo (n:=a) (by omega)
   have lb:=yo (n:=b) (by omega)
   refine yM (wJ (ze 4 rfl (yc rfl (zC ?_))))
   refine yM (lX hr.one (ze 1 rfl (wD (za (zz (za (zz (zg ⟨_,rfl,aB rfl,cU rfl rfl ?_⟩))))))))
   refine yc (by decide +kernel) (zC ?_)
   refine yM (lr hr.units (ze 1 rfl (zz (vR ?_))))
   refine yR (by decide +kernel) ?_
   refine yn (yj (yj (yj (ze 5 rfl ?_))))
   and_intros
   refine⟨yk (by omega),z,fig a,rfl,rfl,by omega,?_⟩
   have k1:(z++fig a).length≤47:=by rw[za8];omega
   refine zz ⟨_,_,rfl,rfl,by omega,?_⟩
   have k2:(z++fig a++" ").length≤48:=by rw[za8];omega
   and_intros
   refine⟨yk (by omega),_,fig b,rfl,rfl,by omega,?_⟩
   have e:z++fig a++" "++fig b=z++xQ (.tuple [.int a,.int b]):=by
    rw[wk,wk,←wk (fig a)]
    congr 1
   rw[e]
   exact qq
end
abbrev tU :Stmt:=top 53
abbrev jh :Stmt:=top 46
theorem tG {X:Cx}{α α0:Ev}{E:yd}{sts:List Stmt}(hl:α0.length=α.length)(le:∀(i:Nat) a,α0[i]?=some (some a)→α[i]?=some (some a))(h:SvS X α0 sts E):SvS X α sts E:=fun F σ H D m r=>h F σ H D (m.forget hl le) r
theorem we.noL {d:PyData}(h:we d):L2.noL d=true:=by
 obtain⟨u,i,j,v,hu,rfl,_,_,_,hw⟩:=yV h.rule
 show (true&&(true&&(true&&(L2.noL v&&true))))=true
 rw[tE hw];rfl
theorem aw {ds:List PyData}(h:yO ds):PyData.canLayAll0 ds=true∧PyData.depthAll ds≤2∧PyData.hasDictAll ds=false:=by
 induction ds with
 |nil=>exact⟨by simp[PyData.canLayAll0],by simp[PyData.depthAll],by simp[PyData.hasDictAll]⟩
 |cons d r ih=>
  have h1:=h d aA
  obtain⟨a,b,c⟩:=ih fun e he=>h e (az _ he)
  have hn:=h1.nice.nod
  have hl:=h1.nice.lay
  have hd:=h1.dep
  simp only[PyData.canLayAll0,PyData.depthAll,PyData.hasDictAll,a,c,hl,hn]
  exact⟨rfl,by omega,rfl⟩
theorem mh {ds:List PyData}{Q:Bool→Prop}(h:yO ds)(q:Q true):uh (.list ds) (.list ds) Q:=by
 obtain⟨a,b,c⟩:=aw h
 have ly:(PyData.list ds).canLay0=true:=by simp only[PyData.canLay0];exact a
 have sh:SeqAt.shaped (.list ds)=true:=by
  unfold SeqAt.shaped
  rw[ly,zb0,aO]
  simp only[PyData.depth]
  omega
 have nd:(PyData.list ds).hasDict=false:=by simp only[PyData.hasDict];exact c
 exact eqk sh sh nd nd (by rw[SeqAt.eqv_refl _ ly];exact q)
def kbD :PyData→PyData
 |.tuple [_,_,_,v]=>.bool (isBool v)
 |_=>.none
theorem fL {ds:List PyData}{Q:Bool→Prop}(q:Q true):uh (.list (ds.map kbD)) (.list (ds.map kbD)) Q:=by
 have k:∀d,(kbD d).canLay0=true∧(kbD d).depth=0∧(kbD d).hasDict=false:=fun d=>by
  unfold kbD
  split<;>exact⟨by simp[PyData.canLay0],by simp[PyData.depth],by simp[PyData.hasDict]⟩
 have h:PyData.canLayAll0 (ds.map kbD)=true∧PyData.depthAll (ds.map kbD)=0∧PyData.hasDictAll (ds.map kbD)=false:=by
  induction ds with
  |nil=>exact⟨by simp[PyData.canLayAll0],by simp[PyData.depthAll],by simp[PyData.hasDictAll]⟩
  |cons d r ih=>
   obtain⟨a,b,c⟩:=k d
   obtain⟨a',b',c'⟩:=ih
   simp only[aW,PyData.canLayAll0,PyData.depthAll,PyData.hasDictAll,a,b,c,a',b',c']
   exact⟨rfl,by omega,rfl⟩
 obtain⟨a,b,c⟩:=h
 have ly:(PyData.list (ds.map kbD)).canLay0=true:=by simp only[PyData.canLay0];exact a
 have sh:SeqAt.shaped (.list (ds.map kbD))=true:=by
  unfold SeqAt.shaped
  rw[ly,zb0,aO]
  simp only[PyData.depth]
  omega
 have nd:(PyData.list (ds.map kbD)).hasDict=false:=by simp only[PyData.hasDict];exact c
 exact eqk sh sh nd nd (by rw[SeqAt.eqv_refl _ ly];exact q)
theorem mD {ds:List PyData}(h:yO ds)(hl:ds.length≤24):Lns (ds.map txO) ""∧dg (ds.map txO)∧(ds.map txO).map rBy=ds:=by
 have hb:∀d∈ds,rBy (txO d)=d∧Pl (txO d)∧(txO d).length≤140:=fun d hd=>vt (h d hd).rule
 refine⟨⟨fun t ht=>?_,by rw[ax];omega⟩,fun b hb'=>?_,?_⟩
 ·rcases zb8.mp ht with h1|h1
  ·obtain⟨d,hd,rfl⟩:=ze7.mp h1
   obtain⟨_,h2,h3⟩:=hb d hd
   exact⟨h2.asc,by omega,h2.nl⟩
  ·rw[aS.mp h1]
   exact⟨by unfold Asc;decide +kernel,by decide +kernel,by decide +kernel⟩
 ·obtain⟨d,hd,rfl⟩:=ze7.mp hb'
  unfold rl
  rw[(hb d hd).1]
  obtain⟨u,i,j,v,_,rfl,_⟩:=yV (h d hd).rule
  rfl
 ·rw[ze9]
  conv=>rhs;rw[←List.map_id ds]
  exact List.map_congr_left fun d hd=>(hb d hd).1
section
variable {P:Program}{w:World}{K:PySem.W.Frag}{mg:Str→Option Value}{base:Heap}{cs:Cs}
theorem bY :zi ["_law_script","_law_k"] ["_law_script","_law_k"] (zb jh):=⟨rfl,rfl,rfl,by decide +kernel,rfl,by decide +kernel,by decide +kernel⟩
theorem gE {f:Addr}{fd:FuncData}(F:Fun K "_law_cell_at" "_law_cell_at" jh f fd)(nb:NbT mg):zv P w K mg base CX0 1 f fd ["_law_script","_law_k"] (tS K):=by
 refine dQ F bY (fun cdv A' outer s H E a ns i hr hl sc i0=>?_)
 refine yM (ke (ze 1 rfl (qu 0 rfl sc (by rfl) nb.len ⟨_,_,rfl,rfl,?_⟩)))
 refine xk (fun h=>?_) (fun h=>zC ?_)
 ·exact yn (oA 0 rfl sc (fun _ _=>rfl) (ze 1 rfl ⟨i,rfl,i0,zc4 h,fun z=>⟨z,rfl⟩⟩))
 ·exact yn (zk ⟨_,rfl⟩)
abbrev nL' :List Str:=["_law_row","_law_many","_law_rules","_law_k","_law_draws","_law_text_here","_law_book","_law_turn","_law_found","_law_other","_law_kinds"]
theorem cp :zi ("_law_script"::nL') ["_law_script"] (zb tU):=⟨rfl,rfl,rfl,by decide +kernel,rfl,by decide +kernel,by decide +kernel⟩
abbrev stL (a:Addr)(m:Int)(ds:List PyData)(o4 o5:Option A):Ev:=[some (.at a),some .tape,some (.dat (.int m)),some (.own ds),o4,o5,none,none,none,none,none,none]
theorem nine {α:Ev}{b0 b1 b2 b3 b4 b5:Option A}{r:Ev}{o4 o5:Option A}(e:α=[b0,b1,b2,b3,b4,b5]++r)(h4:o4=none∨o4=b4)(h5:o5=none∨o5=b5)(j:Nat)(c:A)(hj:([b0,b1,b2,b3,o4,o5]++r:Ev)[j]?=some (some c)):α[j]?=some (some c):=by
 subst e
 match j,hj with
 |0,hj=>exact hj
 |1,hj=>exact hj
 |2,hj=>exact hj
 |3,hj=>exact hj
 |4,hj=>rcases h4 with rfl|rfl;cases hj;exact hj
 |5,hj=>rcases h5 with rfl|rfl;cases hj;exact hj
 |n+6,hj=>exact hj
set_option maxHeartbeats 8000000 in
theorem du {f fC C:Addr}{fd fdC:FuncData}(F:Fun K "law" "law" tU f fd)(nb:NbT mg)(GC:zv P w K mg base CX0 1 fC fdC ["_law_script","_law_k"] (tS K))(mC:mg "_law_cell_at"=some (.ref fC))(kC:PySem.W.keepIn K (.ref fC)=true)(bC:Binds K fdC ["_law_script","_law_k"] [])
  (CB:Cal P w K mg base "_law_begin" 1 pS) (CD:Cal P w K mg base "_law_take" 1 wO) (CRl:Cal P w K mg base "_law_rule" 4 oG) (CTx:Cal P w K mg base "_law_text" 1 rm) (CSh:Cal P w K mg base "show_book" 4 (jv C cs)) (CRd:Cal P w K mg base "read_book" 11 (oE C cs)) (CBk:nA P w K mg base "Book" 9 [] (uM C cs)) (MR:vN P w K mg base C "rules" 3 (vT C cs))
  (mB:mg "Book"=some (.ref C)) (cB:cV K C) (kB:PySem.W.kitOne K (.ref C) (.ref C)=some true):zv P w K mg base CX0 12 f fd ["_law_script"] (vW K):=by
 refine bq (k:=11) F cp (fun cdv A' outer s H E a ns hr hl sc=>?_)
 have nd:=cp.nd
 have h6:50000≤sizeLine:=by decide
 refine wo 1 nd (sH CB (hr.mono (by decide)) (by rfl) (za (iD 0 GC (hr.mono (by decide)) (by rfl) mC kC bC rfl sc hl (zk ⟨0,rfl,by decide,fun z=>zg ⟨z,rfl,fun x y y0 y1=>⟨_,rfl,?_⟩⟩⟩))))
 refine eo 1 rfl y0 y1 ?_
 and_intros
 rename_i v1 h1 g1 v2 h2 g2 v3 h3 g3
 refine kE (fun d=>∃m:Int,d=.int m∧0≤m∧m≤24) rfl h3 g3 ⟨⟨_,rfl,h1,by omega⟩,⟨_,rfl,by decide,by decide⟩,⟨_,rfl,h2,by omega⟩,trivial⟩ (fun d ⟨m,e,m0,m1⟩=>?_)
 subst e
 refine wo 3 nd (ya (zg ⟨_,rfl,aB rfl,?_⟩))
 refine sI (pat:=.one 4) zg3 rfl (zZ (i:=4) nd rfl (Or.inl rfl)) (uZ (by rfl) nb.range (ze 2 rfl ⟨m,rfl,by omega,by omega,?_⟩))
 have more:∀{ds:List PyData} {d:PyData},yO ds→we d→yO (ds++[d]):=fun {ds d} h hd t ht=>by
  rcases zb8.mp ht with h1|h1
  ·exact h t h1
  ·rw[aS.mp h1];exact hd
 refine va (fun i α=>∃ds o4 o5,α=stL a m ds o4 o5∧yO ds∧ds.length=i) ⟨[],none,none,rfl,fun t ht=>by simp at ht,rfl⟩ ?_ ?_
 ·rintro i d α hd ⟨ds,o4,o5,rfl,ok,ll⟩
  have hi:i<m.toNat:=by
   have:=(aH.mp hd).1
   rwa [ax,yH] at this
  rw[aU,uy hi] at hd
  cases hd
  refine⟨_,rfl,?_⟩
  rw[Int.zero_add]
  refine tG (α0:=stL a m ds (some (.dat (.int i))) none) rfl (nine (b4:=some (.dat (.int i))) (b5:=o5) (r:=[none,none,none,none,none,none]) rfl (.inr rfl) (.inl rfl)) ?_
  refine et 5 1 nd rfl ?_
  refine yM (ke (yY (ze 4 rfl (zk ⟨_,_,rfl,rfl,qu 0 rfl sc (by rfl) nb.len ⟨_,_,rfl,rfl,?_⟩⟩))))
  refine xk (fun h=>?_) (fun h=>?_)
  ·refine wo 5 nd (sH CB (hr.mono (by decide)) (by rfl) (za (oA 0 rfl sc (fun _ _=>rfl) (yY (ze 4 rfl (zk ⟨_,_,rfl,rfl,_,rfl,by omega,zc4 h,fun z=>zg ⟨z,rfl,fun x y y0 y1=>⟨_,rfl,?_⟩⟩⟩))))))
   refine zC ?_
   refine iO 1 5 rfl rfl y0 y1 (fun t=>?_)
   refine xr 3 rfl (zx CRl (hr.mono (by decide)) (by rfl) (zw 5 rfl (za ?_)))
   refine uz hr.one (fun _ _=>rfl) (EvL.d (ya ?_))
   refine za (zk (za (zk (za (zk ?_)))))
   refine za (yt (r:=1000000) ⟨by decide,by decide,by decide⟩ (by decide) ?_)
   refine zg ⟨_,rfl,aB rfl,?_⟩
   refine zx CD (hr.mono (by decide)) (by rfl) (zw 5 rfl (za (zk (zg ⟨4,rfl,by decide,by decide,fun v4 h4 g4=>?_⟩))))
   refine kE (fun d=>∃y:Int,d=.int y∧0≤y∧y≤1000000) rfl h4 g4 ⟨⟨_,rfl,by decide,by decide⟩,⟨_,rfl,by decide,by decide⟩,⟨_,rfl,by decide,by decide⟩,⟨_,rfl,by decide,by decide⟩,trivial⟩ (fun d ⟨yy,e,yy0,yy1⟩=>?_)
   subst e
   refine zg ⟨yy,rfl,yy0,yy1,fun d hR=>⟨by omega,?_⟩⟩
   exact zC ⟨rfl,ds++[d],some (.dat (.int i)),none,rfl,more ok hR,by rw[zb4,ll];rfl⟩
  ·refine zC ?_
   refine xr 3 rfl (zx CRl (hr.mono (by decide)) (by rfl) (zw 5 rfl (za ?_)))
   refine uz hr.one (fun _ _=>rfl) (EvL.d (ya ?_))
   refine za (zk (za (zk (za (zk ?_)))))
   refine za (yt (r:=1000000) ⟨by decide,by decide,by decide⟩ (by decide) ?_)
   refine zg ⟨_,rfl,aB rfl,?_⟩
   refine zx CD (hr.mono (by decide)) (by rfl) (zw 5 rfl (za (zk (zg ⟨4,rfl,by decide,by decide,fun v4 h4 g4=>?_⟩))))
   refine kE (fun d=>∃y:Int,d=.int y∧0≤y∧y≤1000000) rfl h4 g4 ⟨⟨_,rfl,by decide,by decide⟩,⟨_,rfl,by decide,by decide⟩,⟨_,rfl,by decide,by decide⟩,⟨_,rfl,by decide,by decide⟩,trivial⟩ (fun d ⟨yy,e,yy0,yy1⟩=>?_)
   subst e
   refine zg ⟨yy,rfl,yy0,yy1,fun d hR=>⟨by omega,?_⟩⟩
   exact zC ⟨ds++[d],some (.dat (.int i)),some .tape,rfl,more ok hR,by rw[zb4,ll];rfl⟩
 ·rintro α ⟨ds,o4,o5,rfl,ok,ll⟩
  rw[ax,yH] at ll
  refine tG (α0:=stL a m ds none none) rfl (nine (b4:=o4) (b5:=o5) (r:=[none,none,none,none,none,none]) rfl (.inl rfl) (.inl rfl)) ?_
  refine qT (fun α=>∃ds,α=stL a m ds none none∧yO ds∧ds.length=m.toNat) ?_ ?_
  ·and_intros
   refine cy (fun hm=>?_) (fun hm=>?_)
   ·and_intros
    refine xk (fun _=>?_) (fun _=>zC (zC ⟨ds,rfl,ok,ll⟩))
    have hm:=zc4 hm
    have bg:(24:Int)<big:=by decide
    refine ek 3 rfl (iN 3 rfl (uz hr.one (fun _ _=>rfl) (ze 3 rfl (zx CD (hr.mono (by decide)) (by rfl) (zw 1 rfl (za (ze 2 rfl (zg ⟨m,rfl,by omega,by omega,fun v v0 v1=>?_⟩))))))))
    have vl:v.toNat<ds.length:=by omega
    have hat:atI ds v=some ds[v.toNat]:=by
     unfold atI ixN
     rw[if_pos v0,if_pos (by omega)]
     show ds[v.toNat]?=_
     rw[za4 vl]
    have rv:=ok _ (List.getElem_mem vl)
    generalize ds[v.toNat]=dv at hat rv
    refine ixk rfl rfl hat ⟨rv.noL,qR (zk ⟨_,rfl,-1,ds.length-1,rfl,?_,?_⟩)⟩
    ·unfold ixN
     rw[if_neg (by decide),if_pos (by omega)]
     exact congrArg some (by omega)
    ·refine zC (zC ⟨_,rfl,fun d hd=>?_,by rw[za6];exact ll⟩)
     rcases List.mem_or_eq_of_mem_set hd with h|rfl
     ·exact ok d h
     ·exact rv
   ·refine yc rfl ?_
    repeat refine zC ?_
    exact⟨ds,rfl,ok,ll⟩
  ·rintro α ⟨ds,rfl,ok,ll⟩
   have l24:ds.length≤24:=by omega
   obtain⟨hL,hA,hB⟩:=mD ok l24
   have tl:=oT hL
   refine sx 3 rfl ?_
   refine yb 6 nd (tO (zz ⟨_,rfl,EvL.d (uH ["_law_rule_here"] [none] (.one 0) (wq (ze 3 rfl ⟨_,rfl,by omega,?_⟩)))⟩))
   refine cast (congrArg (fun z=>yw _ _ _ _ _ z _ _) (List.map_id' ds)) ?_
   refine yC (l:=ds) (g:=fun d=>d) (fun d=>.str (txO d++"\n")) (fun d hd=>⟨_,rfl,fun C s2 H2 fp Q h=>?_⟩) ?_
   ·have hb:=vt (ok d hd).rule
    refine yj (zx CTx (hr.mono (by decide)) (by rfl) (za (ze 0 rfl (zg ⟨d,rfl,(ok d hd).rule,?_⟩))))
    exact zz ⟨_,_,rfl,rfl,by show (txO d).length+1≤sizeLine;omega,h⟩
   refine⟨(ds.map txO).map (·++"\n"),by rw[zd6,ze9,ze9];rfl,qo (fun d hd=>(ok d hd).rule) l24,?_⟩
   rw[show Txt.join "" ((ds.map txO).map (·++"\n"))=txt (ds.map txO) "" from (za0 _ _).trans (vj _)]
   and_intros
   refine⟨ds,.inl rfl,ok.rules,l24,?_⟩
   refine sI (pat:=.one 8) zg3 rfl (zZ (i:=8) nd rfl (Or.inl rfl)) (uZ (by rfl) nb.range (zk ⟨2,rfl,by decide,by decide,?_⟩))
   refine va (fun i α=>∃o8 o9,α=[some (.at a),some .tape,some (.dat (.int m)),some (.dat (.list ds)),none,none,some (.dat (.str (txt (ds.map txO) ""))),some (.dat (rF C cs ds)),o8,o9,none,none]) ⟨none,none,rfl⟩ ?_ ?_
   ·rintro i d α hd ⟨o8,o9,rfl⟩
    refine⟨_,rfl,?_⟩
    refine yb 9 nd (zx CSh (hr.mono (by decide)) (by rfl) (za (ze 7 rfl (zg ⟨ds,rfl,ok.rules,l24,?_⟩))))
    and_intros
    refine vR (yc (by rw[aQ rfl];rfl) ?_)
    refine zC ?_
    refine jZ (uG MR (hr.mono (by decide)) (ze 7 rfl ⟨_,rfl,rfl,ds,rfl,ok.rules,by omega,ds,rfl,by omega,?_⟩))
    and_intros
    exact⟨_,_,rfl⟩
   ·rintro α ⟨o8,o9,rfl⟩
    refine yb 10 nd (zx CRd (hr.mono (by decide)) (by rfl) (za (ze 6 rfl (zg ⟨ds.map txO,rfl,hL,hA,by rw[ax];exact l24,?_⟩))))
    rw[hB]
    refine yM (EvW.t (fj (jS (fG (iH (by rfl) nb.isinstance (by rfl) mB (ze 10 rfl ⟨C,_,true,rfl,cB,kB,⟨_,rfl,?_⟩⟩))))))
    and_intros
    refine⟨ok.rules,by omega,?_⟩
    and_intros
    refine mh ok ?_
    and_intros
    refine⟨ok.rules,l24,?_⟩
    and_intros
    refine vR (yc (by rw[aQ rfl];rfl) ?_)
    refine zC ?_
    refine ja 11 ["_law_rule_here"] [none] (.one 0) (wq (EvL.d (uG MR (hr.mono (by decide)) (ze 10 rfl ⟨_,rfl,rfl,ds,rfl,ok.rules,by omega,ds,rfl,ds,rfl,by omega,?_⟩))))
    refine cast (congrArg (fun z=>yw _ _ _ _ _ z _ _) (List.map_id' ds)) ?_
    refine yC (l:=ds) (g:=fun d=>d) kbD (fun d hd=>⟨_,rfl,fun C s2 H2 fp Q h=>?_⟩) ?_
    ·obtain⟨u,i,j,v,hu,rfl,_,_,_,hw⟩:=yV (ok d hd).rule
     have vn:=(ok _ hd).wn.nod
     and_intros
     exact⟨_,vn,rfl,h⟩
    rw[zd6]
    refine sx 11 rfl ?_
    and_intros
    refine EvL.d (uH ["_law_rule_here"] [none] (.one 0) (wq (ze 3 rfl ⟨ds,rfl,by omega,?_⟩)))
    refine cast (congrArg (fun z=>yw _ _ _ _ _ z _ _) (List.map_id' ds)) ?_
    refine yC (l:=ds) (g:=fun d=>d) kbD (fun d hd=>⟨_,rfl,fun C s2 H2 fp Q h=>?_⟩) ?_
    ·obtain⟨u,i,j,v,hu,rfl,_,_,_,hw⟩:=yV (ok d hd).rule
     have vn:=(ok _ hd).wn.nod
     and_intros
     exact⟨_,vn,rfl,h⟩
    rw[zd6]
    refine fL ?_
    and_intros
    have l0:Lns ([]:List Str) "":=⟨fun t ht=>by rw[show t="" by simpa using ht];exact⟨by unfold Asc;decide +kernel,by decide +kernel,by decide +kernel⟩,aT _⟩
    refine⟨[],by rw[show txt [] ""="" by decide +kernel],l0,fun b hb=>by simp at hb,aT _,?_⟩
    refine⟨_,rfl,rfl,[],rfl,fun d hd=>by simp at hd,aT _,?_⟩
    and_intros
    exact congrArg (fun b=>A.dat (.bool b)) (show PyData.eqv (.list []) (.list [])=true by simp[PyData.eqv,PyData.eqvAll])
end
def FnF (K:PySem.W.Frag)(f:Addr)(nm ql:Str)(st:Stmt):Prop:=∃fd,Fun K nm ql st f fd
theorem mkF {K:PySem.W.Frag}{f:Addr}{nm ql:Str}{st:Stmt}{oc kV dc pm cd ct:Value}{od an:Option Addr}{sl:Array (Option Value)}(l:K.lookup f=some ⟨oc,od,.func (PySem.W.fnOf nm ql (zS st) (zA st) (zb st) .none kV dc pm an cd ct),sl⟩)(c:PySem.W.codeIn K cd ql=true)(k:PySem.W.keepIn K (.ref f)=true):FnF K f nm ql st:=⟨_,je l c k⟩
def FnG (K:PySem.W.Frag)(f:Addr)(nm:Str)(st:Stmt):Prop:=PySem.W.nsIn K mainGlobals nm=some (some (.ref f))∧FnF K f nm nm st
theorem mkG {K:PySem.W.Frag}{f:Addr}{nm:Str}{st:Stmt}{oc kV dc pm cd ct:Value}{od an:Option Addr}{sl:Array (Option Value)}(a:PySem.W.nsIn K mainGlobals nm=some (some (.ref f)))(l:K.lookup f=some ⟨oc,od,.func (PySem.W.fnOf nm nm (zS st) (zA st) (zb st) .none kV dc pm an cd ct),sl⟩)(c:PySem.W.codeIn K cd nm=true)(k:PySem.W.keepIn K (.ref f)=true):FnG K f nm st:=⟨a,mkF l c k⟩
theorem FnF.get {K:PySem.W.Frag}{f:Addr}{nm ql:Str}{st:Stmt}(ps:List Str)(h:FnF K f nm ql st)(hb:∀(kV doc pm:Value) (an:Option Addr) (cdv ct:Value) (us:List Value),us.length=ps.length→bindArgs (PySem.W.fnOf nm ql (zS st) (zA st) (zb st) .none kV doc pm an cdv ct) ⟨us,[]⟩=pure (ps.zip us)):∃fd,Fun K nm ql st f fd∧Binds K fd ps []:=by
 obtain⟨fd,F⟩:=h
 exact⟨fd,F,F.binds hb⟩
theorem FnG.get {K:PySem.W.Frag}{h0:Heap}{mg:Str→Option Value}{f:Addr}{nm:Str}{st:Stmt}(ps:List Str)(h:FnG K f nm st)(X:K.In h0)(G:h0.Ns mainGlobals mg)(hb:∀(kV doc pm:Value) (an:Option Addr) (cdv ct:Value) (us:List Value),us.length=ps.length→bindArgs (PySem.W.fnOf nm nm (zS st) (zA st) (zb st) .none kV doc pm an cdv ct) ⟨us,[]⟩=pure (ps.zip us)):∃fd,mg nm=some (.ref f)∧Fun K nm nm st f fd∧Binds K fd ps []:=by
 obtain⟨a,fd,F⟩:=h
 exact⟨fd,za5 X G a,F,F.binds hb⟩
theorem mkR {K:PySem.W.Frag}{C gi gt ge gw:Addr}(pg:PySem.W.plainGet K C Str.empty=true)(hd:PySem.W.hasDictIn K C=true)(po:PySem.W.plainOver K C=true)(sa:PySem.W.findIn K (.ref C) "__setattr__"=some (some (.builtin "object.__setattr__")))(n1:PySem.W.findIn K (.ref C) "first"=some none)(n2:PySem.W.findIn K (.ref C) "last"=some none)(n3:PySem.W.findIn K (.ref C) "worth"=some none)(mk:PySem.W.makesIn K C=true)(f1:PySem.W.findIn K (.ref C) "__init__"=some (some (.ref gi)))(i1:PySem.W.isFn K (.ref gi)=true)(kc:PySem.W.keepIn K (.ref C)=true)(f2:PySem.W.findIn K (.ref C) "told"=some (some (.ref gt)))(i2:PySem.W.isFn K (.ref gt)=true)(k2:PySem.W.keepIn K (.ref gt)=true)(f3:PySem.W.findIn K (.ref C) "tells"=some (some (.ref ge)))(i3:PySem.W.isFn K (.ref ge)=true)(k3:PySem.W.keepIn K (.ref ge)=true)(f4:PySem.W.findIn K (.ref C) "word"=some (some (.ref gw)))(i4:PySem.W.isFn K (.ref gw)=true)(k4:PySem.W.keepIn K (.ref gw)=true):xN K C gi gt ge gw:=⟨⟨pg,hd,po,sa⟩,n1,n2,n3,⟨mk,f1,i1,kc⟩,⟨f2,i2,k2⟩,⟨f3,i3,k3⟩,⟨f4,i4,k4⟩⟩
theorem mn {K:PySem.W.Frag}{dT:Addr}{oc kV doc pm cdv ct:Value}{od an:Option Addr}{n:Nat}{sl:Array (Option Value)}(lk:K.lookup dT=some ⟨oc,od,.seq #[.none] n,sl⟩):
  Binds K (PySem.W.fnOf "__init__" "Book.__init__" (zS yK) (zA yK) (zb yK) (.ref dT) kV doc pm an cdv ct) ["self","rules"] [.none]:=fun s us hk hl=>by
 match us,(show us.length=1 by rw[zb4] at hl;simpa using hl) with
 |[u],_=>exact BindsTo.of_defaults (T:=dT) rfl (hk _ _ lk) rfl rfl rfl
theorem ma {K:PySem.W.Frag}{dT:Addr}{oc kV doc pm cdv ct:Value}{od an:Option Addr}{n:Nat}{sl:Array (Option Value)}(lk:K.lookup dT=some ⟨oc,od,.seq #[.none] n,sl⟩):
  Binds K (PySem.W.fnOf "__init__" "Book.__init__" (zS yK) (zA yK) (zb yK) (.ref dT) kV doc pm an cdv ct) ["self","rules"] []:=fun s us hk hl=>by
 rw[ze4] at hl ⊢
 match us,hl with
 |[u,v],_=>exact BindsTo.of_defaults (T:=dT) rfl (hk _ _ lk) rfl rfl rfl
theorem ar {P:Str→Prop}(h1:P "price")(h2:P "come")(h3:P "go")(h4:P "least")(h5:P "most")(h6:P "deal")(h7:P "fee"):∀u∈words,P u:=by
 intro u hu
 simp only[words,ay,aE,aZ] at hu
 rcases hu with rfl|rfl|rfl|rfl|rfl|rfl|rfl<;>assumption
set_option maxHeartbeats 8000000 in
theorem us1 {α:Type}{p:List α→Prop}(h:∀a,p [a])(us:List α)(hl:us.length=1):p us:=by
 obtain⟨a,rfl⟩:=List.length_eq_one_iff.mp hl
 exact h a
theorem us2 {α:Type}{p:List α→Prop}(h:∀a b,p [a,b])(us:List α)(hl:us.length=2):p us:=by
 cases us with
 |nil=>cases hl
 |cons a us=>exact us1 (p:=fun us=>p (a::us)) (h a) us (Nat.succ.inj hl)
theorem us3 {α:Type}{p:List α→Prop}(h:∀a b c,p [a,b,c])(us:List α)(hl:us.length=3):p us:=by
 cases us with
 |nil=>cases hl
 |cons a us=>exact us2 (p:=fun us=>p (a::us)) (h a) us (Nat.succ.inj hl)
theorem us4 {α:Type}{p:List α→Prop}(h:∀a b c d,p [a,b,c,d])(us:List α)(hl:us.length=4):p us:=by
 cases us with
 |nil=>cases hl
 |cons a us=>exact us3 (p:=fun us=>p (a::us)) (h a) us (Nat.succ.inj hl)
set_option maxHeartbeats 0 in
theorem all_mk {l:PySem.W.OpenLaw}{w:World}{K:PySem.W.Frag}{h:Heap}{mg:Str→Option Value}{fa f1 f2 f3 f4 f5 f6 f7 f8 f9 f10 f11 f12 f13 f14 f15 f16 f17 f18 f19 f20 f21 f22 f23 f24 f25 f26 f27 f28 f29 g_init g_told g_tells g_wPrice g_wCome g_wGo g_wLeast g_wMost g_wDeal g_wFee CPrice CCome CGo CLeast CMost CDeal CFee CB dT g_binit g_brules:Addr}(X:K.In h)(G:h.Ns mainGlobals mg)(hfa:mg "law"=some (.ref fa))
  {od29 an29 odB anB odT:Option Addr} {sl29 slB slT:Array (Option Value)} {oc29 kV29 dc29 pm29 ct29 cd29 ocB kVB dcB pmB ctB cdB ocT:Value} {tk1 tk2 tk3 tk4 ts1:Tok} {nT:Nat}
  (q1:FnG K f1 "is_whole" tW)
  (q2:FnG K f2 "is_whole_within" sf)
  (q3:FnG K f3 "is_pair" kd)
  (q4:FnG K f4 "is_day" dm)
  (q5:FnG K f5 "is_pair_of_days" lN)
  (q6:FnG K f6 "is_stretch" vV)
  (q7:FnG K f7 "is_coins" pw)
  (q8:FnG K f8 "is_deal" tQ)
  (q9:FnG K f9 "is_worth" qU)
  (q10:FnG K f10 "is_rule" sN)
  (q11:FnG K f11 "made" lL)
  (q12:FnG K f12 "rule_of" sy)
  (q13:FnG K f13 "kept_rules" lH)
  (q14:FnG K f14 "worth_text" qL)
  (q15:FnG K f15 "rule_text" qG)
  (q16:FnG K f16 "is_number_text" lg)
  (q17:FnG K f17 "number_by" lQ)
  (q18:FnG K f18 "worth_by" fV)
  (q19:FnG K f19 "rule_by" dF)
  (q20:FnG K f20 "show_book" kJ)
  (q21:FnG K f21 "read_book" jF)
  (q22:FnG K f22 "_law_cell_at" jh)
  (q23:FnG K f23 "_law_begin" qO)
  (q24:FnG K f24 "_law_take" jm)
  (q25:FnG K f25 "_law_coins" sE)
  (q26:FnG K f26 "_law_worth" tT)
  (q27:FnG K f27 "_law_rule" pM)
  (q28:FnG K f28 "_law_text" lU)
  (a29:PySem.W.nsIn K mainGlobals "law"=some (some (.ref f29)))
  (l29:K.lookup f29=some ⟨oc29,od29,.func (PySem.W.fnOf "law" "law" (zS tU) (zA tU) (zb tU) .none kV29 dc29 pm29 an29 cd29 ct29),sl29⟩)
  (c29:PySem.W.codeIn K cd29 "law"=true)
  (k29:PySem.W.keepIn K (.ref f29)=true)
  (aCPrice:PySem.W.nsIn K mainGlobals "Price"=some (some (.ref CPrice)))
  (aCCome:PySem.W.nsIn K mainGlobals "Come"=some (some (.ref CCome)))
  (aCGo:PySem.W.nsIn K mainGlobals "Go"=some (some (.ref CGo)))
  (aCLeast:PySem.W.nsIn K mainGlobals "Least"=some (some (.ref CLeast)))
  (aCMost:PySem.W.nsIn K mainGlobals "Most"=some (some (.ref CMost)))
  (aCDeal:PySem.W.nsIn K mainGlobals "Deal"=some (some (.ref CDeal)))
  (aCFee:PySem.W.nsIn K mainGlobals "Fee"=some (some (.ref CFee)))
  (RPrice:xN K CPrice g_init g_told g_tells g_wPrice)
  (RCome:xN K CCome g_init g_told g_tells g_wCome)
  (RGo:xN K CGo g_init g_told g_tells g_wGo)
  (RLeast:xN K CLeast g_init g_told g_tells g_wLeast)
  (RMost:xN K CMost g_init g_told g_tells g_wMost)
  (RDeal:xN K CDeal g_init g_told g_tells g_wDeal)
  (RFee:xN K CFee g_init g_told g_tells g_wFee)
  (q_init:FnF K g_init "__init__" "Rule.__init__" ox)
  (q_told:FnF K g_told "told" "Rule.told" jT)
  (q_wPrice:FnF K g_wPrice "word" "Price.word" tL)
  (q_wCome:FnF K g_wCome "word" "Come.word" pK)
  (q_wGo:FnF K g_wGo "word" "Go.word" eR)
  (q_wLeast:FnF K g_wLeast "word" "Least.word" sg)
  (q_wMost:FnF K g_wMost "word" "Most.word" pq)
  (q_wDeal:FnF K g_wDeal "word" "Deal.word" qS)
  (q_wFee:FnF K g_wFee "word" "Fee.word" mQ)
  (aCB:PySem.W.nsIn K mainGlobals "Book"=some (some (.ref CB)))
  (fi_binit:PySem.W.findIn K (.ref CB) "__init__"=some (some (.ref g_binit)))
  (is_binit:PySem.W.isFn K (.ref g_binit)=true)
  (l_binit:K.lookup g_binit=some ⟨ocB,odB,.func (PySem.W.fnOf "__init__" "Book.__init__" (zS yK) (zA yK) (zb yK) (.ref dT) kVB dcB pmB anB cdB ctB),slB⟩)
  (c_binit:PySem.W.codeIn K cdB "Book.__init__"=true)
  (k_binit:PySem.W.keepIn K (.ref g_binit)=true)
  (lT:K.lookup dT=some ⟨ocT,odT,.seq #[.none] nT,slT⟩)
  (fi_brules:PySem.W.findIn K (.ref CB) "rules"=some (some (.ref g_brules)))
  (is_brules:PySem.W.isFn K (.ref g_brules)=true)
  (q_brules:FnF K g_brules "rules" "Book.rules" wj)
  (pgB:PySem.W.plainGet K CB Str.empty=true)
  (hdB:PySem.W.hasDictIn K CB=true)
  (poB:PySem.W.plainOver K CB=true)
  (saB:PySem.W.findIn K (.ref CB) "__setattr__"=some (some (.builtin "object.__setattr__")))
  (mkB:PySem.W.makesIn K CB=true)
  (kcB:PySem.W.keepIn K (.ref CB)=true)
  (noB:PySem.W.findIn K (.ref CB) "kept"=some none)
  (z1:PySem.W.nsIn K mainGlobals "abs"=some none)
  (z2:PySem.W.nsIn K mainGlobals "list"=some none)
  (z3:PySem.W.nsIn K mainGlobals "len"=some none)
  (z4:PySem.W.nsIn K mainGlobals "range"=some none)
  (z5:PySem.W.nsIn K mainGlobals "min"=some none)
  (z6:PySem.W.nsIn K mainGlobals "max"=some none)
  (z7:PySem.W.nsIn K mainGlobals "sorted"=some none)
  (z8:PySem.W.nsIn K mainGlobals "isinstance"=some none)
  (z9:PySem.W.nsIn K mainGlobals "int"=some none)
  (z10:PySem.W.nsIn K mainGlobals "bool"=some none)
  (z11:PySem.W.nsIn K mainGlobals "str"=some none)
  (z12:PySem.W.nsIn K mainGlobals "tuple"=some none)
  (z13:PySem.W.nsIn K mainGlobals "all"=some none)
  (z14:PySem.W.nsIn K mainGlobals "any"=some none)
  (z15:PySem.W.nsIn K mainGlobals "repr"=some none)
  (z16:PySem.W.nsIn K mainGlobals "zip"=some none)
  (z17:PySem.W.nsIn K mainGlobals "enumerate"=some none)
  (z18:PySem.W.nsIn K mainGlobals "reversed"=some none)
  (z19:PySem.W.nsIn K mainGlobals "sum"=some none)
  (gi1:PySem.W.nsIn K mainGlobals "LAST_DAY"=some (some (.int 1000000 tk1)))
  (gi2:PySem.W.nsIn K mainGlobals "MOST_NIGHTS"=some (some (.int 14 tk2)))
  (gi3:PySem.W.nsIn K mainGlobals "MOST_COINS"=some (some (.int 1000000000000 tk3)))
  (gi4:PySem.W.nsIn K mainGlobals "MOST_RULES"=some (some (.int 24 tk4)))
  (gs1:PySem.W.nsIn K mainGlobals "FIGURES"=some (some (.str "0123456789" ts1)))
  (haB:PySem.W.findIn K (.ref CB) "__class__"=some (some (.builtin "object.__class__")))
  (hnB:PySem.W.specialIn K (.builtin "object.__class__") "__get__"=some (some (.builtin "getset_descriptor.__get__")))
  (htB:PySem.W.takesIn K (.builtin "object.__class__")=some true)
  (hmB:PySem.W.mroIn K CB (.type "object")=some true)
  (kBB:PySem.W.kitOne K (.ref CB) (.ref CB)=some true):
  ∃fd:FuncData,(∀(s:Shared) (v:Value),BindsTo s fd ⟨[v],[]⟩ [("_law_script",v)])∧∀base:Heap,K.In base→base.Ns mainGlobals mg→zv l.prog w K mg base CX0 12 fa fd ["_law_script"] (vW K):=by
 have e:=hfa.symm.trans (za5 X G a29)
 cases e
 have nb:NbT mg:=⟨aM X G z1,aM X G z2,aM X G z3,aM X G z4,aM X G z5,aM X G z6,aM X G z7,aM X G z8,aM X G z9,aM X G z10,aM X G z11,aM X G z12,aM X G z13,aM X G z14,aM X G z15,aM X G z16,aM X G z17,aM X G z18,aM X G z19⟩
 obtain⟨_,m_is_whole,F_is_whole,b_is_whole⟩:=q1.get ["thing"] X G fun _ _ _ _ _ _=>us1 fun _=>rfl
 obtain⟨_,m_is_whole_within,F_is_whole_within,b_is_whole_within⟩:=q2.get ["thing","lowest","highest"] X G fun _ _ _ _ _ _=>us3 fun _ _ _=>rfl
 obtain⟨_,m_is_pair,F_is_pair,b_is_pair⟩:=q3.get ["thing"] X G fun _ _ _ _ _ _=>us1 fun _=>rfl
 obtain⟨_,m_is_day,F_is_day,b_is_day⟩:=q4.get ["thing"] X G fun _ _ _ _ _ _=>us1 fun _=>rfl
 obtain⟨_,m_is_pair_of_days,F_is_pair_of_days,b_is_pair_of_days⟩:=q5.get ["thing"] X G fun _ _ _ _ _ _=>us1 fun _=>rfl
 obtain⟨_,m_is_stretch,F_is_stretch,b_is_stretch⟩:=q6.get ["thing"] X G fun _ _ _ _ _ _=>us1 fun _=>rfl
 obtain⟨_,m_is_coins,F_is_coins,b_is_coins⟩:=q7.get ["thing"] X G fun _ _ _ _ _ _=>us1 fun _=>rfl
 obtain⟨_,m_is_deal,F_is_deal,b_is_deal⟩:=q8.get ["thing"] X G fun _ _ _ _ _ _=>us1 fun _=>rfl
 obtain⟨_,m_is_worth,F_is_worth,b_is_worth⟩:=q9.get ["word","thing"] X G fun _ _ _ _ _ _=>us2 fun _ _=>rfl
 obtain⟨_,m_is_rule,F_is_rule,b_is_rule⟩:=q10.get ["thing"] X G fun _ _ _ _ _ _=>us1 fun _=>rfl
 obtain⟨_,m_made,F_made,b_made⟩:=q11.get ["word","first","last","worth"] X G fun _ _ _ _ _ _=>us4 fun _ _ _ _=>rfl
 obtain⟨_,m_rule_of,F_rule_of,b_rule_of⟩:=q12.get ["thing"] X G fun _ _ _ _ _ _=>us1 fun _=>rfl
 obtain⟨_,m_kept_rules,F_kept_rules,b_kept_rules⟩:=q13.get ["things"] X G fun _ _ _ _ _ _=>us1 fun _=>rfl
 obtain⟨_,m_worth_text,F_worth_text,b_worth_text⟩:=q14.get ["worth"] X G fun _ _ _ _ _ _=>us1 fun _=>rfl
 obtain⟨_,m_rule_text,F_rule_text,b_rule_text⟩:=q15.get ["rule"] X G fun _ _ _ _ _ _=>us1 fun _=>rfl
 obtain⟨_,m_is_number_text,F_is_number_text,b_is_number_text⟩:=q16.get ["word"] X G fun _ _ _ _ _ _=>us1 fun _=>rfl
 obtain⟨_,m_number_by,F_number_by,b_number_by⟩:=q17.get ["word"] X G fun _ _ _ _ _ _=>us1 fun _=>rfl
 obtain⟨_,m_worth_by,F_worth_by,b_worth_by⟩:=q18.get ["words"] X G fun _ _ _ _ _ _=>us1 fun _=>rfl
 obtain⟨_,m_rule_by,F_rule_by,b_rule_by⟩:=q19.get ["text"] X G fun _ _ _ _ _ _=>us1 fun _=>rfl
 obtain⟨_,m_show_book,F_show_book,b_show_book⟩:=q20.get ["book"] X G fun _ _ _ _ _ _=>us1 fun _=>rfl
 obtain⟨_,m_read_book,F_read_book,b_read_book⟩:=q21.get ["thing"] X G fun _ _ _ _ _ _=>us1 fun _=>rfl
 obtain⟨_,m__law_cell_at,F__law_cell_at,b__law_cell_at⟩:=q22.get ["_law_script","_law_k"] X G fun _ _ _ _ _ _=>us2 fun _ _=>rfl
 obtain⟨_,m__law_begin,F__law_begin,b__law_begin⟩:=q23.get ["_law_cell"] X G fun _ _ _ _ _ _=>us1 fun _=>rfl
 obtain⟨_,m__law_take,F__law_take,b__law_take⟩:=q24.get ["_law_row","_law_base"] X G fun _ _ _ _ _ _=>us2 fun _ _=>rfl
 obtain⟨_,m__law_coins,F__law_coins,b__law_coins⟩:=q25.get ["_law_row"] X G fun _ _ _ _ _ _=>us1 fun _=>rfl
 obtain⟨_,m__law_worth,F__law_worth,b__law_worth⟩:=q26.get ["_law_row","_law_word"] X G fun _ _ _ _ _ _=>us2 fun _ _=>rfl
 obtain⟨_,m__law_rule,F__law_rule,b__law_rule⟩:=q27.get ["_law_row","_law_day"] X G fun _ _ _ _ _ _=>us2 fun _ _=>rfl
 obtain⟨_,m__law_text,F__law_text,b__law_text⟩:=q28.get ["_law_rule_here"] X G fun _ _ _ _ _ _=>us1 fun _=>rfl
 have F_law:=je (st:=tU) l29 c29 k29
 have b_law:=F_law.binds (ps:=["_law_script"]) fun _ _ _ _ _ _=>us1 fun _=>rfl
 obtain⟨_,F_init,b_init⟩:=q_init.get ["self","first","last","worth"] fun _ _ _ _ _ _=>us4 fun _ _ _ _=>rfl
 obtain⟨_,F_told,b_told⟩:=q_told.get ["self"] fun _ _ _ _ _ _=>us1 fun _=>rfl
 obtain⟨_,F_wPrice,b_wPrice⟩:=q_wPrice.get ["self"] fun _ _ _ _ _ _=>us1 fun _=>rfl
 obtain⟨_,F_wCome,b_wCome⟩:=q_wCome.get ["self"] fun _ _ _ _ _ _=>us1 fun _=>rfl
 obtain⟨_,F_wGo,b_wGo⟩:=q_wGo.get ["self"] fun _ _ _ _ _ _=>us1 fun _=>rfl
 obtain⟨_,F_wLeast,b_wLeast⟩:=q_wLeast.get ["self"] fun _ _ _ _ _ _=>us1 fun _=>rfl
 obtain⟨_,F_wMost,b_wMost⟩:=q_wMost.get ["self"] fun _ _ _ _ _ _=>us1 fun _=>rfl
 obtain⟨_,F_wDeal,b_wDeal⟩:=q_wDeal.get ["self"] fun _ _ _ _ _ _=>us1 fun _=>rfl
 obtain⟨_,F_wFee,b_wFee⟩:=q_wFee.get ["self"] fun _ _ _ _ _ _=>us1 fun _=>rfl
 obtain⟨_,F_brules,b_brules⟩:=q_brules.get ["self"] fun _ _ _ _ _ _=>us1 fun _=>rfl
 have s_FIGURES:∃t,mg "FIGURES"=some (.str "0123456789" t):=⟨ts1,za5 X G gs1⟩
 have TD:qg mg f1 f2 f3 f4 f5:=⟨nb.isinstance,nb.int,nb.bool,nb.tuple,nb.len,⟨tk1,za5 X G gi1⟩,⟨tk2,za5 X G gi2⟩,m_is_whole,m_is_whole_within,m_is_pair,m_is_day,m_is_pair_of_days⟩
 have TR:qY mg f1 f2 f3 f4 f5 f6 f7 f8 f9 f10 f11 ⟨CPrice,CCome,CGo,CLeast,CMost,CDeal,CFee⟩:=⟨TD,⟨tk3,za5 X G gi3⟩,m_is_stretch,m_is_coins,m_is_deal,m_is_worth,m_is_rule,m_made,za5 X G aCPrice,za5 X G aCCome,za5 X G aCGo,za5 X G aCLeast,za5 X G aCMost,za5 X G aCDeal,za5 X G aCFee⟩
 have A7:mR K ⟨CPrice,CCome,CGo,CLeast,CMost,CDeal,CFee⟩ g_init g_told g_tells g_wPrice g_wCome g_wGo g_wLeast g_wMost g_wDeal g_wFee:=⟨RPrice,RCome,RGo,RLeast,RMost,RDeal,RFee⟩
 refine⟨PySem.W.fnOf "law" "law" (zS tU) (zA tU) (zb tU) .none kV29 dc29 pm29 an29 cd29 ct29,fun s v=>.of_eq rfl,fun base KX _=>?_⟩
 have G_in:=nQ (P:=l.prog) (w:=w) (base:=base) F_is_whole_within TD F_is_whole b_is_whole
 have G_pair:=iX (P:=l.prog) (w:=w) (base:=base) F_is_pair TD
 have G_day:=eG F_is_day TD G_in F_is_whole_within.kp b_is_whole_within
 have G_days:=ig F_is_pair_of_days TD G_pair F_is_pair.kp b_is_pair G_day F_is_day.kp b_is_day
 have G_stretch:=pk F_is_stretch TD G_days F_is_pair_of_days.kp b_is_pair_of_days
 have G_coins:=ky F_is_coins TR G_in F_is_whole_within.kp b_is_whole_within
 have G_deal:=nV F_is_deal TR G_in F_is_whole_within.kp b_is_whole_within G_pair F_is_pair.kp b_is_pair
 have G_worth:=kL F_is_worth TR G_in F_is_whole_within.kp b_is_whole_within G_coins F_is_coins.kp b_is_coins G_deal F_is_deal.kp b_is_deal
 have G_rule:=nR F_is_rule TR G_stretch F_is_stretch.kp b_is_stretch G_worth F_is_worth.kp b_is_worth
 have G_made:=jY (P:=l.prog) (w:=w) (base:=base) F_made TR A7 F_init b_init
 have G_ruleOf:=nq F_rule_of TR G_rule F_is_rule.kp b_is_rule G_made F_made.kp b_made
 have CRO:Cal l.prog w K mg base "rule_of" 7 (uo ⟨CPrice,CCome,CGo,CLeast,CMost,CDeal,CFee⟩):=pH m_rule_of F_rule_of.kp b_rule_of G_ruleOf
 have CKe:Cal l.prog w K mg base "kept_rules" 8 (pz ⟨CPrice,CCome,CGo,CLeast,CMost,CDeal,CFee⟩):=jb F_kept_rules m_kept_rules b_kept_rules nb ⟨tk4,za5 X G gi4⟩ CRO
 have cB:Cls K CB:=⟨pgB,hdB,poB,saB⟩
 have GBI:=lz (iI (st:=yK) l_binit c_binit k_binit) cB noB CKe
 have m_Book:mg "Book"=some (.ref CB):=za5 X G aCB
 have MkB:Mk K CB g_binit:=⟨mkB,fi_binit,is_binit,kcB⟩
 have CBk:nA l.prog w K mg base "Book" 9 [] (uM CB ⟨CPrice,CCome,CGo,CLeast,CMost,CDeal,CFee⟩):=⟨CB,g_binit,_,_,_,m_Book,MkB,ma lT,.nil,GBI⟩
 have CBk0:nA l.prog w K mg base "Book" 9 [.non] (uM CB ⟨CPrice,CCome,CGo,CLeast,CMost,CDeal,CFee⟩):=⟨CB,g_binit,_,_,_,m_Book,MkB,mn lT,.cons rfl .nil,GBI⟩
 have OT:∀u∈words,vN l.prog w K mg base ((⟨CPrice,CCome,CGo,CLeast,CMost,CDeal,CFee⟩:Cs).of u) "told" 2 (qQ ((⟨CPrice,CCome,CGo,CLeast,CMost,CDeal,CFee⟩:Cs).of u) u):=ar (by rw[rf];exact yE RPrice b_told (xE F_told RPrice (nB F_wPrice) b_wPrice)) (by rw[pW];exact yE RCome b_told (xE F_told RCome (mY F_wCome) b_wCome)) (by rw[fq];exact yE RGo b_told (xE F_told RGo (eD F_wGo) b_wGo)) (by rw[rE];exact yE RLeast b_told (xE F_told RLeast (nO F_wLeast) b_wLeast)) (by rw[oi];exact yE RMost b_told (xE F_told RMost (mT F_wMost) b_wMost)) (by rw[og];exact yE RDeal b_told (xE F_told RDeal (jH F_wDeal) b_wDeal)) (by rw[km];exact yE RFee b_told (xE F_told RFee (hJ F_wFee) b_wFee))
 have MR:vN l.prog w K mg base CB "rules" 3 (vT CB ⟨CPrice,CCome,CGo,CLeast,CMost,CDeal,CFee⟩):=⟨g_brules,_,_,cB,⟨fi_brules,is_brules,F_brules.kp⟩,b_brules,me F_brules cB noB b_brules OT⟩
 have CB:=mv (P:=l.prog) (w:=w) (base:=base) F__law_begin m__law_begin b__law_begin
 have CD:Cal l.prog w K mg base "_law_take" 1 wO:=kQ m__law_take F__law_take.kp b__law_take (il F__law_take)
 have CCo:=oY F__law_coins m__law_coins b__law_coins CD
 have CW:=nk F__law_worth m__law_worth b__law_worth CD CCo
 have CRl:=mK F__law_rule m__law_rule b__law_rule nb CD CW
 have CWT:=nz (P:=l.prog) (w:=w) (base:=base) F_worth_text m_worth_text b_worth_text nb
 have CRT:=oZ F_rule_text m_rule_text b_rule_text nb CWT
 have CIR:=ph m_is_rule F_is_rule.kp b_is_rule G_rule
 have CNG:=mP (P:=l.prog) (w:=w) (base:=base) F_is_number_text m_is_number_text b_is_number_text nb s_FIGURES
 have CNV:=jQ F_number_by m_number_by b_number_by nb CNG
 have CWB:=jM F_worth_by m_worth_by b_worth_by nb CNV
 have CRB:=lF F_rule_by m_rule_by b_rule_by nb CNV CWB CIR
 have CSh:=ju F_show_book m_show_book b_show_book nb CRT MR
 have CRd:=mF F_read_book m_read_book b_read_book nb CRB CBk
 have CTx:=lW (P:=l.prog) (w:=w) (base:=base) F__law_text m__law_text b__law_text nb
 exact du F_law nb (gE (P:=l.prog) (w:=w) (base:=base) F__law_cell_at nb) m__law_cell_at F__law_cell_at.kp b__law_cell_at CB CD CRl CTx CSh CRd CBk MR m_Book ⟨cB,haB,hnB,htB,hmB⟩ kBB
theorem walk {l:PySem.W.OpenLaw}{q:Program}{loose:List Str}{XP:(Str→Option Value)→Heap→Prop}{YP:World→Heap→Prop}{d:DefRec}{K:Params→PySem.W.Frag}(hn:l.most=some 63)(hdf:d.params.defaults=[])
  (hY:∀(w:World) (h:Heap),YP w h→(K w.params).In h)
  (F:∀(w:World) (mg:Str→Option Value) (fa:Addr) (h:Heap),(K w.params).In h→h.Ns mainGlobals mg→mg d.name=some (.ref fa)→
   ∃fd:FuncData,(∀(s:Shared) (u:Value),BindsTo s fd ⟨[u],[]⟩ [("_law_script",u)])∧∀base:Heap,(K w.params).In base→base.Ns mainGlobals mg→zv l.prog w (K w.params) mg base CX0 12 fa fd ["_law_script"] (vW (K w.params))):
  PySem.W.WalkO q loose XP YP l.row.toRowW d [] (fun f vs=>PySem.call f vs):=
 L2.iT (n:=63) (k:=12) (x:="_law_script") (CX:=fun _=>CX0) (sp:=fun w=>vW (K w.params)) hn (by decide) hdf ⟨rfl,by decide,by decide,rfl⟩ hY F (fun _ _ a ns hl hO hS=>⟨a,ns,rfl,hV hO hS,hl,trivial,fun _=>rfl⟩) fun _ _ _ _ _ z=>z
end K23
def PySem.W.Fast.tw12634226749773282989 :Nat:=0
def PySem.W.Fast.tw15548779750643209333 :Nat:=0
def PySem.W.Fast.tw17050127074731892358 :Nat:=0
def PySem.W.Fast.tw18334443993266066887 :Nat:=0
def PySem.W.Fast.tw7537200403053446581 :Nat:=0
def PySem.W.Fast.tw15284593462856649942 :Nat:=0
def PySem.W.Fast.tw14946795686735125036 :Nat:=0
def PySem.W.Fast.tw16191205953744480488 :Nat:=0
def PySem.W.Fast.tw2134833277250242173 :Nat:=0
def PySem.W.Fast.tw14489494801839687694 :Nat:=0
def PySem.W.Fast.tw13576154502875944035 :Nat:=0
def PySem.W.Fast.tw15511775464569618652 :Nat:=0
def PySem.W.Fast.tw8758735374380962220 :Nat:=0
def PySem.W.Fast.tw4911079721664166898 :Nat:=0
def PySem.W.Fast.tw11014337261953836440 :Nat:=0
def PySem.W.Fast.tw3959832037336063615 :Nat:=0
def PySem.W.Fast.tw295259972391690015 :Nat:=0
def PySem.W.Fast.tw2797411617656920932 :Nat:=0
def PySem.W.Fast.tw445435433188389249 :Nat:=0
def PySem.W.Fast.tw4434498125459693606 :Nat:=0
def PySem.W.Fast.tw1987256125131413730 :Nat:=0
def PySem.W.Fast.tw15612562418025485213 :Nat:=0
def PySem.W.Fast.tw2321629245793475896 :Nat:=0
def PySem.W.Fast.tw9131310100356804995 :Nat:=0
def PySem.W.Fast.tw9444517825733168494 :Nat:=0
def PySem.W.Fast.tw11331450369150541228 :Nat:=0
def PySem.W.Fast.tw13653816787114782863 :Nat:=0
def PySem.W.Fast.tw8587952707396918525 :Nat:=0
def PySem.W.Fast.tw13958753447866547559 :Nat:=0
def PySem.W.Fast.tw11775396565116904241 :Nat:=0
def PySem.W.Fast.tw7496552531737008021 :Nat:=0
def PySem.W.Fast.tw10669394401691016812 :Nat:=0
def PySem.W.Fast.tw11196785172154429068 :Nat:=0
def PySem.W.Fast.tw13469487294796408381 :Nat:=0
def PySem.W.Fast.tw155583305140356353 :Nat:=0
def PySem.W.Fast.tw13292990532930636113 :Nat:=0
def PySem.W.Fast.tw8097652841131446433 :Nat:=0
def PySem.W.Fast.tw13163890294618585362 :Nat:=0
def PySem.W.Fast.tw9750165925041955974 :Nat:=0
def PySem.W.Fast.tw2438263958903957076 :Nat:=0
def PySem.W.Fast.tw16231521859192743783 :Nat:=0
def PySem.W.Fast.tw16887959593078611971 :Nat:=0
def PySem.W.Fast.tw15443789887647612923 :Nat:=0
def PySem.W.Fast.tw1217436927764673440 :Nat:=0
def PySem.W.Fast.tw5695105655389517066 :Nat:=0
def PySem.W.Fast.tw4168396270700135166 :Nat:=0
def PySem.W.Fast.tw14794821107949451660 :Nat:=0
def PySem.W.Fast.tw9518680505122169001 :Nat:=0
def PySem.W.Fast.tw3148800202627380084 :Nat:=0
def PySem.W.Fast.tw9883551245380605263 :Nat:=0
def PySem.W.Fast.tw17371821407006568018 :Nat:=0
def PySem.W.Fast.tw8164223001002775860 :Nat:=0
def PySem.W.Fast.tw12238843280107518949 :Nat:=0
def PySem.W.Fast.tw11457102194274785816 :Nat:=0
def PySem.W.Fast.tw6386172993033756435 :Nat:=0
def PySem.W.Fast.tw9947005583750261697 :Nat:=0
def PySem.W.Fast.tw10811123692772867745 :Nat:=0
def PySem.W.Fast.tw891162023147294973 :Nat:=0
def PySem.W.Fast.tw7371867618305346402 :Nat:=0
def PySem.W.Fast.tw11722438337918036478 :Nat:=0
def PySem.W.Fast.tw36120419934611064 :Nat:=0
def PySem.W.Fast.tw98110298570751191 :Nat:=0
def PySem.W.Fast.tw12090588159071910576 :Nat:=0
def PySem.W.Fast.tw897008360163909420 :Nat:=0
def PySem.W.Fast.tw15202835624101294576 :Nat:=0
def PySem.W.Fast.tw3613326621234191925 :Nat:=0
def PySem.W.Fast.tw1650145410729443862 :Nat:=0
def PySem.W.Fast.tw6418424645165882031 :Nat:=0
def PySem.W.Fast.tw7905966434167197918 :Nat:=0
def PySem.W.Fast.tw3039165818984873246 :Nat:=0
def PySem.W.Fast.tw3854325396998104061 :Nat:=0
def PySem.W.Fast.tw3266622967942792663 :Nat:=0
def PySem.W.Fast.tw15180521690745358949 :Nat:=0
def PySem.W.Fast.tw86551250069876902 :Nat:=0
def PySem.W.Fast.tw6843524877320116184 :Nat:=0
def PySem.W.Fast.tw18207347829055722472 :Nat:=0
def PySem.W.Fast.tw15185614152650342143 :Nat:=0
def PySem.W.Fast.tw11174505753677699474 :Nat:=0
def PySem.W.Fast.tw3875014847383105969 :Nat:=0
def PySem.W.Fast.tw16113477820133793524 :Nat:=0
def PySem.W.Fast.tw678145152750737884 :Nat:=0
def PySem.W.Fast.tw607169377689134542 :Nat:=0
def PySem.W.Fast.tw13972034912952470523 :Nat:=0
def PySem.W.Fast.tw13161495026212878642 :Nat:=0
def PySem.W.Fast.tw9181364479222634949 :Nat:=0
def PySem.W.Fast.tw9711418009312217917 :Nat:=0
def PySem.W.Fast.tw9093733748013135817 :Nat:=0
def PySem.W.Fast.tw15560134383305923719 :Nat:=0
def PySem.W.Fast.tw10482867572513524769 :Nat:=0
def PySem.W.Fast.tw3814266914453887929 :Nat:=0
def PySem.W.Fast.tw17269290101541647769 :Nat:=0
def PySem.W.Fast.tw5389810387409017380 :Nat:=0
def PySem.W.Fast.tw5018464294872837665 :Nat:=0
def PySem.W.Fast.tw13184775721288864189 :Nat:=0
def PySem.W.Fast.tw16635543860478819267 :Nat:=0
def PySem.W.Fast.tw2006687248056069616 :Nat:=0
def PySem.W.Fast.tw17847003897777613624 :Nat:=0
def PySem.W.Fast.tw5809625850748110712 :Nat:=0
def PySem.W.Fast.tw8649155628874857457 :Nat:=0
def PySem.W.Fast.tw841092296317283975 :Nat:=0
def PySem.W.Fast.tw15315944624609744257 :Nat:=0
def PySem.W.Fast.tw5520067461397103697 :Nat:=0
def PySem.W.Fast.tw9594452245632109012 :Nat:=0
def PySem.W.Fast.tw2608188528732710493 :Nat:=0
def PySem.W.Fast.tw14974055181182730268 :Nat:=0
def PySem.W.Fast.tw11578745755163239616 :Nat:=0
def PySem.W.Fast.tw13812449721227798019 :Nat:=0
def PySem.W.Fast.tw8205628727272008783 :Nat:=0
def PySem.W.Fast.tw14806281560901439720 :Nat:=0
def PySem.W.Fast.tw16558162012982620058 :Nat:=0
def PySem.W.Fast.tw1157406851845013150 :Nat:=0
def PySem.W.Fast.tw2354182206961020649 :Nat:=0
def PySem.W.Fast.tw17162952879991895966 :Nat:=0
def PySem.W.Fast.tw294053774227621431 :Nat:=0
def PySem.W.Fast.tw2120632591019557073 :Nat:=0
def PySem.W.Fast.tw6440277097029577821 :Nat:=0
def PySem.W.Fast.tw15447479843668076976 :Nat:=0
def PySem.W.Fast.tw17463869053475955763 :Nat:=0
def PySem.W.Fast.tw12034632403724564979 :Nat:=0
def PySem.W.Fast.tw12580986925896801015 :Nat:=0
def PySem.W.Fast.tw14933782439900039767 :Nat:=0
def PySem.W.Fast.tw12381909260770113522 :Nat:=0
def PySem.W.Fast.tw7055607133585910742 :Nat:=0
def PySem.W.Fast.tw12738708662190381657 :Nat:=0
def PySem.W.Fast.tw375228344072775506 :Nat:=0
def PySem.W.Fast.tw18194939869824820260 :Nat:=0
def PySem.W.Fast.tw14469471457709389588 :Nat:=0
def PySem.W.Fast.tw9933938587896333586 :Nat:=0
def PySem.W.Fast.tw18232079620544122213 :Nat:=0
def PySem.W.Fast.tw7583639290078653683 :Nat:=0
def PySem.W.Fast.tw11331517529408080530 :Nat:=0
def PySem.W.Fast.tw7391081651193292056 :Nat:=0
def PySem.W.Fast.tw5414694157901648020 :Nat:=0
def PySem.W.Fast.tw15524000451613755319 :Nat:=0
def PySem.W.Fast.tw12526360601842090616 :Nat:=0
def PySem.W.Fast.tw14740484918783956515 :Nat:=0
def PySem.W.Fast.tw7245447876501587759 :Nat:=0
def PySem.W.Fast.tw14377446988834100078 :Nat:=0
def PySem.W.Fast.tw1798423201259194901 :Nat:=0
def PySem.W.Fast.tw15005869798562063525 :Nat:=0
def PySem.W.Fast.tw6640362351839744649 :Nat:=0
def PySem.W.Fast.tw6456670468514716892 :Nat:=0
def PySem.W.Fast.tw5489190317796848842 :Nat:=0
def PySem.W.Fast.tw17249463429350529660 :Nat:=0
def PySem.W.Fast.tw1816154676094337154 :Nat:=0
def PySem.W.Fast.tw13295558806708166114 :Nat:=0
def PySem.W.Fast.tw12785165015036322884 :Nat:=0
def PySem.W.Fast.tw13494065359370586463 :Nat:=0
def PySem.W.Fast.tw14548537054865876357 :Nat:=0
def PySem.W.Fast.tw5858917724903891192 :Nat:=0
def PySem.W.Fast.tw11570406139129220630 :Nat:=0
def PySem.W.Fast.tw14769820544690187833 :Nat:=0
def PySem.W.Fast.tw14119479843858972157 :Nat:=0
def PySem.W.Fast.tw933091791808738935 :Nat:=0
def PySem.W.Fast.tw14731712834834509237 :Nat:=0
def PySem.W.Fast.tw6301101780993547466 :Nat:=0
def PySem.W.Fast.tw10528266490748240888 :Nat:=0
def PySem.W.Fast.tw16533445569502291991 :Nat:=0
def PySem.W.Fast.tw12228663836578732043 :Nat:=0
def PySem.W.Fast.tw10732027394313420148 :Nat:=0
def PySem.W.Fast.tw6610239010728315797 :Nat:=0
def PySem.W.Fast.tw13321806186333144118 :Nat:=0
def PySem.W.Fast.tw7895503570340110529 :Nat:=0
def PySem.W.Fast.tw15499337652470824098 :Nat:=0
def PySem.W.Fast.tw17184714743753908734 :Nat:=0
def PySem.W.Fast.tw4268842090085224770 :Nat:=0
def PySem.W.Fast.tw5081940736845045649 :Nat:=0
def PySem.W.Fast.tw6710782645822390003 :Nat:=0
def PySem.W.Fast.tw8794332686341119109 :Nat:=0
def PySem.W.Fast.tw9055300241537372638 :Nat:=0
def PySem.W.Fast.tw1925427385358786018 :Nat:=0
def PySem.W.Fast.tw7848594242122135553 :Nat:=0
def PySem.W.Fast.tw14052208717168715572 :Nat:=0
def PySem.W.Fast.tw2604790531342210610 :Nat:=0
def PySem.W.Fast.tw16494070180700984441 :Nat:=0
def PySem.W.Fast.tw14810366995518501204 :Nat:=0
def PySem.W.Fast.tw2783277845319656588 :Nat:=0
def PySem.W.Fast.tw9602877695531567242 :Nat:=0
def PySem.W.Fast.tw14087460930843227896 :Nat:=0
def PySem.W.Fast.tw11783875405262936993 :Nat:=0
def PySem.W.Fast.tw1070240743839651267 :Nat:=0
def PySem.W.Fast.tw5167994613598123199 :Nat:=0
def PySem.W.Fast.tw10009932102634149663 :Nat:=0
def PySem.W.Fast.tw10857416459034756932 :Nat:=0
def PySem.W.Fast.tw4434959779002725335 :Nat:=0
def PySem.W.Fast.tw6655898531605957546 :Nat:=0
def PySem.W.Fast.tw18432136411849986183 :Nat:=0
def PySem.W.Fast.tw14926192401626645202 :Nat:=0
def PySem.W.Fast.tw4244497949902697584 :Nat:=0
def PySem.W.Fast.tw481093114769475459 :Nat:=0
def PySem.W.Fast.tw9727423667629079067 :Nat:=0
def PySem.W.Fast.tw2760045526193111570 :Nat:=0
def PySem.W.Fast.tw142418446389344359 :Nat:=0
def PySem.W.Fast.tw9742163175420095349 :Nat:=0
def PySem.W.Fast.tw3293157722401371274 :Nat:=0
def PySem.W.Fast.tw12646132371463681243 :Nat:=0
def PySem.W.Fast.tw9927162052624736976 :Nat:=0
def PySem.W.Fast.tw10784273205079225371 :Nat:=0
def PySem.W.Fast.tw1367027876040983533 :Nat:=0
def PySem.W.Fast.tw1442083142127017986 :Nat:=0
def PySem.W.Fast.tw8770181010941283574 :Nat:=0
def PySem.W.Fast.tw17732709650382256356 :Nat:=0
def PySem.W.Fast.tw9691048827646269861 :Nat:=0
def PySem.W.Fast.tw5420401370432184323 :Nat:=0
def PySem.W.Fast.tw7486816080746892313 :Nat:=0
open PySem PySem.W PyProof.Rows
set_option maxRecDepth 100000 in
set_option maxHeartbeats 0 in
theorem PySem.Challenge.cw_stayprice_k23_books_as_texts_holds : PySem.Challenge.rw_stayprice_k23_books_as_texts.Holds := by
 w_on;o_law;k_head;(case hw=>w_witness2)
 k_fill
 refine K23.walk (l:=PySem.Challenge.rw_stayprice_k23_books_as_texts) rfl rfl (fun w h Y=>PySem.W.kIn_of Y) ?hF
 case hF=>
  intro w mg fa h KX G hmg
  refine' K23.all_mk KX G hmg (K23.mkG ?_ ?_ ?_ ?_) (K23.mkG ?_ ?_ ?_ ?_) (K23.mkG ?_ ?_ ?_ ?_) (K23.mkG ?_ ?_ ?_ ?_) (K23.mkG ?_ ?_ ?_ ?_) (K23.mkG ?_ ?_ ?_ ?_) (K23.mkG ?_ ?_ ?_ ?_) (K23.mkG ?_ ?_ ?_ ?_) (K23.mkG ?_ ?_ ?_ ?_) (K23.mkG ?_ ?_ ?_ ?_) (K23.mkG ?_ ?_ ?_ ?_) (K23.mkG ?_ ?_ ?_ ?_) (K23.mkG ?_ ?_ ?_ ?_) (K23.mkG ?_ ?_ ?_ ?_) (K23.mkG ?_ ?_ ?_ ?_) (K23.mkG ?_ ?_ ?_ ?_) (K23.mkG ?_ ?_ ?_ ?_) (K23.mkG ?_ ?_ ?_ ?_) (K23.mkG ?_ ?_ ?_ ?_) (K23.mkG ?_ ?_ ?_ ?_) (K23.mkG ?_ ?_ ?_ ?_) (K23.mkG ?_ ?_ ?_ ?_) (K23.mkG ?_ ?_ ?_ ?_) (K23.mkG ?_ ?_ ?_ ?_) (K23.mkG ?_ ?_ ?_ ?_) (K23.mkG ?_ ?_ ?_ ?_) (K23.mkG ?_ ?_ ?_ ?_) (K23.mkG ?_ ?_ ?_ ?_) ?_ ?_ ?_ ?_ ?_ ?_ ?_ ?_ ?_ ?_ ?_ (K23.mkR ?_ ?_ ?_ ?_ ?_ ?_ ?_ ?_ ?_ ?_ ?_ ?_ ?_ ?_ ?_ ?_ ?_ ?_ ?_ ?_) (K23.mkR ?_ ?_ ?_ ?_ ?_ ?_ ?_ ?_ ?_ ?_ ?_ ?_ ?_ ?_ ?_ ?_ ?_ ?_ ?_ ?_) (K23.mkR ?_ ?_ ?_ ?_ ?_ ?_ ?_ ?_ ?_ ?_ ?_ ?_ ?_ ?_ ?_ ?_ ?_ ?_ ?_ ?_) (K23.mkR ?_ ?_ ?_ ?_ ?_ ?_ ?_ ?_ ?_ ?_ ?_ ?_ ?_ ?_ ?_ ?_ ?_ ?_ ?_ ?_) (K23.mkR ?_ ?_ ?_ ?_ ?_ ?_ ?_ ?_ ?_ ?_ ?_ ?_ ?_ ?_ ?_ ?_ ?_ ?_ ?_ ?_) (K23.mkR ?_ ?_ ?_ ?_ ?_ ?_ ?_ ?_ ?_ ?_ ?_ ?_ ?_ ?_ ?_ ?_ ?_ ?_ ?_ ?_) (K23.mkR ?_ ?_ ?_ ?_ ?_ ?_ ?_ ?_ ?_ ?_ ?_ ?_ ?_ ?_ ?_ ?_ ?_ ?_ ?_ ?_) (K23.mkF ?_ ?_ ?_) (K23.mkF ?_ ?_ ?_) (K23.mkF ?_ ?_ ?_) (K23.mkF ?_ ?_ ?_) (K23.mkF ?_ ?_ ?_) (K23.mkF ?_ ?_ ?_) (K23.mkF ?_ ?_ ?_) (K23.mkF ?_ ?_ ?_) (K23.mkF ?_ ?_ ?_) ?_ ?_ ?_ ?_ ?_ ?_ ?_ ?_ ?_ (K23.mkF ?_ ?_ ?_) ?_ ?_ ?_ ?_ ?_ ?_ ?_ ?_ ?_ ?_ ?_ ?_ ?_ ?_ ?_ ?_ ?_ ?_ ?_ ?_ ?_ ?_ ?_ ?_ ?_ ?_ ?_ ?_ ?_ ?_ ?_ ?_ ?_ ?_ ?_ ?_
  all_goals try (show _=_;first|k_is|kernel_rfl)
