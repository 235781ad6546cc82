import PyProof.Rows.All
import Wide.All
import OpenK.AllK
import Wide.FinOn
import Lean
import PyProof.EqAt
import PyProof.EqKinds
import PyProof.TupleCall
import PyProof.AttrMissHeap
import PyProof.DictRoadsH
import KE.KDictOf
import PyProof.P3In
import PyProof.StrLoop
import PyProof.StrWalks
import PyProof.StrCalls2
import KE.KIntText
import PyProof.IsRules
import PyProof.ZipIter
import PyProof.TupleIter
import PyProof.WalksMore
import PyProof.StrBlockH
import PyProof.SliceStr2
import PyProof.StrOps2
import PySem.Challenge.RW_stayprice_k22_texts_of_no_rule
set_option Elab.async false
set_option linter.all false
set_option maxRecDepth 100000
def dh := @_root_.decide_eq_false
def di := @_root_.decide_eq_true
def dm := @_root_.List.mem_cons
def dn := @_root_.List.size_toArray
def dq := @_root_.Nat.le_trans
def dr := @_root_.Bool.false_ne_true
def du := @_root_.Nat.le_of_ble_eq_true
def dy := @_root_.List.not_mem_nil
def dA := @_root_.List.mem_cons_of_mem
def dB := @_root_.List.length_map
def dC := @_root_.Nat.le_refl
def dD := @_root_.PySem.Heap.lt_size
def dE := @_root_.List.mem_cons_self
def dF := @_root_.PySem.Heap.get?_push_of_some
def dG := @_root_.Bool.and_eq_true
def dH := @_root_.PySem.W.mg_none_of
def dI := @_root_.decide_eq_true_eq
def dJ := @_root_.List.length_cons
def dM := @_root_.Option.some.inj
def dN := @_root_.List.mem_append_right
def dO := @_root_.Nat.lt_of_lt_of_le
def dP := @_root_.List.getElem?_eq_some_iff
def dQ := @_root_.Nat.zero_le
def dR := @_root_.PySem.StrLaws.glued_eq_join
def dS := @_root_.PySem.wpAny_bind
def dU := @_root_.List.map_cons
def dW := @_root_.Option.map_eq_some_iff
def dX := @_root_.List.getElem?_eq_getElem
def dY := @_root_.Bool.eq_false_iff
def dZ := @_root_.PySem.Heap.get?_push_size
def cb := @_root_.or_false
def cc := @_root_.List.getElem?_map
def cf := @_root_.List.mem_singleton
def cg := @_root_.Nat.ne_of_lt
def cj := @_root_.PySem.wpAny_truthy_bool
def ck := @_root_.decide_eq_false_iff_not
def cm := @_root_.List.length_set
def cn := @_root_.PySem.wpAny_mono
def cp := @_root_.PySem.W.kia_one
def cq := @_root_.PySem.wpAny_pure
def cu := @_root_.PySem.mem_of_lookup
def cv := @_root_.List.mem_append
def cx := @_root_.PySem.strLen_append
def cy := @_root_.List.getElem?_set_ne
def cz := @_root_.List.getElem?_set_self
def cA := @_root_.Bool.true_and
def cB := @_root_.List.all_eq_true
def cC := @_root_.Bool.false_and
def cD := @_root_.Nat.le_of_lt
def cE := @_root_.PySem.wpAny_holding
def cF := @_root_.List.cons.inj
def cG := @_root_.List.getElem?_replicate
def cH := @_root_.List.lookup_cons
def cI := @_root_.List.find?_cons
def cJ := @_root_.List.mem_append_left
def cK := @_root_.Array.mem_toList_iff
def cL := @_root_.List.drop_eq_getElem_cons
def cM := @_root_.Nat.lt_irrefl
def cN := @_root_.List.length_append
def cO := @_root_.PyProof.Rows.boot_isinstance
def cP := @_root_.Bool.or_eq_true
def cQ := @_root_.PySem.F.slot_str_split
def cR := @_root_.Bool.or_eq_false_iff
def cS := @_root_.PySem.W.mg_of
def cT := @_root_.beq_eq_false_iff_ne
def cU := @_root_.PySem.wpAny_passesOwn
def cV := @_root_.List.getElem?_append_left
def cW := @_root_.Bool.false_eq_true
def cX := @_root_.PySem.F.args_str_split_2
def cY := @_root_.Int.emod_lt_of_pos
def cZ := @_root_.PySem.call_meets
def ba := @_root_.PySem.wpAny_is_plain
def bb := @_root_.PySem.F.plainAttrs_list
def bf := @_root_.Int.eq_ofNat_of_zero_le
def bh := @_root_.PySem.F.entry_str_split
def bj := @_root_.PySem.wpAny_pyNext_list_item
def bo := @_root_.List.sum_cons
def bp := @_root_.List.length_take
def bq := @_root_.List.drop_length
def br := @_root_.Bool.eq_iff_iff
def bt := @_root_.List.nodup_cons
def bu := @_root_.List.mem_of_getElem?
def bw := @_root_.PySem.typeIs_str
def bx := @_root_.Int.emod_nonneg
def bz := @_root_.PySem.intText_digits
def bA := @_root_.List.filterMap_cons
def bB := @_root_.Array.length_toList
def bE := @_root_.ne_true_of_eq_false
def bF := @_root_.Array.toList_append
def bG := @_root_.PySem.boot_len
def bH := @_root_.List.mem_filterMap
def bJ := @_root_.Array.all_eq_true'
def bK := @_root_.List.all_cons
def bL := @_root_.List.any_cons
def bM := @_root_.Bool.false_or
def bN := @_root_.Bool.and_true
namespace L2
open PySem PySem.Spec PyProof.Rows
abbrev Key :=Sum Int Str
def uE :Key→Value→Bool
 |.inl k,v=>Value.isInt k v
 |.inr x,v=>Value.isStrOf x v
def eM (w:World):Key→Int
 |.inl k=>hashInt k
 |.inr x=>hashStr w x
theorem zJ :∀{k:Key} {v:Value},uE k v=true→(∃i t,k=Sum.inl i∧v=Value.int i t)∨(∃x t,k=Sum.inr x∧v=Value.str x t)
 |.inl i,v,h=>by
  obtain⟨t,e⟩:=Value.isInt_shape (k:=i) (v:=v) h
  exact .inl ⟨i,t,rfl,e⟩
 |.inr x,v,h=>by
  obtain⟨t,e⟩:=Value.isStrOf_shape (x:=x) (v:=v) h
  exact .inr ⟨x,t,rfl,e⟩
theorem pQ (i:Int)(t:Tok):uE (.inl i) (.int i t)=true:=by simp[uE,Value.isInt]
theorem pN (x:Str)(t:Tok):uE (.inr x) (.str x t)=true:=by simp[uE,Value.isStrOf]
theorem iC (a b:Int):decide ((Sum.inl a:Key)=Sum.inl b)=(a == b):=by
 by_cases e:a=b
 ·subst e;simp
 ·have h:¬(Sum.inl a:Key)=Sum.inl b:=fun q=>e (Sum.inl.inj q)
  rw[dh h]
  exact (cT.mpr e).symm
theorem gc (a b:Str):decide ((Sum.inr a:Key)=Sum.inr b)=decide (a=b):=by
 by_cases e:a=b
 ·subst e;simp
 ·have h:¬(Sum.inr a:Key)=Sum.inr b:=fun q=>e (Sum.inr.inj q)
  rw[dh h,dh e]
theorem gb (a:Int)(b:Str):decide ((Sum.inl a:Key)=Sum.inr b)=false:=dh (fun q=>nomatch q)
theorem iY (a:Str)(b:Int):decide ((Sum.inr a:Key)=Sum.inl b)=false:=dh (fun q=>nomatch q)
def yw (prog:Program)(w:World):PySem.KeyKind prog w Key where
 is:=uE
 hash:=eM w
 inj:=fun v a b ha hb=>by
  rcases zJ ha with ⟨i,t,rfl,rfl⟩|⟨x,t,rfl,rfl⟩
  ·rcases zJ hb with ⟨j,u,rfl,e⟩|⟨y,u,rfl,e⟩
   ·injection e with e1 _;rw[e1]
   ·exact nomatch e
  ·rcases zJ hb with ⟨j,u,rfl,e⟩|⟨y,u,rfl,e⟩
   ·exact nomatch e
   ·injection e with e1 _;rw[e1]
 byValue:=fun k v h=>by
  rcases zJ h with ⟨i,t,rfl,rfl⟩|⟨x,t,rfl,rfl⟩<;>rfl
 pyHash:=fun hv h=>by
  rcases zJ hv with ⟨i,t,rfl,rfl⟩|⟨x,t,rfl,rfl⟩
  ·exact wpAny_pyHash_int h
  ·exact wpAny_pyHash_str h
 eqBool:=fun hu hv h=>by
  rcases zJ hu with ⟨i,t,rfl,rfl⟩|⟨x,t,rfl,rfl⟩
  ·rcases zJ hv with ⟨j,u,rfl,rfl⟩|⟨y,u,rfl,rfl⟩
   ·rw[iC] at h;exact wpAny_eqBool_int h
   ·rw[gb] at h;exact SeqAt.EqAt.int_str i t y u _ _ _ _ h
  ·rcases zJ hv with ⟨j,u,rfl,rfl⟩|⟨y,u,rfl,rfl⟩
   ·rw[iY] at h;exact SeqAt.EqAt.str_int x t j u _ _ _ _ h
   ·rw[gc] at h;exact wpAny_eqBool_str h
 «strs»:=fun k x t v h=>by
  rcases zJ h with ⟨i,u,rfl,e⟩|⟨y,u,rfl,e⟩
  ·exact nomatch e
  ·injection e with e1 _
   subst e1
   cases v<;>rfl
theorem rq (prog:Program)(w:World)(i:Int)(t:Tok):(yw prog w).is (.inl i) (.int i t)=true:=pQ i t
theorem rJ (prog:Program)(w:World)(x:Str)(t:Tok):(yw prog w).is (.inr x) (.str x t)=true:=pN x t
inductive V where
 |non|bl (b:Bool)|int (i:Int)|str (x:Str)|byt (b:Array UInt8)|flt (b:UInt64)|ref (a:Addr)|ty (n:String)
 deriving DecidableEq
def RelV :V→Value→Prop
 |.non,u=>u=Value.none
 |.bl b,u=>u=Value.bool b
 |.int i,u=>∃t,u=Value.int i t
 |.str x,u=>∃t,u=Value.str x t
 |.byt b,u=>∃t,u=Value.bytes b t
 |.flt b,u=>∃t,u=Value.float b t
 |.ref a,u=>u=Value.ref a
 |.ty n,u=>u=Value.type n
abbrev Vals :List V→List Value→Prop:=Paired RelV
theorem Vals.length {xs:List V}{us:List Value}(r:Vals xs us):xs.length=us.length:=Paired.length r
theorem Vals.get :∀{xs:List V} {us:List Value} {i:Nat} {x:V},Vals xs us→xs[i]?=some x→∃u,us[i]?=some u∧RelV x u
 |_,_,_,_,.nil,e=>by simp at e
 |_,_,0,_,.cons r _,e=>by simp at e;subst e;exact⟨_,rfl,r⟩
 |_,_,i+1,x,.cons _ t,e=>by
  obtain⟨u,h1,h2⟩:=Vals.get (i:=i) (x:=x) t (by simpa using e)
  exact⟨u,by simpa using h1,h2⟩
theorem Vals.set {x:V}{u:Value}(r:RelV x u):∀{xs:List V} {us:List Value} (i:Nat),Vals xs us→Vals (xs.set i x) (us.set i u)
 |_,_,_,.nil=>.nil
 |_,_,0,.cons _ t=>.cons r t
 |_,_,i+1,.cons q t=>.cons q (Vals.set r i t)
theorem Vals.append :∀{xs ys:List V} {us ws:List Value},Vals xs us→Vals ys ws→Vals (xs++ys) (us++ws)
 |_,_,_,_,.nil,s=>s
 |_,_,_,_,.cons r t,s=>.cons r (Vals.append t s)
theorem Vals.take :∀{xs:List V} {us:List Value} (n:Nat),Vals xs us→Vals (xs.take n) (us.take n)
 |_,_,0,_=>.nil
 |_,_,_+1,.nil=>.nil
 |_,_,n+1,.cons r t=>.cons r (Vals.take n t)
theorem Vals.drop :∀{xs:List V} {us:List Value} (n:Nat),Vals xs us→Vals (xs.drop n) (us.drop n)
 |_,_,0,r=>r
 |_,_,_+1,.nil=>.nil
 |_,_,n+1,.cons _ t=>Vals.drop n t
def uw :Option V→Option Value→Prop
 |some v,some u=>RelV v u
 |none,none=>True
 |_,_=>False
def KV {κ:Type}:List (κ×V)→List (κ×Value)→Prop:=Paired fun (p:κ×V) (q:κ×Value)=>p.1=q.1∧RelV p.2 q.2
def kV :Key→V
 |.inl i=>.int i
 |.inr x=>.str x
inductive HO where
  |lst (xs:List V)
  |tup (xs:List V)
  |dK (kvs:List (Key×V))|dT (kvs:List (List Key×V))
  |set (S:Int→Bool) (n:Nat)
  |ins (C dx:Addr) (fs:List (Str×V))
  |own (x:Addr)
  |xd (fs:List (Str×V))
  |met (f x:Addr)
  |rng (lo hi:Int)
  |frz (o:Obj) (u:HO)
  |tbl (ps:Array Value)
  |ext (φ:Heap→Prop)
abbrev Hp :=Addr→Option HO
def upd (H:Hp)(a:Addr)(o:HO):Hp:=fun b=>if b=a then some o else H b
theorem zr {H:Hp}{a:Addr}{o:HO}:upd H a o a=some o:=by unfold upd;rw[if_pos rfl]
theorem zk {H:Hp}{a b:Addr}{o:HO}(h:b≠a):upd H a o b=H b:=by unfold upd;rw[if_neg h]
theorem zq {H:Hp}{a b:Addr}{o:HO}(h:H a=some o)(h':H b=none):a≠b:=by
 intro e;subst e;rw[h] at h';cases h'
section
variable (P:Program)(w:World)
def yc (H:Hp)(h:Heap)(a:Addr):HO→Prop
 |.lst xs=>xs.length≤sizeLine∧∃(its:List Value) (n:Nat),Vals xs its∧h.get? a=some {cls:=.type "list",data:=.seq its.toArray n}
 |.tup xs=>xs.length≤sizeLine∧∃its:List Value,Vals xs its∧IsTup h a its.toArray
 |.dK kvs=>kvs.length≤sizeLine∧(a == sysModules)=false∧∃vs,KV kvs vs∧h.DictOf (yw P w) a vs
 |.dT kvs=>kvs.length≤sizeLine∧(a == sysModules)=false∧∃xs:List (List Key×Addr×Value),
   Paired (fun (p:List Key×V) (q:List Key×Addr×Value)=>p.1=q.1∧H q.2.1=some (.tup (p.1.map kV))∧RelV p.2 q.2.2) kvs xs∧
   ∃o es ep,h.get? a=some o∧o.ExactDict∧o.data=.dict es ep∧es.toList=xs.map (entryOfKey (tupleKind (yw P w)))∧(xs.map (·.1)).Nodup
 |.set S n=>h.SetOf (intKind P w) a S n
 |.ins C dx fs=>H dx=some (.own a)∧fs.length≤1000∧dx≠a∧h.get? a=some (PySem.W.instObj C dx)∧
   ∃mA,h.Ns1 dx mA∧(∀f,uw (fs.lookup f) (mA f))∧PySem.Within mA (fs.map (·.1))
 |.own _=>∃o,h.get? a=some o
 |.xd fs=>∃mA,h.Ns1 a mA∧∀f,uw (fs.lookup f) (mA f)
 |.rng lo hi=>∃t u v,h.get? a=some {cls:=.type "range",data:=.fields #[.int lo t,.int hi u,.int 1 v]}
 |.frz o u=>h.get? a=some o∧yc H h a u
 |.tbl ps=>h.get? a=some {cls:=.none,data:=.fields ps}
 |.met f x=>h.get? a=some (PySem.W.methodObj (.ref f) (.ref x))
 |.ext φ=>φ h∧(∃o,h.get? a=some o)∧∀h1 h2:Heap,φ h1→(∀o,h1.get? a=some o→h2.get? a=some o)→φ h2
def HOk (H:Hp)(h:Heap):Prop:=∀a o,H a=some o→yc P w H h a o
end
section
variable {P:Program}{w:World}{H H':Hp}{h h':Heap}{a:Addr}{o:HO}
theorem yc.lt (x:yc P w H h a o):a<h.objs.size:=by
 cases o with
 |lst xs=>obtain⟨_,_,_,_,e⟩:=x;exact dD e
 |tup xs=>obtain⟨_,_,_,p⟩:=x;exact p.lt
 |dK kvs=>obtain⟨_,_,_,_,o,_,_,e,_⟩:=x;exact dD e
 |dT kvs=>obtain⟨_,_,_,_,o,_,_,e,_⟩:=x;exact dD e
 |set S n=>obtain⟨o,_,_,_,e,_⟩:=x;exact dD e
 |ins C dx fs=>obtain⟨_,_,_,e,_⟩:=x;exact dD e
 |own y=>obtain⟨_,e⟩:=x;exact dD e
 |xd fs=>obtain⟨_,⟨_,_,_,e,_⟩,_⟩:=x;exact dD e
 |rng lo hi=>obtain⟨_,_,_,e⟩:=x;exact dD e
 |frz ob u=>obtain⟨e,_⟩:=x;exact dD e
 |tbl ps=>exact dD (show h.get? a=some _ from x)
 |met f y=>exact dD (show h.get? a=some _ from x)
 |ext φ=>obtain⟨_,⟨_,e⟩,_⟩:=x;exact dD e
theorem Paired.mapP {α β:Type}{F G:α→β→Prop}:∀{l₁:List α} {l₂:List β},Paired F l₁ l₂→(∀a b,F a b→G a b)→Paired G l₁ l₂
 |_,_,.nil,_=>.nil
 |_,_,.cons r t,f=>.cons (f _ _ r) (Paired.mapP t f)
theorem yc.stay (x:yc P w H h a o)(k:∀b u,(b=a∨H b=some (.own a))→h.get? b=some u→h'.get? b=some u)
  (ho:∀b,H b=some (.own a)→H' b=some (.own a)) (ht:∀b xs,H b=some (.tup xs)→H' b=some (.tup xs)):yc P w H' h' a o:=by
 induction o with
 |lst xs=>obtain⟨z,its,n,r,e⟩:=x;exact⟨z,its,n,r,k _ _ (.inl rfl) e⟩
 |tup xs=>obtain⟨z,its,r,ob,e,c⟩:=x;exact⟨z,its,r,ob,k _ _ (.inl rfl) e,c⟩
 |dK kvs=>obtain⟨z,y,vs,r,ob,es,ep,e,c⟩:=x;exact⟨z,y,vs,r,ob,es,ep,k _ _ (.inl rfl) e,c⟩
 |dT kvs=>
  obtain⟨z,y,xs,r,ob,es,ep,e,c⟩:=x
  exact⟨z,y,xs,Paired.mapP r fun p q z=>⟨z.1,ht _ _ z.2.1,z.2.2⟩,ob,es,ep,k _ _ (.inl rfl) e,c⟩
 |set S n=>obtain⟨ob,es,ep,t,e,c⟩:=x;exact⟨ob,es,ep,t,k _ _ (.inl rfl) e,c⟩
 |ins C dx fs=>
  obtain⟨d,z,ne,e,mA,⟨od,es,ep,e2,c⟩,r⟩:=x
  exact⟨ho _ d,z,ne,k _ _ (.inl rfl) e,mA,⟨od,es,ep,k _ _ (.inr d) e2,c⟩,r⟩
 |own y=>obtain⟨ob,e⟩:=x;exact⟨ob,k _ _ (.inl rfl) e⟩
 |xd fs=>obtain⟨mA,⟨od,es,ep,e,c⟩,r⟩:=x;exact⟨mA,⟨od,es,ep,k _ _ (.inl rfl) e,c⟩,r⟩
 |rng lo hi=>obtain⟨t,u,v,e⟩:=x;exact⟨t,u,v,k _ _ (.inl rfl) e⟩
 |frz ob u ih=>obtain⟨e,q⟩:=x;exact⟨k _ _ (.inl rfl) e,ih q⟩
 |tbl ps=>
  have e:h.get? a=some {cls:=.none,data:=.fields ps}:=x
  show h'.get? a=some {cls:=.none,data:=.fields ps}
  exact k a _ (.inl rfl) e
 |met f y=>
  have e:h.get? a=some (PySem.W.methodObj (.ref f) (.ref y)):=x
  show h'.get? a=some (PySem.W.methodObj (.ref f) (.ref y))
  exact k a _ (.inl rfl) e
 |ext φ=>obtain⟨p,⟨o,e⟩,st⟩:=x;exact⟨st _ _ p fun o q=>k _ _ (.inl rfl) q,⟨o,k _ _ (.inl rfl) e⟩,st⟩
theorem HOk.lt (x:HOk P w H h)(e:H a=some o):a<h.objs.size:=(x a o e).lt
theorem HOk.fresh (x:HOk P w H h)(e:h.objs.size≤a):H a=none:=by
 cases q:H a with
 |none=>rfl
 |some u=>exact absurd (dO (x.lt q) e) (cM _)
theorem HOk.kept (x:HOk P w H h)(k:∀b u,h.get? b=some u→h'.get? b=some u):HOk P w H h':=fun a o e=>
 (x a o e).stay (fun b u _ q=>k b u q) (fun _ q=>q) fun _ _ q=>q
theorem HOk.laid (x:HOk P w H h)(k:∀b u,h.get? b=some u→h'.get? b=some u)(hp:h.objs.size≤a)(new:yc P w (upd H a o) h' a o):HOk P w (upd H a o) h':=fun b u e=>by
 have hn:=x.fresh hp
 by_cases hb:b=a
 ·subst hb;rw[zr] at e;cases e;exact new
 ·rw[zk hb] at e
  exact (x b u e).stay (fun c v _ q=>k c v q) (fun c q=>by rw[zk (zq q hn)];exact q) fun c xs q=>by rw[zk (zq q hn)];exact q
end
def Rd (H:Hp)(a:Addr)(u:HO):Prop:=H a=some u∨∃o,H a=some (.frz o u)
theorem Rd.ok {P:Program}{w:World}{H:Hp}{h:Heap}{a:Addr}{u:HO}(r:Rd H a u)(x:HOk P w H h):yc P w H h a u:=by
 rcases r with r|⟨o,r⟩
 ·exact x a u r
 ·obtain⟨_,q⟩:=x a _ r
  exact q
def Mut :Option HO→Prop
 |some (.lst _)=>True
 |some (.dK _)=>True
 |some (.dT _)=>True
 |some (.set _ _)=>True
 |some (.ins _ _ _)=>True
 |some (.ext _)=>True
 |_=>False
section
variable {P:Program}{w:World}{H:Hp}{h h':Heap}{x e:Addr}{o':HO}
theorem HOk.write (ok:HOk P w H h)(mu:Mut (H x))(he:e=x∨H e=some (.own x))(k:∀b u,b≠e→h.get? b=some u→h'.get? b=some u)(heo:∃u,h'.get? e=some u)
  (new:yc P w (upd H x o') h' x o'):HOk P w (upd H x o') h':=fun b u q=>by
 have nown:∀c y,H c=some (.own y)→c≠x:=fun c y r z=>by subst z;rw[r] at mu;exact mu
 have ntup:∀c xs,H c=some (.tup xs)→c≠x:=fun c xs r z=>by subst z;rw[r] at mu;exact mu
 by_cases hb:b=x
 ·subst hb;rw[zr] at q;cases q;exact new
 ·rw[zk hb] at q
  by_cases hbe:b=e
  ·have q':H b=some (.own x):=by
    rcases he with z|z
    ·exact absurd (hbe.trans z) hb
    ·rw[hbe];exact z
   rw[q] at q';cases q'
   obtain⟨v,hv⟩:=heo
   exact⟨v,by rw[hbe];exact hv⟩
  ·refine (ok b u q).stay (fun c v hc r=>k c v ?_ r) (fun c r=>by rw[zk (nown c b r)];exact r) fun c xs r=>by rw[zk (ntup c xs r)];exact r
   rcases hc with rfl|hc
   ·exact hbe
   ·rintro rfl
    rcases he with z|z
    ·exact nown c b hc z
    ·rw[hc] at z;cases z;exact hb rfl
end
structure Un (fs ex:List Addr)(H H':Hp)(h h':Heap):Prop where
 keep:∀b o,h.get? b=some o→H b=none→b∉fs→b∉ex→h'.get? b=some o
 slot:∀b o,h.get? b=some o→H b=none→b∈fs→b∉ex→∃sl,h'.get? b=some {o with slots:=sl}
 free:∀b o,h.get? b=some o→H b=none→b∉ex→H' b=none
 there:∀b o,h.get? b=some o→b∉ex→∃o',h'.get? b=some o'
 tups:∀b xs,H b=some (.tup xs)→H' b=some (.tup xs)
 frzs:∀b o u,H b=some (.frz o u)→H' b=some (.frz o u)
 tbls:∀b ps,H b=some (.tbl ps)→∃more,H' b=some (.tbl (ps++more))
section
variable {fs fs' ex ex':List Addr}{H H1 H2:Hp}{h h1 h2 h':Heap}{a x e:Addr}{o:HO}
theorem Un.any (u:Un fs ex H H1 h h1){b:Addr}{ob:Obj}(q:h.get? b=some ob)(n:H b=none)(hx:b∉ex):∃sl,h1.get? b=some {ob with slots:=sl}:=by
 by_cases hb:b∈fs
 ·exact u.slot b ob q n hb hx
 ·exact⟨ob.slots,u.keep b ob q n hb hx⟩
theorem Un.kept (k:∀b u,h.get? b=some u→h'.get? b=some u):Un fs ex H H h h':=
 ⟨fun b ob q _ _ _=>k b ob q,fun b ob q _ _ _=>⟨ob.slots,k b ob q⟩,fun _ _ _ n _=>n,fun b ob q _=>⟨ob,k b ob q⟩,fun _ _ q=>q,fun _ _ _ q=>q,fun _ ps q=>⟨#[],by rw[q];simp⟩⟩
theorem Un.refl :Un fs ex H H h h:=Un.kept fun _ _ q=>q
theorem Un.laid (k:∀b u,h.get? b=some u→h'.get? b=some u)(hp:h.objs.size≤a)(hn:H a=none):Un fs ex H (upd H a o) h h' where
 keep:=fun b u q _ _ _=>k b u q
 slot:=fun b u q _ _ _=>⟨u.slots,k b u q⟩
 free:=fun b u q n _=>by rw[zk (cg (dO (dD q) hp))];exact n
 there:=fun b u q _=>⟨u,k b u q⟩
 tups:=fun b xs q=>by rw[zk (zq q hn)];exact q
 frzs:=fun b u xs q=>by rw[zk (zq q hn)];exact q
 tbls:=fun b ps q=>⟨#[],by rw[zk (zq q hn),q];simp⟩
theorem Un.write (mu:Mut (H x))(he:e=x∨H e=some (.own x))(k:∀b u,b≠e→h.get? b=some u→h'.get? b=some u)(heo:∃u,h'.get? e=some u):Un fs ex H (upd H x o) h h':=by
 have hx:∀b,H b=none→b≠x:=fun b n z=>by subst z;rw[n] at mu;exact mu
 have hb:∀b,H b=none→b≠e:=fun b n z=>by
  subst z
  rcases he with r|r
  ·exact hx b n r
  ·rw[n] at r;cases r
 have hm:∀b u,H b=some u→¬Mut (some u)→b≠x:=fun b u q nm z=>by subst z;rw[q] at mu;exact nm mu
 refine⟨fun b u q n _ _=>k b u (hb b n) q,fun b u q n _ _=>⟨u.slots,k b u (hb b n) q⟩,fun b u q n _=>by rw[zk (hx b n)];exact n,fun b u q _=>?_,
  fun b xs q=>by rw[zk (hm b _ q fun z=>z)];exact q,fun b u xs q=>by rw[zk (hm b _ q fun z=>z)];exact q,fun b ps q=>⟨#[],by rw[zk (hm b _ q fun z=>z),q];simp⟩⟩
 by_cases hbe:b=e
 ·subst hbe;exact heo
 ·exact⟨u,k b u hbe q⟩
end
def trk (h:Heap)(H:Hp):List Addr:=(List.range h.objs.size).filter fun a=>(H a).isSome
def tw (h:Heap)(H:Hp):Heap:=PySem.W.hideAll h (trk h H)
theorem oh (h:Heap)(H:Hp):(tw h H).objs.size=h.objs.size:=PySem.W.hideAll_size _ _
theorem mh {h:Heap}{H:Hp}{b:Addr}{o:Obj}(e:h.get? b=some o)(n:H b=none):(tw h H).get? b=some o:=
 PySem.W.hideAll_get _ e fun hm=>by
  have q:(H b).isSome=true:=(List.mem_filter.mp hm).2
  rw[n] at q;simp at q
theorem kO {h:Heap}{H:Hp}{b:Addr}{o:Obj}(e:(tw h H).get? b=some o):h.get? b=some o∧H b=none:=by
 have e':h.get? b=some o:=PySem.W.of_hideAll (trk h H) e
 refine⟨e',?_⟩
 cases q:H b with
 |none=>rfl
 |some x=>
  have hm:b∈trk h H:=List.mem_filter.mpr ⟨List.mem_range.mpr (dD e'),by simp[q]⟩
  have z:(tw h H).get? b=none:=PySem.W.hideAll_none (trk h H) hm
  rw[z] at e;cases e
structure Mod (K:PySem.W.Frag)(mg:Str→Option Value)(base:Heap):Prop where
 kin:K.In base
 glob:base.Ns mainGlobals mg
 blt:∃mb,base.Ns builtinsNs mb∧∀x:Str,x≠"__name__"→mb x=bootBuiltins x
 nolimit:base.NoLimit
structure Cx where
 prog:Program
 w:World
 K:PySem.W.Frag
 mg:Str→Option Value
 base:Heap
 A:Around
 N:List Str
 s₀:Shared
 H₀:Hp
 env:Env
 outer:List Env
 stack:List Env
 ex:List Addr
 fn:Str→Bool
 calm:Bool
 pn:List (Addr×Obj)
 xe:Value→Shared→Prop
def frs (l:List Env):List Addr:=l.filterMap (·.frame)
abbrev Cx.fs (X:Cx):List Addr:=frs X.outer
def Vis (sc:Scope)(x:Str):Prop:=sc.names.lookup x=some .local∨sc.names.lookup x=some .cell∨sc.names.lookup x=some .free
def Loc (sc:Scope)(x:Str):Prop:=sc.names.lookup x=some .local∨sc.names.lookup x=some .cell
def Look (env:Env)(h:Heap)(m:Str→Option Value)(x:Str)(u:Value):Prop:=
 (env.kindOf x=some .local∧m x=some u)∨((env.kindOf x=some .cell∨env.kindOf x=some .free)∧∃c,env.cells.lookup x=some c∧h.IsCell c (some u))
structure Cx.Ok (X:Cx):Prop where
 mod:Mod X.K X.mg X.base
 kind:X.env.scope.kind=.function
 glob:X.env.globals=mainGlobals
 blt:X.env.builtins=builtinsNs
 above:X.s₀.heap.objs.size≤X.env.locals
 inj:∀x y c,X.env.cells.lookup x=some c→X.env.cells.lookup y=some c→x=y
 has:∀x,(X.env.kindOf x=some .cell∨X.env.kindOf x=some .free)→∃c,X.env.cells.lookup x=some c
 cab:∀x c,X.fn x=true→X.env.cells.lookup x=some c→X.s₀.heap.objs.size≤c
 hd:X.calm=true→X.A.handled=none
 frames:X.A.frames=some X.stack
 stk:X.stack=X.outer∨(X.stack=X.env::X.outer∧X.env.frame=some X.env.locals)
 exf:∀b∈X.ex,b≠X.env.locals∧∀x c,X.env.cells.lookup x=some c→c≠b
 bs:∀b o,X.base.get? b=some o→X.s₀.heap.get? b=some o∧X.H₀ b=none
 bsz:X.base.objs.size≤X.s₀.heap.objs.size
 noex:∀b o,X.base.get? b=some o→b∉X.ex
 exfs:∀b∈X.ex,b∉X.fs
 funs:X.s₀.heap.FunFrames X.base X.outer
 frf:∀b∈X.fs,X.H₀ b=none
structure Inv (X:Cx)(pins:List (Addr×Obj))(σ:List (Option V))(H:Hp)(s:Shared):Prop where
 ok:X.Ok
 os:s.os=X.s₀.os
 bare:AllBare s.gens
 base:Un X.fs X.ex X.H₀ H X.s₀.heap s.heap
 loc:∃m,s.heap.Ns X.env.locals m∧∀(i:Nat) (x:Str) (v:V),X.N[i]?=some x→σ[i]?=some (some v)→Vis X.env.scope x→∃u,RelV v u∧Look X.env s.heap m x u
 cell:∀x c,X.env.cells.lookup x=some c→∃v,s.heap.IsCell c v
 free:H X.env.locals=none
 freeC:∀x c,X.env.cells.lookup x=some c→H c=none
 pin:∀p∈X.pn++pins,s.heap.get? p.1=some p.2∧H p.1=none∧p.1≠X.env.locals∧p.1∉X.fs∧∀v,p.2.data≠.cell v
 hok:HOk X.prog X.w H s.heap
 len:σ.length=X.N.length
section
variable {X:Cx}{pins:List (Addr×Obj)}{σ:List (Option V)}{H H':Hp}{s:Shared}{h':Heap}
theorem Cx.Ok.nofr (ok:X.Ok){b:Addr}{o:Obj}(e:X.base.get? b=some o):b∉X.fs:=fun hb=>by
 have:=(ok.funs.mem hb).1
 rw[e] at this;cases this
theorem Inv.bs (I:Inv X pins σ H s):∀b o,X.base.get? b=some o→s.heap.get? b=some o∧H b=none:=fun b o e=>
 ⟨I.base.keep b o (I.ok.bs b o e).1 (I.ok.bs b o e).2 (I.ok.nofr e) (I.ok.noex b o e),I.base.free b o (I.ok.bs b o e).1 (I.ok.bs b o e).2 (I.ok.noex b o e)⟩
theorem Inv.bk (I:Inv X pins σ H s):∀b o,X.base.get? b=some o→s.heap.get? b=some o:=fun b o e=>(I.bs b o e).1
theorem Inv.mod (I:Inv X pins σ H s):Mod X.K X.mg X.base:=I.ok.mod
theorem Inv.kIn (I:Inv X pins σ H s):X.K.In s.heap:=I.ok.mod.kin.keeps I.bk
theorem Inv.lt (I:Inv X pins σ H s):X.env.locals<s.heap.objs.size:=let ⟨_,hn,_⟩:=I.loc;hn.lt
theorem Inv.sz (I:Inv X pins σ H s):X.s₀.heap.objs.size≤s.heap.objs.size:=dq I.ok.above (cD I.lt)
theorem Inv.nofs (I:Inv X pins σ H s){a:Addr}(h:s.heap.objs.size≤a):a∉X.fs:=fun hb=>by
 obtain⟨_,o,ho,_⟩:=I.ok.funs.mem hb
 exact absurd (dO (dD ho) (dq I.sz h)) (cM _)
theorem Inv.cne (I:Inv X pins σ H s):∀x c,X.env.cells.lookup x=some c→c≠X.env.locals:=fun x c e z=>by
 obtain⟨v,o,ho,hd⟩:=I.cell x c e
 obtain⟨m,⟨o',es,ep,ho',hd',_⟩,_⟩:=I.loc
 rw[z,ho'] at ho;cases ho;rw[hd'] at hd;cases hd
theorem Inv.funs (I:Inv X pins σ H s):s.heap.FunFrames X.base X.outer:=by
 have all:∀(l:List Env),(∀b∈frs l,b∈X.fs)→X.s₀.heap.FunFrames X.base l→s.heap.FunFrames X.base l:=by
  intro l
  induction l with
  |nil=>intro _ _;trivial
  |cons env r ih=>
   intro hs hl
   obtain⟨hk,⟨L,o,hf,hn,ho,hd⟩,hr⟩:=hl
   have hL:L∈X.fs:=hs L (by unfold frs;rw[bA,hf];exact dE)
   obtain⟨sl,e⟩:=I.base.slot L o ho (I.ok.frf L hL) hL fun z=>I.ok.exfs L z hL
   exact⟨hk,⟨L,_,hf,hn,e,hd⟩,ih (fun b hb=>hs b (by unfold frs;rw[bA,hf];exact dA _ hb)) hr⟩
 exact all X.outer (fun _ hb=>hb) I.ok.funs
theorem Inv.stack (I:Inv X pins σ H s):s.heap.FunFrames X.base X.stack:=by
 rcases I.ok.stk with e|⟨e,hf⟩
 ·rw[e];exact I.funs
 ·rw[e]
  obtain⟨m,hn,_⟩:=I.loc
  refine .cons (by rw[I.ok.kind];decide) hf hn ?_ I.funs
  exact Heap.get?_none_of_le (dq I.ok.bsz I.ok.above)
theorem Inv.stkSub (I:Inv X pins σ H s):∀b∈frs X.stack,b∈X.env.locals::X.fs:=fun b hb=>by
 rcases I.ok.stk with e|⟨e,hf⟩
 ·rw[e] at hb;exact dA _ hb
 ·rw[e] at hb
  unfold frs at hb
  rw[bA,hf] at hb
  exact hb
theorem Inv.stkFree (I:Inv X pins σ H s):∀b∈frs X.stack,H b=none:=fun b hb=>by
 rcases dm.mp (I.stkSub b hb) with e|hb
 ·rw[e];exact I.free
 ·obtain⟨_,o,ho,_⟩:=I.ok.funs.mem hb
  exact I.base.free b o ho (I.ok.frf b hb) fun z=>I.ok.exfs b z hb
theorem Inv.step {g':Array GenState}{t':Nat}{d':Drawn}{ch:List Addr}(I:Inv X pins σ H s)
  (hch:∀b∈ch,(b∈X.ex∨X.s₀.heap.objs.size≤b)∧b≠X.env.locals∧(∀x c,X.env.cells.lookup x=some c→c≠b)∧∀p∈X.pn++pins,p.1≠b)
  (keep:∀b o,b≠X.env.locals→b∉X.fs→b∉ch→s.heap.get? b=some o→H b=none→h'.get? b=some o)
  (slot:∀b o,b≠X.env.locals→b∈X.fs→b∉ch→s.heap.get? b=some o→H b=none→∃sl,h'.get? b=some {o with slots:=sl}) (free:∀b o,b∉ch→s.heap.get? b=some o→H b=none→H' b=none)
  (there:∀b o,b∉ch→s.heap.get? b=some o→∃o',h'.get? b=some o')
  (tups:∀b xs,H b=some (.tup xs)→H' b=some (.tup xs)) (frzs:∀b o u,H b=some (.frz o u)→H' b=some (.frz o u)) (tbls:∀b ps,H b=some (.tbl ps)→∃more,H' b=some (.tbl (ps++more)))
  (ns:∀m,s.heap.Ns X.env.locals m→h'.Ns X.env.locals m) (hok:HOk X.prog X.w H' h') (hg:AllBare g'):
  Inv X pins σ H' {s with heap:=h',gens:=g',drawn:=d',toks:=t'}:=by
 have neL:∀b o,X.s₀.heap.get? b=some o→b≠X.env.locals:=fun b o e=>cg (dO (dD e) I.ok.above)
 have neC:∀b o,X.s₀.heap.get? b=some o→b∉X.ex→b∉ch:=fun b o e hx hb=>by
  rcases (hch b hb).1 with z|z
  ·exact hx z
  ·exact absurd (dO (dD e) z) (cM _)
 have cellK:∀x c,X.env.cells.lookup x=some c→∀v,s.heap.IsCell c v→h'.IsCell c v:=fun x c e v ⟨o,ho,hd⟩=>by
  have nch:c∉ch:=fun z=>(hch c z).2.2.1 x c e rfl
  by_cases hc:c∈X.fs
  ·obtain⟨sl,q⟩:=slot c o (I.cne x c e) hc nch ho (I.freeC x c e)
   exact⟨_,q,hd⟩
  ·exact⟨o,keep c o (I.cne x c e) hc nch ho (I.freeC x c e),hd⟩
 refine⟨I.ok,I.os,hg,⟨fun b o e n hb hx=>?_,fun b o e n hb hx=>?_,fun b o e n hx=>?_,fun b o e hx=>?_,fun b xs e=>tups b xs (I.base.tups b xs e),fun b o xs e=>frzs b o xs (I.base.frzs b o xs e),fun b ps e=>?_⟩,?_,fun x c e=>?_,?_,fun x c e=>?_,fun p hp=>?_,hok,I.len⟩
 ·exact keep b o (neL b o e) hb (neC b o e hx) (I.base.keep b o e n hb hx) (I.base.free b o e n hx)
 ·obtain⟨sl,e1⟩:=I.base.slot b o e n hb hx
  obtain⟨sl',e2⟩:=slot b _ (neL b o e) hb (neC b o e hx) e1 (I.base.free b o e n hx)
  exact⟨sl',e2⟩
 ·obtain⟨o',e1⟩:=I.base.there b o e hx
  exact free b o' (neC b o e hx) e1 (I.base.free b o e n hx)
 ·obtain⟨o',e1⟩:=I.base.there b o e hx
  exact there b o' (neC b o e hx) e1
 ·obtain⟨m1,e1⟩:=I.base.tbls b ps e
  obtain⟨m2,e2⟩:=tbls b _ e1
  exact⟨m1++m2,by rw[e2,Array.append_assoc]⟩
 ·obtain⟨m,hn,hl⟩:=I.loc
  refine⟨m,ns m hn,fun i x v e1 e2 e3=>?_⟩
  obtain⟨u,r,l⟩:=hl i x v e1 e2 e3
  refine⟨u,r,?_⟩
  rcases l with l|⟨k,c,e,z⟩
  ·exact .inl l
  ·exact .inr ⟨k,c,e,cellK x c e _ z⟩
 ·obtain⟨v,z⟩:=I.cell x c e
  exact⟨v,cellK x c e v z⟩
 ·obtain⟨m,⟨o,_,_,ho,_⟩,_⟩:=I.loc
  exact free _ o (fun z=>(hch _ z).2.1 rfl) ho I.free
 ·obtain⟨v,o,ho,hd⟩:=I.cell x c e
  exact free c o (fun z=>(hch c z).2.2.1 x c e rfl) ho (I.freeC x c e)
 ·obtain⟨e,n,ne,nf,d⟩:=I.pin p hp
  have nch:p.1∉ch:=fun z=>(hch p.1 z).2.2.2 p hp rfl
  exact⟨keep p.1 p.2 ne nf nch e n,free p.1 p.2 nch e n,ne,nf,d⟩
theorem Inv.un {t':Nat}(I:Inv X pins σ H s)(u:Un X.fs [] H H' s.heap h')(hok:HOk X.prog X.w H' h'):Inv X pins σ H' {s with heap:=h',toks:=t'}:=by
 obtain⟨m,⟨o,es,ep,ho,r⟩,_⟩:=id I.loc
 obtain⟨sl,hL⟩:=u.any ho I.free (by simp)
 exact I.step (g':=s.gens) (d':=s.drawn) (ch:=[]) (fun _ z=>nomatch z) (fun b o _ hb _ e n=>u.keep b o e n hb (by simp)) (fun b o _ hb _ e n=>u.slot b o e n hb (by simp)) (fun b o _ e n=>u.free b o e n (by simp)) (fun b o _ e=>u.there b o e (by simp)) u.tups u.frzs u.tbls (fun m' hm=>by
  obtain⟨o',es',ep',ho',r'⟩:=hm
  rw[ho] at ho';cases ho'
  exact⟨_,es',ep',hL,r'⟩) hok I.bare
theorem Inv.call {g':Array GenState}{t':Nat}{d':Drawn}{ch:List Addr}(I:Inv X pins σ H s)(u:Un (frs X.stack) ch H H' s.heap h')(hok:HOk X.prog X.w H' h')(hg:AllBare g')
  (hch:∀b∈ch,(b∈X.ex∨X.s₀.heap.objs.size≤b)∧b≠X.env.locals∧(∀x c,X.env.cells.lookup x=some c→c≠b)∧∀p∈X.pn++pins,p.1≠b):
  Inv X pins σ H' {s with heap:=h',gens:=g',drawn:=d',toks:=t'}:=by
 obtain⟨m,⟨o,es,ep,ho,r⟩,_⟩:=id I.loc
 obtain⟨sl,hL⟩:=u.any ho I.free fun z=>(hch _ z).2.1 rfl
 exact I.step (ch:=ch) hch (fun b o hL hb hc e n=>u.keep b o e n (fun z=>(dm.mp (I.stkSub b z)).elim hL hb) hc) (fun b o _ _ hc e n=>u.any e n hc) (fun b o hc e n=>u.free b o e n hc) (fun b o hc e=>u.there b o e hc) u.tups u.frzs u.tbls (fun m' hm=>by
  obtain⟨o',es',ep',ho',r'⟩:=hm
  rw[ho] at ho';cases ho'
  exact⟨_,es',ep',hL,r'⟩) hok hg
theorem Inv.turned {t':Nat}{it:Addr}(I:Inv X pins σ H s)(k:∀b o,b≠it→s.heap.get? b=some o→h'.get? b=some o)(hn:H it=none)(hL:it≠X.env.locals)
  (h1:it∈X.ex∨X.s₀.heap.objs.size≤it) (h2:∀x c,X.env.cells.lookup x=some c→c≠it) (h3:∀p∈X.pn++pins,p.1≠it):Inv X pins σ H {s with heap:=h',toks:=t'}:=by
 have nit:∀b u,H b=some u→b≠it:=fun b u e z=>by rw[z,hn] at e;cases e
 refine I.step (g':=s.gens) (d':=s.drawn) (ch:=[it]) (fun b hb=>?_) (fun b o _ _ hc e _=>k b o (fun z=>hc (by simp[z])) e) (fun b o _ _ hc e _=>⟨o.slots,k b o (fun z=>hc (by simp[z])) e⟩) (fun _ _ _ _ n=>n)
  (fun b o hc e=>⟨o,k b o (fun z=>hc (by simp[z])) e⟩) (fun _ _ e=>e) (fun _ _ _ e=>e) (fun b ps e=>⟨#[],by rw[e];simp⟩) (fun m hm=>?_) (fun b u e=>?_) I.bare
 ·have e:b=it:=by simpa using hb
  subst e
  exact⟨h1,hL,h2,h3⟩
 ·obtain⟨o,es,ep,ho,r⟩:=hm
  exact⟨o,es,ep,k _ o (Ne.symm hL) ho,r⟩
 ·refine (I.hok b u e).stay (fun c v hc q=>k c v ?_ q) (fun _ q=>q) fun _ _ q=>q
  rcases hc with z|z
  ·rw[z];exact nit b u e
  ·exact nit c _ z
theorem Inv.tok (I:Inv X pins σ H s)(t:Nat):Inv X pins σ H {s with toks:=t}:=I.un (h':=s.heap) (t':=t) Un.refl I.hok
theorem Inv.kept {t':Nat}(I:Inv X pins σ H s)(k:∀b u,s.heap.get? b=some u→h'.get? b=some u):Inv X pins σ H {s with heap:=h',toks:=t'}:=I.un (Un.kept k) (I.hok.kept k)
theorem Inv.laid {a:Addr}{o:HO}{t':Nat}(I:Inv X pins σ H s)(k:∀b u,s.heap.get? b=some u→h'.get? b=some u)(hp:s.heap.objs.size≤a)(new:yc X.prog X.w (upd H a o) h' a o):
  Inv X pins σ (upd H a o) {s with heap:=h',toks:=t'}:=I.un (Un.laid k hp (I.hok.fresh hp)) (I.hok.laid k hp new)
theorem Inv.write {x e:Addr}{o:HO}{t':Nat}(I:Inv X pins σ H s)(mu:Mut (H x))(he:e=x∨H e=some (.own x))(k:∀b u,b≠e→s.heap.get? b=some u→h'.get? b=some u)(heo:∃u,h'.get? e=some u)
  (new:yc X.prog X.w (upd H x o) h' x o):Inv X pins σ (upd H x o) {s with heap:=h',toks:=t'}:=I.un (Un.write mu he k heo) (I.hok.write mu he k heo new)
theorem Inv.pins_of {pins':List (Addr×Obj)}(I:Inv X pins σ H s)(h:∀p∈pins',s.heap.get? p.1=some p.2∧H p.1=none∧p.1≠X.env.locals∧p.1∉X.fs∧∀v,p.2.data≠.cell v):Inv X pins' σ H s:=
 ⟨I.ok,I.os,I.bare,I.base,I.loc,I.cell,I.free,I.freeC,fun p hp=>(cv.mp hp).elim (fun z=>I.pin p (cJ _ z)) (h p),I.hok,I.len⟩
theorem rn {N:List Str}(hN:N.Nodup){i j:Nat}{x:Str}(a:N[i]?=some x)(b:N[j]?=some x):i=j:=by
 obtain⟨h1,e1⟩:=dP.mp a
 obtain⟨h2,e2⟩:=dP.mp b
 exact (List.getElem_inj hN).mp (e1.trans e2.symm)
theorem uX {M:Model}{A:Around}{E:Value→Shared→Prop}{i:Nat}{x:Str}{v:V}{u:Value}{Q:Unit→Shared→Prop}(I:Inv X pins σ H s)(hN:X.N.Nodup)(hi:X.N[i]?=some x)(hx:Loc X.env.scope x)(r:RelV v u)
  (h:∀s',Inv X pins (σ.set i (some v)) H s'→(∃a,Heap.SameBut a s.heap s'.heap∧(a=X.env.locals∨X.env.cells.lookup x=some a))→Q () s') (hf:X.fn x=true∨X.env.scope.names.lookup x=some .local:=by first|exact .inl rfl|exact .inr rfl|assumption):wpAny M A (storeName X.env x u) Q E s:=by
 obtain⟨m,hn,hl⟩:=id I.loc
 have hcls:(X.env.scope.kind == .class||(X.env.scope.kind == .module&&X.env.locals != X.env.globals))=false:=by rw[I.ok.kind];rfl
 have hiσ:i<σ.length:=by rw[I.len];exact (dP.mp hi).1
 have cne:=I.cne
 have tracked:∀{a:Addr} {h':Heap},(∃o,s.heap.get? a=some o∧H a=none)→Heap.SameBut a s.heap h'→HOk X.prog X.w H h':=fun {a h'} ha hs b ob e=>by
  obtain⟨_,_,hfree⟩:=ha
  refine (I.hok b ob e).stay (fun c w' hc q=>(hs.2 c ?_).trans q) (fun _ q=>q) fun _ _ q=>q
  rintro rfl
  rcases hc with rfl|hc
  ·rw[hfree] at e;cases e
  ·rw[hfree] at hc;cases hc
 rcases hx with hk|hk
 ·refine wpAny_storeName_local hk hn (fun h' hn' hs=>?_) hcls
  obtain⟨oL,_,_,hoL,_⟩:=id hn
  refine h _ ⟨I.ok,I.os,I.bare,⟨fun b o e n hb hx=>?_,fun b o e n hb hx=>?_,I.base.free,fun b o e hx=>?_,I.base.tups,I.base.frzs,I.base.tbls⟩,⟨_,hn',fun j y v' e1 e2 e3=>?_⟩,fun y c e=>?_,I.free,I.freeC,fun p hp=>?_,tracked ⟨oL,hoL,I.free⟩ hs,by simpa using I.len⟩ ⟨_,hs,.inl rfl⟩
  ·exact (hs.2 b (cg (dO (dD e) I.ok.above))).trans (I.base.keep b o e n hb hx)
  ·obtain⟨sl,e1⟩:=I.base.slot b o e n hb hx
   exact⟨sl,(hs.2 b (cg (dO (dD e) I.ok.above))).trans e1⟩
  ·obtain⟨o',e1⟩:=I.base.there b o e hx
   exact⟨o',(hs.2 b (cg (dO (dD e) I.ok.above))).trans e1⟩
  ·by_cases hj:j=i
   ·subst hj
    rw[hi] at e1;cases e1
    rw[cz hiσ] at e2
    cases e2
    exact⟨u,r,.inl ⟨hk,by simp⟩⟩
   ·rw[cy (Ne.symm hj)] at e2
    obtain⟨u',r',q⟩:=hl j y v' e1 e2 e3
    refine⟨u',r',?_⟩
    rcases q with ⟨k,e⟩|⟨k,c,e,z⟩
    ·refine .inl ⟨k,?_⟩
     have:y≠x:=fun e=>hj (rn hN e1 (e▸hi))
     simp[this,e]
    ·exact .inr ⟨k,c,e,z.sameBut hs (cne y c e)⟩
  ·obtain⟨w',z⟩:=I.cell y c e
   exact⟨w',z.sameBut hs (cne y c e)⟩
  ·obtain⟨e,n,ne,nf,d⟩:=I.pin p hp
   exact⟨(hs.2 p.1 ne).trans e,n,ne,nf,d⟩
 ·have hfn:X.fn x=true:=by
   rcases hf with z|z
   ·exact z
   ·rw[z] at hk;cases hk
  obtain⟨c,hc⟩:=I.ok.has x (.inl hk)
  obtain⟨w',z⟩:=I.cell x c hc
  refine wpAny_storeName_cell I.ok.kind hk hc z (fun h' hc' hs=>?_)
  obtain⟨oc,hoc,hocd⟩:=id z
  refine h {s with heap:=h'} ⟨I.ok,I.os,I.bare,⟨fun b o e n hb hx=>?_,fun b o e n hb hx=>?_,I.base.free,fun b o e hx=>?_,I.base.tups,I.base.frzs,I.base.tbls⟩,⟨m,hn.sameBut hs (Ne.symm (cne x c hc)),fun j y v' e1 e2 e3=>?_⟩,fun y c' e=>?_,I.free,I.freeC,fun p hp=>?_,tracked ⟨oc,hoc,I.freeC x c hc⟩ hs,by simpa using I.len⟩ ⟨c,hs,.inr hc⟩
  ·exact (hs.2 b (cg (dO (dD e) (I.ok.cab x c hfn hc)))).trans (I.base.keep b o e n hb hx)
  ·obtain⟨sl,e1⟩:=I.base.slot b o e n hb hx
   exact⟨sl,(hs.2 b (cg (dO (dD e) (I.ok.cab x c hfn hc)))).trans e1⟩
  ·obtain⟨o',e1⟩:=I.base.there b o e hx
   exact⟨o',(hs.2 b (cg (dO (dD e) (I.ok.cab x c hfn hc)))).trans e1⟩
  ·by_cases hj:j=i
   ·subst hj
    rw[hi] at e1;cases e1
    rw[cz hiσ] at e2
    cases e2
    exact⟨u,r,.inr ⟨.inl hk,c,hc,hc'⟩⟩
   ·rw[cy (Ne.symm hj)] at e2
    obtain⟨u',r',q⟩:=hl j y v' e1 e2 e3
    refine⟨u',r',?_⟩
    rcases q with q|⟨k,c',e,z'⟩
    ·exact .inl q
    ·refine .inr ⟨k,c',e,z'.sameBut hs ?_⟩
     rintro rfl
     exact hj (rn hN e1 (I.ok.inj _ _ _ e hc▸hi))
  ·by_cases hcc:c'=c
   ·subst hcc;exact⟨_,hc'⟩
   ·obtain⟨w2,z2⟩:=I.cell y c' e
    exact⟨w2,z2.sameBut hs hcc⟩
  ·obtain⟨e,n,ne,nf,d⟩:=I.pin p hp
   refine⟨(hs.2 p.1 ?_).trans e,n,ne,nf,d⟩
   intro q
   rw[q,hoc] at e
   have q':oc=p.2:=dM e
   exact d w' (by rw[←q'];exact hocd)
theorem rB {M:Model}{A:Around}{E:Value→Shared→Prop}{i:Nat}{x:Str}{v:V}{u:Value}{Q:Unit→Shared→Prop}(I:Inv X pins σ H s)(hN:X.N.Nodup)(hi:X.N[i]?=some x)(hx:Loc X.env.scope x)(r:RelV v u)
  (h:∀s',Inv X pins (σ.set i (some v)) H s'→Q () s') (hf:X.fn x=true∨X.env.scope.names.lookup x=some .local:=by first|exact .inl rfl|exact .inr rfl|assumption):wpAny M A (storeName X.env x u) Q E s:=
 uX I hN hi hx r (fun s' I' _=>h s' I') hf
theorem Inv.call' {s':Shared}{ch:List Addr}(I:Inv X pins σ H s)(ho:s'.os=s.os)(u:Un (frs X.stack) ch H H' s.heap s'.heap)(hok:HOk X.prog X.w H' s'.heap)(hg:AllBare s'.gens)
  (hch:∀b∈ch,(b∈X.ex∨X.s₀.heap.objs.size≤b)∧b≠X.env.locals∧(∀x c,X.env.cells.lookup x=some c→c≠b)∧∀p∈X.pn++pins,p.1≠b):Inv X pins σ H' s':=by
 obtain⟨h',g',d',t',o'⟩:=s'
 have e:o'=s.os:=ho
 subst e
 exact I.call (g':=g') (t':=t') (d':=d') u hok hg hch
end
abbrev XK :=Value→Option Addr→Hp→Prop
abbrev St :=List (Option V)
abbrev VK :=V→Hp→Prop
abbrev TE :=St→Hp→VK→Prop
abbrev TT :=St→Hp→(Bool→Hp→Prop)→Prop
abbrev TA :=St→Hp→(List V→Hp→Prop)→Prop
structure Ends where
 nx:St→Hp→Prop
 rt:VK
 bk:St→Hp→Prop:=fun _ _=>False
 ct:St→Hp→Prop:=fun _ _=>False
abbrev TS :=Ends→St→Hp→Prop
def EP (X:Cx)(pins:List (Addr×Obj))(σ:St)(Q:VK)(u:Value)(s':Shared):Prop:=∃v H',Inv X pins σ H' s'∧RelV v u∧Q v H'
def TP (X:Cx)(pins:List (Addr×Obj))(σ:St)(Q:Bool→Hp→Prop)(b:Bool)(s':Shared):Prop:=∃H',Inv X pins σ H' s'∧Q b H'
def AP (X:Cx)(pins:List (Addr×Obj))(σ:St)(Q:List V→Hp→Prop)(us:List Value)(s':Shared):Prop:=∃vs H',Inv X pins σ H' s'∧Vals vs us∧Q vs H'
def SP (X:Cx)(pins:List (Addr×Obj))(D:Ends)(f:Flow)(s':Shared):Prop:=
 match f with
 |.next=>∃σ' H',Inv X pins σ' H' s'∧D.nx σ' H'
 |.brk=>∃σ' H',Inv X pins σ' H' s'∧D.bk σ' H'
 |.cont=>∃σ' H',Inv X pins σ' H' s'∧D.ct σ' H'
 |.ret u=>∃v σ' H',Inv X pins σ' H' s'∧RelV v u∧D.rt v H'
def PE (X:Cx)(e:Expr)(t:TE):Prop:=
 ∀(pins:List (Addr×Obj)) (s:Shared) (σ:St) (H:Hp) (Q:VK),Inv X pins σ H s→t σ H Q→wpAny (model X.prog X.w) X.A (eval e X.env) (EP X pins σ Q) X.xe s
def PT (X:Cx)(e:Expr)(t:TT):Prop:=
 ∀(pins:List (Addr×Obj)) (s:Shared) (σ:St) (H:Hp) (Q:Bool→Hp→Prop),Inv X pins σ H s→t σ H Q→wpAny (model X.prog X.w) X.A (isTrue e X.env (eval e X.env)) (TP X pins σ Q) X.xe s
def PW (X:Cx)(e:Expr)(t:TT):Prop:=
 ∀(whole:Sem Value) (pins:List (Addr×Obj)) (s:Shared) (σ:St) (H:Hp) (Q:Bool→Hp→Prop),Inv X pins σ H s→t σ H Q→wpAny (model X.prog X.w) X.A (isTrue e X.env whole) (TP X pins σ Q) X.xe s
theorem PW.pt {X:Cx}{e:Expr}{t:TT}(h:PW X e t):PT X e t:=h _
def PA (X:Cx)(es:List Expr)(t:TA):Prop:=
 ∀(pos:Pos) (pins:List (Addr×Obj)) (s:Shared) (σ:St) (H:Hp) (Q:List V→Hp→Prop),Inv X pins σ H s→t σ H Q→wpAny (model X.prog X.w) X.A (spliced (backTo pos (starEach es X.env))) (AP X pins σ Q) X.xe s
def PS (X:Cx)(st:Stmt)(t:TS):Prop:=
 ∀(pins:List (Addr×Obj)) (s:Shared) (σ:St) (H:Hp) (D:Ends),Inv X pins σ H s→t D σ H→wpAny (model X.prog X.w) X.A (exec st X.env) (SP X pins D) X.xe s
def PSs (X:Cx)(st:List Stmt)(t:TS):Prop:=
 ∀(pins:List (Addr×Obj)) (s:Shared) (σ:St) (H:Hp) (D:Ends),Inv X pins σ H s→t D σ H→wpAny (model X.prog X.w) X.A (execs st X.env) (SP X pins D) X.xe s
theorem thn {α:Type}{t:Sem α}{Q Q':α→Shared→Prop}{M:Model}{A:Around}{E:Value→Shared→Prop}{s:Shared}(h:wpAny M A t Q E s)(hQ:∀a s,Q a s→Q' a s):wpAny M A t Q' E s:=cn h hQ fun _ _ x=>x
section
variable {X:Cx}
theorem bin {a b:Expr}{ta tb:TE}(ha:PE X a ta)(hb:PE X b tb){pins:List (Addr×Obj)}{s:Shared}{σ:St}{H:Hp}{R:V→V→Hp→Prop}(I:Inv X pins σ H s)(h:ta σ H fun x H1=>tb σ H1 fun y H2=>R x y H2)
  {α:Type} {Q:α→Shared→Prop} {f:Value→Value→Sem α}
  (hf:∀v u s2 x y H2,Inv X pins σ H2 s2→RelV x v→RelV y u→R x y H2→wpAny (model X.prog X.w) X.A (f v u) Q X.xe s2):
  wpAny (model X.prog X.w) X.A (eval a X.env) (fun v s₁=>wpAny (model X.prog X.w) X.A (eval b X.env) (fun u s₂=>wpAny (model X.prog X.w) X.A (f v u) Q X.xe s₂) X.xe s₁) X.xe s:=by
 refine thn (ha pins s σ H _ I h) fun v s1 ⟨x,H1,I1,r1,q1⟩=>?_
 refine thn (hb pins s1 σ H1 _ I1 q1) fun u s2 ⟨y,H2,I2,r2,q2⟩=>?_
 exact hf v u s2 x y H2 I2 r1 r2 q2
def mQ (i:Nat):TE:=fun σ H Q=>∃v,σ[i]?=some (some v)∧Q v H
def tC (v:V):TE:=fun _ H Q=>Q v H
theorem xo {i:Nat}{x:Str}{pos:Pos}(hN:X.N[i]?=some x)(hv:Vis X.env.scope x)(hd:(x == ("__debug__":Str))=false:=by decide)(hcd:(x == ("__classdict__":Str))=false:=by decide):PE X (.Name x pos) (mQ i):=by
 intro pins s σ H Q I h
 obtain⟨v,e,h⟩:=h
 obtain⟨m,hn,hl⟩:=I.loc
 obtain⟨u,r,l⟩:=hl i x v hN e hv
 have fin:EP X pins σ Q u s:=⟨v,H,I,r,h⟩
 rcases l with ⟨hk,hm⟩|⟨hk,c,hc,hcell⟩
 ·exact wpAny_Name (wpAny_loadName_local I.ok.kind hk hn hm fin) hd
 ·rcases hk with hk|hk
  ·exact wpAny_Name (wpAny_loadName_cell I.ok.kind hk hc hcell fin) hd
  ·exact wpAny_Name (wpAny_loadName_free I.ok.kind hk hc hcell fin hcd) hd
theorem zo {i j pos}:PE X (.Constant (.int i) j pos) (tC (.int i)):=fun _ _ _ H _ I h=>wpAny_Constant_int ⟨.int i,H,I.tok _,⟨_,rfl⟩,h⟩
theorem fL {b j pos}:PE X (.Constant (.bool b) j pos) (tC (.bl b)):=fun _ _ _ H _ I h=>Constant_bool ⟨.bl b,H,I,rfl,h⟩
theorem sk {j pos}:PE X (.Constant .none j pos) (tC .non):=fun _ _ _ H _ I h=>Constant_none ⟨.non,H,I,rfl,h⟩
theorem xK {x j pos}:PE X (.Constant (.str x) j pos) (tC (.str x)):=fun _ _ _ H _ I h=>Calls.Constant_str ⟨.str x,H,I.tok _,⟨_,rfl⟩,h⟩
def Gl (X:Cx)(x:Str):Prop:=X.env.kindOf x=some .globalImplicit
theorem pF {E:Value→Shared→Prop}{pins:List (Addr×Obj)}{s:Shared}{σ:St}{H:Hp}{x:Str}{u:Value}{pos:Pos}{Q:Value→Shared→Prop}(I:Inv X pins σ H s)(hg:Gl X x)(hm:X.mg x=some u)(h:Q u s)
  (hd:(x == ("__debug__":Str))=false:=by decide):wpAny (model X.prog X.w) X.A (eval (.Name x pos) X.env) Q E s:=
 Calls.Name_function_global I.ok.kind hg (Calls.loadGlobal_global (by rw[I.ok.glob];exact I.mod.glob.keeps I.bk) hm h) hd
theorem tF {E:Value→Shared→Prop}{pins:List (Addr×Obj)}{s:Shared}{σ:St}{H:Hp}{x:Str}{u:Value}{pos:Pos}{Q:Value→Shared→Prop}(I:Inv X pins σ H s)(hg:Gl X x)(hm:X.mg x=none)(hv:bootBuiltins x=some u)(h:Q u s)
  (hn:x≠"__name__":=by decide) (hd:(x == ("__debug__":Str))=false:=by decide):wpAny (model X.prog X.w) X.A (eval (.Name x pos) X.env) Q E s:=by
 obtain⟨mb,h1,h2⟩:=I.mod.blt
 exact Calls.Name_function_global I.ok.kind hg (Calls.loadGlobal_builtin (by rw[I.ok.glob];exact I.mod.glob.keeps I.bk) hm (by rw[I.ok.blt];exact h1.keeps I.bk) ((h2 x hn).trans hv) h) hd
theorem vd {x:Str}{v:V}{u:Value}{pos:Pos}(hg:Gl X x)(hm:X.mg x=some u)(r:RelV v u)(hd:(x == ("__debug__":Str))=false:=by decide):PE X (.Name x pos) (tC v):=
 fun _ _ _ H _ I h=>pF I hg hm ⟨v,H,I,r,h⟩ hd
theorem xY {x:Str}{v:V}{u:Value}{pos:Pos}(hg:Gl X x)(hm:X.mg x=none)(hv:bootBuiltins x=some u)(r:RelV v u)(hn:x≠"__name__":=by decide)(hd:(x == ("__debug__":Str))=false:=by decide):PE X (.Name x pos) (tC v):=
 fun _ _ _ H _ I h=>tF I hg hm hv ⟨v,H,I,r,h⟩ hn hd
variable {a b:Expr}{ta tb:TE}{pos:Pos}
variable {tA tB':TT}{rest:List Expr}
def eD (t u:TT):TT:=fun σ H Q=>t σ H fun c H1=>if c=true then u σ H1 Q else Q false H1
def tOr (t u:TT):TT:=fun σ H Q=>t σ H fun c H1=>if c=true then Q true H1 else u σ H1 Q
def de (t:TT):TT:=fun σ H Q=>t σ H fun c H1=>Q (!c) H1
theorem jt (ha:PT X a tA):PW X (.BoolOp .And [a] pos) tA:=by
 intro wh pins s σ H Q I h
 refine isTrue_and (thn (ha pins s σ H Q I h) fun c s1 e=>?_)
 cases c with
 |true=>exact isTrue_and_nil e
 |false=>exact e
theorem rZ (ha:PT X a tA):PW X (.BoolOp .Or [a] pos) tA:=by
 intro wh pins s σ H Q I h
 refine isTrue_or (thn (ha pins s σ H Q I h) fun c s1 e=>?_)
 cases c with
 |false=>exact isTrue_or_nil e
 |true=>exact e
theorem hG (ha:PT X a tA)(hb:PW X (.BoolOp .And (b::rest) pos) tB'):PW X (.BoolOp .And (a::b::rest) pos) (eD tA tB'):=by
 intro wh pins s σ H Q I h
 refine isTrue_and (thn (ha pins s σ H _ I h) fun c s1 ⟨H1,I1,q1⟩=>?_)
 cases c with
 |true=>exact hb wh pins s1 σ H1 Q I1 q1
 |false=>exact⟨H1,I1,q1⟩
theorem mK (ha:PT X a tA)(hb:PW X (.BoolOp .Or (b::rest) pos) tB'):PW X (.BoolOp .Or (a::b::rest) pos) (tOr tA tB'):=by
 intro wh pins s σ H Q I h
 refine isTrue_or (thn (ha pins s σ H _ I h) fun c s1 ⟨H1,I1,q1⟩=>?_)
 cases c with
 |true=>exact⟨H1,I1,q1⟩
 |false=>exact hb wh pins s1 σ H1 Q I1 q1
theorem iK (ha:PT X a tA):PT X (.UnaryOp .Not a pos) (de tA):=by
 intro pins s σ H Q I h
 exact isTrue_not (ha pins s σ H (fun c H1=>Q (!c) H1) I h)
def ek (ta tb:TE):TE:=fun σ H Q=>ta σ H fun x H1=>∃c,x=.bl c∧if c=true then tb σ H1 Q else Q (.bl false) H1
def eX (ta tb:TE):TE:=fun σ H Q=>ta σ H fun x H1=>∃c,x=.bl c∧if c=true then Q (.bl true) H1 else tb σ H1 Q
def fw (ta:TE):TE:=fun σ H Q=>ta σ H fun x H1=>∃c,x=.bl c∧Q (.bl (!c)) H1
theorem yX {op}{t:TE}(h:PE X a t):PE X (.BoolOp op [a] pos) t:=fun pins s σ H Q I hw=>BoolOp_one (h pins s σ H Q I hw)
theorem yA (ha:PE X a ta)(hb:PE X (.BoolOp .And (b::rest) pos) tb):PE X (.BoolOp .And (a::b::rest) pos) (ek ta tb):=by
 intro pins s σ H Q I h
 refine BoolOp_and (thn (ha pins s σ H _ I h) fun v s1 ⟨x,H1,I1,r1,q1⟩=>?_)
 obtain⟨c,rfl,q1⟩:=q1
 cases r1
 refine cj ?_
 cases c with
 |true=>exact hb pins s1 σ H1 Q I1 q1
 |false=>exact⟨.bl false,H1,I1,rfl,q1⟩
theorem my (ha:PE X a ta)(hb:PE X (.BoolOp .Or (b::rest) pos) tb):PE X (.BoolOp .Or (a::b::rest) pos) (eX ta tb):=by
 intro pins s σ H Q I h
 refine BoolOp_or (thn (ha pins s σ H _ I h) fun v s1 ⟨x,H1,I1,r1,q1⟩=>?_)
 obtain⟨c,rfl,q1⟩:=q1
 cases r1
 refine cj ?_
 cases c with
 |false=>exact hb pins s1 σ H1 Q I1 q1
 |true=>exact⟨.bl true,H1,I1,rfl,q1⟩
theorem gi (ha:PE X a ta):PE X (.UnaryOp .Not a pos) (fw ta):=by
 intro pins s σ H Q I h
 refine UnaryOp_ (thn (ha pins s σ H _ I h) fun v s1 ⟨x,H1,I1,r1,q1⟩=>?_)
 obtain⟨c,rfl,q1⟩:=q1
 cases r1
 exact not_of (cj ⟨.bl (!c),H1,I1,rfl,q1⟩)
def tIf (t:TT)(ta tb:TE):TE:=fun σ H Q=>t σ H fun c H1=>if c=true then ta σ H1 Q else tb σ H1 Q
theorem lr {c:Expr}(hc:PT X c tA)(ha:PE X a ta)(hb:PE X b tb):PE X (.IfExp c a b pos) (tIf tA ta tb):=by
 intro pins s σ H Q I h
 refine wpAny_IfExp (thn (hc pins s σ H _ I h) fun d s1 ⟨H1,I1,q1⟩=>?_)
 cases d with
 |true=>exact ha pins s1 σ H1 Q I1 q1
 |false=>exact hb pins s1 σ H1 Q I1 q1
end
def SqL (K:PySem.W.Frag)(H:Hp)(a:Addr)(xs:List V):Prop:=
 Rd H a (.lst xs)∨
  ∃(o:Obj) (its:Array Value) (n:Nat),K.lookup a=some o∧o.cls=.type "list"∧o.dict=none∧o.data=.seq its n∧its.size≤sizeLine∧Vals xs its.toList
def SqT (K:PySem.W.Frag)(H:Hp)(a:Addr)(xs:List V):Prop:=
 Rd H a (.tup xs)∨
  ∃(o:Obj) (its:Array Value) (n:Nat),K.lookup a=some o∧o.cls=.type "tuple"∧o.data=.seq its n∧its.size≤sizeLine∧Vals xs its.toList
def eG :Value→Option V
 |.none=>some .non
 |.bool b=>some (.bl b)
 |.int i _=>some (.int i)
 |.str x _=>some (.str x)
 |.bytes b _=>some (.byt b)
 |.float b _=>some (.flt b)
 |.ref a=>some (.ref a)
 |.type n=>some (.ty n)
 |_=>none
theorem RelV.abs {x:V}{u:Value}(r:RelV x u):eG u=some x:=by
 cases x with
 |non=>cases r;rfl
 |bl _=>cases r;rfl
 |int _=>obtain⟨t,rfl⟩:=r;rfl
 |str _=>obtain⟨t,rfl⟩:=r;rfl
 |byt _=>obtain⟨t,rfl⟩:=r;rfl
 |flt _=>obtain⟨t,rfl⟩:=r;rfl
 |ref _=>cases r;rfl
 |ty _=>cases r;rfl
theorem RelV.inj {x y:V}{u:Value}(r:RelV x u)(q:RelV y u):x=y:=dM (r.abs.symm.trans q.abs)
theorem Vals.inj :∀{xs ys:List V} {us:List Value},Vals xs us→Vals ys us→xs=ys
 |_,_,_,.nil,.nil=>rfl
 |_,_,_,.cons r t,.cons r' t'=>by rw[r.inj r',Vals.inj t t']
section
variable {X:Cx}{pins:List (Addr×Obj)}{σ:St}{H:Hp}{s:Shared}{a:Addr}{xs ys:List V}
theorem SqL.of {K:PySem.W.Frag}(h:H a=some (.lst xs)):SqL K H a xs:=.inl (.inl h)
theorem SqT.of {K:PySem.W.Frag}(h:H a=some (.tup xs)):SqT K H a xs:=.inl (.inl h)
theorem Inv.list (I:Inv X pins σ H s)(h:SqL X.K H a xs):∃its:List Value,Vals xs its∧PlainL s.heap a its.toArray∧xs.length≤sizeLine:=by
 rcases h with h|⟨o,its,n,hk,hc,hd,hs,hz,r⟩
 ·obtain⟨z,its,n,r,e⟩:=h.ok I.hok
  exact⟨its,r,⟨_,n,e,rfl,rfl,rfl⟩,z⟩
 ·refine⟨its.toList,r,⟨o,n,I.kIn a o hk,hc,hd,by simpa using hs⟩,?_⟩
  have e:=r.length
  simp only[bB] at e
  omega
theorem Inv.tuple (I:Inv X pins σ H s)(h:SqT X.K H a xs):∃its:List Value,Vals xs its∧IsTup s.heap a its.toArray∧xs.length≤sizeLine:=by
 rcases h with h|⟨o,its,n,hk,hc,hs,hz,r⟩
 ·obtain⟨z,its,r,p⟩:=h.ok I.hok
  exact⟨its,r,p,z⟩
 ·refine⟨its.toList,r,⟨o,I.kIn a o hk,hc,n,by simpa using hs⟩,?_⟩
  have e:=r.length
  simp only[bB] at e
  omega
theorem Inv.list_inj (I:Inv X pins σ H s)(h:SqL X.K H a xs)(h':SqL X.K H a ys):xs=ys:=by
 obtain⟨its,r,⟨o,n,e,_,_,d⟩,_⟩:=I.list h
 obtain⟨its',r',⟨o',n',e',_,_,d'⟩,_⟩:=I.list h'
 rw[e] at e';cases e'
 rw[d] at d'
 injection d' with d1 _
 have:its=its':=by simpa using congrArg Array.toList d1
 subst this
 exact r.inj r'
theorem Inv.tuple_inj (I:Inv X pins σ H s)(h:SqT X.K H a xs)(h':SqT X.K H a ys):xs=ys:=by
 obtain⟨its,r,⟨o,e,_,n,d⟩,_⟩:=I.tuple h
 obtain⟨its',r',⟨o',e',_,n',d'⟩,_⟩:=I.tuple h'
 rw[e] at e';cases e'
 rw[d] at d'
 injection d' with d1 _
 have:its=its':=by simpa using congrArg Array.toList d1
 subst this
 exact r.inj r'
end
abbrev Cx.wish (X:Cx)(E:Value→Shared→Prop):Cx:={X with xe:=E}
abbrev Cx.nox (X:Cx):Cx:=X.wish fun _ _=>False
theorem Cx.Ok.wish {X:Cx}(ok:X.Ok)(E:Value→Shared→Prop):(X.wish E).Ok:=
 ⟨ok.mod,ok.kind,ok.glob,ok.blt,ok.above,ok.inj,ok.has,ok.cab,ok.hd,ok.frames,ok.stk,ok.exf,ok.bs,ok.bsz,ok.noex,ok.exfs,ok.funs,ok.frf⟩
theorem Cx.Ok.unwish {X:Cx}{E:Value→Shared→Prop}(ok:(X.wish E).Ok):X.Ok:=
 ⟨ok.mod,ok.kind,ok.glob,ok.blt,ok.above,ok.inj,ok.has,ok.cab,ok.hd,ok.frames,ok.stk,ok.exf,ok.bs,ok.bsz,ok.noex,ok.exfs,ok.funs,ok.frf⟩
section
variable {X:Cx}{pins:List (Addr×Obj)}{σ:St}{H:Hp}{s:Shared}{E:Value→Shared→Prop}
theorem Inv.wish (I:Inv X pins σ H s)(E:Value→Shared→Prop):Inv (X.wish E) pins σ H s:=⟨I.ok.wish E,I.os,I.bare,I.base,I.loc,I.cell,I.free,I.freeC,I.pin,I.hok,I.len⟩
theorem Inv.unwish (I:Inv (X.wish E) pins σ H s):Inv X pins σ H s:=⟨I.ok.unwish,I.os,I.bare,I.base,I.loc,I.cell,I.free,I.freeC,I.pin,I.hok,I.len⟩
theorem SP.unwish {D:Ends}{f:Flow}{s':Shared}(h:SP (X.wish E) pins D f s'):SP X pins D f s':=by
 cases f with
 |next=>obtain⟨σ',H',I,q⟩:=h;exact⟨σ',H',I.unwish,q⟩
 |brk=>obtain⟨σ',H',I,q⟩:=h;exact⟨σ',H',I.unwish,q⟩
 |cont=>obtain⟨σ',H',I,q⟩:=h;exact⟨σ',H',I.unwish,q⟩
 |ret u=>obtain⟨v,σ',H',I,r,q⟩:=h;exact⟨v,σ',H',I.unwish,r,q⟩
theorem PSs.nox {st:List Stmt}{t:TS}(h:PSs X.nox st t):PSs X st t:=fun pins s σ H D I hw=>
 cn (h pins s σ H D (I.wish _) hw) (fun _ _ q=>q.unwish) fun _ _ z=>False.elim z
end
section
variable {X:Cx}{st:Stmt}{rest:List Stmt}{t u:TS}{e:Expr}{te:TE}{pos:Pos}
def fB :TS:=fun D σ H=>D.nx σ H
def fb (t u:TS):TS:=fun D σ H=>t {D with nx:=u D} σ H
theorem we :PSs X [] fB:=fun _ _ σ H _ I h=>wpAny_execs_nil ⟨σ,H,I,h⟩
theorem zC (h1:PS X st t)(h2:PSs X rest u):PSs X (st::rest) (fb t u):=by
 intro pins s σ H D I h
 refine wpAny_execs_cons (thn (h1 pins s σ H {D with nx:=u D} I h) fun f s1 q=>?_)
 cases f with
 |next=>
  obtain⟨σ',H',I',q⟩:=q
  exact h2 pins s1 σ' H' D I' q
 |ret v=>exact q
 |brk=>exact q
 |cont=>exact q
theorem zL (h1:PS X st t):PSs X [st] t:=by
 intro pins s σ H D I h
 refine wpAny_execs_cons (thn (h1 pins s σ H D I h) fun f s1 q=>?_)
 cases f with
 |next=>exact wpAny_execs_nil q
 |ret v=>exact q
 |brk=>exact q
 |cont=>exact q
theorem Inv.quiet {pins:List (Addr×Obj)}{σ:St}{H:Hp}{s:Shared}(I:Inv X pins σ H s):interactive X.env=false:=by simp[interactive,I.ok.kind]
def fo (te:TE):TS:=fun D σ H=>te σ H fun _ H1=>D.nx σ H1
theorem tY (he:PE X e te)(hs:swapsWith e none pos.line X.env=pure false:=by rfl):PS X (.Expr e pos) (fo te):=by
 intro pins s σ H D I h
 exact wpAny_Expr_any (thn (he pins s σ H _ I h) fun v s1 ⟨x,H1,I1,r1,q1⟩=>⟨σ,H1,I1,q1⟩) I.quiet hs
def eQ (te:TE):TS:=fun D σ H=>te σ H D.rt
theorem zX (he:PE X e te):PS X (.Return (some e) pos) (eQ te):=by
 intro pins s σ H D I h
 exact wpAny_Return_some (thn (he pins s σ H _ I h) fun v s1 ⟨x,H1,I1,r1,q1⟩=>⟨x,σ,H1,I1,r1,q1⟩)
def eR (c:TT)(t u:TS):TS:=fun D σ H=>c σ H fun b H1=>if b=true then t D σ H1 else u D σ H1
theorem uJ {c:Expr}{a b:List Stmt}{tc:TT}(hc:PT X c tc)(ha:PSs X a t)(hb:PSs X b u):PS X (.If c a b pos) (eR tc t u):=by
 intro pins s σ H D I h
 refine wpAny_If (thn (hc pins s σ H _ I h) fun d s1 ⟨H1,I1,q1⟩=>?_)
 cases d with
 |true=>exact ha pins s1 σ H1 D I1 q1
 |false=>exact hb pins s1 σ H1 D I1 q1
end
abbrev TG :=V→St→Hp→(St→Hp→Prop)→Prop
abbrev TGs :=List V→St→Hp→(St→Hp→Prop)→Prop
def PG (X:Cx)(target:Expr)(t:TG):Prop:=
 ∀(pins:List (Addr×Obj)) (s:Shared) (σ:St) (H:Hp) (v:V) (u:Value) (Q:St→Hp→Prop),Inv X pins σ H s→RelV v u→t v σ H Q→
  wpAny (model X.prog X.w) X.A (assign target X.env u) (fun _ s'=>∃σ' H',Inv X pins σ' H' s'∧Q σ' H') X.xe s
def PGs (X:Cx)(ts:List Expr)(t:TGs):Prop:=
 ∀(pins:List (Addr×Obj)) (s:Shared) (σ:St) (H:Hp) (vs:List V) (us:List Value) (Q:St→Hp→Prop),Inv X pins σ H s→Vals vs us→t vs σ H Q→
  wpAny (model X.prog X.w) X.A (assignInOrder ((assignEach ts X.env).map (·.2)) us) (fun _ s'=>∃σ' H',Inv X pins σ' H' s'∧Q σ' H') X.xe s
abbrev gy :=V→V→V→Hp→(Hp→Prop)→Prop
def fU (X:Cx)(t:gy):Prop:=
 ∀(pins:List (Addr×Obj)) (s:Shared) (σ:St) (H:Hp) (o i v:V) (ov iv u:Value) (Q:Hp→Prop),Inv X pins σ H s→RelV o ov→RelV i iv→RelV v u→t o i v H Q→
  wpAny (model X.prog X.w) X.A (setItem ov iv u) (fun _ s'=>∃H',Inv X pins σ H' s'∧Q H') X.xe s
section
variable {X:Cx}{pos:Pos}
def uI (i:Nat):TG:=fun v σ H Q=>Q (σ.set i (some v)) H
theorem yQ {i:Nat}{x:Str}(hN:X.N.Nodup)(hi:X.N[i]?=some x)(hx:Loc X.env.scope x)(hf:X.fn x=true∨X.env.scope.names.lookup x=some .local:=by first|exact .inl rfl|exact .inr rfl|assumption):PG X (.Name x pos) (uI i):=by
 intro pins s σ H v u Q I r h
 exact wpAny_assign_Name (rB I hN hi hx r (fun s' I'=>⟨_,H,I',h⟩) hf)
def iy :TGs:=fun vs σ H Q=>vs=[]∧Q σ H
def pI (t:TG)(u:TGs):TGs:=fun vs σ H Q=>∃v r,vs=v::r∧t v σ H fun σ' H'=>u r σ' H' Q
theorem wO :PGs X [] iy:=by
 intro pins s σ H vs us Q I r h
 obtain⟨e,h⟩:=h
 subst e
 cases r
 exact assignInOrder_nil ⟨σ,H,I,h⟩
theorem yJ {e:Expr}{es:List Expr}{t:TG}{u:TGs}(h1:PG X e t)(h2:PGs X es u)
  (hs:(assignEach (e::es) X.env).map (·.2)=assign e X.env::(assignEach es X.env).map (·.2):=by rfl):PGs X (e::es) (pI t u):=by
 intro pins s σ H vs us Q I r h
 obtain⟨v,vr,e1,h⟩:=h
 subst e1
 cases r with
 |cons r rr=>
  rw[hs]
  refine assignInOrder_cons (thn (h1 pins s σ H _ _ _ I r h) fun _ s1 ⟨σ1,H1,I1,q1⟩=>?_)
  exact h2 pins s1 σ1 H1 _ _ Q I1 rr q1
def fh (K:PySem.W.Frag)(n:Nat)(t:TGs):TG:=fun v σ H Q=>∃a xs,v=.ref a∧SqT K H a xs∧xs.length=n∧t xs σ H Q
theorem gw {es:List Expr}{k:Nat}{t:TGs}{n:Nat}(hc:X.calm=true)(h:PGs X es t)
  (hn:(assignEach es X.env).length=n:=by rfl) (hst:(assignEach es X.env).findIdx? (·.1)=none:=by rfl):PG X (.Tuple es k pos) (fh X.K n t):=by
 intro pins s σ H v u Q I r hw
 obtain⟨a,xs,e1,hq,hl,hw⟩:=hw
 subst e1
 cases r
 obtain⟨its,rv,ht,hz⟩:=I.tuple hq
 refine assign_Tuple_tuple (I.ok.hd hc) ht (by simp[hn,←hl,rv.length]) hst fun h' hx=>?_
 have I1:Inv X pins σ H {s with heap:=h'}:=I.kept (t':=s.toks) fun b o e=>hx b o (cg (dD e)) e
 exact h pins _ σ H xs _ Q I1 (by simpa using rv) hw
def km (to ti:TE)(t:gy):TG:=fun v σ H Q=>to σ H fun o H1=>ti σ H1 fun i H2=>t o i v H2 fun H3=>Q σ H3
theorem ue {o i:Expr}{to ti:TE}{t:gy}(ho:PE X o to)(hi:PE X i ti)(hs:fU X t)
  (ha:∀v,assign (.Subscript o i pos) X.env v=(do
   let ov ←holding [v] (eval o X.env)
   let iv ←holding [v,ov] (eval i X.env)
   standAt pos
   holding [v,ov,iv] (setItem ov iv v)
   release [v,ov,iv] []):=by intro _;rfl):PG X (.Subscript o i pos) (km to ti t):=by
 intro pins s σ H v u Q I r h
 rw[ha]
 refine dS (cE (thn (ho pins s σ H _ I h) fun ov s1 ⟨x,H1,I1,r1,q1⟩=>?_))
 refine dS (cE (thn (hi pins s1 σ H1 _ I1 q1) fun iv s2 ⟨y,H2,I2,r2,q2⟩=>?_))
 refine dS (wpAny_standAt (dS (cE (thn (hs pins s2 σ H2 x y v ov iv u _ I2 r1 r2 r q2) fun _ s3 ⟨H3,I3,q3⟩=>?_))))
 exact wpAny_release ⟨σ,H3,I3,q3⟩
def ic (te:TE)(g:TG):TS:=fun D σ H=>te σ H fun x H1=>g x σ H1 D.nx
theorem vZ {tg e:Expr}{te:TE}{g:TG}(he:PE X e te)(hg:PG X tg g)(hs:swapsWithSole [tg] e pos.line X.env=pure false:=by rfl)(hw:swappedStores [tg] e X.env=pure none:=by rfl)
  (h1:(assignEach [tg] X.env).map (·.2)=[assign tg X.env]:=by rfl):PS X (.Assign [tg] e pos) (ic te g):=by
 intro pins s σ H D I h
 refine wpAny_Assign_stores (thn (he pins s σ H _ I h) fun v s1 ⟨x,H1,I1,r1,q1⟩=>?_) hs hw
 rw[h1]
 exact thn (hg pins s1 σ H1 x v _ I1 r1 q1) fun _ s2 q=>q
theorem sD {i:Nat}{x:Str}{e:Expr}{te:TE}{pos':Pos}(hN:X.N.Nodup)(hi:X.N[i]?=some x)(hx:Loc X.env.scope x)(he:PE X e te)(hs:swapsWith e (some (.Name x pos')) pos.line X.env=pure false:=by rfl)(hf:X.fn x=true∨X.env.scope.names.lookup x=some .local:=by first|exact .inl rfl|exact .inr rfl|assumption):
  PS X (.Assign [.Name x pos'] e pos) (ic te (uI i)):=by
 intro pins s σ H D I h
 refine wpAny_Assign_Name (thn (he pins s σ H _ I h) fun v s1 ⟨y,H1,I1,r1,q1⟩=>?_) hs
 exact rB I1 hN hi hx r1 (fun s2 I2=>⟨_,H1,I2,q1⟩) hf
end
section
variable {X:Cx}{pos:Pos}
end
structure It where
 go:Nat→Hp→Prop
 yld:Nat→Hp→V→Hp→Prop
 stop:Nat→Hp→Prop
def uf (X:Cx)(pins:List (Addr×Obj))(H:Hp)(b:Addr):Prop:=
 H b=none∧b≠X.env.locals∧b∉X.fs∧(b∈X.ex∨X.s₀.heap.objs.size≤b)∧(∀x c,X.env.cells.lookup x=some c→c≠b)∧∀p∈X.pn++pins,p.1≠b
theorem Inv.fpOk {X:Cx}{pins:List (Addr×Obj)}{σ:St}{H H':Hp}{s:Shared}{b:Addr}(I:Inv X pins σ H s)(hb:s.heap.objs.size≤b)(hn:H' b=none):uf X pins H' b:=by
 refine⟨hn,Nat.ne_of_gt (dO I.lt hb),I.nofs hb,.inr (dq I.sz hb),fun x c e z=>?_,fun p hp z=>?_⟩
 ·obtain⟨v,q⟩:=I.cell x c e
  exact absurd (dO q.lt (by rw[z];exact hb)) (cM _)
 ·exact absurd (dO (dD (I.pin p hp).1) (by rw[z];exact hb)) (cM _)
structure Turn (P:Program)(w:World)(K:PySem.W.Frag)(tg:Expr)(J:It)(fp:List Addr)(it:Addr)(tn:Nat→Heap→Prop):Prop where
 mem:it∈fp
 obj:∀i h,tn i h→∀b∈fp,∃o,h.get? b=some o∧∀v,o.data≠.cell v
 keep:∀i h h',tn i h→(∀b∈fp,∀o,h.get? b=some o→h'.get? b=some o)→tn i h'
 item:∀(X:Cx),X.prog=P→X.w=w→X.K=K→X.calm=true→∀(i:Nat) (pins:List (Addr×Obj)) (s:Shared) (σ:St) (H:Hp) (E:Value→Shared→Prop),Inv X pins σ H s→(∀b∈fp,uf X pins H b)→tn i s.heap→J.go i H→
  wpAny (model P w) X.A (pyNext (.ref it)) (fun r s1=>∃u,r=some u∧
   wpAny (model P w) X.A (letOwnedTupleGo tg (.ref it) u) (fun _ s2=>∃x H',Inv X pins σ H' s2∧RelV x u∧J.yld i H x H'∧tn (i+1) s2.heap∧∀b∈fp,H' b=none) E s1) E s
 done:∀(X:Cx),X.prog=P→X.w=w→X.K=K→X.calm=true→∀(i:Nat) (pins:List (Addr×Obj)) (s:Shared) (σ:St) (H:Hp) (E:Value→Shared→Prop),Inv X pins σ H s→(∀b∈fp,uf X pins H b)→tn i s.heap→J.stop i H→
  wpAny (model P w) X.A (pyNext (.ref it)) (fun r s1=>r=none∧Inv X pins σ H s1) E s
 self:∀(A:Around) (i:Nat) (s:Shared) (Q:Value→Shared→Prop) (E:Value→Shared→Prop),tn i s.heap→Q (.ref it) s→wpAny (model P w) A (pyIter (.ref it)) Q E s
abbrev TI :=St→Hp→(It→Hp→Prop)→Prop
def PIE (X:Cx)(pins:List (Addr×Obj))(σ:St)(tg:Expr)(R:It→Hp→Prop)(itv:Value)(s2:Shared):Prop:=
 ∃(it:Addr) (fp:List Addr) (tn:Nat→Heap→Prop) (J:It) (H':Hp),itv=.ref it∧Inv X pins σ H' s2∧Turn X.prog X.w X.K tg J fp it tn∧tn 0 s2.heap∧(∀b∈fp,uf X pins H' b)∧R J H'
def PI (X:Cx)(tg iter:Expr)(wi:TI):Prop:=
 ∀(pins:List (Addr×Obj)) (s:Shared) (σ:St) (H:Hp) (R:It→Hp→Prop),Inv X pins σ H s→wi σ H R→
  wpAny (model X.prog X.w) X.A (eval iter X.env) (fun v s1=>wpAny (model X.prog X.w) X.A (pyIter v) (PIE X pins σ tg R) X.xe s1) X.xe s
theorem qV {M:Model}{A:Around}{E:Value→Shared→Prop}{s:Shared}{tg:Expr}{it:Addr}{u:Value}{o:Obj}{n:String}{vs:Array Value}{Q:Unit→Shared→Prop}(ho:s.heap.get? it=some o)(hc:o.cls=.type n)(hd:o.data=.fields vs)
  (hn:["enumerate","zip","dict_itemiterator","dict_reverseitemiterator","odict_iterator","itertools.zip_longest","itertools.pairwise"].contains n=false) (hQ:Q () s):wpAny M A (letOwnedTupleGo tg (.ref it) u) Q E s:=by
 unfold letOwnedTupleGo
 cases tg<;>first
  |exact cq hQ
  |(cases u<;>first
    |exact cq hQ
    |(refine dS (wpAny_load ho ?_)
      rw[hc,hd]
      show wpAny M A (if (["enumerate","zip","dict_itemiterator","dict_reverseitemiterator","odict_iterator","itertools.zip_longest","itertools.pairwise"].contains n&&vs[0]? == some (rawInt _))=true then _ else _) Q E s
      rw[if_neg (by intro h;rw[hn,cC] at h;cases h)]
      exact cq hQ))
def Itl (K:PySem.W.Frag)(a:Addr):It:=
 ⟨fun i H=>∃xs x,SqL K H a xs∧xs[i]?=some x,fun i H x H'=>H'=H∧∀xs,SqL K H a xs→xs[i]?=some x,fun i H=>∃xs,SqL K H a xs∧xs.length≤i⟩
def Itt (K:PySem.W.Frag)(a:Addr):It:=
 ⟨fun i H=>∃xs x,SqT K H a xs∧xs[i]?=some x,fun i H x H'=>H'=H∧∀xs,SqT K H a xs→xs[i]?=some x,fun i H=>∃xs,SqT K H a xs∧xs.length≤i⟩
def Itr (lo:Int)(n:Nat):It:=⟨fun i _=>i<n,fun i H x H'=>H'=H∧x=.int (lo+i),fun i _=>n≤i⟩
theorem pM {P:Program}{w:World}{K:PySem.W.Frag}{tg:Expr}(a it:Addr):Turn P w K tg (Itl K a) [it] it (fun i h=>h.IsListIter it a i) where
 mem:=by simp
 obj:=fun i h st b hb=>by
  have e:b=it:=by simpa using hb
  subst e
  obtain⟨o,e,c,d⟩:=st
  exact⟨o,e,fun v z=>by rw[d] at z;cases z⟩
 keep:=fun i h h' st k=>st.at fun o e=>k it (by simp) o e
 item:=by
  intro X hP hw hK hc i pins s σ H E I hf st hg
  subst hP hw hK
  obtain⟨xs,x,hq,hx⟩:=hg
  obtain⟨its,rv,p,hz⟩:=I.list hq
  obtain⟨u,hu,ru⟩:=rv.get hx
  obtain⟨f0,f1,f2,f3,f4,f5⟩:=hf it (by simp)
  refine bj st p.isList (x:=u) (by simpa using hu) fun h' st' sb=>?_
  have I1:Inv X pins σ H {s with heap:=h'}:=I.turned (t':=s.toks) (fun b o hb e=>(sb.2 b hb).trans e) f0 f1 f3 f4 f5
  obtain⟨o,e,c,d⟩:=id st'
  exact⟨u,rfl,qV (s:={s with heap:=h'}) e c d (by decide) ⟨x,H,I1,ru,⟨rfl,fun ys hy=>by rw[I.list_inj hy hq];exact hx⟩,st',fun b hb=>(hf b hb).1⟩⟩
 done:=by
  intro X hP hw hK hc i pins s σ H E I hf st hg
  subst hP hw hK
  obtain⟨xs,hq,hx⟩:=hg
  obtain⟨its,rv,p,hz⟩:=I.list hq
  obtain⟨f0,f1,f2,f3,f4,f5⟩:=hf it (by simp)
  have hl:=rv.length
  exact wpAny_pyNext_list_end (I.ok.hd hc) st p.isList (by simp;omega) fun h' eb=>⟨rfl,I.turned (t':=s.toks) (fun b o hb e=>eb b o hb e) f0 f1 f3 f4 f5⟩
 self:=fun _ _ _ _ _ st h=>wpAny_pyIter_listiter st h
theorem rM {P:Program}{w:World}{K:PySem.W.Frag}{tg:Expr}(a it:Addr):Turn P w K tg (Itt K a) [it] it (fun i h=>h.IsTupleIter it a i) where
 mem:=by simp
 obj:=fun i h st b hb=>by
  have e:b=it:=by simpa using hb
  subst e
  obtain⟨o,e,c,d⟩:=st
  exact⟨o,e,fun v z=>by rw[d] at z;cases z⟩
 keep:=fun i h h' st k=>st.at fun o e=>k it (by simp) o e
 item:=by
  intro X hP hw hK hc i pins s σ H E I hf st hg
  subst hP hw hK
  obtain⟨xs,x,hq,hx⟩:=hg
  obtain⟨its,rv,p,hz⟩:=I.tuple hq
  obtain⟨u,hu,ru⟩:=rv.get hx
  obtain⟨f0,f1,f2,f3,f4,f5⟩:=hf it (by simp)
  refine wpAny_pyNext_tuple_item st (show s.heap.IsTuple a its.toArray from p) (x:=u) (by simpa using hu) fun h' st' sb=>?_
  have I1:Inv X pins σ H {s with heap:=h'}:=I.turned (t':=s.toks) (fun b o hb e=>(sb.2 b hb).trans e) f0 f1 f3 f4 f5
  obtain⟨o,e,c,d⟩:=id st'
  exact⟨u,rfl,qV (s:={s with heap:=h'}) e c d (by decide) ⟨x,H,I1,ru,⟨rfl,fun ys hy=>by rw[I.tuple_inj hy hq];exact hx⟩,st',fun b hb=>(hf b hb).1⟩⟩
 done:=by
  intro X hP hw hK hc i pins s σ H E I hf st hg
  subst hP hw hK
  obtain⟨xs,hq,hx⟩:=hg
  obtain⟨its,rv,p,hz⟩:=I.tuple hq
  obtain⟨f0,f1,f2,f3,f4,f5⟩:=hf it (by simp)
  have hl:=rv.length
  exact wpAny_pyNext_tuple_end (I.ok.hd hc) st (show s.heap.IsTuple a its.toArray from p) (by simp;omega) fun h' eb=>⟨rfl,I.turned (t':=s.toks) (fun b o hb e=>eb b o hb e) f0 f1 f3 f4 f5⟩
 self:=fun _ _ _ _ _ st h=>wpAny_pyIter_tupleiter st h
theorem rS {P:Program}{w:World}{K:PySem.W.Frag}{tg:Expr}(it:Addr)(lo:Int)(n:Nat):Turn P w K tg (Itr lo n) [it] it (fun i h=>IsRangeIter h it (lo+(i:Nat)*1) ((n:Int)-(i:Nat)) 1) where
 mem:=by simp
 obj:=fun i h st b hb=>by
  have e:b=it:=by simpa using hb
  subst e
  exact⟨_,st,fun v z=>by
   have z':Data.fields _=Data.cell v:=z
   cases z'⟩
 keep:=fun i h h' st k=>k it (by simp) _ st
 item:=by
  intro X hP hw hK hc i pins s σ H E I hf st hg
  subst hP hw hK
  obtain⟨f0,f1,f2,f3,f4,f5⟩:=hf it (by simp)
  have W:=Walks.range (prog:=X.prog) (w:=X.w) (I.ok.hd hc) it lo 1 n
  refine W.item i s _ _ hg st fun v h' tk hv st' kk=>?_
  obtain⟨t,rfl⟩:=hv
  have I1:Inv X pins σ H {s with heap:=h',toks:=tk}:=I.turned (fun b o hb e=>kk b o (by simpa using hb) e) f0 f1 f3 f4 f5
  refine⟨_,rfl,qV (s:={s with heap:=h',toks:=tk}) (n:="range_iterator") st' rfl rfl (by decide) ⟨.int (lo+i),H,I1,⟨t,?_⟩,⟨rfl,rfl⟩,st',fun b hb=>(hf b hb).1⟩⟩
  rw[Int.mul_one]
 done:=by
  intro X hP hw hK hc i pins s σ H E I hf st hg
  subst hP hw hK
  obtain⟨f0,f1,f2,f3,f4,f5⟩:=hf it (by simp)
  exact wpAny_pyNext_range_end (I.ok.hd hc) st (by have:n≤i:=hg;omega) fun h' eb=>⟨rfl,I.turned (t':=s.toks) (fun b o hb e=>eb b o hb e) f0 f1 f3 f4 f5⟩
 self:=fun _ _ _ _ _ st h=>wpAny_pyIter_rangeiter st h
section
variable {X:Cx}{tg:Expr}
def gG (K:PySem.W.Frag)(tl:TE):TI:=fun σ H R=>tl σ H fun x H1=>∃a,x=.ref a∧(∃xs,SqL K H1 a xs)∧R (Itl K a) H1
def eK (K:PySem.W.Frag)(tl:TE):TI:=fun σ H R=>tl σ H fun x H1=>∃a,x=.ref a∧(∃xs,SqT K H1 a xs)∧R (Itt K a) H1
theorem ph {l:Expr}{tl:TE}(hl:PE X l tl):PI X tg l (gG X.K tl):=by
 intro pins s σ H R I h
 refine thn (hl pins s σ H _ I h) fun v s1 ⟨x,H1,I1,r1,q1⟩=>?_
 obtain⟨a,e,⟨xs,hq⟩,q⟩:=q1
 subst e
 cases r1
 obtain⟨its,rv,p,hz⟩:=I1.list hq
 refine wpAny_pyIter_list p.isList ?_
 refine⟨s1.heap.objs.size,[s1.heap.objs.size],_,_,H1,rfl,I1.kept (t':=s1.toks) fun b o e=>dF _ e,pM a _,⟨_,dZ _ rfl,rfl,rfl⟩,fun b hb=>?_,q⟩
 have e:b=s1.heap.objs.size:=by simpa using hb
 subst e
 exact I1.fpOk (dC _) (I1.hok.fresh (dC _))
theorem iS {l:Expr}{tl:TE}(hl:PE X l tl):PI X tg l (eK X.K tl):=by
 intro pins s σ H R I h
 refine thn (hl pins s σ H _ I h) fun v s1 ⟨x,H1,I1,r1,q1⟩=>?_
 obtain⟨a,e,⟨xs,hq⟩,q⟩:=q1
 subst e
 cases r1
 obtain⟨its,rv,p,hz⟩:=I1.tuple hq
 refine wpAny_pyIter_tuple (show s1.heap.IsTuple a its.toArray from p) ?_
 refine⟨s1.heap.objs.size,[s1.heap.objs.size],_,_,H1,rfl,I1.kept (t':=s1.toks) fun b o e=>dF _ e,rM a _,⟨_,dZ _ rfl,rfl,rfl⟩,fun b hb=>?_,q⟩
 have e:b=s1.heap.objs.size:=by simpa using hb
 subst e
 exact I1.fpOk (dC _) (I1.hok.fresh (dC _))
theorem nU {pins:List (Addr×Obj)}{σ:St}{H:Hp}{s:Shared}{R:It→Hp→Prop}{E:Value→Shared→Prop}{lo hi:Int}{t u v:Tok}{tk:Nat}(I:Inv X pins σ H s)(h1:-(2 ^ 62)≤lo)(h2:lo<2 ^ 62)(h3:-(2 ^ 62)≤hi)(h4:hi<2 ^ 62)
  (q:R (Itr lo (hi-lo).toNat) H):wpAny (model X.prog X.w) X.A (pyIter (.ref s.heap.objs.size)) (PIE X pins σ tg R) E {s with heap:=s.heap.push {cls:=.type "range",data:=.fields #[.int lo t,.int hi u,.int 1 v]},toks:=tk}:=by
 refine wpAny_pyIter_range (IsRange.new ..) (small_one h1 h2 h3 h4) ?_
 have I1:Inv X pins σ H {s with heap:=s.heap.push {cls:=.type "range",data:=.fields #[.int lo t,.int hi u,.int 1 v]},toks:=tk}:=I.kept fun b o e=>dF _ e
 refine⟨(s.heap.push {cls:=.type "range",data:=.fields #[.int lo t,.int hi u,.int 1 v]}).objs.size,[(s.heap.push {cls:=.type "range",data:=.fields #[.int lo t,.int hi u,.int 1 v]}).objs.size],_,_,H,rfl,
  I1.kept (t':=tk) fun b o e=>dF _ e,rS _ lo (hi-lo).toNat,?_,fun b hb=>?_,q⟩
 ·have e1:lo+((0:Nat):Int)*1=lo:=by simp
  have e2:(((hi-lo).toNat:Nat):Int)-((0:Nat):Int)=Builtin.Range.rangeSize lo hi 1:=by rw[rangeSize_one];split<;>omega
  show IsRangeIter _ _ (lo+((0:Nat):Int)*1) ((((hi-lo).toNat:Nat):Int)-((0:Nat):Int)) 1
  rw[e1,e2]
  exact dZ _ rfl
 ·have e:b=(s.heap.push {cls:=.type "range",data:=.fields #[.int lo t,.int hi u,.int 1 v]}).objs.size:=by simpa using hb
  subst e
  exact I1.fpOk (dC _) (I1.hok.fresh (dC _))
def gO (ta:TA):TI:=fun σ H R=>ta σ H fun vs H1=>∃j:Int,vs=[.int j]∧-(2 ^ 62)≤j∧j<2 ^ 62∧R (Itr 0 j.toNat) H1
theorem oo {a:Expr}{ta:TA}{p pos:Pos}(hg:Gl X "range")(hm:X.mg "range"=none)(ha:PA X [a] ta)(hs:starEach [a] X.env=[(false,eval a X.env)]:=by rfl):PI X tg (.Call (.Name "range" p) [a] [] pos) (gO ta):=by
 intro pins s σ H R I h
 refine Call_ (tF I hg hm boot_range (PyProof.Rows.callWith_type1 (thn (ha pos pins s σ H _ I h) fun us s1 ⟨vs,H1,I1,r1,q1⟩=>?_) hs rfl))
 obtain⟨j,e,q1,q2,q⟩:=q1
 subst e
 cases r1 with
 |cons r rr=>
  cases rr
  obtain⟨t,rfl⟩:=r
  exact call_range_1 (nU I1 (by omega) (by omega) q1 q2 (by simpa using q))
def eP (wi:TI)(g:TG)(tb:TS):TS:=fun D σ H=>wi σ H fun J H1=>∃W:Nat→Nat→St→Hp→Prop,(∃m,W 0 m σ H1)∧∀i m σ H,W i m σ H→
 (J.stop i H∧D.nx σ H)∨(J.go i H∧∃N:St→Hp→Prop,(∀σ' H',N σ' H'→∃m',m'<m∧W (i+1) m' σ' H')∧∀x H',J.yld i H x H'→g x σ H' fun σ2 H2=>tb {D with nx:=N,ct:=N,bk:=D.nx} σ2 H2)
def ub (fp:List Addr)(h:Heap):List (Addr×Obj):=fp.filterMap fun b=>(h.get? b).map fun o=>(b,o)
theorem xB {fp:List Addr}{h:Heap}{b:Addr}{o:Obj}(hb:b∈fp)(e:h.get? b=some o):(b,o)∈ub fp h:=bH.mpr ⟨b,hb,by rw[e];rfl⟩
theorem oI {fp:List Addr}{h:Heap}{p:Addr×Obj}(hp:p∈ub fp h):p.1∈fp∧h.get? p.1=some p.2:=by
 obtain⟨b,hb,e⟩:=bH.mp hp
 cases q:h.get? b with
 |none=>rw[q] at e;cases e
 |some o=>
  rw[q] at e
  have e':(b,o)=p:=dM e
  subst e'
  exact⟨hb,q⟩
theorem Inv.pinned {pins:List (Addr×Obj)}{σ:St}{H:Hp}{s:Shared}{fp:List Addr}(I:Inv X pins σ H s)(hf:∀b∈fp,uf X pins H b)(ho:∀b∈fp,∃o,s.heap.get? b=some o∧∀v,o.data≠.cell v):Inv X (pins++ub fp s.heap) σ H s:=
 I.pins_of fun p hp=>(cv.mp hp).elim (fun z=>I.pin p (dN _ z)) fun z=>by
  obtain⟨hb,e⟩:=oI z
  obtain⟨f0,f1,f2,_⟩:=hf p.1 hb
  obtain⟨o,e',d⟩:=ho p.1 hb
  rw[e] at e';cases e'
  exact⟨e,f0,f1,f2,d⟩
theorem Inv.unpinned {pins pl:List (Addr×Obj)}{σ:St}{H:Hp}{s:Shared}(I:Inv X (pins++pl) σ H s):Inv X pins σ H s:=I.pins_of fun p hp=>I.pin p (dN _ (cJ _ hp))
theorem iX {iter:Expr}{body:List Stmt}{wi:TI}{g:TG}{tb:TS}{pos:Pos}(hp:PassesOwn (model X.prog X.w) X.A X.env X.xe)(hc:X.calm=true)(hi:PI X tg iter wi)(hg:PG X tg g)(hb:PSs X body tb)
  (hs:∀x,foldedSetIterable iter X.env x=pure x:=by intro _;rfl):PS X (.For tg iter body [] pos) (eP wi g tb):=by
 intro pins s σ H D I h
 refine wpAny_For (thn (hi pins s σ H _ I h) fun v s1 h1=>thn h1 fun itv s2 h2=>?_) hs
 obtain⟨it,fp,tn,J,H2,e,I2,T,st2,f2,W,⟨m0,w0⟩,turn⟩:=h2
 subst e
 -- what stays true of the iterator's objects through the loop
 have stat:∀{H':Hp},(∀b∈fp,H' b=none)→∀b∈fp,uf X pins H' b:=fun hn b hb=>⟨hn b hb,(f2 b hb).2⟩
 refine codeAny_forLoop_any (fun n s'=>∃i σ' H',Inv X pins σ' H' s'∧tn i s'.heap∧(∀b∈fp,H' b=none)∧W i n σ' H') ?_ m0 ⟨0,σ,H2,I2,st2,fun b hb=>(f2 b hb).1,w0⟩
 rintro n s3 ⟨i,σ3,H3,I3,st3,fr3,w3⟩
 rcases turn i n σ3 H3 w3 with ⟨stop,qn⟩|⟨go,N,hN,step⟩
 ·refine cU hp (thn (T.done X rfl rfl rfl hc i pins s3 σ3 H3 X.xe I3 (stat fr3) st3 stop) fun r s4 ⟨hr,I4⟩=>?_)
  subst hr
  exact wpAny_execs_nil ⟨σ3,H3,I4,qn⟩
 ·refine cU hp (thn (T.item X rfl rfl rfl hc i pins s3 σ3 H3 X.xe I3 (stat fr3) st3 go) fun r s4 ⟨u,hr,h4⟩=>?_)
  subst hr
  refine cU hp (thn h4 fun _ s5 ⟨x,H5,I5,r5,y5,st5,fr5⟩=>?_)
  have I5':=I5.pinned (stat fr5) (T.obj _ _ st5)
  refine cU hp (thn (hg _ s5 σ3 H5 x u _ I5' r5 (step x H5 y5)) fun _ s6 ⟨σ6,H6,I6,q6⟩=>?_)
  refine cU hp (thn (hb _ s6 σ6 H6 _ I6 q6) fun f s7 q7=>?_)
  have again:∀{σ7:St} {H7:Hp},Inv X (pins++ub fp s5.heap) σ7 H7 s7→N σ7 H7→∃m,m<n∧∃i σ' H',Inv X pins σ' H' s7∧tn i s7.heap∧(∀b∈fp,H' b=none)∧W i m σ' H':=fun {σ7 H7} I7 n7=>by
   obtain⟨m',hm,w7⟩:=hN σ7 H7 n7
   refine⟨m',hm,i+1,σ7,H7,I7.unpinned,T.keep _ _ _ st5 fun b hb o e=>(I7.pin (b,o) (dN _ (dN _ (xB hb e)))).1,fun b hb=>?_,w7⟩
   obtain⟨o,e,d⟩:=T.obj _ _ st5 b hb
   exact (I7.pin (b,o) (dN _ (dN _ (xB hb e)))).2.1
  cases f with
  |next=>obtain⟨σ7,H7,I7,n7⟩:=q7;exact again I7 n7
  |cont=>obtain⟨σ7,H7,I7,n7⟩:=q7;exact again I7 n7
  |brk=>obtain⟨σ7,H7,I7,q7⟩:=q7;exact⟨σ7,H7,I7.unpinned,q7⟩
  |ret v=>obtain⟨x7,σ7,H7,I7,r7,q7⟩:=q7;exact⟨x7,σ7,H7,I7.unpinned,r7,q7⟩
end
abbrev R2 :=V→V→Hp→VK→Prop
def OpR (X:Cx)(f:Value→Value→Sem Value)(r:R2):Prop:=
 ∀(pins:List (Addr×Obj)) (s:Shared) (σ:St) (H:Hp) (x y:V) (v u:Value) (Q:VK),Inv X pins σ H s→RelV x v→RelV y u→r x y H Q→
  wpAny (model X.prog X.w) X.A (f v u) (EP X pins σ Q) X.xe s
def UnR (X:Cx)(f:Value→Sem Value)(r:V→Hp→VK→Prop):Prop:=
 ∀(pins:List (Addr×Obj)) (s:Shared) (σ:St) (H:Hp) (x:V) (v:Value) (Q:VK),Inv X pins σ H s→RelV x v→r x H Q→
  wpAny (model X.prog X.w) X.A (f v) (EP X pins σ Q) X.xe s
def xr (X:Cx)(f:Value)(r:List V→Hp→VK→Prop):Prop:=
 ∀(pins:List (Addr×Obj)) (s:Shared) (σ:St) (H:Hp) (xs:List V) (us:List Value) (Q:VK),Inv X pins σ H s→Vals xs us→r xs H Q→
  wpAny (model X.prog X.w) X.A (call f us) (EP X pins σ Q) X.xe s
def eW (X:Cx)(r:V→Hp→(Bool→Hp→Prop)→Prop):Prop:=
 ∀(pins:List (Addr×Obj)) (s:Shared) (σ:St) (H:Hp) (x:V) (v:Value) (Q:Bool→Hp→Prop),Inv X pins σ H s→RelV x v→r x H Q→
  wpAny (model X.prog X.w) X.A (truthy v) (TP X pins σ Q) X.xe s
def tOp (r:R2)(ta tb:TE):TE:=fun σ H Q=>ta σ H fun x H1=>tb σ H1 fun y H2=>r x y H2 Q
def tUn (r:V→Hp→VK→Prop)(ta:TE):TE:=fun σ H Q=>ta σ H fun x H1=>r x H1 Q
def rI (C:Int→Int→Prop)(g:Int→Int→V):R2:=fun x y H Q=>∃i j,x=.int i∧y=.int j∧C i j∧Q (g i j) H
def rI0 (g:Int→Int→V):R2:=fun x y H Q=>∃i j,x=.int i∧y=.int j∧Q (g i j) H
def rU (g:Int→V):V→Hp→VK→Prop:=fun x H Q=>∃i,x=.int i∧Q (g i) H
section
variable {X:Cx}{a b c:Expr}{ta tb tc:TE}{pos:Pos}
theorem iu (ha:PE X a ta)(hb:PE X b tb){pins:List (Addr×Obj)}{s:Shared}{σ:St}{H:Hp}{R:V→V→Hp→Prop}(I:Inv X pins σ H s)
  (h:ta σ H fun x H1=>tb σ H1 fun y H2=>R x y H2) {Q:Value→Shared→Prop} {f:Value→Value→Sem Value}
  (hf:∀v u s2 x y H2,Inv X pins σ H2 s2→RelV x v→RelV y u→R x y H2→wpAny (model X.prog X.w) X.A (f v u) Q X.xe s2):
  wpAny (model X.prog X.w) X.A (eval a X.env) (fun v s₁=>wpAny (model X.prog X.w) X.A (eval b X.env) (fun u s₂=>wpAny (model X.prog X.w) X.A (f v u) Q X.xe s₂) X.xe s₁) X.xe s:=by
 refine thn (ha pins s σ H _ I h) fun v s1 ⟨x,H1,I1,r1,q1⟩=>?_
 refine thn (hb pins s1 σ H1 _ I1 q1) fun u s2 ⟨y,H2,I2,r2,q2⟩=>?_
 exact hf v u s2 x y H2 I2 r1 r2 q2
theorem yu {op:Operator}{r:R2}(ho:OpR X (binaryOp op) r)(ha:PE X a ta)(hb:PE X b tb):PE X (.BinOp a op b pos) (tOp r ta tb):=by
 intro pins s σ H Q I h
 exact wpAny_BinOp (iu ha hb I h fun v u s2 x y H2 I2 rx ry q=>ho pins s2 σ H2 x y v u Q I2 rx ry q)
theorem fq {op:UnaryOp}{r:V→Hp→VK→Prop}(ho:UnR X (unaryOp op) r)(ha:PE X a ta):PE X (.UnaryOp op a pos) (tUn r ta):=by
 intro pins s σ H Q I h
 exact UnaryOp_ (thn (ha pins s σ H _ I h) fun v s1 ⟨x,H1,I1,r1,q1⟩=>ho pins s1 σ H1 x v Q I1 r1 q1)
theorem opI {f:Value→Value→Sem Value}{C:Int→Int→Prop}{g:Int→Int→Int}
  (rule:∀(i j:Int) (t u:Tok) (s:Shared) (Q:Value→Shared→Prop) (E:Value→Shared→Prop),C i j→Q (.int (g i j) s.toks) {s with toks:=s.toks+1}→wpAny (model X.prog X.w) X.A (f (.int i t) (.int j u)) Q E s):
  OpR X f (rI C fun i j=>.int (g i j)):=by
 intro pins s σ H x y v u Q I rx ry h
 obtain⟨i,j,rfl,rfl,hc,q⟩:=h
 obtain⟨t,rfl⟩:=rx
 obtain⟨t',rfl⟩:=ry
 exact rule i j t t' s _ _ hc ⟨.int (g i j),H,I.tok _,⟨_,rfl⟩,q⟩
theorem gP {f:Value→Value→Sem Value}{g:Int→Int→Int}
  (rule:∀(i j:Int) (t u:Tok) (s:Shared) (Q:Value→Shared→Prop) (E:Value→Shared→Prop),Q (.int (g i j) s.toks) {s with toks:=s.toks+1}→wpAny (model X.prog X.w) X.A (f (.int i t) (.int j u)) Q E s):
  OpR X f (rI0 fun i j=>.int (g i j)):=by
 intro pins s σ H x y v u Q I rx ry h
 obtain⟨i,j,rfl,rfl,q⟩:=h
 obtain⟨t,rfl⟩:=rx
 obtain⟨t',rfl⟩:=ry
 exact rule i j t t' s _ _ ⟨.int (g i j),H,I.tok _,⟨_,rfl⟩,q⟩
theorem kG {f:Value→Value→Sem Value}{g:Int→Int→Bool}
  (rule:∀(i j:Int) (t u:Tok) (s:Shared) (Q:Value→Shared→Prop) (E:Value→Shared→Prop),Q (.bool (g i j)) s→wpAny (model X.prog X.w) X.A (f (.int i t) (.int j u)) Q E s):
  OpR X f (rI0 fun i j=>.bl (g i j)):=by
 intro pins s σ H x y v u Q I rx ry h
 obtain⟨i,j,rfl,rfl,q⟩:=h
 obtain⟨t,rfl⟩:=rx
 obtain⟨t',rfl⟩:=ry
 exact rule i j t t' s _ _ ⟨.bl (g i j),H,I,rfl,q⟩
def iR (i j:Int):Prop:=0≤j∧j≤1000000∧i.natAbs<2 ^ 64
def kx (i j:Int):Prop:=(-(2 ^ 64)<i∧i<2 ^ 64)∨(-(2 ^ 64)<j∧j<2 ^ 64)
theorem kx.ok {i j:Int}(h:kx i j):IntMulOk i j:=by
 rcases h with ⟨h1,h2⟩|⟨h1,h2⟩
 ·exact .of_left (intBits_le_64 h1 h2)
 ·exact .of_right (intBits_le_64 h1 h2)
theorem sj :OpR X (binaryOp .Add) (rI0 fun i j=>.int (i+j)):=gP fun _ _ _ _ _ _ _ q=>add_int q
theorem lb :OpR X (binaryOp .Sub) (rI0 fun i j=>.int (i-j)):=gP fun _ _ _ _ _ _ _ q=>sub_int q
theorem tO :OpR X (binaryOp .Mult) (rI kx fun i j=>.int (i*j)):=opI fun _ _ _ _ _ _ _ hc q=>mul_int q hc.ok
theorem ui :OpR X (binaryOp .Mod) (rI (fun _ j=>0<j) fun i j=>.int (i % j)):=opI fun i j _ _ _ _ _ hc q=>by
 have h1:(0:Int)<j:=hc
 exact mod_int' (by omega) (by rw[Int.fmod_eq_emod_of_nonneg i (by omega)];exact q)
theorem iw :OpR X (binaryOp .Pow) (rI iR fun i j=>.int (i ^ j.toNat)):=opI fun _ _ _ _ _ _ _ hc q=>pow_int_small hc.1 hc.2.1 hc.2.2 q
theorem unI {f:Value→Sem Value}{g:Int→Int}
  (rule:∀(i:Int) (t:Tok) (s:Shared) (Q:Value→Shared→Prop) (E:Value→Shared→Prop),Q (.int (g i) s.toks) {s with toks:=s.toks+1}→wpAny (model X.prog X.w) X.A (f (.int i t)) Q E s):
  UnR X f (rU fun i=>.int (g i)):=by
 intro pins s σ H x v Q I rx h
 obtain⟨i,rfl,q⟩:=h
 obtain⟨t,rfl⟩:=rx
 exact rule i t s _ _ ⟨.int (g i),H,I.tok _,⟨_,rfl⟩,q⟩
theorem gA :UnR X (unaryOp .USub) (rU fun i=>.int (-i)):=unI fun _ _ _ _ _ q=>neg_int q
end
def fY :V→V→Bool
 |.non,.non=>true|.non,.int _=>true|.int _,.non=>true|.non,.bl _=>true|.bl _,.non=>true|.non,.str _=>true|.str _,.non=>true
 |.int _,.int _=>true|.bl _,.bl _=>true|.str _,.str _=>true|.byt _,.byt _=>true
 |.int _,.str _=>true|.str _,.int _=>true|.bl _,.str _=>true|.str _,.bl _=>true
 |_,_=>false
def rEq :R2:=fun x y H Q=>fY x y=true∧Q (.bl (decide (x=y))) H
def rNe :R2:=fun x y H Q=>fY x y=true∧Q (.bl (!decide (x=y))) H
theorem qS {i j:Int}:decide (V.int i=V.int j)=(i == j):=by
 rw[br]
 simp
theorem lq {i j:Bool}:decide (V.bl i=V.bl j)=(i == j):=by
 rw[br]
 simp
theorem pj {i j:Str}:decide (V.str i=V.str j)=(i == j):=by
 rw[br]
 simp
theorem pG {i j:Array UInt8}:decide (V.byt i=V.byt j)=(i.toList == j.toList):=by
 rw[br]
 cases i
 cases j
 simp
section
variable {X:Cx}{a b c:Expr}{ta tb tc:TE}{pos:Pos}
theorem zp {pins:List (Addr×Obj)}{σ:St}{H:Hp}{s:Shared}{Q:VK}{k k':Bool}(I:Inv X pins σ H s)(q:Q (.bl k) H)(e:k=k'):EP X pins σ Q (.bool k') s:=by
 subst e
 exact⟨.bl k,H,I,rfl,q⟩
theorem uY :OpR X (compareOp .Eq) rEq:=by
 intro pins s σ H x y v u Q I rx ry h
 obtain⟨hs,q⟩:=h
 cases x with
 |non=>
  cases rx
  cases y with
  |non=>cases ry;exact PySem.EqNone.eq_none_none (zp I q (by simp))
  |bl j=>cases ry;exact PySem.EqNone.eq_none_bool (zp I q (by simp))
  |int j=>obtain⟨t',rfl⟩:=ry;exact PySem.EqNone.eq_none_int (zp I q (by simp))
  |str j=>obtain⟨t',rfl⟩:=ry;exact PySem.EqNone.eq_none_str (zp I q (by simp))
  |_=>exact absurd (show false=true from hs) dr
 |bl i=>
  cases rx
  cases y with
  |non=>cases ry;exact PySem.EqNone.eq_bool_none (zp I q (by simp))
  |bl j=>cases ry;exact eq_bool (zp I q lq)
  |str j=>obtain⟨t',rfl⟩:=ry;exact PySem.EqMixed.eq_bool_str (zp I q (by simp))
  |_=>exact absurd (show false=true from hs) dr
 |int i=>
  obtain⟨t,rfl⟩:=rx
  cases y with
  |non=>cases ry;exact PySem.EqNone.eq_int_none (zp I q (by simp))
  |int j=>obtain⟨t',rfl⟩:=ry;exact eq_int (zp I q qS)
  |str j=>obtain⟨t',rfl⟩:=ry;exact PySem.EqMixed.eq_int_str (zp I q (by simp))
  |_=>exact absurd (show false=true from hs) dr
 |str i=>
  obtain⟨t,rfl⟩:=rx
  cases y with
  |non=>cases ry;exact PySem.EqNone.eq_str_none (zp I q (by simp))
  |bl j=>cases ry;exact PySem.EqMixed.eq_str_bool (zp I q (by simp))
  |int j=>obtain⟨t',rfl⟩:=ry;exact PySem.EqMixed.eq_str_int (zp I q (by simp))
  |str j=>obtain⟨t',rfl⟩:=ry;exact eq_str (zp I q pj)
  |_=>exact absurd (show false=true from hs) dr
 |byt i=>
  obtain⟨t,rfl⟩:=rx
  cases y with
  |byt j=>obtain⟨t',rfl⟩:=ry;exact PySem.W.eq_bytes (zp I q pG)
  |_=>exact absurd (show false=true from hs) dr
 |_=>cases y<;>exact absurd (show false=true from hs) dr
theorem fZ :OpR X (compareOp .NotEq) rNe:=by
 intro pins s σ H x y v u Q I rx ry h
 obtain⟨hs,q⟩:=h
 cases x with
 |non=>
  cases rx
  cases y with
  |non=>cases ry;exact PySem.EqNone.ne_none_none (zp I q (by simp))
  |bl j=>cases ry;exact PySem.EqNone.ne_none_bool (zp I q (by simp))
  |int j=>obtain⟨t',rfl⟩:=ry;exact PySem.EqNone.ne_none_int (zp I q (by simp))
  |str j=>obtain⟨t',rfl⟩:=ry;exact PySem.EqNone.ne_none_str (zp I q (by simp))
  |_=>exact absurd (show false=true from hs) dr
 |bl i=>
  cases rx
  cases y with
  |non=>cases ry;exact PySem.EqNone.ne_bool_none (zp I q (by simp))
  |bl j=>cases ry;exact ne_bool (zp I q (congrArg not lq))
  |str j=>obtain⟨t',rfl⟩:=ry;exact PySem.EqMixed.ne_bool_str (zp I q (by simp))
  |_=>exact absurd (show false=true from hs) dr
 |int i=>
  obtain⟨t,rfl⟩:=rx
  cases y with
  |non=>cases ry;exact PySem.EqNone.ne_int_none (zp I q (by simp))
  |int j=>obtain⟨t',rfl⟩:=ry;exact ne_int (zp I q (congrArg not qS))
  |str j=>obtain⟨t',rfl⟩:=ry;exact PySem.EqMixed.ne_int_str (zp I q (by simp))
  |_=>exact absurd (show false=true from hs) dr
 |str i=>
  obtain⟨t,rfl⟩:=rx
  cases y with
  |non=>cases ry;exact PySem.EqNone.ne_str_none (zp I q (by simp))
  |bl j=>cases ry;exact PySem.EqMixed.ne_str_bool (zp I q (by simp))
  |int j=>obtain⟨t',rfl⟩:=ry;exact PySem.EqMixed.ne_str_int (zp I q (by simp))
  |str j=>obtain⟨t',rfl⟩:=ry;exact ne_str (zp I q (congrArg not pj))
  |_=>exact absurd (show false=true from hs) dr
 |byt i=>
  obtain⟨t,rfl⟩:=rx
  cases y with
  |byt j=>obtain⟨t',rfl⟩:=ry;exact PySem.W.ne_bytes (zp I q (congrArg not pG))
  |_=>exact absurd (show false=true from hs) dr
 |_=>cases y<;>exact absurd (show false=true from hs) dr
theorem jS :OpR X (compareOp .Lt) (rI0 fun i j=>.bl (decide (i<j))):=kG fun _ _ _ _ _ _ _ q=>lt_int q
theorem wk :OpR X (compareOp .LtE) (rI0 fun i j=>.bl (decide (i≤j))):=kG fun _ _ _ _ _ _ _ q=>le_int q
theorem jI :OpR X (compareOp .Gt) (rI0 fun i j=>.bl (decide (j<i))):=kG fun _ _ _ _ _ _ _ q=>gt_int q
theorem gW :OpR X (compareOp .GtE) (rI0 fun i j=>.bl (decide (j≤i))):=kG fun _ _ _ _ _ _ _ q=>ge_int q
theorem oM :OpR X (compareOp .In) (fun x y H Q=>∃i j,x=.str i∧y=.str j∧Q (.bl (!(Builtin.Str.occurrences j i 0 j.length 1).isEmpty)) H):=by
 intro pins s σ H x y v u Q I rx ry h
 obtain⟨i,j,rfl,rfl,q⟩:=h
 obtain⟨t,rfl⟩:=rx
 obtain⟨t',rfl⟩:=ry
 exact in_str (zp I q rfl)
theorem tZ :OpR X (compareOp .Is) (fun x y H Q=>y=.non∧Q (.bl (decide (x=.non))) H):=by
 intro pins s σ H x y v u Q I rx ry h
 obtain⟨rfl,q⟩:=h
 cases ry
 refine is_none_gen (zp I q ?_)
 cases x<;>first
  |(cases rx;rfl)
  |(obtain⟨t,rfl⟩:=rx;rfl)
theorem jE :OpR X (compareOp .IsNot) (fun x y H Q=>y=.non∧Q (.bl (!decide (x=.non))) H):=by
 intro pins s σ H x y v u Q I rx ry h
 obtain⟨rfl,q⟩:=h
 cases ry
 refine isnot_none_gen (zp I q ?_)
 cases x<;>first
  |(cases rx;rfl)
  |(obtain⟨t,rfl⟩:=rx;rfl)
theorem zA (b:Expr){op:CmpOp}(h:op≠.In:=by decide)(h2:op≠.NotIn:=by decide):behindInMarks op b=false:=by
 have e1:(op == CmpOp.In)=false:=by cases op<;>first|rfl|exact absurd rfl h
 have e2:(op == CmpOp.NotIn)=false:=by cases op<;>first|rfl|exact absurd rfl h2
 cases b<;>simp[behindInMarks,e1,e2]
theorem yT {op:CmpOp}{r:R2}(ho:OpR X (compareOp op) r)(ha:PE X a ta)(hb:PE X b tb)(hm:behindInMarks op b=false):PE X (.Compare a [op] [b] pos) (tOp r ta tb):=by
 intro pins s σ H Q I h
 exact wpAny_Compare1 (iu ha hb I h fun v u s2 x y H2 I2 rx ry q=>ho pins s2 σ H2 x y v u Q I2 rx ry q) hm
def nY (t:TE):TT:=fun σ H Q=>t σ H fun x H'=>∃k,x=.bl k∧Q k H'
theorem xi {op:CmpOp}{r:R2}(ho:OpR X (compareOp op) r)(ha:PE X a ta)(hb:PE X b tb)(hm:behindInMarks op b=false):PT X (.Compare a [op] [b] pos) (nY (tOp r ta tb)):=by
 intro pins s σ H Q I h
 refine wpAny_isTrue_Compare1 (thn (ha pins s σ H _ I h) fun v s1 ⟨x,H1,I1,r1,q1⟩=>thn (hb pins s1 σ H1 _ I1 q1) fun u s2 ⟨y,H2,I2,r2,q2⟩=>
  thn (ho pins s2 σ H2 x y v u _ I2 r1 r2 q2) fun c s3 ⟨z,H3,I3,r3,k,e,q3⟩=>?_) hm
 subst e
 cases r3
 exact cj ⟨H3,I3,q3⟩
def ma (r r':R2)(ta tb tc:TE):TE:=fun σ H Q=>ta σ H fun x H1=>tb σ H1 fun y H2=>r x y H2 fun z H3=>∃k,z=.bl k∧
 (if k=true then tc σ H3 fun w' H4=>r' y w' H4 Q else Q (.bl false) H3)
theorem mY {op op':CmpOp}{r r':R2}(ho:OpR X (compareOp op) r)(ho':OpR X (compareOp op') r')(ha:PE X a ta)(hb:PE X b tb)(hc:PE X c tc)
  (hm:lastMarks [op,op'] [b,c]=false:=by with_unfolding_all rfl):PE X (.Compare a [op,op'] [b,c] pos) (ma r r' ta tb tc):=by
 intro pins s σ H Q I h
 refine Compare_chain (thn (ha pins s σ H _ I h) fun v s1 ⟨x,H1,I1,r1,q1⟩=>chain_link (thn (hb pins s1 σ H1 _ I1 q1) fun u s2 ⟨y,H2,I2,r2,q2⟩=>
  thn (ho pins s2 σ H2 x y v u _ I2 r1 r2 q2) fun d s3 ⟨z,H3,I3,r3,k,e,q3⟩=>?_)) hm
 subst e
 cases r3
 refine cj ?_
 cases k with
 |false=>exact ite_ff ⟨.bl false,H3,I3,rfl,q3⟩
 |true=>exact ite_tt (chain_last (thn (hc pins s3 σ H3 _ I3 q3) fun w' s4 ⟨z',H4,I4,r4,q4⟩=>ho' pins s4 σ H4 y z' u w' Q I4 r2 r4 q4))
theorem nO {op op':CmpOp}{r r':R2}(ho:OpR X (compareOp op) r)(ho':OpR X (compareOp op') r')(ha:PE X a ta)(hb:PE X b tb)(hc:PE X c tc)
  (hm:lastMarks [op,op'] [b,c]=false:=by with_unfolding_all rfl):PT X (.Compare a [op,op'] [b,c] pos) (nY (ma r r' ta tb tc)):=by
 intro pins s σ H Q I h
 refine isTrue_chain (thn (ha pins s σ H _ I h) fun v s1 ⟨x,H1,I1,r1,q1⟩=>test_link (thn (hb pins s1 σ H1 _ I1 q1) fun u s2 ⟨y,H2,I2,r2,q2⟩=>
  thn (ho pins s2 σ H2 x y v u _ I2 r1 r2 q2) fun d s3 ⟨z,H3,I3,r3,k,e,q3⟩=>?_)) hm
 subst e
 cases r3
 refine cj ?_
 cases k with
 |false=>
  obtain⟨k',e',q'⟩:=q3
  cases e'
  exact ite_ff ⟨H3,I3,q'⟩
 |true=>
  refine ite_tt (test_last (thn (hc pins s3 σ H3 _ I3 q3) fun w' s4 ⟨z',H4,I4,r4,q4⟩=>thn (ho' pins s4 σ H4 y z' u w' _ I4 r2 r4 q4) fun d' s5 ⟨z2,H5,I5,r5,k2,e2,q5⟩=>?_))
  subst e2
  cases r5
  exact cj ⟨H5,I5,q5⟩
def fQ (K:PySem.W.Frag)(x:V)(H:Hp)(k:Bool):Prop:=
 match x with
 |.non=>k=false
 |.bl b=>k=b
 |.int i=>k=(i != 0)
 |.str y=>y.length≤sizeLine∧k=((y.length:Int) != 0)
 |.byt y=>y.size≤sizeLine∧k=((y.size:Int) != 0)
 |.ref p=>(∃xs,SqL K H p xs∧k=!xs.isEmpty)∨(∃xs,SqT K H p xs∧k=!xs.isEmpty)∨∃kvs,H p=some (.dK kvs)∧k=!kvs.isEmpty
 |_=>False
theorem qv {κ:Type}{kvs:List (κ×V)}{vs:List (κ×Value)}(r:KV kvs vs):(!vs.isEmpty)=!kvs.isEmpty:=by
 cases r<;>rfl
theorem vT {xs:List V}{its:List Value}(r:Vals xs its):(!its.toArray.isEmpty)=!xs.isEmpty:=by
 cases r<;>simp
theorem wJ :(sizeLine:Nat)<2 ^ 63:=by rw[sizeLine_eq];decide
theorem iJ :eW X (fun x H Q=>∃k,fQ X.K x H k∧Q k H):=by
 intro pins s σ H x v Q I rx h
 obtain⟨k,e,q⟩:=h
 have hl:=wJ
 have hs:sizeLine=16777216:=sizeLine_eq
 cases x with
 |non=>
  cases rx
  have e':k=false:=e
  subst e'
  exact truthy_none ⟨H,I,q⟩
 |bl b=>
  cases rx
  have e':k=b:=e
  subst e'
  exact cj ⟨H,I,q⟩
 |int i=>
  obtain⟨t,rfl⟩:=rx
  have e':k=(i != 0):=e
  subst e'
  exact PySem.P.truthy_int ⟨H,I,q⟩
 |str y=>
  obtain⟨t,rfl⟩:=rx
  obtain⟨hy,e'⟩:y.length≤sizeLine∧k=((y.length:Int) != 0):=e
  subst e'
  exact PySem.P.truthy_str (by omega) ⟨H,I.tok _,q⟩
 |byt y=>
  obtain⟨t,rfl⟩:=rx
  obtain⟨hy,e'⟩:y.size≤sizeLine∧k=((y.size:Int) != 0):=e
  subst e'
  exact PySem.W.truthy_bytes (by omega) ⟨H,I.tok _,q⟩
 |ref p=>
  cases rx
  have e':(∃xs,SqL X.K H p xs∧k=!xs.isEmpty)∨(∃xs,SqT X.K H p xs∧k=!xs.isEmpty)∨∃kvs,H p=some (.dK kvs)∧k=!kvs.isEmpty:=e
  rcases e' with ⟨xs,hx,e'⟩|⟨xs,hx,e'⟩|⟨kvs,hx,e'⟩
  ·subst e'
   obtain⟨its,r,pl,hz⟩:=I.list hx
   have hlen:=r.length
   exact wpAny_truthy_list pl.isList (by simp only[dn];omega) ⟨H,I.tok _,by rw[vT r];exact q⟩
  ·subst e'
   obtain⟨its,r,pl,hz⟩:=I.tuple hx
   have hlen:=r.length
   exact truthy_tuple pl (by simp only[dn];omega) ⟨H,I.tok _,by rw[vT r];exact q⟩
  ·subst e'
   obtain⟨hz,hS,vs,r,m⟩:kvs.length≤sizeLine∧(p == sysModules)=false∧∃vs,KV kvs vs∧s.heap.DictOf (yw X.prog X.w) p vs:=I.hok p _ hx
   have hlen:kvs.length=vs.length:=Paired.length r
   exact wpAny_truthy_dict hS m (by omega) ⟨H,I.tok _,by rw[qv r];exact q⟩
 |_=>exact (show False from e).elim
theorem mw (ha:PE X a ta)(he:∀whole,isTrue a X.env whole=(do let v ←whole;standAt a.pos;holding [v] (truthy v))):
  PT X a (fun σ H Q=>ta σ H fun x H'=>∃k,fQ X.K x H' k∧Q k H'):=by
 intro pins s σ H Q I h
 exact isTrue_plain (thn (ha pins s σ H _ I h) fun v s1 ⟨x,H1,I1,r1,q1⟩=>iJ pins s1 σ H1 x v Q I1 r1 q1) (he _)
theorem qB :OpR X (binaryOp .Add) (fun x y H Q=>∃i j,x=.str i∧y=.str j∧i.length+j.length≤sizeLine∧Q (.str (i++j)) H):=by
 intro pins s σ H x y v u Q I rx ry h
 obtain⟨i,j,rfl,rfl,hz,q⟩:=h
 obtain⟨t,rfl⟩:=rx
 obtain⟨t',rfl⟩:=ry
 exact add_str (fun t' tk=>⟨.str (i++j),H,I.tok _,⟨_,rfl⟩,q⟩) hz
theorem vals1 {x:V}{us:List Value}(r:Vals [x] us):∃u,us=[u]∧RelV x u:=by
 cases r with
 |cons r1 r2=>cases r2;exact⟨_,rfl,r1⟩
theorem vals2 {x y:V}{us:List Value}(r:Vals [x,y] us):∃u w',us=[u,w']∧RelV x u∧RelV y w':=by
 cases r with
 |cons r1 r2=>
  cases r2 with
  |cons r3 r4=>cases r4;exact⟨_,_,rfl,r1,r3⟩
theorem oR (hc:X.calm=true):xr X (.builtin "max") (fun xs H Q=>∃i j,xs=[.int i,.int j]∧Q (.int (if j > i then j else i)) H):=by
 intro pins s σ H xs us Q I r h
 obtain⟨i,j,rfl,q⟩:=h
 obtain⟨u,w',rfl,⟨t,rfl⟩,⟨t',rfl⟩⟩:=vals2 r
 refine max_two_ints (I.ok.hd hc) fun h' tk k=>⟨_,H,I.kept k,?_,q⟩
 by_cases hj:j > i
 ·rw[if_pos hj,if_pos hj];exact⟨_,rfl⟩
 ·rw[if_neg hj,if_neg hj];exact⟨_,rfl⟩
theorem oS (hc:X.calm=true):xr X (.builtin "min") (fun xs H Q=>∃i j,xs=[.int i,.int j]∧Q (.int (if j<i then j else i)) H):=by
 intro pins s σ H xs us Q I r h
 obtain⟨i,j,rfl,q⟩:=h
 obtain⟨u,w',rfl,⟨t,rfl⟩,⟨t',rfl⟩⟩:=vals2 r
 refine min_two_ints (I.ok.hd hc) fun h' tk k=>⟨_,H,I.kept k,?_,q⟩
 by_cases hj:j<i
 ·rw[if_pos hj,if_pos hj];exact⟨_,rfl⟩
 ·rw[if_neg hj,if_neg hj];exact⟨_,rfl⟩
theorem tP :xr X (.type "str") (fun xs H Q=>∃i,xs=[.int i]∧i.natAbs.log2<1920∧Q (.str (toString i)) H):=by
 intro pins s σ H xs us Q I r h
 obtain⟨i,rfl,hz,q⟩:=h
 obtain⟨u,rfl,t,rfl⟩:=vals1 r
 exact PySem.P.str_of_int hz ⟨.str _,H,I.tok _,⟨_,rfl⟩,q⟩
def eO (K:PySem.W.Frag)(x:V)(H:Hp)(n:Nat):Prop:=
 match x with
 |.str y=>y.length≤sizeLine∧n=y.length
 |.byt y=>y.size≤sizeLine∧n=y.size
 |.ref p=>(∃xs,SqL K H p xs∧n=xs.length)∨∃xs,SqT K H p xs∧n=xs.length
 |_=>False
theorem mE :xr X (.builtin "len") (fun xs H Q=>∃x n,xs=[x]∧eO X.K x H n∧Q (.int n) H):=by
 intro pins s σ H xs us Q I r h
 obtain⟨x,n,rfl,e,q⟩:=h
 obtain⟨u,rfl,rx⟩:=vals1 r
 have hl:=wJ
 have hs:sizeLine=16777216:=sizeLine_eq
 cases x with
 |str y=>
  obtain⟨t,rfl⟩:=rx
  obtain⟨hy,e'⟩:y.length≤sizeLine∧n=y.length:=e
  subst e'
  exact len_str (by omega) ⟨.int _,H,I.tok _,⟨_,rfl⟩,q⟩
 |byt y=>
  obtain⟨t,rfl⟩:=rx
  obtain⟨hy,e'⟩:y.size≤sizeLine∧n=y.size:=e
  subst e'
  exact PySem.W.len_bytes (by omega) ⟨.int _,H,I.tok _,⟨_,rfl⟩,q⟩
 |ref p=>
  cases rx
  have e':(∃xs,SqL X.K H p xs∧n=xs.length)∨∃xs,SqT X.K H p xs∧n=xs.length:=e
  rcases e' with ⟨xs,hx,e'⟩|⟨xs,hx,e'⟩
  ·subst e'
   obtain⟨its,r',pl,hz⟩:=I.list hx
   have hlen:=r'.length
   exact Calls.call_len_list pl.isList (by simp only[dn];omega) ⟨.int xs.length,H,I.tok _,⟨_,by simp only[dn];rw[hlen]⟩,q⟩
  ·subst e'
   obtain⟨its,r',pl,hz⟩:=I.tuple hx
   have hlen:=r'.length
   exact len_tuple pl (by simp only[dn];omega) ⟨.int xs.length,H,I.tok _,⟨_,by simp only[dn];rw[hlen]⟩,q⟩
 |_=>exact (show False from e).elim
end
structure gq (h:Heap)(x dx C:Addr)(mA:Str→Option Value):Prop where
 obj:h.get? x=some (PySem.W.instObj C dx)
 ns:h.Ns1 dx mA
 ne:dx≠x
theorem pT {h:Heap}{dx:Addr}{mA:Str→Option Value}(n:h.Ns1 dx mA):∃od,h.get? dx=some od∧∀name,PySem.W.lookIn name od=some (mA name):=by
 obtain⟨o,es,ep,ho,hd,hk,_,hm⟩:=n
 refine⟨o,ho,fun name=>?_⟩
 have e:=hm name
 unfold nsFind findBy at e
 rw[←Array.find?_toList] at e
 unfold PySem.W.lookIn
 rw[hd]
 dsimp only
 split
 ·rename_i y q
  rw[q] at e
  exact congrArg some e
 ·rename_i q
  rw[q] at e
  have a:es.toList.any (·.refKey)=false:=by
   rw[List.any_eq_false]
   intro y hy
   obtain⟨z,t,hkey⟩:=hk y (cK.mp hy)
   simp[DictEntry.refKey,hkey]
  have a':¬es.toList.any (·.refKey)=true:=by rw[a];exact dr
  rw[if_neg a']
  exact congrArg some e
theorem gq.look {h:Heap}{x dx C:Addr}{mA:Str→Option Value}(I:gq h x dx C mA):∃od,PySem.W.InstAt h x (PySem.W.instObj C dx) C (some od)∧∀name,PySem.W.lookIn name od=some (mA name):=
 let ⟨od,ho,hl⟩:=pT I.ns
 ⟨od,⟨I.obj,rfl,rfl,ho⟩,hl⟩
section
variable {prog:Program}{w:World}{A:Around}{E:Value→Shared→Prop}{s:Shared}{K:PySem.W.Frag}{x dx C f:Addr}{mA:Str→Option Value}{name:Str}{v:Value}
end
theorem uw.some_of {v:V}{o:Option Value}(r:uw (some v) o):∃u,o=some u∧RelV v u:=by
 cases o with
 |none=>exact (show False from r).elim
 |some u=>exact⟨u,rfl,r⟩
section
variable {P:Program}{w:World}{H H':Hp}{h h':Heap}{a C dx:Addr}{fs fs':List (Str×V)}
theorem jg (hok:HOk P w H h)(e:H a=some (.ins C dx fs)):∃mA,gq h a dx C mA∧(∀f,uw (fs.lookup f) (mA f))∧PySem.Within mA (fs.map (·.1))∧fs.length≤1000∧H dx=some (.own a):=by
 obtain⟨d,z,ne,ob,mA,n,r,q⟩:=(show yc P w H h a (.ins C dx fs) from hok a _ e)
 exact⟨mA,⟨ob,n,ne⟩,r,q,z,d⟩
end
structure Cls (K:PySem.W.Frag)(C:Addr):Prop where
 pg:PySem.W.plainGet K C Str.empty=true
 hd:PySem.W.hasDictIn K C=true
 po:PySem.W.plainOver K C=true
 sa:PySem.W.findIn K (.ref C) "__setattr__"=some (some (.builtin "object.__setattr__"))
theorem Cls.get {K:PySem.W.Frag}{C:Addr}(c:Cls K C)(f:Str):PySem.W.plainGet K C f=true:=c.pg
section
variable {X:Cx}{pins:List (Addr×Obj)}{σ:St}{H:Hp}{s:Shared}{a C dx:Addr}{fs:List (Str×V)}{f:Str}{v:V}{A:Around}{E:Value→Shared→Prop}
end
section
variable {X:Cx}{o e value:Expr}{f:Str}{pos pos' tpos:Pos}{ta tv:TE}
end
section
variable {X:Cx}{pins:List (Addr×Obj)}{σ:St}{H:Hp}{s:Shared}{A:Around}{E:Value→Shared→Prop}{Q:Value→Shared→Prop}{c:Value}{b:Bool}
inductive vg (K:PySem.W.Frag)(H:Hp):V→Value→Prop where
 |non:vg K H .non (.type "NoneType")
 |bl (x:Bool):vg K H (.bl x) (.type "bool")
 |int (i:Int):vg K H (.int i) (.type "int")
 |str (x:Str):vg K H (.str x) (.type "str")
 |flt (x:UInt64):vg K H (.flt x) (.type "float")
 |lst {a:Addr} {xs:List V} (e:H a=some (.lst xs)):vg K H (.ref a) (.type "list")
 |frz {a:Addr} {o:Obj} {xs:List V} (e:H a=some (.frz o (.lst xs))):vg K H (.ref a) (.type "list")
 |tup {a:Addr} {xs:List V} (e:H a=some (.tup xs)):vg K H (.ref a) (.type "tuple")
 |dK {a:Addr} {kvs:List (Key×V)} (e:H a=some (.dK kvs)):vg K H (.ref a) (.type "dict")
 |dT {a:Addr} {kvs:List (List Key×V)} (e:H a=some (.dT kvs)):vg K H (.ref a) (.type "dict")
 |ins {a C dx:Addr} {fs:List (Str×V)} (e:H a=some (.ins C dx fs)) (cl:Cls K C) (ha:PySem.W.findIn K (.ref C) "__class__"=some (some (.builtin "object.__class__")))
   (hn:PySem.W.specialIn K (.builtin "object.__class__") "__get__"=some (some (.builtin "getset_descriptor.__get__"))) (htk:PySem.W.takesIn K (.builtin "object.__class__")=some true)
   (hm:PySem.W.mroIn K C (.type "object")=some true):vg K H (.ref a) (.ref C)
theorem oj {x:V}{u t:Value}(I:Inv X pins σ H s)(rx:RelV x u)(ty:vg X.K H x t)(e:PySem.W.kitOne X.K t c=some b)(h:∀tk,Q (.bool b) {s with toks:=tk}):
  wpAny (model X.prog X.w) A (call (.builtin "isinstance") [u,c]) Q E s:=by
 cases ty with
 |non=>cases (show u=Value.none from rx);exact cp PySem.W.kitx_none I.kIn True.intro e (fun z=>nomatch z) h
 |bl y=>cases (show u=Value.bool y from rx);exact cp PySem.W.kitx_bool I.kIn True.intro e (fun z=>nomatch z) h
 |int i=>obtain⟨t,q⟩:=(show ∃t,u=Value.int i t from rx);cases q;exact cp PySem.W.kitx_int I.kIn True.intro e (fun z=>nomatch z) h
 |str y=>obtain⟨t,q⟩:=(show ∃t,u=Value.str y t from rx);cases q;exact cp PySem.W.kitx_str I.kIn True.intro e (fun z=>nomatch z) h
 |flt y=>obtain⟨t,q⟩:=(show ∃t,u=Value.float y t from rx);cases q;exact cp PySem.W.kitx_float I.kIn True.intro e (fun z=>nomatch z) h
 |@lst a xs ea=>
  cases (show u=Value.ref a from rx)
  obtain⟨_,_,n,_,h1⟩:=(show yc X.prog X.w H s.heap a (.lst xs) from I.hok a _ ea)
  exact cp PySem.W.kitx_list I.kIn ⟨_,h1,rfl⟩ e (fun z=>nomatch z) h
 |@frz a ob xs ea=>
  cases (show u=Value.ref a from rx)
  obtain⟨_,_,_,n,_,h1⟩:=(show yc X.prog X.w H s.heap a (.frz ob (.lst xs)) from I.hok a _ ea)
  exact cp PySem.W.kitx_list I.kIn ⟨_,h1,rfl⟩ e (fun z=>nomatch z) h
 |@tup a xs ea=>
  cases (show u=Value.ref a from rx)
  obtain⟨_,_,_,p⟩:=(show yc X.prog X.w H s.heap a (.tup xs) from I.hok a _ ea)
  obtain⟨o,h1,h2,_⟩:=p
  exact cp PySem.W.kitx_tuple I.kIn ⟨o,h1,h2⟩ e (fun z=>nomatch z) h
 |@dK a kvs ea=>
  cases (show u=Value.ref a from rx)
  obtain⟨_,_,vs,_,p⟩:=(show yc X.prog X.w H s.heap a (.dK kvs) from I.hok a _ ea)
  obtain⟨o,es,ep,h1,h2,_⟩:=p
  exact cp PySem.W.kitx_dict I.kIn ⟨o,h1,h2.1⟩ e (fun z=>nomatch z) h
 |@dT a kvs ea=>
  cases (show u=Value.ref a from rx)
  obtain⟨_,_,xs,_,o,es,ep,h1,h2,_⟩:=(show yc X.prog X.w H s.heap a (.dT kvs) from I.hok a _ ea)
  exact cp PySem.W.kitx_dict I.kIn ⟨o,h1,h2.1⟩ e (fun z=>nomatch z) h
 |@ins a C dx fs ea cl ha hn htk hm=>
  cases (show u=Value.ref a from rx)
  obtain⟨mA,O,_⟩:=jg I.hok ea
  obtain⟨od,J,_⟩:=O.look
  exact cp (PySem.W.kitx_own (cl.get _) cl.hd ha hn htk hm) I.kIn J e (fun z=>nomatch z) h
end
structure yq (k:Nat)(A:Around):Prop where
 hd:A.handled=none
 dp:A.depth+3*k+5<recursionLimit
 un:A.units+16*k+200<cLine
 gd:A.guards=some []
theorem yq.mono {j k:Nat}{A:Around}(r:yq k A)(h:j≤k):yq j A:=⟨r.hd,by have:=r.dp;omega,by have:=r.un;omega,r.gd⟩
theorem yq.deeper {k:Nat}{A:Around}(r:yq (k+1) A)(env:Env):yq k (A.deeper env):=
 ⟨r.hd,by have:=r.dp;show A.depth+1+3*k+5<_;omega,by have:=r.un;show A.units+3+16*k+200<_;omega,r.gd⟩
theorem yq.depth {k:Nat}{A:Around}(r:yq k A):A.depth<recursionLimit:=by have:=r.dp;omega
theorem yq.units {k:Nat}{A:Around}(r:yq k A):A.units+64<cLine:=by have:=r.un;omega
def eJ :TA:=fun _ H Q=>Q [] H
def fA (ta:TE)(tr:TA):TA:=fun σ H Q=>ta σ H fun x H1=>tr σ H1 fun xs H2=>Q (x::xs) H2
section
variable {X:Cx}{e:Expr}{es:List Expr}{te:TE}{t:TA}{pos:Pos}
theorem zt :PA X [] eJ:=fun _ _ _ _ H Q I h=>Calls.spliced_nil ⟨[],H,I,.nil,h⟩
theorem ze (ha:PE X e te)(hr:PA X es t)(hs:starEach (e::es) X.env=(false,eval e X.env)::starEach es X.env:=by rfl):PA X (e::es) (fA te t):=by
 intro pos pins s σ H Q I h
 rw[hs]
 show wpAny _ _ (spliced ((false,eval e X.env)::backTo pos (starEach es X.env))) _ _ s
 refine Calls.spliced_cons (thn (ha pins s σ H _ I h) fun u s1 ⟨x,H1,I1,r1,q1⟩=>?_)
 exact thn (hr pos pins s1 σ H1 _ I1 q1) fun us s2 ⟨xs,H2,I2,r2,q2⟩=>⟨x::xs,H2,I2,.cons r1 r2,q2⟩
def eo (t:TA):TE:=fun σ H Q=>t σ H fun xs H1=>xs.length≤sizeLine∧∀p,H1 p=none→Q (.ref p) (upd H1 p (.tup xs))
def eH (t:TA):TE:=fun σ H Q=>t σ H fun xs H1=>xs.length≤sizeLine∧∀p,H1 p=none→Q (.ref p) (upd H1 p (.lst xs))
theorem oZ {x1}(h:PA X es t):PE X (.Tuple es x1 pos) (eo t):=by
 intro pins s σ H Q I hq
 refine wpAny_Tuple_spliced (thn (h pos pins s σ H _ I hq) fun us s1 ⟨xs,H1,I1,r,z,q⟩=>⟨by rw[←r.length];exact z,?_⟩)
 have hf:H1 s1.heap.objs.size=none:=I1.hok.fresh (dC _)
 refine⟨.ref s1.heap.objs.size,upd H1 s1.heap.objs.size (.tup xs),I1.laid (t':=s1.toks) (fun b u e=>dF _ e) (dC _) ?_,rfl,q _ hf⟩
 exact⟨z,us,r,⟨_,dZ _ rfl,rfl,_,rfl⟩⟩
theorem nN (h:PA X es t):PE X (.List es pos) (eH t):=by
 intro pins s σ H Q I hq
 refine wpAny_List_spliced (thn (h pos pins s σ H _ I hq) fun us s1 ⟨xs,H1,I1,r,z,q⟩=>⟨by rw[←r.length];exact z,?_⟩)
 have hf:H1 s1.heap.objs.size=none:=I1.hok.fresh (dC _)
 refine⟨.ref s1.heap.objs.size,upd H1 s1.heap.objs.size (.lst xs),I1.laid (t':=s1.toks) (fun b u e=>dF _ e) (dC _) ?_,rfl,q _ hf⟩
 exact⟨z,us,0,r,dZ _ rfl⟩
end
abbrev Sp :=List V→Hp→VK→XK→Prop
abbrev CXT :=List Env→Hp→Shared→XK→Value→Shared→Prop
structure jl (P:Program)(w:World)(K:PySem.W.Frag)(mg:Str→Option Value)(base:Heap)(A:Around)(outer:List Env)(s:Shared)(H:Hp):Prop where
 frames:A.frames=some outer
 mod:Mod K mg base
 bs:∀b o,base.get? b=some o→s.heap.get? b=some o∧H b=none
 bsz:base.objs.size≤s.heap.objs.size
 funs:s.heap.FunFrames base outer
 frf:∀b∈frs outer,H b=none
 hok:HOk P w H s.heap
 bare:AllBare s.gens
def CE (outer:List Env)(P:Program)(w:World)(H:Hp)(s:Shared)(Q:VK)(u:Value)(s':Shared):Prop:=
 ∃v H',s'.os=s.os∧AllBare s'.gens∧Un (frs outer) [] H H' s.heap s'.heap∧HOk P w H' s'.heap∧RelV v u∧Q v H'
def CR (CX:CXT)(outer:List Env)(P:Program)(w:World)(H:Hp)(s:Shared)(Q:VK)(E:XK)(r:Result)(s':Shared):Prop:=
 match r with
 |.ok (.ret u)=>CE outer P w H s Q u s'
 |.ok _=>False
 |.error e=>CX outer H s E e s'
structure zK (P:Program)(w:World)(K:PySem.W.Frag)(mg:Str→Option Value)(base:Heap)(CX:CXT)(k:Nat)(f:Addr)(fd:FuncData)(ps:List Str)(sp:Sp):Prop where
 len:∀vs H Q E,sp vs H Q E→vs.length=ps.length
 run:∀(A:Around) (outer:List Env) (s:Shared) (H:Hp) (args:Args) (us:List Value) (vs:List V) (Q:VK) (E:XK),yq k A→jl P w K mg base A outer s H→BindsTo s fd args (ps.zip us)→Vals vs us→sp vs H Q E→
  codeAny (model P w) A (.call (.ref f) args) (CR CX outer P w H s Q E) s
theorem zK.imp {P:Program}{w:World}{K:PySem.W.Frag}{mg:Str→Option Value}{base:Heap}{CX:CXT}{k:Nat}{f:Addr}{fd:FuncData}{ps:List Str}{sp sp':Sp}(F:zK P w K mg base CX k f fd ps sp)
  (h:∀vs H Q E,sp' vs H Q E→sp vs H Q E):zK P w K mg base CX k f fd ps sp':=
 ⟨fun vs H Q E q=>F.len vs H Q E (h _ _ _ _ q),fun A outer s H args us vs Q E hr he hb hv hs=>F.run A outer s H args us vs Q E hr he hb hv (h _ _ _ _ hs)⟩
section
variable {X:Cx}{pins:List (Addr×Obj)}{σ:St}{H:Hp}{s s':Shared}
theorem Inv.env0 (I:Inv X pins σ H s):jl X.prog X.w X.K X.mg X.base X.A X.stack s H:=
 ⟨I.ok.frames,I.ok.mod,I.bs,dq I.ok.bsz I.sz,I.stack,I.stkFree,I.hok,I.bare⟩
theorem Inv.after {Q:VK}{u:Value}(I:Inv X pins σ H s)(h:CE X.stack X.prog X.w H s Q u s'):EP X pins σ Q u s':=by
 obtain⟨v,H',os,bare,un,hok,r,q⟩:=h
 obtain⟨hh,g,d,t,os'⟩:=s'
 obtain rfl:os'=s.os:=os
 exact⟨v,H',I.call (h':=hh) (g':=g) (d':=d) (t':=t) (ch:=[]) un hok bare (fun b z=>absurd z (by simp)),r,q⟩
end
def gY (sp:Sp)(dvs:List V)(E:XK)(t:TA):TE:=fun σ H Q=>t σ H fun vs H1=>sp (vs++dvs) H1 Q E
def Binds (K:PySem.W.Frag)(fd:FuncData)(ps:List Str)(ds:List Value):Prop:=
 ∀(s:Shared) (us:List Value),K.In s.heap→(us++ds).length=ps.length→BindsTo s fd ⟨us,[]⟩ (ps.zip (us++ds))
theorem Binds.all {K:PySem.W.Frag}{fd:FuncData}{ps:List Str}(h:∀us:List Value,us.length=ps.length→bindArgs fd ⟨us,[]⟩=pure (ps.zip us)):Binds K fd ps []:=fun s us _ hl=>by
 rw[List.append_nil] at hl ⊢
 exact .of_eq (h us hl)
def Passes (CX:CXT)(X:Cx)(E:XK):Prop:=∀(pins:List (Addr×Obj)) (σ:St) (H:Hp) (s:Shared) (e:Value) (s':Shared),Inv X pins σ H s→CX X.stack H s E e s'→X.xe e s'
section
variable {X:Cx}{CX:CXT}{k:Nat}{f C:Addr}{fd:FuncData}{ps:List Str}{sp:Sp}{dvs:List V}{ds:List Value}{E:XK}{x m:Str}{p pos apos:Pos}{e o:Expr}{es:List Expr}{ta:TE}{t:TA}
theorem iF {pins:List (Addr×Obj)}{σ:St}{H:Hp}{s:Shared}{Q:VK}{us:List Value}{vs:List V}(F:zK X.prog X.w X.K X.mg X.base CX k f fd ps sp)(hr:yq k X.A)(hb:Binds X.K fd ps ds)(hd:Vals dvs ds)(hx:Passes CX X E)
  (I:Inv X pins σ H s) (r:Vals vs us) (h:sp (vs++dvs) H Q E):wpAny (model X.prog X.w) X.A (call (.ref f) us) (EP X pins σ Q) X.xe s:=by
 have r2:Vals (vs++dvs) (us++ds):=r.append hd
 have hl:(us++ds).length=ps.length:=by rw[←r2.length];exact F.len _ _ _ _ h
 refine wpAny_call (codeAny_mono (F.run X.A X.stack s H ⟨us,[]⟩ (us++ds) (vs++dvs) Q E hr I.env0 (hb s us I.kIn hl) r2 h) fun r s' hq=>?_)
 cases r with
 |error e=>exact hx pins σ H s e s' I hq
 |ok fl=>
  cases fl with
  |ret u=>exact I.after hq
  |next=>exact False.elim hq
  |brk=>exact False.elim hq
  |cont=>exact False.elim hq
theorem zG (F:zK X.prog X.w X.K X.mg X.base CX k f fd ps sp)(hr:yq k X.A)(hg:Gl X x)(hm:X.mg x=some (.ref f))(hk:PySem.W.keepIn X.K (.ref f)=true)(hb:Binds X.K fd ps ds)(hd:Vals dvs ds)(hx:Passes CX X E)
  (ha:PA X (e::es) t) (hdb:(x == ("__debug__":Str))=false:=by decide) (he:starEach (e::es) X.env=(false,eval e X.env)::starEach es X.env:=by rfl) (hpl:(backTo pos (starEach es X.env)).any (·.1)=false:=by rfl):
  PE X (.Call (.Name x p) (e::es) [] pos) (gY sp dvs E t):=by
 intro pins s σ H Q I h
 refine wpAny_Call_Name_kw (pF I hg hm ?_ hdb)
 refine PySem.W.callWith_K (h₀:=X.base) I.ok.mod.kin hk (thn (ha pos pins s σ H _ I h) fun us s1 ⟨vs,H1,I1,r,q⟩=>⟨I1.kIn,?_⟩) he hpl
 exact iF F hr hb hd hx I1 r q
end
section
variable {X:Cx}{CX:CXT}{k:Nat}{f C:Addr}{fd:FuncData}{ps ks:List Str}{sp:Sp}{E:XK}{x m:Str}{p pos apos kpos:Pos}{e o:Expr}{es:List Expr}{kws:List Keyword}{te ta:TE}{t tk:TA}{nm:Option Str}
variable {g:List Value→List Value→List Value}{gV:List V→List V→List V}
end
structure zi (N P:List Str)(sc:Scope):Prop where
 kind:sc.kind=.function
 co:sc.isCoroutine=false
 gen:sc.isGenerator=false
 nd:N.Nodup
 pre:N.take P.length=P
 par:∀x∈P,sc.names.lookup x=some .local∨sc.names.lookup x=some .cell
 nofree:∀y∈sc.names,y.2≠.free
theorem uW {kindOf:Str→Option NameKind}{x:Str}:∀{binds:List (Str×Value)} {m:Str→Option Value},(∀v,(x,v)∉binds)→bindL kindOf binds m x=m x
 |[],_,_=>rfl
 |(n,v)::r,m,h=>by
  unfold bindL
  rw[uW fun w hw=>h w (dA _ hw)]
  split
  ·have:x≠n:=by rintro rfl;exact h v dE
   simp[this]
  ·rfl
theorem uC {kindOf:Str→Option NameKind}{x:Str}:∀{binds:List (Str×Value)} {m:Str→Option Value},(∀v,(x,v)∉binds)→bindC kindOf binds m x=m x
 |[],_,_=>rfl
 |(n,v)::r,m,h=>by
  unfold bindC
  rw[uC fun w hw=>h w (dA _ hw)]
  split
  ·rfl
  ·have:x≠n:=by rintro rfl;exact h v dE
   simp[this]
theorem uG {kindOf:Str→Option NameKind}{x:Str}{v:Value}:∀{P:List Str} {vs:List Value} {i:Nat} {m:Str→Option Value},P.Nodup→P[i]?=some x→vs[i]?=some v→kindOf x=some .local→
  bindL kindOf (P.zip vs) m x=some v
 |[],_,_,_,_,h,_,_=>by simp at h
 |_::_,[],_,_,_,_,h,_=>by simp at h
 |p::P,w::vs,0,m,nd,h1,h2,hk=>by
  simp at h1 h2;subst h1;subst h2
  show bindL kindOf ((p,w)::P.zip vs) m p=_
  unfold bindL
  rw[uW fun v hv=>(bt.mp nd).1 (List.of_mem_zip hv).1,if_pos hk]
  simp
 |p::P,w::vs,i+1,m,nd,h1,h2,hk=>by
  show bindL kindOf ((p,w)::P.zip vs) m x=_
  unfold bindL
  exact uG (i:=i) (bt.mp nd).2 (by simpa using h1) (by simpa using h2) hk
theorem uL {kindOf:Str→Option NameKind}{x:Str}{v:Value}:∀{P:List Str} {vs:List Value} {i:Nat} {m:Str→Option Value},P.Nodup→P[i]?=some x→vs[i]?=some v→kindOf x≠some .local→
  bindC kindOf (P.zip vs) m x=some v
 |[],_,_,_,_,h,_,_=>by simp at h
 |_::_,[],_,_,_,_,h,_=>by simp at h
 |p::P,w::vs,0,m,nd,h1,h2,hk=>by
  simp at h1 h2;subst h1;subst h2
  show bindC kindOf ((p,w)::P.zip vs) m p=_
  unfold bindC
  rw[uC fun v hv=>(bt.mp nd).1 (List.of_mem_zip hv).1,if_neg hk]
  simp
 |p::P,w::vs,i+1,m,nd,h1,h2,hk=>by
  show bindC kindOf ((p,w)::P.zip vs) m x=_
  unfold bindC
  exact uL (i:=i) (bt.mp nd).2 (by simpa using h1) (by simpa using h2) hk
def start (N:List Str)(vs:List V):St:=vs.map some++List.replicate (N.length-vs.length) none
def tj (CX:CXT)(P:Program)(w:World)(K:PySem.W.Frag)(mg:Str→Option Value)(base:Heap)(N:List Str)(qual:Str)(scope:Scope)(f:Addr)(cd:Value)(A:Around)(outer:List Env)(s:Shared)(H:Hp)(E:XK):Cx where
 prog:=P
 w:=w
 K:=K
 mg:=mg
 base:=base
 A:=A.deeper (envOfC qual scope s.heap.objs.size f cd)
 N:=N
 s₀:=s
 H₀:=H
 env:=envOfC qual scope s.heap.objs.size f cd
 outer:=outer
 stack:=envOfC qual scope s.heap.objs.size f cd::outer
 ex:=[]
 calm:=true
 fn:=fun _=>true
 pn:=[]
 xe:=fun e s'=>wpAny (model P w) (A.deeper (envOfC qual scope s.heap.objs.size f cd)) (leaving (envOfC qual scope s.heap.objs.size f cd) e) (fun _ s''=>CX outer H s E e s'') (fun e' s''=>CX outer H s E e' s'') s'
theorem sT {sc:Scope}{n:Nat}{x:Str}(h:sc.names.lookup x=some .cell):∃c,(cellsFrom n sc.names []).lookup x=some c:=by
 have q:=PySem.W.cellsFrom_some sc.names n [] (.inl h)
 exact Option.isSome_iff_exists.mp q
theorem oJ {CX:CXT}{P:Program}{w:World}{K:PySem.W.Frag}{mg:Str→Option Value}{base:Heap}{N ps:List Str}{qual:Str}{scope:Scope}{f:Addr}{cd:Value}{A:Around}{outer:List Env}{s s1:Shared}{H:Hp}{E:XK}{us:List Value}{vs:List V}
  (S:zi N ps scope) (hd:A.handled=none) (e0:jl P w K mg base A outer s H) (hl:vs.length=ps.length) (r:Vals vs us)
  (x:InCallC s s.heap.objs.size (bindL (envOfC qual scope s.heap.objs.size f cd).kindOf (ps.zip us) fun _=>none) (cellsFrom (s.heap.objs.size+1) scope.names []) (bindC (envOfC qual scope s.heap.objs.size f cd).kindOf (ps.zip us) fun _=>none) s1):
  Inv (tj CX P w K mg base N qual scope f cd A outer s H E) [] (start N vs) H s1:=by
 have hpl:ps.length≤N.length:=by have:=congrArg List.length S.pre;rw[bp] at this;omega
 obtain⟨h1,tk,rfl,hk⟩:=x.done
 have noA:∀b:Addr,b∉(tj CX P w K mg base N qual scope f cd A outer s H E).ex:=fun b z=>absurd (show b∈([]:List Addr) from z) (by simp)
 refine⟨⟨e0.mod,S.kind,rfl,rfl,dC _,fun y z c h1 h2=>?_,fun y hy=>?_,fun y c _ h=>?_,fun _=>hd,Around.frames_deeper e0.frames,.inr ⟨rfl,rfl⟩,fun b z=>absurd z (noA b),e0.bs,e0.bsz,fun b _ _=>noA b,fun b z=>absurd z (noA b),e0.funs,e0.frf⟩,
  rfl,e0.bare,Un.kept hk,⟨_,x.toInCall.ns,fun i y v h1 h2 h3=>?_⟩,fun y c h=>⟨_,x.cell y c h⟩,e0.hok.fresh (dC _),fun y c h=>?_,fun p hp=>absurd (show p∈([]:List (Addr×Obj)) from hp) (by simp),e0.hok.kept hk,?_⟩
 ·exact name_of_addr x.apart (cu h1) (cu h2)
 ·have hy:scope.names.lookup y=some .cell∨scope.names.lookup y=some .free:=hy
  rcases hy with hy|hy
  ·exact sT hy
  ·exact absurd rfl (S.nofree _ (cu hy))
 ·exact cD (x.above y c (cu h))
 ·have hi:i<vs.length:=by
   unfold start at h2
   by_cases hi:i<vs.length
   ·exact hi
   ·rw[List.getElem?_append_right (by simpa using hi)] at h2
    rw[cG] at h2
    split at h2<;>cases h2
  have ha:vs[i]?=some v:=by
   unfold start at h2
   rw[cV (by simpa using hi),cc] at h2
   cases e:vs[i]? with
   |none=>rw[e] at h2;cases h2
   |some a=>rw[e] at h2;cases h2;rfl
  obtain⟨u,hu,rv⟩:=r.get ha
  have hp:ps[i]?=some y:=by
   rw[←S.pre,List.getElem?_take_of_lt (by omega)];exact h1
  have ndP:ps.Nodup:=by rw[←S.pre];exact S.nd.sublist (List.take_sublist _ _)
  refine⟨u,rv,?_⟩
  rcases S.par y (bu hp) with k|k
  ·exact .inl ⟨k,uG ndP hp hu k⟩
  ·obtain⟨c,e⟩:=sT (n:=s.heap.objs.size+1) k
   refine .inr ⟨.inl k,c,e,?_⟩
   have q:=x.cell y c e
   rw[uL ndP hp hu (by show scope.names.lookup y≠_;rw[k];decide)] at q
   exact q
 ·exact e0.hok.fresh (cD (x.above y c (cu h)))
 ·unfold start
  show _=N.length
  rw[cN,dB,List.length_replicate]
  omega
theorem eh {CX:CXT}{P:Program}{w:World}{K:PySem.W.Frag}{mg:Str→Option Value}{base:Heap}{k:Nat}{f:Addr}{name qual:Str}{params:Arguments}{body:List Stmt}{scope:Scope}{dV kV doc pm cdv ct oc:Value}{an od:Option Addr}
  {osl:Array (Option Value)} {N ps:List Str} {sp:Sp} (lk:K.lookup f=some ⟨oc,od,.func (PySem.W.fnOf name qual params body scope dV kV doc pm an cdv ct),osl⟩) (hcd:PySem.W.codeIn K cdv qual=true) (S:zi N ps scope)
  (len:∀vs H Q E,sp vs H Q E→vs.length=ps.length)
  (hbody:∀(A:Around) (outer:List Env) (s:Shared) (H:Hp) (vs:List V) (Q:VK) (E:XK),yq k (A.deeper (envOfC qual scope s.heap.objs.size f cdv))→sp vs H Q E→
   ∃t,PSs (tj CX P w K mg base N qual scope f cdv A outer s H E) body t∧t {nx:=fun _ H'=>Q .non H',rt:=Q} (start N vs) H):
  zK P w K mg base CX (k+1) f (PySem.W.fnOf name qual params body scope dV kV doc pm an cdv ct) ps sp:=by
 refine⟨len,fun A outer s H args us vs Q E hr e0 hb r hsp=>?_⟩
 have hl:=len _ _ _ _ hsp
 have KX:K.In s.heap:=e0.mod.kin.keeps fun b o e=>(e0.bs b o e).1
 have lim:s.heap.NoLimit:=e0.mod.nolimit.keeps fun b o e=>(e0.bs b o e).1
 have hkind:∀y∈ps.zip us,scope.names.lookup y.1=some .local∨(scope.names.lookup y.1=some .cell∧((cellsFrom (s.heap.objs.size+1) scope.names []).lookup y.1).isSome=true):=fun⟨n,v⟩ hy=>by
  rcases S.par n (List.of_mem_zip hy).1 with q|q
  ·exact .inl q
  ·exact .inr ⟨q,PySem.W.cellsFrom_some _ _ _ (.inl q)⟩
 refine codeAny_call_function hr.depth (KX _ _ lk) rfl S.co S.gen rfl (PySem.W.codeRec_of KX hcd) (hb _ _ _ _ ?_)
 refine wpAny_newFunctionEnv_cells S.kind hkind fun env he s1 x=>?_
 subst he
 refine⟨lim.keeps x.toInCall.keep,codeAny_func ?_⟩
 obtain⟨t,ht,hq⟩:=hbody A outer s H vs Q E (hr.deeper _) hsp
 have I:Inv (tj CX P w K mg base N qual scope f cdv A outer s H E) [] (start N vs) H s1:=oJ S hr.hd e0 hl r x
 refine cn (ht [] s1 (start N vs) H _ I hq) (fun fl s' hs=>?_) fun e s' hs=>hs
 have fin:∀{σ':St} {H':Hp} {v:V} {u:Value},Inv (tj CX P w K mg base N qual scope f cdv A outer s H E) [] σ' H' s'→RelV v u→Q v H'→CE outer P w H s Q u s':=
  fun {σ' H' v u} J rv q=>⟨v,H',J.os,J.bare,J.base,J.hok,rv,q⟩
 cases fl with
 |ret u=>
  obtain⟨v,σ',H',J,rv,q⟩:=hs
  exact fin J rv q
 |next=>
  obtain⟨σ',H',J,q⟩:=hs
  exact fin (v:=V.non) (u:=Value.none) J rfl q
 |brk=>
  obtain⟨_,_,_,q⟩:=hs
  exact False.elim q
 |cont=>
  obtain⟨_,_,_,q⟩:=hs
  exact False.elim q
section
variable {X:Cx}{x:Str}{p pos:Pos}{e:Expr}{es:List Expr}{t:TA}{id T:String}{r:List V→Hp→VK→Prop}
def tCB (r:List V→Hp→VK→Prop)(t:TA):TE:=fun σ H Q=>t σ H fun vs H1=>r vs H1 Q
theorem yt (hc:xr X (.builtin id) r)(hg:Gl X x)(hm:X.mg x=none)(hv:bootBuiltins x=some (.builtin id))(ha:PA X (e::es) t)(hn:x≠"__name__":=by decide)(hdb:(x == ("__debug__":Str))=false:=by decide)
  (he:starEach (e::es) X.env=(false,eval e X.env)::starEach es X.env:=by rfl) (hpl:(backTo pos (starEach es X.env)).any (·.1)=false:=by rfl):PE X (.Call (.Name x p) (e::es) [] pos) (tCB r t):=by
 intro pins s σ H Q I h
 refine wpAny_Call_Name_kw (tF I hg hm hv ?_ hn hdb)
 exact PyProof.Rows.callWith_builtin1 (thn (ha pos pins s σ H _ I h) fun us s1 ⟨vs,H1,I1,r1,q1⟩=>hc pins s1 σ H1 vs us Q I1 r1 q1) he hpl
theorem vp (hc:xr X (.type T) r)(hg:Gl X x)(hm:X.mg x=none)(hv:bootBuiltins x=some (.type T))(ha:PA X (e::es) t)(hn:x≠"__name__":=by decide)(hdb:(x == ("__debug__":Str))=false:=by decide)
  (he:starEach (e::es) X.env=(false,eval e X.env)::starEach es X.env:=by rfl) (hpl:(backTo pos (starEach es X.env)).any (·.1)=false:=by rfl):PE X (.Call (.Name x p) (e::es) [] pos) (tCB r t):=by
 intro pins s σ H Q I h
 refine wpAny_Call_Name_kw (tF I hg hm hv ?_ hn hdb)
 exact PyProof.Rows.callWith_type1 (thn (ha pos pins s σ H _ I h) fun us s1 ⟨vs,H1,I1,r1,q1⟩=>hc pins s1 σ H1 vs us Q I1 r1 q1) he hpl
end
end L2
namespace HT
open PySem PyProof.Rows
section
open PySem.SeqAt
open PySem.AutoSeq1 (wpAny_loadPart')
open PySem.MeetsSeq PySem.MeetsSeq2 PySem.MeetsSeq3
end
section
variable {prog:Program}{w:World}{A:Around}{E:Value→Shared→Prop}{s:Shared}
def sIx (n d:Nat):Option Int→Nat
 |none=>d
 |some v=>if v<0 then (v+(n:Int)).toNat else min v.toNat n
theorem mf (n d:Nat):sIx n d none=d:=rfl
theorem sA (n d k:Nat):sIx n d (some (k:Int))=min k n:=by
 show (if (k:Int)<0 then ((k:Int)+(n:Int)).toNat else min (k:Int).toNat n)=min k n
 rw[if_neg (by omega),Int.toNat_natCast]
end
end HT
namespace L2
open PySem PySem.Spec PyProof.Rows
abbrev TO :=St→Hp→(Option Int→Hp→Prop)→Prop
def PO (X:Cx)(e:Option Expr)(t:TO):Prop:=
 ∀(pins:List (Addr×Obj)) (s:Shared) (σ:St) (H:Hp) (Q:Option Int→Hp→Prop),Inv X pins σ H s→t σ H Q→
  wpAny (model X.prog X.w) X.A (evalPart e X.env) (fun u s'=>∃o H',Inv X pins σ H' s'∧IsPart u o∧Q o H') X.xe s
def kl :TO:=fun _ H Q=>Q none H
def gU (t:TE):TO:=fun σ H Q=>t σ H fun x H1=>∃i,x=.int i∧Q (some i) H1
section
variable {X:Cx}{e:Expr}{te:TE}{lo hi:Option Expr}{tl th:TO}{pos p2:Pos}
theorem qQ :PO X none kl:=by
 intro pins s σ H Q I h
 rw[evalPart_none]
 exact cq ⟨none,H,I,.none,h⟩
theorem qR (h:PE X e te):PO X (some e) (gU te):=by
 intro pins s σ H Q I hw
 rw[evalPart_some]
 refine thn (h pins s σ H _ I hw) fun u s1 ⟨x,H1,I1,r1,q1⟩=>?_
 obtain⟨i,rfl,q⟩:=q1
 obtain⟨t,rfl⟩:=r1
 exact⟨some i,H1,I1,.int i t,q⟩
def SlR (X:Cx)(r:V→Option Int→Option Int→Hp→VK→Prop):Prop:=
 ∀(pins:List (Addr×Obj)) (s:Shared) (σ:St) (H:Hp) (x:V) (v vl vu:Value) (lo hi:Option Int) (sl:Addr) (Q:VK),Inv X pins σ H s→RelV x v→s.heap.IsSliceOf sl vl vu .none→IsPart vl lo→IsPart vu hi→r x lo hi H Q→
  ∃T id,typeLookup (.type T) "__getitem__"=pure (some (.builtin id))∧s.TypeIs v T∧wpAny (model X.prog X.w) X.A (getItem v (.ref sl)) (EP X pins σ Q) X.xe s
def tSl (r:V→Option Int→Option Int→Hp→VK→Prop)(te:TE)(tl th:TO):TE:=fun σ H Q=>te σ H fun x H1=>tl σ H1 fun l H2=>th σ H2 fun u H3=>r x l u H3 Q
theorem uo {r:V→Option Int→Option Int→Hp→VK→Prop}(hr:SlR X r)(he:PE X e te)(hl:PO X lo tl)(hu:PO X hi th):PE X (.Subscript e (.Slice lo hi none p2) pos) (tSl r te tl th):=by
 intro pins s σ H Q I h
 refine Subscript_ (thn (he pins s σ H _ I h) fun v s1 ⟨x,H1,I1,r1,q1⟩=>?_)
 refine wpAny_Slice (thn (hl pins s1 σ H1 _ I1 q1) fun vl s2 ⟨l,H2,I2,pl,q2⟩=>thn (hu pins s2 σ H2 _ I2 q2) fun vu s3 ⟨u,H3,I3,pu,q3⟩=>?_)
 rw[evalPart_none]
 refine cq ?_
 have I4:Inv X pins σ H3 {s3 with heap:=s3.heap.push {cls:=.type "slice",data:=.fields #[vl,vu,.none]}}:=I3.kept (t':=s3.toks) fun b ob q=>dF _ q
 obtain⟨T,id,hT,ht,hg⟩:=hr pins {s3 with heap:=s3.heap.push {cls:=.type "slice",data:=.fields #[vl,vu,.none]}} σ H3 x v vl vu l u s3.heap.objs.size Q I4 r1 (Heap.IsSliceOf.new ..) pl pu q3
 show wpAny (model X.prog X.w) X.A (subscriptTail e (.Slice lo hi none p2) v (.ref s3.heap.objs.size)) (EP X pins σ Q) X.xe {s3 with heap:=s3.heap.push {cls:=.type "slice",data:=.fields #[vl,vu,.none]}}
 exact tail_any (ops:=[.ref s3.heap.objs.size,v]) ht hT hg (by with_unfolding_all rfl)
def sY (xs:List V)(lo hi:Option Int):List V:=(xs.drop (HT.sIx xs.length 0 lo)).take (HT.sIx xs.length xs.length hi-HT.sIx xs.length 0 lo)
theorem rf (xs:List V)(lo hi:Option Int):(sY xs lo hi).length≤xs.length:=by
 unfold sY
 rw[bp,List.length_drop]
 omega
end
def ixN (n:Nat)(i:Int):Option Nat:=if 0≤i then (if i<n then some i.toNat else none) else if -(n:Int)≤i then some (i+n).toNat else none
def atI {α:Type}(xs:List α)(i:Int):Option α:=(ixN xs.length i).bind fun j=>xs[j]?
theorem sH {n:Nat}{i:Int}{j:Nat}(h:ixN n i=some j):seqIndex? i n=some j∧j<n∧-(n:Int)≤i∧i<n:=by
 unfold ixN at h
 by_cases h0:0≤i
 ·rw[if_pos h0] at h
  by_cases h1:i<n
  ·rw[if_pos h1] at h
   have e:i.toNat=j:=dM h
   exact⟨by rw[seqIndex_of h0 h1,e],by omega,by omega,h1⟩
  ·rw[if_neg h1] at h;cases h
 ·rw[if_neg h0] at h
  by_cases h1:-(n:Int)≤i
  ·rw[if_pos h1] at h
   have e:(i+n).toNat=j:=dM h
   exact⟨by rw[seqIndex_neg (by omega) h1,e],by omega,h1,by omega⟩
  ·rw[if_neg h1] at h;cases h
theorem tq {α:Type}{xs:List α}{i:Int}{v:α}(h:atI xs i=some v):∃j,seqIndex? i xs.length=some j∧xs[j]?=some v∧j<xs.length∧-(xs.length:Int)≤i∧i<xs.length:=by
 unfold atI at h
 cases e:ixN xs.length i with
 |none=>rw[e] at h;cases h
 |some j=>
  rw[e] at h
  obtain⟨h1,h2,h3,h4⟩:=sH e
  exact⟨j,h1,h,h2,h3,h4⟩
theorem ym {α:Type}{xs:List α}{j:Nat}{v:α}(h:xs[j]?=some v):atI xs (j:Int)=some v:=by
 have hj:j<xs.length:=(dP.mp h).1
 have e:ixN xs.length (j:Int)=some j:=by
  unfold ixN
  rw[if_pos (by omega),if_pos (by omega)];simp
 unfold atI;rw[e];exact h
def vM (b:Expr):Prop:=∀o i,subscripted b false o i=operate [o,i] (getItem o i)
def IxR (X:Cx)(r:R2):Prop:=
 ∀(value slice:Expr) (pins:List (Addr×Obj)) (s:Shared) (σ:St) (H:Hp) (x y:V) (v u:Value) (Q:VK),Inv X pins σ H s→RelV x v→RelV y u→r x y H Q→
  subscripted slice false v u=operate [v,u] (getItem v u)→wpAny (model X.prog X.w) X.A (subscriptTail value slice v u) (EP X pins σ Q) X.xe s
def MtR (X:Cx)(id:String)(r:V→List V→Hp→VK→Prop):Prop:=
 ∀(pins:List (Addr×Obj)) (s:Shared) (σ:St) (H:Hp) (x:V) (xs:List V) (v:Value) (us:List Value) (Q:VK),Inv X pins σ H s→RelV x v→Vals xs us→r x xs H Q→
  wpAny (model X.prog X.w) X.A (call (.builtin id) (v::us)) (EP X pins σ Q) X.xe s
section
variable {X:Cx}{a b:Expr}{ta tb:TE}{pos:Pos}
theorem IxR.or {r r':R2}(h:IxR X r)(h':IxR X r'):IxR X (fun x y H Q=>r x y H Q∨r' x y H Q):=by
 intro value slice pins s σ H x y v u Q I rx ry q hs
 rcases q with q|q
 ·exact h value slice pins s σ H x y v u Q I rx ry q hs
 ·exact h' value slice pins s σ H x y v u Q I rx ry q hs
theorem yh {r:R2}(hr:IxR X r)(ha:PE X a ta)(hb:PE X b tb)(hs:vM b):PE X (.Subscript a b pos) (tOp r ta tb):=by
 intro pins s σ H Q I h
 exact Subscript_ (iu ha hb I h fun v u s2 x y H2 I2 rx ry q=>hr a b pins s2 σ H2 x y v u Q I2 rx ry q (hs _ _))
def iE (K:PySem.W.Frag):R2:=fun x y H Q=>∃p xs i v,x=.ref p∧y=.int i∧SqL K H p xs∧atI xs i=some v∧Q v H
def fV (K:PySem.W.Frag):R2:=fun x y H Q=>∃p xs i v,x=.ref p∧y=.int i∧SqT K H p xs∧atI xs i=some v∧Q v H
def fE :R2:=fun x y H Q=>∃z i c,x=.str z∧y=.int i∧z.length≤sizeLine∧atI z.cps.toList i=some c∧Q (.str ⟨#[c]⟩) H
theorem yS :IxR X (iE X.K):=by
 intro value slice pins s σ H x y v u Q I rx ry h hs
 obtain⟨p,xs,i,z,rfl,rfl,hq,he,q⟩:=h
 cases rx
 obtain⟨t,rfl⟩:=ry
 obtain⟨its,r,pl,hz⟩:=I.list hq
 obtain⟨j,h1,h2,h3,h4,h5⟩:=tq he
 obtain⟨w,ew,rw'⟩:=r.get h2
 have hl:=r.length
 have hn:=wJ
 have fin:EP X pins σ Q w s:=⟨z,H,I,rw',q⟩
 by_cases h0:0≤i
 ·have hj:i.toNat=j:=by
   rw[seqIndex_of h0 h5] at h1
   exact dM h1
  exact item_listR pl.isList h0 (by omega) (by rw[hj];simpa using ew) fin hs
 ·have hj:(i+(its.toArray.size:Int)).toNat=j:=by
   rw[seqIndex_neg (by omega) h4] at h1
   rw[dn,←hl]
   exact dM h1
  exact subscriptTail_builtinR (x:=w) pl.isList.typeIs slot_list_getitem.lookup
   (wpAny_getItem_list_neg (Q:=fun r s'=>r=w∧EP X pins σ Q r s') pl.isList (by omega) (by rw[dn]<;>omega) (by omega) (by rw[hj];simpa using ew) ⟨rfl,fin⟩) hs
theorem yO :IxR X (fV X.K):=by
 intro value slice pins s σ H x y v u Q I rx ry h hs
 obtain⟨p,xs,i,z,rfl,rfl,hq,he,q⟩:=h
 cases rx
 obtain⟨t,rfl⟩:=ry
 obtain⟨its,r,pl,hz⟩:=I.tuple hq
 obtain⟨j,h1,h2,h3,h4,h5⟩:=tq he
 obtain⟨w,ew,rw'⟩:=r.get h2
 have hl:=r.length
 have hn:=wJ
 have fin:EP X pins σ Q w s:=⟨z,H,I,rw',q⟩
 exact subscriptTail_builtinR (x:=w) pl.typeIs slot_tuple_getitem.lookup
  (getItem_tuple (j:=j) (Q:=fun r s'=>r=w∧EP X pins σ Q r s') pl (by omega) (by omega) (by rw[dn,←hl];exact h1) (by simpa using ew) ⟨rfl,fin⟩) hs
theorem nV :IxR X fE:=by
 intro value slice pins s σ H x y v u Q I rx ry h hs
 obtain⟨z,i,c,rfl,rfl,hz,he,q⟩:=h
 obtain⟨t,rfl⟩:=rx
 obtain⟨t',rfl⟩:=ry
 obtain⟨j,h1,h2,h3,h4,h5⟩:=tq he
 have hl:z.cps.toList.length=z.length:=by simp[Str.length]
 rw[hl] at h1 h4 h5
 have hn:=wJ
 exact tail_any (bw s z t) slot_str_getitem.lookup (getItem_str (c:=c) (by
  have e1:decide (i < -(2 ^ 63:Int))=false:=dh (by omega)
  have e2:decide (i≥2 ^ 63)=false:=dh (by omega)
  rw[e1,e2,Bool.or_false]) (by rw[h1];simpa using h2) ⟨.str ⟨#[c]⟩,H,I.tok _,⟨_,rfl⟩,q⟩) hs
def rIx (K:PySem.W.Frag):R2:=fun x y H Q=>iE K x y H Q∨fV K x y H Q∨fE x y H Q
theorem ik :IxR X (rIx X.K):=yS.or (yO.or nV)
theorem qx (its:List Value)(n j:Nat)(u:Value):Obj.mapSeq (·.setIfInBounds j u) {cls:=.type "list",data:=.seq its.toArray n}={cls:=.type "list",data:=.seq (its.set j u).toArray n}:=by
 simp[Obj.mapSeq]
theorem Inv.lst {pins:List (Addr×Obj)}{σ:St}{H:Hp}{s:Shared}{p:Addr}{xs:List V}(I:Inv X pins σ H s)(h:H p=some (.lst xs)):
  ∃(its:List Value) (n:Nat),Vals xs its∧s.heap.get? p=some {cls:=.type "list",data:=.seq its.toArray n}∧xs.length≤sizeLine:=by
 obtain⟨z,its,n,r,e⟩:=I.hok p _ h
 exact⟨its,n,r,e,z⟩
theorem Inv.lstUpd {pins:List (Addr×Obj)}{σ:St}{H:Hp}{s:Shared}{p:Addr}{xs ys:List V}{its its':List Value}{n n':Nat}{f:Obj→Obj}(I:Inv X pins σ H s)(h:H p=some (.lst xs))
  (ho:s.heap.get? p=some {cls:=.type "list",data:=.seq its.toArray n}) (hf:f {cls:=.type "list",data:=.seq its.toArray n}={cls:=.type "list",data:=.seq its'.toArray n'}) (r:Vals ys its') (hz:ys.length≤sizeLine) (t:Nat):
  Inv X pins σ (upd H p (.lst ys)) {s with heap:=s.heap.update p f,toks:=t}:=by
 have e:(s.heap.update p f).get? p=some {cls:=.type "list",data:=.seq its'.toArray n'}:=by
  rw[Heap.get?_update_self f ho (by rw[hf]<;>rfl),hf]
 refine I.write (x:=p) (e:=p) (by rw[h];trivial) (.inl rfl) (fun b u hb q=>(Heap.get?_update_other _ _ (Ne.symm hb)).trans q) ⟨_,e⟩ ?_
 exact⟨hz,its',n',r,e⟩
def pz :V→V→V→Hp→(Hp→Prop)→Prop:=fun o i v H Q=>∃p xs k j,o=.ref p∧i=.int k∧H p=some (.lst xs)∧ixN xs.length k=some j∧Q (upd H p (.lst (xs.set j v)))
theorem set_list :fU X pz:=by
 intro pins s σ H o i v ov iv u Q I ro ri rv h
 obtain⟨p,xs,k,j,rfl,rfl,hp,hj,q⟩:=h
 cases ro
 obtain⟨t,rfl⟩:=ri
 obtain⟨its,n,r,ho,hz⟩:=I.lst hp
 obtain⟨h1,h2,h3,h4⟩:=sH hj
 have hl:=r.length
 have hn:=wJ
 have I':Inv X pins σ (upd H p (.lst (xs.set j v))) {s with heap:=s.heap.update p (Obj.mapSeq (·.setIfInBounds j u))}:=
  I.lstUpd hp ho (qx its n j u) (r.set rv j) (by rw[cm];exact hz) s.toks
 by_cases h0:0≤k
 ·have hk:k.toNat=j:=by
   rw[seqIndex_of h0 h4] at h1
   exact dM h1
  exact PySem.W.ki_setAt ho h0 (by omega) (by rw[dn,←hl];exact h4) (by rw[hk];exact⟨_,I',q⟩)
 ·have hk:(k+(its.toArray.size:Int)).toNat=j:=by
   rw[seqIndex_neg (by omega) h3] at h1
   rw[dn,←hl]
   exact dM h1
  exact PySem.W.ki_setBack ho (by omega) (by rw[dn,←hl];exact h3) (by omega) (by rw[hk];exact⟨_,I',q⟩)
theorem tH (lo hi:Option Int)(n:Nat):(sliceBounds lo hi none n).1=((HT.sIx n 0 lo:Nat):Int)∧(sliceBounds lo hi none n).2.1=((HT.sIx n n hi:Nat):Int)∧(sliceBounds lo hi none n).2.2=1:=by
 refine⟨?_,?_,rfl⟩
 ·cases lo with
  |none=>simp[sliceBounds,HT.sIx]
  |some i=>
   simp only[sliceBounds,HT.sIx,Option.getD_none,show (1:Int) > 0 by decide,if_true]
   by_cases h:i<0
   ·simp only[h,if_true]<;>omega
   ·simp only[h,if_false]<;>omega
 ·cases hi with
  |none=>simp[sliceBounds,HT.sIx]
  |some i=>
   simp only[sliceBounds,HT.sIx,Option.getD_none,show (1:Int) > 0 by decide,if_true]
   by_cases h:i<0
   ·simp only[h,if_true]<;>omega
   ·simp only[h,if_false]<;>omega
theorem uA (its:List Value)(lo hi:Option Int):slicePick its.toArray lo hi none=((its.drop (HT.sIx its.length 0 lo)).take (HT.sIx its.length its.length hi-HT.sIx its.length 0 lo)).toArray:=by
 obtain⟨h1,h2,h3⟩:=tH lo hi its.toArray.size
 unfold slicePick
 rw[h1,h2,h3]
 simp only[sliceRange_one,pick_run,dn]<;>rfl
def ez (K:PySem.W.Frag):V→Option Int→Option Int→Hp→VK→Prop:=fun x lo hi H Q=>∃a xs,x=.ref a∧SqL K H a xs∧∀p,H p=none→Q (.ref p) (upd H p (.lst (sY xs lo hi)))
theorem pJ :SlR X (ez X.K):=by
 intro pins s σ H x v vl vu lo hi sl Q I rx hs pl pu h
 obtain⟨a,xs,rfl,hx,q⟩:=h
 cases rx
 obtain⟨its,r,ht,hz⟩:=I.list hx
 have hlen:=r.length
 refine⟨"list",_,slot_list_getitem.lookup,ht.isList.typeIs,?_⟩
 refine wpAny_getItem_list_slice ht.isList hs pl pu .none (by simp) ?_ (by rw[dn]<;>omega)
 rw[uA,←hlen]
 refine⟨.ref s.heap.objs.size,_,I.laid (t':=s.toks) (o:=.lst (sY xs lo hi)) (fun b ob q=>dF _ q) (dC _) ?_,rfl,q _ (I.hok.fresh (dC _))⟩
 exact⟨dq (rf xs lo hi) hz,_,0,(r.drop (HT.sIx xs.length 0 lo)).take (HT.sIx xs.length xs.length hi-HT.sIx xs.length 0 lo),dZ _ rfl⟩
def wo :V→Bool
 |.non=>true
 |.bl _=>true
 |.int _=>true
 |.str _=>true
 |_=>false
def eqV :V→V→Bool
 |.non,.non=>true
 |.bl a,.bl b=>a == b
 |.bl a,.int b=>(if a then 1 else 0)==b
 |.int a,.bl b=>a == (if b then 1 else 0)
 |.int a,.int b=>a == b
 |.str a,.str b=>a == b
 |_,_=>false
theorem iV {A:Around}{s:Shared}{y x:V}{u v:Value}(ry:RelV y u)(rx:RelV x v)(fy:wo y=true)(fx:wo x=true):SeqAt.EqAt A s u v (eqV y x):=by
 cases y with
 |non=>
  cases ry
  cases x with
  |non=>cases rx;exact SeqAt.EqAt.same _
  |bl b=>cases rx;exact SeqAt.EqAt.none_bool b
  |int b=>obtain⟨t,rfl⟩:=rx;exact SeqAt.EqAt.none_int b t
  |str b=>obtain⟨t,rfl⟩:=rx;exact SeqAt.EqAt.none_str b t
  |_=>exact absurd (show false=true from fx) dr
 |bl a=>
  cases ry
  cases x with
  |non=>cases rx;exact SeqAt.EqAt.bool_none a
  |bl b=>cases rx;exact SeqAt.EqAt.bool_bool a b
  |int b=>obtain⟨t,rfl⟩:=rx;exact SeqAt.EqAt.bool_int a b t
  |str b=>obtain⟨t,rfl⟩:=rx;exact SeqAt.EqAt.bool_str a b t
  |_=>exact absurd (show false=true from fx) dr
 |int a=>
  obtain⟨t',rfl⟩:=ry
  cases x with
  |non=>cases rx;exact SeqAt.EqAt.int_none a t'
  |bl b=>cases rx;exact SeqAt.EqAt.int_bool a t' b
  |int b=>obtain⟨t,rfl⟩:=rx;exact SeqAt.EqAt.int_int a t' b t
  |str b=>obtain⟨t,rfl⟩:=rx;exact SeqAt.EqAt.int_str a t' b t
  |_=>exact absurd (show false=true from fx) dr
 |str a=>
  obtain⟨t',rfl⟩:=ry
  cases x with
  |non=>cases rx;exact SeqAt.EqAt.str_none a t'
  |bl b=>cases rx;exact SeqAt.EqAt.str_bool a t' b
  |int b=>obtain⟨t,rfl⟩:=rx;exact SeqAt.EqAt.str_int a t' b t
  |str b=>obtain⟨t,rfl⟩:=rx;exact SeqAt.EqAt.str_str a t' b t
  |_=>exact absurd (show false=true from fx) dr
 |_=>exact absurd (show false=true from fy) dr
def eqU (x:V)(u:Value):Bool:=match u with
 |.none=>eqV .non x
 |.bool b=>eqV (.bl b) x
 |.int i _=>eqV (.int i) x
 |.str z _=>eqV (.str z) x
 |_=>false
theorem nL {x y:V}{u:Value}(r:RelV y u)(f:wo y=true):eqU x u=eqV y x:=by
 cases y with
 |non=>cases r;rfl
 |bl b=>cases r;rfl
 |int i=>obtain⟨t,rfl⟩:=r;rfl
 |str z=>obtain⟨t,rfl⟩:=r;rfl
 |_=>exact absurd (show false=true from f) dr
theorem vf {x:V}:∀{xs:List V} {us:List Value},Vals xs us→xs.all wo=true→us.any (eqU x)=xs.any fun y=>eqV y x
 |_,_,.nil,_=>rfl
 |y::xs,u::us,.cons r t,f=>by
  rw[bK,dG] at f
  rw[bL,bL,nL r f.1,vf t f.2]
theorem xW {A:Around}{s:Shared}{x:V}{v:Value}(rx:RelV x v)(fx:wo x=true):∀{xs:List V} {us:List Value},Vals xs us→xs.all wo=true→∀u∈us,SeqAt.EqAt A s u v (eqU x u)
 |_,_,.nil,_=>fun u hu=>by cases hu
 |y::xs,u::us,.cons r t,f=>fun u' hu=>by
  rw[bK,dG] at f
  rcases dm.mp hu with rfl|hu
  ·rw[nL r f.1];exact iV r rx f.1 fx
  ·exact xW rx fx t f.2 u' hu
def inV (x:V)(xs:List V):Bool:=xs.any fun y=>eqV y x
def rIn (K:PySem.W.Frag)(neg:Bool):R2:=fun x y H Q=>∃p xs,y=.ref p∧(SqL K H p xs∨SqT K H p xs)∧wo x=true∧xs.all wo=true∧Q (.bl (if neg then !inV x xs else inV x xs)) H
theorem uR :OpR X (compareOp .In) (rIn X.K false):=by
 intro pins s σ H x y v u Q I rx ry h
 obtain⟨p,xs,rfl,hq,fx,fs,q⟩:=h
 cases ry
 rcases hq with hq|hq
 ·obtain⟨its,r,pl,hz⟩:=I.list hq
  refine SeqAt.in_listAt (eqU x) pl.isList (fun w hw=>xW rx fx r fs w (by simpa using hw)) ⟨.bl _,H,I,rfl,?_⟩
  rw[show its.toArray.any (eqU x)=its.any (eqU x) by simp,vf r fs]
  exact q
 ·obtain⟨its,r,pl,hz⟩:=I.tuple hq
  refine SeqAt.in_tupleAt (eqU x) pl (fun w hw=>xW rx fx r fs w (by simpa using hw)) ⟨.bl _,H,I,rfl,?_⟩
  rw[show its.toArray.any (eqU x)=its.any (eqU x) by simp,vf r fs]
  exact q
theorem tG :OpR X (compareOp .NotIn) (rIn X.K true):=by
 intro pins s σ H x y v u Q I rx ry h
 obtain⟨p,xs,rfl,hq,fx,fs,q⟩:=h
 cases ry
 rcases hq with hq|hq
 ·obtain⟨its,r,pl,hz⟩:=I.list hq
  refine SeqAt.notIn_listAt (eqU x) pl.isList (fun w hw=>xW rx fx r fs w (by simpa using hw)) ⟨.bl _,H,I,rfl,?_⟩
  rw[show its.toArray.any (eqU x)=its.any (eqU x) by simp,vf r fs]
  exact q
 ·obtain⟨its,r,pl,hz⟩:=I.tuple hq
  refine SeqAt.notIn_tupleAt (eqU x) pl (fun w hw=>xW rx fx r fs w (by simpa using hw)) ⟨.bl _,H,I,rfl,?_⟩
  rw[show its.toArray.any (eqU x)=its.any (eqU x) by simp,vf r fs]
  exact q
theorem sE :OpR X (compareOp .NotIn) (fun x y H Q=>∃i j,x=.str i∧y=.str j∧Q (.bl (!(!(Builtin.Str.occurrences j i 0 j.length 1).isEmpty))) H):=by
 intro pins s σ H x y v u Q I rx ry h
 obtain⟨i,j,rfl,rfl,q⟩:=h
 obtain⟨t,rfl⟩:=rx
 obtain⟨t',rfl⟩:=ry
 exact notIn_str ⟨.bl _,H,I,rfl,q⟩
theorem xx :xr X (.builtin "len") (fun xs H Q=>∃p ys,xs=[.ref p]∧(SqL X.K H p ys∨SqT X.K H p ys)∧Q (.int ys.length) H):=by
 intro pins s σ H xs us Q I r h
 obtain⟨p,ys,rfl,hq,q⟩:=h
 obtain⟨u,rfl,rx⟩:=vals1 r
 cases rx
 have hn:=wJ
 rcases hq with hq|hq
 ·obtain⟨its,r',pl,hz⟩:=I.list hq
  have hlen:=r'.length
  exact Calls.call_len_list pl.isList (by simp only[dn]<;>omega) ⟨.int ys.length,H,I.tok _,⟨s.toks+1,by rw[dn,hlen]⟩,q⟩
 ·obtain⟨its,r',pl,hz⟩:=I.tuple hq
  have hlen:=r'.length
  exact len_tuple pl (by simp only[dn]<;>omega) ⟨.int ys.length,H,I.tok _,⟨s.toks+1,by rw[dn,hlen]⟩,q⟩
theorem ux :xr X (.type "tuple") (fun xs H Q=>∃p ys,xs=[.ref p]∧((SqL X.K H p ys∧∀l,H l=none→Q (.ref l) (upd H l (.tup ys)))∨(SqT X.K H p ys∧Q (.ref p) H))):=by
 intro pins s σ H xs us Q I r h
 obtain⟨p,ys,rfl,h⟩:=h
 obtain⟨u,rfl,rx⟩:=vals1 r
 cases rx
 rcases h with ⟨hq,q⟩|⟨hq,q⟩
 ·obtain⟨its,r',pl,hz⟩:=I.list hq
  have hlen:=r'.length
  refine call_tuple_list pl.isList (fun h' kp=>?_) (by simp only[dn]<;>omega)
  have I1:Inv X pins σ H {s with heap:=h'}:=I.kept (t':=s.toks) kp
  have I2:Inv X pins σ (upd H h'.objs.size (.tup ys)) {s with heap:=h'.push {cls:=.type "tuple",data:=.seq its.toArray}}:=
   I1.laid (t':=s.toks) (fun b o e=>dF _ e) (dC _) (show yc X.prog X.w _ _ _ (.tup ys) from ⟨hz,its,r',IsTup.new _ _⟩)
  exact⟨.ref h'.objs.size,_,I2,rfl,q _ (I1.hok.fresh (dC _))⟩
 ·obtain⟨its,r',pl,hz⟩:=I.tuple hq
  exact call_tuple_same pl ⟨.ref p,H,I,rfl,q⟩
def tyV (K:PySem.W.Frag)(T:String)(x:V)(H:Hp):Prop:=match x with
 |.str _=>T="str"
 |.int _=>T="int"
 |.ref p=>(T="list"∧∃xs,SqL K H p xs)∨(T="tuple"∧∃o,K.lookup p=some o∧o.cls=.type "tuple"∧o.dict=none)∨
   (T="dict"∧((∃kvs,H p=some (.dK kvs))∨∃kvs,H p=some (.dT kvs)))∨(T="set"∧∃S n,H p=some (.set S n))
 |_=>False
theorem iB {pins:List (Addr×Obj)}{σ:St}{H:Hp}{s:Shared}{T:String}{x:V}{v:Value}(I:Inv X pins σ H s)(r:RelV x v)(ty:tyV X.K T x H):
  s.TypeIs v T∧∀a,v=.ref a→∃ob,s.heap.get? a=some ob∧ob.dict=none:=by
 cases x with
 |str z=>
  obtain⟨t,rfl⟩:=r
  cases (show T="str" from ty)
  exact⟨bw s z t,fun _ e=>nomatch e⟩
 |int i=>
  obtain⟨t,rfl⟩:=r
  cases (show T="int" from ty)
  exact⟨typeIs_int s i t,fun _ e=>nomatch e⟩
 |ref p=>
  cases r
  rcases ty with ⟨rfl,xs,hq⟩|⟨rfl,o,hk,hc,hd⟩|⟨rfl,hk⟩|⟨rfl,S,n,hk⟩
  ·obtain⟨its,_,pl,_⟩:=I.list hq
   refine⟨pl.isList.typeIs,fun a e=>?_⟩
   cases e
   obtain⟨o,n,e,c,hd,_⟩:=pl
   exact⟨o,e,hd⟩
  ·refine⟨⟨o,I.kIn p o hk,hc⟩,fun a e=>?_⟩
   cases e
   exact⟨o,I.kIn _ o hk,hd⟩
  ·have z:∃o,s.heap.get? p=some o∧o.ExactDict:=by
    rcases hk with ⟨kvs,hk⟩|⟨kvs,hk⟩
    ·obtain⟨_,_,_,_,o,_,_,e,ex,_⟩:=I.hok p _ hk
     exact⟨o,e,ex⟩
    ·obtain⟨_,_,_,_,o,_,_,e,ex,_⟩:=I.hok p _ hk
     exact⟨o,e,ex⟩
   obtain⟨o,e,ex⟩:=z
   refine⟨⟨o,e,ex.1⟩,fun a e2=>?_⟩
   cases e2
   exact⟨o,e,ex.2.1⟩
  ·obtain⟨o,_,_,_,e,ex,_⟩:=I.hok p _ hk
   refine⟨⟨o,e,ex.1⟩,fun a e2=>?_⟩
   cases e2
   exact⟨o,e,ex.2.1⟩
 |_=>exact False.elim ty
def tBM (K:PySem.W.Frag)(T:String)(r:V→List V→Hp→VK→Prop)(to:TE)(t:TA):TE:=fun σ H Q=>to σ H fun x H1=>tyV K T x H1∧t σ H1 fun xs H2=>r x xs H2 Q
variable {o e:Expr}{es:List Expr}{to:TE}{t:TA}{name:Str}{apos cpos:Pos}{T id:String}{r:V→List V→Hp→VK→Prop}
theorem rE (pa:PlainAttrs T)(slot:Slot T name id)(hty:typeOf (.builtin id)=pure (.type "method_descriptor"))(hm:MtR X id r)(ho:PE X o to)(ha:PA X (e::es) t)
  (hbase:attributeBase o name X.env (eval o X.env)=eval o X.env:=by rfl)
  (hfew:((backTo cpos (starEach (e::es) X.env)).all (fun x=>!x.1)&&(backToKw cpos (keywordEach [] X.env)).all (fun x=>x.1.isSome)
   &&decide ((e::es).length+([]:List Keyword).length+(if ([]:List Keyword).isEmpty then 0 else 1)<30))=true:=by rfl)
  (hline:(apos.endLine == cpos.line)=true:=by rfl) (hs:starEach (e::es) X.env=(false,eval e X.env)::starEach es X.env:=by rfl) (hplain:(backTo cpos (starEach es X.env)).any (·.1)=false:=by rfl):
  PE X (.Call (.Attribute o name apos) (e::es) [] cpos) (tBM X.K T r to t):=by
 intro pins s σ H Q I h
 refine wpAny_Call_method_late hbase hfew hline rfl (thn (ho pins s σ H _ I h) fun v s1 ⟨x,H1,I1,r1,ty,q1⟩=>?_)
 obtain⟨h1,h2⟩:=iB I1 r1 ty
 refine⟨T,id,pa,slot,hty,h1,h2,?_⟩
 have hA:=ha cpos pins s1 σ H1 _ I1 q1
 rw[hs] at hA ⊢
 refine Calls.callWith_builtin (by show (false||(backTo cpos (starEach es X.env)).any (·.1))=false;rw[hplain]<;>rfl) (Calls.evalArgs_plain ?_)
 exact thn hA fun us s2 ⟨vs,H2,I2,r2,q2⟩=>hm pins s2 σ H2 x vs v us Q I2 r1 r2 q2
/- xs.append(e),list.index on a module's tuple .. are MtR facts of 06m -/
end
def MtM (X:Cx)(id:String)(r:V→List V→Hp→VK→Prop):Prop:=
 ∀(pins:List (Addr×Obj)) (s:Shared) (σ:St) (H:Hp) (x:V) (xs:List V) (v:Value) (us:List Value) (Q:VK),Inv X pins σ H s→RelV x v→Vals xs us→r x xs H Q→
  wpAny (model X.prog X.w) X.A (call (.builtin id) (v::us)) (EP X pins σ Q) X.xe s
theorem Vals.one :∀{x:V} {us:List Value},Vals [x] us→∃u,us=[u]∧RelV x u
 |_,_,.cons r .nil=>⟨_,rfl,r⟩
theorem Vals.two :∀{x y:V} {us:List Value},Vals [x,y] us→∃u v,us=[u,v]∧RelV x u∧RelV y v
 |_,_,_,.cons r (.cons q .nil)=>⟨_,_,rfl,r,q⟩
theorem Vals.eraseIdx :∀{xs:List V} {us:List Value} (i:Nat),Vals xs us→Vals (xs.eraseIdx i) (us.eraseIdx i)
 |_,_,_,.nil=>.nil
 |_,_,0,.cons _ t=>t
 |_,_,i+1,.cons r t=>.cons r (Vals.eraseIdx i t)
theorem uK {α:Type}:∀(l:List α) (i:Nat),(l.eraseIdx i).length≤l.length
 |[],_=>dC _
 |_::_,0=>Nat.le_succ _
 |_::r,i+1=>Nat.succ_le_succ (uK r i)
section
variable {X:Cx}{pins:List (Addr×Obj)}{σ:St}{H:Hp}{s:Shared}{l b:Addr}{xs ys zs:List V}
theorem Inv.lset {its its':List Value}{n:Nat}{f:Array Value→Array Value}{t':Nat}(I:Inv X pins σ H s)(hH:H l=some (.lst xs))
  (e:s.heap.get? l=some {cls:=.type "list",data:=.seq its.toArray n}) (hf:f its.toArray=its'.toArray) (hv:Vals ys its') (hz:ys.length≤sizeLine):
  Inv X pins σ (upd H l (.lst ys)) {s with heap:=s.heap.update l (Obj.mapSeq f),toks:=t'}:=by
 have q:=PySem.IsL.update e f
 rw[hf] at q
 refine I.write (x:=l) (e:=l) (by rw[hH];exact trivial) (.inl rfl) (fun b' u hb hu=>(Heap.get?_update_other s.heap (Obj.mapSeq f) (Ne.symm hb)).trans hu) ⟨_,q⟩ ?_
 exact⟨hz,its',_,hv,q⟩
theorem Inv.lnew {its:List Value}{t':Nat}(I:Inv X pins σ H s)(hv:Vals ys its)(hz:ys.length≤sizeLine):
  Inv X pins σ (upd H s.heap.objs.size (.lst ys)) {s with heap:=s.heap.push {cls:=.type "list",data:=.seq its.toArray},toks:=t'}:=
 I.laid (fun _ _ q=>dF _ q) (dC _) ⟨hz,its,0,hv,dZ _ rfl⟩
theorem Inv.fresh (I:Inv X pins σ H s):H s.heap.objs.size=none:=I.hok.fresh (dC _)
theorem Inv.lstM (I:Inv X pins σ H s)(hH:H l=some (.lst xs)):xs.length≤sizeLine∧∃(its:List Value) (n:Nat),Vals xs its∧xs.length=its.length∧s.heap.get? l=some {cls:=.type "list",data:=.seq its.toArray n}:=by
 obtain⟨z,its,n,r,e⟩:=I.hok l _ hH
 exact⟨z,its,n,r,r.length,e⟩
theorem mN {n:Nat}(h:n≤sizeLine):Builtin.List.listTooLong n=false:=by
 unfold Builtin.List.listTooLong
 exact dh (by omega)
end
section
variable {X:Cx}
def jh :V→List V→Hp→VK→Prop:=fun x vs H Q=>∃l xs y,x=.ref l∧vs=[y]∧H l=some (.lst xs)∧xs.length<sizeLine∧Q .non (upd H l (.lst (xs++[y])))
theorem uU :MtM X "list.append" jh:=by
 intro pins s σ H x vs v us Q I rx rv h
 obtain⟨l,xs,y,rfl,rfl,hH,hz,q⟩:=h
 cases rx
 obtain⟨u,rfl,ru⟩:=rv.one
 obtain⟨z,its,n,r,hl,e⟩:=I.lstM hH
 refine cZ F.slot_list_append ⟨_,e,rfl⟩ F.entry_list_append (F.args_list_append_2 _ _) (PySem.list_append l its.toArray n u (by rw[dn];omega)) ⟨e,?_⟩
 refine⟨.non,_,I.lset (its':=its++[u]) hH e (by simp) (r.append (.cons ru .nil)) ?_,rfl,q⟩
 rw[cN,List.length_singleton]
 omega
def js :V→List V→Hp→VK→Prop:=fun x vs H Q=>∃l b xs zs,x=.ref l∧vs=[.ref b]∧H l=some (.lst xs)∧H b=some (.lst zs)∧xs.length+zs.length≤sizeLine∧Q .non (upd H l (.lst (xs++zs)))
theorem gE :MtM X "list.extend" js:=by
 intro pins s σ H x vs v us Q I rx rv h
 obtain⟨l,b,xs,zs,rfl,rfl,hH,hB,hz,q⟩:=h
 cases rx
 obtain⟨u,rfl,ru⟩:=rv.one
 cases ru
 obtain⟨z,its,n,r,hl,e⟩:=I.lstM hH
 obtain⟨z2,its2,n2,r2,hl2,e2⟩:=I.lstM hB
 have hsz:its.toArray.size+its2.toArray.size≤sizeLine:=by rw[dn,dn];omega
 have hlong:¬(!its.toArray.isEmpty&&Builtin.List.listTooLong (its.toArray.size+its2.toArray.size))=true:=by
  rw[mN hsz,Bool.and_false]
  exact dr
 refine cZ F.slot_list_extend ⟨_,e,rfl⟩ F.entry_list_extend (F.args_list_extend_2 _ _)
  (AutoSeq1.list_extend_list_list_0 l its.toArray n b its2.toArray n2 hlong (by rw[dn];omega) (by omega)) ⟨e,e2,?_⟩
 refine⟨.non,_,I.lset (its':=its++its2) hH e (by simp) (r.append r2) ?_,rfl,q⟩
 rw[cN]
 omega
def gu :V→List V→Hp→VK→Prop:=fun x vs H Q=>∃l xs i k y,x=.ref l∧vs=[.int i]∧H l=some (.lst xs)∧-(2 ^ 63)≤i∧i<2 ^ 63∧seqIndex? i xs.length=some k∧xs[k]?=some y∧Q y (upd H l (.lst (xs.eraseIdx k)))
theorem ly :MtM X "list.pop" gu:=by
 intro pins s σ H x vs v us Q I rx rv h
 obtain⟨l,xs,i,k,y,rfl,rfl,hH,h1,h2,hk,hy,q⟩:=h
 cases rx
 obtain⟨u,rfl,ru⟩:=rv.one
 obtain⟨t,rfl⟩:=ru
 obtain⟨z,its,n,r,hl,e⟩:=I.lstM hH
 obtain⟨w,hw,rw'⟩:=r.get hy
 refine cZ F.slot_list_pop ⟨_,e,rfl⟩ F.entry_list_pop (F.args_list_pop_2 _ _)
  (MeetsSeq.list_pop_at l its.toArray n i t k w (fitsIndex_both h1 h2) (by rw[dn,←hl];exact hk) (by rw[←Array.getElem?_toList];exact hw) (by rw[dn];omega)) ⟨e,?_⟩
 refine⟨y,_,I.lset (its':=its.eraseIdx k) hH e ?_ (r.eraseIdx k) ?_,rw',q⟩
 ·show its.toArray.eraseIdxIfInBounds k=(its.eraseIdx k).toArray
  rw[List.eraseIdxIfInBounds_toArray]
 ·have:=uK xs k
  omega
def df :R2:=fun x y H Q=>∃l b xs zs,x=.ref l∧y=.ref b∧H l=some (.lst xs)∧H b=some (.lst zs)∧xs.length+zs.length≤sizeLine∧∀p,H p=none→Q (.ref p) (upd H p (.lst (xs++zs)))
theorem nj :OpR X (binaryOp .Add) df:=by
 intro pins s σ H x y v u Q I rx ry h
 obtain⟨l,b,xs,zs,rfl,rfl,hH,hB,hz,q⟩:=h
 cases rx
 cases ry
 obtain⟨z,its,n,r,hl,e⟩:=I.lstM hH
 obtain⟨z2,its2,n2,r2,hl2,e2⟩:=I.lstM hB
 refine PySem.P.add_list e e2 ?_ (by rw[dn,dn];omega)
 have ea:its.toArray++its2.toArray=(its++its2).toArray:=by simp
 rw[ea]
 exact⟨.ref _,_,I.lnew (t':=s.toks) (r.append r2) (by rw[cN];omega),rfl,q _ I.fresh⟩
end
section
variable {prog:Program}{w:World}{A:Around}{E:Value→Shared→Prop}{s:Shared}
end
section
variable {X:Cx}
end
end L2
namespace Att
open PySem PySem.W PySem.Calls PyProof.Rows
theorem vI {P:Params}{h:Heap}:∀(ns:List Int) (vs:List Value),WellAll P h vs (ns.map WData.int)→IntsAre vs ns:=by
 intro ns
 induction ns with
 |nil=>
  intro vs w
  rw[List.map_nil] at w
  cases w
  exact .nil
 |cons n ns ih=>
  intro vs w
  rw[dU] at w
  cases w with
  |cons a b=>
   cases a
   exact .cons _ _ (ih _ b)
theorem og {l:OpenLaw}{n:Nat}(hn:l.most=some n){P:Params}{h:Heap}{args:List WData}{vals:List Value}
  (hpre:l.row.toRowW.claim.pre args=true) (hwl:WellAll P h vals args):
  ∃a vs ns,vals=[Value.ref a]∧args=[WData.list (ns.map WData.int)]∧h.get? a=some {cls:=.type "list",data:=.seq vs.toArray}∧IntsAre vs ns∧ns.length≤n:=by
 have hsh:WShape.hasAll [] args [.list .int]=true:=(pre_splitW hpre).1
 have hc:l.pre.holds [] {args:=args}=true:=(pre_splitW hpre).2
 obtain⟨d,r,rfl,h1,h2⟩:=hasAllW_cons hsh
 obtain rfl:=hasAllW_nil h2
 obtain⟨xs,rfl,h3⟩:=hasW_list h1
 obtain⟨ns,rfl⟩:=items_int h3
 have hlen:ns.length≤n:=by
  unfold OpenLaw.pre at hc
  have h4:(WTm.not (.lt (.lit (.int (n:Int))) (.len (.arg 0)))).holds [] {args:=[.list (ns.map .int)]}=true:=by
   have h4:=(holds_andW hc).1
   rw[hn] at h4
   exact h4
  have h5:=condW_of h4 (w_not (w_lt w_lit (w_len_list (w_arg rfl))))
  rw[dB] at h5
  refine Nat.le_of_not_lt fun q=>?_
  have q':(n:Int)<((ns.length:Nat):Int):=by omega
  first
   |(rw[di q'] at h5;exact absurd h5 (by decide))
   |(simp at h5;omega)
 cases hwl with
 |cons w1 w2=>
  cases w2
  cases w1 with
  |list ho hall=>exact⟨_,_,ns,rfl,rfl,ho,vI ns _ hall,hlen⟩
theorem oN (l:OpenLaw)(args:List WData):l.row.toRowW.claim.post args (.bool true) args=true:=
 postW_of (r:=l.row.toRowW) (X:=(true == true))
  (show WShape.has [] (.bool true) .bool=true by first|rfl|decide|simp[WShape.has,WShape.arms,WShape.armsAll])
  (show (WTm.eq .res (.lit (.bool true))).value [] {args:=args,res:=some (.bool true),after:=args}=some (.bool (true == true)) from w_eq_bool (w_res rfl) w_lit) rfl
theorem attach_call {l:OpenLaw}{n:Nat}{q:Program}{loose:List Str}{XP:(Str→Option Value)→Heap→Prop}{YP:World→Heap→Prop}{d:DefRec}
  (hn:l.most=some n) (hdf:d.params.defaults=[])
  (call:∀(w:World) (s₀ s₁:Shared) (mg mb:Str→Option Value) (fa:Addr) (o:Obj) (pm cd doc:Value) (a:Addr) (vs:List Value) (ns:List Int),
   Ground q loose [] XP w s₀ mg mb s₁.heap→YP w s₁.heap→
   s₁.heap.get? fa=some o→o.data=.func (docDef d.name d.params d.body d.scope pm cd doc)→s₁.heap.CodeRec cd d.name→mg d.name=some (.ref fa)→
   s₁.heap.get? a=some {cls:=.type "list",data:=.seq vs.toArray}→IntsAre vs ns→ns.length≤n→s₁.gens=#[]→
   codeAny (model l.prog w) callerA (.call (.ref fa) ⟨[.ref a],[]⟩) (fun r s'=>r=.ok (.ret (.bool true))∧OldK s₁.heap s'.heap∧s'.os=s₁.os∧AllBare s'.gens) s₁):
  WalkO q loose XP YP l.row.toRowW d [] (fun f vs=>PySem.call f vs):=by
 intro w s₀ s₁ mg mb G Y fa o pm cd doc dV kV ho hd hcd hD hmg hg args vals as hpre hlay hrd hwl hlo
 obtain rfl:dV=.none:=Dflts.none hD hdf
 obtain rfl:kV=.none:=Dflts.noKw hD
 obtain⟨a,vs,ns,rfl,rfl,hobj,hints,hlen⟩:=og hn hpre hwl
 refine enter_call (codeAny_mono (call w s₀ s₁ mg mb fa o pm cd doc a vs ns G Y ho (fd_plain hd) hcd hmg hobj hints hlen hg) fun r s' hq=>?_)
 obtain⟨rfl,h2,h3,h4⟩:=hq
 exact⟨.inl ⟨.bool true,.bool true,[],rfl,fun _=>rfl,.bool true,oN l _,fun _=>⟨List.Pairwise.nil,fun _ hm=>(nomatch hm)⟩⟩,h2,h3,h4⟩
section
variable {prog:Program}{w:World}{A:Around}{E:Value→Shared→Prop}{s:Shared}{K:Frag}
end
end Att
namespace L2
open PySem PySem.Spec PyProof.Rows
theorem uQ :∀{vs:List Value} {ns:List Int},IntsAre vs ns→Vals (ns.map V.int) vs
 |_,_,.nil=>.nil
 |_,_,.cons n t h=>.cons ⟨t,rfl⟩ (uQ h)
def hJ (H:Hp):Prop:=∀b,H b=none∨∃o xs,H b=some (.frz o (.lst xs))
theorem nR {P:Program}{w:World}{K:PySem.W.Frag}{mg mb:Str→Option Value}{CX:CXT}{k:Nat}{fa a:Addr}{fd:FuncData}{x:Str}{sp:Sp}{s₁:Shared}{vs:List Value}{ns:List Int}
  (KX:K.In s₁.heap) (hns:s₁.heap.Ns mainGlobals mg) (hb:s₁.heap.Ns builtinsNs mb) (hbb:∀x:Str,x≠"__name__"→mb x=bootBuiltins x) (hlim:s₁.heap.NoLimit) (hg:s₁.gens=#[])
  (ha:s₁.heap.get? a=some {cls:=.type "list",data:=.seq vs.toArray}) (hi:IntsAre vs ns) (hl:ns.length≤sizeLine) (hr:yq k callerA)
  (F:∀base:Heap,K.In base→base.Ns mainGlobals mg→zK P w K mg base CX k fa fd [x] sp) (hbind:∀(s:Shared) (u:Value),BindsTo s fd ⟨[u],[]⟩ [(x,u)])
  (hsp:∀H:Hp,hJ H→SqL K H a (ns.map V.int)→sp [.ref a] H (fun v _=>v=.bl true) fun _ _ _=>False)
  (hCX:∀H e s',CX [] H s₁ (fun _ _ _=>False) e s'→False):
  codeAny (model P w) callerA (.call (.ref fa) ⟨[.ref a],[]⟩) (fun r s'=>r=.ok (.ret (.bool true))∧OldK s₁.heap s'.heap∧s'.os=s₁.os∧AllBare s'.gens) s₁:=by
 have rv:=uQ hi
 have lenV:=hi.length
 -- from an abstract heap in which nothing but the script may be tracked
 have core:∀H:Hp,hJ H→SqL K H a (ns.map V.int)→HOk P w H s₁.heap→(∀b,H b≠none→b=a)→(H a≠none→K.lookup a=none)→
   codeAny (model P w) callerA (.call (.ref fa) ⟨[.ref a],[]⟩) (fun r s'=>r=.ok (.ret (.bool true))∧OldK s₁.heap s'.heap∧s'.os=s₁.os∧AllBare s'.gens) s₁:=by
  intro H hO hS hok hA hK
  have base_of:∀{b:Addr} {o:Obj},s₁.heap.get? b=some o→H b=none→(tw s₁.heap H).get? b=some o:=fun e n=>mh e n
  have noA:∀{b:Addr} {o:Obj} {es:Array DictEntry} {ep:Nat},s₁.heap.get? b=some o→o.data=.dict es ep→H b=none:=fun {b o es ep} e d=>by
   cases q:H b with
   |none=>rfl
   |some u=>
    have e':b=a:=hA b (by rw[q];simp)
    subst e'
    rw[ha] at e;cases e
    have d':Data.seq vs.toArray _=Data.dict es ep:=d
    cases d'
  have nsK:∀{b:Addr} {m:Str→Option Value},s₁.heap.Ns b m→(tw s₁.heap H).Ns b m:=fun {b m} ⟨o,es,ep,e,d,r⟩=>⟨o,es,ep,base_of e (noA e d),d,r⟩
  have hKb:K.In (tw s₁.heap H):=fun b o e=>base_of (KX b o e) (by
   cases q:H b with
   |none=>rfl
   |some u=>
    have e':b=a:=hA b (by rw[q];simp)
    subst e'
    rw[hK (by rw[q];simp)] at e;cases e)
  have hM:Mod K mg (tw s₁.heap H):=⟨hKb,nsK hns,⟨mb,nsK hb,hbb⟩,let ⟨mc,h1,h2⟩:=hlim;⟨mc,nsK h1,h2⟩⟩
  have e0:jl P w K mg (tw s₁.heap H) callerA [] s₁ H:=⟨rfl,hM,fun b o e=>kO e,Nat.le_of_eq (oh _ _),trivial,fun b hb=>absurd (show b∈([]:List Addr) from hb) (by simp),hok,.of_eq hg⟩
  refine codeAny_mono ((F _ hKb (nsK hns)).run callerA [] s₁ H ⟨[.ref a],[]⟩ [.ref a] [.ref a] _ _ hr e0 (hbind s₁ (.ref a)) (.cons rfl .nil) (hsp H hO hS)) fun r s' h=>?_
  cases r with
  |error e=>exact (hCX H e s' h).elim
  |ok fl=>
   cases fl with
   |next=>exact False.elim h
   |brk=>exact False.elim h
   |cont=>exact False.elim h
   |ret u=>
    obtain⟨v,H',os,bare,un,hok',r',q⟩:=h
    have q':v=.bl true:=q
    subst q'
    obtain rfl:u=Value.bool true:=r'
    refine⟨rfl,OldK.of_keep fun b o e=>?_,os,bare⟩
    cases q:H b with
    |none=>exact un.keep b o e q (by intro z;exact absurd (show b∈([]:List Addr) from z) (by simp)) (by simp)
    |some u=>
     rcases hO b with z|⟨ob,xs,z⟩
     ·rw[q] at z;cases z
     ·have z2:=un.frzs b ob _ z
      obtain⟨e1,_⟩:=hok b _ z
      obtain⟨e2,_⟩:=hok' b _ z2
      rw[e] at e1;cases e1
      exact e2
 cases hk:K.lookup a with
 |some o=>
  -- the script is one of the module's own objects
  have e:=KX a o hk
  rw[ha] at e
  cases e
  refine core (fun _=>none) (fun _=>.inl rfl) (.inr ⟨_,vs.toArray,_,hk,rfl,rfl,rfl,by rw[dn,lenV];exact hl,by simpa using rv⟩) (fun b u z=>by have z':(none:Option HO)=some u:=z;cases z') (fun b z=>absurd rfl z) fun z=>absurd rfl z
 |none=>
  refine core (fun b=>if b=a then some (.frz {cls:=.type "list",data:=.seq vs.toArray} (.lst (ns.map V.int))) else none) (fun b=>?_) (.inl (.inr ⟨{cls:=.type "list",data:=.seq vs.toArray},if_pos rfl⟩)) (fun b u z=>?_) (fun b z=>?_) fun _=>hk
  ·by_cases hb:b=a
   ·exact .inr ⟨_,_,if_pos hb⟩
   ·exact .inl (if_neg hb)
  ·by_cases hb:b=a
   ·have z':=(if_pos hb).symm.trans z
    cases z'
    subst hb
    exact⟨ha,by rw[dB];exact hl,vs,_,rv,ha⟩
   ·have z':=(if_neg hb).symm.trans z
    cases z'
  ·by_cases hb:b=a
   ·exact hb
   ·exact absurd (if_neg hb) z
theorem jH {l:PySem.W.OpenLaw}{n k:Nat}{q:Program}{loose:List Str}{XP:(Str→Option Value)→Heap→Prop}{YP:World→Heap→Prop}{d:DefRec}{K:Params→PySem.W.Frag}{CX:World→CXT}{sp:World→Sp}{x:Str}
  (hn:l.most=some n) (hn2:n≤sizeLine) (hdf:d.params.defaults=[]) (hr:yq k callerA)
  (hY:∀(w:World) (h:Heap),YP w h→(K w.params).In h)
  (F:∀(w:World) (mg:Str→Option Value) (fa:Addr) (h:Heap),(K w.params).In h→h.Ns mainGlobals mg→mg d.name=some (.ref fa)→
   ∃fd:FuncData,(∀(s:Shared) (u:Value),BindsTo s fd ⟨[u],[]⟩ [(x,u)])∧
    ∀base:Heap,(K w.params).In base→base.Ns mainGlobals mg→zK l.prog w (K w.params) mg base (CX w) k fa fd [x] (sp w))
  (hsp:∀(w:World) (H:Hp) (a:Addr) (ns:List Int),ns.length≤n→hJ H→SqL (K w.params) H a (ns.map V.int)→sp w [.ref a] H (fun v _=>v=.bl true) fun _ _ _=>False)
  (hCX:∀(w:World) (H:Hp) (s:Shared) (e:Value) (s':Shared),CX w [] H s (fun _ _ _=>False) e s'→False):
  PySem.W.WalkO q loose XP YP l.row.toRowW d [] (fun f vs=>PySem.call f vs):=by
 refine Att.attach_call hn hdf fun w s₀ s₁ mg mb fa o pm cd doc a vs ns G Y ho hd hcd hmg hobj hints hlen hg=>?_
 have KX:=hY w _ Y
 obtain⟨fd,hb,hF⟩:=F w mg fa _ KX G.T.g hmg
 exact nR KX G.T.g G.T.b G.T.builtins G.T.nolimit hg hobj hints (dq hlen hn2) hr hF hb (fun H hO hS=>hsp w H a ns hlen hO hS) fun H e s'=>hCX w H s₁ e s'
def yR (s:Stmt):Arguments:=match s with
 |.FunctionDef _ a _ _ _ _ _ _ _ _=>a
 |_=>{posonlyargs:=[],args:=[],vararg:=none,kwonlyargs:=[],kw_defaults:=[],kwarg:=none,defaults:=[]}
def zY (s:Stmt):List Stmt:=match s with
 |.FunctionDef _ _ b _ _ _ _ _ _ _=>b
 |_=>[]
def zc (s:Stmt):Scope:=match s with
 |.FunctionDef _ _ _ _ _ _ sc _ _ _=>sc
 |_=>{kind:=.function,names:=[],isGenerator:=false,isCoroutine:=false}
abbrev CX0 :CXT:=fun _ _ _ _ _ _=>False
abbrev E0 :XK:=fun _ _ _=>False
theorem yz {X:Cx}:Passes CX0 X E0:=fun _ _ _ _ _ _ _ h=>h.elim
structure Fun (K:PySem.W.Frag)(x qual:Str)(st:Stmt)(f:Addr)(fd:FuncData):Prop where
 ex:∃(oc:Value) (od:Option Addr) (kV doc pm:Value) (an:Option Addr) (cdv ct:Value) (osl:Array (Option Value)),
  fd=PySem.W.fnOf x qual (yR st) (zY st) (zc st) .none kV doc pm an cdv ct∧K.lookup f=some ⟨oc,od,.func fd,osl⟩∧PySem.W.codeIn K cdv qual=true
 kp:PySem.W.keepIn K (.ref f)=true
section
variable {P:Program}{w:World}{K:PySem.W.Frag}{mg:Str→Option Value}{base:Heap}
theorem Fun.ok {x qual:Str}{st:Stmt}{f:Addr}{fd:FuncData}{N ps:List Str}{k:Nat}{sp:Sp}(F:Fun K x qual st f fd)(S:zi N ps (zc st))(len:∀vs H Q E,sp vs H Q E→vs.length=ps.length)
  (hbody:∀(cdv:Value) (A:Around) (outer:List Env) (s:Shared) (H:Hp) (vs:List V) (Q:VK) (E:XK),yq k (A.deeper (envOfC qual (zc st) s.heap.objs.size f cdv))→sp vs H Q E→
   ∃t,PSs (tj CX0 P w K mg base N qual (zc st) f cdv A outer s H E).nox (zY st) t∧t {nx:=fun _ H'=>Q .non H',rt:=Q} (start N vs) H):zK P w K mg base CX0 (k+1) f fd ps sp:=by
 obtain⟨oc,od,kV,doc,pm,an,cdv,ct,osl,rfl,lk,hcd⟩:=F.ex
 refine eh lk hcd S len fun A outer s H vs Q E hr hsp=>?_
 obtain⟨t,h,q⟩:=hbody cdv A outer s H vs Q E hr hsp
 exact⟨t,h.nox,q⟩
theorem Fun.binds {x qual:Str}{st:Stmt}{f:Addr}{fd:FuncData}{ps:List Str}(F:Fun K x qual st f fd)
  (h:∀(kV doc pm:Value) (an:Option Addr) (cdv ct:Value) (us:List Value),us.length=ps.length→bindArgs (PySem.W.fnOf x qual (yR st) (zY st) (zc st) .none kV doc pm an cdv ct) ⟨us,[]⟩=pure (ps.zip us)):Binds K fd ps []:=by
 obtain⟨oc,od,kV,doc,pm,an,cdv,ct,osl,rfl,lk,hcd⟩:=F.ex
 exact .all (h kV doc pm an cdv ct)
theorem mV {x qual:Str}{st:Stmt}{f:Addr}{oc:Value}{od an:Option Addr}{osl:Array (Option Value)}{kV doc pm cdv ct:Value}(l:K.lookup f=some ⟨oc,od,.func (PySem.W.fnOf x qual (yR st) (zY st) (zc st) .none kV doc pm an cdv ct),osl⟩)
  (c:PySem.W.codeIn K cdv qual=true) (k:PySem.W.keepIn K (.ref f)=true):Fun K x qual st f (PySem.W.fnOf x qual (yR st) (zY st) (zc st) .none kV doc pm an cdv ct):=⟨⟨oc,od,kV,doc,pm,an,cdv,ct,osl,rfl,l,c⟩,k⟩
end
theorem yB {n:Nat}(h:n≤1000):n<sizeLine:=Nat.lt_of_le_of_lt h (by decide)
section
variable {X:Cx}
theorem pv (i:Nat){x:Str}{pos:Pos}(hN:X.N[i]?=some x:=by rfl)(hv:Vis X.env.scope x:=by first|exact Or.inl rfl|exact Or.inr (Or.inl rfl)|exact Or.inr (Or.inr rfl))(hd:(x == ("__debug__":Str))=false:=by decide)
  (hcd:(x == ("__classdict__":Str))=false:=by decide):PE X (.Name x pos) (mQ i):=xo hN hv hd hcd
end
theorem ve {A B:Prop}(h:B):if false=true then A else B:=by
 rw[if_neg dr]
 exact h
theorem wy {A B:Prop}(h:A):if true=true then A else B:=by
 rw[if_pos rfl]
 exact h
theorem yM {c A B:Prop}[Decidable c](h1:c→A)(h2:¬c→B):if c then A else B:=by
 by_cases h:c
 ·rw[if_pos h]
  exact h1 h
 ·rw[if_neg h]
  exact h2 h
def zu (H H':Hp):Prop:=∀b o,H b=some o→H' b=some o
theorem zu.refl (H:Hp):zu H H:=fun _ _ h=>h
theorem zu.trans {H H1 H2:Hp}(a:zu H H1)(b:zu H1 H2):zu H H2:=fun c o h=>b c o (a c o h)
def wI (cells:List (Str×Addr)):List (Str×NameKind)→List (Str×Addr)→List (Str×Addr)
 |[],acc=>acc
 |(n,k)::r,acc=>wI cells r (if k=.free then (n,(cells.lookup n).getD 0)::acc else acc)
theorem wj {env:Env}{scope:Scope}(h:∀y∈scope.names,y.2=.free→∃c,env.cells.lookup y.1=some c):
  closureFor scope env=pure (wI env.cells scope.names []):=by
 have key:∀(ns:List (Str×NameKind)) (acc:List (Str×Addr)),(∀y∈ns,y.2=.free→∃c,env.cells.lookup y.1=some c)→
   (forIn ns acc fun (x:Str×NameKind) (r:List (Str×Addr))=>(if (x.2 == NameKind.free)=true then (do let a ←cellOf env x.1;pure (ForInStep.yield ((x.1,a)::r))) else pure (ForInStep.yield r):Sem (ForInStep (List (Str×Addr)))))=pure (wI env.cells ns acc):=by
  intro ns
  induction ns with
  |nil=>intro acc _;rfl
  |cons y r ih=>
   intro acc hy
   obtain⟨n,k⟩:=y
   rw[List.forIn_cons]
   have hr:∀z∈r,z.2=.free→∃c,env.cells.lookup z.1=some c:=fun z hz=>hy z (dA _ hz)
   by_cases hk:k=.free
   ·subst hk
    obtain⟨c,hc⟩:=hy (n,.free) dE rfl
    have e1:cellOf env n=pure c:=by
     unfold cellOf
     rw[hc]
    have e2:((NameKind.free == NameKind.free)=true):=rfl
    simp only[e2,if_true,e1,pure_bind]
    rw[ih _ hr]
    show _=pure (wI env.cells r (if NameKind.free=NameKind.free then (n,(env.cells.lookup n).getD 0)::acc else acc))
    rw[if_pos rfl,hc]
    rfl
   ·have e2:(k == NameKind.free)=false:=by simpa using hk
    simp only[e2,cW,if_false,pure_bind]
    rw[ih _ hr]
    show _=pure (wI env.cells r (if k=NameKind.free then (n,(env.cells.lookup n).getD 0)::acc else acc))
    rw[if_neg hk]
 have q:=key scope.names [] h
 unfold closureFor
 simp only[] at q ⊢
 rw[show (forIn scope.names ([]:List (Str×Addr)) fun (x:Str×NameKind) (r:List (Str×Addr))=>_)=_ from q]
 rfl
theorem rA {cells:List (Str×Addr)}:∀(ns:List (Str×NameKind)) (acc:List (Str×Addr)),(∀y∈ns,y.2=.free→∃c,cells.lookup y.1=some c)→
  ∀x c,(x,c)∈wI cells ns acc→(x,c)∈acc∨((x,NameKind.free)∈ns∧cells.lookup x=some c)
 |[],acc,_,x,c,h=>.inl h
 |(n,k)::r,acc,hy,x,c,h=>by
  have hr:∀z∈r,z.2=.free→∃c,cells.lookup z.1=some c:=fun z hz=>hy z (dA _ hz)
  have h':(x,c)∈wI cells r (if k=.free then (n,(cells.lookup n).getD 0)::acc else acc):=h
  rcases rA r _ hr x c h' with q|⟨q1,q2⟩
  ·by_cases hk:k=.free
   ·rw[if_pos hk] at q
    rcases dm.mp q with e|q
    ·obtain⟨c',hc⟩:=hy (n,k) dE hk
     have e1:x=n:=congrArg Prod.fst e
     have e2:c=(cells.lookup n).getD 0:=congrArg Prod.snd e
     have hc':cells.lookup n=some c':=hc
     rw[hc'] at e2
     have e3:c=c':=e2
     subst e1 e3 hk
     exact .inr ⟨dE,hc'⟩
    ·exact .inl q
   ·rw[if_neg hk] at q
    exact .inl q
  ·exact .inr ⟨dA _ q1,q2⟩
theorem rL {cells:List (Str×Addr)}:∀(ns:List (Str×NameKind)) (acc:List (Str×Addr)) (p:Str×Addr),p∈acc→p∈wI cells ns acc
 |[],_,_,h=>h
 |(n,k)::r,acc,p,h=>by
  show p∈wI cells r (if k=.free then (n,(cells.lookup n).getD 0)::acc else acc)
  refine rL r _ p ?_
  split
  ·exact dA _ h
  ·exact h
theorem sS {cells:List (Str×Addr)}:∀(ns:List (Str×NameKind)) (acc:List (Str×Addr)) (x:Str),(x,NameKind.free)∈ns→∃c,(x,c)∈wI cells ns acc
 |[],_,_,h=>by simp at h
 |(n,k)::r,acc,x,h=>by
  show ∃c,(x,c)∈wI cells r (if k=.free then (n,(cells.lookup n).getD 0)::acc else acc)
  rcases dm.mp h with e|h
  ·have e1:x=n:=congrArg Prod.fst e
   have e2:NameKind.free=k:=congrArg Prod.snd e
   subst e1 e2
   rw[if_pos rfl]
   exact⟨_,rL r _ _ dE⟩
  ·exact sS r _ x h
theorem mem_lookup {x:Str}{c:Addr}:∀{l:List (Str×Addr)},(x,c)∈l→∃d,l.lookup x=some d
 |[],h=>by simp at h
 |(n,a)::r,h=>by
  rw[cH]
  cases e:x == n with
  |true=>exact⟨a,rfl⟩
  |false=>
   rcases dm.mp h with q|q
   ·have e1:x=n:=congrArg Prod.fst q
    rw[e1] at e
    simp at e
   ·exact mem_lookup q
structure zO (XN:List Str)(xs:Scope)(N:List Str)(imp:List (Option Nat))(scope:Scope):Prop where
 kind:scope.kind=.function
 nd:N.Nodup
 nocell:∀y∈scope.names,y.2≠.cell
 locs:∀y∈scope.names,y.2=.local→scope.names.lookup y.1=some .local
 frees:∀y∈scope.names,y.2=.free→xs.names.lookup y.1=some .cell∨xs.names.lookup y.1=some .free
 len:imp.length=N.length
 impsB:((imp.zip N).all fun p=>match p.1 with|none=>true|some j=>XN[j]? == some p.2&&scope.names.lookup p.2 == some .free)=true
theorem zO.imps {XN N:List Str}{xs scope:Scope}{imp:List (Option Nat)}(S:zO XN xs N imp scope):∀(i j:Nat),imp[i]?=some (some j)→∃x,N[i]?=some x∧XN[j]?=some x∧scope.names.lookup x=some .free:=by
 intro i j h
 have hi:i<imp.length:=(dP.mp h).1
 have hn:i<N.length:=by rw[←S.len];exact hi
 have hx:N[i]?=some N[i]:=dX hn
 have hm:(some j,N[i])∈imp.zip N:=by
  have hz:(imp.zip N)[i]?=some (some j,N[i]):=by
   rw[List.getElem?_zip_eq_some]
   exact⟨h,hx⟩
  exact bu hz
 have q:=cB.mp S.impsB _ hm
 have q':(XN[j]? == some N[i]&&scope.names.lookup N[i]==some .free)=true:=q
 rw[dG] at q'
 exact⟨N[i],hx,eq_of_beq q'.1,eq_of_beq q'.2⟩
def xp (imp:List (Option Nat))(σ:St):St:=imp.map fun o=>o.bind fun j=>(σ[j]?).bind id
theorem pZ {imp:List (Option Nat)}{σ:St}{i:Nat}{v:V}(h:(xp imp σ)[i]?=some (some v)):∃j,imp[i]?=some (some j)∧σ[j]?=some (some v):=by
 unfold xp at h
 rw[cc] at h
 cases e:imp[i]? with
 |none=>rw[e] at h;cases h
 |some o=>
  rw[e] at h
  have h':(o.bind fun j=>(σ[j]?).bind id)=some v:=dM h
  cases o with
  |none=>cases h'
  |some j=>
   have h2:(σ[j]?).bind id=some v:=h'
   cases e2:σ[j]? with
   |none=>rw[e2] at h2;cases h2
   |some w=>
    rw[e2] at h2
    have h3:w=some v:=h2
    exact⟨j,rfl,by rw[e2,h3]⟩
def Cx.comp (X:Cx)(N:List Str)(scope:Scope)(C:Addr)(s2:Shared)(H2:Hp)(fp:List Addr):Cx where
 prog:=X.prog
 w:=X.w
 K:=X.K
 mg:=X.mg
 base:=X.base
 A:=X.A
 N:=N
 s₀:=s2
 H₀:=H2
 env:=compEnvC scope (wI X.env.cells scope.names []) C X.env
 outer:=X.stack
 stack:=X.stack
 ex:=fp
 fn:=fun _=>false
 calm:=X.calm
 pn:=[]
 xe:=fun _ _=>False
theorem wN {env:Env}:∀{names:List (Str×NameKind)} {x:Str},
  (names.map fun (n,k)=>if (k == NameKind.free&&env.scope.kind == .function&&env.kindOf n == some .cell) then (n,NameKind.cell) else (n,k)).lookup x=some .cell∨
  (names.map fun (n,k)=>if (k == NameKind.free&&env.scope.kind == .function&&env.kindOf n == some .cell) then (n,NameKind.cell) else (n,k)).lookup x=some .free→
  (∀y∈names,y.2≠.cell)→(x,NameKind.free)∈names
 |[],x,h,_=>by simp at h
 |(n,k)::r,x,h,hc=>by
  have ih:=@wN env r x
  rw[dU] at h
  dsimp only at h
  by_cases hx:x=n
  ·subst hx
   by_cases hk:k=.free
   ·subst hk;exact dE
   ·have hk':(k == NameKind.free)=false:=by simpa using hk
    simp only[hk',cC,cW,if_false,cH,beq_self_eq_true,if_true] at h
    rcases h with h|h
    ·have e:k=.cell:=dM h
     exact absurd e (hc (x,k) dE)
    ·have e:k=.free:=dM h
     exact absurd e hk
  ·have hxn:(x == n)=false:=by simpa using hx
   have step:∀(b:Bool) (l:List (Str×NameKind)),List.lookup x ((if b=true then (n,NameKind.cell) else (n,k))::l)=l.lookup x:=fun b l=>by
    cases b<;>simp[cH,hxn]
   rw[step] at h
   exact dA _ (ih h fun y hy=>hc y (dA _ hy))
theorem vE {env:Env}:∀{names:List (Str×NameKind)} {x:Str},names.lookup x=some .free→
  (names.map fun (n,k)=>if (k == NameKind.free&&env.scope.kind == .function&&env.kindOf n == some .cell) then (n,NameKind.cell) else (n,k)).lookup x=some .cell∨
  (names.map fun (n,k)=>if (k == NameKind.free&&env.scope.kind == .function&&env.kindOf n == some .cell) then (n,NameKind.cell) else (n,k)).lookup x=some .free
 |[],x,h=>by simp at h
 |(n,k)::r,x,h=>by
  have ih:=@vE env r x
  rw[dU]
  dsimp only
  rw[cH] at h
  cases hx:x == n with
  |true=>
   rw[hx] at h
   have e:k=.free:=dM h
   subst e
   by_cases hb:(NameKind.free == NameKind.free&&env.scope.kind == .function&&env.kindOf n == some .cell)=true
   ·left;rw[if_pos hb];simp[cH,hx]
   ·right;rw[if_neg hb];simp[cH,hx]
  |false=>
   rw[hx] at h
   have step:∀(b:Bool) (l:List (Str×NameKind)),List.lookup x ((if b=true then (n,NameKind.cell) else (n,k))::l)=l.lookup x:=fun b l=>by
    cases b<;>simp[cH,hx]
   rw[step]
   exact ih h
section
variable {X:Cx}{pins:List (Addr×Obj)}{σ:St}{H2 H':Hp}{s2 s':Shared}{fp:List Addr}{N:List Str}{imp:List (Option Nat)}{scope:Scope}{C acc:Addr}
theorem wC (I:Inv X pins σ H2 s2)(S:zO X.N X.env.scope N imp scope):∀y∈scope.names,y.2=.free→∃c,X.env.cells.lookup y.1=some c:=fun y hy hk=>I.ok.has y.1 (S.frees y hy hk)
theorem yU (I:Inv X pins σ H2 s2)(S:zO X.N X.env.scope N imp scope){x:Str}{c:Addr}(h:(wI X.env.cells scope.names []).lookup x=some c):(x,NameKind.free)∈scope.names∧X.env.cells.lookup x=some c:=by
 rcases rA scope.names [] (wC I S) x c (cu h) with q|q
 ·exact absurd q (by simp)
 ·exact q
theorem wY (I:Inv X pins σ H2 s2)(S:zO X.N X.env.scope N imp scope){x:Str}(h:(x,NameKind.free)∈scope.names):∃c,(wI X.env.cells scope.names []).lookup x=some c:=by
 obtain⟨c,hc⟩:=sS (cells:=X.env.cells) scope.names [] x h
 exact mem_lookup hc
theorem mq {h1:Heap}{tk:Nat}{m:Str→Option Value}{n0:Nat}(I:Inv X pins σ H2 s2)(S:zO X.N X.env.scope N imp scope)(hf:∀b∈fp,uf X pins H2 b)(ho:∀b∈fp,∃o,s2.heap.get? b=some o)
  (hacc:acc=s2.heap.objs.size) (hC:C=s2.heap.objs.size+1) (old:∀b o,s2.heap.get? b=some o→h1.get? b=some o) (hn:h1.Ns C m)
  (hl:h1.get? acc=some {cls:=.type "list",data:=.seq ([]:List Value).toArray n0}):
  Inv (X.comp N scope C s2 H2 fp) [] (xp imp σ) (upd H2 acc (.lst [])) {s2 with heap:=h1,toks:=tk}:=by
 have fa:H2 acc=none:=I.hok.fresh (by rw[hacc];exact dC _)
 have cac:C≠acc:=by rw[hC,hacc];exact Nat.succ_ne_self _
 have clt:∀x c,X.env.cells.lookup x=some c→c<s2.heap.objs.size:=fun x c e=>by
  obtain⟨v,q⟩:=I.cell x c e
  exact q.lt
 refine⟨⟨I.ok.mod,S.kind,I.ok.glob,I.ok.blt,?above,?inj,?has,?cab,I.ok.hd,I.ok.frames,.inl rfl,?exf,fun b o e=>I.bs b o e,dq I.ok.bsz I.sz,?noex,?exfs,I.stack,I.stkFree⟩,
  rfl,I.bare,Un.laid old (by rw[hacc];exact dC _) fa,⟨m,hn,?loc⟩,?cell,?free,?freeC,fun p hp=>absurd (show p∈([]:List (Addr×Obj)) from hp) (by simp),I.hok.laid old (by rw[hacc];exact dC _) ⟨dQ _,[],n0,.nil,hl⟩,?len⟩
 case above=>show s2.heap.objs.size≤C;rw[hC];exact Nat.le_succ _
 case inj=>exact fun x y c h1 h2=>I.ok.inj x y c (yU I S h1).2 (yU I S h2).2
 case has=>exact fun x hx=>wY I S (wN (env:=X.env) hx S.nocell)
 case cab=>exact fun x c h _=>absurd h (by show ¬(false=true);simp)
 case exf=>
  intro b hb
  obtain⟨o,hob⟩:=ho b hb
  refine⟨?_,fun x c e=>(hf b hb).2.2.2.2.1 x c (yU I S e).2⟩
  show b≠C
  rw[hC]
  exact cg (Nat.lt_succ_of_lt (dD hob))
 case noex=>
  intro b o e hb
  rcases (hf b hb).2.2.2.1 with z|z
  ·exact I.ok.noex b o e z
  ·exact absurd (dO (dD e) (dq I.ok.bsz z)) (cM _)
 case exfs=>
  intro b hb hz
  rcases dm.mp (I.stkSub b hz) with e|e
  ·exact (hf b hb).2.1 e
  ·exact (hf b hb).2.2.1 e
 case loc=>
  intro i x v e1 e2 e3
  obtain⟨j,q1,q2⟩:=pZ e2
  obtain⟨y,n1,n2,n3⟩:=S.imps i j q1
  have n1':(X.comp N scope C s2 H2 fp).N[i]?=some y:=n1
  rw[n1'] at e1
  have exy:y=x:=dM e1
  subst exy
  have hfr:=S.frees (y,.free) (cu n3) rfl
  obtain⟨mX,hnX,hlX⟩:=I.loc
  obtain⟨u,r,l⟩:=hlX j y v n2 q2 (.inr hfr)
  refine⟨u,r,?_⟩
  rcases l with ⟨k,_⟩|⟨k,c,e,z⟩
  ·have k':X.env.scope.names.lookup y=some .local:=k
   rcases hfr with z|z
   ·have z':X.env.scope.names.lookup y=some .cell:=z
    rw[k'] at z';cases z'
   ·have z':X.env.scope.names.lookup y=some .free:=z
    rw[k'] at z';cases z'
  ·obtain⟨d,hd⟩:=wY I S (cu n3)
   have hd2:=(yU I S hd).2
   rw[e] at hd2
   have edc:c=d:=dM hd2
   subst edc
   exact .inr ⟨vE (env:=X.env) n3,c,hd,z.keeps old⟩
 case cell=>
  intro x c e
  obtain⟨v,q⟩:=I.cell x c (yU I S e).2
  exact⟨v,q.keeps old⟩
 case free=>
  show upd H2 acc _ C=none
  rw[zk cac]
  exact I.hok.fresh (by rw[hC];exact Nat.le_succ _)
 case freeC=>
  intro x c e
  have e':=(yU I S e).2
  have hlt:=clt x c e'
  show upd H2 acc _ c=none
  rw[zk (by rw[hacc];exact cg hlt)]
  exact I.freeC x c e'
 case len=>
  show (xp imp σ).length=N.length
  unfold xp
  rw[dB]
  exact S.len
theorem oB {pl:List (Addr×Obj)}{τ:St}(I:Inv X pins σ H2 s2)(hf:∀b∈fp,uf X pins H2 b)(J:Inv (X.comp N scope C s2 H2 fp) pl τ H' s'):Inv X pins σ H' s':=
 I.call' (ch:=fp) J.os J.base J.hok J.bare fun b hb=>⟨(hf b hb).2.2.2.1,(hf b hb).2.1,(hf b hb).2.2.2.2.1,(hf b hb).2.2.2.2.2⟩
end
section
variable {prog:Program}{w:World}{A:Around}{R:Result→Shared→Prop}{s:Shared}
theorem sL {elt target iter:Expr}{ifs:List Expr}{scope:Scope}{pos:Pos}{it acc:Value}{env:Env}(I:Nat→Shared→Prop)
  (turn:∀n s,I n s→wpAny (model prog w) A (pyNext it) (fun r s1=>match r with
   |none=>R (.ok .next) s1
   |some v=>wpAny (model prog w) A (letOwnedTupleGo target it v) (fun _ s2=>wpAny (model prog w) A (assign target env v) (fun _ s3=>
     wpAny (model prog w) A (forIn ifs true fun c r=>if r=true then do let ok ←isTrue c env (eval c env);pure (ForInStep.yield ok) else pure (ForInStep.yield r)) (fun ok s4=>
      if ok=true then wpAny (model prog w) A (eval elt env) (fun x s5=>
       wpAny (model prog w) A (call (.builtin "list.append") [acc,x]) (fun _ s6=>∃m,m<n∧I m s6) (fun _ _=>False) s5) (fun _ _=>False) s4
      else ∃m,m<n∧I m s4) (fun _ _=>False) s3) (fun _ _=>False) s2) (fun _ _=>False) s1) (fun _ _=>False) s)
  (n:Nat) (h:I n s):codeAny (model prog w) A (.compLoop (.ListComp elt [⟨target,iter,ifs,0⟩] scope pos) 0 it acc env) R s:=by
 refine codeAny_loop rfl I (fun n s hI=>?_) n h
 show wpAny _ A ((compTurn (.ListComp elt [⟨target,iter,ifs,0⟩] scope pos) 0 it acc env).onRaise (fun x=>do noteFrame x env;theTreesLotGoes x)) _ _ s
 refine wpAny_noted ?_
 rw[compTurn_list]
 refine dS (wpAny_standAt (dS (cn (turn n s hI) (fun r s1 h1=>?_) fun _ _ h'=>False.elim h')))
 cases r with
 |none=>exact cq h1
 |some v=>
  refine dS (cn h1 (fun _ s2 h2=>?_) fun _ _ h'=>False.elim h')
  refine dS (cn h2 (fun _ s3 h3=>dS (cn h3 (fun ok s4 h4=>?_) fun _ _ h'=>False.elim h')) fun _ _ h'=>False.elim h')
  cases ok with
  |false=>exact cq ⟨rfl,h4⟩
  |true=>
   exact dS (dS (cn h4 (fun x s5 h5=>dS (cn h5 (fun _ s6 h6=>cq (cq ⟨rfl,h6⟩)) fun _ _ h'=>False.elim h')) fun _ _ h'=>False.elim h'))
end
def xR (Y:Cx)(ifs:List Expr)(t:TT):Prop:=
 ∀(pins:List (Addr×Obj)) (s:Shared) (σ:St) (H:Hp) (Q:Bool→Hp→Prop),Inv Y pins σ H s→t σ H Q→
  wpAny (model Y.prog Y.w) Y.A (forIn ifs true fun c r=>if r=true then do let ok ←isTrue c Y.env (eval c Y.env);pure (ForInStep.yield ok) else pure (ForInStep.yield r)) (TP Y pins σ Q) Y.xe s
def er :TT:=fun _ H Q=>Q true H
theorem kg {Y:Cx}:xR Y [] er:=fun _ _ _ H _ I h=>wpAny_tests_nil ⟨H,I,h⟩
theorem jA {Y:Cx}{c:Expr}{t:TT}(h:PT Y c t):xR Y [c] t:=fun pins s σ H Q I q=>wpAny_tests_one (h pins s σ H Q I q)
def qH (J:It)(acc:Addr)(g:TG)(tt:TT)(te:TE)(τ0:St)(H0:Hp)(Q:VK):Prop:=
 ∃W:Nat→Nat→List V→St→Hp→Prop,(∃m,W 0 m [] τ0 H0)∧∀i m ys τ H2,W i m ys τ H2→
  (J.stop i H2∧Q (.ref acc) H2)∨(J.go i H2∧∃N:List V→St→Hp→Prop,(∀ys' τ' H',N ys' τ' H'→∃m',m'<m∧W (i+1) m' ys' τ' H')∧
   ∀x H3,J.yld i H2 x H3→g x τ H3 fun τ2 H4=>tt τ2 H4 fun c H5=>
    if c=true then te τ2 H5 fun y H6=>H6 acc=some (.lst ys)∧ys.length<sizeLine∧N (ys++[y]) τ2 (upd H6 acc (.lst (ys++[y]))) else N ys τ2 H5)
def nZ (wi:TI)(imp:List (Option Nat))(g:TG)(tt:TT)(te:TE):TE:=fun σ H Q=>wi σ H fun J H1=>∀acc,H1 acc=none→qH J acc g tt te (xp imp σ) (upd H1 acc (.lst [])) Q
section
variable {X:Cx}{pins:List (Addr×Obj)}{σ:St}{elt iter tg:Expr}{ifs:List Expr}{scope:Scope}{pos:Pos}{wi:TI}{g:TG}{tt:TT}{te:TE}{N:List Str}{imp:List (Option Nat)}
theorem vX {H2:Hp}{s2:Shared}{it:Addr}{fp:List Addr}{tn:Nat→Heap→Prop}{J:It}{RR:Value→Addr→Result→Shared→Prop}{E:Value→Shared→Prop}{Q:VK}
  (hc:X.calm=true) (S:zO X.N X.env.scope N imp scope) (hg:∀C s2 H2 fp,PG (X.comp N scope C s2 H2 fp) tg g) (ht:∀C s2 H2 fp,xR (X.comp N scope C s2 H2 fp) ifs tt) (he:∀C s2 H2 fp,PE (X.comp N scope C s2 H2 fp) elt te)
  (I2:Inv X pins σ H2 s2) (T:Turn X.prog X.w X.K tg J fp it tn) (st2:tn 0 s2.heap) (f2:∀b∈fp,uf X pins H2 b)
  (hW:∀acc,H2 acc=none→qH J acc g tt te (xp imp σ) (upd H2 acc (.lst [])) Q)
  (hRR:∀a C H' s' m,Inv X pins σ H' s'→s'.heap.Ns C m→uf X pins H' C→Q (.ref a) H'→RR (.ref a) C (.ok .next) s'):
  wpAny (model X.prog X.w) X.A (newList []) (fun acc s3=>wpAny (model X.prog X.w) X.A (newFunctionEnv scope X.env.globals (wI X.env.cells scope.names []) [] X.env.qual none .none (some X.env)) (fun cenv s4=>
   codeAny (model X.prog X.w) X.A (.compStart (.ListComp elt [⟨tg,iter,ifs,0⟩] scope pos) 0 (.ref it) acc {cenv with scope:=relabel scope X.env}) (RR acc cenv.locals) s4) E s3) E s2:=by
 refine wpAny_newObj_type (wpAny_newFunctionEnv S.nocell (by intro y hy;simp at hy) (fun h1 hns1 hsb1=>?_) S.kind)
 dsimp only at hns1 hsb1 ⊢
 generalize hHH:s2.heap.push {cls:=.type "list",dict:=none,data:=.seq ([]:List Value).toArray}=HH at hns1 hsb1 ⊢
 have hC:HH.objs.size=s2.heap.objs.size+1:=by rw[←hHH,Heap.size_push]
 have hDC:s2.heap.objs.size≠HH.objs.size:=by rw[hC];exact cg (Nat.lt_succ_self _)
 have old:∀b o,s2.heap.get? b=some o→h1.get? b=some o:=fun b o e=>hsb1.extBut b o (by rw[hC];exact cg (Nat.lt_succ_of_lt (dD e))) (dF _ (hHH▸dF _ e))
 have hacc:h1.get? s2.heap.objs.size=some {cls:=.type "list",data:=.seq ([]:List Value).toArray}:=hsb1.extBut _ _ hDC (dF _ (hHH▸dZ _ rfl))
 obtain⟨W,⟨m0,w0⟩,turn⟩:=hW s2.heap.objs.size I2.fresh
 generalize hCC:HH.objs.size=C at hns1 hsb1 hC hDC ⊢
 have ho:∀b∈fp,∃o,s2.heap.get? b=some o:=fun b hb=>let ⟨o,e,_⟩:=T.obj 0 _ st2 b hb;⟨o,e⟩
 generalize hacc0:s2.heap.objs.size=acc at *
 have loop:∀s3:Shared,s3={s2 with heap:=h1,toks:=s2.toks+([]:List (Str×Value)).length}→
   codeAny (model X.prog X.w) X.A (.compLoop (.ListComp elt [⟨tg,iter,ifs,0⟩] scope pos) 0 (.ref it) (.ref acc) (X.comp N scope C s2 H2 fp).env) (RR (.ref acc) C) s3:=by
  rintro s3 rfl
  have I3:Inv (X.comp N scope C s2 H2 fp) [] (xp imp σ) (upd H2 acc (.lst [])) {s2 with heap:=h1,toks:=s2.toks+([]:List (Str×Value)).length}:=
   mq I2 S f2 ho hacc0.symm (by rw[hC,hacc0]) old hns1 hacc
  have fpn:∀b∈fp,upd H2 acc (.lst []) b=none:=fun b hb=>by
   obtain⟨o,e⟩:=ho b hb
   rw[zk (by rw[←hacc0];exact cg (dD e))]
   exact (f2 b hb).1
  have stat:∀{H':Hp},(∀b∈fp,H' b=none)→∀b∈fp,uf (X.comp N scope C s2 H2 fp) [] H' b:=fun hn b hb=>by
   obtain⟨e1,e2⟩:=I3.ok.exf b hb
   exact⟨hn b hb,e1,I3.ok.exfs b hb,.inl hb,e2,fun p hp=>absurd (show p∈([]:List (Addr×Obj)) from hp) (by simp)⟩
  refine sL (fun n s'=>∃i ys τ H',Inv (X.comp N scope C s2 H2 fp) [] τ H' s'∧tn i s'.heap∧(∀b∈fp,H' b=none)∧W i n ys τ H') ?_ m0
   ⟨0,[],_,_,I3,T.keep _ _ _ st2 fun b _ o e=>old b o e,fpn,w0⟩
  rintro n s4 ⟨i,ys,τ,H4,I4,st4,fr4,w4⟩
  rcases turn i n ys τ H4 w4 with ⟨stop,qn⟩|⟨go,NN,hN,step⟩
  ·refine cn (T.done (X.comp N scope C s2 H2 fp) rfl rfl rfl hc i [] s4 τ H4 (fun _ _=>False) I4 (stat fr4) st4 stop) (fun r s5 ⟨hr,I5⟩=>?_) fun _ _ z=>z
   subst hr
   obtain⟨m5,hn5,_⟩:=id I5.loc
   exact hRR acc C H4 s5 m5 (oB I2 f2 I5) hn5 (I2.fpOk (by rw[hC,hacc0];exact Nat.le_succ _) I5.free) qn
  ·refine cn (T.item (X.comp N scope C s2 H2 fp) rfl rfl rfl hc i [] s4 τ H4 (fun _ _=>False) I4 (stat fr4) st4 go) (fun r s5 ⟨u,hr,h5⟩=>?_) fun _ _ z=>z
   subst hr
   refine cn h5 (fun _ s6 ⟨x,H6,I6,r6,y6,st6,fr6⟩=>?_) fun _ _ z=>z
   have I6':=I6.pinned (stat fr6) (T.obj _ _ st6)
   refine cn (hg C s2 H2 fp _ s6 τ H6 x u _ I6' r6 (step x H6 y6)) (fun _ s7 ⟨τ7,H7,I7,q7⟩=>?_) fun _ _ z=>z
   refine cn (ht C s2 H2 fp _ s7 τ7 H7 _ I7 q7) (fun ok s8 ⟨H8,I8,q8⟩=>?_) fun _ _ z=>z
   have again:∀{ys9:List V} {H9:Hp} {s9:Shared},Inv (X.comp N scope C s2 H2 fp) ([]++ub fp s6.heap) τ7 H9 s9→NN ys9 τ7 H9→∃m,m<n∧∃i ys τ H',Inv (X.comp N scope C s2 H2 fp) [] τ H' s9∧tn i s9.heap∧(∀b∈fp,H' b=none)∧W i m ys τ H':=fun {ys9 H9 s9} I9 n9=>by
    obtain⟨m',hm,w9⟩:=hN ys9 τ7 H9 n9
    refine⟨m',hm,i+1,ys9,τ7,H9,I9.unpinned,T.keep _ _ _ st6 fun b hb o e=>(I9.pin (b,o) (dN _ (dN _ (xB hb e)))).1,fun b hb=>?_,w9⟩
    obtain⟨o,e,d⟩:=T.obj _ _ st6 b hb
    exact (I9.pin (b,o) (dN _ (dN _ (xB hb e)))).2.1
   cases ok with
   |false=>
    have q8':NN ys τ7 H8:=by
     have z:=q8
     rw[if_neg dr] at z
     exact z
    rw[if_neg dr]
    exact again I8 q8'
   |true=>
    rw[if_pos rfl] at q8 ⊢
    refine cn (he C s2 H2 fp _ s8 τ7 H8 _ I8 q8) (fun v s9 ⟨y,H9,I9,r9,a9,z9,q9⟩=>?_) fun _ _ z=>z
    refine cn (uU (X:=X.comp N scope C s2 H2 fp) _ s9 τ7 H9 (.ref acc) [y] (.ref acc) [v] (fun _ H10=>H10=upd H9 acc (.lst (ys++[y]))) I9 rfl (.cons r9 .nil) ⟨acc,ys,y,rfl,rfl,a9,z9,rfl⟩) (fun _ s10 ⟨_,H10,I10,_,e10⟩=>?_) fun _ _ z=>z
    subst e10
    exact again I10 q9
 exact codeAny_compStart_list (loop _ rfl) (T.self X.A 0 _ _ _ (T.keep _ _ _ st2 fun b _ o e=>old b o e) (loop _ rfl))
theorem fJ (hc:X.calm=true)(S:zO X.N X.env.scope N imp scope)(hi:PI X tg iter wi)(hg:∀C s2 H2 fp,PG (X.comp N scope C s2 H2 fp) tg g)(ht:∀C s2 H2 fp,xR (X.comp N scope C s2 H2 fp) ifs tt)
  (he:∀C s2 H2 fp,PE (X.comp N scope C s2 H2 fp) elt te) (hs:∀x,foldedSetIterable iter X.env x=pure x:=by intro _;rfl):
  PE X (.ListComp elt [⟨tg,iter,ifs,0⟩] scope pos) (nZ wi imp g tt te):=by
 intro pins s σ H Q I h
 rw[eval_ListComp]
 refine wpAny_comprehension_free (use:=none) rfl hs (wj (wC I S)) S.kind S.locs (thn (hi pins s σ H _ I h) fun v s1 h1=>thn h1 fun itv s2 h2=>?_)
 obtain⟨it,fp,tn,J,H2,e,I2,T,st2,f2,hW⟩:=h2
 subst e
 refine vX (RR:=fun acc C=>compPost (model X.prog X.w) X.A X.xe none (EP X pins σ Q) acc C) hc S hg ht he I2 T st2 f2 hW fun a C H' s' m I' hn f q=>?_
 refine⟨m,hn,fun h' sb=>?_⟩
 obtain⟨g0,g1,g2,g3,g4,g5⟩:=f
 exact⟨.ref a,H',I'.turned (t':=s'.toks) (it:=C) (fun b o hb e=>(sb.2 b hb).trans e) g0 g1 g3 g4 g5,rfl,q⟩
theorem lA {i:Nat}{x:Str}{px:Pos}{spos:Pos}(hc:X.calm=true)(S:zO X.N X.env.scope N imp scope)(hi:PI X tg iter wi)(hg:∀C s2 H2 fp,PG (X.comp N scope C s2 H2 fp) tg g)(ht:∀C s2 H2 fp,xR (X.comp N scope C s2 H2 fp) ifs tt)
  (he:∀C s2 H2 fp,PE (X.comp N scope C s2 H2 fp) elt te) (hN:X.N.Nodup) (hx:X.N[i]?=some x) (hl:Loc X.env.scope x) (hsw:swapsWith (.ListComp elt [⟨tg,iter,ifs,0⟩] scope pos) (some (.Name x px)) spos.line X.env=pure true:=by rfl)
  (hf:X.fn x=true∨X.env.scope.names.lookup x=some .local:=by first|exact .inl rfl|exact .inr rfl|assumption) (hs:∀x,foldedSetIterable iter X.env x=pure x:=by intro _;rfl):
  PS X (.Assign [.Name x px] (.ListComp elt [⟨tg,iter,ifs,0⟩] scope pos) spos) (ic (nZ wi imp g tt te) (uI i)):=by
 intro pins s σ H D I h
 rw[exec_Assign_Name_used _ _ _ _ hsw]
 refine dS (wpAny_standAt (dS ?_))
 show wpAny _ X.A (do let _ ←comprehension (.ListComp elt [⟨tg,iter,ifs,0⟩] scope pos) scope X.env _ (newList []) false (eval iter X.env) (some (assign (.Name x px) X.env))) _ _ s
 refine dS (cn (wpAny_comprehension_free (use:=some (assign (.Name x px) X.env)) (Q:=fun _ s'=>SP X pins D .next s') rfl hs (wj (wC I S)) S.kind S.locs (thn (hi pins s σ H _ I h) fun v s1 h1=>thn h1 fun itv s2 h2=>?_))
  (fun _ s' hq=>cq (cq hq)) fun _ _ e=>e)
 obtain⟨it,fp,tn,J,H2,e,I2,T,st2,f2,hW⟩:=h2
 subst e
 refine vX (Q:=fun x H1=>uI i x σ H1 D.nx) (RR:=fun acc C=>compPost (model X.prog X.w) X.A X.xe (some (assign (.Name x px) X.env)) (fun _ s'=>SP X pins D .next s') acc C) hc S hg ht he I2 T st2 f2 hW fun a C H' s' m I' hn f q=>?_
 show wpAny _ X.A (assign (.Name x px) X.env (.ref a)) _ _ _
 obtain⟨g0,g1,g2,g3,g4,g5⟩:=f
 refine wpAny_assign_Name (uX I' hN hx hl (show RelV (.ref a) (.ref a) from rfl) (fun s4 I4 hch=>?_) hf)
 obtain⟨ad,sb,had⟩:=hch
 have hCa:C≠ad:=by
  rcases had with e|e
  ·rw[e];exact g1
  ·exact (g4 x ad e).symm
 refine⟨m,hn.sameBut sb hCa,fun h' sb2=>?_⟩
 exact⟨_,H',I4.turned (t':=s4.toks) (it:=C) (fun b o hb e=>(sb2.2 b hb).trans e) g0 g1 g3 g4 g5,q⟩
end
mutual
inductive DV (H:Hp):V→PyData→Prop where
 |non:DV H .non .none
 |bl (b:Bool):DV H (.bl b) (.bool b)
 |int (i:Int):DV H (.int i) (.int i)
 |str (x:Str):DV H (.str x) (.str x)
 |lst {a:Addr} {xs:List V} {ds:List PyData}:H a=some (.lst xs)→DVs H xs ds→DV H (.ref a) (.list ds)
 |tup {a:Addr} {xs:List V} {ds:List PyData}:H a=some (.tup xs)→DVs H xs ds→DV H (.ref a) (.tuple ds)
inductive DVs (H:Hp):List V→List PyData→Prop where
 |nil:DVs H [] []
 |cons {x:V} {xs:List V} {d:PyData} {ds:List PyData}:DV H x d→DVs H xs ds→DVs H (x::xs) (d::ds)
end
section
variable {X:Cx}{pins:List (Addr×Obj)}{σ:St}{H:Hp}{s:Shared}
mutual
theorem DV.reads (I:Inv X pins σ H s):∀{x:V} {d:PyData} {u:Value},DV H x d→RelV x u→∃as,Reads s.heap u d as
 |_,_,u,.non,r=>by cases (show u=Value.none from r);exact⟨_,.none⟩
 |_,_,u,.bl b,r=>by cases (show u=Value.bool b from r);exact⟨_,.bool b⟩
 |_,_,u,.int i,r=>by obtain⟨t,rfl⟩:=(show ∃t,u=Value.int i t from r);exact⟨_,.int i t⟩
 |_,_,u,.str x,r=>by obtain⟨t,rfl⟩:=(show ∃t,u=Value.str x t from r);exact⟨_,.str x t⟩
 |_,_,u,.lst (a:=a) hq hs,r=>by
  cases (show u=Value.ref a from r)
  obtain⟨its,rv,p,hz⟩:=I.list (SqL.of hq)
  obtain⟨o,ho,hc,n,hd⟩:=p.isList
  obtain⟨as,ra⟩:=DVs.reads I hs rv
  exact⟨_,.list ho hc hd (by simpa using ra)⟩
 |_,_,u,.tup (a:=a) hq hs,r=>by
  cases (show u=Value.ref a from r)
  obtain⟨its,rv,p,hz⟩:=I.tuple (SqT.of hq)
  obtain⟨o,ho,hc,n,hd⟩:=p
  obtain⟨as,ra⟩:=DVs.reads I hs rv
  exact⟨_,.tuple ho hc hd (by simpa using ra)⟩
theorem DVs.reads (I:Inv X pins σ H s):∀{xs:List V} {ds:List PyData} {us:List Value},DVs H xs ds→Vals xs us→∃as,ReadsAll s.heap us ds as
 |_,_,_,.nil,.nil=>⟨_,.nil⟩
 |_,_,_,.cons h hs,.cons r rs=>by
  obtain⟨as,ra⟩:=DV.reads I h r
  obtain⟨bs,rb⟩:=DVs.reads I hs rs
  exact⟨_,.cons ra rb⟩
end
end
mutual
theorem DV.same {H H':Hp}(e:zu H H'):∀{x:V} {d:PyData},DV H x d→DV H' x d
 |_,_,.non=>.non
 |_,_,.bl b=>.bl b
 |_,_,.int i=>.int i
 |_,_,.str x=>.str x
 |_,_,.lst hq hs=>.lst (e _ _ hq) (DVs.same e hs)
 |_,_,.tup hq hs=>.tup (e _ _ hq) (DVs.same e hs)
theorem DVs.same {H H':Hp}(e:zu H H'):∀{xs:List V} {ds:List PyData},DVs H xs ds→DVs H' xs ds
 |_,_,.nil=>.nil
 |_,_,.cons h hs=>.cons (DV.same e h) (DVs.same e hs)
end
theorem DVs.length {H:Hp}:∀{xs:List V} {ds:List PyData},DVs H xs ds→xs.length=ds.length
 |_,_,.nil=>rfl
 |_,_,.cons _ hs=>by rw[dJ,dJ,DVs.length hs]
def tyD :PyData→String
 |.none=>"NoneType"
 |.bool _=>"bool"
 |.int _=>"int"
 |.str _=>"str"
 |.list _=>"list"
 |.tuple _=>"tuple"
 |.dict _=>"dict"
theorem DV.ty {K:PySem.W.Frag}{H:Hp}{x:V}{d:PyData}(h:DV H x d):vg K H x (.type (tyD d)):=by
 cases h with
 |non=>exact .non
 |bl b=>exact .bl b
 |int i=>exact .int i
 |str x=>exact .str x
 |lst e _=>exact .lst e
 |tup e _=>exact .tup e
def isInt :PyData→Bool
 |.int _=>true
 |.bool _=>true
 |_=>false
def isBool :PyData→Bool
 |.bool _=>true
 |_=>false
def isStr :PyData→Bool
 |.str _=>true
 |_=>false
def isList :PyData→Bool
 |.list _=>true
 |_=>false
def pA :PyData→Bool
 |.tuple _=>true
 |_=>false
def uB (T:String)(d:PyData):Option Bool:=
 if T="int" then some (isInt d) else if T="bool" then some (isBool d) else if T="str" then some (isStr d) else if T="list" then some (isList d) else if T="tuple" then some (pA d) else none
def iI (t T:String):Option Bool:=if (Value.type t == Value.type T)=true then some true else if PySem.W.kitMeta T=true then (fastBuiltinMro t).map (·.contains (Value.type T)) else none
theorem mT (K:PySem.W.Frag)(t T:String):PySem.W.kitOne K (.type t) (.type T)=iI t T:=rfl
theorem lg :(["NoneType","bool","int","str","list","tuple"].all fun t=>["int","bool","str","list","tuple"].all fun T=>
  iI t T == some (if T="int" then t == "int"||t == "bool" else t == T))=true:=by decide +kernel
theorem gQ (K:PySem.W.Frag){H:Hp}{x:V}{d:PyData}(h:DV H x d){T:String}{b:Bool}(e:uB T d=some b):PySem.W.kitOne K (.type (tyD d)) (.type T)=some b:=by
 rw[mT]
 have key:∀t∈["NoneType","bool","int","str","list","tuple"],∀T∈["int","bool","str","list","tuple"],iI t T=some (if T="int" then t == "int"||t == "bool" else t == T):=fun t ht T hT=>
  eq_of_beq (cB.mp (cB.mp lg t ht) T hT)
 have hd:tyD d∈["NoneType","bool","int","str","list","tuple"]:=by cases h<;>simp[tyD]
 unfold uB at e
 split at e
 ·rename_i eT
  subst eT
  rw[key _ hd "int" (by decide)]
  cases e
  cases h<;>rfl
 ·split at e
  ·rename_i eT
   subst eT
   rw[key _ hd "bool" (by decide)]
   cases e
   cases h<;>rfl
  ·split at e
   ·rename_i eT
    subst eT
    rw[key _ hd "str" (by decide)]
    cases e
    cases h<;>rfl
   ·split at e
    ·rename_i eT
     subst eT
     rw[key _ hd "list" (by decide)]
     cases e
     cases h<;>rfl
    ·split at e
     ·rename_i eT
      subst eT
      rw[key _ hd "tuple" (by decide)]
      cases e
      cases h<;>rfl
     ·cases e
section
variable {X:Cx}
def fF :R2:=fun x y H Q=>∃d e,DV H x d∧DV H y e∧SeqAt.shaped d=true∧SeqAt.shaped e=true∧Q (.bl (PyData.eqv d e)) H
def fv :R2:=fun x y H Q=>∃d e,DV H x d∧DV H y e∧SeqAt.shaped d=true∧SeqAt.shaped e=true∧Q (.bl (!PyData.eqv d e)) H
theorem xV (hu:X.A.units+64<cLine):OpR X (compareOp .Eq) fF:=by
 intro pins s σ H x y v u Q I rx ry h
 obtain⟨d,e,hd,he,sd,se,q⟩:=h
 obtain⟨as,ra⟩:=hd.reads I rx
 obtain⟨bs,rb⟩:=he.reads I ry
 exact SeqAt.compareEq_shaped ra rb sd se hu ⟨.bl _,H,I,rfl,q⟩
theorem jZ (hu:X.A.units+64<cLine):OpR X (compareOp .NotEq) fv:=by
 intro pins s σ H x y v u Q I rx ry h
 obtain⟨d,e,hd,he,sd,se,q⟩:=h
 obtain⟨as,ra⟩:=hd.reads I rx
 obtain⟨bs,rb⟩:=he.reads I ry
 exact SeqAt.compareNe_shaped ra rb sd se hu ⟨.bl _,H,I,rfl,q⟩
theorem nD :xr X (.builtin "isinstance") (fun xs H Q=>∃x T t b,xs=[x,.ty T]∧vg X.K H x t∧PySem.W.kitOne X.K t (.type T)=some b∧Q (.bl b) H):=by
 intro pins s σ H xs us Q I r h
 obtain⟨x,T,t,b,rfl,ty,e,q⟩:=h
 obtain⟨u,v,rfl,rx,ry⟩:=Vals.two r
 cases (show v=Value.type T from ry)
 exact oj I rx ty e fun tk=>⟨.bl b,H,I.tok tk,rfl,q⟩
theorem yV :xr X (.builtin "isinstance") (fun xs H Q=>∃x T d b,xs=[x,.ty T]∧DV H x d∧uB T d=some b∧Q (.bl b) H):=by
 intro pins s σ H xs us Q I r h
 obtain⟨x,T,d,b,e,hd,ht,q⟩:=h
 exact nD pins s σ H xs us Q I r ⟨x,T,_,b,e,hd.ty,gQ X.K hd ht,q⟩
def jR (i j:Int):Prop:=0<j∧j.natAbs.log2<9000
theorem ua :OpR X (binaryOp .FloorDiv) (rI jR fun i j=>.int (i / j)):=opI fun i j _ _ _ _ _ hc q=>by
 have h1:(0:Int)<j:=hc.1
 refine floordiv_int (Int.ne_of_gt h1) ?_ (.inl (PyProof.noPylong_of_log2 hc.2))
 rw[Int.fdiv_eq_ediv_of_nonneg _ (Int.le_of_lt h1)]
 exact q
abbrev big :Int:=115792089237316195423570985008687907853269984665640564039457584007913129639936
theorem log2_small {j:Int}(h0:0<j)(h:j<big):j.natAbs.log2<9000:=by
 have hn:j.natAbs≠0:=by omega
 have h2:j.natAbs<2 ^ 256:=by
  have e:(2:Nat) ^ 256=115792089237316195423570985008687907853269984665640564039457584007913129639936:=by decide +kernel
  rw[e]
  unfold big at h
  omega
 have h3:j.natAbs.log2<256:=(Nat.log2_lt hn).mpr h2
 omega
def vj (lo:Int)(n:Nat):List Int:=(List.range n).map fun i=>lo+(i:Nat)
theorem yG (lo:Int)(n:Nat):(vj lo n).length=n:=by simp[vj]
theorem qC {lo:Int}{n i:Nat}(h:i<n):(vj lo n)[i]?=some (lo+(i:Nat)):=by simp[vj,h]
theorem nI {bs:List Bool}:∀{us:List Value},Vals (bs.map V.bl) us→LSm.BoolsAre us bs:=by
 induction bs with
 |nil=>intro us h;cases h;exact .nil
 |cons b bs ih=>
  intro us h
  cases h with
  |cons r rr=>
   cases (show _=Value.bool b from r)
   exact .cons b (ih rr)
end
def mL (X:Cx)(body:List Stmt):TS:=fun D σ H=>∃t,PSs X body t∧t D σ H
theorem zM {X:Cx}{body:List Stmt}:PSs X body (mL X body):=fun pins s σ H D I ⟨t,p,q⟩=>p pins s σ H D I q
theorem xk {X:Cx}{st:Stmt}{rest:List Stmt}{D:Ends}{σ:St}{H:Hp}(M:St→Hp→Prop)(h1:∃t,PS X st t∧t {D with nx:=M} σ H)(h2:∀σ' H',M σ' H'→∃t,PSs X rest t∧t D σ' H'):
  ∃t,PSs X (st::rest) t∧t D σ H:=by
 obtain⟨t1,p1,q1⟩:=h1
 refine⟨fun D' σ' H'=>D'=D∧σ'=σ∧H'=H,?_,rfl,rfl,rfl⟩
 intro pins s σ' H' D' I h
 obtain⟨e1,e2,e3⟩:=h
 subst e1 e2 e3
 have step:PSs X (st::rest) (fb t1 fun D2 σ2 H2=>D2=D'∧M σ2 H2):=zC p1 fun pins s σ2 H2 D2 I2 ⟨e,m⟩=>by
  subst e
  obtain⟨t2,p2,q2⟩:=h2 σ2 H2 m
  exact p2 pins s σ2 H2 _ I2 q2
 refine step pins s _ _ _ I ?_
 show t1 {D' with nx:=fun σ2 H2=>D'=D'∧M σ2 H2} _ _
 have e:(fun (σ2:St) (H2:Hp)=>D'=D'∧M σ2 H2)=M:=by
  funext σ2 H2
  exact propext ⟨fun z=>z.2,fun z=>⟨rfl,z⟩⟩
 rw[e]
 exact q1
theorem nE (ns:List Int)(lo hi:Option Int):∃ms:List Int,sY (ns.map V.int) lo hi=ms.map V.int∧ms.length≤ns.length:=by
 refine⟨(ns.drop (HT.sIx (ns.map V.int).length 0 lo)).take (HT.sIx (ns.map V.int).length (ns.map V.int).length hi-HT.sIx (ns.map V.int).length 0 lo),?_,?_⟩
 ·unfold sY
  rw[List.map_take,List.map_drop]
 ·rw[bp,List.length_drop]
  omega
def fc (bs:List Int):Prop:=∃x y:Int,bs=[x,y]∧0≤y∧y<4294967296
structure yD (H:Hp)(t b c:Addr):Prop where
 ex:∃(n:Int) (bs cs:List Int),(b=t∧c=t)∧H t=some (.lst (bs.map V.int))∧H b=some (.lst (bs.map V.int))∧H c=some (.lst (cs.map V.int))∧fc bs∧n=0
def gj (t b:Addr)(H H':Hp):Prop:=∀a,a≠t→a≠b→H' a=H a
def mU :Sp:=fun vs H Q _=>∃(t b c:Addr) (many:Int),vs=[.ref t,.int many]∧yD H t b c∧0<many∧many<big∧
 ∀(v:Int) (H':Hp),0≤v→v<many→yD H' t b c→gj t b H H'→Q (.int v) H'
theorem yD.free {H:Hp}{t b c l:Addr}(T:yD H t b c)(h:H l=none):l≠t∧l≠b∧l≠c:=by
 obtain⟨n,bs,cs,n1,e1,e2,e3,l1,l2⟩:=T.ex
 exact⟨(zq e1 h).symm,(zq e2 h).symm,(zq e3 h).symm⟩
theorem yD.off {H H':Hp}{t b c:Addr}(T:yD H t b c)(h:∀a,a=t∨a=b∨a=c→H' a=H a):yD H' t b c:=by
 obtain⟨n,bs,cs,n1,e1,e2,e3,l1,l2⟩:=T.ex
 exact⟨n,bs,cs,n1,by rw[h t (.inl rfl)];exact e1,by rw[h b (.inr (.inl rfl))];exact e2,by rw[h c (.inr (.inr rfl))];exact e3,l1,l2⟩
theorem mO {H:Hp}{t b c l:Addr}{o:HO}(T:yD H t b c)(h:l≠t∧l≠b∧l≠c):yD (upd H l o) t b c:=
 T.off fun a ha=>zk (ha.elim (fun e=>e▸h.1.symm) fun ha=>ha.elim (fun e=>e▸h.2.1.symm) fun e=>e▸h.2.2.symm)
theorem oG {H H':Hp}{t b c:Addr}(T:yD H t b c)(s:zu H H'):yD H' t b c:=by
 obtain⟨n,bs,cs,n1,e1,e2,e3,l1,l2⟩:=T.ex
 exact⟨n,bs,cs,n1,s _ _ e1,s _ _ e2,s _ _ e3,l1,l2⟩
theorem zV {H:Hp}{p:Addr}{o:HO}(h:H p=none):zu H (upd H p o):=fun b u e=>by rw[zk (zq e h)];exact e
def vC (x:Addr):Prop:=False
def TabAt (H:Hp):Prop:=True
def Plain (H:Hp)(l:Addr):Prop:=True
theorem sZ {H H':Hp}(T:TabAt H)(h:∀a o,(∀xs,o≠.lst xs)→H a=some o→H' a=some o):TabAt H':=trivial
theorem ji {H:Hp}{l:Addr}{o:HO}(T:TabAt H)(h:Plain H l):TabAt (upd H l o):=trivial
theorem vK {H:Hp}{x:Addr}(T:TabAt H)(h:vC x):∃o,H x=some o∧(∀ts,o≠.tup ts)∧∀xs,o≠.lst xs:=h.elim
theorem uM {H:Hp}{l:Addr}{xs:List V}(h:H l=some (.lst xs)):Plain H l:=trivial
theorem lp {H:Hp}{l:Addr}{xs:List (Key×V)}(h:H l=some (.dK xs)):Plain H l:=trivial
theorem vh {H:Hp}{l:Addr}(T:TabAt H)(h:H l=none):¬vC l:=fun z=>by
 obtain⟨o,e,_⟩:=vK T z
 rw[h] at e;cases e
theorem kM {H H':Hp}{t b:Addr}{xs ys:List V}(T:TabAt H)(ht:H t=some (.lst xs))(hb:H b=some (.lst ys))(off:gj t b H H'):TabAt H':=sZ T fun a o no e=>by
 have n1:a≠t:=fun z=>by rw[z,ht] at e;cases e;exact no _ rfl
 have n2:a≠b:=fun z=>by rw[z,hb] at e;cases e;exact no _ rfl
 rw[off a n1 n2];exact e
theorem iH {H H':Hp}(T:TabAt H)(h:zu H H'):TabAt H':=sZ T fun a o _ e=>h a o e
def rH (K:PySem.W.Frag):Sp:=fun vs H Q _=>∃(a:Addr) (ns:List Int),vs=[.ref a]∧SqL K H a (ns.map V.int)∧ns.length≤63∧TabAt H∧∀H',Q (.bl true) H'
theorem jr (d:PyData):uB "int" d=some (isInt d):=by unfold uB;rw[if_pos rfl]
theorem vV (d:PyData):uB "bool" d=some (isBool d):=by unfold uB;rw[if_neg (by decide),if_pos rfl]
theorem uF (d:PyData):uB "tuple" d=some (pA d):=by unfold uB;rw[if_neg (by decide),if_neg (by decide),if_neg (by decide),if_neg (by decide),if_pos rfl]
structure yj (n:Nat)(d:PyData):Prop where
 shw:d.showable=true
 nod:d.hasDict=false
 dep:d.depth≤8
 len:d.shown.length≤n
 lay:d.canLay0=true
theorem yj.mono {m n:Nat}{d:PyData}(h:yj m d)(e:m≤n):yj n d:=⟨h.shw,h.nod,h.dep,dq h.len e,h.lay⟩
theorem vB :∀(ts:List Str) (k:Nat) (acc:Str),(textFrom k acc ts).length≤acc.length+piled ts
 |[],_,acc=>by rw[piled_nil];exact dC _
 |t::r,k,acc=>by
  have h:=vB r (k+1) (acc++(if k > 0 then ", " else "":String)++t)
  rw[piled_cons]
  have e2:(Str.ofString (if k > 0 then ", " else "":String)).length≤2:=by
   split
   ·exact Nat.le_of_eq rfl
   ·exact dQ _
  have e3:=cx (acc++Str.ofString (if k > 0 then ", " else "":String)) t
  have e4:=cx acc (Str.ofString (if k > 0 then ", " else "":String))
  show (textFrom (k+1) (acc++Str.ofString (if k > 0 then ", " else "":String)++t) r).length≤_
  have h':(textFrom (k+1) (acc++Str.ofString (if k > 0 then ", " else "":String)++t) r).length≤(acc++Str.ofString (if k > 0 then ", " else "":String)++t).length+piled r:=h
  omega
theorem sO (ts:List Str):(listText ts).length≤piled ts+2:=by
 unfold listText
 rw[cx]
 have h:=vB ts 0 (Str.ofString "[")
 have e1:(Str.ofString "[").length=1:=rfl
 have e2:(Str.ofString "]").length=1:=rfl
 show (textFrom 0 (Str.ofString "[") ts).length+(Str.ofString "]").length≤_
 omega
theorem si (ts:List Str):(tupleText ts).length≤piled ts+3:=by
 cases ts with
 |nil=>decide +kernel
 |cons t r=>
  have h:=join_length_add (t::r) (by simp)
  unfold tupleText
  rw[cx,cx]
  have e1:(Str.ofString "(").length=1:=rfl
  have e2:(Str.ofString (if (t::r).length == 1 then ",)" else ")":String)).length≤2:=by
   split
   ·exact Nat.le_of_eq rfl
   ·exact cD (show 1<2 by decide)
  show (Str.ofString "(").length+(Str.join ", " (t::r)).length+(Str.ofString (if (t::r).length == 1 then ",)" else ")":String)).length≤_
  omega
theorem xJ {n:Nat}:∀(ds:List PyData),(∀d∈ds,yj n d)→piled (PyData.shownAll ds)≤ds.length*(n+2)
 |[],_=>dQ _
 |d::r,h=>by
  have h1:=(h d dE).len
  have h2:=xJ r fun e he=>h e (dA _ he)
  show piled (d.shown::PyData.shownAll r)≤_
  rw[piled_cons,dJ,Nat.succ_mul]
  omega
structure zS (n:Nat)(ds:List PyData):Prop where
 all:∀d∈ds,yj n d
 dep:∀d∈ds,d.depth≤7
theorem zS.parts {n:Nat}:∀{ds:List PyData},zS n ds→PyData.showableAll ds=true∧PyData.hasDictAll ds=false∧PyData.depthAll ds≤7∧PyData.canLayAll0 ds=true
 |[],_=>⟨rfl,rfl,dQ _,rfl⟩
 |d::r,h=>by
  obtain⟨a,b,c,e⟩:=zS.parts (ds:=r) ⟨fun x hx=>h.all x (dA _ hx),fun x hx=>h.dep x (dA _ hx)⟩
  have hd:=h.all d dE
  have hp:=h.dep d dE
  refine⟨?_,?_,?_,?_⟩
  ·simp only[PyData.showableAll,hd.shw,a,Bool.and_self]
  ·simp only[PyData.hasDictAll,hd.nod,b,Bool.or_self]
  ·simp only[PyData.depthAll];omega
  ·simp only[PyData.canLayAll0,hd.lay,e,Bool.and_self]
theorem yj.list {n m:Nat}{ds:List PyData}(h:zS n ds)(e:ds.length*(n+2)+2≤m):yj m (.list ds):=by
 obtain⟨a,b,c,f⟩:=h.parts
 refine⟨by simp only[PyData.showable,a],by simp only[PyData.hasDict,b],by simp only[PyData.depth];omega,?_,by simp only[PyData.canLay0,f]⟩
 show (listText (PyData.shownAll ds)).length≤m
 have h1:=sO (PyData.shownAll ds)
 have h2:=xJ ds h.all
 omega
theorem yj.tuple {n m:Nat}{ds:List PyData}(h:zS n ds)(e:ds.length*(n+2)+3≤m):yj m (.tuple ds):=by
 obtain⟨a,b,c,f⟩:=h.parts
 refine⟨by simp only[PyData.showable,a],by simp only[PyData.hasDict,b],by simp only[PyData.depth];omega,?_,by simp only[PyData.canLay0,f]⟩
 show (tupleText (PyData.shownAll ds)).length≤m
 have h1:=si (PyData.shownAll ds)
 have h2:=xJ ds h.all
 omega
theorem lI {i:Int}(h0:-big<i)(h1:i<big):i.natAbs.log2<1920:=by
 by_cases hn:i.natAbs=0
 ·rw[hn];decide
 ·have h2:i.natAbs<2 ^ 256:=by
   have e:(2:Nat) ^ 256=115792089237316195423570985008687907853269984665640564039457584007913129639936:=by decide +kernel
   rw[e]
   unfold big at h0 h1
   omega
  have h3:i.natAbs.log2<256:=(Nat.log2_lt hn).mpr h2
  omega
theorem yj.int {i:Int}(h0:-big<i)(h1:i<big):yj 2000 (.int i):=by
 have hl:=lI h0 h1
 refine⟨by simp only[PyData.showable,dI];exact hl,rfl,dQ _,?_,rfl⟩
 have:=int_text_len_1921 hl
 show (Str.ofString (toString i)).length≤2000
 omega
theorem yj.none :yj 2000 .none:=⟨rfl,rfl,dQ _,by decide +kernel,rfl⟩
theorem yj.bool (b:Bool):yj 2000 (.bool b):=⟨rfl,rfl,dQ _,by cases b<;>decide +kernel,rfl⟩
section
variable {X:Cx}
theorem oF {s:Shared}{h':Heap}{o:Obj}{q:Addr}(hq:q=s.heap.objs.size)(hk:∀b x,b∉[q]→(s.heap.push o).get? b=some x→h'.get? b=some x):∀b x,s.heap.get? b=some x→h'.get? b=some x:=fun b x e=>by
 refine hk b x (fun hm=>?_) (dF _ e)
 have e2:b=q:=by simpa using hm
 rw[e2,hq] at e
 exact cM _ (dD e)
theorem pL (hc:X.calm=true):xr X (.builtin "all") (fun xs H Q=>∃(p:Addr) (bs:List Bool),xs=[.ref p]∧H p=some (.lst (bs.map V.bl))∧Q (.bl (bs.all id)) H):=by
 intro pins s σ H xs us Q I r h
 obtain⟨p,bs,rfl,hp,q⟩:=h
 obtain⟨u,rfl,rx⟩:=Vals.one r
 cases (show u=Value.ref p from rx)
 obtain⟨its,rv,pl,hz⟩:=I.list (SqL.of hp)
 have hB:=nI rv
 have hL:=pl.isList
 have hlt:p<s.heap.objs.size:=I.hok.lt hp
 refine call_all_walk (wpAny_pyIter_list hL ⟨s.heap.objs.size,[s.heap.objs.size,p],[s.heap.objs.size],its.toArray.size,_,_,fun i=>(bs[i]?).getD true,rfl,
  Walks.list (A:=X.A.in1) (I.ok.hd hc) _ p (cg hlt) its.toArray,⟨⟨_,dZ _ rfl,rfl,rfl⟩,hL.push _⟩,fun i v s' Q' E' hP hQ=>?_,fun h' tk hk=>?_⟩)
 ·obtain⟨b,eb,rfl⟩:=hB.get i v (by simpa using hP)
  dsimp only at hQ
  rw[eb] at hQ
  exact cj hQ
 ·have ee:((List.range its.toArray.size).all fun i=>(bs[i]?).getD true)=bs.all id:=by
   rw[dn,hB.length]
   exact LSm.range_all bs
  rw[ee]
  exact⟨.bl _,H,I.kept (t':=tk) (oF rfl hk),rfl,q⟩
end
def rT :PyData→Bool
 |.int _=>true
 |_=>false
def zE (lo hi:Int):PyData→Bool
 |.int i=>decide (lo≤i)&&decide (i≤hi)
 |_=>false
def pairD :PyData→Bool
 |.tuple ds=>decide ((ds.length:Int)=2)
 |_=>false
abbrev xH :PyData→Bool:=zE 0 1000000
def vR :PyData→Bool
 |.tuple [a,b]=>xH a&&xH b
 |_=>false
def tB :PyData→Option Int
 |.tuple [.int a,.int b]=>if xH (.int a)&&xH (.int b) then some (b-a) else none
 |_=>none
def zU (d:PyData):Bool:=match tB d with
 |some k=>decide (0≤k)
 |none=>false
theorem oq (d:PyData):rT d=(isInt d&&!isBool d):=by cases d<;>rfl
theorem vG {d:PyData}(h:pairD d=true):∃a b,d=.tuple [a,b]:=by
 cases d with
 |tuple ds=>
  have h':(ds.length:Int)=2:=of_decide_eq_true h
  match ds,h' with
  |[a,b],_=>exact⟨a,b,rfl⟩
  |[],z=>simp at z
  |[_],z=>simp at z
  |_::_::_::_,z=>simp at z;omega
 |_=>cases h
theorem vQ (d:PyData):vR d=(tB d).isSome:=by
 unfold vR tB
 split
 ·rename_i a b
  cases a with
  |int i=>
   cases b with
   |int j=>
    show (xH (.int i)&&xH (.int j))=_
    cases e:(xH (.int i)&&xH (.int j))<;>simp[e]
   |_=>simp[zE]
  |_=>simp[zE]
 ·rename_i h
  split
  ·rename_i a b
   exact absurd rfl (h (.int a) (.int b))
  ·rfl
theorem qg {d:PyData}(h:vR d=true):∃a b:Int,d=.tuple [.int a,.int b]∧tB d=some (b-a):=by
 rw[vQ] at h
 unfold tB at h ⊢
 split at h
 ·rename_i a b
  split at h
  ·rename_i hc
   exact⟨a,b,rfl,by simp[hc]⟩
  ·cases h
 ·cases h
def yo (g:PyData→Bool):Sp:=fun vs H Q _=>∃x d,vs=[x]∧DV H x d∧Q (.bl (g d)) H
def xU :Sp:=fun vs H Q _=>∃x d lo hi,vs=[x,.int lo,.int hi]∧DV H x d∧Q (.bl (zE lo hi d)) H
theorem kL {n:Nat}:decide (V.int (n:Int)=V.int 2)=decide ((n:Int)=2):=by simp
noncomputable def sub (p:Addr→Prop)(H:Hp):Hp:=fun a=>open Classical in if p a then H a else none
theorem zg {p:Addr→Prop}{H:Hp}{a:Addr}{o:HO}(h:sub p H a=some o):p a∧H a=some o:=by
 unfold sub at h
 split at h
 ·rename_i hp;exact⟨hp,h⟩
 ·cases h
theorem yr {p:Addr→Prop}{H:Hp}{a:Addr}{o:HO}(hp:p a)(h:H a=some o):sub p H a=some o:=by
 unfold sub
 rw[if_pos hp]
 exact h
theorem zl {p q:Addr→Prop}{H H':Hp}(h:∀a o,p a→H a=some o→q a∧H' a=some o):zu (sub p H) (sub q H'):=fun a o e=>by
 obtain⟨hp,he⟩:=zg e
 obtain⟨hq,he'⟩:=h a o hp he
 exact yr hq he'
theorem xq {p:Addr→Prop}{H:Hp}:zu (sub p H) H:=fun _ _ e=>(zg e).2
theorem zS.snoc {n:Nat}{ds:List PyData}{d:PyData}(h:zS n ds)(hd:yj n d)(hp:d.depth≤7):zS n (ds++[d]):=
 ⟨fun e he=>(cv.mp he).elim (h.all e) fun z=>by rw[cf.mp z];exact hd,fun e he=>(cv.mp he).elim (h.dep e) fun z=>by rw[cf.mp z];exact hp⟩
theorem zS.nil {n:Nat}:zS n []:=⟨fun d hd=>by simp at hd,fun d hd=>by simp at hd⟩
theorem zS.two {n:Nat}{d e:PyData}(hd:yj n d)(he:yj n e)(h1:d.depth≤7)(h2:e.depth≤7):zS n [d,e]:=(zS.nil.snoc hd h1).snoc he h2
section
variable {X:Cx}{e:Expr}{es:List Expr}
def vw (X:Cx)(e:Expr):TE:=fun σ H Q=>∃t,PE X e t∧t σ H Q
theorem zb :PE X e (vw X e):=fun pins s σ H Q I ⟨t,p,q⟩=>p pins s σ H Q I q
def gJ (X:Cx)(e:Expr):TT:=fun σ H Q=>∃t,PT X e t∧t σ H Q
theorem xj :PT X e (gJ X e):=fun pins s σ H Q I ⟨t,p,q⟩=>p pins s σ H Q I q
def fK (X:Cx)(es:List Expr):TA:=fun σ H Q=>∃t,PA X es t∧t σ H Q
theorem xy :PA X es (fK X es):=fun pos pins s σ H Q I ⟨t,p,q⟩=>p pos pins s σ H Q I q
end
def oV :Key→PyData
 |.inl i=>.int i
 |.inr x=>.str x
def xcO (a C:Addr)(d:Option Addr):HO:=.ext fun h=>∃o vs,h.get? a=some o∧o.cls=.ref C∧o.dict=d∧o.data=.fields vs
mutual
inductive AV (H:Hp):V→PyData→Prop where
 |non:AV H .non .none
 |bl (b:Bool):AV H (.bl b) (.bool b)
 |int (i:Int):AV H (.int i) (.int i)
 |str (x:Str):AV H (.str x) (.str x)
 |lst {a:Addr} {xs:List V} {ds:List PyData}:H a=some (.lst xs)→AVs H xs ds→AV H (.ref a) (.list ds)
 |tup {a:Addr} {xs:List V} {ds:List PyData}:H a=some (.tup xs)→AVs H xs ds→AV H (.ref a) (.tuple ds)
 |ins {a C dx:Addr} {fs:List (Str×V)} {ds:List (PyData×PyData)}:H a=some (.ins C dx fs)→AVf H fs ds→AV H (.ref a) (.dict ((.int (C:Nat),.none)::ds))
 |dk {a:Addr} {o:Obj} {kvs:List (Key×V)} {ds:List (PyData×PyData)}:H a=some (.frz o (.dK kvs))→AVk H kvs ds→AV H (.ref a) (.dict ((.none,.none)::ds))
 |dt {a:Addr} {o:Obj} {kvs:List (List Key×V)} {ds:List (PyData×PyData)}:H a=some (.frz o (.dT kvs))→AVt H kvs ds→AV H (.ref a) (.dict ((.none,.bool true)::ds))
 |xc {a C dx:Addr} {fs:List (Str×V)} {ds:List (PyData×PyData)}:H a=some (xcO a C (some dx))→H dx=some (.xd fs)→AVf H fs ds→AV H (.ref a) (.dict ((.int (C:Nat),.bool true)::ds))
 |xn {a C:Addr}:H a=some (xcO a C none)→AV H (.ref a) (.dict [(.int (C:Nat),.bool false)])
inductive AVs (H:Hp):List V→List PyData→Prop where
 |nil:AVs H [] []
 |cons {x:V} {xs:List V} {d:PyData} {ds:List PyData}:AV H x d→AVs H xs ds→AVs H (x::xs) (d::ds)
inductive AVf (H:Hp):List (Str×V)→List (PyData×PyData)→Prop where
 |nil:AVf H [] []
 |cons {f:Str} {x:V} {fs:List (Str×V)} {d:PyData} {ds:List (PyData×PyData)}:AV H x d→AVf H fs ds→AVf H ((f,x)::fs) ((.str f,d)::ds)
inductive AVk (H:Hp):List (Key×V)→List (PyData×PyData)→Prop where
 |nil:AVk H [] []
 |cons {k:Key} {x:V} {fs:List (Key×V)} {d:PyData} {ds:List (PyData×PyData)}:AV H x d→AVk H fs ds→AVk H ((k,x)::fs) ((oV k,d)::ds)
inductive AVt (H:Hp):List (List Key×V)→List (PyData×PyData)→Prop where
 |nil:AVt H [] []
 |cons {k:List Key} {x:V} {fs:List (List Key×V)} {d:PyData} {ds:List (PyData×PyData)}:AV H x d→AVt H fs ds→AVt H ((k,x)::fs) ((.tuple (k.map oV),d)::ds)
end
mutual
theorem AV.same {H H':Hp}(e:zu H H'):∀{x:V} {d:PyData},AV H x d→AV H' x d
 |_,_,.non=>.non
 |_,_,.bl b=>.bl b
 |_,_,.int i=>.int i
 |_,_,.str x=>.str x
 |_,_,.lst hq hs=>.lst (e _ _ hq) (AVs.same e hs)
 |_,_,.tup hq hs=>.tup (e _ _ hq) (AVs.same e hs)
 |_,_,.ins hq hs=>.ins (e _ _ hq) (AVf.same e hs)
 |_,_,.dk hq hs=>.dk (e _ _ hq) (AVk.same e hs)
 |_,_,.dt hq hs=>.dt (e _ _ hq) (AVt.same e hs)
 |_,_,.xc hq hd hs=>.xc (e _ _ hq) (e _ _ hd) (AVf.same e hs)
 |_,_,.xn hq=>.xn (e _ _ hq)
theorem AVs.same {H H':Hp}(e:zu H H'):∀{xs:List V} {ds:List PyData},AVs H xs ds→AVs H' xs ds
 |_,_,.nil=>.nil
 |_,_,.cons h hs=>.cons (AV.same e h) (AVs.same e hs)
theorem AVf.same {H H':Hp}(e:zu H H'):∀{fs:List (Str×V)} {ds:List (PyData×PyData)},AVf H fs ds→AVf H' fs ds
 |_,_,.nil=>.nil
 |_,_,.cons h hs=>.cons (AV.same e h) (AVf.same e hs)
theorem AVk.same {H H':Hp}(e:zu H H'):∀{fs:List (Key×V)} {ds:List (PyData×PyData)},AVk H fs ds→AVk H' fs ds
 |_,_,.nil=>.nil
 |_,_,.cons h hs=>.cons (AV.same e h) (AVk.same e hs)
theorem AVt.same {H H':Hp}(e:zu H H'):∀{fs:List (List Key×V)} {ds:List (PyData×PyData)},AVt H fs ds→AVt H' fs ds
 |_,_,.nil=>.nil
 |_,_,.cons h hs=>.cons (AV.same e h) (AVt.same e hs)
end
mutual
theorem AV.dv {H:Hp}:∀{x:V} {d:PyData},AV H x d→d.hasDict=false→DV H x d
 |_,_,.non,_=>.non
 |_,_,.bl b,_=>.bl b
 |_,_,.int i,_=>.int i
 |_,_,.str x,_=>.str x
 |_,_,.lst hq hs,h=>.lst hq (AVs.dv hs (by simpa only[PyData.hasDict] using h))
 |_,_,.tup hq hs,h=>.tup hq (AVs.dv hs (by simpa only[PyData.hasDict] using h))
 |_,_,.ins hq hs,h=>by simp[PyData.hasDict] at h
 |_,_,.dk hq hs,h=>by simp[PyData.hasDict] at h
 |_,_,.dt hq hs,h=>by simp[PyData.hasDict] at h
 |_,_,.xc hq _ hs,h=>by simp[PyData.hasDict] at h
 |_,_,.xn hq,h=>by simp[PyData.hasDict] at h
theorem AVs.dv {H:Hp}:∀{xs:List V} {ds:List PyData},AVs H xs ds→PyData.hasDictAll ds=false→DVs H xs ds
 |_,_,.nil,_=>.nil
 |_,_,.cons h hs,e=>by
  simp only[PyData.hasDictAll,cR] at e
  exact .cons (AV.dv h e.1) (AVs.dv hs e.2)
end
mutual
theorem DV.av {H:Hp}:∀{x:V} {d:PyData},DV H x d→AV H x d
 |_,_,.non=>.non
 |_,_,.bl b=>.bl b
 |_,_,.int i=>.int i
 |_,_,.str x=>.str x
 |_,_,.lst hq hs=>.lst hq (DVs.av hs)
 |_,_,.tup hq hs=>.tup hq (DVs.av hs)
theorem DVs.av {H:Hp}:∀{xs:List V} {ds:List PyData},DVs H xs ds→AVs H xs ds
 |_,_,.nil=>.nil
 |_,_,.cons h hs=>.cons (DV.av h) (DVs.av hs)
end
theorem AVs.length {H:Hp}:∀{xs:List V} {ds:List PyData},AVs H xs ds→xs.length=ds.length
 |_,_,.nil=>rfl
 |_,_,.cons _ hs=>by rw[dJ,dJ,AVs.length hs]
theorem AVs.append {H:Hp}:∀{xs ys:List V} {ds es:List PyData},AVs H xs ds→AVs H ys es→AVs H (xs++ys) (ds++es)
 |_,_,_,_,.nil,h=>h
 |_,_,_,_,.cons a r,h=>.cons a (AVs.append r h)
theorem AVs.get {H:Hp}:∀{xs:List V} {ds:List PyData} {i:Nat} {d:PyData},AVs H xs ds→ds[i]?=some d→∃x,xs[i]?=some x∧AV H x d
 |_,_,_,_,.nil,e=>by simp at e
 |_,_,0,_,.cons a _,e=>by simp at e;subst e;exact⟨_,rfl,a⟩
 |_,_,i+1,d,.cons _ r,e=>by
  obtain⟨x,h1,h2⟩:=AVs.get (i:=i) (d:=d) r (by simpa using e)
  exact⟨x,by simpa using h1,h2⟩
theorem AVs.take {H:Hp}:∀{xs:List V} {ds:List PyData} (n:Nat),AVs H xs ds→AVs H (xs.take n) (ds.take n)
 |_,_,0,_=>.nil
 |_,_,_+1,.nil=>.nil
 |_,_,n+1,.cons a r=>.cons a (AVs.take n r)
theorem AVs.drop {H:Hp}:∀{xs:List V} {ds:List PyData} (n:Nat),AVs H xs ds→AVs H (xs.drop n) (ds.drop n)
 |_,_,0,r=>r
 |_,_,_+1,.nil=>.nil
 |_,_,n+1,.cons _ r=>AVs.drop n r
theorem AVs.set {H:Hp}{x:V}{d:PyData}(a:AV H x d):∀{xs:List V} {ds:List PyData} (i:Nat),AVs H xs ds→AVs H (xs.set i x) (ds.set i d)
 |_,_,_,.nil=>.nil
 |_,_,0,.cons _ r=>.cons a r
 |_,_,i+1,.cons q r=>.cons q (AVs.set a i r)
theorem AVs.atI {H:Hp}{xs:List V}{ds:List PyData}{i:Int}{d:PyData}(h:AVs H xs ds)(e:atI ds i=some d):∃x,L2.atI xs i=some x∧AV H x d:=by
 unfold L2.atI at e ⊢
 rw[h.length]
 cases q:ixN ds.length i with
 |none=>rw[q] at e;cases e
 |some j=>
  rw[q] at e
  exact h.get (i:=j) e
def cutD (ds:List PyData)(lo hi:Option Int):List PyData:=(ds.drop (HT.sIx ds.length 0 lo)).take (HT.sIx ds.length ds.length hi-HT.sIx ds.length 0 lo)
theorem AVs.cut {H:Hp}{xs:List V}{ds:List PyData}(h:AVs H xs ds)(lo hi:Option Int):AVs H (sY xs lo hi) (cutD ds lo hi):=by
 unfold sY cutD
 rw[h.length]
 exact (h.drop _).take _
mutual
def noL :PyData→Bool
 |.list _=>false
 |.dict ((.none,_)::_)=>false
 |.dict kvs=>pK kvs
 |.tuple ds=>kd ds
 |_=>true
def kd :List PyData→Bool
 |[]=>true
 |d::r=>noL d&&kd r
def pK :List (PyData×PyData)→Bool
 |[]=>true
 |(_,d)::r=>noL d&&pK r
end
def Ob :HO→Prop
 |.lst _=>True
 |.dK _=>True
 |.frz _ _=>True
 |_=>False
mutual
theorem AV.noL {H H':Hp}(e:∀a o,¬Ob o→H a=some o→H' a=some o):∀{x:V} {d:PyData},AV H x d→noL d=true→AV H' x d
 |_,_,.non,_=>.non
 |_,_,.bl b,_=>.bl b
 |_,_,.int i,_=>.int i
 |_,_,.str x,_=>.str x
 |_,_,.lst _ _,h=>by simp[L2.noL] at h
 |_,_,.tup hq hs,h=>.tup (e _ _ (fun z=>z) hq) (AVs.noL e hs (by simpa only[L2.noL] using h))
 |_,_,.ins hq hs,h=>.ins (e _ _ (fun z=>z) hq) (AVf.noL e hs (by simpa[L2.noL,L2.pK] using h))
 |_,_,.dk _ _,h=>by simp[L2.noL] at h
 |_,_,.dt _ _,h=>by simp[L2.noL] at h
 |_,_,.xc hq hd hs,h=>.xc (e _ _ (fun z=>z) hq) (e _ _ (fun z=>z) hd) (AVf.noL e hs (by simpa[L2.noL,L2.pK] using h))
 |_,_,.xn hq,h=>.xn (e _ _ (fun z=>z) hq)
theorem AVs.noL {H H':Hp}(e:∀a o,¬Ob o→H a=some o→H' a=some o):∀{xs:List V} {ds:List PyData},AVs H xs ds→kd ds=true→AVs H' xs ds
 |_,_,.nil,_=>.nil
 |_,_,.cons h hs,q=>by
  simp only[L2.kd,dG] at q
  exact .cons (AV.noL e h q.1) (AVs.noL e hs q.2)
theorem AVf.noL {H H':Hp}(e:∀a o,¬Ob o→H a=some o→H' a=some o):∀{fs:List (Str×V)} {ds:List (PyData×PyData)},AVf H fs ds→pK ds=true→AVf H' fs ds
 |_,_,.nil,_=>.nil
 |_,_,.cons h hs,q=>by
  simp only[L2.pK,dG] at q
  exact .cons (AV.noL e h q.1) (AVf.noL e hs q.2)
end
structure Fr where
 H0:Hp
 O0:Addr→Prop
 tp:Option (Addr×Addr×Addr)
inductive A where
 |dat (d:PyData)
 |ow (c:PyData)
 |deep (d:PyData) (S:Addr→Prop)
 |tape
 |at (l:Addr)
 |exc (r:Fr) (q:PyData→Prop)
 |pin (l:Addr) (vs:List V) (ds:List PyData)
@[reducible] def A.own (ds:List PyData):A:=.ow (.list ds)
abbrev je (ds:List (PyData×PyData)):PyData:=.dict ((.none,.none)::ds)
abbrev Ev :=List (Option A)
def wq (o:HO):Prop:=∀ts,o≠.tup ts
theorem xu {xs:List V}:wq (.lst xs):=fun _ z=>by cases z
theorem Ob.notup {o:HO}(h:Ob o):wq o:=fun ts z=>by subst z;exact h
def NT (F:Fr)(x:Addr):Prop:=(∀t b c,F.tp=some (t,b,c)→x≠t∧x≠b)∧¬vC x
def Kz (F:Fr)(H H':Hp):Prop:=∀x o,H x=some o→NT F x→H' x=some o
structure zB (F:Fr)(H:Hp):Prop where
 tab:TabAt H
 ot:∀x,vC x→F.O0 x
 all:∀t b c,F.tp=some (t,b,c)→yD H t b c∧F.O0 t∧F.O0 b∧F.O0 c
instance {F:Fr} {H:Hp}:CoeFun (zB F H) (fun _=>∀t b c,F.tp=some (t,b,c)→yD H t b c∧F.O0 t∧F.O0 b∧F.O0 c):=⟨zB.all⟩
theorem zB.to {F F':Fr}{H:Hp}(t:zB F H)(hp:F'.tp=F.tp)(ho:∀x,F.O0 x→F'.O0 x):zB F' H:=⟨t.tab,fun x h=>ho x (t.ot x h),fun a b c e=>by
 obtain⟨h1,h2,h3,h4⟩:=t a b c (hp▸e)
 exact⟨h1,ho _ h2,ho _ h3,ho _ h4⟩⟩
theorem zB.re {F F':Fr}{H H':Hp}(t:zB F H)(t':zB F' H')(hp:F'.tp=F.tp):zB F H':=⟨t'.tab,t.ot,fun a b c e=>⟨(t' a b c (hp▸e)).1,(t a b c e).2⟩⟩
theorem zB.upd {F:Fr}{H:Hp}{l:Addr}{o:HO}(t:zB F H)(h:∀a b c,F.tp=some (a,b,c)→l≠a∧l≠b∧l≠c)(hp:Plain H l):zB F (upd H l o):=⟨ji t.tab hp,t.ot,fun a b c e=>⟨mO (t a b c e).1 (h a b c e),(t a b c e).2⟩⟩
theorem zB.updO {F:Fr}{H:Hp}{l:Addr}{o:HO}(t:zB F H)(h:¬F.O0 l)(hp:Plain H l):zB F (L2.upd H l o):=t.upd (fun a b c e=>⟨fun z=>h (by rw[z];exact (t a b c e).2.1),fun z=>h (by rw[z];exact (t a b c e).2.2.1),fun z=>h (by rw[z];exact (t a b c e).2.2.2)⟩) hp
def foot (s:Option V):A→Addr→Prop
 |.ow _,x=>s=some (.ref x)
 |.deep _ S,x=>S x
 |_,_=>False
def Ow (F:Fr)(α:Ev)(σ:St)(x:Addr):Prop:=F.O0 x∨∃(i:Nat) (a:A) (s:Option V),α[i]?=some (some a)∧σ[i]?=some s∧foot s a x
noncomputable abbrev Gz (F:Fr)(α:Ev)(σ:St)(H:Hp):Hp:=sub (fun x=>¬Ow F α σ x) H
noncomputable def qt (S:Addr→Prop)(G H:Hp):Hp:=fun x=>open Classical in if S x then H x else match G x with
 |some (.lst _)=>none
 |o=>o
theorem vi {S:Addr→Prop}{G G' H H':Hp}(h:zu G G')(hS:∀x o,S x→H x=some o→H' x=some o):zu (qt S G H) (qt S G' H'):=fun x o e=>by
 unfold qt at e ⊢
 by_cases z:S x
 ·rw[if_pos z] at e ⊢;exact hS x o z e
 ·rw[if_neg z] at e ⊢
  cases q:G x with
  |none=>rw[q] at e;cases e
  |some u=>
   rw[h _ _ q]
   rw[q] at e
   exact e
theorem nH {S:Addr→Prop}{G H:Hp}{x:Addr}{o:HO}(h:qt S G H x=some o):(S x∧H x=some o)∨(¬S x∧G x=some o):=by
 unfold qt at h
 by_cases z:S x
 ·rw[if_pos z] at h;exact .inl ⟨z,h⟩
 ·rw[if_neg z] at h
  split at h
  ·cases h
  ·exact .inr ⟨z,h⟩
inductive yI (G:Hp):HO→PyData→Prop where
 |lst {xs:List V} {ds:List PyData}:AVs G xs ds→yI G (.lst xs) (.list ds)
 |dk {kvs:List (Key×V)} {ds:List (PyData×PyData)}:AVk G kvs ds→yI G (.dK kvs) (je ds)
theorem yI.ob {G:Hp}{o:HO}{c:PyData}(h:yI G o c):Ob o:=by cases h<;>trivial
theorem yI.same {G G':Hp}{o:HO}{c:PyData}(h:yI G o c)(s:zu G G'):yI G' o c:=by
 cases h with
 |lst h=>exact .lst (h.same s)
 |dk h=>exact .dk (h.same s)
theorem yI.av {G:Hp}{o:HO}{ds:List PyData}{l:Addr}(h:yI G o (.list ds))(e:G l=some o):AV G (.ref l) (.list ds):=by
 cases h with
 |lst h=>exact .lst e h
theorem yI.lst_inv {G:Hp}{o:HO}{ds:List PyData}(h:yI G o (.list ds)):∃xs,o=.lst xs∧AVs G xs ds:=by cases h;exact⟨_,rfl,by assumption⟩
theorem yI.plain {G H:Hp}{o:HO}{c:PyData}{l:Addr}(h:yI G o c)(e:H l=some o):Plain H l:=by
 cases h with
 |lst h=>exact uM e
 |dk h=>exact lp e
structure Lnk (r F:Fr)(H:Hp):Prop where
 tp:r.tp=F.tp
 o:∀x,r.O0 x→F.O0 x
 ok:zB r H
 k:Kz r r.H0 H
def xm (G:Hp)(F:Fr)(H:Hp)(s:Option V):A→Prop
 |.dat d=>∃v,s=some v∧AV G v d
 |.ow c=>∃l o,s=some (.ref l)∧H l=some o∧yI G o c∧¬F.O0 l∧F.H0 l=none
 |.deep d S=>∃v,s=some v∧AV (qt S G H) v d∧∀x,S x→¬F.O0 x∧F.H0 x=none∧∃xs,H x=some (.lst xs)
 |.tape=>∃t b c,F.tp=some (t,b,c)∧s=some (.ref t)
 |.at l=>s=some (.ref l)
 |.exc r _=>Lnk r F H
 |.pin l vs ds=>s=some (.ref l)∧G l=some (.lst vs)∧AVs G vs ds
structure M (F:Fr)(α:Ev)(σ:St)(H:Hp):Prop where
 len:α.length=σ.length
 ok:∀(i:Nat) (a:A) (s:Option V),α[i]?=some (some a)→σ[i]?=some s→xm (Gz F α σ H) F H s a
 dj:∀(i j:Nat) (a b:A) (s t:Option V) (x:Addr),α[i]?=some (some a)→α[j]?=some (some b)→σ[i]?=some s→σ[j]?=some t→foot s a x→foot t b x→i=j
 xd:∀(i:Nat) (r:Fr) (q:PyData→Prop),α[i]?=some (some (.exc r q))→∀(j:Nat) (a:A) (s:Option V) (x:Addr),α[j]?=some (some a)→σ[j]?=some s→foot s a x→r.H0 x=none
 tp:zB F H
 keep:Kz F F.H0 H
 oex:∀x,F.O0 x→∃o,H x=some o∧wq o
theorem M.at' {F:Fr}{α:Ev}{σ:St}{H:Hp}(m:M F α σ H){i:Nat}{a:Option A}(e:α[i]?=some a):∃s,σ[i]?=some s:=by
 have:i<σ.length:=by rw[←m.len];exact (dP.mp e).1
 exact⟨_,dX this⟩
theorem tD {G:Hp}{F:Fr}{H:Hp}{s:Option V}{a:A}{x:Addr}(h:xm G F H s a)(f:foot s a x):¬F.O0 x∧F.H0 x=none∧∃o,H x=some o∧Ob o:=by
 cases a with
 |ow c=>
  obtain⟨l,o,h1,h2,h3,h4,h5⟩:=h
  have f':s=some (.ref x):=f
  rw[f'] at h1;cases h1
  exact⟨h4,h5,o,h2,h3.ob⟩
 |deep d S=>
  obtain⟨v,h1,h2,h3⟩:=h
  obtain⟨z1,z2,xs,z3⟩:=h3 x f
  exact⟨z1,z2,_,z3,trivial⟩
 |dat d=>exact f.elim
 |tape=>exact f.elim
 |«at» l=>exact f.elim
 |exc r q=>exact f.elim
 |pin l vs ds=>exact f.elim
theorem Lnk.kz {r F:Fr}{H H':Hp}(l:Lnk r F H)(k:Kz F H H')(t:zB F H'):Lnk r F H':=⟨l.tp,l.o,l.ok.re t l.tp.symm,fun x o e n=>k x o (l.k x o e n) ⟨fun a b c z=>n.1 a b c (l.tp.trans z),n.2⟩⟩
theorem Lnk.none {r F:Fr}{H:Hp}(l:Lnk r F H){x:Addr}(h:H x=Option.none):r.H0 x=Option.none:=by
 cases q:r.H0 x with
 |none=>rfl
 |some o=>rw[l.k x o q ⟨fun a b c e=>⟨((l.ok a b c e).1.free h).1,((l.ok a b c e).1.free h).2.1⟩,vh l.ok.tab h⟩] at h;cases h
def noX :A→Prop
 |.exc _ _=>False
 |_=>True
theorem xm.stay {G G':Hp}{F F':Fr}{H H':Hp}{s:Option V}{a:A}(h:xm G F H s a)(g:zu G G')(hf:∀x o,foot s a x→H x=some o→H' x=some o∧¬F'.O0 x∧F'.H0 x=none)(hp:F'.tp=F.tp)(hl:∀r q,a=.exc r q→Lnk r F H→Lnk r F' H'):xm G' F' H' s a:=by
 cases a with
 |dat d=>obtain⟨v,h1,h2⟩:=h;exact⟨v,h1,h2.same g⟩
 |ow c=>
  obtain⟨l,o,h1,h2,h3,h4,h5⟩:=h
  obtain⟨z1,z2,z3⟩:=hf l o h1 h2
  exact⟨l,o,h1,z1,h3.same g,z2,z3⟩
 |deep d S=>
  obtain⟨v,h1,h2,h3⟩:=h
  refine⟨v,h1,h2.same (vi g fun x o z e=>(hf x o z e).1),fun x z=>?_⟩
  obtain⟨_,_,xs,e⟩:=h3 x z
  obtain⟨z1,z2,z3⟩:=hf x _ z e
  exact⟨z2,z3,xs,z1⟩
 |tape=>obtain⟨t,b,c,e,z⟩:=h;exact⟨t,b,c,hp.trans e,z⟩
 |«at» l=>exact h
 |exc r q=>exact hl r q rfl h
 |pin l vs ds=>exact⟨h.1,g _ _ h.2.1,h.2.2.same g⟩
section
variable {F:Fr}{α:Ev}{σ:St}{H H' H'':Hp}
theorem M.dat (m:M F α σ H)(i:Nat)(d:PyData)(e:α[i]?=some (some (.dat d))):∃v,σ[i]?=some (some v)∧AV (Gz F α σ H) v d:=by
 obtain⟨s,hs⟩:=m.at' e
 obtain⟨v,rfl,h⟩:=m.ok i _ s e hs
 exact⟨v,hs,h⟩
theorem M.owc (m:M F α σ H)(i:Nat)(c:PyData)(e:α[i]?=some (some (.ow c))):∃l o,σ[i]?=some (some (.ref l))∧H l=some o∧yI (Gz F α σ H) o c∧¬F.O0 l∧F.H0 l=none:=by
 obtain⟨s,hs⟩:=m.at' e
 obtain⟨l,o,rfl,h⟩:=m.ok i _ s e hs
 exact⟨l,o,hs,h⟩
theorem M.own (m:M F α σ H)(i:Nat)(ds:List PyData)(e:α[i]?=some (some (.own ds))):∃l xs,σ[i]?=some (some (.ref l))∧H l=some (.lst xs)∧AVs (Gz F α σ H) xs ds∧¬F.O0 l∧F.H0 l=none:=by
 obtain⟨l,o,h1,h2,h3,h4⟩:=m.owc i _ e
 obtain⟨xs,rfl,h5⟩:=h3.lst_inv
 exact⟨l,xs,h1,h2,h5,h4⟩
theorem M.tvar (m:M F α σ H)(i:Nat)(e:α[i]?=some (some .tape)):∃t b c,F.tp=some (t,b,c)∧σ[i]?=some (some (.ref t)):=by
 obtain⟨s,hs⟩:=m.at' e
 obtain⟨t,b,c,h,rfl⟩:=m.ok i _ s e hs
 exact⟨t,b,c,h,hs⟩
theorem M.lnk (m:M F α σ H){i:Nat}{r:Fr}{q:PyData→Prop}(e:α[i]?=some (some (.exc r q))):Lnk r F H:=by
 obtain⟨s,hs⟩:=m.at' e
 exact m.ok i _ s e hs
theorem Kz.refl :Kz F H H:=fun _ _ e _=>e
theorem Kz.trans (h:Kz F H H')(k:Kz F H' H''):Kz F H H'':=fun x o e n=>k x o (h x o e n) n
theorem Kz.of_same (h:zu H H'):Kz F H H':=fun x o e _=>h x o e
theorem zB.same (t:zB F H)(h:zu H H'):zB F H':=⟨iH t.tab h,t.ot,fun a b c e=>⟨oG (t a b c e).1 h,(t a b c e).2⟩⟩
theorem zB.nt (t:zB F H){x:Addr}(h:¬F.O0 x):NT F x:=⟨fun a b c e=>⟨fun z=>h (z▸(t a b c e).2.1),fun z=>h (z▸(t a b c e).2.2.1)⟩,fun z=>h (t.ot x z)⟩
theorem ow0 {x:Addr}(h:¬Ow F α σ x):¬F.O0 x:=fun z=>h (.inl z)
theorem Kz.gz (k:Kz F H H')(t:zB F H):zu (Gz F α σ H) (Gz F α σ H'):=zl fun a o h e=>⟨h,k a o e (t.nt (ow0 h))⟩
theorem M.oex' (t:zB F H')(k:Kz F H H')(h:∀x,F.O0 x→∃o,H x=some o∧wq o):∀x,F.O0 x→∃o,H' x=some o∧wq o:=fun x hx=>by
 by_cases n:NT F x
 ·obtain⟨o,ho,hn⟩:=h x hx
  exact⟨o,k _ _ ho n,hn⟩
 ·by_cases z:vC x
  ·obtain⟨o,ho,hn,_⟩:=vK t.tab z
   exact⟨o,ho,hn⟩
  ·have:∃a b c,F.tp=some (a,b,c)∧¬(x≠a∧x≠b):=by
    refine Classical.byContradiction fun q=>n ⟨fun a b c e=>?_,z⟩
    exact Classical.byContradiction fun w=>q ⟨a,b,c,e,w⟩
   obtain⟨a,b,c,e,w⟩:=this
   obtain⟨n,bs,cs,_,e1,e2,e3,_⟩:=(t a b c e).1.ex
   by_cases xa:x=a
   ·exact⟨_,xa▸e1,xu⟩
   ·by_cases xb:x=b
    ·exact⟨_,xb▸e2,xu⟩
    ·exact absurd ⟨xa,xb⟩ w
theorem M.kz (m:M F α σ H)(k:Kz F H H')(t:zB F H'):M F α σ H' where
 len:=m.len
 ok:=fun i a s e1 e2=>(m.ok i a s e1 e2).stay (k.gz m.tp) (fun x o hf e=>by
  obtain⟨h1,h2,_⟩:=tD (m.ok i a s e1 e2) hf
  exact⟨k x o e (m.tp.nt h1),h1,h2⟩) rfl fun r _ _ l=>l.kz k t
 dj:=m.dj
 xd:=m.xd
 tp:=t
 keep:=m.keep.trans k
 oex:=M.oex' t k m.oex
theorem M.ft (m:M F α σ H){i:Nat}{a:A}{s:Option V}{x:Addr}(e1:α[i]?=some (some a))(e2:σ[i]?=some s)(f:foot s a x):¬F.O0 x∧F.H0 x=none∧∃o,H x=some o∧Ob o:=tD (m.ok i a s e1 e2) f
theorem M.owEx (m:M F α σ H){x:Addr}(h:Ow F α σ x):∃o,H x=some o∧wq o:=by
 rcases h with z|⟨i,a,s,e1,e2,f⟩
 ·exact m.oex x z
 ·obtain⟨_,_,o,ho,hb⟩:=m.ft e1 e2 f
  exact⟨o,ho,hb.notup⟩
theorem M.fresh (m:M F α σ H){l:Addr}(h:H l=none):¬Ow F α σ l:=fun z=>by
 obtain⟨o,ho,_⟩:=m.owEx z
 rw[h] at ho;cases ho
theorem M.fresh0 (m:M F α σ H){l:Addr}(h:H l=none):F.H0 l=none:=by
 cases q:F.H0 l with
 |none=>rfl
 |some o=>rw[m.keep l o q (m.tp.nt fun z=>m.fresh h (.inl z))] at h;cases h
theorem M.old (m:M F α σ H):zu (sub (fun x=>¬F.O0 x) F.H0) (Gz F α σ H):=fun a o e=>by
 obtain⟨h1,h2⟩:=zg e
 refine yr ?_ (m.keep a o h2 (m.tp.nt h1))
 rintro (z|⟨i,b,s,e1,e2,f⟩)
 ·exact h1 z
 ·obtain⟨_,z,_⟩:=m.ft e1 e2 f
  rw[h2] at z;cases z
noncomputable def Fr.up (F:Fr)(G:Hp):Fr:={F with H0:=fun x=>(F.H0 x).or (G x)}
theorem sJ {G:Hp}{x:Addr}{o:HO}(h:F.H0 x=some o):(F.up G).H0 x=some o:=by show (F.H0 x).or (G x)=some o;rw[h];rfl
theorem pb {G:Hp}{x:Addr}(h:(F.up G).H0 x=none):F.H0 x=none:=by
 cases q:F.H0 x with
 |none=>rfl
 |some o=>rw[sJ q] at h;cases h
theorem M.up (m:M F α σ H):M (F.up (Gz F α σ H)) α σ H where
 len:=m.len
 ok:=fun i a s e1 e2=>(m.ok i a s e1 e2).stay (fun _ _ e=>e) (fun x o hf e=>by
  obtain⟨h1,h2,_⟩:=m.ft e1 e2 hf
  refine⟨e,h1,?_⟩
  show (F.H0 x).or (Gz F α σ H x)=none
  rw[h2]
  show Gz F α σ H x=none
  cases q:Gz F α σ H x with
  |none=>rfl
  |some o=>exact absurd (.inr ⟨i,a,s,e1,e2,hf⟩) (zg q).1) rfl fun r _ _ l=>⟨l.tp,l.o,l.ok,l.k⟩
 dj:=m.dj
 xd:=m.xd
 tp:=m.tp.to rfl fun _ z=>z
 keep:=fun x o e n=>by
  have e':(F.H0 x).or (Gz F α σ H x)=some o:=e
  cases q:F.H0 x with
  |none=>rw[q,Option.none_or] at e';exact (zg e').2
  |some o'=>rw[q] at e';cases e';exact m.keep x _ q n
 oex:=m.oex
theorem M.down {G:Hp}(m:M (F.up G) α σ H):M F α σ H where
 len:=m.len
 ok:=fun i a s e1 e2=>(m.ok i a s e1 e2).stay (fun _ _ e=>e) (fun x o hf e=>by
  obtain⟨h1,h2,_⟩:=m.ft e1 e2 hf
  exact⟨e,h1,pb h2⟩) rfl fun r _ _ l=>⟨l.tp,l.o,l.ok,l.k⟩
 dj:=m.dj
 xd:=m.xd
 tp:=m.tp.to rfl fun _ z=>z
 keep:=fun x o e n=>m.keep x o (sJ e) n
 oex:=m.oex
theorem M.upold {α0:Ev}{σ0:St}{H1:Hp}(m0:M F α0 σ0 H1)(m:M (F.up (Gz F α0 σ0 H1)) α σ H):zu (Gz F α0 σ0 H1) (Gz F α σ H):=fun a o e=>by
 obtain⟨h1,h2⟩:=zg e
 have e0:(F.up (Gz F α0 σ0 H1)).H0 a=some o:=by
  show (F.H0 a).or (Gz F α0 σ0 H1 a)=some o
  cases q:F.H0 a with
  |none=>exact e
  |some o'=>
   have:=m0.keep a o' q (m0.tp.nt (ow0 h1))
   rw[h2] at this;cases this;rfl
 exact m.old a o (yr (p:=fun x=>¬F.O0 x) (ow0 h1) e0)
end
def yE (F:Fr)(α:Ev)(σ:St)(H:Hp)(v:V)(H':Hp)(ds:List PyData):Prop:=
 ∃l xs,v=.ref l∧H l=none∧H' l=some (.lst xs)∧AVs (sub (fun x=>¬Ow F α σ x∧x≠l) H') xs ds
def mx (F:Fr)(α:Ev)(σ:St)(H:Hp)(v:V)(H':Hp)(c:PyData):Prop:=
 ∃l o,v=.ref l∧H l=none∧H' l=some o∧yI (sub (fun x=>¬Ow F α σ x∧x≠l) H') o c
theorem yE.c {F:Fr}{α:Ev}{σ:St}{H H':Hp}{v:V}{ds:List PyData}(h:yE F α σ H v H' ds):mx F α σ H v H' (.list ds):=by
 obtain⟨l,xs,h1,h2,h3,h4⟩:=h
 exact⟨l,_,h1,h2,h3,.lst h4⟩
theorem yE.av {F:Fr}{α:Ev}{σ:St}{H H':Hp}{v:V}{ds:List PyData}(m:M F α σ H)(h:yE F α σ H v H' ds):AV (Gz F α σ H') v (.list ds):=by
 obtain⟨l,xs,rfl,h1,h2,h3⟩:=h
 exact .lst (yr (m.fresh h1) h2) (h3.same (zl fun a o h e=>⟨h.1,e⟩))
section
variable (X:Cx)(α:Ev)
def EvD (e:Expr)(Q:PyData→Prop):Prop:=∀(F:Fr) (σ:St) (H:Hp) (R:VK),M F α σ H→(∀d v H',Q d→zB F H'→Kz F H H'→AV (Gz F α σ H') v d→R v H')→vw X e σ H R
def EvL (e:Expr)(Q:List PyData→Prop):Prop:=∀(F:Fr) (σ:St) (H:Hp) (R:VK),M F α σ H→(∀ds v H',Q ds→zB F H'→Kz F H H'→yE F α σ H v H' ds→R v H')→vw X e σ H R
def EvT (e:Expr)(Q:Bool→Prop):Prop:=∀(F:Fr) (σ:St) (H:Hp) (R:Bool→Hp→Prop),M F α σ H→(∀b H',Q b→zB F H'→Kz F H H'→R b H')→gJ X e σ H R
def nz (F:Fr)(G:Hp)(v:V):A→Prop
 |.dat d=>AV G v d
 |.tape=>∃t b c,F.tp=some (t,b,c)∧v=.ref t
 |_=>False
inductive zZ (F:Fr)(G:Hp):List V→List A→Prop where
 |nil:zZ F G [] []
 |cons {v:V} {vs:List V} {a:A} {as:List A}:nz F G v a→zZ F G vs as→zZ F G (v::vs) (a::as)
def EvA (es:List Expr)(Q:List A→Prop):Prop:=∀(F:Fr) (σ:St) (H:Hp) (R:List V→Hp→Prop),M F α σ H→(∀as vs H',Q as→zB F H'→Kz F H H'→zZ F (Gz F α σ H') vs as→R vs H')→fK X es σ H R
end
theorem nz.to {F F':Fr}{G G':Hp}(s:zu G G')(hp:F'.tp=F.tp){v:V}:∀{a:A},nz F G v a→nz F' G' v a
 |.dat _,h=>AV.same s h
 |.tape,⟨t,b,c,e,z⟩=>⟨t,b,c,hp.trans e,z⟩
 |.ow _,h=>h
 |.deep _ _,h=>h
 |.at _,h=>h
 |.exc _ _,h=>h
 |.pin _ _ _,h=>h
theorem zZ.to {F F':Fr}{G G':Hp}(s:zu G G')(hp:F'.tp=F.tp):∀{vs:List V} {as:List A},zZ F G vs as→zZ F' G' vs as
 |_,_,.nil=>.nil
 |_,_,.cons h r=>.cons (h.to s hp) (zZ.to s hp r)
theorem zZ.length {F:Fr}{G:Hp}:∀{vs:List V} {as:List A},zZ F G vs as→vs.length=as.length
 |_,_,.nil=>rfl
 |_,_,.cons _ r=>by rw[dJ,dJ,zZ.length r]
def A.d :A→PyData
 |.dat d=>d
 |.ow c=>c
 |.deep d _=>d
 |_=>.none
def jm (F:Fr)(v:V)(H':Hp):A→Prop
 |.dat d=>AV (sub (fun x=>¬F.O0 x) H') v d
 |.ow c=>∃l xs ds,v=.ref l∧c=.list ds∧F.H0 l=none∧¬F.O0 l∧H' l=some (.lst xs)∧AVs (sub (fun x=>¬F.O0 x∧x≠l) H') xs ds
 |.deep d S=>AV (qt S (sub (fun x=>¬F.O0 x) H') H') v d∧∀x,S x→¬F.O0 x∧F.H0 x=none∧∃xs,H' x=some (.lst xs)
 |_=>False
def xS (F:Fr)(v:V)(H':Hp)(a:A):Prop:=zB F H'∧Kz F F.H0 H'∧jm F v H' a
def spA (φ:List A→(A→Prop)→Prop):Sp:=fun vs H Qc _=>∃(F:Fr) (as:List A) (Q:A→Prop),F.H0=H∧zB F H∧(∀x,F.O0 x→∃o,H x=some o∧wq o)∧zZ F (sub (fun x=>¬F.O0 x) H) vs as∧φ as Q∧∀a v H',Q a→xS F v H' a→Qc v H'
theorem jm.to {F F':Fr}{v:V}{H':Hp}{a:A}(r:jm F v H' a)(ho:∀x,F'.O0 x→F.O0 x)(h0:∀x,F.H0 x=none→F'.H0 x=none):jm F' v H' a:=by
 have s:zu (sub (fun x=>¬F.O0 x) H') (sub (fun x=>¬F'.O0 x) H'):=zl fun a o h e=>⟨fun z=>h (ho _ z),e⟩
 cases a with
 |dat d=>exact AV.same s r
 |ow c=>
  obtain⟨l,xs,ds,h1,hc,h2,h3,h4,h5⟩:=r
  exact⟨l,xs,ds,h1,hc,h0 _ h2,fun z=>h3 (ho _ z),h4,h5.same (zl fun a o h e=>⟨⟨fun z=>h.1 (ho _ z),h.2⟩,e⟩)⟩
 |deep d S=>
  obtain⟨h1,h2⟩:=r
  refine⟨h1.same (vi s fun _ _ _ e=>e),fun x z=>?_⟩
  obtain⟨z1,z2,z3⟩:=h2 x z
  exact⟨fun w=>z1 (ho _ w),h0 _ z2,z3⟩
 |tape=>exact r
 |«at» _=>exact r
 |exc _ _=>exact r
 |pin _ _ _=>exact r
structure ye where
 nx:Ev→Prop
 rt:A→Prop
 bk:Ev→Prop:=fun _=>False
 ct:Ev→Prop:=fun _=>False
structure tT (F:Fr)(E:ye)(D:Ends):Prop where
 nx:∀α σ H,M F α σ H→E.nx α→D.nx σ H
 rt:∀a v H,xS F v H a→E.rt a→D.rt v H
 bk:∀α σ H,M F α σ H→E.bk α→D.bk σ H
 ct:∀α σ H,M F α σ H→E.ct α→D.ct σ H
def SvS (X:Cx)(α:Ev)(sts:List Stmt)(E:ye):Prop:=∀(F:Fr) (σ:St) (H:Hp) (D:Ends),M F α σ H→tT F E D→mL X sts D σ H
theorem tT.up {F:Fr}{G:Hp}{E:ye}{D:Ends}(e:tT F E D):tT (F.up G) E D where
 nx:=fun α σ H m q=>e.nx α σ H m.down q
 bk:=fun α σ H m q=>e.bk α σ H m.down q
 ct:=fun α σ H m q=>e.ct α σ H m.down q
 rt:=fun a v H r q=>e.rt a v H (by
  obtain⟨t,k,r⟩:=r
  exact⟨t.to rfl fun _ z=>z,fun x o e n=>k x o (sJ e) n,r.to (fun _ z=>z) fun x z=>pb z⟩) q
section
variable {X:Cx}{α:Ev}{e a b c:Expr}{es:List Expr}{pos p q:Pos}{Q:PyData→Prop}
theorem EvL.d (h:EvL X α e (fun ds=>Q (.list ds))):EvD X α e Q:=fun F σ H R m k=>h F σ H R m fun ds v H' q t z f=>k _ v H' q t z (f.av m)
theorem EvD.imp {Q':PyData→Prop}(h:EvD X α e Q')(k:∀d,Q' d→Q d):EvD X α e Q:=fun F σ H R m r=>h F σ H R m fun d v H' q=>r d v H' (k d q)
theorem zd (i:Nat){x:Str}{d:PyData}(hi:α[i]?=some (some (.dat d)))(q:Q d)(hN:X.N[i]?=some x:=by rfl)(hv:Vis X.env.scope x:=by first|exact Or.inl rfl|exact Or.inr (Or.inl rfl)|exact Or.inr (Or.inr rfl))
  (hd:(x == ("__debug__":Str))=false:=by decide) (hcd:(x == ("__classdict__":Str))=false:=by decide):EvD X α (.Name x pos) Q:=fun F σ H R m k=>by
 obtain⟨v,h1,h2⟩:=m.dat i d hi
 exact⟨_,xo hN hv hd hcd,v,h1,k d v H q m.tp Kz.refl h2⟩
theorem zh {i:Int}{j:Nat}(q:Q (.int i)):EvD X α (.Constant (.int i) j pos) Q:=fun F σ H R m k=>⟨_,zo,k _ _ H q m.tp Kz.refl (.int i)⟩
theorem jN {i:Bool}{j:Nat}(q:Q (.bool i)):EvD X α (.Constant (.bool i) j pos) Q:=fun F σ H R m k=>⟨_,fL,k _ _ H q m.tp Kz.refl (.bl i)⟩
theorem wA {j:Nat}(q:Q .none):EvD X α (.Constant .none j pos) Q:=fun F σ H R m k=>⟨_,sk,k _ _ H q m.tp Kz.refl .non⟩
theorem zx {x:Str}{j:Nat}(q:Q (.str x)):EvD X α (.Constant (.str x) j pos) Q:=fun F σ H R m k=>⟨_,xK,k _ _ H q m.tp Kz.refl (.str x)⟩
theorem vt {f:TE→TE→TE}(hf:PE X e (f (vw X a) (vw X b)))(hr:∀σ H R,f (vw X a) (vw X b) σ H R↔vw X a σ H (fun x H1=>vw X b σ H1 fun y H2=>f (tC x) (tC y) σ H2 R))
  (h:EvD X α a fun x=>EvD X α b fun y=>∀(F:Fr) (σ:St) (H:Hp) (vx vy:V) (R:VK),M F α σ H→AV (Gz F α σ H) vx x→AV (Gz F α σ H) vy y→(∀d v H',Q d→zB F H'→Kz F H H'→AV (Gz F α σ H') v d→R v H')→f (tC vx) (tC vy) σ H R):
  EvD X α e Q:=fun F σ H R m k=>by
 refine⟨_,hf,(hr σ H R).mpr ?_⟩
 refine h F σ H _ m fun x vx H1 q1 t1 k1 r1=>?_
 have m1:=m.kz k1 t1
 refine q1 F σ H1 _ m1 fun y vy H2 q2 t2 k2 r2=>?_
 exact q2 F σ H2 vx vy R (m1.kz k2 t2) (r1.same (k2.gz m1.tp)) r2 fun d v H' qd t3 k3 r3=>k d v H' qd t3 ((k1.trans k2).trans k3) r3
theorem AV.int_inv {H:Hp}{v:V}{i:Int}(h:AV H v (.int i)):v=.int i:=by cases h;rfl
theorem AV.bl_inv {H:Hp}{v:V}{i:Bool}(h:AV H v (.bool i)):v=.bl i:=by cases h;rfl
theorem AV.str_inv {H:Hp}{v:V}{i:Str}(h:AV H v (.str i)):v=.str i:=by cases h;rfl
theorem AV.tup_inv {H:Hp}{v:V}{ds:List PyData}(h:AV H v (.tuple ds)):∃a xs,v=.ref a∧H a=some (.tup xs)∧AVs H xs ds:=by cases h;exact⟨_,_,rfl,by assumption,by assumption⟩
theorem AV.lst_inv {H:Hp}{v:V}{ds:List PyData}(h:AV H v (.list ds)):∃a xs,v=.ref a∧H a=some (.lst xs)∧AVs H xs ds:=by cases h;exact⟨_,_,rfl,by assumption,by assumption⟩
theorem AV.non_inv {H:Hp}{v:V}(h:AV H v .none):v=.non:=by cases h;rfl
theorem AV.isnon {H:Hp}{v:V}{d:PyData}(h:AV H v d):decide (v=.non)=(match d with|.none=>true|_=>false):=by cases h<;>simp
theorem tU {op:Operator}{C:Int→Int→Prop}{g:Int→Int→V}{gd:Int→Int→PyData}(ho:OpR X (binaryOp op) (rI C g))(hg:∀H i j,AV H (g i j) (gd i j))
  (h:EvD X α a fun x=>EvD X α b fun y=>∃i j,x=.int i∧y=.int j∧C i j∧Q (gd i j)):EvD X α (.BinOp a op b pos) Q:=by
 refine vt (f:=tOp (rI C g)) (yu ho zb zb) (fun _ _ _=>Iff.rfl) (h.imp fun x h=>h.imp fun y ⟨i,j,e1,e2,hc,hq⟩=>?_)
 subst e1 e2
 intro F σ H vx vy R m rx ry k
 cases rx.int_inv;cases ry.int_inv
 exact⟨i,j,rfl,rfl,hc,k _ _ H hq m.tp Kz.refl (hg _ i j)⟩
theorem qO {op:Operator}{g:Int→Int→V}{gd:Int→Int→PyData}(ho:OpR X (binaryOp op) (rI0 g))(hg:∀H i j,AV H (g i j) (gd i j))
  (h:EvD X α a fun x=>EvD X α b fun y=>∃i j,x=.int i∧y=.int j∧Q (gd i j)):EvD X α (.BinOp a op b pos) Q:=by
 refine vt (f:=tOp (rI0 g)) (yu ho zb zb) (fun _ _ _=>Iff.rfl) (h.imp fun x h=>h.imp fun y ⟨i,j,e1,e2,hq⟩=>?_)
 subst e1 e2
 intro F σ H vx vy R m rx ry k
 cases rx.int_inv;cases ry.int_inv
 exact⟨i,j,rfl,rfl,k _ _ H hq m.tp Kz.refl (hg _ i j)⟩
theorem xA (h:EvD X α a fun x=>EvD X α b fun y=>∃i j,x=.int i∧y=.int j∧Q (.int (i+j))):EvD X α (.BinOp a .Add b pos) Q:=qO (gd:=fun i j=>.int (i+j)) sj (fun _ _ _=>.int _) h
theorem tQ (h:EvD X α a fun x=>EvD X α b fun y=>∃i j,x=.int i∧y=.int j∧Q (.int (i-j))):EvD X α (.BinOp a .Sub b pos) Q:=qO (gd:=fun i j=>.int (i-j)) lb (fun _ _ _=>.int _) h
theorem tJ (h:EvD X α a fun x=>EvD X α b fun y=>∃i j,x=.int i∧y=.int j∧kx i j∧Q (.int (i*j))):EvD X α (.BinOp a .Mult b pos) Q:=tU (gd:=fun i j=>.int (i*j)) tO (fun _ _ _=>.int _) h
theorem gg (h:EvD X α a fun x=>EvD X α b fun y=>∃i j,x=.int i∧y=.int j∧iR i j∧Q (.int (i ^ j.toNat))):EvD X α (.BinOp a .Pow b pos) Q:=tU (gd:=fun i j=>.int (i ^ j.toNat)) iw (fun _ _ _=>.int _) h
theorem nQ (h:EvD X α a fun x=>EvD X α b fun y=>∃i j,x=.int i∧y=.int j∧0<j∧Q (.int (i % j))):EvD X α (.BinOp a .Mod b pos) Q:=tU (gd:=fun i j=>.int (i % j)) ui (fun _ _ _=>.int _) h
theorem qG (h:EvD X α a fun x=>EvD X α b fun y=>∃i j,x=.int i∧y=.int j∧jR i j∧Q (.int (i / j))):EvD X α (.BinOp a .FloorDiv b pos) Q:=tU (gd:=fun i j=>.int (i / j)) ua (fun _ _ _=>.int _) h
theorem yC {i j r:Int}{p1 p2:Pos}{n1 n2:Nat}(hc:iR i j)(hr:i ^ j.toNat=r)(q:Q (.int r)):EvD X α (.BinOp (.Constant (.int i) n1 p1) .Pow (.Constant (.int j) n2 p2) pos) Q:=
 gg (zh (zh ⟨i,j,rfl,rfl,hc,hr▸q⟩))
theorem ny (h:EvD X α a fun x=>∃i,x=.int i∧Q (.int (-i))):EvD X α (.UnaryOp .USub a pos) Q:=fun F σ H R m k=>by
 refine⟨_,fq gA zb,?_⟩
 refine h F σ H _ m fun x vx H1 q1 t1 k1 r1=>?_
 obtain⟨i,rfl,q⟩:=q1
 cases r1.int_inv
 exact⟨i,rfl,k _ _ H1 q t1 k1 (.int _)⟩
def xT :PyData→Bool
 |.none=>true
 |_=>false
theorem AV.non_iff {H:Hp}{v:V}{d:PyData}(h:AV H v d):decide (v=.non)=xT d:=by cases h<;>simp[xT]
theorem ig {j:Nat}(h:EvD X α a fun x=>Q (.bool (xT x))):EvD X α (.Compare a [.Is] [.Constant .none j p] pos) Q:=fun F σ H R m k=>by
 refine⟨_,yT tZ zb sk (zA _),?_⟩
 refine h F σ H _ m fun x vx H1 q1 t1 k1 r1=>⟨rfl,?_⟩
 rw[r1.non_iff]
 exact k _ _ H1 q1 t1 k1 (.bl _)
def Cmp (r:R2)(x y:PyData)(k:Bool):Prop:=∀(p:Addr→Prop) (H:Hp) (vx vy:V) (R:VK),AV (sub p H) vx x→AV (sub p H) vy y→R (.bl k) H→r vx vy H R
theorem yK {op:CmpOp}{r:R2}{Q:Bool→Prop}(ho:OpR X (compareOp op) r)(hm:behindInMarks op b=false)(h:EvD X α a fun x=>EvD X α b fun y=>∃k,Cmp r x y k∧Q k):EvT X α (.Compare a [op] [b] pos) Q:=fun F σ H R m k=>by
 refine⟨_,xi ho zb zb hm,?_⟩
 refine h F σ H _ m fun x vx H1 q1 t1 k1 r1=>?_
 have m1:=m.kz k1 t1
 refine q1 F σ H1 _ m1 fun y vy H2 q2 t2 k2 r2=>?_
 obtain⟨b,hc,q⟩:=q2
 exact hc _ H2 vx vy _ (r1.same (k2.gz m1.tp)) r2 ⟨b,rfl,k b H2 q t2 (k1.trans k2)⟩
theorem kQ {g:Int→Int→Bool}{i j:Int}:Cmp (rI0 fun i j=>.bl (g i j)) (.int i) (.int j) (g i j):=fun p H vx vy R rx ry h=>by
 cases rx.int_inv;cases ry.int_inv
 exact⟨i,j,rfl,rfl,h⟩
theorem vN {op:CmpOp}{g:Int→Int→Bool}{Q:Bool→Prop}(ho:OpR X (compareOp op) (rI0 fun i j=>.bl (g i j)))(hm:behindInMarks op b=false)
  (h:EvD X α a fun x=>EvD X α b fun y=>∃i j,x=.int i∧y=.int j∧Q (g i j)):EvT X α (.Compare a [op] [b] pos) Q:=
 yK ho hm (h.imp fun x h=>h.imp fun y ⟨i,j,e1,e2,q⟩=>⟨_,by subst e1 e2;exact kQ,q⟩)
theorem gM {Q:Bool→Prop}(h:EvD X α a fun x=>EvD X α b fun y=>∃i j,x=.int i∧y=.int j∧Q (decide (i<j))):EvT X α (.Compare a [.Lt] [b] pos) Q:=vN jS (zA _) h
theorem ei {Q:Bool→Prop}(h:EvD X α a fun x=>EvD X α b fun y=>∃i j,x=.int i∧y=.int j∧Q (decide (i≤j))):EvT X α (.Compare a [.LtE] [b] pos) Q:=vN wk (zA _) h
theorem ff {Q:Bool→Prop}(h:EvD X α a fun x=>EvD X α b fun y=>∃i j,x=.int i∧y=.int j∧Q (decide (j<i))):EvT X α (.Compare a [.Gt] [b] pos) Q:=vN jI (zA _) h
theorem jL {Q:Bool→Prop}(h:EvD X α a fun x=>EvD X α b fun y=>∃i j,x=.int i∧y=.int j∧Q (decide (j≤i))):EvT X α (.Compare a [.GtE] [b] pos) Q:=vN gW (zA _) h
theorem gh {j:Nat}{Q:Bool→Prop}(h:EvD X α a fun x=>Q (xT x)):EvT X α (.Compare a [.Is] [.Constant .none j p] pos) Q:=
 yK tZ (zA _) (h.imp fun x h=>wA ⟨_,fun p H vx vy R rx ry z=>⟨ry.non_inv,by rw[rx.non_iff];exact z⟩,h⟩)
theorem lW {j:Nat}{Q:Bool→Prop}(h:EvD X α a fun x=>Q (!xT x)):EvT X α (.Compare a [.IsNot] [.Constant .none j p] pos) Q:=
 yK jE (zA _) (h.imp fun x h=>wA ⟨_,fun p H vx vy R rx ry z=>⟨ry.non_inv,by rw[rx.non_iff];exact z⟩,h⟩)
def eu :PyData→Option Bool
 |.none=>some false
 |.bool b=>some b
 |.int i=>some (i != 0)
 |.list ds=>some (!ds.isEmpty)
 |.tuple ds=>some (!ds.isEmpty)
 |_=>none
theorem AVs.isEmpty {H:Hp}{xs:List V}{ds:List PyData}(h:AVs H xs ds):xs.isEmpty=ds.isEmpty:=by cases h<;>rfl
theorem lJ {Q:Bool→Prop}(h:EvD X α e fun x=>∃k,eu x=some k∧Q k)(he:∀whole,isTrue e X.env whole=(do let v ←whole;standAt e.pos;holding [v] (truthy v)):=by intro _;rfl):EvT X α e Q:=fun F σ H R m k=>by
 refine⟨_,mw zb he,?_⟩
 refine h F σ H _ m fun x vx H1 q1 t1 k1 r1=>?_
 obtain⟨b,hb,q⟩:=q1
 refine⟨b,?_,k b H1 q t1 k1⟩
 cases r1 with
 |non=>cases hb;rfl
 |bl z=>cases hb;rfl
 |int i=>cases hb;rfl
 |str s=>cases hb
 |lst h1 h2=>cases hb;exact .inl ⟨_,SqL.of (zg h1).2,by rw[h2.isEmpty]⟩
 |tup h1 h2=>cases hb;exact .inr (.inl ⟨_,SqT.of (zg h1).2,by rw[h2.isEmpty]⟩)
 |ins _ _=>cases hb
 |dk _ _=>cases hb
 |dt _ _=>cases hb
 |xc _ _ _=>cases hb
 |xn _=>cases hb
theorem gx {Q:Bool→Prop}(h:EvT X α a fun k=>Q (!k)):EvT X α (.UnaryOp .Not a pos) Q:=fun F σ H R m k=>by
 refine⟨_,iK xj,?_⟩
 exact h F σ H _ m fun b H1 q1 t1 k1=>k _ H1 q1 t1 k1
def EvW (X:Cx)(α:Ev)(e:Expr)(Q:Bool→Prop):Prop:=∀(F:Fr) (σ:St) (H:Hp) (R:Bool→Hp→Prop),M F α σ H→(∀b H',Q b→zB F H'→Kz F H H'→R b H')→∃t,PW X e t∧t σ H R
def eI (X:Cx)(e:Expr):TT:=fun σ H Q=>∃t,PW X e t∧t σ H Q
theorem qU :PW X e (eI X e):=fun w pins s σ H Q I ⟨t,p,q⟩=>p w pins s σ H Q I q
theorem EvW.t {Q:Bool→Prop}(h:EvW X α e Q):EvT X α e Q:=fun F σ H R m k=>by
 obtain⟨t,p,q⟩:=h F σ H R m k
 exact⟨t,p.pt,q⟩
variable {rest:List Expr}
theorem tW {Q:Bool→Prop}(h:EvT X α a Q):EvW X α (.BoolOp .And [a] pos) Q:=fun F σ H R m k=>⟨_,jt xj,h F σ H R m k⟩
theorem gC {Q:Bool→Prop}(h:EvT X α a Q):EvW X α (.BoolOp .Or [a] pos) Q:=fun F σ H R m k=>⟨_,rZ xj,h F σ H R m k⟩
theorem mi {Q:Bool→Prop}(h:EvT X α a fun k=>if k=true then EvW X α (.BoolOp .And (b::rest) pos) Q else Q false):EvW X α (.BoolOp .And (a::b::rest) pos) Q:=fun F σ H R m k=>by
 refine⟨_,hG xj qU,?_⟩
 refine h F σ H _ m fun c H1 q1 t1 k1=>?_
 cases c with
 |true=>exact wy ((by simpa using q1:EvW X α _ Q) F σ H1 R (m.kz k1 t1) fun b H2 q2 t2 k2=>k b H2 q2 t2 (k1.trans k2))
 |false=>exact ve (k _ H1 (by simpa using q1) t1 k1)
theorem fk {Q:Bool→Prop}(h:EvT X α a fun k=>if k=true then Q true else EvW X α (.BoolOp .Or (b::rest) pos) Q):EvW X α (.BoolOp .Or (a::b::rest) pos) Q:=fun F σ H R m k=>by
 refine⟨_,mK xj qU,?_⟩
 refine h F σ H _ m fun c H1 q1 t1 k1=>?_
 cases c with
 |false=>exact ve ((by simpa using q1:EvW X α _ Q) F σ H1 R (m.kz k1 t1) fun b H2 q2 t2 k2=>k b H2 q2 t2 (k1.trans k2))
 |true=>exact wy (k _ H1 (by simpa using q1) t1 k1)
theorem mD {op}(h:EvD X α a Q):EvD X α (.BoolOp op [a] pos) Q:=fun F σ H R m k=>⟨_,yX zb,h F σ H R m k⟩
theorem ip (h:EvD X α a fun x=>∃k,x=.bool k∧if k=true then EvD X α (.BoolOp .And (b::rest) pos) Q else Q (.bool false)):EvD X α (.BoolOp .And (a::b::rest) pos) Q:=fun F σ H R m k=>by
 refine⟨_,yA zb zb,?_⟩
 refine h F σ H _ m fun x vx H1 q1 t1 k1 r1=>?_
 obtain⟨c,rfl,q1⟩:=q1
 cases r1.bl_inv
 refine⟨c,rfl,?_⟩
 cases c with
 |true=>exact wy ((by simpa using q1:EvD X α _ Q) F σ H1 R (m.kz k1 t1) fun d v H2 q2 t2 k2 r2=>k d v H2 q2 t2 (k1.trans k2) r2)
 |false=>exact ve (k _ _ H1 (by simpa using q1) t1 k1 (.bl _))
theorem gK (h:EvD X α a fun x=>∃k,x=.bool k∧if k=true then Q (.bool true) else EvD X α (.BoolOp .Or (b::rest) pos) Q):EvD X α (.BoolOp .Or (a::b::rest) pos) Q:=fun F σ H R m k=>by
 refine⟨_,my zb zb,?_⟩
 refine h F σ H _ m fun x vx H1 q1 t1 k1 r1=>?_
 obtain⟨c,rfl,q1⟩:=q1
 cases r1.bl_inv
 refine⟨c,rfl,?_⟩
 cases c with
 |false=>exact ve ((by simpa using q1:EvD X α _ Q) F σ H1 R (m.kz k1 t1) fun d v H2 q2 t2 k2 r2=>k d v H2 q2 t2 (k1.trans k2) r2)
 |true=>exact wy (k _ _ H1 (by simpa using q1) t1 k1 (.bl _))
theorem ia (h:EvT X α c fun k=>if k=true then EvD X α a Q else EvD X α b Q):EvD X α (.IfExp c a b pos) Q:=fun F σ H R m k=>by
 refine⟨_,lr xj zb zb,?_⟩
 refine h F σ H _ m fun x H1 q1 t1 k1=>?_
 cases x with
 |true=>exact wy ((by simpa using q1:EvD X α _ Q) F σ H1 R (m.kz k1 t1) fun d v H2 q2 t2 k2 r2=>k d v H2 q2 t2 (k1.trans k2) r2)
 |false=>exact ve ((by simpa using q1:EvD X α _ Q) F σ H1 R (m.kz k1 t1) fun d v H2 q2 t2 k2 r2=>k d v H2 q2 t2 (k1.trans k2) r2)
theorem wD (hs:vM b)(h:EvD X α a fun x=>EvD X α b fun y=>∃ds i d,x=.list ds∧y=.int i∧atI ds i=some d∧Q d):EvD X α (.Subscript a b pos) Q:=by
 refine vt (f:=tOp (iE X.K)) (yh yS zb zb hs) (fun _ _ _=>Iff.rfl) (h.imp fun x h=>h.imp fun y ⟨ds,i,d,e1,e2,hat,hq⟩=>?_)
 subst e1 e2
 intro F σ H vx vy R m rx ry k
 obtain⟨a,xs,rfl,h1,h2⟩:=rx.lst_inv
 cases ry.int_inv
 obtain⟨v,hv,av⟩:=h2.atI hat
 exact⟨a,xs,i,v,rfl,rfl,SqL.of (zg h1).2,hv,k d v H hq m.tp Kz.refl av⟩
def EvO (X:Cx)(α:Ev)(e:Option Expr)(Q:Option Int→Prop):Prop:=∀(F:Fr) (σ:St) (H:Hp) (R:Option Int→Hp→Prop),M F α σ H→(∀i H',Q i→zB F H'→Kz F H H'→R i H')→∃t,PO X e t∧t σ H R
def eS (X:Cx)(e:Option Expr):TO:=fun σ H Q=>∃t,PO X e t∧t σ H Q
theorem vJ {e:Option Expr}:PO X e (eS X e):=fun pins s σ H Q I ⟨t,p,q⟩=>p pins s σ H Q I q
theorem tR {Q:Option Int→Prop}(q:Q none):EvO X α none Q:=fun F σ H R m k=>⟨_,qQ,k _ H q m.tp Kz.refl⟩
theorem xZ {Q:Option Int→Prop}(h:EvD X α a fun x=>∃i,x=.int i∧Q (some i)):EvO X α (some a) Q:=fun F σ H R m k=>by
 refine⟨_,qR zb,?_⟩
 refine h F σ H _ m fun x vx H1 q1 t1 k1 r1=>?_
 obtain⟨i,rfl,q⟩:=q1
 cases r1.int_inv
 exact⟨i,rfl,k _ H1 q t1 k1⟩
theorem M.lay {F:Fr}{σ:St}{H:Hp}{l:Addr}{xs:List V}{ds:List PyData}(m:M F α σ H)(hl:H l=none)(h:AVs (Gz F α σ H) xs ds):zB F (upd H l (.lst xs))∧Kz F H (upd H l (.lst xs))∧yE F α σ H (.ref l) (upd H l (.lst xs)) ds:=by
 refine⟨m.tp.same (zV hl),Kz.of_same (zV hl),l,xs,rfl,hl,zr,h.same (zl fun a o ha e=>?_)⟩
 have:=zq e hl
 exact⟨⟨ha,this⟩,by rw[zk this];exact e⟩
theorem nJ {lo hi:Option Expr}{Q:List PyData→Prop}(h:EvD X α a fun x=>EvO X α lo fun l=>EvO X α hi fun u=>∃ds,x=.list ds∧Q (cutD ds l u)):EvL X α (.Subscript a (.Slice lo hi none p) pos) Q:=fun F σ H R m k=>by
 refine⟨_,uo pJ zb vJ vJ,?_⟩
 refine h F σ H _ m fun x vx H1 q1 t1 k1 r1=>?_
 have m1:=m.kz k1 t1
 refine q1 F σ H1 _ m1 fun l H2 q2 t2 k2=>?_
 have m2:=m1.kz k2 t2
 refine q2 F σ H2 _ m2 fun u H3 q3 t3 k3=>?_
 have m3:=m2.kz k3 t3
 obtain⟨ds,rfl,q⟩:=q3
 obtain⟨a,xs,rfl,h1,h2⟩:=(r1.same ((k2.gz m1.tp).trans (k3.gz m2.tp))).lst_inv
 refine⟨a,xs,rfl,SqL.of (zg h1).2,fun p hp=>?_⟩
 obtain⟨g1,g2,g3⟩:=m3.lay hp (h2.cut l u)
 have kk:=(k1.trans k2).trans k3
 obtain⟨l',xs',e1,e2,e3,e4⟩:=g3
 refine k _ _ _ q g1 (kk.trans g2) ⟨l',xs',e1,?_,e3,e4⟩
 cases z:H l' with
 |none=>rfl
 |some o=>rw[kk l' o z (m.tp.nt (ow0 (m3.fresh e2)))] at e2;cases e2
theorem yE.back {F:Fr}{σ:St}{H H1 H':Hp}{v:V}{ds:List PyData}(m:M F α σ H)(k:Kz F H H1)(t1:zB F H1)(h:yE F α σ H1 v H' ds):yE F α σ H v H' ds:=by
 obtain⟨l',xs',e1,e2,e3,e4⟩:=h
 refine⟨l',xs',e1,?_,e3,e4⟩
 cases z:H l' with
 |none=>rfl
 |some o=>rw[k l' o z (m.tp.nt (ow0 ((m.kz k t1).fresh e2)))] at e2;cases e2
theorem zf {Q:List A→Prop}(q:Q []):EvA X α [] Q:=fun F σ H R m k=>⟨_,zt,k _ _ H q m.tp Kz.refl .nil⟩
theorem za {Q:List A→Prop}(h:EvD X α e fun d=>EvA X α es fun as=>Q (.dat d::as))(hs:starEach (e::es) X.env=(false,eval e X.env)::starEach es X.env:=by rfl):EvA X α (e::es) Q:=fun F σ H R m k=>by
 refine⟨_,ze zb xy hs,?_⟩
 refine h F σ H _ m fun d v H1 q1 t1 k1 r1=>?_
 have m1:=m.kz k1 t1
 exact q1 F σ H1 _ m1 fun as vs H2 q2 t2 k2 r2=>k _ _ H2 q2 t2 (k1.trans k2) (.cons (r1.same (k2.gz m1.tp)) r2)
theorem zm {Q:List A→Prop}(i:Nat){x:Str}(hi:α[i]?=some (some .tape))(h:EvA X α es fun as=>Q (.tape::as))(hN:X.N[i]?=some x:=by rfl)(hv:Vis X.env.scope x:=by first|exact Or.inl rfl|exact Or.inr (Or.inl rfl)|exact Or.inr (Or.inr rfl))
  (hd:(x == ("__debug__":Str))=false:=by decide) (hcd:(x == ("__classdict__":Str))=false:=by decide) (hs:starEach (.Name x pos::es) X.env=(false,eval (.Name x pos) X.env)::starEach es X.env:=by rfl):EvA X α (.Name x pos::es) Q:=fun F σ H R m k=>by
 obtain⟨t,b,c,h1,h2⟩:=m.tvar i hi
 refine⟨_,ze (xo hN hv hd hcd) xy hs,.ref t,h2,?_⟩
 exact h F σ H _ m fun as vs H2 q2 t2 k2 r2=>k _ _ H2 q2 t2 k2 (.cons ⟨t,b,c,h1,rfl⟩ r2)
def datas :List A→Option (List PyData)
 |[]=>some []
 |.dat d::r=>(datas r).map (d::·)
 |_::_=>none
theorem zZ.datas {F:Fr}{G:Hp}:∀{vs:List V} {as:List A} {ds:List PyData},zZ F G vs as→L2.datas as=some ds→AVs G vs ds
 |_,_,ds,.nil,h=>by cases h;exact .nil
 |_,_,ds,.cons (a:=.dat d) (as:=as) h r,e=>by
  simp only[L2.datas,dW] at e
  obtain⟨es,e1,rfl⟩:=e
  exact .cons h (zZ.datas r e1)
 |_,_,ds,.cons (a:=.ow _) h r,e=>by cases h
 |_,_,ds,.cons (a:=.deep _ _) h r,e=>by cases h
 |_,_,ds,.cons (a:=.exc _ _) h r,e=>by cases h
 |_,_,ds,.cons (a:=.pin _ _ _) h r,e=>by cases h
 |_,_,ds,.cons (a:=.tape) h r,e=>by cases e
 |_,_,ds,.cons (a:=.at _) h r,e=>by cases h
theorem wH {n:Nat}(h:EvA X α es fun as=>∃ds,datas as=some ds∧ds.length≤1000∧Q (.tuple ds)):EvD X α (.Tuple es n pos) Q:=fun F σ H R m k=>by
 refine⟨_,oZ xy,?_⟩
 refine h F σ H _ m fun as vs H1 q1 t1 k1 r1=>?_
 obtain⟨ds,e,hl,q⟩:=q1
 have r:=r1.datas e
 have m1:=m.kz k1 t1
 refine⟨by rw[r.length];exact cD (yB hl),fun p hp=>?_⟩
 refine k _ _ _ q (t1.same (zV hp)) (k1.trans (Kz.of_same (zV hp))) (.tup (xs:=vs) (yr (m1.fresh hp) zr) (r.same (zl fun a o ha e=>⟨ha,by rw[zk (zq e hp)];exact e⟩)))
theorem yN {Q:List PyData→Prop}(h:EvA X α es fun as=>∃ds,datas as=some ds∧ds.length≤1000∧Q ds):EvL X α (.List es pos) Q:=fun F σ H R m k=>by
 refine⟨_,nN xy,?_⟩
 refine h F σ H _ m fun as vs H1 q1 t1 k1 r1=>?_
 obtain⟨ds,e,hl,q⟩:=q1
 have r:=r1.datas e
 have m1:=m.kz k1 t1
 refine⟨by rw[r.length];exact cD (yB hl),fun p hp=>?_⟩
 obtain⟨g1,g2,g3⟩:=m1.lay hp r
 exact k _ _ _ q g1 (k1.trans g2) (g3.back m k1 t1)
theorem wG {Q:List PyData→Prop}(h:EvD X α a fun x=>EvD X α b fun y=>∃ds es,x=.list ds∧y=.list es∧ds.length+es.length≤1000∧Q (ds++es)):EvL X α (.BinOp a .Add b pos) Q:=fun F σ H R m k=>by
 refine⟨_,yu nj zb zb,?_⟩
 refine h F σ H _ m fun x vx H1 q1 t1 k1 r1=>?_
 have m1:=m.kz k1 t1
 refine q1 F σ H1 _ m1 fun y vy H2 q2 t2 k2 r2=>?_
 have m2:=m1.kz k2 t2
 obtain⟨ds,es,rfl,rfl,hl,q⟩:=q2
 obtain⟨a,xs,rfl,h1,h2⟩:=(r1.same (k2.gz m1.tp)).lst_inv
 obtain⟨b,ys,rfl,h3,h4⟩:=r2.lst_inv
 refine⟨a,b,xs,ys,rfl,rfl,(zg h1).2,(zg h3).2,by rw[h2.length,h4.length];exact cD (yB hl),fun p hp=>?_⟩
 obtain⟨g1,g2,g3⟩:=m2.lay hp (h2.append h4)
 exact k _ _ _ q g1 ((k1.trans k2).trans g2) (g3.back m (k1.trans k2) t2)
theorem xM {id:String}{x:Str}{r:List V→Hp→VK→Prop}(hc:xr X (.builtin id) r)(hg:Gl X x)(hm:X.mg x=none)(hv:bootBuiltins x=some (.builtin id))
  (h:EvA X α (e::es) fun as=>∀(F:Fr) (σ:St) (H:Hp) (vs:List V) (R:VK),M F α σ H→zZ F (Gz F α σ H) vs as→(∀d v H',Q d→zB F H'→Kz F H H'→AV (Gz F α σ H') v d→R v H')→r vs H R)
  (hn:x≠"__name__":=by decide) (hdb:(x == ("__debug__":Str))=false:=by decide) (he:starEach (e::es) X.env=(false,eval e X.env)::starEach es X.env:=by rfl) (hpl:(backTo pos (starEach es X.env)).any (·.1)=false:=by rfl):
  EvD X α (.Call (.Name x p) (e::es) [] pos) Q:=fun F σ H R m k=>by
 refine⟨_,yt hc hg hm hv xy hn hdb he hpl,?_⟩
 refine h F σ H _ m fun as vs H1 q1 t1 k1 r1=>?_
 exact q1 F σ H1 vs R (m.kz k1 t1) r1 fun d v H' qd t2 k2 r2=>k d v H' qd t2 (k1.trans k2) r2
end
section
variable {X:Cx}{α:Ev}{e a b c:Expr}{es:List Expr}{pos p q:Pos}{Q:PyData→Prop}
theorem zZ.one {F:Fr}{G:Hp}{vs:List V}{d:PyData}(h:zZ F G vs [.dat d]):∃v,vs=[v]∧AV G v d:=by
 cases h with|cons h r=>cases r;exact⟨_,rfl,h⟩
theorem zZ.two {F:Fr}{G:Hp}{vs:List V}{d e:PyData}(h:zZ F G vs [.dat d,.dat e]):∃v u,vs=[v,u]∧AV G v d∧AV G u e:=by
 cases h with|cons h r=>obtain⟨u,rfl,h2⟩:=r.one;exact⟨_,u,rfl,h,h2⟩
def eE :PyData→Option Int
 |.list ds=>some ds.length
 |.tuple ds=>some ds.length
 |_=>none
theorem qA (hg:Gl X "len")(hm:X.mg "len"=none)(h:EvD X α e fun x=>∃n,eE x=some n∧Q (.int n))(he:starEach [e] X.env=(false,eval e X.env)::starEach [] X.env:=by rfl):
  EvD X α (.Call (.Name "len" p) [e] [] pos) Q:=by
 refine xM xx hg hm bG (za (h.imp fun x ⟨n,e1,q⟩=>zf ?_) he) (he:=he)
 intro F σ H vs R m rv k
 obtain⟨v,rfl,av⟩:=rv.one
 cases av with
 |lst h1 h2=>cases e1;rw[←h2.length] at q;exact⟨_,_,rfl,.inl (SqL.of (zg h1).2),k _ _ H q m.tp Kz.refl (.int _)⟩
 |tup h1 h2=>cases e1;rw[←h2.length] at q;exact⟨_,_,rfl,.inr (SqT.of (zg h1).2),k _ _ H q m.tp Kz.refl (.int _)⟩
 |_=>cases e1
theorem md (hc:X.calm=true)(hg:Gl X "max")(hm:X.mg "max"=none)(h:EvD X α a fun x=>EvD X α b fun y=>∃i j,x=.int i∧y=.int j∧Q (.int (if j > i then j else i)))
  (he:starEach [a,b] X.env=(false,eval a X.env)::starEach [b] X.env:=by rfl) (he2:starEach [b] X.env=(false,eval b X.env)::starEach [] X.env:=by rfl) (hpl:(backTo pos (starEach [b] X.env)).any (·.1)=false:=by rfl):
  EvD X α (.Call (.Name "max" p) [a,b] [] pos) Q:=by
 refine xM (oR hc) hg hm boot_max (za (h.imp fun x h=>za (h.imp fun y ⟨i,j,e1,e2,q⟩=>zf ?_) he2) he) (he:=he) (hpl:=hpl)
 intro F σ H vs R m rv k
 subst e1 e2
 obtain⟨v,u,rfl,av,au⟩:=rv.two
 cases av.int_inv;cases au.int_inv
 exact⟨i,j,rfl,k _ _ H q m.tp Kz.refl (.int _)⟩
theorem qo (hc:X.calm=true)(hg:Gl X "min")(hm:X.mg "min"=none)(h:EvD X α a fun x=>EvD X α b fun y=>∃i j,x=.int i∧y=.int j∧Q (.int (if j<i then j else i)))
  (he:starEach [a,b] X.env=(false,eval a X.env)::starEach [b] X.env:=by rfl) (he2:starEach [b] X.env=(false,eval b X.env)::starEach [] X.env:=by rfl) (hpl:(backTo pos (starEach [b] X.env)).any (·.1)=false:=by rfl):
  EvD X α (.Call (.Name "min" p) [a,b] [] pos) Q:=by
 refine xM (oS hc) hg hm boot_min (za (h.imp fun x h=>za (h.imp fun y ⟨i,j,e1,e2,q⟩=>zf ?_) he2) he) (he:=he) (hpl:=hpl)
 intro F σ H vs R m rv k
 subst e1 e2
 obtain⟨v,u,rfl,av,au⟩:=rv.two
 cases av.int_inv;cases au.int_inv
 exact⟨i,j,rfl,k _ _ H q m.tp Kz.refl (.int _)⟩
theorem uk {T:String}{x:Str}{p1:Pos}(hg:Gl X "isinstance")(hm:X.mg "isinstance"=none)(hgT:Gl X x)(hmT:X.mg x=none)(hT:bootBuiltins x=some (.type T))
  (h:EvD X α a fun x=>∃k,x.hasDict=false∧uB T x=some k∧Q (.bool k)) (hnx:x≠"__name__":=by decide) (hdx:(x == ("__debug__":Str))=false:=by decide)
  (he:starEach [a,.Name x p1] X.env=(false,eval a X.env)::starEach [.Name x p1] X.env:=by rfl) (he2:starEach [.Name x p1] X.env=(false,eval (.Name x p1) X.env)::starEach [] X.env:=by rfl) (hpl:(backTo pos (starEach [.Name x p1] X.env)).any (·.1)=false:=by rfl):
  EvD X α (.Call (.Name "isinstance" p) [a,.Name x p1] [] pos) Q:=fun F σ H R m k=>by
 refine⟨_,yt yV hg hm cO (ze zb (ze (xY hgT hmT hT (show RelV (.ty T) (.type T) from rfl) hnx hdx) zt he2) he) (he:=he) (hpl:=hpl),?_⟩
 refine h F σ H _ m fun x vx H1 q1 t1 k1 r1=>?_
 obtain⟨b,hd,e,q⟩:=q1
 exact⟨vx,T,x,b,rfl,(r1.dv hd).same xq,e,k _ _ H1 q t1 k1 (.bl b)⟩
def ud :PyData→Option (List PyData)
 |.list ds=>some ds
 |.tuple ds=>some ds
 |_=>none
theorem AVs.bools {H:Hp}:∀{xs:List V} {bs:List Bool},AVs H xs (bs.map .bool)→xs=bs.map V.bl
 |_,[],.nil=>rfl
 |_,b::bs,.cons h r=>by rw[h.bl_inv,AVs.bools r];rfl
theorem iL (hc:X.calm=true)(hg:Gl X "all")(hm:X.mg "all"=none)(h:EvD X α e fun x=>∃bs:List Bool,x=.list (bs.map .bool)∧Q (.bool (bs.all id)))(he:starEach [e] X.env=(false,eval e X.env)::starEach [] X.env:=by rfl):
  EvD X α (.Call (.Name "all" p) [e] [] pos) Q:=by
 refine xM (pL hc) hg hm boot_all (za (h.imp fun x ⟨bs,e1,q⟩=>zf ?_) he) (he:=he)
 intro F σ H vs R m rv k
 subst e1
 obtain⟨v,rfl,av⟩:=rv.one
 obtain⟨a,xs,rfl,h1,h2⟩:=av.lst_inv
 exact⟨a,bs,rfl,by rw[(zg h1).2,h2.bools],k _ _ H q m.tp Kz.refl (.bl _)⟩
section
variable {k:Nat}{f:Addr}{fd:FuncData}{ps:List Str}{φ:List A→(A→Prop)→Prop}{x:Str}
theorem uc {F:Fr}{σ:St}{H:Hp}{vs:List V}{as:List A}{QA:A→Prop}{R:VK}(m:M F α σ H)(rv:zZ F (Gz F α σ H) vs as)(hφ:φ as QA)
  (kk:∀a v H',QA a→xS ⟨H,Ow F α σ,F.tp⟩ v H' a→R v H') {E:XK}:spA φ (vs++[]) H R E:=by
 refine⟨⟨H,Ow F α σ,F.tp⟩,as,QA,rfl,?_,?_,?_,hφ,kk⟩
 ·exact m.tp.to rfl fun _ z=>.inl z
 ·exact fun y z=>m.owEx z
 ·rw[List.append_nil]
  exact zZ.to (F:=F) (F':=⟨H,Ow F α σ,F.tp⟩) (fun _ _ e=>e) rfl rv
theorem xS.back {F:Fr}{σ:St}{H H':Hp}{v:V}{a:A}(m:M F α σ H)(h:xS ⟨H,Ow F α σ,F.tp⟩ v H' a):zB F H'∧Kz F H H'∧AV (Gz F α σ H') v a.d:=by
 obtain⟨t,kz,r⟩:=h
 refine⟨m.tp.re t rfl,kz,?_⟩
 cases a with
 |dat d=>exact r
 |ow c=>
  obtain⟨l,xs,ds,rfl,rfl,h1,h2,h3,h4⟩:=r
  exact .lst (yr h2 h3) (h4.same (zl fun a o h e=>⟨h.1,e⟩))
 |deep d S=>
  obtain⟨h1,h2⟩:=r
  refine h1.same fun x o e=>?_
  rcases nH e with ⟨z1,z2⟩|⟨_,z2⟩
  ·exact yr (h2 x z1).1 z2
  ·exact z2
 |tape=>exact r.elim
 |«at» _=>exact r.elim
 |exc _ _=>exact r.elim
 |pin _ _ _=>exact r.elim
theorem lU (G:zK X.prog X.w X.K X.mg X.base CX0 k f fd ps (spA φ))(hr:yq k X.A)(hg:Gl X x)(hm:X.mg x=some (.ref f))(hk:PySem.W.keepIn X.K (.ref f)=true)(hb:Binds X.K fd ps [])
  (h:EvA X α (e::es) fun as=>φ as fun a=>Q a.d) (hdb:(x == ("__debug__":Str))=false:=by decide) (he:starEach (e::es) X.env=(false,eval e X.env)::starEach es X.env:=by rfl) (hpl:(backTo pos (starEach es X.env)).any (·.1)=false:=by rfl):
  EvD X α (.Call (.Name x p) (e::es) [] pos) Q:=fun F σ H R m kk=>by
 refine⟨_,zG G hr hg hm hk hb .nil yz xy hdb he hpl,?_⟩
 refine h F σ H _ m fun as vs H1 q1 t1 k1 r1=>?_
 have m1:=m.kz k1 t1
 refine uc m1 r1 q1 fun a v H' qa ra=>?_
 obtain⟨g1,g2,g3⟩:=ra.back m1
 exact kk _ v H' qa g1 (k1.trans g2) g3
theorem kF {Q:List PyData→Prop}(G:zK X.prog X.w X.K X.mg X.base CX0 k f fd ps (spA φ))(hr:yq k X.A)(hg:Gl X x)(hm:X.mg x=some (.ref f))(hk:PySem.W.keepIn X.K (.ref f)=true)(hb:Binds X.K fd ps [])
  (h:EvA X α (e::es) fun as=>φ as fun a=>∃ds,a=.own ds∧Q ds) (hdb:(x == ("__debug__":Str))=false:=by decide) (he:starEach (e::es) X.env=(false,eval e X.env)::starEach es X.env:=by rfl) (hpl:(backTo pos (starEach es X.env)).any (·.1)=false:=by rfl):
  EvL X α (.Call (.Name x p) (e::es) [] pos) Q:=fun F σ H R m kk=>by
 refine⟨_,zG G hr hg hm hk hb .nil yz xy hdb he hpl,?_⟩
 refine h F σ H _ m fun as vs H1 q1 t1 k1 r1=>?_
 have m1:=m.kz k1 t1
 refine uc m1 r1 q1 fun a v H' qa ra=>?_
 obtain⟨ds,rfl,q⟩:=qa
 obtain⟨g1,g2,_⟩:=ra.back m1
 obtain⟨_,_,l,xs,ds',rfl,hc,h1,h2,h3,h4⟩:=ra
 cases hc
 exact kk ds _ H' q g1 (k1.trans g2) (yE.back m k1 t1 ⟨l,xs,rfl,h1,h3,h4⟩)
end
theorem rV {i j:Nat}{x:Option A}(h:i≠j):(α.set i x)[j]?=α[j]?:=cy h
theorem zI {i:Nat}{x:Option A}{j:Nat}{y:Option A}(h:(α.set i x)[j]?=some y):(i=j∧x=y)∨(i≠j∧α[j]?=some y):=by
 by_cases hij:i=j
 ·subst hij
  left
  have hl:i<α.length:=by
   have:=(dP.mp h).1
   rwa [cm] at this
  rw[cz hl] at h
  exact⟨rfl,dM h⟩
 ·right
  rw[cy hij] at h
  exact⟨hij,h⟩
theorem M.put {F:Fr}{σ:St}{H:Hp}{i:Nat}{b:Option A}(m:M F α σ H)(hf:∀s c x,σ[i]?=some s→b=some c→foot s c x→∃a,α[i]?=some (some a)∧foot s a x)
  (hok:∀s c,i<α.length→σ[i]?=some s→b=some c→xm (Gz F (α.set i b) σ H) F H s c) (hx:∀c,b=some c→noX c:=by intro c z;cases z;trivial):zu (Gz F α σ H) (Gz F (α.set i b) σ H)∧M F (α.set i b) σ H:=by
 have gs:zu (Gz F α σ H) (Gz F (α.set i b) σ H):=zl fun a o h e=>⟨fun z=>h (by
  rcases z with z|⟨j,c,s,e1,e2,f⟩
  ·exact .inl z
  ·rcases zI e1 with ⟨rfl,z⟩|⟨hj,e1'⟩
   ·obtain⟨a',h1,h2⟩:=hf s c a e2 z f
    exact .inr ⟨i,a',s,h1,e2,h2⟩
   ·exact .inr ⟨j,c,s,e1',e2,f⟩),e⟩
 have old:∀{j:Nat} {c:A} {s:Option V} {x:Addr},(α.set i b)[j]?=some (some c)→σ[j]?=some s→foot s c x→∃a,α[j]?=some (some a)∧foot s a x:=fun {j c s x} e1 e2 f=>by
  rcases zI e1 with ⟨rfl,z⟩|⟨hj,e1'⟩
  ·exact hf s c x e2 z f
  ·exact⟨c,e1',f⟩
 refine⟨gs,by rw[cm];exact m.len,fun j c s e1 e2=>?_,fun j k c d s t x e1 e2 h1 h2 f1 f2=>?_,fun j r q e j' c s x e1 e2 f=>?_,m.tp,m.keep,m.oex⟩
 ·rcases zI e1 with ⟨rfl,z⟩|⟨hj,e1'⟩
  ·refine hok s c ?_ e2 z
   have:=(dP.mp e1).1
   rwa [cm] at this
  ·exact (m.ok j c s e1' e2).stay gs (fun x o f e=>⟨e,(m.ft e1' e2 f).1,(m.ft e1' e2 f).2.1⟩) rfl fun _ _ _ l=>l
 ·obtain⟨a',g1,g2⟩:=old e1 h1 f1
  obtain⟨b',g3,g4⟩:=old e2 h2 f2
  exact m.dj j k a' b' s t x g1 g3 h1 h2 g2 g4
 ·obtain⟨a',g1,g2⟩:=old e1 e2 f
  rcases zI e with ⟨rfl,z⟩|⟨_,e'⟩
  ·exact (hx _ z).elim
  ·exact m.xd j r q e' j' a' s x g1 e2 g2
theorem M.gave {F:Fr}{σ:St}{H:Hp}{i:Nat}{a:A}{s:Option V}{b:Option A}{x:Addr}(m:M F α σ H)(e1:α[i]?=some (some a))(e2:σ[i]?=some s)(f:foot s a x)(hb:∀c,b=some c→¬foot s c x):¬Ow F (α.set i b) σ x:=by
 rintro (z|⟨j,c,t,h1,h2,g⟩)
 ·exact (m.ft e1 e2 f).1 z
 ·rcases zI h1 with ⟨rfl,z⟩|⟨hj,h1'⟩
  ·rw[e2] at h2;cases h2;exact hb c z g
  ·exact hj (m.dj i j a c s t x e1 h1' e2 h2 f g)
theorem iP {F:Fr}{σ:St}{H:Hp}{i:Nat}{b:A}(hb:∀s x,¬foot s b x):zu (Gz F α σ H) (Gz F (α.set i (some b)) σ H):=zl fun a o h e=>⟨fun z=>h (by
 rcases z with z|⟨j,c,s,e1,e2,f⟩
 ·exact .inl z
 ·rcases zI e1 with ⟨rfl,z⟩|⟨hj,e1'⟩
  ·cases z;exact (hb _ _ f).elim
  ·exact .inr ⟨j,c,s,e1',e2,f⟩),e⟩
theorem M.frz {F:Fr}{σ:St}{H:Hp}{i:Nat}{ds:List PyData}(m:M F α σ H)(hi:α[i]?=some (some (.own ds))):M F (α.set i (some (.dat (.list ds)))) σ H:=
 (m.put (b:=some (.dat (.list ds))) (fun s c' x _ z f=>by cases z;exact f.elim) fun s c' _ e2 z=>by
  cases z
  obtain⟨l,o,h1,h2,h3,h4,h5⟩:=m.owc i _ hi
  rw[h1] at e2;cases e2
  exact⟨.ref l,rfl,(h3.same (iP (b:=.dat (.list ds)) fun _ _ f=>f)).av (yr (m.gave hi h1 rfl fun c z=>by cases z;exact id) h2)⟩).2
theorem jT {F:Fr}{σ:St}{H H':Hp}{i:Nat}{a:A}{b:Option A}(m:M F α σ H)(k:Kz F H H')(hi:α[i]?=some (some a))(x:Addr)(o:HO)(ho:¬Ob o)(h:Gz F (α.set i b) σ H' x=some o):Gz F α σ H' x=some o:=by
 obtain⟨h1,h2⟩:=zg h
 refine yr ?_ h2
 rintro (z|⟨j,c,s,e1,e2,f⟩)
 ·exact h1 (.inl z)
 ·by_cases hj:i=j
  ·subst hj
   obtain⟨g1,g2,o',g3,g4⟩:=m.ft e1 e2 f
   rw[k _ _ g3 (m.tp.nt g1)] at h2;cases h2;exact ho g4
  ·exact h1 (.inr ⟨j,c,s,by rw[rV hj];exact e1,e2,f⟩)
theorem yx (i:Nat){ds:List PyData}(hi:α[i]?=some (some (.own ds)))(h:EvD X (α.set i (some (.dat (.list ds)))) e fun d=>noL d=true∧Q d):EvD X α e Q:=fun F σ H R m k=>
 h F σ H R (m.frz hi) fun d v H' q t kz r=>k d v H' q.2 t kz (r.noL (jT m kz hi) q.1)
def ItW (p:Addr→Prop)(J:It)(ds:List PyData)(G:Hp):Prop:=∀(i:Nat) (H2:Hp) (q:Addr→Prop),zu G (sub q H2)→
 (∀d,ds[i]?=some d→J.go i H2∧∀x H3,J.yld i H2 x H3→zu H2 H3∧((∀a o,H3 a=some o→H2 a=none→q a)→AV (sub q H3) x d))∧(ds.length≤i→J.stop i H2)
def ju (X:Cx)(tg e:Expr):TI:=fun σ H R=>∃t,PI X tg e t∧t σ H R
theorem tV {tg e:Expr}:PI X tg e (ju X tg e):=fun pins s σ H R I ⟨t,p,q⟩=>p pins s σ H R I q
def EvI (X:Cx)(α:Ev)(tg e:Expr)(Q:List PyData→Prop):Prop:=∀(F:Fr) (σ:St) (H:Hp) (R:It→Hp→Prop),M F α σ H→
 (∀ds J H',Q ds→zB F H'→Kz F H H'→ItW (fun x=>¬Ow F α σ x) J ds (Gz F α σ H')→R J H')→ju X tg e σ H R
theorem tL {tg:Expr}{Q:List PyData→Prop}(h:EvD X α e fun x=>∃ds,x=.list ds∧Q ds):EvI X α tg e Q:=fun F σ H R m k=>by
 refine⟨_,ph zb,?_⟩
 refine h F σ H _ m fun x vx H1 q1 t1 k1 r1=>?_
 obtain⟨ds,rfl,q⟩:=q1
 obtain⟨a,xs,rfl,h1,h2⟩:=r1.lst_inv
 refine⟨a,rfl,⟨xs,SqL.of (zg h1).2⟩,k ds _ H1 q t1 k1 fun i H2 p s=>⟨fun d hd=>?_,fun hl=>?_⟩⟩
 ·obtain⟨x,hx,av⟩:=h2.get hd
  have ha:=SqL.of (K:=X.K) (zg (s _ _ h1)).2
  refine⟨⟨xs,x,ha,hx⟩,fun x' H3 y=>?_⟩
  obtain⟨e,y⟩:=y
  subst e
  have:=y xs ha
  rw[hx] at this;cases this
  exact⟨zu.refl _,fun _=>av.same s⟩
 ·exact⟨xs,SqL.of (zg (s _ _ h1)).2,by rw[h2.length];exact hl⟩
theorem pO {p:Addr→Prop}{lo:Int}{n:Nat}{G:Hp}:ItW p (Itr lo n) ((vj lo n).map .int) G:=fun i H2 q s=>⟨fun d hd=>by
  rw[cc,dW] at hd
  obtain⟨z,h1,rfl⟩:=hd
  have hi:i<n:=by
   have:=(dP.mp h1).1
   rwa [yG] at this
  rw[qC hi] at h1
  cases h1
  refine⟨hi,fun x H3 y=>?_⟩
  obtain⟨rfl,rfl⟩:=y
  exact⟨zu.refl _,fun _=>.int _⟩,fun hl=>by
  rw[dB,yG] at hl
  exact hl⟩
theorem pP {tg:Expr}{Q:List PyData→Prop}(hg:Gl X "range")(hm:X.mg "range"=none)(h:EvD X α a fun x=>∃j,x=.int j∧-(2 ^ 62)≤j∧j<2 ^ 62∧Q ((vj 0 j.toNat).map .int))(hs:starEach [a] X.env=[(false,eval a X.env)]:=by rfl):
  EvI X α tg (.Call (.Name "range" p) [a] [] pos) Q:=fun F σ H R m k=>by
 refine⟨_,oo hg hm (ze zb zt hs) hs,?_⟩
 refine h F σ H _ m fun x vx H1 q1 t1 k1 r1=>?_
 obtain⟨j,rfl,b1,b2,q⟩:=q1
 cases r1.int_inv
 exact⟨j,rfl,b1,b2,k _ _ H1 q t1 k1 pO⟩
end
inductive Pat where
 |one (i:Nat)
 |many (is:List Nat)
def xO :List Nat→List PyData→Ev→Option Ev
 |[],[],α=>some α
 |i::is,d::ds,α=>xO is ds (α.set i (some (.dat d)))
 |_,_,_=>none
def Pat.bind :Pat→PyData→Ev→Option Ev
 |.one i,d,α=>some (α.set i (some (.dat d)))
 |.many is,.tuple ds,α=>xO is ds α
 |_,_,_=>none
def gIs :List Nat→TGs
 |[]=>iy
 |i::is=>pI (uI i) (gIs is)
def qi (K:PySem.W.Frag):Pat→TG
 |.one i=>uI i
 |.many is=>fh K is.length (gIs is)
def Pat.slots :Pat→List Nat
 |.one i=>[i]
 |.many is=>is
def isFree (α:Ev)(i:Nat):Bool:=match α[i]? with
 |some none=>true
 |_=>false
def Pat.free (p:Pat)(α:Ev):Bool:=p.slots.all (isFree α)
section
variable {X:Cx}{α α':Ev}{F:Fr}{σ:St}{H:Hp}
theorem M.store {i:Nat}{v:V}{b:A}{H':Hp}(m:M F α σ H)(t:zB F H')(k:Kz F H H')(hn:∀x,foot (some v) b x→H x=none)(hok:xm (sub (fun x=>¬Ow F α σ x∧¬foot (some v) b x) H') F H' (some v) b)(hx:noX b:=by trivial):M F (α.set i (some b)) (σ.set i (some v)) H':=by
 have m':=m.kz k t
 have hs:∀{j:Nat} {c:A} {s:Option V},(α.set i (some b))[j]?=some (some c)→(σ.set i (some v))[j]?=some s→(i=j∧c=b∧s=some v)∨(i≠j∧α[j]?=some (some c)∧σ[j]?=some s):=fun {j c s} e1 e2=>by
  rcases zI e1 with ⟨rfl,z⟩|⟨hj,e1'⟩
  ·cases z
   have hl:i<σ.length:=by
    have:=(dP.mp e2).1
    rwa [cm] at this
   rw[cz hl] at e2
   cases e2
   exact .inl ⟨rfl,rfl,rfl⟩
  ·rw[cy hj] at e2
   exact .inr ⟨hj,e1',e2⟩
 have ow:∀{y:Addr},Ow F (α.set i (some b)) (σ.set i (some v)) y→Ow F α σ y∨foot (some v) b y:=fun {y} h=>by
  rcases h with z|⟨j,c,s,e1,e2,f⟩
  ·exact .inl (.inl z)
  ·rcases hs e1 e2 with ⟨_,rfl,rfl⟩|⟨_,g1,g2⟩
   ·exact .inr f
   ·exact .inl (.inr ⟨j,c,s,g1,g2,f⟩)
 have g1:zu (sub (fun x=>¬Ow F α σ x∧¬foot (some v) b x) H') (Gz F (α.set i (some b)) (σ.set i (some v)) H'):=zl fun a o h e=>⟨fun z=>(ow z).elim h.1 h.2,e⟩
 have g0:zu (Gz F α σ H) (sub (fun x=>¬Ow F α σ x∧¬foot (some v) b x) H'):=zl fun a o h e=>⟨⟨h,fun z=>by rw[hn a z] at e;cases e⟩,k a o e (m.tp.nt (ow0 h))⟩
 refine⟨by rw[cm,cm];exact m.len,fun j c s e1 e2=>?_,fun j j' c d s s' x e1 e2 h1 h2 f1 f2=>?_,fun j r q e j' c s x e1 e2 f=>?_,t,m.keep.trans k,m'.oex⟩
 ·rcases hs e1 e2 with ⟨rfl,rfl,rfl⟩|⟨_,z1,z2⟩
  ·exact hok.stay g1 (fun x o f e=>by
    obtain⟨w1,w2,_⟩:=tD hok f
    exact⟨e,w1,w2⟩) rfl fun _ _ _ l=>l
  ·exact (m.ok j c s z1 z2).stay (g0.trans g1) (fun x o f e=>by
    obtain⟨w1,w2,_⟩:=m.ft z1 z2 f
    exact⟨k x o e (m.tp.nt w1),w1,w2⟩) rfl fun _ _ _ l=>l.kz k t
 ·have nn:∀{j:Nat} {c:A} {s:Option V},α[j]?=some (some c)→σ[j]?=some s→foot s c x→¬foot (some v) b x:=fun {j c s} z1 z2 f g=>by
   obtain⟨_,_,o,w,_⟩:=m.ft z1 z2 f
   rw[hn x g] at w;cases w
  rcases hs e1 h1 with ⟨rfl,rfl,rfl⟩|⟨_,z1,z2⟩
  ·rcases hs e2 h2 with ⟨rfl,_⟩|⟨_,w1,w2⟩
   ·rfl
   ·exact absurd f1 (nn w1 w2 f2)
  ·rcases hs e2 h2 with ⟨rfl,rfl,rfl⟩|⟨_,w1,w2⟩
   ·exact absurd f2 (nn z1 z2 f1)
   ·exact m.dj j j' c d s s' x z1 w1 z2 w2 f1 f2
 ·rcases zI e with ⟨rfl,z⟩|⟨_,e'⟩
  ·cases z;exact hx.elim
  ·rcases hs e1 e2 with ⟨rfl,rfl,rfl⟩|⟨_,z1,z2⟩
   ·exact (m.lnk e').none (hn x f)
   ·exact m.xd j r q e' j' c s x z1 z2 f
theorem M.set {i:Nat}{v:V}{d:PyData}(m:M F α σ H)(av:AV (Gz F α σ H) v d):M F (α.set i (some (.dat d))) (σ.set i (some v)) H:=
 m.store m.tp Kz.refl (fun x z=>z.elim) ⟨v,rfl,av.same (zl fun a o h e=>⟨⟨h,fun z=>z⟩,e⟩)⟩
theorem M.setC {i:Nat}{v:V}{c:PyData}{H':Hp}(m:M F α σ H)(t:zB F H')(k:Kz F H H')(fl:mx F α σ H v H' c):M F (α.set i (some (.ow c))) (σ.set i (some v)) H':=by
 obtain⟨l,o,rfl,h1,h2,h3⟩:=fl
 have nl:¬Ow F α σ l:=m.fresh h1
 refine m.store t k (fun x z=>?_) ⟨l,o,rfl,h2,h3.same (zl fun a o h e=>⟨⟨h.1,fun z=>h.2 (by cases z;rfl)⟩,e⟩),ow0 nl,m.fresh0 h1⟩
 have z':some (V.ref l)=some (.ref x):=z
 cases z';exact h1
theorem M.setOwn {i:Nat}{v:V}{ds:List PyData}{H':Hp}(m:M F α σ H)(t:zB F H')(k:Kz F H H')(fl:yE F α σ H v H' ds):M F (α.set i (some (.own ds))) (σ.set i (some v)) H':=m.setC t k fl.c
theorem M.wr {x:Addr}{o:HO}(m:M F α σ H)(hno:wq o)(ho:F.O0 x)(ht:∀t b c,F.tp=some (t,b,c)→x≠t∧x≠b∧x≠c)(h0:F.H0 x=none)(hpl:Plain H x)(hx:∀(i:Nat) r q,α[i]?=some (some (.exc r q))→r.H0 x=none):M F α σ (upd H x o):=by
 have gs:zu (Gz F α σ H) (Gz F α σ (upd H x o)):=zl fun a u h e=>⟨h,by rw[zk (fun z=>h (.inl (by rw[z];exact ho)))];exact e⟩
 refine⟨m.len,fun j c s e1 e2=>?_,m.dj,m.xd,m.tp.upd ht hpl,fun y u e n=>?_,fun y hy=>?_⟩
 ·have:=m.ok j c s e1 e2
  cases c with
  |exc r q=>
   have l:Lnk r F H:=this
   exact⟨l.tp,l.o,l.ok.upd (fun a b c e=>ht a b c (l.tp▸e)) hpl,fun y u e n=>by rw[zk (zq e (hx j r q e1))];exact l.k y u e n⟩
  |_=>exact this.stay gs (fun y u f e=>by
    obtain⟨w1,w2,_⟩:=m.ft e1 e2 f
    exact⟨by rw[zk (fun z=>w1 (by rw[z];exact ho))];exact e,w1,w2⟩) rfl fun _ _ z=>by cases z
 ·rw[zk (zq e h0)];exact m.keep y u e n
 ·by_cases z:y=x
  ·exact⟨o,by rw[z];exact zr,hno⟩
  ·obtain⟨u,hu,hn⟩:=m.oex y hy
   exact⟨u,by rw[zk z];exact hu,hn⟩
theorem M.forget {α0:Ev}(m:M F α σ H)(hl:α0.length=α.length)(le:∀(i:Nat) a,α0[i]?=some (some a)→α[i]?=some (some a)):M F α0 σ H:=by
 have ow:∀{y:Addr},Ow F α0 σ y→Ow F α σ y:=fun {y} h=>by
  rcases h with z|⟨j,c,s,e1,e2,f⟩
  ·exact .inl z
  ·exact .inr ⟨j,c,s,le _ _ e1,e2,f⟩
 have gs:zu (Gz F α σ H) (Gz F α0 σ H):=zl fun a o h e=>⟨fun z=>h (ow z),e⟩
 exact⟨hl.trans m.len,fun j c s e1 e2=>(m.ok j c s (le _ _ e1) e2).stay gs (fun x o f e=>⟨e,(m.ft (le _ _ e1) e2 f).1,(m.ft (le _ _ e1) e2 f).2.1⟩) rfl fun _ _ _ l=>l,fun j j' c d s s' x e1 e2=>m.dj j j' c d s s' x (le _ _ e1) (le _ _ e2),fun j r q e j' c s x e1=>m.xd j r q (le _ _ e) j' c s x (le _ _ e1),m.tp,m.keep,m.oex⟩
theorem vv {H:Hp}:∀{is:List Nat} {ds:List PyData} {α α':Ev} {σ:St} {xs:List V} {R:St→Hp→Prop},xO is ds α=some α'→M F α σ H→(∀G,zu (Gz F α σ H) G→AVs G xs ds)→(∀σ',M F α' σ' H→R σ' H)→gIs is xs σ H R
 |[],[],α,α',σ,xs,R,e,m,av,k=>by
  cases e
  cases av _ (zu.refl _)
  exact⟨rfl,k σ m⟩
 |i::is,d::ds,α,α',σ,xs,R,e,m,av,k=>by
  cases h:av _ (zu.refl _) with
  |@cons x xs _ _ h1 h2=>
   refine⟨x,xs,rfl,?_⟩
   have gs:zu (Gz F α σ H) (Gz F (α.set i (some (.dat d))) (σ.set i (some x)) H):=zl fun a o h e=>⟨fun z=>h (by
    rcases z with z|⟨j,c,s,e1,e2,f⟩
    ·exact .inl z
    ·rcases zI e1 with ⟨_,z⟩|⟨hj,e1'⟩
     ·cases z;exact f.elim
     ·rw[cy hj] at e2
      exact .inr ⟨j,c,s,e1',e2,f⟩),e⟩
   exact vv (is:=is) (ds:=ds) e (m.set (i:=i) h1) (fun G s=>h2.same (gs.trans s)) k
 |[],_::_,_,_,_,_,_,e,_,_,_=>by cases e
 |_::_,[],_,_,_,_,_,e,_,_,_=>by cases e
theorem pB {K:PySem.W.Frag}{pat:Pat}{d:PyData}{v:V}{R:St→Hp→Prop}(e:pat.bind d α=some α')(m:M F α σ H)(av:AV (Gz F α σ H) v d)(k:∀σ',M F α' σ' H→R σ' H):qi K pat v σ H R:=by
 cases pat with
 |one i=>cases e;exact k _ (m.set av)
 |many is=>
  cases d with
  |tuple ds=>
   obtain⟨a,xs,rfl,h1,h2⟩:=av.tup_inv
   have hl:∀{is:List Nat} {ds:List PyData} {α α':Ev},xO is ds α=some α'→ds.length=is.length:=by
    intro is
    induction is with
    |nil=>intro ds α α' h;cases ds with|nil=>rfl|cons _ _=>cases h
    |cons i is ih=>intro ds α α' h;cases ds with|nil=>cases h|cons d ds=>rw[dJ,dJ,ih h]
   exact⟨a,xs,rfl,SqT.of (zg h1).2,by rw[h2.length];exact hl e,vv e m (fun G s=>h2.same s) k⟩
  |_=>cases e
theorem vW :∀{is:List Nat} {ds:List PyData} {α α':Ev},xO is ds α=some α'→α'.length=α.length
 |[],[],_,_,e=>by cases e;rfl
 |i::is,d::ds,α,α',e=>by
  have:=vW (is:=is) (ds:=ds) e
  rwa [cm] at this
 |[],_::_,_,_,e=>by cases e
 |_::_,[],_,_,e=>by cases e
theorem vP :∀{is:List Nat} {ds:List PyData} {α α':Ev} {j:Nat},xO is ds α=some α'→j∉is→α'[j]?=α[j]?
 |[],[],_,_,_,e,_=>by cases e;rfl
 |i::is,d::ds,α,α',j,e,h=>by
  rw[vP (is:=is) (ds:=ds) e fun z=>h (dA _ z)]
  exact cy fun (z:i=j)=>h (by rw[←z];exact dE)
 |[],_::_,_,_,_,e,_=>by cases e
 |_::_,[],_,_,_,e,_=>by cases e
theorem vS :∀{is:List Nat} {ds:List PyData} {α α':Ev} {j:Nat} {a:A},xO is ds α=some α'→α'[j]?=some (some a)→(∀d,a≠.dat d)→α[j]?=some (some a)
 |[],[],_,_,_,_,e,h,_=>by cases e;exact h
 |i::is,d::ds,α,α',j,a,e,h,hn=>by
  rcases zI (vS (is:=is) (ds:=ds) e h hn) with ⟨_,z⟩|⟨_,z⟩
  ·cases z;exact absurd rfl (hn d)
  ·exact z
 |[],_::_,_,_,_,_,e,_,_=>by cases e
 |_::_,[],_,_,_,_,e,_,_=>by cases e
theorem Pat.is_ok {pat:Pat}{d:PyData}(e:pat.bind d α=some α'):∃is ds,pat.slots=is∧xO is ds α=some α':=by
 cases pat with
 |one i=>cases e;exact⟨_,[d],rfl,rfl⟩
 |many is=>
  cases d with
  |tuple ds=>exact⟨_,ds,rfl,e⟩
  |_=>cases e
theorem Pat.back {pat:Pat}{d:PyData}(e:pat.bind d α=some α')(fr:pat.free α=true)(m:M F α' σ H):M F α σ H:=by
 obtain⟨is,ds,rfl,e⟩:=Pat.is_ok e
 refine m.forget (vW e).symm fun j a h=>?_
 by_cases hj:j∈pat.slots
 ·have:=cB.mp fr j hj
  unfold isFree at this
  rw[h] at this
  cases this
 ·rw[vP e hj];exact h
end
section
variable {X:Cx}{α:Ev}
def lH (X:Cx)(α:Ev)(ifs:List Expr)(Q:Bool→Prop):Prop:=∀(F:Fr) (σ:St) (H:Hp) (R:Bool→Hp→Prop),M F α σ H→(∀b H',Q b→zB F H'→Kz F H H'→R b H')→∃t,xR X ifs t∧t σ H R
def jM (X:Cx)(ifs:List Expr):TT:=fun σ H R=>∃t,xR X ifs t∧t σ H R
theorem qZ {ifs:List Expr}:xR X ifs (jM X ifs):=fun pins s σ H Q I ⟨t,p,q⟩=>p pins s σ H Q I q
theorem nT {Q:Bool→Prop}(q:Q true):lH X α [] Q:=fun F σ H R m k=>⟨_,kg,k _ H q m.tp Kz.refl⟩
theorem hV {c:Expr}{Q:Bool→Prop}(h:EvT X α c Q):lH X α [c] Q:=fun F σ H R m k=>⟨_,jA xj,h F σ H R m k⟩
def seen :Option A→Option A
 |some (.dat d)=>some (.dat d)
 |some .tape=>some .tape
 |_=>none
def yv (imp:List (Option Nat))(α:Ev):Ev:=imp.map fun o=>o.bind fun j=>(α[j]?).bind seen
theorem sW {imp:List (Option Nat)}{i:Nat}{a:A}(h:(yv imp α)[i]?=some (some a)):∃j,imp[i]?=some (some j)∧α[j]?=some (some a)∧((∃d,a=.dat d)∨a=.tape):=by
 unfold yv at h
 rw[cc,dW] at h
 obtain⟨o,h1,h2⟩:=h
 cases o with
 |none=>cases h2
 |some j=>
  have h2':(α[j]?).bind seen=some a:=h2
  cases q:α[j]? with
  |none=>rw[q] at h2';cases h2'
  |some b=>
   rw[q] at h2'
   cases b with
   |none=>cases h2'
   |some b=>
    cases b with
    |dat d=>cases h2';exact⟨j,h1,q,.inl ⟨d,rfl⟩⟩
    |tape=>cases h2';exact⟨j,h1,q,.inr rfl⟩
    |_=>cases h2'
theorem rD {imp:List (Option Nat)}{σ:St}{i j:Nat}{v:V}(h1:imp[i]?=some (some j))(h2:σ[j]?=some (some v)):(xp imp σ)[i]?=some (some v):=by
 unfold xp
 rw[cc,h1]
 show some ((σ[j]?).bind id)=_
 rw[h2];rfl
def yY (Y:Addr→Shared→Hp→List Addr→Cx)(pat:Pat)(ifs:List Expr)(elt:Expr)(α0:Ev):List PyData→List PyData→(List PyData→Prop)→Prop
 |[],acc,Q=>Q acc
 |d::ds,acc,Q=>∃α1,pat.bind d α0=some α1∧∀C s2 H2 fp,lH (Y C s2 H2 fp) α1 ifs fun k=>if k=true then ∀C s2 H2 fp,EvD (Y C s2 H2 fp) α1 elt fun y=>yY Y pat ifs elt α0 ds (acc++[y]) Q else yY Y pat ifs elt α0 ds acc Q
def eC (Y:Addr→Shared→Hp→List Addr→Cx)(e:Expr):TE:=fun σ H Q=>∀C s2 H2 fp,vw (Y C s2 H2 fp) e σ H Q
def tsC (Y:Addr→Shared→Hp→List Addr→Cx)(ifs:List Expr):TT:=fun σ H Q=>∀C s2 H2 fp,jM (Y C s2 H2 fp) ifs σ H Q
theorem qM {N:List Str}{imp:List (Option Nat)}{scope:Scope}{tg iter elt:Expr}{ifs:List Expr}{pat:Pat}{Q:List PyData→Prop}(hfree:pat.free (yv imp α)=true)
  (h:EvI X α tg iter fun ds=>ds.length≤1000∧yY (fun C s2 H2 fp=>X.comp N scope C s2 H2 fp) pat ifs elt (yv imp α) ds [] Q)
  (F:Fr) (σ:St) (H:Hp) (R:VK) (m:M F α σ H) (k:∀ds v H',Q ds→zB F H'→Kz F H H'→yE F α σ H v H' ds→R v H'):
  ∃Y:Addr→Shared→Hp→List Addr→Cx,Y=(fun C s2 H2 fp=>X.comp N scope C s2 H2 fp)∧nZ (ju X tg iter) imp (qi X.K pat) (tsC Y ifs) (eC Y elt) σ H R:=by
 refine⟨_,rfl,?_⟩
 refine h F σ H _ m fun ds J H1 ⟨hl,q1⟩ t1 k1 itw acc hacc=>?_
 have m1:=m.kz k1 t1
 have nacc:¬Ow F α σ acc:=m1.fresh hacc
 let Fc:Fr:=⟨H1,fun x=>Ow F α σ x∨x=acc,F.tp⟩
 let Nd:Ev→Prop:=fun α1=>∀(j:Nat) a,α1[j]?=some (some a)→(∃d,a=.dat d)∨a=.tape
 have no0:Nd (yv imp α):=fun j a z=>by
  obtain⟨_,_,_,n⟩:=sW z
  exact n
 have owc:∀{α1:Ev} {τ:St} {x:Addr},Nd α1→(Ow Fc α1 τ x↔Fc.O0 x):=fun {α1 τ x} hh=>⟨fun z=>z.elim id fun⟨j,a,s,e1,e2,f⟩=>by
  rcases hh j a e1 with ⟨d,rfl⟩|rfl
  ·exact f.elim
  ·exact f.elim,.inl⟩
 have gz:∀{α1 α2:Ev} {τ1 τ2:St} {H:Hp},Nd α1→Nd α2→zu (Gz Fc α1 τ1 H) (Gz Fc α2 τ2 H):=fun h1 h2=>zl fun a o h e=>⟨fun z=>h ((owc h1).mpr ((owc h2).mp z)),e⟩
 have tpc:∀{H2:Hp},zB F H2→zB Fc H2:=fun t=>t.to rfl fun x z=>.inl (.inl z)
 have s01:zu H1 (upd H1 acc (.lst [])):=zV hacc
 have mc0:M Fc (yv imp α) (xp imp σ) (upd H1 acc (.lst [])):=by
  have g1:zu (Gz F α σ H1) (Gz Fc (yv imp α) (xp imp σ) (upd H1 acc (.lst []))):=fun a o e=>by
   obtain⟨z1,z2⟩:=zg e
   have na:a≠acc:=zq z2 hacc
   exact yr (fun z=>((owc no0).mp z).elim z1 na) (by rw[zk na];exact z2)
  refine⟨by unfold yv xp;rw[dB,dB],fun i a s e1 e2=>?_,fun i j a b s t x e1 e2 _ _ f=>?_,fun i r q e=>(by rcases no0 i _ e with ⟨d,w⟩|w<;>cases w),tpc (t1.same s01),fun x o e _=>s01 x o e,?_⟩
  ·obtain⟨j,w1,w2,w3⟩:=sW e1
   rcases w3 with ⟨d,rfl⟩|rfl
   ·obtain⟨v,g2,g3⟩:=m1.dat j d w2
    rw[rD w1 g2] at e2;cases e2
    exact⟨v,rfl,g3.same g1⟩
   ·obtain⟨t,b,c,g2,g3⟩:=m1.tvar j w2
    rw[rD w1 g3] at e2;cases e2
    exact⟨t,b,c,g2,rfl⟩
  ·rcases no0 i a e1 with ⟨d,rfl⟩|rfl
   ·exact f.elim
   ·exact f.elim
  ·rintro x (z|z)
   ·have:∃o,H1 x=some o∧wq o:=m1.owEx z
    obtain⟨o,ho,hn⟩:=this
    exact⟨o,s01 _ _ ho,hn⟩
   ·exact⟨_,by rw[z];exact zr,xu⟩
 refine⟨fun i n ys τ H2=>n=ds.length-i∧i≤ds.length∧∃ad:List PyData,M Fc (yv imp α) τ H2∧H2 acc=some (.lst ys)∧AVs (Gz Fc (yv imp α) τ H2) ys ad∧ad.length≤i∧yY (fun C s2 H2 fp=>X.comp N scope C s2 H2 fp) pat ifs elt (yv imp α) (ds.drop i) ad Q,
  ⟨ds.length,by simp,dQ _,[],mc0,zr,.nil,dC _,q1⟩,?_⟩
 rintro i n ys τ H2 ⟨rfl,hi,ad,m2,ha,av,had,cw⟩
 have sG:zu (Gz F α σ H1) (Gz Fc (yv imp α) τ H2):=fun a o e=>by
  obtain⟨z1,z2⟩:=zg e
  exact m2.old a o (yr (p:=fun x=>¬Fc.O0 x) (fun z=>z.elim z1 (zq z2 hacc)) z2)
 obtain⟨w1,w2⟩:=itw i H2 _ sG
 by_cases hlt:i<ds.length
 ·have hd:ds[i]?=some ds[i]:=dX hlt
  have hdr:ds.drop i=ds[i]::ds.drop (i+1):=cL hlt
  rw[hdr] at cw
  obtain⟨α1,eb,body⟩:=cw
  obtain⟨go,yl⟩:=w1 _ hd
  have no1:Nd α1:=fun j a z=>by
   obtain⟨is,ds',_,e⟩:=Pat.is_ok eb
   by_cases hn:∀d,a≠.dat d
   ·exact no0 j a (vS e z hn)
   ·simp only[Classical.not_forall,Classical.not_not] at hn
    exact .inl hn
  refine .inr ⟨go,fun ys' τ' H'=>∃ad:List PyData,M Fc (yv imp α) τ' H'∧H' acc=some (.lst ys')∧AVs (Gz Fc (yv imp α) τ' H') ys' ad∧ad.length≤i+1∧yY (fun C s2 H2 fp=>X.comp N scope C s2 H2 fp) pat ifs elt (yv imp α) (ds.drop (i+1)) ad Q,
   fun ys' τ' H' ⟨ad',r1,r2,r3,r4,r5⟩=>⟨ds.length-(i+1),by omega,rfl,hlt,ad',r1,r2,r3,r4,r5⟩,fun x H3 y=>?_⟩
  obtain⟨s23,avx⟩:=yl x H3 y
  have m3:M Fc (yv imp α) τ H3:=m2.kz (Kz.of_same s23) (m2.tp.same s23)
  have avx':=avx fun a o _ e=>m2.fresh e
  refine pB eb m3 avx' fun τ1 m4 C s2 H2' fp=>?_
  refine body C s2 H2' fp Fc τ1 H3 _ m4 fun b H5 qb t5 k5=>?_
  have m5:=m4.kz k5 t5
  have av5:AVs (Gz Fc (yv imp α) τ1 H5) ys ad:=av.same ((Kz.of_same s23).gz m2.tp |>.trans ((gz (τ2:=τ1) no0 no1).trans ((k5.gz m4.tp).trans (gz no1 no0))))
  have accN:NT Fc acc:=⟨fun t b c e=>by
   have:=(t1 t b c e).1.free hacc
   exact⟨this.1,this.2.1⟩,vh t1.tab hacc⟩
  have ha5:H5 acc=some (.lst ys):=k5 _ _ (s23 _ _ ha) accN
  cases b with
  |false=>
   have qb':yY (fun C s2 H2 fp=>X.comp N scope C s2 H2 fp) pat ifs elt (yv imp α) (ds.drop (i+1)) ad Q:=by simpa using qb
   exact ve ⟨ad,Pat.back eb hfree m5,ha5,av5,by omega,qb'⟩
  |true=>
   refine wy fun C s2 H2'' fp=>?_
   have qe:EvD (X.comp N scope C s2 H2'' fp) α1 elt fun y=>yY (fun C s2 H2 fp=>X.comp N scope C s2 H2 fp) pat ifs elt (yv imp α) (ds.drop (i+1)) (ad++[y]) Q:=by
    have z:=qb
    rw[if_pos rfl] at z
    exact z C s2 H2'' fp
   refine qe Fc τ1 H5 _ m5 fun y v H6 qy t6 k6 r6=>?_
   have m6:=m5.kz k6 t6
   have ha6:H6 acc=some (.lst ys):=k6 _ _ ha5 accN
   have hlen:ys.length≤i:=by rw[av.length];exact had
   have oacc:Fc.O0 acc:=.inr rfl
   have tacc:∀t b c,Fc.tp=some (t,b,c)→acc≠t∧acc≠b∧acc≠c:=fun t b c e=>(t1 t b c e).1.free hacc
   have m7:=(Pat.back eb hfree m6).wr (o:=.lst (ys++[v])) xu oacc tacc hacc (uM ha6) (fun i r q z=>by rcases no0 i _ z with ⟨d,w⟩|w<;>cases w)
   refine⟨ha6,yB (by omega),ad++[y],m7,zr,?_,by simp;omega,qy⟩
   have g67:zu (Gz Fc (yv imp α) τ1 H6) (Gz Fc (yv imp α) τ1 (upd H6 acc (.lst (ys++[v])))):=zl fun a o h e=>⟨h,by rw[zk (fun z=>h (.inl (by rw[z];exact oacc)))];exact e⟩
   exact ((av5.same ((gz (τ2:=τ1) no0 no1).trans ((k6.gz m5.tp).trans (gz no1 no0)))).append (.cons (r6.same (gz no1 no0)) .nil)).same g67
 ·have e:i=ds.length:=by omega
  subst e
  rw[bq] at cw
  refine .inl ⟨w2 (dC _),k ad _ H2 cw ?_ (k1.trans m2.keep) (yE.back m k1 t1 ⟨acc,ys,rfl,hacc,ha,av.same (zl fun a o h e=>⟨⟨fun z=>h (.inl (.inl z)),fun z=>h (.inl (.inr z))⟩,e⟩)⟩)⟩
  exact m.tp.re m2.tp rfl
theorem gZ {N:List Str}{imp:List (Option Nat)}{scope:Scope}{tg iter elt:Expr}{ifs:List Expr}{pat:Pat}{Q:List PyData→Prop}{pos:Pos}(hc:X.calm=true)(S:zO X.N X.env.scope N imp scope)(hfree:pat.free (yv imp α)=true)
  (hg:∀C s2 H2 fp,PG (X.comp N scope C s2 H2 fp) tg (qi X.K pat))
  (h:EvI X α tg iter fun ds=>ds.length≤1000∧yY (fun C s2 H2 fp=>X.comp N scope C s2 H2 fp) pat ifs elt (yv imp α) ds [] Q) (hs:∀x,foldedSetIterable iter X.env x=pure x:=by intro _;rfl):
  EvL X α (.ListComp elt [⟨tg,iter,ifs,0⟩] scope pos) Q:=fun F σ H R m k=>by
 obtain⟨Y,rfl,h⟩:=qM hfree h F σ H R m k
 exact⟨_,fJ hc S tV hg (fun C s2 H2 fp pins s σ H Q I h=>qZ pins s σ H Q I (h C s2 H2 fp)) (fun C s2 H2 fp pins s σ H Q I h=>zb pins s σ H Q I (h C s2 H2 fp)) hs,h⟩
section
variable {E:ye}{rest body:List Stmt}{e c tg iter:Expr}{pos p:Pos}
theorem tT.then {F:Fr}{D:Ends}(h:tT F E D):tT F {E with nx:=fun α'=>SvS X α' rest E} {D with nx:=mL X rest D}:=
 ⟨fun α' σ' H' m q=>q F σ' H' D m h,h.rt,h.bk,h.ct⟩
theorem yg (q:E.nx α):SvS X α [] E:=fun F σ H D m h=>⟨_,we,h.nx _ _ _ m q⟩
theorem SvS.imp {sts:List Stmt}{E':ye}(h:SvS X α sts E')(hn:∀α,E'.nx α→E.nx α)(hr:∀a,E'.rt a→E.rt a)(hb:∀α,E'.bk α→E.bk α)(hc:∀α,E'.ct α→E.ct α):SvS X α sts E:=fun F σ H D m r=>
 h F σ H D m ⟨fun α σ H m q=>r.nx α σ H m (hn _ q),fun a v H m q=>r.rt a v H m (hr _ q),fun α σ H m q=>r.bk α σ H m (hb _ q),fun α σ H m q=>r.ct α σ H m (hc _ q)⟩
theorem zN (i:Nat){x:Str}{pos':Pos}(hN:X.N.Nodup)(h:EvD X α e fun d=>SvS X (α.set i (some (.dat d))) rest E)(hi:X.N[i]?=some x:=by rfl)(hx:Loc X.env.scope x:=by first|exact Or.inl rfl|exact Or.inr rfl)
  (hs:swapsWith e (some (.Name x pos')) pos.line X.env=pure false:=by rfl) (hf:X.fn x=true∨X.env.scope.names.lookup x=some .local:=by first|exact .inl rfl|exact .inr rfl|assumption):SvS X α (.Assign [.Name x pos'] e pos::rest) E:=fun F σ H D m r=>by
 refine⟨_,zC (sD hN hi hx zb hs hf) zM,?_⟩
 exact h F σ H _ m fun d v H1 q1 t1 k1 r1=>q1 F _ H1 D ((m.kz k1 t1).set r1) r
theorem sq (i:Nat){x:Str}{pos':Pos}(hN:X.N.Nodup)(h:EvL X α e fun ds=>SvS X (α.set i (some (.own ds))) rest E)(hi:X.N[i]?=some x:=by rfl)(hx:Loc X.env.scope x:=by first|exact Or.inl rfl|exact Or.inr rfl)
  (hs:swapsWith e (some (.Name x pos')) pos.line X.env=pure false:=by rfl) (hf:X.fn x=true∨X.env.scope.names.lookup x=some .local:=by first|exact .inl rfl|exact .inr rfl|assumption):SvS X α (.Assign [.Name x pos'] e pos::rest) E:=fun F σ H D m r=>by
 refine⟨_,zC (sD hN hi hx zb hs hf) zM,?_⟩
 exact h F σ H _ m fun d v H1 q1 t1 k1 r1=>q1 F _ H1 D (m.setOwn t1 k1 r1) r
theorem fG (i:Nat){x:Str}{pos' cpos:Pos}{N:List Str}{imp:List (Option Nat)}{scope:Scope}{elt:Expr}{ifs:List Expr}{pat:Pat}(hN:X.N.Nodup)(hc:X.calm=true)(S:zO X.N X.env.scope N imp scope)(hfree:pat.free (yv imp α)=true)
  (hg:∀C s2 H2 fp,PG (X.comp N scope C s2 H2 fp) tg (qi X.K pat))
  (h:EvI X α tg iter fun ds=>ds.length≤1000∧yY (fun C s2 H2 fp=>X.comp N scope C s2 H2 fp) pat ifs elt (yv imp α) ds [] fun ds=>SvS X (α.set i (some (.own ds))) rest E)
  (hi:X.N[i]?=some x:=by rfl) (hx:Loc X.env.scope x:=by first|exact Or.inl rfl|exact Or.inr rfl) (hsw:swapsWith (.ListComp elt [⟨tg,iter,ifs,0⟩] scope cpos) (some (.Name x pos')) pos.line X.env=pure true:=by rfl)
  (hf:X.fn x=true∨X.env.scope.names.lookup x=some .local:=by first|exact .inl rfl|exact .inr rfl|assumption) (hs:∀x,foldedSetIterable iter X.env x=pure x:=by intro _;rfl):
  SvS X α (.Assign [.Name x pos'] (.ListComp elt [⟨tg,iter,ifs,0⟩] scope cpos) pos::rest) E:=fun F σ H D m r=>by
 obtain⟨Y,rfl,h⟩:=qM hfree h F σ H (fun v H'=>mL X rest D (σ.set i (some v)) H') m fun ds v H' q t k fl=>q F _ H' D (m.setOwn t k fl) r
 exact⟨_,zC (lA hc S tV hg (fun C s2 H2 fp pins s σ H Q I h=>qZ pins s σ H Q I (h C s2 H2 fp)) (fun C s2 H2 fp pins s σ H Q I h=>zb pins s σ H Q I (h C s2 H2 fp)) hN hi hx hsw hf hs) zM,h⟩
theorem xS.dat {F:Fr}{σ:St}{H:Hp}{v:V}{d:PyData}(m:M F α σ H)(r:AV (Gz F α σ H) v d):xS F v H (.dat d):=
 ⟨m.tp,m.keep,r.same (zl fun a o h e=>⟨ow0 h,e⟩)⟩
theorem zR (h:EvD X α e fun d=>E.rt (.dat d)):SvS X α (.Return (some e) pos::rest) E:=fun F σ H D m r=>by
 refine⟨_,zC (zX zb) zM,?_⟩
 exact h F σ H _ m fun d v H1 q1 t1 k1 r1=>r.rt _ _ _ (xS.dat (m.kz k1 t1) r1) q1
theorem pe (h:EvL X α e fun ds=>E.rt (.own ds)):SvS X α (.Return (some e) pos::rest) E:=fun F σ H D m r=>by
 refine⟨_,zC (zX zb) zM,?_⟩
 refine h F σ H _ m fun d v H1 q1 t1 k1 r1=>r.rt _ _ _ ?_ q1
 obtain⟨l,xs,h1,h2,h3,h4⟩:=r1
 exact⟨t1,m.keep.trans k1,l,xs,_,h1,rfl,m.fresh0 h2,ow0 (m.fresh h2),h3,h4.same (zl fun a o h e=>⟨⟨ow0 h.1,h.2⟩,e⟩)⟩
theorem uO {a b:List Stmt}(h:EvT X α c fun k=>SvS X α (if k=true then a else b) {E with nx:=fun α'=>SvS X α' rest E}):SvS X α (.If c a b pos::rest) E:=fun F σ H D m r=>by
 refine⟨_,zC (uJ xj zM zM) zM,?_⟩
 refine h F σ H _ m fun k H1 q1 t1 k1=>?_
 cases k with
 |true=>exact wy ((by simpa using q1:SvS X α a _) F σ H1 _ (m.kz k1 t1) r.then)
 |false=>exact ve ((by simpa using q1:SvS X α b _) F σ H1 _ (m.kz k1 t1) r.then)
theorem jW (i:Nat){ds:List PyData}{sts:List Stmt}(hi:α[i]?=some (some (.own ds)))(h:SvS X (α.set i (some (.dat (.list ds)))) sts E):SvS X α sts E:=fun F σ H D m r=>h F σ H D (m.frz hi) r
theorem M.wrC {F:Fr}{σ:St}{H:Hp}{i:Nat}{c c':PyData}{l:Addr}{o':HO}(m:M F α σ H)(hi:α[i]?=some (some (.ow c)))(hl:σ[i]?=some (some (.ref l)))(av:yI (Gz F α σ H) o' c'):
  M F (α.set i (some (.ow c'))) σ (upd H l o'):=by
 obtain⟨l',o,h1,h2,h3,h4,h5⟩:=m.owc i c hi
 rw[hl] at h1;cases h1
 have hs:∀{j:Nat} {a:A} {s:Option V},(α.set i (some (.ow c')))[j]?=some (some a)→σ[j]?=some s→(i=j∧a=.ow c'∧s=some (.ref l))∨(i≠j∧α[j]?=some (some a)):=fun {j a s} e1 e2=>by
  rcases zI e1 with ⟨rfl,z⟩|⟨hj,e1'⟩
  ·cases z;rw[hl] at e2;cases e2;exact .inl ⟨rfl,rfl,rfl⟩
  ·exact .inr ⟨hj,e1'⟩
 have oww:∀{y:Addr},Ow F (α.set i (some (.ow c'))) σ y→Ow F α σ y:=fun {y} h=>by
  rcases h with z|⟨j,a,s,e1,e2,f⟩
  ·exact .inl z
  ·rcases hs e1 e2 with ⟨rfl,rfl,rfl⟩|⟨hj,e1'⟩
   ·exact .inr ⟨i,_,_,hi,hl,f⟩
   ·exact .inr ⟨j,a,s,e1',e2,f⟩
 have ol:Ow F α σ l:=.inr ⟨i,_,_,hi,hl,rfl⟩
 have gs:zu (Gz F α σ H) (Gz F (α.set i (some (.ow c'))) σ (upd H l o')):=zl fun a o h e=>⟨fun z=>h (oww z),by rw[zk (fun z=>h (by rw[z];exact ol))];exact e⟩
 refine⟨by rw[cm];exact m.len,fun j a s e1 e2=>?_,fun j j' a b s t x e1 e2 q1 q2 f1 f2=>?_,fun j r q e j' a s x e1 e2 f=>?_,m.tp.updO h4 (h3.plain h2),fun y o e n=>?_,fun y hy=>?_⟩
 ·rcases hs e1 e2 with ⟨rfl,rfl,rfl⟩|⟨hj,e1'⟩
  ·exact⟨l,o',rfl,zr,av.same gs,h4,h5⟩
  ·refine (m.ok j a s e1' e2).stay gs (fun y u f e=>?_) rfl fun r q ea k=>⟨k.tp,k.o,k.ok.updO (fun z=>h4 (k.o _ z)) (h3.plain h2),fun y u e n=>?_⟩
   ·obtain⟨w1,w2,_⟩:=m.ft e1' e2 f
    refine⟨?_,w1,w2⟩
    rw[zk fun z=>hj (m.dj i j _ a _ s l hi e1' hl e2 rfl (by rw[←z];exact f))]
    exact e
   ·rw[zk (zq e (m.xd j r q (by rw[←ea];exact e1') i _ _ l hi hl rfl))];exact k.k y u e n
 ·rcases hs e1 q1 with ⟨rfl,rfl,rfl⟩|⟨hj,e1'⟩
  ·rcases hs e2 q2 with ⟨rfl,_⟩|⟨hj',e2'⟩
   ·rfl
   ·exact m.dj i j' _ b _ t x hi e2' hl q2 f1 f2
  ·rcases hs e2 q2 with ⟨rfl,rfl,rfl⟩|⟨hj',e2'⟩
   ·exact m.dj j i a _ s _ x e1' hi q1 hl f1 f2
   ·exact m.dj j j' a b s t x e1' e2' q1 q2 f1 f2
 ·rcases zI e with ⟨_,z⟩|⟨_,e'⟩
  ·cases z
  ·rcases hs e1 e2 with ⟨rfl,rfl,rfl⟩|⟨_,e1'⟩
   ·exact m.xd j r q e' i _ _ x hi hl f
   ·exact m.xd j r q e' j' a s x e1' e2 f
 ·rw[zk (zq e h5)];exact m.keep y o e n
 ·rw[zk (fun z=>h4 (by rw[←z];exact hy))];exact m.oex y hy
theorem M.wrOwn {F:Fr}{σ:St}{H:Hp}{i:Nat}{ds es:List PyData}{l:Addr}{ys:List V}(m:M F α σ H)(hi:α[i]?=some (some (.own ds)))(hl:σ[i]?=some (some (.ref l)))(av:AVs (Gz F α σ H) ys es):
  M F (α.set i (some (.own es))) σ (upd H l (.lst ys)):=m.wrC hi hl (.lst av)
theorem uV (i:Nat){x:Str}{ds:List PyData}{p1 p2 p3:Pos}(hi:α[i]?=some (some (.own ds)))(h:EvD X α e fun d=>ds.length<1000∧SvS X (α.set i (some (.own (ds++[d])))) rest E)
  (hN:X.N[i]?=some x:=by rfl) (hv:Vis X.env.scope x:=by first|exact Or.inl rfl|exact Or.inr (Or.inl rfl)|exact Or.inr (Or.inr rfl)) (hd:(x == ("__debug__":Str))=false:=by decide) (hcd:(x == ("__classdict__":Str))=false:=by decide)
  (hbase:attributeBase (.Name x p1) "append" X.env (eval (.Name x p1) X.env)=eval (.Name x p1) X.env:=by rfl) (hs:starEach [e] X.env=(false,eval e X.env)::starEach [] X.env:=by rfl)
  (hpl:((((backTo p3 (starEach [e] X.env)).all fun x=>!x.fst)&&(backToKw p3 (keywordEach [] X.env)).all fun x=>x.fst.isSome)&&decide (([e].length+([]:List Keyword).length+if ([]:List Keyword).isEmpty=true then 0 else 1)<30))=true:=by rfl)
  (hline:(p2.endLine == p3.line)=true:=by rfl) (hsw:swapsWith (.Call (.Attribute (.Name x p1) "append" p2) [e] [] p3) none pos.line X.env=pure false:=by rfl):SvS X α (.Expr (.Call (.Attribute (.Name x p1) "append" p2) [e] [] p3) pos::rest) E:=fun F σ H D m r=>by
 obtain⟨l,xs,h1,h2,h3,h4,h5⟩:=m.own i ds hi
 refine⟨_,zC (tY (rE bb PySem.F.slot_list_append PySem.F.type_list_append uU (xo hN hv hd hcd) (ze zb zt hs) hbase hpl hline hs) hsw) zM,?_⟩
 refine⟨.ref l,h1,.inl ⟨rfl,_,SqL.of h2⟩,?_⟩
 refine h F σ H _ m fun d v H1 q1 t1 k1 r1=>?_
 have m1:=m.kz k1 t1
 refine⟨l,xs,v,rfl,rfl,k1 _ _ h2 (m.tp.nt h4),by rw[h3.length];exact yB (cD q1.1),?_⟩
 exact q1.2 F σ _ D (m1.wrOwn hi h1 ((h3.same (k1.gz m.tp)).append (.cons r1 .nil))) r
theorem ib (i:Nat){x:Str}{ix:Expr}{ds:List PyData}{p1 p2:Pos}(hi:α[i]?=some (some (.own ds)))(h:EvD X α e fun d=>EvD X α ix fun y=>∃k j,y=.int k∧ixN ds.length k=some j∧SvS X (α.set i (some (.own (ds.set j d)))) rest E)
  (hN:X.N[i]?=some x:=by rfl) (hv:Vis X.env.scope x:=by first|exact Or.inl rfl|exact Or.inr (Or.inl rfl)|exact Or.inr (Or.inr rfl)) (hd:(x == ("__debug__":Str))=false:=by decide) (hcd:(x == ("__classdict__":Str))=false:=by decide)
  (hs:swapsWithSole [.Subscript (.Name x p1) ix p2] e pos.line X.env=pure false:=by rfl) (hw:swappedStores [.Subscript (.Name x p1) ix p2] e X.env=pure none:=by rfl)
  (ha:(assignEach [.Subscript (.Name x p1) ix p2] X.env).map (·.2)=[assign (.Subscript (.Name x p1) ix p2) X.env]:=by rfl) (hps:PG X (.Subscript (.Name x p1) ix p2) (km (mQ i) (vw X ix) pz):=by exact ue (xo rfl (by first|exact Or.inl rfl|exact Or.inr (Or.inl rfl)|exact Or.inr (Or.inr rfl))) zb set_list):
  SvS X α (.Assign [.Subscript (.Name x p1) ix p2] e pos::rest) E:=fun F σ H D m r=>by
 obtain⟨l,xs,h1,h2,h3,h4,h5⟩:=m.own i ds hi
 refine⟨_,zC (vZ zb hps hs hw ha) zM,?_⟩
 refine h F σ H _ m fun d v H1 q1 t1 k1 r1=>?_
 have m1:=m.kz k1 t1
 refine⟨.ref l,h1,?_⟩
 refine q1 F σ H1 _ m1 fun y vy H2 q2 t2 k2 r2=>?_
 have m2:=m1.kz k2 t2
 obtain⟨k,j,rfl,hj,q⟩:=q2
 cases r2.int_inv
 refine⟨l,xs,k,j,rfl,rfl,k2 _ _ (k1 _ _ h2 (m.tp.nt h4)) (m.tp.nt h4),by rw[h3.length];exact hj,?_⟩
 exact q F σ _ D (m2.wrOwn hi h1 (((h3.same (k1.gz m.tp)).same (k2.gz m1.tp)).set (r1.same (k2.gz m1.tp)) j)) r
def vF (X:Cx)(pat:Pat)(body rest:List Stmt)(E:ye):List PyData→Ev→Prop
 |[],α=>SvS X α rest E
 |d::ds,α=>∃α1,pat.bind d α=some α1∧SvS X α1 body {nx:=vF X pat body rest E ds,ct:=vF X pat body rest E ds,bk:=fun α'=>SvS X α' rest E,rt:=E.rt}
theorem nr {pat:Pat}{ds:List PyData}(P:Nat→Ev→Prop)(h0:P 0 α)(hs:∀i d α,ds[i]?=some d→P i α→∃α1,pat.bind d α=some α1∧SvS X α1 body {nx:=P (i+1),ct:=P (i+1),bk:=fun α'=>SvS X α' rest E,rt:=E.rt})
  (hd:∀α,P ds.length α→SvS X α rest E):vF X pat body rest E ds α:=by
 have key:∀n i α,n=ds.length-i→i≤ds.length→P i α→vF X pat body rest E (ds.drop i) α:=by
  intro n
  induction n with
  |zero=>
   intro i α hn hi p
   have e:i=ds.length:=by omega
   subst e
   rw[bq]
   exact hd α p
  |succ n ih=>
   intro i α hn hi p
   have hlt:i<ds.length:=by omega
   rw[cL hlt]
   obtain⟨α1,e,b⟩:=hs i ds[i] α (dX hlt) p
   exact⟨α1,e,b.imp (fun α p=>ih (i+1) α (by omega) hlt p) (fun _ z=>z) (fun _ z=>z) (fun α p=>ih (i+1) α (by omega) hlt p)⟩
 exact key _ 0 α rfl (dQ _) h0
end
end
section
variable {P:Program}{w:World}{K:PySem.W.Frag}{mg:Str→Option Value}{base:Heap}
theorem M.start {F:Fr}{N:List Str}{vs:List V}{as:List A}{H:Hp}(e:F.H0=H)(t:zB F H)(o:∀x,F.O0 x→∃u,H x=some u∧wq u)(rv:zZ F (sub (fun x=>¬F.O0 x) H) vs as):
  M F (as.map some++List.replicate (N.length-as.length) none) (L2.start N vs) H:=by
 have hl:=rv.length
 have g:∀{i:Nat} {a:A},(as.map some++List.replicate (N.length-as.length) none)[i]?=some (some a)→as[i]?=some a:=fun {i a} h=>by
  rcases Nat.lt_or_ge i as.length with z|z
  ·rw[cV (by rw[dB];exact z),cc,dW] at h
   obtain⟨b,h1,h2⟩:=h
   cases h2;exact h1
  ·rw[List.getElem?_append_right (by rw[dB];exact z),cG] at h
   split at h<;>cases h
 have at':∀{vs:List V} {as:List A} {i:Nat} {a:A},zZ F (sub (fun x=>¬F.O0 x) H) vs as→as[i]?=some a→∃v,vs[i]?=some v∧nz F (sub (fun x=>¬F.O0 x) H) v a:=by
  intro vs as i a h
  induction h generalizing i with
  |nil=>intro e;simp at e
  |cons h r ih=>
   intro e
   cases i with
   |zero=>simp at e;subst e;exact⟨_,rfl,h⟩
   |succ i=>obtain⟨v,h1,h2⟩:=ih (by simpa using e);exact⟨v,by simpa using h1,h2⟩
 have gv:∀{i:Nat} {v:V},vs[i]?=some v→(L2.start N vs)[i]?=some (some v):=fun {i v} h=>by
  have hi:i<vs.length:=(dP.mp h).1
  unfold L2.start
  rw[cV (by rw[dB];exact hi),cc,h];rfl
 have no:∀(i:Nat) a,(as.map some++List.replicate (N.length-as.length) none)[i]?=some (some a)→(∃d,a=.dat d)∨a=.tape:=fun i a z=>by
  obtain⟨v,_,h⟩:=at' rv (g z)
  cases a with
  |dat d=>exact .inl ⟨d,rfl⟩
  |tape=>exact .inr rfl
  |_=>exact h.elim
 have gs:zu (sub (fun x=>¬F.O0 x) H) (Gz F (as.map some++List.replicate (N.length-as.length) none) (L2.start N vs) H):=zl fun a o h e=>⟨fun z=>z.elim h fun⟨i,b,s,e1,_,f⟩=>by
  rcases no i b e1 with ⟨d,rfl⟩|rfl
  ·exact f.elim
  ·exact f.elim,e⟩
 refine⟨by unfold L2.start;simp[hl],fun i a s e1 e2=>?_,fun i j a b s t x e1 _ _ _ f=>?_,fun i r q z=>(by rcases no i _ z with ⟨d,w⟩|w<;>cases w),t,fun x o' h _=>by rw[←e];exact h,o⟩
 ·obtain⟨v,h1,h2⟩:=at' rv (g e1)
  rw[gv h1] at e2;cases e2
  rcases no i a e1 with ⟨d,rfl⟩|rfl
  ·exact⟨v,rfl,AV.same gs h2⟩
  ·obtain⟨t',b,c,h3,rfl⟩:=h2
   exact⟨t',b,c,h3,rfl⟩
 ·rcases no i a e1 with ⟨d,rfl⟩|rfl
  ·exact f.elim
  ·exact f.elim
theorem fnA {x qual:Str}{st:Stmt}{f:Addr}{fd:FuncData}{N ps:List Str}{k:Nat}{φ:List A→(A→Prop)→Prop}(G:Fun K x qual st f fd)(S:zi N ps (zc st))(hlen:∀as Q,φ as Q→as.length=ps.length)
  (hbody:∀(cdv:Value) (A':Around) (outer:List Env) (s:Shared) (H:Hp) (E:XK) (as:List A) (Q:A→Prop),yq k (A'.deeper (envOfC qual (zc st) s.heap.objs.size f cdv))→φ as Q→
   SvS (tj CX0 P w K mg base N qual (zc st) f cdv A' outer s H E).nox (as.map some++List.replicate (N.length-as.length) none) (zY st) {nx:=fun _=>Q (.dat .none),rt:=Q}):zK P w K mg base CX0 (k+1) f fd ps (spA φ):=by
 refine G.ok S (fun vs H Q E h=>?_) (fun cdv A' outer s H vs Qc E hr h=>?_)
 ·obtain⟨F,as,Q',_,_,_,rv,hφ,_⟩:=h
  rw[rv.length,hlen as _ hφ]
 ·obtain⟨F,as,Q',e,t,o,rv,hφ,kk⟩:=h
  refine hbody cdv A' outer s H E as Q' hr hφ F _ H _ (M.start e t o rv) ⟨fun α σ H' m q=>?_,fun a v H' r q=>kk a v H' q r,fun _ _ _ _ z=>z.elim,fun _ _ _ _ z=>z.elim⟩
  exact kk _ _ _ q ⟨m.tp,m.keep,.non⟩
end
section
variable {X:Cx}{pins:List (Addr×Obj)}{σ:St}{H:Hp}{s:Shared}{h':Heap}
end
section
variable {X:Cx}{α:Ev}{elts:List Expr}{kk:Nat}{tp p pos:Pos}{a b:Expr}
end
structure Cal (P:Program)(w:World)(K:PySem.W.Frag)(mg:Str→Option Value)(base:Heap)(x:Str)(k:Nat)(φ:List A→(A→Prop)→Prop):Prop where
 ex:∃f fd ps,mg x=some (.ref f)∧PySem.W.keepIn K (.ref f)=true∧Binds K fd ps []∧zK P w K mg base CX0 k f fd ps (spA φ)
section
variable {X:Cx}{α:Ev}{e a b:Expr}{es:List Expr}{pos p:Pos}{Q:PyData→Prop}{k:Nat}{φ:List A→(A→Prop)→Prop}{x:Str}
theorem zv (C:Cal X.prog X.w X.K X.mg X.base x k φ)(hr:yq k X.A)(hg:Gl X x)(h:EvA X α (e::es) fun as=>φ as fun a=>Q a.d)
  (hdb:(x == ("__debug__":Str))=false:=by decide) (he:starEach (e::es) X.env=(false,eval e X.env)::starEach es X.env:=by rfl) (hpl:(backTo pos (starEach es X.env)).any (·.1)=false:=by rfl):EvD X α (.Call (.Name x p) (e::es) [] pos) Q:=by
 obtain⟨f,fd,ps,h1,h2,h3,h4⟩:=C.ex
 exact lU h4 hr hg h1 h2 h3 h hdb he hpl
theorem gk {Q:List PyData→Prop}(C:Cal X.prog X.w X.K X.mg X.base x k φ)(hr:yq k X.A)(hg:Gl X x)(h:EvA X α (e::es) fun as=>φ as fun a=>∃ds,a=.own ds∧Q ds)
  (hdb:(x == ("__debug__":Str))=false:=by decide) (he:starEach (e::es) X.env=(false,eval e X.env)::starEach es X.env:=by rfl) (hpl:(backTo pos (starEach es X.env)).any (·.1)=false:=by rfl):EvL X α (.Call (.Name x p) (e::es) [] pos) Q:=by
 obtain⟨f,fd,ps,h1,h2,h3,h4⟩:=C.ex
 exact kF h4 hr hg h1 h2 h3 h hdb he hpl
end
section
variable {P:Program}{w:World}{K:PySem.W.Frag}{mg:Str→Option Value}{base:Heap}
theorem xQ {x qual:Str}{st:Stmt}{f:Addr}{fd:FuncData}{N ps:List Str}{k:Nat}{φ:List A→(A→Prop)→Prop}(G:Fun K x qual st f fd)(hm:mg x=some (.ref f))(hb:Binds K fd ps [])(S:zi N ps (zc st))(hlen:∀as Q,φ as Q→as.length=ps.length)
  (hbody:∀(cdv:Value) (A':Around) (outer:List Env) (s:Shared) (H:Hp) (E:XK) (as:List A) (Q:A→Prop),yq k (A'.deeper (envOfC qual (zc st) s.heap.objs.size f cdv))→φ as Q→
   SvS (tj CX0 P w K mg base N qual (zc st) f cdv A' outer s H E).nox (as.map some++List.replicate (N.length-as.length) none) (zY st) {nx:=fun _=>Q (.dat .none),rt:=Q}):Cal P w K mg base x (k+1) φ:=
 ⟨f,fd,ps,hm,G.kp,hb,fnA G S hlen hbody⟩
def xD :List A→(A→Prop)→Prop:=fun as Q=>∃n:Int,as=[.tape,.dat (.int n)]∧0<n∧n<big∧∀v,0≤v→v<n→Q (.dat (.int v))
end
section
variable {Y:Addr→Shared→Hp→List Addr→Cx}{pat:Pat}{ifs:List Expr}{elt:Expr}{α0:Ev}
theorem pX {ds acc:List PyData}{Q:List PyData→Prop}(P:Nat→List PyData→Prop)(h0:P 0 acc)
  (hs:∀i d acc,ds[i]?=some d→P i acc→∃α1,pat.bind d α0=some α1∧∀C s2 H2 fp,lH (Y C s2 H2 fp) α1 ifs fun k=>if k=true then ∀C s2 H2 fp,EvD (Y C s2 H2 fp) α1 elt fun y=>P (i+1) (acc++[y]) else P (i+1) acc)
  (hd:∀acc,P ds.length acc→Q acc):yY Y pat ifs elt α0 ds acc Q:=by
 have key:∀n i acc,n=ds.length-i→i≤ds.length→P i acc→yY Y pat ifs elt α0 (ds.drop i) acc Q:=by
  intro n
  induction n with
  |zero=>
   intro i acc hn hi p
   have e:i=ds.length:=by omega
   subst e
   rw[bq]
   exact hd acc p
  |succ n ih=>
   intro i acc hn hi p
   have hlt:i<ds.length:=by omega
   rw[cL hlt]
   obtain⟨α1,e,b⟩:=hs i ds[i] acc (dX hlt) p
   refine⟨α1,e,fun C s2 H2 fp F σ H R m kk=>b C s2 H2 fp F σ H R m fun k H' q=>kk k H' ?_⟩
   cases k with
   |true=>
    rw[if_pos rfl] at q ⊢
    exact fun C s2 H2 fp=>(q C s2 H2 fp).imp fun y p=>ih (i+1) _ (by omega) hlt p
   |false=>
    rw[if_neg (by decide)] at q ⊢
    exact ih (i+1) _ (by omega) hlt q
 exact key _ 0 acc rfl (dQ _) h0
end
theorem vA {ds:List PyData}{v:Int}(h0:0≤v)(h1:v<ds.length):∃d,d∈ds∧atI ds v=some d:=by
 obtain⟨j,rfl⟩:=bf h0
 have hj:j<ds.length:=by omega
 exact⟨ds[j],List.getElem_mem hj,ym (dX hj)⟩
theorem qp (st:Stmt)(env:Env):execs [st] env=exec st env:=by
 rw[PySem.execs_cons]
 have:(fun f:Flow=>(match f with|.next=>execs [] env|f=>pure f:Sem Flow))=pure:=by
  funext f
  cases f<;>rfl
 exact (congrArg (fun g=>exec st env >>= g) this).trans (bind_pure _)
section
variable {X:Cx}{α:Ev}{e a b c:Expr}{es rest:List Expr}{pos p:Pos}{Q:PyData→Prop}{E:ye}{st:Stmt}{sts sts':List Stmt}
theorem nS (P:Ev→Prop)(h1:SvS X α [st] {E with nx:=P})(h2:∀α',P α'→SvS X α' sts E):SvS X α (st::sts) E:=fun F σ H D m r=>by
 refine xk (fun σ' H'=>∃α',M F α' σ' H'∧P α') ?_ ?_
 ·obtain⟨t,p,q⟩:=h1 F σ H {D with nx:=fun σ' H'=>∃α',M F α' σ' H'∧P α'} m ⟨fun α' σ' H' m' z=>⟨α',m',z⟩,r.rt,r.bk,r.ct⟩
  exact⟨t,fun pins s σ H D I h=>(by
   have:=p pins s σ H D I h
   rw[qp] at this
   exact this),q⟩
 ·rintro σ' H' ⟨α',m',z⟩
  exact h2 α' z F σ' H' D m' r
theorem nh {c:Prop}[Decidable c]{a b:List Stmt}(h1:c→SvS X α a E)(h2:¬c→SvS X α b E):SvS X α (if decide c=true then a else b) E:=by
 by_cases h:c
 ·rw[di h];exact h1 h
 ·rw[dh h];exact h2 h
theorem yb {k:Bool}{a b:List Stmt}(h1:k=true→SvS X α a E)(h2:k=false→SvS X α b E):SvS X α (if k=true then a else b) E:=by
 cases k with
 |true=>exact h1 rfl
 |false=>exact h2 rfl
theorem tX {i j:Int}:Cmp rEq (.int i) (.int j) (decide (i=j)):=fun p H vx vy R rx ry h=>by
 cases rx.int_inv;cases ry.int_inv
 refine⟨rfl,?_⟩
 rw[show decide (V.int i=V.int j)=decide (i=j) by simp]
 exact h
theorem ko {i j:Int}:Cmp rNe (.int i) (.int j) (!decide (i=j)):=fun p H vx vy R rx ry h=>by
 cases rx.int_inv;cases ry.int_inv
 refine⟨rfl,?_⟩
 rw[show decide (V.int i=V.int j)=decide (i=j) by simp]
 exact h
theorem qI {i j:Str}:Cmp rEq (.str i) (.str j) (decide (i=j)):=fun p H vx vy R rx ry h=>by
 cases rx.str_inv;cases ry.str_inv
 refine⟨rfl,?_⟩
 rw[show decide (V.str i=V.str j)=decide (i=j) by simp]
 exact h
theorem rX {op:CmpOp}{r:R2}(ho:OpR X (compareOp op) r)(hm:behindInMarks op b=false)(h:EvD X α a fun x=>EvD X α b fun y=>∃k,Cmp r x y k∧Q (.bool k)):EvD X α (.Compare a [op] [b] pos) Q:=fun F σ H R m k=>by
 refine⟨_,yT ho zb zb hm,?_⟩
 refine h F σ H _ m fun x vx H1 q1 t1 k1 r1=>?_
 have m1:=m.kz k1 t1
 refine q1 F σ H1 _ m1 fun y vy H2 q2 t2 k2 r2=>?_
 obtain⟨b,hc,q⟩:=q2
 exact hc _ H2 vx vy _ (r1.same (k2.gz m1.tp)) r2 (k _ _ H2 q t2 (k1.trans k2) (.bl b))
theorem iO {Q:Bool→Prop}(h:EvD X α a fun x=>EvD X α b fun y=>∃i j,x=.int i∧y=.int j∧Q (decide (i=j))):EvT X α (.Compare a [.Eq] [b] pos) Q:=
 yK uY (zA _) (h.imp fun x h=>h.imp fun y ⟨i,j,e1,e2,q⟩=>⟨_,by subst e1 e2;exact tX,q⟩)
theorem il (h:EvD X α a fun x=>EvD X α b fun y=>∃i j,x=.int i∧y=.int j∧Q (.bool (decide (i=j)))):EvD X α (.Compare a [.Eq] [b] pos) Q:=
 rX uY (zA _) (h.imp fun x h=>h.imp fun y ⟨i,j,e1,e2,q⟩=>⟨_,by subst e1 e2;exact tX,q⟩)
theorem mW {Q:Bool→Prop}(h:EvD X α a fun x=>EvD X α b fun y=>∃i j,x=.str i∧y=.str j∧Q (decide (i=j))):EvT X α (.Compare a [.Eq] [b] pos) Q:=
 yK uY (zA _) (h.imp fun x h=>h.imp fun y ⟨i,j,e1,e2,q⟩=>⟨_,by subst e1 e2;exact qI,q⟩)
end
structure NbT (mg:Str→Option Value):Prop where
 abs:mg "abs"=none
 list:mg "list"=none
 len:mg "len"=none
 range:mg "range"=none
 min:mg "min"=none
 max:mg "max"=none
 sorted:mg "sorted"=none
 isinstance:mg "isinstance"=none
 int:mg "int"=none
 bool:mg "bool"=none
 str:mg "str"=none
 tuple:mg "tuple"=none
 all:mg "all"=none
 any:mg "any"=none
 repr:mg "repr"=none
 zip:mg "zip"=none
 enumerate:mg "enumerate"=none
 reversed:mg "reversed"=none
 sum:mg "sum"=none
end L2
namespace SortA
open PySem PySem.W PyProof.Rows
abbrev g (p:Array Nat)(i:Nat):Nat:=p.getD i 0
variable {lt:Nat→Nat→Bool}
end SortA
namespace SortA
open PySem PySem.W PyProof.Rows
end SortA
namespace L2
open PySem PySem.Spec PySem.Calls PySem.W PyProof.Rows SortA
section
variable {prog:Program}{w:World}{A:Around}{E:Value→Shared→Prop}{s:Shared}
end
section
variable {X:Cx}{pins:List (Addr×Obj)}{σ:St}{H H':Hp}{s:Shared}
end
end L2
namespace Days
end Days
namespace L2
open PySem PySem.Spec PyProof.Rows Days
section
variable {X:Cx}{α:Ev}{e a b c tg:Expr}{pos p:Pos}{Q:PyData→Prop}{E:ye}{sts:List Stmt}
end
section
variable {X:Cx}{α:Ev}{tg:Expr}{pos p:Pos}{E:ye}{sts body:List Stmt}
end
def isNone :PyData→Bool
 |.none=>true
 |_=>false
theorem DV.non_iff {H:Hp}{x:V}{d:PyData}(h:DV H x d):decide (x=.non)=isNone d:=by
 cases h<;>simp[isNone]
abbrev eqS (d:PyData)(s:Str):Bool:=PyData.eqv d (.str s)
abbrev wK :PyData→Bool:=zE 0 1000000000000
def wm :PyData→Bool
 |.tuple [.int m,f]=>zE 2 14 (.int m)&&zE 1 (m-1) f
 |_=>false
def zw (w v:PyData):Bool:=
 if eqS w "price"=true then isNone v||wK v
 else if (eqS w "come"||eqS w "go")=true then isBool v
 else if (eqS w "least"||eqS w "most")=true then zE 1 14 v
 else if eqS w "deal"=true then isNone v||wm v
 else eqS w "fee"&&wK v
def xG :PyData→Bool
 |.tuple [w,a,b,v]=>zU (.tuple [a,b])&&zw w v
 |_=>false
abbrev words :List Str:=["price","come","go","least","most","deal","fee"]
theorem qk {x:Str}(h:(PyData.str x).canLay0=true):SeqAt.shaped (.str x)=true:=by
 unfold SeqAt.shaped
 rw[h]
 rfl
def pw :Sp:=fun vs H Q _=>∃x y dw dv,vs=[x,y]∧DV H x dw∧SeqAt.shaped dw=true∧DV H y dv∧Q (.bl (zw dw dv)) H
def lu :Sp:=fun vs H Q _=>∃x d,vs=[x]∧DV H x d∧SeqAt.shaped d=true∧∀H',zu H H'→Q (.bl (xG d)) H'
theorem tK {ds:List PyData}(h:SeqAt.shaped (.tuple ds)=true):∀d∈ds,SeqAt.shaped d=true:=by
 unfold SeqAt.shaped at h
 rw[dG,dI] at h
 obtain⟨h1,h2⟩:=h
 simp only[PyData.canLay0] at h1
 simp only[PyData.depth] at h2
 have key:∀(ds:List PyData),PyData.canLayAll0 ds=true→PyData.depthAll ds+1≤64→∀d∈ds,SeqAt.shaped d=true:=by
  intro ds
  induction ds with
  |nil=>intro _ _ d hd;simp at hd
  |cons e r ih=>
   intro a b d hd
   simp only[PyData.canLayAll0,dG] at a
   simp only[PyData.depthAll] at b
   rcases dm.mp hd with z|z
   ·subst z
    unfold SeqAt.shaped
    rw[a.1,cA,dI]
    omega
   ·exact ih a.2 (by omega) d z
 exact key ds h1 (by omega)
structure Cs where
 price:Addr
 come:Addr
 go:Addr
 least:Addr
 most:Addr
 deal:Addr
 fee:Addr
theorem xC {d:PyData}{s:Str}(h:eqS d s=true):d=.str s:=by
 cases d with
 |str x=>
  have h':(x == s)=true:=h
  rw[eq_of_beq h']
 |_=>simp[PyData.eqv] at h
theorem rk {w v:PyData}(h:zw w v=true):∃s∈words,w=.str s:=by
 unfold zw at h
 split at h
 ·rename_i e;exact⟨"price",by simp[words],xC e⟩
 ·split at h
  ·rename_i e
   rcases (cP _ _).mp e with e|e
   ·exact⟨"come",by simp[words],xC e⟩
   ·exact⟨"go",by simp[words],xC e⟩
  ·split at h
   ·rename_i e
    rcases (cP _ _).mp e with e|e
    ·exact⟨"least",by simp[words],xC e⟩
    ·exact⟨"most",by simp[words],xC e⟩
   ·split at h
    ·rename_i e;exact⟨"deal",by simp[words],xC e⟩
    ·rw[dG] at h;exact⟨"fee",by simp[words],xC h.1⟩
theorem rC {d:PyData}(h:xG d=true):∃(s:Str) (a b v:PyData),s∈words∧d=.tuple [.str s,a,b,v]:=by
 unfold xG at h
 split at h
 ·rename_i w a b v
  rw[dG] at h
  obtain⟨s,hs,rfl⟩:=rk h.2
  exact⟨s,a,b,v,hs,rfl⟩
 ·cases h
section
variable {X:Cx}
end
section
variable {X:Cx}{α:Ev}{o e:Expr}{es:List Expr}{pos apos p:Pos}{Q:PyData→Prop}{C:Addr}{f m:Str}
end
section
variable {P:Program}{w:World}{K:PySem.W.Frag}{mg:Str→Option Value}{base:Heap}
end
section
variable {X:Cx}{α:Ev}{e e':Expr}{pos:Pos}{E:ye}{sts:List Stmt}
def xI {α:Type}(l:List α)(x:Int)(y:α):List α:=l.take (if x<0 then (x+(l.length:Int)).toNat else min x.toNat l.length)++y::l.drop (if x<0 then (x+(l.length:Int)).toNat else min x.toNat l.length)
theorem lC {α:Type}(l:List α)(x:Int)(y:α):(xI l x y).length=l.length+1:=by
 unfold xI
 rw[cN,dJ,bp,List.length_drop]
 omega
theorem Vals.ins {xs:List V}{us:List Value}{y:V}{u:Value}(r:Vals xs us)(ry:RelV y u)(i:Int):Vals (xI xs i y) (xI us i u):=by
 unfold xI
 rw[r.length]
 exact (r.take _).append (.cons ry (r.drop _))
theorem AVs.ins {H:Hp}{xs:List V}{ds:List PyData}{y:V}{d:PyData}(r:AVs H xs ds)(ry:AV H y d)(i:Int):AVs H (xI xs i y) (xI ds i d):=by
 unfold xI
 rw[r.length]
 exact (r.take _).append (.cons ry (r.drop _))
theorem kb (l:List Value)(k:Nat)(y:Value):(l.toArray.extract 0 k).push y++l.toArray.extract k=(l.take k++y::l.drop k).toArray:=by
 apply Array.toList_inj.mp
 simp
 exact List.take_of_length_le (by simp)
def kJ :V→List V→Hp→VK→Prop:=fun x vs H Q=>∃l xs i y,x=.ref l∧vs=[.int i,y]∧H l=some (.lst xs)∧-(2 ^ 63)≤i∧i<2 ^ 63∧xs.length<sizeLine∧Q .non (upd H l (.lst (xI xs i y)))
theorem oO :MtM X "list.insert" kJ:=by
 intro pins s σ H x vs v us Q I rx rv h
 obtain⟨l,xs,i,y,rfl,rfl,hH,h1,h2,hz,q⟩:=h
 cases rx
 obtain⟨u,u2,rfl,ru,ru2⟩:=rv.two
 obtain⟨t,rfl⟩:=ru
 obtain⟨z,its,n,r,hl,e⟩:=I.lstM hH
 refine cZ F.slot_list_insert ⟨_,e,rfl⟩ F.entry_list_insert (F.args_list_insert_3 _ _ _)
  (PySem.AutoSeq1.list_insert_list_int_val_1 l its.toArray n i t u2 (by
   have:=fitsIndex_both h1 h2
   simp[this]) (by rw[dn];omega)) ⟨e,?_⟩
 refine⟨.non,_,I.lset (its':=xI its i u2) hH e ?_ (r.ins ru2 i) (by rw[lC];omega),rfl,q⟩
 show (its.toArray.extract 0 (if i<0 then (i+(its.toArray.size:Int)).toNat else min i.toNat its.toArray.size)).push u2++its.toArray.extract (if i<0 then (i+(its.toArray.size:Int)).toNat else min i.toNat its.toArray.size)=(xI its i u2).toArray
 rw[kb,dn]
 rfl
theorem uP (i:Nat){x:Str}{ds:List PyData}{p1 p2 p3:Pos}(hi:α[i]?=some (some (.own ds)))(h:EvD X α e fun k=>EvD X α e' fun d=>∃j,k=.int j∧-(2 ^ 63)≤j∧j<2 ^ 63∧ds.length<1000∧SvS X (α.set i (some (.own (xI ds j d)))) sts E)
  (hN:X.N[i]?=some x:=by rfl) (hv:Vis X.env.scope x:=by first|exact Or.inl rfl|exact Or.inr (Or.inl rfl)|exact Or.inr (Or.inr rfl)) (hd:(x == ("__debug__":Str))=false:=by decide) (hcd:(x == ("__classdict__":Str))=false:=by decide)
  (hbase:attributeBase (.Name x p1) "insert" X.env (eval (.Name x p1) X.env)=eval (.Name x p1) X.env:=by rfl) (hs:starEach [e,e'] X.env=(false,eval e X.env)::starEach [e'] X.env:=by rfl) (hs2:starEach [e'] X.env=(false,eval e' X.env)::starEach [] X.env:=by rfl)
  (hpl:((((backTo p3 (starEach [e,e'] X.env)).all fun x=>!x.fst)&&(backToKw p3 (keywordEach [] X.env)).all fun x=>x.fst.isSome)&&decide (([e,e'].length+([]:List Keyword).length+if ([]:List Keyword).isEmpty=true then 0 else 1)<30))=true:=by rfl)
  (hline:(p2.endLine == p3.line)=true:=by rfl) (hpl2:(backTo p3 (starEach [e'] X.env)).any (·.1)=false:=by rfl) (hsw:swapsWith (.Call (.Attribute (.Name x p1) "insert" p2) [e,e'] [] p3) none pos.line X.env=pure false:=by rfl):SvS X α (.Expr (.Call (.Attribute (.Name x p1) "insert" p2) [e,e'] [] p3) pos::sts) E:=fun F σ H D m r=>by
 obtain⟨l,xs,h1,h2,h3,h4,h5⟩:=m.own i ds hi
 refine⟨_,zC (tY (rE bb PySem.F.slot_list_insert PySem.F.type_list_insert oO (xo hN hv hd hcd) (ze zb (ze zb zt hs2) hs) hbase hpl hline hs hpl2) hsw) zM,?_⟩
 refine⟨.ref l,h1,.inl ⟨rfl,_,SqL.of h2⟩,?_⟩
 refine h F σ H _ m fun k vk H1 q1 t1 k1 r1=>?_
 have m1:=m.kz k1 t1
 refine q1 F σ H1 _ m1 fun d v H2 q2 t2 k2 r2=>?_
 have m2:=m1.kz k2 t2
 obtain⟨j,rfl,b1,b2,hl,q⟩:=q2
 cases r1.int_inv
 refine⟨l,xs,j,v,rfl,rfl,k2 _ _ (k1 _ _ h2 (m.tp.nt h4)) (m.tp.nt h4),b1,b2,by rw[h3.length];exact yB (cD hl),?_⟩
 exact q F σ _ D (m2.wrOwn hi h1 ((((h3.same (k1.gz m.tp)).same (k2.gz m1.tp))).ins r2 j)) r
theorem AVs.eraseIdx {H:Hp}:∀{xs:List V} {ds:List PyData} (i:Nat),AVs H xs ds→AVs H (xs.eraseIdx i) (ds.eraseIdx i)
 |_,_,_,.nil=>.nil
 |_,_,0,.cons _ r=>r
 |_,_,i+1,.cons a r=>.cons a (AVs.eraseIdx i r)
theorem lQ (i:Nat){x:Str}{ds:List PyData}{p1 p2 p3:Pos}(hi:α[i]?=some (some (.own ds)))(h:EvD X α e fun k=>∃j n,k=.int j∧-(2 ^ 63)≤j∧j<2 ^ 63∧seqIndex? j ds.length=some n∧n<ds.length∧SvS X (α.set i (some (.own (ds.eraseIdx n)))) sts E)
  (hN:X.N[i]?=some x:=by rfl) (hv:Vis X.env.scope x:=by first|exact Or.inl rfl|exact Or.inr (Or.inl rfl)|exact Or.inr (Or.inr rfl)) (hd:(x == ("__debug__":Str))=false:=by decide) (hcd:(x == ("__classdict__":Str))=false:=by decide)
  (hbase:attributeBase (.Name x p1) "pop" X.env (eval (.Name x p1) X.env)=eval (.Name x p1) X.env:=by rfl) (hs:starEach [e] X.env=(false,eval e X.env)::starEach [] X.env:=by rfl)
  (hpl:((((backTo p3 (starEach [e] X.env)).all fun x=>!x.fst)&&(backToKw p3 (keywordEach [] X.env)).all fun x=>x.fst.isSome)&&decide (([e].length+([]:List Keyword).length+if ([]:List Keyword).isEmpty=true then 0 else 1)<30))=true:=by rfl)
  (hline:(p2.endLine == p3.line)=true:=by rfl) (hsw:swapsWith (.Call (.Attribute (.Name x p1) "pop" p2) [e] [] p3) none pos.line X.env=pure false:=by rfl):SvS X α (.Expr (.Call (.Attribute (.Name x p1) "pop" p2) [e] [] p3) pos::sts) E:=fun F σ H D m r=>by
 obtain⟨l,xs,h1,h2,h3,h4,h5⟩:=m.own i ds hi
 refine⟨_,zC (tY (rE bb PySem.F.slot_list_pop PySem.F.type_list_pop ly (xo hN hv hd hcd) (ze zb zt hs) hbase hpl hline hs) hsw) zM,?_⟩
 refine⟨.ref l,h1,.inl ⟨rfl,_,SqL.of h2⟩,?_⟩
 refine h F σ H _ m fun k vk H1 q1 t1 k1 r1=>?_
 have m1:=m.kz k1 t1
 obtain⟨j,n,rfl,b1,b2,hn,hlt,q⟩:=q1
 cases r1.int_inv
 have hlt':n<xs.length:=by rw[h3.length];exact hlt
 refine⟨l,xs,j,n,xs[n],rfl,rfl,k1 _ _ h2 (m.tp.nt h4),b1,b2,by rw[h3.length];exact hn,dX hlt',?_⟩
 exact q F σ _ D (m1.wrOwn hi h1 ((h3.same (k1.gz m.tp)).eraseIdx n)) r
end
section
variable {X:Cx}{α:Ev}{tg:Expr}{p pos:Pos}{a:Expr}
end
section
variable {X:Cx}{α:Ev}{p pos:Pos}{a:Expr}{g:Str}{Q:PyData→Prop}
def scV :PyData→Option V
 |.none=>some .non
 |.bool b=>some (.bl b)
 |.int i=>some (.int i)
 |.str x=>some (.str x)
 |_=>Option.none
theorem iD {H:Hp}{d:PyData}{v:V}(h:scV d=some v):AV H v d:=by
 cases d<;>simp[scV] at h<;>subst h<;>constructor
end
section
variable {X:Cx}{α:Ev}{p pos:Pos}{a b:Expr}{g:Str}{Q:PyData→Prop}
def wu :List (PyData×PyData)→Str→Option PyData
 |[],_=>none
 |(.str y,d)::r,x=>if y=x then some d else wu r x
 |_::r,x=>wu r x
theorem kr (h0:Heap){v:V}{d:PyData}{u:Value}(h:scV d=some v)(f:PyProof.V.Flat u d):RelV v u:=by
 have r:=f h0
 cases d with
 |none=>cases h;cases r;rfl
 |bool b=>cases h;cases r;rfl
 |int i=>cases h;cases r;exact⟨_,rfl⟩
 |str x=>cases h;cases r;exact⟨_,rfl⟩
 |_=>cases h
theorem vL (h:EvD X α a fun x=>EvD X α b fun y=>∃i j,x=.str i∧y=.str j∧i.length+j.length≤sizeLine∧Q (.str (i++j))):EvD X α (.BinOp a .Add b pos) Q:=by
 refine vt (f:=tOp _) (yu qB zb zb) (fun _ _ _=>Iff.rfl) (h.imp fun x h=>h.imp fun y ⟨i,j,e1,e2,hl,hq⟩=>?_)
 subst e1 e2
 intro F σ H vx vy R m rx ry k
 cases rx.str_inv;cases ry.str_inv
 exact⟨i,j,rfl,rfl,hl,k _ _ H hq m.tp Kz.refl (.str _)⟩
def wx :PyData→Bool
 |.none=>true
 |.bool _=>true
 |.int _=>true
 |.str _=>true
 |_=>false
theorem tS {H:Hp}{v:V}{d:PyData}(h:AV H v d)(f:wx d=true):wo v=true∧scV d=some v:=by
 cases h<;>first|exact⟨rfl,rfl⟩|cases f
theorem vU {H:Hp}:∀{xs:List V} {ds:List PyData},AVs H xs ds→ds.all wx=true→xs.all wo=true∧ds.map scV=xs.map some
 |_,_,.nil,_=>⟨rfl,rfl⟩
 |_,_,.cons h r,f=>by
  rw[bK,dG] at f
  obtain⟨h1,h2⟩:=tS h f.1
  obtain⟨h3,h4⟩:=vU r f.2
  exact⟨by rw[bK,h1,h3];rfl,by rw[dU,dU,h2,h4]⟩
def inD (x:PyData)(ds:List PyData):Bool:=ds.any fun y=>match scV y,scV x with
 |some u,some v=>eqV u v
 |_,_=>false
theorem sx {v:V}{x:PyData}(hx:scV x=some v):∀{xs:List V} {ds:List PyData},ds.map scV=xs.map some→inV v xs=inD x ds
 |[],[],_=>rfl
 |[],_::_,e=>by cases e
 |_::_,[],e=>by cases e
 |u::xs,d::ds,e=>by
  rw[dU,dU] at e
  injection e with e1 e2
  have ih:=sx hx e2
  unfold inV inD at ih ⊢
  rw[bL,bL,ih,e1,hx]
theorem iQ {neg:Bool}{x:PyData}{ds:List PyData}(fx:wx x=true)(fs:ds.all wx=true):Cmp (rIn X.K neg) x (.list ds) (if neg then !inD x ds else inD x ds):=fun p H vx vy R rx ry h=>by
 obtain⟨ad,xs,rfl,g1,g2⟩:=ry.lst_inv
 obtain⟨f1,s1⟩:=tS rx fx
 obtain⟨f2,s2⟩:=vU g2 fs
 refine⟨ad,xs,rfl,.inl (SqL.of (zg g1).2),f1,f2,?_⟩
 rw[sx s1 s2]
 exact h
theorem sf {neg:Bool}{x:PyData}{ds:List PyData}(fx:wx x=true)(fs:ds.all wx=true):Cmp (rIn X.K neg) x (.tuple ds) (if neg then !inD x ds else inD x ds):=fun p H vx vy R rx ry h=>by
 obtain⟨ad,xs,rfl,g1,g2⟩:=ry.tup_inv
 obtain⟨f1,s1⟩:=tS rx fx
 obtain⟨f2,s2⟩:=vU g2 fs
 refine⟨ad,xs,rfl,.inr (SqT.of (zg g1).2),f1,f2,?_⟩
 rw[sx s1 s2]
 exact h
theorem jK {Q:Bool→Prop}(h:EvD X α a fun x=>EvD X α b fun y=>∃ds,(y=.list ds∨y=.tuple ds)∧wx x=true∧ds.all wx=true∧Q (inD x ds))(hm:behindInMarks .In b=false:=by rfl):EvT X α (.Compare a [.In] [b] pos) Q:=
 yK uR hm (h.imp fun x h=>h.imp fun y ⟨ds,e,f1,f2,q⟩=>⟨inD x ds,by rcases e with rfl|rfl;exact iQ (neg:=false) f1 f2;exact sf (neg:=false) f1 f2,q⟩)
end
section
variable {X:Cx}{α:Ev}{p pos:Pos}{a b:Expr}{Q:PyData→Prop}
end
section
variable {X:Cx}{α:Ev}{a e:Expr}{pos p2 p3 p4:Pos}{n1:Nat}{te:TE}
end
section
variable {X:Cx}{pins:List (Addr×Obj)}{σ:St}{H:Hp}{s:Shared}
end
section
variable {X:Cx}{α:Ev}{p q pos:Pos}{a b:Expr}
theorem rl {G:Hp}:∀ns:List Int,AVs G (ns.map V.int) (ns.map .int)
 |[]=>.nil
 |n::ns=>.cons (.int n) (rl ns)
end
section
variable {X:Cx}{α:Ev}{p pos:Pos}{a b:Expr}{Q:PyData→Prop}
end
open PySem.W SortA
section
variable {P:Program}{w:World}{K:PySem.W.Frag}{mg:Str→Option Value}{base:Heap}
end
section
variable {X:Cx}{α:Ev}{Q:PyData→Prop}{a b:Expr}{pos:Pos}
end
open PySem (IsZip)
section
variable {prog:Program}{w:World}{A:Around}{E:Value→Shared→Prop}{s:Shared}
end
section
variable {X:Cx}{pins:List (Addr×Obj)}{σ:St}{H:Hp}{s:Shared}
end
section
variable {prog:Program}{w:World}{A:Around}{E:Value→Shared→Prop}{s:Shared}
end
section
variable {X:Cx}{pins:List (Addr×Obj)}{σ:St}{H:Hp}{s:Shared}
end
section
variable {X:Cx}{pins:List (Addr×Obj)}{σ:St}{H:Hp}{s:Shared}
variable {a b c:Expr}{p p0 pos pos2:Pos}
end
section
variable {X:Cx}{α:Ev}{a b c:Expr}{p p0 pos pos2:Pos}
end
section
variable {κ:Type}[DecidableEq κ]
def uz (kvs:List (κ×V))(k:κ):Option V:=(kvs.find? fun kv=>decide (kv.1=k)).map (·.2)
theorem uv {p:κ×V}{r:List (κ×V)}{k:κ}(e:p.1=k):uz (p::r) k=some p.2:=by simp[uz,cI,e]
theorem vY {p:κ×V}{r:List (κ×V)}{k:κ}(e:¬p.1=k):uz (p::r) k=uz r k:=by simp[uz,cI,e]
theorem uw.isSome_eq {o:Option V}{u:Option Value}(r:uw o u):o.isSome=u.isSome:=by
 cases o with
 |none=>cases u with
  |none=>rfl
  |some _=>exact (show False from r).elim
 |some _=>cases u with
  |none=>exact (show False from r).elim
  |some _=>rfl
theorem KV.val {kvs:List (κ×V)}{vs:List (κ×Value)}(r:KV kvs vs)(k:κ):uw (uz kvs k) (valueAt vs k):=by
 unfold KV at r
 induction r with
 |nil=>exact True.intro
 |@cons p q ps qs h t ih=>
  obtain⟨h1,h2⟩:=h
  by_cases e:p.1=k
  ·have e':q.1=k:=h1.symm.trans e
   have b:valueAt (q::qs) k=some q.2:=by simp[valueAt,cI,e']
   rw[uv e,b];exact h2
  ·have e':¬q.1=k:=fun z=>e (h1.trans z)
   have b:valueAt (q::qs) k=valueAt qs k:=by simp[valueAt,cI,e']
   rw[vY e,b];exact ih
end
theorem qT {P:Program}{w:World}{k:Key}{u:Value}(r:RelV (kV k) u):(yw P w).is k u=true:=by
 cases k with
 |inl i=>obtain⟨t,e⟩:=(show ∃t,u=Value.int i t from r);subst e;exact rq P w i t
 |inr x=>obtain⟨t,e⟩:=(show ∃t,u=Value.str x t from r);subst e;exact rJ P w x t
theorem uT {P:Program}{w:World}:∀{ks:List Key} {us:List Value},Vals (ks.map kV) us→ItemsAre (yw P w) ks us
 |[],_,r=>by rw[List.map_nil] at r;cases r;exact .nil
 |k::ks,_,r=>by
  rw[dU] at r
  cases r with
  |cons h t=>exact .cons (qT h) (uT t)
abbrev KT (H:Hp):List (List Key×V)→List (List Key×Addr×Value)→Prop:=Paired fun p q=>p.1=q.1∧H q.2.1=some (.tup (p.1.map kV))∧RelV p.2 q.2.2
theorem KT.val {H:Hp}{kvs:List (List Key×V)}{xs:List (List Key×Addr×Value)}(r:KT H kvs xs)(k:List Key):uw (uz kvs k) ((atKey xs k).map (·.2)):=by
 induction r with
 |nil=>exact True.intro
 |@cons p q ps qs h t ih=>
  obtain⟨h1,_,h2⟩:=h
  by_cases e:p.1=k
  ·have e':q.1=k:=h1.symm.trans e
   have b:atKey (q::qs) k=some q.2:=by simp[atKey,cI,e']
   rw[uv e,b];exact h2
  ·have e':¬q.1=k:=fun z=>e (h1.trans z)
   have b:atKey (q::qs) k=atKey qs k:=by simp[atKey,cI,e']
   rw[vY e,b];exact ih
section
variable {P:Program}{w:World}{H:Hp}{h:Heap}{a:Addr}
theorem jP {u:HO}(ok:HOk P w H h)(e:Rd H a u):yc P w H h a u:=e.ok ok
theorem pC {kvs:List (Key×V)}(ok:HOk P w H h)(e:Rd H a (.dK kvs)):kvs.length≤sizeLine∧(a == sysModules)=false∧∃vs,KV kvs vs∧h.DictOf (yw P w) a vs:=
 show yc P w H h a (.dK kvs) from jP ok e
theorem sy {ks:List Key}(ok:HOk P w H h)(e:H a=some (.tup (ks.map kV))):(tupleKind (yw P w)).is h ks a:=by
 obtain⟨_,its,r,o,h1,h2,n,h3⟩:=(show yc P w H h a (.tup (ks.map kV)) from ok a _ e)
 exact⟨o,its.toArray,n,h1,h2,h3,by simpa using uT r⟩
theorem pE {kvs:List (List Key×V)}(ok:HOk P w H h)(e:Rd H a (.dT kvs)):kvs.length≤sizeLine∧(a == sysModules)=false∧
  ∃xs,KT H kvs xs∧h.DictOfH (tupleKind (yw P w)) a xs:=by
 obtain⟨z,y,xs,r,o,es,ep,h1,h2,h3,h4,h5⟩:=(show yc P w H h a (.dT kvs) from jP ok e)
 refine⟨z,y,xs,r,o,es,ep,h1,h2,h3,h4,fun x hx=>?_,h5⟩
 have all:∀{l:List (List Key×V)} {m:List (List Key×Addr×Value)},KT H l m→∀x∈m,(tupleKind (yw P w)).is h x.1 x.2.1:=by
  intro l m q
  induction q with
  |nil=>intro x hx;exact nomatch hx
  |@cons p q ps qs hq t ih=>
   intro x hx
   rcases dm.mp hx with e|hx
   ·subst e
    exact sy ok (by rw[←hq.1];exact hq.2.1)
   ·exact ih x hx
 exact all r x hx
end
def oT (H:Hp)(a:Addr)(y:V)(r:Option V):Prop:=
 (∃kvs k,Rd H a (.dK kvs)∧y=kV k∧r=uz kvs k)∨∃kvs k b,Rd H a (.dT kvs)∧y=.ref b∧H b=some (.tup (k.map kV))∧r=uz kvs k
section
variable {X:Cx}{pins:List (Addr×Obj)}{σ:St}{H:Hp}{s:Shared}{a:Addr}{y v:V}{u r:Value}{o:Option V}{A:Around}{E:Value→Shared→Prop}
theorem oi {Q:Value→Shared→Prop}(hu:A.units+1<cLine)(I:Inv X pins σ H s)(g:oT H a y (some v))(ry:RelV y u)(h:∀w' s',Inv X pins σ H s'→RelV v w'→Q w' s'):
  wpAny (model X.prog X.w) A (getItem (.ref a) u) Q E s:=by
 rcases g with ⟨kvs,k,e,ey,l⟩|⟨kvs,k,b,e,ey,eb,l⟩
 ·subst ey
  obtain⟨z,hd,vs,rel,dd⟩:=pC I.hok e
  obtain⟨w',hw,rw'⟩:=uw.some_of (v:=v) (o:=valueAt vs k) (by rw[l];exact rel.val k)
  exact wpAny_getItem_of (qT ry) dd.mapOf hw (h w' _ (I.tok _) rw')
 ·subst ey
  cases (show u=Value.ref b from ry)
  obtain⟨z,hd,xs,rel,dd⟩:=pE I.hok e
  obtain⟨w',hw,rw'⟩:=uw.some_of (v:=v) (o:=(atKey xs k).map (·.2)) (by rw[l];exact rel.val k)
  obtain⟨p,hp,hp2⟩:=dW.mp hw
  refine wpAny_getItem_heap (tupleKind_room_in1 hu) (sy I.hok eb) dd hp ?_
  rw[hp2]
  exact h w' _ (I.tok _) rw'
theorem eV {Q:Value→Shared→Prop}(hu:A.units+1<cLine)(I:Inv X pins σ H s)(g:oT H a y o)(ry:RelV y u)(h:∀s',Inv X pins σ H s'→Q (.bool o.isSome) s'):
  wpAny (model X.prog X.w) A (compareOp .In u (.ref a)) Q E s:=by
 rcases g with ⟨kvs,k,e,ey,l⟩|⟨kvs,k,b,e,ey,eb,l⟩
 ·subst ey
  obtain⟨z,hd,vs,rel,dd⟩:=pC I.hok e
  refine wpAny_in_of (qT ry) hd dd.mapOf ?_
  rw[←(rel.val k).isSome_eq,←l]
  exact h _ (I.tok _)
 ·subst ey
  cases (show u=Value.ref b from ry)
  obtain⟨z,hd,xs,rel,dd⟩:=pE I.hok e
  refine wpAny_in_heap (tupleKind_room_in1 hu) (sy I.hok eb) hd dd ?_
  have q:=(rel.val k).isSome_eq
  rw[Option.isSome_map] at q
  rw[←q,←l]
  exact h _ (I.tok _)
theorem jc {Q:Value→Shared→Prop}(hu:A.units+1<cLine)(I:Inv X pins σ H s)(g:oT H a y o)(ry:RelV y u)(h:∀s',Inv X pins σ H s'→Q (.bool (!o.isSome)) s'):
  wpAny (model X.prog X.w) A (compareOp .NotIn u (.ref a)) Q E s:=by
 rcases g with ⟨kvs,k,e,ey,l⟩|⟨kvs,k,b,e,ey,eb,l⟩
 ·subst ey
  obtain⟨z,hd,vs,rel,dd⟩:=pC I.hok e
  refine wpAny_notIn_of (qT ry) hd dd.mapOf ?_
  rw[←(rel.val k).isSome_eq,←l]
  exact h _ (I.tok _)
 ·subst ey
  cases (show u=Value.ref b from ry)
  obtain⟨z,hd,xs,rel,dd⟩:=pE I.hok e
  refine wpAny_notIn_heap (tupleKind_room_in1 hu) (sy I.hok eb) hd dd ?_
  have q:=(rel.val k).isSome_eq
  rw[Option.isSome_map] at q
  rw[←q,←l]
  exact h _ (I.tok _)
end
section
variable {X:Cx}{pins:List (Addr×Obj)}{σ:St}{H:Hp}{s:Shared}{a:Addr}{kvs:List (Key×V)}{k:Key}{u:Value}{A:Around}{E:Value→Shared→Prop}
end
theorem rg {X:Cx}{pins:List (Addr×Obj)}{σ:St}{H:Hp}{s:Shared}{a:Addr}{y:V}{o:Option V}(I:Inv X pins σ H s)(g:oT H a y o):s.TypeIs (.ref a) "dict":=by
 rcases g with ⟨kvs,k,e,_,_⟩|⟨kvs,k,b,e,_,_,_⟩
 ·obtain⟨_,_,vs,_,dd⟩:=pC I.hok e
  exact dd.typeIs
 ·obtain⟨_,_,xs,_,dd⟩:=pE I.hok e
  exact dd.typeIs
section
variable {X:Cx}{o i e value:Expr}{pos pos' tpos:Pos}{td ty tv:TE}
end
section
variable {X:Cx}{pos:Pos}
end
section
variable {X:Cx}{pins:List (Addr×Obj)}{σ:St}{H:Hp}{s:Shared}{a:Addr}{y d:V}{u r:Value}{o:Option V}{A:Around}{E:Value→Shared→Prop}
end
section
variable {X:Cx}{o e f:Expr}{apos cpos:Pos}{td ty tx:TE}
end
section
variable {X:Cx}{pins:List (Addr×Obj)}{σ:St}{H:Hp}{s:Shared}{a:Addr}{kvs:List (Key×V)}{A:Around}{E:Value→Shared→Prop}
end
section
variable {X:Cx}{pins:List (Addr×Obj)}{σ:St}{H:Hp}{s:Shared}{a:Addr}{y:V}{u:Value}{A:Around}{E:Value→Shared→Prop}
end
def kEq :PyData→Key→Bool
 |.int i,.inl j=>decide (i=j)
 |.str x,.inr y=>decide (x=y)
 |_,_=>false
theorem mF (k j:Key):kEq (oV k) j=decide (k=j):=by
 cases k<;>cases j<;>simp[kEq,oV]
def jz :List (PyData×PyData)→Key→Option PyData
 |[],_=>none
 |(p,d)::r,k=>if kEq p k=true then some d else jz r k
theorem AVk.get {H:Hp}:∀{kvs:List (Key×V)} {ds:List (PyData×PyData)} {k:Key} {d:PyData},AVk H kvs ds→jz ds k=some d→∃v,uz kvs k=some v∧AV H v d
 |_,_,k,d,.nil,e=>by cases e
 |_,_,k,d,.cons (k:=j) h r,e=>by
  unfold jz at e
  rw[mF] at e
  by_cases z:j=k
  ·rw[di z,if_pos rfl] at e
   cases e
   exact⟨_,uv z,h⟩
  ·rw[dh z,if_neg (by decide)] at e
   rw[vY z]
   exact AVk.get r e
theorem kn {H:Hp}{v:V}{k:Key}(h:AV H v (oV k)):v=kV k:=by
 cases k with
 |inl i=>exact h.int_inv
 |inr x=>exact h.str_inv
theorem AV.dk_inv {H:Hp}{v:V}{ds:List (PyData×PyData)}(h:AV H v (je ds)):∃a o kvs,v=.ref a∧H a=some (.frz o (.dK kvs))∧AVk H kvs ds:=by
 generalize e:je ds=d at h
 cases h with
 |dk h1 h2=>cases e;exact⟨_,_,_,rfl,h1,h2⟩
 |_=>cases e
section
variable {X:Cx}{pins:List (Addr×Obj)}{σ:St}{H:Hp}{s:Shared}{l:Addr}{kvs:List (Key×V)}
end
section
variable {X:Cx}{e:Expr}{sts:List Stmt}
end
section
variable {X:Cx}{α:Ev}{e a b:Expr}{pos p:Pos}{Q:PyData→Prop}
end
section
variable {X:Cx}{α:Ev}{e a b:Expr}{pos p:Pos}{Q:PyData→Prop}
end
section
variable {X:Cx}{tg:Expr}
end
section
variable {X:Cx}{α:Ev}{e a b tg:Expr}{pos p:Pos}{Q:List PyData→Prop}
end
mutual
def ltD :PyData→PyData→Option Bool
 |.int a,.int b=>some (decide (a<b))
 |.str a,.str b=>some (decide (a.cps.toList<b.cps.toList))
 |.tuple xs,.tuple ys=>gH xs ys
 |_,_=>none
def gH :List PyData→List PyData→Option Bool
 |[],[]=>some false
 |[],_::_=>some true
 |_::_,[]=>some false
 |x::xs,y::ys=>if PyData.eqv x y=true then gH xs ys else ltD x y
end
section
open PySem.SeqAt
open PySem.AutoSeq1 (wpAny_loadPart')
open PySem.MeetsSeq PySem.MeetsSeq2 PySem.MeetsSeq3
end
section
variable {prog:Program}{w:World}{A:Around}{R:Result→Shared→Prop}{it:Addr}{fp wr:List Addr}{m:Nat}{P:Nat→Value→Prop}{St:Nat→Heap→Prop}
end
section
variable {prog:Program}{w:World}{A:Around}{E:Value→Shared→Prop}{s:Shared}
end
section
variable {X:Cx}{α:Ev}{e:Expr}{pos p:Pos}{Q:PyData→Prop}
end
section
variable {prog:Program}{w:World}{A:Around}{E:Value→Shared→Prop}{s:Shared}{it l:Addr}{items:Array Value}
end
section
variable {X:Cx}{α:Ev}{a e c:Expr}{p p0 pos pos2:Pos}{Q:List PyData→Prop}
end
def oP (Q:PyData→Prop):List PyData→Prop
 |[]=>True
 |d::r=>Q d∧oP Q r
theorem oP.mem {Q:PyData→Prop}:∀{ds:List PyData},oP Q ds→∀d∈ds,Q d
 |[],_,d,h=>by cases h
 |x::r,h,d,hd=>by
  rcases dm.mp hd with rfl|hd
  ·exact h.1
  ·exact oP.mem h.2 d hd
theorem nX {x:PyData}{ds:List PyData}{v:Int}{Q:PyData→Prop}(P:PyData→Prop)(hx:ud x=some ds)(h0:0≤v)(h1:v<ds.length)(h:oP P ds)(k:∀d,P d→Q d):∃ds i d,ud x=some ds∧PyData.int v=.int i∧atI ds i=some d∧Q d:=by
 obtain⟨d,hd,e⟩:=vA h0 h1
 exact⟨ds,v,d,hx,rfl,e,k d (h.mem d hd)⟩
theorem jQ {k:Bool}{p q:Prop}(h1:k=true→p)(h2:k=false→q):if k=true then p else q:=by
 cases k with
 |true=>exact h1 rfl
 |false=>exact h2 rfl
section
variable {X:Cx}{α:Ev}{e a b:Expr}{pos p:Pos}{E:ye}{rest:List Stmt}
end
def fO :R2:=fun x y H R=>rEq x y H R∨fF x y H R
def fu :R2:=fun x y H R=>rNe x y H R∨fv x y H R
theorem lE {X:Cx}(hu:X.A.units+64<cLine):OpR X (compareOp .Eq) fO:=fun pins s σ H x y v u Q I rx ry h=>h.elim (fun h=>uY _ _ _ _ _ _ _ _ _ I rx ry h) fun h=>xV hu _ _ _ _ _ _ _ _ _ I rx ry h
theorem ml {X:Cx}(hu:X.A.units+64<cLine):OpR X (compareOp .NotEq) fu:=fun pins s σ H x y v u Q I rx ry h=>h.elim (fun h=>fZ _ _ _ _ _ _ _ _ _ I rx ry h) fun h=>jZ hu _ _ _ _ _ _ _ _ _ I rx ry h
theorem jx {i j:Str}:Cmp rNe (.str i) (.str j) (!decide (i=j)):=fun p H vx vy R rx ry h=>by
 cases rx.str_inv;cases ry.str_inv
 refine⟨rfl,?_⟩
 rw[show decide (V.str i=V.str j)=decide (i=j) by simp]
 exact h
def uq (x y:PyData)(Q:Bool→Prop):Prop:=∃k,Cmp fO x y k∧Cmp fu x y (!k)∧Q k
theorem kZ {i j:Int}{Q:Bool→Prop}(h:Q (decide (i=j))):uq (.int i) (.int j) Q:=⟨_,fun p H vx vy R rx ry z=>.inl (tX p H vx vy R rx ry z),fun p H vx vy R rx ry z=>.inl (ko p H vx vy R rx ry z),h⟩
theorem kH {i j:Str}{Q:Bool→Prop}(h:Q (decide (i=j))):uq (.str i) (.str j) Q:=⟨_,fun p H vx vy R rx ry z=>.inl (qI p H vx vy R rx ry z),fun p H vx vy R rx ry z=>.inl (jx p H vx vy R rx ry z),h⟩
theorem eqk {x y:PyData}{Q:Bool→Prop}(s1:SeqAt.shaped x=true)(s2:SeqAt.shaped y=true)(d1:x.hasDict=false)(d2:y.hasDict=false)(h:Q (PyData.eqv x y)):uq x y Q:=
 ⟨_,fun p H vx vy R rx ry z=>.inr ⟨x,y,(rx.dv d1).same xq,(ry.dv d2).same xq,s1,s2,z⟩,fun p H vx vy R rx ry z=>.inr ⟨x,y,(rx.dv d1).same xq,(ry.dv d2).same xq,s1,s2,z⟩,h⟩
theorem nK {i j:Bool}{Q:Bool→Prop}(h:Q (i == j)):uq (.bool i) (.bool j) Q:=eqk rfl rfl rfl rfl (by simpa[PyData.eqv] using h)
section
variable {X:Cx}{α:Ev}{a b:Expr}{pos:Pos}{Q:PyData→Prop}{T:Bool→Prop}
theorem gD (hu:X.A.units+64<cLine)(h:EvD X α a fun x=>EvD X α b fun y=>uq x y fun k=>Q (.bool k)):EvD X α (.Compare a [.Eq] [b] pos) Q:=rX (lE hu) (zA _) (h.imp fun x h=>h.imp fun y ⟨k,e,_,q⟩=>⟨k,e,q⟩)
theorem lF (hu:X.A.units+64<cLine)(h:EvD X α a fun x=>EvD X α b fun y=>uq x y fun k=>Q (.bool (!k))):EvD X α (.Compare a [.NotEq] [b] pos) Q:=rX (ml hu) (zA _) (h.imp fun x h=>h.imp fun y ⟨k,_,e,q⟩=>⟨!k,e,q⟩)
theorem lR (hu:X.A.units+64<cLine)(h:EvD X α a fun x=>EvD X α b fun y=>uq x y T):EvT X α (.Compare a [.Eq] [b] pos) T:=yK (lE hu) (zA _) (h.imp fun x h=>h.imp fun y ⟨k,e,_,q⟩=>⟨k,e,q⟩)
theorem iZ (hu:X.A.units+64<cLine)(h:EvD X α a fun x=>EvD X α b fun y=>uq x y fun k=>T (!k)):EvT X α (.Compare a [.NotEq] [b] pos) T:=yK (ml hu) (zA _) (h.imp fun x h=>h.imp fun y ⟨k,_,e,q⟩=>⟨!k,e,q⟩)
theorem zW {k:Bool}{p q:Prop}(e:k=true)(h:p):if k=true then p else q:=by rw[if_pos e];exact h
theorem zT {k:Bool}{p q:Prop}(e:k=false)(h:q):if k=true then p else q:=by rw[if_neg (by rw[e];decide)];exact h
variable {E:ye}{s t:List Stmt}
theorem zF {k:Bool}(e:k=true)(h:SvS X α s E):SvS X α (if k=true then s else t) E:=by rw[if_pos e];exact h
theorem zH {k:Bool}(e:k=false)(h:SvS X α t E):SvS X α (if k=true then s else t) E:=by rw[if_neg (by rw[e];decide)];exact h
end
section
variable {X:Cx}{α:Ev}{a b:Expr}{pos:Pos}{Q:PyData→Prop}{T:Bool→Prop}
def ej :R2:=fun x y H Q=>∃a v,x=.ref a∧oT H a y (some v)∧Q v H
theorem kY (hu:X.A.units+1<cLine):IxR X ej:=fun value slice pins s σ H x y v u Q I rx ry h hs=>by
 obtain⟨a,z,rfl,g,q⟩:=h
 cases rx
 exact tail_any (rg I g) PySem.F.slot_dict_getitem.lookup (oi hu I g ry fun w' s' I' r'=>⟨z,H,I',r',q⟩) hs
def ki (x y:PyData)(Q:PyData→Prop):Prop:=(∃ds i d,ud x=some ds∧y=.int i∧atI ds i=some d∧Q d)∨∃ds k d,x=je ds∧y=oV k∧jz ds k=some d∧Q d
theorem ixk {x y:PyData}{ds:List PyData}{i:Int}{d:PyData}(h1:ud x=some ds)(h2:y=.int i)(h3:atI ds i=some d)(h:Q d):ki x y Q:=.inl ⟨ds,i,d,h1,h2,h3,h⟩
theorem pH {x:PyData}{ds:List PyData}{v:Int}(P:PyData→Prop)(hx:ud x=some ds)(h0:0≤v)(h1:v<ds.length)(h:oP P ds)(k:∀d,P d→Q d):ki x (.int v) Q:=.inl (nX P hx h0 h1 h k)
theorem vn (hu:X.A.units+1<cLine)(hs:vM b)(h:EvD X α a fun x=>EvD X α b fun y=>ki x y Q):EvD X α (.Subscript a b pos) Q:=by
 refine vt (f:=tOp (fun x y H Q=>rIx X.K x y H Q∨ej x y H Q)) (yh (ik.or (kY hu)) zb zb hs) (fun _ _ _=>Iff.rfl) (h.imp fun x h=>h.imp fun y h=>?_)
 intro F σ H vx vy R m rx ry k
 rcases h with ⟨ds,i,d,e1,rfl,hat,hq⟩|⟨ds,kk,d,rfl,rfl,hv,hq⟩
 ·cases ry.int_inv
  cases x with
  |list ds'=>
   cases e1
   obtain⟨a,xs,rfl,h1,h2⟩:=rx.lst_inv
   obtain⟨v,hv,av⟩:=h2.atI hat
   exact .inl (.inl ⟨a,xs,i,v,rfl,rfl,SqL.of (zg h1).2,hv,k d v H hq m.tp Kz.refl av⟩)
  |tuple ds'=>
   cases e1
   obtain⟨a,xs,rfl,h1,h2⟩:=rx.tup_inv
   obtain⟨v,hv,av⟩:=h2.atI hat
   exact .inl (.inr (.inl ⟨a,xs,i,v,rfl,rfl,SqT.of (zg h1).2,hv,k d v H hq m.tp Kz.refl av⟩))
  |_=>cases e1
 ·obtain⟨a,o,kvs,rfl,g1,g2⟩:=rx.dk_inv
  obtain⟨v,w1,w2⟩:=g2.get hv
  cases kn ry
  exact .inr ⟨a,v,rfl,.inl ⟨kvs,kk,.inr ⟨o,(zg g1).2⟩,rfl,w1.symm⟩,k d v H hq m.tp Kz.refl w2⟩
def jk (K:PySem.W.Frag)(neg:Bool):R2:=fun x y H Q=>rIn K neg x y H Q∨∃a o,y=.ref a∧oT H a x o∧Q (.bl (if neg then !o.isSome else o.isSome)) H
theorem gp (hu:X.A.units+1<cLine):OpR X (compareOp .In) (jk X.K false):=fun pins s σ H x y v u Q I rx ry h=>by
 rcases h with h|⟨a,o,rfl,g,q⟩
 ·exact uR pins s σ H x y v u Q I rx ry h
 ·cases ry
  exact eV hu I g rx fun s' I'=>⟨.bl o.isSome,H,I',rfl,q⟩
theorem oy (hu:X.A.units+1<cLine):OpR X (compareOp .NotIn) (jk X.K true):=fun pins s σ H x y v u Q I rx ry h=>by
 rcases h with h|⟨a,o,rfl,g,q⟩
 ·exact tG pins s σ H x y v u Q I rx ry h
 ·cases ry
  exact jc hu I g rx fun s' I'=>⟨.bl (!o.isSome),H,I',rfl,q⟩
def jG (X:Cx)(x y:PyData)(Q:Bool→Prop):Prop:=∃k,Cmp (jk X.K false) x y k∧Cmp (jk X.K true) x y (!k)∧Q k
theorem dg {x:PyData}{ds:List PyData}(f1:wx x=true)(f2:ds.all wx=true)(q:T (inD x ds)):jG X x (.tuple ds) T:=
 ⟨_,fun p H vx vy R rx ry h=>.inl (sf (X:=X) (neg:=false) f1 f2 p H vx vy R rx ry h),fun p H vx vy R rx ry h=>.inl (sf (X:=X) (neg:=true) f1 f2 p H vx vy R rx ry h),q⟩
theorem iq (hu:X.A.units+1<cLine)(h:EvD X α a fun x=>EvD X α b fun y=>jG X x y T)(hm:behindInMarks .In b=false:=by rfl):EvT X α (.Compare a [.In] [b] pos) T:=
 yK (gp hu) hm (h.imp fun x h=>h.imp fun y ⟨k,e,_,q⟩=>⟨k,e,q⟩)
theorem jd (hu:X.A.units+1<cLine)(h:EvD X α a fun x=>EvD X α b fun y=>jG X x y fun k=>T (!k))(hm:behindInMarks .NotIn b=false:=by rfl):EvT X α (.Compare a [.NotIn] [b] pos) T:=
 yK (oy hu) hm (h.imp fun x h=>h.imp fun y ⟨k,_,e,q⟩=>⟨!k,e,q⟩)
end
theorem yq.one {k:Nat}{A:Around}(h:yq k A):A.units+1<cLine:=by have:=h.units;omega
section
variable {X:Cx}{α:Ev}{E:ye}{rest body:List Stmt}{e c tg iter:Expr}{pos p:Pos}
def freeOk (xs:Scope)(y:Str×NameKind):Bool:=match y.2 with
 |.free=>match xs.names.lookup y.1 with
  |some .cell=>true
  |some .free=>true
  |_=>false
 |_=>true
theorem sU {xs scope:Scope}(h:scope.names.all (freeOk xs)=true):∀y∈scope.names,y.2=.free→xs.names.lookup y.1=some .cell∨xs.names.lookup y.1=some .free:=fun y hy e=>by
 have:=cB.mp h y hy
 unfold freeOk at this
 rw[e] at this
 cases z:xs.names.lookup y.1 with
 |none=>rw[z] at this;cases this
 |some k=>
  rw[z] at this
  cases k<;>first|exact .inl rfl|exact .inr rfl|cases this
theorem vm (N:List Str)(imp:List (Option Nat))(pat:Pat){scope:Scope}{elt:Expr}{ifs:List Expr}{Q:List PyData→Prop}(h:EvI X α tg iter fun ds=>ds.length≤1000∧yY (fun C s2 H2 fp=>X.comp N scope C s2 H2 fp) pat ifs elt (yv imp α) ds [] Q)
  (nd:N.Nodup:=by decide +kernel) (h1:scope.kind=.function:=by rfl) (h2:∀y∈scope.names,y.2≠.cell:=by decide +kernel) (h3:∀y∈scope.names,y.2=.local→scope.names.lookup y.1=some .local:=by decide +kernel) (h4:scope.names.all (freeOk X.env.scope)=true:=by rfl) (h5:imp.length=N.length:=by rfl)
  (h6:((imp.zip N).all fun p=>match p.1 with|none=>true|some j=>X.N[j]? == some p.2&&scope.names.lookup p.2 == some .free)=true:=by rfl) (hfree:pat.free (yv imp α)=true:=by rfl)
  (hg:∀C s2 H2 fp,N.Nodup→PG (X.comp N scope C s2 H2 fp) tg (qi X.K pat):=by intro _ _ _ _ hnd;first|exact yQ hnd rfl (Or.inl rfl)|exact pg_tupK' rfl rfl (by repeat (first|exact wO|refine yJ (yQ hnd rfl (Or.inl rfl)) ?_)))
  (hc:X.calm=true:=by rfl) (hs:∀x,foldedSetIterable iter X.env x=pure x:=by intro _;rfl):EvL X α (.ListComp elt [⟨tg,iter,ifs,0⟩] scope pos) Q:=gZ hc ⟨h1,nd,h2,h3,sU h4,h5,h6⟩ hfree (fun C s2 H2 fp=>hg C s2 H2 fp nd) h hs
theorem iT (i:Nat)(N:List Str)(imp:List (Option Nat))(pat:Pat){x:Str}{pos' cpos:Pos}{scope:Scope}{elt:Expr}{ifs:List Expr}(h:EvI X α tg iter fun ds=>ds.length≤1000∧yY (fun C s2 H2 fp=>X.comp N scope C s2 H2 fp) pat ifs elt (yv imp α) ds [] fun ds=>SvS X (α.set i (some (.own ds))) rest E)
  (hN:X.N.Nodup:=by assumption)
  (nd:N.Nodup:=by decide +kernel) (h1:scope.kind=.function:=by rfl) (h2:∀y∈scope.names,y.2≠.cell:=by decide +kernel) (h3:∀y∈scope.names,y.2=.local→scope.names.lookup y.1=some .local:=by decide +kernel) (h4:scope.names.all (freeOk X.env.scope)=true:=by rfl) (h5:imp.length=N.length:=by rfl)
  (h6:((imp.zip N).all fun p=>match p.1 with|none=>true|some j=>X.N[j]? == some p.2&&scope.names.lookup p.2 == some .free)=true:=by rfl) (hfree:pat.free (yv imp α)=true:=by rfl)
  (hg:∀C s2 H2 fp,N.Nodup→PG (X.comp N scope C s2 H2 fp) tg (qi X.K pat):=by intro _ _ _ _ hnd;first|exact yQ hnd rfl (Or.inl rfl)|exact pg_tupK' rfl rfl (by repeat (first|exact wO|refine yJ (yQ hnd rfl (Or.inl rfl)) ?_)))
  (hc:X.calm=true:=by rfl)
  (hi:X.N[i]?=some x:=by rfl) (hx:Loc X.env.scope x:=by first|exact Or.inl rfl|exact Or.inr rfl) (hsw:swapsWith (.ListComp elt [⟨tg,iter,ifs,0⟩] scope cpos) (some (.Name x pos')) pos.line X.env=pure true:=by rfl)
  (hf:X.fn x=true∨X.env.scope.names.lookup x=some .local:=by first|exact .inl rfl|exact .inr rfl|assumption) (hs:∀x,foldedSetIterable iter X.env x=pure x:=by intro _;rfl):
  SvS X α (.Assign [.Name x pos'] (.ListComp elt [⟨tg,iter,ifs,0⟩] scope cpos) pos::rest) E:=fG i hN hc ⟨h1,nd,h2,h3,sU h4,h5,h6⟩ hfree (fun C s2 H2 fp=>hg C s2 H2 fp nd) h hi hx hsw hf hs
end
section
variable {Y:Addr→Shared→Hp→List Addr→Cx}{pat:Pat}{ifs:List Expr}{elt:Expr}{α0:Ev}{ι:Type}{g f:ι→PyData}{l:List ι}{acc:List PyData}{Q:List PyData→Prop}
theorem rm (p:ι→Bool)(f:ι→PyData)(hs:∀x∈l,∃α1,pat.bind (g x) α0=some α1∧(∀C s2 H2 fp (Q:Bool→Prop),Q (p x)→lH (Y C s2 H2 fp) α1 ifs Q)∧(p x=true→∀C s2 H2 fp (Q:PyData→Prop),Q (f x)→EvD (Y C s2 H2 fp) α1 elt Q))
  (hd:Q (acc++(l.filter p).map f)):yY Y pat ifs elt α0 (l.map g) acc Q:=by
 induction l generalizing acc with
 |nil=>
  show Q acc
  simpa using hd
 |cons d ds ih=>
  obtain⟨α1,e,h1,h2⟩:=hs d dE
  refine⟨α1,e,fun C s2 H2 fp=>h1 C s2 H2 fp _ ?_⟩
  have ih':=fun acc=>ih (acc:=acc) fun d hd=>hs d (dA _ hd)
  cases hp:p d with
  |true=>
   rw[if_pos rfl]
   refine fun C s2 H2 fp=>h2 hp C s2 H2 fp _ (ih' _ ?_)
   simpa[List.filter_cons,hp] using hd
  |false=>
   rw[if_neg (by decide)]
   refine ih' _ ?_
   simpa[List.filter_cons,hp] using hd
theorem xt (f:ι→PyData)(hs:∀x∈l,∃α1,pat.bind (g x) α0=some α1∧∀C s2 H2 fp (Q:PyData→Prop),Q (f x)→EvD (Y C s2 H2 fp) α1 elt Q)(hd:Q (acc++l.map f)):yY Y pat [] elt α0 (l.map g) acc Q:=
 rm (fun _=>true) f (fun x hx=>by
  obtain⟨α1,h1,h2⟩:=hs x hx
  exact⟨α1,h1,fun _ _ _ _ _ k=>nT k,fun _=>h2⟩) (by rw[List.filter_eq_self.mpr fun _ _=>rfl];exact hd)
end
section
variable {co:Co}{N:Nat}
end
section
variable {co:Co}{N:Nat}
end
section
variable {X:Cx}{α:Ev}{a b e:Expr}{pos p:Pos}{Q:PyData→Prop}
end
section
variable {X:Cx}{α:Ev}{a b c e:Expr}{pos p:Pos}{Q:PyData→Prop}{T:Bool→Prop}
theorem rd {op op':CmpOp}{g g':Int→Int→Bool}(ho:OpR X (compareOp op) (rI0 fun i j=>.bl (g i j)))(ho':OpR X (compareOp op') (rI0 fun i j=>.bl (g' i j)))(hm:lastMarks [op,op'] [b,c]=false)
  (h:EvD X α a fun x=>EvD X α b fun y=>∃i j,x=.int i∧y=.int j∧(if g i j=true then EvD X α c fun z=>∃k,z=.int k∧T (g' j k) else T false)):EvT X α (.Compare a [op,op'] [b,c] pos) T:=fun F σ H R m k=>by
 refine⟨_,nO ho ho' zb zb zb hm,?_⟩
 refine h F σ H _ m fun x vx H1 q1 t1 k1 r1=>?_
 have m1:=m.kz k1 t1
 refine q1 F σ H1 _ m1 fun y vy H2 q2 t2 k2 r2=>?_
 obtain⟨i,j,e1,e2,hq⟩:=q2
 subst e1 e2
 cases r1.int_inv;cases r2.int_inv
 have m2:=m1.kz k2 t2
 refine⟨i,j,rfl,rfl,_,rfl,?_⟩
 cases hg:g i j with
 |true=>
  rw[hg] at hq
  refine wy ?_
  refine (by simpa using hq:EvD X α c _) F σ H2 _ m2 fun z vz H3 q3 t3 k3 r3=>?_
  obtain⟨kk,rfl,hq3⟩:=q3
  cases r3.int_inv
  exact⟨j,kk,rfl,rfl,_,rfl,k _ H3 hq3 t3 ((k1.trans k2).trans k3)⟩
 |false=>
  rw[hg] at hq
  exact ve ⟨_,rfl,k _ H2 (by simpa using hq) t2 (k1.trans k2)⟩
theorem jF (h:EvD X α a fun x=>EvD X α b fun y=>∃i j,x=.int i∧y=.int j∧(if decide (i≤j)=true then EvD X α c fun z=>∃k,z=.int k∧T (decide (j<k)) else T false))(hm:lastMarks [.LtE,.Lt] [b,c]=false:=by rfl):EvT X α (.Compare a [.LtE,.Lt] [b,c] pos) T:=rd wk jS hm h
theorem nF (h:EvD X α a fun x=>EvD X α b fun y=>∃i j,x=.int i∧y=.int j∧(if decide (i≤j)=true then EvD X α c fun z=>∃k,z=.int k∧T (decide (j≤k)) else T false))(hm:lastMarks [.LtE,.LtE] [b,c]=false:=by rfl):EvT X α (.Compare a [.LtE,.LtE] [b,c] pos) T:=rd wk wk hm h
end
section
variable {X:Cx}{α:Ev}{a b c e:Expr}{pos p p2 pos2:Pos}{Q:PyData→Prop}{T:Bool→Prop}
end
section
variable {X:Cx}{α:Ev}{a b c d e:Expr}{pos p:Pos}{ta tb tc td:TE}{T:Bool→Prop}
def jb (r r' r2:R2)(ta tb tc td:TE):TE:=fun σ H Q=>ta σ H fun x H1=>tb σ H1 fun y H2=>r x y H2 fun z H3=>∃k,z=.bl k∧
 (if k=true then tc σ H3 fun w' H4=>r' y w' H4 fun z' H5=>∃k',z'=.bl k'∧(if k'=true then td σ H5 fun u H6=>r2 w' u H6 Q else Q (.bl false) H5) else Q (.bl false) H3)
theorem oe {op op' op2:CmpOp}{r r' r2:R2}(ho:OpR X (compareOp op) r)(ho':OpR X (compareOp op') r')(ho2:OpR X (compareOp op2) r2)(ha:PE X a ta)(hb:PE X b tb)(hc:PE X c tc)(hd:PE X d td)
  (hm:lastMarks [op,op',op2] [b,c,d]=false):PT X (.Compare a [op,op',op2] [b,c,d] pos) (nY (jb r r' r2 ta tb tc td)):=by
 intro pins s σ H Q I h
 refine isTrue_chain (thn (ha pins s σ H _ I h) fun v s1 ⟨x,H1,I1,r1,q1⟩=>test_link (thn (hb pins s1 σ H1 _ I1 q1) fun u s2 ⟨y,H2,I2,r2,q2⟩=>
  thn (ho pins s2 σ H2 x y v u _ I2 r1 r2 q2) fun d s3 ⟨z,H3,I3,r3,k,e,q3⟩=>?_)) hm
 subst e
 cases r3
 refine cj ?_
 cases k with
 |false=>
  obtain⟨k',e',q'⟩:=q3
  cases e'
  exact ite_ff ⟨H3,I3,q'⟩
 |true=>
  refine ite_tt (test_link (thn (hc pins s3 σ H3 _ I3 q3) fun w' s4 ⟨z',H4,I4,r4,q4⟩=>thn (ho' pins s4 σ H4 y z' u w' _ I4 r2 r4 q4) fun d' s5 ⟨z2,H5,I5,r5,k2,e2,q5⟩=>?_))
  subst e2
  cases r5
  refine cj ?_
  cases k2 with
  |false=>
   obtain⟨k',e',q'⟩:=q5
   cases e'
   exact ite_ff ⟨H5,I5,q'⟩
  |true=>
   refine ite_tt (test_last (thn (hd pins s5 σ H5 _ I5 q5) fun w2 s6 ⟨z3,H6,I6,r6,q6⟩=>thn (ho2 pins s6 σ H6 z' z3 w' w2 _ I6 r4 r6 q6) fun d' s7 ⟨z4,H7,I7,r7,k3,e3,q7⟩=>?_))
   subst e3
   cases r7
   exact cj ⟨H7,I7,q7⟩
end
theorem jU {X:Cx}{α:Ev}{e tg:Expr}{Q:List PyData→Prop}(h:EvD X α e fun x=>∃ds,x=.tuple ds∧Q ds):EvI X α tg e Q:=fun F σ H R m k=>by
 refine⟨_,iS zb,?_⟩
 refine h F σ H _ m fun x vx H1 q1 t1 k1 r1=>?_
 obtain⟨ds,rfl,q⟩:=q1
 obtain⟨a,xs,rfl,h1,h2⟩:=r1.tup_inv
 refine⟨a,rfl,⟨xs,SqT.of (zg h1).2⟩,k ds _ H1 q t1 k1 fun i H2 p s=>⟨fun d hd=>?_,fun hl=>?_⟩⟩
 ·obtain⟨x,hx,av⟩:=h2.get hd
  have ha:=SqT.of (K:=X.K) (zg (s _ _ h1)).2
  refine⟨⟨xs,x,ha,hx⟩,fun x' H3 y=>?_⟩
  obtain⟨e,y⟩:=y
  subst e
  have:=y xs ha
  rw[hx] at this;cases this
  exact⟨zu.refl _,fun _=>av.same s⟩
 ·exact⟨xs,SqT.of (zg (s _ _ h1)).2,by rw[h2.length];exact hl⟩
section
variable {X:Cx}{α:Ev}{a b c d e:Expr}{pos p:Pos}{T:Bool→Prop}
end
abbrev fT (X:Cx)(P:Program)(w:World)(K:PySem.W.Frag)(mg:Str→Option Value)(base:Heap):Prop:=X.prog=P∧X.w=w∧X.K=K∧X.mg=mg∧X.base=base
section
variable {X:Cx}{α:Ev}{e o:Expr}{es:List Expr}{pos p apos:Pos}{Q:PyData→Prop}{k:Nat}{φ:List A→(A→Prop)→Prop}{x m:Str}{C:Addr}{pl:Sem Bool}{P:Program}{w:World}{K:PySem.W.Frag}{mg:Str→Option Value}{base:Heap}
theorem kX (D:Cal P w K mg base x k φ)(hX:fT X P w K mg base)(hr:yq k X.A)(hg:Gl X x)(h:EvA X α (e::es) fun as=>φ as fun a=>Q a.d)
  (hdb:(x == ("__debug__":Str))=false:=by decide) (he:starEach (e::es) X.env=(false,eval e X.env)::starEach es X.env:=by rfl) (hpl:(backTo pos (starEach es X.env)).any (·.1)=false:=by rfl):EvD X α (.Call (.Name x p) (e::es) [] pos) Q:=by
 obtain⟨rfl,rfl,rfl,rfl,rfl⟩:=hX
 exact zv D hr hg h hdb he hpl
end
section
variable {X:Cx}{α:Ev}{pos:Pos}{Q:PyData→Prop}
end
section
variable {X:Cx}{α:Ev}{e ix:Expr}{pos:Pos}{rest:List Stmt}{E:ye}
end
section
variable {X:Cx}{tg:Expr}
variable {α:Ev}{a b c:Expr}{p pos:Pos}
end
section
variable {prog:Program}{w:World}{K:Type}[DecidableEq K](knd:KeyKind prog w K)
variable {knd}
end
section
variable {X:Cx}
end
section
variable {X:Cx}{α:Ev}{e a b:Expr}{p pos:Pos}{Q:PyData→Prop}
end
section
variable {M:Model}{A:Around}{E:Value→Shared→Prop}{s:Shared}
end
section
variable {P:Program}{w:World}{H H0:Hp}{h h' h0:Heap}{fs fs' ts:List Addr}{e:Addr}
end
section
variable {X:Cx}{pins:List (Addr×Obj)}{σ:St}{H H':Hp}{s s':Shared}{a:Addr}
end
section
variable {X:Cx}{E':Value→Shared→Prop}
end
section
variable {P:Program}{w:World}{K:PySem.W.Frag}{mg:Str→Option Value}{base:Heap}
end
section
variable {prog:Program}{w:World}{A:Around}{E:Value→Shared→Prop}{h:Heap}{g:Array GenState}{d:Drawn}{t:Nat}{os:OsState}
variable {nm q:Str}{C N:Addr}{bs bm bmB:List Value}{hdct:Bool}{sn:List Str}{sub:List Value}{ab:Bool}{col:Option Bool}{dd:Option Addr}{k0 k1 k2 k3 k5:Option Value}{B Bn newId nid initId inN:String}{bmN:List Value}
end
open Builtin Builtin.ObjectAttr
section
variable {prog:Program}{w:World}{A:Around}{E:Value→Shared→Prop}{h:Heap}{g:Array GenState}{d:Drawn}{t:Nat}{os:OsState}{K:Frag}{C S e t0:Addr}{dx:Option Addr}{init:Option Value}
end
section
variable {prog:Program}{w:World}{A:Around}{E:Value→Shared→Prop}{h:Heap}{g:Array GenState}{d:Drawn}{t:Nat}{os:OsState}{K:Frag}{C S e t0:Addr}{init:Option Value}
end
section
variable {X:Cx}{pins:List (Addr×Obj)}{σ:St}{H:Hp}{s:Shared}{a C:Addr}{d:Option Addr}{pos:Pos}
end
section
variable {prog:Program}{w:World}{A:Around}{E:Value→Shared→Prop}{h:Heap}{g:Array GenState}{d:Drawn}{t:Nat}{os:OsState}
variable {nm q:Str}{C N:Addr}{bs bm bmB:List Value}{hdct:Bool}{sn:List Str}{sub:List Value}{ab:Bool}{col:Option Bool}{dd:Option Addr}{k0 k1 k2 k3 k5:Option Value}{B Bn newId nid initId inN:String}{bmN:List Value}
end
section
variable {X:Cx}{pins:List (Addr×Obj)}{σ:St}{H:Hp}{s:Shared}{k:Nat}{f C S:Addr}{fd:FuncData}{ps:List Str}{sp:Sp}{x:Str}{p pos:Pos}{e:Expr}{es:List Expr}{t:TA}
end
section
variable {X:Cx}{pins:List (Addr×Obj)}{σ:St}{H:Hp}{s:Shared}{a:Addr}{D:Ends}{f:Flow}
end
section
variable {X:Cx}{body suite:List Stmt}{b0:Stmt}{x n:Str}{np hpos pos:Pos}{B:Addr}
end
section
variable {G:Hp}{v:V}{C:Addr}{ds:List (PyData×PyData)}
end
section
variable {F:Fr}{α αh:Ev}{σ:St}{H:Hp}
end
section
variable {F:Fr}{α αh:Ev}{σ:St}{H:Hp}
end
section
variable {P:Program}{w:World}{K:PySem.W.Frag}{mg:Str→Option Value}{base:Heap}
end
section
variable {X:Cx}{α αh:Ev}{r:Fr}{q q0:PyData→Prop}{j k:Nat}{x fl:Str}{C:Addr}{e:Expr}{es:List Expr}{p pos pos':Pos}{rest:List Stmt}{E:ye}
variable {φ:List A→(A→Prop)→(PyData→Prop)→Prop}{Q:PyData→Prop}
end
section
variable {P:Program}{w:World}{K:PySem.W.Frag}{mg:Str→Option Value}{base:Heap}
end
section
variable {X:Cx}{α αh:Ev}{q:PyData→Prop}{i j:Nat}{x n:Str}{B:Addr}{body suite rest:List Stmt}{b0:Stmt}{np hpos pos:Pos}{E:ye}
end
section
variable {X:Cx}{α:Ev}{p p1 pos:Pos}{a:Expr}{Q:PyData→Prop}{C S:Addr}{init:Option Value}
end
section
variable {X:Cx}{α:Ev}{pos:Pos}{o:Expr}{f:Str}{Q:PyData→Prop}{C S:Addr}{init:Option Value}
end
section
variable {P:Program}{w:World}{K:PySem.W.Frag}{mg:Str→Option Value}{base:Heap}
end
section
variable {X:Cx}{α αh:Ev}{r:Fr}{q q0:PyData→Prop}{j k:Nat}{x fl:Str}{C:Addr}{e:Expr}{es:List Expr}{p pos pos':Pos}{rest:List Stmt}{E:ye}
end
section
variable {P:Program}{w:World}{K:PySem.W.Frag}{mg:Str→Option Value}{base:Heap}
end
section
variable {P:Program}{w:World}{K:PySem.W.Frag}{mg:Str→Option Value}{base:Heap}
end
section
variable {X:Cx}{α αh:Ev}{r:Fr}{q q0:PyData→Prop}{j k:Nat}{x fl:Str}{C:Addr}{e:Expr}{es:List Expr}{p pos pos':Pos}{rest:List Stmt}{E:ye}{Q:PyData→Prop}{φ:List A→(PyData→Prop)→Prop}
end
def fN :Option A→Option A
 |some .tape=>none
 |some (.exc _ _)=>none
 |a=>a
def yZ (α:Ev):Ev:=α.map fN
def lS :A→Prop
 |.tape=>False
 |.exc _ _=>False
 |_=>True
theorem yW {α:Ev}{i:Nat}{a:A}(h:(yZ α)[i]?=some (some a)):α[i]?=some (some a)∧lS a:=by
 unfold yZ at h
 rw[cc,dW] at h
 obtain⟨b,h1,h2⟩:=h
 cases b with
 |none=>cases h2
 |some b=>cases b<;>cases h2<;>exact⟨h1,trivial⟩
theorem xm.to {G G':Hp}{F F':Fr}{H H':Hp}{s:Option V}{a:A}(ka:lS a)(h:xm G F H s a)(g:zu G G')(hf:∀x o,foot s a x→H x=some o→H' x=some o∧¬F'.O0 x∧F'.H0 x=none):xm G' F' H' s a:=by
 cases a with
 |dat d=>obtain⟨v,h1,h2⟩:=h;exact⟨v,h1,h2.same g⟩
 |ow c=>
  obtain⟨l,o,h1,h2,h3,h4,h5⟩:=h
  obtain⟨z1,z2,z3⟩:=hf l o h1 h2
  exact⟨l,o,h1,z1,h3.same g,z2,z3⟩
 |deep d S=>
  obtain⟨v,h1,h2,h3⟩:=h
  refine⟨v,h1,h2.same (vi g fun x o z e=>(hf x o z e).1),fun x z=>?_⟩
  obtain⟨_,_,xs,e⟩:=h3 x z
  obtain⟨z1,z2,z3⟩:=hf x _ z e
  exact⟨z2,z3,xs,z1⟩
 |tape=>exact ka.elim
 |«at» l=>exact h
 |exc r q=>exact ka.elim
 |pin l vs ds=>exact⟨h.1,g _ _ h.2.1,h.2.2.same g⟩
def Tp (F:Fr)(x:Addr):Prop:=∃t b c,F.tp=some (t,b,c)∧(x=t∨x=b∨x=c)
noncomputable instance tpDec (F:Fr)(x:Addr):Decidable (Tp F x):=Classical.propDecidable _
noncomputable def Fr.row (F:Fr)(H:Hp)(l:Addr):Fr:=⟨fun x=>if Tp F x then H x else F.H0 x,fun x=>F.O0 x∨x=l,some (l,l,l)⟩
section
variable {F:Fr}{α α':Ev}{σ σ':St}{H H':Hp}{l:Addr}
theorem Tp.own (t:zB F H){x:Addr}(h:Tp F x):F.O0 x:=by
 obtain⟨a,b,c,e,z⟩:=h
 obtain⟨_,h1,h2,h3⟩:=t a b c e
 rcases z with z|z|z
 ·rw[z];exact h1
 ·rw[z];exact h2
 ·rw[z];exact h3
theorem Tp.lst (t:zB F H){x:Addr}(h:Tp F x):∃xs,H x=some (.lst xs):=by
 obtain⟨a,b,c,e,z⟩:=h
 obtain⟨n,bs,cs,n1,e1,e2,e3,_⟩:=(t a b c e).1.ex
 rcases z with z|z|z
 ·rw[z];exact⟨_,e1⟩
 ·rw[z];exact⟨_,e2⟩
 ·rw[z];exact⟨_,e3⟩
theorem Tp.noTab (t:zB F H){x:Addr}(h:Tp F x):¬vC x:=fun z=>by
 obtain⟨o,e,_,n⟩:=vK t.tab z
 obtain⟨xs,e2⟩:=Tp.lst t h
 rw[e] at e2;cases e2
 exact n _ rfl
theorem rj (t:zB F H){x:Addr}(h:(F.row H l).H0 x=none):F.H0 x=none:=by
 have h':(if Tp F x then H x else F.H0 x)=none:=h
 split at h'
 ·rename_i q
  obtain⟨xs,e⟩:=Tp.lst t q
  rw[e] at h';cases h'
 ·exact h'
theorem M.row {i:Nat}{x y:Int}(m:M F α σ H)(hi:α[i]?=some (some (.own [.int x,.int y])))(h0:0≤y)(h1:y<4294967296):∃l,F.H0 l=none∧¬F.O0 l∧M (F.row H l) ((yZ α).set i (some .tape)) σ H:=by
 obtain⟨l,xs,e1,e2,e3,e4,e5⟩:=m.own i _ hi
 have ex:xs=[.int x,.int y]:=by
  cases e3 with
  |cons a r=>
   cases r with
   |cons b r=>
    cases r
    rw[a.int_inv,b.int_inv]
 subst ex
 have old:∀{j:Nat} {a:A},((yZ α).set i (some .tape))[j]?=some (some a)→(i=j∧a=.tape)∨(i≠j∧α[j]?=some (some a)∧lS a):=fun {j a} e=>by
  rcases zI e with ⟨z,w⟩|⟨z,w⟩
  ·cases w;exact .inl ⟨z,rfl⟩
  ·obtain⟨w1,w2⟩:=yW w
   exact .inr ⟨z,w1,w2⟩
 have ow:∀{z:Addr},Ow (F.row H l) ((yZ α).set i (some .tape)) σ z→Ow F α σ z:=fun {z} h=>by
  rcases h with (h|h)|⟨j,a,s,w1,w2,w3⟩
  ·exact .inl h
  ·rw[h];exact .inr ⟨i,_,_,hi,e1,rfl⟩
  ·rcases old w1 with ⟨_,q⟩|⟨_,q,_⟩
   ·subst q;exact w3.elim
   ·exact .inr ⟨j,a,s,q,w2,w3⟩
 have gs:zu (Gz F α σ H) (Gz (F.row H l) ((yZ α).set i (some .tape)) σ H):=zl fun a o h e=>⟨fun z=>h (ow z),e⟩
 refine⟨l,e5,e4,?_,fun j a s q1 q2=>?_,fun j j' a b s t z q1 q2 q3 q4 f1 f2=>?_,fun j r q e=>?_,⟨m.tp.tab,fun x h=>.inl (m.tp.ot x h),fun t b c e=>?_⟩,fun z o e n=>?_,fun z hz=>?_⟩
 ·rw[cm]
  unfold yZ
  rw[dB]
  exact m.len
 ·rcases old q1 with ⟨z,q⟩|⟨hj,q,ka⟩
  ·subst z q
   rw[e1] at q2;cases q2
   exact⟨l,l,l,rfl,rfl⟩
  ·refine (m.ok j a s q q2).to ka gs fun x o f e=>?_
   obtain⟨g1,g2,_⟩:=m.ft q q2 f
   refine⟨e,fun z=>z.elim g1 fun z=>hj (m.dj i j _ _ _ _ x hi q e1 q2 (by rw[z];exact rfl) f),?_⟩
   show (if Tp F x then H x else F.H0 x)=none
   rw[if_neg fun z=>g1 (Tp.own m.tp z)]
   exact g2
 ·rcases old q1 with ⟨_,q⟩|⟨_,w1,_⟩
  ·subst q;exact f1.elim
  ·rcases old q2 with ⟨_,q⟩|⟨_,w2,_⟩
   ·subst q;exact f2.elim
   ·exact m.dj j j' a b s t z w1 w2 q3 q4 f1 f2
 ·rcases old e with ⟨_,q⟩|⟨_,_,ka⟩
  ·cases q
  ·exact ka.elim
 ·cases e
  exact⟨⟨0,[x,y],[x,y],⟨rfl,rfl⟩,e2,e2,e2,⟨x,y,rfl,h0,h1⟩,rfl⟩,.inr rfl,.inr rfl,.inr rfl⟩
 ·have e':(if Tp F z then H z else F.H0 z)=some o:=e
  split at e'
  ·exact e'
  ·rename_i q
   exact m.keep z o e' ⟨fun t b c w=>⟨fun y=>q ⟨t,b,c,w,.inl y⟩,fun y=>q ⟨t,b,c,w,.inr (.inl y)⟩⟩,n.2⟩
 ·rcases hz with z|z
  ·exact m.oex _ z
  ·exact⟨_,by rw[z];exact e2,xu⟩
theorem zB.unrow (t:zB F H)(hl:¬F.O0 l)(tb:TabAt H')(k:Kz (F.row H l) (F.row H l).H0 H'):zB F H':=⟨tb,t.ot,fun a b c e=>by
 obtain⟨h1,h2,h3,h4⟩:=t a b c e
 refine⟨h1.off fun z hz=>?_,h2,h3,h4⟩
 have tz:Tp F z:=⟨a,b,c,e,hz⟩
 have oz:F.O0 z:=Tp.own t tz
 have nl:z≠l:=fun q=>hl (by rw[←q];exact oz)
 obtain⟨xs,ho⟩:=Tp.lst t tz
 rw[ho]
 refine k z _ ?_ ⟨fun t' b' c' w=>by cases w;exact⟨nl,nl⟩,Tp.noTab t tz⟩
 show (if Tp F z then H z else F.H0 z)=some _
 rw[if_pos tz];exact ho⟩
theorem Kz.unrow (m:M F α σ H)(h0:F.H0 l=none)(k:Kz (F.row H l) (F.row H l).H0 H'):Kz F F.H0 H':=fun x o e n=>by
 have nl:x≠l:=fun q=>by rw[q,h0] at e;cases e
 refine k x o ?_ ⟨fun t' b' c' w=>by cases w;exact⟨nl,nl⟩,n.2⟩
 show (if Tp F x then H x else F.H0 x)=some o
 split
 ·exact m.keep x o e n
 ·exact e
theorem M.unrow (m:M F α σ H)(h0:F.H0 l=none)(hl:¬F.O0 l)(m':M (F.row H l) α' σ' H'):M F (yZ α') σ' H':=by
 have ow:∀{z:Addr},Ow F (yZ α') σ' z→Ow (F.row H l) α' σ' z:=fun {z} h=>by
  rcases h with h|⟨j,a,s,w1,w2,w3⟩
  ·exact .inl (.inl h)
  ·exact .inr ⟨j,a,s,(yW w1).1,w2,w3⟩
 have gs:zu (Gz (F.row H l) α' σ' H') (Gz F (yZ α') σ' H'):=zl fun a o h e=>⟨fun z=>h (ow z),e⟩
 refine⟨?_,fun j a s q1 q2=>?_,fun j j' a b s t z q1 q2=>m'.dj j j' a b s t z (yW q1).1 (yW q2).1,fun j r q e=>?_,m.tp.unrow hl m'.tp.tab m'.keep,Kz.unrow m h0 m'.keep,fun z hz=>m'.oex z (.inl hz)⟩
 ·unfold yZ
  rw[dB]
  exact m'.len
 ·obtain⟨w1,ka⟩:=yW q1
  refine (m'.ok j a s w1 q2).to ka gs fun x o f e=>?_
  obtain⟨g1,g2,_⟩:=m'.ft w1 q2 f
  exact⟨e,fun z=>g1 (.inl z),rj m.tp g2⟩
 ·exact (yW e).2.elim
theorem xS.unrow {v:V}{a:A}(m:M F α σ H)(h0:F.H0 l=none)(hl:¬F.O0 l)(r:xS (F.row H l) v H' a):xS F v H' a:=by
 obtain⟨t,k,r⟩:=r
 exact⟨m.tp.unrow hl t.tab k,Kz.unrow m h0 k,r.to (fun _ z=>.inl z) fun x z=>rj m.tp z⟩
end
section
variable {X:Cx}{α:Ev}{E:ye}{sts rest body:List Stmt}{tg iter:Expr}{pos:Pos}
theorem iz (i:Nat){x y:Int}(hi:α[i]?=some (some (.own [.int x,.int y])))(h0:0≤y)(h1:y<4294967296)
  (h:SvS X ((yZ α).set i (some .tape)) sts {nx:=fun α'=>E.nx (yZ α'),rt:=E.rt,bk:=fun α'=>E.bk (yZ α'),ct:=fun α'=>E.ct (yZ α')}):SvS X α sts E:=fun F σ H D m r=>by
 obtain⟨l,e5,e4,mr⟩:=m.row hi h0 h1
 refine h _ σ H D mr ⟨fun α' σ' H' m' q=>r.nx _ _ _ (m.unrow e5 e4 m') q,fun a v H' z q=>r.rt a v H' (z.unrow m e5 e4) q,fun α' σ' H' m' q=>r.bk _ _ _ (m.unrow e5 e4 m') q,fun α' σ' H' m' q=>r.ct _ _ _ (m.unrow e5 e4 m') q⟩
theorem iN {pat:Pat}{F:Fr}{σ:St}{H:Hp}{D:Ends}(hp:PassesOwn (model X.prog X.w) X.A X.env X.xe)(hc:X.calm=true)(hg:PG X tg (qi X.K pat))(m:M F α σ H)(r:tT F E D)
  (h:∀R:It→Hp→Prop,(∀ds J H',vF X pat body rest E ds α→zB F H'→Kz F H H'→ItW (fun x=>¬Ow F α σ x) J ds (Gz F α σ H')→R J H')→ju X tg iter σ H R)
  (hs:∀x,foldedSetIterable iter X.env x=pure x):mL X (.For tg iter body [] pos::rest) D σ H:=by
 refine⟨_,zC (iX hp hc tV hg zM hs) zM,?_⟩
 refine h _ fun ds J H1 q1 t1 k1 itw=>?_
 have m1:=m.kz k1 t1
 have mu:=m1.up
 have ru:tT (F.up (Gz F α σ H1)) E D:=r.up
 refine⟨fun i n σ' H'=>n=ds.length-i∧i≤ds.length∧∃α',M (F.up (Gz F α σ H1)) α' σ' H'∧vF X pat body rest E (ds.drop i) α',⟨ds.length,by simp,dQ _,α,mu,q1⟩,?_⟩
 rintro i n σ' H' ⟨rfl,hi,α',m',lw⟩
 obtain⟨w1,w2⟩:=itw i H' _ (m1.upold m')
 by_cases hlt:i<ds.length
 ·have hd:ds[i]?=some ds[i]:=dX hlt
  rw[cL hlt] at lw
  obtain⟨α1,eb,body⟩:=lw
  obtain⟨go,yl⟩:=w1 _ hd
  refine .inr ⟨go,fun σ'' H''=>∃α',M (F.up (Gz F α σ H1)) α' σ'' H''∧vF X pat _ rest E (ds.drop (i+1)) α',fun σ'' H'' ⟨α'',r1,r2⟩=>⟨ds.length-(i+1),by omega,rfl,hlt,α'',r1,r2⟩,fun x H3 y=>?_⟩
  obtain⟨s23,avx⟩:=yl x H3 y
  have m3:=m'.kz (Kz.of_same s23) (m'.tp.same s23)
  refine pB eb m3 (avx fun a o _ e=>m'.fresh e) fun σ1 m4=>?_
  exact body _ σ1 H3 _ m4 ⟨fun α2 σ2 H2 m2 q=>⟨α2,m2,q⟩,ru.rt,fun α2 σ2 H2 m2 q=>q _ σ2 H2 D m2 ru,fun α2 σ2 H2 m2 q=>⟨α2,m2,q⟩⟩
 ·have e:i=ds.length:=by omega
  subst e
  rw[bq] at lw
  exact .inl ⟨w2 (dC _),lw _ σ' H' D m' ru⟩
end
section
variable {P:Program}{w:World}{K:PySem.W.Frag}{mg:Str→Option Value}{base:Heap}
def fr0 (H:Hp):Fr:=⟨H,vC,none⟩
theorem M.zero {H:Hp}{σ:St}{n:Nat}(tb:TabAt H)(hl:n=σ.length):M (fr0 H) (List.replicate n none) σ H:=by
 have no:∀(i:Nat) a,(List.replicate n (none:Option A))[i]?≠some (some a):=fun i a z=>by
  rw[cG] at z
  split at z<;>cases z
 exact⟨by rw[List.length_replicate];exact hl,fun i a s e=>absurd e (no i _),fun i j a b s t l e=>absurd e (no i _),fun i r q e=>absurd e (no i _),⟨tb,fun _ h=>h,fun t b c e=>by (cases e)⟩,fun _ _ e _=>e,fun x hx=>by
  obtain⟨o,ho,hn,_⟩:=vK tb hx
  exact⟨o,ho,hn⟩⟩
theorem SqL.same {H H':Hp}{a:Addr}{xs:List V}(h:SqL K H a xs)(s:zu H H'):SqL K H' a xs:=by
 rcases h with (h|⟨o,h⟩)|h
 ·exact .inl (.inl (s _ _ h))
 ·exact .inl (.inr ⟨o,s _ _ h⟩)
 ·exact .inr h
theorem et {st:Stmt}{f:Addr}{fd:FuncData}{N':List Str}{k:Nat}{x:Str}{pt:Pos}{p0 p1 p2 p3 p4 p5 p6 p7:Pos}{n0 n1:Nat}{kk:Int}{body rest:List Stmt}{j:Nat}(G:Fun K "law" "law" st f fd)(S:zi ("_law_script"::N') ["_law_script"] (zc st))
  (hb:zY st=.For (.Name x pt) (.BinOp (.List [.Constant (.int 0) n0 p0] p1) .Add (.Subscript (.Name "_law_script" p2) (.Slice none (some (.Constant (.int kk) n1 p3)) none p4) p5) p6) body [] p7::rest)
  (hv:Vis (zc st) "_law_script") (hj:(("_law_script":Str)::N')[j]?=some x) (hx:Loc (zc st) x)
  (hbody:∀(cdv:Value) (A':Around) (outer:List Env) (s:Shared) (H:Hp) (E:XK) (zs:List Int),yq k (A'.deeper (envOfC "law" (zc st) s.heap.objs.size f cdv))→zs.length≤64→
   vF (tj CX0 P w K mg base ("_law_script"::N') "law" (zc st) f cdv A' outer s H E).nox (.one j) body rest {nx:=fun _=>False,rt:=fun a=>a=.dat (.bool true)} (zs.map .int) (List.replicate (N'.length+1) none)):
  zK P w K mg base CX0 (k+1) f fd ["_law_script"] (rH K):=by
 refine G.ok S (fun vs H Q E h=>?_) (fun cdv A' outer s H vs Qc E hr h=>?_)
 ·obtain⟨a,ns,rfl,_⟩:=h
  rfl
 ·obtain⟨a,ns,rfl,hS,hn,tb,kq⟩:=h
  rw[hb]
  have mz:M (fr0 H) (List.replicate (N'.length+1) none) (L2.start ("_law_script"::N') [.ref a]) H:=M.zero tb (by unfold L2.start;simp)
  have no3:∀{l3:Addr},¬vC l3→¬Ow (fr0 H) (List.replicate (N'.length+1) none) (L2.start ("_law_script"::N') [.ref a]) l3:=fun {l3} hn=>by
   rintro (z|⟨i,ds,s,e1,e2,_⟩)
   ·exact hn z
   ·rw[cG] at e1
    split at e1<;>cases e1
  refine iN (E:={nx:=fun _=>False,rt:=fun a=>a=.dat (.bool true)}) (pat:=.one j) PassesOwn.never rfl (yQ (i:=j) S.nd hj hx) mz ⟨fun _ _ _ _ z=>z.elim,fun z v H' r e=>?_,fun _ _ _ _ z=>z.elim,fun _ _ _ _ z=>z.elim⟩ (fun R hR=>?_) (fun _=>rfl)
  ·cases e
   obtain⟨_,_,r⟩:=r
   rw[AV.bl_inv r]
   exact kq H'
  ·refine⟨_,ph (yu nj (nN (ze zo zt)) (uo pJ (xo (i:=0) rfl hv) qQ (qR zo))),?_⟩
   obtain⟨ms,em,lm⟩:=nE ns none (some kk)
   refine⟨(by show 1≤sizeLine;decide),fun l1 hl1=>⟨_,rfl,kk,rfl,a,ns.map V.int,rfl,SqL.same hS (zV hl1),fun l2 hl2=>?_⟩⟩
   rw[em] at *
   have n12:l1≠l2:=fun z=>by rw[←z,zr] at hl2;cases hl2
   have hl2':H l2=none:=by rw[zk n12.symm] at hl2;exact hl2
   refine⟨l1,l2,[.int 0],ms.map V.int,rfl,rfl,by rw[zk n12];exact zr,zr,by rw[dB];exact cD (yB (by simp;omega)),fun l3 hl3=>?_⟩
   have e3:([V.int 0]++ms.map V.int)=((0::ms).map V.int):=rfl
   rw[e3]
   have s3:zu H (upd (upd (upd H l1 (.lst [.int 0])) l2 (.lst (ms.map V.int))) l3 (.lst ((0::ms).map V.int))):=((zV hl1).trans (zV hl2)).trans (zV hl3)
   have hl3':H l3=none:=by
    have n13:l3≠l2:=fun z=>by rw[z,zr] at hl3;cases hl3
    have n11:l3≠l1:=fun z=>by rw[z,zk n12,zr] at hl3;cases hl3
    rw[zk n13,zk n11] at hl3;exact hl3
   refine⟨l3,rfl,⟨_,SqL.of zr⟩,hR ((0::ms).map .int) _ _ (hbody cdv A' outer s H E (0::ms) hr (by simp;omega)) (mz.tp.same s3) (Kz.of_same s3) fun i H2 p' sm=>⟨fun d hd=>?_,fun hl=>?_⟩⟩
   ·have ha:=SqL.of (K:=K) (zg (sm l3 _ (yr (no3 (vh tb hl3')) zr))).2
    obtain⟨v,hx,av⟩:=(rl (G:=H) (0::ms)).get hd
    refine⟨⟨_,v,ha,hx⟩,fun x' H3 y=>?_⟩
    obtain⟨e,y⟩:=y
    subst e
    have:=y _ ha
    rw[hx] at this;cases this
    rw[cc,dW] at hd hx
    obtain⟨z1,q1,rfl⟩:=hd
    obtain⟨z2,q2,rfl⟩:=hx
    rw[q1] at q2;cases q2
    exact⟨zu.refl _,fun _=>.int _⟩
   ·exact⟨_,SqL.of (zg (sm l3 _ (yr (no3 (vh tb hl3')) zr))).2,by rw[dB] at hl ⊢;exact hl⟩
end
section
variable {X:Cx}{α:Ev}{p pos ap:Pos}{a b c:Expr}{Q:PyData→Prop}
end
section
variable {X:Cx}{α:Ev}{E:ye}{rest:List Stmt}{tg iter:Expr}{pos:Pos}
end
section
variable {X:Cx}{α:Ev}{a b e tg:Expr}{p pos apos:Pos}{Q:PyData→Prop}
theorem jn (hg:Gl X "str")(hm:X.mg "str"=none)(h:EvD X α e fun x=>∃i:Int,x=.int i∧i.natAbs.log2<1920∧Q (.str (toString i)))(he:starEach [e] X.env=(false,eval e X.env)::starEach [] X.env:=by rfl):
  EvD X α (.Call (.Name "str" p) [e] [] pos) Q:=fun F σ H R m k=>by
 refine⟨_,vp tP hg hm boot_str (ze zb zt he) (he:=he),?_⟩
 refine h F σ H _ m fun x vx H1 q1 t1 k1 r1=>?_
 obtain⟨i,rfl,hz,q⟩:=q1
 cases r1.int_inv
 exact⟨i,rfl,hz,k _ _ H1 q t1 k1 (.str _)⟩
theorem uy :xr X (.type "int") (fun xs H Q=>∃x n,xs=[.str x]∧PySem.intText? x=some n∧x.length≤640∧Q (.int n) H):=by
 intro pins s σ H xs us Q I r h
 obtain⟨x,n,rfl,hn,hl,q⟩:=h
 obtain⟨u,rfl,t,rfl⟩:=vals1 r
 exact PySem.W.KIN.call_text hn hl ⟨.int n,H,I.tok _,⟨_,rfl⟩,q⟩
theorem qY (hg:Gl X "int")(hm:X.mg "int"=none)(h:EvD X α e fun x=>∃z n,x=.str z∧PySem.intText? z=some n∧z.length≤640∧Q (.int n))(he:starEach [e] X.env=(false,eval e X.env)::starEach [] X.env:=by rfl):
  EvD X α (.Call (.Name "int" p) [e] [] pos) Q:=fun F σ H R m k=>by
 refine⟨_,vp uy hg hm boot_int (ze zb zt he) (he:=he),?_⟩
 refine h F σ H _ m fun x vx H1 q1 t1 k1 r1=>?_
 obtain⟨z,n,rfl,hn,hl,q⟩:=q1
 cases r1.str_inv
 exact⟨z,n,rfl,hn,hl,k _ _ H1 q t1 k1 (.int _)⟩
theorem lM (hs:vM b)(h:EvD X α a fun x=>EvD X α b fun y=>∃z i c,x=.str z∧y=.int i∧z.length≤sizeLine∧atI z.cps.toList i=some c∧Q (.str ⟨#[c]⟩)):EvD X α (.Subscript a b pos) Q:=fun F σ H R m k=>by
 refine⟨_,yh nV zb zb hs,?_⟩
 refine h F σ H _ m fun x vx H1 q1 t1 k1 r1=>?_
 have m1:=m.kz k1 t1
 refine q1 F σ H1 _ m1 fun y vy H2 q2 t2 k2 r2=>?_
 obtain⟨z,i,c,rfl,rfl,hz,hc,q⟩:=q2
 cases r1.str_inv;cases r2.int_inv
 exact⟨z,i,c,rfl,rfl,hz,hc,k _ _ H2 q t2 (k1.trans k2) (.str _)⟩
theorem mC {x:Str}{z:Str}(hg:Gl X x)(hm:∃t,X.mg x=some (.str z t))(q:Q (.str z))(hd:(x == ("__debug__":Str))=false:=by decide):EvD X α (.Name x pos) Q:=fun F σ H R m k=>by
 obtain⟨t,hm⟩:=hm
 exact⟨_,vd hg hm (show RelV (.str z) _ from ⟨t,rfl⟩) hd,k _ _ H q m.tp Kz.refl (.str _)⟩
theorem gB (h:EvD X α a fun x=>EvD X α b fun y=>∃i j,x=.str i∧y=.str j∧Q (.bool (!(Builtin.Str.occurrences j i 0 j.length 1).isEmpty)))(hm:behindInMarks .In b=false:=by rfl):EvD X α (.Compare a [.In] [b] pos) Q:=fun F σ H R m k=>by
 refine⟨_,yT oM zb zb hm,?_⟩
 refine h F σ H _ m fun x vx H1 q1 t1 k1 r1=>?_
 have m1:=m.kz k1 t1
 refine q1 F σ H1 _ m1 fun y vy H2 q2 t2 k2 r2=>?_
 obtain⟨i,j,rfl,rfl,q⟩:=q2
 cases r1.str_inv;cases r2.str_inv
 exact⟨i,j,rfl,rfl,k _ _ H2 q t2 (k1.trans k2) (.bl _)⟩
theorem kR (hg:Gl X "tuple")(hm:X.mg "tuple"=none)(h:EvD X α e fun x=>∃ds,x=.list ds∧Q (.tuple ds))(he:starEach [e] X.env=(false,eval e X.env)::starEach [] X.env:=by rfl):
  EvD X α (.Call (.Name "tuple" p) [e] [] pos) Q:=fun F σ H R m k=>by
 refine⟨_,vp ux hg hm boot_tuple (ze zb zt he) (he:=he),?_⟩
 refine h F σ H _ m fun x vx H1 q1 t1 k1 r1=>?_
 obtain⟨ds,rfl,q⟩:=q1
 have m1:=m.kz k1 t1
 obtain⟨l,xs,rfl,h1,h2⟩:=r1.lst_inv
 refine⟨_,xs,rfl,.inl ⟨SqL.of (zg h1).2,fun l' hl=>?_⟩⟩
 exact k _ _ _ q (t1.same (zV hl)) (k1.trans (Kz.of_same (zV hl))) (.tup (xs:=xs) (yr (m1.fresh hl) zr) (h2.same (zl fun a o ha e=>⟨ha,by rw[zk (zq e hl)];exact e⟩)))
theorem uN :∀{ts:List Str} {us:List Value},Vals (ts.map .str) us→∃l:List (Str×Tok),us=strValues l∧l.map (·.1)=ts
 |[],_,.nil=>⟨[],rfl,rfl⟩
 |x::r,_,.cons h q=>by
  obtain⟨t,rfl⟩:=h
  obtain⟨l,rfl,rfl⟩:=uN q
  exact⟨(x,t)::l,rfl,rfl⟩
theorem AVs.strs {H:Hp}:∀{xs:List V} {ts:List Str},AVs H xs (ts.map .str)→xs=ts.map V.str
 |_,[],.nil=>rfl
 |_,b::bs,.cons h r=>by rw[h.str_inv,AVs.strs r];rfl
theorem jy :MtM X "str.join" (fun x xs H Q=>∃i l ts,x=.str i∧xs=[.ref l]∧SqL X.K H l (ts.map .str)∧JoinOk i ts=true∧Q (.str (Txt.join i ts)) H):=by
 intro pins s σ H x xs v us Q I rx rv h
 obtain⟨i,l,ts,rfl,rfl,hq,hj,q⟩:=h
 obtain⟨t,rfl⟩:=rx
 obtain⟨u,rfl,r1⟩:=vals1 rv
 cases r1
 obtain⟨its,r',pl,hz⟩:=I.list hq
 obtain⟨l',rfl,e⟩:=uN r'
 exact SC.join pl.isList e hj fun t' k=>⟨.str _,H,I.tok _,⟨_,rfl⟩,q⟩
theorem yP (h:EvD X α a fun x=>∃i,x=.str i∧EvD X α e fun y=>∃ts,y=.list (ts.map .str)∧JoinOk i ts=true∧Q (.str (Txt.join i ts)))(hbase:attributeBase a "join" X.env (eval a X.env)=eval a X.env:=by rfl)(hline:(apos.endLine == pos.line)=true:=by rfl)
  (he:starEach [e] X.env=(false,eval e X.env)::starEach [] X.env:=by rfl) (hfew:((backTo pos (starEach (e::[]) X.env)).all (fun x=>!x.1)&&(backToKw pos (keywordEach [] X.env)).all (fun x=>x.1.isSome)
   &&decide ((e::[]).length+([]:List Keyword).length+(if ([]:List Keyword).isEmpty then 0 else 1)<30))=true:=by rfl):EvD X α (.Call (.Attribute a "join" apos) [e] [] pos) Q:=fun F σ H R m k=>by
 refine⟨_,rE PySem.F.plainAttrs_str PySem.F.slot_str_join PySem.F.type_str_join jy zb (ze zb zt he) hbase hfew hline he rfl,?_⟩
 refine h F σ H _ m fun x vx H1 q1 t1 k1 r1=>?_
 have m1:=m.kz k1 t1
 obtain⟨i,rfl,q1⟩:=q1
 cases r1.str_inv
 refine⟨rfl,?_⟩
 refine q1 F σ H1 _ m1 fun y vy H2 q2 t2 k2 r2=>?_
 obtain⟨ts,rfl,hj,q⟩:=q2
 obtain⟨l,xs,rfl,h1,h2⟩:=r2.lst_inv
 cases h2.strs
 exact⟨i,l,ts,rfl,rfl,SqL.of (zg h1).2,hj,k _ _ H2 q t2 (k1.trans k2) (.str _)⟩
theorem uD :∀(l:List (Str×Tok)),Vals ((l.map (·.1)).map V.str) (strValues l)
 |[]=>.nil
 |p::r=>.cons ⟨p.2,rfl⟩ (uD r)
theorem mJ :MtM X "str.split" (fun x xs H Q=>∃i j,x=.str i∧xs=[.str j]∧(j.length == 0)=false∧i.length+2≤sizeLine∧∀l,H l=none→Q (.ref l) (upd H l (.lst ((Txt.split i j).map .str)))):=by
 intro pins s σ H x xs v us Q I rx rv h
 obtain⟨i,j,rfl,rfl,hj,hi,q⟩:=h
 obtain⟨t,rfl⟩:=rx
 obtain⟨u,rfl,t',rfl⟩:=vals1 rv
 have hs:(Txt.split i j).length≤sizeLine:=dq (split_le i j) hi
 have fin:∀(l:List (Str×Tok)) (tk:Nat),l.map (·.1)=Txt.split i j→EP X pins σ Q (.ref s.heap.objs.size) {s with heap:=s.heap.push {cls:=.type "list",data:=.seq (strValues l).toArray},toks:=tk}:=fun l tk e=>
  ⟨.ref s.heap.objs.size,_,I.laid (t':=tk) (fun b o e=>dF _ e) (dC _) (show yc X.prog X.w _ _ _ (.lst ((Txt.split i j).map .str)) from ⟨by rw[dB];exact hs,_,_,by rw[←e];exact uD l,dZ _ rfl⟩),rfl,q _ (I.hok.fresh (dC _))⟩
 cases h1:(decide (i.length<j.length)||decide (Builtin.Str.strKind i<Builtin.Str.strKind j))
 ·cases hf:(Builtin.Str.occurrences i j 0 i.length (i.length+1)).isEmpty
  ·have e:Builtin.Str.partsBetween i (Builtin.Str.occurrences i j 0 i.length (i.length+1)) j.length=Txt.split i j:=by
    rw[Txt.split,if_neg (bE h1),if_neg (bE hf)]
   refine cZ cQ (bw _ _ _) bh (cX _ _) (meets_str_split_sep i j t t' h1 hj hf (by omega) (by rw[e];exact hs)) ?_
   rw[e,strsFrom_eq]
   exact fin (numbered s.toks _) _ (numbered_texts _ _)
  ·exact cZ cQ (bw _ _ _) bh (cX _ _) (meets_str_split_not_found i j t t' h1 hj hf)
    (fin [(i,t)] s.toks (by rw[Txt.split,if_neg (bE h1),if_pos hf];rfl))
 ·exact cZ cQ (bw _ _ _) bh (cX _ _) (meets_str_split_cannot_occur i j t t' h1)
   (fin [(i,t)] s.toks (by rw[Txt.split,if_pos h1];rfl))
theorem AVs.of_strs {H:Hp}:∀(ts:List Str),AVs H (ts.map V.str) (ts.map .str)
 |[]=>.nil
 |x::r=>.cons (.str x) (AVs.of_strs r)
theorem wU {Q:List PyData→Prop}(h:EvD X α a fun x=>∃i,x=.str i∧EvD X α e fun y=>∃j,y=.str j∧(j.length == 0)=false∧i.length+2≤sizeLine∧Q ((Txt.split i j).map .str))(hbase:attributeBase a "split" X.env (eval a X.env)=eval a X.env:=by rfl)(hline:(apos.endLine == pos.line)=true:=by rfl)
  (he:starEach [e] X.env=(false,eval e X.env)::starEach [] X.env:=by rfl) (hfew:((backTo pos (starEach (e::[]) X.env)).all (fun x=>!x.1)&&(backToKw pos (keywordEach [] X.env)).all (fun x=>x.1.isSome)
   &&decide ((e::[]).length+([]:List Keyword).length+(if ([]:List Keyword).isEmpty then 0 else 1)<30))=true:=by rfl):EvL X α (.Call (.Attribute a "split" apos) [e] [] pos) Q:=fun F σ H R m k=>by
 refine⟨_,rE PySem.F.plainAttrs_str cQ PySem.F.type_str_split mJ zb (ze zb zt he) hbase hfew hline he rfl,?_⟩
 refine h F σ H _ m fun x vx H1 q1 t1 k1 r1=>?_
 have m1:=m.kz k1 t1
 obtain⟨i,rfl,q1⟩:=q1
 cases r1.str_inv
 refine⟨rfl,?_⟩
 refine q1 F σ H1 _ m1 fun y vy H2 q2 t2 k2 r2=>?_
 have m2:=m1.kz k2 t2
 obtain⟨j,rfl,hj,hi,q⟩:=q2
 cases r2.str_inv
 refine⟨i,j,rfl,rfl,hj,hi,fun p hp=>?_⟩
 obtain⟨g1,g2,g3⟩:=m2.lay hp (AVs.of_strs (Txt.split i j))
 exact k _ _ _ q g1 ((k1.trans k2).trans g2) (g3.back m (k1.trans k2) t2)
def Its (z:Str):It:=⟨fun i _=>i<z.cps.size,fun i H x H'=>H'=H∧∃c,z.cps[i]?=some c∧x=.str ⟨#[c]⟩,fun i _=>z.cps.size≤i⟩
theorem me {P:Program}{w:World}{K:PySem.W.Frag}{tg:Expr}(z:Str)(t:Tok)(it:Addr):Turn P w K tg (Its z) [it] it (fun i h=>h.IsStrIter it "str_ascii_iterator" z t i) where
 mem:=by simp
 obj:=fun i h st b hb=>by
  have e:b=it:=by simpa using hb
  subst e
  obtain⟨o,e,c,d⟩:=st
  exact⟨o,e,fun v z=>by rw[d] at z;cases z⟩
 keep:=fun i h h' st k=>by
  obtain⟨o,e,c,d⟩:=st
  exact⟨o,k it (by simp) o e,c,d⟩
 item:=by
  intro X hP hw hK hc i pins s σ H E I hf st hg
  subst hP hw hK
  obtain⟨f0,f1,f2,f3,f4,f5⟩:=hf it (by simp)
  have hx:z.cps[i]?=some z.cps[i]:=Array.getElem?_eq_getElem hg
  refine wpAny_pyNext_ascii_item st hx fun h' st' sb=>?_
  have I1:Inv X pins σ H {s with heap:=h',toks:=s.toks+1}:=I.turned (t':=s.toks+1) (fun b o hb e=>(sb.2 b hb).trans e) f0 f1 f3 f4 f5
  obtain⟨o,e,c,d⟩:=id st'
  exact⟨_,rfl,qV (s:={s with heap:=h',toks:=s.toks+1}) e c d (by decide) ⟨.str ⟨#[z.cps[i]]⟩,H,I1,⟨_,rfl⟩,⟨rfl,_,hx,rfl⟩,st',fun b hb=>(hf b hb).1⟩⟩
 done:=by
  intro X hP hw hK hc i pins s σ H E I hf st hg
  subst hP hw hK
  obtain⟨f0,f1,f2,f3,f4,f5⟩:=hf it (by simp)
  exact wpAny_pyNext_ascii_end (I.ok.hd hc) st (Array.getElem?_eq_none hg) fun h' eb=>⟨rfl,I.turned (t':=s.toks) (fun b o hb e=>eb b o hb e) f0 f1 f3 f4 f5⟩
 self:=fun _ _ _ _ _ st h=>wpAny_pyIter_striter_ascii st h
def eU (tl:TE):TI:=fun σ H R=>tl σ H fun x H1=>∃z,x=.str z∧z.cps.all (·<128)=true∧R (Its z) H1
theorem iW {l:Expr}{tl:TE}(hl:PE X l tl):PI X tg l (eU tl):=by
 intro pins s σ H R I h
 refine thn (hl pins s σ H _ I h) fun v s1 ⟨x,H1,I1,r1,q1⟩=>?_
 obtain⟨z,e,ha,q⟩:=q1
 subst e
 obtain⟨t,rfl⟩:=r1
 refine wpAny_pyIter_ascii ha ?_
 refine⟨s1.heap.objs.size,[s1.heap.objs.size],_,_,H1,rfl,I1.kept (t':=s1.toks) fun b o e=>dF _ e,me z t _,⟨_,dZ _ rfl,rfl,rfl⟩,fun b hb=>?_,q⟩
 have e:b=s1.heap.objs.size:=by simpa using hb
 subst e
 exact I1.fpOk (dC _) (I1.hok.fresh (dC _))
def sgn (z:Str):List PyData:=z.cps.toList.map fun c=>.str ⟨#[c]⟩
theorem nG {Q:List PyData→Prop}(h:EvD X α e fun x=>∃z,x=.str z∧z.cps.all (·<128)=true∧Q (sgn z)):EvI X α tg e Q:=fun F σ H R m k=>by
 refine⟨_,iW zb,?_⟩
 refine h F σ H _ m fun x vx H1 q1 t1 k1 r1=>?_
 obtain⟨z,rfl,ha,q⟩:=q1
 cases r1.str_inv
 refine⟨z,rfl,ha,k _ _ H1 q t1 k1 fun i H2 p s=>⟨fun d hd=>?_,fun hl=>?_⟩⟩
 ·rw[sgn,cc,Array.getElem?_toList] at hd
  obtain⟨c,hc,rfl⟩:=dW.mp hd
  obtain⟨hi,_⟩:=Array.getElem?_eq_some_iff.mp hc
  refine⟨hi,fun x' H3 y=>?_⟩
  obtain⟨e,c',hc',rfl⟩:=y
  subst e
  rw[hc] at hc';cases hc'
  exact⟨zu.refl _,fun _=>.str _⟩
 ·rw[sgn,dB,bB] at hl
  exact hl
end
section
variable {X:Cx}{α:Ev}{a b e:Expr}{rest:List Expr}{p pos apos:Pos}{Q:PyData→Prop}
def ie (c:Bool):PyData→Bool
 |.bool d=>d == c
 |_=>false
def plV :V→Bool
 |.non|.bl _|.int _|.str _|.ref _=>true
 |_=>false
def ed (c:Bool):V→Bool
 |.bl d=>d == c
 |_=>false
theorem hU :OpR X (compareOp .Is) (fun x y H Q=>∃c,y=.bl c∧plV x=true∧Q (.bl (ed c x)) H):=by
 intro pins s σ H x y v u Q I rx ry h
 obtain⟨c,rfl,hp,q⟩:=h
 cases ry
 cases x with
 |non=>cases rx;exact ba rfl (zp I q rfl)
 |bl d=>cases rx;exact ba rfl (zp I q (by cases c<;>cases d<;>rfl))
 |int i=>obtain⟨t,rfl⟩:=rx;exact ba rfl (zp I q rfl)
 |str i=>obtain⟨t,rfl⟩:=rx;exact ba rfl (zp I q rfl)
 |ref l=>cases rx;exact ba rfl (zp I q rfl)
 |_=>cases hp
theorem AV.isB {H:Hp}{v:V}{d:PyData}(c:Bool)(h:AV H v d):plV v=true∧ed c v=ie c d:=by cases h<;>exact⟨rfl,rfl⟩
theorem gf {T:Bool→Prop}{j:Nat}{c:Bool}(h:EvD X α a fun x=>T (ie c x)):EvT X α (.Compare a [.Is] [.Constant (.bool c) j p] pos) T:=
 yK hU (zA _) (h.imp fun x h=>jN ⟨ie c x,fun p H vx vy R rx ry z=>by
  cases ry.bl_inv
  exact⟨c,rfl,(rx.isB c).1,by rw[(rx.isB c).2];exact z⟩,h⟩)
end
theorem xF {x y:Str}(h:x.cps.toList=y.cps.toList):x=y:=by
 cases x;cases y;congr 1;exact Array.toList_inj.mp h
def fig (n:Nat):Str:=toString (n:Int)
theorem lB (n:Nat):(fig n).cps.toList=(Nat.toDigits 10 n).map Char.toNat:=PySem.W.KIN.signs_num n
theorem kK (n:Nat):PySem.NumText.AllDigits (fig n).cps.toList:=by
 intro c hc
 rw[lB] at hc
 obtain⟨ch,hch,e⟩:=List.mem_map.mp hc
 rw[←e]
 exact digit_range (Nat.isDigit_of_mem_toDigits (by decide) (by decide) hch)
theorem kj {n k:Nat}(hk:1≤k)(h:n<10 ^ k):(fig n).length≤k:=toString_length_le (by omega) hk (by exact_mod_cast h)
section
variable {prog:Program}{w:World}{E:Value→Shared→Prop}{s:Shared}
end
section
variable {X:Cx}{α:Ev}{elts:List Expr}{kk:Nat}{tp p pos:Pos}{a b:Expr}
end
section
variable {X:Cx}{α:Ev}{a b e:Expr}{p pos apos:Pos}{Q:PyData→Prop}
theorem qW (hg:Gl X "len")(hm:X.mg "len"=none)(h:EvD X α e fun x=>∃z,x=.str z∧z.length≤sizeLine∧Q (.int z.length))(he:starEach [e] X.env=(false,eval e X.env)::starEach [] X.env:=by rfl):
  EvD X α (.Call (.Name "len" p) [e] [] pos) Q:=by
 refine xM mE hg hm bG (za (h.imp fun x ⟨z,e1,hz,q⟩=>zf ?_) he) (he:=he)
 intro F σ H vs R m rv k
 obtain⟨v,rfl,av⟩:=rv.one
 subst e1
 cases av.str_inv
 exact⟨_,_,rfl,⟨hz,rfl⟩,k _ _ H q m.tp Kz.refl (.int _)⟩
theorem oW {T:Bool→Prop}(h:EvD X α a fun x=>EvD X α b fun y=>∃i j,x=.str i∧y=.str j∧T (!(!(Builtin.Str.occurrences j i 0 j.length 1).isEmpty)))(hm:behindInMarks .NotIn b=false:=by rfl):EvT X α (.Compare a [.NotIn] [b] pos) T:=
 yK sE hm (h.imp fun x h=>h.imp fun y ⟨i,j,e1,e2,q⟩=>⟨_,fun p H vx vy R rx ry z=>by
  subst e1 e2
  cases rx.str_inv;cases ry.str_inv
  exact⟨i,j,rfl,rfl,z⟩,q⟩)
end
section
variable {prog:Program}{w:World}{A:Around}{E:Value→Shared→Prop}{s:Shared}
theorem qh {env:Env}{elts:List Expr}{x1:Nat}{pos:Pos}{t:Addr}{a b:Value}{Q:Unit→Shared→Prop}(hh:A.handled=none)(ht:s.heap.IsList t #[a,b])(hn:(assignEach elts env).length=2)(hs:(assignEach elts env).findIdx? (·.1)=none)
  (h:∀h',Heap.ExtBut s.heap.objs.size s.heap h'→wpAny (model prog w) A (assignInOrder ((assignEach elts env).map (·.2)) [a,b]) Q E {s with heap:=h'}):wpAny (model prog w) A (assign (.Tuple elts x1 pos) env (.ref t)) Q E s:=by
 have lt:t≠s.heap.objs.size:=by obtain⟨o,ho,_⟩:=ht;exact cg (dD ho)
 rw[arm_assign_Tuple]
 refine dS (wpAny_standAt ?_)
 unfold unpack
 rw[hn,hs]
 refine dS (cE ?_)
 unfold unpackItems
 refine dS ?_
 unfold notIterableAtAll
 refine dS (wpAny_specialOf ht.typeIs slot_list_iter.lookup (cq ?_))
 simp only[cW,if_false]
 refine dS (cE (wpAny_pyIter_list ht ?_))
 refine dS (cE (show wpAny _ _ (pyNext (.ref _) >>= _) _ _ _ from dS (bj (i:=0) ⟨_,dZ _ rfl,rfl,rfl⟩ (ht.push _) (x:=a) rfl fun h1 i1 e1=>?_)))
 refine dS (cE (show wpAny _ _ (pyNext (.ref _) >>= _) _ _ _ from dS (bj i1 ((ht.push _).extBut e1.extBut lt) (x:=b) rfl fun h2 i2 e2=>?_)))
 refine dS (cE (show wpAny _ _ (pure []) _ _ _ from cq (cq (cq ?_))))
 have l2:h2.IsList t #[a,b]:=((ht.push _).extBut e1.extBut lt).extBut e2.extBut lt
 rw[if_neg (by simp)]
 refine dS (cE (wpAny_pyNext_list_end hh i2 l2 (by simp) fun h3 e3=>?_))
 simp only[Option.isSome_none,cW,if_false]
 exact cq (h h3 fun c o hc e=>e3 c o hc (e2.extBut c o hc (e1.extBut c o hc (dF _ e))))
end
section
variable {X:Cx}{α:Ev}{e:Expr}{es:List Expr}{kk:Nat}{p pos:Pos}{sts:List Stmt}{E:ye}
def gT (K:PySem.W.Frag)(t:TGs):TG:=fun v σ H Q=>∃a x y,v=.ref a∧SqL K H a [x,y]∧t [x,y] σ H Q
theorem kU {t:TGs}(hc:X.calm=true)(h:PGs X es t)(hn:(assignEach es X.env).length=2:=by rfl)(hst:(assignEach es X.env).findIdx? (·.1)=none:=by rfl):PG X (.Tuple es kk p) (gT X.K t):=by
 intro pins s σ H v u Q I r hw
 obtain⟨a,x,y,e1,hq,hw⟩:=hw
 subst e1
 cases r
 obtain⟨its,rv,pl,hz⟩:=I.list hq
 obtain⟨u1,u2,rfl,r1,r2⟩:=Vals.two rv
 refine qh (I.ok.hd hc) pl.isList hn hst fun h' hx=>?_
 have I1:Inv X pins σ H {s with heap:=h'}:=I.kept (t':=s.toks) fun b o e=>hx b o (cg (dD e)) e
 exact h pins _ σ H [x,y] _ Q I1 rv hw
theorem qL (i j:Nat)(hg:PGs X es (gIs [i,j]))(hc:X.calm=true)(h:EvD X α e fun d=>∃x y,d=.list [x,y]∧SvS X ((α.set i (some (.dat x))).set j (some (.dat y))) sts E)
  (hs:swapsWithSole [.Tuple es kk p] e pos.line X.env=pure false:=by rfl) (hw:swappedStores [.Tuple es kk p] e X.env=pure none:=by rfl) (h1:(assignEach [.Tuple es kk p] X.env).map (·.2)=[assign (.Tuple es kk p) X.env]:=by rfl)
  (hn:(assignEach es X.env).length=2:=by rfl) (hst:(assignEach es X.env).findIdx? (·.1)=none:=by rfl):SvS X α (.Assign [.Tuple es kk p] e pos::sts) E:=fun F σ H D m r=>by
 refine⟨_,zC (vZ zb (kU hc hg hn hst) hs hw h1) zM,?_⟩
 refine h F σ H _ m fun d v H1 q1 t1 k1 r1=>?_
 obtain⟨x,y,rfl,q⟩:=q1
 obtain⟨a,xs,rfl,g1,g2⟩:=r1.lst_inv
 match xs,g2 with
 |[vx,vy],g2=>
  exact⟨a,vx,vy,rfl,SqL.of (zg g1).2,vv (is:=[i,j]) (ds:=[x,y]) rfl (m.kz k1 t1) (fun G s=>g2.same s) fun σ' m'=>q F σ' H1 D m' r⟩
end
section
variable {X:Cx}{α:Ev}{a:Expr}{p pos:Pos}{Q:PyData→Prop}
theorem rp {v:Value}{o:Option Int}(h:IsPart v o):∃l:Option (Int×Tok),v=partValue l∧l.map (·.1)=o:=by
 cases h with
 |none=>exact⟨none,rfl,rfl⟩
 |int i t=>exact⟨some (i,t),rfl,rfl⟩
theorem gn :SlR X (fun x lo hi H Q=>∃z,x=.str z∧z.length≤sizeLine∧Q (.str (Txt.slice z lo hi)) H):=by
 intro pins s σ H x v vl vu lo hi sl Q I rx hs pl pu h
 obtain⟨z,rfl,hz,q⟩:=h
 obtain⟨t,rfl⟩:=rx
 obtain⟨l,rfl,rfl⟩:=rp pl
 obtain⟨u,rfl,rfl⟩:=rp pu
 exact⟨"str",_,F.slot_str_getitem.lookup,bw _ _ _,wpAny_getItem_str_slice (l:=l) (u:=u) (st:=none) hs rfl (post_val_or_str ⟨dq (Txt.slice_le z _ _) hz,fun t' k=>⟨.str _,H,I.tok _,⟨_,rfl⟩,q⟩⟩)⟩
theorem rN {lo hi:Option Expr}(h:EvD X α a fun x=>EvO X α lo fun l=>EvO X α hi fun u=>∃z,x=.str z∧z.length≤sizeLine∧Q (.str (Txt.slice z l u))):EvD X α (.Subscript a (.Slice lo hi none p) pos) Q:=fun F σ H R m k=>by
 refine⟨_,uo gn zb vJ vJ,?_⟩
 refine h F σ H _ m fun x vx H1 q1 t1 k1 r1=>?_
 have m1:=m.kz k1 t1
 refine q1 F σ H1 _ m1 fun l H2 q2 t2 k2=>?_
 have m2:=m1.kz k2 t2
 refine q2 F σ H2 _ m2 fun u H3 q3 t3 k3=>?_
 obtain⟨z,rfl,hz,q⟩:=q3
 cases r1.str_inv
 exact⟨z,rfl,hz,k _ _ _ q t3 ((k1.trans k2).trans k3) (.str _)⟩
end
section
variable {X:Cx}{α:Ev}{p pos ap:Pos}{a b c:Expr}{Q:PyData→Prop}
theorem uh (h0:Heap){x:Str}{z:Value}{vz:V}{dz:PyData}(sz:scV dz=some vz)(rz:RelV vz z):∀{kvs:List (Str×Value)} {D:List (PyData×PyData)},PyProof.V.FlatPairs PyData.str kvs D→(∀q∈D,∃v,scV q.2=some v)→∃v,scV ((wu D x).getD dz)=some v∧RelV v ((valueAt kvs x).getD z)
 |_,_,.nil,_=>⟨vz,sz,rz⟩
 |_,_,.cons (k:=k) (v:=u) (d:=d') (kvs:=kvs) (D:=D) f r,hs=>by
  unfold wu
  by_cases q:k=x
  ·rw[if_pos q]
   obtain⟨v,hv⟩:=hs (.str k,d') dE
   refine⟨v,hv,?_⟩
   have e:valueAt ((k,u)::kvs) x=some u:=by simp[valueAt,q]
   rw[e]
   exact kr h0 hv f
  ·rw[if_neg q]
   obtain⟨v,h1,h2⟩:=uh h0 (x:=x) sz rz r fun z hz=>hs z (dA _ hz)
   refine⟨v,h1,?_⟩
   have e:valueAt ((k,u)::kvs) x=valueAt kvs x:=by simp[valueAt,cI,q]
   rw[e]
   exact h2
theorem jq {keys:List (Option Expr)}{values:List Expr}{D:List (PyData×PyData)}{ty tz:TE}(hD:litPairs keys values=some D)(h1:strKeyed D=true)(h2:(strKeysOf D).Nodup)(h3:keys.all (·.isSome)=true)(h4:keys.length=values.length)(h5:keys≠[])(h6:keys.length≤15)(hsc:∀q∈D,∃v,scV q.2=some v)(hi:PE X a ty)(hj:PE X b tz)
  (hbase:attributeBase (.Dict keys values p) "get" X.env (eval (.Dict keys values p) X.env)=eval (.Dict keys values p) X.env)
  (hfew:((backTo pos (starEach [a,b] X.env)).all (fun x=>!x.1)&&(backToKw pos (keywordEach [] X.env)).all (fun x=>x.1.isSome)&&decide (([a,b]:List Expr).length+([]:List Keyword).length+(if ([]:List Keyword).isEmpty then 0 else 1)<30))=true)
  (hline:(ap.endLine == pos.line)=true) (htr:backTo pos (starEach [a,b] X.env)=[(false,eval a X.env),(false,eval b X.env)]):
  PE X (.Call (.Attribute (.Dict keys values p) "get" ap) [a,b] [] pos) (fun σ H Q=>ty σ H fun y H1=>tz σ H1 fun z H2=>∃x dz v,y=.str x∧scV dz=some z∧scV ((wu D x).getD dz)=some v∧Q v H2):=by
 intro pins s σ H Q I h
 refine wpAny_Call_method hbase hfew hline PySem.F.plainAttrs_dict PySem.F.slot_dict_get PySem.F.type_dict_get (Dict_lits_str hD h1 h2 h3 h4 h5 h6 fun ad o h₁ tk hsz ho tab kp=>?_)
 obtain⟨kvs,isd,fl⟩:=tab
 have I1:Inv X pins σ H {s with heap:=h₁,toks:=tk}:=I.kept kp
 have hcell:∀v,o.data≠.cell v:=fun v z=>by
  obtain⟨es,ep,_,e,_⟩:=isd
  rw[e] at z;cases z
 have I1':Inv X ((ad,o)::pins) σ H {s with heap:=h₁,toks:=tk}:=I1.pins_of fun q hq=>by
  rcases dm.mp hq with rfl|hq
  ·exact⟨ho,I.hok.fresh hsz,fun z=>absurd I.lt (by rw[←z];exact Nat.not_lt.mpr hsz),I.nofs hsz,hcell⟩
  ·exact I1.pin q (by first|exact hq|exact dN _ hq|exact cJ _ hq)
 obtain⟨es,ep,a1,a2,a3,a4,a5⟩:=isd
 have dd1:h₁.DictOf (PySem.strKind X.prog X.w) ad kvs:=⟨o,es,ep,ho,a1,a2,a3,a4,a5⟩
 refine⟨dd1.typeIs,fun z hz=>?_,?_⟩
 ·cases hz
  exact⟨o,ho,a1.2.1⟩
 rw[htr]
 refine Calls.callWith_builtin rfl (Calls.evalArgs_plain (Calls.spliced_cons (thn (hi _ _ σ H _ I1' h) fun iv s2 ⟨y,H2,I2,ry,g2⟩=>Calls.spliced_cons (thn (hj _ _ σ H2 _ I2 g2) fun jv s3 ⟨z,H3,I3,rz,x,dz,v,ey,sz,hv,q2⟩=>Calls.spliced_nil ?_))))
 subst ey
 obtain⟨t,rfl⟩:=ry
 have hp:=I3.pin (ad,o) (by first|exact dE|exact dN _ dE|exact cJ _ dE)
 have dd:s3.heap.DictOf (PySem.strKind X.prog X.w) ad kvs:=⟨o,es,ep,hp.1,a1,a2,a3,a4,a5⟩
 have I4:Inv X pins σ H3 s3:=I3.pins_of fun q hq=>I3.pin q (by rcases cv.mp (dN X.pn hq) with z|z;exact cJ _ z;exact dN _ (dA _ z))
 have hsys:(ad == sysModules)=false:=by
  have hb:sysModules<s.heap.objs.size:=Nat.lt_trans (by decide) (I.mod.glob.keeps I.bk).lt
  exact cT.mpr fun z=>absurd hb (by rw[←z];exact Nat.not_lt.mpr hsz)
 refine call_meetsIn PySem.F.slot_dict_get dd.typeIs PySem.F.entry_dict_get (PySem.F.args_dict_get_3 _ _ _) (meets_dict_get_default (PySem.strKind X.prog X.w) ad (show (PySem.strKind X.prog X.w).is x (.str x t)=true by simp[PySem.strKind,Value.isStrOf]) hsys jv) ⟨_,dd.mapOf,?_⟩
 obtain⟨v',g1,g2⟩:=uh s.heap (x:=x) sz rz fl hsc
 rw[hv] at g1;cases g1
 exact⟨v,H3,I4.tok _,g2,q2⟩
theorem wR {keys:List (Option Expr)}{values:List Expr}{D:List (PyData×PyData)}(hD:litPairs keys values=some D)(h1:strKeyed D=true)(h2:(strKeysOf D).Nodup)(hsc:∀q∈D,∃v,scV q.2=some v)(h:EvD X α a fun y=>EvD X α b fun z=>∃x n v,y=.str x∧z=.int n∧scV ((wu D x).getD (.int n))=some v∧Q ((wu D x).getD (.int n)))
  (h3:keys.all (·.isSome)=true:=by rfl) (h4:keys.length=values.length:=by rfl) (h5:keys≠[]:=by exact List.cons_ne_nil _ _) (h6:keys.length≤15:=by decide)
  (hbase:attributeBase (.Dict keys values p) "get" X.env (eval (.Dict keys values p) X.env)=eval (.Dict keys values p) X.env:=by rfl)
  (hfew:((backTo pos (starEach [a,b] X.env)).all (fun x=>!x.1)&&(backToKw pos (keywordEach [] X.env)).all (fun x=>x.1.isSome)&&decide (([a,b]:List Expr).length+([]:List Keyword).length+(if ([]:List Keyword).isEmpty then 0 else 1)<30))=true:=by rfl)
  (hline:(ap.endLine == pos.line)=true:=by rfl) (htr:backTo pos (starEach [a,b] X.env)=[(false,eval a X.env),(false,eval b X.env)]:=by rfl):EvD X α (.Call (.Attribute (.Dict keys values p) "get" ap) [a,b] [] pos) Q:=fun F σ H R m k=>by
 refine⟨_,jq hD h1 h2 h3 h4 h5 h6 hsc zb zb hbase hfew hline htr,?_⟩
 refine h F σ H _ m fun y vy H1 q1 t1 k1 r1=>?_
 have m1:=m.kz k1 t1
 refine q1 F σ H1 _ m1 fun z vz H2 q2 t2 k2 r2=>?_
 obtain⟨x,n,v,rfl,rfl,g2,q⟩:=q2
 cases r1.str_inv
 cases r2.int_inv
 exact⟨x,.int n,v,rfl,rfl,g2,k _ _ H2 q t2 (k1.trans k2) (iD g2)⟩
def jo (x:Str)(n:Nat):Str:=⟨(List.replicate n x.cps).foldl (·++·) #[]⟩
theorem rY :OpR X (binaryOp .Mult) (fun x y H Q=>∃i n,x=.str i∧y=.int n∧2≤n∧n≤1000∧i.length≠0∧i.length*n.toNat≤16000∧(jo i n.toNat).length≤16000∧Q (.str (jo i n.toNat)) H):=by
 intro pins s σ H x y v u Q I rx ry h
 obtain⟨i,n,rfl,rfl,n2,n1,l0,l1,l2,q⟩:=h
 obtain⟨t,rfl⟩:=rx
 obtain⟨t',rfl⟩:=ry
 have hs:16000≤sizeLine:=by decide
 have e1:(n == 1||i.length == 0)=false:=by
  rw[cR]
  exact⟨cT.mpr (by omega),cT.mpr l0⟩
 refine PySem.P.mul_str (by rw[dh (by omega),dh (by omega)];rfl) (fun _ _=>?_) (fun _ _=>?_) ?_
 ·have h1:i.length≤16000:=dq (Nat.le_mul_of_pos_right _ (by omega)) l1
  have h2:(16000:Int)≤(2 ^ 63-1) / n:=(Int.le_ediv_iff_mul_le (by omega)).mpr (by omega)
  omega
 ·unfold Builtin.Str.tooLong
  exact dh (by omega)
 ·rw[if_neg (by omega),if_neg (by rw[e1];decide)]
  exact⟨dq l2 hs,⟨.str _,H,I.tok _,⟨_,rfl⟩,q⟩⟩
theorem ke (h:EvD X α a fun x=>EvD X α b fun y=>∃i n,x=.str i∧y=.int n∧2≤n∧n≤1000∧i.length≠0∧i.length*n.toNat≤16000∧(jo i n.toNat).length≤16000∧Q (.str (jo i n.toNat))):EvD X α (.BinOp a .Mult b pos) Q:=by
 refine vt (f:=tOp _) (yu rY zb zb) (fun _ _ _=>Iff.rfl) (h.imp fun x h=>h.imp fun y ⟨i,n,e1,e2,l1,l2,l3,l4,l5,hq⟩=>?_)
 subst e1 e2
 intro F σ H vx vy R m rx ry k
 cases rx.str_inv;cases ry.int_inv
 exact⟨i,n,rfl,rfl,l1,l2,l3,l4,l5,k _ _ H hq m.tp Kz.refl (.str _)⟩
end
section
variable {X:Cx}{α:Ev}{e:Expr}{kk:Nat}{p pos:Pos}{rest:List Stmt}{E:ye}
theorem fX {F:Fr}{σ:St}{H:Hp}{i:Nat}{c c':PyData}{l:Addr}{o':HO}(hi:α[i]?=some (some (.ow c)))(hl:σ[i]?=some (some (.ref l))):zu (Gz F α σ H) (Gz F (α.set i (some (.ow c'))) σ (upd H l o')):=by
 have hs:∀{j:Nat} {a:A} {s:Option V},(α.set i (some (.ow c')))[j]?=some (some a)→σ[j]?=some s→(i=j∧a=.ow c'∧s=some (.ref l))∨(i≠j∧α[j]?=some (some a)):=fun {j a s} e1 e2=>by
  rcases zI e1 with ⟨rfl,z⟩|⟨hj,e1'⟩
  ·cases z;rw[hl] at e2;cases e2;exact .inl ⟨rfl,rfl,rfl⟩
  ·exact .inr ⟨hj,e1'⟩
 have oww:∀{y:Addr},Ow F (α.set i (some (.ow c'))) σ y→Ow F α σ y:=fun {y} h=>by
  rcases h with z|⟨j,a,s,e1,e2,f⟩
  ·exact .inl z
  ·rcases hs e1 e2 with ⟨rfl,rfl,rfl⟩|⟨hj,e1'⟩
   ·exact .inr ⟨i,_,_,hi,hl,f⟩
   ·exact .inr ⟨j,a,s,e1',e2,f⟩
 have ol:Ow F α σ l:=.inr ⟨i,_,_,hi,hl,rfl⟩
 exact zl fun a o h e=>⟨fun z=>h (oww z),by rw[zk (fun z=>h (by rw[z];exact ol))];exact e⟩
theorem lX (i:Nat){x:Str}{ix1 ix2:Expr}{ds:List PyData}{p1 p2 p3 p4:Pos}(hi:α[i]?=some (some (.own ds)))(hc:X.calm=true)
  (h:EvD X α e fun d=>∃a b,d=.tuple [a,b]∧EvD X α ix1 fun y=>∃k j,y=.int k∧ixN ds.length k=some j∧EvD X (α.set i (some (.own (ds.set j a)))) ix2 fun y2=>∃k2 j2,y2=.int k2∧ixN ds.length k2=some j2∧SvS X (α.set i (some (.own ((ds.set j a).set j2 b)))) rest E)
  (hN:X.N[i]?=some x:=by rfl) (hv:Vis X.env.scope x:=by first|exact Or.inl rfl|exact Or.inr (Or.inl rfl)|exact Or.inr (Or.inr rfl))
  (hs:swapsWithSole [.Tuple [.Subscript (.Name x p1) ix1 p2,.Subscript (.Name x p3) ix2 p4] kk p] e pos.line X.env=pure false:=by rfl) (hw:swappedStores [.Tuple [.Subscript (.Name x p1) ix1 p2,.Subscript (.Name x p3) ix2 p4] kk p] e X.env=pure none:=by rfl)
  (ha:(assignEach [.Tuple [.Subscript (.Name x p1) ix1 p2,.Subscript (.Name x p3) ix2 p4] kk p] X.env).map (·.2)=[assign (.Tuple [.Subscript (.Name x p1) ix1 p2,.Subscript (.Name x p3) ix2 p4] kk p) X.env]:=by rfl)
  (hps:PGs X [.Subscript (.Name x p1) ix1 p2,.Subscript (.Name x p3) ix2 p4] (pI (km (mQ i) (vw X ix1) pz) (pI (km (mQ i) (vw X ix2) pz) iy)):=by exact yJ (ue (xo rfl (by first|exact Or.inl rfl|exact Or.inr (Or.inl rfl)|exact Or.inr (Or.inr rfl))) zb set_list) (yJ (ue (xo rfl (by first|exact Or.inl rfl|exact Or.inr (Or.inl rfl)|exact Or.inr (Or.inr rfl))) zb set_list) wO))
  (hn:(assignEach [.Subscript (.Name x p1) ix1 p2,.Subscript (.Name x p3) ix2 p4] X.env).length=2:=by rfl) (hst:(assignEach [.Subscript (.Name x p1) ix1 p2,.Subscript (.Name x p3) ix2 p4] X.env).findIdx? (·.1)=none:=by rfl):
  SvS X α (.Assign [.Tuple [.Subscript (.Name x p1) ix1 p2,.Subscript (.Name x p3) ix2 p4] kk p] e pos::rest) E:=fun F σ H D m r=>by
 obtain⟨l,xs,h1,h2,h3,h4,h5⟩:=m.own i ds hi
 refine⟨_,zC (vZ zb (gw hc hps hn hst) hs hw ha) zM,?_⟩
 refine h F σ H _ m fun d v H1 q1 t1 k1 r1=>?_
 obtain⟨a,b,rfl,q1⟩:=q1
 obtain⟨ad,vs,rfl,g1,g2⟩:=r1.tup_inv
 obtain⟨va,vb,rfl,ra,rb⟩:∃va vb,vs=[va,vb]∧AV _ va a∧AV _ vb b:=by
  cases g2 with
  |cons ra g2=>cases g2 with
   |cons rb g2=>cases g2;exact⟨_,_,rfl,ra,rb⟩
 have m1:=m.kz k1 t1
 refine⟨ad,[va,vb],rfl,SqT.of (zg g1).2,rfl,va,[vb],rfl,?_⟩
 refine⟨.ref l,h1,?_⟩
 refine q1 F σ H1 _ m1 fun y vy H2 q2 t2 k2 r2=>?_
 have m2:=m1.kz k2 t2
 obtain⟨k,j,rfl,hj,q2⟩:=q2
 cases r2.int_inv
 have hx1:=(h3.same (k1.gz m.tp)).same (k2.gz m1.tp)
 have ra2:=ra.same (k2.gz m1.tp)
 have m3:=m2.wrOwn hi h1 (hx1.set ra2 j)
 refine⟨l,xs,k,j,rfl,rfl,k2 _ _ (k1 _ _ h2 (m.tp.nt h4)) (m.tp.nt h4),by rw[h3.length];exact hj,vb,[],rfl,?_⟩
 have lt:i<α.length:=by
  rcases Nat.lt_or_ge i α.length with z|z
  ·exact z
  ·rw[List.getElem?_eq_none z] at hi;cases hi
 have hi':(α.set i (some (.own (ds.set j a))))[i]?=some (some (.own (ds.set j a))):=cz lt
 obtain⟨l',xs',e1,e2,e3,e4,e5⟩:=m3.own i _ hi'
 rw[h1] at e1;cases e1
 have hl:(xs.set j va).length=ds.length:=by rw[cm,h3.length]
 refine⟨.ref l,h1,?_⟩
 refine q2 F σ _ _ m3 fun y2 vy2 H3 q3 t3 k3 r3=>?_
 have m4:=m3.kz k3 t3
 obtain⟨k2',j2,rfl,hj2,q⟩:=q3
 cases r3.int_inv
 have ex:xs'=xs.set j va:=by
  rw[zr] at e2
  exact (HO.lst.inj (dM e2)).symm
 subst ex
 refine⟨l,xs.set j va,k2',j2,rfl,rfl,k3 _ _ e2 (m3.tp.nt e4),by rw[hl];exact hj2,rfl,?_⟩
 have rb2:=((rb.same (k2.gz m1.tp)).same (fX (F:=F) (H:=H2) (c':=.list (ds.set j a)) (o':=.lst (xs.set j va)) hi h1)).same (k3.gz m3.tp)
 have m5:=m4.wrOwn hi' h1 ((e3.same (k3.gz m3.tp)).set rb2 j2)
 rw[List.set_set] at m5
 exact q F σ _ D m5 r
end
end L2
set_option maxHeartbeats 4000000
namespace K22
open PySem PySem.Spec PyProof.Rows L2
def top (i:Nat):Stmt:=PySem.Challenge.pw_stayprice_k22_texts_of_no_rule.main.body.getD i (.Pass ⟨0,0,0,0⟩)
abbrev nA :Stmt:=top 26
abbrev qq :Stmt:=top 25
def qE :List A→(A→Prop)→Prop:=fun as Q=>∃c:Int,as=[.dat (.int c)]∧∀x y:Int,0≤y→y<4294967296→Q (.own [.int x,.int y])
section
variable {P:Program}{w:World}{K:PySem.W.Frag}{mg:Str→Option Value}{base:Heap}
theorem qz :zi ["_law_row","_law_base","_law_found","_law_number_here"] ["_law_row","_law_base"] (zc nA):=⟨rfl,rfl,rfl,by decide +kernel,rfl,by decide +kernel,by decide +kernel⟩
theorem jj {f:Addr}{fd:FuncData}(F:Fun K "_law_take" "_law_take" nA f fd):zK P w K mg base CX0 1 f fd ["_law_row","_law_base"] mU:=by
 refine F.ok qz (fun vs H Q E h=>?_) (fun cdv A outer s H vs Q E hr h=>?_)
 ·obtain⟨t,b,c,many,rfl,_⟩:=h
  rfl
 ·obtain⟨t,b,c,many,rfl,⟨n,bs,cs,⟨eb,ec⟩,ht,hb,hc,⟨x,y,rfl,y0,y1⟩,hn⟩,hm0,hm1,k⟩:=h
  rw[eb,ec] at k
  have hlog:many.natAbs.log2<9000:=log2_small hm0 hm1
  have ht:H t=some (.lst [.int x,.int y]):=ht
  refine xk (fun σ H3=>σ=[some (.ref t),some (.int many),none,none]∧H=H3)
   ⟨_,uJ (xi jI (yh yS (pv 0) zo (fun _ _=>rfl)) zo (zA _))
    (zC (sD (i:=2) qz.nd rfl (Or.inl rfl) (yu ui (yh yS (pv 0) zo (fun _ _=>rfl)) (pv 1)))
    (zC (vZ (yu ua (yh yS (pv 0) zo (fun _ _=>rfl)) (pv 1)) (ue (pv 0) zo set_list))
    (zL (zX (pv 2))))) we,?_⟩ ?_
  ·refine⟨_,rfl,t,_,0,_,rfl,rfl,SqL.of ht,rfl,_,_,rfl,rfl,_,rfl,?_⟩
   refine yM (fun _=>?_) (fun _=>⟨rfl,rfl⟩)
   refine⟨_,rfl,t,_,0,_,rfl,rfl,SqL.of ht,rfl,_,rfl,_,_,rfl,rfl,hm0,?_⟩
   refine⟨_,rfl,t,_,0,_,rfl,rfl,SqL.of ht,rfl,_,rfl,_,_,rfl,rfl,⟨hm0,hlog⟩,?_⟩
   refine⟨_,rfl,t,_,0,0,rfl,rfl,ht,rfl,_,rfl,?_⟩
   refine k _ _ (bx _ (Int.ne_of_gt hm0)) (cY _ hm0) ⟨0,[x / many,y],[x / many,y],⟨rfl,rfl⟩,zr,zr,zr,⟨_,_,rfl,y0,y1⟩,rfl⟩ fun a h1 h2=>by rw[zk h1]
  rintro σ H3 ⟨rfl,rfl⟩
  refine xk (fun σ H1=>∃z:Int,0≤z∧z<2147483647∧σ=[some (.ref t),some (.int many),none,none]∧H1=upd H t (.lst [.int x,.int z]))
   ⟨_,vZ (yu ui (yu sj (yu tO (yh yS (pv 0) zo (fun _ _=>rfl)) zo) zo) zo) (ue (pv 0) zo set_list),?_⟩ ?_
  ·refine⟨_,rfl,t,_,1,_,rfl,rfl,SqL.of ht,rfl,_,_,rfl,rfl,.inl ⟨by omega,by omega⟩,_,_,rfl,rfl,_,_,rfl,rfl,(by show (0:Int)<2147483647;decide),?_⟩
   exact⟨_,rfl,t,_,1,1,rfl,rfl,ht,rfl,_,bx _ (by decide),cY _ (by decide),rfl,rfl⟩
  rintro σ H1 ⟨z,z0,z1,rfl,hH1⟩
  have ht1:H1 t=some (.lst [.int x,.int z]):=by rw[hH1];exact zr
  have off:gj t t H H1:=fun a h1 _=>by rw[hH1,zk h1]
  clear hH1
  refine xk (fun σ H2=>∃u:Int,σ=[some (.ref t),some (.int many),none,some (.int u)]∧H1=H2)
   ⟨_,sD (i:=3) qz.nd rfl (Or.inl rfl) (yu ui (yu sj (yu sj (yu tO (yh yS (pv 0) zo (fun _ _=>rfl)) (yh yS (pv 0) zo (fun _ _=>rfl))) (yu tO zo (yh yS (pv 0) zo (fun _ _=>rfl)))) zo) zo),?_⟩ ?_
  ·exact⟨_,rfl,t,_,1,_,rfl,rfl,SqL.of ht1,rfl,_,rfl,t,_,1,_,rfl,rfl,SqL.of ht1,rfl,_,_,rfl,rfl,.inl ⟨by omega,by omega⟩,_,rfl,t,_,1,_,rfl,rfl,SqL.of ht1,rfl,_,_,rfl,rfl,.inl ⟨by decide,by decide⟩,_,_,rfl,rfl,_,_,rfl,rfl,_,_,rfl,rfl,(by show (0:Int)<2147483629;decide),_,rfl,rfl⟩
  rintro σ H2 ⟨u,rfl,rfl⟩
  refine⟨_,zL (zX (yu ui (yu ua (pv 3) zo) (pv 1))),?_⟩
  refine⟨_,rfl,_,_,rfl,rfl,⟨by decide,by decide +kernel⟩,_,rfl,_,_,rfl,rfl,hm0,?_⟩
  exact k _ _ (bx _ (Int.ne_of_gt hm0)) (cY _ hm0) ⟨0,[x,z],[x,z],⟨rfl,rfl⟩,ht1,ht1,ht1,⟨_,_,rfl,z0,by omega⟩,rfl⟩ off
theorem lD {f:Addr}{fd:FuncData}(hm:mg "_law_take"=some (.ref f))(hk:PySem.W.keepIn K (.ref f)=true)(hb:Binds K fd ["_law_row","_law_base"] [])(G:zK P w K mg base CX0 1 f fd ["_law_row","_law_base"] mU):Cal P w K mg base "_law_take" 1 xD:=by
 refine⟨f,fd,_,hm,hk,hb,G.imp fun vs H Q E h=>?_⟩
 obtain⟨F,as,Q',rfl,t,o,rv,⟨n,rfl,h0,h1,hq⟩,kk⟩:=h
 cases rv with
 |cons a1 r=>
  obtain⟨ta,b,c,e,rfl⟩:=a1
  obtain⟨v,rfl,av⟩:=r.one
  cases av.int_inv
  refine⟨ta,b,c,n,rfl,(t ta b c e).1,h0,h1,fun z H' z0 z1 TA off=>kk _ _ _ (hq z z0 z1) ⟨⟨(by
   obtain⟨_,_,_,_,e1,e2,_⟩:=(t ta b c e).1.ex
   exact kM t.tab e1 e2 off),t.ot,fun t' b' c' e'=>?_⟩,fun y u hy n=>?_,.int z⟩⟩
  ·rw[e] at e';cases e'
   exact⟨TA,(t ta b c e).2⟩
  ·rw[off y (n.1 _ _ _ e).1 (n.1 _ _ _ e).2];exact hy
theorem lZ :zi ["_law_cell"] ["_law_cell"] (zc qq):=⟨rfl,rfl,rfl,by decide +kernel,rfl,by decide +kernel,by decide +kernel⟩
theorem oH {f:Addr}{fd:FuncData}(F:Fun K "_law_begin" "_law_begin" qq f fd)(hm:mg "_law_begin"=some (.ref f))(hb:Binds K fd ["_law_cell"] []):Cal P w K mg base "_law_begin" 1 qE:=by
 refine xQ F hm hb lZ (fun as Q h=>?_) (fun cdv A' outer s H E as Q hr h=>?_)
 ·obtain⟨c,rfl,_⟩:=h
  rfl
 ·obtain⟨c,rfl,q⟩:=h
  refine uO (jL (zd 0 rfl (yC (r:=1000000000000000000) ⟨by decide,by decide,by decide⟩ (by decide) ⟨_,_,rfl,rfl,?_⟩)))
  refine nh (fun _=>?_) (fun _=>yg ?_)
  ·exact pe (yN (za (tQ (zd 0 rfl (yC (r:=1000000000000000000) ⟨by decide,by decide,by decide⟩ (by decide) ⟨_,_,rfl,rfl,za (zh (zf ⟨_,rfl,du rfl,q _ _ (by decide) (by decide)⟩))⟩)))))
  ·refine pe (yN (za (zh (za (xA (nQ (zd 0 rfl (zh ⟨_,_,rfl,rfl,by decide,zh ⟨_,_,rfl,rfl,zf ⟨_,rfl,du rfl,?_⟩⟩⟩))))))))
   have h1:=bx c (show (2147483629:Int)≠0 by decide)
   have h2:=cY c (show (0:Int)<2147483629 by decide)
   exact q _ _ (by omega) (by omega)
end
abbrev sF :Stmt:=top 3
abbrev sC :Stmt:=top 4
abbrev lL :Stmt:=top 5
abbrev hZ :Stmt:=top 6
abbrev nk :Stmt:=top 7
abbrev ur :Stmt:=top 8
structure sX (mg:Str→Option Value)(fW fI fP fD fPD:Addr):Prop where
 isi:mg "isinstance"=none
 int:mg "int"=none
 bool:mg "bool"=none
 tuple:mg "tuple"=none
 len:mg "len"=none
 last:∃t,mg "LAST_DAY"=some (.int 1000000 t)
 most:∃t,mg "MOST_NIGHTS"=some (.int 14 t)
 whole:mg "is_whole"=some (.ref fW)
 within:mg "is_whole_within"=some (.ref fI)
 pair:mg "is_pair"=some (.ref fP)
 day:mg "is_day"=some (.ref fD)
 days:mg "is_pair_of_days"=some (.ref fPD)
section
variable {P:Program}{w:World}{K:PySem.W.Frag}{mg:Str→Option Value}{base:Heap}{fW fI fP fD fPD:Addr}
theorem ky :zi ["thing"] ["thing"] (zc sF):=⟨rfl,rfl,rfl,by decide +kernel,rfl,by decide +kernel,by decide +kernel⟩
theorem nB {f:Addr}{fd:FuncData}(F:Fun K "is_whole" "is_whole" sF f fd)(T:sX mg fW fI fP fD fPD):zK P w K mg base CX0 1 f fd ["thing"] (yo rT):=by
 refine F.ok ky (fun vs H Q E h=>?_) (fun cdv A outer s H vs Q E hr h=>?_)
 ·obtain⟨x,d,rfl,_⟩:=h
  rfl
 ·obtain⟨x,d,rfl,hd,q⟩:=h
  refine⟨_,zL (zX (yA (yt yV (by rfl) T.isi cO (ze (pv 0) (ze (xY (v:=.ty "int") (by rfl) T.int boot_int rfl) zt)))
   (yX (gi (yt yV (by rfl) T.isi cO (ze (pv 0) (ze (xY (v:=.ty "bool") (by rfl) T.bool boot_bool rfl) zt))))))),?_⟩
  rw[oq] at q
  refine⟨_,rfl,x,"int",d,_,rfl,hd,jr d,_,rfl,?_⟩
  refine yM (fun h=>?_) (fun h=>?_)
  ·rw[h,cA] at q
   exact⟨_,rfl,x,"bool",d,_,rfl,hd,vV d,_,rfl,q⟩
  ·rw[dY.mpr h,cC] at q
   exact q
theorem mI :zi ["thing","lowest","highest"] ["thing","lowest","highest"] (zc sC):=⟨rfl,rfl,rfl,by decide +kernel,rfl,by decide +kernel,by decide +kernel⟩
theorem oA {f:Addr}{fd fdW:FuncData}(F:Fun K "is_whole_within" "is_whole_within" sC f fd)(T:sX mg fW fI fP fD fPD)(FW:Fun K "is_whole" "is_whole" sF fW fdW)(bW:Binds K fdW ["thing"] []):
  zK P w K mg base CX0 2 f fd ["thing","lowest","highest"] xU:=by
 have GW:zK P w K mg base CX0 1 fW fdW ["thing"] (yo rT):=nB FW T
 refine F.ok mI (fun vs H Q E h=>?_) (fun cdv A outer s H vs Q E hr h=>?_)
 ·obtain⟨x,d,lo,hi,rfl,_⟩:=h
  rfl
 ·obtain⟨x,d,lo,hi,rfl,hd,q⟩:=h
  refine⟨_,zL (zX (yA (zG GW hr (by rfl) T.whole FW.kp bW .nil yz (ze (pv 0) zt)) (yX (mY wk wk (pv 1) (pv 0) (pv 2))))),?_⟩
  refine⟨_,rfl,x,d,rfl,hd,_,rfl,?_⟩
  cases hd with
  |int i=>
   have q':Q (.bl (decide (lo≤i)&&decide (i≤hi))) H:=q
   refine wy ⟨_,rfl,_,rfl,_,_,rfl,rfl,_,rfl,?_⟩
   refine yM (fun h=>?_) (fun h=>?_)
   ·rw[h,cA] at q'
    exact⟨_,rfl,_,_,rfl,rfl,q'⟩
   ·rw[dY.mpr h,cC] at q'
    exact q'
  |_=>exact ve q
theorem jV :zi ["thing"] ["thing"] (zc lL):=⟨rfl,rfl,rfl,by decide +kernel,rfl,by decide +kernel,by decide +kernel⟩
theorem lY {f:Addr}{fd:FuncData}(F:Fun K "is_pair" "is_pair" lL f fd)(T:sX mg fW fI fP fD fPD):zK P w K mg base CX0 1 f fd ["thing"] (yo pairD):=by
 refine F.ok jV (fun vs H Q E h=>?_) (fun cdv A outer s H vs Q E hr h=>?_)
 ·obtain⟨x,d,rfl,_⟩:=h
  rfl
 ·obtain⟨x,d,rfl,hd,q⟩:=h
  refine⟨_,zL (zX (yA (yt yV (by rfl) T.isi cO (ze (pv 0) (ze (xY (v:=.ty "tuple") (by rfl) T.tuple boot_tuple rfl) zt)))
   (yX (yT uY (yt xx (by rfl) T.len bG (ze (pv 0) zt)) zo (zA _))))),?_⟩
  refine⟨_,rfl,x,"tuple",d,_,rfl,hd,uF d,_,rfl,?_⟩
  cases hd with
  |@tup a xs ds e hs=>
   refine wy ⟨_,rfl,a,_,rfl,.inr (SqT.of e),rfl,?_⟩
   rw[kL,hs.length]
   exact q
  |_=>exact ve q
theorem gX :zi ["thing"] ["thing"] (zc hZ):=⟨rfl,rfl,rfl,by decide +kernel,rfl,by decide +kernel,by decide +kernel⟩
theorem gm {f:Addr}{fd fdI:FuncData}(F:Fun K "is_day" "is_day" hZ f fd)(T:sX mg fW fI fP fD fPD)(GI:zK P w K mg base CX0 2 fI fdI ["thing","lowest","highest"] xU)(kI:PySem.W.keepIn K (.ref fI)=true)(bI:Binds K fdI ["thing","lowest","highest"] []):
  zK P w K mg base CX0 3 f fd ["thing"] (yo xH):=by
 obtain⟨tl,hl⟩:=T.last
 refine F.ok gX (fun vs H Q E h=>?_) (fun cdv A outer s H vs Q E hr h=>?_)
 ·obtain⟨x,d,rfl,_⟩:=h
  rfl
 ·obtain⟨x,d,rfl,hd,q⟩:=h
  refine⟨_,zL (zX (zG GI hr (by rfl) T.within kI bI .nil yz (ze (pv 0) (ze zo (ze (vd (v:=.int 1000000) (by rfl) hl ⟨tl,rfl⟩) zt))))),?_⟩
  exact⟨_,rfl,x,d,_,_,rfl,hd,q⟩
theorem iG :zi ["thing"] ["thing"] (zc nk):=⟨rfl,rfl,rfl,by decide +kernel,rfl,by decide +kernel,by decide +kernel⟩
theorem lV {f:Addr}{fd fdP fdD:FuncData}(F:Fun K "is_pair_of_days" "is_pair_of_days" nk f fd)(T:sX mg fW fI fP fD fPD)(GP:zK P w K mg base CX0 1 fP fdP ["thing"] (yo pairD))(kP:PySem.W.keepIn K (.ref fP)=true)(bP:Binds K fdP ["thing"] [])
  (GD:zK P w K mg base CX0 3 fD fdD ["thing"] (yo xH)) (kD:PySem.W.keepIn K (.ref fD)=true) (bD:Binds K fdD ["thing"] []):zK P w K mg base CX0 4 f fd ["thing"] (yo vR):=by
 refine F.ok iG (fun vs H Q E h=>?_) (fun cdv A outer s H vs Q E hr h=>?_)
 ·obtain⟨x,d,rfl,_⟩:=h
  rfl
 ·obtain⟨x,d,rfl,hd,q⟩:=h
  have hr1:yq 1 _:=hr.mono (by decide)
  refine⟨_,zL (zX (yA (zG GP hr1 (by rfl) T.pair kP bP .nil yz (ze (pv 0) zt))
   (yA (zG GD hr (by rfl) T.day kD bD .nil yz (ze (yh yO (pv 0) zo (fun _ _=>rfl)) zt))
   (yX (zG GD hr (by rfl) T.day kD bD .nil yz (ze (yh yO (pv 0) zo (fun _ _=>rfl)) zt)))))),?_⟩
  refine⟨_,rfl,x,d,rfl,hd,_,rfl,?_⟩
  refine yM (fun h=>?_) (fun h=>?_)
  ·obtain⟨a,b,rfl⟩:=vG h
   cases hd with
   |tup e hs=>
    cases hs with
    |cons ha hs=>
     cases hs with
     |cons hb hs=>
      cases hs
      have q':Q (.bl (xH a&&xH b)) H:=q
      refine⟨_,rfl,_,_,0,_,rfl,rfl,SqT.of e,rfl,_,_,rfl,ha,_,rfl,?_⟩
      refine yM (fun h=>?_) (fun h=>?_)
      ·rw[h,cA] at q'
       exact⟨_,rfl,_,_,1,_,rfl,rfl,SqT.of e,rfl,_,_,rfl,hb,q'⟩
      ·rw[dY.mpr h,cC] at q'
       exact q'
  ·have e:vR d=false:=by
    unfold vR
    split
    ·exact absurd rfl h
    ·rfl
   rw[e] at q
   exact q
theorem oX :zi ["thing"] ["thing"] (zc ur):=⟨rfl,rfl,rfl,by decide +kernel,rfl,by decide +kernel,by decide +kernel⟩
theorem qc {f:Addr}{fd fdP:FuncData}(F:Fun K "is_stretch" "is_stretch" ur f fd)(T:sX mg fW fI fP fD fPD)(G:zK P w K mg base CX0 4 fPD fdP ["thing"] (yo vR))(kP:PySem.W.keepIn K (.ref fPD)=true)(bP:Binds K fdP ["thing"] []):
  zK P w K mg base CX0 5 f fd ["thing"] (yo zU):=by
 refine F.ok oX (fun vs H Q E h=>?_) (fun cdv A outer s H vs Q E hr h=>?_)
 ·obtain⟨x,d,rfl,_⟩:=h
  rfl
 ·obtain⟨x,d,rfl,hd,q⟩:=h
  refine⟨_,zL (zX (yA (zG G hr (by rfl) T.days kP bP .nil yz (ze (pv 0) zt))
   (yX (yT wk (yh yO (pv 0) zo (fun _ _=>rfl)) (yh yO (pv 0) zo (fun _ _=>rfl)) (zA _))))),?_⟩
  refine⟨_,rfl,x,d,rfl,hd,_,rfl,?_⟩
  refine yM (fun h=>?_) (fun h=>?_)
  ·obtain⟨a,b,rfl,ef⟩:=qg h
   unfold zU at q
   rw[ef] at q
   have q':Q (.bl (decide (0≤b-a))) H:=q
   have eq1:decide (0≤b-a)=decide (a≤b):=by
    rw[decide_eq_decide]
    omega
   rw[eq1] at q'
   cases hd with
   |tup e hs=>
    cases hs with
    |cons ha hs=>
     cases ha
     cases hs with
     |cons hb hs=>
      cases hb
      cases hs
      exact⟨_,rfl,_,_,0,_,rfl,rfl,SqT.of e,rfl,_,rfl,_,_,1,_,rfl,rfl,SqT.of e,rfl,_,_,rfl,rfl,q'⟩
  ·rw[vQ] at h
   unfold zU at q
   cases ef:tB d with
   |some k=>rw[ef] at h;exact absurd rfl h
   |none=>
    rw[ef] at q
    exact q
end
abbrev qm :Stmt:=top 11
abbrev tE :Stmt:=top 12
abbrev qu :Stmt:=top 13
abbrev so :Stmt:=top 14
structure mG (mg:Str→Option Value)(fW fI fP fD fPD fS fC fDl fWo fR fM:Addr)(cs:Cs):Prop where
 d:sX mg fW fI fP fD fPD
 coinsMost:∃t,mg "MOST_COINS"=some (.int 1000000000000 t)
 stretch:mg "is_stretch"=some (.ref fS)
 coins:mg "is_coins"=some (.ref fC)
 deal:mg "is_deal"=some (.ref fDl)
 worth:mg "is_worth"=some (.ref fWo)
 rule:mg "is_rule"=some (.ref fR)
section
variable {P:Program}{w:World}{K:PySem.W.Frag}{mg:Str→Option Value}{base:Heap}{fW fI fP fD fPD fS fC fDl fWo fR fM:Addr}{cs:Cs}
theorem kA :zi ["thing"] ["thing"] (zc qm):=⟨rfl,rfl,rfl,by decide +kernel,rfl,by decide +kernel,by decide +kernel⟩
theorem mH {f:Addr}{fd fdI:FuncData}(F:Fun K "is_coins" "is_coins" qm f fd)(T:mG mg fW fI fP fD fPD fS fC fDl fWo fR fM cs)(GI:zK P w K mg base CX0 2 fI fdI ["thing","lowest","highest"] xU)(kI:PySem.W.keepIn K (.ref fI)=true)(bI:Binds K fdI ["thing","lowest","highest"] []):
  zK P w K mg base CX0 3 f fd ["thing"] (yo wK):=by
 obtain⟨tl,hl⟩:=T.coinsMost
 refine F.ok kA (fun vs H Q E h=>?_) (fun cdv A outer s H vs Q E hr h=>?_)
 ·obtain⟨x,d,rfl,_⟩:=h
  rfl
 ·obtain⟨x,d,rfl,hd,q⟩:=h
  refine⟨_,zL (zX (zG GI hr (by rfl) T.d.within kI bI .nil yz (ze (pv 0) (ze zo (ze (vd (v:=.int 1000000000000) (by rfl) hl ⟨tl,rfl⟩) zt))))),?_⟩
  exact⟨_,rfl,x,d,_,_,rfl,hd,q⟩
theorem mj :zi ["thing"] ["thing"] (zc tE):=⟨rfl,rfl,rfl,by decide +kernel,rfl,by decide +kernel,by decide +kernel⟩
theorem om {f:Addr}{fd fdI fdP:FuncData}(F:Fun K "is_deal" "is_deal" tE f fd)(T:mG mg fW fI fP fD fPD fS fC fDl fWo fR fM cs)(GI:zK P w K mg base CX0 2 fI fdI ["thing","lowest","highest"] xU)(kI:PySem.W.keepIn K (.ref fI)=true)(bI:Binds K fdI ["thing","lowest","highest"] [])
  (GP:zK P w K mg base CX0 1 fP fdP ["thing"] (yo pairD)) (kP:PySem.W.keepIn K (.ref fP)=true) (bP:Binds K fdP ["thing"] []):zK P w K mg base CX0 3 f fd ["thing"] (yo wm):=by
 obtain⟨tm,hm⟩:=T.d.most
 refine F.ok mj (fun vs H Q E h=>?_) (fun cdv A outer s H vs Q E hr h=>?_)
 ·obtain⟨x,d,rfl,_⟩:=h
  rfl
 ·obtain⟨x,d,rfl,hd,q⟩:=h
  have hr1:yq 1 _:=hr.mono (by decide)
  refine⟨_,zL (zX (yA (zG GP hr1 (by rfl) T.d.pair kP bP .nil yz (ze (pv 0) zt))
   (yA (zG GI hr (by rfl) T.d.within kI bI .nil yz (ze (yh yO (pv 0) zo (fun _ _=>rfl)) (ze zo (ze (vd (v:=.int 14) (by rfl) hm ⟨tm,rfl⟩) zt))))
   (yX (zG GI hr (by rfl) T.d.within kI bI .nil yz (ze (yh yO (pv 0) zo (fun _ _=>rfl)) (ze zo (ze (yu lb (yh yO (pv 0) zo (fun _ _=>rfl)) zo) zt)))))))),?_⟩
  refine⟨_,rfl,x,d,rfl,hd,_,rfl,?_⟩
  refine yM (fun h=>?_) (fun h=>?_)
  ·obtain⟨a,b,rfl⟩:=vG h
   cases hd with
   |tup e hs=>
    cases hs with
    |cons ha hs=>
     cases hs with
     |cons hb hs=>
      cases hs
      refine⟨_,rfl,_,_,0,_,rfl,rfl,SqT.of e,rfl,_,_,_,_,rfl,ha,_,rfl,?_⟩
      cases ha with
      |int m=>
       have q':Q (.bl (zE 2 14 (.int m)&&zE 1 (m-1) b)) H:=q
       refine yM (fun h=>?_) (fun h=>?_)
       ·rw[h,cA] at q'
        exact⟨_,rfl,_,_,1,_,rfl,rfl,SqT.of e,rfl,_,rfl,_,_,0,_,rfl,rfl,SqT.of e,rfl,_,_,rfl,rfl,_,_,_,_,rfl,hb,q'⟩
       ·rw[dY.mpr h,cC] at q'
        exact q'
      |_=>exact ve q
  ·have e:wm d=false:=by
    unfold wm
    split
    ·exact absurd rfl h
    ·rfl
   rw[e] at q
   exact q
theorem jB :zi ["word","thing"] ["word","thing"] (zc qu):=⟨rfl,rfl,rfl,by decide +kernel,rfl,by decide +kernel,by decide +kernel⟩
theorem lT {f:Addr}{fd fdI fdC fdDl:FuncData}(F:Fun K "is_worth" "is_worth" qu f fd)(T:mG mg fW fI fP fD fPD fS fC fDl fWo fR fM cs)(GI:zK P w K mg base CX0 2 fI fdI ["thing","lowest","highest"] xU)(kI:PySem.W.keepIn K (.ref fI)=true)(bI:Binds K fdI ["thing","lowest","highest"] [])
  (GC:zK P w K mg base CX0 3 fC fdC ["thing"] (yo wK)) (kC:PySem.W.keepIn K (.ref fC)=true) (bC:Binds K fdC ["thing"] []) (GDl:zK P w K mg base CX0 3 fDl fdDl ["thing"] (yo wm)) (kDl:PySem.W.keepIn K (.ref fDl)=true) (bDl:Binds K fdDl ["thing"] []):
  zK P w K mg base CX0 4 f fd ["word","thing"] pw:=by
 obtain⟨tm,hm⟩:=T.d.most
 refine F.ok jB (fun vs H Q E h=>?_) (fun cdv A outer s H vs Q E hr h=>?_)
 ·obtain⟨x,y,dw,dv,rfl,_⟩:=h
  rfl
 ·obtain⟨x,y,dw,dv,rfl,hx,sw,hy,q⟩:=h
  have hr2:yq 2 _:=hr.mono (by decide)
  have hu:=hr.units
  have st:∀{z:Str},z∈words→SeqAt.shaped (.str z)=true:=fun {z} hz=>qk (by
   simp only[words,dm,dy,cb] at hz
   rcases hz with rfl|rfl|rfl|rfl|rfl|rfl|rfl<;>decide +kernel)
  unfold zw at q
  -- if word == 'price'
  refine xk (fun σ H1=>σ=[some x,some y]∧eqS dw "price"=false∧H=H1)
   ⟨_,uJ (xi (xV hu) (pv 0) xK (zA _)) (zL (zX (my (yT tZ (pv 1) sk (zA _)) (yX (zG GC hr (by rfl) T.coins kC bC .nil yz (ze (pv 1) zt)))))) we,?_⟩ ?_
  ·refine⟨_,rfl,dw,.str "price",hx,.str _,sw,st (by simp[words]),_,rfl,?_⟩
   refine yM (fun h=>?_) (fun h=>⟨rfl,dY.mpr h,rfl⟩)
   rw[if_pos h] at q
   refine⟨_,rfl,rfl,_,rfl,?_⟩
   rw[hy.non_iff]
   refine yM (fun h2=>?_) (fun h2=>?_)
   ·rw[h2,Bool.true_or] at q
    exact q
   ·rw[dY.mpr h2,bM] at q
    exact⟨_,rfl,y,dv,rfl,hy,q⟩
  rintro σ H1 ⟨rfl,e1,rfl⟩
  rw[e1,if_neg dr] at q
  -- if word == 'come' or word == 'go'
  refine xk (fun σ H1=>σ=[some x,some y]∧(eqS dw "come"||eqS dw "go")=false∧H=H1)
   ⟨_,uJ (PW.pt (mK (xi (xV hu) (pv 0) xK (zA _)) (rZ (xi (xV hu) (pv 0) xK (zA _))))) (zL (zX (yt yV (by rfl) T.d.isi cO (ze (pv 1) (ze (xY (v:=.ty "bool") (by rfl) T.d.bool boot_bool rfl) zt))))) we,?_⟩ ?_
  ·refine⟨_,rfl,dw,.str "come",hx,.str _,sw,st (by simp[words]),_,rfl,?_⟩
   refine yM (fun h=>?_) (fun h=>?_)
   ·have h':eqS dw "come"=true:=h
    rw[h',Bool.true_or,if_pos rfl] at q
    exact wy ⟨_,rfl,y,"bool",dv,_,rfl,hy,vV dv,q⟩
   ·have h':eqS dw "come"=false:=dY.mpr h
    refine⟨_,rfl,dw,.str "go",hx,.str _,sw,st (by simp[words]),_,rfl,?_⟩
    refine yM (fun h2=>?_) (fun h2=>?_)
    ·have h2':eqS dw "go"=true:=h2
     rw[h',h2',bM,if_pos rfl] at q
     exact⟨_,rfl,y,"bool",dv,_,rfl,hy,vV dv,q⟩
    ·have h2':eqS dw "go"=false:=dY.mpr h2
     exact⟨rfl,by rw[h',h2'];rfl,rfl⟩
  rintro σ H1 ⟨rfl,e2,rfl⟩
  rw[e2,if_neg dr] at q
  -- if word == 'least' or word == 'most'
  refine xk (fun σ H1=>σ=[some x,some y]∧(eqS dw "least"||eqS dw "most")=false∧H=H1)
   ⟨_,uJ (PW.pt (mK (xi (xV hu) (pv 0) xK (zA _)) (rZ (xi (xV hu) (pv 0) xK (zA _))))) (zL (zX (zG GI hr2 (by rfl) T.d.within kI bI .nil yz (ze (pv 1) (ze zo (ze (vd (v:=.int 14) (by rfl) hm ⟨tm,rfl⟩) zt)))))) we,?_⟩ ?_
  ·refine⟨_,rfl,dw,.str "least",hx,.str _,sw,st (by simp[words]),_,rfl,?_⟩
   refine yM (fun h=>?_) (fun h=>?_)
   ·have h':eqS dw "least"=true:=h
    rw[h',Bool.true_or,if_pos rfl] at q
    exact wy ⟨_,rfl,y,dv,_,_,rfl,hy,q⟩
   ·have h':eqS dw "least"=false:=dY.mpr h
    refine⟨_,rfl,dw,.str "most",hx,.str _,sw,st (by simp[words]),_,rfl,?_⟩
    refine yM (fun h2=>?_) (fun h2=>?_)
    ·have h2':eqS dw "most"=true:=h2
     rw[h',h2',bM,if_pos rfl] at q
     exact⟨_,rfl,y,dv,_,_,rfl,hy,q⟩
    ·have h2':eqS dw "most"=false:=dY.mpr h2
     exact⟨rfl,by rw[h',h2'];rfl,rfl⟩
  rintro σ H1 ⟨rfl,e3,rfl⟩
  rw[e3,if_neg dr] at q
  -- if word == 'deal'
  refine xk (fun σ H1=>σ=[some x,some y]∧eqS dw "deal"=false∧H=H1)
   ⟨_,uJ (xi (xV hu) (pv 0) xK (zA _)) (zL (zX (my (yT tZ (pv 1) sk (zA _)) (yX (zG GDl hr (by rfl) T.deal kDl bDl .nil yz (ze (pv 1) zt)))))) we,?_⟩ ?_
  ·refine⟨_,rfl,dw,.str "deal",hx,.str _,sw,st (by simp[words]),_,rfl,?_⟩
   refine yM (fun h=>?_) (fun h=>⟨rfl,dY.mpr h,rfl⟩)
   rw[if_pos h] at q
   refine⟨_,rfl,rfl,_,rfl,?_⟩
   rw[hy.non_iff]
   refine yM (fun h2=>?_) (fun h2=>?_)
   ·rw[h2,Bool.true_or] at q
    exact q
   ·rw[dY.mpr h2,bM] at q
    exact⟨_,rfl,y,dv,rfl,hy,q⟩
  rintro σ H1 ⟨rfl,e4,rfl⟩
  rw[e4,if_neg dr] at q
  refine⟨_,zL (zX (yA (yT (xV hu) (pv 0) xK (zA _)) (yX (zG GC hr (by rfl) T.coins kC bC .nil yz (ze (pv 1) zt))))),?_⟩
  refine⟨_,rfl,dw,.str "fee",hx,.str _,sw,st (by simp[words]),_,rfl,?_⟩
  refine yM (fun h=>?_) (fun h=>?_)
  ·have h':eqS dw "fee"=true:=h
   rw[h',cA] at q
   exact⟨_,rfl,y,dv,rfl,hy,q⟩
  ·have h':eqS dw "fee"=false:=dY.mpr h
   rw[h',cC] at q
   exact q
theorem nW :zi ["thing"] ["thing"] (zc so):=⟨rfl,rfl,rfl,by decide +kernel,rfl,by decide +kernel,by decide +kernel⟩
theorem oD {f:Addr}{fd fdS fdWo:FuncData}(F:Fun K "is_rule" "is_rule" so f fd)(T:mG mg fW fI fP fD fPD fS fC fDl fWo fR fM cs)(GS:zK P w K mg base CX0 5 fS fdS ["thing"] (yo zU))(kS:PySem.W.keepIn K (.ref fS)=true)(bS:Binds K fdS ["thing"] [])
  (GW:zK P w K mg base CX0 4 fWo fdWo ["word","thing"] pw) (kW:PySem.W.keepIn K (.ref fWo)=true) (bW:Binds K fdWo ["word","thing"] []):zK P w K mg base CX0 6 f fd ["thing"] lu:=by
 refine F.ok nW (fun vs H Q E h=>?_) (fun cdv A outer s H vs Q E hr h=>?_)
 ·obtain⟨x,d,rfl,_⟩:=h
  rfl
 ·obtain⟨x,d,rfl,hd,sd,q⟩:=h
  have hr4:yq 4 _:=hr.mono (by decide)
  refine⟨_,zL (zX (yA (yt yV (by rfl) T.d.isi cO (ze (pv 0) (ze (xY (v:=.ty "tuple") (by rfl) T.d.tuple boot_tuple rfl) zt)))
   (yA (yT uY (yt xx (by rfl) T.d.len bG (ze (pv 0) zt)) zo (zA _))
   (yA (zG GS hr (by rfl) T.stretch kS bS .nil yz (ze (oZ (ze (yh yO (pv 0) zo (fun _ _=>rfl)) (ze (yh yO (pv 0) zo (fun _ _=>rfl)) zt))) zt))
   (yX (zG GW hr4 (by rfl) T.worth kW bW .nil yz (ze (yh yO (pv 0) zo (fun _ _=>rfl)) (ze (yh yO (pv 0) zo (fun _ _=>rfl)) zt)))))))),?_⟩
  refine⟨_,rfl,x,"tuple",d,_,rfl,hd,uF d,_,rfl,?_⟩
  cases hd with
  |@tup a xs ds e hs=>
   refine wy ⟨_,rfl,a,_,rfl,.inr (SqT.of e),rfl,_,rfl,?_⟩
   cases hs with
   |nil=>exact yM (fun h=>absurd h (by simp)) (fun _=>q H (zu.refl H))
   |@cons xw _ dw _ hw hs=>
   cases hs with
   |nil=>exact yM (fun h=>absurd h (by simp)) (fun _=>q H (zu.refl H))
   |@cons xa _ da _ ha hs=>
   cases hs with
   |nil=>exact yM (fun h=>absurd h (by simp)) (fun _=>q H (zu.refl H))
   |@cons xb _ db _ hb hs=>
   cases hs with
   |nil=>exact yM (fun h=>absurd h (by simp)) (fun _=>q H (zu.refl H))
   |@cons xv _ dv _ hv hs=>
   cases hs with
   |cons _ _=>exact yM (fun h=>absurd h (by simp;omega)) (fun _=>q H (zu.refl H))
   |nil=>
    refine yM (fun _=>?_) (fun h=>absurd rfl h)
    refine⟨_,rfl,a,_,1,_,rfl,rfl,SqT.of e,rfl,_,rfl,a,_,2,_,rfl,rfl,SqT.of e,rfl,(by show 2≤sizeLine;decide),fun p hp=>?_⟩
    have s1:zu H (upd H p (.tup [xa,xb])):=zV hp
    refine⟨_,.tuple [da,db],rfl,.tup zr (.cons (ha.same s1) (.cons (hb.same s1) .nil)),_,rfl,?_⟩
    have q':Q (.bl (zU (.tuple [da,db])&&zw dw dv)) (upd H p (.tup [xa,xb])):=q _ s1
    refine yM (fun h=>?_) (fun h=>?_)
    ·rw[h,cA] at q'
     exact⟨_,rfl,a,_,0,_,rfl,rfl,SqT.of (s1 _ _ e),rfl,_,rfl,a,_,3,_,rfl,rfl,SqT.of (s1 _ _ e),rfl,_,_,_,_,rfl,hw.same s1,tK sd dw (by simp),hv.same s1,q'⟩
    ·rw[dY.mpr h,cC] at q'
     exact q'
  |_=>exact ve (q H (zu.refl H))
end
def ku :PyData→PyData
 |.tuple [_,_,_,v]=>v
 |_=>.none
theorem wB {d:PyData}(h:xG d=true):∃(s:Str) (i j:Int) (v:PyData),s∈words∧d=.tuple [.str s,.int i,.int j,v]∧0≤i∧i≤j∧j≤1000000∧zw (.str s) v=true:=by
 obtain⟨s,a,b,v,hs,rfl⟩:=rC h
 have h':(zU (.tuple [a,b])&&zw (.str s) v)=true:=h
 rw[dG] at h'
 have h1:=h'.1
 unfold zU tB at h1
 split at h1
 ·rename_i k e
  split at e
  ·rename_i z
   cases z
   split at e
   ·rename_i q
    cases e
    rw[dG] at q
    rename_i a' b'
    have qa:(decide (0≤a')&&decide (a'≤1000000))=true:=q.1
    have qb:(decide (0≤b')&&decide (b'≤1000000))=true:=q.2
    rw[dG,dI,dI] at qa qb
    have h2:=of_decide_eq_true h1
    exact⟨s,a',b',v,hs,rfl,qa.1,by omega,qb.2,h'.2⟩
   ·cases e
  ·cases e
 ·cases h1
structure vO (d:PyData):Prop where
 rule:xG d=true
 nice:yj 20011 d
 dep:d.depth≤2
 wn:yj 5000 (ku d)
theorem pU {s:Str}(h:s∈words):yj 2000 (.str s):=by
 simp only[words,dm,dy,cb] at h
 rcases h with rfl|rfl|rfl|rfl|rfl|rfl|rfl<;>exact⟨rfl,rfl,dQ _,by decide +kernel,by decide +kernel⟩
theorem vO.of {s:Str}{i j:Int}{d:PyData}(hs:s∈words)(i0:0≤i)(ij:i≤j)(j1:j≤1000000)(hw:zw (.str s) d=true)(hn:yj 5000 d)(hd:d.depth≤1):vO (.tuple [.str s,.int i,.int j,d]):=by
 have hbig:(1000001:Int)<big:=by decide
 have hneg:-big<(0:Int):=by decide
 have na:zS 5000 [.str s,.int i,.int j,d]:=by
  constructor
  ·intro x hx
   simp only[dm,dy,cb] at hx
   rcases hx with rfl|rfl|rfl|rfl
   ·exact (pU hs).mono (by decide)
   ·exact (yj.int (by omega) (by omega)).mono (by decide)
   ·exact (yj.int (by omega) (by omega)).mono (by decide)
   ·exact hn
  ·intro x hx
   simp only[dm,dy,cb] at hx
   rcases hx with rfl|rfl|rfl|rfl
   ·exact dQ _
   ·exact dQ _
   ·exact dQ _
   ·omega
 refine⟨?_,yj.tuple na (by show 4*(5000+2)+3≤20011;decide),?_,hn⟩
 ·show (zU (.tuple [.int i,.int j])&&zw (.str s) d)=true
  rw[hw,bN]
  unfold zU tB
  have h1:(xH (.int i)&&xH (.int j))=true:=by
   show ((decide (0≤i)&&decide (i≤1000000))&&(decide (0≤j)&&decide (j≤1000000)))=true
   simp only[dG,dI]
   omega
  simp only[h1,if_true,dI]
  omega
 ·simp only[PyData.depth,PyData.depthAll]
  omega
abbrev su :Stmt:=top 27
abbrev sI :Stmt:=top 28
abbrev qw :Stmt:=top 29
theorem zP (d:PyData):zw (.str "price") d=(isNone d||wK d):=by unfold zw;rw[if_pos (by decide +kernel)]
theorem yp (d:PyData):zw (.str "come") d=isBool d:=by unfold zw;rw[if_neg (by decide +kernel),if_pos (by decide +kernel)]
theorem xf (d:PyData):zw (.str "go") d=isBool d:=by unfold zw;rw[if_neg (by decide +kernel),if_pos (by decide +kernel)]
theorem yd (d:PyData):zw (.str "least") d=zE 1 14 d:=by unfold zw;rw[if_neg (by decide +kernel),if_neg (by decide +kernel),if_pos (by decide +kernel)]
theorem yn (d:PyData):zw (.str "most") d=zE 1 14 d:=by unfold zw;rw[if_neg (by decide +kernel),if_neg (by decide +kernel),if_pos (by decide +kernel)]
theorem zQ (d:PyData):zw (.str "deal") d=(isNone d||wm d):=by unfold zw;rw[if_neg (by decide +kernel),if_neg (by decide +kernel),if_neg (by decide +kernel),if_pos (by decide +kernel)]
theorem yF (d:PyData):zw (.str "fee") d=wK d:=by
 unfold zw;rw[if_neg (by decide +kernel),if_neg (by decide +kernel),if_neg (by decide +kernel),if_neg (by decide +kernel)]
 have:eqS (.str "fee") "fee"=true:=by decide +kernel
 rw[this,cA]
theorem within_int {lo hi i:Int}(h1:lo≤i)(h2:i≤hi):zE lo hi (.int i)=true:=by
 show (decide (lo≤i)&&decide (i≤hi))=true
 rw[di h1,di h2];rfl
theorem vc {i:Int}(h0:-2000000000000≤i)(h1:i≤2000000000000):yj 2000 (.int i):=yj.int (by unfold big;omega) (by unfold big;omega)
def qX :List A→(A→Prop)→Prop:=fun as Q=>as=[.tape]∧∀z:Int,0≤z→z≤1000000000000→Q (.dat (.int z))
def rK :List A→(A→Prop)→Prop:=fun as Q=>∃wd,as=[.tape,.dat (.str wd)]∧wd∈words∧∀d,zw (.str wd) d=true→yj 5000 d→d.depth≤1→Q (.dat d)
def qP :List A→(A→Prop)→Prop:=fun as Q=>∃y:Int,as=[.tape,.dat (.int y)]∧0≤y∧y≤1000000∧∀d,vO d→Q (.dat d)
section
variable {P:Program}{w:World}{K:PySem.W.Frag}{mg:Str→Option Value}{base:Heap}
theorem kT :zi ["_law_row","_law_few","_law_many","_law_great"] ["_law_row"] (zc su):=⟨rfl,rfl,rfl,by decide +kernel,rfl,by decide +kernel,by decide +kernel⟩
set_option maxHeartbeats 4000000 in
theorem oQ {f:Addr}{fd:FuncData}(F:Fun K "_law_coins" "_law_coins" su f fd)(hm:mg "_law_coins"=some (.ref f))(hb:Binds K fd ["_law_row"] [])(CD:Cal P w K mg base "_law_take" 1 xD):Cal P w K mg base "_law_coins" 2 qX:=by
 refine xQ F hm hb kT (fun as Q h=>?_) (fun cdv A' outer s H E as Q hr h=>?_)
 ·obtain⟨rfl,_⟩:=h
  rfl
 ·obtain⟨rfl,q⟩:=h
  refine zN 1 kT.nd (zv CD hr (by rfl) (zm 0 rfl (za (zh (zf (⟨_,rfl,by decide,by decide,fun v1 h1 g1=>?_⟩))))))
  refine zN 2 kT.nd (tJ (zh (zv CD hr (by rfl) (zm 0 rfl (za (zh (zf (⟨_,rfl,by decide,by decide,fun v2 h2 g2=>⟨_,_,rfl,rfl,.inl ⟨by decide,by decide⟩,?_⟩⟩))))))))
  refine zN 3 kT.nd (xA (tJ (zv CD hr (by rfl) (zm 0 rfl (za (yC (r:=1000000) ⟨by decide,by decide,by decide⟩ (by decide) (zf (⟨_,rfl,by decide,by decide,fun v4 h4 g4=>yC (r:=1000000) ⟨by decide,by decide,by decide⟩ (by decide) (⟨_,_,rfl,rfl,.inr ⟨by decide,by decide⟩,zv CD hr (by rfl) (zm 0 rfl (za (yC (r:=1000000) ⟨by decide,by decide,by decide⟩ (by decide) (zf (⟨_,rfl,by decide,by decide,fun v3 h3 g3=>⟨_,_,rfl,rfl,?_⟩⟩)))))⟩)⟩))))))))
  refine zR (wD (fun _ _=>rfl) (EvL.d (yN (za (zd 1 rfl (za (zd 2 rfl (za (xA (zd 1 rfl (tJ (zh (zd 2 rfl (⟨_,_,rfl,rfl,.inl ⟨by decide,by decide⟩,⟨_,_,rfl,rfl,za (zd 3 rfl (za (yC (r:=1000000000000) ⟨by decide,by decide,by decide⟩ (by decide) (zf (⟨_,rfl,du rfl,qG (zv CD hr (by rfl) (zm 0 rfl (za (zh (zf (⟨_,rfl,by decide,by decide,fun v5 h5 g5=>zh (⟨_,_,rfl,rfl,⟨by decide,by decide +kernel⟩,?_⟩)⟩))))))⟩)))))⟩⟩))))))))))))))
  obtain⟨z,hz,e⟩:=vA (ds:=[PyData.int v1,.int (10*v2),.int (v1+10*(10*v2)),.int (v4*1000000+v3),.int 1000000000000]) (v:=v5 / 2) (by omega) (by show v5 / 2<5;omega)
  refine⟨_,_,z,rfl,rfl,e,?_⟩
  simp only[dm,dy,cb] at hz
  rcases hz with rfl|rfl|rfl|rfl|rfl
  ·exact q _ (by omega) (by omega)
  ·exact q _ (by omega) (by omega)
  ·exact q _ (by omega) (by omega)
  ·exact q _ (by omega) (by omega)
  ·exact q _ (by omega) (by omega)
theorem jw :zi ["_law_row","_law_word","_law_many","_law_free","_law_coins_here"] ["_law_row","_law_word"] (zc sI):=⟨rfl,rfl,rfl,by decide +kernel,rfl,by decide +kernel,by decide +kernel⟩
theorem lx (s a b:Str):inD (.str s) [.str a,.str b]=(decide (a=s)||decide (b=s)):=by
 show ((a == s)||((b == s)||false))=_
 rw[Bool.or_false]
 by_cases h1:a=s<;>by_cases h2:b=s<;>simp[h1,h2]
set_option maxHeartbeats 4000000 in
theorem pW {f:Addr}{fd:FuncData}(F:Fun K "_law_worth" "_law_worth" sI f fd)(hm:mg "_law_worth"=some (.ref f))(hb:Binds K fd ["_law_row","_law_word"] [])(CD:Cal P w K mg base "_law_take" 1 xD)(CC:Cal P w K mg base "_law_coins" 2 qX):Cal P w K mg base "_law_worth" 3 rK:=by
 refine xQ F hm hb jw (fun as Q h=>?_) (fun cdv A' outer s H E as Q hr h=>?_)
 ·obtain⟨wd,rfl,_⟩:=h
  rfl
 ·obtain⟨wd,rfl,hw,q⟩:=h
  have hr1:=hr.mono (show 1≤2 by decide)
  have hbig:(1000001:Int)<big:=by decide
  refine uO (jK (zd 1 rfl (wH (za (zx (za (zx (zf (⟨_,rfl,du rfl,⟨_,.inr rfl,rfl,rfl,?_⟩⟩)))))))))
  rw[lx]
  refine yb (fun hc=>?_) (fun hc=>yg ?_)
  ·refine zR (il (zv CD hr1 (by rfl) (zm 0 rfl (za (zh (zf (⟨_,rfl,by decide,by decide,fun v1 h1 g1=>zh (⟨_,_,rfl,rfl,?_⟩)⟩)))))))
   refine q _ ?_ ((yj.bool _).mono (by decide)) (dQ _)
   simp only[cP,dI] at hc
   rcases hc with rfl|rfl
   ·rw[yp];rfl
   ·rw[xf];rfl
  simp only[cR,ck] at hc
  refine uO (jK (zd 1 rfl (wH (za (zx (za (zx (zf (⟨_,rfl,du rfl,⟨_,.inr rfl,rfl,rfl,?_⟩⟩)))))))))
  rw[lx]
  refine yb (fun h2=>?_) (fun h2=>yg ?_)
  ·refine zR (xA (zh (zv CD hr1 (by rfl) (zm 0 rfl (za (EvD.imp (Q':=fun d=>∃z:Int,d=.int z∧0<z∧z≤14) (wD (fun _ _=>rfl) (EvL.d (yN (za (zh (za (zh (zf (⟨_,rfl,du rfl,zv CD hr1 (by rfl) (zm 0 rfl (za (zh (zf (⟨_,rfl,by decide,by decide,fun v3 h3 g3=>?pick⟩)))))⟩))))))))) ?_))))))
   case pick=>
    obtain⟨z,hz,e⟩:=vA (ds:=[PyData.int 4,.int 14]) h3 g3
    refine⟨_,_,z,rfl,rfl,e,?_⟩
    simp only[dm,dy,cb] at hz
    rcases hz with rfl|rfl
    ·exact⟨_,rfl,by decide,by decide⟩
    ·exact⟨_,rfl,by decide,by decide⟩
   rintro _ ⟨z,rfl,z0,z1⟩
   refine zf ⟨_,rfl,z0,by omega,fun v2 h2' g2=>⟨_,_,rfl,rfl,?_⟩⟩
   refine q _ ?_ ((vc (by omega) (by omega)).mono (by decide)) (dQ _)
   simp only[cP,dI] at h2
   rcases h2 with rfl|rfl
   ·rw[yd];exact within_int (by omega) (by omega)
   ·rw[yn];exact within_int (by omega) (by omega)
  simp only[cR,ck] at h2
  refine uO (mW (zd 1 rfl (zx (⟨_,_,rfl,rfl,?_⟩))))
  refine yb (fun h3=>?_) (fun h3=>yg ?_)
  ·rw[dI] at h3
   subst h3
   refine zN 2 jw.nd (xA (zh (zv CD hr1 (by rfl) (zm 0 rfl (za (EvD.imp (Q':=fun d=>∃z:Int,d=.int z∧0<z∧z≤13) (wD (fun _ _=>rfl) (EvL.d (yN (za (zh (za (zh (zf (⟨_,rfl,du rfl,zv CD hr1 (by rfl) (zm 0 rfl (za (zh (zf (⟨_,rfl,by decide,by decide,fun v3 h3 g3=>?pick⟩)))))⟩))))))))) ?_))))))
   case pick=>
    obtain⟨z,hz,e⟩:=vA (ds:=[PyData.int 3,.int 13]) h3 g3
    refine⟨_,_,z,rfl,rfl,e,?_⟩
    simp only[dm,dy,cb] at hz
    rcases hz with rfl|rfl
    ·exact⟨_,rfl,by decide,by decide⟩
    ·exact⟨_,rfl,by decide,by decide⟩
   rintro _ ⟨z,rfl,z0,z1⟩
   refine zf ⟨_,rfl,z0,by omega,fun v4 h4 g4=>⟨_,_,rfl,rfl,?_⟩⟩
   refine zN 3 jw.nd (xA (zh (zv CD hr1 (by rfl) (zm 0 rfl (za (tQ (zd 2 rfl (zh (⟨_,_,rfl,rfl,zf (⟨_,rfl,by omega,by omega,fun v6 h6 g6=>⟨_,_,rfl,rfl,?_⟩⟩)⟩)))))))))
   refine zR (wD (fun _ _=>rfl) (EvL.d (yN (za (wH (za (zd 2 rfl (za (zd 3 rfl (zf (⟨_,rfl,du rfl,za (wH (za (zd 2 rfl (za (zd 3 rfl (zf (⟨_,rfl,du rfl,za (wA (zf (⟨_,rfl,du rfl,zv CD hr1 (by rfl) (zm 0 rfl (za (zh (zf (⟨_,rfl,by decide,by decide,fun v7 h7 g7=>?_⟩)))))⟩)))⟩)))))))⟩)))))))))))
   obtain⟨u,hu,e⟩:=vA (ds:=[PyData.tuple [.int (2+v4),.int (1+v6)],.tuple [.int (2+v4),.int (1+v6)],.none]) h7 g7
   refine⟨_,_,u,rfl,rfl,e,?_⟩
   have dl:Q (.dat (.tuple [.int (2+v4),.int (1+v6)])):=by
    refine q _ ?_ (yj.tuple (n:=2000) (zS.two (vc (by omega) (by omega)) (vc (by omega) (by omega)) (dQ _) (dQ _)) (by show 2*(2000+2)+3≤5000;decide)) (dC _)
    rw[zQ]
    show (false||(zE 2 14 (.int (2+v4))&&zE 1 (2+v4-1) (.int (1+v6))))=true
    rw[within_int (by omega) (by omega),within_int (by omega) (by omega)];rfl
   simp only[dm,dy,cb] at hu
   rcases hu with rfl|rfl|rfl
   ·exact dl
   ·exact dl
   ·exact q _ (by rw[zQ];rfl) (yj.none.mono (by decide)) (dQ _)
  rw[ck] at h3
  have hs:wd="price"∨wd="fee":=by
   simp only[words,dm,dy,cb] at hw
   rcases hw with z|z|z|z|z|z|z
   ·exact .inl z
   ·exact absurd z.symm hc.1
   ·exact absurd z.symm hc.2
   ·exact absurd z.symm h2.1
   ·exact absurd z.symm h2.2
   ·exact absurd z h3
   ·exact .inr z
  refine zN 4 jw.nd (zv CC hr (by rfl) (zm 0 rfl (zf (⟨rfl,fun c8 p8 q8=>?_⟩))))
  have last:Q (.dat (.int c8)):=by
   refine q _ ?_ ((vc (by omega) (by omega)).mono (by decide)) (dQ _)
   rcases hs with rfl|rfl
   ·rw[zP];show (false||zE 0 1000000000000 (.int c8))=true;rw[within_int p8 q8];rfl
   ·rw[yF];exact within_int p8 q8
  refine uO (EvW.t (mi (mW (zd 1 rfl (zx (⟨_,_,rfl,rfl,?_⟩))))))
  refine yM (fun h9=>?_) (fun h9=>?_)
  ·rw[dI] at h9
   subst h9
   refine tW (iO (zv CD hr1 (by rfl) (zm 0 rfl (za (zh (zf (⟨_,rfl,by decide,by decide,fun v9 h9 g9=>zh (⟨_,_,rfl,rfl,?_⟩)⟩)))))))
   refine nh (fun _=>zR (wA ?_)) (fun _=>yg (zR (zd 4 rfl last)))
   exact q _ (by rw[zP];rfl) (yj.none.mono (by decide)) (dQ _)
  ·exact yb (fun z=>nomatch z) (fun _=>yg (zR (zd 4 rfl last)))
theorem nu :zi ["_law_row","_law_day","_law_word","_law_ahead","_law_first","_law_last"] ["_law_row","_law_day"] (zc qw):=⟨rfl,rfl,rfl,by decide +kernel,rfl,by decide +kernel,by decide +kernel⟩
set_option maxHeartbeats 8000000 in
theorem mM {f:Addr}{fd:FuncData}(F:Fun K "_law_rule" "_law_rule" qw f fd)(hm:mg "_law_rule"=some (.ref f))(hb:Binds K fd ["_law_row","_law_day"] [])(nb:NbT mg)(CD:Cal P w K mg base "_law_take" 1 xD)(CW:Cal P w K mg base "_law_worth" 3 rK):Cal P w K mg base "_law_rule" 4 qP:=by
 refine xQ F hm hb nu (fun as Q h=>?_) (fun cdv A' outer s H E as Q hr h=>?_)
 ·obtain⟨y,rfl,_⟩:=h
  rfl
 ·obtain⟨y,rfl,y0,y1,q⟩:=h
  have hr1:=hr.mono (show 1≤3 by decide)
  refine zN 2 nu.nd (EvD.imp (Q':=fun d=>∃x,d=.str x∧x∈words) (wD (fun _ _=>rfl) (EvL.d (yN (za (zx (za (zx (za (zx (za (zx (za (zx (za (zx (za (zx (za (zx (za (zx (zf (⟨_,rfl,du rfl,zv CD hr1 (by rfl) (zm 0 rfl (za (zh (zf (⟨_,rfl,by decide,by decide,fun v1 h1 g1=>?pick⟩)))))⟩))))))))))))))))))))))) ?_)
  case pick=>
   obtain⟨z,hz,e⟩:=vA (ds:=[PyData.str "price",.str "price",.str "price",.str "come",.str "go",.str "least",.str "most",.str "deal",.str "fee"]) h1 g1
   refine⟨_,_,z,rfl,rfl,e,?_⟩
   simp only[dm,dy,cb] at hz
   rcases hz with rfl|rfl|rfl|rfl|rfl|rfl|rfl|rfl|rfl<;>exact⟨_,rfl,by simp[words]⟩
  rintro _ ⟨wd,rfl,hw⟩
  refine zN 3 nu.nd (EvD.imp (Q':=fun d=>∃z:Int,d=.int z) (wD (fun _ _=>rfl) (EvL.d (yN (za (tQ (zv CD hr1 (by rfl) (zm 0 rfl (za (zh (zf (⟨_,rfl,by decide,by decide,fun v4 h4 g4=>zh (⟨_,_,rfl,rfl,za (zv CD hr1 (by rfl) (zm 0 rfl (za (zh (zf (⟨_,rfl,by decide,by decide,fun v3 h3 g3=>za (ny (zd 1 rfl (⟨_,rfl,za (zh (zf (⟨_,rfl,du rfl,zv CD hr1 (by rfl) (zm 0 rfl (za (zh (zf (⟨_,rfl,by decide,by decide,fun v2 h2 g2=>?pick⟩)))))⟩)))⟩)))⟩))))))⟩)⟩))))))))))) ?_)
  case pick=>
   obtain⟨z,hz,e⟩:=vA (ds:=[PyData.int (v4-3),.int v3,.int (-y),.int 0]) h2 g2
   refine⟨_,_,z,rfl,rfl,e,?_⟩
   simp only[dm,dy,cb] at hz
   rcases hz with rfl|rfl|rfl|rfl<;>exact⟨_,rfl⟩
  rintro _ ⟨ah,rfl⟩
  refine nS (fun α=>∃fi:Int,0≤fi∧fi≤1000000∧α=[some .tape,some (.dat (.int y)),some (.dat (.str wd)),some (.dat (.int ah)),some (.dat (.int fi)),none]) ?_ ?_
  ·refine zN 4 nu.nd (qo rfl (by rfl) nb.min (yC (r:=1000000) ⟨by decide,by decide,by decide⟩ (by decide) (md rfl (by rfl) nb.max (zh (xA (zd 1 rfl (zd 3 rfl (⟨_,_,rfl,rfl,⟨_,_,rfl,rfl,⟨_,_,rfl,rfl,yg ⟨_,?_,?_,rfl⟩⟩⟩⟩))))))))
   ·split<;>split<;>omega
   ·split<;>split<;>omega
  rintro α ⟨fi,f0,f1,rfl⟩
  refine nS (fun α=>∃la:Int,fi≤la∧α=[some .tape,some (.dat (.int y)),some (.dat (.str wd)),some (.dat (.int ah)),some (.dat (.int fi)),some (.dat (.int la))]) ?_ ?_
  ·refine zN 5 nu.nd (xA (zd 4 rfl (EvD.imp (Q':=fun d=>∃z:Int,d=.int z∧0≤z) (wD (fun _ _=>rfl) (EvL.d (yN (za (zh (za (zv CD hr1 (by rfl) (zm 0 rfl (za (zh (zf (⟨_,rfl,by decide,by decide,fun v7 h7 g7=>za (zv CD hr1 (by rfl) (zm 0 rfl (za (zh (zf (⟨_,rfl,by decide,by decide,fun v6 h6 g6=>za (zh (za (yC (r:=1000000) ⟨by decide,by decide,by decide⟩ (by decide) (zf (⟨_,rfl,du rfl,zv CD hr1 (by rfl) (zm 0 rfl (za (zh (zf (⟨_,rfl,by decide,by decide,fun v5 h5 g5=>?pick⟩)))))⟩)))))⟩))))))⟩)))))))))))) ?_)))
   case pick=>
    obtain⟨z,hz,e⟩:=vA (ds:=[PyData.int 0,.int v7,.int v6,.int 60,.int 1000000]) h5 g5
    refine⟨_,_,z,rfl,rfl,e,?_⟩
    simp only[dm,dy,cb] at hz
    rcases hz with rfl|rfl|rfl|rfl|rfl<;>exact⟨_,rfl,by omega⟩
   rintro _ ⟨z,rfl,z0⟩
   exact⟨_,_,rfl,rfl,yg ⟨fi+z,by omega,rfl⟩⟩
  rintro α ⟨la,hla,rfl⟩
  refine zR (wH (za (zd 2 rfl (za (zd 4 rfl (za (qo rfl (by rfl) nb.min (yC (r:=1000000) ⟨by decide,by decide,by decide⟩ (by decide) (zd 5 rfl (⟨_,_,rfl,rfl,za (zv CW hr (by rfl) (zm 0 rfl (za (zd 2 rfl (zf (⟨_,rfl,hw,fun d8 a8 b8 c8=>zf (⟨_,rfl,du rfl,?_⟩)⟩))))))⟩))))))))))
  refine q _ (vO.of hw f0 ?_ ?_ a8 b8 c8)
  ·split<;>omega
  ·split<;>omega
end
end K22
set_option compiler.extract_closed false
set_option hygiene false in
local macro_rules
 |`(tactic| exists $f,$a)=>`(tactic| first|refine $f 0 $a ?_|refine $f 1 $a ?_|refine $f 2 $a ?_|refine $f 3 $a ?_|refine $f 4 $a ?_|refine $f 5 $a ?_|refine $f 6 $a ?_|refine $f 7 $a ?_|refine $f 8 $a ?_|refine $f 9 $a ?_|refine $f 10 $a ?_|refine $f 11 $a ?_|refine $f 12 $a ?_|refine $f 13 $a ?_|refine $f 14 $a ?_|refine $f 15 $a ?_|refine $f 16 $a ?_|refine $f 17 $a ?_)
set_option hygiene false in
local macro_rules
 |`(tactic| and_intros)=>`(tactic| repeat (first
  |((with_reducible show EvD _ _ _ _);first
   |((with_reducible show EvD _ _ (.Name _ _) _);exists zd,rfl)
   |((with_reducible show EvD _ _ (.Call (.Name "str" _) _ _ _) _);refine jn (by rfl) nb.str ?_)
   |((with_reducible show EvD _ _ (.Call (.Name "len" _) [.Name "_law_word" _] _ _) _);refine qW (by rfl) nb.len ?_)
   |((with_reducible show EvD _ _ (.Call (.Name "len" _) [.Name "_law_text" _] _ _) _);refine qW (by rfl) nb.len ?_)
   |((with_reducible show EvD _ _ (.Call (.Name "tuple" _) _ _ _) _);refine kR (by rfl) nb.tuple ?_)
   |((with_reducible show EvD _ _ (.Call (.Attribute _ "join" _) _ _ _) _);refine yP ?_)
   |((with_reducible show EvD _ _ (.Call (.Attribute _ "split" _) _ _ _) _);refine EvL.d (wU ?_))
   |((with_reducible show EvD _ _ (.Constant _ _ _) _);first|with_reducible refine zh ?_|with_reducible refine zx ?_|with_reducible refine jN ?_|with_reducible refine wA ?_)
   |((with_reducible show EvD _ _ (.BinOp (.Constant (.int 10) _ _) .Pow (.Constant (.int 6) _ _) _) _);refine yC (r:=1000000) ⟨by decide,by decide,by decide⟩ (by decide) ?_)
   |((with_reducible show EvD _ _ (.BinOp (.Constant (.int 10) _ _) .Pow (.Constant (.int 12) _ _) _) _);refine yC (r:=1000000000000) ⟨by decide,by decide,by decide⟩ (by decide) ?_)
   |((with_reducible show EvD _ _ (.BinOp (.Constant (.int 10) _ _) .Pow (.Constant (.int 9) _ _) _) _);refine yC (r:=1000000000) ⟨by decide,by decide,by decide⟩ (by decide) ?_)
   |((with_reducible show EvD _ _ (.BinOp (.Constant (.int 10) _ _) .Pow (.Constant (.int 11) _ _) _) _);refine yC (r:=100000000000) ⟨by decide,by decide,by decide⟩ (by decide) ?_)
   |((with_reducible show EvD _ _ (.BinOp _ .Add (.List _ _) _) _);refine EvL.d (wG ?_))
   |((with_reducible show EvD _ _ (.BinOp (.List _ _) .Add _ _) _);refine EvL.d (wG ?_))
   |((with_reducible show EvD _ _ (.BinOp (.Subscript _ (.Slice _ _ none _) _) .Add _ _) _);refine EvL.d (wG ?_))
   |((with_reducible show EvD _ _ (.BinOp _ .Add (.Subscript _ (.Slice _ _ none _) _) _) _);refine EvL.d (wG ?_))
   |((with_reducible show EvD _ _ (.BinOp (.Call (.Attribute _ "rules" _) _ _ _) .Add _ _) _);refine EvL.d (wG ?_))
   |with_reducible refine xA ?_
   |with_reducible refine tQ ?_
   |with_reducible refine nQ ?_
   |with_reducible refine qG ?_
   |with_reducible refine tJ ?_
   |with_reducible refine ev_shl ?_
   |with_reducible refine ny ?_
   |with_reducible refine ev_not ?_
   |with_reducible refine wH ?_
   |((with_reducible show EvD _ _ (.Subscript _ (.Slice _ _ none _) _) _);refine EvL.d (nJ ?_))
   |((with_reducible show EvD _ _ (.Subscript _ _ _) _);refine vn hr.one (fun _ _=>rfl) ?_)
   |((with_reducible show EvD _ _ (.List _ _) _);refine EvL.d (yN ?_))
   |((with_reducible show EvD _ _ (.Call (.Name "len" _) [.Call (.Name "set" _) _ _ _] _ _) _);refine ev_lenSet rfl (by rfl) nb.len (by rfl) (by assumption) ?_)
   |((with_reducible show EvD _ _ (.Call (.Name "len" _) _ _ _) _);refine qA (by rfl) nb.len ?_)
   |((with_reducible show EvD _ _ (.Call (.Name "min" _) [_,_] _ _) _);refine qo rfl (by rfl) nb.min ?_)
   |((with_reducible show EvD _ _ (.Call (.Name "max" _) [_,_] _ _) _);refine md rfl (by rfl) nb.max ?_)
   |((with_reducible show EvD _ _ (.Call (.Name "list" _) _ _ _) _);refine EvL.d (el_list (by rfl) nb.list ?_))
   |((with_reducible show EvD _ _ (.Call (.Name "repr" _) _ _ _) _);refine ev_repr hr.gd hr.units (by rfl) nb.repr ?_)
   |((with_reducible show EvD _ _ (.Call (.Name "min" _) [_] _ _) _);refine ev_minI rfl hr.few (by rfl) nb.min ?_)
   |((with_reducible show EvD _ _ (.Call (.Name "isinstance" _) _ _ _) _);first|refine uk (by rfl) nb.isinstance (by rfl) nb.int boot_int ?_|refine uk (by rfl) nb.isinstance (by rfl) nb.bool boot_bool ?_|refine uk (by rfl) nb.isinstance (by rfl) nb.str boot_str ?_|refine uk (by rfl) nb.isinstance (by rfl) nb.list boot_list ?_|refine uk (by rfl) nb.isinstance (by rfl) nb.tuple boot_tuple ?_)
   |((with_reducible show EvD _ _ (.Call (.Name "int" _) _ _ _) _);refine qY (by rfl) nb.int ?_)
   |((with_reducible show EvD _ _ (.Call (.Name _ _) _ _ _) _);first|refine kX (by with_reducible assumption) (by exact⟨rfl,rfl,rfl,rfl,rfl⟩) (hr.mono (by decide)) (by rfl) ?_|refine EvN.d (en_makeR (by with_reducible assumption) (by exact⟨rfl,rfl,rfl,rfl,rfl⟩) (hr.mono (by decide)) (by rfl) ?_))
   |((with_reducible show EvD _ _ (.Call (.Attribute _ _ _) (_::_) _ _) _);refine ev_methR (by with_reducible assumption) (by exact⟨rfl,rfl,rfl,rfl,rfl⟩) (hr.mono (by decide)) ?_)
   |((with_reducible show EvD _ _ (.Call (.Attribute _ _ _) [] _ _) _);refine ev_meth0R (by with_reducible assumption) (by exact⟨rfl,rfl,rfl,rfl,rfl⟩) (hr.mono (by decide)) ?_)
   |((with_reducible show EvD _ _ (.Compare _ [_] _ _) _);first|with_reducible refine ev_lt ?_|with_reducible refine ev_le ?_|with_reducible refine ev_gt ?_|with_reducible refine ev_ge ?_|with_reducible refine ig ?_|with_reducible refine ev_notN ?_|((with_reducible show EvD _ _ (.Compare _ [.Eq] _ _) _);refine gD hr.units ?_)|((with_reducible show EvD _ _ (.Compare _ [.NotEq] _ _) _);refine lF hr.units ?_)|((with_reducible show EvD _ _ (.Compare _ [.In] _ _) _);refine ev_ink hr.one ?_)|((with_reducible show EvD _ _ (.Compare _ [.NotIn] _ _) _);refine ev_nink hr.one ?_)|((with_reducible show EvD _ _ (.Compare _ [.Is] [.Constant (.bool _) _ _] _) _);refine ev_isT ?_))
   |((with_reducible show EvD _ _ (.Compare _ [_,_] _ _) _);first|refine ev_lelt ?_|refine ev_ltle ?_|refine ev_lele' ?_)
   |((with_reducible show EvD _ _ (.BoolOp _ _ _) _);first|with_reducible refine ip ?_|with_reducible refine gK ?_|with_reducible refine mD ?_)
   |with_reducible refine ia ?_)
  |((with_reducible show EvA _ _ _ _);first
   |with_reducible refine zf ?_
   |((with_reducible show EvA _ _ (.Name "_law_row" _::_) _);exists zm,rfl)
   |refine za ?_)
  |((with_reducible show EvT _ _ _ _);first
   |((with_reducible show EvT _ _ (.Compare _ [_] _ _) _);first|with_reducible refine gM ?_|with_reducible refine ei ?_|with_reducible refine ff ?_|with_reducible refine jL ?_|with_reducible refine gh ?_|with_reducible refine lW ?_|((with_reducible show EvT _ _ (.Compare _ [.Eq] _ _) _);refine lR hr.units ?_)|((with_reducible show EvT _ _ (.Compare _ [.NotEq] _ _) _);refine iZ hr.units ?_)|((with_reducible show EvT _ _ (.Compare _ [.In] _ _) _);refine iq hr.one ?_)|((with_reducible show EvT _ _ (.Compare _ [.NotIn] _ _) _);refine jd hr.one ?_)|((with_reducible show EvT _ _ (.Compare _ [.Is] [.Constant (.bool _) _ _] _) _);refine gf ?_)|((with_reducible show EvT _ _ (.Compare _ [.IsNot] [.Constant (.bool _) _ _] _) _);refine et_isntB ?_))
   |((with_reducible show EvT _ _ (.Compare _ [_,_] _ _) _);first|refine jF ?_|refine et_ltle ?_|refine nF ?_)
   |with_reducible refine gx ?_
   |((with_reducible show EvT _ _ (.BoolOp _ _ _) _);with_reducible refine EvW.t ?_)
   |refine lJ ?_)
  |((with_reducible show EvL _ _ _ _);first
   |with_reducible refine yN ?_
   |((with_reducible show EvL _ _ (.Call (.Name "list" _) _ _ _) _);refine el_list (by rfl) nb.list ?_)
   |((with_reducible show EvL _ _ (.Call (.Name _ _) _ _ _) _);refine el_calR (by with_reducible assumption) (by exact⟨rfl,rfl,rfl,rfl,rfl⟩) (hr.mono (by decide)) (by rfl) ?_)
   |((with_reducible show EvL _ _ (.Call (.Attribute _ _ _) [] _ _) _);refine el_meth0R (by with_reducible assumption) (by exact⟨rfl,rfl,rfl,rfl,rfl⟩) (hr.mono (by decide)) ?_)
   |((with_reducible show EvL _ _ (.Subscript _ (.Slice _ _ none _) _) _);refine nJ ?_)
   |((with_reducible show EvL _ _ (.BinOp _ .Add _ _) _);refine wG ?_))
  |((with_reducible show EvW _ _ _ _);first
   |with_reducible refine mi ?_
   |with_reducible refine fk ?_
   |with_reducible refine tW ?_
   |with_reducible refine gC ?_)
  |((with_reducible show EvO _ _ _ _);first
   |with_reducible refine tR ?_
   |with_reducible refine xZ ?_)
  |((with_reducible show ki _ _ _);first
   |refine ixk rfl rfl rfl ?_
   |refine ixk_0 ?_
   |refine ixk_1 ?_)
  |((with_reducible show jG _ _ _ _);first
   |refine ink rfl rfl ?_
   |refine ink_hind ?_
   |refine dg rfl rfl ?_)
  |((with_reducible show uq _ _ _);first
   |with_reducible refine kZ ?_
   |with_reducible refine kH ?_
   |with_reducible refine nK ?_
   |refine eqk rfl rfl rfl rfl ?_)
  |((with_reducible show SvS _ _ _ _);first
   |((with_reducible show SvS _ (List.set _ _ _) _ _);dsimp only[List.set])
   |((with_reducible show SvS _ _ (zY _) _);show SvS _ _ (_::_) _)
   |((with_reducible show SvS _ _ (.Assign [.Name _ _] (.List [] _) _::_) _);exists sq,nd)
   |((with_reducible show SvS _ _ (.Assign [.Name _ _] _ _::_) _);exists zN,nd)
   |((with_reducible show SvS _ _ (.Expr (.Call (.Attribute _ "append" _) _ _ _) _::_) _);exists uV,rfl)
   |((with_reducible show SvS _ _ (.Return (some (.Name _ _)) _::_) _);exists sv_retO,rfl)
   |with_reducible refine zR ?_
   |with_reducible refine sv_cont ?_
   |with_reducible refine sv_pass ?_
   |with_reducible refine uO ?_
   |with_reducible refine yg ?_
   |((with_reducible refine zF ?hk ?_);case hk=>first|rfl|decide +kernel)
   |((with_reducible refine zH ?hk ?_);case hk=>first|rfl|decide +kernel))
  |((with_reducible show xD _ _);refine⟨_,rfl,by first|decide|omega,by first|decide|(show _<big;unfold big;omega),fun _ _ _=>?_⟩)
  |((with_reducible refine zW ?hk ?_);case hk=>first|rfl|decide +kernel)
  |((with_reducible refine zT ?hk ?_);case hk=>first|rfl|decide +kernel)
  |refine⟨_,_,rfl,rfl,?_⟩
  |refine⟨_,_,_,rfl,rfl,rfl,?_⟩
  |refine⟨_,rfl,du rfl,?_⟩
  |refine⟨_,rfl,rfl,?_⟩
  |refine⟨_,rfl,?_⟩))
namespace K22
open PySem PySem.Spec PyProof.Rows L2
abbrev rO :Stmt:=top 17
abbrev qj :Stmt:=top 18
abbrev mR :Stmt:=top 19
abbrev ng :Stmt:=top 20
abbrev iU :Stmt:=top 21
abbrev jY :Stmt:=top 22
inductive WOk :Str→PyData→Prop
 |non {s:Str}:(s="price"∨s="deal")→WOk s .none
 |bl {s:Str} (b:Bool):(s="come"∨s="go")→WOk s (.bool b)
 |int {s:Str} (n:Nat):s≠"come"→s≠"go"→s≠"deal"→n≤1000000000000→WOk s (.int n)
 |deal (a b:Nat):a≤14→b≤14→WOk "deal" (.tuple [.int a,.int b])
def yf :PyData→List Str
 |.none=>["none"]
 |.bool b=>[if b then "yes" else "no"]
 |.int n=>[fig n.toNat]
 |.tuple [.int a,.int b]=>[fig a.toNat,fig b.toNat]
 |_=>[]
def uu (v:PyData):Str:=Txt.join " " (yf v)
def vD (s:Str)(i j:Nat)(v:PyData):Str:=Txt.join " " (s::fig i::fig j::yf v)
theorem lG {ts:List Str}(h:∀t∈ts,t.length≤100)(hl:ts.length≤20):JoinOk " " ts=true:=by
 unfold JoinOk Builtin.Str.tooLong
 rw[StrLaws.joinTotal,Bool.not_eq_true',ck]
 have e:(" ":Str).length=1:=by decide +kernel
 have hs:(ts.map (·.length)).sum≤ts.length*100:=by
  clear hl
  induction ts with
  |nil=>exact dC _
  |cons x r ih=>
   have h1:=h x (dE ..)
   have h2:=ih fun t ht=>h t (dA _ ht)
   simp only[dU,bo,dJ]
   omega
 have:20*100+20*1≤sizeLine:=by decide
 rw[e]
 omega
theorem xl {n:Nat}(h:n≤1000000000000):(fig n).length≤13:=kj (by decide) (by omega)
theorem wg {n:Nat}(h:n≤1000000000000):((n:Int)).natAbs.log2<1920:=by
 have e:((n:Int)).natAbs=n:=by omega
 rw[e]
 by_cases z:n=0
 ·subst z;decide
 ·exact (Nat.log2_lt z).mpr (Nat.lt_of_le_of_lt h (dO (show 1000000000000<2 ^ 40 by decide) (Nat.pow_le_pow_right (by decide) (by decide))))
theorem pY {s:Str}(h:s∈words):s.length≤100:=by
 simp only[words,dm,dy,cb] at h
 rcases h with rfl|rfl|rfl|rfl|rfl|rfl|rfl<;>decide +kernel
theorem wL {s:Str}{v:PyData}(h:WOk s v):(∀t∈yf v,t.length≤50)∧(yf v).length≤2:=by
 cases h with
 |non _=>exact⟨fun t ht=>by rw[cf.mp ht];decide +kernel,by decide⟩
 |bl b _=>exact⟨fun t ht=>by rw[cf.mp ht];cases b<;>decide +kernel,by cases b<;>decide⟩
 |int n _ _ _ hn=>exact⟨fun t ht=>by rw[cf.mp ht];exact dq (xl (by omega)) (by decide),by show 1≤2;decide⟩
 |deal a b ha hb=>
  refine⟨fun t ht=>?_,by show 2≤2;decide⟩
  rcases dm.mp ht with rfl|ht
  ·exact dq (xl (by omega)) (by decide)
  ·rw[cf.mp ht];exact dq (xl (by omega)) (by decide)
def pD :List A→(A→Prop)→Prop:=fun as Q=>∃s v,as=[.dat v]∧WOk s v∧Q (.dat (.str (uu v)))
def pk :List A→(A→Prop)→Prop:=fun as Q=>∃(s:Str) (i j:Nat) (v:PyData),as=[.dat (.tuple [.str s,.int i,.int j,v])]∧s∈words∧i≤1000000∧j≤1000000∧WOk s v∧Q (.dat (.str (vD s i j v)))
section
variable {P:Program}{w:World}{K:PySem.W.Frag}{mg:Str→Option Value}{base:Heap}
theorem eB :zi ["worth"] ["worth"] (zc rO):=⟨rfl,rfl,rfl,by decide +kernel,rfl,by decide +kernel,by decide +kernel⟩
theorem oa {f:Addr}{fd:FuncData}(F:Fun K "worth_text" "worth_text" rO f fd)(hm:mg "worth_text"=some (.ref f))(hb:Binds K fd ["worth"] [])(nb:NbT mg):Cal P w K mg base "worth_text" 1 pD:=by
 refine xQ F hm hb eB (fun as Q h=>?_) (fun cdv A' outer s H E as Q hr h=>?_)
 ·obtain⟨s,v,rfl,_⟩:=h
  rfl
 ·obtain⟨x,v,rfl,hv,q⟩:=h
  cases hv with
  |non _=>and_intros;exact q
  |bl b _=>
   and_intros
   cases b with
   |true=>refine zF rfl ?_;and_intros;exact q
   |false=>refine zH rfl ?_;and_intros;exact q
  |int n _ _ _ hn=>
   and_intros
   exact⟨wg hn,q⟩
  |deal a b ha hb=>
   and_intros
   refine EvL.d (vm ["number"] [none] (.one 0) (jU (zd 0 rfl ⟨_,rfl,du rfl,?_⟩)))
   refine xt (l:=[a,b]) (g:=fun n:Nat=>.int n) (fun n=>.str (fig n)) (fun n hn=>⟨_,rfl,fun C s2 H2 fp Q h=>?_⟩) ?_
   ·and_intros
    refine⟨wg ?_,h⟩
    simp only[dm,dy,cb] at hn
    omega
   ·exact⟨[fig a,fig b],rfl,lG (fun t ht=>dq ((wL (.deal a b ha hb)).1 t ht) (by decide)) (by show 2≤20;decide),q⟩
theorem eA :zi ["rule"] ["rule"] (zc qj):=⟨rfl,rfl,rfl,by decide +kernel,rfl,by decide +kernel,by decide +kernel⟩
theorem pR {s:Str}{v:PyData}(h:WOk s v)(a b c:Str):Txt.join " " [a,b,c,uu v]=Txt.join " " (a::b::c::yf v):=by
 unfold uu
 show Builtin.Str.glued _ _=Builtin.Str.glued _ _
 cases h<;>first
  |rfl
  |(rw[dR,dR];rfl)
theorem ou {s:Str}{v:PyData}(h:WOk s v):(uu v).length≤100:=by
 have e:(" ":Str).length=1:=by decide +kernel
 unfold uu
 rw[show Txt.join " " (yf v)=Str.join " " (yf v) from dR _ _]
 have h1:=StrLaws.join_length_le " " (yf v)
 obtain⟨h2,h3⟩:=wL h
 rw[e] at h1
 have:((yf v).map (·.length)).sum≤50*(yf v).length:=by
  clear h1 h3 h
  generalize yf v=l at h2
  induction l with
  |nil=>exact dC _
  |cons x r ih=>
   have g1:=h2 x (dE ..)
   have g2:=ih fun t ht=>h2 t (dA _ ht)
   simp only[dU,bo,dJ]
   omega
 have:(yf v).length≤1∨(yf v).length=2:=by omega
 cases h with
 |non _=>decide +kernel
 |bl b _=>cases b<;>decide +kernel
 |int n _ _ _ hn=>exact dq (xl (by omega)) (by decide)
 |deal a b ha hb=>
  have f1:(fig a).length≤13:=xl (by omega)
  have f2:(fig b).length≤13:=xl (by omega)
  have:(Str.join " " [fig a,fig b]).length≤13+13+2:=by
   have h1:=StrLaws.join_length_le " " [fig a,fig b]
   simp only[dU,bo,dJ,List.map_nil,List.sum_nil,List.length_nil] at h1
   rw[e] at h1
   omega
  exact dq this (by decide)
theorem pS {f:Addr}{fd:FuncData}(F:Fun K "rule_text" "rule_text" qj f fd)(hm:mg "rule_text"=some (.ref f))(hb:Binds K fd ["rule"] [])(nb:NbT mg)(CWT:Cal P w K mg base "worth_text" 1 pD):Cal P w K mg base "rule_text" 2 pk:=by
 refine xQ F hm hb eA (fun as Q h=>?_) (fun cdv A' outer s H E as Q hr h=>?_)
 ·obtain⟨s,i,j,v,rfl,_⟩:=h
  rfl
 ·obtain⟨x,i,j,v,rfl,hx,hi,hj,hv,q⟩:=h
  and_intros
  refine⟨wg (by omega),?_⟩
  and_intros
  refine⟨wg (by omega),?_⟩
  and_intros
  refine⟨x,v,rfl,hv,?_⟩
  and_intros
  refine⟨[x,fig i,fig j,uu v],rfl,lG (fun t ht=>?_) (by show 4≤20;decide),?_⟩
  ·simp only[dm,dy,cb] at ht
   rcases ht with rfl|rfl|rfl|rfl
   ·exact pY hx
   ·exact dq (xl (by omega)) (by decide)
   ·exact dq (xl (by omega)) (by decide)
   ·exact ou hv
  ·show Q (.dat (.str (Txt.join " " [x,fig i,fig j,uu v])))
   rw[pR hv]
   exact q
end
def wF (c:Nat):Bool:=decide (48≤c)&&decide (c≤57)
def Asc (w:Str):Prop:=w.cps.all (·<128)=true
def vH (w:Str):Bool:=!decide (w="")&&(w.cps.toList.all wF&&(decide (w="0")||!decide (w.cps.toList.head?=some 48)))
def zz (w:Str):PyData:=if vH w then .int (PySem.NumText.digitsVal w.cps.toList:Nat) else .none
theorem Asc.lt {w:Str}(h:Asc w){c:Nat}(hc:c∈w.cps.toList):c<128:=by
 unfold Asc at h
 rw[bJ] at h
 exact of_decide_eq_true (h c (cK.mp hc))
theorem pf {c:Nat}(h:c<128):(!(Builtin.Str.occurrences ("0123456789":Str) ⟨#[c]⟩ 0 ("0123456789":Str).length 1).isEmpty)=wF c:=by
 have:∀c:Fin 128,(!(Builtin.Str.occurrences ("0123456789":Str) ⟨#[c.1]⟩ 0 ("0123456789":Str).length 1).isEmpty)=wF c.1:=by decide +kernel
 exact this ⟨c,h⟩
def nC :List A→(A→Prop)→Prop:=fun as Q=>∃w:Str,as=[.dat (.str w)]∧Asc w∧w.length≤600∧Q (.dat (.bool (vH w)))
def rW :List A→(A→Prop)→Prop:=fun as Q=>∃w:Str,as=[.dat (.str w)]∧Asc w∧w.length≤600∧Q (.dat (zz w))
section
variable {P:Program}{w:World}{K:PySem.W.Frag}{mg:Str→Option Value}{base:Heap}
theorem eZ :zi ["word"] ["word"] (zc mR):=⟨rfl,rfl,rfl,by decide +kernel,rfl,by decide +kernel,by decide +kernel⟩
theorem lN {f:Addr}{fd:FuncData}(F:Fun K "is_number_text" "is_number_text" mR f fd)(hm:mg "is_number_text"=some (.ref f))(hb:Binds K fd ["word"] [])(nb:NbT mg)(gF:∃t,mg "FIGURES"=some (.str "0123456789" t)):Cal P w K mg base "is_number_text" 1 nC:=by
 refine xQ F hm hb eZ (fun as Q h=>?_) (fun cdv A' outer s H E as Q hr h=>?_)
 ·obtain⟨n,rfl,_⟩:=h
  rfl
 ·obtain⟨x,rfl,hx,hl,q⟩:=h
  have h6:600≤sizeLine:=by decide
  unfold vH at q
  and_intros
  by_cases e:x=""
  ·refine zW (di e) ?_
   rw[di e] at q
   and_intros
   exact q
  refine zT (dh e) ?_
  rw[dh e] at q
  and_intros
  refine iL rfl (by rfl) nb.all (EvL.d (vm ["sign"] [none] (.one 0) (nG (zd 0 rfl ⟨_,rfl,hx,?_⟩))))
  have hl2:(sgn x).length≤1000:=by
   unfold sgn
   rw[dB]
   exact dq hl (by decide)
  refine⟨hl2,?_⟩
  refine xt (l:=x.cps.toList) (g:=fun c=>.str ⟨#[c]⟩) (fun c=>.bool (wF c)) (fun c hc=>⟨_,rfl,fun C s2 H2 fp Q h=>?_⟩) ?_
  ·refine gB (zd 0 rfl (mC (by rfl) gF ⟨_,_,rfl,rfl,?_⟩))
   rw[pf (hx.lt hc)]
   exact h
  refine⟨x.cps.toList.map wF,by rw[List.nil_append,List.map_map];rfl,?_⟩
  rw[show (x.cps.toList.map wF).all id=x.cps.toList.all wF from by rw[List.all_map];rfl]
  cases ha:x.cps.toList.all wF with
  |false=>
   rw[ha] at q
   and_intros
   exact q
  |true=>
   rw[ha] at q
   and_intros
   by_cases z:x="0"
   ·refine zW (di z) ?_
    rw[di z] at q
    exact q
   ·refine zT (dh z) ?_
    rw[dh z] at q
    cases e1:x.cps.toList with
    |nil=>exact absurd (xF (e1.trans (by decide +kernel))) e
    |cons c r=>
     refine mD (lF hr.units (lM (fun _ _=>rfl) (zd 0 rfl (zh ⟨_,_,c,rfl,rfl,by omega,by rw[e1];exact ym (j:=0) rfl,?_⟩))))
     and_intros
     rw[e1] at q
     have e:decide ((⟨#[c]⟩:Str)="0")=decide (List.head? (c::r)=some 48):=by
      have z:("0":Str).cps.toList=[48]:=by decide +kernel
      by_cases hc:c=48
      ·subst hc
       exact (di (xF z.symm)).trans (di rfl).symm
      ·exact (dh fun e=>hc (cF ((congrArg (·.cps.toList) e).trans z)).1).trans (dh fun e=>hc (dM e)).symm
     rw[e]
     exact q
theorem mS {x:Str}(h:vH x=true):PySem.NumText.AllDigits x.cps.toList∧x.cps.toList≠[]:=by
 unfold vH at h
 simp only[dG,Bool.not_eq_true',ck,cB] at h
 refine⟨fun c hc=>?_,fun e=>h.1 (xF (e.trans (by decide +kernel)))⟩
 have:=h.2.1 c hc
 unfold wF at this
 rw[dG,dI,dI] at this
 exact this
theorem eF :zi ["word"] ["word"] (zc ng):=⟨rfl,rfl,rfl,by decide +kernel,rfl,by decide +kernel,by decide +kernel⟩
theorem nP {f:Addr}{fd:FuncData}(F:Fun K "number_by" "number_by" ng f fd)(hm:mg "number_by"=some (.ref f))(hb:Binds K fd ["word"] [])(nb:NbT mg)(CNT:Cal P w K mg base "is_number_text" 1 nC):Cal P w K mg base "number_by" 2 rW:=by
 refine xQ F hm hb eF (fun as Q h=>?_) (fun cdv A' outer s H E as Q hr h=>?_)
 ·obtain⟨n,rfl,_⟩:=h
  rfl
 ·obtain⟨x,rfl,hx,hl,q⟩:=h
  unfold zz at q
  and_intros
  refine⟨hx,hl,_,rfl,?_⟩
  cases hn:vH x with
  |true=>
   rw[hn] at q
   obtain⟨h1,h2⟩:=mS hn
   exact zW rfl (qY (by rfl) nb.int (zd 0 rfl ⟨_,_,rfl,bz h1 h2 (dq hl (by decide)),dq hl (by decide),q⟩))
  |false=>
   rw[hn] at q
   exact zT rfl (wA q)
end
theorem Asc.ok {x:Str}(h:Asc x):PyData.strOk x=true:=by
 unfold PyData.strOk
 rw[bJ]
 intro c hc
 have:=h.lt (cK.mpr hc)
 exact di (by omega)
def Ws (ws:List Str):Prop:=∀w∈ws,Asc w∧w.length≤600
theorem sQ :∀{ws:List Str},Ws ws→PyData.canLayAll0 (ws.map .str)=true
 |[],_=>by simp[PyData.canLayAll0]
 |x::r,h=>by
  show PyData.canLayAll0 (.str x::r.map .str)=true
  simp only[PyData.canLayAll0,PyData.canLay0,dG]
  exact⟨(h x (dE ..)).1.ok,sQ fun w hw=>h w (dA _ hw)⟩
theorem sN :∀ws:List Str,PyData.depthAll (ws.map .str)=0
 |[]=>by simp[PyData.depthAll]
 |x::r=>by
  show PyData.depthAll (.str x::r.map .str)=0
  simp only[PyData.depthAll,PyData.depth,sN r]
  omega
theorem nv :∀ws:List Str,(PyData.list (ws.map .str)).hasDict=false:=by
 intro ws
 simp only[PyData.hasDict]
 induction ws with
 |nil=>simp[PyData.hasDictAll]
 |cons x r ih=>simp only[dU,PyData.hasDictAll,PyData.hasDict,ih,Bool.or_self]
theorem kc {ws:List Str}(h:Ws ws):SeqAt.shaped (.list (ws.map .str))=true:=by
 unfold SeqAt.shaped
 rw[dG,dI]
 refine⟨by simp only[PyData.canLay0];exact sQ h,?_⟩
 simp only[PyData.depth,sN]
 omega
theorem lP (ws:List Str)(x:Str):PyData.eqv (.list (ws.map .str)) (.list [.str x])=decide (ws=[x]):=by
 match ws with
 |[]=>simp[PyData.eqv,PyData.eqvAll]
 |[a]=>
  show ((a == x)&&true)=_
  rw[bN]
  by_cases h:a=x<;>simp[h]
 |a::b::r=>simp[PyData.eqv,PyData.eqvAll]
theorem yi {ws:List Str}{x:Str}{Q:Bool→Prop}(h1:Ws ws)(h2:PyData.strOk x=true)(h:Q (decide (ws=[x]))):uq (.list (ws.map .str)) (.list [.str x]) Q:=
 eqk (kc h1) (by simp[SeqAt.shaped,PyData.canLay0,PyData.canLayAll0,h2,PyData.depth,PyData.depthAll]) (nv ws) rfl (by rw[lP];exact h)
def gN (ds:List PyData):PyData:=match ds with
 |[d]=>if xT d then .tuple [d] else d
 |ds=>.tuple ds
def wBy (ws:List Str):PyData:=if ws=[("none":Str)] then .none else if ws=[("yes":Str)] then .bool true else if ws=[("no":Str)] then .bool false else gN (ws.map zz)
def mZ :List A→(A→Prop)→Prop:=fun as Q=>∃ws,as=[.dat (.list (ws.map .str))]∧Ws ws∧ws.length≤700∧Q (.dat (wBy ws))
section
variable {P:Program}{w:World}{K:PySem.W.Frag}{mg:Str→Option Value}{base:Heap}
theorem fm :zi ["words","numbers"] ["words"] (zc iU):=⟨rfl,rfl,rfl,by decide +kernel,rfl,by decide +kernel,by decide +kernel⟩
theorem nM {f:Addr}{fd:FuncData}(F:Fun K "worth_by" "worth_by" iU f fd)(hm:mg "worth_by"=some (.ref f))(hb:Binds K fd ["words"] [])(nb:NbT mg)(CNB:Cal P w K mg base "number_by" 2 rW):Cal P w K mg base "worth_by" 3 mZ:=by
 refine xQ F hm hb fm (fun as Q h=>?_) (fun cdv A' outer s H E as Q hr h=>?_)
 ·obtain⟨ws,rfl,_⟩:=h
  rfl
 ·obtain⟨ws,rfl,hw,hl,q⟩:=h
  have nd:=fm.nd
  unfold wBy at q
  and_intros
  refine yi hw (by decide +kernel) ?_
  by_cases c1:ws=[("none":Str)]
  ·rw[if_pos c1] at q
   refine zF (di c1) ?_
   and_intros
   exact q
  rw[if_neg c1] at q
  refine zH (dh c1) ?_
  and_intros
  refine yi hw (by decide +kernel) ?_
  by_cases c2:ws=[("yes":Str)]
  ·rw[if_pos c2] at q
   refine zF (di c2) ?_
   and_intros
   exact q
  rw[if_neg c2] at q
  refine zH (dh c2) ?_
  and_intros
  refine yi hw (by decide +kernel) ?_
  by_cases c3:ws=[("no":Str)]
  ·rw[if_pos c3] at q
   refine zF (di c3) ?_
   and_intros
   exact q
  rw[if_neg c3] at q
  refine zH (dh c3) ?_
  and_intros
  refine iT 1 ["word"] [none] (.one 0) (tL (zd 0 rfl ⟨_,rfl,by rw[dB];omega,?_⟩))
  refine xt (l:=ws) (g:=fun x=>.str x) (fun x=>zz x) (fun x hx=>⟨_,rfl,fun C s2 H2 fp Q h=>?_⟩) ?_
  ·and_intros
   exact⟨(hw x hx).1,(hw x hx).2,h⟩
  refine jW 1 rfl ?_
  rw[List.nil_append]
  generalize ws.map zz=ds at q
  match ds,q with
  |[],q=>
   and_intros
   exact q
  |[d],q=>
   have q:Q (.dat (if xT d=true then .tuple [d] else d)):=q
   and_intros
   cases hd:xT d with
   |true=>
    rw[hd] at q
    refine zH rfl ?_
    and_intros
    exact q
   |false=>
    rw[hd] at q
    refine zF rfl ?_
    and_intros
    exact q
  |d::e::r,q=>
   and_intros
   exact q
theorem mem_join {sep:Str}{c:Nat}:∀{ts:List Str} {p:Str},p∈ts→c∈p.cps.toList→c∈(Str.join sep ts).cps.toList
 |[x],p,hp,hc=>by rw[cf.mp hp] at hc;exact hc
 |x::y::r,p,hp,hc=>by
  show c∈(x++sep++Str.join sep (y::r)).cps.toList
  rw[Str.cps_append,Str.cps_append,bF,bF,cv,cv]
  rcases dm.mp hp with rfl|hp
  ·exact .inl (.inl hc)
  ·exact .inr (mem_join hp hc)
theorem Asc.of {x:Str}(h:∀c∈x.cps.toList,c<128):Asc x:=by
 unfold Asc
 rw[bJ]
 intro c hc
 exact di (h c (cK.mpr hc))
theorem ug {x:Str}(h:Asc x)(hl:x.length≤600)(y:Str):Ws (Txt.split x y):=fun p hp=>
 ⟨.of fun c hc=>h.lt (by have:=mem_join (sep:=y) hp hc;rw[StrLaws.join_split] at this;exact this),dq (part_short hp) hl⟩
def iA (ws:List Str):PyData:=match ws with
 |a::b::c::d::r=>.tuple [.str a,zz b,zz c,wBy (d::r)]
 |_=>.none
def rBy (x:Str):PyData:=if xG (iA (Txt.split x " "))=true then iA (Txt.split x " ") else .none
theorem rQ (x:Str):zz x=.none∨∃n:Nat,zz x=.int n:=by
 unfold zz
 split
 ·exact .inr ⟨_,rfl⟩
 ·exact .inl rfl
theorem wW (x:Str):(zz x).canLay0=true∧(zz x).depth=0∧(zz x).hasDict=false:=by
 rcases rQ x with e|⟨n,e⟩<;>rw[e]<;>exact⟨by simp[PyData.canLay0],by simp[PyData.depth],by simp[PyData.hasDict]⟩
theorem sP :∀ws:List Str,PyData.canLayAll0 (ws.map zz)=true∧PyData.depthAll (ws.map zz)=0∧PyData.hasDictAll (ws.map zz)=false
 |[]=>by simp[PyData.canLayAll0,PyData.depthAll,PyData.hasDictAll]
 |x::r=>by
  obtain⟨a,b,c⟩:=wW x
  obtain⟨a',b',c'⟩:=sP r
  simp only[dU,PyData.canLayAll0,PyData.depthAll,PyData.hasDictAll,a,b,c,a',b',c']
  exact⟨rfl,by omega,rfl⟩
theorem ja (ws:List Str):(wBy ws).canLay0=true∧(wBy ws).depth≤1∧(wBy ws).hasDict=false:=by
 have k:∀d:PyData,(d=.none∨∃b,d=.bool b)→d.canLay0=true∧d.depth≤1∧d.hasDict=false:=by
  rintro d (rfl|⟨b,rfl⟩)<;>exact⟨by simp[PyData.canLay0],by simp[PyData.depth],by simp[PyData.hasDict]⟩
 unfold wBy
 split
 ·exact k _ (.inl rfl)
 split
 ·exact k _ (.inr ⟨_,rfl⟩)
 split
 ·exact k _ (.inr ⟨_,rfl⟩)
 have t:∀ws:List Str,(PyData.tuple (ws.map zz)).canLay0=true∧(PyData.tuple (ws.map zz)).depth≤1∧(PyData.tuple (ws.map zz)).hasDict=false:=fun ws=>by
  obtain⟨a,b,c⟩:=sP ws
  simp only[PyData.canLay0,PyData.depth,PyData.hasDict,a,b,c]
  exact⟨trivial,by omega,trivial⟩
 match ws with
 |[]=>exact t []
 |[x]=>
  show (if xT (zz x)=true then PyData.tuple [zz x] else zz x).canLay0=true∧_
  show _∧(if xT (zz x)=true then PyData.tuple [zz x] else zz x).depth≤1∧(if xT (zz x)=true then PyData.tuple [zz x] else zz x).hasDict=false
  split
  ·exact t [x]
  ·obtain⟨a,b,c⟩:=wW x
   exact⟨a,by omega,c⟩
 |x::y::r=>exact t (x::y::r)
def sR :List A→(A→Prop)→Prop:=fun as Q=>∃d,as=[.dat d]∧d.hasDict=false∧SeqAt.shaped d=true∧Q (.dat (.bool (xG d)))
theorem rR {k:Nat}{f:Addr}{fd:FuncData}{ps:List Str}(hm:mg "is_rule"=some (.ref f))(hk:PySem.W.keepIn K (.ref f)=true)(hb:Binds K fd ps [])(G:zK P w K mg base CX0 k f fd ps lu):Cal P w K mg base "is_rule" k sR:=by
 refine⟨f,fd,_,hm,hk,hb,G.imp fun vs H Q E h=>?_⟩
 obtain⟨F,as,Q',rfl,t,o,rv,⟨d,rfl,nd,sh,q0⟩,kk⟩:=h
 obtain⟨x,rfl,av⟩:=rv.one
 exact⟨x,d,rfl,(av.dv nd).same xq,sh,fun H' s=>kk _ _ _ q0 ⟨t.same s,Kz.of_same s,.bl _⟩⟩
def mP :List A→(A→Prop)→Prop:=fun as Q=>∃x:Str,as=[.dat (.str x)]∧Asc x∧x.length≤600∧Q (.dat (rBy x))
theorem fH (a b c:Str)(r:List Str):L2.cutD (List.map PyData.str (a::b::c::r)) (some 3) none=r.map .str:=by
 unfold L2.cutD
 rw[show (some (3:Int))=some ((3:Nat):Int) from rfl,HT.mf,HT.sA]
 simp only[dB,dJ,dU]
 rw[Nat.min_eq_left (by omega)]
 simp
 rw[List.take_of_length_le (by rw[dB];exact dC _)]
theorem lK {a b c d:Str}{r:List Str}(ha:Asc a):SeqAt.shaped (.tuple [.str a,zz b,zz c,wBy (d::r)])=true∧(PyData.tuple [.str a,zz b,zz c,wBy (d::r)]).hasDict=false:=by
 obtain⟨b1,b2,b3⟩:=wW b
 obtain⟨c1,c2,c3⟩:=wW c
 obtain⟨d1,d2,d3⟩:=ja (d::r)
 unfold SeqAt.shaped
 simp only[PyData.canLay0,PyData.canLayAll0,PyData.depth,PyData.depthAll,PyData.hasDict,PyData.hasDictAll,ha.ok,b1,b2,b3,c1,c2,c3,d1,d3,bN,cA,Bool.or_false,dI]
 exact⟨by omega,trivial⟩
theorem eg :zi ["text","words","rule"] ["text"] (zc jY):=⟨rfl,rfl,rfl,by decide +kernel,rfl,by decide +kernel,by decide +kernel⟩
theorem mB {f:Addr}{fd:FuncData}(F:Fun K "rule_by" "rule_by" jY f fd)(hm:mg "rule_by"=some (.ref f))(hb:Binds K fd ["text"] [])(nb:NbT mg)(CNB:Cal P w K mg base "number_by" 2 rW)(CWB:Cal P w K mg base "worth_by" 3 mZ)(CIR:Cal P w K mg base "is_rule" 6 sR):Cal P w K mg base "rule_by" 7 mP:=by
 refine xQ F hm hb eg (fun as Q h=>?_) (fun cdv A' outer s H E as Q hr h=>?_)
 ·obtain⟨x,rfl,_⟩:=h
  rfl
 ·obtain⟨x,rfl,hx,hl,q⟩:=h
  have nd:=eg.nd
  have h6:1000≤sizeLine:=by decide
  refine zN 1 nd (EvL.d (wU (zd 0 rfl ⟨_,rfl,zx ⟨_,rfl,by decide +kernel,by omega,?_⟩⟩)))
  have hw:=ug hx hl " "
  have hn:(Txt.split x " ").length≤602:=dq (split_le x " ") (by omega)
  unfold rBy at q
  generalize Txt.split x " "=ws at q hw hn
  match ws,q,hw,hn with
  |[],q,hw,hn=>and_intros;exact q
  |[a],q,hw,hn=>and_intros;exact q
  |[a,b],q,hw,hn=>and_intros;exact q
  |[a,b,c],q,hw,hn=>and_intros;exact q
  |a::b::c::d::r,q,hw,hn=>
   have wa:=hw a (by simp)
   have wb:=hw b (by simp)
   have wc:=hw c (by simp)
   have wd:Ws (d::r):=fun w h=>hw w (by simp only[dm] at h ⊢;exact .inr (.inr (.inr h)))
   obtain⟨s1,s2⟩:=lK (a:=a) (b:=b) (c:=c) (d:=d) (r:=r) wa.1
   have q:Q (.dat (if xG (.tuple [.str a,zz b,zz c,wBy (d::r)])=true then .tuple [.str a,zz b,zz c,wBy (d::r)] else .none)):=q
   and_intros
   refine ixk rfl rfl (ym (j:=0) rfl) ?_
   and_intros
   refine ixk rfl rfl (ym (j:=1) rfl) ?_
   and_intros
   refine⟨wb.1,wb.2,?_⟩
   and_intros
   refine ixk rfl rfl (ym (j:=2) rfl) ?_
   and_intros
   refine⟨wc.1,wc.2,?_⟩
   and_intros
   refine⟨d::r,by rw[fH],wd,by simp only[dJ] at hn ⊢;omega,?_⟩
   and_intros
   refine⟨s2,s1,_,rfl,?_⟩
   cases hu:xG (.tuple [.str a,zz b,zz c,wBy (d::r)]) with
   |true=>
    rw[hu] at q
    exact zW hu (zd 2 rfl q)
   |false=>
    rw[hu] at q
    exact zT hu (wA q)
end
abbrev ni :Stmt:=top 30
def zj (x:Str):Int:=if vH x then (PySem.NumText.digitsVal x.cps.toList:Nat) else -1
def sr :List A→(A→Prop)→Prop:=fun as Q=>∃x:Str,as=[.dat (.str x)]∧Asc x∧x.length≤600∧Q (.dat (.int (zj x)))
section
variable {P:Program}{w:World}{K:PySem.W.Frag}{mg:Str→Option Value}{base:Heap}
theorem eY :zi ["_law_word"] ["_law_word"] (zc ni):=⟨rfl,rfl,rfl,by decide +kernel,rfl,by decide +kernel,by decide +kernel⟩
theorem mn {f:Addr}{fd:FuncData}(F:Fun K "_law_number" "_law_number" ni f fd)(hm:mg "_law_number"=some (.ref f))(hb:Binds K fd ["_law_word"] [])(nb:NbT mg):Cal P w K mg base "_law_number" 1 sr:=by
 refine xQ F hm hb eY (fun as Q h=>?_) (fun cdv A' outer s H E as Q hr h=>?_)
 ·obtain⟨x,rfl,_⟩:=h
  rfl
 ·obtain⟨x,rfl,hx,hl,q⟩:=h
  have h6:600≤sizeLine:=by decide
  have el:x.length=x.cps.toList.length:=by simp[Str.length]
  have em:("":Str).cps.toList=[]:=by decide +kernel
  unfold zj vH at q
  and_intros
  refine⟨by omega,?_⟩
  and_intros
  by_cases e:x=""
  ·rw[di e] at q
   refine zW (di (by rw[el,e,em];rfl)) ?_
   and_intros
   exact q
  have e0:x.length≠0:=fun z=>e (xF ((List.length_eq_zero_iff.mp (by omega)).trans em.symm))
  rw[dh e] at q
  refine zT (dh (by omega)) ?_
  and_intros
  refine EvL.d (vm ["_law_sign"] [none] (.one 0) (nG (zd 0 rfl ⟨_,rfl,hx,by unfold sgn;rw[dB];omega,?_⟩)))
  refine rm (l:=x.cps.toList) (g:=fun c=>.str ⟨#[c]⟩) (fun c=>!wF c) (fun c=>.str ⟨#[c]⟩) (fun c hc=>⟨_,rfl,fun C s2 H2 fp Q k=>hV ?_,fun _ C s2 H2 fp Q k=>zd 0 rfl k⟩) ?_
  ·refine oW (zd 0 rfl (zx ⟨_,_,rfl,rfl,?_⟩))
   rw[pf (hx.lt hc)]
   exact k
  have ea:(x.cps.toList.filter fun c=>!wF c)=[]↔x.cps.toList.all wF=true:=by
   rw[List.filter_eq_nil_iff,cB]
   exact⟨fun h c hc=>by simpa using h c hc,fun h c hc=>by simpa using h c hc⟩
  cases ha:x.cps.toList.all wF with
  |false=>
   rw[ha] at q
   have en:(x.cps.toList.filter fun c=>!wF c)≠[]:=fun z=>by rw[ea.mp z] at ha;cases ha
   and_intros
   refine zF (di (by rw[List.nil_append,dB];have:=List.length_pos_iff.mpr en;omega)) ?_
   and_intros
   exact q
  |true=>
   rw[ha] at q
   rw[ea.mpr ha]
   have z0:("0":Str).cps.toList=[48]:=by decide +kernel
   have ad:PySem.NumText.AllDigits x.cps.toList:=fun c hc=>by
    have:=cB.mp ha c hc
    unfold wF at this
    rwa [dG,dI,dI] at this
   and_intros
   refine⟨by omega,?_⟩
   and_intros
   match e1:x.cps.toList with
   |[]=>exact absurd (xF (e1.trans em.symm)) e
   |[c]=>
    have q:Q (.dat (.int (PySem.NumText.digitsVal x.cps.toList:Nat))):=by
     have hz:(decide (x="0")||!decide (x.cps.toList.head?=some 48))=true:=by
      by_cases hc:c=48
      ·subst hc
       rw[di (xF (e1.trans z0.symm))];rfl
      ·have hh:decide (x.cps.toList.head?=some 48)=false:=dh (by rw[e1];exact fun z=>hc (dM z))
       rw[hh]
       exact Bool.or_true _
     rw[hz] at q
     exact q
    refine zT (dh (by rw[el,e1];show ¬(1:Int)<((1:Nat):Int);omega)) ?_
    and_intros
    exact⟨_,_,rfl,bz ad (by rw[e1];simp) (by omega),by omega,q⟩
   |c::d::r=>
    have x0:x≠"0":=fun z=>by
     rw[z,z0] at e1
     cases e1
    rw[dh x0] at q
    refine zW (di (by rw[el,e1,dJ,dJ];omega)) ?_
    refine tW (lR hr.units (lM (fun _ _=>rfl) (zd 0 rfl (zh ⟨_,_,c,rfl,rfl,by omega,by rw[e1];exact ym (j:=0) rfl,?_⟩))))
    and_intros
    by_cases hc:c=48
    ·have hh:decide (x.cps.toList.head?=some 48)=true:=di (by rw[e1,hc];rfl)
     rw[hh] at q
     refine zF (di (by rw[hc];exact xF z0.symm)) ?_
     and_intros
     exact q
    ·have hh:decide (x.cps.toList.head?=some 48)=false:=dh (by rw[e1];exact fun z=>hc (dM z))
     rw[hh] at q
     refine zH (dh fun e=>hc (cF ((congrArg (·.cps.toList) e).trans z0)).1) ?_
     and_intros
     exact⟨_,_,rfl,bz ad (by rw[e1];simp) (by omega),by omega,q⟩
end
abbrev qD :Stmt:=top 31
def wQ (a b:Str):PyData:=if (decide (2≤zj a)&&decide (zj a≤14))&&(decide (1≤zj b)&&decide (zj b<zj a)) then .tuple [.int (zj a),.int (zj b)] else .int (-1)
def pd :List A→(A→Prop)→Prop:=fun as Q=>∃a b:Str,as=[.dat (.list [.str a,.str b])]∧Ws [a,b]∧Q (.dat (wQ a b))
section
variable {P:Program}{w:World}{K:PySem.W.Frag}{mg:Str→Option Value}{base:Heap}
theorem gI :zi ["_law_words","_law_many","_law_free"] ["_law_words"] (zc qD):=⟨rfl,rfl,rfl,by decide +kernel,rfl,by decide +kernel,by decide +kernel⟩
theorem oK {f:Addr}{fd:FuncData}(F:Fun K "_law_pair" "_law_pair" qD f fd)(hm:mg "_law_pair"=some (.ref f))(hb:Binds K fd ["_law_words"] [])(nb:NbT mg)(CN:Cal P w K mg base "_law_number" 1 sr):Cal P w K mg base "_law_pair" 2 pd:=by
 refine xQ F hm hb gI (fun as Q h=>?_) (fun cdv A' outer s H E as Q hr h=>?_)
 ·obtain⟨a,b,rfl,_⟩:=h
  rfl
 ·obtain⟨a,b,rfl,hw,q⟩:=h
  have nd:=gI.nd
  refine qL 1 2 (yJ (yQ (i:=1) nd rfl (Or.inl rfl)) (yJ (yQ (i:=2) nd rfl (Or.inl rfl)) wO)) rfl (EvL.d (vm ["_law_word"] [none] (.one 0) (tL (zd 0 rfl ⟨_,rfl,du rfl,?_⟩))))
  refine xt (l:=[a,b]) (g:=fun x=>.str x) (fun x=>.int (zj x)) (fun x hx=>⟨_,rfl,fun C s2 H2 fp Q h=>?_⟩) ?_
  ·and_intros
   exact⟨(hw x hx).1,(hw x hx).2,h⟩
  refine⟨_,_,rfl,?_⟩
  unfold wQ at q
  and_intros
  cases c1:decide (2≤zj a) with
  |false=>rw[c1] at q;refine zT rfl ?_;and_intros;exact q
  |true=>
  rw[c1] at q;refine zW rfl ?_;and_intros
  cases c2:decide (zj a≤14) with
  |false=>rw[c2] at q;refine zT rfl ?_;and_intros;exact q
  |true=>
  rw[c2] at q;refine zW rfl ?_;and_intros
  cases c3:decide (1≤zj b) with
  |false=>rw[c3] at q;refine zT rfl ?_;and_intros;exact q
  |true=>
  rw[c3] at q;refine zW rfl ?_;and_intros
  cases c4:decide (zj b<zj a) with
  |false=>rw[c4] at q;refine zH rfl ?_;and_intros;exact q
  |true=>rw[c4] at q;refine zF rfl ?_;and_intros;exact q
end
abbrev tN :Stmt:=top 32
def ynL (x:Str):PyData:=if x="yes" then .bool true else if x="no" then .bool false else .int (-1)
def wl1 (s x:Str):PyData:=
 if s="price" then (if x="none" then .none else if zj x≤1000000000000 then .int (zj x) else .int (-1))
 else if s="fee" then (if zj x≤1000000000000 then .int (zj x) else .int (-1))
 else if s="deal" then (if x="none" then .none else .int (-1))
 else if s="come"∨s="go" then ynL x
 else if 1≤zj x∧zj x≤14 then .int (zj x) else .int (-1)
def yL (s:Str):List Str→PyData
 |[x]=>wl1 s x
 |[a,b]=>if s="deal" then wQ a b else .int (-1)
 |_=>.int (-1)
def jO :List A→(A→Prop)→Prop:=fun as Q=>∃s ws,as=[.dat (.str s),.dat (.list (ws.map .str))]∧s∈words∧Ws ws∧ws.length≤700∧Q (.dat (yL s ws))
def ynD :List (PyData×PyData):=[(.str "yes",.bool true),(.str "no",.bool false)]
theorem xg (x:Str):(wu ynD x).getD (.int (-1))=ynL x:=by
 unfold ynD ynL wu wu
 by_cases h:x="yes"
 ·subst h;rfl
 ·rw[if_neg (fun e=>h e.symm),if_neg h]
  by_cases g:x="no"
  ·subst g;rfl
  ·rw[if_neg (fun e=>g e.symm),if_neg g];rfl
theorem pq (x:Str):∃v,scV (ynL x)=some v:=by
 unfold ynL
 split
 ·exact⟨_,rfl⟩
 split
 ·exact⟨_,rfl⟩
 exact⟨_,rfl⟩
theorem xN (x:Str):wl1 "price" x=if x="none" then .none else if zj x≤1000000000000 then .int (zj x) else .int (-1):=if_pos rfl
theorem uj (x:Str):wl1 "fee" x=if zj x≤1000000000000 then .int (zj x) else .int (-1):=by unfold wl1;rw[if_neg (by decide +kernel),if_pos rfl]
theorem wM (x:Str):wl1 "deal" x=if x="none" then .none else .int (-1):=by unfold wl1;rw[if_neg (by decide +kernel),if_neg (by decide +kernel),if_pos rfl]
theorem wZ (x:Str):wl1 "come" x=ynL x:=by unfold wl1;rw[if_neg (by decide +kernel),if_neg (by decide +kernel),if_neg (by decide +kernel),if_pos (.inl rfl)]
theorem rF (x:Str):wl1 "go" x=ynL x:=by unfold wl1;rw[if_neg (by decide +kernel),if_neg (by decide +kernel),if_neg (by decide +kernel),if_pos (.inr rfl)]
theorem xP (x:Str):wl1 "least" x=if 1≤zj x∧zj x≤14 then .int (zj x) else .int (-1):=by unfold wl1;rw[if_neg (by decide +kernel),if_neg (by decide +kernel),if_neg (by decide +kernel),if_neg (by decide +kernel)]
theorem wX (x:Str):wl1 "most" x=if 1≤zj x∧zj x≤14 then .int (zj x) else .int (-1):=by unfold wl1;rw[if_neg (by decide +kernel),if_neg (by decide +kernel),if_neg (by decide +kernel),if_neg (by decide +kernel)]
theorem jC :∀q∈ynD,∃v,scV q.2=some v:=fun q hq=>by
 simp only[ynD,dm,dy,cb] at hq
 rcases hq with rfl|rfl<;>exact⟨_,rfl⟩
section
variable {P:Program}{w:World}{K:PySem.W.Frag}{mg:Str→Option Value}{base:Heap}
theorem fg :zi ["_law_word","_law_words","_law_number_here"] ["_law_word","_law_words"] (zc tN):=⟨rfl,rfl,rfl,by decide +kernel,rfl,by decide +kernel,by decide +kernel⟩
set_option maxHeartbeats 2000000 in
theorem qf {f:Addr}{fd:FuncData}(F:Fun K "_law_worth_by" "_law_worth_by" tN f fd)(hm:mg "_law_worth_by"=some (.ref f))(hb:Binds K fd ["_law_word","_law_words"] [])(nb:NbT mg)(CN:Cal P w K mg base "_law_number" 1 sr)(CP:Cal P w K mg base "_law_pair" 2 pd):Cal P w K mg base "_law_worth_by" 3 jO:=by
 refine xQ F hm hb fg (fun as Q h=>?_) (fun cdv A' outer s H E as Q hr h=>?_)
 ·obtain⟨s,ws,rfl,_⟩:=h
  rfl
 ·obtain⟨x,ws,rfl,hx,hw,hl,q⟩:=h
  have nd:=fg.nd
  match ws,hw,hl,q with
  |[],hw,hl,q=>
   and_intros
   refine jQ (fun e=>?_) (fun e=>?_)<;>(and_intros;exact q)
  |[y],hw,hl,q=>
   have q:Q (.dat (wl1 x y)):=q
   have hx:=hx
   simp only[words,dm,dy,cb] at hx
   rcases hx with rfl|rfl|rfl|rfl|rfl|rfl|rfl
   ·rw[xN] at q
    and_intros
    refine yi hw (by decide +kernel) ?_
    by_cases c:y="none"
    ·refine zW (di (by rw[c])) ?_
     and_intros
     rw[if_pos c] at q
     and_intros
     exact q
    ·refine zT (dh fun e=>c (cF e).1) ?_
     and_intros
     rw[if_neg c] at q
     and_intros
     refine⟨(hw y (by simp)).1,(hw y (by simp)).2,?_⟩
     generalize zj y=n at q ⊢
     and_intros
     by_cases g:n≤1000000000000
     ·rw[if_pos g] at q
      refine zF (di g) ?_
      and_intros
      exact q
     ·rw[if_neg g] at q
      refine zH (dh g) ?_
      and_intros
      exact q
   ·rw[wZ] at q
    and_intros
    refine yi hw (by decide +kernel) ?_
    by_cases c:y="none"
    ·refine zW (di (by rw[c])) ?_
     and_intros
     refine wR (D:=ynD) rfl (by decide +kernel) (by decide +kernel) jC ?_
     and_intros
     obtain⟨v,hv⟩:=pq y
     exact⟨y,-1,v,rfl,rfl,by rw[xg];exact hv,by rw[xg];exact q⟩
    ·refine zT (dh fun e=>c (cF e).1) ?_
     and_intros
     refine wR (D:=ynD) rfl (by decide +kernel) (by decide +kernel) jC ?_
     and_intros
     obtain⟨v,hv⟩:=pq y
     exact⟨y,-1,v,rfl,rfl,by rw[xg];exact hv,by rw[xg];exact q⟩
   ·rw[rF] at q
    and_intros
    refine yi hw (by decide +kernel) ?_
    by_cases c:y="none"
    ·refine zW (di (by rw[c])) ?_
     and_intros
     refine wR (D:=ynD) rfl (by decide +kernel) (by decide +kernel) jC ?_
     and_intros
     obtain⟨v,hv⟩:=pq y
     exact⟨y,-1,v,rfl,rfl,by rw[xg];exact hv,by rw[xg];exact q⟩
    ·refine zT (dh fun e=>c (cF e).1) ?_
     and_intros
     refine wR (D:=ynD) rfl (by decide +kernel) (by decide +kernel) jC ?_
     and_intros
     obtain⟨v,hv⟩:=pq y
     exact⟨y,-1,v,rfl,rfl,by rw[xg];exact hv,by rw[xg];exact q⟩
   ·rw[xP] at q
    and_intros
    refine yi hw (by decide +kernel) ?_
    by_cases c:y="none"
    ·refine zW (di (by rw[c])) ?_
     and_intros
     refine⟨(hw y (by simp)).1,(hw y (by simp)).2,?_⟩
     generalize zj y=n at q ⊢
     and_intros
     by_cases g1:1≤n
     ·refine zW (di g1) ?_
      and_intros
      by_cases g:n≤14
      ·rw[if_pos ⟨g1,g⟩] at q
       refine zF (di g) ?_
       and_intros
       exact q
      ·rw[if_neg fun e=>g e.2] at q
       refine zH (dh g) ?_
       and_intros
       exact q
     ·rw[if_neg fun e=>g1 e.1] at q
      refine zT (dh g1) ?_
      and_intros
      exact q
    ·refine zT (dh fun e=>c (cF e).1) ?_
     and_intros
     refine⟨(hw y (by simp)).1,(hw y (by simp)).2,?_⟩
     generalize zj y=n at q ⊢
     and_intros
     by_cases g1:1≤n
     ·refine zW (di g1) ?_
      and_intros
      by_cases g:n≤14
      ·rw[if_pos ⟨g1,g⟩] at q
       refine zF (di g) ?_
       and_intros
       exact q
      ·rw[if_neg fun e=>g e.2] at q
       refine zH (dh g) ?_
       and_intros
       exact q
     ·rw[if_neg fun e=>g1 e.1] at q
      refine zT (dh g1) ?_
      and_intros
      exact q
   ·rw[wX] at q
    and_intros
    refine yi hw (by decide +kernel) ?_
    by_cases c:y="none"
    ·refine zW (di (by rw[c])) ?_
     and_intros
     refine⟨(hw y (by simp)).1,(hw y (by simp)).2,?_⟩
     generalize zj y=n at q ⊢
     and_intros
     by_cases g1:1≤n
     ·refine zW (di g1) ?_
      and_intros
      by_cases g:n≤14
      ·rw[if_pos ⟨g1,g⟩] at q
       refine zF (di g) ?_
       and_intros
       exact q
      ·rw[if_neg fun e=>g e.2] at q
       refine zH (dh g) ?_
       and_intros
       exact q
     ·rw[if_neg fun e=>g1 e.1] at q
      refine zT (dh g1) ?_
      and_intros
      exact q
    ·refine zT (dh fun e=>c (cF e).1) ?_
     and_intros
     refine⟨(hw y (by simp)).1,(hw y (by simp)).2,?_⟩
     generalize zj y=n at q ⊢
     and_intros
     by_cases g1:1≤n
     ·refine zW (di g1) ?_
      and_intros
      by_cases g:n≤14
      ·rw[if_pos ⟨g1,g⟩] at q
       refine zF (di g) ?_
       and_intros
       exact q
      ·rw[if_neg fun e=>g e.2] at q
       refine zH (dh g) ?_
       and_intros
       exact q
     ·rw[if_neg fun e=>g1 e.1] at q
      refine zT (dh g1) ?_
      and_intros
      exact q
   ·rw[wM] at q
    and_intros
    refine yi hw (by decide +kernel) ?_
    by_cases c:y="none"
    ·refine zW (di (by rw[c])) ?_
     and_intros
     rw[if_pos c] at q
     and_intros
     exact q
    ·refine zT (dh fun e=>c (cF e).1) ?_
     and_intros
     rw[if_neg c] at q
     and_intros
     refine⟨(hw y (by simp)).1,(hw y (by simp)).2,?_⟩
     generalize zj y=n at q ⊢
     and_intros
     exact q
   ·rw[uj] at q
    and_intros
    refine yi hw (by decide +kernel) ?_
    by_cases c:y="none"
    ·refine zW (di (by rw[c])) ?_
     and_intros
     refine⟨(hw y (by simp)).1,(hw y (by simp)).2,?_⟩
     generalize zj y=n at q ⊢
     and_intros
     by_cases g:n≤1000000000000
     ·rw[if_pos g] at q
      refine zF (di g) ?_
      and_intros
      exact q
     ·rw[if_neg g] at q
      refine zH (dh g) ?_
      and_intros
      exact q
    ·refine zT (dh fun e=>c (cF e).1) ?_
     and_intros
     refine⟨(hw y (by simp)).1,(hw y (by simp)).2,?_⟩
     generalize zj y=n at q ⊢
     and_intros
     by_cases g:n≤1000000000000
     ·rw[if_pos g] at q
      refine zF (di g) ?_
      and_intros
      exact q
     ·rw[if_neg g] at q
      refine zH (dh g) ?_
      and_intros
      exact q
  |[a,b],hw,hl,q=>
   and_intros
   by_cases e:x="deal"
   ·refine zW (di e) ?_
    have q:Q (.dat (wQ a b)):=by subst e;exact q
    and_intros
    exact⟨a,b,rfl,hw,q⟩
   ·refine zT (dh e) ?_
    have q:Q (.dat (.int (-1))):=by
     have q:Q (.dat (if x="deal" then wQ a b else .int (-1))):=q
     rwa [if_neg e] at q
    and_intros
    exact q
  |a::b::c::r,hw,hl,q=>
   have q:Q (.dat (.int (-1))):=q
   and_intros
   refine jQ (fun e=>?_) (fun e=>?_)<;>(and_intros;exact q)
end
def sv :PyData→Bool
 |.int i=>decide (i<0)
 |_=>false
theorem yH {x:Str}:(vH x=true∧∃n:Nat,zz x=.int n∧zj x=n)∨(vH x=false∧zz x=.none∧zj x=-1):=by
 unfold zz zj
 cases h:vH x with
 |true=>exact .inl ⟨rfl,_,if_pos rfl,if_pos rfl⟩
 |false=>exact .inr ⟨rfl,if_neg (by decide),if_neg (by decide)⟩
theorem jf (x:Str):wBy [x]=if x="none" then .none else if x="yes" then .bool true else if x="no" then .bool false else gN [zz x]:=by
 have e:∀y:Str,([x]=[y])=(x=y):=fun y=>by simp
 unfold wBy
 simp only[e,dU,List.map_nil]
theorem rG (x y:Str)(r:List Str):wBy (x::y::r)=.tuple ((x::y::r).map zz):=by
 unfold wBy
 rw[if_neg (by simp),if_neg (by simp),if_neg (by simp)]
 rfl
def Agree (a:Str)(u v:PyData):Prop:=zw (.str a) u=!sv v∧(sv v=false→u=v)
theorem uH {a:Str}(ha:a∈words){ds:List PyData}(h:wm (.tuple ds)=false):zw (.str a) (.tuple ds)=false:=by
 simp only[words,dm,dy,cb] at ha
 rcases ha with rfl|rfl|rfl|rfl|rfl|rfl|rfl
 ·rw[zP];rfl
 ·rw[yp];rfl
 ·rw[xf];rfl
 ·rw[yd];rfl
 ·rw[yn];rfl
 ·rw[zQ,h];rfl
 ·rw[yF];rfl
theorem zy {a:Str}{u:PyData}(h:zw (.str a) u=false):Agree a u (.int (-1)):=⟨by rw[h];rfl,fun z=>by cases z⟩
theorem um :zj "none"=-1∧zj "yes"=-1∧zj "no"=-1:=by
 have e:∀x:Str,vH x=false→zj x=-1:=fun x h=>by unfold zj;rw[h];rfl
 exact⟨e _ (by decide +kernel),e _ (by decide +kernel),e _ (by decide +kernel)⟩
theorem fj {a x:Str}(ha:a∈words)(hn:zj x=-1)(h0:x≠"none")(h1:x≠"yes")(h2:x≠"no"):wl1 a x=.int (-1):=by
 simp only[words,dm,dy,cb] at ha
 rcases ha with rfl|rfl|rfl|rfl|rfl|rfl|rfl
 ·rw[xN,if_neg h0,hn];rfl
 ·rw[wZ];unfold ynL;rw[if_neg h1,if_neg h2]
 ·rw[rF];unfold ynL;rw[if_neg h1,if_neg h2]
 ·rw[xP,hn];rfl
 ·rw[wX,hn];rfl
 ·rw[wM,if_neg h0]
 ·rw[uj,hn];rfl
theorem pV {a:Str}(ha:a∈words)(x:Str):Agree a (wBy [x]) (wl1 a x):=by
 rw[jf]
 by_cases h0:x="none"
 ·subst h0
  rw[if_pos rfl]
  simp only[words,dm,dy,cb] at ha
  rcases ha with rfl|rfl|rfl|rfl|rfl|rfl|rfl
  ·rw[xN,if_pos rfl];exact⟨by rw[zP];rfl,fun _=>rfl⟩
  ·rw[wZ];exact zy (by rw[yp];rfl)
  ·rw[rF];exact zy (by rw[xf];rfl)
  ·rw[xP,um.1];exact zy (by rw[yd];rfl)
  ·rw[wX,um.1];exact zy (by rw[yn];rfl)
  ·rw[wM,if_pos rfl];exact⟨by rw[zQ];rfl,fun _=>rfl⟩
  ·rw[uj,um.1];exact zy (by rw[yF];rfl)
 have bl:∀b:Bool,x=(if b then "yes" else "no")→Agree a (.bool b) (wl1 a x):=fun b hx=>by
  have hn:zj x=-1:=by rw[hx];cases b;exact um.2.2;exact um.2.1
  have hy:ynL x=.bool b:=by rw[hx];cases b<;>rfl
  simp only[words,dm,dy,cb] at ha
  rcases ha with rfl|rfl|rfl|rfl|rfl|rfl|rfl
  ·rw[xN,if_neg h0,hn];exact zy (by rw[zP];rfl)
  ·rw[wZ,hy];exact⟨by rw[yp];rfl,fun _=>rfl⟩
  ·rw[rF,hy];exact⟨by rw[xf];rfl,fun _=>rfl⟩
  ·rw[xP,hn];exact zy (by rw[yd];rfl)
  ·rw[wX,hn];exact zy (by rw[yn];rfl)
  ·rw[wM,if_neg h0];exact zy (by rw[zQ];rfl)
  ·rw[uj,hn];exact zy (by rw[yF];rfl)
 rw[if_neg h0]
 by_cases h1:x="yes"
 ·rw[if_pos h1];exact bl true h1
 rw[if_neg h1]
 by_cases h2:x="no"
 ·rw[if_pos h2];exact bl false h2
 rw[if_neg h2]
 rcases yH (x:=x) with ⟨_,n,e1,e2⟩|⟨_,e1,e2⟩
 ·rw[e1]
  show Agree a (.int n) _
  have i0:∀i:Int,0≤i→sv (.int i)=false:=fun i h=>dh (by omega)
  have big:∀m:Int,Agree a (.int n) (if (n:Int)≤m then .int n else .int (-1))↔(zw (.str a) (.int n)=decide ((n:Int)≤m)):=fun m=>by
   by_cases g:(n:Int)≤m
   ·rw[if_pos g,di g]
    exact⟨fun z=>by rw[z.1,i0 _ (by omega)];rfl,fun z=>⟨by rw[z,i0 _ (by omega)];rfl,fun _=>rfl⟩⟩
   ·rw[if_neg g,dh g]
    exact⟨fun z=>by rw[z.1];rfl,fun z=>zy z⟩
  have few:(zw (.str a) (.int n)=(decide ((1:Int)≤n)&&decide ((n:Int)≤14)))→Agree a (.int n) (if 1≤(n:Int)∧(n:Int)≤14 then .int n else .int (-1)):=fun z=>by
   by_cases g:1≤(n:Int)∧(n:Int)≤14
   ·rw[if_pos g]
    exact⟨by rw[z,di g.1,di g.2,i0 _ (by omega)];rfl,fun _=>rfl⟩
   ·rw[if_neg g]
    refine zy (z.trans ?_)
    rw[Bool.and_eq_false_iff,ck,ck]
    omega
  have coin:(decide ((0:Int)≤n)&&decide ((n:Int)≤1000000000000))=decide ((n:Int)≤1000000000000):=by
   rw[di (show (0:Int)≤n by omega),cA]
  simp only[words,dm,dy,cb] at ha
  rcases ha with rfl|rfl|rfl|rfl|rfl|rfl|rfl
  ·rw[xN,if_neg h0,e2];exact (big _).mpr (by rw[zP];exact coin)
  ·rw[wZ];unfold ynL;rw[if_neg h1,if_neg h2];exact zy (by rw[yp];rfl)
  ·rw[rF];unfold ynL;rw[if_neg h1,if_neg h2];exact zy (by rw[xf];rfl)
  ·rw[xP,e2];exact few (by rw[yd];rfl)
  ·rw[wX,e2];exact few (by rw[yn];rfl)
  ·rw[wM,if_neg h0];exact zy (by rw[zQ];rfl)
  ·rw[uj,e2];exact (big _).mpr (by rw[yF];exact coin)
 ·rw[e1,fj ha e2 h0 h1 h2]
  exact zy (uH ha rfl)
theorem rh {a:Str}(ha:a∈words):∀{ws:List Str},ws≠[]→Agree a (wBy ws) (yL a ws)
 |[],h=>absurd rfl h
 |[x],_=>pV ha x
 |[x,y],_=>by
  rw[rG]
  show Agree a (.tuple [zz x,zz y]) (if a="deal" then wQ x y else .int (-1))
  by_cases h:a="deal"
  ·rw[if_pos h]
   subst h
   have key:wm (.tuple [zz x,zz y])=((decide (2≤zj x)&&decide (zj x≤14))&&(decide (1≤zj y)&&decide (zj y<zj x))):=by
    rcases yH (x:=x) with ⟨_,n,e1,e2⟩|⟨_,e1,e2⟩<;>rw[e1,e2]
    ·rcases yH (x:=y) with ⟨_,m,g1,g2⟩|⟨_,g1,g2⟩<;>rw[g1,g2]
     ·show ((decide ((2:Int)≤n)&&decide ((n:Int)≤14))&&(decide ((1:Int)≤m)&&decide ((m:Int)≤n-1)))=_
      rw[show decide ((m:Int)≤n-1)=decide ((m:Int)<n) from decide_eq_decide.mpr (by omega)]
     ·show ((decide ((2:Int)≤n)&&decide ((n:Int)≤14))&&false)=_
      rw[dh (show ¬(1:Int)≤-1 by decide),cC]
    ·show false=_
     rw[dh (show ¬(2:Int)≤-1 by decide)];rfl
   unfold wQ
   cases hk:((decide (2≤zj x)&&decide (zj x≤14))&&(decide (1≤zj y)&&decide (zj y<zj x))) with
   |false=>
    rw[if_neg (by decide)]
    refine zy ?_
    rw[zQ,key,hk];rfl
   |true=>
    rw[if_pos rfl]
    refine⟨by rw[zQ,key,hk];rfl,fun _=>?_⟩
    simp only[dG,dI] at hk
    rcases yH (x:=x) with ⟨_,n,e1,e2⟩|⟨_,e1,e2⟩
    ·rcases yH (x:=y) with ⟨_,m,g1,g2⟩|⟨_,g1,g2⟩
     ·rw[e1,e2,g1,g2]
     ·omega
    ·omega
  ·rw[if_neg h]
   refine zy ?_
   simp only[words,dm,dy,cb] at ha
   rcases ha with rfl|rfl|rfl|rfl|rfl|rfl|rfl
   ·rw[zP];rfl
   ·rw[yp];rfl
   ·rw[xf];rfl
   ·rw[yd];rfl
   ·rw[yn];rfl
   ·exact absurd rfl h
   ·rw[yF];rfl
 |x::y::z::r,_=>by
  rw[rG]
  exact zy (uH ha (by show wm (.tuple (zz x::zz y::zz z::r.map zz))=false;rcases yH (x:=x) with ⟨_,n,e1,_⟩|⟨_,e1,_⟩<;>rw[e1]<;>rfl))
def eN (ws:List Str):PyData:=match ws with
 |a::b::c::d::r=>if a∈words∧0≤zj b∧zj b≤zj c∧zj c≤1000000∧sv (yL a (d::r))=false then .tuple [.str a,.int (zj b),.int (zj c),yL a (d::r)] else .none
 |_=>.none
theorem gr (x:Str):eN (Txt.split x " ")=rBy x:=by
 unfold rBy
 generalize Txt.split x " "=ws
 match ws with
 |[]=>rfl
 |[a]=>rfl
 |[a,b]=>rfl
 |[a,b,c]=>rfl
 |a::b::c::d::r=>
  show (if a∈words∧0≤zj b∧zj b≤zj c∧zj c≤1000000∧sv (yL a (d::r))=false then PyData.tuple [.str a,.int (zj b),.int (zj c),yL a (d::r)] else .none)=if xG (.tuple [.str a,zz b,zz c,wBy (d::r)])=true then .tuple [.str a,zz b,zz c,wBy (d::r)] else .none
  by_cases hr:xG (.tuple [.str a,zz b,zz c,wBy (d::r)])=true
  ·rw[if_pos hr]
   obtain⟨s,i,j,v,hs,e,i0,ij,j1,hw⟩:=wB hr
   simp only[PyData.tuple.injEq,List.cons.injEq,PyData.str.injEq,and_true] at e
   obtain⟨rfl,eb,ec,ew⟩:=e
   obtain⟨w1,w2⟩:=rh hs (ws:=d::r) (List.cons_ne_nil _ _)
   rw[ew,hw] at w1
   have hn:sv (yL a (d::r))=false:=by cases h:sv (yL a (d::r))<;>rw[h] at w1<;>first|rfl|cases w1
   have nb:zj b=i:=by
    rcases yH (x:=b) with ⟨_,n,e1,e2⟩|⟨_,e1,e2⟩<;>rw[e1] at eb<;>cases eb
    exact e2
   have nc:zj c=j:=by
    rcases yH (x:=c) with ⟨_,n,e1,e2⟩|⟨_,e1,e2⟩<;>rw[e1] at ec<;>cases ec
    exact e2
   rw[if_pos ⟨hs,by omega,by omega,by omega,hn⟩,eb,ec,nb,nc,w2 hn]
  ·rw[if_neg hr,if_neg]
   rintro⟨hs,b0,bc,c1,hn⟩
   refine hr ?_
   obtain⟨w1,w2⟩:=rh hs (ws:=d::r) (List.cons_ne_nil _ _)
   rw[hn] at w1
   show (zU (.tuple [zz b,zz c])&&zw (.str a) (wBy (d::r)))=true
   rw[w1,Bool.not_false,bN]
   rcases yH (x:=b) with ⟨_,n,e1,e2⟩|⟨_,e1,e2⟩
   ·rcases yH (x:=c) with ⟨_,m,g1,g2⟩|⟨_,g1,g2⟩
    ·rw[e1,g1]
     rw[e2,g2] at bc
     rw[g2] at c1
     have d1:xH (.int n)=true:=within_int (by omega) (by omega)
     have d2:xH (.int m)=true:=within_int (by omega) (by omega)
     have fe:tB (.tuple [.int n,.int m])=some ((m:Int)-n):=by
      show (if (xH (.int n)&&xH (.int m))=true then some ((m:Int)-n) else none)=_
      rw[d1,d2];rfl
     unfold zU
     rw[fe]
     exact di (by omega)
    ·omega
   ·omega
abbrev ir :Stmt:=top 33
abbrev qr :Stmt:=top 36
def jJ :List A→(A→Prop)→Prop:=fun as Q=>∃x:Str,as=[.dat (.str x)]∧Asc x∧x.length≤600∧Q (.dat (rBy x))
def qF :List A→(A→Prop)→Prop:=fun as Q=>∃x:Str,as=[.dat (.str x)]∧Asc x∧x.length≤600∧Q (.dat (.bool true))
theorem in_words (a:Str):inD (.str a) [.str "price",.str "come",.str "go",.str "least",.str "most",.str "deal",.str "fee"]=decide (a∈words):=by
 have e:∀b:Str,PyData.eqv (.str a) (.str b)=decide (a=b):=fun b=>by
  show (a == b)=_
  by_cases h:a=b<;>simp[h]
 by_cases h:a∈words
 ·rw[di h]
  simp only[words,dm,dy,cb] at h
  rcases h with rfl|rfl|rfl|rfl|rfl|rfl|rfl<;>decide +kernel
 ·rw[dh h]
  simp only[words,dm,dy,cb,not_or] at h
  obtain⟨h1,h2,h3,h4,h5,h6,h7⟩:=h
  have g:∀{b:Str},¬a=b→¬b=a:=fun h e=>h e.symm
  simp[inD,scV,eqV,g h1,g h2,g h3,g h4,g h5,g h6,g h7]
theorem eL (a b c:Str)(r:List Str):L2.cutD (List.map PyData.str (a::b::c::r)) (some 1) (some 3)=[.str b,.str c]:=by
 unfold L2.cutD
 rw[show (some (1:Int))=some ((1:Nat):Int) from rfl,show (some (3:Int))=some ((3:Nat):Int) from rfl,HT.sA,HT.sA]
 simp only[dB,dJ,dU]
 rw[Nat.min_eq_left (by omega),Nat.min_eq_left (by omega)]
 rfl
def Shp (v:PyData):Prop:=v=.none∨(∃b,v=.bool b)∨(∃i,v=.int i)∨∃i j,v=.tuple [.int i,.int j]
theorem tu (s:Str):∀ws:List Str,Shp (yL s ws)
 |[]=>.inr (.inr (.inl ⟨_,rfl⟩))
 |[x]=>by
  show Shp (wl1 s x)
  unfold wl1 ynL
  repeat' split
  all_goals first
   |exact .inl rfl
   |exact .inr (.inl ⟨_,rfl⟩)
   |exact .inr (.inr (.inl ⟨_,rfl⟩))
 |[a,b]=>by
  show Shp (if s="deal" then wQ a b else .int (-1))
  unfold wQ
  repeat' split
  all_goals first
   |exact .inr (.inr (.inl ⟨_,rfl⟩))
   |exact .inr (.inr (.inr ⟨_,_,rfl⟩))
 |_::_::_::_=>.inr (.inr (.inl ⟨_,rfl⟩))
section
variable {X:Cx}{α:Ev}{a b c d e:Expr}{pos p:Pos}{ta tb tc td:TE}{T:Bool→Prop}
theorem oE (h:EvD X α a fun x=>EvD X α b fun y=>∃i j,x=.int i∧y=.int j∧(if decide (i≤j)=true then EvD X α c fun z=>∃k,z=.int k∧(if decide (j≤k)=true then EvD X α d fun u=>∃m,u=.int m∧T (decide (k≤m)) else T false) else T false))(hm:lastMarks [.LtE,.LtE,.LtE] [b,c,d]=false:=by rfl):
  EvT X α (.Compare a [.LtE,.LtE,.LtE] [b,c,d] pos) T:=fun F σ H R m k=>by
 refine⟨_,oe wk wk wk zb zb zb zb hm,?_⟩
 refine h F σ H _ m fun x vx H1 q1 t1 k1 r1=>?_
 have m1:=m.kz k1 t1
 refine q1 F σ H1 _ m1 fun y vy H2 q2 t2 k2 r2=>?_
 obtain⟨i,j,e1,e2,hq⟩:=q2
 subst e1 e2
 cases r1.int_inv;cases r2.int_inv
 have m2:=m1.kz k2 t2
 refine⟨i,j,rfl,rfl,_,rfl,?_⟩
 cases hg:decide (i≤j) with
 |true=>
  rw[hg,if_pos rfl] at hq
  refine wy ?_
  refine hq F σ H2 _ m2 fun z vz H3 q3 t3 k3 r3=>?_
  have m3:=m2.kz k3 t3
  obtain⟨kk,rfl,hq3⟩:=q3
  cases r3.int_inv
  refine⟨j,kk,rfl,rfl,_,rfl,?_⟩
  cases hg2:decide (j≤kk) with
  |true=>
   rw[hg2,if_pos rfl] at hq3
   refine wy ?_
   refine hq3 F σ H3 _ m3 fun u vu H4 q4 t4 k4 r4=>?_
   obtain⟨mm,rfl,hq4⟩:=q4
   cases r4.int_inv
   exact⟨kk,mm,rfl,rfl,_,rfl,k _ H4 hq4 t4 (((k1.trans k2).trans k3).trans k4)⟩
  |false=>
   rw[hg2,if_neg (by decide)] at hq3
   exact ve ⟨_,rfl,k _ H3 hq3 t3 ((k1.trans k2).trans k3)⟩
 |false=>
  rw[hg,if_neg (by decide)] at hq
  exact ve ⟨_,rfl,k _ H2 hq t2 (k1.trans k2)⟩
end
theorem xE {lo hi:Int}{v:PyData}(h:zE lo hi v=true)(h0:0≤lo):∃n:Nat,v=.int n∧(n:Int)≤hi:=by
 cases v with
 |int i=>
  have h:(decide (lo≤i)&&decide (i≤hi))=true:=h
  rw[dG,dI,dI] at h
  exact⟨i.toNat,by rw[Int.toNat_of_nonneg (by omega)],by omega⟩
 |_=>cases h
theorem wok {s:Str}{v:PyData}(hs:s∈words)(h:zw (.str s) v=true):WOk s v:=by
 have none_of:isNone v=true→v=.none:=fun e=>by cases v<;>first|rfl|cases e
 have bool_of:isBool v=true→∃b,v=.bool b:=fun e=>by cases v<;>first|exact⟨_,rfl⟩|cases e
 have coins:∀{s:Str},s≠"come"→s≠"go"→s≠"deal"→wK v=true→WOk s v:=fun {s} a b c e=>by
  obtain⟨n,rfl,hn⟩:=xE (lo:=0) (hi:=1000000000000) e (by decide)
  exact .int n a b c (by omega)
 have few:∀{s:Str},s≠"come"→s≠"go"→s≠"deal"→zE 1 14 v=true→WOk s v:=fun {s} a b c e=>by
  obtain⟨n,rfl,hn⟩:=xE e (by decide)
  exact .int n a b c (by omega)
 simp only[words,dm,dy,cb] at hs
 rcases hs with rfl|rfl|rfl|rfl|rfl|rfl|rfl
 ·rw[zP,cP] at h
  rcases h with h|h
  ·rw[none_of h];exact .non (.inl rfl)
  ·exact coins (by decide +kernel) (by decide +kernel) (by decide +kernel) h
 ·rw[yp] at h
  obtain⟨b,rfl⟩:=bool_of h
  exact .bl b (.inl rfl)
 ·rw[xf] at h
  obtain⟨b,rfl⟩:=bool_of h
  exact .bl b (.inr rfl)
 ·rw[yd] at h
  exact few (by decide +kernel) (by decide +kernel) (by decide +kernel) h
 ·rw[yn] at h
  exact few (by decide +kernel) (by decide +kernel) (by decide +kernel) h
 ·rw[zQ,cP] at h
  rcases h with h|h
  ·rw[none_of h];exact .non (.inr rfl)
  ·unfold wm at h
   split at h
   ·rename_i m f
    rw[dG] at h
    obtain⟨a,ea,ha⟩:=xE h.1 (by decide)
    obtain⟨b,rfl,hb⟩:=xE h.2 (by decide)
    cases ea
    exact .deal a b (by omega) (by omega)
   ·cases h
 ·rw[yF] at h
  exact coins (by decide +kernel) (by decide +kernel) (by decide +kernel) h
theorem sM {s:Str}(h:s∈words):Asc s:=by
 simp only[words,dm,dy,cb] at h
 unfold Asc
 rcases h with rfl|rfl|rfl|rfl|rfl|rfl|rfl<;>decide +kernel
theorem ox (x:Str):rBy x=.none∨∃a b c v,rBy x=.tuple [.str a,.int b,.int c,v]∧Shp v∧Asc a:=by
 unfold rBy
 by_cases h:xG (iA (Txt.split x " "))=true
 ·rw[if_pos h]
  obtain⟨s,i,j,v,hs,e,_,_,_,hw⟩:=wB h
  refine .inr ⟨s,i,j,v,e,?_,sM hs⟩
  cases wok hs hw with
  |non _=>exact .inl rfl
  |bl b _=>exact .inr (.inl ⟨_,rfl⟩)
  |int n _ _ _ _=>exact .inr (.inr (.inl ⟨_,rfl⟩))
  |deal a b _ _=>exact .inr (.inr (.inr ⟨_,_,rfl⟩))
 ·rw[if_neg h]
  exact .inl rfl
section
variable {P:Program}{w:World}{K:PySem.W.Frag}{mg:Str→Option Value}{base:Heap}
abbrev nDu :List Str:=["_law_text","_law_words","_law_first","_law_last","_law_worth_here"]
theorem gR :zi nDu ["_law_text"] (zc ir):=⟨rfl,rfl,rfl,by decide +kernel,rfl,by decide +kernel,by decide +kernel⟩
theorem kN {f:Addr}{fd:FuncData}(F:Fun K "_law_due" "_law_due" ir f fd)(hm:mg "_law_due"=some (.ref f))(hb:Binds K fd ["_law_text"] [])(nb:NbT mg)(CN:Cal P w K mg base "_law_number" 1 sr)(CW:Cal P w K mg base "_law_worth_by" 3 jO):Cal P w K mg base "_law_due" 4 jJ:=by
 refine xQ F hm hb gR (fun as Q h=>?_) (fun cdv A' outer s H E as Q hr h=>?_)
 ·obtain⟨x,rfl,_⟩:=h
  rfl
 ·obtain⟨x,rfl,hx,hl,q⟩:=h
  have nd:=gR.nd
  have h6:1000≤sizeLine:=by decide
  refine zN 1 nd (EvL.d (wU (zd 0 rfl ⟨_,rfl,zx ⟨_,rfl,by decide +kernel,by omega,?_⟩⟩)))
  have hw:=ug hx hl " "
  have hn:(Txt.split x " ").length≤602:=dq (split_le x " ") (by omega)
  rw[←gr] at q
  generalize Txt.split x " "=ws at q hw hn
  match ws,q,hw,hn with
  |[],q,hw,hn=>and_intros;exact q
  |[a],q,hw,hn=>and_intros;exact q
  |[a,b],q,hw,hn=>and_intros;exact q
  |[a,b,c],q,hw,hn=>and_intros;exact q
  |a::b::c::d::r,q,hw,hn=>
   have wa:=hw a (by simp)
   have wb:=hw b (by simp)
   have wc:=hw c (by simp)
   have wd:Ws (d::r):=fun w h=>hw w (by simp only[dm] at h ⊢;exact .inr (.inr (.inr h)))
   have q:Q (.dat (if a∈words∧0≤zj b∧zj b≤zj c∧zj c≤1000000∧sv (yL a (d::r))=false then .tuple [.str a,.int (zj b),.int (zj c),yL a (d::r)] else .none)):=q
   and_intros
   refine ixk rfl rfl (ym (j:=0) rfl) ?_
   and_intros
   by_cases ha:a∈words
   ·refine zH ((congrArg (!·) ((in_words a).trans (di ha))).trans rfl) ?_
    and_intros
    refine qL 2 3 (yJ (yQ (i:=2) nd rfl (Or.inl rfl)) (yJ (yQ (i:=3) nd rfl (Or.inl rfl)) wO)) rfl (EvL.d (vm ["_law_word"] [none] (.one 0) (tL (EvL.d (nJ (zd 1 rfl (xZ (zh ⟨_,rfl,xZ (zh ⟨_,rfl,_,rfl,_,rfl,?_⟩)⟩))))))))
    rw[eL]
    refine⟨du rfl,?_⟩
    refine xt (l:=[b,c]) (g:=fun x=>.str x) (fun x=>.int (zj x)) (fun x hx=>⟨_,rfl,fun C s2 H2 fp Q h=>?_⟩) ?_
    ·and_intros
     have hx:x=b∨x=c:=by simpa using hx
     rcases hx with rfl|rfl
     ·exact⟨wb.1,wb.2,h⟩
     ·exact⟨wc.1,wc.2,h⟩
    refine⟨.int (zj b),.int (zj c),rfl,?_⟩
    generalize zj b=nb1 at q ⊢
    generalize zj c=nc1 at q ⊢
    and_intros
    refine ixk rfl rfl (ym (j:=0) rfl) ?_
    and_intros
    refine⟨a,d::r,by rw[fH],ha,wd,by simp only[dJ] at hn ⊢;omega,?_⟩
    have sh:=tu a (d::r)
    generalize yL a (d::r)=v at q sh ⊢
    and_intros
    refine oE ?_
    and_intros
    by_cases c0:0≤nb1
    case neg=>
     rw[if_neg fun e=>c0 e.2.1] at q
     refine zT (dh c0) ?_
     and_intros
     exact q
    refine zW (di c0) ?_
    and_intros
    by_cases c1:nb1≤nc1
    case neg=>
     rw[if_neg fun e=>c1 e.2.2.1] at q
     refine zT (dh c1) ?_
     and_intros
     exact q
    refine zW (di c1) ?_
    and_intros
    by_cases c2:nc1≤1000000
    case neg=>
     rw[if_neg fun e=>c2 e.2.2.2.1] at q
     refine zW (by rw[dh c2];rfl) ?_
     and_intros
     exact q
    refine zT (by rw[di c2];rfl) ?_
    cases hv:sv v with
    |true=>
     rw[if_neg fun e=>by rw[hv] at e;cases e.2.2.2.2] at q
     cases v<;>first|(cases hv;done)|skip
     and_intros
     refine zF hv ?_
     and_intros
     exact q
    |false=>
     rw[if_pos ⟨ha,c0,c1,c2,hv⟩] at q
     rcases sh with rfl|⟨z,rfl⟩|⟨z,rfl⟩|⟨z,z',rfl⟩
     ·and_intros
      refine ixk rfl rfl (ym (j:=0) rfl) ?_
      and_intros
      exact q
     ·and_intros
      refine ixk rfl rfl (ym (j:=0) rfl) ?_
      and_intros
      exact q
     ·and_intros
      refine zH hv ?_
      and_intros
      refine ixk rfl rfl (ym (j:=0) rfl) ?_
      and_intros
      exact q
     ·and_intros
      refine ixk rfl rfl (ym (j:=0) rfl) ?_
      and_intros
      exact q
   ·rw[if_neg fun e=>ha e.1] at q
    refine zF ((congrArg (!·) ((in_words a).trans (dh ha))).trans rfl) ?_
    and_intros
    exact q
theorem lj {a:Str}{b c:Int}{v:PyData}{Q:Bool→Prop}(ha:Asc a)(sh:Shp v)(h:Q true):uq (.tuple [.str a,.int b,.int c,v]) (.tuple [.str a,.int b,.int c,v]) Q:=by
 have hs:=ha.ok
 rcases sh with rfl|⟨z,rfl⟩|⟨z,rfl⟩|⟨z,z',rfl⟩
 all_goals
  refine eqk ?_ ?_ rfl rfl ?_
  ·simp[SeqAt.shaped,PyData.canLay0,PyData.canLayAll0,hs,PyData.depth,PyData.depthAll]
  ·simp[SeqAt.shaped,PyData.canLay0,PyData.canLayAll0,hs,PyData.depth,PyData.depthAll]
  ·simpa[PyData.eqv,PyData.eqvAll] using h
theorem fz :zi ["_law_text","_law_due_here","_law_found"] ["_law_text"] (zc qr):=⟨rfl,rfl,rfl,by decide +kernel,rfl,by decide +kernel,by decide +kernel⟩
theorem oU {f:Addr}{fd:FuncData}(F:Fun K "_law_right" "_law_right" qr f fd)(hm:mg "_law_right"=some (.ref f))(hb:Binds K fd ["_law_text"] [])(nb:NbT mg)(CD:Cal P w K mg base "_law_due" 4 jJ)(CR:Cal P w K mg base "rule_by" 7 mP):Cal P w K mg base "_law_right" 8 qF:=by
 refine xQ F hm hb fz (fun as Q h=>?_) (fun cdv A' outer s H E as Q hr h=>?_)
 ·obtain⟨x,rfl,_⟩:=h
  rfl
 ·obtain⟨x,rfl,hx,hl,q⟩:=h
  have nd:=fz.nd
  and_intros
  refine⟨hx,hl,?_⟩
  and_intros
  refine⟨hx,hl,?_⟩
  have rc:=ox x
  generalize rBy x=v at rc ⊢
  rcases rc with rfl|⟨a,b,c,v,rfl,sh,ha⟩
  ·and_intros
   exact q
  ·have sh0:=sh
   rcases sh with rfl|⟨z,rfl⟩|⟨z,rfl⟩|⟨z,z',rfl⟩
   all_goals
    and_intros
    refine lj ha sh0 ?_
    and_intros
    exact q
end
abbrev jX :Stmt:=top 34
abbrev lO :Stmt:=top 35
def kE (d:PyData):Prop:=∃x:Str,d=.str x∧Asc x∧x.length≤70
def qN :List A→(A→Prop)→Prop:=fun as Q=>as=[.tape]∧∀x:Str,Asc x→x.length≤70→Q (.dat (.str x))
def tot (ts:List Str):Nat:=(ts.map fun t=>t.length+1).sum
theorem zD (x:Str)(ts:List Str):tot (x::ts)=x.length+1+tot ts:=by unfold tot;rw[dU,bo]
theorem tM (xs ys:List Str):tot (xs++ys)=tot xs+tot ys:=by unfold tot;rw[List.map_append,List.sum_append]
theorem tI :∀ts:List Str,tot ts=(ts.map (·.length)).sum+ts.length
 |[]=>rfl
 |x::r=>by rw[zD,tI r,dU,bo,dJ];omega
theorem kf (ts:List Str):ts.length≤tot ts:=by rw[tI];omega
theorem qK {x:Str}:∀{ts:List Str},x∈ts→x.length+1≤tot ts
 |y::r,h=>by
  rw[zD]
  rcases dm.mp h with rfl|h
  ·omega
  ·have:=qK h;omega
theorem uZ :∀(ts:List Str) (n:Nat),tot (ts.eraseIdx n)≤tot ts
 |[],_=>dC _
 |x::r,0=>by rw[zD];show tot r≤_;omega
 |x::r,n+1=>by show tot (x::r.eraseIdx n)≤_;rw[zD,zD];have:=uZ r n;omega
theorem qJ (y:Str):∀(ts:List Str) (n:Nat),tot (ts.set n y)≤tot ts+y.length+1
 |[],_=>by show 0≤_;omega
 |x::r,0=>by show tot (y::r)≤_;rw[zD,zD];omega
 |x::r,n+1=>by show tot (x::r.set n y)≤_;rw[zD,zD];have:=qJ y r n;omega
theorem kB (ts:List Str)(n:Int)(y:Str):tot (xI ts n y)=tot ts+y.length+1:=by
 unfold xI
 generalize (if n<0 then (n+(ts.length:Int)).toNat else min n.toNat ts.length)=k
 have e:tot ts=tot (ts.take k)+tot (ts.drop k):=by rw[←tM,List.take_append_drop]
 rw[tM,zD,e]
 omega
theorem vq :∀{ts:List Str},ts≠[]→(Str.join " " ts).length+1=tot ts
 |[],h=>absurd rfl h
 |[x],_=>rfl
 |x::y::r,_=>by
  have ih:=vq (ts:=y::r) (by simp)
  have e:(" ":Str).length=1:=by decide +kernel
  show (x++" "++Str.join " " (y::r)).length+1=_
  rw[cx,cx,zD,←ih,e]
  omega
theorem join_le (ts:List Str):(Txt.join " " ts).length≤tot ts:=by
 rw[show Txt.join " " ts=Str.join " " ts from dR _ _]
 cases ts with
 |nil=>exact du rfl
 |cons x r=>have:=vq (ts:=x::r) (by simp);omega
theorem oC (x:Str):tot (Txt.split x " ")≤x.length+1:=by
 have e:=StrLaws.join_split x " "
 by_cases h:Txt.split x " "=[]
 ·rw[h];exact dQ _
 ·have:=vq h
  rw[←this]
  exact Nat.le_of_eq (by rw[e])
theorem xh {ts:List Str}(h:tot ts≤5000):JoinOk " " ts=true:=by
 unfold JoinOk Builtin.Str.tooLong
 rw[StrLaws.joinTotal,Bool.not_eq_true',ck]
 have e:(" ":Str).length=1:=by decide +kernel
 have:5000≤sizeLine:=by decide
 rw[tI] at h
 rw[e]
 omega
theorem xX {x y:Str}(hx:Asc x)(hy:Asc y):Asc (x++y):=.of fun c hc=>by
 rw[Str.cps_append,bF,cv] at hc
 exact hc.elim hx.lt hy.lt
theorem yk :∀{ts:List Str},(∀t∈ts,Asc t)→Asc (Str.join " " ts)
 |[],_=>by unfold Asc;decide +kernel
 |[x],h=>h x (by simp)
 |x::y::r,h=>xX (xX (h x (by simp)) (by unfold Asc;decide +kernel)) (yk (ts:=y::r) fun t ht=>h t (dA _ ht))
theorem vo {x:Str}(h:Asc x)(l u:Option Int):Asc (Txt.slice x l u):=.of fun c hc=>by
 unfold Txt.slice at hc
 split at hc
 ·exact h.lt hc
 ·have hc:c∈(List.filterMap (x.cps[·]?) _):=hc
  obtain⟨i,_,e⟩:=bH.mp hc
  exact h.lt (cK.mpr (Array.mem_of_getElem? e))
theorem tf {f:Str→PyData}:∀(ts:List Str) (n:Nat),(ts.map f).eraseIdx n=(ts.eraseIdx n).map f
 |[],_=>rfl
 |_::_,0=>rfl
 |x::r,n+1=>congrArg (f x::·) (tf r n)
def WsT (n:Nat)(ds:List PyData):Prop:=∃ts:List Str,ds=ts.map .str∧(∀t∈ts,Asc t)∧tot ts≤n
theorem WsT.erase {n:Nat}{ds:List PyData}(h:WsT n ds)(k:Nat):WsT n (ds.eraseIdx k):=by
 obtain⟨ts,rfl,ha,hn⟩:=h
 exact⟨ts.eraseIdx k,tf ts k,fun t ht=>ha t (List.mem_of_mem_eraseIdx ht),dq (uZ ts k) hn⟩
theorem WsT.set {n:Nat}{ds:List PyData}(h:WsT n ds)(k:Nat){y:Str}(hy:Asc y):WsT (n+y.length+1) (ds.set k (.str y)):=by
 obtain⟨ts,rfl,ha,hn⟩:=h
 refine⟨ts.set k y,List.map_set.symm,fun t ht=>?_,dq (qJ y ts k) (by omega)⟩
 rcases List.mem_or_eq_of_mem_set ht with h|rfl
 ·exact ha t h
 ·exact hy
theorem WsT.ins {n:Nat}{ds:List PyData}(h:WsT n ds)(k:Int){y:Str}(hy:Asc y):WsT (n+y.length+1) (xI ds k (.str y)):=by
 obtain⟨ts,rfl,ha,hn⟩:=h
 refine⟨xI ts k y,?_,fun t ht=>?_,by rw[kB];omega⟩
 ·unfold xI
  rw[dB,List.map_append,dU,List.map_take,List.map_drop]
 ·unfold xI at ht
  rw[cv,dm] at ht
  rcases ht with h|rfl|h
  ·exact ha t (List.mem_of_mem_take h)
  ·exact hy
  ·exact ha t (List.mem_of_mem_drop h)
theorem WsT.app {n:Nat}{ds:List PyData}(h:WsT n ds){y:Str}(hy:Asc y):WsT (n+y.length+1) (ds++[.str y]):=by
 obtain⟨ts,rfl,ha,hn⟩:=h
 refine⟨ts++[y],by rw[List.map_append];rfl,fun t ht=>?_,by rw[tM];show tot ts+(y.length+1+0)≤_;omega⟩
 rcases cv.mp ht with h|h
 ·exact ha t h
 ·rw[cf.mp h];exact hy
section
variable {P:Program}{w:World}{K:PySem.W.Frag}{mg:Str→Option Value}{base:Heap}
theorem gS :zi ["_law_row","_law_some"] ["_law_row"] (zc jX):=⟨rfl,rfl,rfl,by decide +kernel,rfl,by decide +kernel,by decide +kernel⟩
theorem jD {f:Addr}{fd:FuncData}(F:Fun K "_law_odd" "_law_odd" jX f fd)(hm:mg "_law_odd"=some (.ref f))(hb:Binds K fd ["_law_row"] [])(nb:NbT mg)(CD:Cal P w K mg base "_law_take" 1 xD):Cal P w K mg base "_law_odd" 2 qN:=by
 refine xQ F hm hb gS (fun as Q h=>?_) (fun cdv A' outer s H E as Q hr h=>?_)
 ·obtain⟨rfl,_⟩:=h
  rfl
 ·obtain⟨rfl,q⟩:=h
  have nd:=gS.nd
  refine zN 1 nd (EvL.d ?_)
  and_intros
  refine⟨du rfl,?_⟩
  refine zR ?_
  refine vn hr.one (fun _ _=>rfl) ?_
  refine EvL.d (wG ?_)
  refine zd 1 rfl ?_
  refine EvL.d (yN ?_)
  refine za (zx ?_)
  refine za (ke (zx (zh ?_)))
  refine⟨"9",70,rfl,rfl,by decide,by decide,by decide +kernel,by decide +kernel,by decide +kernel,?_⟩
  and_intros
  refine⟨du rfl,?_⟩
  and_intros
  rename_i v1 h1 g1
  have od:∀x:Str,x.cps.all (·<128)=true→x.length≤70→kE (.str x):=fun x h1 h2=>⟨x,rfl,h1,h2⟩
  refine pH kE rfl h1 g1 ⟨od _ (by decide +kernel) (by decide +kernel),od _ (by decide +kernel) (by decide +kernel),od _ (by decide +kernel) (by decide +kernel),od _ (by decide +kernel) (by decide +kernel),od _ (by decide +kernel) (by decide +kernel),od _ (by decide +kernel) (by decide +kernel),od _ (by decide +kernel) (by decide +kernel),od _ (by decide +kernel) (by decide +kernel),od _ (by decide +kernel) (by decide +kernel),od _ (by decide +kernel) (by decide +kernel),od _ (by decide +kernel) (by decide +kernel),od _ (by decide +kernel) (by decide +kernel),od _ (by decide +kernel) (by decide +kernel),od _ (by decide +kernel) (by decide +kernel),od _ (by decide +kernel) (by decide +kernel),od _ (by decide +kernel) (by decide +kernel),od _ (by decide +kernel) (by decide +kernel),od _ (by decide +kernel) (by decide +kernel),od _ (by decide +kernel) (by decide +kernel),od _ (by decide +kernel) (by decide +kernel),od _ (by decide +kernel) (by decide +kernel),od _ (by decide +kernel) (by decide +kernel),od _ (by decide +kernel) (by decide +kernel),od _ (by decide +kernel) (by decide +kernel),od _ (by decide +kernel) (by decide +kernel),od _ (by decide +kernel) (by decide +kernel),trivial⟩ (fun d ⟨x,e,ha,hl⟩=>?_)
  subst e
  exact q x ha hl
abbrev nBe :List Str:=["_law_row","_law_text","_law_words","_law_at","_law_to","_law_way","_law_cut","_law_sign"]
theorem gL :zi nBe ["_law_row","_law_text"] (zc lO):=⟨rfl,rfl,rfl,by decide +kernel,rfl,by decide +kernel,by decide +kernel⟩
def lh :List A→(A→Prop)→Prop:=fun as Q=>∃x:Str,as=[.tape,.dat (.str x)]∧Asc x∧x.length≤150∧∀y:Str,Asc y→y.length≤600→Q (.dat (.str y))
set_option maxHeartbeats 2000000 in
theorem mv {f:Addr}{fd:FuncData}(F:Fun K "_law_bent" "_law_bent" lO f fd)(hm:mg "_law_bent"=some (.ref f))(hb:Binds K fd ["_law_row","_law_text"] [])(nb:NbT mg)(CD:Cal P w K mg base "_law_take" 1 xD)(CO:Cal P w K mg base "_law_odd" 2 qN):Cal P w K mg base "_law_bent" 3 lh:=by
 refine xQ F hm hb gL (fun as Q h=>?_) (fun cdv A' outer s H E as Q hr h=>?_)
 ·obtain⟨x,rfl,_⟩:=h
  rfl
 ·obtain⟨x,rfl,hx,hl,q⟩:=h
  have nd:=gL.nd
  have h6:1000≤sizeLine:=by decide
  refine sq 2 nd (wU (zd 1 rfl ⟨_,rfl,zx ⟨_,rfl,by decide +kernel,by omega,?_⟩⟩))
  have hw:=ug hx (dq hl (by decide)) " "
  have ht:=oC x
  have wt:WsT 151 ((Txt.split x " ").map .str):=⟨_,rfl,fun t h=>(hw t h).1,by omega⟩
  have hn:0<((Txt.split x " ").map PyData.str).length:=by
   rw[dB]
   unfold Txt.split
   split
   ·exact Nat.zero_lt_one
   split
   ·exact Nat.zero_lt_one
   ·rw[length_partsBetween]
    exact Nat.succ_pos _
  have hb:((Txt.split x " ").map PyData.str).length≤151:=by
   rw[dB]
   have:=kf (Txt.split x " ")
   omega
  have hd:∀(i:Nat) d,((Txt.split x " ").map PyData.str)[i]?=some d→∃y:Str,d=.str y∧Asc y∧y.length≤150:=fun i d h=>by
   rw[cc,dW] at h
   obtain⟨y,hy,rfl⟩:=h
   have m:=bu hy
   have:=qK m
   exact⟨y,rfl,(hw y m).1,by omega⟩
  generalize (Txt.split x " ").map PyData.str=ds at wt hn hb hd ⊢
  have bg:(151:Int)<big:=by decide
  refine zN 3 nd (zv CD (hr.mono (by decide)) (by rfl) (zm 0 rfl (za (yx 2 rfl (qA (by rfl) nb.len (zd 2 rfl ⟨_,rfl,rfl,zf ⟨_,rfl,by omega,by omega,fun i i0 i1=>?_⟩⟩))))))
  refine zN 4 nd (zv CD (hr.mono (by decide)) (by rfl) (zm 0 rfl (za (yx 2 rfl (qA (by rfl) nb.len (zd 2 rfl ⟨_,rfl,rfl,zf ⟨_,rfl,by omega,by omega,fun j j0 j1=>?_⟩⟩))))))
  and_intros
  rename_i k k0 k1
  have ix:∀{i:Int},0≤i→i<ds.length→ixN ds.length i=some i.toNat:=fun h0 h1=>by
   unfold ixN
   rw[if_pos h0,if_pos h1]
  have at':∀{i:Int},0≤i→i<ds.length→∃y:Str,atI ds i=some (.str y)∧Asc y∧y.length≤150:=fun {i} h0 h1=>by
   have lt:i.toNat<ds.length:=by omega
   obtain⟨y,e,ya,yl⟩:=hd i.toNat _ (dX lt)
   refine⟨y,?_,ya,yl⟩
   unfold atI
   rw[ix h0 h1]
   show ds[i.toNat]?=_
   rw[dX lt,e]
  have oddc:∀{Q:A→Prop},(∀y:Str,Asc y→y.length≤70→Q (.dat (.str y)))→qN [.tape] Q:=fun h=>⟨rfl,h⟩
  refine yb (fun _=>?_) (fun _=>?_)
  ·refine lQ 2 rfl (zd 3 rfl ⟨i,i.toNat,rfl,by omega,by omega,(sH (ix i0 i1)).1,by omega,?_⟩)
   have wz:=wt.erase i.toNat
   repeat refine yg ?_
   obtain⟨ts,e,ha,hs⟩:=wz
   refine zR (yx 2 rfl (yP (zx ⟨_,rfl,zd 2 rfl ⟨ts,congrArg PyData.list e,xh (by omega),rfl,q _ ?_ (dq (join_le ts) (by omega))⟩⟩)))
   rw[show Txt.join " " ts=Str.join " " ts from dR _ _]
   exact yk ha
  and_intros
  refine yb (fun _=>?_) (fun _=>?_)
  ·obtain⟨y,hy,ya,yl⟩:=at' j0 j1
   refine uP 2 rfl (zd 3 rfl (yx 2 rfl (vn hr.one (fun _ _=>rfl) (zd 2 rfl (zd 4 rfl (ixk rfl rfl hy ⟨rfl,i,rfl,by omega,by omega,by omega,?_⟩))))))
   have wz:=wt.ins i ya
   repeat refine yg ?_
   obtain⟨ts,e,ha,hs⟩:=wz
   refine zR (yx 2 rfl (yP (zx ⟨_,rfl,zd 2 rfl ⟨ts,congrArg PyData.list e,xh (by omega),rfl,q _ ?_ (dq (join_le ts) (by omega))⟩⟩)))
   rw[show Txt.join " " ts=Str.join " " ts from dR _ _]
   exact yk ha
  and_intros
  refine yb (fun _=>?_) (fun _=>?_)
  ·obtain⟨y,hy,ya,yl⟩:=at' i0 i1
   obtain⟨y2,hy2,ya2,yl2⟩:=at' j0 j1
   refine lX 2 rfl rfl (yx 2 rfl (wH (za (vn hr.one (fun _ _=>rfl) (zd 2 rfl (zd 4 rfl (ixk rfl rfl hy2 (za (vn hr.one (fun _ _=>rfl) (zd 2 rfl (zd 3 rfl (ixk rfl rfl hy (zf ⟨_,rfl,du rfl,rfl,_,_,rfl,zd 3 rfl ⟨i,i.toNat,rfl,ix i0 i1,zd 4 rfl ⟨j,j.toNat,rfl,ix j0 j1,?_⟩⟩⟩)))))))))))))
   have wz:=(wt.set i.toNat ya2).set j.toNat ya
   repeat refine yg ?_
   obtain⟨ts,e,ha,hs⟩:=wz
   refine zR (yx 2 rfl (yP (zx ⟨_,rfl,zd 2 rfl ⟨ts,congrArg PyData.list e,xh (by omega),rfl,q _ ?_ (dq (join_le ts) (by omega))⟩⟩)))
   rw[show Txt.join " " ts=Str.join " " ts from dR _ _]
   exact yk ha
  and_intros
  refine yb (fun _=>?_) (fun _=>?_)
  ·refine uP 2 rfl (zd 3 rfl (zv CO (hr.mono (by decide)) (by rfl) (zm 0 rfl (zf (oddc fun y ya yl=>⟨i,rfl,by omega,by omega,by omega,?_⟩)))))
   have wz:=wt.ins i ya
   repeat refine yg ?_
   obtain⟨ts,e,ha,hs⟩:=wz
   refine zR (yx 2 rfl (yP (zx ⟨_,rfl,zd 2 rfl ⟨ts,congrArg PyData.list e,xh (by omega),rfl,q _ ?_ (dq (join_le ts) (by omega))⟩⟩)))
   rw[show Txt.join " " ts=Str.join " " ts from dR _ _]
   exact yk ha
  and_intros
  refine yb (fun _=>?_) (fun _=>?_)
  ·refine ib 2 rfl (zv CO (hr.mono (by decide)) (by rfl) (zm 0 rfl (zf (oddc fun y ya yl=>zd 3 rfl ⟨i,i.toNat,rfl,ix i0 i1,?_⟩))))
   have wz:=wt.set i.toNat ya
   repeat refine yg ?_
   obtain⟨ts,e,ha,hs⟩:=wz
   refine zR (yx 2 rfl (yP (zx ⟨_,rfl,zd 2 rfl ⟨ts,congrArg PyData.list e,xh (by omega),rfl,q _ ?_ (dq (join_le ts) (by omega))⟩⟩)))
   rw[show Txt.join " " ts=Str.join " " ts from dR _ _]
   exact yk ha
  and_intros
  refine yb (fun _=>?_) (fun _=>?_)
  ·refine uV 2 rfl (zv CO (hr.mono (by decide)) (by rfl) (zm 0 rfl (zf (oddc fun y ya yl=>⟨by omega,?_⟩))))
   have wz:=wt.app ya
   repeat refine yg ?_
   obtain⟨ts,e,ha,hs⟩:=wz
   refine zR (yx 2 rfl (yP (zx ⟨_,rfl,zd 2 rfl ⟨ts,congrArg PyData.list e,xh (by omega),rfl,q _ ?_ (dq (join_le ts) (by omega))⟩⟩)))
   rw[show Txt.join " " ts=Str.join " " ts from dR _ _]
   exact yk ha
  and_intros
  refine yb (fun _=>?_) (fun _=>?_)
  ·and_intros
   refine⟨by omega,?_⟩
   and_intros
   rename_i v1 h1 g1 v2 h2 g2
   have od:∀x:Str,x.cps.all (·<128)=true→x.length≤70→kE (.str x):=fun x h1 h2=>⟨x,rfl,h1,h2⟩
   refine pH kE rfl h2 g2 ⟨od _ (by decide +kernel) (by decide +kernel),od _ (by decide +kernel) (by decide +kernel),od _ (by decide +kernel) (by decide +kernel),od _ (by decide +kernel) (by decide +kernel),od _ (by decide +kernel) (by decide +kernel),od _ (by decide +kernel) (by decide +kernel),trivial⟩ (fun d ⟨y,e,ya,yl⟩=>?_)
   subst e
   have sl:=Txt.slice_le x
   refine zR (vL (vL (rN (zd 1 rfl (tR (xZ (zd 6 rfl ⟨_,rfl,_,rfl,by omega,?_⟩)))))))
   have s1:=sl none (some v1)
   refine zd 7 rfl ⟨_,_,rfl,rfl,by omega,?_⟩
   refine rN (zd 1 rfl (xZ ?_))
   and_intros
   rename_i v3 h3 g3
   have s2:=sl (some (v1+v3)) none
   have le:∀a b c:Str,a.length≤150→b.length≤70→c.length≤150→(a++b).length+c.length≤370:=fun a b c h1 h2 h3=>by rw[cx];omega
   have l1:=le _ _ _ (dq s1 hl) yl (dq s2 hl)
   exact⟨by omega,_,_,rfl,rfl,by omega,q _ (xX (xX (vo hx none (some v1)) ya) (vo hx (some (v1+v3)) none)) (by rw[cx];omega)⟩
  and_intros
  refine yb (fun _=>?_) (fun _=>?_)
  ·refine zR (rN (zd 1 rfl (tR (xZ ?_))))
   and_intros
   refine⟨by omega,?_⟩
   and_intros
   exact⟨by omega,q _ (vo hx _ _) (dq (Txt.slice_le x _ _) (by omega))⟩
  ·have wz:=wt
   repeat refine yg ?_
   obtain⟨ts,e,ha,hs⟩:=wz
   refine zR (yx 2 rfl (yP (zx ⟨_,rfl,zd 2 rfl ⟨ts,congrArg PyData.list e,xh (by omega),rfl,q _ ?_ (dq (join_le ts) (by omega))⟩⟩)))
   rw[show Txt.join " " ts=Str.join " " ts from dR _ _]
   exact yk ha
end
abbrev sg :Stmt:=top 37
theorem wV (n:Nat):Asc (fig n):=.of fun c hc=>by have:=kK n c hc;omega
theorem rP {s:Str}{v:PyData}(h:WOk s v):∀t∈yf v,Asc t:=by
 intro t ht
 cases h with
 |non _=>rw[cf.mp ht];unfold Asc;decide +kernel
 |bl b _=>rw[cf.mp ht];unfold Asc;cases b<;>decide +kernel
 |int n _ _ _ hn=>rw[cf.mp ht];exact wV _
 |deal a b ha hb=>
  rcases dm.mp ht with rfl|ht
  ·exact wV _
  ·rw[cf.mp ht];exact wV _
theorem uS {n:Nat}:∀{ts:List Str},(∀t∈ts,t.length≤n)→tot ts≤(n+1)*ts.length
 |[],_=>dQ _
 |x::r,h=>by
  have h1:=h x (by simp)
  have h2:=uS (n:=n) (ts:=r) fun t ht=>h t (dA _ ht)
  rw[zD,dJ,Nat.mul_add]
  omega
theorem nq {s:Str}{i j:Nat}{v:PyData}(hs:s∈words)(hi:i≤1000000)(hj:j≤1000000)(h:WOk s v):Asc (vD s i j v)∧(vD s i j v).length≤140:=by
 obtain⟨h2,h3⟩:=wL h
 unfold vD
 refine⟨?_,dq (join_le _) ?_⟩
 ·rw[show Txt.join " " (s::fig i::fig j::yf v)=Str.join " " (s::fig i::fig j::yf v) from dR _ _]
  refine yk fun t ht=>?_
  simp only[dm] at ht
  rcases ht with rfl|rfl|rfl|ht
  ·exact sM hs
  ·exact wV _
  ·exact wV _
  ·exact rP h t ht
 ·have f1:=xl (n:=i) (by omega)
  have f2:=xl (n:=j) (by omega)
  have w1:s.length≤5:=by
   simp only[words,dm,dy,cb] at hs
   rcases hs with rfl|rfl|rfl|rfl|rfl|rfl|rfl<;>decide +kernel
  have w2:=uS h2
  rw[zD,zD,zD]
  omega
theorem sV {d:PyData}(h:vO d):∃(t:Str) (i j:Nat) (v:PyData),d=.tuple [.str t,.int i,.int j,v]∧t∈words∧i≤1000000∧j≤1000000∧WOk t v∧Asc (vD t i j v)∧(vD t i j v).length≤140:=by
 obtain⟨t,i,j,v,ht,rfl,i0,ij,j1,hw⟩:=wB h.rule
 obtain⟨i,rfl⟩:=bf i0
 obtain⟨j,rfl⟩:=bf (show 0≤j by omega)
 have hv:=wok ht hw
 have hi:i≤1000000:=by omega
 have hj:j≤1000000:=by omega
 exact⟨t,i,j,v,rfl,ht,hi,hj,hv,nq ht hi hj hv⟩
section
variable {P:Program}{w:World}{K:PySem.W.Frag}{mg:Str→Option Value}{base:Heap}
abbrev nLa :List Str:=["_law_script","_law_cell","_law_row","_law_text","_law_way"]
theorem hE :zi nLa ["_law_script"] (zc sg):=⟨rfl,rfl,rfl,by decide +kernel,rfl,by decide +kernel,by decide +kernel⟩
theorem oY {X:Cx}{α α0:Ev}{E:ye}{sts:List Stmt}(hl:α0.length=α.length)(le:∀(i:Nat) a,α0[i]?=some (some a)→α[i]?=some (some a))(h:SvS X α0 sts E):SvS X α sts E:=fun F σ H D m r=>h F σ H D (m.forget hl le) r
theorem kh {α:Ev}{n:Nat}{a:A}(hl:α.length=n+2):∀(i:Nat) b,((none:Option A)::some a::List.replicate n none)[i]?=some (some b)→(α.set 1 (some a))[i]?=some (some b):=by
 intro i b h
 rcases i with _|_|i
 ·cases h
 ·rw[cz (by omega)];exact h
 ·simp only[List.getElem?_cons_succ,cG] at h
  split at h<;>cases h
set_option maxHeartbeats 8000000 in
theorem iM {f:Addr}{fd:FuncData}(F:Fun K "law" "law" sg f fd)(nb:NbT mg)(CB:Cal P w K mg base "_law_begin" 1 qE)(CD:Cal P w K mg base "_law_take" 1 xD)(CRl:Cal P w K mg base "_law_rule" 4 qP)(CRT:Cal P w K mg base "rule_text" 2 pk)(CO:Cal P w K mg base "_law_odd" 2 qN)(CBe:Cal P w K mg base "_law_bent" 3 lh)(CRi:Cal P w K mg base "_law_right" 8 qF):zK P w K mg base CX0 9 f fd ["_law_script"] (rH K):=by
 refine et (k:=8) (j:=1) F hE rfl (Or.inl rfl) rfl (Or.inl rfl) (fun cdv A' outer s H E zs hr lz=>?_)
 have nd:=hE.nd
 have h6:1000≤sizeLine:=by decide
 refine nr (fun i α=>α.length=5) (by simp) ?_ ?_
 ·intro i d α hd hl
  rw[cc,dW] at hd
  obtain⟨z,hz,rfl⟩:=hd
  refine⟨_,rfl,?_⟩
  refine oY (α0:=none::some (.dat (.int z))::List.replicate 3 none) (by rw[cm,hl];rfl) (kh hl) ?_
  refine sq 2 hE.nd (gk CB (hr.mono (by decide)) (by rfl) (za (zd 1 rfl (zf ⟨z,rfl,fun x y y0 y1=>⟨_,rfl,?_⟩⟩))))
  refine iz 2 rfl y0 y1 ?_
  refine zN 3 nd (zv CRT (hr.mono (by decide)) (by rfl) (za (zv CRl (hr.mono (by decide)) (by rfl) (zm 2 rfl (za ?_)))))
  and_intros
  rename_i v1 h1 g1
  refine pH (fun d=>∃y:Int,d=.int y∧0≤y∧y≤1000000) rfl h1 g1 ⟨⟨_,rfl,by decide,by decide⟩,⟨_,rfl,by decide,by decide⟩,⟨_,rfl,by decide,by decide⟩,⟨_,rfl,by decide,by decide⟩,trivial⟩ (fun d ⟨yy,e,yy0,yy1⟩=>?_)
  subst e
  refine zf ⟨yy,rfl,yy0,yy1,fun d hR=>zf ?_⟩
  obtain⟨t,i,j,v,rfl,ht,hi,hj,hv,ta,tl⟩:=sV hR
  refine⟨t,i,j,v,rfl,ht,hi,hj,hv,?_⟩
  generalize vD t i j v=tx at ta tl ⊢
  and_intros
  rename_i k k0 k1
  refine yb (fun _=>?_) (fun _=>?_)
  ·refine zN 3 nd (vL (vL (zd 3 rfl (vn hr.one (fun _ _=>rfl) ?_))))
   and_intros
   rename_i v2 h2 g2
   refine pH (fun d=>∃y:Str,d=.str y∧Asc y∧y.length≤1) rfl h2 g2 ⟨⟨_,rfl,by unfold Asc;decide +kernel,by decide +kernel⟩,⟨_,rfl,by unfold Asc;decide +kernel,by decide +kernel⟩,trivial⟩ (fun d ⟨sp,e,spa,spl⟩=>?_)
   subst e
   refine⟨_,_,rfl,rfl,by omega,?_⟩
   refine zv CRT (hr.mono (by decide)) (by rfl) (za (zv CRl (hr.mono (by decide)) (by rfl) (zm 2 rfl (za (zh (zf ⟨7,rfl,by decide,by decide,fun d hR2=>zf ?_⟩))))))
   obtain⟨t2,i2,j2,v2',rfl,ht2,hi2,hj2,hv2,ta2,tl2⟩:=sV hR2
   refine⟨t2,i2,j2,v2',rfl,ht2,hi2,hj2,hv2,?_⟩
   generalize vD t2 i2 j2 v2'=ty at ta2 tl2 ⊢
   have ll:(tx++sp).length≤141:=by rw[cx];omega
   refine⟨_,_,rfl,rfl,by omega,?_⟩
   have ya:Asc (tx++sp++ty):=xX (xX ta spa) ta2
   have yl:(tx++sp++ty).length≤600:=by rw[cx];omega
   generalize tx++sp++ty=y at ya yl ⊢
   and_intros
   refine⟨ya,yl,?_⟩
   and_intros
   refine⟨ya,yl,?_⟩
   and_intros
   rfl
  and_intros
  refine yb (fun _=>?_) (fun _=>?_)
  ·refine zN 3 nd (yP (zx ⟨_,rfl,EvL.d (vm ["_law_k","_law_row"] [none,some 2] (.one 0) (pP (by rfl) nb.range ?_))⟩))
   and_intros
   rename_i v2 h2 g2
   refine⟨by omega,by omega,by rw[dB,yG];omega,?_⟩
   refine pX (fun i acc=>WsT (71*i) acc) ⟨[],rfl,fun t h=>by simp at h,dQ _⟩ (fun i d acc hd wa=>⟨_,rfl,fun C s2 H2 fp=>?_⟩) (fun acc h=>?_)
   ·rw[cc] at hd
    obtain⟨e,_,rfl⟩:=dW.mp hd
    refine nT ?_
    rw[if_pos rfl]
    intro C s2 H2 fp
    refine zv CO (hr.mono (by decide)) (by rfl) (zm 1 rfl (zf ⟨rfl,fun y ya yl=>?_⟩))
    obtain⟨ts,e1,ha,hs⟩:=WsT.app wa ya
    exact⟨ts,e1,ha,by omega⟩
   ·obtain⟨ts,e,ha,hs⟩:=h
    rw[dB,yG] at hs
    refine⟨ts,congrArg PyData.list e,xh (by omega),?_⟩
    have ya:Asc (Txt.join " " ts):=by
     rw[show Txt.join " " ts=Str.join " " ts from dR _ _]
     exact yk ha
    have yl:(Txt.join " " ts).length≤600:=dq (join_le ts) (by omega)
    generalize Txt.join " " ts=y at ya yl ⊢
    and_intros
    refine⟨ya,yl,?_⟩
    and_intros
    refine⟨ya,yl,?_⟩
    and_intros
    rfl
  ·refine zN 3 nd (zv CBe (hr.mono (by decide)) (by rfl) (zm 2 rfl (za (zd 3 rfl (zf ⟨tx,rfl,ta,by omega,fun y ya yl=>?_⟩)))))
   and_intros
   refine⟨ya,yl,?_⟩
   and_intros
   refine⟨ya,yl,?_⟩
   and_intros
   rfl
 ·intro α _
  have a0:Asc "":=by unfold Asc;decide +kernel
  have a1:Asc "price 0 0 0":=by unfold Asc;decide +kernel
  have a2:Asc "deal 0 1000000 14 13":=by unfold Asc;decide +kernel
  and_intros
  refine⟨a0,by decide +kernel,?_⟩
  and_intros
  refine⟨a1,by decide +kernel,?_⟩
  and_intros
  refine⟨a2,by decide +kernel,?_⟩
  and_intros
  rfl
end
def FnF (K:PySem.W.Frag)(f:Addr)(nm ql:Str)(st:Stmt):Prop:=∃fd,Fun K nm ql st f fd
theorem mkF {K:PySem.W.Frag}{f:Addr}{nm ql:Str}{st:Stmt}{oc kV dc pm cd ct:Value}{od an:Option Addr}{sl:Array (Option Value)}(l:K.lookup f=some ⟨oc,od,.func (PySem.W.fnOf nm ql (yR st) (zY st) (zc st) .none kV dc pm an cd ct),sl⟩)(c:PySem.W.codeIn K cd ql=true)(k:PySem.W.keepIn K (.ref f)=true):FnF K f nm ql st:=⟨_,mV l c k⟩
def FnG (K:PySem.W.Frag)(f:Addr)(nm:Str)(st:Stmt):Prop:=PySem.W.nsIn K mainGlobals nm=some (some (.ref f))∧FnF K f nm nm st
theorem mkG {K:PySem.W.Frag}{f:Addr}{nm:Str}{st:Stmt}{oc kV dc pm cd ct:Value}{od an:Option Addr}{sl:Array (Option Value)}(a:PySem.W.nsIn K mainGlobals nm=some (some (.ref f)))(l:K.lookup f=some ⟨oc,od,.func (PySem.W.fnOf nm nm (yR st) (zY st) (zc st) .none kV dc pm an cd ct),sl⟩)(c:PySem.W.codeIn K cd nm=true)(k:PySem.W.keepIn K (.ref f)=true):FnG K f nm st:=⟨a,mkF l c k⟩
theorem FnG.get {K:PySem.W.Frag}{h0:Heap}{mg:Str→Option Value}{f:Addr}{nm:Str}{st:Stmt}(ps:List Str)(h:FnG K f nm st)(X:K.In h0)(G:h0.Ns mainGlobals mg)(hb:∀(kV doc pm:Value) (an:Option Addr) (cdv ct:Value) (us:List Value),us.length=ps.length→bindArgs (PySem.W.fnOf nm nm (yR st) (zY st) (zc st) .none kV doc pm an cdv ct) ⟨us,[]⟩=pure (ps.zip us)):∃fd,mg nm=some (.ref f)∧Fun K nm nm st f fd∧Binds K fd ps []:=by
 obtain⟨a,fd,F⟩:=h
 exact⟨fd,cS X G a,F,F.binds hb⟩
set_option maxHeartbeats 8000000 in
theorem all_mk {l:PySem.W.OpenLaw}{w:World}{K:PySem.W.Frag}{h:Heap}{mg:Str→Option Value}{fa f1 f2 f3 f4 f5 f6 f7 f8 f9 f10 f11 f12 f13 f14 f15 f16 f17 f18 f19 f20 f21 f22 f23 f24 f25 f26 f27 f28 f29:Addr}(X:K.In h)(G:h.Ns mainGlobals mg)(hfa:mg "law"=some (.ref fa))
  {od an:Option Addr} {sl:Array (Option Value)} {oc kV dc pm ct cd:Value} {tk1 tk2 tk3 ts1:Tok}
  (q1:FnG K f1 "is_whole" sF)
  (q2:FnG K f2 "is_whole_within" sC)
  (q3:FnG K f3 "is_pair" lL)
  (q4:FnG K f4 "is_day" hZ)
  (q5:FnG K f5 "is_pair_of_days" nk)
  (q6:FnG K f6 "is_stretch" ur)
  (q7:FnG K f7 "is_coins" qm)
  (q8:FnG K f8 "is_deal" tE)
  (q9:FnG K f9 "is_worth" qu)
  (q10:FnG K f10 "is_rule" so)
  (q11:FnG K f11 "worth_text" rO)
  (q12:FnG K f12 "rule_text" qj)
  (q13:FnG K f13 "is_number_text" mR)
  (q14:FnG K f14 "number_by" ng)
  (q15:FnG K f15 "worth_by" iU)
  (q16:FnG K f16 "rule_by" jY)
  (q17:FnG K f17 "_law_begin" qq)
  (q18:FnG K f18 "_law_take" nA)
  (q19:FnG K f19 "_law_coins" su)
  (q20:FnG K f20 "_law_worth" sI)
  (q21:FnG K f21 "_law_rule" qw)
  (q22:FnG K f22 "_law_number" ni)
  (q23:FnG K f23 "_law_pair" qD)
  (q24:FnG K f24 "_law_worth_by" tN)
  (q25:FnG K f25 "_law_due" ir)
  (q26:FnG K f26 "_law_odd" jX)
  (q27:FnG K f27 "_law_bent" lO)
  (q28:FnG K f28 "_law_right" qr)
  (a29:PySem.W.nsIn K mainGlobals "law"=some (some (.ref f29)))
  (l29:K.lookup f29=some ⟨oc,od,.func (PySem.W.fnOf "law" "law" (yR sg) (zY sg) (zc sg) .none kV dc pm an cd ct),sl⟩)
  (c29:PySem.W.codeIn K cd "law"=true)
  (k29:PySem.W.keepIn K (.ref f29)=true)
  (z1:PySem.W.nsIn K mainGlobals "abs"=some none)
  (z2:PySem.W.nsIn K mainGlobals "list"=some none)
  (z3:PySem.W.nsIn K mainGlobals "len"=some none)
  (z4:PySem.W.nsIn K mainGlobals "range"=some none)
  (z5:PySem.W.nsIn K mainGlobals "min"=some none)
  (z6:PySem.W.nsIn K mainGlobals "max"=some none)
  (z7:PySem.W.nsIn K mainGlobals "sorted"=some none)
  (z8:PySem.W.nsIn K mainGlobals "isinstance"=some none)
  (z9:PySem.W.nsIn K mainGlobals "int"=some none)
  (z10:PySem.W.nsIn K mainGlobals "bool"=some none)
  (z11:PySem.W.nsIn K mainGlobals "str"=some none)
  (z12:PySem.W.nsIn K mainGlobals "tuple"=some none)
  (z13:PySem.W.nsIn K mainGlobals "all"=some none)
  (z14:PySem.W.nsIn K mainGlobals "any"=some none)
  (z15:PySem.W.nsIn K mainGlobals "repr"=some none)
  (z16:PySem.W.nsIn K mainGlobals "zip"=some none)
  (z17:PySem.W.nsIn K mainGlobals "enumerate"=some none)
  (z18:PySem.W.nsIn K mainGlobals "reversed"=some none)
  (z19:PySem.W.nsIn K mainGlobals "sum"=some none)
  (gi1:PySem.W.nsIn K mainGlobals "LAST_DAY"=some (some (.int 1000000 tk1)))
  (gi2:PySem.W.nsIn K mainGlobals "MOST_NIGHTS"=some (some (.int 14 tk2)))
  (gi3:PySem.W.nsIn K mainGlobals "MOST_COINS"=some (some (.int 1000000000000 tk3)))
  (gs1:PySem.W.nsIn K mainGlobals "FIGURES"=some (some (.str "0123456789" ts1))):
  ∃fd:FuncData,(∀(s:Shared) (v:Value),BindsTo s fd ⟨[v],[]⟩ [("_law_script",v)])∧∀base:Heap,K.In base→base.Ns mainGlobals mg→zK l.prog w K mg base CX0 9 fa fd ["_law_script"] (rH K):=by
 have e:=hfa.symm.trans (cS X G a29)
 cases e
 have nb:NbT mg:=⟨dH X G z1,dH X G z2,dH X G z3,dH X G z4,dH X G z5,dH X G z6,dH X G z7,dH X G z8,dH X G z9,dH X G z10,dH X G z11,dH X G z12,dH X G z13,dH X G z14,dH X G z15,dH X G z16,dH X G z17,dH X G z18,dH X G z19⟩
 obtain⟨_,m_is_whole,F_is_whole,b_is_whole⟩:=q1.get ["thing"] X G fun _ _ _ _ _ _ us hl=>match us,hl with|[_],_=>rfl
 obtain⟨_,m_is_whole_within,F_is_whole_within,b_is_whole_within⟩:=q2.get ["thing","lowest","highest"] X G fun _ _ _ _ _ _ us hl=>match us,hl with|[_,_,_],_=>rfl
 obtain⟨_,m_is_pair,F_is_pair,b_is_pair⟩:=q3.get ["thing"] X G fun _ _ _ _ _ _ us hl=>match us,hl with|[_],_=>rfl
 obtain⟨_,m_is_day,F_is_day,b_is_day⟩:=q4.get ["thing"] X G fun _ _ _ _ _ _ us hl=>match us,hl with|[_],_=>rfl
 obtain⟨_,m_is_pair_of_days,F_is_pair_of_days,b_is_pair_of_days⟩:=q5.get ["thing"] X G fun _ _ _ _ _ _ us hl=>match us,hl with|[_],_=>rfl
 obtain⟨_,m_is_stretch,F_is_stretch,b_is_stretch⟩:=q6.get ["thing"] X G fun _ _ _ _ _ _ us hl=>match us,hl with|[_],_=>rfl
 obtain⟨_,m_is_coins,F_is_coins,b_is_coins⟩:=q7.get ["thing"] X G fun _ _ _ _ _ _ us hl=>match us,hl with|[_],_=>rfl
 obtain⟨_,m_is_deal,F_is_deal,b_is_deal⟩:=q8.get ["thing"] X G fun _ _ _ _ _ _ us hl=>match us,hl with|[_],_=>rfl
 obtain⟨_,m_is_worth,F_is_worth,b_is_worth⟩:=q9.get ["word","thing"] X G fun _ _ _ _ _ _ us hl=>match us,hl with|[_,_],_=>rfl
 obtain⟨_,m_is_rule,F_is_rule,b_is_rule⟩:=q10.get ["thing"] X G fun _ _ _ _ _ _ us hl=>match us,hl with|[_],_=>rfl
 obtain⟨_,m_worth_text,F_worth_text,b_worth_text⟩:=q11.get ["worth"] X G fun _ _ _ _ _ _ us hl=>match us,hl with|[_],_=>rfl
 obtain⟨_,m_rule_text,F_rule_text,b_rule_text⟩:=q12.get ["rule"] X G fun _ _ _ _ _ _ us hl=>match us,hl with|[_],_=>rfl
 obtain⟨_,m_is_number_text,F_is_number_text,b_is_number_text⟩:=q13.get ["word"] X G fun _ _ _ _ _ _ us hl=>match us,hl with|[_],_=>rfl
 obtain⟨_,m_number_by,F_number_by,b_number_by⟩:=q14.get ["word"] X G fun _ _ _ _ _ _ us hl=>match us,hl with|[_],_=>rfl
 obtain⟨_,m_worth_by,F_worth_by,b_worth_by⟩:=q15.get ["words"] X G fun _ _ _ _ _ _ us hl=>match us,hl with|[_],_=>rfl
 obtain⟨_,m_rule_by,F_rule_by,b_rule_by⟩:=q16.get ["text"] X G fun _ _ _ _ _ _ us hl=>match us,hl with|[_],_=>rfl
 obtain⟨_,m__law_begin,F__law_begin,b__law_begin⟩:=q17.get ["_law_cell"] X G fun _ _ _ _ _ _ us hl=>match us,hl with|[_],_=>rfl
 obtain⟨_,m__law_take,F__law_take,b__law_take⟩:=q18.get ["_law_row","_law_base"] X G fun _ _ _ _ _ _ us hl=>match us,hl with|[_,_],_=>rfl
 obtain⟨_,m__law_coins,F__law_coins,b__law_coins⟩:=q19.get ["_law_row"] X G fun _ _ _ _ _ _ us hl=>match us,hl with|[_],_=>rfl
 obtain⟨_,m__law_worth,F__law_worth,b__law_worth⟩:=q20.get ["_law_row","_law_word"] X G fun _ _ _ _ _ _ us hl=>match us,hl with|[_,_],_=>rfl
 obtain⟨_,m__law_rule,F__law_rule,b__law_rule⟩:=q21.get ["_law_row","_law_day"] X G fun _ _ _ _ _ _ us hl=>match us,hl with|[_,_],_=>rfl
 obtain⟨_,m__law_number,F__law_number,b__law_number⟩:=q22.get ["_law_word"] X G fun _ _ _ _ _ _ us hl=>match us,hl with|[_],_=>rfl
 obtain⟨_,m__law_pair,F__law_pair,b__law_pair⟩:=q23.get ["_law_words"] X G fun _ _ _ _ _ _ us hl=>match us,hl with|[_],_=>rfl
 obtain⟨_,m__law_worth_by,F__law_worth_by,b__law_worth_by⟩:=q24.get ["_law_word","_law_words"] X G fun _ _ _ _ _ _ us hl=>match us,hl with|[_,_],_=>rfl
 obtain⟨_,m__law_due,F__law_due,b__law_due⟩:=q25.get ["_law_text"] X G fun _ _ _ _ _ _ us hl=>match us,hl with|[_],_=>rfl
 obtain⟨_,m__law_odd,F__law_odd,b__law_odd⟩:=q26.get ["_law_row"] X G fun _ _ _ _ _ _ us hl=>match us,hl with|[_],_=>rfl
 obtain⟨_,m__law_bent,F__law_bent,b__law_bent⟩:=q27.get ["_law_row","_law_text"] X G fun _ _ _ _ _ _ us hl=>match us,hl with|[_,_],_=>rfl
 obtain⟨_,m__law_right,F__law_right,b__law_right⟩:=q28.get ["_law_text"] X G fun _ _ _ _ _ _ us hl=>match us,hl with|[_],_=>rfl
 have F_law:=mV (st:=sg) l29 c29 k29
 have i_LAST_DAY:∃t,mg "LAST_DAY"=some (.int 1000000 t):=⟨tk1,cS X G gi1⟩
 have i_MOST_NIGHTS:∃t,mg "MOST_NIGHTS"=some (.int 14 t):=⟨tk2,cS X G gi2⟩
 have i_MOST_COINS:∃t,mg "MOST_COINS"=some (.int 1000000000000 t):=⟨tk3,cS X G gi3⟩
 have s_FIGURES:∃t,mg "FIGURES"=some (.str "0123456789" t):=⟨ts1,cS X G gs1⟩
 refine⟨PySem.W.fnOf "law" "law" (yR sg) (zY sg) (zc sg) .none kV dc pm an cd ct,fun s v=>.of_eq rfl,fun base KX _=>?_⟩
 have TD:sX mg f1 f2 f3 f4 f5:=⟨nb.isinstance,nb.int,nb.bool,nb.tuple,nb.len,i_LAST_DAY,i_MOST_NIGHTS,m_is_whole,m_is_whole_within,m_is_pair,m_is_day,m_is_pair_of_days⟩
 have TR:mG mg f1 f2 f3 f4 f5 f6 f7 f8 f9 f10 f1 ⟨f1,f1,f1,f1,f1,f1,f1⟩:=⟨TD,i_MOST_COINS,m_is_stretch,m_is_coins,m_is_deal,m_is_worth,m_is_rule⟩
 have G_in:=oA (P:=l.prog) (w:=w) (base:=base) F_is_whole_within TD F_is_whole b_is_whole
 have G_pair:=lY (P:=l.prog) (w:=w) (base:=base) F_is_pair TD
 have G_day:=gm F_is_day TD G_in F_is_whole_within.kp b_is_whole_within
 have G_days:=lV F_is_pair_of_days TD G_pair F_is_pair.kp b_is_pair G_day F_is_day.kp b_is_day
 have G_stretch:=qc F_is_stretch TD G_days F_is_pair_of_days.kp b_is_pair_of_days
 have G_coins:=mH F_is_coins TR G_in F_is_whole_within.kp b_is_whole_within
 have G_deal:=om F_is_deal TR G_in F_is_whole_within.kp b_is_whole_within G_pair F_is_pair.kp b_is_pair
 have G_worth:=lT F_is_worth TR G_in F_is_whole_within.kp b_is_whole_within G_coins F_is_coins.kp b_is_coins G_deal F_is_deal.kp b_is_deal
 have G_rule:=oD F_is_rule TR G_stretch F_is_stretch.kp b_is_stretch G_worth F_is_worth.kp b_is_worth
 have CIR:=rR m_is_rule F_is_rule.kp b_is_rule G_rule
 have CB:=oH (P:=l.prog) (w:=w) (base:=base) F__law_begin m__law_begin b__law_begin
 have CD:Cal l.prog w K mg base "_law_take" 1 xD:=lD m__law_take F__law_take.kp b__law_take (jj F__law_take)
 have CCo:=oQ F__law_coins m__law_coins b__law_coins CD
 have CW:=pW F__law_worth m__law_worth b__law_worth CD CCo
 have CRl:=mM F__law_rule m__law_rule b__law_rule nb CD CW
 have CWT:=oa (P:=l.prog) (w:=w) (base:=base) F_worth_text m_worth_text b_worth_text nb
 have CRT:=pS F_rule_text m_rule_text b_rule_text nb CWT
 have CNG:=lN (P:=l.prog) (w:=w) (base:=base) F_is_number_text m_is_number_text b_is_number_text nb s_FIGURES
 have CNV:=nP F_number_by m_number_by b_number_by nb CNG
 have CWB:=nM F_worth_by m_worth_by b_worth_by nb CNV
 have CRB:=mB F_rule_by m_rule_by b_rule_by nb CNV CWB CIR
 have CLN:=mn (P:=l.prog) (w:=w) (base:=base) F__law_number m__law_number b__law_number nb
 have CPa:=oK F__law_pair m__law_pair b__law_pair nb CLN
 have CLW:=qf F__law_worth_by m__law_worth_by b__law_worth_by nb CLN CPa
 have CDu:=kN F__law_due m__law_due b__law_due nb CLN CLW
 have CRi:=oU F__law_right m__law_right b__law_right nb CDu CRB
 have CO:=jD F__law_odd m__law_odd b__law_odd nb CD
 have CBe:=mv F__law_bent m__law_bent b__law_bent nb CD CO
 exact iM F_law nb CB CD CRl CRT CO CBe CRi
theorem walk {l:PySem.W.OpenLaw}{q:Program}{loose:List Str}{XP:(Str→Option Value)→Heap→Prop}{YP:World→Heap→Prop}{d:DefRec}{K:Params→PySem.W.Frag}(hn:l.most=some 63)(hdf:d.params.defaults=[])
  (hY:∀(w:World) (h:Heap),YP w h→(K w.params).In h)
  (F:∀(w:World) (mg:Str→Option Value) (fa:Addr) (h:Heap),(K w.params).In h→h.Ns mainGlobals mg→mg d.name=some (.ref fa)→
   ∃fd:FuncData,(∀(s:Shared) (u:Value),BindsTo s fd ⟨[u],[]⟩ [("_law_script",u)])∧∀base:Heap,(K w.params).In base→base.Ns mainGlobals mg→zK l.prog w (K w.params) mg base CX0 9 fa fd ["_law_script"] (rH (K w.params))):
  PySem.W.WalkO q loose XP YP l.row.toRowW d [] (fun f vs=>PySem.call f vs):=
 L2.jH (n:=63) (k:=9) (x:="_law_script") (CX:=fun _=>CX0) (sp:=fun w=>rH (K w.params)) hn (by decide) hdf ⟨rfl,by decide,by decide,rfl⟩ hY F (fun _ _ a ns hl _ hS=>⟨a,ns,rfl,hS,hl,trivial,fun _=>rfl⟩) fun _ _ _ _ _ z=>z
end K22
def PySem.W.Fast.tw13248438559312431007 :Nat:=0
def PySem.W.Fast.tw6349734922403376803 :Nat:=0
def PySem.W.Fast.tw10497189779491825364 :Nat:=0
def PySem.W.Fast.tw2731787403776330788 :Nat:=0
def PySem.W.Fast.tw922060513305279730 :Nat:=0
def PySem.W.Fast.tw3100105766327509487 :Nat:=0
def PySem.W.Fast.tw17942928430916953818 :Nat:=0
def PySem.W.Fast.tw6284195976669486858 :Nat:=0
def PySem.W.Fast.tw11755316984743064542 :Nat:=0
def PySem.W.Fast.tw5315268117322768629 :Nat:=0
def PySem.W.Fast.tw12634585247197074998 :Nat:=0
def PySem.W.Fast.tw3257586856561818095 :Nat:=0
def PySem.W.Fast.tw3442128778305382628 :Nat:=0
def PySem.W.Fast.tw8348145849194433392 :Nat:=0
def PySem.W.Fast.tw8703570758970546251 :Nat:=0
def PySem.W.Fast.tw13819005499100557094 :Nat:=0
def PySem.W.Fast.tw836222102328632572 :Nat:=0
def PySem.W.Fast.tw17056841814569998139 :Nat:=0
def PySem.W.Fast.tw5701378388486163060 :Nat:=0
def PySem.W.Fast.tw17827764388208657804 :Nat:=0
def PySem.W.Fast.tw10652944004800060957 :Nat:=0
def PySem.W.Fast.tw14799446965408996076 :Nat:=0
def PySem.W.Fast.tw5246433833523750741 :Nat:=0
def PySem.W.Fast.tw15634092406929256028 :Nat:=0
def PySem.W.Fast.tw16361090983470801816 :Nat:=0
def PySem.W.Fast.tw11372322750942695199 :Nat:=0
def PySem.W.Fast.tw17720682265353433006 :Nat:=0
def PySem.W.Fast.tw10594919618173438520 :Nat:=0
def PySem.W.Fast.tw13366517035625700776 :Nat:=0
def PySem.W.Fast.tw7061884845725037758 :Nat:=0
def PySem.W.Fast.tw6972548788290878856 :Nat:=0
def PySem.W.Fast.tw11777598078474649536 :Nat:=0
def PySem.W.Fast.tw18172832495388268019 :Nat:=0
def PySem.W.Fast.tw11473070328683723918 :Nat:=0
def PySem.W.Fast.tw1418025244142258269 :Nat:=0
def PySem.W.Fast.tw2970246255235261356 :Nat:=0
def PySem.W.Fast.tw12141149254870399952 :Nat:=0
def PySem.W.Fast.tw13077823492453027567 :Nat:=0
def PySem.W.Fast.tw1634948915030712972 :Nat:=0
def PySem.W.Fast.tw2617126148052138458 :Nat:=0
def PySem.W.Fast.tw3373874673550095011 :Nat:=0
def PySem.W.Fast.tw8350301175943770837 :Nat:=0
def PySem.W.Fast.tw1187554592760672302 :Nat:=0
def PySem.W.Fast.tw7748225790194759622 :Nat:=0
def PySem.W.Fast.tw834346314745424155 :Nat:=0
def PySem.W.Fast.tw10834714753709154347 :Nat:=0
def PySem.W.Fast.tw11168760206273472256 :Nat:=0
def PySem.W.Fast.tw13642944936486715853 :Nat:=0
def PySem.W.Fast.tw17550408842036237033 :Nat:=0
def PySem.W.Fast.tw16373661424677309866 :Nat:=0
def PySem.W.Fast.tw9074637921150804581 :Nat:=0
def PySem.W.Fast.tw13676987558193454579 :Nat:=0
def PySem.W.Fast.tw4734801526614388485 :Nat:=0
def PySem.W.Fast.tw2657783460971059376 :Nat:=0
def PySem.W.Fast.tw8144814082615477702 :Nat:=0
def PySem.W.Fast.tw5188113562398744832 :Nat:=0
def PySem.W.Fast.tw12079418523874050802 :Nat:=0
def PySem.W.Fast.tw8701186546683553265 :Nat:=0
def PySem.W.Fast.tw10880000154419474626 :Nat:=0
def PySem.W.Fast.tw10159068423587711382 :Nat:=0
def PySem.W.Fast.tw482397783124602299 :Nat:=0
def PySem.W.Fast.tw3182398279069996607 :Nat:=0
def PySem.W.Fast.tw17548783050523920256 :Nat:=0
def PySem.W.Fast.tw7033631223342830451 :Nat:=0
def PySem.W.Fast.tw11613925485421442067 :Nat:=0
def PySem.W.Fast.tw457886764111434190 :Nat:=0
def PySem.W.Fast.tw13425370395868673720 :Nat:=0
def PySem.W.Fast.tw12162646715894977368 :Nat:=0
def PySem.W.Fast.tw11445001678977564210 :Nat:=0
def PySem.W.Fast.tw10168853747274277518 :Nat:=0
def PySem.W.Fast.tw15599450826579313502 :Nat:=0
def PySem.W.Fast.tw2565088875183460560 :Nat:=0
def PySem.W.Fast.tw8103829233541657965 :Nat:=0
def PySem.W.Fast.tw18360290449103340181 :Nat:=0
def PySem.W.Fast.tw16544546795729901536 :Nat:=0
def PySem.W.Fast.tw1973961090398905221 :Nat:=0
def PySem.W.Fast.tw4286575749949703423 :Nat:=0
def PySem.W.Fast.tw3162220306547303645 :Nat:=0
def PySem.W.Fast.tw14584044842289980897 :Nat:=0
def PySem.W.Fast.tw8079666178469895613 :Nat:=0
def PySem.W.Fast.tw13576374197085488662 :Nat:=0
def PySem.W.Fast.tw3793792028145407392 :Nat:=0
def PySem.W.Fast.tw4615586071751174502 :Nat:=0
def PySem.W.Fast.tw17609000082028471548 :Nat:=0
def PySem.W.Fast.tw5582473090811442091 :Nat:=0
def PySem.W.Fast.tw14025299629834376986 :Nat:=0
def PySem.W.Fast.tw80645414204817568 :Nat:=0
def PySem.W.Fast.tw15847388838223868822 :Nat:=0
def PySem.W.Fast.tw11847086393416497032 :Nat:=0
def PySem.W.Fast.tw14459988656981203310 :Nat:=0
open PySem PySem.W PyProof.Rows
set_option maxRecDepth 100000 in
set_option maxHeartbeats 0 in
theorem PySem.Challenge.cw_stayprice_k22_texts_of_no_rule_holds : PySem.Challenge.rw_stayprice_k22_texts_of_no_rule.Holds := by
 w_on;o_law;k_head;(case hw=>w_witness2)
 k_fill
 refine K22.walk (l:=PySem.Challenge.rw_stayprice_k22_texts_of_no_rule) rfl rfl (fun w h Y=>PySem.W.kIn_of Y) ?hF
 case hF=>
  intro w mg fa h KX G hmg
  refine' K22.all_mk KX G hmg (K22.mkG ?_ ?_ ?_ ?_) (K22.mkG ?_ ?_ ?_ ?_) (K22.mkG ?_ ?_ ?_ ?_) (K22.mkG ?_ ?_ ?_ ?_) (K22.mkG ?_ ?_ ?_ ?_) (K22.mkG ?_ ?_ ?_ ?_) (K22.mkG ?_ ?_ ?_ ?_) (K22.mkG ?_ ?_ ?_ ?_) (K22.mkG ?_ ?_ ?_ ?_) (K22.mkG ?_ ?_ ?_ ?_) (K22.mkG ?_ ?_ ?_ ?_) (K22.mkG ?_ ?_ ?_ ?_) (K22.mkG ?_ ?_ ?_ ?_) (K22.mkG ?_ ?_ ?_ ?_) (K22.mkG ?_ ?_ ?_ ?_) (K22.mkG ?_ ?_ ?_ ?_) (K22.mkG ?_ ?_ ?_ ?_) (K22.mkG ?_ ?_ ?_ ?_) (K22.mkG ?_ ?_ ?_ ?_) (K22.mkG ?_ ?_ ?_ ?_) (K22.mkG ?_ ?_ ?_ ?_) (K22.mkG ?_ ?_ ?_ ?_) (K22.mkG ?_ ?_ ?_ ?_) (K22.mkG ?_ ?_ ?_ ?_) (K22.mkG ?_ ?_ ?_ ?_) (K22.mkG ?_ ?_ ?_ ?_) (K22.mkG ?_ ?_ ?_ ?_) (K22.mkG ?_ ?_ ?_ ?_) ?_ ?_ ?_ ?_ ?_ ?_ ?_ ?_ ?_ ?_ ?_ ?_ ?_ ?_ ?_ ?_ ?_ ?_ ?_ ?_ ?_ ?_ ?_ ?_ ?_ ?_ ?_
  all_goals try (show _=_;first|k_is|kernel_rfl)
