import PyProof.Rows.All
import Wide.All
import OpenK.AllK
import Wide.FinOn
import Lean
import PyProof.EqAt
import PyProof.EqKinds
import PyProof.TupleCall
import PySem.Challenge.RW_stayprice_k10_no_book
set_option Elab.async false
set_option linter.all false
set_option maxRecDepth 100000
def dJ := @_root_.PySem.wpAny_bind
def dM := @_root_.PySem.Heap.get?_push_of_some
def dN := @_root_.List.getElem?_eq_some_iff
def dO := @_root_.PySem.wpAny_pure
def dP := @_root_.List.getElem?_eq_getElem
def dQ := @_root_.Nat.le_refl
def dR := @_root_.PySem.Heap.lt_size
def dS := @_root_.Nat.le_of_ble_eq_true
def dU := @_root_.List.length_map
def dW := @_root_.List.size_toArray
def dX := @_root_.List.mem_cons_of_mem
def dY := @_root_.Bool.false_ne_true
def dZ := @_root_.Nat.zero_le
def cb := @_root_.PySem.W.mg_of
def cc := @_root_.PySem.W.mg_none_of
def cf := @_root_.List.length_cons
def cj := @_root_.PySem.Heap.get?_update_other
def cm := @_root_.List.mem_cons
def cn := @_root_.List.getElem?_append_left
def cp := @_root_.List.getElem?_append_right
def cq := @_root_.List.length_set
def cu := @_root_.Nat.lt_of_lt_of_le
def cv := @_root_.List.mem_cons_self
def cx := @_root_.List.length_append
def cy := @_root_.Bool.and_eq_true
def cz := @_root_.Nat.ne_of_lt
def cA := @_root_.Option.some.inj
def cC := @_root_.Bool.eq_false_iff
def cD := @_root_.List.not_mem_nil
def cE := @_root_.PySem.wpAny_mono
def cF := @_root_.List.getElem?_set_ne
def cG := @_root_.List.mem_append_right
def cH := @_root_.List.getElem?_map
def cJ := @_root_.PySem.W.kia_one
def cK := @_root_.PySem.Heap.get?_push_size
def cL := @_root_.decide_eq_true_eq
def cM := @_root_.Nat.le_trans
def cN := @_root_.PySem.Heap.get?_update_self
def cO := @_root_.List.append_nil
def cP := @_root_.List.mem_of_getElem?
def cQ := @_root_.List.lookup_cons
def cR := @_root_.PySem.F.excBase_ValueError
def cS := @_root_.Nat.sub_self
def cT := @_root_.List.getElem?_set_self
def cU := @_root_.Bool.false_and
def cV := @_root_.Option.map_eq_some_iff
def cW := @_root_.PySem.wpAny_loadPart_at
def cX := @_root_.PySem.mem_of_lookup
def cY := @_root_.decide_eq_false
def cZ := @_root_.PySem.wpAny_Call_Name_kw
def ba := @_root_.PySem.strLen_append
def bb := @_root_.PySem.wpAny_truthy_bool
def bc := @_root_.List.length_take
def bf := @_root_.decide_eq_true
def bh := @_root_.or_false
def bj := @_root_.PySem.wpAny_holding
def bo := @_root_.Bool.true_and
def bp := @_root_.List.getElem?_replicate
def bq := @_root_.PySem.sizeLine_eq
def br := @_root_.beq_iff_eq
def bu := @_root_.PySem.wpAny_call
def bw := @_root_.PySem.W.callWith_K
def bx := @_root_.List.mem_singleton
def bz := @_root_.PySem.Obj.data_mapFields
def bA := @_root_.PySem.wpAny_passesOwn
def bB := @_root_.PySem.Obj.isFreed_of_fields
def bE := @_root_.PyProof.Rows.boot_isinstance
def bF := @_root_.Array.getElem?_eq_some_iff
def bG := @_root_.PySem.wpAny_newObj_type
def bH := @_root_.of_decide_eq_true
def bJ := @_root_.List.drop_eq_getElem_cons
def bK := @_root_.Nat.le_succ
def bL := @_root_.PySem.boot_len
def bN := @_root_.Nat.le_of_lt
def bO := @_root_.List.getElem_mem
def bQ := @_root_.Option.bind_some
def bU := @_root_.PyProof.Rows.slot_tuple_getitem
def bV := @_root_.List.map_cons
def bX := @_root_.List.find?_cons
def bY := @_root_.Int.emod_lt_of_pos
def bZ := @_root_.PySem.wpAny_field
def aa := @_root_.Ne.symm
def ae := @_root_.PySem.codeAny_mono
def af := @_root_.List.length_replicate
def ag := @_root_.List.set_append_right
def ah := @_root_.PyProof.Rows.callWith_type1
def ai := @_root_.Nat.lt_succ_self
def aj := @_root_.List.all_eq_true
def ak := @_root_.PySem.codeAny_call_builtin
def ao := @_root_.Nat.lt_irrefl
def aq := @_root_.beq_eq_false_iff_ne
def ar := @_root_.List.mem_append
def au := @_root_.PySem.wpAny_execs_nil
def aw := @_root_.List.map_append
def ax := @_root_.Int.emod_nonneg
def ay := @_root_.Nat.ne_of_gt
def az := @_root_.PySem.Code.quiet_builtin
def aA := @_root_.Bool.and_false
def aB := @_root_.List.getElem?_cons_succ
def aC := @_root_.PySem.wpAny_standAt
def aD := @_root_.List.drop_length
def aE := @_root_.List.length_singleton
def aF := @_root_.List.mem_append_left
def aG := @_root_.Bool.eq_iff_iff
def aH := @_root_.List.nodup_cons
def aI := @_root_.Bool.or_eq_true
def aJ := @_root_.List.filterMap_cons
def aK := @_root_.Array.length_toList
def aL := @_root_.of_decide_eq_false
def aM := @_root_.Bool.false_or
namespace L2
open PySem PySem.Spec PyProof.Rows
abbrev Key :=Sum Int Str
def uH :Key→Value→Bool
 |.inl k,v=>Value.isInt k v
 |.inr x,v=>Value.isStrOf x v
def dg (w:World):Key→Int
 |.inl k=>hashInt k
 |.inr x=>hashStr w x
theorem zQ :∀{k:Key} {v:Value},uH k v=true→(∃i t,k=Sum.inl i∧v=Value.int i t)∨(∃x t,k=Sum.inr x∧v=Value.str x t)
 |.inl i,v,h=>by
  obtain⟨t,e⟩:=Value.isInt_shape (k:=i) (v:=v) h
  exact .inl ⟨i,t,rfl,e⟩
 |.inr x,v,h=>by
  obtain⟨t,e⟩:=Value.isStrOf_shape (x:=x) (v:=v) h
  exact .inr ⟨x,t,rfl,e⟩
theorem nJ (i:Int)(t:Tok):uH (.inl i) (.int i t)=true:=by simp[uH,Value.isInt]
theorem oi (x:Str)(t:Tok):uH (.inr x) (.str x t)=true:=by simp[uH,Value.isStrOf]
theorem gP (a b:Int):decide ((Sum.inl a:Key)=Sum.inl b)=(a == b):=by
 by_cases e:a=b
 ·subst e;simp
 ·have h:¬(Sum.inl a:Key)=Sum.inl b:=fun q=>e (Sum.inl.inj q)
  rw[cY h]
  exact (aq.mpr e).symm
theorem gx (a b:Str):decide ((Sum.inr a:Key)=Sum.inr b)=decide (a=b):=by
 by_cases e:a=b
 ·subst e;simp
 ·have h:¬(Sum.inr a:Key)=Sum.inr b:=fun q=>e (Sum.inr.inj q)
  rw[cY h,cY e]
theorem iI (a:Int)(b:Str):decide ((Sum.inl a:Key)=Sum.inr b)=false:=cY (fun q=>nomatch q)
theorem iw (a:Str)(b:Int):decide ((Sum.inr a:Key)=Sum.inl b)=false:=cY (fun q=>nomatch q)
def yp (prog:Program)(w:World):PySem.KeyKind prog w Key where
 is:=uH
 hash:=dg w
 inj:=fun v a b ha hb=>by
  rcases zQ ha with ⟨i,t,rfl,rfl⟩|⟨x,t,rfl,rfl⟩
  ·rcases zQ hb with ⟨j,u,rfl,e⟩|⟨y,u,rfl,e⟩
   ·injection e with e1 _;rw[e1]
   ·exact nomatch e
  ·rcases zQ hb with ⟨j,u,rfl,e⟩|⟨y,u,rfl,e⟩
   ·exact nomatch e
   ·injection e with e1 _;rw[e1]
 byValue:=fun k v h=>by
  rcases zQ h with ⟨i,t,rfl,rfl⟩|⟨x,t,rfl,rfl⟩<;>rfl
 pyHash:=fun hv h=>by
  rcases zQ hv with ⟨i,t,rfl,rfl⟩|⟨x,t,rfl,rfl⟩
  ·exact wpAny_pyHash_int h
  ·exact wpAny_pyHash_str h
 eqBool:=fun hu hv h=>by
  rcases zQ hu with ⟨i,t,rfl,rfl⟩|⟨x,t,rfl,rfl⟩
  ·rcases zQ hv with ⟨j,u,rfl,rfl⟩|⟨y,u,rfl,rfl⟩
   ·rw[gP] at h;exact wpAny_eqBool_int h
   ·rw[iI] at h;exact SeqAt.EqAt.int_str i t y u _ _ _ _ h
  ·rcases zQ hv with ⟨j,u,rfl,rfl⟩|⟨y,u,rfl,rfl⟩
   ·rw[iw] at h;exact SeqAt.EqAt.str_int x t j u _ _ _ _ h
   ·rw[gx] at h;exact wpAny_eqBool_str h
 «strs»:=fun k x t v h=>by
  rcases zQ h with ⟨i,u,rfl,e⟩|⟨y,u,rfl,e⟩
  ·exact nomatch e
  ·injection e with e1 _
   subst e1
   cases v<;>rfl
theorem rm (prog:Program)(w:World)(i:Int)(t:Tok):(yp prog w).is (.inl i) (.int i t)=true:=nJ i t
theorem rD (prog:Program)(w:World)(x:Str)(t:Tok):(yp prog w).is (.inr x) (.str x t)=true:=oi x t
inductive V where
 |non|bl (b:Bool)|int (i:Int)|str (x:Str)|byt (b:Array UInt8)|flt (b:UInt64)|ref (a:Addr)|ty (n:String)
 deriving DecidableEq
def RelV :V→Value→Prop
 |.non,u=>u=Value.none
 |.bl b,u=>u=Value.bool b
 |.int i,u=>∃t,u=Value.int i t
 |.str x,u=>∃t,u=Value.str x t
 |.byt b,u=>∃t,u=Value.bytes b t
 |.flt b,u=>∃t,u=Value.float b t
 |.ref a,u=>u=Value.ref a
 |.ty n,u=>u=Value.type n
abbrev Vals :List V→List Value→Prop:=Paired RelV
theorem Vals.length {xs:List V}{us:List Value}(r:Vals xs us):xs.length=us.length:=Paired.length r
theorem Vals.get :∀{xs:List V} {us:List Value} {i:Nat} {x:V},Vals xs us→xs[i]?=some x→∃u,us[i]?=some u∧RelV x u
 |_,_,_,_,.nil,e=>by simp at e
 |_,_,0,_,.cons r _,e=>by simp at e;subst e;exact⟨_,rfl,r⟩
 |_,_,i+1,x,.cons _ t,e=>by
  obtain⟨u,h1,h2⟩:=Vals.get (i:=i) (x:=x) t (by simpa using e)
  exact⟨u,by simpa using h1,h2⟩
theorem Vals.set {x:V}{u:Value}(r:RelV x u):∀{xs:List V} {us:List Value} (i:Nat),Vals xs us→Vals (xs.set i x) (us.set i u)
 |_,_,_,.nil=>.nil
 |_,_,0,.cons _ t=>.cons r t
 |_,_,i+1,.cons q t=>.cons q (Vals.set r i t)
theorem Vals.append :∀{xs ys:List V} {us ws:List Value},Vals xs us→Vals ys ws→Vals (xs++ys) (us++ws)
 |_,_,_,_,.nil,s=>s
 |_,_,_,_,.cons r t,s=>.cons r (Vals.append t s)
theorem Vals.take :∀{xs:List V} {us:List Value} (n:Nat),Vals xs us→Vals (xs.take n) (us.take n)
 |_,_,0,_=>.nil
 |_,_,_+1,.nil=>.nil
 |_,_,n+1,.cons r t=>.cons r (Vals.take n t)
theorem Vals.drop :∀{xs:List V} {us:List Value} (n:Nat),Vals xs us→Vals (xs.drop n) (us.drop n)
 |_,_,0,r=>r
 |_,_,_+1,.nil=>.nil
 |_,_,n+1,.cons _ t=>Vals.drop n t
def vn :Option V→Option Value→Prop
 |some v,some u=>RelV v u
 |none,none=>True
 |_,_=>False
def KV {κ:Type}:List (κ×V)→List (κ×Value)→Prop:=Paired fun (p:κ×V) (q:κ×Value)=>p.1=q.1∧RelV p.2 q.2
def kV :Key→V
 |.inl i=>.int i
 |.inr x=>.str x
inductive HO where
  |lst (xs:List V)
  |tup (xs:List V)
  |dK (kvs:List (Key×V))|dT (kvs:List (List Key×V))
  |set (S:Int→Bool) (n:Nat)
  |ins (C dx:Addr) (fs:List (Str×V))
  |own (x:Addr)
  |xd (fs:List (Str×V))
  |met (f x:Addr)
  |rng (lo hi:Int)
  |frz (o:Obj) (u:HO)
  |tbl (ps:Array Value)
  |ext (φ:Heap→Prop)
abbrev Hp :=Addr→Option HO
def upd (H:Hp)(a:Addr)(o:HO):Hp:=fun b=>if b=a then some o else H b
theorem zd {H:Hp}{a:Addr}{o:HO}:upd H a o a=some o:=by unfold upd;rw[if_pos rfl]
theorem zc {H:Hp}{a b:Addr}{o:HO}(h:b≠a):upd H a o b=H b:=by unfold upd;rw[if_neg h]
theorem xY {H:Hp}{a:Addr}{o u:HO}:upd (upd H a o) a u=upd H a u:=by
 funext b;unfold upd;split<;>rfl
theorem jO {H:Hp}{a b:Addr}{o u:HO}(h:H a=some o)(h':H b=some u)(d:o≠u):a≠b:=by
 intro e;subst e;rw[h] at h';exact d (cA h')
theorem ze {H:Hp}{a b:Addr}{o:HO}(h:H a=some o)(h':H b=none):a≠b:=by
 intro e;subst e;rw[h] at h';cases h'
section
variable (P:Program)(w:World)
def zZ (H:Hp)(h:Heap)(a:Addr):HO→Prop
 |.lst xs=>xs.length≤sizeLine∧∃(its:List Value) (n:Nat),Vals xs its∧h.get? a=some {cls:=.type "list",data:=.seq its.toArray n}
 |.tup xs=>xs.length≤sizeLine∧∃its:List Value,Vals xs its∧IsTup h a its.toArray
 |.dK kvs=>kvs.length≤sizeLine∧(a == sysModules)=false∧∃vs,KV kvs vs∧h.DictOf (yp P w) a vs
 |.dT kvs=>kvs.length≤sizeLine∧(a == sysModules)=false∧∃xs:List (List Key×Addr×Value),
   Paired (fun (p:List Key×V) (q:List Key×Addr×Value)=>p.1=q.1∧H q.2.1=some (.tup (p.1.map kV))∧RelV p.2 q.2.2) kvs xs∧
   ∃o es ep,h.get? a=some o∧o.ExactDict∧o.data=.dict es ep∧es.toList=xs.map (entryOfKey (tupleKind (yp P w)))∧(xs.map (·.1)).Nodup
 |.set S n=>h.SetOf (intKind P w) a S n
 |.ins C dx fs=>H dx=some (.own a)∧fs.length≤1000∧dx≠a∧h.get? a=some (PySem.W.instObj C dx)∧
   ∃mA,h.Ns1 dx mA∧(∀f,vn (fs.lookup f) (mA f))∧PySem.Within mA (fs.map (·.1))
 |.own _=>∃o,h.get? a=some o
 |.xd fs=>∃mA,h.Ns1 a mA∧∀f,vn (fs.lookup f) (mA f)
 |.rng lo hi=>∃t u v,h.get? a=some {cls:=.type "range",data:=.fields #[.int lo t,.int hi u,.int 1 v]}
 |.frz o u=>h.get? a=some o∧zZ H h a u
 |.tbl ps=>h.get? a=some {cls:=.none,data:=.fields ps}
 |.met f x=>h.get? a=some (PySem.W.methodObj (.ref f) (.ref x))
 |.ext φ=>φ h∧(∃o,h.get? a=some o)∧∀h1 h2:Heap,φ h1→(∀o,h1.get? a=some o→h2.get? a=some o)→φ h2
def HOk (H:Hp)(h:Heap):Prop:=∀a o,H a=some o→zZ P w H h a o
end
section
variable {P:Program}{w:World}{H H':Hp}{h h':Heap}{a:Addr}{o:HO}
theorem zZ.lt (x:zZ P w H h a o):a<h.objs.size:=by
 cases o with
 |lst xs=>obtain⟨_,_,_,_,e⟩:=x;exact dR e
 |tup xs=>obtain⟨_,_,_,p⟩:=x;exact p.lt
 |dK kvs=>obtain⟨_,_,_,_,o,_,_,e,_⟩:=x;exact dR e
 |dT kvs=>obtain⟨_,_,_,_,o,_,_,e,_⟩:=x;exact dR e
 |set S n=>obtain⟨o,_,_,_,e,_⟩:=x;exact dR e
 |ins C dx fs=>obtain⟨_,_,_,e,_⟩:=x;exact dR e
 |own y=>obtain⟨_,e⟩:=x;exact dR e
 |xd fs=>obtain⟨_,⟨_,_,_,e,_⟩,_⟩:=x;exact dR e
 |rng lo hi=>obtain⟨_,_,_,e⟩:=x;exact dR e
 |frz ob u=>obtain⟨e,_⟩:=x;exact dR e
 |tbl ps=>exact dR (show h.get? a=some _ from x)
 |met f y=>exact dR (show h.get? a=some _ from x)
 |ext φ=>obtain⟨_,⟨_,e⟩,_⟩:=x;exact dR e
theorem Paired.mapP {α β:Type}{F G:α→β→Prop}:∀{l₁:List α} {l₂:List β},Paired F l₁ l₂→(∀a b,F a b→G a b)→Paired G l₁ l₂
 |_,_,.nil,_=>.nil
 |_,_,.cons r t,f=>.cons (f _ _ r) (Paired.mapP t f)
theorem zZ.stay (x:zZ P w H h a o)(k:∀b u,(b=a∨H b=some (.own a))→h.get? b=some u→h'.get? b=some u)
  (ho:∀b,H b=some (.own a)→H' b=some (.own a)) (ht:∀b xs,H b=some (.tup xs)→H' b=some (.tup xs)):zZ P w H' h' a o:=by
 induction o with
 |lst xs=>obtain⟨z,its,n,r,e⟩:=x;exact⟨z,its,n,r,k _ _ (.inl rfl) e⟩
 |tup xs=>obtain⟨z,its,r,ob,e,c⟩:=x;exact⟨z,its,r,ob,k _ _ (.inl rfl) e,c⟩
 |dK kvs=>obtain⟨z,y,vs,r,ob,es,ep,e,c⟩:=x;exact⟨z,y,vs,r,ob,es,ep,k _ _ (.inl rfl) e,c⟩
 |dT kvs=>
  obtain⟨z,y,xs,r,ob,es,ep,e,c⟩:=x
  exact⟨z,y,xs,Paired.mapP r fun p q z=>⟨z.1,ht _ _ z.2.1,z.2.2⟩,ob,es,ep,k _ _ (.inl rfl) e,c⟩
 |set S n=>obtain⟨ob,es,ep,t,e,c⟩:=x;exact⟨ob,es,ep,t,k _ _ (.inl rfl) e,c⟩
 |ins C dx fs=>
  obtain⟨d,z,ne,e,mA,⟨od,es,ep,e2,c⟩,r⟩:=x
  exact⟨ho _ d,z,ne,k _ _ (.inl rfl) e,mA,⟨od,es,ep,k _ _ (.inr d) e2,c⟩,r⟩
 |own y=>obtain⟨ob,e⟩:=x;exact⟨ob,k _ _ (.inl rfl) e⟩
 |xd fs=>obtain⟨mA,⟨od,es,ep,e,c⟩,r⟩:=x;exact⟨mA,⟨od,es,ep,k _ _ (.inl rfl) e,c⟩,r⟩
 |rng lo hi=>obtain⟨t,u,v,e⟩:=x;exact⟨t,u,v,k _ _ (.inl rfl) e⟩
 |frz ob u ih=>obtain⟨e,q⟩:=x;exact⟨k _ _ (.inl rfl) e,ih q⟩
 |tbl ps=>
  have e:h.get? a=some {cls:=.none,data:=.fields ps}:=x
  show h'.get? a=some {cls:=.none,data:=.fields ps}
  exact k a _ (.inl rfl) e
 |met f y=>
  have e:h.get? a=some (PySem.W.methodObj (.ref f) (.ref y)):=x
  show h'.get? a=some (PySem.W.methodObj (.ref f) (.ref y))
  exact k a _ (.inl rfl) e
 |ext φ=>obtain⟨p,⟨o,e⟩,st⟩:=x;exact⟨st _ _ p fun o q=>k _ _ (.inl rfl) q,⟨o,k _ _ (.inl rfl) e⟩,st⟩
theorem HOk.lt (x:HOk P w H h)(e:H a=some o):a<h.objs.size:=(x a o e).lt
theorem HOk.fresh (x:HOk P w H h)(e:h.objs.size≤a):H a=none:=by
 cases q:H a with
 |none=>rfl
 |some u=>exact absurd (cu (x.lt q) e) (ao _)
theorem HOk.kept (x:HOk P w H h)(k:∀b u,h.get? b=some u→h'.get? b=some u):HOk P w H h':=fun a o e=>
 (x a o e).stay (fun b u _ q=>k b u q) (fun _ q=>q) fun _ _ q=>q
theorem HOk.laid (x:HOk P w H h)(k:∀b u,h.get? b=some u→h'.get? b=some u)(hp:h.objs.size≤a)(new:zZ P w (upd H a o) h' a o):HOk P w (upd H a o) h':=fun b u e=>by
 have hn:=x.fresh hp
 by_cases hb:b=a
 ·subst hb;rw[zd] at e;cases e;exact new
 ·rw[zc hb] at e
  exact (x b u e).stay (fun c v _ q=>k c v q) (fun c q=>by rw[zc (ze q hn)];exact q) fun c xs q=>by rw[zc (ze q hn)];exact q
end
def Rd (H:Hp)(a:Addr)(u:HO):Prop:=H a=some u∨∃o,H a=some (.frz o u)
theorem Rd.ok {P:Program}{w:World}{H:Hp}{h:Heap}{a:Addr}{u:HO}(r:Rd H a u)(x:HOk P w H h):zZ P w H h a u:=by
 rcases r with r|⟨o,r⟩
 ·exact x a u r
 ·obtain⟨_,q⟩:=x a _ r
  exact q
def Mut :Option HO→Prop
 |some (.lst _)=>True
 |some (.dK _)=>True
 |some (.dT _)=>True
 |some (.set _ _)=>True
 |some (.ins _ _ _)=>True
 |some (.ext _)=>True
 |_=>False
section
variable {P:Program}{w:World}{H:Hp}{h h':Heap}{x e:Addr}{o':HO}
theorem HOk.write (ok:HOk P w H h)(mu:Mut (H x))(he:e=x∨H e=some (.own x))(k:∀b u,b≠e→h.get? b=some u→h'.get? b=some u)(heo:∃u,h'.get? e=some u)
  (new:zZ P w (upd H x o') h' x o'):HOk P w (upd H x o') h':=fun b u q=>by
 have nown:∀c y,H c=some (.own y)→c≠x:=fun c y r z=>by subst z;rw[r] at mu;exact mu
 have ntup:∀c xs,H c=some (.tup xs)→c≠x:=fun c xs r z=>by subst z;rw[r] at mu;exact mu
 by_cases hb:b=x
 ·subst hb;rw[zd] at q;cases q;exact new
 ·rw[zc hb] at q
  by_cases hbe:b=e
  ·have q':H b=some (.own x):=by
    rcases he with z|z
    ·exact absurd (hbe.trans z) hb
    ·rw[hbe];exact z
   rw[q] at q';cases q'
   obtain⟨v,hv⟩:=heo
   exact⟨v,by rw[hbe];exact hv⟩
  ·refine (ok b u q).stay (fun c v hc r=>k c v ?_ r) (fun c r=>by rw[zc (nown c b r)];exact r) fun c xs r=>by rw[zc (ntup c xs r)];exact r
   rcases hc with rfl|hc
   ·exact hbe
   ·rintro rfl
    rcases he with z|z
    ·exact nown c b hc z
    ·rw[hc] at z;cases z;exact hb rfl
end
structure Un (fs ex:List Addr)(H H':Hp)(h h':Heap):Prop where
 keep:∀b o,h.get? b=some o→H b=none→b∉fs→b∉ex→h'.get? b=some o
 slot:∀b o,h.get? b=some o→H b=none→b∈fs→b∉ex→∃sl,h'.get? b=some {o with slots:=sl}
 free:∀b o,h.get? b=some o→H b=none→b∉ex→H' b=none
 there:∀b o,h.get? b=some o→b∉ex→∃o',h'.get? b=some o'
 tups:∀b xs,H b=some (.tup xs)→H' b=some (.tup xs)
 frzs:∀b o u,H b=some (.frz o u)→H' b=some (.frz o u)
 tbls:∀b ps,H b=some (.tbl ps)→∃more,H' b=some (.tbl (ps++more))
section
variable {fs fs' ex ex':List Addr}{H H1 H2:Hp}{h h1 h2 h':Heap}{a x e:Addr}{o:HO}
theorem Un.any (u:Un fs ex H H1 h h1){b:Addr}{ob:Obj}(q:h.get? b=some ob)(n:H b=none)(hx:b∉ex):∃sl,h1.get? b=some {ob with slots:=sl}:=by
 by_cases hb:b∈fs
 ·exact u.slot b ob q n hb hx
 ·exact⟨ob.slots,u.keep b ob q n hb hx⟩
theorem Un.kept (k:∀b u,h.get? b=some u→h'.get? b=some u):Un fs ex H H h h':=
 ⟨fun b ob q _ _ _=>k b ob q,fun b ob q _ _ _=>⟨ob.slots,k b ob q⟩,fun _ _ _ n _=>n,fun b ob q _=>⟨ob,k b ob q⟩,fun _ _ q=>q,fun _ _ _ q=>q,fun _ ps q=>⟨#[],by rw[q];simp⟩⟩
theorem Un.refl :Un fs ex H H h h:=Un.kept fun _ _ q=>q
theorem Un.laid (k:∀b u,h.get? b=some u→h'.get? b=some u)(hp:h.objs.size≤a)(hn:H a=none):Un fs ex H (upd H a o) h h' where
 keep:=fun b u q _ _ _=>k b u q
 slot:=fun b u q _ _ _=>⟨u.slots,k b u q⟩
 free:=fun b u q n _=>by rw[zc (cz (cu (dR q) hp))];exact n
 there:=fun b u q _=>⟨u,k b u q⟩
 tups:=fun b xs q=>by rw[zc (ze q hn)];exact q
 frzs:=fun b u xs q=>by rw[zc (ze q hn)];exact q
 tbls:=fun b ps q=>⟨#[],by rw[zc (ze q hn),q];simp⟩
theorem Un.write (mu:Mut (H x))(he:e=x∨H e=some (.own x))(k:∀b u,b≠e→h.get? b=some u→h'.get? b=some u)(heo:∃u,h'.get? e=some u):Un fs ex H (upd H x o) h h':=by
 have hx:∀b,H b=none→b≠x:=fun b n z=>by subst z;rw[n] at mu;exact mu
 have hb:∀b,H b=none→b≠e:=fun b n z=>by
  subst z
  rcases he with r|r
  ·exact hx b n r
  ·rw[n] at r;cases r
 have hm:∀b u,H b=some u→¬Mut (some u)→b≠x:=fun b u q nm z=>by subst z;rw[q] at mu;exact nm mu
 refine⟨fun b u q n _ _=>k b u (hb b n) q,fun b u q n _ _=>⟨u.slots,k b u (hb b n) q⟩,fun b u q n _=>by rw[zc (hx b n)];exact n,fun b u q _=>?_,
  fun b xs q=>by rw[zc (hm b _ q fun z=>z)];exact q,fun b u xs q=>by rw[zc (hm b _ q fun z=>z)];exact q,fun b ps q=>⟨#[],by rw[zc (hm b _ q fun z=>z),q];simp⟩⟩
 by_cases hbe:b=e
 ·subst hbe;exact heo
 ·exact⟨u,k b u hbe q⟩
end
def trk (h:Heap)(H:Hp):List Addr:=(List.range h.objs.size).filter fun a=>(H a).isSome
def tG (h:Heap)(H:Hp):Heap:=PySem.W.hideAll h (trk h H)
theorem oC (h:Heap)(H:Hp):(tG h H).objs.size=h.objs.size:=PySem.W.hideAll_size _ _
theorem ll {h:Heap}{H:Hp}{b:Addr}{o:Obj}(e:h.get? b=some o)(n:H b=none):(tG h H).get? b=some o:=
 PySem.W.hideAll_get _ e fun hm=>by
  have q:(H b).isSome=true:=(List.mem_filter.mp hm).2
  rw[n] at q;simp at q
theorem kL {h:Heap}{H:Hp}{b:Addr}{o:Obj}(e:(tG h H).get? b=some o):h.get? b=some o∧H b=none:=by
 have e':h.get? b=some o:=PySem.W.of_hideAll (trk h H) e
 refine⟨e',?_⟩
 cases q:H b with
 |none=>rfl
 |some x=>
  have hm:b∈trk h H:=List.mem_filter.mpr ⟨List.mem_range.mpr (dR e'),by simp[q]⟩
  have z:(tG h H).get? b=none:=PySem.W.hideAll_none (trk h H) hm
  rw[z] at e;cases e
structure Mod (K:PySem.W.Frag)(mg:Str→Option Value)(base:Heap):Prop where
 kin:K.In base
 glob:base.Ns mainGlobals mg
 blt:∃mb,base.Ns builtinsNs mb∧∀x:Str,x≠"__name__"→mb x=bootBuiltins x
 nolimit:base.NoLimit
structure Cx where
 prog:Program
 w:World
 K:PySem.W.Frag
 mg:Str→Option Value
 base:Heap
 A:Around
 N:List Str
 s₀:Shared
 H₀:Hp
 env:Env
 outer:List Env
 stack:List Env
 ex:List Addr
 fn:Str→Bool
 calm:Bool
 pn:List (Addr×Obj)
 xe:Value→Shared→Prop
def frs (l:List Env):List Addr:=l.filterMap (·.frame)
abbrev Cx.fs (X:Cx):List Addr:=frs X.outer
def Vis (sc:Scope)(x:Str):Prop:=sc.names.lookup x=some .local∨sc.names.lookup x=some .cell∨sc.names.lookup x=some .free
def Loc (sc:Scope)(x:Str):Prop:=sc.names.lookup x=some .local∨sc.names.lookup x=some .cell
def Look (env:Env)(h:Heap)(m:Str→Option Value)(x:Str)(u:Value):Prop:=
 (env.kindOf x=some .local∧m x=some u)∨((env.kindOf x=some .cell∨env.kindOf x=some .free)∧∃c,env.cells.lookup x=some c∧h.IsCell c (some u))
structure Cx.Ok (X:Cx):Prop where
 mod:Mod X.K X.mg X.base
 kind:X.env.scope.kind=.function
 glob:X.env.globals=mainGlobals
 blt:X.env.builtins=builtinsNs
 above:X.s₀.heap.objs.size≤X.env.locals
 inj:∀x y c,X.env.cells.lookup x=some c→X.env.cells.lookup y=some c→x=y
 has:∀x,(X.env.kindOf x=some .cell∨X.env.kindOf x=some .free)→∃c,X.env.cells.lookup x=some c
 cab:∀x c,X.fn x=true→X.env.cells.lookup x=some c→X.s₀.heap.objs.size≤c
 hd:X.calm=true→X.A.handled=none
 frames:X.A.frames=some X.stack
 stk:X.stack=X.outer∨(X.stack=X.env::X.outer∧X.env.frame=some X.env.locals)
 exf:∀b∈X.ex,b≠X.env.locals∧∀x c,X.env.cells.lookup x=some c→c≠b
 bs:∀b o,X.base.get? b=some o→X.s₀.heap.get? b=some o∧X.H₀ b=none
 bsz:X.base.objs.size≤X.s₀.heap.objs.size
 noex:∀b o,X.base.get? b=some o→b∉X.ex
 exfs:∀b∈X.ex,b∉X.fs
 funs:X.s₀.heap.FunFrames X.base X.outer
 frf:∀b∈X.fs,X.H₀ b=none
structure Inv (X:Cx)(pins:List (Addr×Obj))(σ:List (Option V))(H:Hp)(s:Shared):Prop where
 ok:X.Ok
 os:s.os=X.s₀.os
 bare:AllBare s.gens
 base:Un X.fs X.ex X.H₀ H X.s₀.heap s.heap
 loc:∃m,s.heap.Ns X.env.locals m∧∀(i:Nat) (x:Str) (v:V),X.N[i]?=some x→σ[i]?=some (some v)→Vis X.env.scope x→∃u,RelV v u∧Look X.env s.heap m x u
 cell:∀x c,X.env.cells.lookup x=some c→∃v,s.heap.IsCell c v
 free:H X.env.locals=none
 freeC:∀x c,X.env.cells.lookup x=some c→H c=none
 pin:∀p∈X.pn++pins,s.heap.get? p.1=some p.2∧H p.1=none∧p.1≠X.env.locals∧p.1∉X.fs∧∀v,p.2.data≠.cell v
 hok:HOk X.prog X.w H s.heap
 len:σ.length=X.N.length
section
variable {X:Cx}{pins:List (Addr×Obj)}{σ:List (Option V)}{H H':Hp}{s:Shared}{h':Heap}
theorem Cx.Ok.nofr (ok:X.Ok){b:Addr}{o:Obj}(e:X.base.get? b=some o):b∉X.fs:=fun hb=>by
 have:=(ok.funs.mem hb).1
 rw[e] at this;cases this
theorem Inv.bs (I:Inv X pins σ H s):∀b o,X.base.get? b=some o→s.heap.get? b=some o∧H b=none:=fun b o e=>
 ⟨I.base.keep b o (I.ok.bs b o e).1 (I.ok.bs b o e).2 (I.ok.nofr e) (I.ok.noex b o e),I.base.free b o (I.ok.bs b o e).1 (I.ok.bs b o e).2 (I.ok.noex b o e)⟩
theorem Inv.bk (I:Inv X pins σ H s):∀b o,X.base.get? b=some o→s.heap.get? b=some o:=fun b o e=>(I.bs b o e).1
theorem Inv.mod (I:Inv X pins σ H s):Mod X.K X.mg X.base:=I.ok.mod
theorem Inv.kIn (I:Inv X pins σ H s):X.K.In s.heap:=I.ok.mod.kin.keeps I.bk
theorem Inv.lt (I:Inv X pins σ H s):X.env.locals<s.heap.objs.size:=let ⟨_,hn,_⟩:=I.loc;hn.lt
theorem Inv.sz (I:Inv X pins σ H s):X.s₀.heap.objs.size≤s.heap.objs.size:=cM I.ok.above (bN I.lt)
theorem Inv.nofs (I:Inv X pins σ H s){a:Addr}(h:s.heap.objs.size≤a):a∉X.fs:=fun hb=>by
 obtain⟨_,o,ho,_⟩:=I.ok.funs.mem hb
 exact absurd (cu (dR ho) (cM I.sz h)) (ao _)
theorem Inv.cne (I:Inv X pins σ H s):∀x c,X.env.cells.lookup x=some c→c≠X.env.locals:=fun x c e z=>by
 obtain⟨v,o,ho,hd⟩:=I.cell x c e
 obtain⟨m,⟨o',es,ep,ho',hd',_⟩,_⟩:=I.loc
 rw[z,ho'] at ho;cases ho;rw[hd'] at hd;cases hd
theorem Inv.funs (I:Inv X pins σ H s):s.heap.FunFrames X.base X.outer:=by
 have all:∀(l:List Env),(∀b∈frs l,b∈X.fs)→X.s₀.heap.FunFrames X.base l→s.heap.FunFrames X.base l:=by
  intro l
  induction l with
  |nil=>intro _ _;trivial
  |cons env r ih=>
   intro hs hl
   obtain⟨hk,⟨L,o,hf,hn,ho,hd⟩,hr⟩:=hl
   have hL:L∈X.fs:=hs L (by unfold frs;rw[aJ,hf];exact cv)
   obtain⟨sl,e⟩:=I.base.slot L o ho (I.ok.frf L hL) hL fun z=>I.ok.exfs L z hL
   exact⟨hk,⟨L,_,hf,hn,e,hd⟩,ih (fun b hb=>hs b (by unfold frs;rw[aJ,hf];exact dX _ hb)) hr⟩
 exact all X.outer (fun _ hb=>hb) I.ok.funs
theorem Inv.stack (I:Inv X pins σ H s):s.heap.FunFrames X.base X.stack:=by
 rcases I.ok.stk with e|⟨e,hf⟩
 ·rw[e];exact I.funs
 ·rw[e]
  obtain⟨m,hn,_⟩:=I.loc
  refine .cons (by rw[I.ok.kind];decide) hf hn ?_ I.funs
  exact Heap.get?_none_of_le (cM I.ok.bsz I.ok.above)
theorem Inv.stkSub (I:Inv X pins σ H s):∀b∈frs X.stack,b∈X.env.locals::X.fs:=fun b hb=>by
 rcases I.ok.stk with e|⟨e,hf⟩
 ·rw[e] at hb;exact dX _ hb
 ·rw[e] at hb
  unfold frs at hb
  rw[aJ,hf] at hb
  exact hb
theorem Inv.stkFree (I:Inv X pins σ H s):∀b∈frs X.stack,H b=none:=fun b hb=>by
 rcases cm.mp (I.stkSub b hb) with e|hb
 ·rw[e];exact I.free
 ·obtain⟨_,o,ho,_⟩:=I.ok.funs.mem hb
  exact I.base.free b o ho (I.ok.frf b hb) fun z=>I.ok.exfs b z hb
theorem Inv.step {g':Array GenState}{t':Nat}{d':Drawn}{ch:List Addr}(I:Inv X pins σ H s)
  (hch:∀b∈ch,(b∈X.ex∨X.s₀.heap.objs.size≤b)∧b≠X.env.locals∧(∀x c,X.env.cells.lookup x=some c→c≠b)∧∀p∈X.pn++pins,p.1≠b)
  (keep:∀b o,b≠X.env.locals→b∉X.fs→b∉ch→s.heap.get? b=some o→H b=none→h'.get? b=some o)
  (slot:∀b o,b≠X.env.locals→b∈X.fs→b∉ch→s.heap.get? b=some o→H b=none→∃sl,h'.get? b=some {o with slots:=sl}) (free:∀b o,b∉ch→s.heap.get? b=some o→H b=none→H' b=none)
  (there:∀b o,b∉ch→s.heap.get? b=some o→∃o',h'.get? b=some o')
  (tups:∀b xs,H b=some (.tup xs)→H' b=some (.tup xs)) (frzs:∀b o u,H b=some (.frz o u)→H' b=some (.frz o u)) (tbls:∀b ps,H b=some (.tbl ps)→∃more,H' b=some (.tbl (ps++more)))
  (ns:∀m,s.heap.Ns X.env.locals m→h'.Ns X.env.locals m) (hok:HOk X.prog X.w H' h') (hg:AllBare g'):
  Inv X pins σ H' {s with heap:=h',gens:=g',drawn:=d',toks:=t'}:=by
 have neL:∀b o,X.s₀.heap.get? b=some o→b≠X.env.locals:=fun b o e=>cz (cu (dR e) I.ok.above)
 have neC:∀b o,X.s₀.heap.get? b=some o→b∉X.ex→b∉ch:=fun b o e hx hb=>by
  rcases (hch b hb).1 with z|z
  ·exact hx z
  ·exact absurd (cu (dR e) z) (ao _)
 have cellK:∀x c,X.env.cells.lookup x=some c→∀v,s.heap.IsCell c v→h'.IsCell c v:=fun x c e v ⟨o,ho,hd⟩=>by
  have nch:c∉ch:=fun z=>(hch c z).2.2.1 x c e rfl
  by_cases hc:c∈X.fs
  ·obtain⟨sl,q⟩:=slot c o (I.cne x c e) hc nch ho (I.freeC x c e)
   exact⟨_,q,hd⟩
  ·exact⟨o,keep c o (I.cne x c e) hc nch ho (I.freeC x c e),hd⟩
 refine⟨I.ok,I.os,hg,⟨fun b o e n hb hx=>?_,fun b o e n hb hx=>?_,fun b o e n hx=>?_,fun b o e hx=>?_,fun b xs e=>tups b xs (I.base.tups b xs e),fun b o xs e=>frzs b o xs (I.base.frzs b o xs e),fun b ps e=>?_⟩,?_,fun x c e=>?_,?_,fun x c e=>?_,fun p hp=>?_,hok,I.len⟩
 ·exact keep b o (neL b o e) hb (neC b o e hx) (I.base.keep b o e n hb hx) (I.base.free b o e n hx)
 ·obtain⟨sl,e1⟩:=I.base.slot b o e n hb hx
  obtain⟨sl',e2⟩:=slot b _ (neL b o e) hb (neC b o e hx) e1 (I.base.free b o e n hx)
  exact⟨sl',e2⟩
 ·obtain⟨o',e1⟩:=I.base.there b o e hx
  exact free b o' (neC b o e hx) e1 (I.base.free b o e n hx)
 ·obtain⟨o',e1⟩:=I.base.there b o e hx
  exact there b o' (neC b o e hx) e1
 ·obtain⟨m1,e1⟩:=I.base.tbls b ps e
  obtain⟨m2,e2⟩:=tbls b _ e1
  exact⟨m1++m2,by rw[e2,Array.append_assoc]⟩
 ·obtain⟨m,hn,hl⟩:=I.loc
  refine⟨m,ns m hn,fun i x v e1 e2 e3=>?_⟩
  obtain⟨u,r,l⟩:=hl i x v e1 e2 e3
  refine⟨u,r,?_⟩
  rcases l with l|⟨k,c,e,z⟩
  ·exact .inl l
  ·exact .inr ⟨k,c,e,cellK x c e _ z⟩
 ·obtain⟨v,z⟩:=I.cell x c e
  exact⟨v,cellK x c e v z⟩
 ·obtain⟨m,⟨o,_,_,ho,_⟩,_⟩:=I.loc
  exact free _ o (fun z=>(hch _ z).2.1 rfl) ho I.free
 ·obtain⟨v,o,ho,hd⟩:=I.cell x c e
  exact free c o (fun z=>(hch c z).2.2.1 x c e rfl) ho (I.freeC x c e)
 ·obtain⟨e,n,ne,nf,d⟩:=I.pin p hp
  have nch:p.1∉ch:=fun z=>(hch p.1 z).2.2.2 p hp rfl
  exact⟨keep p.1 p.2 ne nf nch e n,free p.1 p.2 nch e n,ne,nf,d⟩
theorem Inv.un {t':Nat}(I:Inv X pins σ H s)(u:Un X.fs [] H H' s.heap h')(hok:HOk X.prog X.w H' h'):Inv X pins σ H' {s with heap:=h',toks:=t'}:=by
 obtain⟨m,⟨o,es,ep,ho,r⟩,_⟩:=id I.loc
 obtain⟨sl,hL⟩:=u.any ho I.free (by simp)
 exact I.step (g':=s.gens) (d':=s.drawn) (ch:=[]) (fun _ z=>nomatch z) (fun b o _ hb _ e n=>u.keep b o e n hb (by simp)) (fun b o _ hb _ e n=>u.slot b o e n hb (by simp)) (fun b o _ e n=>u.free b o e n (by simp)) (fun b o _ e=>u.there b o e (by simp)) u.tups u.frzs u.tbls (fun m' hm=>by
  obtain⟨o',es',ep',ho',r'⟩:=hm
  rw[ho] at ho';cases ho'
  exact⟨_,es',ep',hL,r'⟩) hok I.bare
theorem Inv.call {g':Array GenState}{t':Nat}{d':Drawn}{ch:List Addr}(I:Inv X pins σ H s)(u:Un (frs X.stack) ch H H' s.heap h')(hok:HOk X.prog X.w H' h')(hg:AllBare g')
  (hch:∀b∈ch,(b∈X.ex∨X.s₀.heap.objs.size≤b)∧b≠X.env.locals∧(∀x c,X.env.cells.lookup x=some c→c≠b)∧∀p∈X.pn++pins,p.1≠b):
  Inv X pins σ H' {s with heap:=h',gens:=g',drawn:=d',toks:=t'}:=by
 obtain⟨m,⟨o,es,ep,ho,r⟩,_⟩:=id I.loc
 obtain⟨sl,hL⟩:=u.any ho I.free fun z=>(hch _ z).2.1 rfl
 exact I.step (ch:=ch) hch (fun b o hL hb hc e n=>u.keep b o e n (fun z=>(cm.mp (I.stkSub b z)).elim hL hb) hc) (fun b o _ _ hc e n=>u.any e n hc) (fun b o hc e n=>u.free b o e n hc) (fun b o hc e=>u.there b o e hc) u.tups u.frzs u.tbls (fun m' hm=>by
  obtain⟨o',es',ep',ho',r'⟩:=hm
  rw[ho] at ho';cases ho'
  exact⟨_,es',ep',hL,r'⟩) hok hg
theorem Inv.turned {t':Nat}{it:Addr}(I:Inv X pins σ H s)(k:∀b o,b≠it→s.heap.get? b=some o→h'.get? b=some o)(hn:H it=none)(hL:it≠X.env.locals)
  (h1:it∈X.ex∨X.s₀.heap.objs.size≤it) (h2:∀x c,X.env.cells.lookup x=some c→c≠it) (h3:∀p∈X.pn++pins,p.1≠it):Inv X pins σ H {s with heap:=h',toks:=t'}:=by
 have nit:∀b u,H b=some u→b≠it:=fun b u e z=>by rw[z,hn] at e;cases e
 refine I.step (g':=s.gens) (d':=s.drawn) (ch:=[it]) (fun b hb=>?_) (fun b o _ _ hc e _=>k b o (fun z=>hc (by simp[z])) e) (fun b o _ _ hc e _=>⟨o.slots,k b o (fun z=>hc (by simp[z])) e⟩) (fun _ _ _ _ n=>n)
  (fun b o hc e=>⟨o,k b o (fun z=>hc (by simp[z])) e⟩) (fun _ _ e=>e) (fun _ _ _ e=>e) (fun b ps e=>⟨#[],by rw[e];simp⟩) (fun m hm=>?_) (fun b u e=>?_) I.bare
 ·have e:b=it:=by simpa using hb
  subst e
  exact⟨h1,hL,h2,h3⟩
 ·obtain⟨o,es,ep,ho,r⟩:=hm
  exact⟨o,es,ep,k _ o (aa hL) ho,r⟩
 ·refine (I.hok b u e).stay (fun c v hc q=>k c v ?_ q) (fun _ q=>q) fun _ _ q=>q
  rcases hc with z|z
  ·rw[z];exact nit b u e
  ·exact nit c _ z
theorem Inv.tok (I:Inv X pins σ H s)(t:Nat):Inv X pins σ H {s with toks:=t}:=I.un (h':=s.heap) (t':=t) Un.refl I.hok
theorem Inv.kept {t':Nat}(I:Inv X pins σ H s)(k:∀b u,s.heap.get? b=some u→h'.get? b=some u):Inv X pins σ H {s with heap:=h',toks:=t'}:=I.un (Un.kept k) (I.hok.kept k)
theorem Inv.laid {a:Addr}{o:HO}{t':Nat}(I:Inv X pins σ H s)(k:∀b u,s.heap.get? b=some u→h'.get? b=some u)(hp:s.heap.objs.size≤a)(new:zZ X.prog X.w (upd H a o) h' a o):
  Inv X pins σ (upd H a o) {s with heap:=h',toks:=t'}:=I.un (Un.laid k hp (I.hok.fresh hp)) (I.hok.laid k hp new)
theorem Inv.write {x e:Addr}{o:HO}{t':Nat}(I:Inv X pins σ H s)(mu:Mut (H x))(he:e=x∨H e=some (.own x))(k:∀b u,b≠e→s.heap.get? b=some u→h'.get? b=some u)(heo:∃u,h'.get? e=some u)
  (new:zZ X.prog X.w (upd H x o) h' x o):Inv X pins σ (upd H x o) {s with heap:=h',toks:=t'}:=I.un (Un.write mu he k heo) (I.hok.write mu he k heo new)
theorem Inv.pins_of {pins':List (Addr×Obj)}(I:Inv X pins σ H s)(h:∀p∈pins',s.heap.get? p.1=some p.2∧H p.1=none∧p.1≠X.env.locals∧p.1∉X.fs∧∀v,p.2.data≠.cell v):Inv X pins' σ H s:=
 ⟨I.ok,I.os,I.bare,I.base,I.loc,I.cell,I.free,I.freeC,fun p hp=>(ar.mp hp).elim (fun z=>I.pin p (aF _ z)) (h p),I.hok,I.len⟩
theorem vY {N:List Str}(hN:N.Nodup){i j:Nat}{x:Str}(a:N[i]?=some x)(b:N[j]?=some x):i=j:=by
 obtain⟨h1,e1⟩:=dN.mp a
 obtain⟨h2,e2⟩:=dN.mp b
 exact (List.getElem_inj hN).mp (e1.trans e2.symm)
theorem uM {M:Model}{A:Around}{E:Value→Shared→Prop}{i:Nat}{x:Str}{v:V}{u:Value}{Q:Unit→Shared→Prop}(I:Inv X pins σ H s)(hN:X.N.Nodup)(hi:X.N[i]?=some x)(hx:Loc X.env.scope x)(r:RelV v u)
  (h:∀s',Inv X pins (σ.set i (some v)) H s'→(∃a,Heap.SameBut a s.heap s'.heap∧(a=X.env.locals∨X.env.cells.lookup x=some a))→Q () s') (hf:X.fn x=true∨X.env.scope.names.lookup x=some .local:=by first|exact .inl rfl|exact .inr rfl|assumption):wpAny M A (storeName X.env x u) Q E s:=by
 obtain⟨m,hn,hl⟩:=id I.loc
 have hcls:(X.env.scope.kind == .class||(X.env.scope.kind == .module&&X.env.locals != X.env.globals))=false:=by rw[I.ok.kind];rfl
 have hiσ:i<σ.length:=by rw[I.len];exact (dN.mp hi).1
 have cne:=I.cne
 have tracked:∀{a:Addr} {h':Heap},(∃o,s.heap.get? a=some o∧H a=none)→Heap.SameBut a s.heap h'→HOk X.prog X.w H h':=fun {a h'} ha hs b ob e=>by
  obtain⟨_,_,hfree⟩:=ha
  refine (I.hok b ob e).stay (fun c w' hc q=>(hs.2 c ?_).trans q) (fun _ q=>q) fun _ _ q=>q
  rintro rfl
  rcases hc with rfl|hc
  ·rw[hfree] at e;cases e
  ·rw[hfree] at hc;cases hc
 rcases hx with hk|hk
 ·refine wpAny_storeName_local hk hn (fun h' hn' hs=>?_) hcls
  obtain⟨oL,_,_,hoL,_⟩:=id hn
  refine h _ ⟨I.ok,I.os,I.bare,⟨fun b o e n hb hx=>?_,fun b o e n hb hx=>?_,I.base.free,fun b o e hx=>?_,I.base.tups,I.base.frzs,I.base.tbls⟩,⟨_,hn',fun j y v' e1 e2 e3=>?_⟩,fun y c e=>?_,I.free,I.freeC,fun p hp=>?_,tracked ⟨oL,hoL,I.free⟩ hs,by simpa using I.len⟩ ⟨_,hs,.inl rfl⟩
  ·exact (hs.2 b (cz (cu (dR e) I.ok.above))).trans (I.base.keep b o e n hb hx)
  ·obtain⟨sl,e1⟩:=I.base.slot b o e n hb hx
   exact⟨sl,(hs.2 b (cz (cu (dR e) I.ok.above))).trans e1⟩
  ·obtain⟨o',e1⟩:=I.base.there b o e hx
   exact⟨o',(hs.2 b (cz (cu (dR e) I.ok.above))).trans e1⟩
  ·by_cases hj:j=i
   ·subst hj
    rw[hi] at e1;cases e1
    rw[cT hiσ] at e2
    cases e2
    exact⟨u,r,.inl ⟨hk,by simp⟩⟩
   ·rw[cF (aa hj)] at e2
    obtain⟨u',r',q⟩:=hl j y v' e1 e2 e3
    refine⟨u',r',?_⟩
    rcases q with ⟨k,e⟩|⟨k,c,e,z⟩
    ·refine .inl ⟨k,?_⟩
     have:y≠x:=fun e=>hj (vY hN e1 (e▸hi))
     simp[this,e]
    ·exact .inr ⟨k,c,e,z.sameBut hs (cne y c e)⟩
  ·obtain⟨w',z⟩:=I.cell y c e
   exact⟨w',z.sameBut hs (cne y c e)⟩
  ·obtain⟨e,n,ne,nf,d⟩:=I.pin p hp
   exact⟨(hs.2 p.1 ne).trans e,n,ne,nf,d⟩
 ·have hfn:X.fn x=true:=by
   rcases hf with z|z
   ·exact z
   ·rw[z] at hk;cases hk
  obtain⟨c,hc⟩:=I.ok.has x (.inl hk)
  obtain⟨w',z⟩:=I.cell x c hc
  refine wpAny_storeName_cell I.ok.kind hk hc z (fun h' hc' hs=>?_)
  obtain⟨oc,hoc,hocd⟩:=id z
  refine h {s with heap:=h'} ⟨I.ok,I.os,I.bare,⟨fun b o e n hb hx=>?_,fun b o e n hb hx=>?_,I.base.free,fun b o e hx=>?_,I.base.tups,I.base.frzs,I.base.tbls⟩,⟨m,hn.sameBut hs (aa (cne x c hc)),fun j y v' e1 e2 e3=>?_⟩,fun y c' e=>?_,I.free,I.freeC,fun p hp=>?_,tracked ⟨oc,hoc,I.freeC x c hc⟩ hs,by simpa using I.len⟩ ⟨c,hs,.inr hc⟩
  ·exact (hs.2 b (cz (cu (dR e) (I.ok.cab x c hfn hc)))).trans (I.base.keep b o e n hb hx)
  ·obtain⟨sl,e1⟩:=I.base.slot b o e n hb hx
   exact⟨sl,(hs.2 b (cz (cu (dR e) (I.ok.cab x c hfn hc)))).trans e1⟩
  ·obtain⟨o',e1⟩:=I.base.there b o e hx
   exact⟨o',(hs.2 b (cz (cu (dR e) (I.ok.cab x c hfn hc)))).trans e1⟩
  ·by_cases hj:j=i
   ·subst hj
    rw[hi] at e1;cases e1
    rw[cT hiσ] at e2
    cases e2
    exact⟨u,r,.inr ⟨.inl hk,c,hc,hc'⟩⟩
   ·rw[cF (aa hj)] at e2
    obtain⟨u',r',q⟩:=hl j y v' e1 e2 e3
    refine⟨u',r',?_⟩
    rcases q with q|⟨k,c',e,z'⟩
    ·exact .inl q
    ·refine .inr ⟨k,c',e,z'.sameBut hs ?_⟩
     rintro rfl
     exact hj (vY hN e1 (I.ok.inj _ _ _ e hc▸hi))
  ·by_cases hcc:c'=c
   ·subst hcc;exact⟨_,hc'⟩
   ·obtain⟨w2,z2⟩:=I.cell y c' e
    exact⟨w2,z2.sameBut hs hcc⟩
  ·obtain⟨e,n,ne,nf,d⟩:=I.pin p hp
   refine⟨(hs.2 p.1 ?_).trans e,n,ne,nf,d⟩
   intro q
   rw[q,hoc] at e
   have q':oc=p.2:=cA e
   exact d w' (by rw[←q'];exact hocd)
theorem vV {M:Model}{A:Around}{E:Value→Shared→Prop}{i:Nat}{x:Str}{v:V}{u:Value}{Q:Unit→Shared→Prop}(I:Inv X pins σ H s)(hN:X.N.Nodup)(hi:X.N[i]?=some x)(hx:Loc X.env.scope x)(r:RelV v u)
  (h:∀s',Inv X pins (σ.set i (some v)) H s'→Q () s') (hf:X.fn x=true∨X.env.scope.names.lookup x=some .local:=by first|exact .inl rfl|exact .inr rfl|assumption):wpAny M A (storeName X.env x u) Q E s:=
 uM I hN hi hx r (fun s' I' _=>h s' I') hf
theorem Inv.call' {s':Shared}{ch:List Addr}(I:Inv X pins σ H s)(ho:s'.os=s.os)(u:Un (frs X.stack) ch H H' s.heap s'.heap)(hok:HOk X.prog X.w H' s'.heap)(hg:AllBare s'.gens)
  (hch:∀b∈ch,(b∈X.ex∨X.s₀.heap.objs.size≤b)∧b≠X.env.locals∧(∀x c,X.env.cells.lookup x=some c→c≠b)∧∀p∈X.pn++pins,p.1≠b):Inv X pins σ H' s':=by
 obtain⟨h',g',d',t',o'⟩:=s'
 have e:o'=s.os:=ho
 subst e
 exact I.call (g':=g') (t':=t') (d':=d') u hok hg hch
end
abbrev XK :=Value→Option Addr→Hp→Prop
abbrev St :=List (Option V)
abbrev VK :=V→Hp→Prop
abbrev TE :=St→Hp→VK→Prop
abbrev TT :=St→Hp→(Bool→Hp→Prop)→Prop
abbrev TA :=St→Hp→(List V→Hp→Prop)→Prop
structure Ends where
 nx:St→Hp→Prop
 rt:VK
 bk:St→Hp→Prop:=fun _ _=>False
 ct:St→Hp→Prop:=fun _ _=>False
abbrev TS :=Ends→St→Hp→Prop
def EP (X:Cx)(pins:List (Addr×Obj))(σ:St)(Q:VK)(u:Value)(s':Shared):Prop:=∃v H',Inv X pins σ H' s'∧RelV v u∧Q v H'
def TP (X:Cx)(pins:List (Addr×Obj))(σ:St)(Q:Bool→Hp→Prop)(b:Bool)(s':Shared):Prop:=∃H',Inv X pins σ H' s'∧Q b H'
def AP (X:Cx)(pins:List (Addr×Obj))(σ:St)(Q:List V→Hp→Prop)(us:List Value)(s':Shared):Prop:=∃vs H',Inv X pins σ H' s'∧Vals vs us∧Q vs H'
def SP (X:Cx)(pins:List (Addr×Obj))(D:Ends)(f:Flow)(s':Shared):Prop:=
 match f with
 |.next=>∃σ' H',Inv X pins σ' H' s'∧D.nx σ' H'
 |.brk=>∃σ' H',Inv X pins σ' H' s'∧D.bk σ' H'
 |.cont=>∃σ' H',Inv X pins σ' H' s'∧D.ct σ' H'
 |.ret u=>∃v σ' H',Inv X pins σ' H' s'∧RelV v u∧D.rt v H'
def PE (X:Cx)(e:Expr)(t:TE):Prop:=
 ∀(pins:List (Addr×Obj)) (s:Shared) (σ:St) (H:Hp) (Q:VK),Inv X pins σ H s→t σ H Q→wpAny (model X.prog X.w) X.A (eval e X.env) (EP X pins σ Q) X.xe s
def PT (X:Cx)(e:Expr)(t:TT):Prop:=
 ∀(pins:List (Addr×Obj)) (s:Shared) (σ:St) (H:Hp) (Q:Bool→Hp→Prop),Inv X pins σ H s→t σ H Q→wpAny (model X.prog X.w) X.A (isTrue e X.env (eval e X.env)) (TP X pins σ Q) X.xe s
def PW (X:Cx)(e:Expr)(t:TT):Prop:=
 ∀(whole:Sem Value) (pins:List (Addr×Obj)) (s:Shared) (σ:St) (H:Hp) (Q:Bool→Hp→Prop),Inv X pins σ H s→t σ H Q→wpAny (model X.prog X.w) X.A (isTrue e X.env whole) (TP X pins σ Q) X.xe s
theorem PW.pt {X:Cx}{e:Expr}{t:TT}(h:PW X e t):PT X e t:=h _
def PA (X:Cx)(es:List Expr)(t:TA):Prop:=
 ∀(pos:Pos) (pins:List (Addr×Obj)) (s:Shared) (σ:St) (H:Hp) (Q:List V→Hp→Prop),Inv X pins σ H s→t σ H Q→wpAny (model X.prog X.w) X.A (spliced (backTo pos (starEach es X.env))) (AP X pins σ Q) X.xe s
def PS (X:Cx)(st:Stmt)(t:TS):Prop:=
 ∀(pins:List (Addr×Obj)) (s:Shared) (σ:St) (H:Hp) (D:Ends),Inv X pins σ H s→t D σ H→wpAny (model X.prog X.w) X.A (exec st X.env) (SP X pins D) X.xe s
def PSs (X:Cx)(st:List Stmt)(t:TS):Prop:=
 ∀(pins:List (Addr×Obj)) (s:Shared) (σ:St) (H:Hp) (D:Ends),Inv X pins σ H s→t D σ H→wpAny (model X.prog X.w) X.A (execs st X.env) (SP X pins D) X.xe s
theorem thn {α:Type}{t:Sem α}{Q Q':α→Shared→Prop}{M:Model}{A:Around}{E:Value→Shared→Prop}{s:Shared}(h:wpAny M A t Q E s)(hQ:∀a s,Q a s→Q' a s):wpAny M A t Q' E s:=cE h hQ fun _ _ x=>x
section
variable {X:Cx}
theorem bin {a b:Expr}{ta tb:TE}(ha:PE X a ta)(hb:PE X b tb){pins:List (Addr×Obj)}{s:Shared}{σ:St}{H:Hp}{R:V→V→Hp→Prop}(I:Inv X pins σ H s)(h:ta σ H fun x H1=>tb σ H1 fun y H2=>R x y H2)
  {α:Type} {Q:α→Shared→Prop} {f:Value→Value→Sem α}
  (hf:∀v u s2 x y H2,Inv X pins σ H2 s2→RelV x v→RelV y u→R x y H2→wpAny (model X.prog X.w) X.A (f v u) Q X.xe s2):
  wpAny (model X.prog X.w) X.A (eval a X.env) (fun v s₁=>wpAny (model X.prog X.w) X.A (eval b X.env) (fun u s₂=>wpAny (model X.prog X.w) X.A (f v u) Q X.xe s₂) X.xe s₁) X.xe s:=by
 refine thn (ha pins s σ H _ I h) fun v s1 ⟨x,H1,I1,r1,q1⟩=>?_
 refine thn (hb pins s1 σ H1 _ I1 q1) fun u s2 ⟨y,H2,I2,r2,q2⟩=>?_
 exact hf v u s2 x y H2 I2 r1 r2 q2
def gy (i:Nat):TE:=fun σ H Q=>∃v,σ[i]?=some (some v)∧Q v H
def tC (v:V):TE:=fun _ H Q=>Q v H
theorem yo {i:Nat}{x:Str}{pos:Pos}(hN:X.N[i]?=some x)(hv:Vis X.env.scope x)(hd:(x == ("__debug__":Str))=false:=by decide)(hcd:(x == ("__classdict__":Str))=false:=by decide):PE X (.Name x pos) (gy i):=by
 intro pins s σ H Q I h
 obtain⟨v,e,h⟩:=h
 obtain⟨m,hn,hl⟩:=I.loc
 obtain⟨u,r,l⟩:=hl i x v hN e hv
 have fin:EP X pins σ Q u s:=⟨v,H,I,r,h⟩
 rcases l with ⟨hk,hm⟩|⟨hk,c,hc,hcell⟩
 ·exact wpAny_Name (wpAny_loadName_local I.ok.kind hk hn hm fin) hd
 ·rcases hk with hk|hk
  ·exact wpAny_Name (wpAny_loadName_cell I.ok.kind hk hc hcell fin) hd
  ·exact wpAny_Name (wpAny_loadName_free I.ok.kind hk hc hcell fin hcd) hd
theorem zg {i j pos}:PE X (.Constant (.int i) j pos) (tC (.int i)):=fun _ _ _ H _ I h=>wpAny_Constant_int ⟨.int i,H,I.tok _,⟨_,rfl⟩,h⟩
theorem tw {j pos}:PE X (.Constant .none j pos) (tC .non):=fun _ _ _ H _ I h=>Constant_none ⟨.non,H,I,rfl,h⟩
theorem yc {x j pos}:PE X (.Constant (.str x) j pos) (tC (.str x)):=fun _ _ _ H _ I h=>Calls.Constant_str ⟨.str x,H,I.tok _,⟨_,rfl⟩,h⟩
def Gl (X:Cx)(x:Str):Prop:=X.env.kindOf x=some .globalImplicit
theorem yE {E:Value→Shared→Prop}{pins:List (Addr×Obj)}{s:Shared}{σ:St}{H:Hp}{x:Str}{u:Value}{pos:Pos}{Q:Value→Shared→Prop}(I:Inv X pins σ H s)(hg:Gl X x)(hm:X.mg x=some u)(h:Q u s)
  (hd:(x == ("__debug__":Str))=false:=by decide):wpAny (model X.prog X.w) X.A (eval (.Name x pos) X.env) Q E s:=
 Calls.Name_function_global I.ok.kind hg (Calls.loadGlobal_global (by rw[I.ok.glob];exact I.mod.glob.keeps I.bk) hm h) hd
theorem vP {E:Value→Shared→Prop}{pins:List (Addr×Obj)}{s:Shared}{σ:St}{H:Hp}{x:Str}{u:Value}{pos:Pos}{Q:Value→Shared→Prop}(I:Inv X pins σ H s)(hg:Gl X x)(hm:X.mg x=none)(hv:bootBuiltins x=some u)(h:Q u s)
  (hn:x≠"__name__":=by decide) (hd:(x == ("__debug__":Str))=false:=by decide):wpAny (model X.prog X.w) X.A (eval (.Name x pos) X.env) Q E s:=by
 obtain⟨mb,h1,h2⟩:=I.mod.blt
 exact Calls.Name_function_global I.ok.kind hg (Calls.loadGlobal_builtin (by rw[I.ok.glob];exact I.mod.glob.keeps I.bk) hm (by rw[I.ok.blt];exact h1.keeps I.bk) ((h2 x hn).trans hv) h) hd
theorem xZ {x:Str}{v:V}{u:Value}{pos:Pos}(hg:Gl X x)(hm:X.mg x=some u)(r:RelV v u)(hd:(x == ("__debug__":Str))=false:=by decide):PE X (.Name x pos) (tC v):=
 fun _ _ _ H _ I h=>yE I hg hm ⟨v,H,I,r,h⟩ hd
theorem wg {x:Str}{v:V}{u:Value}{pos:Pos}(hg:Gl X x)(hm:X.mg x=none)(hv:bootBuiltins x=some u)(r:RelV v u)(hn:x≠"__name__":=by decide)(hd:(x == ("__debug__":Str))=false:=by decide):PE X (.Name x pos) (tC v):=
 fun _ _ _ H _ I h=>vP I hg hm hv ⟨v,H,I,r,h⟩ hn hd
variable {a b:Expr}{ta tb:TE}{pos:Pos}
def PC (X:Cx)(op:CmpOp)(a b:Expr)(t:TE):Prop:=
 ∀(pins:List (Addr×Obj)) (s:Shared) (σ:St) (H:Hp) (Q:VK),Inv X pins σ H s→t σ H Q→
  wpAny (model X.prog X.w) X.A (eval a X.env) (fun v s₁=>wpAny (model X.prog X.w) X.A (eval b X.env) (fun u s₂=>wpAny (model X.prog X.w) X.A (compareOp op v u) (EP X pins σ Q) X.xe s₂) X.xe s₁) X.xe s
def tB (t:TE):TT:=fun σ H Q=>t σ H fun x H1=>∃c,x=.bl c∧Q c H1
theorem dz {op:CmpOp}{t:TE}(h:PC X op a b t)(h1:behindInMarks op b=false:=by first|exact nobehind _ (by decide) (by decide)|rfl):PT X (.Compare a [op] [b] pos) (tB t):=by
 intro pins s σ H Q I hw
 refine wpAny_isTrue_Compare1 (thn (h pins s σ H _ I hw) fun v s1 h1=>thn h1 fun u s2 h2=>thn h2 fun c s3 ⟨x,H1,I1,r1,q1⟩=>?_) h1
 obtain⟨d,rfl,q⟩:=q1
 cases r1
 exact bb ⟨H1,I1,q⟩
theorem lq {e:Expr}{t:TE}(h:PE X e t)(he:∀whole,isTrue e X.env whole=(do let v ←whole;standAt e.pos;holding [v] (truthy v)):=by intro _;rfl):PT X e (tB t):=by
 intro pins s σ H Q I hw
 refine isTrue_plain (thn (h pins s σ H _ I hw) fun v s1 ⟨x,H1,I1,r1,q1⟩=>?_) (he _)
 obtain⟨d,rfl,q⟩:=q1
 cases r1
 exact bb ⟨H1,I1,q⟩
variable {tA tB':TT}{rest:List Expr}
def dA (t u:TT):TT:=fun σ H Q=>t σ H fun c H1=>if c=true then u σ H1 Q else Q false H1
def tOr (t u:TT):TT:=fun σ H Q=>t σ H fun c H1=>if c=true then Q true H1 else u σ H1 Q
def eS (t:TT):TT:=fun σ H Q=>t σ H fun c H1=>Q (!c) H1
theorem pf (ha:PT X a tA):PW X (.BoolOp .And [a] pos) tA:=by
 intro wh pins s σ H Q I h
 refine isTrue_and (thn (ha pins s σ H Q I h) fun c s1 e=>?_)
 cases c with
 |true=>exact isTrue_and_nil e
 |false=>exact e
theorem rM (ha:PT X a tA):PW X (.BoolOp .Or [a] pos) tA:=by
 intro wh pins s σ H Q I h
 refine isTrue_or (thn (ha pins s σ H Q I h) fun c s1 e=>?_)
 cases c with
 |false=>exact isTrue_or_nil e
 |true=>exact e
theorem ma (ha:PT X a tA)(hb:PW X (.BoolOp .And (b::rest) pos) tB'):PW X (.BoolOp .And (a::b::rest) pos) (dA tA tB'):=by
 intro wh pins s σ H Q I h
 refine isTrue_and (thn (ha pins s σ H _ I h) fun c s1 ⟨H1,I1,q1⟩=>?_)
 cases c with
 |true=>exact hb wh pins s1 σ H1 Q I1 q1
 |false=>exact⟨H1,I1,q1⟩
theorem kg (ha:PT X a tA)(hb:PW X (.BoolOp .Or (b::rest) pos) tB'):PW X (.BoolOp .Or (a::b::rest) pos) (tOr tA tB'):=by
 intro wh pins s σ H Q I h
 refine isTrue_or (thn (ha pins s σ H _ I h) fun c s1 ⟨H1,I1,q1⟩=>?_)
 cases c with
 |true=>exact⟨H1,I1,q1⟩
 |false=>exact hb wh pins s1 σ H1 Q I1 q1
theorem mh (ha:PT X a tA):PT X (.UnaryOp .Not a pos) (eS tA):=by
 intro pins s σ H Q I h
 exact isTrue_not (ha pins s σ H (fun c H1=>Q (!c) H1) I h)
def et (ta tb:TE):TE:=fun σ H Q=>ta σ H fun x H1=>∃c,x=.bl c∧if c=true then tb σ H1 Q else Q (.bl false) H1
def di (ta tb:TE):TE:=fun σ H Q=>ta σ H fun x H1=>∃c,x=.bl c∧if c=true then Q (.bl true) H1 else tb σ H1 Q
def fm (ta:TE):TE:=fun σ H Q=>ta σ H fun x H1=>∃c,x=.bl c∧Q (.bl (!c)) H1
theorem yL {op}{t:TE}(h:PE X a t):PE X (.BoolOp op [a] pos) t:=fun pins s σ H Q I hw=>BoolOp_one (h pins s σ H Q I hw)
theorem yw (ha:PE X a ta)(hb:PE X (.BoolOp .And (b::rest) pos) tb):PE X (.BoolOp .And (a::b::rest) pos) (et ta tb):=by
 intro pins s σ H Q I h
 refine BoolOp_and (thn (ha pins s σ H _ I h) fun v s1 ⟨x,H1,I1,r1,q1⟩=>?_)
 obtain⟨c,rfl,q1⟩:=q1
 cases r1
 refine bb ?_
 cases c with
 |true=>exact hb pins s1 σ H1 Q I1 q1
 |false=>exact⟨.bl false,H1,I1,rfl,q1⟩
theorem my (ha:PE X a ta)(hb:PE X (.BoolOp .Or (b::rest) pos) tb):PE X (.BoolOp .Or (a::b::rest) pos) (di ta tb):=by
 intro pins s σ H Q I h
 refine BoolOp_or (thn (ha pins s σ H _ I h) fun v s1 ⟨x,H1,I1,r1,q1⟩=>?_)
 obtain⟨c,rfl,q1⟩:=q1
 cases r1
 refine bb ?_
 cases c with
 |false=>exact hb pins s1 σ H1 Q I1 q1
 |true=>exact⟨.bl true,H1,I1,rfl,q1⟩
theorem iO (ha:PE X a ta):PE X (.UnaryOp .Not a pos) (fm ta):=by
 intro pins s σ H Q I h
 refine UnaryOp_ (thn (ha pins s σ H _ I h) fun v s1 ⟨x,H1,I1,r1,q1⟩=>?_)
 obtain⟨c,rfl,q1⟩:=q1
 cases r1
 exact not_of (bb ⟨.bl (!c),H1,I1,rfl,q1⟩)
def tIf (t:TT)(ta tb:TE):TE:=fun σ H Q=>t σ H fun c H1=>if c=true then ta σ H1 Q else tb σ H1 Q
theorem mL {c:Expr}(hc:PT X c tA)(ha:PE X a ta)(hb:PE X b tb):PE X (.IfExp c a b pos) (tIf tA ta tb):=by
 intro pins s σ H Q I h
 refine wpAny_IfExp (thn (hc pins s σ H _ I h) fun d s1 ⟨H1,I1,q1⟩=>?_)
 cases d with
 |true=>exact ha pins s1 σ H1 Q I1 q1
 |false=>exact hb pins s1 σ H1 Q I1 q1
end
def SqL (K:PySem.W.Frag)(H:Hp)(a:Addr)(xs:List V):Prop:=
 Rd H a (.lst xs)∨
  ∃(o:Obj) (its:Array Value) (n:Nat),K.lookup a=some o∧o.cls=.type "list"∧o.dict=none∧o.data=.seq its n∧its.size≤sizeLine∧Vals xs its.toList
def SqT (K:PySem.W.Frag)(H:Hp)(a:Addr)(xs:List V):Prop:=
 Rd H a (.tup xs)∨
  ∃(o:Obj) (its:Array Value) (n:Nat),K.lookup a=some o∧o.cls=.type "tuple"∧o.data=.seq its n∧its.size≤sizeLine∧Vals xs its.toList
def dE :Value→Option V
 |.none=>some .non
 |.bool b=>some (.bl b)
 |.int i _=>some (.int i)
 |.str x _=>some (.str x)
 |.bytes b _=>some (.byt b)
 |.float b _=>some (.flt b)
 |.ref a=>some (.ref a)
 |.type n=>some (.ty n)
 |_=>none
theorem RelV.abs {x:V}{u:Value}(r:RelV x u):dE u=some x:=by
 cases x with
 |non=>cases r;rfl
 |bl _=>cases r;rfl
 |int _=>obtain⟨t,rfl⟩:=r;rfl
 |str _=>obtain⟨t,rfl⟩:=r;rfl
 |byt _=>obtain⟨t,rfl⟩:=r;rfl
 |flt _=>obtain⟨t,rfl⟩:=r;rfl
 |ref _=>cases r;rfl
 |ty _=>cases r;rfl
theorem RelV.inj {x y:V}{u:Value}(r:RelV x u)(q:RelV y u):x=y:=cA (r.abs.symm.trans q.abs)
theorem Vals.inj :∀{xs ys:List V} {us:List Value},Vals xs us→Vals ys us→xs=ys
 |_,_,_,.nil,.nil=>rfl
 |_,_,_,.cons r t,.cons r' t'=>by rw[r.inj r',Vals.inj t t']
section
variable {X:Cx}{pins:List (Addr×Obj)}{σ:St}{H:Hp}{s:Shared}{a:Addr}{xs ys:List V}
theorem SqL.of {K:PySem.W.Frag}(h:H a=some (.lst xs)):SqL K H a xs:=.inl (.inl h)
theorem SqT.of {K:PySem.W.Frag}(h:H a=some (.tup xs)):SqT K H a xs:=.inl (.inl h)
theorem Inv.list (I:Inv X pins σ H s)(h:SqL X.K H a xs):∃its:List Value,Vals xs its∧PlainL s.heap a its.toArray∧xs.length≤sizeLine:=by
 rcases h with h|⟨o,its,n,hk,hc,hd,hs,hz,r⟩
 ·obtain⟨z,its,n,r,e⟩:=h.ok I.hok
  exact⟨its,r,⟨_,n,e,rfl,rfl,rfl⟩,z⟩
 ·refine⟨its.toList,r,⟨o,n,I.kIn a o hk,hc,hd,by simpa using hs⟩,?_⟩
  have e:=r.length
  simp only[aK] at e
  omega
theorem Inv.tuple (I:Inv X pins σ H s)(h:SqT X.K H a xs):∃its:List Value,Vals xs its∧IsTup s.heap a its.toArray∧xs.length≤sizeLine:=by
 rcases h with h|⟨o,its,n,hk,hc,hs,hz,r⟩
 ·obtain⟨z,its,r,p⟩:=h.ok I.hok
  exact⟨its,r,p,z⟩
 ·refine⟨its.toList,r,⟨o,I.kIn a o hk,hc,n,by simpa using hs⟩,?_⟩
  have e:=r.length
  simp only[aK] at e
  omega
theorem Inv.list_inj (I:Inv X pins σ H s)(h:SqL X.K H a xs)(h':SqL X.K H a ys):xs=ys:=by
 obtain⟨its,r,⟨o,n,e,_,_,d⟩,_⟩:=I.list h
 obtain⟨its',r',⟨o',n',e',_,_,d'⟩,_⟩:=I.list h'
 rw[e] at e';cases e'
 rw[d] at d'
 injection d' with d1 _
 have:its=its':=by simpa using congrArg Array.toList d1
 subst this
 exact r.inj r'
end
abbrev Cx.wish (X:Cx)(E:Value→Shared→Prop):Cx:={X with xe:=E}
abbrev Cx.nox (X:Cx):Cx:=X.wish fun _ _=>False
theorem Cx.Ok.wish {X:Cx}(ok:X.Ok)(E:Value→Shared→Prop):(X.wish E).Ok:=
 ⟨ok.mod,ok.kind,ok.glob,ok.blt,ok.above,ok.inj,ok.has,ok.cab,ok.hd,ok.frames,ok.stk,ok.exf,ok.bs,ok.bsz,ok.noex,ok.exfs,ok.funs,ok.frf⟩
theorem Cx.Ok.unwish {X:Cx}{E:Value→Shared→Prop}(ok:(X.wish E).Ok):X.Ok:=
 ⟨ok.mod,ok.kind,ok.glob,ok.blt,ok.above,ok.inj,ok.has,ok.cab,ok.hd,ok.frames,ok.stk,ok.exf,ok.bs,ok.bsz,ok.noex,ok.exfs,ok.funs,ok.frf⟩
section
variable {X:Cx}{pins:List (Addr×Obj)}{σ:St}{H:Hp}{s:Shared}{E:Value→Shared→Prop}
theorem Inv.wish (I:Inv X pins σ H s)(E:Value→Shared→Prop):Inv (X.wish E) pins σ H s:=⟨I.ok.wish E,I.os,I.bare,I.base,I.loc,I.cell,I.free,I.freeC,I.pin,I.hok,I.len⟩
theorem Inv.unwish (I:Inv (X.wish E) pins σ H s):Inv X pins σ H s:=⟨I.ok.unwish,I.os,I.bare,I.base,I.loc,I.cell,I.free,I.freeC,I.pin,I.hok,I.len⟩
theorem SP.unwish {D:Ends}{f:Flow}{s':Shared}(h:SP (X.wish E) pins D f s'):SP X pins D f s':=by
 cases f with
 |next=>obtain⟨σ',H',I,q⟩:=h;exact⟨σ',H',I.unwish,q⟩
 |brk=>obtain⟨σ',H',I,q⟩:=h;exact⟨σ',H',I.unwish,q⟩
 |cont=>obtain⟨σ',H',I,q⟩:=h;exact⟨σ',H',I.unwish,q⟩
 |ret u=>obtain⟨v,σ',H',I,r,q⟩:=h;exact⟨v,σ',H',I.unwish,r,q⟩
theorem PSs.nox {st:List Stmt}{t:TS}(h:PSs X.nox st t):PSs X st t:=fun pins s σ H D I hw=>
 cE (h pins s σ H D (I.wish _) hw) (fun _ _ q=>q.unwish) fun _ _ z=>False.elim z
end
section
variable {X:Cx}{st:Stmt}{rest:List Stmt}{t u:TS}{e:Expr}{te:TE}{pos:Pos}
def fq :TS:=fun D σ H=>D.nx σ H
def eE (t u:TS):TS:=fun D σ H=>t {D with nx:=u D} σ H
theorem ye :PSs X [] fq:=fun _ _ σ H _ I h=>au ⟨σ,H,I,h⟩
theorem zu (h1:PS X st t)(h2:PSs X rest u):PSs X (st::rest) (eE t u):=by
 intro pins s σ H D I h
 refine wpAny_execs_cons (thn (h1 pins s σ H {D with nx:=u D} I h) fun f s1 q=>?_)
 cases f with
 |next=>
  obtain⟨σ',H',I',q⟩:=q
  exact h2 pins s1 σ' H' D I' q
 |ret v=>exact q
 |brk=>exact q
 |cont=>exact q
theorem zo (h1:PS X st t):PSs X [st] t:=by
 intro pins s σ H D I h
 refine wpAny_execs_cons (thn (h1 pins s σ H D I h) fun f s1 q=>?_)
 cases f with
 |next=>exact au q
 |ret v=>exact q
 |brk=>exact q
 |cont=>exact q
theorem Inv.quiet {pins:List (Addr×Obj)}{σ:St}{H:Hp}{s:Shared}(I:Inv X pins σ H s):interactive X.env=false:=by simp[interactive,I.ok.kind]
def fK (te:TE):TS:=fun D σ H=>te σ H fun _ H1=>D.nx σ H1
theorem vq (he:PE X e te)(hs:swapsWith e none pos.line X.env=pure false:=by rfl):PS X (.Expr e pos) (fK te):=by
 intro pins s σ H D I h
 exact wpAny_Expr_any (thn (he pins s σ H _ I h) fun v s1 ⟨x,H1,I1,r1,q1⟩=>⟨σ,H1,I1,q1⟩) I.quiet hs
def dG (te:TE):TS:=fun D σ H=>te σ H D.rt
theorem zA (he:PE X e te):PS X (.Return (some e) pos) (dG te):=by
 intro pins s σ H D I h
 exact wpAny_Return_some (thn (he pins s σ H _ I h) fun v s1 ⟨x,H1,I1,r1,q1⟩=>⟨x,σ,H1,I1,r1,q1⟩)
def eV (c:TT)(t u:TS):TS:=fun D σ H=>c σ H fun b H1=>if b=true then t D σ H1 else u D σ H1
theorem yS {c:Expr}{a b:List Stmt}{tc:TT}(hc:PT X c tc)(ha:PSs X a t)(hb:PSs X b u):PS X (.If c a b pos) (eV tc t u):=by
 intro pins s σ H D I h
 refine wpAny_If (thn (hc pins s σ H _ I h) fun d s1 ⟨H1,I1,q1⟩=>?_)
 cases d with
 |true=>exact ha pins s1 σ H1 D I1 q1
 |false=>exact hb pins s1 σ H1 D I1 q1
end
abbrev TG :=V→St→Hp→(St→Hp→Prop)→Prop
abbrev TGs :=List V→St→Hp→(St→Hp→Prop)→Prop
def PG (X:Cx)(target:Expr)(t:TG):Prop:=
 ∀(pins:List (Addr×Obj)) (s:Shared) (σ:St) (H:Hp) (v:V) (u:Value) (Q:St→Hp→Prop),Inv X pins σ H s→RelV v u→t v σ H Q→
  wpAny (model X.prog X.w) X.A (assign target X.env u) (fun _ s'=>∃σ' H',Inv X pins σ' H' s'∧Q σ' H') X.xe s
def PGs (X:Cx)(ts:List Expr)(t:TGs):Prop:=
 ∀(pins:List (Addr×Obj)) (s:Shared) (σ:St) (H:Hp) (vs:List V) (us:List Value) (Q:St→Hp→Prop),Inv X pins σ H s→Vals vs us→t vs σ H Q→
  wpAny (model X.prog X.w) X.A (assignInOrder ((assignEach ts X.env).map (·.2)) us) (fun _ s'=>∃σ' H',Inv X pins σ' H' s'∧Q σ' H') X.xe s
abbrev gk :=V→V→V→Hp→(Hp→Prop)→Prop
def fj (X:Cx)(t:gk):Prop:=
 ∀(pins:List (Addr×Obj)) (s:Shared) (σ:St) (H:Hp) (o i v:V) (ov iv u:Value) (Q:Hp→Prop),Inv X pins σ H s→RelV o ov→RelV i iv→RelV v u→t o i v H Q→
  wpAny (model X.prog X.w) X.A (setItem ov iv u) (fun _ s'=>∃H',Inv X pins σ H' s'∧Q H') X.xe s
section
variable {X:Cx}{pos:Pos}
def uB (i:Nat):TG:=fun v σ H Q=>Q (σ.set i (some v)) H
theorem zX {i:Nat}{x:Str}(hN:X.N.Nodup)(hi:X.N[i]?=some x)(hx:Loc X.env.scope x)(hf:X.fn x=true∨X.env.scope.names.lookup x=some .local:=by first|exact .inl rfl|exact .inr rfl|assumption):PG X (.Name x pos) (uB i):=by
 intro pins s σ H v u Q I r h
 exact wpAny_assign_Name (vV I hN hi hx r (fun s' I'=>⟨_,H,I',h⟩) hf)
def fw :TGs:=fun vs σ H Q=>vs=[]∧Q σ H
def jP (t:TG)(u:TGs):TGs:=fun vs σ H Q=>∃v r,vs=v::r∧t v σ H fun σ' H'=>u r σ' H' Q
theorem wa :PGs X [] fw:=by
 intro pins s σ H vs us Q I r h
 obtain⟨e,h⟩:=h
 subst e
 cases r
 exact assignInOrder_nil ⟨σ,H,I,h⟩
theorem yq {e:Expr}{es:List Expr}{t:TG}{u:TGs}(h1:PG X e t)(h2:PGs X es u)
  (hs:(assignEach (e::es) X.env).map (·.2)=assign e X.env::(assignEach es X.env).map (·.2):=by rfl):PGs X (e::es) (jP t u):=by
 intro pins s σ H vs us Q I r h
 obtain⟨v,vr,e1,h⟩:=h
 subst e1
 cases r with
 |cons r rr=>
  rw[hs]
  refine assignInOrder_cons (thn (h1 pins s σ H _ _ _ I r h) fun _ s1 ⟨σ1,H1,I1,q1⟩=>?_)
  exact h2 pins s1 σ1 H1 _ _ Q I1 rr q1
def gn (K:PySem.W.Frag)(n:Nat)(t:TGs):TG:=fun v σ H Q=>∃a xs,v=.ref a∧SqT K H a xs∧xs.length=n∧t xs σ H Q
theorem gc {es:List Expr}{k:Nat}{t:TGs}{n:Nat}(hc:X.calm=true)(h:PGs X es t)
  (hn:(assignEach es X.env).length=n:=by rfl) (hst:(assignEach es X.env).findIdx? (·.1)=none:=by rfl):PG X (.Tuple es k pos) (gn X.K n t):=by
 intro pins s σ H v u Q I r hw
 obtain⟨a,xs,e1,hq,hl,hw⟩:=hw
 subst e1
 cases r
 obtain⟨its,rv,ht,hz⟩:=I.tuple hq
 refine assign_Tuple_tuple (I.ok.hd hc) ht (by simp[hn,←hl,rv.length]) hst fun h' hx=>?_
 have I1:Inv X pins σ H {s with heap:=h'}:=I.kept (t':=s.toks) fun b o e=>hx b o (cz (dR e)) e
 exact h pins _ σ H xs _ Q I1 (by simpa using rv) hw
def eN (to ti:TE)(t:gk):TG:=fun v σ H Q=>to σ H fun o H1=>ti σ H1 fun i H2=>t o i v H2 fun H3=>Q σ H3
theorem qw {o i:Expr}{to ti:TE}{t:gk}(ho:PE X o to)(hi:PE X i ti)(hs:fj X t)
  (ha:∀v,assign (.Subscript o i pos) X.env v=(do
   let ov ←holding [v] (eval o X.env)
   let iv ←holding [v,ov] (eval i X.env)
   standAt pos
   holding [v,ov,iv] (setItem ov iv v)
   release [v,ov,iv] []):=by intro _;rfl):PG X (.Subscript o i pos) (eN to ti t):=by
 intro pins s σ H v u Q I r h
 rw[ha]
 refine dJ (bj (thn (ho pins s σ H _ I h) fun ov s1 ⟨x,H1,I1,r1,q1⟩=>?_))
 refine dJ (bj (thn (hi pins s1 σ H1 _ I1 q1) fun iv s2 ⟨y,H2,I2,r2,q2⟩=>?_))
 refine dJ (aC (dJ (bj (thn (hs pins s2 σ H2 x y v ov iv u _ I2 r1 r2 r q2) fun _ s3 ⟨H3,I3,q3⟩=>?_))))
 exact wpAny_release ⟨σ,H3,I3,q3⟩
def gN (te:TE)(g:TG):TS:=fun D σ H=>te σ H fun x H1=>g x σ H1 D.nx
theorem rN {tg e:Expr}{te:TE}{g:TG}(he:PE X e te)(hg:PG X tg g)(hs:swapsWithSole [tg] e pos.line X.env=pure false:=by rfl)(hw:swappedStores [tg] e X.env=pure none:=by rfl)
  (h1:(assignEach [tg] X.env).map (·.2)=[assign tg X.env]:=by rfl):PS X (.Assign [tg] e pos) (gN te g):=by
 intro pins s σ H D I h
 refine wpAny_Assign_stores (thn (he pins s σ H _ I h) fun v s1 ⟨x,H1,I1,r1,q1⟩=>?_) hs hw
 rw[h1]
 exact thn (hg pins s1 σ H1 x v _ I1 r1 q1) fun _ s2 q=>q
theorem xq {i:Nat}{x:Str}{e:Expr}{te:TE}{pos':Pos}(hN:X.N.Nodup)(hi:X.N[i]?=some x)(hx:Loc X.env.scope x)(he:PE X e te)(hs:swapsWith e (some (.Name x pos')) pos.line X.env=pure false:=by rfl)(hf:X.fn x=true∨X.env.scope.names.lookup x=some .local:=by first|exact .inl rfl|exact .inr rfl|assumption):
  PS X (.Assign [.Name x pos'] e pos) (gN te (uB i)):=by
 intro pins s σ H D I h
 refine wpAny_Assign_Name (thn (he pins s σ H _ I h) fun v s1 ⟨y,H1,I1,r1,q1⟩=>?_) hs
 exact vV I1 hN hi hx r1 (fun s2 I2=>⟨_,H1,I2,q1⟩) hf
end
section
variable {X:Cx}{pos:Pos}
def gm (c:TT)(tb:TS):TS:=fun D σ H=>∃W:Nat→St→Hp→Prop,(∃m,W m σ H)∧∀m σ H,W m σ H→
 c σ H fun b H1=>if b=true then ∃N:St→Hp→Prop,(∀σ' H',N σ' H'→∃m',m'<m∧W m' σ' H')∧tb {D with nx:=N,ct:=N,bk:=D.nx} σ H1 else D.nx σ H1
theorem nV {c:Expr}{body:List Stmt}{tc:TT}{tb:TS}(hp:PassesOwn (model X.prog X.w) X.A X.env X.xe)(hc:PT X c tc)(hb:PSs X body tb):PS X (.While c body [] pos) (gm tc tb):=by
 intro pins s σ H D I h
 obtain⟨W,⟨m0,w0⟩,turn⟩:=h
 refine wpAny_While (codeAny_whileLoop (fun n s'=>∃σ' H',Inv X pins σ' H' s'∧W n σ' H') ?_ m0 ⟨σ,H,I,w0⟩)
 rintro n s1 ⟨σ1,H1,I1,w1⟩
 refine bA hp (thn (hc pins s1 σ1 H1 _ I1 (turn n σ1 H1 w1)) fun b s2 ⟨H2,I2,q2⟩=>?_)
 cases b with
 |true=>
  obtain⟨N,hN,q2⟩:=q2
  rw[if_pos rfl]
  refine bA hp (thn (hb pins s2 σ1 H2 _ I2 q2) fun f s3 q3=>?_)
  cases f with
  |next=>
   obtain⟨σ3,H3,I3,n3⟩:=q3
   obtain⟨m',hm,w3⟩:=hN σ3 H3 n3
   exact⟨m',hm,σ3,H3,I3,w3⟩
  |cont=>
   obtain⟨σ3,H3,I3,n3⟩:=q3
   obtain⟨m',hm,w3⟩:=hN σ3 H3 n3
   exact⟨m',hm,σ3,H3,I3,w3⟩
  |brk=>exact q3
  |ret v=>exact q3
 |false=>
  rw[if_neg dY]
  exact au ⟨σ1,H2,I2,q2⟩
end
structure It where
 go:Nat→Hp→Prop
 yld:Nat→Hp→V→Hp→Prop
 stop:Nat→Hp→Prop
def wU (X:Cx)(pins:List (Addr×Obj))(H:Hp)(b:Addr):Prop:=
 H b=none∧b≠X.env.locals∧b∉X.fs∧(b∈X.ex∨X.s₀.heap.objs.size≤b)∧(∀x c,X.env.cells.lookup x=some c→c≠b)∧∀p∈X.pn++pins,p.1≠b
theorem Inv.fpOk {X:Cx}{pins:List (Addr×Obj)}{σ:St}{H H':Hp}{s:Shared}{b:Addr}(I:Inv X pins σ H s)(hb:s.heap.objs.size≤b)(hn:H' b=none):wU X pins H' b:=by
 refine⟨hn,ay (cu I.lt hb),I.nofs hb,.inr (cM I.sz hb),fun x c e z=>?_,fun p hp z=>?_⟩
 ·obtain⟨v,q⟩:=I.cell x c e
  exact absurd (cu q.lt (by rw[z];exact hb)) (ao _)
 ·exact absurd (cu (dR (I.pin p hp).1) (by rw[z];exact hb)) (ao _)
structure Turn (P:Program)(w:World)(K:PySem.W.Frag)(tg:Expr)(J:It)(fp:List Addr)(it:Addr)(tn:Nat→Heap→Prop):Prop where
 mem:it∈fp
 obj:∀i h,tn i h→∀b∈fp,∃o,h.get? b=some o∧∀v,o.data≠.cell v
 keep:∀i h h',tn i h→(∀b∈fp,∀o,h.get? b=some o→h'.get? b=some o)→tn i h'
 item:∀(X:Cx),X.prog=P→X.w=w→X.K=K→X.calm=true→∀(i:Nat) (pins:List (Addr×Obj)) (s:Shared) (σ:St) (H:Hp) (E:Value→Shared→Prop),Inv X pins σ H s→(∀b∈fp,wU X pins H b)→tn i s.heap→J.go i H→
  wpAny (model P w) X.A (pyNext (.ref it)) (fun r s1=>∃u,r=some u∧
   wpAny (model P w) X.A (letOwnedTupleGo tg (.ref it) u) (fun _ s2=>∃x H',Inv X pins σ H' s2∧RelV x u∧J.yld i H x H'∧tn (i+1) s2.heap∧∀b∈fp,H' b=none) E s1) E s
 done:∀(X:Cx),X.prog=P→X.w=w→X.K=K→X.calm=true→∀(i:Nat) (pins:List (Addr×Obj)) (s:Shared) (σ:St) (H:Hp) (E:Value→Shared→Prop),Inv X pins σ H s→(∀b∈fp,wU X pins H b)→tn i s.heap→J.stop i H→
  wpAny (model P w) X.A (pyNext (.ref it)) (fun r s1=>r=none∧Inv X pins σ H s1) E s
 self:∀(A:Around) (i:Nat) (s:Shared) (Q:Value→Shared→Prop) (E:Value→Shared→Prop),tn i s.heap→Q (.ref it) s→wpAny (model P w) A (pyIter (.ref it)) Q E s
abbrev TI :=St→Hp→(It→Hp→Prop)→Prop
def PIE (X:Cx)(pins:List (Addr×Obj))(σ:St)(tg:Expr)(R:It→Hp→Prop)(itv:Value)(s2:Shared):Prop:=
 ∃(it:Addr) (fp:List Addr) (tn:Nat→Heap→Prop) (J:It) (H':Hp),itv=.ref it∧Inv X pins σ H' s2∧Turn X.prog X.w X.K tg J fp it tn∧tn 0 s2.heap∧(∀b∈fp,wU X pins H' b)∧R J H'
def PI (X:Cx)(tg iter:Expr)(wi:TI):Prop:=
 ∀(pins:List (Addr×Obj)) (s:Shared) (σ:St) (H:Hp) (R:It→Hp→Prop),Inv X pins σ H s→wi σ H R→
  wpAny (model X.prog X.w) X.A (eval iter X.env) (fun v s1=>wpAny (model X.prog X.w) X.A (pyIter v) (PIE X pins σ tg R) X.xe s1) X.xe s
theorem ib {M:Model}{A:Around}{E:Value→Shared→Prop}{s:Shared}{tg:Expr}{it:Addr}{u:Value}{o:Obj}{n:String}{vs:Array Value}{Q:Unit→Shared→Prop}(ho:s.heap.get? it=some o)(hc:o.cls=.type n)(hd:o.data=.fields vs)
  (hn:["enumerate","zip","dict_itemiterator","dict_reverseitemiterator","odict_iterator","itertools.zip_longest","itertools.pairwise"].contains n=false) (hQ:Q () s):wpAny M A (letOwnedTupleGo tg (.ref it) u) Q E s:=by
 unfold letOwnedTupleGo
 cases tg<;>first
  |exact dO hQ
  |(cases u<;>first
    |exact dO hQ
    |(refine dJ (wpAny_load ho ?_)
      rw[hc,hd]
      show wpAny M A (if (["enumerate","zip","dict_itemiterator","dict_reverseitemiterator","odict_iterator","itertools.zip_longest","itertools.pairwise"].contains n&&vs[0]? == some (rawInt _))=true then _ else _) Q E s
      rw[if_neg (by intro h;rw[hn,cU] at h;cases h)]
      exact dO hQ))
def Itl (K:PySem.W.Frag)(a:Addr):It:=
 ⟨fun i H=>∃xs x,SqL K H a xs∧xs[i]?=some x,fun i H x H'=>H'=H∧∀xs,SqL K H a xs→xs[i]?=some x,fun i H=>∃xs,SqL K H a xs∧xs.length≤i⟩
def Itr (lo:Int)(n:Nat):It:=⟨fun i _=>i<n,fun i H x H'=>H'=H∧x=.int (lo+i),fun i _=>n≤i⟩
theorem oW {P:Program}{w:World}{K:PySem.W.Frag}{tg:Expr}(a it:Addr):Turn P w K tg (Itl K a) [it] it (fun i h=>h.IsListIter it a i) where
 mem:=by simp
 obj:=fun i h st b hb=>by
  have e:b=it:=by simpa using hb
  subst e
  obtain⟨o,e,c,d⟩:=st
  exact⟨o,e,fun v z=>by rw[d] at z;cases z⟩
 keep:=fun i h h' st k=>st.at fun o e=>k it (by simp) o e
 item:=by
  intro X hP hw hK hc i pins s σ H E I hf st hg
  subst hP hw hK
  obtain⟨xs,x,hq,hx⟩:=hg
  obtain⟨its,rv,p,hz⟩:=I.list hq
  obtain⟨u,hu,ru⟩:=rv.get hx
  obtain⟨f0,f1,f2,f3,f4,f5⟩:=hf it (by simp)
  refine wpAny_pyNext_list_item st p.isList (x:=u) (by simpa using hu) fun h' st' sb=>?_
  have I1:Inv X pins σ H {s with heap:=h'}:=I.turned (t':=s.toks) (fun b o hb e=>(sb.2 b hb).trans e) f0 f1 f3 f4 f5
  obtain⟨o,e,c,d⟩:=id st'
  exact⟨u,rfl,ib (s:={s with heap:=h'}) e c d (by decide) ⟨x,H,I1,ru,⟨rfl,fun ys hy=>by rw[I.list_inj hy hq];exact hx⟩,st',fun b hb=>(hf b hb).1⟩⟩
 done:=by
  intro X hP hw hK hc i pins s σ H E I hf st hg
  subst hP hw hK
  obtain⟨xs,hq,hx⟩:=hg
  obtain⟨its,rv,p,hz⟩:=I.list hq
  obtain⟨f0,f1,f2,f3,f4,f5⟩:=hf it (by simp)
  have hl:=rv.length
  exact wpAny_pyNext_list_end (I.ok.hd hc) st p.isList (by simp;omega) fun h' eb=>⟨rfl,I.turned (t':=s.toks) (fun b o hb e=>eb b o hb e) f0 f1 f3 f4 f5⟩
 self:=fun _ _ _ _ _ st h=>wpAny_pyIter_listiter st h
theorem qO {P:Program}{w:World}{K:PySem.W.Frag}{tg:Expr}(it:Addr)(lo:Int)(n:Nat):Turn P w K tg (Itr lo n) [it] it (fun i h=>IsRangeIter h it (lo+(i:Nat)*1) ((n:Int)-(i:Nat)) 1) where
 mem:=by simp
 obj:=fun i h st b hb=>by
  have e:b=it:=by simpa using hb
  subst e
  exact⟨_,st,fun v z=>by
   have z':Data.fields _=Data.cell v:=z
   cases z'⟩
 keep:=fun i h h' st k=>k it (by simp) _ st
 item:=by
  intro X hP hw hK hc i pins s σ H E I hf st hg
  subst hP hw hK
  obtain⟨f0,f1,f2,f3,f4,f5⟩:=hf it (by simp)
  have W:=Walks.range (prog:=X.prog) (w:=X.w) (I.ok.hd hc) it lo 1 n
  refine W.item i s _ _ hg st fun v h' tk hv st' kk=>?_
  obtain⟨t,rfl⟩:=hv
  have I1:Inv X pins σ H {s with heap:=h',toks:=tk}:=I.turned (fun b o hb e=>kk b o (by simpa using hb) e) f0 f1 f3 f4 f5
  refine⟨_,rfl,ib (s:={s with heap:=h',toks:=tk}) (n:="range_iterator") st' rfl rfl (by decide) ⟨.int (lo+i),H,I1,⟨t,?_⟩,⟨rfl,rfl⟩,st',fun b hb=>(hf b hb).1⟩⟩
  rw[Int.mul_one]
 done:=by
  intro X hP hw hK hc i pins s σ H E I hf st hg
  subst hP hw hK
  obtain⟨f0,f1,f2,f3,f4,f5⟩:=hf it (by simp)
  exact wpAny_pyNext_range_end (I.ok.hd hc) st (by have:n≤i:=hg;omega) fun h' eb=>⟨rfl,I.turned (t':=s.toks) (fun b o hb e=>eb b o hb e) f0 f1 f3 f4 f5⟩
 self:=fun _ _ _ _ _ st h=>wpAny_pyIter_rangeiter st h
section
variable {X:Cx}{tg:Expr}
def eF (K:PySem.W.Frag)(tl:TE):TI:=fun σ H R=>tl σ H fun x H1=>∃a,x=.ref a∧(∃xs,SqL K H1 a xs)∧R (Itl K a) H1
theorem jr {l:Expr}{tl:TE}(hl:PE X l tl):PI X tg l (eF X.K tl):=by
 intro pins s σ H R I h
 refine thn (hl pins s σ H _ I h) fun v s1 ⟨x,H1,I1,r1,q1⟩=>?_
 obtain⟨a,e,⟨xs,hq⟩,q⟩:=q1
 subst e
 cases r1
 obtain⟨its,rv,p,hz⟩:=I1.list hq
 refine wpAny_pyIter_list p.isList ?_
 refine⟨s1.heap.objs.size,[s1.heap.objs.size],_,_,H1,rfl,I1.kept (t':=s1.toks) fun b o e=>dM _ e,oW a _,⟨_,cK _ rfl,rfl,rfl⟩,fun b hb=>?_,q⟩
 have e:b=s1.heap.objs.size:=by simpa using hb
 subst e
 exact I1.fpOk (dQ _) (I1.hok.fresh (dQ _))
theorem ki {pins:List (Addr×Obj)}{σ:St}{H:Hp}{s:Shared}{R:It→Hp→Prop}{E:Value→Shared→Prop}{lo hi:Int}{t u v:Tok}{tk:Nat}(I:Inv X pins σ H s)(h1:-(2 ^ 62)≤lo)(h2:lo<2 ^ 62)(h3:-(2 ^ 62)≤hi)(h4:hi<2 ^ 62)
  (q:R (Itr lo (hi-lo).toNat) H):wpAny (model X.prog X.w) X.A (pyIter (.ref s.heap.objs.size)) (PIE X pins σ tg R) E {s with heap:=s.heap.push {cls:=.type "range",data:=.fields #[.int lo t,.int hi u,.int 1 v]},toks:=tk}:=by
 refine wpAny_pyIter_range (IsRange.new ..) (small_one h1 h2 h3 h4) ?_
 have I1:Inv X pins σ H {s with heap:=s.heap.push {cls:=.type "range",data:=.fields #[.int lo t,.int hi u,.int 1 v]},toks:=tk}:=I.kept fun b o e=>dM _ e
 refine⟨(s.heap.push {cls:=.type "range",data:=.fields #[.int lo t,.int hi u,.int 1 v]}).objs.size,[(s.heap.push {cls:=.type "range",data:=.fields #[.int lo t,.int hi u,.int 1 v]}).objs.size],_,_,H,rfl,
  I1.kept (t':=tk) fun b o e=>dM _ e,qO _ lo (hi-lo).toNat,?_,fun b hb=>?_,q⟩
 ·have e1:lo+((0:Nat):Int)*1=lo:=by simp
  have e2:(((hi-lo).toNat:Nat):Int)-((0:Nat):Int)=Builtin.Range.rangeSize lo hi 1:=by rw[rangeSize_one];split<;>omega
  show IsRangeIter _ _ (lo+((0:Nat):Int)*1) ((((hi-lo).toNat:Nat):Int)-((0:Nat):Int)) 1
  rw[e1,e2]
  exact cK _ rfl
 ·have e:b=(s.heap.push {cls:=.type "range",data:=.fields #[.int lo t,.int hi u,.int 1 v]}).objs.size:=by simpa using hb
  subst e
  exact I1.fpOk (dQ _) (I1.hok.fresh (dQ _))
def gZ (ta:TA):TI:=fun σ H R=>ta σ H fun vs H1=>∃j:Int,vs=[.int j]∧-(2 ^ 62)≤j∧j<2 ^ 62∧R (Itr 0 j.toNat) H1
theorem nk {a:Expr}{ta:TA}{p pos:Pos}(hg:Gl X "range")(hm:X.mg "range"=none)(ha:PA X [a] ta)(hs:starEach [a] X.env=[(false,eval a X.env)]:=by rfl):PI X tg (.Call (.Name "range" p) [a] [] pos) (gZ ta):=by
 intro pins s σ H R I h
 refine Call_ (vP I hg hm boot_range (ah (thn (ha pos pins s σ H _ I h) fun us s1 ⟨vs,H1,I1,r1,q1⟩=>?_) hs rfl))
 obtain⟨j,e,q1,q2,q⟩:=q1
 subst e
 cases r1 with
 |cons r rr=>
  cases rr
  obtain⟨t,rfl⟩:=r
  exact call_range_1 (ki I1 (by omega) (by omega) q1 q2 (by simpa using q))
def dr (wi:TI)(g:TG)(tb:TS):TS:=fun D σ H=>wi σ H fun J H1=>∃W:Nat→Nat→St→Hp→Prop,(∃m,W 0 m σ H1)∧∀i m σ H,W i m σ H→
 (J.stop i H∧D.nx σ H)∨(J.go i H∧∃N:St→Hp→Prop,(∀σ' H',N σ' H'→∃m',m'<m∧W (i+1) m' σ' H')∧∀x H',J.yld i H x H'→g x σ H' fun σ2 H2=>tb {D with nx:=N,ct:=N,bk:=D.nx} σ2 H2)
def vB (fp:List Addr)(h:Heap):List (Addr×Obj):=fp.filterMap fun b=>(h.get? b).map fun o=>(b,o)
theorem xj {fp:List Addr}{h:Heap}{b:Addr}{o:Obj}(hb:b∈fp)(e:h.get? b=some o):(b,o)∈vB fp h:=List.mem_filterMap.mpr ⟨b,hb,by rw[e];rfl⟩
theorem nj {fp:List Addr}{h:Heap}{p:Addr×Obj}(hp:p∈vB fp h):p.1∈fp∧h.get? p.1=some p.2:=by
 obtain⟨b,hb,e⟩:=List.mem_filterMap.mp hp
 cases q:h.get? b with
 |none=>rw[q] at e;cases e
 |some o=>
  rw[q] at e
  have e':(b,o)=p:=cA e
  subst e'
  exact⟨hb,q⟩
theorem Inv.pinned {pins:List (Addr×Obj)}{σ:St}{H:Hp}{s:Shared}{fp:List Addr}(I:Inv X pins σ H s)(hf:∀b∈fp,wU X pins H b)(ho:∀b∈fp,∃o,s.heap.get? b=some o∧∀v,o.data≠.cell v):Inv X (pins++vB fp s.heap) σ H s:=
 I.pins_of fun p hp=>(ar.mp hp).elim (fun z=>I.pin p (cG _ z)) fun z=>by
  obtain⟨hb,e⟩:=nj z
  obtain⟨f0,f1,f2,_⟩:=hf p.1 hb
  obtain⟨o,e',d⟩:=ho p.1 hb
  rw[e] at e';cases e'
  exact⟨e,f0,f1,f2,d⟩
theorem Inv.unpinned {pins pl:List (Addr×Obj)}{σ:St}{H:Hp}{s:Shared}(I:Inv X (pins++pl) σ H s):Inv X pins σ H s:=I.pins_of fun p hp=>I.pin p (cG _ (aF _ hp))
theorem gH {iter:Expr}{body:List Stmt}{wi:TI}{g:TG}{tb:TS}{pos:Pos}(hp:PassesOwn (model X.prog X.w) X.A X.env X.xe)(hc:X.calm=true)(hi:PI X tg iter wi)(hg:PG X tg g)(hb:PSs X body tb)
  (hs:∀x,foldedSetIterable iter X.env x=pure x:=by intro _;rfl):PS X (.For tg iter body [] pos) (dr wi g tb):=by
 intro pins s σ H D I h
 refine wpAny_For (thn (hi pins s σ H _ I h) fun v s1 h1=>thn h1 fun itv s2 h2=>?_) hs
 obtain⟨it,fp,tn,J,H2,e,I2,T,st2,f2,W,⟨m0,w0⟩,turn⟩:=h2
 subst e
 -- what stays true of the iterator's objects through the loop
 have stat:∀{H':Hp},(∀b∈fp,H' b=none)→∀b∈fp,wU X pins H' b:=fun hn b hb=>⟨hn b hb,(f2 b hb).2⟩
 refine codeAny_forLoop_any (fun n s'=>∃i σ' H',Inv X pins σ' H' s'∧tn i s'.heap∧(∀b∈fp,H' b=none)∧W i n σ' H') ?_ m0 ⟨0,σ,H2,I2,st2,fun b hb=>(f2 b hb).1,w0⟩
 rintro n s3 ⟨i,σ3,H3,I3,st3,fr3,w3⟩
 rcases turn i n σ3 H3 w3 with ⟨stop,qn⟩|⟨go,N,hN,step⟩
 ·refine bA hp (thn (T.done X rfl rfl rfl hc i pins s3 σ3 H3 X.xe I3 (stat fr3) st3 stop) fun r s4 ⟨hr,I4⟩=>?_)
  subst hr
  exact au ⟨σ3,H3,I4,qn⟩
 ·refine bA hp (thn (T.item X rfl rfl rfl hc i pins s3 σ3 H3 X.xe I3 (stat fr3) st3 go) fun r s4 ⟨u,hr,h4⟩=>?_)
  subst hr
  refine bA hp (thn h4 fun _ s5 ⟨x,H5,I5,r5,y5,st5,fr5⟩=>?_)
  have I5':=I5.pinned (stat fr5) (T.obj _ _ st5)
  refine bA hp (thn (hg _ s5 σ3 H5 x u _ I5' r5 (step x H5 y5)) fun _ s6 ⟨σ6,H6,I6,q6⟩=>?_)
  refine bA hp (thn (hb _ s6 σ6 H6 _ I6 q6) fun f s7 q7=>?_)
  have again:∀{σ7:St} {H7:Hp},Inv X (pins++vB fp s5.heap) σ7 H7 s7→N σ7 H7→∃m,m<n∧∃i σ' H',Inv X pins σ' H' s7∧tn i s7.heap∧(∀b∈fp,H' b=none)∧W i m σ' H':=fun {σ7 H7} I7 n7=>by
   obtain⟨m',hm,w7⟩:=hN σ7 H7 n7
   refine⟨m',hm,i+1,σ7,H7,I7.unpinned,T.keep _ _ _ st5 fun b hb o e=>(I7.pin (b,o) (cG _ (cG _ (xj hb e)))).1,fun b hb=>?_,w7⟩
   obtain⟨o,e,d⟩:=T.obj _ _ st5 b hb
   exact (I7.pin (b,o) (cG _ (cG _ (xj hb e)))).2.1
  cases f with
  |next=>obtain⟨σ7,H7,I7,n7⟩:=q7;exact again I7 n7
  |cont=>obtain⟨σ7,H7,I7,n7⟩:=q7;exact again I7 n7
  |brk=>obtain⟨σ7,H7,I7,q7⟩:=q7;exact⟨σ7,H7,I7.unpinned,q7⟩
  |ret v=>obtain⟨x7,σ7,H7,I7,r7,q7⟩:=q7;exact⟨x7,σ7,H7,I7.unpinned,r7,q7⟩
end
abbrev R2 :=V→V→Hp→VK→Prop
def OpR (X:Cx)(f:Value→Value→Sem Value)(r:R2):Prop:=
 ∀(pins:List (Addr×Obj)) (s:Shared) (σ:St) (H:Hp) (x y:V) (v u:Value) (Q:VK),Inv X pins σ H s→RelV x v→RelV y u→r x y H Q→
  wpAny (model X.prog X.w) X.A (f v u) (EP X pins σ Q) X.xe s
def UnR (X:Cx)(f:Value→Sem Value)(r:V→Hp→VK→Prop):Prop:=
 ∀(pins:List (Addr×Obj)) (s:Shared) (σ:St) (H:Hp) (x:V) (v:Value) (Q:VK),Inv X pins σ H s→RelV x v→r x H Q→
  wpAny (model X.prog X.w) X.A (f v) (EP X pins σ Q) X.xe s
def xX (X:Cx)(f:Value)(r:List V→Hp→VK→Prop):Prop:=
 ∀(pins:List (Addr×Obj)) (s:Shared) (σ:St) (H:Hp) (xs:List V) (us:List Value) (Q:VK),Inv X pins σ H s→Vals xs us→r xs H Q→
  wpAny (model X.prog X.w) X.A (call f us) (EP X pins σ Q) X.xe s
def du (X:Cx)(r:V→Hp→(Bool→Hp→Prop)→Prop):Prop:=
 ∀(pins:List (Addr×Obj)) (s:Shared) (σ:St) (H:Hp) (x:V) (v:Value) (Q:Bool→Hp→Prop),Inv X pins σ H s→RelV x v→r x H Q→
  wpAny (model X.prog X.w) X.A (truthy v) (TP X pins σ Q) X.xe s
def tOp (r:R2)(ta tb:TE):TE:=fun σ H Q=>ta σ H fun x H1=>tb σ H1 fun y H2=>r x y H2 Q
def tUn (r:V→Hp→VK→Prop)(ta:TE):TE:=fun σ H Q=>ta σ H fun x H1=>r x H1 Q
def rI (C:Int→Int→Prop)(g:Int→Int→V):R2:=fun x y H Q=>∃i j,x=.int i∧y=.int j∧C i j∧Q (g i j) H
def rI0 (g:Int→Int→V):R2:=fun x y H Q=>∃i j,x=.int i∧y=.int j∧Q (g i j) H
def rU (g:Int→V):V→Hp→VK→Prop:=fun x H Q=>∃i,x=.int i∧Q (g i) H
section
variable {X:Cx}{a b c:Expr}{ta tb tc:TE}{pos:Pos}
theorem iC (ha:PE X a ta)(hb:PE X b tb){pins:List (Addr×Obj)}{s:Shared}{σ:St}{H:Hp}{R:V→V→Hp→Prop}(I:Inv X pins σ H s)
  (h:ta σ H fun x H1=>tb σ H1 fun y H2=>R x y H2) {Q:Value→Shared→Prop} {f:Value→Value→Sem Value}
  (hf:∀v u s2 x y H2,Inv X pins σ H2 s2→RelV x v→RelV y u→R x y H2→wpAny (model X.prog X.w) X.A (f v u) Q X.xe s2):
  wpAny (model X.prog X.w) X.A (eval a X.env) (fun v s₁=>wpAny (model X.prog X.w) X.A (eval b X.env) (fun u s₂=>wpAny (model X.prog X.w) X.A (f v u) Q X.xe s₂) X.xe s₁) X.xe s:=by
 refine thn (ha pins s σ H _ I h) fun v s1 ⟨x,H1,I1,r1,q1⟩=>?_
 refine thn (hb pins s1 σ H1 _ I1 q1) fun u s2 ⟨y,H2,I2,r2,q2⟩=>?_
 exact hf v u s2 x y H2 I2 r1 r2 q2
theorem zY {op:Operator}{r:R2}(ho:OpR X (binaryOp op) r)(ha:PE X a ta)(hb:PE X b tb):PE X (.BinOp a op b pos) (tOp r ta tb):=by
 intro pins s σ H Q I h
 exact wpAny_BinOp (iC ha hb I h fun v u s2 x y H2 I2 rx ry q=>ho pins s2 σ H2 x y v u Q I2 rx ry q)
theorem gS {op:UnaryOp}{r:V→Hp→VK→Prop}(ho:UnR X (unaryOp op) r)(ha:PE X a ta):PE X (.UnaryOp op a pos) (tUn r ta):=by
 intro pins s σ H Q I h
 exact UnaryOp_ (thn (ha pins s σ H _ I h) fun v s1 ⟨x,H1,I1,r1,q1⟩=>ho pins s1 σ H1 x v Q I1 r1 q1)
theorem opI {f:Value→Value→Sem Value}{C:Int→Int→Prop}{g:Int→Int→Int}
  (rule:∀(i j:Int) (t u:Tok) (s:Shared) (Q:Value→Shared→Prop) (E:Value→Shared→Prop),C i j→Q (.int (g i j) s.toks) {s with toks:=s.toks+1}→wpAny (model X.prog X.w) X.A (f (.int i t) (.int j u)) Q E s):
  OpR X f (rI C fun i j=>.int (g i j)):=by
 intro pins s σ H x y v u Q I rx ry h
 obtain⟨i,j,rfl,rfl,hc,q⟩:=h
 obtain⟨t,rfl⟩:=rx
 obtain⟨t',rfl⟩:=ry
 exact rule i j t t' s _ _ hc ⟨.int (g i j),H,I.tok _,⟨_,rfl⟩,q⟩
theorem eB {f:Value→Value→Sem Value}{g:Int→Int→Int}
  (rule:∀(i j:Int) (t u:Tok) (s:Shared) (Q:Value→Shared→Prop) (E:Value→Shared→Prop),Q (.int (g i j) s.toks) {s with toks:=s.toks+1}→wpAny (model X.prog X.w) X.A (f (.int i t) (.int j u)) Q E s):
  OpR X f (rI0 fun i j=>.int (g i j)):=by
 intro pins s σ H x y v u Q I rx ry h
 obtain⟨i,j,rfl,rfl,q⟩:=h
 obtain⟨t,rfl⟩:=rx
 obtain⟨t',rfl⟩:=ry
 exact rule i j t t' s _ _ ⟨.int (g i j),H,I.tok _,⟨_,rfl⟩,q⟩
theorem jb {f:Value→Value→Sem Value}{g:Int→Int→Bool}
  (rule:∀(i j:Int) (t u:Tok) (s:Shared) (Q:Value→Shared→Prop) (E:Value→Shared→Prop),Q (.bool (g i j)) s→wpAny (model X.prog X.w) X.A (f (.int i t) (.int j u)) Q E s):
  OpR X f (rI0 fun i j=>.bl (g i j)):=by
 intro pins s σ H x y v u Q I rx ry h
 obtain⟨i,j,rfl,rfl,q⟩:=h
 obtain⟨t,rfl⟩:=rx
 obtain⟨t',rfl⟩:=ry
 exact rule i j t t' s _ _ ⟨.bl (g i j),H,I,rfl,q⟩
def iW (i j:Int):Prop:=0≤j∧j≤1000000∧i.natAbs<2 ^ 64
def gK (i j:Int):Prop:=(-(2 ^ 64)<i∧i<2 ^ 64)∨(-(2 ^ 64)<j∧j<2 ^ 64)
theorem gK.ok {i j:Int}(h:gK i j):IntMulOk i j:=by
 rcases h with ⟨h1,h2⟩|⟨h1,h2⟩
 ·exact .of_left (intBits_le_64 h1 h2)
 ·exact .of_right (intBits_le_64 h1 h2)
theorem wY :OpR X (binaryOp .Add) (rI0 fun i j=>.int (i+j)):=eB fun _ _ _ _ _ _ _ q=>add_int q
theorem kj :OpR X (binaryOp .Sub) (rI0 fun i j=>.int (i-j)):=eB fun _ _ _ _ _ _ _ q=>sub_int q
theorem vN :OpR X (binaryOp .Mult) (rI gK fun i j=>.int (i*j)):=opI fun _ _ _ _ _ _ _ hc q=>mul_int q hc.ok
theorem wo :OpR X (binaryOp .Mod) (rI (fun _ j=>0<j) fun i j=>.int (i % j)):=opI fun i j _ _ _ _ _ hc q=>by
 have h1:(0:Int)<j:=hc
 exact mod_int' (by omega) (by rw[Int.fmod_eq_emod_of_nonneg i (by omega)];exact q)
theorem nY :OpR X (binaryOp .Pow) (rI iW fun i j=>.int (i ^ j.toNat)):=opI fun _ _ _ _ _ _ _ hc q=>pow_int_small hc.1 hc.2.1 hc.2.2 q
theorem unI {f:Value→Sem Value}{g:Int→Int}
  (rule:∀(i:Int) (t:Tok) (s:Shared) (Q:Value→Shared→Prop) (E:Value→Shared→Prop),Q (.int (g i) s.toks) {s with toks:=s.toks+1}→wpAny (model X.prog X.w) X.A (f (.int i t)) Q E s):
  UnR X f (rU fun i=>.int (g i)):=by
 intro pins s σ H x v Q I rx h
 obtain⟨i,rfl,q⟩:=h
 obtain⟨t,rfl⟩:=rx
 exact rule i t s _ _ ⟨.int (g i),H,I.tok _,⟨_,rfl⟩,q⟩
theorem gj :UnR X (unaryOp .USub) (rU fun i=>.int (-i)):=unI fun _ _ _ _ _ q=>neg_int q
end
def fh :V→V→Bool
 |.non,.non=>true|.non,.int _=>true|.int _,.non=>true|.non,.bl _=>true|.bl _,.non=>true|.non,.str _=>true|.str _,.non=>true
 |.int _,.int _=>true|.bl _,.bl _=>true|.str _,.str _=>true|.byt _,.byt _=>true
 |.int _,.str _=>true|.str _,.int _=>true|.bl _,.str _=>true|.str _,.bl _=>true
 |_,_=>false
def rEq :R2:=fun x y H Q=>fh x y=true∧Q (.bl (decide (x=y))) H
def rNe :R2:=fun x y H Q=>fh x y=true∧Q (.bl (!decide (x=y))) H
theorem pV {i j:Int}:decide (V.int i=V.int j)=(i == j):=by
 rw[aG]
 simp
theorem nU {i j:Bool}:decide (V.bl i=V.bl j)=(i == j):=by
 rw[aG]
 simp
theorem qT {i j:Str}:decide (V.str i=V.str j)=(i == j):=by
 rw[aG]
 simp
theorem pW {i j:Array UInt8}:decide (V.byt i=V.byt j)=(i.toList == j.toList):=by
 rw[aG]
 cases i
 cases j
 simp
section
variable {X:Cx}{a b c:Expr}{ta tb tc:TE}{pos:Pos}
theorem zv {pins:List (Addr×Obj)}{σ:St}{H:Hp}{s:Shared}{Q:VK}{k k':Bool}(I:Inv X pins σ H s)(q:Q (.bl k) H)(e:k=k'):EP X pins σ Q (.bool k') s:=by
 subst e
 exact⟨.bl k,H,I,rfl,q⟩
theorem wk :OpR X (compareOp .Eq) rEq:=by
 intro pins s σ H x y v u Q I rx ry h
 obtain⟨hs,q⟩:=h
 cases x with
 |non=>
  cases rx
  cases y with
  |non=>cases ry;exact PySem.EqNone.eq_none_none (zv I q (by simp))
  |bl j=>cases ry;exact PySem.EqNone.eq_none_bool (zv I q (by simp))
  |int j=>obtain⟨t',rfl⟩:=ry;exact PySem.EqNone.eq_none_int (zv I q (by simp))
  |str j=>obtain⟨t',rfl⟩:=ry;exact PySem.EqNone.eq_none_str (zv I q (by simp))
  |_=>exact absurd (show false=true from hs) dY
 |bl i=>
  cases rx
  cases y with
  |non=>cases ry;exact PySem.EqNone.eq_bool_none (zv I q (by simp))
  |bl j=>cases ry;exact eq_bool (zv I q nU)
  |str j=>obtain⟨t',rfl⟩:=ry;exact PySem.EqMixed.eq_bool_str (zv I q (by simp))
  |_=>exact absurd (show false=true from hs) dY
 |int i=>
  obtain⟨t,rfl⟩:=rx
  cases y with
  |non=>cases ry;exact PySem.EqNone.eq_int_none (zv I q (by simp))
  |int j=>obtain⟨t',rfl⟩:=ry;exact eq_int (zv I q pV)
  |str j=>obtain⟨t',rfl⟩:=ry;exact PySem.EqMixed.eq_int_str (zv I q (by simp))
  |_=>exact absurd (show false=true from hs) dY
 |str i=>
  obtain⟨t,rfl⟩:=rx
  cases y with
  |non=>cases ry;exact PySem.EqNone.eq_str_none (zv I q (by simp))
  |bl j=>cases ry;exact PySem.EqMixed.eq_str_bool (zv I q (by simp))
  |int j=>obtain⟨t',rfl⟩:=ry;exact PySem.EqMixed.eq_str_int (zv I q (by simp))
  |str j=>obtain⟨t',rfl⟩:=ry;exact eq_str (zv I q qT)
  |_=>exact absurd (show false=true from hs) dY
 |byt i=>
  obtain⟨t,rfl⟩:=rx
  cases y with
  |byt j=>obtain⟨t',rfl⟩:=ry;exact PySem.W.eq_bytes (zv I q pW)
  |_=>exact absurd (show false=true from hs) dY
 |_=>cases y<;>exact absurd (show false=true from hs) dY
theorem eP :OpR X (compareOp .NotEq) rNe:=by
 intro pins s σ H x y v u Q I rx ry h
 obtain⟨hs,q⟩:=h
 cases x with
 |non=>
  cases rx
  cases y with
  |non=>cases ry;exact PySem.EqNone.ne_none_none (zv I q (by simp))
  |bl j=>cases ry;exact PySem.EqNone.ne_none_bool (zv I q (by simp))
  |int j=>obtain⟨t',rfl⟩:=ry;exact PySem.EqNone.ne_none_int (zv I q (by simp))
  |str j=>obtain⟨t',rfl⟩:=ry;exact PySem.EqNone.ne_none_str (zv I q (by simp))
  |_=>exact absurd (show false=true from hs) dY
 |bl i=>
  cases rx
  cases y with
  |non=>cases ry;exact PySem.EqNone.ne_bool_none (zv I q (by simp))
  |bl j=>cases ry;exact ne_bool (zv I q (congrArg not nU))
  |str j=>obtain⟨t',rfl⟩:=ry;exact PySem.EqMixed.ne_bool_str (zv I q (by simp))
  |_=>exact absurd (show false=true from hs) dY
 |int i=>
  obtain⟨t,rfl⟩:=rx
  cases y with
  |non=>cases ry;exact PySem.EqNone.ne_int_none (zv I q (by simp))
  |int j=>obtain⟨t',rfl⟩:=ry;exact ne_int (zv I q (congrArg not pV))
  |str j=>obtain⟨t',rfl⟩:=ry;exact PySem.EqMixed.ne_int_str (zv I q (by simp))
  |_=>exact absurd (show false=true from hs) dY
 |str i=>
  obtain⟨t,rfl⟩:=rx
  cases y with
  |non=>cases ry;exact PySem.EqNone.ne_str_none (zv I q (by simp))
  |bl j=>cases ry;exact PySem.EqMixed.ne_str_bool (zv I q (by simp))
  |int j=>obtain⟨t',rfl⟩:=ry;exact PySem.EqMixed.ne_str_int (zv I q (by simp))
  |str j=>obtain⟨t',rfl⟩:=ry;exact ne_str (zv I q (congrArg not qT))
  |_=>exact absurd (show false=true from hs) dY
 |byt i=>
  obtain⟨t,rfl⟩:=rx
  cases y with
  |byt j=>obtain⟨t',rfl⟩:=ry;exact PySem.W.ne_bytes (zv I q (congrArg not pW))
  |_=>exact absurd (show false=true from hs) dY
 |_=>cases y<;>exact absurd (show false=true from hs) dY
theorem fB :OpR X (compareOp .Lt) (rI0 fun i j=>.bl (decide (i<j))):=jb fun _ _ _ _ _ _ _ q=>lt_int q
theorem mC :OpR X (compareOp .LtE) (rI0 fun i j=>.bl (decide (i≤j))):=jb fun _ _ _ _ _ _ _ q=>le_int q
theorem pB :OpR X (compareOp .Gt) (rI0 fun i j=>.bl (decide (j<i))):=jb fun _ _ _ _ _ _ _ q=>gt_int q
theorem eG :OpR X (compareOp .GtE) (rI0 fun i j=>.bl (decide (j≤i))):=jb fun _ _ _ _ _ _ _ q=>ge_int q
theorem rX :OpR X (compareOp .Is) (fun x y H Q=>y=.non∧Q (.bl (decide (x=.non))) H):=by
 intro pins s σ H x y v u Q I rx ry h
 obtain⟨rfl,q⟩:=h
 cases ry
 refine is_none_gen (zv I q ?_)
 cases x<;>first
  |(cases rx;rfl)
  |(obtain⟨t,rfl⟩:=rx;rfl)
theorem zw (b:Expr){op:CmpOp}(h:op≠.In:=by decide)(h2:op≠.NotIn:=by decide):behindInMarks op b=false:=by
 have e1:(op == CmpOp.In)=false:=by cases op<;>first|rfl|exact absurd rfl h
 have e2:(op == CmpOp.NotIn)=false:=by cases op<;>first|rfl|exact absurd rfl h2
 cases b<;>simp[behindInMarks,e1,e2]
theorem xF {op:CmpOp}{r:R2}(ho:OpR X (compareOp op) r)(ha:PE X a ta)(hb:PE X b tb)(hm:behindInMarks op b=false):PE X (.Compare a [op] [b] pos) (tOp r ta tb):=by
 intro pins s σ H Q I h
 exact wpAny_Compare1 (iC ha hb I h fun v u s2 x y H2 I2 rx ry q=>ho pins s2 σ H2 x y v u Q I2 rx ry q) hm
def ec (t:TE):TT:=fun σ H Q=>t σ H fun x H'=>∃k,x=.bl k∧Q k H'
theorem zN {op:CmpOp}{r:R2}(ho:OpR X (compareOp op) r)(ha:PE X a ta)(hb:PE X b tb)(hm:behindInMarks op b=false):PT X (.Compare a [op] [b] pos) (ec (tOp r ta tb)):=by
 intro pins s σ H Q I h
 refine wpAny_isTrue_Compare1 (thn (ha pins s σ H _ I h) fun v s1 ⟨x,H1,I1,r1,q1⟩=>thn (hb pins s1 σ H1 _ I1 q1) fun u s2 ⟨y,H2,I2,r2,q2⟩=>
  thn (ho pins s2 σ H2 x y v u _ I2 r1 r2 q2) fun c s3 ⟨z,H3,I3,r3,k,e,q3⟩=>?_) hm
 subst e
 cases r3
 exact bb ⟨H3,I3,q3⟩
def hG (r r':R2)(ta tb tc:TE):TE:=fun σ H Q=>ta σ H fun x H1=>tb σ H1 fun y H2=>r x y H2 fun z H3=>∃k,z=.bl k∧
 (if k=true then tc σ H3 fun w' H4=>r' y w' H4 Q else Q (.bl false) H3)
theorem mZ {op op':CmpOp}{r r':R2}(ho:OpR X (compareOp op) r)(ho':OpR X (compareOp op') r')(ha:PE X a ta)(hb:PE X b tb)(hc:PE X c tc)
  (hm:lastMarks [op,op'] [b,c]=false:=by with_unfolding_all rfl):PE X (.Compare a [op,op'] [b,c] pos) (hG r r' ta tb tc):=by
 intro pins s σ H Q I h
 refine Compare_chain (thn (ha pins s σ H _ I h) fun v s1 ⟨x,H1,I1,r1,q1⟩=>chain_link (thn (hb pins s1 σ H1 _ I1 q1) fun u s2 ⟨y,H2,I2,r2,q2⟩=>
  thn (ho pins s2 σ H2 x y v u _ I2 r1 r2 q2) fun d s3 ⟨z,H3,I3,r3,k,e,q3⟩=>?_)) hm
 subst e
 cases r3
 refine bb ?_
 cases k with
 |false=>exact ite_ff ⟨.bl false,H3,I3,rfl,q3⟩
 |true=>exact ite_tt (chain_last (thn (hc pins s3 σ H3 _ I3 q3) fun w' s4 ⟨z',H4,I4,r4,q4⟩=>ho' pins s4 σ H4 y z' u w' Q I4 r2 r4 q4))
def eh (K:PySem.W.Frag)(x:V)(H:Hp)(k:Bool):Prop:=
 match x with
 |.non=>k=false
 |.bl b=>k=b
 |.int i=>k=(i != 0)
 |.str y=>y.length≤sizeLine∧k=((y.length:Int) != 0)
 |.byt y=>y.size≤sizeLine∧k=((y.size:Int) != 0)
 |.ref p=>(∃xs,SqL K H p xs∧k=!xs.isEmpty)∨(∃xs,SqT K H p xs∧k=!xs.isEmpty)∨∃kvs,H p=some (.dK kvs)∧k=!kvs.isEmpty
 |_=>False
theorem qm {κ:Type}{kvs:List (κ×V)}{vs:List (κ×Value)}(r:KV kvs vs):(!vs.isEmpty)=!kvs.isEmpty:=by
 cases r<;>rfl
theorem vE {xs:List V}{its:List Value}(r:Vals xs its):(!its.toArray.isEmpty)=!xs.isEmpty:=by
 cases r<;>simp
theorem wL :(sizeLine:Nat)<2 ^ 63:=by rw[bq];decide
theorem iK :du X (fun x H Q=>∃k,eh X.K x H k∧Q k H):=by
 intro pins s σ H x v Q I rx h
 obtain⟨k,e,q⟩:=h
 have hl:=wL
 have hs:sizeLine=16777216:=bq
 cases x with
 |non=>
  cases rx
  have e':k=false:=e
  subst e'
  exact truthy_none ⟨H,I,q⟩
 |bl b=>
  cases rx
  have e':k=b:=e
  subst e'
  exact bb ⟨H,I,q⟩
 |int i=>
  obtain⟨t,rfl⟩:=rx
  have e':k=(i != 0):=e
  subst e'
  exact PySem.P.truthy_int ⟨H,I,q⟩
 |str y=>
  obtain⟨t,rfl⟩:=rx
  obtain⟨hy,e'⟩:y.length≤sizeLine∧k=((y.length:Int) != 0):=e
  subst e'
  exact PySem.P.truthy_str (by omega) ⟨H,I.tok _,q⟩
 |byt y=>
  obtain⟨t,rfl⟩:=rx
  obtain⟨hy,e'⟩:y.size≤sizeLine∧k=((y.size:Int) != 0):=e
  subst e'
  exact PySem.W.truthy_bytes (by omega) ⟨H,I.tok _,q⟩
 |ref p=>
  cases rx
  have e':(∃xs,SqL X.K H p xs∧k=!xs.isEmpty)∨(∃xs,SqT X.K H p xs∧k=!xs.isEmpty)∨∃kvs,H p=some (.dK kvs)∧k=!kvs.isEmpty:=e
  rcases e' with ⟨xs,hx,e'⟩|⟨xs,hx,e'⟩|⟨kvs,hx,e'⟩
  ·subst e'
   obtain⟨its,r,pl,hz⟩:=I.list hx
   have hlen:=r.length
   exact wpAny_truthy_list pl.isList (by simp only[dW];omega) ⟨H,I.tok _,by rw[vE r];exact q⟩
  ·subst e'
   obtain⟨its,r,pl,hz⟩:=I.tuple hx
   have hlen:=r.length
   exact truthy_tuple pl (by simp only[dW];omega) ⟨H,I.tok _,by rw[vE r];exact q⟩
  ·subst e'
   obtain⟨hz,hS,vs,r,m⟩:kvs.length≤sizeLine∧(p == sysModules)=false∧∃vs,KV kvs vs∧s.heap.DictOf (yp X.prog X.w) p vs:=I.hok p _ hx
   have hlen:kvs.length=vs.length:=Paired.length r
   exact wpAny_truthy_dict hS m (by omega) ⟨H,I.tok _,by rw[qm r];exact q⟩
 |_=>exact (show False from e).elim
theorem kq (ha:PE X a ta)(he:∀whole,isTrue a X.env whole=(do let v ←whole;standAt a.pos;holding [v] (truthy v))):
  PT X a (fun σ H Q=>ta σ H fun x H'=>∃k,eh X.K x H' k∧Q k H'):=by
 intro pins s σ H Q I h
 exact isTrue_plain (thn (ha pins s σ H _ I h) fun v s1 ⟨x,H1,I1,r1,q1⟩=>iK pins s1 σ H1 x v Q I1 r1 q1) (he _)
theorem vals1 {x:V}{us:List Value}(r:Vals [x] us):∃u,us=[u]∧RelV x u:=by
 cases r with
 |cons r1 r2=>cases r2;exact⟨_,rfl,r1⟩
theorem rH :xX X (.builtin "abs") (fun xs H Q=>∃i,xs=[.int i]∧Q (.int (if i<0 then -i else i)) H):=by
 intro pins s σ H xs us Q I r h
 obtain⟨i,rfl,q⟩:=h
 obtain⟨u,rfl,t,rfl⟩:=vals1 r
 exact call_abs_int fun u tk=>⟨.int (if i<0 then -i else i),H,I.tok _,⟨_,rfl⟩,q⟩
end
structure mi (h:Heap)(x dx C:Addr)(mA:Str→Option Value):Prop where
 obj:h.get? x=some (PySem.W.instObj C dx)
 ns:h.Ns1 dx mA
 ne:dx≠x
theorem uO {h:Heap}{dx:Addr}{mA:Str→Option Value}(n:h.Ns1 dx mA):∃od,h.get? dx=some od∧∀name,PySem.W.lookIn name od=some (mA name):=by
 obtain⟨o,es,ep,ho,hd,hk,_,hm⟩:=n
 refine⟨o,ho,fun name=>?_⟩
 have e:=hm name
 unfold nsFind findBy at e
 rw[←Array.find?_toList] at e
 unfold PySem.W.lookIn
 rw[hd]
 dsimp only
 split
 ·rename_i y q
  rw[q] at e
  exact congrArg some e
 ·rename_i q
  rw[q] at e
  have a:es.toList.any (·.refKey)=false:=by
   rw[List.any_eq_false]
   intro y hy
   obtain⟨z,t,hkey⟩:=hk y (Array.mem_toList_iff.mp hy)
   simp[DictEntry.refKey,hkey]
  have a':¬es.toList.any (·.refKey)=true:=by rw[a];exact dY
  rw[if_neg a']
  exact congrArg some e
theorem mi.look {h:Heap}{x dx C:Addr}{mA:Str→Option Value}(I:mi h x dx C mA):∃od,PySem.W.InstAt h x (PySem.W.instObj C dx) C (some od)∧∀name,PySem.W.lookIn name od=some (mA name):=
 let ⟨od,ho,hl⟩:=uO I.ns
 ⟨od,⟨I.obj,rfl,rfl,ho⟩,hl⟩
section
variable {prog:Program}{w:World}{A:Around}{E:Value→Shared→Prop}{s:Shared}{K:PySem.W.Frag}{x dx C f:Addr}{mA:Str→Option Value}{name:Str}{v:Value}
theorem jt {ns:List Str}{Q:Unit→Shared→Prop}(X:K.In s.heap)(I:mi s.heap x dx C mA)
  (hs:PySem.W.findIn K (.ref C) "__setattr__"=some (some (.builtin "object.__setattr__"))) (hp:PySem.W.plainOver K C=true) (ht:PySem.W.takerIn K C name=some none) (hh:PySem.W.hasDictIn K C=true)
  (hw:PySem.Within mA ns) (hsz:ns.length≤sizeLine)
  (h:∀h',mi h' x dx C (fun y=>if y=name then some v else mA y)→Heap.SameBut dx s.heap h'→Q () {s with heap:=h',toks:=s.toks+2}):
  wpAny (model prog w) A (setAttr (.ref x) name v) Q E s:=by
 obtain⟨od,J,hl⟩:=I.look
 refine PySem.W.set_plain X J hs (PySem.W.osa_open (s:={s with toks:=s.toks+1}) (r:=none) X J hp ht fun b=>?_)
 obtain⟨cd,hc,hd'⟩:=PySem.W.any_some hh
 have hx:s.heap.get? x=some ⟨.ref C,some dx,.plain,#[]⟩:=I.obj
 refine dJ (dO (dJ (dJ (wpAny_loadPart hx (dJ (PySem.W.Looks.here (s:={s with toks:=s.toks+1}) (PySem.W.looks_clsIn X hc) ?_))))))
 rw[hd']
 refine dO (a:=some dx) (dJ (dO (dJ ?_)))
 refine wpAny_nsSet1 (s:={s with toks:=s.toks+1}) I.ns fun h' hn2 hs2=>?_
 obtain⟨oD,esD,epD,hoD,hdD,hcD⟩:=hn2.count (PySem.Within.cons name v hw)
 refine dJ (wpAny_lookBehind hoD (by rw[hdD];exact pastItsLine_dict (cM hcD (by rw[cf];omega))) ?_)
 exact dO (h _ ⟨(hs2.2 _ (aa I.ne)).trans I.obj,hn2,I.ne⟩ hs2)
theorem rE {R:Result→Shared→Prop}{vs:List Value}{kw:List (Str×Value)}(X:K.In s.heap)(hm:PySem.W.makesIn K C=true)
  (hi:PySem.W.findIn K (.ref C) "__init__"=some (some (.ref f))) (hf:PySem.W.typeIn K (.ref f)=some (.type "function"))
  (h:codeAny (model prog w) (A.under (.builtin "type.__call__" ⟨.ref C::vs,kw⟩)) (.call (.ref f) ⟨.ref (s.heap.objs.size+1)::vs,kw⟩) (PySem.W.InitBack (s.heap.objs.size+1) R)
   {s with heap:=(s.heap.push PySem.W.emptyDict).push (PySem.W.instObj C s.heap.objs.size)}):
  codeAny (model prog w) A (.call (.ref C) ⟨vs,kw⟩) R s:=by
 obtain⟨hh,g,d,t,os⟩:=s
 exact PySem.W.make_core (PySem.W.makes_of X hm) (PySem.W.looks_findIn X hi) (fun self=>PySem.W.bind_fn X self hf) (.inl rfl) h
end
def yN (f:Str)(v:V):List (Str×V)→List (Str×V)
 |[]=>[(f,v)]
 |(g,x)::r=>if g=f then (g,v)::r else (g,x)::yN f v r
theorem vf (f g:Str)(v:V):∀fs:List (Str×V),(yN f v fs).lookup g=if g=f then some v else fs.lookup g
 |[]=>by
  show List.lookup g [(f,v)]=_
  by_cases h:g=f
  ·have hb:(g == f)=true:=br.mpr h
   simp only[List.lookup,hb,if_pos h]
  ·have hb:(g == f)=false:=aq.mpr h
   simp only[List.lookup,hb,if_neg h]
 |(k,x)::r=>by
  have ih:=vf f g v r
  rw[show yN f v ((k,x)::r)=(if k=f then (k,v)::r else (k,x)::yN f v r) from rfl]
  by_cases hk:k=f
  ·rw[if_pos hk]
   by_cases h:g=k
   ·have hb:(g == k)=true:=br.mpr h
    simp only[List.lookup,hb,if_pos (h.trans hk)]
   ·have hb:(g == k)=false:=aq.mpr h
    simp only[List.lookup,hb,if_neg (fun e:g=f=>h (e.trans hk.symm))]
  ·rw[if_neg hk]
   by_cases h:g=k
   ·have hb:(g == k)=true:=br.mpr h
    simp only[List.lookup,hb,if_neg (fun e:g=f=>hk (h.symm.trans e))]
   ·have hb:(g == k)=false:=aq.mpr h
    simp only[List.lookup,hb]
    exact ih
theorem wR (f:Str)(v:V):∀fs:List (Str×V),f∈(yN f v fs).map (·.1)∧∀g,g∈fs.map (·.1)→g∈(yN f v fs).map (·.1)
 |[]=>⟨by simp[yN],fun g h=>by simp at h⟩
 |(k,x)::r=>by
  obtain⟨i1,i2⟩:=wR f v r
  rw[show yN f v ((k,x)::r)=(if k=f then (k,v)::r else (k,x)::yN f v r) from rfl]
  by_cases hk:k=f
  ·rw[if_pos hk]
   subst hk
   exact⟨by simp,fun g h=>by simpa using h⟩
  ·rw[if_neg hk]
   refine⟨?_,fun g h=>?_⟩
   ·rw[bV]
    exact dX _ i1
   ·rw[bV] at h ⊢
    rcases cm.mp h with e|e
    ·exact cm.mpr (.inl e)
    ·exact dX _ (i2 g e)
theorem vj (f:Str)(v:V):∀fs:List (Str×V),(yN f v fs).length≤fs.length+1
 |[]=>by simp[yN]
 |(k,x)::r=>by
  have ih:=vj f v r
  rw[show yN f v ((k,x)::r)=(if k=f then (k,v)::r else (k,x)::yN f v r) from rfl]
  by_cases hk:k=f
  ·rw[if_pos hk,cf,cf];omega
  ·rw[if_neg hk,cf,cf];omega
theorem vn.some_of {v:V}{o:Option Value}(r:vn (some v) o):∃u,o=some u∧RelV v u:=by
 cases o with
 |none=>exact (show False from r).elim
 |some u=>exact⟨u,rfl,r⟩
theorem oQ {v:V}{u:Value}(r:RelV v u):PySem.W.handedIn u=true:=by
 cases v with
 |non=>cases (show u=Value.none from r);rfl
 |bl b=>cases (show u=Value.bool b from r);rfl
 |int i=>obtain⟨t,e⟩:=(show ∃t,u=Value.int i t from r);cases e;rfl
 |str x=>obtain⟨t,e⟩:=(show ∃t,u=Value.str x t from r);cases e;rfl
 |byt b=>obtain⟨t,e⟩:=(show ∃t,u=Value.bytes b t from r);cases e;rfl
 |flt b=>obtain⟨t,e⟩:=(show ∃t,u=Value.float b t from r);cases e;rfl
 |ref a=>cases (show u=Value.ref a from r);rfl
 |ty n=>cases (show u=Value.type n from r);rfl
section
variable {P:Program}{w:World}{H H':Hp}{h h':Heap}{a C dx:Addr}{fs fs':List (Str×V)}
theorem qS (hok:HOk P w H h)(e:H a=some (.ins C dx fs)):∃mA,mi h a dx C mA∧(∀f,vn (fs.lookup f) (mA f))∧PySem.Within mA (fs.map (·.1))∧fs.length≤1000∧H dx=some (.own a):=by
 obtain⟨d,z,ne,ob,mA,n,r,q⟩:=(show zZ P w H h a (.ins C dx fs) from hok a _ e)
 exact⟨mA,⟨ob,n,ne⟩,r,q,z,d⟩
end
structure Cls (K:PySem.W.Frag)(C:Addr):Prop where
 pg:PySem.W.plainGet K C Str.empty=true
 hd:PySem.W.hasDictIn K C=true
 po:PySem.W.plainOver K C=true
 sa:PySem.W.findIn K (.ref C) "__setattr__"=some (some (.builtin "object.__setattr__"))
theorem Cls.get {K:PySem.W.Frag}{C:Addr}(c:Cls K C)(f:Str):PySem.W.plainGet K C f=true:=c.pg
def xC (K:PySem.W.Frag)(C:Addr)(f:Str):Prop:=PySem.W.findIn K (.ref C) f=some none
theorem xC.taker {K:PySem.W.Frag}{C:Addr}{f:Str}(n:xC K C f):PySem.W.takerIn K C f=some none:=by
 unfold PySem.W.takerIn
 rw[show PySem.W.findIn K (.ref C) f=some none from n]
 rfl
structure Meth (K:PySem.W.Frag)(C:Addr)(m:Str)(f:Addr):Prop where
 at_:PySem.W.findIn K (.ref C) m=some (some (.ref f))
 fn:PySem.W.isFn K (.ref f)=true
 kp:PySem.W.keepIn K (.ref f)=true
section
variable {X:Cx}{pins:List (Addr×Obj)}{σ:St}{H:Hp}{s:Shared}{a C dx:Addr}{fs:List (Str×V)}{f:Str}{v:V}{A:Around}{E:Value→Shared→Prop}
theorem rP {y:V}{u:Value}{Q:Unit→Shared→Prop}(I:Inv X pins σ H s)(e:H a=some (.ins C dx fs))(c:Cls X.K C)(n:xC X.K C f)(hl:fs.length<1000)(ry:RelV y u)
  (h:∀s',Inv X pins σ (upd H a (.ins C dx (yN f y fs))) s'→Q () s'):wpAny (model X.prog X.w) A (setAttr (.ref a) f u) Q E s:=by
 obtain⟨mA,O,r,wi,_,ho⟩:=qS I.hok e
 have hz:(fs.map (·.1)).length≤sizeLine:=by rw[dU,bq];omega
 refine jt I.kIn O c.sa c.po n.taker c.hd wi hz fun h' O' sb=>h _ ?_
 have hd:∃o,h'.get? dx=some o:=let ⟨o,_,_,e',_⟩:=O'.ns;⟨o,e'⟩
 refine I.write (x:=a) (e:=dx) (by rw[e];exact True.intro) (.inr ho) (fun b q hb z=>(sb.2 b hb).trans z) hd ?_
 refine⟨by rw[zc O.ne];exact ho,?_,O.ne,O'.obj,_,O'.ns,fun g=>?_,fun g hg=>?_⟩
 ·have:=vj f y fs;omega
 ·show vn ((yN f y fs).lookup g) (if g=f then some u else mA g)
  rw[vf]
  by_cases q:g=f
  ·rw[if_pos q,if_pos q];exact ry
  ·rw[if_neg q,if_neg q];exact r g
 ·by_cases q:g=f
  ·rw[q];exact (wR f y fs).1
  ·refine (wR f y fs).2 g (wi g fun z=>hg ?_)
   show (if g=f then some u else mA g)=none
   rw[if_neg q];exact z
theorem Inv.made (I:Inv X pins σ H s):Inv X pins σ (upd (upd H s.heap.objs.size (.own (s.heap.objs.size+1))) (s.heap.objs.size+1) (.ins C s.heap.objs.size []))
  {s with heap:=(s.heap.push PySem.W.emptyDict).push (PySem.W.instObj C s.heap.objs.size)}:=by
 have e1:(s.heap.push PySem.W.emptyDict).get? s.heap.objs.size=some PySem.W.emptyDict:=cK s.heap rfl
 have e2:((s.heap.push PySem.W.emptyDict).push (PySem.W.instObj C s.heap.objs.size)).get? (s.heap.objs.size+1)=some (PySem.W.instObj C s.heap.objs.size):=by
  have:=cK (s.heap.push PySem.W.emptyDict) (o:=PySem.W.instObj C s.heap.objs.size) rfl
  rwa [Heap.size_push] at this
 have e3:(s.heap.push PySem.W.emptyDict).Ns s.heap.objs.size (fun _=>none):=⟨PySem.W.emptyDict,#[],_,e1,rfl,(fun e he=>absurd he (by simp)),fun _=>rfl⟩
 have I1:=I.laid (a:=s.heap.objs.size) (o:=.own (s.heap.objs.size+1)) (h':=s.heap.push PySem.W.emptyDict) (t':=s.toks) (fun b u q=>dM _ q) (dQ _) ⟨_,e1⟩
 refine I1.laid (a:=s.heap.objs.size+1) (o:=.ins C s.heap.objs.size []) (t':=s.toks) (fun b u q=>dM _ q) (Nat.le_of_eq (Heap.size_push _ _)) ?_
 have ne:s.heap.objs.size≠s.heap.objs.size+1:=cz (ai _)
 refine⟨by rw[zc ne,zd],dZ _,ne,e2,fun _=>none,(Heap.Ns1.of_empty e3).at fun o q=>dM _ q,fun _=>True.intro,fun y hy=>absurd rfl hy⟩
theorem jz {prog:Program}{w:World}{env:Env}{e:Expr}{f:Str}{pos:Pos}{s:Shared}{Q:Value→Shared→Prop}(hb:attributeBase e f env (eval e env)=eval e env)
  (h:wpAny (model prog w) A (eval e env) (fun o s₁=>wpAny (model prog w) A (getAttr o f true) Q E s₁) E s):wpAny (model prog w) A (eval (.Attribute e f pos) env) Q E s:=
 Attribute_any_ h (by rw[arm_eval_Attribute,hb])
end
def dH (K:PySem.W.Frag)(ta tv:TE)(f:Str):TS:=fun D σ H=>tv σ H fun y H1=>ta σ H1 fun x H2=>∃a C dx fs,x=.ref a∧H2 a=some (.ins C dx fs)∧Cls K C∧xC K C f∧fs.length<1000∧
 D.nx σ (upd H2 a (.ins C dx (yN f y fs)))
section
variable {X:Cx}{o e value:Expr}{f:Str}{pos pos' tpos:Pos}{ta tv:TE}
theorem uq (ha:PE X o ta)(hv:PE X value tv)(hs:swapsWith value (some (.Attribute o f pos')) pos.line X.env=pure false):PS X (.Assign [.Attribute o f pos'] value pos) (dH X.K ta tv f):=by
 intro pins s σ H D I h
 refine plainObj_wpAny_Assign_Attribute (thn (hv pins s σ H _ I h) fun u s1 ⟨y,H1,I1,ry,q⟩=>thn (ha pins s1 σ H1 _ I1 q) fun ov s2 ⟨x,H2,I2,rx,a,C,dx,fs,ex,ea,c,n,l,q2⟩=>?_) hs
 subst ex
 obtain rfl:ov=Value.ref a:=rx
 exact rP I2 ea c n l ry fun s3 I3=>⟨σ,_,I3,q2⟩
end
section
variable {X:Cx}{pins:List (Addr×Obj)}{σ:St}{H:Hp}{s:Shared}{A:Around}{E:Value→Shared→Prop}{Q:Value→Shared→Prop}{c:Value}{b:Bool}
inductive wz (K:PySem.W.Frag)(H:Hp):V→Value→Prop where
 |non:wz K H .non (.type "NoneType")
 |bl (x:Bool):wz K H (.bl x) (.type "bool")
 |int (i:Int):wz K H (.int i) (.type "int")
 |str (x:Str):wz K H (.str x) (.type "str")
 |flt (x:UInt64):wz K H (.flt x) (.type "float")
 |lst {a:Addr} {xs:List V} (e:H a=some (.lst xs)):wz K H (.ref a) (.type "list")
 |frz {a:Addr} {o:Obj} {xs:List V} (e:H a=some (.frz o (.lst xs))):wz K H (.ref a) (.type "list")
 |tup {a:Addr} {xs:List V} (e:H a=some (.tup xs)):wz K H (.ref a) (.type "tuple")
 |dK {a:Addr} {kvs:List (Key×V)} (e:H a=some (.dK kvs)):wz K H (.ref a) (.type "dict")
 |dT {a:Addr} {kvs:List (List Key×V)} (e:H a=some (.dT kvs)):wz K H (.ref a) (.type "dict")
 |ins {a C dx:Addr} {fs:List (Str×V)} (e:H a=some (.ins C dx fs)) (cl:Cls K C) (ha:PySem.W.findIn K (.ref C) "__class__"=some (some (.builtin "object.__class__")))
   (hn:PySem.W.specialIn K (.builtin "object.__class__") "__get__"=some (some (.builtin "getset_descriptor.__get__"))) (htk:PySem.W.takesIn K (.builtin "object.__class__")=some true)
   (hm:PySem.W.mroIn K C (.type "object")=some true):wz K H (.ref a) (.ref C)
theorem oR {x:V}{u t:Value}(I:Inv X pins σ H s)(rx:RelV x u)(ty:wz X.K H x t)(e:PySem.W.kitOne X.K t c=some b)(h:∀tk,Q (.bool b) {s with toks:=tk}):
  wpAny (model X.prog X.w) A (call (.builtin "isinstance") [u,c]) Q E s:=by
 cases ty with
 |non=>cases (show u=Value.none from rx);exact cJ PySem.W.kitx_none I.kIn True.intro e (fun z=>nomatch z) h
 |bl y=>cases (show u=Value.bool y from rx);exact cJ PySem.W.kitx_bool I.kIn True.intro e (fun z=>nomatch z) h
 |int i=>obtain⟨t,q⟩:=(show ∃t,u=Value.int i t from rx);cases q;exact cJ PySem.W.kitx_int I.kIn True.intro e (fun z=>nomatch z) h
 |str y=>obtain⟨t,q⟩:=(show ∃t,u=Value.str y t from rx);cases q;exact cJ PySem.W.kitx_str I.kIn True.intro e (fun z=>nomatch z) h
 |flt y=>obtain⟨t,q⟩:=(show ∃t,u=Value.float y t from rx);cases q;exact cJ PySem.W.kitx_float I.kIn True.intro e (fun z=>nomatch z) h
 |@lst a xs ea=>
  cases (show u=Value.ref a from rx)
  obtain⟨_,_,n,_,h1⟩:=(show zZ X.prog X.w H s.heap a (.lst xs) from I.hok a _ ea)
  exact cJ PySem.W.kitx_list I.kIn ⟨_,h1,rfl⟩ e (fun z=>nomatch z) h
 |@frz a ob xs ea=>
  cases (show u=Value.ref a from rx)
  obtain⟨_,_,_,n,_,h1⟩:=(show zZ X.prog X.w H s.heap a (.frz ob (.lst xs)) from I.hok a _ ea)
  exact cJ PySem.W.kitx_list I.kIn ⟨_,h1,rfl⟩ e (fun z=>nomatch z) h
 |@tup a xs ea=>
  cases (show u=Value.ref a from rx)
  obtain⟨_,_,_,p⟩:=(show zZ X.prog X.w H s.heap a (.tup xs) from I.hok a _ ea)
  obtain⟨o,h1,h2,_⟩:=p
  exact cJ PySem.W.kitx_tuple I.kIn ⟨o,h1,h2⟩ e (fun z=>nomatch z) h
 |@dK a kvs ea=>
  cases (show u=Value.ref a from rx)
  obtain⟨_,_,vs,_,p⟩:=(show zZ X.prog X.w H s.heap a (.dK kvs) from I.hok a _ ea)
  obtain⟨o,es,ep,h1,h2,_⟩:=p
  exact cJ PySem.W.kitx_dict I.kIn ⟨o,h1,h2.1⟩ e (fun z=>nomatch z) h
 |@dT a kvs ea=>
  cases (show u=Value.ref a from rx)
  obtain⟨_,_,xs,_,o,es,ep,h1,h2,_⟩:=(show zZ X.prog X.w H s.heap a (.dT kvs) from I.hok a _ ea)
  exact cJ PySem.W.kitx_dict I.kIn ⟨o,h1,h2.1⟩ e (fun z=>nomatch z) h
 |@ins a C dx fs ea cl ha hn htk hm=>
  cases (show u=Value.ref a from rx)
  obtain⟨mA,O,_⟩:=qS I.hok ea
  obtain⟨od,J,_⟩:=O.look
  exact cJ (PySem.W.kitx_own (cl.get _) cl.hd ha hn htk hm) I.kIn J e (fun z=>nomatch z) h
end
structure zI (k:Nat)(A:Around):Prop where
 hd:A.handled=none
 dp:A.depth+3*k+5<recursionLimit
 un:A.units+16*k+200<cLine
 gd:A.guards=some []
theorem zI.mono {j k:Nat}{A:Around}(r:zI k A)(h:j≤k):zI j A:=⟨r.hd,by have:=r.dp;omega,by have:=r.un;omega,r.gd⟩
theorem zI.deeper {k:Nat}{A:Around}(r:zI (k+1) A)(env:Env):zI k (A.deeper env):=
 ⟨r.hd,by have:=r.dp;show A.depth+1+3*k+5<_;omega,by have:=r.un;show A.units+3+16*k+200<_;omega,r.gd⟩
theorem qM {A:Around}{C:Addr}{us:List Value}{kw:List (Str×Value)}:(A.under (.builtin "type.__call__" ⟨.ref C::us,kw⟩)).depth=A.depth+1:=by
 first|rfl|simp[Around.under,Code.weight,Code.isCreation,Code.isGuard,Code.isCaller,Code.frames,Code.isFrame,guardIds]
theorem qh {A:Around}{C:Addr}{us:List Value}{kw:List (Str×Value)}:(A.under (.builtin "type.__call__" ⟨.ref C::us,kw⟩)).units=A.units+1:=by
 first|rfl|simp[Around.under,Code.cUnits,Code.frames,Code.isFrame]
theorem sS {A:Around}{C:Addr}{us:List Value}{kw:List (Str×Value)}:(A.under (.builtin "type.__call__" ⟨.ref C::us,kw⟩)).guards=A.guards:=by
 first|rfl|simp[Around.under,Code.guards,Code.isGuard,guardIds,pushGuards]
theorem zI.make {k:Nat}{A:Around}(r:zI (k+1) A)(C:Addr)(us:List Value)(kw:List (Str×Value)):zI k (A.under (.builtin "type.__call__" ⟨.ref C::us,kw⟩)):=
 ⟨r.hd,by have:=r.dp;rw[qM];omega,by have:=r.un;rw[qh];omega,(sS (A:=A)).trans r.gd⟩
theorem zI.depth {k:Nat}{A:Around}(r:zI k A):A.depth<recursionLimit:=by have:=r.dp;omega
theorem zI.units {k:Nat}{A:Around}(r:zI k A):A.units+64<cLine:=by have:=r.un;omega
def dI :TA:=fun _ H Q=>Q [] H
def gW (ta:TE)(tr:TA):TA:=fun σ H Q=>ta σ H fun x H1=>tr σ H1 fun xs H2=>Q (x::xs) H2
section
variable {X:Cx}{e:Expr}{es:List Expr}{te:TE}{t:TA}{pos:Pos}
theorem zj :PA X [] dI:=fun _ _ _ _ H Q I h=>Calls.spliced_nil ⟨[],H,I,.nil,h⟩
theorem zb (ha:PE X e te)(hr:PA X es t)(hs:starEach (e::es) X.env=(false,eval e X.env)::starEach es X.env:=by rfl):PA X (e::es) (gW te t):=by
 intro pos pins s σ H Q I h
 rw[hs]
 show wpAny _ _ (spliced ((false,eval e X.env)::backTo pos (starEach es X.env))) _ _ s
 refine Calls.spliced_cons (thn (ha pins s σ H _ I h) fun u s1 ⟨x,H1,I1,r1,q1⟩=>?_)
 exact thn (hr pos pins s1 σ H1 _ I1 q1) fun us s2 ⟨xs,H2,I2,r2,q2⟩=>⟨x::xs,H2,I2,.cons r1 r2,q2⟩
def eU (t:TA):TE:=fun σ H Q=>t σ H fun xs H1=>xs.length≤sizeLine∧∀p,H1 p=none→Q (.ref p) (upd H1 p (.tup xs))
def eZ (t:TA):TE:=fun σ H Q=>t σ H fun xs H1=>xs.length≤sizeLine∧∀p,H1 p=none→Q (.ref p) (upd H1 p (.lst xs))
theorem mR {x1}(h:PA X es t):PE X (.Tuple es x1 pos) (eU t):=by
 intro pins s σ H Q I hq
 refine wpAny_Tuple_spliced (thn (h pos pins s σ H _ I hq) fun us s1 ⟨xs,H1,I1,r,z,q⟩=>⟨by rw[←r.length];exact z,?_⟩)
 have hf:H1 s1.heap.objs.size=none:=I1.hok.fresh (dQ _)
 refine⟨.ref s1.heap.objs.size,upd H1 s1.heap.objs.size (.tup xs),I1.laid (t':=s1.toks) (fun b u e=>dM _ e) (dQ _) ?_,rfl,q _ hf⟩
 exact⟨z,us,r,⟨_,cK _ rfl,rfl,_,rfl⟩⟩
theorem lW (h:PA X es t):PE X (.List es pos) (eZ t):=by
 intro pins s σ H Q I hq
 refine wpAny_List_spliced (thn (h pos pins s σ H _ I hq) fun us s1 ⟨xs,H1,I1,r,z,q⟩=>⟨by rw[←r.length];exact z,?_⟩)
 have hf:H1 s1.heap.objs.size=none:=I1.hok.fresh (dQ _)
 refine⟨.ref s1.heap.objs.size,upd H1 s1.heap.objs.size (.lst xs),I1.laid (t':=s1.toks) (fun b u e=>dM _ e) (dQ _) ?_,rfl,q _ hf⟩
 exact⟨z,us,0,r,cK _ rfl⟩
end
abbrev Sp :=List V→Hp→VK→XK→Prop
abbrev CXT :=List Env→Hp→Shared→XK→Value→Shared→Prop
structure qk (P:Program)(w:World)(K:PySem.W.Frag)(mg:Str→Option Value)(base:Heap)(A:Around)(outer:List Env)(s:Shared)(H:Hp):Prop where
 frames:A.frames=some outer
 mod:Mod K mg base
 bs:∀b o,base.get? b=some o→s.heap.get? b=some o∧H b=none
 bsz:base.objs.size≤s.heap.objs.size
 funs:s.heap.FunFrames base outer
 frf:∀b∈frs outer,H b=none
 hok:HOk P w H s.heap
 bare:AllBare s.gens
def CE (outer:List Env)(P:Program)(w:World)(H:Hp)(s:Shared)(Q:VK)(u:Value)(s':Shared):Prop:=
 ∃v H',s'.os=s.os∧AllBare s'.gens∧Un (frs outer) [] H H' s.heap s'.heap∧HOk P w H' s'.heap∧RelV v u∧Q v H'
def CR (CX:CXT)(outer:List Env)(P:Program)(w:World)(H:Hp)(s:Shared)(Q:VK)(E:XK)(r:Result)(s':Shared):Prop:=
 match r with
 |.ok (.ret u)=>CE outer P w H s Q u s'
 |.ok _=>False
 |.error e=>CX outer H s E e s'
structure zt (P:Program)(w:World)(K:PySem.W.Frag)(mg:Str→Option Value)(base:Heap)(CX:CXT)(k:Nat)(f:Addr)(fd:FuncData)(ps:List Str)(sp:Sp):Prop where
 len:∀vs H Q E,sp vs H Q E→vs.length=ps.length
 run:∀(A:Around) (outer:List Env) (s:Shared) (H:Hp) (args:Args) (us:List Value) (vs:List V) (Q:VK) (E:XK),zI k A→qk P w K mg base A outer s H→BindsTo s fd args (ps.zip us)→Vals vs us→sp vs H Q E→
  codeAny (model P w) A (.call (.ref f) args) (CR CX outer P w H s Q E) s
theorem zt.imp {P:Program}{w:World}{K:PySem.W.Frag}{mg:Str→Option Value}{base:Heap}{CX:CXT}{k:Nat}{f:Addr}{fd:FuncData}{ps:List Str}{sp sp':Sp}(F:zt P w K mg base CX k f fd ps sp)
  (h:∀vs H Q E,sp' vs H Q E→sp vs H Q E):zt P w K mg base CX k f fd ps sp':=
 ⟨fun vs H Q E q=>F.len vs H Q E (h _ _ _ _ q),fun A outer s H args us vs Q E hr he hb hv hs=>F.run A outer s H args us vs Q E hr he hb hv (h _ _ _ _ hs)⟩
theorem qk.make {P:Program}{w:World}{K:PySem.W.Frag}{mg:Str→Option Value}{base:Heap}{A:Around}{outer:List Env}{s:Shared}{H:Hp}(e:qk P w K mg base A outer s H)(C:Addr)(us:List Value)(kw:List (Str×Value)):
  qk P w K mg base (A.under (.builtin "type.__call__" ⟨.ref C::us,kw⟩)) outer s H:=⟨by first|exact e.frames|(simpa[Around.under,Code.envs,Code.isFrame,pushEnvs] using e.frames),e.mod,e.bs,e.bsz,e.funs,e.frf,e.hok,e.bare⟩
section
variable {X:Cx}{pins:List (Addr×Obj)}{σ:St}{H:Hp}{s s':Shared}
theorem Inv.env0 (I:Inv X pins σ H s):qk X.prog X.w X.K X.mg X.base X.A X.stack s H:=
 ⟨I.ok.frames,I.ok.mod,I.bs,cM I.ok.bsz I.sz,I.stack,I.stkFree,I.hok,I.bare⟩
theorem Inv.after {Q:VK}{u:Value}(I:Inv X pins σ H s)(h:CE X.stack X.prog X.w H s Q u s'):EP X pins σ Q u s':=by
 obtain⟨v,H',os,bare,un,hok,r,q⟩:=h
 obtain⟨hh,g,d,t,os'⟩:=s'
 obtain rfl:os'=s.os:=os
 exact⟨v,H',I.call (h':=hh) (g':=g) (d':=d) (t':=t) (ch:=[]) un hok bare (fun b z=>absurd z (by simp)),r,q⟩
end
def fA (sp:Sp)(dvs:List V)(E:XK)(t:TA):TE:=fun σ H Q=>t σ H fun vs H1=>sp (vs++dvs) H1 Q E
def ek (C:Addr)(sp:Sp)(dvs:List V)(E:XK)(t:TA):TE:=fun σ H Q=>t σ H fun vs H1=>∀x dx,H1 x=none→H1 dx=none→dx≠x→
 sp (.ref x::(vs++dvs)) (upd (upd H1 dx (.own x)) x (.ins C dx [])) (fun v H2=>v=.non∧Q (.ref x) H2) E
def Binds (K:PySem.W.Frag)(fd:FuncData)(ps:List Str)(ds:List Value):Prop:=
 ∀(s:Shared) (us:List Value),K.In s.heap→(us++ds).length=ps.length→BindsTo s fd ⟨us,[]⟩ (ps.zip (us++ds))
theorem Binds.all {K:PySem.W.Frag}{fd:FuncData}{ps:List Str}(h:∀us:List Value,us.length=ps.length→bindArgs fd ⟨us,[]⟩=pure (ps.zip us)):Binds K fd ps []:=fun s us _ hl=>by
 rw[cO] at hl ⊢
 exact .of_eq (h us hl)
def Passes (CX:CXT)(X:Cx)(E:XK):Prop:=∀(pins:List (Addr×Obj)) (σ:St) (H:Hp) (s:Shared) (e:Value) (s':Shared),Inv X pins σ H s→CX X.stack H s E e s'→X.xe e s'
section
variable {X:Cx}{CX:CXT}{k:Nat}{f C:Addr}{fd:FuncData}{ps:List Str}{sp:Sp}{dvs:List V}{ds:List Value}{E:XK}{x m:Str}{p pos apos:Pos}{e o:Expr}{es:List Expr}{ta:TE}{t:TA}
theorem iP {pins:List (Addr×Obj)}{σ:St}{H:Hp}{s:Shared}{Q:VK}{us:List Value}{vs:List V}(F:zt X.prog X.w X.K X.mg X.base CX k f fd ps sp)(hr:zI k X.A)(hb:Binds X.K fd ps ds)(hd:Vals dvs ds)(hx:Passes CX X E)
  (I:Inv X pins σ H s) (r:Vals vs us) (h:sp (vs++dvs) H Q E):wpAny (model X.prog X.w) X.A (call (.ref f) us) (EP X pins σ Q) X.xe s:=by
 have r2:Vals (vs++dvs) (us++ds):=r.append hd
 have hl:(us++ds).length=ps.length:=by rw[←r2.length];exact F.len _ _ _ _ h
 refine bu (ae (F.run X.A X.stack s H ⟨us,[]⟩ (us++ds) (vs++dvs) Q E hr I.env0 (hb s us I.kIn hl) r2 h) fun r s' hq=>?_)
 cases r with
 |error e=>exact hx pins σ H s e s' I hq
 |ok fl=>
  cases fl with
  |ret u=>exact I.after hq
  |next=>exact False.elim hq
  |brk=>exact False.elim hq
  |cont=>exact False.elim hq
theorem zE (F:zt X.prog X.w X.K X.mg X.base CX k f fd ps sp)(hr:zI k X.A)(hg:Gl X x)(hm:X.mg x=some (.ref f))(hk:PySem.W.keepIn X.K (.ref f)=true)(hb:Binds X.K fd ps ds)(hd:Vals dvs ds)(hx:Passes CX X E)
  (ha:PA X (e::es) t) (hdb:(x == ("__debug__":Str))=false:=by decide) (he:starEach (e::es) X.env=(false,eval e X.env)::starEach es X.env:=by rfl) (hpl:(backTo pos (starEach es X.env)).any (·.1)=false:=by rfl):
  PE X (.Call (.Name x p) (e::es) [] pos) (fA sp dvs E t):=by
 intro pins s σ H Q I h
 refine cZ (yE I hg hm ?_ hdb)
 refine bw (h₀:=X.base) I.ok.mod.kin hk (thn (ha pos pins s σ H _ I h) fun us s1 ⟨vs,H1,I1,r,q⟩=>⟨I1.kIn,?_⟩) he hpl
 exact iP F hr hb hd hx I1 r q
structure Mk (K:PySem.W.Frag)(C f:Addr):Prop where
 makes:PySem.W.makesIn K C=true
 init:PySem.W.findIn K (.ref C) "__init__"=some (some (.ref f))
 fn:PySem.W.isFn K (.ref f)=true
 kp:PySem.W.keepIn K (.ref C)=true
theorem mP {pins:List (Addr×Obj)}{σ:St}{H:Hp}{s:Shared}{Q:VK}{us:List Value}{vs:List V}(M:Mk X.K C f)(F:zt X.prog X.w X.K X.mg X.base CX k f fd ps sp)(hr:zI (k+1) X.A)(hb:Binds X.K fd ps ds)(hd:Vals dvs ds)
  (hx:Passes CX X E) (I:Inv X pins σ H s) (r:Vals vs us)
  (h:∀x dx,H x=none→H dx=none→dx≠x→sp (.ref x::(vs++dvs)) (upd (upd H dx (.own x)) x (.ins C dx [])) (fun v H2=>v=.non∧Q (.ref x) H2) E):
  wpAny (model X.prog X.w) X.A (call (.ref C) us) (EP X pins σ Q) X.xe s:=by
 have hq:=h (s.heap.objs.size+1) s.heap.objs.size (I.hok.fresh (bK _)) (I.hok.fresh (dQ _)) (cz (ai _))
 have I2:=Inv.made (C:=C) I
 have r2:Vals (V.ref (s.heap.objs.size+1)::(vs++dvs)) (Value.ref (s.heap.objs.size+1)::(us++ds)):=.cons rfl (r.append hd)
 have hl:(Value.ref (s.heap.objs.size+1)::us++ds).length=ps.length:=by
  have e:=r2.length
  rw[F.len _ _ _ _ hq] at e
  exact e.symm
 refine bu (rE (f:=f) I.kIn M.makes M.init (br.mp M.fn) (ae (F.run _ X.stack _ _ ⟨Value.ref (s.heap.objs.size+1)::us,[]⟩ (Value.ref (s.heap.objs.size+1)::(us++ds)) _ _ E (hr.make C us [])
  (I2.env0.make C us []) (hb _ (Value.ref (s.heap.objs.size+1)::us) I2.kIn hl) r2 hq) fun r s' hq'=>?_))
 cases r with
 |error e=>exact hx pins σ _ _ e s' I2 hq'
 |ok fl=>
  cases fl with
  |ret u=>
   obtain⟨v,H',I3,rv,ev,q3⟩:=I2.after hq'
   subst ev
   exact⟨rv,⟨V.ref (s.heap.objs.size+1),H',I3,rfl,q3⟩⟩
  |next=>exact False.elim hq'
  |brk=>exact False.elim hq'
  |cont=>exact False.elim hq'
theorem yO (M:Mk X.K C f)(F:zt X.prog X.w X.K X.mg X.base CX k f fd ps sp)(hr:zI (k+1) X.A)(hg:Gl X x)(hm:X.mg x=some (.ref C))(hb:Binds X.K fd ps ds)(hd:Vals dvs ds)(hx:Passes CX X E)
  (ha:PA X (e::es) t) (hdb:(x == ("__debug__":Str))=false:=by decide) (he:starEach (e::es) X.env=(false,eval e X.env)::starEach es X.env:=by rfl) (hpl:(backTo pos (starEach es X.env)).any (·.1)=false:=by rfl):
  PE X (.Call (.Name x p) (e::es) [] pos) (ek C sp dvs E t):=by
 intro pins s σ H Q I h
 refine cZ (yE I hg hm ?_ hdb)
 refine bw (h₀:=X.base) I.ok.mod.kin M.kp (thn (ha pos pins s σ H _ I h) fun us s1 ⟨vs,H1,I1,r,q⟩=>⟨I1.kIn,?_⟩) he hpl
 exact mP M F hr hb hd hx I1 r q
end
section
variable {X:Cx}{CX:CXT}{k:Nat}{f C:Addr}{fd:FuncData}{ps ks:List Str}{sp:Sp}{E:XK}{x m:Str}{p pos apos kpos:Pos}{e o:Expr}{es:List Expr}{kws:List Keyword}{te ta:TE}{t tk:TA}{nm:Option Str}
variable {g:List Value→List Value→List Value}{gV:List V→List V→List V}
end
structure zl (N P:List Str)(sc:Scope):Prop where
 kind:sc.kind=.function
 co:sc.isCoroutine=false
 gen:sc.isGenerator=false
 nd:N.Nodup
 pre:N.take P.length=P
 par:∀x∈P,sc.names.lookup x=some .local∨sc.names.lookup x=some .cell
 nofree:∀y∈sc.names,y.2≠.free
theorem uP {kindOf:Str→Option NameKind}{x:Str}:∀{binds:List (Str×Value)} {m:Str→Option Value},(∀v,(x,v)∉binds)→bindL kindOf binds m x=m x
 |[],_,_=>rfl
 |(n,v)::r,m,h=>by
  unfold bindL
  rw[uP fun w hw=>h w (dX _ hw)]
  split
  ·have:x≠n:=by rintro rfl;exact h v cv
   simp[this]
  ·rfl
theorem uV {kindOf:Str→Option NameKind}{x:Str}:∀{binds:List (Str×Value)} {m:Str→Option Value},(∀v,(x,v)∉binds)→bindC kindOf binds m x=m x
 |[],_,_=>rfl
 |(n,v)::r,m,h=>by
  unfold bindC
  rw[uV fun w hw=>h w (dX _ hw)]
  split
  ·rfl
  ·have:x≠n:=by rintro rfl;exact h v cv
   simp[this]
theorem uS {kindOf:Str→Option NameKind}{x:Str}{v:Value}:∀{P:List Str} {vs:List Value} {i:Nat} {m:Str→Option Value},P.Nodup→P[i]?=some x→vs[i]?=some v→kindOf x=some .local→
  bindL kindOf (P.zip vs) m x=some v
 |[],_,_,_,_,h,_,_=>by simp at h
 |_::_,[],_,_,_,_,h,_=>by simp at h
 |p::P,w::vs,0,m,nd,h1,h2,hk=>by
  simp at h1 h2;subst h1;subst h2
  show bindL kindOf ((p,w)::P.zip vs) m p=_
  unfold bindL
  rw[uP fun v hv=>(aH.mp nd).1 (List.of_mem_zip hv).1,if_pos hk]
  simp
 |p::P,w::vs,i+1,m,nd,h1,h2,hk=>by
  show bindL kindOf ((p,w)::P.zip vs) m x=_
  unfold bindL
  exact uS (i:=i) (aH.mp nd).2 (by simpa using h1) (by simpa using h2) hk
theorem uG {kindOf:Str→Option NameKind}{x:Str}{v:Value}:∀{P:List Str} {vs:List Value} {i:Nat} {m:Str→Option Value},P.Nodup→P[i]?=some x→vs[i]?=some v→kindOf x≠some .local→
  bindC kindOf (P.zip vs) m x=some v
 |[],_,_,_,_,h,_,_=>by simp at h
 |_::_,[],_,_,_,_,h,_=>by simp at h
 |p::P,w::vs,0,m,nd,h1,h2,hk=>by
  simp at h1 h2;subst h1;subst h2
  show bindC kindOf ((p,w)::P.zip vs) m p=_
  unfold bindC
  rw[uV fun v hv=>(aH.mp nd).1 (List.of_mem_zip hv).1,if_neg hk]
  simp
 |p::P,w::vs,i+1,m,nd,h1,h2,hk=>by
  show bindC kindOf ((p,w)::P.zip vs) m x=_
  unfold bindC
  exact uG (i:=i) (aH.mp nd).2 (by simpa using h1) (by simpa using h2) hk
def start (N:List Str)(vs:List V):St:=vs.map some++List.replicate (N.length-vs.length) none
def yF (CX:CXT)(P:Program)(w:World)(K:PySem.W.Frag)(mg:Str→Option Value)(base:Heap)(N:List Str)(qual:Str)(scope:Scope)(f:Addr)(cd:Value)(A:Around)(outer:List Env)(s:Shared)(H:Hp)(E:XK):Cx where
 prog:=P
 w:=w
 K:=K
 mg:=mg
 base:=base
 A:=A.deeper (envOfC qual scope s.heap.objs.size f cd)
 N:=N
 s₀:=s
 H₀:=H
 env:=envOfC qual scope s.heap.objs.size f cd
 outer:=outer
 stack:=envOfC qual scope s.heap.objs.size f cd::outer
 ex:=[]
 calm:=true
 fn:=fun _=>true
 pn:=[]
 xe:=fun e s'=>wpAny (model P w) (A.deeper (envOfC qual scope s.heap.objs.size f cd)) (leaving (envOfC qual scope s.heap.objs.size f cd) e) (fun _ s''=>CX outer H s E e s'') (fun e' s''=>CX outer H s E e' s'') s'
theorem rC {sc:Scope}{n:Nat}{x:Str}(h:sc.names.lookup x=some .cell):∃c,(cellsFrom n sc.names []).lookup x=some c:=by
 have q:=PySem.W.cellsFrom_some sc.names n [] (.inl h)
 exact Option.isSome_iff_exists.mp q
theorem oV {CX:CXT}{P:Program}{w:World}{K:PySem.W.Frag}{mg:Str→Option Value}{base:Heap}{N ps:List Str}{qual:Str}{scope:Scope}{f:Addr}{cd:Value}{A:Around}{outer:List Env}{s s1:Shared}{H:Hp}{E:XK}{us:List Value}{vs:List V}
  (S:zl N ps scope) (hd:A.handled=none) (e0:qk P w K mg base A outer s H) (hl:vs.length=ps.length) (r:Vals vs us)
  (x:InCallC s s.heap.objs.size (bindL (envOfC qual scope s.heap.objs.size f cd).kindOf (ps.zip us) fun _=>none) (cellsFrom (s.heap.objs.size+1) scope.names []) (bindC (envOfC qual scope s.heap.objs.size f cd).kindOf (ps.zip us) fun _=>none) s1):
  Inv (yF CX P w K mg base N qual scope f cd A outer s H E) [] (start N vs) H s1:=by
 have hpl:ps.length≤N.length:=by have:=congrArg List.length S.pre;rw[bc] at this;omega
 obtain⟨h1,tk,rfl,hk⟩:=x.done
 have noA:∀b:Addr,b∉(yF CX P w K mg base N qual scope f cd A outer s H E).ex:=fun b z=>absurd (show b∈([]:List Addr) from z) (by simp)
 refine⟨⟨e0.mod,S.kind,rfl,rfl,dQ _,fun y z c h1 h2=>?_,fun y hy=>?_,fun y c _ h=>?_,fun _=>hd,Around.frames_deeper e0.frames,.inr ⟨rfl,rfl⟩,fun b z=>absurd z (noA b),e0.bs,e0.bsz,fun b _ _=>noA b,fun b z=>absurd z (noA b),e0.funs,e0.frf⟩,
  rfl,e0.bare,Un.kept hk,⟨_,x.toInCall.ns,fun i y v h1 h2 h3=>?_⟩,fun y c h=>⟨_,x.cell y c h⟩,e0.hok.fresh (dQ _),fun y c h=>?_,fun p hp=>absurd (show p∈([]:List (Addr×Obj)) from hp) (by simp),e0.hok.kept hk,?_⟩
 ·exact name_of_addr x.apart (cX h1) (cX h2)
 ·have hy:scope.names.lookup y=some .cell∨scope.names.lookup y=some .free:=hy
  rcases hy with hy|hy
  ·exact rC hy
  ·exact absurd rfl (S.nofree _ (cX hy))
 ·exact bN (x.above y c (cX h))
 ·have hi:i<vs.length:=by
   unfold start at h2
   by_cases hi:i<vs.length
   ·exact hi
   ·rw[cp (by simpa using hi)] at h2
    rw[bp] at h2
    split at h2<;>cases h2
  have ha:vs[i]?=some v:=by
   unfold start at h2
   rw[cn (by simpa using hi),cH] at h2
   cases e:vs[i]? with
   |none=>rw[e] at h2;cases h2
   |some a=>rw[e] at h2;cases h2;rfl
  obtain⟨u,hu,rv⟩:=r.get ha
  have hp:ps[i]?=some y:=by
   rw[←S.pre,List.getElem?_take_of_lt (by omega)];exact h1
  have ndP:ps.Nodup:=by rw[←S.pre];exact S.nd.sublist (List.take_sublist _ _)
  refine⟨u,rv,?_⟩
  rcases S.par y (cP hp) with k|k
  ·exact .inl ⟨k,uS ndP hp hu k⟩
  ·obtain⟨c,e⟩:=rC (n:=s.heap.objs.size+1) k
   refine .inr ⟨.inl k,c,e,?_⟩
   have q:=x.cell y c e
   rw[uG ndP hp hu (by show scope.names.lookup y≠_;rw[k];decide)] at q
   exact q
 ·exact e0.hok.fresh (bN (x.above y c (cX h)))
 ·unfold start
  show _=N.length
  rw[cx,dU,af]
  omega
theorem pS {CX:CXT}{P:Program}{w:World}{K:PySem.W.Frag}{mg:Str→Option Value}{base:Heap}{k:Nat}{f:Addr}{name qual:Str}{params:Arguments}{body:List Stmt}{scope:Scope}{dV kV doc pm cdv ct oc:Value}{an od:Option Addr}
  {osl:Array (Option Value)} {N ps:List Str} {sp:Sp} (lk:K.lookup f=some ⟨oc,od,.func (PySem.W.fnOf name qual params body scope dV kV doc pm an cdv ct),osl⟩) (hcd:PySem.W.codeIn K cdv qual=true) (S:zl N ps scope)
  (len:∀vs H Q E,sp vs H Q E→vs.length=ps.length)
  (hbody:∀(A:Around) (outer:List Env) (s:Shared) (H:Hp) (vs:List V) (Q:VK) (E:XK),zI k (A.deeper (envOfC qual scope s.heap.objs.size f cdv))→sp vs H Q E→
   ∃t,PSs (yF CX P w K mg base N qual scope f cdv A outer s H E) body t∧t {nx:=fun _ H'=>Q .non H',rt:=Q} (start N vs) H):
  zt P w K mg base CX (k+1) f (PySem.W.fnOf name qual params body scope dV kV doc pm an cdv ct) ps sp:=by
 refine⟨len,fun A outer s H args us vs Q E hr e0 hb r hsp=>?_⟩
 have hl:=len _ _ _ _ hsp
 have KX:K.In s.heap:=e0.mod.kin.keeps fun b o e=>(e0.bs b o e).1
 have lim:s.heap.NoLimit:=e0.mod.nolimit.keeps fun b o e=>(e0.bs b o e).1
 have hkind:∀y∈ps.zip us,scope.names.lookup y.1=some .local∨(scope.names.lookup y.1=some .cell∧((cellsFrom (s.heap.objs.size+1) scope.names []).lookup y.1).isSome=true):=fun⟨n,v⟩ hy=>by
  rcases S.par n (List.of_mem_zip hy).1 with q|q
  ·exact .inl q
  ·exact .inr ⟨q,PySem.W.cellsFrom_some _ _ _ (.inl q)⟩
 refine codeAny_call_function hr.depth (KX _ _ lk) rfl S.co S.gen rfl (PySem.W.codeRec_of KX hcd) (hb _ _ _ _ ?_)
 refine wpAny_newFunctionEnv_cells S.kind hkind fun env he s1 x=>?_
 subst he
 refine⟨lim.keeps x.toInCall.keep,codeAny_func ?_⟩
 obtain⟨t,ht,hq⟩:=hbody A outer s H vs Q E (hr.deeper _) hsp
 have I:Inv (yF CX P w K mg base N qual scope f cdv A outer s H E) [] (start N vs) H s1:=oV S hr.hd e0 hl r x
 refine cE (ht [] s1 (start N vs) H _ I hq) (fun fl s' hs=>?_) fun e s' hs=>hs
 have fin:∀{σ':St} {H':Hp} {v:V} {u:Value},Inv (yF CX P w K mg base N qual scope f cdv A outer s H E) [] σ' H' s'→RelV v u→Q v H'→CE outer P w H s Q u s':=
  fun {σ' H' v u} J rv q=>⟨v,H',J.os,J.bare,J.base,J.hok,rv,q⟩
 cases fl with
 |ret u=>
  obtain⟨v,σ',H',J,rv,q⟩:=hs
  exact fin J rv q
 |next=>
  obtain⟨σ',H',J,q⟩:=hs
  exact fin (v:=V.non) (u:=Value.none) J rfl q
 |brk=>
  obtain⟨_,_,_,q⟩:=hs
  exact False.elim q
 |cont=>
  obtain⟨_,_,_,q⟩:=hs
  exact False.elim q
section
variable {X:Cx}{x:Str}{p pos:Pos}{e:Expr}{es:List Expr}{t:TA}{id T:String}{r:List V→Hp→VK→Prop}
def tCB (r:List V→Hp→VK→Prop)(t:TA):TE:=fun σ H Q=>t σ H fun vs H1=>r vs H1 Q
theorem zJ (hc:xX X (.builtin id) r)(hg:Gl X x)(hm:X.mg x=none)(hv:bootBuiltins x=some (.builtin id))(ha:PA X (e::es) t)(hn:x≠"__name__":=by decide)(hdb:(x == ("__debug__":Str))=false:=by decide)
  (he:starEach (e::es) X.env=(false,eval e X.env)::starEach es X.env:=by rfl) (hpl:(backTo pos (starEach es X.env)).any (·.1)=false:=by rfl):PE X (.Call (.Name x p) (e::es) [] pos) (tCB r t):=by
 intro pins s σ H Q I h
 refine cZ (vP I hg hm hv ?_ hn hdb)
 exact PyProof.Rows.callWith_builtin1 (thn (ha pos pins s σ H _ I h) fun us s1 ⟨vs,H1,I1,r1,q1⟩=>hc pins s1 σ H1 vs us Q I1 r1 q1) he hpl
theorem uR (hc:xX X (.type T) r)(hg:Gl X x)(hm:X.mg x=none)(hv:bootBuiltins x=some (.type T))(ha:PA X (e::es) t)(hn:x≠"__name__":=by decide)(hdb:(x == ("__debug__":Str))=false:=by decide)
  (he:starEach (e::es) X.env=(false,eval e X.env)::starEach es X.env:=by rfl) (hpl:(backTo pos (starEach es X.env)).any (·.1)=false:=by rfl):PE X (.Call (.Name x p) (e::es) [] pos) (tCB r t):=by
 intro pins s σ H Q I h
 refine cZ (vP I hg hm hv ?_ hn hdb)
 exact ah (thn (ha pos pins s σ H _ I h) fun us s1 ⟨vs,H1,I1,r1,q1⟩=>hc pins s1 σ H1 vs us Q I1 r1 q1) he hpl
end
end L2
namespace HT
open PySem PyProof.Rows
section
open PySem.SeqAt
open PySem.AutoSeq1 (wpAny_loadPart')
open PySem.MeetsSeq PySem.MeetsSeq2 PySem.MeetsSeq3
end
section
variable {prog:Program}{w:World}{A:Around}{E:Value→Shared→Prop}{s:Shared}
theorem jq {t b:Addr}{vs ws:List Value}{Q:Value→Shared→Prop}(ht:IsTup s.heap t vs.toArray)(hb:IsTup s.heap b ws.toArray)(hv:vs≠[])
  (h1:ws=[]→Q (.ref t) s) (h2:ws≠[]→Q (.ref s.heap.objs.size) {s with heap:=s.heap.push {cls:=.type "tuple",data:=.seq (vs++ws).toArray}})
  (hsz:vs.length+ws.length≤sizeLine):wpAny (model prog w) A (binaryOp .Add (.ref t) (.ref b)) Q E s:=by
 obtain⟨⟨cls,dd,data,sl⟩,ho,hc,n,hd⟩:=id ht
 obtain⟨⟨cls2,dd2,data2,sl2⟩,ho2,hc2,n2,hd2⟩:=id hb
 simp only at hc hd hc2 hd2
 subst hc hd hc2 hd2
 have e:vs.toArray++ws.toArray=(vs++ws).toArray:=by simp
 by_cases hw:ws=[]
 ·exact concat_meets ⟨_,ho,rfl⟩ ⟨_,ho2,rfl⟩ noFill_tuple_add seq_tuple_add PySem.F.slot_tuple_add PySem.F.entry_tuple_add (PySem.F.args_tuple_add_2 _ _)
   (tuple_addW1 t b vs.toArray ws.toArray n n2 dd dd2 sl sl2 (by simpa using hv) (by simp[hw])) ⟨ho,ho2,h1 hw⟩
 ·refine concat_meets ⟨_,ho,rfl⟩ ⟨_,ho2,rfl⟩ noFill_tuple_add seq_tuple_add PySem.F.slot_tuple_add PySem.F.entry_tuple_add (PySem.F.args_tuple_add_2 _ _)
   (tuple_addW2 t b vs.toArray ws.toArray n n2 dd dd2 sl sl2 (by simpa using hv) (by simpa using hw) (by rw[dW,dW];exact hsz)) ⟨ho,ho2,?_⟩
  rw[e]
  exact h2 hw
def sIx (n d:Nat):Option Int→Nat
 |none=>d
 |some v=>if v<0 then (v+(n:Int)).toNat else min v.toNat n
theorem gf (n d:Nat)(hd:d≤n)(o:Option Int):sIx n d o≤n:=by
 cases o with
 |none=>exact hd
 |some v=>
  show (if v<0 then (v+(n:Int)).toNat else min v.toNat n)≤n
  by_cases hv:v<0
  ·rw[if_pos hv];omega
  ·rw[if_neg hv];exact Nat.min_le_right _ _
theorem qU (v:Int)(n d:Nat):(if v<0 then max (v+(n:Int)) 0 else min v (n:Int))=((sIx n d (some v):Nat):Int):=by
 show (if v<0 then max (v+(n:Int)) 0 else min v (n:Int))=(((if v<0 then (v+(n:Int)).toNat else min v.toNat n):Nat):Int)
 by_cases hv:v<0
 ·simp only[if_pos hv];omega
 ·simp only[if_neg hv];omega
theorem rZ (lo hi:Option Int)(n:Nat):Builtin.Slice.sliceAdjust lo hi 1 (n:Int)=(((sIx n 0 lo:Nat):Int),((sIx n n hi:Nat):Int)):=by
 have h1:¬((1:Int)<0):=by omega
 unfold Builtin.Slice.sliceAdjust
 simp only[h1,if_false]
 refine Prod.ext ?_ ?_
 ·cases lo with
  |none=>rfl
  |some v=>exact qU v n 0
 ·cases hi with
  |none=>rfl
  |some v=>exact qU v n n
theorem qf (i j:Nat):Builtin.Slice.slicePlaces (i:Int) (j:Int) 1=j-i:=by
 unfold Builtin.Slice.slicePlaces
 have h1:(1:Int) > 0:=by omega
 simp only[h1,if_true,Int.ediv_one]
 split<;>omega
theorem vQ {v:Value}{o:Option Int}{Q:Option Int→Shared→Prop}(p:IsPart v o)(h:Q o s):wpAny (model prog w) A (Builtin.Slice.slicePartIndex v) Q E s:=by
 cases p with
 |none=>exact slicePart_none h
 |int i t=>exact slicePart_int h
theorem wW {sl:Addr}{vl vu:Value}{lo hi:Option Int}{n:Nat}{Q:Int×Int×Nat→Shared→Prop}(hs:s.heap.IsSliceOf sl vl vu .none)(pl:IsPart vl lo)(pu:IsPart vu hi)
  (h:Q (((sIx n 0 lo:Nat):Int),1,sIx n n hi-sIx n 0 lo) s):wpAny (model prog w) A (Builtin.Slice.sliceApplied (.ref sl) (pure (n:Int))) Q E s:=by
 obtain⟨os,hos,hcs,hds⟩:=id hs
 unfold Builtin.Slice.sliceApplied Builtin.Slice.sliceFields
 refine dJ (dJ (bZ hos hds (x:=vl) rfl (dJ (bZ hos hds (x:=vu) rfl (dJ (bZ hos hds (x:=.none) rfl (dO ?_)))))))
 refine dJ (slicePart_none ?_)
 show wpAny _ _ (if ((1:Int)==0)=true then _ else _) _ _ s
 rw[if_neg (by decide)]
 refine dJ (vQ pl (dJ (vQ pu (dJ (dO ?_)))))
 show wpAny _ _ (match Builtin.Slice.sliceAdjust lo hi 1 (n:Int) with|(lo,hi)=>pure (lo,(1:Int),Builtin.Slice.slicePlaces lo hi 1)) _ _ s
 rw[rZ lo hi n]
 show wpAny _ _ (pure (((sIx n 0 lo:Nat):Int),(1:Int),Builtin.Slice.slicePlaces ((sIx n 0 lo:Nat):Int) ((sIx n n hi:Nat):Int) 1)) _ _ s
 rw[qf]
 exact dO h
theorem mw (xs:Array Value)(i k:Nat):((List.range k).filterMap fun (m:Nat)=>xs[((i:Int)+(m:Int)*1).toNat]?).toArray=((xs.toList.drop i).take k).toArray:=by
 have e:(fun (m:Nat)=>xs[((i:Int)+(m:Int)*1).toNat]?)=fun m=>xs[i+m]?:=by
  funext m
  have:((i:Int)+(m:Int)*1).toNat=i+m:=by omega
  rw[this]
 rw[e]
 have:=pick_run xs i k
 rw[List.filterMap_map] at this
 have e2:((fun x=>xs[x]?)∘fun x=>i+x)=fun m=>xs[i+m]?:=rfl
 rw[e2] at this
 rw[this]
theorem wB {t sl:Addr}{items:Array Value}{vl vu:Value}{lo hi:Option Int}{Q:Value→Shared→Prop}(ht:IsTup s.heap t items)(hs:s.heap.IsSliceOf sl vl vu .none)(pl:IsPart vl lo)(pu:IsPart vu hi)
  (hw:¬(sIx items.size 0 lo=0∧sIx items.size items.size hi=items.size))
  (h:Q (.ref s.heap.objs.size) {s with heap:=s.heap.push {cls:=.type "tuple",data:=.seq ((items.toList.drop (sIx items.size 0 lo)).take (sIx items.size items.size hi-sIx items.size 0 lo)).toArray}})
  (hsz:items.size≤sizeLine):wpAny (model prog w) A (getItem (.ref t) (.ref sl)) Q E s:=by
 have htake:sizeOk (.seq ((items.toList.drop (sIx items.size 0 lo)).take (sIx items.size items.size hi-sIx items.size 0 lo)).toArray):=by
  show ((items.toList.drop (sIx items.size 0 lo)).take (sIx items.size items.size hi-sIx items.size 0 lo)).toArray.size≤sizeLine
  rw[dW,bc,List.length_drop,aK]
  omega
 have hj:sIx items.size items.size hi≤items.size:=gf _ _ (dQ _) hi
 obtain⟨os,hos,hcs,hds⟩:=id hs
 have hTs:s.TypeIs (.ref sl) "slice":=⟨os,hos,hcs⟩
 unfold getItem
 try with_reducible refine bj ?_
 first|refine dJ (dO ?_)|skip
 refine dJ (wpAny_sequenceKey ht.typeIs (by decide) ?_)
 refine dJ (wpAny_callSpecial?_slot (name:=Str.ofString "__getitem__") ht.typeIs bU
  (wpAny_call_entry bU ht.typeIs entry_tuple_getitem ?_ (args_tuple_getitem _ _)))
 show wpAny _ _ (Builtin.Tuple.tupleItemsOf (.ref t) >>= _) _ _ s
 refine dJ (tupleItemsOf_ ht ?_)
 refine dJ (wpAny_typeOf hTs ?_)
 rw[if_pos (by decide)]
 refine dJ (wW hs pl pu ?_)
 have hno:¬((((sIx items.size 0 lo:Nat):Int)==0&&(1:Int)==1&&(sIx items.size items.size hi-sIx items.size 0 lo)==items.size)=true):=by
  intro q
  rw[cy,cy] at q
  have q1:((sIx items.size 0 lo:Nat):Int)=0:=eq_of_beq q.1.1
  have q2:sIx items.size items.size hi-sIx items.size 0 lo=items.size:=eq_of_beq q.2
  exact hw ⟨by omega,by omega⟩
 show wpAny _ _ (if (((sIx items.size 0 lo:Nat):Int)==0&&(1:Int)==1&&(sIx items.size items.size hi-sIx items.size 0 lo)==items.size)=true then _ else _) _ _ s
 rw[if_neg hno,mw]
 first
  |exact dJ (m:=Builtin.Tuple.tupleExact _) (bG (dO ⟨_,rfl,dO h⟩) htake)
  |exact dJ (m:=Builtin.Tuple.tupleExact _) (bG (dJ (dO (dO ⟨_,rfl,dO h⟩))) htake)
  |exact dJ (dJ (m:=Builtin.Tuple.tupleExact _) (bG (dO (dO ⟨_,rfl,dO h⟩)) htake))
  |exact dJ (dJ (m:=Builtin.Tuple.tupleExact _) (bG (dO ⟨_,rfl,dO h⟩) htake))
end
end HT
namespace L2
open PySem PySem.Spec PyProof.Rows
abbrev TO :=St→Hp→(Option Int→Hp→Prop)→Prop
def PO (X:Cx)(e:Option Expr)(t:TO):Prop:=
 ∀(pins:List (Addr×Obj)) (s:Shared) (σ:St) (H:Hp) (Q:Option Int→Hp→Prop),Inv X pins σ H s→t σ H Q→
  wpAny (model X.prog X.w) X.A (evalPart e X.env) (fun u s'=>∃o H',Inv X pins σ H' s'∧IsPart u o∧Q o H') X.xe s
def ky :TO:=fun _ H Q=>Q none H
def fF (t:TE):TO:=fun σ H Q=>t σ H fun x H1=>∃i,x=.int i∧Q (some i) H1
section
variable {X:Cx}{e:Expr}{te:TE}{lo hi:Option Expr}{tl th:TO}{pos p2:Pos}
theorem tW :PO X none ky:=by
 intro pins s σ H Q I h
 rw[evalPart_none]
 exact dO ⟨none,H,I,.none,h⟩
theorem tS (h:PE X e te):PO X (some e) (fF te):=by
 intro pins s σ H Q I hw
 rw[evalPart_some]
 refine thn (h pins s σ H _ I hw) fun u s1 ⟨x,H1,I1,r1,q1⟩=>?_
 obtain⟨i,rfl,q⟩:=q1
 obtain⟨t,rfl⟩:=r1
 exact⟨some i,H1,I1,.int i t,q⟩
def SlR (X:Cx)(r:V→Option Int→Option Int→Hp→VK→Prop):Prop:=
 ∀(pins:List (Addr×Obj)) (s:Shared) (σ:St) (H:Hp) (x:V) (v vl vu:Value) (lo hi:Option Int) (sl:Addr) (Q:VK),Inv X pins σ H s→RelV x v→s.heap.IsSliceOf sl vl vu .none→IsPart vl lo→IsPart vu hi→r x lo hi H Q→
  ∃T id,typeLookup (.type T) "__getitem__"=pure (some (.builtin id))∧s.TypeIs v T∧wpAny (model X.prog X.w) X.A (getItem v (.ref sl)) (EP X pins σ Q) X.xe s
def tSl (r:V→Option Int→Option Int→Hp→VK→Prop)(te:TE)(tl th:TO):TE:=fun σ H Q=>te σ H fun x H1=>tl σ H1 fun l H2=>th σ H2 fun u H3=>r x l u H3 Q
theorem vS {r:V→Option Int→Option Int→Hp→VK→Prop}(hr:SlR X r)(he:PE X e te)(hl:PO X lo tl)(hu:PO X hi th):PE X (.Subscript e (.Slice lo hi none p2) pos) (tSl r te tl th):=by
 intro pins s σ H Q I h
 refine Subscript_ (thn (he pins s σ H _ I h) fun v s1 ⟨x,H1,I1,r1,q1⟩=>?_)
 refine wpAny_Slice (thn (hl pins s1 σ H1 _ I1 q1) fun vl s2 ⟨l,H2,I2,pl,q2⟩=>thn (hu pins s2 σ H2 _ I2 q2) fun vu s3 ⟨u,H3,I3,pu,q3⟩=>?_)
 rw[evalPart_none]
 refine dO ?_
 have I4:Inv X pins σ H3 {s3 with heap:=s3.heap.push {cls:=.type "slice",data:=.fields #[vl,vu,.none]}}:=I3.kept (t':=s3.toks) fun b ob q=>dM _ q
 obtain⟨T,id,hT,ht,hg⟩:=hr pins {s3 with heap:=s3.heap.push {cls:=.type "slice",data:=.fields #[vl,vu,.none]}} σ H3 x v vl vu l u s3.heap.objs.size Q I4 r1 (Heap.IsSliceOf.new ..) pl pu q3
 show wpAny (model X.prog X.w) X.A (subscriptTail e (.Slice lo hi none p2) v (.ref s3.heap.objs.size)) (EP X pins σ Q) X.xe {s3 with heap:=s3.heap.push {cls:=.type "slice",data:=.fields #[vl,vu,.none]}}
 exact tail_any (ops:=[.ref s3.heap.objs.size,v]) ht hT hg (by with_unfolding_all rfl)
def vW (xs:List V)(lo hi:Option Int):List V:=(xs.drop (HT.sIx xs.length 0 lo)).take (HT.sIx xs.length xs.length hi-HT.sIx xs.length 0 lo)
theorem va (xs:List V)(lo hi:Option Int):(vW xs lo hi).length≤xs.length:=by
 unfold vW
 rw[bc,List.length_drop]
 omega
def df (K:PySem.W.Frag):V→Option Int→Option Int→Hp→VK→Prop:=fun x lo hi H Q=>∃a xs,x=.ref a∧SqT K H a xs∧
 ¬(HT.sIx xs.length 0 lo=0∧HT.sIx xs.length xs.length hi=xs.length)∧∀p,H p=none→Q (.ref p) (upd H p (.tup (vW xs lo hi)))
theorem iJ :SlR X (df X.K):=by
 intro pins s σ H x v vl vu lo hi sl Q I rx hs pl pu h
 obtain⟨a,xs,rfl,hx,hw,q⟩:=h
 cases rx
 obtain⟨its,r,ht,hz⟩:=I.tuple hx
 have hlen:its.toArray.size=xs.length:=by rw[dW];exact r.length.symm
 refine⟨"tuple",_,bU.lookup,ht.typeIs,?_⟩
 refine HT.wB ht hs pl pu (by rw[hlen];exact hw) ?_ (by rw[hlen];exact hz)
 rw[hlen]
 refine⟨.ref s.heap.objs.size,_,I.laid (t':=s.toks) (o:=.tup (vW xs lo hi)) (fun b ob q=>dM _ q) (dQ _) ?_,rfl,q _ (I.hok.fresh (dQ _))⟩
 exact⟨cM (va xs lo hi) hz,_,(r.drop (HT.sIx xs.length 0 lo)).take (HT.sIx xs.length xs.length hi-HT.sIx xs.length 0 lo),IsTup.new _ _⟩
def fc (K:PySem.W.Frag):R2:=fun x y H Q=>∃a b xs ys,x=.ref a∧y=.ref b∧SqT K H a xs∧SqT K H b ys∧xs≠[]∧xs.length+ys.length≤sizeLine∧
 (ys=[]→Q (.ref a) H)∧(ys≠[]→∀p,H p=none→Q (.ref p) (upd H p (.tup (xs++ys))))
theorem Vals.nil_iff {xs:List V}{us:List Value}(r:Vals xs us):us=[]↔xs=[]:=by
 cases r with
 |nil=>simp
 |cons _ _=>simp
theorem kJ :OpR X (binaryOp .Add) (fc X.K):=by
 intro pins s σ H x y v u Q I rx ry h
 obtain⟨a,b,xs,ys,rfl,rfl,ha,hb,hx,hz,q1,q2⟩:=h
 cases rx
 cases ry
 obtain⟨its,r1,p1,_⟩:=I.tuple ha
 obtain⟨its2,r2,p2,_⟩:=I.tuple hb
 refine HT.jq p1 p2 (fun z=>hx (r1.nil_iff.mp z)) (fun z=>⟨.ref a,H,I,rfl,q1 (r2.nil_iff.mp z)⟩) (fun z=>?_) (by rw[←r1.length,←r2.length];exact hz)
 refine⟨.ref s.heap.objs.size,_,I.laid (t':=s.toks) (o:=.tup (xs++ys)) (fun b ob q=>dM _ q) (dQ _) ?_,rfl,q2 (fun w=>z (r2.nil_iff.mpr w)) _ (I.hok.fresh (dQ _))⟩
 exact⟨by rw[cx];exact hz,_,r1.append r2,IsTup.new _ _⟩
end
def ixN (n:Nat)(i:Int):Option Nat:=if 0≤i then (if i<n then some i.toNat else none) else if -(n:Int)≤i then some (i+n).toNat else none
def atI {α:Type}(xs:List α)(i:Int):Option α:=(ixN xs.length i).bind fun j=>xs[j]?
theorem su {n:Nat}{i:Int}{j:Nat}(h:ixN n i=some j):seqIndex? i n=some j∧j<n∧-(n:Int)≤i∧i<n:=by
 unfold ixN at h
 by_cases h0:0≤i
 ·rw[if_pos h0] at h
  by_cases h1:i<n
  ·rw[if_pos h1] at h
   have e:i.toNat=j:=cA h
   exact⟨by rw[seqIndex_of h0 h1,e],by omega,by omega,h1⟩
  ·rw[if_neg h1] at h;cases h
 ·rw[if_neg h0] at h
  by_cases h1:-(n:Int)≤i
  ·rw[if_pos h1] at h
   have e:(i+n).toNat=j:=cA h
   exact⟨by rw[seqIndex_neg (by omega) h1,e],by omega,h1,by omega⟩
  ·rw[if_neg h1] at h;cases h
theorem tZ {α:Type}{xs:List α}{i:Int}{v:α}(h:atI xs i=some v):∃j,seqIndex? i xs.length=some j∧xs[j]?=some v∧j<xs.length∧-(xs.length:Int)≤i∧i<xs.length:=by
 unfold atI at h
 cases e:ixN xs.length i with
 |none=>rw[e] at h;cases h
 |some j=>
  rw[e] at h
  obtain⟨h1,h2,h3,h4⟩:=su e
  exact⟨j,h1,h,h2,h3,h4⟩
theorem wA {α:Type}{xs:List α}{j:Nat}{v:α}(h:xs[j]?=some v):atI xs (j:Int)=some v:=by
 have hj:j<xs.length:=(dN.mp h).1
 have e:ixN xs.length (j:Int)=some j:=by
  unfold ixN
  rw[if_pos (by omega),if_pos (by omega)];simp
 unfold atI;rw[e];exact h
def pC (b:Expr):Prop:=∀o i,subscripted b false o i=operate [o,i] (getItem o i)
def IxR (X:Cx)(r:R2):Prop:=
 ∀(value slice:Expr) (pins:List (Addr×Obj)) (s:Shared) (σ:St) (H:Hp) (x y:V) (v u:Value) (Q:VK),Inv X pins σ H s→RelV x v→RelV y u→r x y H Q→
  subscripted slice false v u=operate [v,u] (getItem v u)→wpAny (model X.prog X.w) X.A (subscriptTail value slice v u) (EP X pins σ Q) X.xe s
def MtR (X:Cx)(id:String)(r:V→List V→Hp→VK→Prop):Prop:=
 ∀(pins:List (Addr×Obj)) (s:Shared) (σ:St) (H:Hp) (x:V) (xs:List V) (v:Value) (us:List Value) (Q:VK),Inv X pins σ H s→RelV x v→Vals xs us→r x xs H Q→
  wpAny (model X.prog X.w) X.A (call (.builtin id) (v::us)) (EP X pins σ Q) X.xe s
section
variable {X:Cx}{a b:Expr}{ta tb:TE}{pos:Pos}
theorem IxR.or {r r':R2}(h:IxR X r)(h':IxR X r'):IxR X (fun x y H Q=>r x y H Q∨r' x y H Q):=by
 intro value slice pins s σ H x y v u Q I rx ry q hs
 rcases q with q|q
 ·exact h value slice pins s σ H x y v u Q I rx ry q hs
 ·exact h' value slice pins s σ H x y v u Q I rx ry q hs
theorem zG {r:R2}(hr:IxR X r)(ha:PE X a ta)(hb:PE X b tb)(hs:pC b):PE X (.Subscript a b pos) (tOp r ta tb):=by
 intro pins s σ H Q I h
 exact Subscript_ (iC ha hb I h fun v u s2 x y H2 I2 rx ry q=>hr a b pins s2 σ H2 x y v u Q I2 rx ry q (hs _ _))
def eg (K:PySem.W.Frag):R2:=fun x y H Q=>∃p xs i v,x=.ref p∧y=.int i∧SqL K H p xs∧atI xs i=some v∧Q v H
def eu (K:PySem.W.Frag):R2:=fun x y H Q=>∃p xs i v,x=.ref p∧y=.int i∧SqT K H p xs∧atI xs i=some v∧Q v H
def eL :R2:=fun x y H Q=>∃z i c,x=.str z∧y=.int i∧z.length≤sizeLine∧atI z.cps.toList i=some c∧Q (.str ⟨#[c]⟩) H
theorem zK :IxR X (eg X.K):=by
 intro value slice pins s σ H x y v u Q I rx ry h hs
 obtain⟨p,xs,i,z,rfl,rfl,hq,he,q⟩:=h
 cases rx
 obtain⟨t,rfl⟩:=ry
 obtain⟨its,r,pl,hz⟩:=I.list hq
 obtain⟨j,h1,h2,h3,h4,h5⟩:=tZ he
 obtain⟨w,ew,rw'⟩:=r.get h2
 have hl:=r.length
 have hn:=wL
 have fin:EP X pins σ Q w s:=⟨z,H,I,rw',q⟩
 by_cases h0:0≤i
 ·have hj:i.toNat=j:=by
   rw[seqIndex_of h0 h5] at h1
   exact cA h1
  exact item_listR pl.isList h0 (by omega) (by rw[hj];simpa using ew) fin hs
 ·have hj:(i+(its.toArray.size:Int)).toNat=j:=by
   rw[seqIndex_neg (by omega) h4] at h1
   rw[dW,←hl]
   exact cA h1
  exact subscriptTail_builtinR (x:=w) pl.isList.typeIs slot_list_getitem.lookup
   (wpAny_getItem_list_neg (Q:=fun r s'=>r=w∧EP X pins σ Q r s') pl.isList (by omega) (by rw[dW]<;>omega) (by omega) (by rw[hj];simpa using ew) ⟨rfl,fin⟩) hs
theorem yj :IxR X (eu X.K):=by
 intro value slice pins s σ H x y v u Q I rx ry h hs
 obtain⟨p,xs,i,z,rfl,rfl,hq,he,q⟩:=h
 cases rx
 obtain⟨t,rfl⟩:=ry
 obtain⟨its,r,pl,hz⟩:=I.tuple hq
 obtain⟨j,h1,h2,h3,h4,h5⟩:=tZ he
 obtain⟨w,ew,rw'⟩:=r.get h2
 have hl:=r.length
 have hn:=wL
 have fin:EP X pins σ Q w s:=⟨z,H,I,rw',q⟩
 exact subscriptTail_builtinR (x:=w) pl.typeIs slot_tuple_getitem.lookup
  (getItem_tuple (j:=j) (Q:=fun r s'=>r=w∧EP X pins σ Q r s') pl (by omega) (by omega) (by rw[dW,←hl];exact h1) (by simpa using ew) ⟨rfl,fin⟩) hs
theorem iS :IxR X eL:=by
 intro value slice pins s σ H x y v u Q I rx ry h hs
 obtain⟨z,i,c,rfl,rfl,hz,he,q⟩:=h
 obtain⟨t,rfl⟩:=rx
 obtain⟨t',rfl⟩:=ry
 obtain⟨j,h1,h2,h3,h4,h5⟩:=tZ he
 have hl:z.cps.toList.length=z.length:=by simp[Str.length]
 rw[hl] at h1 h4 h5
 have hn:=wL
 exact tail_any (typeIs_str s z t) slot_str_getitem.lookup (getItem_str (c:=c) (by
  have e1:decide (i < -(2 ^ 63:Int))=false:=cY (by omega)
  have e2:decide (i≥2 ^ 63)=false:=cY (by omega)
  rw[e1,e2,Bool.or_false]) (by rw[h1];simpa using h2) ⟨.str ⟨#[c]⟩,H,I.tok _,⟨_,rfl⟩,q⟩) hs
def rIx (K:PySem.W.Frag):R2:=fun x y H Q=>eg K x y H Q∨eu K x y H Q∨eL x y H Q
theorem gr :IxR X (rIx X.K):=zK.or (yj.or iS)
theorem rV (its:List Value)(n j:Nat)(u:Value):Obj.mapSeq (·.setIfInBounds j u) {cls:=.type "list",data:=.seq its.toArray n}={cls:=.type "list",data:=.seq (its.set j u).toArray n}:=by
 simp[Obj.mapSeq]
theorem Inv.lst {pins:List (Addr×Obj)}{σ:St}{H:Hp}{s:Shared}{p:Addr}{xs:List V}(I:Inv X pins σ H s)(h:H p=some (.lst xs)):
  ∃(its:List Value) (n:Nat),Vals xs its∧s.heap.get? p=some {cls:=.type "list",data:=.seq its.toArray n}∧xs.length≤sizeLine:=by
 obtain⟨z,its,n,r,e⟩:=I.hok p _ h
 exact⟨its,n,r,e,z⟩
theorem Inv.lstUpd {pins:List (Addr×Obj)}{σ:St}{H:Hp}{s:Shared}{p:Addr}{xs ys:List V}{its its':List Value}{n n':Nat}{f:Obj→Obj}(I:Inv X pins σ H s)(h:H p=some (.lst xs))
  (ho:s.heap.get? p=some {cls:=.type "list",data:=.seq its.toArray n}) (hf:f {cls:=.type "list",data:=.seq its.toArray n}={cls:=.type "list",data:=.seq its'.toArray n'}) (r:Vals ys its') (hz:ys.length≤sizeLine) (t:Nat):
  Inv X pins σ (upd H p (.lst ys)) {s with heap:=s.heap.update p f,toks:=t}:=by
 have e:(s.heap.update p f).get? p=some {cls:=.type "list",data:=.seq its'.toArray n'}:=by
  rw[cN f ho (by rw[hf]<;>rfl),hf]
 refine I.write (x:=p) (e:=p) (by rw[h];trivial) (.inl rfl) (fun b u hb q=>(cj _ _ (aa hb)).trans q) ⟨_,e⟩ ?_
 exact⟨hz,its',n',r,e⟩
def jU :V→V→V→Hp→(Hp→Prop)→Prop:=fun o i v H Q=>∃p xs k j,o=.ref p∧i=.int k∧H p=some (.lst xs)∧ixN xs.length k=some j∧Q (upd H p (.lst (xs.set j v)))
theorem set_list :fj X jU:=by
 intro pins s σ H o i v ov iv u Q I ro ri rv h
 obtain⟨p,xs,k,j,rfl,rfl,hp,hj,q⟩:=h
 cases ro
 obtain⟨t,rfl⟩:=ri
 obtain⟨its,n,r,ho,hz⟩:=I.lst hp
 obtain⟨h1,h2,h3,h4⟩:=su hj
 have hl:=r.length
 have hn:=wL
 have I':Inv X pins σ (upd H p (.lst (xs.set j v))) {s with heap:=s.heap.update p (Obj.mapSeq (·.setIfInBounds j u))}:=
  I.lstUpd hp ho (rV its n j u) (r.set rv j) (by rw[cq];exact hz) s.toks
 by_cases h0:0≤k
 ·have hk:k.toNat=j:=by
   rw[seqIndex_of h0 h4] at h1
   exact cA h1
  exact PySem.W.ki_setAt ho h0 (by omega) (by rw[dW,←hl];exact h4) (by rw[hk];exact⟨_,I',q⟩)
 ·have hk:(k+(its.toArray.size:Int)).toNat=j:=by
   rw[seqIndex_neg (by omega) h3] at h1
   rw[dW,←hl]
   exact cA h1
  exact PySem.W.ki_setBack ho (by omega) (by rw[dW,←hl];exact h3) (by omega) (by rw[hk];exact⟨_,I',q⟩)
theorem sy (lo hi:Option Int)(n:Nat):(sliceBounds lo hi none n).1=((HT.sIx n 0 lo:Nat):Int)∧(sliceBounds lo hi none n).2.1=((HT.sIx n n hi:Nat):Int)∧(sliceBounds lo hi none n).2.2=1:=by
 refine⟨?_,?_,rfl⟩
 ·cases lo with
  |none=>simp[sliceBounds,HT.sIx]
  |some i=>
   simp only[sliceBounds,HT.sIx,Option.getD_none,show (1:Int) > 0 by decide,if_true]
   by_cases h:i<0
   ·simp only[h,if_true]<;>omega
   ·simp only[h,if_false]<;>omega
 ·cases hi with
  |none=>simp[sliceBounds,HT.sIx]
  |some i=>
   simp only[sliceBounds,HT.sIx,Option.getD_none,show (1:Int) > 0 by decide,if_true]
   by_cases h:i<0
   ·simp only[h,if_true]<;>omega
   ·simp only[h,if_false]<;>omega
theorem uy (its:List Value)(lo hi:Option Int):slicePick its.toArray lo hi none=((its.drop (HT.sIx its.length 0 lo)).take (HT.sIx its.length its.length hi-HT.sIx its.length 0 lo)).toArray:=by
 obtain⟨h1,h2,h3⟩:=sy lo hi its.toArray.size
 unfold slicePick
 rw[h1,h2,h3]
 simp only[sliceRange_one,pick_run,dW]<;>rfl
def dC (K:PySem.W.Frag):V→Option Int→Option Int→Hp→VK→Prop:=fun x lo hi H Q=>∃a xs,x=.ref a∧SqL K H a xs∧∀p,H p=none→Q (.ref p) (upd H p (.lst (vW xs lo hi)))
theorem pF :SlR X (dC X.K):=by
 intro pins s σ H x v vl vu lo hi sl Q I rx hs pl pu h
 obtain⟨a,xs,rfl,hx,q⟩:=h
 cases rx
 obtain⟨its,r,ht,hz⟩:=I.list hx
 have hlen:=r.length
 refine⟨"list",_,slot_list_getitem.lookup,ht.isList.typeIs,?_⟩
 refine wpAny_getItem_list_slice ht.isList hs pl pu .none (by simp) ?_ (by rw[dW]<;>omega)
 rw[uy,←hlen]
 refine⟨.ref s.heap.objs.size,_,I.laid (t':=s.toks) (o:=.lst (vW xs lo hi)) (fun b ob q=>dM _ q) (dQ _) ?_,rfl,q _ (I.hok.fresh (dQ _))⟩
 exact⟨cM (va xs lo hi) hz,_,0,(r.drop (HT.sIx xs.length 0 lo)).take (HT.sIx xs.length xs.length hi-HT.sIx xs.length 0 lo),cK _ rfl⟩
theorem zW :xX X (.builtin "len") (fun xs H Q=>∃p ys,xs=[.ref p]∧(SqL X.K H p ys∨SqT X.K H p ys)∧Q (.int ys.length) H):=by
 intro pins s σ H xs us Q I r h
 obtain⟨p,ys,rfl,hq,q⟩:=h
 obtain⟨u,rfl,rx⟩:=vals1 r
 cases rx
 have hn:=wL
 rcases hq with hq|hq
 ·obtain⟨its,r',pl,hz⟩:=I.list hq
  have hlen:=r'.length
  exact Calls.call_len_list pl.isList (by simp only[dW]<;>omega) ⟨.int ys.length,H,I.tok _,⟨s.toks+1,by rw[dW,hlen]⟩,q⟩
 ·obtain⟨its,r',pl,hz⟩:=I.tuple hq
  have hlen:=r'.length
  exact len_tuple pl (by simp only[dW]<;>omega) ⟨.int ys.length,H,I.tok _,⟨s.toks+1,by rw[dW,hlen]⟩,q⟩
theorem wG :xX X (.type "list") (fun xs H Q=>∃p ys,xs=[.ref p]∧(SqL X.K H p ys∨SqT X.K H p ys)∧∀l,H l=none→Q (.ref l) (upd H l (.lst ys))):=by
 intro pins s σ H xs us Q I r h
 obtain⟨p,ys,rfl,hq,q⟩:=h
 obtain⟨u,rfl,rx⟩:=vals1 r
 cases rx
 have fin:∀(its:List Value),Vals ys its→ys.length≤sizeLine→∀(h':Heap) (c':Nat),(∀b o',s.heap.get? b=some o'→h'.get? b=some o')→
   h'.get? s.heap.objs.size=some {cls:=.type "list",dict:=none,data:=.seq its.toArray c',slots:=#[]}→EP X pins σ Q (.ref s.heap.objs.size) {s with heap:=h'}:=fun its r' hz h' c' kp e=>
  ⟨.ref s.heap.objs.size,_,I.laid (t':=s.toks) kp (dQ _) (show zZ X.prog X.w _ h' _ (.lst ys) from ⟨hz,its,c',r',e⟩),rfl,q _ (I.hok.fresh (dQ _))⟩
 rcases hq with hq|hq
 ·obtain⟨its,r',pl,hz⟩:=I.list hq
  have hlen:=r'.length
  obtain⟨o,ho,hc,n,hd⟩:=pl.isList
  exact call_list_seq p (.inl rfl) ho hc hd (fun h' c' kp e=>fin its r' hz h' c' kp e) (by simp only[dW]<;>omega)
 ·obtain⟨its,r',pl,hz⟩:=I.tuple hq
  have hlen:=r'.length
  obtain⟨o,ho,hc,n,hd⟩:=pl
  exact call_list_seq p (.inr rfl) ho hc hd (fun h' c' kp e=>fin its r' hz h' c' kp e) (by simp only[dW]<;>omega)
def tyV (K:PySem.W.Frag)(T:String)(x:V)(H:Hp):Prop:=match x with
 |.str _=>T="str"
 |.int _=>T="int"
 |.ref p=>(T="list"∧∃xs,SqL K H p xs)∨(T="tuple"∧∃o,K.lookup p=some o∧o.cls=.type "tuple"∧o.dict=none)∨
   (T="dict"∧((∃kvs,H p=some (.dK kvs))∨∃kvs,H p=some (.dT kvs)))∨(T="set"∧∃S n,H p=some (.set S n))
 |_=>False
theorem hJ {pins:List (Addr×Obj)}{σ:St}{H:Hp}{s:Shared}{T:String}{x:V}{v:Value}(I:Inv X pins σ H s)(r:RelV x v)(ty:tyV X.K T x H):
  s.TypeIs v T∧∀a,v=.ref a→∃ob,s.heap.get? a=some ob∧ob.dict=none:=by
 cases x with
 |str z=>
  obtain⟨t,rfl⟩:=r
  cases (show T="str" from ty)
  exact⟨typeIs_str s z t,fun _ e=>nomatch e⟩
 |int i=>
  obtain⟨t,rfl⟩:=r
  cases (show T="int" from ty)
  exact⟨typeIs_int s i t,fun _ e=>nomatch e⟩
 |ref p=>
  cases r
  rcases ty with ⟨rfl,xs,hq⟩|⟨rfl,o,hk,hc,hd⟩|⟨rfl,hk⟩|⟨rfl,S,n,hk⟩
  ·obtain⟨its,_,pl,_⟩:=I.list hq
   refine⟨pl.isList.typeIs,fun a e=>?_⟩
   cases e
   obtain⟨o,n,e,c,hd,_⟩:=pl
   exact⟨o,e,hd⟩
  ·refine⟨⟨o,I.kIn p o hk,hc⟩,fun a e=>?_⟩
   cases e
   exact⟨o,I.kIn _ o hk,hd⟩
  ·have z:∃o,s.heap.get? p=some o∧o.ExactDict:=by
    rcases hk with ⟨kvs,hk⟩|⟨kvs,hk⟩
    ·obtain⟨_,_,_,_,o,_,_,e,ex,_⟩:=I.hok p _ hk
     exact⟨o,e,ex⟩
    ·obtain⟨_,_,_,_,o,_,_,e,ex,_⟩:=I.hok p _ hk
     exact⟨o,e,ex⟩
   obtain⟨o,e,ex⟩:=z
   refine⟨⟨o,e,ex.1⟩,fun a e2=>?_⟩
   cases e2
   exact⟨o,e,ex.2.1⟩
  ·obtain⟨o,_,_,_,e,ex,_⟩:=I.hok p _ hk
   refine⟨⟨o,e,ex.1⟩,fun a e2=>?_⟩
   cases e2
   exact⟨o,e,ex.2.1⟩
 |_=>exact False.elim ty
def tBM (K:PySem.W.Frag)(T:String)(r:V→List V→Hp→VK→Prop)(to:TE)(t:TA):TE:=fun σ H Q=>to σ H fun x H1=>tyV K T x H1∧t σ H1 fun xs H2=>r x xs H2 Q
variable {o e:Expr}{es:List Expr}{to:TE}{t:TA}{name:Str}{apos cpos:Pos}{T id:String}{r:V→List V→Hp→VK→Prop}
theorem jT (pa:PlainAttrs T)(slot:Slot T name id)(hty:typeOf (.builtin id)=pure (.type "method_descriptor"))(hm:MtR X id r)(ho:PE X o to)(ha:PA X (e::es) t)
  (hbase:attributeBase o name X.env (eval o X.env)=eval o X.env:=by rfl)
  (hfew:((backTo cpos (starEach (e::es) X.env)).all (fun x=>!x.1)&&(backToKw cpos (keywordEach [] X.env)).all (fun x=>x.1.isSome)
   &&decide ((e::es).length+([]:List Keyword).length+(if ([]:List Keyword).isEmpty then 0 else 1)<30))=true:=by rfl)
  (hline:(apos.endLine == cpos.line)=true:=by rfl) (hs:starEach (e::es) X.env=(false,eval e X.env)::starEach es X.env:=by rfl) (hplain:(backTo cpos (starEach es X.env)).any (·.1)=false:=by rfl):
  PE X (.Call (.Attribute o name apos) (e::es) [] cpos) (tBM X.K T r to t):=by
 intro pins s σ H Q I h
 refine wpAny_Call_method_late hbase hfew hline rfl (thn (ho pins s σ H _ I h) fun v s1 ⟨x,H1,I1,r1,ty,q1⟩=>?_)
 obtain⟨h1,h2⟩:=hJ I1 r1 ty
 refine⟨T,id,pa,slot,hty,h1,h2,?_⟩
 have hA:=ha cpos pins s1 σ H1 _ I1 q1
 rw[hs] at hA ⊢
 refine Calls.callWith_builtin (by show (false||(backTo cpos (starEach es X.env)).any (·.1))=false;rw[hplain]<;>rfl) (Calls.evalArgs_plain ?_)
 exact thn hA fun us s2 ⟨vs,H2,I2,r2,q2⟩=>hm pins s2 σ H2 x vs v us Q I2 r1 r2 q2
/- xs.append(e),list.index on a module's tuple .. are MtR facts of 06m -/
end
def MtM (X:Cx)(id:String)(r:V→List V→Hp→VK→Prop):Prop:=
 ∀(pins:List (Addr×Obj)) (s:Shared) (σ:St) (H:Hp) (x:V) (xs:List V) (v:Value) (us:List Value) (Q:VK),Inv X pins σ H s→RelV x v→Vals xs us→r x xs H Q→
  wpAny (model X.prog X.w) X.A (call (.builtin id) (v::us)) (EP X pins σ Q) X.xe s
theorem Vals.one :∀{x:V} {us:List Value},Vals [x] us→∃u,us=[u]∧RelV x u
 |_,_,.cons r .nil=>⟨_,rfl,r⟩
theorem Vals.two :∀{x y:V} {us:List Value},Vals [x,y] us→∃u v,us=[u,v]∧RelV x u∧RelV y v
 |_,_,_,.cons r (.cons q .nil)=>⟨_,_,rfl,r,q⟩
theorem Vals.eraseIdx :∀{xs:List V} {us:List Value} (i:Nat),Vals xs us→Vals (xs.eraseIdx i) (us.eraseIdx i)
 |_,_,_,.nil=>.nil
 |_,_,0,.cons _ t=>t
 |_,_,i+1,.cons r t=>.cons r (Vals.eraseIdx i t)
theorem uL {α:Type}:∀(l:List α) (i:Nat),(l.eraseIdx i).length≤l.length
 |[],_=>dQ _
 |_::_,0=>bK _
 |_::r,i+1=>Nat.succ_le_succ (uL r i)
section
variable {X:Cx}{pins:List (Addr×Obj)}{σ:St}{H:Hp}{s:Shared}{l b:Addr}{xs ys zs:List V}
theorem Inv.lset {its its':List Value}{n:Nat}{f:Array Value→Array Value}{t':Nat}(I:Inv X pins σ H s)(hH:H l=some (.lst xs))
  (e:s.heap.get? l=some {cls:=.type "list",data:=.seq its.toArray n}) (hf:f its.toArray=its'.toArray) (hv:Vals ys its') (hz:ys.length≤sizeLine):
  Inv X pins σ (upd H l (.lst ys)) {s with heap:=s.heap.update l (Obj.mapSeq f),toks:=t'}:=by
 have q:=PySem.IsL.update e f
 rw[hf] at q
 refine I.write (x:=l) (e:=l) (by rw[hH];exact trivial) (.inl rfl) (fun b' u hb hu=>(cj s.heap (Obj.mapSeq f) (aa hb)).trans hu) ⟨_,q⟩ ?_
 exact⟨hz,its',_,hv,q⟩
theorem Inv.fresh (I:Inv X pins σ H s):H s.heap.objs.size=none:=I.hok.fresh (dQ _)
theorem Inv.lstM (I:Inv X pins σ H s)(hH:H l=some (.lst xs)):xs.length≤sizeLine∧∃(its:List Value) (n:Nat),Vals xs its∧xs.length=its.length∧s.heap.get? l=some {cls:=.type "list",data:=.seq its.toArray n}:=by
 obtain⟨z,its,n,r,e⟩:=I.hok l _ hH
 exact⟨z,its,n,r,r.length,e⟩
end
section
variable {X:Cx}
def kZ :V→List V→Hp→VK→Prop:=fun x vs H Q=>∃l xs y,x=.ref l∧vs=[y]∧H l=some (.lst xs)∧xs.length<sizeLine∧Q .non (upd H l (.lst (xs++[y])))
theorem uU :MtM X "list.append" kZ:=by
 intro pins s σ H x vs v us Q I rx rv h
 obtain⟨l,xs,y,rfl,rfl,hH,hz,q⟩:=h
 cases rx
 obtain⟨u,rfl,ru⟩:=rv.one
 obtain⟨z,its,n,r,hl,e⟩:=I.lstM hH
 refine call_meets F.slot_list_append ⟨_,e,rfl⟩ F.entry_list_append (F.args_list_append_2 _ _) (PySem.list_append l its.toArray n u (by rw[dW];omega)) ⟨e,?_⟩
 refine⟨.non,_,I.lset (its':=its++[u]) hH e (by simp) (r.append (.cons ru .nil)) ?_,rfl,q⟩
 rw[cx,aE]
 omega
def gB :V→List V→Hp→VK→Prop:=fun x vs H Q=>∃l xs i k y,x=.ref l∧vs=[.int i]∧H l=some (.lst xs)∧-(2 ^ 63)≤i∧i<2 ^ 63∧seqIndex? i xs.length=some k∧xs[k]?=some y∧Q y (upd H l (.lst (xs.eraseIdx k)))
theorem me :MtM X "list.pop" gB:=by
 intro pins s σ H x vs v us Q I rx rv h
 obtain⟨l,xs,i,k,y,rfl,rfl,hH,h1,h2,hk,hy,q⟩:=h
 cases rx
 obtain⟨u,rfl,ru⟩:=rv.one
 obtain⟨t,rfl⟩:=ru
 obtain⟨z,its,n,r,hl,e⟩:=I.lstM hH
 obtain⟨w,hw,rw'⟩:=r.get hy
 refine call_meets F.slot_list_pop ⟨_,e,rfl⟩ F.entry_list_pop (F.args_list_pop_2 _ _)
  (MeetsSeq.list_pop_at l its.toArray n i t k w (fitsIndex_both h1 h2) (by rw[dW,←hl];exact hk) (by rw[←Array.getElem?_toList];exact hw) (by rw[dW];omega)) ⟨e,?_⟩
 refine⟨y,_,I.lset (its':=its.eraseIdx k) hH e ?_ (r.eraseIdx k) ?_,rw',q⟩
 ·show its.toArray.eraseIdxIfInBounds k=(its.eraseIdx k).toArray
  rw[List.eraseIdxIfInBounds_toArray]
 ·have:=uL xs k
  omega
end
section
variable {prog:Program}{w:World}{A:Around}{E:Value→Shared→Prop}{s:Shared}
end
section
variable {X:Cx}
end
end L2
namespace Att
open PySem PySem.W PySem.Calls PyProof.Rows
theorem vm {P:Params}{h:Heap}:∀(ns:List Int) (vs:List Value),WellAll P h vs (ns.map WData.int)→IntsAre vs ns:=by
 intro ns
 induction ns with
 |nil=>
  intro vs w
  rw[List.map_nil] at w
  cases w
  exact .nil
 |cons n ns ih=>
  intro vs w
  rw[bV] at w
  cases w with
  |cons a b=>
   cases a
   exact .cons _ _ (ih _ b)
theorem nG {l:OpenLaw}{n:Nat}(hn:l.most=some n){P:Params}{h:Heap}{args:List WData}{vals:List Value}
  (hpre:l.row.toRowW.claim.pre args=true) (hwl:WellAll P h vals args):
  ∃a vs ns,vals=[Value.ref a]∧args=[WData.list (ns.map WData.int)]∧h.get? a=some {cls:=.type "list",data:=.seq vs.toArray}∧IntsAre vs ns∧ns.length≤n:=by
 have hsh:WShape.hasAll [] args [.list .int]=true:=(pre_splitW hpre).1
 have hc:l.pre.holds [] {args:=args}=true:=(pre_splitW hpre).2
 obtain⟨d,r,rfl,h1,h2⟩:=hasAllW_cons hsh
 obtain rfl:=hasAllW_nil h2
 obtain⟨xs,rfl,h3⟩:=hasW_list h1
 obtain⟨ns,rfl⟩:=items_int h3
 have hlen:ns.length≤n:=by
  unfold OpenLaw.pre at hc
  have h4:(WTm.not (.lt (.lit (.int (n:Int))) (.len (.arg 0)))).holds [] {args:=[.list (ns.map .int)]}=true:=by
   have h4:=(holds_andW hc).1
   rw[hn] at h4
   exact h4
  have h5:=condW_of h4 (w_not (w_lt w_lit (w_len_list (w_arg rfl))))
  rw[dU] at h5
  refine Nat.le_of_not_lt fun q=>?_
  have q':(n:Int)<((ns.length:Nat):Int):=by omega
  first
   |(rw[bf q'] at h5;exact absurd h5 (by decide))
   |(simp at h5;omega)
 cases hwl with
 |cons w1 w2=>
  cases w2
  cases w1 with
  |list ho hall=>exact⟨_,_,ns,rfl,rfl,ho,vm ns _ hall,hlen⟩
theorem ny (l:OpenLaw)(args:List WData):l.row.toRowW.claim.post args (.bool true) args=true:=
 postW_of (r:=l.row.toRowW) (X:=(true == true))
  (show WShape.has [] (.bool true) .bool=true by first|rfl|decide|simp[WShape.has,WShape.arms,WShape.armsAll])
  (show (WTm.eq .res (.lit (.bool true))).value [] {args:=args,res:=some (.bool true),after:=args}=some (.bool (true == true)) from w_eq_bool (w_res rfl) w_lit) rfl
theorem attach_call {l:OpenLaw}{n:Nat}{q:Program}{loose:List Str}{XP:(Str→Option Value)→Heap→Prop}{YP:World→Heap→Prop}{d:DefRec}
  (hn:l.most=some n) (hdf:d.params.defaults=[])
  (call:∀(w:World) (s₀ s₁:Shared) (mg mb:Str→Option Value) (fa:Addr) (o:Obj) (pm cd doc:Value) (a:Addr) (vs:List Value) (ns:List Int),
   Ground q loose [] XP w s₀ mg mb s₁.heap→YP w s₁.heap→
   s₁.heap.get? fa=some o→o.data=.func (docDef d.name d.params d.body d.scope pm cd doc)→s₁.heap.CodeRec cd d.name→mg d.name=some (.ref fa)→
   s₁.heap.get? a=some {cls:=.type "list",data:=.seq vs.toArray}→IntsAre vs ns→ns.length≤n→s₁.gens=#[]→
   codeAny (model l.prog w) callerA (.call (.ref fa) ⟨[.ref a],[]⟩) (fun r s'=>r=.ok (.ret (.bool true))∧OldK s₁.heap s'.heap∧s'.os=s₁.os∧AllBare s'.gens) s₁):
  WalkO q loose XP YP l.row.toRowW d [] (fun f vs=>PySem.call f vs):=by
 intro w s₀ s₁ mg mb G Y fa o pm cd doc dV kV ho hd hcd hD hmg hg args vals as hpre hlay hrd hwl hlo
 obtain rfl:dV=.none:=Dflts.none hD hdf
 obtain rfl:kV=.none:=Dflts.noKw hD
 obtain⟨a,vs,ns,rfl,rfl,hobj,hints,hlen⟩:=nG hn hpre hwl
 refine enter_call (ae (call w s₀ s₁ mg mb fa o pm cd doc a vs ns G Y ho (fd_plain hd) hcd hmg hobj hints hlen hg) fun r s' hq=>?_)
 obtain⟨rfl,h2,h3,h4⟩:=hq
 exact⟨.inl ⟨.bool true,.bool true,[],rfl,fun _=>rfl,.bool true,ny l _,fun _=>⟨List.Pairwise.nil,fun _ hm=>(nomatch hm)⟩⟩,h2,h3,h4⟩
section
variable {prog:Program}{w:World}{A:Around}{E:Value→Shared→Prop}{s:Shared}{K:Frag}
end
end Att
namespace L2
open PySem PySem.Spec PyProof.Rows
theorem uC :∀{vs:List Value} {ns:List Int},IntsAre vs ns→Vals (ns.map V.int) vs
 |_,_,.nil=>.nil
 |_,_,.cons n t h=>.cons ⟨t,rfl⟩ (uC h)
def iQ (H:Hp):Prop:=∀b,H b=none∨∃o xs,H b=some (.frz o (.lst xs))
theorem mU {P:Program}{w:World}{K:PySem.W.Frag}{mg mb:Str→Option Value}{CX:CXT}{k:Nat}{fa a:Addr}{fd:FuncData}{x:Str}{sp:Sp}{s₁:Shared}{vs:List Value}{ns:List Int}
  (KX:K.In s₁.heap) (hns:s₁.heap.Ns mainGlobals mg) (hb:s₁.heap.Ns builtinsNs mb) (hbb:∀x:Str,x≠"__name__"→mb x=bootBuiltins x) (hlim:s₁.heap.NoLimit) (hg:s₁.gens=#[])
  (ha:s₁.heap.get? a=some {cls:=.type "list",data:=.seq vs.toArray}) (hi:IntsAre vs ns) (hl:ns.length≤sizeLine) (hr:zI k callerA)
  (F:∀base:Heap,K.In base→base.Ns mainGlobals mg→zt P w K mg base CX k fa fd [x] sp) (hbind:∀(s:Shared) (u:Value),BindsTo s fd ⟨[u],[]⟩ [(x,u)])
  (hsp:∀H:Hp,iQ H→SqL K H a (ns.map V.int)→sp [.ref a] H (fun v _=>v=.bl true) fun _ _ _=>False)
  (hCX:∀H e s',CX [] H s₁ (fun _ _ _=>False) e s'→False):
  codeAny (model P w) callerA (.call (.ref fa) ⟨[.ref a],[]⟩) (fun r s'=>r=.ok (.ret (.bool true))∧OldK s₁.heap s'.heap∧s'.os=s₁.os∧AllBare s'.gens) s₁:=by
 have rv:=uC hi
 have lenV:=hi.length
 -- from an abstract heap in which nothing but the script may be tracked
 have core:∀H:Hp,iQ H→SqL K H a (ns.map V.int)→HOk P w H s₁.heap→(∀b,H b≠none→b=a)→(H a≠none→K.lookup a=none)→
   codeAny (model P w) callerA (.call (.ref fa) ⟨[.ref a],[]⟩) (fun r s'=>r=.ok (.ret (.bool true))∧OldK s₁.heap s'.heap∧s'.os=s₁.os∧AllBare s'.gens) s₁:=by
  intro H hO hS hok hA hK
  have base_of:∀{b:Addr} {o:Obj},s₁.heap.get? b=some o→H b=none→(tG s₁.heap H).get? b=some o:=fun e n=>ll e n
  have noA:∀{b:Addr} {o:Obj} {es:Array DictEntry} {ep:Nat},s₁.heap.get? b=some o→o.data=.dict es ep→H b=none:=fun {b o es ep} e d=>by
   cases q:H b with
   |none=>rfl
   |some u=>
    have e':b=a:=hA b (by rw[q];simp)
    subst e'
    rw[ha] at e;cases e
    have d':Data.seq vs.toArray _=Data.dict es ep:=d
    cases d'
  have nsK:∀{b:Addr} {m:Str→Option Value},s₁.heap.Ns b m→(tG s₁.heap H).Ns b m:=fun {b m} ⟨o,es,ep,e,d,r⟩=>⟨o,es,ep,base_of e (noA e d),d,r⟩
  have hKb:K.In (tG s₁.heap H):=fun b o e=>base_of (KX b o e) (by
   cases q:H b with
   |none=>rfl
   |some u=>
    have e':b=a:=hA b (by rw[q];simp)
    subst e'
    rw[hK (by rw[q];simp)] at e;cases e)
  have hM:Mod K mg (tG s₁.heap H):=⟨hKb,nsK hns,⟨mb,nsK hb,hbb⟩,let ⟨mc,h1,h2⟩:=hlim;⟨mc,nsK h1,h2⟩⟩
  have e0:qk P w K mg (tG s₁.heap H) callerA [] s₁ H:=⟨rfl,hM,fun b o e=>kL e,Nat.le_of_eq (oC _ _),trivial,fun b hb=>absurd (show b∈([]:List Addr) from hb) (by simp),hok,.of_eq hg⟩
  refine ae ((F _ hKb (nsK hns)).run callerA [] s₁ H ⟨[.ref a],[]⟩ [.ref a] [.ref a] _ _ hr e0 (hbind s₁ (.ref a)) (.cons rfl .nil) (hsp H hO hS)) fun r s' h=>?_
  cases r with
  |error e=>exact (hCX H e s' h).elim
  |ok fl=>
   cases fl with
   |next=>exact False.elim h
   |brk=>exact False.elim h
   |cont=>exact False.elim h
   |ret u=>
    obtain⟨v,H',os,bare,un,hok',r',q⟩:=h
    have q':v=.bl true:=q
    subst q'
    obtain rfl:u=Value.bool true:=r'
    refine⟨rfl,OldK.of_keep fun b o e=>?_,os,bare⟩
    cases q:H b with
    |none=>exact un.keep b o e q (by intro z;exact absurd (show b∈([]:List Addr) from z) (by simp)) (by simp)
    |some u=>
     rcases hO b with z|⟨ob,xs,z⟩
     ·rw[q] at z;cases z
     ·have z2:=un.frzs b ob _ z
      obtain⟨e1,_⟩:=hok b _ z
      obtain⟨e2,_⟩:=hok' b _ z2
      rw[e] at e1;cases e1
      exact e2
 cases hk:K.lookup a with
 |some o=>
  -- the script is one of the module's own objects
  have e:=KX a o hk
  rw[ha] at e
  cases e
  refine core (fun _=>none) (fun _=>.inl rfl) (.inr ⟨_,vs.toArray,_,hk,rfl,rfl,rfl,by rw[dW,lenV];exact hl,by simpa using rv⟩) (fun b u z=>by have z':(none:Option HO)=some u:=z;cases z') (fun b z=>absurd rfl z) fun z=>absurd rfl z
 |none=>
  refine core (fun b=>if b=a then some (.frz {cls:=.type "list",data:=.seq vs.toArray} (.lst (ns.map V.int))) else none) (fun b=>?_) (.inl (.inr ⟨{cls:=.type "list",data:=.seq vs.toArray},if_pos rfl⟩)) (fun b u z=>?_) (fun b z=>?_) fun _=>hk
  ·by_cases hb:b=a
   ·exact .inr ⟨_,_,if_pos hb⟩
   ·exact .inl (if_neg hb)
  ·by_cases hb:b=a
   ·have z':=(if_pos hb).symm.trans z
    cases z'
    subst hb
    exact⟨ha,by rw[dU];exact hl,vs,_,rv,ha⟩
   ·have z':=(if_neg hb).symm.trans z
    cases z'
  ·by_cases hb:b=a
   ·exact hb
   ·exact absurd (if_neg hb) z
theorem jF {l:PySem.W.OpenLaw}{n k:Nat}{q:Program}{loose:List Str}{XP:(Str→Option Value)→Heap→Prop}{YP:World→Heap→Prop}{d:DefRec}{K:Params→PySem.W.Frag}{CX:World→CXT}{sp:World→Sp}{x:Str}
  (hn:l.most=some n) (hn2:n≤sizeLine) (hdf:d.params.defaults=[]) (hr:zI k callerA)
  (hY:∀(w:World) (h:Heap),YP w h→(K w.params).In h)
  (F:∀(w:World) (mg:Str→Option Value) (fa:Addr) (h:Heap),(K w.params).In h→h.Ns mainGlobals mg→mg d.name=some (.ref fa)→
   ∃fd:FuncData,(∀(s:Shared) (u:Value),BindsTo s fd ⟨[u],[]⟩ [(x,u)])∧
    ∀base:Heap,(K w.params).In base→base.Ns mainGlobals mg→zt l.prog w (K w.params) mg base (CX w) k fa fd [x] (sp w))
  (hsp:∀(w:World) (H:Hp) (a:Addr) (ns:List Int),ns.length≤n→iQ H→SqL (K w.params) H a (ns.map V.int)→sp w [.ref a] H (fun v _=>v=.bl true) fun _ _ _=>False)
  (hCX:∀(w:World) (H:Hp) (s:Shared) (e:Value) (s':Shared),CX w [] H s (fun _ _ _=>False) e s'→False):
  PySem.W.WalkO q loose XP YP l.row.toRowW d [] (fun f vs=>PySem.call f vs):=by
 refine Att.attach_call hn hdf fun w s₀ s₁ mg mb fa o pm cd doc a vs ns G Y ho hd hcd hmg hobj hints hlen hg=>?_
 have KX:=hY w _ Y
 obtain⟨fd,hb,hF⟩:=F w mg fa _ KX G.T.g hmg
 exact mU KX G.T.g G.T.b G.T.builtins G.T.nolimit hg hobj hints (cM hlen hn2) hr hF hb (fun H hO hS=>hsp w H a ns hlen hO hS) fun H e s'=>hCX w H s₁ e s'
def inClass (s:Stmt)(j:Nat):Stmt:=match s with
 |.ClassDef _ _ _ body _ _ _ _ _ _ _=>body.getD j (.Pass ⟨0,0,0,0⟩)
 |_=>.Pass ⟨0,0,0,0⟩
def zU (s:Stmt):Arguments:=match s with
 |.FunctionDef _ a _ _ _ _ _ _ _ _=>a
 |_=>{posonlyargs:=[],args:=[],vararg:=none,kwonlyargs:=[],kw_defaults:=[],kwarg:=none,defaults:=[]}
def zq (s:Stmt):List Stmt:=match s with
 |.FunctionDef _ _ b _ _ _ _ _ _ _=>b
 |_=>[]
def za (s:Stmt):Scope:=match s with
 |.FunctionDef _ _ _ _ _ _ sc _ _ _=>sc
 |_=>{kind:=.function,names:=[],isGenerator:=false,isCoroutine:=false}
abbrev CX0 :CXT:=fun _ _ _ _ _ _=>False
abbrev E0 :XK:=fun _ _ _=>False
theorem zR {X:Cx}:Passes CX0 X E0:=fun _ _ _ _ _ _ _ h=>h.elim
structure Fun (K:PySem.W.Frag)(x qual:Str)(st:Stmt)(f:Addr)(fd:FuncData):Prop where
 ex:∃(oc:Value) (od:Option Addr) (kV doc pm:Value) (an:Option Addr) (cdv ct:Value) (osl:Array (Option Value)),
  fd=PySem.W.fnOf x qual (zU st) (zq st) (za st) .none kV doc pm an cdv ct∧K.lookup f=some ⟨oc,od,.func fd,osl⟩∧PySem.W.codeIn K cdv qual=true
 kp:PySem.W.keepIn K (.ref f)=true
section
variable {P:Program}{w:World}{K:PySem.W.Frag}{mg:Str→Option Value}{base:Heap}
theorem Fun.ok {x qual:Str}{st:Stmt}{f:Addr}{fd:FuncData}{N ps:List Str}{k:Nat}{sp:Sp}(F:Fun K x qual st f fd)(S:zl N ps (za st))(len:∀vs H Q E,sp vs H Q E→vs.length=ps.length)
  (hbody:∀(cdv:Value) (A:Around) (outer:List Env) (s:Shared) (H:Hp) (vs:List V) (Q:VK) (E:XK),zI k (A.deeper (envOfC qual (za st) s.heap.objs.size f cdv))→sp vs H Q E→
   ∃t,PSs (yF CX0 P w K mg base N qual (za st) f cdv A outer s H E).nox (zq st) t∧t {nx:=fun _ H'=>Q .non H',rt:=Q} (start N vs) H):zt P w K mg base CX0 (k+1) f fd ps sp:=by
 obtain⟨oc,od,kV,doc,pm,an,cdv,ct,osl,rfl,lk,hcd⟩:=F.ex
 refine pS lk hcd S len fun A outer s H vs Q E hr hsp=>?_
 obtain⟨t,h,q⟩:=hbody cdv A outer s H vs Q E hr hsp
 exact⟨t,h.nox,q⟩
theorem Fun.binds {x qual:Str}{st:Stmt}{f:Addr}{fd:FuncData}{ps:List Str}(F:Fun K x qual st f fd)
  (h:∀(kV doc pm:Value) (an:Option Addr) (cdv ct:Value) (us:List Value),us.length=ps.length→bindArgs (PySem.W.fnOf x qual (zU st) (zq st) (za st) .none kV doc pm an cdv ct) ⟨us,[]⟩=pure (ps.zip us)):Binds K fd ps []:=by
 obtain⟨oc,od,kV,doc,pm,an,cdv,ct,osl,rfl,lk,hcd⟩:=F.ex
 exact .all (h kV doc pm an cdv ct)
theorem lM {x qual:Str}{st:Stmt}{f:Addr}{oc:Value}{od an:Option Addr}{osl:Array (Option Value)}{kV doc pm cdv ct:Value}(l:K.lookup f=some ⟨oc,od,.func (PySem.W.fnOf x qual (zU st) (zq st) (za st) .none kV doc pm an cdv ct),osl⟩)
  (c:PySem.W.codeIn K cdv qual=true) (k:PySem.W.keepIn K (.ref f)=true):Fun K x qual st f (PySem.W.fnOf x qual (zU st) (zq st) (za st) .none kV doc pm an cdv ct):=⟨⟨oc,od,kV,doc,pm,an,cdv,ct,osl,rfl,l,c⟩,k⟩
end
theorem yH {n:Nat}(h:n≤1000):n<sizeLine:=Nat.lt_of_le_of_lt h (by decide)
section
variable {X:Cx}
theorem pv (i:Nat){x:Str}{pos:Pos}(hN:X.N[i]?=some x:=by rfl)(hv:Vis X.env.scope x:=by first|exact Or.inl rfl|exact Or.inr (Or.inl rfl)|exact Or.inr (Or.inr rfl))(hd:(x == ("__debug__":Str))=false:=by decide)
  (hcd:(x == ("__classdict__":Str))=false:=by decide):PE X (.Name x pos) (gy i):=yo hN hv hd hcd
end
theorem wC {A B:Prop}(h:B):if false=true then A else B:=by
 rw[if_neg dY]
 exact h
theorem wJ {A B:Prop}(h:A):if true=true then A else B:=by
 rw[if_pos rfl]
 exact h
theorem yg {c A B:Prop}[Decidable c](h1:c→A)(h2:¬c→B):if c then A else B:=by
 by_cases h:c
 ·rw[if_pos h]
  exact h1 h
 ·rw[if_neg h]
  exact h2 h
def zm (H H':Hp):Prop:=∀b o,H b=some o→H' b=some o
theorem zm.refl (H:Hp):zm H H:=fun _ _ h=>h
theorem zm.trans {H H1 H2:Hp}(a:zm H H1)(b:zm H1 H2):zm H H2:=fun c o h=>b c o (a c o h)
theorem zm.free {H H':Hp}(e:zm H H'){l:Addr}(h:H' l=Option.none):H l=Option.none:=by
 cases q:H l with
 |none=>rfl
 |some o=>
  rw[e l o q] at h
  cases h
theorem zm.seq {K:PySem.W.Frag}{H H':Hp}{a:Addr}{xs:List V}(e:zm H H')(h:SqL K H a xs):SqL K H' a xs:=by
 rcases h with (h|⟨o,h⟩)|h
 ·exact .inl (.inl (e _ _ h))
 ·exact .inl (.inr ⟨o,e _ _ h⟩)
 ·exact .inr h
def wq (cells:List (Str×Addr)):List (Str×NameKind)→List (Str×Addr)→List (Str×Addr)
 |[],acc=>acc
 |(n,k)::r,acc=>wq cells r (if k=.free then (n,(cells.lookup n).getD 0)::acc else acc)
theorem wm {env:Env}{scope:Scope}(h:∀y∈scope.names,y.2=.free→∃c,env.cells.lookup y.1=some c):
  closureFor scope env=pure (wq env.cells scope.names []):=by
 have key:∀(ns:List (Str×NameKind)) (acc:List (Str×Addr)),(∀y∈ns,y.2=.free→∃c,env.cells.lookup y.1=some c)→
   (forIn ns acc fun (x:Str×NameKind) (r:List (Str×Addr))=>(if (x.2 == NameKind.free)=true then (do let a ←cellOf env x.1;pure (ForInStep.yield ((x.1,a)::r))) else pure (ForInStep.yield r):Sem (ForInStep (List (Str×Addr)))))=pure (wq env.cells ns acc):=by
  intro ns
  induction ns with
  |nil=>intro acc _;rfl
  |cons y r ih=>
   intro acc hy
   obtain⟨n,k⟩:=y
   rw[List.forIn_cons]
   have hr:∀z∈r,z.2=.free→∃c,env.cells.lookup z.1=some c:=fun z hz=>hy z (dX _ hz)
   by_cases hk:k=.free
   ·subst hk
    obtain⟨c,hc⟩:=hy (n,.free) cv rfl
    have e1:cellOf env n=pure c:=by
     unfold cellOf
     rw[hc]
    have e2:((NameKind.free == NameKind.free)=true):=rfl
    simp only[e2,if_true,e1,pure_bind]
    rw[ih _ hr]
    show _=pure (wq env.cells r (if NameKind.free=NameKind.free then (n,(env.cells.lookup n).getD 0)::acc else acc))
    rw[if_pos rfl,hc]
    rfl
   ·have e2:(k == NameKind.free)=false:=by simpa using hk
    simp only[e2,Bool.false_eq_true,if_false,pure_bind]
    rw[ih _ hr]
    show _=pure (wq env.cells r (if k=NameKind.free then (n,(env.cells.lookup n).getD 0)::acc else acc))
    rw[if_neg hk]
 have q:=key scope.names [] h
 unfold closureFor
 simp only[] at q ⊢
 rw[show (forIn scope.names ([]:List (Str×Addr)) fun (x:Str×NameKind) (r:List (Str×Addr))=>_)=_ from q]
 rfl
theorem sJ {cells:List (Str×Addr)}:∀(ns:List (Str×NameKind)) (acc:List (Str×Addr)),(∀y∈ns,y.2=.free→∃c,cells.lookup y.1=some c)→
  ∀x c,(x,c)∈wq cells ns acc→(x,c)∈acc∨((x,NameKind.free)∈ns∧cells.lookup x=some c)
 |[],acc,_,x,c,h=>.inl h
 |(n,k)::r,acc,hy,x,c,h=>by
  have hr:∀z∈r,z.2=.free→∃c,cells.lookup z.1=some c:=fun z hz=>hy z (dX _ hz)
  have h':(x,c)∈wq cells r (if k=.free then (n,(cells.lookup n).getD 0)::acc else acc):=h
  rcases sJ r _ hr x c h' with q|⟨q1,q2⟩
  ·by_cases hk:k=.free
   ·rw[if_pos hk] at q
    rcases cm.mp q with e|q
    ·obtain⟨c',hc⟩:=hy (n,k) cv hk
     have e1:x=n:=congrArg Prod.fst e
     have e2:c=(cells.lookup n).getD 0:=congrArg Prod.snd e
     have hc':cells.lookup n=some c':=hc
     rw[hc'] at e2
     have e3:c=c':=e2
     subst e1 e3 hk
     exact .inr ⟨cv,hc'⟩
    ·exact .inl q
   ·rw[if_neg hk] at q
    exact .inl q
  ·exact .inr ⟨dX _ q1,q2⟩
theorem sR {cells:List (Str×Addr)}:∀(ns:List (Str×NameKind)) (acc:List (Str×Addr)) (p:Str×Addr),p∈acc→p∈wq cells ns acc
 |[],_,_,h=>h
 |(n,k)::r,acc,p,h=>by
  show p∈wq cells r (if k=.free then (n,(cells.lookup n).getD 0)::acc else acc)
  refine sR r _ p ?_
  split
  ·exact dX _ h
  ·exact h
theorem sP {cells:List (Str×Addr)}:∀(ns:List (Str×NameKind)) (acc:List (Str×Addr)) (x:Str),(x,NameKind.free)∈ns→∃c,(x,c)∈wq cells ns acc
 |[],_,_,h=>by simp at h
 |(n,k)::r,acc,x,h=>by
  show ∃c,(x,c)∈wq cells r (if k=.free then (n,(cells.lookup n).getD 0)::acc else acc)
  rcases cm.mp h with e|h
  ·have e1:x=n:=congrArg Prod.fst e
   have e2:NameKind.free=k:=congrArg Prod.snd e
   subst e1 e2
   rw[if_pos rfl]
   exact⟨_,sR r _ _ cv⟩
  ·exact sP r _ x h
theorem mem_lookup {x:Str}{c:Addr}:∀{l:List (Str×Addr)},(x,c)∈l→∃d,l.lookup x=some d
 |[],h=>by simp at h
 |(n,a)::r,h=>by
  rw[cQ]
  cases e:x == n with
  |true=>exact⟨a,rfl⟩
  |false=>
   rcases cm.mp h with q|q
   ·have e1:x=n:=congrArg Prod.fst q
    rw[e1] at e
    simp at e
   ·exact mem_lookup q
structure zO (XN:List Str)(xs:Scope)(N:List Str)(imp:List (Option Nat))(scope:Scope):Prop where
 kind:scope.kind=.function
 nd:N.Nodup
 nocell:∀y∈scope.names,y.2≠.cell
 locs:∀y∈scope.names,y.2=.local→scope.names.lookup y.1=some .local
 frees:∀y∈scope.names,y.2=.free→xs.names.lookup y.1=some .cell∨xs.names.lookup y.1=some .free
 len:imp.length=N.length
 impsB:((imp.zip N).all fun p=>match p.1 with|none=>true|some j=>XN[j]? == some p.2&&scope.names.lookup p.2 == some .free)=true
theorem zO.imps {XN N:List Str}{xs scope:Scope}{imp:List (Option Nat)}(S:zO XN xs N imp scope):∀(i j:Nat),imp[i]?=some (some j)→∃x,N[i]?=some x∧XN[j]?=some x∧scope.names.lookup x=some .free:=by
 intro i j h
 have hi:i<imp.length:=(dN.mp h).1
 have hn:i<N.length:=by rw[←S.len];exact hi
 have hx:N[i]?=some N[i]:=dP hn
 have hm:(some j,N[i])∈imp.zip N:=by
  have hz:(imp.zip N)[i]?=some (some j,N[i]):=by
   rw[List.getElem?_zip_eq_some]
   exact⟨h,hx⟩
  exact cP hz
 have q:=aj.mp S.impsB _ hm
 have q':(XN[j]? == some N[i]&&scope.names.lookup N[i]==some .free)=true:=q
 rw[cy] at q'
 exact⟨N[i],hx,eq_of_beq q'.1,eq_of_beq q'.2⟩
def xi (imp:List (Option Nat))(σ:St):St:=imp.map fun o=>o.bind fun j=>(σ[j]?).bind id
theorem oJ {imp:List (Option Nat)}{σ:St}{i:Nat}{v:V}(h:(xi imp σ)[i]?=some (some v)):∃j,imp[i]?=some (some j)∧σ[j]?=some (some v):=by
 unfold xi at h
 rw[cH] at h
 cases e:imp[i]? with
 |none=>rw[e] at h;cases h
 |some o=>
  rw[e] at h
  have h':(o.bind fun j=>(σ[j]?).bind id)=some v:=cA h
  cases o with
  |none=>cases h'
  |some j=>
   have h2:(σ[j]?).bind id=some v:=h'
   cases e2:σ[j]? with
   |none=>rw[e2] at h2;cases h2
   |some w=>
    rw[e2] at h2
    have h3:w=some v:=h2
    exact⟨j,rfl,by rw[e2,h3]⟩
def Cx.comp (X:Cx)(N:List Str)(scope:Scope)(C:Addr)(s2:Shared)(H2:Hp)(fp:List Addr):Cx where
 prog:=X.prog
 w:=X.w
 K:=X.K
 mg:=X.mg
 base:=X.base
 A:=X.A
 N:=N
 s₀:=s2
 H₀:=H2
 env:=compEnvC scope (wq X.env.cells scope.names []) C X.env
 outer:=X.stack
 stack:=X.stack
 ex:=fp
 fn:=fun _=>false
 calm:=X.calm
 pn:=[]
 xe:=fun _ _=>False
theorem wF {env:Env}:∀{names:List (Str×NameKind)} {x:Str},
  (names.map fun (n,k)=>if (k == NameKind.free&&env.scope.kind == .function&&env.kindOf n == some .cell) then (n,NameKind.cell) else (n,k)).lookup x=some .cell∨
  (names.map fun (n,k)=>if (k == NameKind.free&&env.scope.kind == .function&&env.kindOf n == some .cell) then (n,NameKind.cell) else (n,k)).lookup x=some .free→
  (∀y∈names,y.2≠.cell)→(x,NameKind.free)∈names
 |[],x,h,_=>by simp at h
 |(n,k)::r,x,h,hc=>by
  have ih:=@wF env r x
  rw[bV] at h
  dsimp only at h
  by_cases hx:x=n
  ·subst hx
   by_cases hk:k=.free
   ·subst hk;exact cv
   ·have hk':(k == NameKind.free)=false:=by simpa using hk
    simp only[hk',cU,Bool.false_eq_true,if_false,cQ,beq_self_eq_true,if_true] at h
    rcases h with h|h
    ·have e:k=.cell:=cA h
     exact absurd e (hc (x,k) cv)
    ·have e:k=.free:=cA h
     exact absurd e hk
  ·have hxn:(x == n)=false:=by simpa using hx
   have step:∀(b:Bool) (l:List (Str×NameKind)),List.lookup x ((if b=true then (n,NameKind.cell) else (n,k))::l)=l.lookup x:=fun b l=>by
    cases b<;>simp[cQ,hxn]
   rw[step] at h
   exact dX _ (ih h fun y hy=>hc y (dX _ hy))
theorem wZ {env:Env}:∀{names:List (Str×NameKind)} {x:Str},names.lookup x=some .free→
  (names.map fun (n,k)=>if (k == NameKind.free&&env.scope.kind == .function&&env.kindOf n == some .cell) then (n,NameKind.cell) else (n,k)).lookup x=some .cell∨
  (names.map fun (n,k)=>if (k == NameKind.free&&env.scope.kind == .function&&env.kindOf n == some .cell) then (n,NameKind.cell) else (n,k)).lookup x=some .free
 |[],x,h=>by simp at h
 |(n,k)::r,x,h=>by
  have ih:=@wZ env r x
  rw[bV]
  dsimp only
  rw[cQ] at h
  cases hx:x == n with
  |true=>
   rw[hx] at h
   have e:k=.free:=cA h
   subst e
   by_cases hb:(NameKind.free == NameKind.free&&env.scope.kind == .function&&env.kindOf n == some .cell)=true
   ·left;rw[if_pos hb];simp[cQ,hx]
   ·right;rw[if_neg hb];simp[cQ,hx]
  |false=>
   rw[hx] at h
   have step:∀(b:Bool) (l:List (Str×NameKind)),List.lookup x ((if b=true then (n,NameKind.cell) else (n,k))::l)=l.lookup x:=fun b l=>by
    cases b<;>simp[cQ,hx]
   rw[step]
   exact ih h
section
variable {X:Cx}{pins:List (Addr×Obj)}{σ:St}{H2 H':Hp}{s2 s':Shared}{fp:List Addr}{N:List Str}{imp:List (Option Nat)}{scope:Scope}{C acc:Addr}
theorem wt (I:Inv X pins σ H2 s2)(S:zO X.N X.env.scope N imp scope):∀y∈scope.names,y.2=.free→∃c,X.env.cells.lookup y.1=some c:=fun y hy hk=>I.ok.has y.1 (S.frees y hy hk)
theorem yG (I:Inv X pins σ H2 s2)(S:zO X.N X.env.scope N imp scope){x:Str}{c:Addr}(h:(wq X.env.cells scope.names []).lookup x=some c):(x,NameKind.free)∈scope.names∧X.env.cells.lookup x=some c:=by
 rcases sJ scope.names [] (wt I S) x c (cX h) with q|q
 ·exact absurd q (by simp)
 ·exact q
theorem wx (I:Inv X pins σ H2 s2)(S:zO X.N X.env.scope N imp scope){x:Str}(h:(x,NameKind.free)∈scope.names):∃c,(wq X.env.cells scope.names []).lookup x=some c:=by
 obtain⟨c,hc⟩:=sP (cells:=X.env.cells) scope.names [] x h
 exact mem_lookup hc
theorem nK {h1:Heap}{tk:Nat}{m:Str→Option Value}{n0:Nat}(I:Inv X pins σ H2 s2)(S:zO X.N X.env.scope N imp scope)(hf:∀b∈fp,wU X pins H2 b)(ho:∀b∈fp,∃o,s2.heap.get? b=some o)
  (hacc:acc=s2.heap.objs.size) (hC:C=s2.heap.objs.size+1) (old:∀b o,s2.heap.get? b=some o→h1.get? b=some o) (hn:h1.Ns C m)
  (hl:h1.get? acc=some {cls:=.type "list",data:=.seq ([]:List Value).toArray n0}):
  Inv (X.comp N scope C s2 H2 fp) [] (xi imp σ) (upd H2 acc (.lst [])) {s2 with heap:=h1,toks:=tk}:=by
 have fa:H2 acc=none:=I.hok.fresh (by rw[hacc];exact dQ _)
 have cac:C≠acc:=by rw[hC,hacc];exact Nat.succ_ne_self _
 have clt:∀x c,X.env.cells.lookup x=some c→c<s2.heap.objs.size:=fun x c e=>by
  obtain⟨v,q⟩:=I.cell x c e
  exact q.lt
 refine⟨⟨I.ok.mod,S.kind,I.ok.glob,I.ok.blt,?above,?inj,?has,?cab,I.ok.hd,I.ok.frames,.inl rfl,?exf,fun b o e=>I.bs b o e,cM I.ok.bsz I.sz,?noex,?exfs,I.stack,I.stkFree⟩,
  rfl,I.bare,Un.laid old (by rw[hacc];exact dQ _) fa,⟨m,hn,?loc⟩,?cell,?free,?freeC,fun p hp=>absurd (show p∈([]:List (Addr×Obj)) from hp) (by simp),I.hok.laid old (by rw[hacc];exact dQ _) ⟨dZ _,[],n0,.nil,hl⟩,?len⟩
 case above=>show s2.heap.objs.size≤C;rw[hC];exact bK _
 case inj=>exact fun x y c h1 h2=>I.ok.inj x y c (yG I S h1).2 (yG I S h2).2
 case has=>exact fun x hx=>wx I S (wF (env:=X.env) hx S.nocell)
 case cab=>exact fun x c h _=>absurd h (by show ¬(false=true);simp)
 case exf=>
  intro b hb
  obtain⟨o,hob⟩:=ho b hb
  refine⟨?_,fun x c e=>(hf b hb).2.2.2.2.1 x c (yG I S e).2⟩
  show b≠C
  rw[hC]
  exact cz (Nat.lt_succ_of_lt (dR hob))
 case noex=>
  intro b o e hb
  rcases (hf b hb).2.2.2.1 with z|z
  ·exact I.ok.noex b o e z
  ·exact absurd (cu (dR e) (cM I.ok.bsz z)) (ao _)
 case exfs=>
  intro b hb hz
  rcases cm.mp (I.stkSub b hz) with e|e
  ·exact (hf b hb).2.1 e
  ·exact (hf b hb).2.2.1 e
 case loc=>
  intro i x v e1 e2 e3
  obtain⟨j,q1,q2⟩:=oJ e2
  obtain⟨y,n1,n2,n3⟩:=S.imps i j q1
  have n1':(X.comp N scope C s2 H2 fp).N[i]?=some y:=n1
  rw[n1'] at e1
  have exy:y=x:=cA e1
  subst exy
  have hfr:=S.frees (y,.free) (cX n3) rfl
  obtain⟨mX,hnX,hlX⟩:=I.loc
  obtain⟨u,r,l⟩:=hlX j y v n2 q2 (.inr hfr)
  refine⟨u,r,?_⟩
  rcases l with ⟨k,_⟩|⟨k,c,e,z⟩
  ·have k':X.env.scope.names.lookup y=some .local:=k
   rcases hfr with z|z
   ·have z':X.env.scope.names.lookup y=some .cell:=z
    rw[k'] at z';cases z'
   ·have z':X.env.scope.names.lookup y=some .free:=z
    rw[k'] at z';cases z'
  ·obtain⟨d,hd⟩:=wx I S (cX n3)
   have hd2:=(yG I S hd).2
   rw[e] at hd2
   have edc:c=d:=cA hd2
   subst edc
   exact .inr ⟨wZ (env:=X.env) n3,c,hd,z.keeps old⟩
 case cell=>
  intro x c e
  obtain⟨v,q⟩:=I.cell x c (yG I S e).2
  exact⟨v,q.keeps old⟩
 case free=>
  show upd H2 acc _ C=none
  rw[zc cac]
  exact I.hok.fresh (by rw[hC];exact bK _)
 case freeC=>
  intro x c e
  have e':=(yG I S e).2
  have hlt:=clt x c e'
  show upd H2 acc _ c=none
  rw[zc (by rw[hacc];exact cz hlt)]
  exact I.freeC x c e'
 case len=>
  show (xi imp σ).length=N.length
  unfold xi
  rw[dU]
  exact S.len
theorem oA {pl:List (Addr×Obj)}{τ:St}(I:Inv X pins σ H2 s2)(hf:∀b∈fp,wU X pins H2 b)(J:Inv (X.comp N scope C s2 H2 fp) pl τ H' s'):Inv X pins σ H' s':=
 I.call' (ch:=fp) J.os J.base J.hok J.bare fun b hb=>⟨(hf b hb).2.2.2.1,(hf b hb).2.1,(hf b hb).2.2.2.2.1,(hf b hb).2.2.2.2.2⟩
end
section
variable {prog:Program}{w:World}{A:Around}{R:Result→Shared→Prop}{s:Shared}
theorem tD {elt target iter:Expr}{ifs:List Expr}{scope:Scope}{pos:Pos}{it acc:Value}{env:Env}(I:Nat→Shared→Prop)
  (turn:∀n s,I n s→wpAny (model prog w) A (pyNext it) (fun r s1=>match r with
   |none=>R (.ok .next) s1
   |some v=>wpAny (model prog w) A (letOwnedTupleGo target it v) (fun _ s2=>wpAny (model prog w) A (assign target env v) (fun _ s3=>
     wpAny (model prog w) A (forIn ifs true fun c r=>if r=true then do let ok ←isTrue c env (eval c env);pure (ForInStep.yield ok) else pure (ForInStep.yield r)) (fun ok s4=>
      if ok=true then wpAny (model prog w) A (eval elt env) (fun x s5=>
       wpAny (model prog w) A (call (.builtin "list.append") [acc,x]) (fun _ s6=>∃m,m<n∧I m s6) (fun _ _=>False) s5) (fun _ _=>False) s4
      else ∃m,m<n∧I m s4) (fun _ _=>False) s3) (fun _ _=>False) s2) (fun _ _=>False) s1) (fun _ _=>False) s)
  (n:Nat) (h:I n s):codeAny (model prog w) A (.compLoop (.ListComp elt [⟨target,iter,ifs,0⟩] scope pos) 0 it acc env) R s:=by
 refine codeAny_loop rfl I (fun n s hI=>?_) n h
 show wpAny _ A ((compTurn (.ListComp elt [⟨target,iter,ifs,0⟩] scope pos) 0 it acc env).onRaise (fun x=>do noteFrame x env;theTreesLotGoes x)) _ _ s
 refine wpAny_noted ?_
 rw[compTurn_list]
 refine dJ (aC (dJ (cE (turn n s hI) (fun r s1 h1=>?_) fun _ _ h'=>False.elim h')))
 cases r with
 |none=>exact dO h1
 |some v=>
  refine dJ (cE h1 (fun _ s2 h2=>?_) fun _ _ h'=>False.elim h')
  refine dJ (cE h2 (fun _ s3 h3=>dJ (cE h3 (fun ok s4 h4=>?_) fun _ _ h'=>False.elim h')) fun _ _ h'=>False.elim h')
  cases ok with
  |false=>exact dO ⟨rfl,h4⟩
  |true=>
   exact dJ (dJ (cE h4 (fun x s5 h5=>dJ (cE h5 (fun _ s6 h6=>dO (dO ⟨rfl,h6⟩)) fun _ _ h'=>False.elim h')) fun _ _ h'=>False.elim h'))
end
def xQ (Y:Cx)(ifs:List Expr)(t:TT):Prop:=
 ∀(pins:List (Addr×Obj)) (s:Shared) (σ:St) (H:Hp) (Q:Bool→Hp→Prop),Inv Y pins σ H s→t σ H Q→
  wpAny (model Y.prog Y.w) Y.A (forIn ifs true fun c r=>if r=true then do let ok ←isTrue c Y.env (eval c Y.env);pure (ForInStep.yield ok) else pure (ForInStep.yield r)) (TP Y pins σ Q) Y.xe s
def dy :TT:=fun _ H Q=>Q true H
theorem js {Y:Cx}:xQ Y [] dy:=fun _ _ _ H _ I h=>wpAny_tests_nil ⟨H,I,h⟩
theorem pM {Y:Cx}{c:Expr}{t:TT}(h:PT Y c t):xQ Y [c] t:=fun pins s σ H Q I q=>wpAny_tests_one (h pins s σ H Q I q)
def uX (J:It)(acc:Addr)(g:TG)(tt:TT)(te:TE)(τ0:St)(H0:Hp)(Q:VK):Prop:=
 ∃W:Nat→Nat→List V→St→Hp→Prop,(∃m,W 0 m [] τ0 H0)∧∀i m ys τ H2,W i m ys τ H2→
  (J.stop i H2∧Q (.ref acc) H2)∨(J.go i H2∧∃N:List V→St→Hp→Prop,(∀ys' τ' H',N ys' τ' H'→∃m',m'<m∧W (i+1) m' ys' τ' H')∧
   ∀x H3,J.yld i H2 x H3→g x τ H3 fun τ2 H4=>tt τ2 H4 fun c H5=>
    if c=true then te τ2 H5 fun y H6=>H6 acc=some (.lst ys)∧ys.length<sizeLine∧N (ys++[y]) τ2 (upd H6 acc (.lst (ys++[y]))) else N ys τ2 H5)
def nP (wi:TI)(imp:List (Option Nat))(g:TG)(tt:TT)(te:TE):TE:=fun σ H Q=>wi σ H fun J H1=>∀acc,H1 acc=none→uX J acc g tt te (xi imp σ) (upd H1 acc (.lst [])) Q
section
variable {X:Cx}{pins:List (Addr×Obj)}{σ:St}{elt iter tg:Expr}{ifs:List Expr}{scope:Scope}{pos:Pos}{wi:TI}{g:TG}{tt:TT}{te:TE}{N:List Str}{imp:List (Option Nat)}
theorem uu {H2:Hp}{s2:Shared}{it:Addr}{fp:List Addr}{tn:Nat→Heap→Prop}{J:It}{RR:Value→Addr→Result→Shared→Prop}{E:Value→Shared→Prop}{Q:VK}
  (hc:X.calm=true) (S:zO X.N X.env.scope N imp scope) (hg:∀C s2 H2 fp,PG (X.comp N scope C s2 H2 fp) tg g) (ht:∀C s2 H2 fp,xQ (X.comp N scope C s2 H2 fp) ifs tt) (he:∀C s2 H2 fp,PE (X.comp N scope C s2 H2 fp) elt te)
  (I2:Inv X pins σ H2 s2) (T:Turn X.prog X.w X.K tg J fp it tn) (st2:tn 0 s2.heap) (f2:∀b∈fp,wU X pins H2 b)
  (hW:∀acc,H2 acc=none→uX J acc g tt te (xi imp σ) (upd H2 acc (.lst [])) Q)
  (hRR:∀a C H' s' m,Inv X pins σ H' s'→s'.heap.Ns C m→wU X pins H' C→Q (.ref a) H'→RR (.ref a) C (.ok .next) s'):
  wpAny (model X.prog X.w) X.A (newList []) (fun acc s3=>wpAny (model X.prog X.w) X.A (newFunctionEnv scope X.env.globals (wq X.env.cells scope.names []) [] X.env.qual none .none (some X.env)) (fun cenv s4=>
   codeAny (model X.prog X.w) X.A (.compStart (.ListComp elt [⟨tg,iter,ifs,0⟩] scope pos) 0 (.ref it) acc {cenv with scope:=relabel scope X.env}) (RR acc cenv.locals) s4) E s3) E s2:=by
 refine bG (wpAny_newFunctionEnv S.nocell (by intro y hy;simp at hy) (fun h1 hns1 hsb1=>?_) S.kind)
 dsimp only at hns1 hsb1 ⊢
 generalize hHH:s2.heap.push {cls:=.type "list",dict:=none,data:=.seq ([]:List Value).toArray}=HH at hns1 hsb1 ⊢
 have hC:HH.objs.size=s2.heap.objs.size+1:=by rw[←hHH,Heap.size_push]
 have hDC:s2.heap.objs.size≠HH.objs.size:=by rw[hC];exact cz (ai _)
 have old:∀b o,s2.heap.get? b=some o→h1.get? b=some o:=fun b o e=>hsb1.extBut b o (by rw[hC];exact cz (Nat.lt_succ_of_lt (dR e))) (dM _ (hHH▸dM _ e))
 have hacc:h1.get? s2.heap.objs.size=some {cls:=.type "list",data:=.seq ([]:List Value).toArray}:=hsb1.extBut _ _ hDC (dM _ (hHH▸cK _ rfl))
 obtain⟨W,⟨m0,w0⟩,turn⟩:=hW s2.heap.objs.size I2.fresh
 generalize hCC:HH.objs.size=C at hns1 hsb1 hC hDC ⊢
 have ho:∀b∈fp,∃o,s2.heap.get? b=some o:=fun b hb=>let ⟨o,e,_⟩:=T.obj 0 _ st2 b hb;⟨o,e⟩
 generalize hacc0:s2.heap.objs.size=acc at *
 have loop:∀s3:Shared,s3={s2 with heap:=h1,toks:=s2.toks+([]:List (Str×Value)).length}→
   codeAny (model X.prog X.w) X.A (.compLoop (.ListComp elt [⟨tg,iter,ifs,0⟩] scope pos) 0 (.ref it) (.ref acc) (X.comp N scope C s2 H2 fp).env) (RR (.ref acc) C) s3:=by
  rintro s3 rfl
  have I3:Inv (X.comp N scope C s2 H2 fp) [] (xi imp σ) (upd H2 acc (.lst [])) {s2 with heap:=h1,toks:=s2.toks+([]:List (Str×Value)).length}:=
   nK I2 S f2 ho hacc0.symm (by rw[hC,hacc0]) old hns1 hacc
  have fpn:∀b∈fp,upd H2 acc (.lst []) b=none:=fun b hb=>by
   obtain⟨o,e⟩:=ho b hb
   rw[zc (by rw[←hacc0];exact cz (dR e))]
   exact (f2 b hb).1
  have stat:∀{H':Hp},(∀b∈fp,H' b=none)→∀b∈fp,wU (X.comp N scope C s2 H2 fp) [] H' b:=fun hn b hb=>by
   obtain⟨e1,e2⟩:=I3.ok.exf b hb
   exact⟨hn b hb,e1,I3.ok.exfs b hb,.inl hb,e2,fun p hp=>absurd (show p∈([]:List (Addr×Obj)) from hp) (by simp)⟩
  refine tD (fun n s'=>∃i ys τ H',Inv (X.comp N scope C s2 H2 fp) [] τ H' s'∧tn i s'.heap∧(∀b∈fp,H' b=none)∧W i n ys τ H') ?_ m0
   ⟨0,[],_,_,I3,T.keep _ _ _ st2 fun b _ o e=>old b o e,fpn,w0⟩
  rintro n s4 ⟨i,ys,τ,H4,I4,st4,fr4,w4⟩
  rcases turn i n ys τ H4 w4 with ⟨stop,qn⟩|⟨go,NN,hN,step⟩
  ·refine cE (T.done (X.comp N scope C s2 H2 fp) rfl rfl rfl hc i [] s4 τ H4 (fun _ _=>False) I4 (stat fr4) st4 stop) (fun r s5 ⟨hr,I5⟩=>?_) fun _ _ z=>z
   subst hr
   obtain⟨m5,hn5,_⟩:=id I5.loc
   exact hRR acc C H4 s5 m5 (oA I2 f2 I5) hn5 (I2.fpOk (by rw[hC,hacc0];exact bK _) I5.free) qn
  ·refine cE (T.item (X.comp N scope C s2 H2 fp) rfl rfl rfl hc i [] s4 τ H4 (fun _ _=>False) I4 (stat fr4) st4 go) (fun r s5 ⟨u,hr,h5⟩=>?_) fun _ _ z=>z
   subst hr
   refine cE h5 (fun _ s6 ⟨x,H6,I6,r6,y6,st6,fr6⟩=>?_) fun _ _ z=>z
   have I6':=I6.pinned (stat fr6) (T.obj _ _ st6)
   refine cE (hg C s2 H2 fp _ s6 τ H6 x u _ I6' r6 (step x H6 y6)) (fun _ s7 ⟨τ7,H7,I7,q7⟩=>?_) fun _ _ z=>z
   refine cE (ht C s2 H2 fp _ s7 τ7 H7 _ I7 q7) (fun ok s8 ⟨H8,I8,q8⟩=>?_) fun _ _ z=>z
   have again:∀{ys9:List V} {H9:Hp} {s9:Shared},Inv (X.comp N scope C s2 H2 fp) ([]++vB fp s6.heap) τ7 H9 s9→NN ys9 τ7 H9→∃m,m<n∧∃i ys τ H',Inv (X.comp N scope C s2 H2 fp) [] τ H' s9∧tn i s9.heap∧(∀b∈fp,H' b=none)∧W i m ys τ H':=fun {ys9 H9 s9} I9 n9=>by
    obtain⟨m',hm,w9⟩:=hN ys9 τ7 H9 n9
    refine⟨m',hm,i+1,ys9,τ7,H9,I9.unpinned,T.keep _ _ _ st6 fun b hb o e=>(I9.pin (b,o) (cG _ (cG _ (xj hb e)))).1,fun b hb=>?_,w9⟩
    obtain⟨o,e,d⟩:=T.obj _ _ st6 b hb
    exact (I9.pin (b,o) (cG _ (cG _ (xj hb e)))).2.1
   cases ok with
   |false=>
    have q8':NN ys τ7 H8:=by
     have z:=q8
     rw[if_neg dY] at z
     exact z
    rw[if_neg dY]
    exact again I8 q8'
   |true=>
    rw[if_pos rfl] at q8 ⊢
    refine cE (he C s2 H2 fp _ s8 τ7 H8 _ I8 q8) (fun v s9 ⟨y,H9,I9,r9,a9,z9,q9⟩=>?_) fun _ _ z=>z
    refine cE (uU (X:=X.comp N scope C s2 H2 fp) _ s9 τ7 H9 (.ref acc) [y] (.ref acc) [v] (fun _ H10=>H10=upd H9 acc (.lst (ys++[y]))) I9 rfl (.cons r9 .nil) ⟨acc,ys,y,rfl,rfl,a9,z9,rfl⟩) (fun _ s10 ⟨_,H10,I10,_,e10⟩=>?_) fun _ _ z=>z
    subst e10
    exact again I10 q9
 exact codeAny_compStart_list (loop _ rfl) (T.self X.A 0 _ _ _ (T.keep _ _ _ st2 fun b _ o e=>old b o e) (loop _ rfl))
theorem jX (hc:X.calm=true)(S:zO X.N X.env.scope N imp scope)(hi:PI X tg iter wi)(hg:∀C s2 H2 fp,PG (X.comp N scope C s2 H2 fp) tg g)(ht:∀C s2 H2 fp,xQ (X.comp N scope C s2 H2 fp) ifs tt)
  (he:∀C s2 H2 fp,PE (X.comp N scope C s2 H2 fp) elt te) (hs:∀x,foldedSetIterable iter X.env x=pure x:=by intro _;rfl):
  PE X (.ListComp elt [⟨tg,iter,ifs,0⟩] scope pos) (nP wi imp g tt te):=by
 intro pins s σ H Q I h
 rw[eval_ListComp]
 refine wpAny_comprehension_free (use:=none) rfl hs (wm (wt I S)) S.kind S.locs (thn (hi pins s σ H _ I h) fun v s1 h1=>thn h1 fun itv s2 h2=>?_)
 obtain⟨it,fp,tn,J,H2,e,I2,T,st2,f2,hW⟩:=h2
 subst e
 refine uu (RR:=fun acc C=>compPost (model X.prog X.w) X.A X.xe none (EP X pins σ Q) acc C) hc S hg ht he I2 T st2 f2 hW fun a C H' s' m I' hn f q=>?_
 refine⟨m,hn,fun h' sb=>?_⟩
 obtain⟨g0,g1,g2,g3,g4,g5⟩:=f
 exact⟨.ref a,H',I'.turned (t':=s'.toks) (it:=C) (fun b o hb e=>(sb.2 b hb).trans e) g0 g1 g3 g4 g5,rfl,q⟩
theorem lQ {i:Nat}{x:Str}{px:Pos}{spos:Pos}(hc:X.calm=true)(S:zO X.N X.env.scope N imp scope)(hi:PI X tg iter wi)(hg:∀C s2 H2 fp,PG (X.comp N scope C s2 H2 fp) tg g)(ht:∀C s2 H2 fp,xQ (X.comp N scope C s2 H2 fp) ifs tt)
  (he:∀C s2 H2 fp,PE (X.comp N scope C s2 H2 fp) elt te) (hN:X.N.Nodup) (hx:X.N[i]?=some x) (hl:Loc X.env.scope x) (hsw:swapsWith (.ListComp elt [⟨tg,iter,ifs,0⟩] scope pos) (some (.Name x px)) spos.line X.env=pure true:=by rfl)
  (hf:X.fn x=true∨X.env.scope.names.lookup x=some .local:=by first|exact .inl rfl|exact .inr rfl|assumption) (hs:∀x,foldedSetIterable iter X.env x=pure x:=by intro _;rfl):
  PS X (.Assign [.Name x px] (.ListComp elt [⟨tg,iter,ifs,0⟩] scope pos) spos) (gN (nP wi imp g tt te) (uB i)):=by
 intro pins s σ H D I h
 rw[exec_Assign_Name_used _ _ _ _ hsw]
 refine dJ (aC (dJ ?_))
 show wpAny _ X.A (do let _ ←comprehension (.ListComp elt [⟨tg,iter,ifs,0⟩] scope pos) scope X.env _ (newList []) false (eval iter X.env) (some (assign (.Name x px) X.env))) _ _ s
 refine dJ (cE (wpAny_comprehension_free (use:=some (assign (.Name x px) X.env)) (Q:=fun _ s'=>SP X pins D .next s') rfl hs (wm (wt I S)) S.kind S.locs (thn (hi pins s σ H _ I h) fun v s1 h1=>thn h1 fun itv s2 h2=>?_))
  (fun _ s' hq=>dO (dO hq)) fun _ _ e=>e)
 obtain⟨it,fp,tn,J,H2,e,I2,T,st2,f2,hW⟩:=h2
 subst e
 refine uu (Q:=fun x H1=>uB i x σ H1 D.nx) (RR:=fun acc C=>compPost (model X.prog X.w) X.A X.xe (some (assign (.Name x px) X.env)) (fun _ s'=>SP X pins D .next s') acc C) hc S hg ht he I2 T st2 f2 hW fun a C H' s' m I' hn f q=>?_
 show wpAny _ X.A (assign (.Name x px) X.env (.ref a)) _ _ _
 obtain⟨g0,g1,g2,g3,g4,g5⟩:=f
 refine wpAny_assign_Name (uM I' hN hx hl (show RelV (.ref a) (.ref a) from rfl) (fun s4 I4 hch=>?_) hf)
 obtain⟨ad,sb,had⟩:=hch
 have hCa:C≠ad:=by
  rcases had with e|e
  ·rw[e];exact g1
  ·exact (g4 x ad e).symm
 refine⟨m,hn.sameBut sb hCa,fun h' sb2=>?_⟩
 exact⟨_,H',I4.turned (t':=s4.toks) (it:=C) (fun b o hb e=>(sb2.2 b hb).trans e) g0 g1 g3 g4 g5,q⟩
end
mutual
inductive DV (H:Hp):V→PyData→Prop where
 |non:DV H .non .none
 |bl (b:Bool):DV H (.bl b) (.bool b)
 |int (i:Int):DV H (.int i) (.int i)
 |str (x:Str):DV H (.str x) (.str x)
 |lst {a:Addr} {xs:List V} {ds:List PyData}:H a=some (.lst xs)→DVs H xs ds→DV H (.ref a) (.list ds)
 |tup {a:Addr} {xs:List V} {ds:List PyData}:H a=some (.tup xs)→DVs H xs ds→DV H (.ref a) (.tuple ds)
inductive DVs (H:Hp):List V→List PyData→Prop where
 |nil:DVs H [] []
 |cons {x:V} {xs:List V} {d:PyData} {ds:List PyData}:DV H x d→DVs H xs ds→DVs H (x::xs) (d::ds)
end
section
variable {X:Cx}{pins:List (Addr×Obj)}{σ:St}{H:Hp}{s:Shared}
mutual
theorem DV.reads (I:Inv X pins σ H s):∀{x:V} {d:PyData} {u:Value},DV H x d→RelV x u→∃as,Reads s.heap u d as
 |_,_,u,.non,r=>by cases (show u=Value.none from r);exact⟨_,.none⟩
 |_,_,u,.bl b,r=>by cases (show u=Value.bool b from r);exact⟨_,.bool b⟩
 |_,_,u,.int i,r=>by obtain⟨t,rfl⟩:=(show ∃t,u=Value.int i t from r);exact⟨_,.int i t⟩
 |_,_,u,.str x,r=>by obtain⟨t,rfl⟩:=(show ∃t,u=Value.str x t from r);exact⟨_,.str x t⟩
 |_,_,u,.lst (a:=a) hq hs,r=>by
  cases (show u=Value.ref a from r)
  obtain⟨its,rv,p,hz⟩:=I.list (SqL.of hq)
  obtain⟨o,ho,hc,n,hd⟩:=p.isList
  obtain⟨as,ra⟩:=DVs.reads I hs rv
  exact⟨_,.list ho hc hd (by simpa using ra)⟩
 |_,_,u,.tup (a:=a) hq hs,r=>by
  cases (show u=Value.ref a from r)
  obtain⟨its,rv,p,hz⟩:=I.tuple (SqT.of hq)
  obtain⟨o,ho,hc,n,hd⟩:=p
  obtain⟨as,ra⟩:=DVs.reads I hs rv
  exact⟨_,.tuple ho hc hd (by simpa using ra)⟩
theorem DVs.reads (I:Inv X pins σ H s):∀{xs:List V} {ds:List PyData} {us:List Value},DVs H xs ds→Vals xs us→∃as,ReadsAll s.heap us ds as
 |_,_,_,.nil,.nil=>⟨_,.nil⟩
 |_,_,_,.cons h hs,.cons r rs=>by
  obtain⟨as,ra⟩:=DV.reads I h r
  obtain⟨bs,rb⟩:=DVs.reads I hs rs
  exact⟨_,.cons ra rb⟩
end
end
mutual
theorem DV.same {H H':Hp}(e:zm H H'):∀{x:V} {d:PyData},DV H x d→DV H' x d
 |_,_,.non=>.non
 |_,_,.bl b=>.bl b
 |_,_,.int i=>.int i
 |_,_,.str x=>.str x
 |_,_,.lst hq hs=>.lst (e _ _ hq) (DVs.same e hs)
 |_,_,.tup hq hs=>.tup (e _ _ hq) (DVs.same e hs)
theorem DVs.same {H H':Hp}(e:zm H H'):∀{xs:List V} {ds:List PyData},DVs H xs ds→DVs H' xs ds
 |_,_,.nil=>.nil
 |_,_,.cons h hs=>.cons (DV.same e h) (DVs.same e hs)
end
theorem DVs.length {H:Hp}:∀{xs:List V} {ds:List PyData},DVs H xs ds→xs.length=ds.length
 |_,_,.nil=>rfl
 |_,_,.cons _ hs=>by rw[cf,cf,DVs.length hs]
def tyD :PyData→String
 |.none=>"NoneType"
 |.bool _=>"bool"
 |.int _=>"int"
 |.str _=>"str"
 |.list _=>"list"
 |.tuple _=>"tuple"
 |.dict _=>"dict"
theorem DV.ty {K:PySem.W.Frag}{H:Hp}{x:V}{d:PyData}(h:DV H x d):wz K H x (.type (tyD d)):=by
 cases h with
 |non=>exact .non
 |bl b=>exact .bl b
 |int i=>exact .int i
 |str x=>exact .str x
 |lst e _=>exact .lst e
 |tup e _=>exact .tup e
def isInt :PyData→Bool
 |.int _=>true
 |.bool _=>true
 |_=>false
def isBool :PyData→Bool
 |.bool _=>true
 |_=>false
def isStr :PyData→Bool
 |.str _=>true
 |_=>false
def isList :PyData→Bool
 |.list _=>true
 |_=>false
def pz :PyData→Bool
 |.tuple _=>true
 |_=>false
def si (T:String)(d:PyData):Option Bool:=
 if T="int" then some (isInt d) else if T="bool" then some (isBool d) else if T="str" then some (isStr d) else if T="list" then some (isList d) else if T="tuple" then some (pz d) else none
def iY (t T:String):Option Bool:=if (Value.type t == Value.type T)=true then some true else if PySem.W.kitMeta T=true then (fastBuiltinMro t).map (·.contains (Value.type T)) else none
theorem kd (K:PySem.W.Frag)(t T:String):PySem.W.kitOne K (.type t) (.type T)=iY t T:=rfl
theorem nQ :(["NoneType","bool","int","str","list","tuple"].all fun t=>["int","bool","str","list","tuple"].all fun T=>
  iY t T == some (if T="int" then t == "int"||t == "bool" else t == T))=true:=by decide +kernel
theorem fL (K:PySem.W.Frag){H:Hp}{x:V}{d:PyData}(h:DV H x d){T:String}{b:Bool}(e:si T d=some b):PySem.W.kitOne K (.type (tyD d)) (.type T)=some b:=by
 rw[kd]
 have key:∀t∈["NoneType","bool","int","str","list","tuple"],∀T∈["int","bool","str","list","tuple"],iY t T=some (if T="int" then t == "int"||t == "bool" else t == T):=fun t ht T hT=>
  eq_of_beq (aj.mp (aj.mp nQ t ht) T hT)
 have hd:tyD d∈["NoneType","bool","int","str","list","tuple"]:=by cases h<;>simp[tyD]
 unfold si at e
 split at e
 ·rename_i eT
  subst eT
  rw[key _ hd "int" (by decide)]
  cases e
  cases h<;>rfl
 ·split at e
  ·rename_i eT
   subst eT
   rw[key _ hd "bool" (by decide)]
   cases e
   cases h<;>rfl
  ·split at e
   ·rename_i eT
    subst eT
    rw[key _ hd "str" (by decide)]
    cases e
    cases h<;>rfl
   ·split at e
    ·rename_i eT
     subst eT
     rw[key _ hd "list" (by decide)]
     cases e
     cases h<;>rfl
    ·split at e
     ·rename_i eT
      subst eT
      rw[key _ hd "tuple" (by decide)]
      cases e
      cases h<;>rfl
     ·cases e
section
variable {X:Cx}
def eD :R2:=fun x y H Q=>∃d e,DV H x d∧DV H y e∧SeqAt.shaped d=true∧SeqAt.shaped e=true∧Q (.bl (PyData.eqv d e)) H
def fG :R2:=fun x y H Q=>∃d e,DV H x d∧DV H y e∧SeqAt.shaped d=true∧SeqAt.shaped e=true∧Q (.bl (!PyData.eqv d e)) H
theorem xW (hu:X.A.units+64<cLine):OpR X (compareOp .Eq) eD:=by
 intro pins s σ H x y v u Q I rx ry h
 obtain⟨d,e,hd,he,sd,se,q⟩:=h
 obtain⟨as,ra⟩:=hd.reads I rx
 obtain⟨bs,rb⟩:=he.reads I ry
 exact SeqAt.compareEq_shaped ra rb sd se hu ⟨.bl _,H,I,rfl,q⟩
theorem ir (hu:X.A.units+64<cLine):OpR X (compareOp .NotEq) fG:=by
 intro pins s σ H x y v u Q I rx ry h
 obtain⟨d,e,hd,he,sd,se,q⟩:=h
 obtain⟨as,ra⟩:=hd.reads I rx
 obtain⟨bs,rb⟩:=he.reads I ry
 exact SeqAt.compareNe_shaped ra rb sd se hu ⟨.bl _,H,I,rfl,q⟩
theorem lg :xX X (.builtin "isinstance") (fun xs H Q=>∃x T t b,xs=[x,.ty T]∧wz X.K H x t∧PySem.W.kitOne X.K t (.type T)=some b∧Q (.bl b) H):=by
 intro pins s σ H xs us Q I r h
 obtain⟨x,T,t,b,rfl,ty,e,q⟩:=h
 obtain⟨u,v,rfl,rx,ry⟩:=Vals.two r
 cases (show v=Value.type T from ry)
 exact oR I rx ty e fun tk=>⟨.bl b,H,I.tok tk,rfl,q⟩
theorem yY :xX X (.builtin "isinstance") (fun xs H Q=>∃x T d b,xs=[x,.ty T]∧DV H x d∧si T d=some b∧Q (.bl b) H):=by
 intro pins s σ H xs us Q I r h
 obtain⟨x,T,d,b,e,hd,ht,q⟩:=h
 exact lg pins s σ H xs us Q I r ⟨x,T,_,b,e,hd.ty,fL X.K hd ht,q⟩
def eO (i j:Int):Prop:=0<j∧j.natAbs.log2<9000
theorem vI :OpR X (binaryOp .FloorDiv) (rI eO fun i j=>.int (i / j)):=opI fun i j _ _ _ _ _ hc q=>by
 have h1:(0:Int)<j:=hc.1
 refine floordiv_int (Int.ne_of_gt h1) ?_ (.inl (PyProof.noPylong_of_log2 hc.2))
 rw[Int.fdiv_eq_ediv_of_nonneg _ (Int.le_of_lt h1)]
 exact q
abbrev big :Int:=115792089237316195423570985008687907853269984665640564039457584007913129639936
theorem log2_small {j:Int}(h0:0<j)(h:j<big):j.natAbs.log2<9000:=by
 have hn:j.natAbs≠0:=by omega
 have h2:j.natAbs<2 ^ 256:=by
  have e:(2:Nat) ^ 256=115792089237316195423570985008687907853269984665640564039457584007913129639936:=by decide +kernel
  rw[e]
  unfold big at h
  omega
 have h3:j.natAbs.log2<256:=(Nat.log2_lt hn).mpr h2
 omega
def yC (lo:Int)(n:Nat):List Int:=(List.range n).map fun i=>lo+(i:Nat)
theorem yb (lo:Int)(n:Nat):(yC lo n).length=n:=by simp[yC]
theorem xm {lo:Int}{n i:Nat}(h:i<n):(yC lo n)[i]?=some (lo+(i:Nat)):=by simp[yC,h]
end
def nF (X:Cx)(body:List Stmt):TS:=fun D σ H=>∃t,PSs X body t∧t D σ H
theorem zM {X:Cx}{body:List Stmt}:PSs X body (nF X body):=fun pins s σ H D I ⟨t,p,q⟩=>p pins s σ H D I q
theorem zH {X:Cx}{st:Stmt}{rest:List Stmt}{D:Ends}{σ:St}{H:Hp}(M:St→Hp→Prop)(h1:∃t,PS X st t∧t {D with nx:=M} σ H)(h2:∀σ' H',M σ' H'→∃t,PSs X rest t∧t D σ' H'):
  ∃t,PSs X (st::rest) t∧t D σ H:=by
 obtain⟨t1,p1,q1⟩:=h1
 refine⟨fun D' σ' H'=>D'=D∧σ'=σ∧H'=H,?_,rfl,rfl,rfl⟩
 intro pins s σ' H' D' I h
 obtain⟨e1,e2,e3⟩:=h
 subst e1 e2 e3
 have step:PSs X (st::rest) (eE t1 fun D2 σ2 H2=>D2=D'∧M σ2 H2):=zu p1 fun pins s σ2 H2 D2 I2 ⟨e,m⟩=>by
  subst e
  obtain⟨t2,p2,q2⟩:=h2 σ2 H2 m
  exact p2 pins s σ2 H2 _ I2 q2
 refine step pins s _ _ _ I ?_
 show t1 {D' with nx:=fun σ2 H2=>D'=D'∧M σ2 H2} _ _
 have e:(fun (σ2:St) (H2:Hp)=>D'=D'∧M σ2 H2)=M:=by
  funext σ2 H2
  exact propext ⟨fun z=>z.2,fun z=>⟨rfl,z⟩⟩
 rw[e]
 exact q1
theorem oN {K:PySem.W.Frag}{a acc:Addr}{xs:List V}{g:TG}{tt:TT}{te:TE}{Q:VK}{τ0:St}{H0:Hp}(Pv:Nat→List V→St→Hp→Prop)(h0:Pv 0 [] τ0 H0)(hl:∀i ys τ H,i≤xs.length→Pv i ys τ H→SqL K H a xs)
  (hs:∀i x ys τ H,xs[i]?=some x→Pv i ys τ H→g x τ H fun τ2 H4=>tt τ2 H4 fun c H5=>
   if c=true then te τ2 H5 fun y H6=>H6 acc=some (.lst ys)∧ys.length<sizeLine∧Pv (i+1) (ys++[y]) τ2 (upd H6 acc (.lst (ys++[y]))) else Pv (i+1) ys τ2 H5)
  (hd:∀ys τ H,Pv xs.length ys τ H→Q (.ref acc) H):
  uX (Itl K a) acc g tt te τ0 H0 Q:=by
 refine⟨fun i m ys τ H=>m=xs.length-i∧i≤xs.length∧Pv i ys τ H,⟨xs.length,by simp,dZ _,h0⟩,?_⟩
 rintro i m ys τ H ⟨rfl,hi,p⟩
 have q:=hl i ys τ H hi p
 by_cases hlt:i<xs.length
 ·refine .inr ⟨⟨xs,xs[i],q,by simp[hlt]⟩,Pv (i+1),fun ys' τ' H' p'=>⟨xs.length-(i+1),by omega,rfl,hlt,p'⟩,fun x H' y=>?_⟩
  obtain⟨e,y⟩:=y
  subst e
  exact hs i x ys τ _ (y xs q) p
 ·have e:i=xs.length:=by omega
  subst e
  exact .inl ⟨⟨xs,q,dQ _⟩,hd ys τ H p⟩
theorem at0 {α:Type}{x:α}{xs:List α}:atI (x::xs) 0=some x:=wA (j:=0) rfl
theorem ix0 {α:Type}{x:α}{xs:List α}:ixN (x::xs).length 0=some 0:=by
 unfold ixN
 rw[if_pos (Int.le_refl _),if_pos (by rw[cf];omega)]
 rfl
theorem eW {α:Type}{x:α}{xs:List α}:seqIndex? 0 (x::xs).length=some 0:=(su ix0).1
theorem kh (ns:List Int)(lo hi:Option Int):∃ms:List Int,vW (ns.map V.int) lo hi=ms.map V.int∧ms.length≤ns.length:=by
 refine⟨(ns.drop (HT.sIx (ns.map V.int).length 0 lo)).take (HT.sIx (ns.map V.int).length (ns.map V.int).length hi-HT.sIx (ns.map V.int).length 0 lo),?_,?_⟩
 ·unfold vW
  rw[List.map_take,List.map_drop]
 ·rw[bc,List.length_drop]
  omega
structure yi (H:Hp)(t b c:Addr):Prop where
 ex:∃(n:Int) (bs cs:List Int),b≠c∧H t=some (.lst [.ref b,.ref c,.int n])∧H b=some (.lst (bs.map V.int))∧H c=some (.lst (cs.map V.int))∧bs.length≤63∧cs.length≤63
theorem qY {b c:Addr}{n:Int}(bs:List Int):HO.lst [.ref b,.ref c,.int n]≠HO.lst (bs.map V.int):=by
 intro z
 injection z with z
 cases bs with
 |nil=>cases z
 |cons x r=>cases z
def sx (t b:Addr)(H H':Hp):Prop:=∀a,a≠t→a≠b→H' a=H a
theorem sx.trans {t b:Addr}{H H1 H2:Hp}(h:sx t b H H1)(k:sx t b H1 H2):sx t b H H2:=fun a h1 h2=>(k a h1 h2).trans (h a h1 h2)
def qG (K:PySem.W.Frag):Sp:=fun vs H Q _=>∃(a:Addr) (ns:List Int),vs=[.ref a]∧SqL K H a (ns.map V.int)∧ns.length≤63∧
 ∀(t b c:Addr) (H':Hp),yi H' t b c→H t=none→H b=none→H c=none→zm H H'→Q (.ref t) H'
def lF :Sp:=fun vs H Q _=>∃(t b c:Addr) (many:Int),vs=[.ref t,.int many]∧yi H t b c∧0<many∧many<big∧
 ∀(v:Int) (H':Hp),0≤v→v<many→yi H' t b c→sx t b H H'→Q (.int v) H'
theorem yi.free {H:Hp}{t b c l:Addr}(T:yi H t b c)(h:H l=none):l≠t∧l≠b∧l≠c:=by
 obtain⟨n,bs,cs,n1,e1,e2,e3,l1,l2⟩:=T.ex
 exact⟨(ze e1 h).symm,(ze e2 h).symm,(ze e3 h).symm⟩
theorem yi.off {H H':Hp}{t b c:Addr}(T:yi H t b c)(h:∀a,a=t∨a=b∨a=c→H' a=H a):yi H' t b c:=by
 obtain⟨n,bs,cs,n1,e1,e2,e3,l1,l2⟩:=T.ex
 exact⟨n,bs,cs,n1,by rw[h t (.inl rfl)];exact e1,by rw[h b (.inr (.inl rfl))];exact e2,by rw[h c (.inr (.inr rfl))];exact e3,l1,l2⟩
theorem lB {H:Hp}{t b c l:Addr}{o:HO}(T:yi H t b c)(h:l≠t∧l≠b∧l≠c):yi (upd H l o) t b c:=
 T.off fun a ha=>zc (ha.elim (fun e=>e▸h.1.symm) fun ha=>ha.elim (fun e=>e▸h.2.1.symm) fun e=>e▸h.2.2.symm)
theorem om {H H':Hp}{t b c:Addr}(T:yi H t b c)(s:zm H H'):yi H' t b c:=by
 obtain⟨n,bs,cs,n1,e1,e2,e3,l1,l2⟩:=T.ex
 exact⟨n,bs,cs,n1,s _ _ e1,s _ _ e2,s _ _ e3,l1,l2⟩
theorem yf {H:Hp}{p:Addr}{o:HO}(h:H p=none):zm H (upd H p o):=fun b u e=>by rw[zc (ze e h)];exact e
def vF (x:Addr):Prop:=False
def TabAt (H:Hp):Prop:=True
def Plain (H:Hp)(l:Addr):Prop:=True
theorem sI {H H':Hp}(T:TabAt H)(h:∀a o,(∀xs,o≠.lst xs)→H a=some o→H' a=some o):TabAt H':=trivial
theorem jd {H:Hp}{l:Addr}{o:HO}(T:TabAt H)(h:Plain H l):TabAt (upd H l o):=trivial
theorem sf {H:Hp}{x:Addr}(T:TabAt H)(h:vF x):∃o,H x=some o∧(∀ts,o≠.tup ts)∧∀xs,o≠.lst xs:=h.elim
theorem uI {H:Hp}{l:Addr}{xs:List V}(h:H l=some (.lst xs)):Plain H l:=trivial
theorem mq {H:Hp}{l:Addr}{xs:List (Key×V)}(h:H l=some (.dK xs)):Plain H l:=trivial
theorem nq {H:Hp}{l C dx:Addr}{fs:List (Str×V)}(h:H l=some (.ins C dx fs)):Plain H l:=trivial
theorem rJ {H:Hp}{l:Addr}(T:TabAt H)(h:H l=none):¬vF l:=fun z=>by
 obtain⟨o,e,_⟩:=sf T z
 rw[h] at e;cases e
theorem jL {H H':Hp}{t b:Addr}{xs ys:List V}(T:TabAt H)(ht:H t=some (.lst xs))(hb:H b=some (.lst ys))(off:sx t b H H'):TabAt H':=sI T fun a o no e=>by
 have n1:a≠t:=fun z=>by rw[z,ht] at e;cases e;exact no _ rfl
 have n2:a≠b:=fun z=>by rw[z,hb] at e;cases e;exact no _ rfl
 rw[off a n1 n2];exact e
theorem lu {H H':Hp}(T:TabAt H)(h:zm H H'):TabAt H':=sI T fun a o _ e=>h a o e
def rK (K:PySem.W.Frag):Sp:=fun vs H Q _=>∃(a:Addr) (ns:List Int),vs=[.ref a]∧SqL K H a (ns.map V.int)∧ns.length≤63∧TabAt H∧∀H',Q (.bl true) H'
structure iX (mg:Str→Option Value):Prop where
 abs:mg "abs"=none
 list:mg "list"=none
 len:mg "len"=none
theorem jh (d:PyData):si "int" d=some (isInt d):=by unfold si;rw[if_pos rfl]
theorem uv (d:PyData):si "bool" d=some (isBool d):=by unfold si;rw[if_neg (by decide),if_pos rfl]
theorem uD (d:PyData):si "tuple" d=some (pz d):=by unfold si;rw[if_neg (by decide),if_neg (by decide),if_neg (by decide),if_neg (by decide),if_pos rfl]
structure zD (n:Nat)(d:PyData):Prop where
 shw:d.showable=true
 nod:d.hasDict=false
 dep:d.depth≤8
 len:d.shown.length≤n
 lay:d.canLay0=true
theorem zD.mono {m n:Nat}{d:PyData}(h:zD m d)(e:m≤n):zD n d:=⟨h.shw,h.nod,h.dep,cM h.len e,h.lay⟩
theorem vc :∀(ts:List Str) (k:Nat) (acc:Str),(textFrom k acc ts).length≤acc.length+piled ts
 |[],_,acc=>by rw[piled_nil];exact dQ _
 |t::r,k,acc=>by
  have h:=vc r (k+1) (acc++(if k > 0 then ", " else "":String)++t)
  rw[piled_cons]
  have e2:(Str.ofString (if k > 0 then ", " else "":String)).length≤2:=by
   split
   ·exact Nat.le_of_eq rfl
   ·exact dZ _
  have e3:=ba (acc++Str.ofString (if k > 0 then ", " else "":String)) t
  have e4:=ba acc (Str.ofString (if k > 0 then ", " else "":String))
  show (textFrom (k+1) (acc++Str.ofString (if k > 0 then ", " else "":String)++t) r).length≤_
  have h':(textFrom (k+1) (acc++Str.ofString (if k > 0 then ", " else "":String)++t) r).length≤(acc++Str.ofString (if k > 0 then ", " else "":String)++t).length+piled r:=h
  omega
theorem rh (ts:List Str):(listText ts).length≤piled ts+2:=by
 unfold listText
 rw[ba]
 have h:=vc ts 0 (Str.ofString "[")
 have e1:(Str.ofString "[").length=1:=rfl
 have e2:(Str.ofString "]").length=1:=rfl
 show (textFrom 0 (Str.ofString "[") ts).length+(Str.ofString "]").length≤_
 omega
theorem tq (ts:List Str):(tupleText ts).length≤piled ts+3:=by
 cases ts with
 |nil=>decide +kernel
 |cons t r=>
  have h:=join_length_add (t::r) (by simp)
  unfold tupleText
  rw[ba,ba]
  have e1:(Str.ofString "(").length=1:=rfl
  have e2:(Str.ofString (if (t::r).length == 1 then ",)" else ")":String)).length≤2:=by
   split
   ·exact Nat.le_of_eq rfl
   ·exact bN (show 1<2 by decide)
  show (Str.ofString "(").length+(Str.join ", " (t::r)).length+(Str.ofString (if (t::r).length == 1 then ",)" else ")":String)).length≤_
  omega
theorem xS {n:Nat}:∀(ds:List PyData),(∀d∈ds,zD n d)→piled (PyData.shownAll ds)≤ds.length*(n+2)
 |[],_=>dZ _
 |d::r,h=>by
  have h1:=(h d cv).len
  have h2:=xS r fun e he=>h e (dX _ he)
  show piled (d.shown::PyData.shownAll r)≤_
  rw[piled_cons,cf,Nat.succ_mul]
  omega
structure zT (n:Nat)(ds:List PyData):Prop where
 all:∀d∈ds,zD n d
 dep:∀d∈ds,d.depth≤7
theorem zT.parts {n:Nat}:∀{ds:List PyData},zT n ds→PyData.showableAll ds=true∧PyData.hasDictAll ds=false∧PyData.depthAll ds≤7∧PyData.canLayAll0 ds=true
 |[],_=>⟨rfl,rfl,dZ _,rfl⟩
 |d::r,h=>by
  obtain⟨a,b,c,e⟩:=zT.parts (ds:=r) ⟨fun x hx=>h.all x (dX _ hx),fun x hx=>h.dep x (dX _ hx)⟩
  have hd:=h.all d cv
  have hp:=h.dep d cv
  refine⟨?_,?_,?_,?_⟩
  ·simp only[PyData.showableAll,hd.shw,a,Bool.and_self]
  ·simp only[PyData.hasDictAll,hd.nod,b,Bool.or_self]
  ·simp only[PyData.depthAll];omega
  ·simp only[PyData.canLayAll0,hd.lay,e,Bool.and_self]
theorem zD.list {n m:Nat}{ds:List PyData}(h:zT n ds)(e:ds.length*(n+2)+2≤m):zD m (.list ds):=by
 obtain⟨a,b,c,f⟩:=h.parts
 refine⟨by simp only[PyData.showable,a],by simp only[PyData.hasDict,b],by simp only[PyData.depth];omega,?_,by simp only[PyData.canLay0,f]⟩
 show (listText (PyData.shownAll ds)).length≤m
 have h1:=rh (PyData.shownAll ds)
 have h2:=xS ds h.all
 omega
theorem zD.tuple {n m:Nat}{ds:List PyData}(h:zT n ds)(e:ds.length*(n+2)+3≤m):zD m (.tuple ds):=by
 obtain⟨a,b,c,f⟩:=h.parts
 refine⟨by simp only[PyData.showable,a],by simp only[PyData.hasDict,b],by simp only[PyData.depth];omega,?_,by simp only[PyData.canLay0,f]⟩
 show (tupleText (PyData.shownAll ds)).length≤m
 have h1:=tq (PyData.shownAll ds)
 have h2:=xS ds h.all
 omega
theorem lH {i:Int}(h0:-big<i)(h1:i<big):i.natAbs.log2<1920:=by
 by_cases hn:i.natAbs=0
 ·rw[hn];decide
 ·have h2:i.natAbs<2 ^ 256:=by
   have e:(2:Nat) ^ 256=115792089237316195423570985008687907853269984665640564039457584007913129639936:=by decide +kernel
   rw[e]
   unfold big at h0 h1
   omega
  have h3:i.natAbs.log2<256:=(Nat.log2_lt hn).mpr h2
  omega
theorem zD.int {i:Int}(h0:-big<i)(h1:i<big):zD 2000 (.int i):=by
 have hl:=lH h0 h1
 refine⟨by simp only[PyData.showable,cL];exact hl,rfl,dZ _,?_,rfl⟩
 have:=int_text_len_1921 hl
 show (Str.ofString (toString i)).length≤2000
 omega
theorem zD.none :zD 2000 .none:=⟨rfl,rfl,dZ _,by decide +kernel,rfl⟩
theorem zD.bool (b:Bool):zD 2000 (.bool b):=⟨rfl,rfl,dZ _,by cases b<;>decide +kernel,rfl⟩
theorem zD.shaped {n:Nat}{d:PyData}(h:zD n d):SeqAt.shaped d=true:=by
 unfold SeqAt.shaped
 rw[h.lay,bo,cL]
 have:=h.dep
 omega
section
variable {X:Cx}
theorem oy (hg:X.A.guards=some [])(hu:X.A.units+64<cLine):xX X (.builtin "repr") (fun xs H Q=>∃x d,xs=[x]∧DV H x d∧zD sizeLine d∧Q (.str d.shown) H):=by
 intro pins s σ H xs us Q I r h
 obtain⟨x,d,rfl,hd,N,q⟩:=h
 obtain⟨u,rfl,rx⟩:=Vals.one r
 have big':∀{a:Addr},u=Value.ref a→wpAny (model X.prog X.w) X.A (call (.builtin "repr") [u]) (EP X pins σ Q) X.xe s:=fun {a} e=>by
  obtain⟨as,rd⟩:=hd.reads I rx
  subst e
  refine repr_of_reads' rd N.shw (PyData.noDict_hsm N.nod) hg (by have:=N.dep;omega) (fun _ _ e=>e) (fun h' t tk hk=>?_) N.len
  exact⟨.str d.shown,H,I.kept hk,⟨t,rfl⟩,q⟩
 cases hd with
 |non=>cases (show u=Value.none from rx);exact P.repr_of_none ⟨.str _,H,I.tok _,⟨_,rfl⟩,q⟩
 |bl b=>cases (show u=Value.bool b from rx);exact P.repr_of_bool ⟨.str _,H,I.tok _,⟨_,rfl⟩,q⟩
 |int i=>
  obtain⟨t,rfl⟩:=(show ∃t,u=Value.int i t from rx)
  have hs:i.natAbs.log2<1920:=by
   have:=N.shw
   simpa only[PyData.showable,cL] using this
  exact P.repr_of_int hs ⟨.str _,H,I.tok _,⟨_,rfl⟩,q⟩
 |str y=>
  obtain⟨t,rfl⟩:=(show ∃t,u=Value.str y t from rx)
  exact P.repr_of_str ⟨.str _,H,I.tok _,⟨_,rfl⟩,q⟩ N.len
 |lst e _=>exact big' rx
 |tup e _=>exact big' rx
end
def qC :PyData→Bool
 |.int _=>true
 |_=>false
def zP (lo hi:Int):PyData→Bool
 |.int i=>decide (lo≤i)&&decide (i≤hi)
 |_=>false
def pairD :PyData→Bool
 |.tuple ds=>decide ((ds.length:Int)=2)
 |_=>false
abbrev xP :PyData→Bool:=zP 0 1000000
def vJ :PyData→Bool
 |.tuple [a,b]=>xP a&&xP b
 |_=>false
def vZ :PyData→Option Int
 |.tuple [.int a,.int b]=>if xP (.int a)&&xP (.int b) then some (b-a) else none
 |_=>none
def zB (d:PyData):Bool:=match vZ d with
 |some k=>decide (0≤k)
 |none=>false
theorem oF (d:PyData):qC d=(isInt d&&!isBool d):=by cases d<;>rfl
theorem vh {d:PyData}(h:pairD d=true):∃a b,d=.tuple [a,b]:=by
 cases d with
 |tuple ds=>
  have h':(ds.length:Int)=2:=bH h
  match ds,h' with
  |[a,b],_=>exact⟨a,b,rfl⟩
  |[],z=>simp at z
  |[_],z=>simp at z
  |_::_::_::_,z=>simp at z;omega
 |_=>cases h
theorem ue (d:PyData):vJ d=(vZ d).isSome:=by
 unfold vJ vZ
 split
 ·rename_i a b
  cases a with
  |int i=>
   cases b with
   |int j=>
    show (xP (.int i)&&xP (.int j))=_
    cases e:(xP (.int i)&&xP (.int j))<;>simp[e]
   |_=>simp[zP]
  |_=>simp[zP]
 ·rename_i h
  split
  ·rename_i a b
   exact absurd rfl (h (.int a) (.int b))
  ·rfl
theorem qt {d:PyData}(h:vJ d=true):∃a b:Int,d=.tuple [.int a,.int b]∧vZ d=some (b-a):=by
 rw[ue] at h
 unfold vZ at h ⊢
 split at h
 ·rename_i a b
  split at h
  ·rename_i hc
   exact⟨a,b,rfl,by simp[hc]⟩
  ·cases h
 ·cases h
def ym (g:PyData→Bool):Sp:=fun vs H Q _=>∃x d,vs=[x]∧DV H x d∧Q (.bl (g d)) H
def xO :Sp:=fun vs H Q _=>∃x d lo hi,vs=[x,.int lo,.int hi]∧DV H x d∧Q (.bl (zP lo hi d)) H
theorem jD {n:Nat}:decide (V.int (n:Int)=V.int 2)=decide ((n:Int)=2):=by simp
noncomputable def sub (p:Addr→Prop)(H:Hp):Hp:=fun a=>open Classical in if p a then H a else none
theorem zh {p:Addr→Prop}{H:Hp}{a:Addr}{o:HO}(h:sub p H a=some o):p a∧H a=some o:=by
 unfold sub at h
 split at h
 ·rename_i hp;exact⟨hp,h⟩
 ·cases h
theorem zx {p:Addr→Prop}{H:Hp}{a:Addr}{o:HO}(hp:p a)(h:H a=some o):sub p H a=some o:=by
 unfold sub
 rw[if_pos hp]
 exact h
theorem zk {p q:Addr→Prop}{H H':Hp}(h:∀a o,p a→H a=some o→q a∧H' a=some o):zm (sub p H) (sub q H'):=fun a o e=>by
 obtain⟨hp,he⟩:=zh e
 obtain⟨hq,he'⟩:=h a o hp he
 exact zx hq he'
theorem yX {p:Addr→Prop}{H:Hp}:zm (sub p H) H:=fun _ _ e=>(zh e).2
theorem zT.snoc {n:Nat}{ds:List PyData}{d:PyData}(h:zT n ds)(hd:zD n d)(hp:d.depth≤7):zT n (ds++[d]):=
 ⟨fun e he=>(ar.mp he).elim (h.all e) fun z=>by rw[bx.mp z];exact hd,fun e he=>(ar.mp he).elim (h.dep e) fun z=>by rw[bx.mp z];exact hp⟩
theorem zT.nil {n:Nat}:zT n []:=⟨fun d hd=>by simp at hd,fun d hd=>by simp at hd⟩
theorem zT.two {n:Nat}{d e:PyData}(hd:zD n d)(he:zD n e)(h1:d.depth≤7)(h2:e.depth≤7):zT n [d,e]:=(zT.nil.snoc hd h1).snoc he h2
section
variable {X:Cx}{e:Expr}{es:List Expr}
def vo (X:Cx)(e:Expr):TE:=fun σ H Q=>∃t,PE X e t∧t σ H Q
theorem zi :PE X e (vo X e):=fun pins s σ H Q I ⟨t,p,q⟩=>p pins s σ H Q I q
def eM (X:Cx)(e:Expr):TT:=fun σ H Q=>∃t,PT X e t∧t σ H Q
theorem yV :PT X e (eM X e):=fun pins s σ H Q I ⟨t,p,q⟩=>p pins s σ H Q I q
def fu (X:Cx)(es:List Expr):TA:=fun σ H Q=>∃t,PA X es t∧t σ H Q
theorem yx :PA X es (fu X es):=fun pos pins s σ H Q I ⟨t,p,q⟩=>p pos pins s σ H Q I q
end
def nI :Key→PyData
 |.inl i=>.int i
 |.inr x=>.str x
def xcO (a C:Addr)(d:Option Addr):HO:=.ext fun h=>∃o vs,h.get? a=some o∧o.cls=.ref C∧o.dict=d∧o.data=.fields vs
mutual
inductive AV (H:Hp):V→PyData→Prop where
 |non:AV H .non .none
 |bl (b:Bool):AV H (.bl b) (.bool b)
 |int (i:Int):AV H (.int i) (.int i)
 |str (x:Str):AV H (.str x) (.str x)
 |lst {a:Addr} {xs:List V} {ds:List PyData}:H a=some (.lst xs)→AVs H xs ds→AV H (.ref a) (.list ds)
 |tup {a:Addr} {xs:List V} {ds:List PyData}:H a=some (.tup xs)→AVs H xs ds→AV H (.ref a) (.tuple ds)
 |ins {a C dx:Addr} {fs:List (Str×V)} {ds:List (PyData×PyData)}:H a=some (.ins C dx fs)→AVf H fs ds→AV H (.ref a) (.dict ((.int (C:Nat),.none)::ds))
 |dk {a:Addr} {o:Obj} {kvs:List (Key×V)} {ds:List (PyData×PyData)}:H a=some (.frz o (.dK kvs))→AVk H kvs ds→AV H (.ref a) (.dict ((.none,.none)::ds))
 |dt {a:Addr} {o:Obj} {kvs:List (List Key×V)} {ds:List (PyData×PyData)}:H a=some (.frz o (.dT kvs))→AVt H kvs ds→AV H (.ref a) (.dict ((.none,.bool true)::ds))
 |xc {a C dx:Addr} {fs:List (Str×V)} {ds:List (PyData×PyData)}:H a=some (xcO a C (some dx))→H dx=some (.xd fs)→AVf H fs ds→AV H (.ref a) (.dict ((.int (C:Nat),.bool true)::ds))
 |xn {a C:Addr}:H a=some (xcO a C none)→AV H (.ref a) (.dict [(.int (C:Nat),.bool false)])
inductive AVs (H:Hp):List V→List PyData→Prop where
 |nil:AVs H [] []
 |cons {x:V} {xs:List V} {d:PyData} {ds:List PyData}:AV H x d→AVs H xs ds→AVs H (x::xs) (d::ds)
inductive AVf (H:Hp):List (Str×V)→List (PyData×PyData)→Prop where
 |nil:AVf H [] []
 |cons {f:Str} {x:V} {fs:List (Str×V)} {d:PyData} {ds:List (PyData×PyData)}:AV H x d→AVf H fs ds→AVf H ((f,x)::fs) ((.str f,d)::ds)
inductive AVk (H:Hp):List (Key×V)→List (PyData×PyData)→Prop where
 |nil:AVk H [] []
 |cons {k:Key} {x:V} {fs:List (Key×V)} {d:PyData} {ds:List (PyData×PyData)}:AV H x d→AVk H fs ds→AVk H ((k,x)::fs) ((nI k,d)::ds)
inductive AVt (H:Hp):List (List Key×V)→List (PyData×PyData)→Prop where
 |nil:AVt H [] []
 |cons {k:List Key} {x:V} {fs:List (List Key×V)} {d:PyData} {ds:List (PyData×PyData)}:AV H x d→AVt H fs ds→AVt H ((k,x)::fs) ((.tuple (k.map nI),d)::ds)
end
mutual
theorem AV.same {H H':Hp}(e:zm H H'):∀{x:V} {d:PyData},AV H x d→AV H' x d
 |_,_,.non=>.non
 |_,_,.bl b=>.bl b
 |_,_,.int i=>.int i
 |_,_,.str x=>.str x
 |_,_,.lst hq hs=>.lst (e _ _ hq) (AVs.same e hs)
 |_,_,.tup hq hs=>.tup (e _ _ hq) (AVs.same e hs)
 |_,_,.ins hq hs=>.ins (e _ _ hq) (AVf.same e hs)
 |_,_,.dk hq hs=>.dk (e _ _ hq) (AVk.same e hs)
 |_,_,.dt hq hs=>.dt (e _ _ hq) (AVt.same e hs)
 |_,_,.xc hq hd hs=>.xc (e _ _ hq) (e _ _ hd) (AVf.same e hs)
 |_,_,.xn hq=>.xn (e _ _ hq)
theorem AVs.same {H H':Hp}(e:zm H H'):∀{xs:List V} {ds:List PyData},AVs H xs ds→AVs H' xs ds
 |_,_,.nil=>.nil
 |_,_,.cons h hs=>.cons (AV.same e h) (AVs.same e hs)
theorem AVf.same {H H':Hp}(e:zm H H'):∀{fs:List (Str×V)} {ds:List (PyData×PyData)},AVf H fs ds→AVf H' fs ds
 |_,_,.nil=>.nil
 |_,_,.cons h hs=>.cons (AV.same e h) (AVf.same e hs)
theorem AVk.same {H H':Hp}(e:zm H H'):∀{fs:List (Key×V)} {ds:List (PyData×PyData)},AVk H fs ds→AVk H' fs ds
 |_,_,.nil=>.nil
 |_,_,.cons h hs=>.cons (AV.same e h) (AVk.same e hs)
theorem AVt.same {H H':Hp}(e:zm H H'):∀{fs:List (List Key×V)} {ds:List (PyData×PyData)},AVt H fs ds→AVt H' fs ds
 |_,_,.nil=>.nil
 |_,_,.cons h hs=>.cons (AV.same e h) (AVt.same e hs)
end
mutual
theorem AV.dv {H:Hp}:∀{x:V} {d:PyData},AV H x d→d.hasDict=false→DV H x d
 |_,_,.non,_=>.non
 |_,_,.bl b,_=>.bl b
 |_,_,.int i,_=>.int i
 |_,_,.str x,_=>.str x
 |_,_,.lst hq hs,h=>.lst hq (AVs.dv hs (by simpa only[PyData.hasDict] using h))
 |_,_,.tup hq hs,h=>.tup hq (AVs.dv hs (by simpa only[PyData.hasDict] using h))
 |_,_,.ins hq hs,h=>by simp[PyData.hasDict] at h
 |_,_,.dk hq hs,h=>by simp[PyData.hasDict] at h
 |_,_,.dt hq hs,h=>by simp[PyData.hasDict] at h
 |_,_,.xc hq _ hs,h=>by simp[PyData.hasDict] at h
 |_,_,.xn hq,h=>by simp[PyData.hasDict] at h
theorem AVs.dv {H:Hp}:∀{xs:List V} {ds:List PyData},AVs H xs ds→PyData.hasDictAll ds=false→DVs H xs ds
 |_,_,.nil,_=>.nil
 |_,_,.cons h hs,e=>by
  simp only[PyData.hasDictAll,Bool.or_eq_false_iff] at e
  exact .cons (AV.dv h e.1) (AVs.dv hs e.2)
end
mutual
theorem DV.av {H:Hp}:∀{x:V} {d:PyData},DV H x d→AV H x d
 |_,_,.non=>.non
 |_,_,.bl b=>.bl b
 |_,_,.int i=>.int i
 |_,_,.str x=>.str x
 |_,_,.lst hq hs=>.lst hq (DVs.av hs)
 |_,_,.tup hq hs=>.tup hq (DVs.av hs)
theorem DVs.av {H:Hp}:∀{xs:List V} {ds:List PyData},DVs H xs ds→AVs H xs ds
 |_,_,.nil=>.nil
 |_,_,.cons h hs=>.cons (DV.av h) (DVs.av hs)
end
theorem AVs.length {H:Hp}:∀{xs:List V} {ds:List PyData},AVs H xs ds→xs.length=ds.length
 |_,_,.nil=>rfl
 |_,_,.cons _ hs=>by rw[cf,cf,AVs.length hs]
theorem AVs.append {H:Hp}:∀{xs ys:List V} {ds es:List PyData},AVs H xs ds→AVs H ys es→AVs H (xs++ys) (ds++es)
 |_,_,_,_,.nil,h=>h
 |_,_,_,_,.cons a r,h=>.cons a (AVs.append r h)
theorem AVs.get {H:Hp}:∀{xs:List V} {ds:List PyData} {i:Nat} {d:PyData},AVs H xs ds→ds[i]?=some d→∃x,xs[i]?=some x∧AV H x d
 |_,_,_,_,.nil,e=>by simp at e
 |_,_,0,_,.cons a _,e=>by simp at e;subst e;exact⟨_,rfl,a⟩
 |_,_,i+1,d,.cons _ r,e=>by
  obtain⟨x,h1,h2⟩:=AVs.get (i:=i) (d:=d) r (by simpa using e)
  exact⟨x,by simpa using h1,h2⟩
theorem AVs.take {H:Hp}:∀{xs:List V} {ds:List PyData} (n:Nat),AVs H xs ds→AVs H (xs.take n) (ds.take n)
 |_,_,0,_=>.nil
 |_,_,_+1,.nil=>.nil
 |_,_,n+1,.cons a r=>.cons a (AVs.take n r)
theorem AVs.drop {H:Hp}:∀{xs:List V} {ds:List PyData} (n:Nat),AVs H xs ds→AVs H (xs.drop n) (ds.drop n)
 |_,_,0,r=>r
 |_,_,_+1,.nil=>.nil
 |_,_,n+1,.cons _ r=>AVs.drop n r
theorem AVs.set {H:Hp}{x:V}{d:PyData}(a:AV H x d):∀{xs:List V} {ds:List PyData} (i:Nat),AVs H xs ds→AVs H (xs.set i x) (ds.set i d)
 |_,_,_,.nil=>.nil
 |_,_,0,.cons _ r=>.cons a r
 |_,_,i+1,.cons q r=>.cons q (AVs.set a i r)
theorem AVs.atI {H:Hp}{xs:List V}{ds:List PyData}{i:Int}{d:PyData}(h:AVs H xs ds)(e:atI ds i=some d):∃x,L2.atI xs i=some x∧AV H x d:=by
 unfold L2.atI at e ⊢
 rw[h.length]
 cases q:ixN ds.length i with
 |none=>rw[q] at e;cases e
 |some j=>
  rw[q] at e
  exact h.get (i:=j) e
def cutD (ds:List PyData)(lo hi:Option Int):List PyData:=(ds.drop (HT.sIx ds.length 0 lo)).take (HT.sIx ds.length ds.length hi-HT.sIx ds.length 0 lo)
theorem AVs.cut {H:Hp}{xs:List V}{ds:List PyData}(h:AVs H xs ds)(lo hi:Option Int):AVs H (vW xs lo hi) (cutD ds lo hi):=by
 unfold vW cutD
 rw[h.length]
 exact (h.drop _).take _
mutual
def noL :PyData→Bool
 |.list _=>false
 |.dict ((.none,_)::_)=>false
 |.dict kvs=>qB kvs
 |.tuple ds=>noLs ds
 |_=>true
def noLs :List PyData→Bool
 |[]=>true
 |d::r=>noL d&&noLs r
def qB :List (PyData×PyData)→Bool
 |[]=>true
 |(_,d)::r=>noL d&&qB r
end
def Ob :HO→Prop
 |.lst _=>True
 |.dK _=>True
 |.frz _ _=>True
 |_=>False
mutual
theorem AV.noL {H H':Hp}(e:∀a o,¬Ob o→H a=some o→H' a=some o):∀{x:V} {d:PyData},AV H x d→noL d=true→AV H' x d
 |_,_,.non,_=>.non
 |_,_,.bl b,_=>.bl b
 |_,_,.int i,_=>.int i
 |_,_,.str x,_=>.str x
 |_,_,.lst _ _,h=>by simp[L2.noL] at h
 |_,_,.tup hq hs,h=>.tup (e _ _ (fun z=>z) hq) (AVs.noL e hs (by simpa only[L2.noL] using h))
 |_,_,.ins hq hs,h=>.ins (e _ _ (fun z=>z) hq) (AVf.noL e hs (by simpa[L2.noL,L2.qB] using h))
 |_,_,.dk _ _,h=>by simp[L2.noL] at h
 |_,_,.dt _ _,h=>by simp[L2.noL] at h
 |_,_,.xc hq hd hs,h=>.xc (e _ _ (fun z=>z) hq) (e _ _ (fun z=>z) hd) (AVf.noL e hs (by simpa[L2.noL,L2.qB] using h))
 |_,_,.xn hq,h=>.xn (e _ _ (fun z=>z) hq)
theorem AVs.noL {H H':Hp}(e:∀a o,¬Ob o→H a=some o→H' a=some o):∀{xs:List V} {ds:List PyData},AVs H xs ds→noLs ds=true→AVs H' xs ds
 |_,_,.nil,_=>.nil
 |_,_,.cons h hs,q=>by
  simp only[L2.noLs,cy] at q
  exact .cons (AV.noL e h q.1) (AVs.noL e hs q.2)
theorem AVf.noL {H H':Hp}(e:∀a o,¬Ob o→H a=some o→H' a=some o):∀{fs:List (Str×V)} {ds:List (PyData×PyData)},AVf H fs ds→qB ds=true→AVf H' fs ds
 |_,_,.nil,_=>.nil
 |_,_,.cons h hs,q=>by
  simp only[L2.qB,cy] at q
  exact .cons (AV.noL e h q.1) (AVf.noL e hs q.2)
end
structure Fr where
 H0:Hp
 O0:Addr→Prop
 tp:Option (Addr×Addr×Addr)
inductive A where
 |dat (d:PyData)
 |ow (c:PyData)
 |deep (d:PyData) (S:Addr→Prop)
 |tape
 |at (l:Addr)
 |exc (r:Fr) (q:PyData→Prop)
 |pin (l:Addr) (vs:List V) (ds:List PyData)
@[reducible] def A.own (ds:List PyData):A:=.ow (.list ds)
abbrev jM (ds:List (PyData×PyData)):PyData:=.dict ((.none,.none)::ds)
abbrev Ev :=List (Option A)
def xH (o:HO):Prop:=∀ts,o≠.tup ts
theorem yv {xs:List V}:xH (.lst xs):=fun _ z=>by cases z
theorem Ob.notup {o:HO}(h:Ob o):xH o:=fun ts z=>by subst z;exact h
def NT (F:Fr)(x:Addr):Prop:=(∀t b c,F.tp=some (t,b,c)→x≠t∧x≠b)∧¬vF x
def Kz (F:Fr)(H H':Hp):Prop:=∀x o,H x=some o→NT F x→H' x=some o
structure zC (F:Fr)(H:Hp):Prop where
 tab:TabAt H
 ot:∀x,vF x→F.O0 x
 all:∀t b c,F.tp=some (t,b,c)→yi H t b c∧F.O0 t∧F.O0 b∧F.O0 c
instance {F:Fr} {H:Hp}:CoeFun (zC F H) (fun _=>∀t b c,F.tp=some (t,b,c)→yi H t b c∧F.O0 t∧F.O0 b∧F.O0 c):=⟨zC.all⟩
theorem zC.to {F F':Fr}{H:Hp}(t:zC F H)(hp:F'.tp=F.tp)(ho:∀x,F.O0 x→F'.O0 x):zC F' H:=⟨t.tab,fun x h=>ho x (t.ot x h),fun a b c e=>by
 obtain⟨h1,h2,h3,h4⟩:=t a b c (hp▸e)
 exact⟨h1,ho _ h2,ho _ h3,ho _ h4⟩⟩
theorem zC.re {F F':Fr}{H H':Hp}(t:zC F H)(t':zC F' H')(hp:F'.tp=F.tp):zC F H':=⟨t'.tab,t.ot,fun a b c e=>⟨(t' a b c (hp▸e)).1,(t a b c e).2⟩⟩
theorem zC.upd {F:Fr}{H:Hp}{l:Addr}{o:HO}(t:zC F H)(h:∀a b c,F.tp=some (a,b,c)→l≠a∧l≠b∧l≠c)(hp:Plain H l):zC F (upd H l o):=⟨jd t.tab hp,t.ot,fun a b c e=>⟨lB (t a b c e).1 (h a b c e),(t a b c e).2⟩⟩
theorem zC.updO {F:Fr}{H:Hp}{l:Addr}{o:HO}(t:zC F H)(h:¬F.O0 l)(hp:Plain H l):zC F (L2.upd H l o):=t.upd (fun a b c e=>⟨fun z=>h (by rw[z];exact (t a b c e).2.1),fun z=>h (by rw[z];exact (t a b c e).2.2.1),fun z=>h (by rw[z];exact (t a b c e).2.2.2)⟩) hp
def foot (s:Option V):A→Addr→Prop
 |.ow _,x=>s=some (.ref x)
 |.deep _ S,x=>S x
 |_,_=>False
def Ow (F:Fr)(α:Ev)(σ:St)(x:Addr):Prop:=F.O0 x∨∃(i:Nat) (a:A) (s:Option V),α[i]?=some (some a)∧σ[i]?=some s∧foot s a x
noncomputable abbrev Gz (F:Fr)(α:Ev)(σ:St)(H:Hp):Hp:=sub (fun x=>¬Ow F α σ x) H
noncomputable def vp (S:Addr→Prop)(G H:Hp):Hp:=fun x=>open Classical in if S x then H x else match G x with
 |some (.lst _)=>none
 |o=>o
theorem wM {S:Addr→Prop}{G G' H H':Hp}(h:zm G G')(hS:∀x o,S x→H x=some o→H' x=some o):zm (vp S G H) (vp S G' H'):=fun x o e=>by
 unfold vp at e ⊢
 by_cases z:S x
 ·rw[if_pos z] at e ⊢;exact hS x o z e
 ·rw[if_neg z] at e ⊢
  cases q:G x with
  |none=>rw[q] at e;cases e
  |some u=>
   rw[h _ _ q]
   rw[q] at e
   exact e
theorem uh {S:Addr→Prop}{G H:Hp}{x:Addr}{o:HO}(h:vp S G H x=some o):(S x∧H x=some o)∨(¬S x∧G x=some o):=by
 unfold vp at h
 by_cases z:S x
 ·rw[if_pos z] at h;exact .inl ⟨z,h⟩
 ·rw[if_neg z] at h
  split at h
  ·cases h
  ·exact .inr ⟨z,h⟩
inductive yA (G:Hp):HO→PyData→Prop where
 |lst {xs:List V} {ds:List PyData}:AVs G xs ds→yA G (.lst xs) (.list ds)
 |dk {kvs:List (Key×V)} {ds:List (PyData×PyData)}:AVk G kvs ds→yA G (.dK kvs) (jM ds)
theorem yA.ob {G:Hp}{o:HO}{c:PyData}(h:yA G o c):Ob o:=by cases h<;>trivial
theorem yA.same {G G':Hp}{o:HO}{c:PyData}(h:yA G o c)(s:zm G G'):yA G' o c:=by
 cases h with
 |lst h=>exact .lst (h.same s)
 |dk h=>exact .dk (h.same s)
theorem yA.av {G:Hp}{o:HO}{ds:List PyData}{l:Addr}(h:yA G o (.list ds))(e:G l=some o):AV G (.ref l) (.list ds):=by
 cases h with
 |lst h=>exact .lst e h
theorem yA.lst_inv {G:Hp}{o:HO}{ds:List PyData}(h:yA G o (.list ds)):∃xs,o=.lst xs∧AVs G xs ds:=by cases h;exact⟨_,rfl,by assumption⟩
theorem yA.plain {G H:Hp}{o:HO}{c:PyData}{l:Addr}(h:yA G o c)(e:H l=some o):Plain H l:=by
 cases h with
 |lst h=>exact uI e
 |dk h=>exact mq e
structure Lnk (r F:Fr)(H:Hp):Prop where
 tp:r.tp=F.tp
 o:∀x,r.O0 x→F.O0 x
 ok:zC r H
 k:Kz r r.H0 H
def xV (G:Hp)(F:Fr)(H:Hp)(s:Option V):A→Prop
 |.dat d=>∃v,s=some v∧AV G v d
 |.ow c=>∃l o,s=some (.ref l)∧H l=some o∧yA G o c∧¬F.O0 l∧F.H0 l=none
 |.deep d S=>∃v,s=some v∧AV (vp S G H) v d∧∀x,S x→¬F.O0 x∧F.H0 x=none∧∃xs,H x=some (.lst xs)
 |.tape=>∃t b c,F.tp=some (t,b,c)∧s=some (.ref t)
 |.at l=>s=some (.ref l)
 |.exc r _=>Lnk r F H
 |.pin l vs ds=>s=some (.ref l)∧G l=some (.lst vs)∧AVs G vs ds
structure M (F:Fr)(α:Ev)(σ:St)(H:Hp):Prop where
 len:α.length=σ.length
 ok:∀(i:Nat) (a:A) (s:Option V),α[i]?=some (some a)→σ[i]?=some s→xV (Gz F α σ H) F H s a
 dj:∀(i j:Nat) (a b:A) (s t:Option V) (x:Addr),α[i]?=some (some a)→α[j]?=some (some b)→σ[i]?=some s→σ[j]?=some t→foot s a x→foot t b x→i=j
 xd:∀(i:Nat) (r:Fr) (q:PyData→Prop),α[i]?=some (some (.exc r q))→∀(j:Nat) (a:A) (s:Option V) (x:Addr),α[j]?=some (some a)→σ[j]?=some s→foot s a x→r.H0 x=none
 tp:zC F H
 keep:Kz F F.H0 H
 oex:∀x,F.O0 x→∃o,H x=some o∧xH o
theorem M.at' {F:Fr}{α:Ev}{σ:St}{H:Hp}(m:M F α σ H){i:Nat}{a:Option A}(e:α[i]?=some a):∃s,σ[i]?=some s:=by
 have:i<σ.length:=by rw[←m.len];exact (dN.mp e).1
 exact⟨_,dP this⟩
theorem vv {G:Hp}{F:Fr}{H:Hp}{s:Option V}{a:A}{x:Addr}(h:xV G F H s a)(f:foot s a x):¬F.O0 x∧F.H0 x=none∧∃o,H x=some o∧Ob o:=by
 cases a with
 |ow c=>
  obtain⟨l,o,h1,h2,h3,h4,h5⟩:=h
  have f':s=some (.ref x):=f
  rw[f'] at h1;cases h1
  exact⟨h4,h5,o,h2,h3.ob⟩
 |deep d S=>
  obtain⟨v,h1,h2,h3⟩:=h
  obtain⟨z1,z2,xs,z3⟩:=h3 x f
  exact⟨z1,z2,_,z3,trivial⟩
 |dat d=>exact f.elim
 |tape=>exact f.elim
 |«at» l=>exact f.elim
 |exc r q=>exact f.elim
 |pin l vs ds=>exact f.elim
theorem Lnk.kz {r F:Fr}{H H':Hp}(l:Lnk r F H)(k:Kz F H H')(t:zC F H'):Lnk r F H':=⟨l.tp,l.o,l.ok.re t l.tp.symm,fun x o e n=>k x o (l.k x o e n) ⟨fun a b c z=>n.1 a b c (l.tp.trans z),n.2⟩⟩
theorem Lnk.none {r F:Fr}{H:Hp}(l:Lnk r F H){x:Addr}(h:H x=Option.none):r.H0 x=Option.none:=by
 cases q:r.H0 x with
 |none=>rfl
 |some o=>rw[l.k x o q ⟨fun a b c e=>⟨((l.ok a b c e).1.free h).1,((l.ok a b c e).1.free h).2.1⟩,rJ l.ok.tab h⟩] at h;cases h
def noX :A→Prop
 |.exc _ _=>False
 |_=>True
theorem xV.stay {G G':Hp}{F F':Fr}{H H':Hp}{s:Option V}{a:A}(h:xV G F H s a)(g:zm G G')(hf:∀x o,foot s a x→H x=some o→H' x=some o∧¬F'.O0 x∧F'.H0 x=none)(hp:F'.tp=F.tp)(hl:∀r q,a=.exc r q→Lnk r F H→Lnk r F' H'):xV G' F' H' s a:=by
 cases a with
 |dat d=>obtain⟨v,h1,h2⟩:=h;exact⟨v,h1,h2.same g⟩
 |ow c=>
  obtain⟨l,o,h1,h2,h3,h4,h5⟩:=h
  obtain⟨z1,z2,z3⟩:=hf l o h1 h2
  exact⟨l,o,h1,z1,h3.same g,z2,z3⟩
 |deep d S=>
  obtain⟨v,h1,h2,h3⟩:=h
  refine⟨v,h1,h2.same (wM g fun x o z e=>(hf x o z e).1),fun x z=>?_⟩
  obtain⟨_,_,xs,e⟩:=h3 x z
  obtain⟨z1,z2,z3⟩:=hf x _ z e
  exact⟨z2,z3,xs,z1⟩
 |tape=>obtain⟨t,b,c,e,z⟩:=h;exact⟨t,b,c,hp.trans e,z⟩
 |«at» l=>exact h
 |exc r q=>exact hl r q rfl h
 |pin l vs ds=>exact⟨h.1,g _ _ h.2.1,h.2.2.same g⟩
section
variable {F:Fr}{α:Ev}{σ:St}{H H' H'':Hp}
theorem M.dat (m:M F α σ H)(i:Nat)(d:PyData)(e:α[i]?=some (some (.dat d))):∃v,σ[i]?=some (some v)∧AV (Gz F α σ H) v d:=by
 obtain⟨s,hs⟩:=m.at' e
 obtain⟨v,rfl,h⟩:=m.ok i _ s e hs
 exact⟨v,hs,h⟩
theorem M.owc (m:M F α σ H)(i:Nat)(c:PyData)(e:α[i]?=some (some (.ow c))):∃l o,σ[i]?=some (some (.ref l))∧H l=some o∧yA (Gz F α σ H) o c∧¬F.O0 l∧F.H0 l=none:=by
 obtain⟨s,hs⟩:=m.at' e
 obtain⟨l,o,rfl,h⟩:=m.ok i _ s e hs
 exact⟨l,o,hs,h⟩
theorem M.own (m:M F α σ H)(i:Nat)(ds:List PyData)(e:α[i]?=some (some (.own ds))):∃l xs,σ[i]?=some (some (.ref l))∧H l=some (.lst xs)∧AVs (Gz F α σ H) xs ds∧¬F.O0 l∧F.H0 l=none:=by
 obtain⟨l,o,h1,h2,h3,h4⟩:=m.owc i _ e
 obtain⟨xs,rfl,h5⟩:=h3.lst_inv
 exact⟨l,xs,h1,h2,h5,h4⟩
theorem M.deep (m:M F α σ H)(i:Nat)(d:PyData)(S:Addr→Prop)(e:α[i]?=some (some (.deep d S))):∃v,σ[i]?=some (some v)∧AV (vp S (Gz F α σ H) H) v d∧∀x,S x→¬F.O0 x∧F.H0 x=none∧∃xs,H x=some (.lst xs):=by
 obtain⟨s,hs⟩:=m.at' e
 obtain⟨v,rfl,h⟩:=m.ok i _ s e hs
 exact⟨v,hs,h⟩
theorem M.tvar (m:M F α σ H)(i:Nat)(e:α[i]?=some (some .tape)):∃t b c,F.tp=some (t,b,c)∧σ[i]?=some (some (.ref t)):=by
 obtain⟨s,hs⟩:=m.at' e
 obtain⟨t,b,c,h,rfl⟩:=m.ok i _ s e hs
 exact⟨t,b,c,h,hs⟩
theorem M.lnk (m:M F α σ H){i:Nat}{r:Fr}{q:PyData→Prop}(e:α[i]?=some (some (.exc r q))):Lnk r F H:=by
 obtain⟨s,hs⟩:=m.at' e
 exact m.ok i _ s e hs
theorem Kz.refl :Kz F H H:=fun _ _ e _=>e
theorem Kz.trans (h:Kz F H H')(k:Kz F H' H''):Kz F H H'':=fun x o e n=>k x o (h x o e n) n
theorem Kz.of_same (h:zm H H'):Kz F H H':=fun x o e _=>h x o e
theorem zC.same (t:zC F H)(h:zm H H'):zC F H':=⟨lu t.tab h,t.ot,fun a b c e=>⟨om (t a b c e).1 h,(t a b c e).2⟩⟩
theorem zC.nt (t:zC F H){x:Addr}(h:¬F.O0 x):NT F x:=⟨fun a b c e=>⟨fun z=>h (z▸(t a b c e).2.1),fun z=>h (z▸(t a b c e).2.2.1)⟩,fun z=>h (t.ot x z)⟩
theorem ow0 {x:Addr}(h:¬Ow F α σ x):¬F.O0 x:=fun z=>h (.inl z)
theorem Kz.gz (k:Kz F H H')(t:zC F H):zm (Gz F α σ H) (Gz F α σ H'):=zk fun a o h e=>⟨h,k a o e (t.nt (ow0 h))⟩
theorem M.oex' (t:zC F H')(k:Kz F H H')(h:∀x,F.O0 x→∃o,H x=some o∧xH o):∀x,F.O0 x→∃o,H' x=some o∧xH o:=fun x hx=>by
 by_cases n:NT F x
 ·obtain⟨o,ho,hn⟩:=h x hx
  exact⟨o,k _ _ ho n,hn⟩
 ·by_cases z:vF x
  ·obtain⟨o,ho,hn,_⟩:=sf t.tab z
   exact⟨o,ho,hn⟩
  ·have:∃a b c,F.tp=some (a,b,c)∧¬(x≠a∧x≠b):=by
    refine Classical.byContradiction fun q=>n ⟨fun a b c e=>?_,z⟩
    exact Classical.byContradiction fun w=>q ⟨a,b,c,e,w⟩
   obtain⟨a,b,c,e,w⟩:=this
   obtain⟨n,bs,cs,_,e1,e2,e3,_⟩:=(t a b c e).1.ex
   by_cases xa:x=a
   ·exact⟨_,xa▸e1,yv⟩
   ·by_cases xb:x=b
    ·exact⟨_,xb▸e2,yv⟩
    ·exact absurd ⟨xa,xb⟩ w
theorem M.kz (m:M F α σ H)(k:Kz F H H')(t:zC F H'):M F α σ H' where
 len:=m.len
 ok:=fun i a s e1 e2=>(m.ok i a s e1 e2).stay (k.gz m.tp) (fun x o hf e=>by
  obtain⟨h1,h2,_⟩:=vv (m.ok i a s e1 e2) hf
  exact⟨k x o e (m.tp.nt h1),h1,h2⟩) rfl fun r _ _ l=>l.kz k t
 dj:=m.dj
 xd:=m.xd
 tp:=t
 keep:=m.keep.trans k
 oex:=M.oex' t k m.oex
theorem M.ft (m:M F α σ H){i:Nat}{a:A}{s:Option V}{x:Addr}(e1:α[i]?=some (some a))(e2:σ[i]?=some s)(f:foot s a x):¬F.O0 x∧F.H0 x=none∧∃o,H x=some o∧Ob o:=vv (m.ok i a s e1 e2) f
theorem M.owEx (m:M F α σ H){x:Addr}(h:Ow F α σ x):∃o,H x=some o∧xH o:=by
 rcases h with z|⟨i,a,s,e1,e2,f⟩
 ·exact m.oex x z
 ·obtain⟨_,_,o,ho,hb⟩:=m.ft e1 e2 f
  exact⟨o,ho,hb.notup⟩
theorem M.fresh (m:M F α σ H){l:Addr}(h:H l=none):¬Ow F α σ l:=fun z=>by
 obtain⟨o,ho,_⟩:=m.owEx z
 rw[h] at ho;cases ho
theorem M.fresh0 (m:M F α σ H){l:Addr}(h:H l=none):F.H0 l=none:=by
 cases q:F.H0 l with
 |none=>rfl
 |some o=>rw[m.keep l o q (m.tp.nt fun z=>m.fresh h (.inl z))] at h;cases h
theorem M.old (m:M F α σ H):zm (sub (fun x=>¬F.O0 x) F.H0) (Gz F α σ H):=fun a o e=>by
 obtain⟨h1,h2⟩:=zh e
 refine zx ?_ (m.keep a o h2 (m.tp.nt h1))
 rintro (z|⟨i,b,s,e1,e2,f⟩)
 ·exact h1 z
 ·obtain⟨_,z,_⟩:=m.ft e1 e2 f
  rw[h2] at z;cases z
noncomputable def Fr.up (F:Fr)(G:Hp):Fr:={F with H0:=fun x=>(F.H0 x).or (G x)}
theorem tN {G:Hp}{x:Addr}{o:HO}(h:F.H0 x=some o):(F.up G).H0 x=some o:=by show (F.H0 x).or (G x)=some o;rw[h];rfl
theorem pq {G:Hp}{x:Addr}(h:(F.up G).H0 x=none):F.H0 x=none:=by
 cases q:F.H0 x with
 |none=>rfl
 |some o=>rw[tN q] at h;cases h
theorem M.up (m:M F α σ H):M (F.up (Gz F α σ H)) α σ H where
 len:=m.len
 ok:=fun i a s e1 e2=>(m.ok i a s e1 e2).stay (fun _ _ e=>e) (fun x o hf e=>by
  obtain⟨h1,h2,_⟩:=m.ft e1 e2 hf
  refine⟨e,h1,?_⟩
  show (F.H0 x).or (Gz F α σ H x)=none
  rw[h2]
  show Gz F α σ H x=none
  cases q:Gz F α σ H x with
  |none=>rfl
  |some o=>exact absurd (.inr ⟨i,a,s,e1,e2,hf⟩) (zh q).1) rfl fun r _ _ l=>⟨l.tp,l.o,l.ok,l.k⟩
 dj:=m.dj
 xd:=m.xd
 tp:=m.tp.to rfl fun _ z=>z
 keep:=fun x o e n=>by
  have e':(F.H0 x).or (Gz F α σ H x)=some o:=e
  cases q:F.H0 x with
  |none=>rw[q,Option.none_or] at e';exact (zh e').2
  |some o'=>rw[q] at e';cases e';exact m.keep x _ q n
 oex:=m.oex
theorem M.down {G:Hp}(m:M (F.up G) α σ H):M F α σ H where
 len:=m.len
 ok:=fun i a s e1 e2=>(m.ok i a s e1 e2).stay (fun _ _ e=>e) (fun x o hf e=>by
  obtain⟨h1,h2,_⟩:=m.ft e1 e2 hf
  exact⟨e,h1,pq h2⟩) rfl fun r _ _ l=>⟨l.tp,l.o,l.ok,l.k⟩
 dj:=m.dj
 xd:=m.xd
 tp:=m.tp.to rfl fun _ z=>z
 keep:=fun x o e n=>m.keep x o (tN e) n
 oex:=m.oex
theorem M.upold {α0:Ev}{σ0:St}{H1:Hp}(m0:M F α0 σ0 H1)(m:M (F.up (Gz F α0 σ0 H1)) α σ H):zm (Gz F α0 σ0 H1) (Gz F α σ H):=fun a o e=>by
 obtain⟨h1,h2⟩:=zh e
 have e0:(F.up (Gz F α0 σ0 H1)).H0 a=some o:=by
  show (F.H0 a).or (Gz F α0 σ0 H1 a)=some o
  cases q:F.H0 a with
  |none=>exact e
  |some o'=>
   have:=m0.keep a o' q (m0.tp.nt (ow0 h1))
   rw[h2] at this;cases this;rfl
 exact m.old a o (zx (p:=fun x=>¬F.O0 x) (ow0 h1) e0)
end
def yt (F:Fr)(α:Ev)(σ:St)(H:Hp)(v:V)(H':Hp)(ds:List PyData):Prop:=
 ∃l xs,v=.ref l∧H l=none∧H' l=some (.lst xs)∧AVs (sub (fun x=>¬Ow F α σ x∧x≠l) H') xs ds
def md (F:Fr)(α:Ev)(σ:St)(H:Hp)(v:V)(H':Hp)(c:PyData):Prop:=
 ∃l o,v=.ref l∧H l=none∧H' l=some o∧yA (sub (fun x=>¬Ow F α σ x∧x≠l) H') o c
theorem yt.c {F:Fr}{α:Ev}{σ:St}{H H':Hp}{v:V}{ds:List PyData}(h:yt F α σ H v H' ds):md F α σ H v H' (.list ds):=by
 obtain⟨l,xs,h1,h2,h3,h4⟩:=h
 exact⟨l,_,h1,h2,h3,.lst h4⟩
theorem yt.av {F:Fr}{α:Ev}{σ:St}{H H':Hp}{v:V}{ds:List PyData}(m:M F α σ H)(h:yt F α σ H v H' ds):AV (Gz F α σ H') v (.list ds):=by
 obtain⟨l,xs,rfl,h1,h2,h3⟩:=h
 exact .lst (zx (m.fresh h1) h2) (h3.same (zk fun a o h e=>⟨h.1,e⟩))
section
variable (X:Cx)(α:Ev)
def EvD (e:Expr)(Q:PyData→Prop):Prop:=∀(F:Fr) (σ:St) (H:Hp) (R:VK),M F α σ H→(∀d v H',Q d→zC F H'→Kz F H H'→AV (Gz F α σ H') v d→R v H')→vo X e σ H R
def EvL (e:Expr)(Q:List PyData→Prop):Prop:=∀(F:Fr) (σ:St) (H:Hp) (R:VK),M F α σ H→(∀ds v H',Q ds→zC F H'→Kz F H H'→yt F α σ H v H' ds→R v H')→vo X e σ H R
def EvT (e:Expr)(Q:Bool→Prop):Prop:=∀(F:Fr) (σ:St) (H:Hp) (R:Bool→Hp→Prop),M F α σ H→(∀b H',Q b→zC F H'→Kz F H H'→R b H')→eM X e σ H R
def oZ (F:Fr)(G:Hp)(v:V):A→Prop
 |.dat d=>AV G v d
 |.tape=>∃t b c,F.tp=some (t,b,c)∧v=.ref t
 |_=>False
inductive zL (F:Fr)(G:Hp):List V→List A→Prop where
 |nil:zL F G [] []
 |cons {v:V} {vs:List V} {a:A} {as:List A}:oZ F G v a→zL F G vs as→zL F G (v::vs) (a::as)
def EvA (es:List Expr)(Q:List A→Prop):Prop:=∀(F:Fr) (σ:St) (H:Hp) (R:List V→Hp→Prop),M F α σ H→(∀as vs H',Q as→zC F H'→Kz F H H'→zL F (Gz F α σ H') vs as→R vs H')→fu X es σ H R
end
theorem oZ.to {F F':Fr}{G G':Hp}(s:zm G G')(hp:F'.tp=F.tp){v:V}:∀{a:A},oZ F G v a→oZ F' G' v a
 |.dat _,h=>AV.same s h
 |.tape,⟨t,b,c,e,z⟩=>⟨t,b,c,hp.trans e,z⟩
 |.ow _,h=>h
 |.deep _ _,h=>h
 |.at _,h=>h
 |.exc _ _,h=>h
 |.pin _ _ _,h=>h
theorem zL.to {F F':Fr}{G G':Hp}(s:zm G G')(hp:F'.tp=F.tp):∀{vs:List V} {as:List A},zL F G vs as→zL F' G' vs as
 |_,_,.nil=>.nil
 |_,_,.cons h r=>.cons (h.to s hp) (zL.to s hp r)
theorem zL.same {F:Fr}{G G':Hp}(s:zm G G'){vs:List V}{as:List A}(h:zL F G vs as):zL F G' vs as:=h.to s rfl
theorem zL.length {F:Fr}{G:Hp}:∀{vs:List V} {as:List A},zL F G vs as→vs.length=as.length
 |_,_,.nil=>rfl
 |_,_,.cons _ r=>by rw[cf,cf,zL.length r]
def A.d :A→PyData
 |.dat d=>d
 |.ow c=>c
 |.deep d _=>d
 |_=>.none
def mB (F:Fr)(v:V)(H':Hp):A→Prop
 |.dat d=>AV (sub (fun x=>¬F.O0 x) H') v d
 |.ow c=>∃l xs ds,v=.ref l∧c=.list ds∧F.H0 l=none∧¬F.O0 l∧H' l=some (.lst xs)∧AVs (sub (fun x=>¬F.O0 x∧x≠l) H') xs ds
 |.deep d S=>AV (vp S (sub (fun x=>¬F.O0 x) H') H') v d∧∀x,S x→¬F.O0 x∧F.H0 x=none∧∃xs,H' x=some (.lst xs)
 |_=>False
def xG (F:Fr)(v:V)(H':Hp)(a:A):Prop:=zC F H'∧Kz F F.H0 H'∧mB F v H' a
def spA (φ:List A→(A→Prop)→Prop):Sp:=fun vs H Qc _=>∃(F:Fr) (as:List A) (Q:A→Prop),F.H0=H∧zC F H∧(∀x,F.O0 x→∃o,H x=some o∧xH o)∧zL F (sub (fun x=>¬F.O0 x) H) vs as∧φ as Q∧∀a v H',Q a→xG F v H' a→Qc v H'
theorem mB.to {F F':Fr}{v:V}{H':Hp}{a:A}(r:mB F v H' a)(ho:∀x,F'.O0 x→F.O0 x)(h0:∀x,F.H0 x=none→F'.H0 x=none):mB F' v H' a:=by
 have s:zm (sub (fun x=>¬F.O0 x) H') (sub (fun x=>¬F'.O0 x) H'):=zk fun a o h e=>⟨fun z=>h (ho _ z),e⟩
 cases a with
 |dat d=>exact AV.same s r
 |ow c=>
  obtain⟨l,xs,ds,h1,hc,h2,h3,h4,h5⟩:=r
  exact⟨l,xs,ds,h1,hc,h0 _ h2,fun z=>h3 (ho _ z),h4,h5.same (zk fun a o h e=>⟨⟨fun z=>h.1 (ho _ z),h.2⟩,e⟩)⟩
 |deep d S=>
  obtain⟨h1,h2⟩:=r
  refine⟨h1.same (wM s fun _ _ _ e=>e),fun x z=>?_⟩
  obtain⟨z1,z2,z3⟩:=h2 x z
  exact⟨fun w=>z1 (ho _ w),h0 _ z2,z3⟩
 |tape=>exact r
 |«at» _=>exact r
 |exc _ _=>exact r
 |pin _ _ _=>exact r
structure yu where
 nx:Ev→Prop
 rt:A→Prop
 bk:Ev→Prop:=fun _=>False
 ct:Ev→Prop:=fun _=>False
structure rB (F:Fr)(E:yu)(D:Ends):Prop where
 nx:∀α σ H,M F α σ H→E.nx α→D.nx σ H
 rt:∀a v H,xG F v H a→E.rt a→D.rt v H
 bk:∀α σ H,M F α σ H→E.bk α→D.bk σ H
 ct:∀α σ H,M F α σ H→E.ct α→D.ct σ H
def SvS (X:Cx)(α:Ev)(sts:List Stmt)(E:yu):Prop:=∀(F:Fr) (σ:St) (H:Hp) (D:Ends),M F α σ H→rB F E D→nF X sts D σ H
theorem rB.up {F:Fr}{G:Hp}{E:yu}{D:Ends}(e:rB F E D):rB (F.up G) E D where
 nx:=fun α σ H m q=>e.nx α σ H m.down q
 bk:=fun α σ H m q=>e.bk α σ H m.down q
 ct:=fun α σ H m q=>e.ct α σ H m.down q
 rt:=fun a v H r q=>e.rt a v H (by
  obtain⟨t,k,r⟩:=r
  exact⟨t.to rfl fun _ z=>z,fun x o e n=>k x o (tN e) n,r.to (fun _ z=>z) fun x z=>pq z⟩) q
section
variable {X:Cx}{α:Ev}{e a b c:Expr}{es:List Expr}{pos p q:Pos}{Q:PyData→Prop}
theorem EvL.d (h:EvL X α e (fun ds=>Q (.list ds))):EvD X α e Q:=fun F σ H R m k=>h F σ H R m fun ds v H' q t z f=>k _ v H' q t z (f.av m)
theorem EvD.imp {Q':PyData→Prop}(h:EvD X α e Q')(k:∀d,Q' d→Q d):EvD X α e Q:=fun F σ H R m r=>h F σ H R m fun d v H' q=>r d v H' (k d q)
theorem zf (i:Nat){x:Str}{d:PyData}(hi:α[i]?=some (some (.dat d)))(q:Q d)(hN:X.N[i]?=some x:=by rfl)(hv:Vis X.env.scope x:=by first|exact Or.inl rfl|exact Or.inr (Or.inl rfl)|exact Or.inr (Or.inr rfl))
  (hd:(x == ("__debug__":Str))=false:=by decide) (hcd:(x == ("__classdict__":Str))=false:=by decide):EvD X α (.Name x pos) Q:=fun F σ H R m k=>by
 obtain⟨v,h1,h2⟩:=m.dat i d hi
 exact⟨_,yo hN hv hd hcd,v,h1,k d v H q m.tp Kz.refl h2⟩
theorem wX {i:Int}{j:Nat}(q:Q (.int i)):EvD X α (.Constant (.int i) j pos) Q:=fun F σ H R m k=>⟨_,zg,k _ _ H q m.tp Kz.refl (.int i)⟩
theorem tE {j:Nat}(q:Q .none):EvD X α (.Constant .none j pos) Q:=fun F σ H R m k=>⟨_,tw,k _ _ H q m.tp Kz.refl .non⟩
theorem sv {x:Str}{j:Nat}(q:Q (.str x)):EvD X α (.Constant (.str x) j pos) Q:=fun F σ H R m k=>⟨_,yc,k _ _ H q m.tp Kz.refl (.str x)⟩
theorem uk {x:Str}{i:Int}(hg:Gl X x)(hm:∃t,X.mg x=some (.int i t))(q:Q (.int i))(hd:(x == ("__debug__":Str))=false:=by decide):EvD X α (.Name x pos) Q:=fun F σ H R m k=>by
 obtain⟨t,hm⟩:=hm
 exact⟨_,xZ hg hm (show RelV (.int i) (.int i t) from ⟨t,rfl⟩) hd,k _ _ H q m.tp Kz.refl (.int i)⟩
theorem qL {f:TE→TE→TE}(hf:PE X e (f (vo X a) (vo X b)))(hr:∀σ H R,f (vo X a) (vo X b) σ H R↔vo X a σ H (fun x H1=>vo X b σ H1 fun y H2=>f (tC x) (tC y) σ H2 R))
  (h:EvD X α a fun x=>EvD X α b fun y=>∀(F:Fr) (σ:St) (H:Hp) (vx vy:V) (R:VK),M F α σ H→AV (Gz F α σ H) vx x→AV (Gz F α σ H) vy y→(∀d v H',Q d→zC F H'→Kz F H H'→AV (Gz F α σ H') v d→R v H')→f (tC vx) (tC vy) σ H R):
  EvD X α e Q:=fun F σ H R m k=>by
 refine⟨_,hf,(hr σ H R).mpr ?_⟩
 refine h F σ H _ m fun x vx H1 q1 t1 k1 r1=>?_
 have m1:=m.kz k1 t1
 refine q1 F σ H1 _ m1 fun y vy H2 q2 t2 k2 r2=>?_
 exact q2 F σ H2 vx vy R (m1.kz k2 t2) (r1.same (k2.gz m1.tp)) r2 fun d v H' qd t3 k3 r3=>k d v H' qd t3 ((k1.trans k2).trans k3) r3
theorem AV.int_inv {H:Hp}{v:V}{i:Int}(h:AV H v (.int i)):v=.int i:=by cases h;rfl
theorem AV.bl_inv {H:Hp}{v:V}{i:Bool}(h:AV H v (.bool i)):v=.bl i:=by cases h;rfl
theorem AV.str_inv {H:Hp}{v:V}{i:Str}(h:AV H v (.str i)):v=.str i:=by cases h;rfl
theorem AV.tup_inv {H:Hp}{v:V}{ds:List PyData}(h:AV H v (.tuple ds)):∃a xs,v=.ref a∧H a=some (.tup xs)∧AVs H xs ds:=by cases h;exact⟨_,_,rfl,by assumption,by assumption⟩
theorem AV.lst_inv {H:Hp}{v:V}{ds:List PyData}(h:AV H v (.list ds)):∃a xs,v=.ref a∧H a=some (.lst xs)∧AVs H xs ds:=by cases h;exact⟨_,_,rfl,by assumption,by assumption⟩
theorem AV.non_inv {H:Hp}{v:V}(h:AV H v .none):v=.non:=by cases h;rfl
theorem AV.isnon {H:Hp}{v:V}{d:PyData}(h:AV H v d):decide (v=.non)=(match d with|.none=>true|_=>false):=by cases h<;>simp
theorem iH {op:Operator}{C:Int→Int→Prop}{g:Int→Int→V}{gd:Int→Int→PyData}(ho:OpR X (binaryOp op) (rI C g))(hg:∀H i j,AV H (g i j) (gd i j))
  (h:EvD X α a fun x=>EvD X α b fun y=>∃i j,x=.int i∧y=.int j∧C i j∧Q (gd i j)):EvD X α (.BinOp a op b pos) Q:=by
 refine qL (f:=tOp (rI C g)) (zY ho zi zi) (fun _ _ _=>Iff.rfl) (h.imp fun x h=>h.imp fun y ⟨i,j,e1,e2,hc,hq⟩=>?_)
 subst e1 e2
 intro F σ H vx vy R m rx ry k
 cases rx.int_inv;cases ry.int_inv
 exact⟨i,j,rfl,rfl,hc,k _ _ H hq m.tp Kz.refl (hg _ i j)⟩
theorem pO {op:Operator}{g:Int→Int→V}{gd:Int→Int→PyData}(ho:OpR X (binaryOp op) (rI0 g))(hg:∀H i j,AV H (g i j) (gd i j))
  (h:EvD X α a fun x=>EvD X α b fun y=>∃i j,x=.int i∧y=.int j∧Q (gd i j)):EvD X α (.BinOp a op b pos) Q:=by
 refine qL (f:=tOp (rI0 g)) (zY ho zi zi) (fun _ _ _=>Iff.rfl) (h.imp fun x h=>h.imp fun y ⟨i,j,e1,e2,hq⟩=>?_)
 subst e1 e2
 intro F σ H vx vy R m rx ry k
 cases rx.int_inv;cases ry.int_inv
 exact⟨i,j,rfl,rfl,k _ _ H hq m.tp Kz.refl (hg _ i j)⟩
theorem iD (h:EvD X α a fun x=>EvD X α b fun y=>∃i j,x=.int i∧y=.int j∧Q (.int (i+j))):EvD X α (.BinOp a .Add b pos) Q:=pO (gd:=fun i j=>.int (i+j)) wY (fun _ _ _=>.int _) h
theorem gF (h:EvD X α a fun x=>EvD X α b fun y=>∃i j,x=.int i∧y=.int j∧Q (.int (i-j))):EvD X α (.BinOp a .Sub b pos) Q:=pO (gd:=fun i j=>.int (i-j)) kj (fun _ _ _=>.int _) h
theorem iG (h:EvD X α a fun x=>EvD X α b fun y=>∃i j,x=.int i∧y=.int j∧iW i j∧Q (.int (i ^ j.toNat))):EvD X α (.BinOp a .Pow b pos) Q:=iH (gd:=fun i j=>.int (i ^ j.toNat)) nY (fun _ _ _=>.int _) h
theorem sE {i j r:Int}{p1 p2:Pos}{n1 n2:Nat}(hc:iW i j)(hr:i ^ j.toNat=r)(q:Q (.int r)):EvD X α (.BinOp (.Constant (.int i) n1 p1) .Pow (.Constant (.int j) n2 p2) pos) Q:=
 iG (wX (wX ⟨i,j,rfl,rfl,hc,hr▸q⟩))
theorem hZ (h:EvD X α a fun x=>∃i,x=.int i∧Q (.int (-i))):EvD X α (.UnaryOp .USub a pos) Q:=fun F σ H R m k=>by
 refine⟨_,gS gj zi,?_⟩
 refine h F σ H _ m fun x vx H1 q1 t1 k1 r1=>?_
 obtain⟨i,rfl,q⟩:=q1
 cases r1.int_inv
 exact⟨i,rfl,k _ _ H1 q t1 k1 (.int _)⟩
def mF :PyData→Bool
 |.none=>true
 |_=>false
theorem AV.non_iff {H:Hp}{v:V}{d:PyData}(h:AV H v d):decide (v=.non)=mF d:=by cases h<;>simp[mF]
theorem yn {Q:Bool→Prop}(h:EvD X α e fun x=>∃k,x=.bool k∧Q k)(he:∀whole,isTrue e X.env whole=(do let v ←whole;standAt e.pos;holding [v] (truthy v)):=by intro _;rfl):EvT X α e Q:=fun F σ H R m k=>by
 refine⟨_,lq zi he,?_⟩
 refine h F σ H _ m fun x vx H1 q1 t1 k1 r1=>?_
 obtain⟨b,rfl,q⟩:=q1
 cases r1.bl_inv
 exact⟨b,rfl,k b H1 q t1 k1⟩
def Cmp (r:R2)(x y:PyData)(k:Bool):Prop:=∀(p:Addr→Prop) (H:Hp) (vx vy:V) (R:VK),AV (sub p H) vx x→AV (sub p H) vy y→R (.bl k) H→r vx vy H R
theorem tY {op:CmpOp}{r:R2}{Q:Bool→Prop}(ho:OpR X (compareOp op) r)(hm:behindInMarks op b=false)(h:EvD X α a fun x=>EvD X α b fun y=>∃k,Cmp r x y k∧Q k):EvT X α (.Compare a [op] [b] pos) Q:=fun F σ H R m k=>by
 refine⟨_,zN ho zi zi hm,?_⟩
 refine h F σ H _ m fun x vx H1 q1 t1 k1 r1=>?_
 have m1:=m.kz k1 t1
 refine q1 F σ H1 _ m1 fun y vy H2 q2 t2 k2 r2=>?_
 obtain⟨b,hc,q⟩:=q2
 exact hc _ H2 vx vy _ (r1.same (k2.gz m1.tp)) r2 ⟨b,rfl,k b H2 q t2 (k1.trans k2)⟩
theorem kY {g:Int→Int→Bool}{i j:Int}:Cmp (rI0 fun i j=>.bl (g i j)) (.int i) (.int j) (g i j):=fun p H vx vy R rx ry h=>by
 cases rx.int_inv;cases ry.int_inv
 exact⟨i,j,rfl,rfl,h⟩
theorem pE {op:CmpOp}{g:Int→Int→Bool}{Q:Bool→Prop}(ho:OpR X (compareOp op) (rI0 fun i j=>.bl (g i j)))(hm:behindInMarks op b=false)
  (h:EvD X α a fun x=>EvD X α b fun y=>∃i j,x=.int i∧y=.int j∧Q (g i j)):EvT X α (.Compare a [op] [b] pos) Q:=
 tY ho hm (h.imp fun x h=>h.imp fun y ⟨i,j,e1,e2,q⟩=>⟨_,by subst e1 e2;exact kY,q⟩)
theorem gX {Q:Bool→Prop}(h:EvD X α a fun x=>EvD X α b fun y=>∃i j,x=.int i∧y=.int j∧Q (decide (i<j))):EvT X α (.Compare a [.Lt] [b] pos) Q:=pE fB (zw _) h
theorem nL {Q:Bool→Prop}(h:EvD X α a fun x=>EvD X α b fun y=>∃i j,x=.int i∧y=.int j∧Q (decide (j<i))):EvT X α (.Compare a [.Gt] [b] pos) Q:=pE pB (zw _) h
theorem yM {j:Nat}{Q:Bool→Prop}(h:EvD X α a fun x=>Q (mF x)):EvT X α (.Compare a [.Is] [.Constant .none j p] pos) Q:=
 tY rX (zw _) (h.imp fun x h=>tE ⟨_,fun p H vx vy R rx ry z=>⟨ry.non_inv,by rw[rx.non_iff];exact z⟩,h⟩)
def de :PyData→Option Bool
 |.none=>some false
 |.bool b=>some b
 |.int i=>some (i != 0)
 |.list ds=>some (!ds.isEmpty)
 |.tuple ds=>some (!ds.isEmpty)
 |_=>none
theorem AVs.isEmpty {H:Hp}{xs:List V}{ds:List PyData}(h:AVs H xs ds):xs.isEmpty=ds.isEmpty:=by cases h<;>rfl
theorem ur {Q:Bool→Prop}(h:EvD X α e fun x=>∃k,de x=some k∧Q k)(he:∀whole,isTrue e X.env whole=(do let v ←whole;standAt e.pos;holding [v] (truthy v)):=by intro _;rfl):EvT X α e Q:=fun F σ H R m k=>by
 refine⟨_,kq zi he,?_⟩
 refine h F σ H _ m fun x vx H1 q1 t1 k1 r1=>?_
 obtain⟨b,hb,q⟩:=q1
 refine⟨b,?_,k b H1 q t1 k1⟩
 cases r1 with
 |non=>cases hb;rfl
 |bl z=>cases hb;rfl
 |int i=>cases hb;rfl
 |str s=>cases hb
 |lst h1 h2=>cases hb;exact .inl ⟨_,SqL.of (zh h1).2,by rw[h2.isEmpty]⟩
 |tup h1 h2=>cases hb;exact .inr (.inl ⟨_,SqT.of (zh h1).2,by rw[h2.isEmpty]⟩)
 |ins _ _=>cases hb
 |dk _ _=>cases hb
 |dt _ _=>cases hb
 |xc _ _ _=>cases hb
 |xn _=>cases hb
theorem vH {Q:Bool→Prop}(h:EvT X α a fun k=>Q (!k)):EvT X α (.UnaryOp .Not a pos) Q:=fun F σ H R m k=>by
 refine⟨_,mh yV,?_⟩
 exact h F σ H _ m fun b H1 q1 t1 k1=>k _ H1 q1 t1 k1
def EvW (X:Cx)(α:Ev)(e:Expr)(Q:Bool→Prop):Prop:=∀(F:Fr) (σ:St) (H:Hp) (R:Bool→Hp→Prop),M F α σ H→(∀b H',Q b→zC F H'→Kz F H H'→R b H')→∃t,PW X e t∧t σ H R
def dB (X:Cx)(e:Expr):TT:=fun σ H Q=>∃t,PW X e t∧t σ H Q
theorem pw :PW X e (dB X e):=fun w pins s σ H Q I ⟨t,p,q⟩=>p w pins s σ H Q I q
theorem EvW.t {Q:Bool→Prop}(h:EvW X α e Q):EvT X α e Q:=fun F σ H R m k=>by
 obtain⟨t,p,q⟩:=h F σ H R m k
 exact⟨t,p.pt,q⟩
variable {rest:List Expr}
theorem tU {Q:Bool→Prop}(h:EvT X α a Q):EvW X α (.BoolOp .And [a] pos) Q:=fun F σ H R m k=>⟨_,pf yV,h F σ H R m k⟩
theorem ug {Q:Bool→Prop}(h:EvT X α a Q):EvW X α (.BoolOp .Or [a] pos) Q:=fun F σ H R m k=>⟨_,rM yV,h F σ H R m k⟩
theorem sA {Q:Bool→Prop}(h:EvT X α a fun k=>if k=true then EvW X α (.BoolOp .And (b::rest) pos) Q else Q false):EvW X α (.BoolOp .And (a::b::rest) pos) Q:=fun F σ H R m k=>by
 refine⟨_,ma yV pw,?_⟩
 refine h F σ H _ m fun c H1 q1 t1 k1=>?_
 cases c with
 |true=>exact wJ ((by simpa using q1:EvW X α _ Q) F σ H1 R (m.kz k1 t1) fun b H2 q2 t2 k2=>k b H2 q2 t2 (k1.trans k2))
 |false=>exact wC (k _ H1 (by simpa using q1) t1 k1)
theorem xJ {Q:Bool→Prop}(h:EvT X α a fun k=>if k=true then Q true else EvW X α (.BoolOp .Or (b::rest) pos) Q):EvW X α (.BoolOp .Or (a::b::rest) pos) Q:=fun F σ H R m k=>by
 refine⟨_,kg yV pw,?_⟩
 refine h F σ H _ m fun c H1 q1 t1 k1=>?_
 cases c with
 |false=>exact wC ((by simpa using q1:EvW X α _ Q) F σ H1 R (m.kz k1 t1) fun b H2 q2 t2 k2=>k b H2 q2 t2 (k1.trans k2))
 |true=>exact wJ (k _ H1 (by simpa using q1) t1 k1)
theorem iL {op}(h:EvD X α a Q):EvD X α (.BoolOp op [a] pos) Q:=fun F σ H R m k=>⟨_,yL zi,h F σ H R m k⟩
theorem iu (h:EvD X α a fun x=>∃k,x=.bool k∧if k=true then EvD X α (.BoolOp .And (b::rest) pos) Q else Q (.bool false)):EvD X α (.BoolOp .And (a::b::rest) pos) Q:=fun F σ H R m k=>by
 refine⟨_,yw zi zi,?_⟩
 refine h F σ H _ m fun x vx H1 q1 t1 k1 r1=>?_
 obtain⟨c,rfl,q1⟩:=q1
 cases r1.bl_inv
 refine⟨c,rfl,?_⟩
 cases c with
 |true=>exact wJ ((by simpa using q1:EvD X α _ Q) F σ H1 R (m.kz k1 t1) fun d v H2 q2 t2 k2 r2=>k d v H2 q2 t2 (k1.trans k2) r2)
 |false=>exact wC (k _ _ H1 (by simpa using q1) t1 k1 (.bl _))
theorem eQ (h:EvD X α a fun x=>∃k,x=.bool k∧if k=true then Q (.bool true) else EvD X α (.BoolOp .Or (b::rest) pos) Q):EvD X α (.BoolOp .Or (a::b::rest) pos) Q:=fun F σ H R m k=>by
 refine⟨_,my zi zi,?_⟩
 refine h F σ H _ m fun x vx H1 q1 t1 k1 r1=>?_
 obtain⟨c,rfl,q1⟩:=q1
 cases r1.bl_inv
 refine⟨c,rfl,?_⟩
 cases c with
 |false=>exact wC ((by simpa using q1:EvD X α _ Q) F σ H1 R (m.kz k1 t1) fun d v H2 q2 t2 k2 r2=>k d v H2 q2 t2 (k1.trans k2) r2)
 |true=>exact wJ (k _ _ H1 (by simpa using q1) t1 k1 (.bl _))
theorem vG (h:EvT X α c fun k=>if k=true then EvD X α a Q else EvD X α b Q):EvD X α (.IfExp c a b pos) Q:=fun F σ H R m k=>by
 refine⟨_,mL yV zi zi,?_⟩
 refine h F σ H _ m fun x H1 q1 t1 k1=>?_
 cases x with
 |true=>exact wJ ((by simpa using q1:EvD X α _ Q) F σ H1 R (m.kz k1 t1) fun d v H2 q2 t2 k2 r2=>k d v H2 q2 t2 (k1.trans k2) r2)
 |false=>exact wC ((by simpa using q1:EvD X α _ Q) F σ H1 R (m.kz k1 t1) fun d v H2 q2 t2 k2 r2=>k d v H2 q2 t2 (k1.trans k2) r2)
def EvO (X:Cx)(α:Ev)(e:Option Expr)(Q:Option Int→Prop):Prop:=∀(F:Fr) (σ:St) (H:Hp) (R:Option Int→Hp→Prop),M F α σ H→(∀i H',Q i→zC F H'→Kz F H H'→R i H')→∃t,PO X e t∧t σ H R
def dF (X:Cx)(e:Option Expr):TO:=fun σ H Q=>∃t,PO X e t∧t σ H Q
theorem pH {e:Option Expr}:PO X e (dF X e):=fun pins s σ H Q I ⟨t,p,q⟩=>p pins s σ H Q I q
theorem tQ {Q:Option Int→Prop}(q:Q none):EvO X α none Q:=fun F σ H R m k=>⟨_,tW,k _ H q m.tp Kz.refl⟩
theorem tV {Q:Option Int→Prop}(h:EvD X α a fun x=>∃i,x=.int i∧Q (some i)):EvO X α (some a) Q:=fun F σ H R m k=>by
 refine⟨_,tS zi,?_⟩
 refine h F σ H _ m fun x vx H1 q1 t1 k1 r1=>?_
 obtain⟨i,rfl,q⟩:=q1
 cases r1.int_inv
 exact⟨i,rfl,k _ H1 q t1 k1⟩
theorem M.lay {F:Fr}{σ:St}{H:Hp}{l:Addr}{xs:List V}{ds:List PyData}(m:M F α σ H)(hl:H l=none)(h:AVs (Gz F α σ H) xs ds):zC F (upd H l (.lst xs))∧Kz F H (upd H l (.lst xs))∧yt F α σ H (.ref l) (upd H l (.lst xs)) ds:=by
 refine⟨m.tp.same (yf hl),Kz.of_same (yf hl),l,xs,rfl,hl,zd,h.same (zk fun a o ha e=>?_)⟩
 have:=ze e hl
 exact⟨⟨ha,this⟩,by rw[zc this];exact e⟩
theorem yt.back {F:Fr}{σ:St}{H H1 H':Hp}{v:V}{ds:List PyData}(m:M F α σ H)(k:Kz F H H1)(t1:zC F H1)(h:yt F α σ H1 v H' ds):yt F α σ H v H' ds:=by
 obtain⟨l',xs',e1,e2,e3,e4⟩:=h
 refine⟨l',xs',e1,?_,e3,e4⟩
 cases z:H l' with
 |none=>rfl
 |some o=>rw[k l' o z (m.tp.nt (ow0 ((m.kz k t1).fresh e2)))] at e2;cases e2
theorem zF {Q:List A→Prop}(q:Q []):EvA X α [] Q:=fun F σ H R m k=>⟨_,zj,k _ _ H q m.tp Kz.refl .nil⟩
theorem zr {Q:List A→Prop}(h:EvD X α e fun d=>EvA X α es fun as=>Q (.dat d::as))(hs:starEach (e::es) X.env=(false,eval e X.env)::starEach es X.env:=by rfl):EvA X α (e::es) Q:=fun F σ H R m k=>by
 refine⟨_,zb zi yx hs,?_⟩
 refine h F σ H _ m fun d v H1 q1 t1 k1 r1=>?_
 have m1:=m.kz k1 t1
 exact q1 F σ H1 _ m1 fun as vs H2 q2 t2 k2 r2=>k _ _ H2 q2 t2 (k1.trans k2) (.cons (r1.same (k2.gz m1.tp)) r2)
theorem sF {Q:List A→Prop}(i:Nat){x:Str}(hi:α[i]?=some (some .tape))(h:EvA X α es fun as=>Q (.tape::as))(hN:X.N[i]?=some x:=by rfl)(hv:Vis X.env.scope x:=by first|exact Or.inl rfl|exact Or.inr (Or.inl rfl)|exact Or.inr (Or.inr rfl))
  (hd:(x == ("__debug__":Str))=false:=by decide) (hcd:(x == ("__classdict__":Str))=false:=by decide) (hs:starEach (.Name x pos::es) X.env=(false,eval (.Name x pos) X.env)::starEach es X.env:=by rfl):EvA X α (.Name x pos::es) Q:=fun F σ H R m k=>by
 obtain⟨t,b,c,h1,h2⟩:=m.tvar i hi
 refine⟨_,zb (yo hN hv hd hcd) yx hs,.ref t,h2,?_⟩
 exact h F σ H _ m fun as vs H2 q2 t2 k2 r2=>k _ _ H2 q2 t2 k2 (.cons ⟨t,b,c,h1,rfl⟩ r2)
def datas :List A→Option (List PyData)
 |[]=>some []
 |.dat d::r=>(datas r).map (d::·)
 |_::_=>none
theorem zL.datas {F:Fr}{G:Hp}:∀{vs:List V} {as:List A} {ds:List PyData},zL F G vs as→L2.datas as=some ds→AVs G vs ds
 |_,_,ds,.nil,h=>by cases h;exact .nil
 |_,_,ds,.cons (a:=.dat d) (as:=as) h r,e=>by
  simp only[L2.datas,cV] at e
  obtain⟨es,e1,rfl⟩:=e
  exact .cons h (zL.datas r e1)
 |_,_,ds,.cons (a:=.ow _) h r,e=>by cases h
 |_,_,ds,.cons (a:=.deep _ _) h r,e=>by cases h
 |_,_,ds,.cons (a:=.exc _ _) h r,e=>by cases h
 |_,_,ds,.cons (a:=.pin _ _ _) h r,e=>by cases h
 |_,_,ds,.cons (a:=.tape) h r,e=>by cases e
 |_,_,ds,.cons (a:=.at _) h r,e=>by cases h
theorem sD {n:Nat}(h:EvA X α es fun as=>∃ds,datas as=some ds∧ds.length≤1000∧Q (.tuple ds)):EvD X α (.Tuple es n pos) Q:=fun F σ H R m k=>by
 refine⟨_,mR yx,?_⟩
 refine h F σ H _ m fun as vs H1 q1 t1 k1 r1=>?_
 obtain⟨ds,e,hl,q⟩:=q1
 have r:=r1.datas e
 have m1:=m.kz k1 t1
 refine⟨by rw[r.length];exact bN (yH hl),fun p hp=>?_⟩
 refine k _ _ _ q (t1.same (yf hp)) (k1.trans (Kz.of_same (yf hp))) (.tup (xs:=vs) (zx (m1.fresh hp) zd) (r.same (zk fun a o ha e=>⟨ha,by rw[zc (ze e hp)];exact e⟩)))
theorem xE {Q:List PyData→Prop}(h:EvA X α es fun as=>∃ds,datas as=some ds∧ds.length≤1000∧Q ds):EvL X α (.List es pos) Q:=fun F σ H R m k=>by
 refine⟨_,lW yx,?_⟩
 refine h F σ H _ m fun as vs H1 q1 t1 k1 r1=>?_
 obtain⟨ds,e,hl,q⟩:=q1
 have r:=r1.datas e
 have m1:=m.kz k1 t1
 refine⟨by rw[r.length];exact bN (yH hl),fun p hp=>?_⟩
 obtain⟨g1,g2,g3⟩:=m1.lay hp r
 exact k _ _ _ q g1 (k1.trans g2) (g3.back m k1 t1)
theorem sW {id:String}{x:Str}{r:List V→Hp→VK→Prop}(hc:xX X (.builtin id) r)(hg:Gl X x)(hm:X.mg x=none)(hv:bootBuiltins x=some (.builtin id))
  (h:EvA X α (e::es) fun as=>∀(F:Fr) (σ:St) (H:Hp) (vs:List V) (R:VK),M F α σ H→zL F (Gz F α σ H) vs as→(∀d v H',Q d→zC F H'→Kz F H H'→AV (Gz F α σ H') v d→R v H')→r vs H R)
  (hn:x≠"__name__":=by decide) (hdb:(x == ("__debug__":Str))=false:=by decide) (he:starEach (e::es) X.env=(false,eval e X.env)::starEach es X.env:=by rfl) (hpl:(backTo pos (starEach es X.env)).any (·.1)=false:=by rfl):
  EvD X α (.Call (.Name x p) (e::es) [] pos) Q:=fun F σ H R m k=>by
 refine⟨_,zJ hc hg hm hv yx hn hdb he hpl,?_⟩
 refine h F σ H _ m fun as vs H1 q1 t1 k1 r1=>?_
 exact q1 F σ H1 vs R (m.kz k1 t1) r1 fun d v H' qd t2 k2 r2=>k d v H' qd t2 (k1.trans k2) r2
end
section
variable {X:Cx}{α:Ev}{e a b c:Expr}{es:List Expr}{pos p q:Pos}{Q:PyData→Prop}
theorem zL.one {F:Fr}{G:Hp}{vs:List V}{d:PyData}(h:zL F G vs [.dat d]):∃v,vs=[v]∧AV G v d:=by
 cases h with|cons h r=>cases r;exact⟨_,rfl,h⟩
def eR :PyData→Option Int
 |.list ds=>some ds.length
 |.tuple ds=>some ds.length
 |_=>none
theorem uW (hg:Gl X "len")(hm:X.mg "len"=none)(h:EvD X α e fun x=>∃n,eR x=some n∧Q (.int n))(he:starEach [e] X.env=(false,eval e X.env)::starEach [] X.env:=by rfl):
  EvD X α (.Call (.Name "len" p) [e] [] pos) Q:=by
 refine sW zW hg hm bL (zr (h.imp fun x ⟨n,e1,q⟩=>zF ?_) he) (he:=he)
 intro F σ H vs R m rv k
 obtain⟨v,rfl,av⟩:=rv.one
 cases av with
 |lst h1 h2=>cases e1;rw[←h2.length] at q;exact⟨_,_,rfl,.inl (SqL.of (zh h1).2),k _ _ H q m.tp Kz.refl (.int _)⟩
 |tup h1 h2=>cases e1;rw[←h2.length] at q;exact⟨_,_,rfl,.inr (SqT.of (zh h1).2),k _ _ H q m.tp Kz.refl (.int _)⟩
 |_=>cases e1
def xp :PyData→Option (List PyData)
 |.list ds=>some ds
 |.tuple ds=>some ds
 |_=>none
theorem vw {Q:List PyData→Prop}(hg:Gl X "list")(hm:X.mg "list"=none)(h:EvD X α e fun x=>∃ds,xp x=some ds∧Q ds)(he:starEach [e] X.env=(false,eval e X.env)::starEach [] X.env:=by rfl):
  EvL X α (.Call (.Name "list" p) [e] [] pos) Q:=fun F σ H R m k=>by
 refine⟨_,uR wG hg hm boot_list (zb zi zj he) (he:=he),?_⟩
 refine h F σ H _ m fun x vx H1 q1 t1 k1 r1=>?_
 obtain⟨ds,e1,q⟩:=q1
 have m1:=m.kz k1 t1
 have fin:∀{xs:List V},AVs (Gz F α σ H1) xs ds→∀l,H1 l=none→R (.ref l) (upd H1 l (.lst xs)):=fun {xs} h2 l hl=>by
  obtain⟨g1,g2,g3⟩:=m1.lay hl h2
  exact k _ _ _ q g1 (k1.trans g2) (g3.back m k1 t1)
 cases r1 with
 |lst h1 h2=>cases e1;exact⟨_,_,rfl,.inl (SqL.of (zh h1).2),fin h2⟩
 |tup h1 h2=>cases e1;exact⟨_,_,rfl,.inr (SqT.of (zh h1).2),fin h2⟩
 |_=>cases e1
theorem kO (hgu:X.A.guards=some [])(hu:X.A.units+64<cLine)(hg:Gl X "repr")(hm:X.mg "repr"=none)(h:EvD X α e fun x=>zD sizeLine x∧Q (.str x.shown))(he:starEach [e] X.env=(false,eval e X.env)::starEach [] X.env:=by rfl):
  EvD X α (.Call (.Name "repr" p) [e] [] pos) Q:=by
 refine sW (oy hgu hu) hg hm boot_repr (zr (h.imp fun x ⟨n,q⟩=>zF ?_) he) (he:=he)
 intro F σ H vs R m rv k
 obtain⟨v,rfl,av⟩:=rv.one
 exact⟨v,x,rfl,(av.dv n.nod).same yX,n,k _ _ H q m.tp Kz.refl (.str _)⟩
section
variable {k:Nat}{f:Addr}{fd:FuncData}{ps:List Str}{φ:List A→(A→Prop)→Prop}{x:Str}
theorem vO {F:Fr}{σ:St}{H:Hp}{vs:List V}{as:List A}{QA:A→Prop}{R:VK}(m:M F α σ H)(rv:zL F (Gz F α σ H) vs as)(hφ:φ as QA)
  (kk:∀a v H',QA a→xG ⟨H,Ow F α σ,F.tp⟩ v H' a→R v H') {E:XK}:spA φ (vs++[]) H R E:=by
 refine⟨⟨H,Ow F α σ,F.tp⟩,as,QA,rfl,?_,?_,?_,hφ,kk⟩
 ·exact m.tp.to rfl fun _ z=>.inl z
 ·exact fun y z=>m.owEx z
 ·rw[cO]
  exact zL.to (F:=F) (F':=⟨H,Ow F α σ,F.tp⟩) (fun _ _ e=>e) rfl rv
theorem xG.back {F:Fr}{σ:St}{H H':Hp}{v:V}{a:A}(m:M F α σ H)(h:xG ⟨H,Ow F α σ,F.tp⟩ v H' a):zC F H'∧Kz F H H'∧AV (Gz F α σ H') v a.d:=by
 obtain⟨t,kz,r⟩:=h
 refine⟨m.tp.re t rfl,kz,?_⟩
 cases a with
 |dat d=>exact r
 |ow c=>
  obtain⟨l,xs,ds,rfl,rfl,h1,h2,h3,h4⟩:=r
  exact .lst (zx h2 h3) (h4.same (zk fun a o h e=>⟨h.1,e⟩))
 |deep d S=>
  obtain⟨h1,h2⟩:=r
  refine h1.same fun x o e=>?_
  rcases uh e with ⟨z1,z2⟩|⟨_,z2⟩
  ·exact zx (h2 x z1).1 z2
  ·exact z2
 |tape=>exact r.elim
 |«at» _=>exact r.elim
 |exc _ _=>exact r.elim
 |pin _ _ _=>exact r.elim
theorem jx (G:zt X.prog X.w X.K X.mg X.base CX0 k f fd ps (spA φ))(hr:zI k X.A)(hg:Gl X x)(hm:X.mg x=some (.ref f))(hk:PySem.W.keepIn X.K (.ref f)=true)(hb:Binds X.K fd ps [])
  (h:EvA X α (e::es) fun as=>φ as fun a=>Q a.d) (hdb:(x == ("__debug__":Str))=false:=by decide) (he:starEach (e::es) X.env=(false,eval e X.env)::starEach es X.env:=by rfl) (hpl:(backTo pos (starEach es X.env)).any (·.1)=false:=by rfl):
  EvD X α (.Call (.Name x p) (e::es) [] pos) Q:=fun F σ H R m kk=>by
 refine⟨_,zE G hr hg hm hk hb .nil zR yx hdb he hpl,?_⟩
 refine h F σ H _ m fun as vs H1 q1 t1 k1 r1=>?_
 have m1:=m.kz k1 t1
 refine vO m1 r1 q1 fun a v H' qa ra=>?_
 obtain⟨g1,g2,g3⟩:=ra.back m1
 exact kk _ v H' qa g1 (k1.trans g2) g3
theorem jy {Q:List PyData→Prop}(G:zt X.prog X.w X.K X.mg X.base CX0 k f fd ps (spA φ))(hr:zI k X.A)(hg:Gl X x)(hm:X.mg x=some (.ref f))(hk:PySem.W.keepIn X.K (.ref f)=true)(hb:Binds X.K fd ps [])
  (h:EvA X α (e::es) fun as=>φ as fun a=>∃ds,a=.own ds∧Q ds) (hdb:(x == ("__debug__":Str))=false:=by decide) (he:starEach (e::es) X.env=(false,eval e X.env)::starEach es X.env:=by rfl) (hpl:(backTo pos (starEach es X.env)).any (·.1)=false:=by rfl):
  EvL X α (.Call (.Name x p) (e::es) [] pos) Q:=fun F σ H R m kk=>by
 refine⟨_,zE G hr hg hm hk hb .nil zR yx hdb he hpl,?_⟩
 refine h F σ H _ m fun as vs H1 q1 t1 k1 r1=>?_
 have m1:=m.kz k1 t1
 refine vO m1 r1 q1 fun a v H' qa ra=>?_
 obtain⟨ds,rfl,q⟩:=qa
 obtain⟨g1,g2,_⟩:=ra.back m1
 obtain⟨_,_,l,xs,ds',rfl,hc,h1,h2,h3,h4⟩:=ra
 cases hc
 exact kk ds _ H' q g1 (k1.trans g2) (yt.back m k1 t1 ⟨l,xs,rfl,h1,h3,h4⟩)
end
theorem qA {i j:Nat}{x:Option A}(h:i≠j):(α.set i x)[j]?=α[j]?:=cF h
theorem zy {i:Nat}{x:Option A}{j:Nat}{y:Option A}(h:(α.set i x)[j]?=some y):(i=j∧x=y)∨(i≠j∧α[j]?=some y):=by
 by_cases hij:i=j
 ·subst hij
  left
  have hl:i<α.length:=by
   have:=(dN.mp h).1
   rwa [cq] at this
  rw[cT hl] at h
  exact⟨rfl,cA h⟩
 ·right
  rw[cF hij] at h
  exact⟨hij,h⟩
theorem M.put {F:Fr}{σ:St}{H:Hp}{i:Nat}{b:Option A}(m:M F α σ H)(hf:∀s c x,σ[i]?=some s→b=some c→foot s c x→∃a,α[i]?=some (some a)∧foot s a x)
  (hok:∀s c,i<α.length→σ[i]?=some s→b=some c→xV (Gz F (α.set i b) σ H) F H s c) (hx:∀c,b=some c→noX c:=by intro c z;cases z;trivial):zm (Gz F α σ H) (Gz F (α.set i b) σ H)∧M F (α.set i b) σ H:=by
 have gs:zm (Gz F α σ H) (Gz F (α.set i b) σ H):=zk fun a o h e=>⟨fun z=>h (by
  rcases z with z|⟨j,c,s,e1,e2,f⟩
  ·exact .inl z
  ·rcases zy e1 with ⟨rfl,z⟩|⟨hj,e1'⟩
   ·obtain⟨a',h1,h2⟩:=hf s c a e2 z f
    exact .inr ⟨i,a',s,h1,e2,h2⟩
   ·exact .inr ⟨j,c,s,e1',e2,f⟩),e⟩
 have old:∀{j:Nat} {c:A} {s:Option V} {x:Addr},(α.set i b)[j]?=some (some c)→σ[j]?=some s→foot s c x→∃a,α[j]?=some (some a)∧foot s a x:=fun {j c s x} e1 e2 f=>by
  rcases zy e1 with ⟨rfl,z⟩|⟨hj,e1'⟩
  ·exact hf s c x e2 z f
  ·exact⟨c,e1',f⟩
 refine⟨gs,by rw[cq];exact m.len,fun j c s e1 e2=>?_,fun j k c d s t x e1 e2 h1 h2 f1 f2=>?_,fun j r q e j' c s x e1 e2 f=>?_,m.tp,m.keep,m.oex⟩
 ·rcases zy e1 with ⟨rfl,z⟩|⟨hj,e1'⟩
  ·refine hok s c ?_ e2 z
   have:=(dN.mp e1).1
   rwa [cq] at this
  ·exact (m.ok j c s e1' e2).stay gs (fun x o f e=>⟨e,(m.ft e1' e2 f).1,(m.ft e1' e2 f).2.1⟩) rfl fun _ _ _ l=>l
 ·obtain⟨a',g1,g2⟩:=old e1 h1 f1
  obtain⟨b',g3,g4⟩:=old e2 h2 f2
  exact m.dj j k a' b' s t x g1 g3 h1 h2 g2 g4
 ·obtain⟨a',g1,g2⟩:=old e1 e2 f
  rcases zy e with ⟨rfl,z⟩|⟨_,e'⟩
  ·exact (hx _ z).elim
  ·exact m.xd j r q e' j' a' s x g1 e2 g2
theorem M.gave {F:Fr}{σ:St}{H:Hp}{i:Nat}{a:A}{s:Option V}{b:Option A}{x:Addr}(m:M F α σ H)(e1:α[i]?=some (some a))(e2:σ[i]?=some s)(f:foot s a x)(hb:∀c,b=some c→¬foot s c x):¬Ow F (α.set i b) σ x:=by
 rintro (z|⟨j,c,t,h1,h2,g⟩)
 ·exact (m.ft e1 e2 f).1 z
 ·rcases zy h1 with ⟨rfl,z⟩|⟨hj,h1'⟩
  ·rw[e2] at h2;cases h2;exact hb c z g
  ·exact hj (m.dj i j a c s t x e1 h1' e2 h2 f g)
theorem gG {F:Fr}{σ:St}{H:Hp}{i:Nat}{b:A}(hb:∀s x,¬foot s b x):zm (Gz F α σ H) (Gz F (α.set i (some b)) σ H):=zk fun a o h e=>⟨fun z=>h (by
 rcases z with z|⟨j,c,s,e1,e2,f⟩
 ·exact .inl z
 ·rcases zy e1 with ⟨rfl,z⟩|⟨hj,e1'⟩
  ·cases z;exact (hb _ _ f).elim
  ·exact .inr ⟨j,c,s,e1',e2,f⟩),e⟩
theorem M.frz {F:Fr}{σ:St}{H:Hp}{i:Nat}{ds:List PyData}(m:M F α σ H)(hi:α[i]?=some (some (.own ds))):M F (α.set i (some (.dat (.list ds)))) σ H:=
 (m.put (b:=some (.dat (.list ds))) (fun s c' x _ z f=>by cases z;exact f.elim) fun s c' _ e2 z=>by
  cases z
  obtain⟨l,o,h1,h2,h3,h4,h5⟩:=m.owc i _ hi
  rw[h1] at e2;cases e2
  exact⟨.ref l,rfl,(h3.same (gG (b:=.dat (.list ds)) fun _ _ f=>f)).av (zx (m.gave hi h1 rfl fun c z=>by cases z;exact id) h2)⟩).2
theorem M.frzd {F:Fr}{σ:St}{H:Hp}{i:Nat}{d:PyData}{S:Addr→Prop}(m:M F α σ H)(hi:α[i]?=some (some (.deep d S))):M F (α.set i (some (.dat d))) σ H:=
 (m.put (b:=some (.dat d)) (fun s c' x _ z f=>by cases z;exact f.elim) fun s c' _ e2 z=>by
  cases z
  obtain⟨v,h1,h2,h3⟩:=m.deep i d S hi
  rw[h1] at e2;cases e2
  refine⟨v,rfl,h2.same fun x o e=>?_⟩
  rcases uh e with ⟨z1,z2⟩|⟨_,z2⟩
  ·exact zx (m.gave hi h1 z1 fun c z=>by cases z;exact id) z2
  ·obtain⟨w1,w2⟩:=zh z2
   refine zx (fun q=>w1 ?_) w2
   rcases q with z|⟨j,c,s,e1,e2,f⟩
   ·exact .inl z
   ·rcases zy e1 with ⟨rfl,z⟩|⟨hj,e1'⟩
    ·cases z;exact f.elim
    ·exact .inr ⟨j,c,s,e1',e2,f⟩).2
theorem nO {F:Fr}{σ:St}{H H':Hp}{i:Nat}{a:A}{b:Option A}(m:M F α σ H)(k:Kz F H H')(hi:α[i]?=some (some a))(x:Addr)(o:HO)(ho:¬Ob o)(h:Gz F (α.set i b) σ H' x=some o):Gz F α σ H' x=some o:=by
 obtain⟨h1,h2⟩:=zh h
 refine zx ?_ h2
 rintro (z|⟨j,c,s,e1,e2,f⟩)
 ·exact h1 (.inl z)
 ·by_cases hj:i=j
  ·subst hj
   obtain⟨g1,g2,o',g3,g4⟩:=m.ft e1 e2 f
   rw[k _ _ g3 (m.tp.nt g1)] at h2;cases h2;exact ho g4
  ·exact h1 (.inr ⟨j,c,s,by rw[qA hj];exact e1,e2,f⟩)
theorem qI {Q:List PyData→Prop}{i:Nat}{a:A}{b:Option A}(hi:α[i]?=some (some a))(hm:∀F σ H,M F α σ H→M F (α.set i b) σ H)(h:EvL X (α.set i b) e fun d=>noLs d=true∧Q d):EvL X α e Q:=fun F σ H R m k=>
 h F σ H R (hm F σ H m) fun d v H' q t kz r=>by
  obtain⟨l,xs,h1,h2,h3,h4⟩:=r
  refine k d v H' q.2 t kz ⟨l,xs,h1,h2,h3,h4.noL (fun a ys hno z=>?_) q.1⟩
  obtain⟨z1,z2⟩:=zh z
  obtain⟨w1,w2⟩:=zh (nO m kz hi a ys hno (zx z1.1 z2))
  exact zx ⟨w1,z1.2⟩ w2
theorem kK (i:Nat){ds:List PyData}(hi:α[i]?=some (some (.own ds)))(h:EvD X (α.set i (some (.dat (.list ds)))) e fun d=>noL d=true∧Q d):EvD X α e Q:=fun F σ H R m k=>
 h F σ H R (m.frz hi) fun d v H' q t kz r=>k d v H' q.2 t kz (r.noL (nO m kz hi) q.1)
theorem qX {Q:Bool→Prop}(i:Nat){ds:List PyData}(hi:α[i]?=some (some (.own ds)))(h:EvT X (α.set i (some (.dat (.list ds)))) e Q):EvT X α e Q:=fun F σ H R m k=>h F σ H R (m.frz hi) k
theorem ji {Q:List PyData→Prop}(i:Nat){ds:List PyData}(hi:α[i]?=some (some (.own ds)))(h:EvL X (α.set i (some (.dat (.list ds)))) e fun d=>noLs d=true∧Q d):EvL X α e Q:=qI hi (fun _ _ _ m=>m.frz hi) h
def ItW (p:Addr→Prop)(J:It)(ds:List PyData)(G:Hp):Prop:=∀(i:Nat) (H2:Hp) (q:Addr→Prop),zm G (sub q H2)→
 (∀d,ds[i]?=some d→J.go i H2∧∀x H3,J.yld i H2 x H3→zm H2 H3∧((∀a o,H3 a=some o→H2 a=none→q a)→AV (sub q H3) x d))∧(ds.length≤i→J.stop i H2)
def gb (X:Cx)(tg e:Expr):TI:=fun σ H R=>∃t,PI X tg e t∧t σ H R
theorem uZ {tg e:Expr}:PI X tg e (gb X tg e):=fun pins s σ H R I ⟨t,p,q⟩=>p pins s σ H R I q
def EvI (X:Cx)(α:Ev)(tg e:Expr)(Q:List PyData→Prop):Prop:=∀(F:Fr) (σ:St) (H:Hp) (R:It→Hp→Prop),M F α σ H→
 (∀ds J H',Q ds→zC F H'→Kz F H H'→ItW (fun x=>¬Ow F α σ x) J ds (Gz F α σ H')→R J H')→gb X tg e σ H R
theorem oB {p:Addr→Prop}{lo:Int}{n:Nat}{G:Hp}:ItW p (Itr lo n) ((yC lo n).map .int) G:=fun i H2 q s=>⟨fun d hd=>by
  rw[cH,cV] at hd
  obtain⟨z,h1,rfl⟩:=hd
  have hi:i<n:=by
   have:=(dN.mp h1).1
   rwa [yb] at this
  rw[xm hi] at h1
  cases h1
  refine⟨hi,fun x H3 y=>?_⟩
  obtain⟨rfl,rfl⟩:=y
  exact⟨zm.refl _,fun _=>.int _⟩,fun hl=>by
  rw[dU,yb] at hl
  exact hl⟩
theorem wV {tg:Expr}{Q:List PyData→Prop}(hg:Gl X "range")(hm:X.mg "range"=none)(h:EvD X α a fun x=>∃j,x=.int j∧-(2 ^ 62)≤j∧j<2 ^ 62∧Q ((yC 0 j.toNat).map .int))(hs:starEach [a] X.env=[(false,eval a X.env)]:=by rfl):
  EvI X α tg (.Call (.Name "range" p) [a] [] pos) Q:=fun F σ H R m k=>by
 refine⟨_,nk hg hm (zb zi zj hs) hs,?_⟩
 refine h F σ H _ m fun x vx H1 q1 t1 k1 r1=>?_
 obtain⟨j,rfl,b1,b2,q⟩:=q1
 cases r1.int_inv
 exact⟨j,rfl,b1,b2,k _ _ H1 q t1 k1 oB⟩
end
inductive Pat where
 |one (i:Nat)
 |many (is:List Nat)
def xK :List Nat→List PyData→Ev→Option Ev
 |[],[],α=>some α
 |i::is,d::ds,α=>xK is ds (α.set i (some (.dat d)))
 |_,_,_=>none
def Pat.bind :Pat→PyData→Ev→Option Ev
 |.one i,d,α=>some (α.set i (some (.dat d)))
 |.many is,.tuple ds,α=>xK is ds α
 |_,_,_=>none
def gIs :List Nat→TGs
 |[]=>fw
 |i::is=>jP (uB i) (gIs is)
def rl (K:PySem.W.Frag):Pat→TG
 |.one i=>uB i
 |.many is=>gn K is.length (gIs is)
def Pat.slots :Pat→List Nat
 |.one i=>[i]
 |.many is=>is
def isFree (α:Ev)(i:Nat):Bool:=match α[i]? with
 |some none=>true
 |_=>false
def Pat.free (p:Pat)(α:Ev):Bool:=p.slots.all (isFree α)
section
variable {X:Cx}{α α':Ev}{F:Fr}{σ:St}{H:Hp}
theorem M.store {i:Nat}{v:V}{b:A}{H':Hp}(m:M F α σ H)(t:zC F H')(k:Kz F H H')(hn:∀x,foot (some v) b x→H x=none)(hok:xV (sub (fun x=>¬Ow F α σ x∧¬foot (some v) b x) H') F H' (some v) b)(hx:noX b:=by trivial):M F (α.set i (some b)) (σ.set i (some v)) H':=by
 have m':=m.kz k t
 have hs:∀{j:Nat} {c:A} {s:Option V},(α.set i (some b))[j]?=some (some c)→(σ.set i (some v))[j]?=some s→(i=j∧c=b∧s=some v)∨(i≠j∧α[j]?=some (some c)∧σ[j]?=some s):=fun {j c s} e1 e2=>by
  rcases zy e1 with ⟨rfl,z⟩|⟨hj,e1'⟩
  ·cases z
   have hl:i<σ.length:=by
    have:=(dN.mp e2).1
    rwa [cq] at this
   rw[cT hl] at e2
   cases e2
   exact .inl ⟨rfl,rfl,rfl⟩
  ·rw[cF hj] at e2
   exact .inr ⟨hj,e1',e2⟩
 have ow:∀{y:Addr},Ow F (α.set i (some b)) (σ.set i (some v)) y→Ow F α σ y∨foot (some v) b y:=fun {y} h=>by
  rcases h with z|⟨j,c,s,e1,e2,f⟩
  ·exact .inl (.inl z)
  ·rcases hs e1 e2 with ⟨_,rfl,rfl⟩|⟨_,g1,g2⟩
   ·exact .inr f
   ·exact .inl (.inr ⟨j,c,s,g1,g2,f⟩)
 have g1:zm (sub (fun x=>¬Ow F α σ x∧¬foot (some v) b x) H') (Gz F (α.set i (some b)) (σ.set i (some v)) H'):=zk fun a o h e=>⟨fun z=>(ow z).elim h.1 h.2,e⟩
 have g0:zm (Gz F α σ H) (sub (fun x=>¬Ow F α σ x∧¬foot (some v) b x) H'):=zk fun a o h e=>⟨⟨h,fun z=>by rw[hn a z] at e;cases e⟩,k a o e (m.tp.nt (ow0 h))⟩
 refine⟨by rw[cq,cq];exact m.len,fun j c s e1 e2=>?_,fun j j' c d s s' x e1 e2 h1 h2 f1 f2=>?_,fun j r q e j' c s x e1 e2 f=>?_,t,m.keep.trans k,m'.oex⟩
 ·rcases hs e1 e2 with ⟨rfl,rfl,rfl⟩|⟨_,z1,z2⟩
  ·exact hok.stay g1 (fun x o f e=>by
    obtain⟨w1,w2,_⟩:=vv hok f
    exact⟨e,w1,w2⟩) rfl fun _ _ _ l=>l
  ·exact (m.ok j c s z1 z2).stay (g0.trans g1) (fun x o f e=>by
    obtain⟨w1,w2,_⟩:=m.ft z1 z2 f
    exact⟨k x o e (m.tp.nt w1),w1,w2⟩) rfl fun _ _ _ l=>l.kz k t
 ·have nn:∀{j:Nat} {c:A} {s:Option V},α[j]?=some (some c)→σ[j]?=some s→foot s c x→¬foot (some v) b x:=fun {j c s} z1 z2 f g=>by
   obtain⟨_,_,o,w,_⟩:=m.ft z1 z2 f
   rw[hn x g] at w;cases w
  rcases hs e1 h1 with ⟨rfl,rfl,rfl⟩|⟨_,z1,z2⟩
  ·rcases hs e2 h2 with ⟨rfl,_⟩|⟨_,w1,w2⟩
   ·rfl
   ·exact absurd f1 (nn w1 w2 f2)
  ·rcases hs e2 h2 with ⟨rfl,rfl,rfl⟩|⟨_,w1,w2⟩
   ·exact absurd f2 (nn z1 z2 f1)
   ·exact m.dj j j' c d s s' x z1 w1 z2 w2 f1 f2
 ·rcases zy e with ⟨rfl,z⟩|⟨_,e'⟩
  ·cases z;exact hx.elim
  ·rcases hs e1 e2 with ⟨rfl,rfl,rfl⟩|⟨_,z1,z2⟩
   ·exact (m.lnk e').none (hn x f)
   ·exact m.xd j r q e' j' c s x z1 z2 f
theorem M.set {i:Nat}{v:V}{d:PyData}(m:M F α σ H)(av:AV (Gz F α σ H) v d):M F (α.set i (some (.dat d))) (σ.set i (some v)) H:=
 m.store m.tp Kz.refl (fun x z=>z.elim) ⟨v,rfl,av.same (zk fun a o h e=>⟨⟨h,fun z=>z⟩,e⟩)⟩
theorem M.setC {i:Nat}{v:V}{c:PyData}{H':Hp}(m:M F α σ H)(t:zC F H')(k:Kz F H H')(fl:md F α σ H v H' c):M F (α.set i (some (.ow c))) (σ.set i (some v)) H':=by
 obtain⟨l,o,rfl,h1,h2,h3⟩:=fl
 have nl:¬Ow F α σ l:=m.fresh h1
 refine m.store t k (fun x z=>?_) ⟨l,o,rfl,h2,h3.same (zk fun a o h e=>⟨⟨h.1,fun z=>h.2 (by cases z;rfl)⟩,e⟩),ow0 nl,m.fresh0 h1⟩
 have z':some (V.ref l)=some (.ref x):=z
 cases z';exact h1
theorem M.setOwn {i:Nat}{v:V}{ds:List PyData}{H':Hp}(m:M F α σ H)(t:zC F H')(k:Kz F H H')(fl:yt F α σ H v H' ds):M F (α.set i (some (.own ds))) (σ.set i (some v)) H':=m.setC t k fl.c
theorem M.wr {x:Addr}{o:HO}(m:M F α σ H)(hno:xH o)(ho:F.O0 x)(ht:∀t b c,F.tp=some (t,b,c)→x≠t∧x≠b∧x≠c)(h0:F.H0 x=none)(hpl:Plain H x)(hx:∀(i:Nat) r q,α[i]?=some (some (.exc r q))→r.H0 x=none):M F α σ (upd H x o):=by
 have gs:zm (Gz F α σ H) (Gz F α σ (upd H x o)):=zk fun a u h e=>⟨h,by rw[zc (fun z=>h (.inl (by rw[z];exact ho)))];exact e⟩
 refine⟨m.len,fun j c s e1 e2=>?_,m.dj,m.xd,m.tp.upd ht hpl,fun y u e n=>?_,fun y hy=>?_⟩
 ·have:=m.ok j c s e1 e2
  cases c with
  |exc r q=>
   have l:Lnk r F H:=this
   exact⟨l.tp,l.o,l.ok.upd (fun a b c e=>ht a b c (l.tp▸e)) hpl,fun y u e n=>by rw[zc (ze e (hx j r q e1))];exact l.k y u e n⟩
  |_=>exact this.stay gs (fun y u f e=>by
    obtain⟨w1,w2,_⟩:=m.ft e1 e2 f
    exact⟨by rw[zc (fun z=>w1 (by rw[z];exact ho))];exact e,w1,w2⟩) rfl fun _ _ z=>by cases z
 ·rw[zc (ze e h0)];exact m.keep y u e n
 ·by_cases z:y=x
  ·exact⟨o,by rw[z];exact zd,hno⟩
  ·obtain⟨u,hu,hn⟩:=m.oex y hy
   exact⟨u,by rw[zc z];exact hu,hn⟩
theorem M.forget {α0:Ev}(m:M F α σ H)(hl:α0.length=α.length)(le:∀(i:Nat) a,α0[i]?=some (some a)→α[i]?=some (some a)):M F α0 σ H:=by
 have ow:∀{y:Addr},Ow F α0 σ y→Ow F α σ y:=fun {y} h=>by
  rcases h with z|⟨j,c,s,e1,e2,f⟩
  ·exact .inl z
  ·exact .inr ⟨j,c,s,le _ _ e1,e2,f⟩
 have gs:zm (Gz F α σ H) (Gz F α0 σ H):=zk fun a o h e=>⟨fun z=>h (ow z),e⟩
 exact⟨hl.trans m.len,fun j c s e1 e2=>(m.ok j c s (le _ _ e1) e2).stay gs (fun x o f e=>⟨e,(m.ft (le _ _ e1) e2 f).1,(m.ft (le _ _ e1) e2 f).2.1⟩) rfl fun _ _ _ l=>l,fun j j' c d s s' x e1 e2=>m.dj j j' c d s s' x (le _ _ e1) (le _ _ e2),fun j r q e j' c s x e1=>m.xd j r q (le _ _ e) j' c s x (le _ _ e1),m.tp,m.keep,m.oex⟩
theorem uN {H:Hp}:∀{is:List Nat} {ds:List PyData} {α α':Ev} {σ:St} {xs:List V} {R:St→Hp→Prop},xK is ds α=some α'→M F α σ H→(∀G,zm (Gz F α σ H) G→AVs G xs ds)→(∀σ',M F α' σ' H→R σ' H)→gIs is xs σ H R
 |[],[],α,α',σ,xs,R,e,m,av,k=>by
  cases e
  cases av _ (zm.refl _)
  exact⟨rfl,k σ m⟩
 |i::is,d::ds,α,α',σ,xs,R,e,m,av,k=>by
  cases h:av _ (zm.refl _) with
  |@cons x xs _ _ h1 h2=>
   refine⟨x,xs,rfl,?_⟩
   have gs:zm (Gz F α σ H) (Gz F (α.set i (some (.dat d))) (σ.set i (some x)) H):=zk fun a o h e=>⟨fun z=>h (by
    rcases z with z|⟨j,c,s,e1,e2,f⟩
    ·exact .inl z
    ·rcases zy e1 with ⟨_,z⟩|⟨hj,e1'⟩
     ·cases z;exact f.elim
     ·rw[cF hj] at e2
      exact .inr ⟨j,c,s,e1',e2,f⟩),e⟩
   exact uN (is:=is) (ds:=ds) e (m.set (i:=i) h1) (fun G s=>h2.same (gs.trans s)) k
 |[],_::_,_,_,_,_,_,e,_,_,_=>by cases e
 |_::_,[],_,_,_,_,_,e,_,_,_=>by cases e
theorem pL {K:PySem.W.Frag}{pat:Pat}{d:PyData}{v:V}{R:St→Hp→Prop}(e:pat.bind d α=some α')(m:M F α σ H)(av:AV (Gz F α σ H) v d)(k:∀σ',M F α' σ' H→R σ' H):rl K pat v σ H R:=by
 cases pat with
 |one i=>cases e;exact k _ (m.set av)
 |many is=>
  cases d with
  |tuple ds=>
   obtain⟨a,xs,rfl,h1,h2⟩:=av.tup_inv
   have hl:∀{is:List Nat} {ds:List PyData} {α α':Ev},xK is ds α=some α'→ds.length=is.length:=by
    intro is
    induction is with
    |nil=>intro ds α α' h;cases ds with|nil=>rfl|cons _ _=>cases h
    |cons i is ih=>intro ds α α' h;cases ds with|nil=>cases h|cons d ds=>rw[cf,cf,ih h]
   exact⟨a,xs,rfl,SqT.of (zh h1).2,by rw[h2.length];exact hl e,uN e m (fun G s=>h2.same s) k⟩
  |_=>cases e
theorem um :∀{is:List Nat} {ds:List PyData} {α α':Ev},xK is ds α=some α'→α'.length=α.length
 |[],[],_,_,e=>by cases e;rfl
 |i::is,d::ds,α,α',e=>by
  have:=um (is:=is) (ds:=ds) e
  rwa [cq] at this
 |[],_::_,_,_,e=>by cases e
 |_::_,[],_,_,e=>by cases e
theorem uo :∀{is:List Nat} {ds:List PyData} {α α':Ev} {j:Nat},xK is ds α=some α'→j∉is→α'[j]?=α[j]?
 |[],[],_,_,_,e,_=>by cases e;rfl
 |i::is,d::ds,α,α',j,e,h=>by
  rw[uo (is:=is) (ds:=ds) e fun z=>h (dX _ z)]
  exact cF fun (z:i=j)=>h (by rw[←z];exact cv)
 |[],_::_,_,_,_,e,_=>by cases e
 |_::_,[],_,_,_,e,_=>by cases e
theorem vK :∀{is:List Nat} {ds:List PyData} {α α':Ev} {j:Nat} {a:A},xK is ds α=some α'→α'[j]?=some (some a)→(∀d,a≠.dat d)→α[j]?=some (some a)
 |[],[],_,_,_,_,e,h,_=>by cases e;exact h
 |i::is,d::ds,α,α',j,a,e,h,hn=>by
  rcases zy (vK (is:=is) (ds:=ds) e h hn) with ⟨_,z⟩|⟨_,z⟩
  ·cases z;exact absurd rfl (hn d)
  ·exact z
 |[],_::_,_,_,_,_,e,_,_=>by cases e
 |_::_,[],_,_,_,_,e,_,_=>by cases e
theorem Pat.is_ok {pat:Pat}{d:PyData}(e:pat.bind d α=some α'):∃is ds,pat.slots=is∧xK is ds α=some α':=by
 cases pat with
 |one i=>cases e;exact⟨_,[d],rfl,rfl⟩
 |many is=>
  cases d with
  |tuple ds=>exact⟨_,ds,rfl,e⟩
  |_=>cases e
theorem Pat.back {pat:Pat}{d:PyData}(e:pat.bind d α=some α')(fr:pat.free α=true)(m:M F α' σ H):M F α σ H:=by
 obtain⟨is,ds,rfl,e⟩:=Pat.is_ok e
 refine m.forget (um e).symm fun j a h=>?_
 by_cases hj:j∈pat.slots
 ·have:=aj.mp fr j hj
  unfold isFree at this
  rw[h] at this
  cases this
 ·rw[uo e hj];exact h
end
section
variable {X:Cx}{α:Ev}
def mH (X:Cx)(α:Ev)(ifs:List Expr)(Q:Bool→Prop):Prop:=∀(F:Fr) (σ:St) (H:Hp) (R:Bool→Hp→Prop),M F α σ H→(∀b H',Q b→zC F H'→Kz F H H'→R b H')→∃t,xQ X ifs t∧t σ H R
def jW (X:Cx)(ifs:List Expr):TT:=fun σ H R=>∃t,xQ X ifs t∧t σ H R
theorem pU {ifs:List Expr}:xQ X ifs (jW X ifs):=fun pins s σ H Q I ⟨t,p,q⟩=>p pins s σ H Q I q
theorem gA {Q:Bool→Prop}(q:Q true):mH X α [] Q:=fun F σ H R m k=>⟨_,js,k _ H q m.tp Kz.refl⟩
theorem nM {c:Expr}{Q:Bool→Prop}(h:EvT X α c Q):mH X α [c] Q:=fun F σ H R m k=>⟨_,pM yV,h F σ H R m k⟩
def seen :Option A→Option A
 |some (.dat d)=>some (.dat d)
 |some .tape=>some .tape
 |_=>none
def yr (imp:List (Option Nat))(α:Ev):Ev:=imp.map fun o=>o.bind fun j=>(α[j]?).bind seen
theorem rj {imp:List (Option Nat)}{i:Nat}{a:A}(h:(yr imp α)[i]?=some (some a)):∃j,imp[i]?=some (some j)∧α[j]?=some (some a)∧((∃d,a=.dat d)∨a=.tape):=by
 unfold yr at h
 rw[cH,cV] at h
 obtain⟨o,h1,h2⟩:=h
 cases o with
 |none=>cases h2
 |some j=>
  have h2':(α[j]?).bind seen=some a:=h2
  cases q:α[j]? with
  |none=>rw[q] at h2';cases h2'
  |some b=>
   rw[q] at h2'
   cases b with
   |none=>cases h2'
   |some b=>
    cases b with
    |dat d=>cases h2';exact⟨j,h1,q,.inl ⟨d,rfl⟩⟩
    |tape=>cases h2';exact⟨j,h1,q,.inr rfl⟩
    |_=>cases h2'
theorem sQ {imp:List (Option Nat)}{σ:St}{i j:Nat}{v:V}(h1:imp[i]?=some (some j))(h2:σ[j]?=some (some v)):(xi imp σ)[i]?=some (some v):=by
 unfold xi
 rw[cH,h1]
 show some ((σ[j]?).bind id)=_
 rw[h2];rfl
def yP (Y:Addr→Shared→Hp→List Addr→Cx)(pat:Pat)(ifs:List Expr)(elt:Expr)(α0:Ev):List PyData→List PyData→(List PyData→Prop)→Prop
 |[],acc,Q=>Q acc
 |d::ds,acc,Q=>∃α1,pat.bind d α0=some α1∧∀C s2 H2 fp,mH (Y C s2 H2 fp) α1 ifs fun k=>if k=true then ∀C s2 H2 fp,EvD (Y C s2 H2 fp) α1 elt fun y=>yP Y pat ifs elt α0 ds (acc++[y]) Q else yP Y pat ifs elt α0 ds acc Q
def eC (Y:Addr→Shared→Hp→List Addr→Cx)(e:Expr):TE:=fun σ H Q=>∀C s2 H2 fp,vo (Y C s2 H2 fp) e σ H Q
def tsC (Y:Addr→Shared→Hp→List Addr→Cx)(ifs:List Expr):TT:=fun σ H Q=>∀C s2 H2 fp,jW (Y C s2 H2 fp) ifs σ H Q
theorem pT {N:List Str}{imp:List (Option Nat)}{scope:Scope}{tg iter elt:Expr}{ifs:List Expr}{pat:Pat}{Q:List PyData→Prop}(hfree:pat.free (yr imp α)=true)
  (h:EvI X α tg iter fun ds=>ds.length≤1000∧yP (fun C s2 H2 fp=>X.comp N scope C s2 H2 fp) pat ifs elt (yr imp α) ds [] Q)
  (F:Fr) (σ:St) (H:Hp) (R:VK) (m:M F α σ H) (k:∀ds v H',Q ds→zC F H'→Kz F H H'→yt F α σ H v H' ds→R v H'):
  ∃Y:Addr→Shared→Hp→List Addr→Cx,Y=(fun C s2 H2 fp=>X.comp N scope C s2 H2 fp)∧nP (gb X tg iter) imp (rl X.K pat) (tsC Y ifs) (eC Y elt) σ H R:=by
 refine⟨_,rfl,?_⟩
 refine h F σ H _ m fun ds J H1 ⟨hl,q1⟩ t1 k1 itw acc hacc=>?_
 have m1:=m.kz k1 t1
 have nacc:¬Ow F α σ acc:=m1.fresh hacc
 let Fc:Fr:=⟨H1,fun x=>Ow F α σ x∨x=acc,F.tp⟩
 let Nd:Ev→Prop:=fun α1=>∀(j:Nat) a,α1[j]?=some (some a)→(∃d,a=.dat d)∨a=.tape
 have no0:Nd (yr imp α):=fun j a z=>by
  obtain⟨_,_,_,n⟩:=rj z
  exact n
 have owc:∀{α1:Ev} {τ:St} {x:Addr},Nd α1→(Ow Fc α1 τ x↔Fc.O0 x):=fun {α1 τ x} hh=>⟨fun z=>z.elim id fun⟨j,a,s,e1,e2,f⟩=>by
  rcases hh j a e1 with ⟨d,rfl⟩|rfl
  ·exact f.elim
  ·exact f.elim,.inl⟩
 have gz:∀{α1 α2:Ev} {τ1 τ2:St} {H:Hp},Nd α1→Nd α2→zm (Gz Fc α1 τ1 H) (Gz Fc α2 τ2 H):=fun h1 h2=>zk fun a o h e=>⟨fun z=>h ((owc h1).mpr ((owc h2).mp z)),e⟩
 have tpc:∀{H2:Hp},zC F H2→zC Fc H2:=fun t=>t.to rfl fun x z=>.inl (.inl z)
 have s01:zm H1 (upd H1 acc (.lst [])):=yf hacc
 have mc0:M Fc (yr imp α) (xi imp σ) (upd H1 acc (.lst [])):=by
  have g1:zm (Gz F α σ H1) (Gz Fc (yr imp α) (xi imp σ) (upd H1 acc (.lst []))):=fun a o e=>by
   obtain⟨z1,z2⟩:=zh e
   have na:a≠acc:=ze z2 hacc
   exact zx (fun z=>((owc no0).mp z).elim z1 na) (by rw[zc na];exact z2)
  refine⟨by unfold yr xi;rw[dU,dU],fun i a s e1 e2=>?_,fun i j a b s t x e1 e2 _ _ f=>?_,fun i r q e=>(by rcases no0 i _ e with ⟨d,w⟩|w<;>cases w),tpc (t1.same s01),fun x o e _=>s01 x o e,?_⟩
  ·obtain⟨j,w1,w2,w3⟩:=rj e1
   rcases w3 with ⟨d,rfl⟩|rfl
   ·obtain⟨v,g2,g3⟩:=m1.dat j d w2
    rw[sQ w1 g2] at e2;cases e2
    exact⟨v,rfl,g3.same g1⟩
   ·obtain⟨t,b,c,g2,g3⟩:=m1.tvar j w2
    rw[sQ w1 g3] at e2;cases e2
    exact⟨t,b,c,g2,rfl⟩
  ·rcases no0 i a e1 with ⟨d,rfl⟩|rfl
   ·exact f.elim
   ·exact f.elim
  ·rintro x (z|z)
   ·have:∃o,H1 x=some o∧xH o:=m1.owEx z
    obtain⟨o,ho,hn⟩:=this
    exact⟨o,s01 _ _ ho,hn⟩
   ·exact⟨_,by rw[z];exact zd,yv⟩
 refine⟨fun i n ys τ H2=>n=ds.length-i∧i≤ds.length∧∃ad:List PyData,M Fc (yr imp α) τ H2∧H2 acc=some (.lst ys)∧AVs (Gz Fc (yr imp α) τ H2) ys ad∧ad.length≤i∧yP (fun C s2 H2 fp=>X.comp N scope C s2 H2 fp) pat ifs elt (yr imp α) (ds.drop i) ad Q,
  ⟨ds.length,by simp,dZ _,[],mc0,zd,.nil,dQ _,q1⟩,?_⟩
 rintro i n ys τ H2 ⟨rfl,hi,ad,m2,ha,av,had,cw⟩
 have sG:zm (Gz F α σ H1) (Gz Fc (yr imp α) τ H2):=fun a o e=>by
  obtain⟨z1,z2⟩:=zh e
  exact m2.old a o (zx (p:=fun x=>¬Fc.O0 x) (fun z=>z.elim z1 (ze z2 hacc)) z2)
 obtain⟨w1,w2⟩:=itw i H2 _ sG
 by_cases hlt:i<ds.length
 ·have hd:ds[i]?=some ds[i]:=dP hlt
  have hdr:ds.drop i=ds[i]::ds.drop (i+1):=bJ hlt
  rw[hdr] at cw
  obtain⟨α1,eb,body⟩:=cw
  obtain⟨go,yl⟩:=w1 _ hd
  have no1:Nd α1:=fun j a z=>by
   obtain⟨is,ds',_,e⟩:=Pat.is_ok eb
   by_cases hn:∀d,a≠.dat d
   ·exact no0 j a (vK e z hn)
   ·simp only[Classical.not_forall,Classical.not_not] at hn
    exact .inl hn
  refine .inr ⟨go,fun ys' τ' H'=>∃ad:List PyData,M Fc (yr imp α) τ' H'∧H' acc=some (.lst ys')∧AVs (Gz Fc (yr imp α) τ' H') ys' ad∧ad.length≤i+1∧yP (fun C s2 H2 fp=>X.comp N scope C s2 H2 fp) pat ifs elt (yr imp α) (ds.drop (i+1)) ad Q,
   fun ys' τ' H' ⟨ad',r1,r2,r3,r4,r5⟩=>⟨ds.length-(i+1),by omega,rfl,hlt,ad',r1,r2,r3,r4,r5⟩,fun x H3 y=>?_⟩
  obtain⟨s23,avx⟩:=yl x H3 y
  have m3:M Fc (yr imp α) τ H3:=m2.kz (Kz.of_same s23) (m2.tp.same s23)
  have avx':=avx fun a o _ e=>m2.fresh e
  refine pL eb m3 avx' fun τ1 m4 C s2 H2' fp=>?_
  refine body C s2 H2' fp Fc τ1 H3 _ m4 fun b H5 qb t5 k5=>?_
  have m5:=m4.kz k5 t5
  have av5:AVs (Gz Fc (yr imp α) τ1 H5) ys ad:=av.same ((Kz.of_same s23).gz m2.tp |>.trans ((gz (τ2:=τ1) no0 no1).trans ((k5.gz m4.tp).trans (gz no1 no0))))
  have accN:NT Fc acc:=⟨fun t b c e=>by
   have:=(t1 t b c e).1.free hacc
   exact⟨this.1,this.2.1⟩,rJ t1.tab hacc⟩
  have ha5:H5 acc=some (.lst ys):=k5 _ _ (s23 _ _ ha) accN
  cases b with
  |false=>
   have qb':yP (fun C s2 H2 fp=>X.comp N scope C s2 H2 fp) pat ifs elt (yr imp α) (ds.drop (i+1)) ad Q:=by simpa using qb
   exact wC ⟨ad,Pat.back eb hfree m5,ha5,av5,by omega,qb'⟩
  |true=>
   refine wJ fun C s2 H2'' fp=>?_
   have qe:EvD (X.comp N scope C s2 H2'' fp) α1 elt fun y=>yP (fun C s2 H2 fp=>X.comp N scope C s2 H2 fp) pat ifs elt (yr imp α) (ds.drop (i+1)) (ad++[y]) Q:=by
    have z:=qb
    rw[if_pos rfl] at z
    exact z C s2 H2'' fp
   refine qe Fc τ1 H5 _ m5 fun y v H6 qy t6 k6 r6=>?_
   have m6:=m5.kz k6 t6
   have ha6:H6 acc=some (.lst ys):=k6 _ _ ha5 accN
   have hlen:ys.length≤i:=by rw[av.length];exact had
   have oacc:Fc.O0 acc:=.inr rfl
   have tacc:∀t b c,Fc.tp=some (t,b,c)→acc≠t∧acc≠b∧acc≠c:=fun t b c e=>(t1 t b c e).1.free hacc
   have m7:=(Pat.back eb hfree m6).wr (o:=.lst (ys++[v])) yv oacc tacc hacc (uI ha6) (fun i r q z=>by rcases no0 i _ z with ⟨d,w⟩|w<;>cases w)
   refine⟨ha6,yH (by omega),ad++[y],m7,zd,?_,by simp;omega,qy⟩
   have g67:zm (Gz Fc (yr imp α) τ1 H6) (Gz Fc (yr imp α) τ1 (upd H6 acc (.lst (ys++[v])))):=zk fun a o h e=>⟨h,by rw[zc (fun z=>h (.inl (by rw[z];exact oacc)))];exact e⟩
   exact ((av5.same ((gz (τ2:=τ1) no0 no1).trans ((k6.gz m5.tp).trans (gz no1 no0)))).append (.cons (r6.same (gz no1 no0)) .nil)).same g67
 ·have e:i=ds.length:=by omega
  subst e
  rw[aD] at cw
  refine .inl ⟨w2 (dQ _),k ad _ H2 cw ?_ (k1.trans m2.keep) (yt.back m k1 t1 ⟨acc,ys,rfl,hacc,ha,av.same (zk fun a o h e=>⟨⟨fun z=>h (.inl (.inl z)),fun z=>h (.inl (.inr z))⟩,e⟩)⟩)⟩
  exact m.tp.re m2.tp rfl
theorem fg {N:List Str}{imp:List (Option Nat)}{scope:Scope}{tg iter elt:Expr}{ifs:List Expr}{pat:Pat}{Q:List PyData→Prop}{pos:Pos}(hc:X.calm=true)(S:zO X.N X.env.scope N imp scope)(hfree:pat.free (yr imp α)=true)
  (hg:∀C s2 H2 fp,PG (X.comp N scope C s2 H2 fp) tg (rl X.K pat))
  (h:EvI X α tg iter fun ds=>ds.length≤1000∧yP (fun C s2 H2 fp=>X.comp N scope C s2 H2 fp) pat ifs elt (yr imp α) ds [] Q) (hs:∀x,foldedSetIterable iter X.env x=pure x:=by intro _;rfl):
  EvL X α (.ListComp elt [⟨tg,iter,ifs,0⟩] scope pos) Q:=fun F σ H R m k=>by
 obtain⟨Y,rfl,h⟩:=pT hfree h F σ H R m k
 exact⟨_,jX hc S uZ hg (fun C s2 H2 fp pins s σ H Q I h=>pU pins s σ H Q I (h C s2 H2 fp)) (fun C s2 H2 fp pins s σ H Q I h=>zi pins s σ H Q I (h C s2 H2 fp)) hs,h⟩
section
variable {E:yu}{rest body:List Stmt}{e c tg iter:Expr}{pos p:Pos}
theorem rB.then {F:Fr}{D:Ends}(h:rB F E D):rB F {E with nx:=fun α'=>SvS X α' rest E} {D with nx:=nF X rest D}:=
 ⟨fun α' σ' H' m q=>q F σ' H' D m h,h.rt,h.bk,h.ct⟩
theorem zS (q:E.nx α):SvS X α [] E:=fun F σ H D m h=>⟨_,ye,h.nx _ _ _ m q⟩
theorem SvS.imp {sts:List Stmt}{E':yu}(h:SvS X α sts E')(hn:∀α,E'.nx α→E.nx α)(hr:∀a,E'.rt a→E.rt a)(hb:∀α,E'.bk α→E.bk α)(hc:∀α,E'.ct α→E.ct α):SvS X α sts E:=fun F σ H D m r=>
 h F σ H D m ⟨fun α σ H m q=>r.nx α σ H m (hn _ q),fun a v H m q=>r.rt a v H m (hr _ q),fun α σ H m q=>r.bk α σ H m (hb _ q),fun α σ H m q=>r.ct α σ H m (hc _ q)⟩
theorem xU (i:Nat){x:Str}{pos':Pos}(hN:X.N.Nodup)(h:EvD X α e fun d=>SvS X (α.set i (some (.dat d))) rest E)(hi:X.N[i]?=some x:=by rfl)(hx:Loc X.env.scope x:=by first|exact Or.inl rfl|exact Or.inr rfl)
  (hs:swapsWith e (some (.Name x pos')) pos.line X.env=pure false:=by rfl) (hf:X.fn x=true∨X.env.scope.names.lookup x=some .local:=by first|exact .inl rfl|exact .inr rfl|assumption):SvS X α (.Assign [.Name x pos'] e pos::rest) E:=fun F σ H D m r=>by
 refine⟨_,zu (xq hN hi hx zi hs hf) zM,?_⟩
 exact h F σ H _ m fun d v H1 q1 t1 k1 r1=>q1 F _ H1 D ((m.kz k1 t1).set r1) r
theorem xr (i:Nat){x:Str}{pos':Pos}(hN:X.N.Nodup)(h:EvL X α e fun ds=>SvS X (α.set i (some (.own ds))) rest E)(hi:X.N[i]?=some x:=by rfl)(hx:Loc X.env.scope x:=by first|exact Or.inl rfl|exact Or.inr rfl)
  (hs:swapsWith e (some (.Name x pos')) pos.line X.env=pure false:=by rfl) (hf:X.fn x=true∨X.env.scope.names.lookup x=some .local:=by first|exact .inl rfl|exact .inr rfl|assumption):SvS X α (.Assign [.Name x pos'] e pos::rest) E:=fun F σ H D m r=>by
 refine⟨_,zu (xq hN hi hx zi hs hf) zM,?_⟩
 exact h F σ H _ m fun d v H1 q1 t1 k1 r1=>q1 F _ H1 D (m.setOwn t1 k1 r1) r
theorem fx (i:Nat){x:Str}{pos' cpos:Pos}{N:List Str}{imp:List (Option Nat)}{scope:Scope}{elt:Expr}{ifs:List Expr}{pat:Pat}(hN:X.N.Nodup)(hc:X.calm=true)(S:zO X.N X.env.scope N imp scope)(hfree:pat.free (yr imp α)=true)
  (hg:∀C s2 H2 fp,PG (X.comp N scope C s2 H2 fp) tg (rl X.K pat))
  (h:EvI X α tg iter fun ds=>ds.length≤1000∧yP (fun C s2 H2 fp=>X.comp N scope C s2 H2 fp) pat ifs elt (yr imp α) ds [] fun ds=>SvS X (α.set i (some (.own ds))) rest E)
  (hi:X.N[i]?=some x:=by rfl) (hx:Loc X.env.scope x:=by first|exact Or.inl rfl|exact Or.inr rfl) (hsw:swapsWith (.ListComp elt [⟨tg,iter,ifs,0⟩] scope cpos) (some (.Name x pos')) pos.line X.env=pure true:=by rfl)
  (hf:X.fn x=true∨X.env.scope.names.lookup x=some .local:=by first|exact .inl rfl|exact .inr rfl|assumption) (hs:∀x,foldedSetIterable iter X.env x=pure x:=by intro _;rfl):
  SvS X α (.Assign [.Name x pos'] (.ListComp elt [⟨tg,iter,ifs,0⟩] scope cpos) pos::rest) E:=fun F σ H D m r=>by
 obtain⟨Y,rfl,h⟩:=pT hfree h F σ H (fun v H'=>nF X rest D (σ.set i (some v)) H') m fun ds v H' q t k fl=>q F _ H' D (m.setOwn t k fl) r
 exact⟨_,zu (lQ hc S uZ hg (fun C s2 H2 fp pins s σ H Q I h=>pU pins s σ H Q I (h C s2 H2 fp)) (fun C s2 H2 fp pins s σ H Q I h=>zi pins s σ H Q I (h C s2 H2 fp)) hN hi hx hsw hf hs) zM,h⟩
theorem tu (h:EvD X α e fun _=>SvS X α rest E)(hs:swapsWith e none pos.line X.env=pure false:=by rfl):SvS X α (.Expr e pos::rest) E:=fun F σ H D m r=>by
 refine⟨_,zu (vq zi hs) zM,?_⟩
 exact h F σ H _ m fun d v H1 q1 t1 k1 r1=>q1 F _ H1 D (m.kz k1 t1) r
theorem xG.dat {F:Fr}{σ:St}{H:Hp}{v:V}{d:PyData}(m:M F α σ H)(r:AV (Gz F α σ H) v d):xG F v H (.dat d):=
 ⟨m.tp,m.keep,r.same (zk fun a o h e=>⟨ow0 h,e⟩)⟩
theorem uf (h:EvD X α e fun d=>E.rt (.dat d)):SvS X α (.Return (some e) pos::rest) E:=fun F σ H D m r=>by
 refine⟨_,zu (zA zi) zM,?_⟩
 exact h F σ H _ m fun d v H1 q1 t1 k1 r1=>r.rt _ _ _ (xG.dat (m.kz k1 t1) r1) q1
theorem pe (i:Nat){x:Str}{ds:List PyData}(hi:α[i]?=some (some (.own ds)))(q:E.rt (.own ds))(hN:X.N[i]?=some x:=by rfl)(hv:Vis X.env.scope x:=by first|exact Or.inl rfl|exact Or.inr (Or.inl rfl)|exact Or.inr (Or.inr rfl))
  (hd:(x == ("__debug__":Str))=false:=by decide) (hcd:(x == ("__classdict__":Str))=false:=by decide):SvS X α (.Return (some (.Name x p)) pos::rest) E:=fun F σ H D m r=>by
 obtain⟨l,xs,h1,h2,h3,h4,h5⟩:=m.own i ds hi
 refine⟨_,zu (zA (yo hN hv hd hcd)) zM,.ref l,h1,r.rt (.own ds) _ _ ⟨m.tp,m.keep,l,xs,_,rfl,rfl,h5,h4,h2,h3.same (zk fun a o h e=>⟨⟨ow0 h,fun z=>h (by rw[z];exact .inr ⟨i,_,_,hi,h1,rfl⟩)⟩,e⟩)⟩ q⟩
theorem yD {a b:List Stmt}(h:EvT X α c fun k=>SvS X α (if k=true then a else b) {E with nx:=fun α'=>SvS X α' rest E}):SvS X α (.If c a b pos::rest) E:=fun F σ H D m r=>by
 refine⟨_,zu (yS yV zM zM) zM,?_⟩
 refine h F σ H _ m fun k H1 q1 t1 k1=>?_
 cases k with
 |true=>exact wJ ((by simpa using q1:SvS X α a _) F σ H1 _ (m.kz k1 t1) r.then)
 |false=>exact wC ((by simpa using q1:SvS X α b _) F σ H1 _ (m.kz k1 t1) r.then)
theorem pN (i:Nat){c:PyData}{S:Addr→Prop}{sts:List Stmt}(hi:α[i]?=some (some (.deep c S)))(h:SvS X (α.set i (some (.dat c))) sts E):SvS X α sts E:=fun F σ H D m r=>h F σ H D (m.frzd hi) r
theorem sk (i:Nat){ds:List PyData}{sts:List Stmt}(hi:α[i]?=some (some (.own ds)))(h:SvS X (α.set i (some (.dat (.list ds)))) sts E):SvS X α sts E:=fun F σ H D m r=>h F σ H D (m.frz hi) r
theorem M.wrC {F:Fr}{σ:St}{H:Hp}{i:Nat}{c c':PyData}{l:Addr}{o':HO}(m:M F α σ H)(hi:α[i]?=some (some (.ow c)))(hl:σ[i]?=some (some (.ref l)))(av:yA (Gz F α σ H) o' c'):
  M F (α.set i (some (.ow c'))) σ (upd H l o'):=by
 obtain⟨l',o,h1,h2,h3,h4,h5⟩:=m.owc i c hi
 rw[hl] at h1;cases h1
 have hs:∀{j:Nat} {a:A} {s:Option V},(α.set i (some (.ow c')))[j]?=some (some a)→σ[j]?=some s→(i=j∧a=.ow c'∧s=some (.ref l))∨(i≠j∧α[j]?=some (some a)):=fun {j a s} e1 e2=>by
  rcases zy e1 with ⟨rfl,z⟩|⟨hj,e1'⟩
  ·cases z;rw[hl] at e2;cases e2;exact .inl ⟨rfl,rfl,rfl⟩
  ·exact .inr ⟨hj,e1'⟩
 have oww:∀{y:Addr},Ow F (α.set i (some (.ow c'))) σ y→Ow F α σ y:=fun {y} h=>by
  rcases h with z|⟨j,a,s,e1,e2,f⟩
  ·exact .inl z
  ·rcases hs e1 e2 with ⟨rfl,rfl,rfl⟩|⟨hj,e1'⟩
   ·exact .inr ⟨i,_,_,hi,hl,f⟩
   ·exact .inr ⟨j,a,s,e1',e2,f⟩
 have ol:Ow F α σ l:=.inr ⟨i,_,_,hi,hl,rfl⟩
 have gs:zm (Gz F α σ H) (Gz F (α.set i (some (.ow c'))) σ (upd H l o')):=zk fun a o h e=>⟨fun z=>h (oww z),by rw[zc (fun z=>h (by rw[z];exact ol))];exact e⟩
 refine⟨by rw[cq];exact m.len,fun j a s e1 e2=>?_,fun j j' a b s t x e1 e2 q1 q2 f1 f2=>?_,fun j r q e j' a s x e1 e2 f=>?_,m.tp.updO h4 (h3.plain h2),fun y o e n=>?_,fun y hy=>?_⟩
 ·rcases hs e1 e2 with ⟨rfl,rfl,rfl⟩|⟨hj,e1'⟩
  ·exact⟨l,o',rfl,zd,av.same gs,h4,h5⟩
  ·refine (m.ok j a s e1' e2).stay gs (fun y u f e=>?_) rfl fun r q ea k=>⟨k.tp,k.o,k.ok.updO (fun z=>h4 (k.o _ z)) (h3.plain h2),fun y u e n=>?_⟩
   ·obtain⟨w1,w2,_⟩:=m.ft e1' e2 f
    refine⟨?_,w1,w2⟩
    rw[zc fun z=>hj (m.dj i j _ a _ s l hi e1' hl e2 rfl (by rw[←z];exact f))]
    exact e
   ·rw[zc (ze e (m.xd j r q (by rw[←ea];exact e1') i _ _ l hi hl rfl))];exact k.k y u e n
 ·rcases hs e1 q1 with ⟨rfl,rfl,rfl⟩|⟨hj,e1'⟩
  ·rcases hs e2 q2 with ⟨rfl,_⟩|⟨hj',e2'⟩
   ·rfl
   ·exact m.dj i j' _ b _ t x hi e2' hl q2 f1 f2
  ·rcases hs e2 q2 with ⟨rfl,rfl,rfl⟩|⟨hj',e2'⟩
   ·exact m.dj j i a _ s _ x e1' hi q1 hl f1 f2
   ·exact m.dj j j' a b s t x e1' e2' q1 q2 f1 f2
 ·rcases zy e with ⟨_,z⟩|⟨_,e'⟩
  ·cases z
  ·rcases hs e1 e2 with ⟨rfl,rfl,rfl⟩|⟨_,e1'⟩
   ·exact m.xd j r q e' i _ _ x hi hl f
   ·exact m.xd j r q e' j' a s x e1' e2 f
 ·rw[zc (ze e h5)];exact m.keep y o e n
 ·rw[zc (fun z=>h4 (by rw[←z];exact hy))];exact m.oex y hy
theorem M.wrOwn {F:Fr}{σ:St}{H:Hp}{i:Nat}{ds es:List PyData}{l:Addr}{ys:List V}(m:M F α σ H)(hi:α[i]?=some (some (.own ds)))(hl:σ[i]?=some (some (.ref l)))(av:AVs (Gz F α σ H) ys es):
  M F (α.set i (some (.own es))) σ (upd H l (.lst ys)):=m.wrC hi hl (.lst av)
theorem wb (i:Nat){x:Str}{ds:List PyData}{p1 p2 p3:Pos}(hi:α[i]?=some (some (.own ds)))(h:EvD X α e fun d=>ds.length<1000∧SvS X (α.set i (some (.own (ds++[d])))) rest E)
  (hN:X.N[i]?=some x:=by rfl) (hv:Vis X.env.scope x:=by first|exact Or.inl rfl|exact Or.inr (Or.inl rfl)|exact Or.inr (Or.inr rfl)) (hd:(x == ("__debug__":Str))=false:=by decide) (hcd:(x == ("__classdict__":Str))=false:=by decide)
  (hbase:attributeBase (.Name x p1) "append" X.env (eval (.Name x p1) X.env)=eval (.Name x p1) X.env:=by rfl) (hs:starEach [e] X.env=(false,eval e X.env)::starEach [] X.env:=by rfl)
  (hpl:((((backTo p3 (starEach [e] X.env)).all fun x=>!x.fst)&&(backToKw p3 (keywordEach [] X.env)).all fun x=>x.fst.isSome)&&decide (([e].length+([]:List Keyword).length+if ([]:List Keyword).isEmpty=true then 0 else 1)<30))=true:=by rfl)
  (hline:(p2.endLine == p3.line)=true:=by rfl) (hsw:swapsWith (.Call (.Attribute (.Name x p1) "append" p2) [e] [] p3) none pos.line X.env=pure false:=by rfl):SvS X α (.Expr (.Call (.Attribute (.Name x p1) "append" p2) [e] [] p3) pos::rest) E:=fun F σ H D m r=>by
 obtain⟨l,xs,h1,h2,h3,h4,h5⟩:=m.own i ds hi
 refine⟨_,zu (vq (jT PySem.F.plainAttrs_list PySem.F.slot_list_append PySem.F.type_list_append uU (yo hN hv hd hcd) (zb zi zj hs) hbase hpl hline hs) hsw) zM,?_⟩
 refine⟨.ref l,h1,.inl ⟨rfl,_,SqL.of h2⟩,?_⟩
 refine h F σ H _ m fun d v H1 q1 t1 k1 r1=>?_
 have m1:=m.kz k1 t1
 refine⟨l,xs,v,rfl,rfl,k1 _ _ h2 (m.tp.nt h4),by rw[h3.length];exact yH (bN q1.1),?_⟩
 exact q1.2 F σ _ D (m1.wrOwn hi h1 ((h3.same (k1.gz m.tp)).append (.cons r1 .nil))) r
theorem gC (i:Nat){x:Str}{ix:Expr}{ds:List PyData}{p1 p2:Pos}(hi:α[i]?=some (some (.own ds)))(h:EvD X α e fun d=>EvD X α ix fun y=>∃k j,y=.int k∧ixN ds.length k=some j∧SvS X (α.set i (some (.own (ds.set j d)))) rest E)
  (hN:X.N[i]?=some x:=by rfl) (hv:Vis X.env.scope x:=by first|exact Or.inl rfl|exact Or.inr (Or.inl rfl)|exact Or.inr (Or.inr rfl)) (hd:(x == ("__debug__":Str))=false:=by decide) (hcd:(x == ("__classdict__":Str))=false:=by decide)
  (hs:swapsWithSole [.Subscript (.Name x p1) ix p2] e pos.line X.env=pure false:=by rfl) (hw:swappedStores [.Subscript (.Name x p1) ix p2] e X.env=pure none:=by rfl)
  (ha:(assignEach [.Subscript (.Name x p1) ix p2] X.env).map (·.2)=[assign (.Subscript (.Name x p1) ix p2) X.env]:=by rfl) (hps:PG X (.Subscript (.Name x p1) ix p2) (eN (gy i) (vo X ix) jU):=by exact qw (yo rfl (by first|exact Or.inl rfl|exact Or.inr (Or.inl rfl)|exact Or.inr (Or.inr rfl))) zi set_list):
  SvS X α (.Assign [.Subscript (.Name x p1) ix p2] e pos::rest) E:=fun F σ H D m r=>by
 obtain⟨l,xs,h1,h2,h3,h4,h5⟩:=m.own i ds hi
 refine⟨_,zu (rN zi hps hs hw ha) zM,?_⟩
 refine h F σ H _ m fun d v H1 q1 t1 k1 r1=>?_
 have m1:=m.kz k1 t1
 refine⟨.ref l,h1,?_⟩
 refine q1 F σ H1 _ m1 fun y vy H2 q2 t2 k2 r2=>?_
 have m2:=m1.kz k2 t2
 obtain⟨k,j,rfl,hj,q⟩:=q2
 cases r2.int_inv
 refine⟨l,xs,k,j,rfl,rfl,k2 _ _ (k1 _ _ h2 (m.tp.nt h4)) (m.tp.nt h4),by rw[h3.length];exact hj,?_⟩
 exact q F σ _ D (m2.wrOwn hi h1 (((h3.same (k1.gz m.tp)).same (k2.gz m1.tp)).set (r1.same (k2.gz m1.tp)) j)) r
def vb (X:Cx)(pat:Pat)(body rest:List Stmt)(E:yu):List PyData→Ev→Prop
 |[],α=>SvS X α rest E
 |d::ds,α=>∃α1,pat.bind d α=some α1∧SvS X α1 body {nx:=vb X pat body rest E ds,ct:=vb X pat body rest E ds,bk:=fun α'=>SvS X α' rest E,rt:=E.rt}
theorem sg {pat:Pat}(hp:PassesOwn (model X.prog X.w) X.A X.env X.xe)(hc:X.calm=true)(hg:PG X tg (rl X.K pat))(h:EvI X α tg iter fun ds=>vb X pat body rest E ds α)
  (hs:∀x,foldedSetIterable iter X.env x=pure x:=by intro _;rfl):SvS X α (.For tg iter body [] pos::rest) E:=fun F σ H D m r=>by
 refine⟨_,zu (gH hp hc uZ hg zM hs) zM,?_⟩
 refine h F σ H _ m fun ds J H1 q1 t1 k1 itw=>?_
 have m1:=m.kz k1 t1
 have mu:=m1.up
 have ru:rB (F.up (Gz F α σ H1)) E D:=r.up
 refine⟨fun i n σ' H'=>n=ds.length-i∧i≤ds.length∧∃α',M (F.up (Gz F α σ H1)) α' σ' H'∧vb X pat body rest E (ds.drop i) α',⟨ds.length,by simp,dZ _,α,mu,q1⟩,?_⟩
 rintro i n σ' H' ⟨rfl,hi,α',m',lw⟩
 obtain⟨w1,w2⟩:=itw i H' _ (m1.upold m')
 by_cases hlt:i<ds.length
 ·have hd:ds[i]?=some ds[i]:=dP hlt
  rw[bJ hlt] at lw
  obtain⟨α1,eb,body⟩:=lw
  obtain⟨go,yl⟩:=w1 _ hd
  refine .inr ⟨go,fun σ'' H''=>∃α',M (F.up (Gz F α σ H1)) α' σ'' H''∧vb X pat _ rest E (ds.drop (i+1)) α',fun σ'' H'' ⟨α'',r1,r2⟩=>⟨ds.length-(i+1),by omega,rfl,hlt,α'',r1,r2⟩,fun x H3 y=>?_⟩
  obtain⟨s23,avx⟩:=yl x H3 y
  have m3:=m'.kz (Kz.of_same s23) (m'.tp.same s23)
  refine pL eb m3 (avx fun a o _ e=>m'.fresh e) fun σ1 m4=>?_
  exact body _ σ1 H3 _ m4 ⟨fun α2 σ2 H2 m2 q=>⟨α2,m2,q⟩,ru.rt,fun α2 σ2 H2 m2 q=>q _ σ2 H2 D m2 ru,fun α2 σ2 H2 m2 q=>⟨α2,m2,q⟩⟩
 ·have e:i=ds.length:=by omega
  subst e
  rw[aD] at lw
  exact .inl ⟨w2 (dQ _),lw _ σ' H' D m' ru⟩
theorem wy {pat:Pat}{ds:List PyData}(P:Nat→Ev→Prop)(h0:P 0 α)(hs:∀i d α,ds[i]?=some d→P i α→∃α1,pat.bind d α=some α1∧SvS X α1 body {nx:=P (i+1),ct:=P (i+1),bk:=fun α'=>SvS X α' rest E,rt:=E.rt})
  (hd:∀α,P ds.length α→SvS X α rest E):vb X pat body rest E ds α:=by
 have key:∀n i α,n=ds.length-i→i≤ds.length→P i α→vb X pat body rest E (ds.drop i) α:=by
  intro n
  induction n with
  |zero=>
   intro i α hn hi p
   have e:i=ds.length:=by omega
   subst e
   rw[aD]
   exact hd α p
  |succ n ih=>
   intro i α hn hi p
   have hlt:i<ds.length:=by omega
   rw[bJ hlt]
   obtain⟨α1,e,b⟩:=hs i ds[i] α (dP hlt) p
   exact⟨α1,e,b.imp (fun α p=>ih (i+1) α (by omega) hlt p) (fun _ z=>z) (fun _ z=>z) (fun α p=>ih (i+1) α (by omega) hlt p)⟩
 exact key _ 0 α rfl (dZ _) h0
end
end
section
variable {P:Program}{w:World}{K:PySem.W.Frag}{mg:Str→Option Value}{base:Heap}
theorem M.start {F:Fr}{N:List Str}{vs:List V}{as:List A}{H:Hp}(e:F.H0=H)(t:zC F H)(o:∀x,F.O0 x→∃u,H x=some u∧xH u)(rv:zL F (sub (fun x=>¬F.O0 x) H) vs as):
  M F (as.map some++List.replicate (N.length-as.length) none) (L2.start N vs) H:=by
 have hl:=rv.length
 have g:∀{i:Nat} {a:A},(as.map some++List.replicate (N.length-as.length) none)[i]?=some (some a)→as[i]?=some a:=fun {i a} h=>by
  rcases Nat.lt_or_ge i as.length with z|z
  ·rw[cn (by rw[dU];exact z),cH,cV] at h
   obtain⟨b,h1,h2⟩:=h
   cases h2;exact h1
  ·rw[cp (by rw[dU];exact z),bp] at h
   split at h<;>cases h
 have at':∀{vs:List V} {as:List A} {i:Nat} {a:A},zL F (sub (fun x=>¬F.O0 x) H) vs as→as[i]?=some a→∃v,vs[i]?=some v∧oZ F (sub (fun x=>¬F.O0 x) H) v a:=by
  intro vs as i a h
  induction h generalizing i with
  |nil=>intro e;simp at e
  |cons h r ih=>
   intro e
   cases i with
   |zero=>simp at e;subst e;exact⟨_,rfl,h⟩
   |succ i=>obtain⟨v,h1,h2⟩:=ih (by simpa using e);exact⟨v,by simpa using h1,h2⟩
 have gv:∀{i:Nat} {v:V},vs[i]?=some v→(L2.start N vs)[i]?=some (some v):=fun {i v} h=>by
  have hi:i<vs.length:=(dN.mp h).1
  unfold L2.start
  rw[cn (by rw[dU];exact hi),cH,h];rfl
 have no:∀(i:Nat) a,(as.map some++List.replicate (N.length-as.length) none)[i]?=some (some a)→(∃d,a=.dat d)∨a=.tape:=fun i a z=>by
  obtain⟨v,_,h⟩:=at' rv (g z)
  cases a with
  |dat d=>exact .inl ⟨d,rfl⟩
  |tape=>exact .inr rfl
  |_=>exact h.elim
 have gs:zm (sub (fun x=>¬F.O0 x) H) (Gz F (as.map some++List.replicate (N.length-as.length) none) (L2.start N vs) H):=zk fun a o h e=>⟨fun z=>z.elim h fun⟨i,b,s,e1,_,f⟩=>by
  rcases no i b e1 with ⟨d,rfl⟩|rfl
  ·exact f.elim
  ·exact f.elim,e⟩
 refine⟨by unfold L2.start;simp[hl],fun i a s e1 e2=>?_,fun i j a b s t x e1 _ _ _ f=>?_,fun i r q z=>(by rcases no i _ z with ⟨d,w⟩|w<;>cases w),t,fun x o' h _=>by rw[←e];exact h,o⟩
 ·obtain⟨v,h1,h2⟩:=at' rv (g e1)
  rw[gv h1] at e2;cases e2
  rcases no i a e1 with ⟨d,rfl⟩|rfl
  ·exact⟨v,rfl,AV.same gs h2⟩
  ·obtain⟨t',b,c,h3,rfl⟩:=h2
   exact⟨t',b,c,h3,rfl⟩
 ·rcases no i a e1 with ⟨d,rfl⟩|rfl
  ·exact f.elim
  ·exact f.elim
theorem fnA {x qual:Str}{st:Stmt}{f:Addr}{fd:FuncData}{N ps:List Str}{k:Nat}{φ:List A→(A→Prop)→Prop}(G:Fun K x qual st f fd)(S:zl N ps (za st))(hlen:∀as Q,φ as Q→as.length=ps.length)
  (hbody:∀(cdv:Value) (A':Around) (outer:List Env) (s:Shared) (H:Hp) (E:XK) (as:List A) (Q:A→Prop),zI k (A'.deeper (envOfC qual (za st) s.heap.objs.size f cdv))→φ as Q→
   SvS (yF CX0 P w K mg base N qual (za st) f cdv A' outer s H E).nox (as.map some++List.replicate (N.length-as.length) none) (zq st) {nx:=fun _=>Q (.dat .none),rt:=Q}):zt P w K mg base CX0 (k+1) f fd ps (spA φ):=by
 refine G.ok S (fun vs H Q E h=>?_) (fun cdv A' outer s H vs Qc E hr h=>?_)
 ·obtain⟨F,as,Q',_,_,_,rv,hφ,_⟩:=h
  rw[rv.length,hlen as _ hφ]
 ·obtain⟨F,as,Q',e,t,o,rv,hφ,kk⟩:=h
  refine hbody cdv A' outer s H E as Q' hr hφ F _ H _ (M.start e t o rv) ⟨fun α σ H' m q=>?_,fun a v H' r q=>kk a v H' q r,fun _ _ _ _ z=>z.elim,fun _ _ _ _ z=>z.elim⟩
  exact kk _ _ _ q ⟨m.tp,m.keep,.non⟩
end
section
variable {X:Cx}{pins:List (Addr×Obj)}{σ:St}{H:Hp}{s:Shared}{h':Heap}
theorem Inv.turnL {t':Nat}{ch:List Addr}(I:Inv X pins σ H s)(k:∀b o,b∉ch→s.heap.get? b=some o→h'.get? b=some o)(hf:∀b∈ch,wU X pins H b):Inv X pins σ H {s with heap:=h',toks:=t'}:=by
 have nit:∀b u,H b=some u→b∉ch:=fun b u e z=>by rw[(hf b z).1] at e;cases e
 refine I.step (g':=s.gens) (d':=s.drawn) (ch:=ch) (fun b hb=>?_) (fun b o _ _ hc e _=>k b o hc e) (fun b o _ _ hc e _=>⟨o.slots,k b o hc e⟩) (fun _ _ _ _ n=>n)
  (fun b o hc e=>⟨o,k b o hc e⟩) (fun _ _ e=>e) (fun _ _ _ e=>e) (fun b ps e=>⟨#[],by rw[e];simp⟩) (fun m hm=>?_) (fun b u e=>?_) I.bare
 ·obtain⟨_,f1,_,f3,f4,f5⟩:=hf b hb
  exact⟨f3,f1,f4,f5⟩
 ·obtain⟨o,es,ep,ho,r⟩:=hm
  exact⟨o,es,ep,k _ o (fun z=>(hf _ z).2.1 rfl) ho,r⟩
 ·refine (I.hok b u e).stay (fun c v hc q=>k c v ?_ q) (fun _ q=>q) fun _ _ q=>q
  rcases hc with z|z
  ·rw[z];exact nit b u e
  ·exact nit c _ z
theorem Inv.turnLay {t':Nat}{ch:List Addr}{T:Addr}{o:HO}(I:Inv X pins σ H s)(k:∀b o,b∉ch→s.heap.get? b=some o→h'.get? b=some o)(hf:∀b∈ch,wU X pins H b)(hT:s.heap.objs.size≤T)(new:zZ X.prog X.w (upd H T o) h' T o):
  Inv X pins σ (upd H T o) {s with heap:=h',toks:=t'}:=by
 have nit:∀b u,H b=some u→b∉ch:=fun b u e z=>by rw[(hf b z).1] at e;cases e
 have hn:H T=none:=I.hok.fresh hT
 have lt:∀{b:Addr} {u:Obj},s.heap.get? b=some u→b≠T:=fun e=>cz (cu (dR e) hT)
 refine I.step (g':=s.gens) (d':=s.drawn) (ch:=ch) (fun b hb=>?_) (fun b o _ _ hc e _=>k b o hc e) (fun b o _ _ hc e _=>⟨o.slots,k b o hc e⟩) (fun b u _ e n=>by rw[zc (lt e)];exact n)
  (fun b o hc e=>⟨o,k b o hc e⟩) (fun b xs e=>by rw[zc (ze e hn)];exact e) (fun b u xs e=>by rw[zc (ze e hn)];exact e) (fun b ps e=>⟨#[],by rw[zc (ze e hn),e];simp⟩) (fun m hm=>?_) (fun b u e=>?_) I.bare
 ·obtain⟨_,f1,_,f3,f4,f5⟩:=hf b hb
  exact⟨f3,f1,f4,f5⟩
 ·obtain⟨o,es,ep,ho,r⟩:=hm
  exact⟨o,es,ep,k _ o (fun z=>(hf _ z).2.1 rfl) ho,r⟩
 ·by_cases hb:b=T
  ·subst hb;rw[zd] at e;cases e;exact new
  ·rw[zc hb] at e
   refine (I.hok b u e).stay (fun c v hc q=>k c v ?_ q) (fun c q=>by rw[zc (ze q hn)];exact q) fun c xs q=>by rw[zc (ze q hn)];exact q
   rcases hc with z|z
   ·rw[z];exact nit b u e
   ·exact nit c _ z
end
theorem dh {a b:Nat}(h:b<a):(a:Addr)≠b:=ay h
def Itz (K:PySem.W.Frag)(l1 l2:Addr):It:=
 ⟨fun i H=>∃xs ys x y,SqL K H l1 xs∧SqL K H l2 ys∧xs[i]?=some x∧ys[i]?=some y,
  fun i H v H'=>∃T x y,v=.ref T∧H T=none∧H'=upd H T (.tup [x,y])∧(∀xs,SqL K H l1 xs→xs[i]?=some x)∧∀ys,SqL K H l2 ys→ys[i]?=some y,
  fun i H=>∃xs ys,SqL K H l1 xs∧SqL K H l2 ys∧(xs.length≤i∨ys.length≤i)⟩
def Ite (K:PySem.W.Frag)(l:Addr):It:=
 ⟨fun i H=>∃xs x,SqL K H l xs∧xs[i]?=some x,
  fun i H v H'=>∃T x,v=.ref T∧H T=none∧H'=upd H T (.tup [.int i,x])∧∀xs,SqL K H l xs→xs[i]?=some x,
  fun i H=>∃xs,SqL K H l xs∧xs.length≤i⟩
theorem fX {P:Program}{w:World}{K:PySem.W.Frag}{elts:List Expr}{kk:Nat}{pos:Pos}{z TI TO i1 i2 l1 l2:Addr}(D:ZipApart z TI TO i1 i2 l1 l2):
  Turn P w K (.Tuple elts kk pos) (Itz K l1 l2) [z,TI,TO,i1,i2] z (fun i h=>IsZip h z TI TO .none∧IsPair h TI (.ref i1) (.ref i2)∧(∃a b,IsPair h TO a b)∧h.IsListIter i1 l1 i∧h.IsListIter i2 l2 i) where
 mem:=by simp
 obj:=fun i h st b hb=>by
  obtain⟨h1,h2,⟨a,c,h3⟩,⟨o1,e1,_,d1⟩,⟨o2,e2,_,d2⟩⟩:=st
  simp only[cm,cD,bh] at hb
  rcases hb with rfl|rfl|rfl|rfl|rfl
  ·exact⟨_,h1,fun v z=>by cases (show Data.fields _=Data.cell v from z)⟩
  ·exact⟨_,h2,fun v z=>by cases (show Data.seq _ _=Data.cell v from z)⟩
  ·exact⟨_,h3,fun v z=>by cases (show Data.seq _ _=Data.cell v from z)⟩
  ·exact⟨o1,e1,fun v z=>by rw[d1] at z;cases z⟩
  ·exact⟨o2,e2,fun v z=>by rw[d2] at z;cases z⟩
 keep:=fun i h h' st k=>by
  obtain⟨h1,h2,⟨a,c,h3⟩,h4,h5⟩:=st
  exact⟨k z (by simp) _ h1,k TI (by simp) _ h2,⟨a,c,k TO (by simp) _ h3⟩,h4.at fun o e=>k i1 (by simp) o e,h5.at fun o e=>k i2 (by simp) o e⟩
 item:=by
  intro X hP hw hK hc i pins s σ H E I hf st hg
  subst hP hw hK
  obtain⟨xs,ys,x,y,hq1,hq2,hx,hy⟩:=hg
  obtain⟨its1,rv1,p1,hz1⟩:=I.list hq1
  obtain⟨its2,rv2,p2,hz2⟩:=I.list hq2
  obtain⟨u,hu,ru⟩:=rv1.get hx
  obtain⟨v,hv,rv⟩:=rv2.get hy
  obtain⟨h1,h2,⟨a,c,h3⟩,h4,h5⟩:=st
  refine wpAny_pyNext_zip_item D h1 h2 h3 h4 h5 p1.isList p2.isList (x:=u) (y:=v) (by simpa using hu) (by simpa using hv) fun h' a1 a2 a3 a4 a5 a6 hk=>⟨_,rfl,?_⟩
  refine wpAny_letOwnedTupleGo_zip (s:={s with heap:=h'}) a1 fun h'' b1 b2=>?_
  have hTz:s.heap.objs.size≠z:=ay (dR h1)
  have hk2:∀b o,b∉[z,TI,TO,i1,i2]→s.heap.get? b=some o→h''.get? b=some o:=fun b o hb e=>by
   simp only[cm,cD,bh,not_or] at hb
   exact b2.extBut _ _ hb.1 (hk b o hb.1 hb.2.2.1 hb.2.2.2.1 hb.2.2.2.2 e)
  have gT:h''.get? s.heap.objs.size=some {cls:=.type "tuple",data:=.seq #[u,v]}:=b2.extBut _ _ hTz a5
  have J:=I.turnLay (t':=s.toks) (T:=s.heap.objs.size) (o:=.tup [x,y]) hk2 hf (dQ _) ⟨by show 2≤sizeLine;decide,[u,v],.cons ru (.cons rv .nil),_,gT,rfl,0,rfl⟩
  refine⟨.ref s.heap.objs.size,_,J,rfl,⟨_,x,y,rfl,I.hok.fresh (dQ _),rfl,fun zs hz=>by rw[I.list_inj hz hq1];exact hx,fun zs hz=>by rw[I.list_inj hz hq2];exact hy⟩,⟨b1,b2.extBut _ _ D.TIz (hk _ _ D.TIz D.TITO D.TIi1 D.TIi2 h2),⟨u,v,b2.extBut _ _ D.TOz a2⟩,a3.extBut b2.extBut D.i1z,a4.extBut b2.extBut D.i2z⟩,fun b hb=>?_⟩
  rw[zc]
  ·exact (hf b hb).1
  ·obtain⟨o,e,_⟩:=(show ∃o,s.heap.get? b=some o∧True from by
    simp only[cm,cD,bh] at hb
    obtain⟨o1,e1,_⟩:=h4
    obtain⟨o2,e2,_⟩:=h5
    rcases hb with rfl|rfl|rfl|rfl|rfl
    ·exact⟨_,h1,trivial⟩
    ·exact⟨_,h2,trivial⟩
    ·exact⟨_,h3,trivial⟩
    ·exact⟨_,e1,trivial⟩
    ·exact⟨_,e2,trivial⟩)
   exact cz (dR e)
 done:=by
  intro X hP hw hK hc i pins s σ H E I hf st hg
  subst hP hw hK
  obtain⟨xs,ys,hq1,hq2,hl⟩:=hg
  obtain⟨its1,rv1,p1,hz1⟩:=I.list hq1
  obtain⟨its2,rv2,p2,hz2⟩:=I.list hq2
  obtain⟨h1,h2,⟨a,c,h3⟩,h4,h5⟩:=st
  have e1:=rv1.length
  have e2:=rv2.length
  refine wpAny_pyNext_zip_end (I.ok.hd hc) D h1 h2 h3 h4 h5 p1.isList p2.isList (hl.imp (fun z=>by simp;omega) fun z=>by simp;omega) fun h' hk=>⟨rfl,?_⟩
  exact I.turnL (t':=s.toks) (ch:=[z,TI,TO,i1,i2]) (fun b o hb e=>by
   simp only[cm,cD,bh,not_or] at hb
   exact hk b o hb.1 hb.2.2.1 hb.2.2.2.1 hb.2.2.2.2 e) hf
 self:=fun A i s Q E st h=>wpAny_pyIter_zip st.1 h
theorem oO {P:Program}{w:World}{K:PySem.W.Frag}{elts:List Expr}{kk:Nat}{pos:Pos}{e it l:Addr}(hne:e≠it):
  Turn P w K (.Tuple elts kk pos) (Ite K l) [e,it] e (fun i h=>(∃old,IsEnum h e it i old)∧h.IsListIter it l i) where
 mem:=by simp
 obj:=fun i h st b hb=>by
  obtain⟨⟨old,h1⟩,⟨o1,e1,_,d1⟩⟩:=st
  simp only[cm,cD,bh] at hb
  rcases hb with rfl|rfl
  ·exact⟨_,h1,fun v z=>by cases (show Data.fields _=Data.cell v from z)⟩
  ·exact⟨o1,e1,fun v z=>by rw[d1] at z;cases z⟩
 keep:=fun i h h' st k=>by
  obtain⟨⟨old,h1⟩,h4⟩:=st
  exact⟨⟨old,k e (by simp) _ h1⟩,h4.at fun o q=>k it (by simp) o q⟩
 item:=by
  intro X hP hw hK hc i pins s σ H E I hf st hg
  subst hP hw hK
  obtain⟨xs,x,hq1,hx⟩:=hg
  obtain⟨its1,rv1,p1,hz1⟩:=I.list hq1
  obtain⟨u,hu,ru⟩:=rv1.get hx
  obtain⟨⟨old,h1⟩,h4⟩:=st
  refine wpAny_pyNext_enum_item h1 h4 p1.isList (x:=u) (by simpa using hu) hne fun h' a1 a3 a5 a6 hk=>⟨_,rfl,?_⟩
  refine wpAny_letOwnedTupleGo_enum (s:={s with heap:=h',toks:=s.toks+1}) a1 fun h'' b1 b2=>?_
  have hTz:s.heap.objs.size≠e:=ay (dR h1)
  have hk2:∀b o,b∉[e,it]→s.heap.get? b=some o→h''.get? b=some o:=fun b o hb q=>by
   simp only[cm,cD,bh,not_or] at hb
   exact b2.extBut _ _ hb.1 (hk b o hb.1 hb.2 q)
  have gT:h''.get? s.heap.objs.size=some {cls:=.type "tuple",data:=.seq #[.int i s.toks,u]}:=b2.extBut _ _ hTz a5
  have J:=I.turnLay (t':=s.toks+1) (T:=s.heap.objs.size) (o:=.tup [.int i,x]) hk2 hf (dQ _) ⟨by show 2≤sizeLine;decide,[.int i s.toks,u],.cons ⟨_,rfl⟩ (.cons ru .nil),_,gT,rfl,0,rfl⟩
  refine⟨.ref s.heap.objs.size,_,J,rfl,⟨_,x,rfl,I.hok.fresh (dQ _),rfl,fun zs hz=>by rw[I.list_inj hz hq1];exact hx⟩,⟨⟨u,by simpa using b1⟩,a3.extBut b2.extBut hne.symm⟩,fun b hb=>?_⟩
  rw[zc]
  ·exact (hf b hb).1
  ·obtain⟨o,q,_⟩:=(show ∃o,s.heap.get? b=some o∧True from by
    simp only[cm,cD,bh] at hb
    obtain⟨o1,e1,_⟩:=h4
    rcases hb with rfl|rfl
    ·exact⟨_,h1,trivial⟩
    ·exact⟨_,e1,trivial⟩)
   exact cz (dR q)
 done:=by
  intro X hP hw hK hc i pins s σ H E I hf st hg
  subst hP hw hK
  obtain⟨xs,hq1,hl⟩:=hg
  obtain⟨its1,rv1,p1,hz1⟩:=I.list hq1
  obtain⟨⟨old,h1⟩,h4⟩:=st
  have e1:=rv1.length
  refine wpAny_pyNext_enum_end (I.ok.hd hc) h1 h4 p1.isList (by simp;omega) fun h' hk=>⟨rfl,?_⟩
  exact I.turnL (t':=s.toks) (ch:=[e,it]) (fun b o hb q=>by
   simp only[cm,cD,bh,not_or] at hb
   exact hk b o hb.2 q) hf
 self:=fun A i s Q E st h=>by
  obtain⟨⟨old,h1⟩,h4⟩:=st
  exact wpAny_pyIter_enum h1 h
section
variable {X:Cx}{α:Ev}{elts:List Expr}{kk:Nat}{tp p pos:Pos}{a b:Expr}
def gY (K:PySem.W.Frag)(ta:TA):TI:=fun σ H R=>ta σ H fun vs H1=>∃l,vs=[.ref l]∧(∃xs,SqL K H1 l xs)∧R (Ite K l) H1
theorem kX {ta:TA}(hg:Gl X "enumerate")(hm:X.mg "enumerate"=none)(ha:PA X [a] ta)(hs:starEach [a] X.env=[(false,eval a X.env)]:=by rfl):
  PI X (.Tuple elts kk tp) (.Call (.Name "enumerate" p) [a] [] pos) (gY X.K ta):=by
 intro pins s σ H R I h
 refine Call_ (vP I hg hm boot_enumerate (ah (thn (ha pos pins s σ H _ I h) fun us s1 ⟨vs,H1,I1,r1,q1⟩=>?_) hs rfl))
 obtain⟨l1,e,⟨xs,hq1⟩,q⟩:=q1
 subst e
 obtain⟨u,rfl,ru⟩:=Vals.one r1
 cases (show u=Value.ref l1 from ru)
 obtain⟨its1,rv1,p1,hz1⟩:=I1.list hq1
 refine call_enumerate_list p1.isList fun h' z1 z4 z6 hk=>?_
 refine wpAny_pyIter_enum (s:={s1 with heap:=h'}) z1 ?_
 refine⟨_,_,_,_,H1,rfl,I1.kept (t':=s1.toks) fun b o e=>hk b o e,oO (dh (a:=s1.heap.objs.size+1) (b:=s1.heap.objs.size) (ai _)),⟨⟨_,z1⟩,z4⟩,fun b hb=>?_,q⟩
 simp only[cm,cD,bh] at hb
 have hb':s1.heap.objs.size≤b:=by
  have key:∀n b:Nat,n=s1.heap.objs.size→(b=n+1∨b=n)→n≤b:=fun n b _ h=>by omega
  exact key _ _ rfl hb
 exact I1.fpOk hb' (I1.hok.fresh hb')
def vk (n:Nat):List PyData→List PyData
 |[]=>[]
 |d::ds=>.tuple [.int n,d]::vk (n+1) ds
theorem xg :∀{ds:List PyData} {n i:Nat} {d:PyData},(vk n ds)[i]?=some d→∃e,ds[i]?=some e∧d=.tuple [.int ((n+i:Nat):Int),e]
 |[],n,i,d,h=>by simp[vk] at h
 |e::ds,n,0,d,h=>by simp[vk] at h;exact⟨e,rfl,by simp[←h]⟩
 |e::ds,n,i+1,d,h=>by
  simp only[vk,aB] at h
  obtain⟨e',h1,h2⟩:=xg h
  exact⟨e',by simpa using h1,by rw[h2,Nat.add_assoc,Nat.add_comm 1 i]⟩
theorem yW :∀(ds:List PyData) (n:Nat),(vk n ds).length=ds.length
 |[],_=>rfl
 |_::ds,n=>by simp[vk,yW ds (n+1)]
theorem tM {Q:List PyData→Prop}(hg:Gl X "enumerate")(hm:X.mg "enumerate"=none)(h:EvD X α a fun x=>∃ds,x=.list ds∧Q (vk 0 ds))(hs:starEach [a] X.env=[(false,eval a X.env)]:=by rfl):
  EvI X α (.Tuple elts kk tp) (.Call (.Name "enumerate" p) [a] [] pos) Q:=fun F σ H R m k=>by
 refine⟨_,kX hg hm (zb zi zj hs) hs,?_⟩
 refine h F σ H _ m fun x vx H1 q1 t1 k1 r1=>?_
 obtain⟨ds,rfl,q⟩:=q1
 obtain⟨l1,xs,rfl,g1,g2⟩:=r1.lst_inv
 refine⟨l1,rfl,⟨xs,SqL.of (zh g1).2⟩,k _ _ H1 q t1 k1 fun i H3 p s=>⟨fun d hd=>?_,fun hl=>?_⟩⟩
 ·have s1:=SqL.of (K:=X.K) (zh (s _ _ g1)).2
  obtain⟨e,he,rfl⟩:=xg hd
  obtain⟨x1,hx1,av1⟩:=g2.get he
  refine⟨⟨xs,x1,s1,hx1⟩,fun v H4 y=>?_⟩
  obtain⟨T,x,rfl,hT,rfl,hx⟩:=y
  have hx:=hx _ s1
  rw[hx1] at hx;cases hx
  refine⟨yf hT,fun fr=>?_⟩
  have gs:zm (Gz F α σ H1) (sub p (upd H3 T (.tup [.int i,x1]))):=fun a o e=>by
   obtain⟨z1,z2⟩:=zh (s a o e)
   exact zx z1 (by rw[zc (ze z2 hT)];exact z2)
  refine .tup (zx (fr T _ zd hT) zd) (.cons ?_ (.cons (av1.same gs) .nil))
  rw[Nat.zero_add]
  exact .int _
 ·refine⟨xs,SqL.of (zh (s _ _ g1)).2,?_⟩
  rw[yW,←g2.length] at hl
  exact hl
end
structure Cal (P:Program)(w:World)(K:PySem.W.Frag)(mg:Str→Option Value)(base:Heap)(x:Str)(k:Nat)(φ:List A→(A→Prop)→Prop):Prop where
 ex:∃f fd ps,mg x=some (.ref f)∧PySem.W.keepIn K (.ref f)=true∧Binds K fd ps []∧zt P w K mg base CX0 k f fd ps (spA φ)
section
variable {X:Cx}{α:Ev}{e a b:Expr}{es:List Expr}{pos p:Pos}{Q:PyData→Prop}{k:Nat}{φ:List A→(A→Prop)→Prop}{x:Str}
theorem xA (C:Cal X.prog X.w X.K X.mg X.base x k φ)(hr:zI k X.A)(hg:Gl X x)(h:EvA X α (e::es) fun as=>φ as fun a=>Q a.d)
  (hdb:(x == ("__debug__":Str))=false:=by decide) (he:starEach (e::es) X.env=(false,eval e X.env)::starEach es X.env:=by rfl) (hpl:(backTo pos (starEach es X.env)).any (·.1)=false:=by rfl):EvD X α (.Call (.Name x p) (e::es) [] pos) Q:=by
 obtain⟨f,fd,ps,h1,h2,h3,h4⟩:=C.ex
 exact jx h4 hr hg h1 h2 h3 h hdb he hpl
theorem lh {Q:List PyData→Prop}(C:Cal X.prog X.w X.K X.mg X.base x k φ)(hr:zI k X.A)(hg:Gl X x)(h:EvA X α (e::es) fun as=>φ as fun a=>∃ds,a=.own ds∧Q ds)
  (hdb:(x == ("__debug__":Str))=false:=by decide) (he:starEach (e::es) X.env=(false,eval e X.env)::starEach es X.env:=by rfl) (hpl:(backTo pos (starEach es X.env)).any (·.1)=false:=by rfl):EvL X α (.Call (.Name x p) (e::es) [] pos) Q:=by
 obtain⟨f,fd,ps,h1,h2,h3,h4⟩:=C.ex
 exact jy h4 hr hg h1 h2 h3 h hdb he hpl
end
section
variable {P:Program}{w:World}{K:PySem.W.Frag}{mg:Str→Option Value}{base:Heap}
theorem rg {x qual:Str}{st:Stmt}{f:Addr}{fd:FuncData}{N ps:List Str}{k:Nat}{φ:List A→(A→Prop)→Prop}(G:Fun K x qual st f fd)(hm:mg x=some (.ref f))(hb:Binds K fd ps [])(S:zl N ps (za st))(hlen:∀as Q,φ as Q→as.length=ps.length)
  (hbody:∀(cdv:Value) (A':Around) (outer:List Env) (s:Shared) (H:Hp) (E:XK) (as:List A) (Q:A→Prop),zI k (A'.deeper (envOfC qual (za st) s.heap.objs.size f cdv))→φ as Q→
   SvS (yF CX0 P w K mg base N qual (za st) f cdv A' outer s H E).nox (as.map some++List.replicate (N.length-as.length) none) (zq st) {nx:=fun _=>Q (.dat .none),rt:=Q}):Cal P w K mg base x (k+1) φ:=
 ⟨f,fd,ps,hm,G.kp,hb,fnA G S hlen hbody⟩
def xl :List A→(A→Prop)→Prop:=fun as Q=>∃n:Int,as=[.tape,.dat (.int n)]∧0<n∧n<big∧∀v,0≤v→v<n→Q (.dat (.int v))
theorem lV {f:Addr}{fd:FuncData}{x:Str}(hm:mg x=some (.ref f))(hk:PySem.W.keepIn K (.ref f)=true)(hb:Binds K fd ["_law_tape_here","_law_many"] [])(G:zt P w K mg base CX0 1 f fd ["_law_tape_here","_law_many"] lF):Cal P w K mg base x 1 xl:=by
 refine⟨f,fd,_,hm,hk,hb,G.imp fun vs H Q E h=>?_⟩
 obtain⟨F,as,Q',rfl,t,o,rv,⟨n,rfl,h0,h1,hq⟩,kk⟩:=h
 cases rv with
 |cons a1 r=>
  obtain⟨ta,b,c,e,rfl⟩:=a1
  obtain⟨v,rfl,av⟩:=r.one
  cases av.int_inv
  refine⟨ta,b,c,n,rfl,(t ta b c e).1,h0,h1,fun z H' z0 z1 TA off=>kk _ _ _ (hq z z0 z1) ⟨⟨(by
   obtain⟨_,_,_,_,e1,e2,_⟩:=(t ta b c e).1.ex
   exact jL t.tab e1 e2 off),t.ot,fun t' b' c' e'=>?_⟩,fun y u hy n=>?_,.int z⟩⟩
  ·rw[e] at e';cases e'
   exact⟨TA,(t ta b c e).2⟩
  ·rw[off y (n.1 _ _ _ e).1 (n.1 _ _ _ e).2];exact hy
theorem M.tape {H:Hp}{t b c:Addr}{α:Ev}{σ:St}(T:yi H t b c)(TB:TabAt H)(hl:α.length=σ.length)(h:∀(i:Nat) a,α[i]?=some (some a)→a=.tape∧σ[i]?=some (some (.ref t))):M ⟨H,fun x=>x=t∨x=b∨x=c∨vF x,some (t,b,c)⟩ α σ H:=by
 refine⟨hl,fun i a s e1 e2=>?_,fun i j a b s u x e1 _ _ _ f=>?_,fun i r q e=>?_,⟨TB,fun x z=>.inr (.inr (.inr z)),fun t' b' c' e=>?_⟩,fun _ _ e _=>e,fun x hx=>?_⟩
 ·obtain⟨rfl,z⟩:=h i a e1
  rw[z] at e2;cases e2
  exact⟨t,b,c,rfl,rfl⟩
 ·obtain⟨rfl,_⟩:=h i a e1
  exact f.elim
 ·cases (h i _ e).1
 ·cases e
  exact⟨T,.inl rfl,.inr (.inl rfl),.inr (.inr (.inl rfl))⟩
 ·obtain⟨n,bs,cs,_,e1,e2,e3,_⟩:=T.ex
  rcases hx with rfl|rfl|rfl|z
  ·exact⟨_,e1,yv⟩
  ·exact⟨_,e2,yv⟩
  ·exact⟨_,e3,yv⟩
  ·obtain⟨o,h1,h2,_⟩:=sf TB z
   exact⟨o,h1,h2⟩
theorem dD {st:Stmt}{f fT:Addr}{fd fdT:FuncData}{N':List Str}{k:Nat}{p1 p2 p3 p4 p5:Pos}{rest:List Stmt}(G:Fun K "law" "law" st f fd)(S:zl ("_law_script"::"_law_tape_here"::N') ["_law_script"] (za st))
  (GT:zt P w K mg base CX0 1 fT fdT ["_law_script"] (qG K)) (mT:mg "_law_tape"=some (.ref fT)) (kT:PySem.W.keepIn K (.ref fT)=true) (bT:Binds K fdT ["_law_script"] [])
  (hb:zq st=.Assign [.Name "_law_tape_here" p1] (.Call (.Name "_law_tape" p2) [.Name "_law_script" p3] [] p4) p5::rest) (hgl:(za st).names.lookup ("_law_tape":Str)=some .globalImplicit) (hl:Loc (za st) "_law_tape_here") (hv:Vis (za st) "_law_script")
  (hbody:∀(cdv:Value) (A':Around) (outer:List Env) (s:Shared) (H:Hp) (E:XK),zI (k+1) (A'.deeper (envOfC "law" (za st) s.heap.objs.size f cdv))→
   SvS (yF CX0 P w K mg base ("_law_script"::"_law_tape_here"::N') "law" (za st) f cdv A' outer s H E).nox (none::some .tape::List.replicate N'.length none) rest {nx:=fun _=>False,rt:=fun a=>a=.dat (.bool true)}):
  zt P w K mg base CX0 (k+1+1) f fd ["_law_script"] (rK K):=by
 refine G.ok S (fun vs H Q E h=>?_) (fun cdv A' outer s H vs Qc E hr h=>?_)
 ·obtain⟨a,ns,rfl,_⟩:=h
  rfl
 ·obtain⟨a,ns,rfl,hS,hn,tb,kk⟩:=h
  rw[hb]
  refine zH (fun σ H1=>∃t b c,yi H1 t b c∧TabAt H1∧σ=some (.ref a)::some (.ref t)::List.replicate N'.length none)
   ⟨_,xq (i:=1) S.nd rfl hl (zE GT (hr.mono (by omega)) hgl mT kT bT .nil zR (zb (yo (i:=0) rfl hv) zj)) (hf:=.inl rfl),?_⟩ ?_
  ·refine⟨.ref a,rfl,a,ns,rfl,hS,hn,fun t b c H' T _ _ _ sm=>⟨t,b,c,T,lu tb sm,?_⟩⟩
   show ((L2.start ("_law_script"::"_law_tape_here"::N') [.ref a]).set 1 (some (.ref t)))=_
   unfold L2.start
   simp[List.replicate_succ]
  ·rintro σ H1 ⟨t,b,c,T,TB,rfl⟩
   refine hbody cdv A' outer s H E hr ⟨H1,fun x=>x=t∨x=b∨x=c∨vF x,some (t,b,c)⟩ _ H1 _ (M.tape T TB (by simp) fun i z e=>?_) ⟨fun _ _ _ _ z=>z.elim,fun z v H' r e=>?_,fun _ _ _ _ z=>z.elim,fun _ _ _ _ z=>z.elim⟩
   ·cases i with
    |zero=>simp at e
    |succ i=>
     cases i with
     |zero=>simp at e;subst e;exact⟨rfl,rfl⟩
     |succ i=>
      simp only[aB,bp] at e
      split at e<;>cases e
   ·cases e
    obtain⟨_,_,r⟩:=r
    rw[AV.bl_inv r]
    exact kk H'
end
section
variable {Y:Addr→Shared→Hp→List Addr→Cx}{pat:Pat}{ifs:List Expr}{elt:Expr}{α0:Ev}
theorem oU {ds acc:List PyData}{Q:List PyData→Prop}(P:Nat→List PyData→Prop)(h0:P 0 acc)
  (hs:∀i d acc,ds[i]?=some d→P i acc→∃α1,pat.bind d α0=some α1∧∀C s2 H2 fp,mH (Y C s2 H2 fp) α1 ifs fun k=>if k=true then ∀C s2 H2 fp,EvD (Y C s2 H2 fp) α1 elt fun y=>P (i+1) (acc++[y]) else P (i+1) acc)
  (hd:∀acc,P ds.length acc→Q acc):yP Y pat ifs elt α0 ds acc Q:=by
 have key:∀n i acc,n=ds.length-i→i≤ds.length→P i acc→yP Y pat ifs elt α0 (ds.drop i) acc Q:=by
  intro n
  induction n with
  |zero=>
   intro i acc hn hi p
   have e:i=ds.length:=by omega
   subst e
   rw[aD]
   exact hd acc p
  |succ n ih=>
   intro i acc hn hi p
   have hlt:i<ds.length:=by omega
   rw[bJ hlt]
   obtain⟨α1,e,b⟩:=hs i ds[i] acc (dP hlt) p
   refine⟨α1,e,fun C s2 H2 fp F σ H R m kk=>b C s2 H2 fp F σ H R m fun k H' q=>kk k H' ?_⟩
   cases k with
   |true=>
    rw[if_pos rfl] at q ⊢
    exact fun C s2 H2 fp=>(q C s2 H2 fp).imp fun y p=>ih (i+1) _ (by omega) hlt p
   |false=>
    rw[if_neg (by decide)] at q ⊢
    exact ih (i+1) _ (by omega) hlt q
 exact key _ 0 acc rfl (dZ _) h0
end
theorem ia {ds:List PyData}{v:Int}(h0:0≤v)(h1:v<ds.length):∃d,d∈ds∧atI ds v=some d:=by
 obtain⟨j,rfl⟩:=Int.eq_ofNat_of_zero_le h0
 have hj:j<ds.length:=by omega
 exact⟨ds[j],bO hj,wA (dP hj)⟩
theorem qK (st:Stmt)(env:Env):execs [st] env=exec st env:=by
 rw[PySem.execs_cons]
 have:(fun f:Flow=>(match f with|.next=>execs [] env|f=>pure f:Sem Flow))=pure:=by
  funext f
  cases f<;>rfl
 exact (congrArg (fun g=>exec st env >>= g) this).trans (bind_pure _)
section
variable {X:Cx}{α:Ev}{e a b c:Expr}{es rest:List Expr}{pos p:Pos}{Q:PyData→Prop}{E:yu}{st:Stmt}{sts sts':List Stmt}
theorem sr (P:Ev→Prop)(h1:SvS X α [st] {E with nx:=P})(h2:∀α',P α'→SvS X α' sts E):SvS X α (st::sts) E:=fun F σ H D m r=>by
 refine zH (fun σ' H'=>∃α',M F α' σ' H'∧P α') ?_ ?_
 ·obtain⟨t,p,q⟩:=h1 F σ H {D with nx:=fun σ' H'=>∃α',M F α' σ' H'∧P α'} m ⟨fun α' σ' H' m' z=>⟨α',m',z⟩,r.rt,r.bk,r.ct⟩
  exact⟨t,fun pins s σ H D I h=>(by
   have:=p pins s σ H D I h
   rw[qK] at this
   exact this),q⟩
 ·rintro σ' H' ⟨α',m',z⟩
  exact h2 α' z F σ' H' D m' r
theorem lC {c:Prop}[Decidable c]{a b:List Stmt}(h1:c→SvS X α a E)(h2:¬c→SvS X α b E):SvS X α (if decide c=true then a else b) E:=by
 by_cases h:c
 ·rw[bf h];exact h1 h
 ·rw[cY h];exact h2 h
theorem yQ {k:Bool}{a b:List Stmt}(h1:k=true→SvS X α a E)(h2:k=false→SvS X α b E):SvS X α (if k=true then a else b) E:=by
 cases k with
 |true=>exact h1 rfl
 |false=>exact h2 rfl
theorem jl {i j:Str}:Cmp rEq (.str i) (.str j) (decide (i=j)):=fun p H vx vy R rx ry h=>by
 cases rx.str_inv;cases ry.str_inv
 refine⟨rfl,?_⟩
 rw[show decide (V.str i=V.str j)=decide (i=j) by simp]
 exact h
theorem iA {op:CmpOp}{r:R2}(ho:OpR X (compareOp op) r)(hm:behindInMarks op b=false)(h:EvD X α a fun x=>EvD X α b fun y=>∃k,Cmp r x y k∧Q (.bool k)):EvD X α (.Compare a [op] [b] pos) Q:=fun F σ H R m k=>by
 refine⟨_,xF ho zi zi hm,?_⟩
 refine h F σ H _ m fun x vx H1 q1 t1 k1 r1=>?_
 have m1:=m.kz k1 t1
 refine q1 F σ H1 _ m1 fun y vy H2 q2 t2 k2 r2=>?_
 obtain⟨b,hc,q⟩:=q2
 exact hc _ H2 vx vy _ (r1.same (k2.gz m1.tp)) r2 (k _ _ H2 q t2 (k1.trans k2) (.bl b))
end
structure NbT (mg:Str→Option Value):Prop where
 abs:mg "abs"=none
 list:mg "list"=none
 len:mg "len"=none
 range:mg "range"=none
 min:mg "min"=none
 max:mg "max"=none
 sorted:mg "sorted"=none
 isinstance:mg "isinstance"=none
 int:mg "int"=none
 bool:mg "bool"=none
 str:mg "str"=none
 tuple:mg "tuple"=none
 all:mg "all"=none
 any:mg "any"=none
 repr:mg "repr"=none
 zip:mg "zip"=none
 enumerate:mg "enumerate"=none
 reversed:mg "reversed"=none
 sum:mg "sum"=none
theorem yZ {X:Cx}{K:PySem.W.Frag}{es:List Expr}{k:Nat}{t:TGs}{n:Nat}{pos:Pos}(hK:X.K=K)(hc:X.calm=true)(h:PGs X es t)
  (hn:(assignEach es X.env).length=n:=by rfl) (hst:(assignEach es X.env).findIdx? (·.1)=none:=by rfl):PG X (.Tuple es k pos) (gn K n t):=by
 subst hK
 exact gc hc h hn hst
end L2
namespace SortA
open PySem PySem.W PyProof.Rows
abbrev g (p:Array Nat)(i:Nat):Nat:=p.getD i 0
variable {lt:Nat→Nat→Bool}
end SortA
namespace SortA
open PySem PySem.W PyProof.Rows
end SortA
namespace L2
open PySem PySem.Spec PySem.Calls PySem.W PyProof.Rows SortA
section
variable {prog:Program}{w:World}{A:Around}{E:Value→Shared→Prop}{s:Shared}
end
section
variable {X:Cx}{pins:List (Addr×Obj)}{σ:St}{H H':Hp}{s:Shared}
end
end L2
namespace Days
end Days
namespace L2
open PySem PySem.Spec PyProof.Rows Days
section
variable {X:Cx}{α:Ev}{e a b c tg:Expr}{pos p:Pos}{Q:PyData→Prop}{E:yu}{sts:List Stmt}
end
section
variable {X:Cx}{α:Ev}{tg:Expr}{pos p:Pos}{E:yu}{sts body:List Stmt}
def noE :Ev→Bool
 |[]=>true
 |some (.exc _ _)::_=>false
 |_::r=>noE r
end
def isNone :PyData→Bool
 |.none=>true
 |_=>false
theorem DV.non_iff {H:Hp}{x:V}{d:PyData}(h:DV H x d):decide (x=.non)=isNone d:=by
 cases h<;>simp[isNone]
abbrev eqS (d:PyData)(s:Str):Bool:=PyData.eqv d (.str s)
abbrev xM :PyData→Bool:=zP 0 1000000000000
def vL :PyData→Bool
 |.tuple [.int m,f]=>zP 2 14 (.int m)&&zP 1 (m-1) f
 |_=>false
def zp (w v:PyData):Bool:=
 if eqS w "price"=true then isNone v||xM v
 else if (eqS w "come"||eqS w "go")=true then isBool v
 else if (eqS w "least"||eqS w "most")=true then zP 1 14 v
 else if eqS w "deal"=true then isNone v||vL v
 else eqS w "fee"&&xM v
def yK :PyData→Bool
 |.tuple [w,a,b,v]=>zB (.tuple [a,b])&&zp w v
 |_=>false
abbrev words :List Str:=["price","come","go","least","most","deal","fee"]
theorem qq {x:Str}(h:(PyData.str x).canLay0=true):SeqAt.shaped (.str x)=true:=by
 unfold SeqAt.shaped
 rw[h]
 rfl
def pY :Sp:=fun vs H Q _=>∃x y dw dv,vs=[x,y]∧DV H x dw∧SeqAt.shaped dw=true∧DV H y dv∧Q (.bl (zp dw dv)) H
def lD :Sp:=fun vs H Q _=>∃x d,vs=[x]∧DV H x d∧SeqAt.shaped d=true∧∀H',zm H H'→Q (.bl (yK d)) H'
theorem tH {ds:List PyData}(h:SeqAt.shaped (.tuple ds)=true):∀d∈ds,SeqAt.shaped d=true:=by
 unfold SeqAt.shaped at h
 rw[cy,cL] at h
 obtain⟨h1,h2⟩:=h
 simp only[PyData.canLay0] at h1
 simp only[PyData.depth] at h2
 have key:∀(ds:List PyData),PyData.canLayAll0 ds=true→PyData.depthAll ds+1≤64→∀d∈ds,SeqAt.shaped d=true:=by
  intro ds
  induction ds with
  |nil=>intro _ _ d hd;simp at hd
  |cons e r ih=>
   intro a b d hd
   simp only[PyData.canLayAll0,cy] at a
   simp only[PyData.depthAll] at b
   rcases cm.mp hd with z|z
   ·subst z
    unfold SeqAt.shaped
    rw[a.1,bo,cL]
    omega
   ·exact ih a.2 (by omega) d z
 exact key ds h1 (by omega)
def qo (x y z:V):List (Str×V):=yN "worth" z (yN "last" y (yN "first" x []))
theorem eI :¬(("worth":Str)="last"):=by decide +kernel
theorem ee :¬(("worth":Str)="first"):=by decide +kernel
theorem jN :¬(("last":Str)="first"):=by decide +kernel
structure Cs where
 price:Addr
 come:Addr
 go:Addr
 least:Addr
 most:Addr
 deal:Addr
 fee:Addr
def Cs.of (c:Cs)(w:Str):Addr:=
 if w="price" then c.price else if w="come" then c.come else if w="go" then c.go else if w="least" then c.least else if w="most" then c.most else if w="deal" then c.deal else c.fee
structure wj (K:PySem.W.Frag)(C fI fT fE fW:Addr):Prop where
 cl:Cls K C
 nf:xC K C "first"
 nl:xC K C "last"
 nw:xC K C "worth"
 makes:Mk K C fI
 told:Meth K C "told" fT
 tells:Meth K C "tells" fE
 word:Meth K C "word" fW
def gg (C:Addr):Sp:=fun vs H Q _=>∃(p dx:Addr) (x y z:V),vs=[.ref p,x,y,z]∧H p=some (.ins C dx [])∧Q .non (upd H p (.ins C dx (qo x y z)))
def lE (cs:Cs):Sp:=fun vs H Q _=>∃(w:Str) (x y z:V),vs=[.str w,x,y,z]∧w∈words∧∀(p dx:Addr) (H':Hp),H' p=some (.ins (cs.of w) dx (qo x y z))→H p=none→zm H H'→Q (.ref p) H'
def sZ (cs:Cs):Sp:=fun vs H Q _=>∃x d,vs=[x]∧DV H x d∧SeqAt.shaped d=true∧(yK d=false→∀H',zm H H'→Q .non H')∧
 (∀(r:Addr) (w:Str) (x1 x2 x3:V) (p dx:Addr) (H':Hp),x=.ref r→yK d=true→w∈words→H r=some (.tup [.str w,x1,x2,x3])→H' p=some (.ins (cs.of w) dx (qo x1 x2 x3))→H p=none→zm H H'→Q (.ref p) H')
theorem xB {d:PyData}{s:Str}(h:eqS d s=true):d=.str s:=by
 cases d with
 |str x=>
  have h':(x == s)=true:=h
  rw[eq_of_beq h']
 |_=>simp[PyData.eqv] at h
theorem rA {w v:PyData}(h:zp w v=true):∃s∈words,w=.str s:=by
 unfold zp at h
 split at h
 ·rename_i e;exact⟨"price",by simp[words],xB e⟩
 ·split at h
  ·rename_i e
   rcases (aI _ _).mp e with e|e
   ·exact⟨"come",by simp[words],xB e⟩
   ·exact⟨"go",by simp[words],xB e⟩
  ·split at h
   ·rename_i e
    rcases (aI _ _).mp e with e|e
    ·exact⟨"least",by simp[words],xB e⟩
    ·exact⟨"most",by simp[words],xB e⟩
   ·split at h
    ·rename_i e;exact⟨"deal",by simp[words],xB e⟩
    ·rw[cy] at h;exact⟨"fee",by simp[words],xB h.1⟩
theorem yU {d:PyData}(h:yK d=true):∃(s:Str) (a b v:PyData),s∈words∧d=.tuple [.str s,a,b,v]:=by
 unfold yK at h
 split at h
 ·rename_i w a b v
  rw[cy] at h
  obtain⟨s,hs,rfl⟩:=rA h.2
  exact⟨s,a,b,v,hs,rfl⟩
 ·cases h
section
variable {X:Cx}
end
abbrev nu (C:Addr)(fs:List (PyData×PyData)):PyData:=.dict ((.int (C:Nat),.none)::fs)
def kf :List (PyData×PyData)→Str→Option PyData
 |[],_=>none
 |(.str g,d)::r,f=>if f=g then some d else kf r f
 |_::r,f=>kf r f
theorem AVf.get {H:Hp}:∀{fs:List (Str×V)} {ds:List (PyData×PyData)} {f:Str} {d:PyData},AVf H fs ds→kf ds f=some d→∃v,fs.lookup f=some v∧AV H v d
 |_,_,f,d,.nil,e=>by cases e
 |_,_,f,d,.cons (f:=g) h r,e=>by
  rw[cQ]
  unfold kf at e
  by_cases z:f=g
  ·subst z
   rw[if_pos rfl] at e
   cases e
   exact⟨_,by simp,h⟩
  ·rw[if_neg z] at e
   have z':(f == g)=false:=by simpa using z
   rw[z']
   exact AVf.get r e
section
variable {X:Cx}{α:Ev}{o e:Expr}{es:List Expr}{pos apos p:Pos}{Q:PyData→Prop}{C:Addr}{f m:Str}
def jc (F:Fr)(v:V)(H':Hp)(d:PyData):Prop:=zC F H'∧Kz F F.H0 H'∧AV (sub (fun x=>¬F.O0 x∧∀xs,F.H0 x≠some (.lst xs)) H') v d
def EvN (X:Cx)(α:Ev)(e:Expr)(Q:PyData→Prop):Prop:=∀(F:Fr) (σ:St) (H:Hp) (R:VK),M F α σ H→(∀d v H',Q d→zC F H'→Kz F H H'→AV (sub (fun x=>¬Ow F α σ x∧∀xs,H x≠some (.lst xs)) H') v d→R v H')→vo X e σ H R
theorem EvN.d (h:EvN X α e Q):EvD X α e Q:=fun F σ H R m k=>h F σ H R m fun d v H' q t z r=>k d v H' q t z (r.same (zk fun a o h e=>⟨h.1,e⟩))
def spI (C:Addr)(φ:List A→(A→Prop)→Prop):Sp:=fun vs H Qc _=>∃(F:Fr) (as:List A) (Q:A→Prop) (x dx:Addr) (vs':List V) (H1:Hp),vs=.ref x::vs'∧H1 x=none∧H1 dx=none∧dx≠x∧H=upd (upd H1 dx (.own x)) x (.ins C dx [])∧
 F.H0=H1∧zC F H1∧(∀y,F.O0 y→∃u,H1 y=some u∧xH u)∧zL F (sub (fun y=>¬F.O0 y) H1) vs' as∧φ as Q∧∀d H',Q (.dat d)→jc F (.ref x) H' d→Qc .non H'
structure jJ (P:Program)(w:World)(K:PySem.W.Frag)(mg:Str→Option Value)(base:Heap)(x:Str)(k:Nat)(dvs:List V)(φ:List A→(A→Prop)→Prop):Prop where
 ex:∃C f fd ps ds,mg x=some (.ref C)∧Mk K C f∧Binds K fd ps ds∧Vals dvs ds∧zt P w K mg base CX0 k f fd ps (spI C φ)
theorem qH {F:Fr}{σ:St}{H:Hp}{vs:List V}{as:List A}{QA:A→Prop}{R:VK}{φ:List A→(A→Prop)→Prop}(m:M F α σ H)(rv:zL F (Gz F α σ H) vs as)(hφ:φ as QA)
  (kk:∀d v H',QA (.dat d)→jc ⟨H,Ow F α σ,F.tp⟩ v H' d→R v H') {E:XK} (x dx:Addr) (hx:H x=none) (hdx:H dx=none) (hne:dx≠x):spI C φ (.ref x::vs) (upd (upd H dx (.own x)) x (.ins C dx [])) (fun v H2=>v=.non∧R (.ref x) H2) E:=by
 refine⟨⟨H,Ow F α σ,F.tp⟩,as,QA,x,dx,vs,H,rfl,hx,hdx,hne,rfl,rfl,?_,?_,?_,hφ,fun d H' qa ra=>⟨rfl,kk d _ H' qa ra⟩⟩
 ·exact m.tp.to rfl fun _ z=>.inl z
 ·exact fun y z=>m.owEx z
 ·exact zL.to (F:=F) (F':=⟨H,Ow F α σ,F.tp⟩) (fun _ _ e=>e) rfl rv
theorem jc.back {F:Fr}{σ:St}{H H1 H':Hp}{v:V}{d:PyData}(m:M F α σ H)(k1:Kz F H H1)(h:jc ⟨H1,Ow F α σ,F.tp⟩ v H' d):zC F H'∧Kz F H1 H'∧AV (sub (fun x=>¬Ow F α σ x∧∀xs,H x≠some (.lst xs)) H') v d:=by
 obtain⟨t,kz,r⟩:=h
 refine⟨m.tp.re t rfl,kz,r.same (zk fun a o h e=>⟨⟨h.1,fun xs z=>h.2 xs (k1 _ _ z (m.tp.nt (ow0 h.1)))⟩,e⟩)⟩
theorem kH {k:Nat}{φ:List A→(A→Prop)→Prop}{x:Str}(M':jJ X.prog X.w X.K X.mg X.base x k [] φ)(hr:zI (k+1) X.A)(hg:Gl X x)(h:EvA X α (e::es) fun as=>φ as fun a=>Q a.d)
  (hdb:(x == ("__debug__":Str))=false:=by decide) (he:starEach (e::es) X.env=(false,eval e X.env)::starEach es X.env:=by rfl) (hpl:(backTo pos (starEach es X.env)).any (·.1)=false:=by rfl):EvN X α (.Call (.Name x p) (e::es) [] pos) Q:=fun F σ H R m kk=>by
 obtain⟨C,f,fd,ps,ds,hm,hk,hb,hd,G⟩:=M'.ex
 cases hd
 refine⟨_,yO hk G hr hg hm hb .nil zR yx hdb he hpl,?_⟩
 refine h F σ H _ m fun as vs H1 q1 t1 k1 r1=>?_
 have m1:=m.kz k1 t1
 intro y dx hy hdx hne
 rw[cO]
 refine qH m1 r1 q1 (fun d v H' qa ra=>?_) y dx hy hdx hne
 obtain⟨g1,g2,g3⟩:=ra.back m k1
 exact kk d v H' qa g1 (k1.trans g2) g3
end
structure sX (K:PySem.W.Frag)(x qual:Str)(st:Stmt)(dV:Value)(f:Addr)(fd:FuncData):Prop where
 ex:∃(oc:Value) (od:Option Addr) (kV doc pm:Value) (an:Option Addr) (cdv ct:Value) (osl:Array (Option Value)),
  fd=PySem.W.fnOf x qual (zU st) (zq st) (za st) dV kV doc pm an cdv ct∧K.lookup f=some ⟨oc,od,.func fd,osl⟩∧PySem.W.codeIn K cdv qual=true
 kp:PySem.W.keepIn K (.ref f)=true
theorem sq {K:PySem.W.Frag}{x qual:Str}{st:Stmt}{f:Addr}{oc:Value}{od an:Option Addr}{osl:Array (Option Value)}{dV kV doc pm cdv ct:Value}(l:K.lookup f=some ⟨oc,od,.func (PySem.W.fnOf x qual (zU st) (zq st) (za st) dV kV doc pm an cdv ct),osl⟩)
  (c:PySem.W.codeIn K cdv qual=true) (k:PySem.W.keepIn K (.ref f)=true):sX K x qual st dV f (PySem.W.fnOf x qual (zU st) (zq st) (za st) dV kV doc pm an cdv ct):=⟨⟨oc,od,kV,doc,pm,an,cdv,ct,osl,rfl,l,c⟩,k⟩
section
variable {P:Program}{w:World}{K:PySem.W.Frag}{mg:Str→Option Value}{base:Heap}
theorem fY {qual:Str}{st:Stmt}{f C:Addr}{dV:Value}{fd:FuncData}{N:List Str}{x:Str}{k:Nat}{φ:List A→(A→Prop)→Prop}{fl:Str}{e:Expr}{p1 p2 p3:Pos}(G:sX K "__init__" qual st dV f fd)(S:zl ("self"::x::N) ["self",x] (za st))(c:Cls K C)(na:xC K C fl)
  (hb:zq st=[.Assign [.Attribute (.Name "self" p1) fl p2] e p3]) (hlen:∀as Q,φ as Q→as.length=1)
  (hbody:∀(cdv:Value) (A':Around) (outer:List Env) (s:Shared) (H:Hp) (E:XK) (as:List A) (Q:A→Prop),zI k (A'.deeper (envOfC qual (za st) s.heap.objs.size f cdv))→φ as Q→
   EvL (yF CX0 P w K mg base ("self"::x::N) qual (za st) f cdv A' outer s H E).nox (none::as.map some++List.replicate N.length none) e fun ds=>noLs ds=true∧Q (.dat (nu C [(.str fl,.list ds)])))
  (hsw:∀(cdv:Value) (A':Around) (outer:List Env) (s:Shared) (H:Hp) (E:XK),swapsWith e (some (.Attribute (.Name "self" p1) fl p2)) p3.line (yF CX0 P w K mg base ("self"::x::N) qual (za st) f cdv A' outer s H E).nox.env=pure false)
  (hv:Vis (za st) "self"):zt P w K mg base CX0 (k+1) f fd ["self",x] (spI C φ):=by
 obtain⟨oc,od,kV,doc,pm,an,cdv,ct,osl,rfl,lk,hcd⟩:=G.ex
 refine pS lk hcd S (fun vs H Q E h=>?_) fun A' outer s H vs Qc E hr h=>?_
 ·obtain⟨F,as,Q',y,dx,vs',H1,rfl,_,_,_,_,_,_,_,rv,hφ,_⟩:=h
  rw[cf,rv.length,hlen as _ hφ]
  rfl
 ·obtain⟨F,as,Q',y,dx,vs',H1,rfl,hy,hdx,hne,rfl,rfl,t,o,rv,hφ,kk⟩:=h
  have hl:=rv.length
  have hl1:=hlen as _ hφ
  rw[hb]
  refine⟨_,(show PSs _ _ _ from (zo (uq (X:=(yF CX0 P w K mg base ("self"::x::N) qual (za st) f cdv A' outer s (upd (upd F.H0 dx (.own y)) y (.ins C dx [])) E).nox) (yo (i:=0) rfl hv) zi (hsw cdv A' outer s _ E))).nox),?_⟩
  let F2:Fr:=⟨F.H0,fun z=>F.O0 z∨z=y∨z=dx,F.tp⟩
  have s1:zm F.H0 (upd (upd F.H0 dx (.own y)) y (.ins C dx [])):=fun a u q=>by
   rw[zc (ze q hy),zc (ze q hdx)];exact q
  have noy:¬F.O0 y:=fun z=>by obtain⟨u,hu,_⟩:=o y z;rw[hy] at hu;cases hu
  have nodx:¬F.O0 dx:=fun z=>by obtain⟨u,hu,_⟩:=o dx z;rw[hdx] at hu;cases hu
  have t2:zC F2 (upd (upd F.H0 dx (.own y)) y (.ins C dx [])):=(t.same s1).to rfl fun _ z=>.inl z
  -- the names of the body
  have g:∀{i:Nat} {a:A},(none::as.map some++List.replicate N.length none:Ev)[i]?=some (some a)→∃j,i=j+1∧as[j]?=some a:=fun {i a} h=>by
   cases i with
   |zero=>simp at h
   |succ j=>
    refine⟨j,rfl,?_⟩
    have h':(as.map some++List.replicate N.length none:Ev)[j]?=some (some a):=by simpa using h
    rcases Nat.lt_or_ge j as.length with z|z
    ·rw[cn (by rw[dU];exact z),cH,cV] at h'
     obtain⟨b,h1,h2⟩:=h'
     cases h2;exact h1
    ·rw[cp (by rw[dU];exact z),bp] at h'
     split at h'<;>cases h'
  have at':∀{vs:List V} {as:List A} {i:Nat} {a:A},zL F (sub (fun x=>¬F.O0 x) F.H0) vs as→as[i]?=some a→∃v,vs[i]?=some v∧oZ F (sub (fun x=>¬F.O0 x) F.H0) v a:=by
   intro vs as i a h
   induction h generalizing i with
   |nil=>intro e;simp at e
   |cons h r ih=>
    intro e
    cases i with
    |zero=>simp at e;subst e;exact⟨_,rfl,h⟩
    |succ i=>obtain⟨v,h1,h2⟩:=ih (by simpa using e);exact⟨v,by simpa using h1,h2⟩
  have gv:∀{j:Nat} {v:V},vs'[j]?=some v→(L2.start ("self"::x::N) (.ref y::vs'))[j+1]?=some (some v):=fun {j v} h=>by
   have hj:j<vs'.length:=(dN.mp h).1
   unfold L2.start
   rw[cn (by rw[dU,cf];omega),cH,aB,h];rfl
  have no:∀(i:Nat) a,(none::as.map some++List.replicate N.length none:Ev)[i]?=some (some a)→(∃d,a=.dat d)∨a=.tape:=fun i a z=>by
   obtain⟨j,_,hj⟩:=g z
   obtain⟨v,_,h⟩:=at' rv hj
   cases a with
   |dat d=>exact .inl ⟨d,rfl⟩
   |tape=>exact .inr rfl
   |_=>exact h.elim
  have gs:zm (sub (fun x=>¬F.O0 x) F.H0) (Gz F2 (none::as.map some++List.replicate N.length none) (L2.start ("self"::x::N) (.ref y::vs')) (upd (upd F.H0 dx (.own y)) y (.ins C dx []))):=fun a u q=>by
   obtain⟨z1,z2⟩:=zh q
   refine zx ?_ (s1 _ _ z2)
   rintro ((z|z|z)|⟨i,b,s,e,_,f⟩)
   ·exact z1 z
   ·rw[z,hy] at z2;cases z2
   ·rw[z,hdx] at z2;cases z2
   ·rcases no i b e with ⟨d,rfl⟩|rfl
    ·exact f.elim
    ·exact f.elim
  have m2:M F2 (none::as.map some++List.replicate N.length none) (L2.start ("self"::x::N) (.ref y::vs')) (upd (upd F.H0 dx (.own y)) y (.ins C dx [])):=by
   refine⟨by unfold L2.start;simp[hl,hl1],fun i a s e1 e2=>?_,fun i j a b s t x e1 _ _ _ f=>?_,fun i r q z=>(by rcases no i _ z with ⟨d,w⟩|w<;>cases w),t2,fun z u h _=>s1 z u h,fun z hz=>?_⟩
   ·obtain⟨j,rfl,hj⟩:=g e1
    obtain⟨v,h1,h2⟩:=at' rv hj
    rw[gv h1] at e2;cases e2
    rcases no _ a e1 with ⟨d,rfl⟩|rfl
    ·exact⟨v,rfl,AV.same gs h2⟩
    ·obtain⟨t',b,c,h3,rfl⟩:=h2
     exact⟨t',b,c,h3,rfl⟩
   ·rcases no i a e1 with ⟨d,rfl⟩|rfl
    ·exact f.elim
    ·exact f.elim
   ·rcases hz with q|q|q
    ·obtain⟨u,hu,hn⟩:=o z q
     exact⟨u,s1 _ _ hu,hn⟩
    ·exact⟨_,by rw[q];exact zd,fun _ q=>by cases q⟩
    ·exact⟨_,by rw[q,zc hne];exact zd,fun _ q=>by cases q⟩
  refine hbody cdv A' outer s _ E as Q' hr hφ F2 _ _ _ m2 fun d v H2 qd t3 k3 r3=>?_
  obtain⟨l,xs,rfl,hl0,hl2,avl⟩:=r3
  obtain⟨nol,qd⟩:=qd
  have nly:l≠y:=fun z=>by rw[z,zd] at hl0;cases hl0
  have nldx:l≠dx:=fun z=>by rw[z,zc hne,zd] at hl0;cases hl0
  have hl00:F.H0 l=none:=by rw[zc nly,zc nldx] at hl0;exact hl0
  have nol0:¬F.O0 l:=fun z=>by obtain⟨u,hu,_⟩:=o l z;rw[hl00] at hu;cases hu
  have nty:NT F2 y:=t.nt noy
  have hy2:H2 y=some (.ins C dx []):=k3 _ _ zd nty
  refine⟨.ref y,rfl,y,C,dx,[],rfl,hy2,c,na,by show 0<1000;decide,?_⟩
  refine kk _ _ qd ⟨(t.re t3 rfl).updO noy (nq hy2),fun z u h n=>?_,?_⟩
  ·rw[zc (ze h hy)]
   exact k3 _ _ (s1 _ _ h) n
  ·refine AV.ins (zx ⟨noy,fun xs z=>by rw[hy] at z;cases z⟩ zd) (.cons (.lst (zx ⟨nol0,fun xs z=>by rw[hl00] at z;cases z⟩ (by rw[zc nly];exact hl2)) ?_) .nil)
   refine avl.noL (fun a u hno z=>?_) nol
   obtain⟨z1,z2⟩:=zh z
   have na:a≠y:=fun w=>z1.1 (.inl (.inr (.inl w)))
   refine zx ⟨fun w=>z1.1 (.inl (.inl w)),fun xs w=>?_⟩ (by rw[zc na];exact z2)
   have:H2 a=some (.lst xs):=k3 _ _ (s1 _ _ w) (t.nt fun w=>z1.1 (.inl (.inl w)))
   rw[z2] at this
   cases this
   exact hno trivial
end
section
variable {X:Cx}{α:Ev}{e e':Expr}{pos:Pos}{E:yu}{sts:List Stmt}
end
section
variable {X:Cx}{α:Ev}{tg:Expr}{p pos:Pos}{a:Expr}
end
section
variable {X:Cx}{α:Ev}{p pos:Pos}{a:Expr}{g:Str}{Q:PyData→Prop}
end
section
variable {X:Cx}{α:Ev}{p pos:Pos}{a b:Expr}{g:Str}{Q:PyData→Prop}
theorem lK {lo hi:Option Expr}(h:EvD X α a fun x=>EvO X α lo fun l=>EvO X α hi fun u=>∃ds,x=.tuple ds∧¬(HT.sIx ds.length 0 l=0∧HT.sIx ds.length ds.length u=ds.length)∧Q (.tuple (cutD ds l u))):EvD X α (.Subscript a (.Slice lo hi none p) pos) Q:=fun F σ H R m k=>by
 refine⟨_,vS iJ zi pH pH,?_⟩
 refine h F σ H _ m fun x vx H1 q1 t1 k1 r1=>?_
 have m1:=m.kz k1 t1
 refine q1 F σ H1 _ m1 fun l H2 q2 t2 k2=>?_
 have m2:=m1.kz k2 t2
 refine q2 F σ H2 _ m2 fun u H3 q3 t3 k3=>?_
 have m3:=m2.kz k3 t3
 obtain⟨ds,rfl,hn,q⟩:=q3
 obtain⟨ad,xs,rfl,g1,g2⟩:=(r1.same ((k2.gz m1.tp).trans (k3.gz m2.tp))).tup_inv
 refine⟨ad,xs,rfl,SqT.of (zh g1).2,by rw[g2.length];exact hn,fun p hp=>?_⟩
 refine k _ _ _ q (t3.same (yf hp)) (((k1.trans k2).trans k3).trans (Kz.of_same (yf hp))) (.tup (xs:=vW xs l u) (zx (m3.fresh hp) zd) ((g2.cut l u).same (zk fun a o ha e=>⟨ha,by rw[zc (ze e hp)];exact e⟩)))
theorem kB (h:EvD X α a fun x=>EvD X α b fun y=>∃ds es,x=.tuple ds∧y=.tuple es∧ds≠[]∧ds.length+es.length≤1000∧Q (.tuple (ds++es))):EvD X α (.BinOp a .Add b pos) Q:=fun F σ H R m k=>by
 refine⟨_,zY kJ zi zi,?_⟩
 refine h F σ H _ m fun x vx H1 q1 t1 k1 r1=>?_
 have m1:=m.kz k1 t1
 refine q1 F σ H1 _ m1 fun y vy H2 q2 t2 k2 r2=>?_
 have m2:=m1.kz k2 t2
 obtain⟨ds,es,rfl,rfl,hn,hl,q⟩:=q2
 obtain⟨a1,xs,rfl,g1,g2⟩:=(r1.same (k2.gz m1.tp)).tup_inv
 obtain⟨b1,ys,rfl,g3,g4⟩:=r2.tup_inv
 refine⟨a1,b1,xs,ys,rfl,rfl,SqT.of (zh g1).2,SqT.of (zh g3).2,(fun z=>hn (by subst z;cases g2;rfl)),by rw[g2.length,g4.length];exact bN (yH hl),(fun z=>?_),fun z p hp=>?_⟩
 ·subst z
  cases g4
  rw[cO] at q
  exact k _ _ _ q t2 (k1.trans k2) (.tup g1 g2)
 ·exact k _ _ _ q (t2.same (yf hp)) ((k1.trans k2).trans (Kz.of_same (yf hp))) (.tup (xs:=xs++ys) (zx (m2.fresh hp) zd) ((g2.append g4).same (zk fun a o ha e=>⟨ha,by rw[zc (ze e hp)];exact e⟩)))
end
section
variable {X:Cx}{α:Ev}{p pos:Pos}{a b:Expr}{Q:PyData→Prop}
end
section
variable {X:Cx}{α:Ev}{a e:Expr}{pos p2 p3 p4:Pos}{n1:Nat}{te:TE}
end
section
variable {X:Cx}{pins:List (Addr×Obj)}{σ:St}{H:Hp}{s:Shared}
end
section
variable {X:Cx}{α:Ev}{p q pos:Pos}{a b:Expr}
end
section
variable {X:Cx}{α:Ev}{p pos:Pos}{a b:Expr}{Q:PyData→Prop}
end
open PySem.W SortA
section
variable {P:Program}{w:World}{K:PySem.W.Frag}{mg:Str→Option Value}{base:Heap}
end
section
variable {X:Cx}{α:Ev}{Q:PyData→Prop}{a b:Expr}{pos:Pos}
end
open PySem (IsZip)
section
variable {prog:Program}{w:World}{A:Around}{E:Value→Shared→Prop}{s:Shared}
abbrev z3 (n:Nat):List Addr:=[(n:Nat),(n+1:Nat),(n+2:Nat),(n+3:Nat),(n+4:Nat),(n+5:Nat)]
end
section
variable {X:Cx}{pins:List (Addr×Obj)}{σ:St}{H:Hp}{s:Shared}
end
section
variable {prog:Program}{w:World}{A:Around}{E:Value→Shared→Prop}{s:Shared}
end
section
variable {X:Cx}{pins:List (Addr×Obj)}{σ:St}{H:Hp}{s:Shared}
end
section
variable {X:Cx}{pins:List (Addr×Obj)}{σ:St}{H:Hp}{s:Shared}
variable {a b c:Expr}{p p0 pos pos2:Pos}
end
section
variable {X:Cx}{α:Ev}{a b c:Expr}{p p0 pos pos2:Pos}
end
section
variable {κ:Type}[DecidableEq κ]
def uw (kvs:List (κ×V))(k:κ):Option V:=(kvs.find? fun kv=>decide (kv.1=k)).map (·.2)
theorem vA {p:κ×V}{r:List (κ×V)}{k:κ}(e:p.1=k):uw (p::r) k=some p.2:=by simp[uw,bX,e]
theorem uj {p:κ×V}{r:List (κ×V)}{k:κ}(e:¬p.1=k):uw (p::r) k=uw r k:=by simp[uw,bX,e]
theorem KV.val {kvs:List (κ×V)}{vs:List (κ×Value)}(r:KV kvs vs)(k:κ):vn (uw kvs k) (valueAt vs k):=by
 unfold KV at r
 induction r with
 |nil=>exact True.intro
 |@cons p q ps qs h t ih=>
  obtain⟨h1,h2⟩:=h
  by_cases e:p.1=k
  ·have e':q.1=k:=h1.symm.trans e
   have b:valueAt (q::qs) k=some q.2:=by simp[valueAt,bX,e']
   rw[vA e,b];exact h2
  ·have e':¬q.1=k:=fun z=>e (h1.trans z)
   have b:valueAt (q::qs) k=valueAt qs k:=by simp[valueAt,bX,e']
   rw[uj e,b];exact ih
end
theorem jR {P:Program}{w:World}{k:Key}{u:Value}(r:RelV (kV k) u):(yp P w).is k u=true:=by
 cases k with
 |inl i=>obtain⟨t,e⟩:=(show ∃t,u=Value.int i t from r);subst e;exact rm P w i t
 |inr x=>obtain⟨t,e⟩:=(show ∃t,u=Value.str x t from r);subst e;exact rD P w x t
theorem uF {P:Program}{w:World}:∀{ks:List Key} {us:List Value},Vals (ks.map kV) us→ItemsAre (yp P w) ks us
 |[],_,r=>by rw[List.map_nil] at r;cases r;exact .nil
 |k::ks,_,r=>by
  rw[bV] at r
  cases r with
  |cons h t=>exact .cons (jR h) (uF t)
abbrev KT (H:Hp):List (List Key×V)→List (List Key×Addr×Value)→Prop:=Paired fun p q=>p.1=q.1∧H q.2.1=some (.tup (p.1.map kV))∧RelV p.2 q.2.2
theorem KT.val {H:Hp}{kvs:List (List Key×V)}{xs:List (List Key×Addr×Value)}(r:KT H kvs xs)(k:List Key):vn (uw kvs k) ((atKey xs k).map (·.2)):=by
 induction r with
 |nil=>exact True.intro
 |@cons p q ps qs h t ih=>
  obtain⟨h1,_,h2⟩:=h
  by_cases e:p.1=k
  ·have e':q.1=k:=h1.symm.trans e
   have b:atKey (q::qs) k=some q.2:=by simp[atKey,bX,e']
   rw[vA e,b];exact h2
  ·have e':¬q.1=k:=fun z=>e (h1.trans z)
   have b:atKey (q::qs) k=atKey qs k:=by simp[atKey,bX,e']
   rw[uj e,b];exact ih
section
variable {P:Program}{w:World}{H:Hp}{h:Heap}{a:Addr}
theorem ic {u:HO}(ok:HOk P w H h)(e:Rd H a u):zZ P w H h a u:=e.ok ok
theorem ik {kvs:List (Key×V)}(ok:HOk P w H h)(e:Rd H a (.dK kvs)):kvs.length≤sizeLine∧(a == sysModules)=false∧∃vs,KV kvs vs∧h.DictOf (yp P w) a vs:=
 show zZ P w H h a (.dK kvs) from ic ok e
theorem mO {ks:List Key}(ok:HOk P w H h)(e:H a=some (.tup (ks.map kV))):(tupleKind (yp P w)).is h ks a:=by
 obtain⟨_,its,r,o,h1,h2,n,h3⟩:=(show zZ P w H h a (.tup (ks.map kV)) from ok a _ e)
 exact⟨o,its.toArray,n,h1,h2,h3,by simpa using uF r⟩
theorem jY {kvs:List (List Key×V)}(ok:HOk P w H h)(e:Rd H a (.dT kvs)):kvs.length≤sizeLine∧(a == sysModules)=false∧
  ∃xs,KT H kvs xs∧h.DictOfH (tupleKind (yp P w)) a xs:=by
 obtain⟨z,y,xs,r,o,es,ep,h1,h2,h3,h4,h5⟩:=(show zZ P w H h a (.dT kvs) from ic ok e)
 refine⟨z,y,xs,r,o,es,ep,h1,h2,h3,h4,fun x hx=>?_,h5⟩
 have all:∀{l:List (List Key×V)} {m:List (List Key×Addr×Value)},KT H l m→∀x∈m,(tupleKind (yp P w)).is h x.1 x.2.1:=by
  intro l m q
  induction q with
  |nil=>intro x hx;exact nomatch hx
  |@cons p q ps qs hq t ih=>
   intro x hx
   rcases cm.mp hx with e|hx
   ·subst e
    exact mO ok (by rw[←hq.1];exact hq.2.1)
   ·exact ih x hx
 exact all r x hx
end
def hV (H:Hp)(a:Addr)(y:V)(r:Option V):Prop:=
 (∃kvs k,Rd H a (.dK kvs)∧y=kV k∧r=uw kvs k)∨∃kvs k b,Rd H a (.dT kvs)∧y=.ref b∧H b=some (.tup (k.map kV))∧r=uw kvs k
section
variable {X:Cx}{pins:List (Addr×Obj)}{σ:St}{H:Hp}{s:Shared}{a:Addr}{y v:V}{u r:Value}{o:Option V}{A:Around}{E:Value→Shared→Prop}
theorem nH {Q:Value→Shared→Prop}(hu:A.units+1<cLine)(I:Inv X pins σ H s)(g:hV H a y (some v))(ry:RelV y u)(h:∀w' s',Inv X pins σ H s'→RelV v w'→Q w' s'):
  wpAny (model X.prog X.w) A (getItem (.ref a) u) Q E s:=by
 rcases g with ⟨kvs,k,e,ey,l⟩|⟨kvs,k,b,e,ey,eb,l⟩
 ·subst ey
  obtain⟨z,hd,vs,rel,dd⟩:=ik I.hok e
  obtain⟨w',hw,rw'⟩:=vn.some_of (v:=v) (o:=valueAt vs k) (by rw[l];exact rel.val k)
  exact wpAny_getItem_of (jR ry) dd.mapOf hw (h w' _ (I.tok _) rw')
 ·subst ey
  cases (show u=Value.ref b from ry)
  obtain⟨z,hd,xs,rel,dd⟩:=jY I.hok e
  obtain⟨w',hw,rw'⟩:=vn.some_of (v:=v) (o:=(atKey xs k).map (·.2)) (by rw[l];exact rel.val k)
  obtain⟨p,hp,hp2⟩:=cV.mp hw
  refine wpAny_getItem_heap (tupleKind_room_in1 hu) (mO I.hok eb) dd hp ?_
  rw[hp2]
  exact h w' _ (I.tok _) rw'
end
section
variable {X:Cx}{pins:List (Addr×Obj)}{σ:St}{H:Hp}{s:Shared}{a:Addr}{kvs:List (Key×V)}{k:Key}{u:Value}{A:Around}{E:Value→Shared→Prop}
end
theorem sT {X:Cx}{pins:List (Addr×Obj)}{σ:St}{H:Hp}{s:Shared}{a:Addr}{y:V}{o:Option V}(I:Inv X pins σ H s)(g:hV H a y o):s.TypeIs (.ref a) "dict":=by
 rcases g with ⟨kvs,k,e,_,_⟩|⟨kvs,k,b,e,_,_,_⟩
 ·obtain⟨_,_,vs,_,dd⟩:=ik I.hok e
  exact dd.typeIs
 ·obtain⟨_,_,xs,_,dd⟩:=jY I.hok e
  exact dd.typeIs
section
variable {X:Cx}{o i e value:Expr}{pos pos' tpos:Pos}{td ty tv:TE}
end
section
variable {X:Cx}{pos:Pos}
end
section
variable {X:Cx}{pins:List (Addr×Obj)}{σ:St}{H:Hp}{s:Shared}{a:Addr}{y d:V}{u r:Value}{o:Option V}{A:Around}{E:Value→Shared→Prop}
end
section
variable {X:Cx}{o e f:Expr}{apos cpos:Pos}{td ty tx:TE}
end
section
variable {X:Cx}{pins:List (Addr×Obj)}{σ:St}{H:Hp}{s:Shared}{a:Addr}{kvs:List (Key×V)}{A:Around}{E:Value→Shared→Prop}
end
section
variable {X:Cx}{pins:List (Addr×Obj)}{σ:St}{H:Hp}{s:Shared}{a:Addr}{y:V}{u:Value}{A:Around}{E:Value→Shared→Prop}
end
def kEq :PyData→Key→Bool
 |.int i,.inl j=>decide (i=j)
 |.str x,.inr y=>decide (x=y)
 |_,_=>false
theorem lX (k j:Key):kEq (nI k) j=decide (k=j):=by
 cases k<;>cases j<;>simp[kEq,nI]
def jE :List (PyData×PyData)→Key→Option PyData
 |[],_=>none
 |(p,d)::r,k=>if kEq p k=true then some d else jE r k
theorem AVk.get {H:Hp}:∀{kvs:List (Key×V)} {ds:List (PyData×PyData)} {k:Key} {d:PyData},AVk H kvs ds→jE ds k=some d→∃v,uw kvs k=some v∧AV H v d
 |_,_,k,d,.nil,e=>by cases e
 |_,_,k,d,.cons (k:=j) h r,e=>by
  unfold jE at e
  rw[lX] at e
  by_cases z:j=k
  ·rw[bf z,if_pos rfl] at e
   cases e
   exact⟨_,vA z,h⟩
  ·rw[cY z,if_neg (by decide)] at e
   rw[uj z]
   exact AVk.get r e
theorem je {H:Hp}{v:V}{k:Key}(h:AV H v (nI k)):v=kV k:=by
 cases k with
 |inl i=>exact h.int_inv
 |inr x=>exact h.str_inv
theorem AV.dk_inv {H:Hp}{v:V}{ds:List (PyData×PyData)}(h:AV H v (jM ds)):∃a o kvs,v=.ref a∧H a=some (.frz o (.dK kvs))∧AVk H kvs ds:=by
 generalize e:jM ds=d at h
 cases h with
 |dk h1 h2=>cases e;exact⟨_,_,_,rfl,h1,h2⟩
 |_=>cases e
section
variable {X:Cx}{pins:List (Addr×Obj)}{σ:St}{H:Hp}{s:Shared}{l:Addr}{kvs:List (Key×V)}
end
section
variable {X:Cx}{e:Expr}{sts:List Stmt}
end
section
variable {X:Cx}{α:Ev}{e a b:Expr}{pos p:Pos}{Q:PyData→Prop}
end
section
variable {X:Cx}{α:Ev}{e a b:Expr}{pos p:Pos}{Q:PyData→Prop}
end
section
variable {X:Cx}{tg:Expr}
end
section
variable {X:Cx}{α:Ev}{e a b tg:Expr}{pos p:Pos}{Q:List PyData→Prop}
end
mutual
def ltD :PyData→PyData→Option Bool
 |.int a,.int b=>some (decide (a<b))
 |.str a,.str b=>some (decide (a.cps.toList<b.cps.toList))
 |.tuple xs,.tuple ys=>fV xs ys
 |_,_=>none
def fV :List PyData→List PyData→Option Bool
 |[],[]=>some false
 |[],_::_=>some true
 |_::_,[]=>some false
 |x::xs,y::ys=>if PyData.eqv x y=true then fV xs ys else ltD x y
end
section
open PySem.SeqAt
open PySem.AutoSeq1 (wpAny_loadPart')
open PySem.MeetsSeq PySem.MeetsSeq2 PySem.MeetsSeq3
end
section
variable {prog:Program}{w:World}{A:Around}{R:Result→Shared→Prop}{it:Addr}{fp wr:List Addr}{m:Nat}{P:Nat→Value→Prop}{St:Nat→Heap→Prop}
end
section
variable {prog:Program}{w:World}{A:Around}{E:Value→Shared→Prop}{s:Shared}
end
section
variable {X:Cx}{α:Ev}{e:Expr}{pos p:Pos}{Q:PyData→Prop}
end
section
variable {prog:Program}{w:World}{A:Around}{E:Value→Shared→Prop}{s:Shared}{it l:Addr}{items:Array Value}
end
section
variable {X:Cx}{α:Ev}{a e c:Expr}{p p0 pos pos2:Pos}{Q:List PyData→Prop}
end
def ud (Q:PyData→Prop):List PyData→Prop
 |[]=>True
 |d::r=>Q d∧ud Q r
theorem ud.mem {Q:PyData→Prop}:∀{ds:List PyData},ud Q ds→∀d∈ds,Q d
 |[],_,d,h=>by cases h
 |x::r,h,d,hd=>by
  rcases cm.mp hd with rfl|hd
  ·exact h.1
  ·exact ud.mem h.2 d hd
theorem kG {x:PyData}{ds:List PyData}{v:Int}{Q:PyData→Prop}(hx:xp x=some ds)(h0:0≤v)(h1:v<ds.length)(h:ud Q ds):∃ds i d,xp x=some ds∧PyData.int v=.int i∧atI ds i=some d∧Q d:=by
 obtain⟨d,hd,e⟩:=ia h0 h1
 exact⟨ds,v,d,hx,rfl,e,h.mem d hd⟩
theorem mG {x:PyData}{ds:List PyData}{v:Int}{Q:PyData→Prop}(P:PyData→Prop)(hx:xp x=some ds)(h0:0≤v)(h1:v<ds.length)(h:ud P ds)(k:∀d,P d→Q d):∃ds i d,xp x=some ds∧PyData.int v=.int i∧atI ds i=some d∧Q d:=by
 obtain⟨d,hd,e⟩:=ia h0 h1
 exact⟨ds,v,d,hx,rfl,e,k d (h.mem d hd)⟩
section
variable {X:Cx}{α:Ev}{e a b:Expr}{pos p:Pos}{E:yu}{rest:List Stmt}
end
def fU :R2:=fun x y H R=>rEq x y H R∨eD x y H R
def ej :R2:=fun x y H R=>rNe x y H R∨fG x y H R
theorem mW {X:Cx}(hu:X.A.units+64<cLine):OpR X (compareOp .Eq) fU:=fun pins s σ H x y v u Q I rx ry h=>h.elim (fun h=>wk _ _ _ _ _ _ _ _ _ I rx ry h) fun h=>xW hu _ _ _ _ _ _ _ _ _ I rx ry h
theorem iU {X:Cx}(hu:X.A.units+64<cLine):OpR X (compareOp .NotEq) ej:=fun pins s σ H x y v u Q I rx ry h=>h.elim (fun h=>eP _ _ _ _ _ _ _ _ _ I rx ry h) fun h=>ir hu _ _ _ _ _ _ _ _ _ I rx ry h
theorem kU {i j:Str}:Cmp rNe (.str i) (.str j) (!decide (i=j)):=fun p H vx vy R rx ry h=>by
 cases rx.str_inv;cases ry.str_inv
 refine⟨rfl,?_⟩
 rw[show decide (V.str i=V.str j)=decide (i=j) by simp]
 exact h
def oh (x y:PyData)(Q:Bool→Prop):Prop:=∃k,Cmp fU x y k∧Cmp ej x y (!k)∧Q k
theorem pX {i j:Str}{Q:Bool→Prop}(h:Q (decide (i=j))):oh (.str i) (.str j) Q:=⟨_,fun p H vx vy R rx ry z=>.inl (jl p H vx vy R rx ry z),fun p H vx vy R rx ry z=>.inl (kU p H vx vy R rx ry z),h⟩
theorem eqk {x y:PyData}{Q:Bool→Prop}(s1:SeqAt.shaped x=true)(s2:SeqAt.shaped y=true)(d1:x.hasDict=false)(d2:y.hasDict=false)(h:Q (PyData.eqv x y)):oh x y Q:=
 ⟨_,fun p H vx vy R rx ry z=>.inr ⟨x,y,(rx.dv d1).same yX,(ry.dv d2).same yX,s1,s2,z⟩,fun p H vx vy R rx ry z=>.inr ⟨x,y,(rx.dv d1).same yX,(ry.dv d2).same yX,s1,s2,z⟩,h⟩
section
variable {X:Cx}{α:Ev}{a b:Expr}{pos:Pos}{Q:PyData→Prop}{T:Bool→Prop}
theorem gp (hu:X.A.units+64<cLine)(h:EvD X α a fun x=>EvD X α b fun y=>oh x y fun k=>Q (.bool k)):EvD X α (.Compare a [.Eq] [b] pos) Q:=iA (mW hu) (zw _) (h.imp fun x h=>h.imp fun y ⟨k,e,_,q⟩=>⟨k,e,q⟩)
theorem gE (hu:X.A.units+64<cLine)(h:EvD X α a fun x=>EvD X α b fun y=>oh x y T):EvT X α (.Compare a [.Eq] [b] pos) T:=tY (mW hu) (zw _) (h.imp fun x h=>h.imp fun y ⟨k,e,_,q⟩=>⟨k,e,q⟩)
theorem qx (hu:X.A.units+64<cLine)(h:EvD X α a fun x=>EvD X α b fun y=>oh x y fun k=>T (!k)):EvT X α (.Compare a [.NotEq] [b] pos) T:=tY (iU hu) (zw _) (h.imp fun x h=>h.imp fun y ⟨k,_,e,q⟩=>⟨!k,e,q⟩)
theorem uK {k:Bool}{p q:Prop}(e:k=true)(h:p):if k=true then p else q:=by rw[if_pos e];exact h
theorem xh {k:Bool}{p q:Prop}(e:k=false)(h:q):if k=true then p else q:=by rw[if_neg (by rw[e];decide)];exact h
variable {E:yu}{s t:List Stmt}
theorem wD {k:Bool}(e:k=true)(h:SvS X α s E):SvS X α (if k=true then s else t) E:=by rw[if_pos e];exact h
theorem yy {k:Bool}(e:k=false)(h:SvS X α t E):SvS X α (if k=true then s else t) E:=by rw[if_neg (by rw[e];decide)];exact h
end
section
variable {X:Cx}{α:Ev}{a b:Expr}{pos:Pos}{Q:PyData→Prop}{T:Bool→Prop}
def eH :R2:=fun x y H Q=>∃a v,x=.ref a∧hV H a y (some v)∧Q v H
theorem jw (hu:X.A.units+1<cLine):IxR X eH:=fun value slice pins s σ H x y v u Q I rx ry h hs=>by
 obtain⟨a,z,rfl,g,q⟩:=h
 cases rx
 exact tail_any (sT I g) PySem.F.slot_dict_getitem.lookup (nH hu I g ry fun w' s' I' r'=>⟨z,H,I',r',q⟩) hs
def oK (x y:PyData)(Q:PyData→Prop):Prop:=(∃ds i d,xp x=some ds∧y=.int i∧atI ds i=some d∧Q d)∨∃ds k d,x=jM ds∧y=nI k∧jE ds k=some d∧Q d
theorem ixk {x y:PyData}{ds:List PyData}{i:Int}{d:PyData}(h1:xp x=some ds)(h2:y=.int i)(h3:atI ds i=some d)(h:Q d):oK x y Q:=.inl ⟨ds,i,d,h1,h2,h3,h⟩
theorem jV {d:PyData}{r:List PyData}(h:Q d):oK (.tuple (d::r)) (.int 0) Q:=ixk rfl rfl (wA (j:=0) rfl) h
theorem tX {x:PyData}{ds:List PyData}{v:Int}(hx:xp x=some ds)(h0:0≤v)(h1:v<ds.length)(h:ud Q ds):oK x (.int v) Q:=.inl (kG hx h0 h1 h)
theorem vM {x:PyData}{ds:List PyData}{v:Int}(P:PyData→Prop)(hx:xp x=some ds)(h0:0≤v)(h1:v<ds.length)(h:ud P ds)(k:∀d,P d→Q d):oK x (.int v) Q:=.inl (mG P hx h0 h1 h k)
theorem xu (hu:X.A.units+1<cLine)(hs:pC b)(h:EvD X α a fun x=>EvD X α b fun y=>oK x y Q):EvD X α (.Subscript a b pos) Q:=by
 refine qL (f:=tOp (fun x y H Q=>rIx X.K x y H Q∨eH x y H Q)) (zG (gr.or (jw hu)) zi zi hs) (fun _ _ _=>Iff.rfl) (h.imp fun x h=>h.imp fun y h=>?_)
 intro F σ H vx vy R m rx ry k
 rcases h with ⟨ds,i,d,e1,rfl,hat,hq⟩|⟨ds,kk,d,rfl,rfl,hv,hq⟩
 ·cases ry.int_inv
  cases x with
  |list ds'=>
   cases e1
   obtain⟨a,xs,rfl,h1,h2⟩:=rx.lst_inv
   obtain⟨v,hv,av⟩:=h2.atI hat
   exact .inl (.inl ⟨a,xs,i,v,rfl,rfl,SqL.of (zh h1).2,hv,k d v H hq m.tp Kz.refl av⟩)
  |tuple ds'=>
   cases e1
   obtain⟨a,xs,rfl,h1,h2⟩:=rx.tup_inv
   obtain⟨v,hv,av⟩:=h2.atI hat
   exact .inl (.inr (.inl ⟨a,xs,i,v,rfl,rfl,SqT.of (zh h1).2,hv,k d v H hq m.tp Kz.refl av⟩))
  |_=>cases e1
 ·obtain⟨a,o,kvs,rfl,g1,g2⟩:=rx.dk_inv
  obtain⟨v,w1,w2⟩:=g2.get hv
  cases je ry
  exact .inr ⟨a,v,rfl,.inl ⟨kvs,kk,.inr ⟨o,(zh g1).2⟩,rfl,w1.symm⟩,k d v H hq m.tp Kz.refl w2⟩
end
theorem zI.one {k:Nat}{A:Around}(h:zI k A):A.units+1<cLine:=by have:=h.units;omega
section
variable {X:Cx}{α:Ev}{E:yu}{rest body:List Stmt}{e c tg iter:Expr}{pos p:Pos}
theorem jA (pat:Pat)(h:EvI X α tg iter fun ds=>vb X pat body rest E ds α)(hN:X.N.Nodup:=by assumption)(hp:PassesOwn (model X.prog X.w) X.A X.env X.xe:=by exact PassesOwn.never)(hc:X.calm=true:=by rfl)
  (hg:PG X tg (rl X.K pat):=by first|exact zX (by assumption) rfl (Or.inl rfl)|exact zX (by assumption) rfl (Or.inr rfl)|exact yZ rfl rfl (by repeat (first|exact wa|refine yq (by first|exact zX (by assumption) rfl (Or.inl rfl)|exact zX (by assumption) rfl (Or.inr rfl)) ?_)))
  (hs:∀x,foldedSetIterable iter X.env x=pure x:=by intro _;rfl):SvS X α (.For tg iter body [] pos::rest) E:=sg hp hc hg h hs
def freeOk (xs:Scope)(y:Str×NameKind):Bool:=match y.2 with
 |.free=>match xs.names.lookup y.1 with
  |some .cell=>true
  |some .free=>true
  |_=>false
 |_=>true
theorem sM {xs scope:Scope}(h:scope.names.all (freeOk xs)=true):∀y∈scope.names,y.2=.free→xs.names.lookup y.1=some .cell∨xs.names.lookup y.1=some .free:=fun y hy e=>by
 have:=aj.mp h y hy
 unfold freeOk at this
 rw[e] at this
 cases z:xs.names.lookup y.1 with
 |none=>rw[z] at this;cases this
 |some k=>
  rw[z] at this
  cases k<;>first|exact .inl rfl|exact .inr rfl|cases this
theorem iB (N:List Str)(imp:List (Option Nat))(pat:Pat){scope:Scope}{elt:Expr}{ifs:List Expr}{Q:List PyData→Prop}(h:EvI X α tg iter fun ds=>ds.length≤1000∧yP (fun C s2 H2 fp=>X.comp N scope C s2 H2 fp) pat ifs elt (yr imp α) ds [] Q)
  (nd:N.Nodup:=by decide +kernel) (h1:scope.kind=.function:=by rfl) (h2:∀y∈scope.names,y.2≠.cell:=by decide +kernel) (h3:∀y∈scope.names,y.2=.local→scope.names.lookup y.1=some .local:=by decide +kernel) (h4:scope.names.all (freeOk X.env.scope)=true:=by rfl) (h5:imp.length=N.length:=by rfl)
  (h6:((imp.zip N).all fun p=>match p.1 with|none=>true|some j=>X.N[j]? == some p.2&&scope.names.lookup p.2 == some .free)=true:=by rfl) (hfree:pat.free (yr imp α)=true:=by rfl)
  (hg:∀C s2 H2 fp,N.Nodup→PG (X.comp N scope C s2 H2 fp) tg (rl X.K pat):=by intro _ _ _ _ hnd;first|exact zX hnd rfl (Or.inl rfl)|exact yZ rfl rfl (by repeat (first|exact wa|refine yq (zX hnd rfl (Or.inl rfl)) ?_)))
  (hc:X.calm=true:=by rfl) (hs:∀x,foldedSetIterable iter X.env x=pure x:=by intro _;rfl):EvL X α (.ListComp elt [⟨tg,iter,ifs,0⟩] scope pos) Q:=fg hc ⟨h1,nd,h2,h3,sM h4,h5,h6⟩ hfree (fun C s2 H2 fp=>hg C s2 H2 fp nd) h hs
theorem gQ (i:Nat)(N:List Str)(imp:List (Option Nat))(pat:Pat){x:Str}{pos' cpos:Pos}{scope:Scope}{elt:Expr}{ifs:List Expr}(h:EvI X α tg iter fun ds=>ds.length≤1000∧yP (fun C s2 H2 fp=>X.comp N scope C s2 H2 fp) pat ifs elt (yr imp α) ds [] fun ds=>SvS X (α.set i (some (.own ds))) rest E)
  (hN:X.N.Nodup:=by assumption)
  (nd:N.Nodup:=by decide +kernel) (h1:scope.kind=.function:=by rfl) (h2:∀y∈scope.names,y.2≠.cell:=by decide +kernel) (h3:∀y∈scope.names,y.2=.local→scope.names.lookup y.1=some .local:=by decide +kernel) (h4:scope.names.all (freeOk X.env.scope)=true:=by rfl) (h5:imp.length=N.length:=by rfl)
  (h6:((imp.zip N).all fun p=>match p.1 with|none=>true|some j=>X.N[j]? == some p.2&&scope.names.lookup p.2 == some .free)=true:=by rfl) (hfree:pat.free (yr imp α)=true:=by rfl)
  (hg:∀C s2 H2 fp,N.Nodup→PG (X.comp N scope C s2 H2 fp) tg (rl X.K pat):=by intro _ _ _ _ hnd;first|exact zX hnd rfl (Or.inl rfl)|exact yZ rfl rfl (by repeat (first|exact wa|refine yq (zX hnd rfl (Or.inl rfl)) ?_)))
  (hc:X.calm=true:=by rfl)
  (hi:X.N[i]?=some x:=by rfl) (hx:Loc X.env.scope x:=by first|exact Or.inl rfl|exact Or.inr rfl) (hsw:swapsWith (.ListComp elt [⟨tg,iter,ifs,0⟩] scope cpos) (some (.Name x pos')) pos.line X.env=pure true:=by rfl)
  (hf:X.fn x=true∨X.env.scope.names.lookup x=some .local:=by first|exact .inl rfl|exact .inr rfl|assumption) (hs:∀x,foldedSetIterable iter X.env x=pure x:=by intro _;rfl):
  SvS X α (.Assign [.Name x pos'] (.ListComp elt [⟨tg,iter,ifs,0⟩] scope cpos) pos::rest) E:=fx i hN hc ⟨h1,nd,h2,h3,sM h4,h5,h6⟩ hfree (fun C s2 H2 fp=>hg C s2 H2 fp nd) h hi hx hsw hf hs
end
section
variable {Y:Addr→Shared→Hp→List Addr→Cx}{pat:Pat}{ifs:List Expr}{elt:Expr}{α0:Ev}{ι:Type}{g f:ι→PyData}{l:List ι}{acc:List PyData}{Q:List PyData→Prop}
theorem lA (p:ι→Bool)(f:ι→PyData)(hs:∀x∈l,∃α1,pat.bind (g x) α0=some α1∧(∀C s2 H2 fp (Q:Bool→Prop),Q (p x)→mH (Y C s2 H2 fp) α1 ifs Q)∧(p x=true→∀C s2 H2 fp (Q:PyData→Prop),Q (f x)→EvD (Y C s2 H2 fp) α1 elt Q))
  (hd:Q (acc++(l.filter p).map f)):yP Y pat ifs elt α0 (l.map g) acc Q:=by
 induction l generalizing acc with
 |nil=>
  show Q acc
  simpa using hd
 |cons d ds ih=>
  obtain⟨α1,e,h1,h2⟩:=hs d cv
  refine⟨α1,e,fun C s2 H2 fp=>h1 C s2 H2 fp _ ?_⟩
  have ih':=fun acc=>ih (acc:=acc) fun d hd=>hs d (dX _ hd)
  cases hp:p d with
  |true=>
   rw[if_pos rfl]
   refine fun C s2 H2 fp=>h2 hp C s2 H2 fp _ (ih' _ ?_)
   simpa[List.filter_cons,hp] using hd
  |false=>
   rw[if_neg (by decide)]
   refine ih' _ ?_
   simpa[List.filter_cons,hp] using hd
end
section
variable {co:Co}{N:Nat}
end
section
variable {co:Co}{N:Nat}
end
section
variable {X:Cx}{α:Ev}{a b e:Expr}{pos p:Pos}{Q:PyData→Prop}
end
section
variable {X:Cx}{α:Ev}{a b c e:Expr}{pos p:Pos}{Q:PyData→Prop}{T:Bool→Prop}
end
section
variable {X:Cx}{α:Ev}{a b c e:Expr}{pos p p2 pos2:Pos}{Q:PyData→Prop}{T:Bool→Prop}
end
section
variable {X:Cx}{α:Ev}{a b c d e:Expr}{pos p:Pos}{ta tb tc td:TE}{T:Bool→Prop}
end
section
variable {X:Cx}{α:Ev}{a b c d e:Expr}{pos p:Pos}{T:Bool→Prop}
end
abbrev fe (X:Cx)(P:Program)(w:World)(K:PySem.W.Frag)(mg:Str→Option Value)(base:Heap):Prop:=X.prog=P∧X.w=w∧X.K=K∧X.mg=mg∧X.base=base
section
variable {X:Cx}{α:Ev}{e o:Expr}{es:List Expr}{pos p apos:Pos}{Q:PyData→Prop}{k:Nat}{φ:List A→(A→Prop)→Prop}{x m:Str}{C:Addr}{pl:Sem Bool}{P:Program}{w:World}{K:PySem.W.Frag}{mg:Str→Option Value}{base:Heap}
theorem ku (D:Cal P w K mg base x k φ)(hX:fe X P w K mg base)(hr:zI k X.A)(hg:Gl X x)(h:EvA X α (e::es) fun as=>φ as fun a=>Q a.d)
  (hdb:(x == ("__debug__":Str))=false:=by decide) (he:starEach (e::es) X.env=(false,eval e X.env)::starEach es X.env:=by rfl) (hpl:(backTo pos (starEach es X.env)).any (·.1)=false:=by rfl):EvD X α (.Call (.Name x p) (e::es) [] pos) Q:=by
 obtain⟨rfl,rfl,rfl,rfl,rfl⟩:=hX
 exact xA D hr hg h hdb he hpl
end
section
variable {X:Cx}{α:Ev}{pos:Pos}{Q:PyData→Prop}
end
structure Moved (fs:List Addr)(e:Addr)(ts:List Addr)(h h':Heap):Prop where
 keep:∀b o,b≠e→b∉ts→b∉fs→h.get? b=some o→h'.get? b=some o
 slot:∀b o,b∈fs→h.get? b=some o→∃sl,h'.get? b=some {o with slots:=sl}
 exc:∀o vs,h.get? e=some o→o.data=.fields vs→∃o' vs',h'.get? e=some o'∧o'.cls=o.cls∧o'.dict=o.dict∧o'.data=.fields vs'
 there:∀b o,h.get? b=some o→∃o',h'.get? b=some o'
def Ent (h base:Heap)(e T:Addr)(fl:Value):Prop:=
 ∃oe vs oT tv,h.get? e=some oe∧oe.data=.fields vs∧vs[1]?=some (.ref T)∧T≠e∧base.get? T=none∧h.get? T=some oT∧oT.data=.fields tv∧tv[3]?=some fl
def Beg (h base:Heap)(e:Addr)(ts:List Addr):Prop:=
 (ts=[]∧∃oe vs,h.get? e=some oe∧oe.data=.fields vs∧vs[1]?=some .none)∨∃T,ts=[T]∧Ent h base e T .none
theorem vt {base h:Heap}{l:List Env}{b:Addr}(hl:h.FunFrames base l)(hb:b∈frs l):base.get? b=none∧∃o,h.get? b=some o∧∀vs,o.data≠.fields vs:=hl.mem hb
section
variable {M:Model}{A:Around}{E:Value→Shared→Prop}{s:Shared}
theorem we (o:Obj)(f:Array Value→Array Value):(o.mapFields f).cls=o.cls∧(o.mapFields f).dict=o.dict:=by
 obtain⟨c,d,dt,sl⟩:=o
 cases dt<;>exact⟨rfl,rfl⟩
theorem uJ {fs:List Addr}{e T:Addr}{h:Heap}{oT:Obj}{tv:Array Value}{f:Array Value→Array Value}(hT:h.get? T=some oT)(hd:oT.data=.fields tv)(hfs:∀b∈fs,b≠T):Moved fs e [T] h (h.update T (Obj.mapFields f)) where
 keep:=fun b o _ hb _ q=>by
  rw[cj _ _ (fun z=>hb (by rw[←z];exact bx.mpr rfl))]
  exact q
 slot:=fun b o hb q=>⟨o.slots,by rw[cj _ _ (aa (hfs b hb))];exact q⟩
 exc:=fun o vs q d=>by
  by_cases z:T=e
  ·subst z
   rw[hT] at q;cases q
   refine⟨_,_,cN _ hT (bB (bz hd _)),(we _ _).1,(we _ _).2,bz hd _⟩
  ·exact⟨o,vs,by rw[cj _ _ z];exact q,rfl,rfl,d⟩
 there:=fun b o q=>by
  by_cases z:T=b
  ·subst z
   exact⟨_,cN _ hT (bB (bz hd _))⟩
  ·exact⟨o,by rw[cj _ _ z];exact q⟩
theorem jn {base:Heap}{l:List Env}{e T:Addr}{fl:Value}{fo:Option Addr}{Q:Unit→Shared→Prop}(hl:s.heap.FunFrames base l)(hk:base.StaysIn s.heap)(x:Ent s.heap base e T fl)
  (h:∀h',Moved (frs l) e [T] s.heap h'→Ent h' base e T (fo.elim .none fun f=>rawInt f)→h'.FunFrames base l→base.StaysIn h'→h'.objs.size=s.heap.objs.size→Q () {s with heap:=h'}):wpAny M A (setFlight (.ref e) fo) Q E s:=by
 obtain⟨oe,vs,oT,tv,he,hd,h1,hne,hb,hT,hdT,h3⟩:=x
 have hsz:3<tv.size:=(bF.mp h3).1
 unfold setFlight
 refine dJ (bZ he hd h1 ?_)
 rw[if_pos (show (Value.ref T != Value.none)=true from by simp)]
 refine wpAny_setField hT hdT hsz (h _ (uJ hT hdT fun b hb' z=>?_) ?_ ?_ ?_ (by simp))
 ·obtain⟨_,o,ho,hn⟩:=vt hl hb'
  rw[z,hT] at ho;cases ho
  exact hn _ hdT
 ·exact⟨oe,vs,_,_,by rw[cj _ _ hne];exact he,hd,h1,hne,hb,cN _ hT (bB (bz hdT _)),bz hdT _,by simp[hsz]⟩
 ·refine hl.of_keeps fun b o hb' hn=>⟨o,?_,rfl⟩
  rw[cj _ _ (fun z=>by subst z;rw[hT] at hb';cases hb';exact hn _ hdT)]
  exact hb'
 ·intro b o q
  rw[cj _ _ (fun z=>by subst z;rw[hb] at q;cases q)]
  exact hk b o q
theorem mJ {base:Heap}{env:Env}{outer:List Env}{L e:Addr}{oe:Obj}{vs:Array Value}{head:Value}{hadNext:Bool}{Q:Unit→Shared→Prop}
  (hfr:A.frames=some (env::outer)) (hl:s.heap.FunFrames base (env::outer)) (hf:env.frame=some L) (he:s.heap.get? e=some oe) (hkb:base.StaysIn s.heap) (hen:base.get? e=none) (hd:oe.data=.fields vs) (hsz:1<vs.size)
  (h:∀h' T,Moved (frs (env::outer)) e [] s.heap h'→s.heap.objs.size≤T→Ent h' base e T (rawInt L)→h'.FunFrames base (env::outer)→base.StaysIn h'→Q () {s with heap:=h'}):
  wpAny M A (do let a ←frameOf env;let pl ←entryPlaceOf L hadNext;let b ←EntryCells.newEntry head a .none (rawInt L) .none pl;setField (.ref e) 1 b) Q E s:=by
 have hene:e∉frs (env::outer):=fun hm=>by
  obtain⟨_,o,ho,hnf⟩:=vt hl hm
  rw[he] at ho;injection ho with ho;subst ho;exact hnf vs hd
 refine dJ (wpAny_frameOf_fun hfr hl hf fun h₁ hs₁=>?_)
 refine dJ (wpAny_entryPlaceOf fun pl hpl=>?_)
 unfold EntryCells.newEntry newFields
 refine dJ (bG ?_ (hpl.sizeOk5 _ _ _ _ _))
 have he₁:h₁.get? e=some oe:=(hs₁.2.1 e hene).trans he
 have kb₁:base.StaysIn h₁:=fun b o hbo=>(hs₁.2.1 b fun hm=>by rw[(vt hl hm).1] at hbo;cases hbo).trans (hkb b o hbo)
 generalize hob:({cls:=.type "traceback",dict:=none,data:=.fields ([head,.ref L,.none,rawInt L,.none]++(if pl.isEmpty then List.replicate 6 Value.none else pl)).toArray}:Obj)=ob
 have obd:ob.data=.fields ([head,.ref L,.none,rawInt L,.none]++(if pl.isEmpty then List.replicate 6 Value.none else pl)).toArray:=by rw[←hob]
 have he₂:=dM (h:=h₁) ob he₁
 refine wpAny_setField he₂ hd hsz ?_
 have hTe:h₁.objs.size≠e:=ay (dR he₁)
 have hd₃:=bz hd (·.setIfInBounds 1 (Value.ref h₁.objs.size))
 have he₃:=cN (Obj.mapFields (·.setIfInBounds 1 (Value.ref h₁.objs.size))) he₂ (bB hd₃)
 have hT₃:((h₁.push ob).update e (Obj.mapFields (·.setIfInBounds 1 (Value.ref h₁.objs.size)))).get? h₁.objs.size=some ob:=
  (cj (h₁.push ob) (Obj.mapFields (·.setIfInBounds 1 (Value.ref h₁.objs.size))) (aa hTe)).trans (cK h₁ (bB obd))
 have keep:∀b o,b≠e→h₁.get? b=some o→((h₁.push ob).update e (Obj.mapFields (·.setIfInBounds 1 (Value.ref h₁.objs.size)))).get? b=some o:=fun b o hbe hb=>by
  rw[cj _ _ (aa hbe)]
  exact dM _ hb
 refine h _ h₁.objs.size ⟨fun b o hb _ hf q=>keep b o hb ((hs₁.2.1 b hf).trans q),fun b o hb q=>?_,fun o vs' q d=>?_,fun b o q=>?_⟩ (by rw[hs₁.1];exact dQ _) ⟨_,_,ob,_,he₃,hd₃,by simp[hsz],hTe,kb₁.fresh,hT₃,obd,by simp⟩ ?_ (fun b o q=>keep b o (fun z=>by rw[z,hen] at q;cases q) (kb₁ b o q))
 ·obtain⟨sl,hs⟩:=hs₁.2.2 b o q
  exact⟨sl,keep b _ (fun z=>hene (z▸hb)) hs⟩
 ·rw[he] at q;cases q
  exact⟨_,_,he₃,(we _ _).1,(we _ _).2,hd₃⟩
 ·by_cases z:b=e
  ·subst z;exact⟨_,he₃⟩
  ·obtain⟨sl,hs⟩:=hs₁.2.2 b o q
   exact⟨_,keep b _ z hs⟩
 ·refine hl.of_keeps fun b o hb hn=>?_
  obtain⟨sl,hs⟩:=hs₁.2.2 b o hb
  exact⟨_,keep b _ (fun z=>by subst z;rw[he] at hb;cases hb;exact hn _ hd) hs,rfl⟩
theorem fH {base:Heap}{env:Env}{outer:List Env}{L e:Addr}{ts:List Addr}{Q:Unit→Shared→Prop}
  (hfr:A.frames=some (env::outer)) (hl:s.heap.FunFrames base (env::outer)) (hf:env.frame=some L) (hkb:base.StaysIn s.heap) (hen:base.get? e=none) (x:Beg s.heap base e ts)
  (h:∀h' T,Moved (frs (env::outer)) e ts s.heap h'→s.heap.objs.size≤T→Ent h' base e T (rawInt L)→h'.FunFrames base (env::outer)→base.StaysIn h'→Q () {s with heap:=h'}):wpAny M A (noteFrame (.ref e) env) Q E s:=by
 rcases x with ⟨rfl,oe,vs,he,hd,h1⟩|⟨T,rfl,oe,vs,oT,tv,he,hd,h1,hne,hb,hT,hdT,h3⟩
 ·unfold noteFrame
  simp only[hf]
  refine dJ (bZ he hd h1 ?_)
  rw[if_neg (by decide)]
  exact mJ hfr hl hf he hkb hen hd (bF.mp h1).1 h
 ·unfold noteFrame
  simp only[hf]
  refine dJ (bZ he hd h1 ?_)
  rw[if_pos (show (Value.ref T != Value.none)=true from by simp)]
  refine dJ (bZ hT hdT h3 ?_)
  rw[if_neg (show ¬((Value.none == rawInt L)=true) from by simp[rawInt])]
  refine dJ (wpAny_setField hT hdT (bF.mp h3).1 ?_)
  have hfs:∀b∈frs (env::outer),b≠T:=fun b hb' z=>by
   obtain⟨_,o,ho,hn⟩:=vt hl hb'
   rw[z,hT] at ho;cases ho
   exact hn _ hdT
  have mv:Moved (frs (env::outer)) e [T] s.heap (s.heap.update T (Obj.mapFields (·.setIfInBounds 3 Value.none))):=uJ hT hdT hfs
  refine mJ (s:={s with heap:=s.heap.update T (Obj.mapFields (·.setIfInBounds 3 Value.none))}) hfr ?_ hf (show (s.heap.update T (Obj.mapFields (·.setIfInBounds 3 Value.none))).get? e=some oe by rw[cj _ _ hne];exact he) ?_ hen hd (bF.mp h1).1 fun h' T' m1 m2 m3 m4 m5=>?_
  ·refine hl.of_keeps fun b o hb' hn=>⟨o,?_,rfl⟩
   rw[cj _ _ (fun z=>by subst z;rw[hT] at hb';cases hb';exact hn _ hdT)]
   exact hb'
  ·intro b o q
   show (s.heap.update T _).get? b=some o
   rw[cj _ _ (fun z=>by subst z;rw[hb] at q;cases q)]
   exact hkb b o q
  ·refine h h' T' ⟨fun b o q1 q2 q3 q=>m1.keep b o q1 (by simp) q3 (mv.keep b o q1 q2 q3 q),fun b o q1 q=>?_,fun o vs' q d=>?_,fun b o q=>?_⟩ (by have m2:(s.heap.update T _).objs.size≤T':=m2;simpa using m2) m3 m4 m5
   ·obtain⟨sl,e1⟩:=mv.slot b o q1 q
    obtain⟨sl',e2⟩:=m1.slot b _ q1 e1
    exact⟨sl',e2⟩
   ·obtain⟨o1,vs1,e1,c1,d1,f1⟩:=mv.exc o vs' q d
    obtain⟨o2,vs2,e2,c2,d2,f2⟩:=m1.exc o1 vs1 e1 f1
    exact⟨o2,vs2,e2,c2.trans c1,d2.trans d1,f2⟩
   ·obtain⟨o1,e1⟩:=mv.there b o q
    exact m1.there b o1 e1
theorem lU {base:Heap}{env:Env}{L e T:Addr}{Q:Unit→Shared→Prop}(hf:env.frame=some L)(x:Ent s.heap base e T (rawInt L))(h:Q () s):wpAny M A (noteFrame (.ref e) env) Q E s:=by
 obtain⟨oe,vs,oT,tv,he,hd,h1,hne,hb,hT,hdT,h3⟩:=x
 exact wpAny_noteFrame_inFlight hf he hd h1 hT hdT h3 h
end
section
variable {P:Program}{w:World}{H H0:Hp}{h h' h0:Heap}{fs fs' ts:List Addr}{e:Addr}
theorem HOk.moved (x:HOk P w H h)(m:Moved fs e ts h h')(hfs:∀b∈fs,H b=none)(hts:∀b∈ts,H b=none)(he:∃C d,H e=some (xcO e C d)):HOk P w H h':=fun a o q=>by
 obtain⟨C,d,he⟩:=he
 by_cases z:a=e
 ·subst z
  rw[he] at q;cases q
  obtain⟨⟨o,vs,h1,h2,h3,h4⟩,_,st⟩:=x _ _ he
  obtain⟨o',vs',g1,g2,g3,g4⟩:=m.exc o vs h1 h4
  exact⟨⟨o',vs',g1,g2.trans h2,g3.trans h3,g4⟩,⟨o',g1⟩,st⟩
 ·have nf:∀{b:Addr} {u:HO},H b=some u→b∉fs:=fun {b u} hb q=>by rw[hfs b q] at hb;cases hb
  have nt:∀{b:Addr} {u:HO},H b=some u→b∉ts:=fun {b u} hb q=>by rw[hts b q] at hb;cases hb
  refine (x a o q).stay (fun b u hb e1=>?_) (fun _ q=>q) fun _ _ q=>q
  rcases hb with rfl|hb
  ·exact m.keep _ _ z (nt q) (nf q) e1
  ·refine m.keep _ _ (fun z=>?_) (nt hb) (nf hb) e1
   rw[z,he] at hb;cases hb
end
def CX1 (P:Program)(w:World)(base:Heap):CXT:=fun outer H s E e s'=>∃a T H',e=.ref a∧s'.os=s.os∧AllBare s'.gens∧Un (frs outer) [] H H' s.heap s'.heap∧HOk P w H' s'.heap∧(∃C d,H' a=some (xcO a C d))∧H' T=none∧s.heap.get? T=none∧Ent s'.heap base a T .none∧E (.ref a) none H'
inductive Fl (X:Cx)(H:Hp)(h:Heap)(a:Addr):Prop where
 |new {oe:Obj} {vs:Array Value}:h.get? a=some oe→oe.data=.fields vs→vs[1]?=some .none→Fl X H h a
 |old {T:Addr}:H T=none→X.s₀.heap.get? T=none→(∀p∈X.pn,p.1≠T)→Ent h X.base a T .none→Fl X H h a
 |here {T:Addr}:H T=none→X.s₀.heap.get? T=none→(∀p∈X.pn,p.1≠T)→Ent h X.base a T (rawInt X.env.locals)→Fl X H h a
def XE (X:Cx)(R:St→Addr→Hp→Prop):Value→Shared→Prop:=fun e s=>∃σ H a,e=.ref a∧Inv X [] σ H s∧(∃C d,H a=some (xcO a C d))∧Fl X H s.heap a∧R σ a H
section
variable {X:Cx}{pins:List (Addr×Obj)}{σ:St}{H H':Hp}{s s':Shared}{a:Addr}
theorem Inv.nopins (I:Inv X pins σ H s):Inv X [] σ H s:=I.pins_of fun p hp=>by cases hp
theorem Inv.basex (I:Inv X pins σ H s)(h:H a≠none):X.base.get? a=none:=by
 cases q:X.base.get? a with
 |none=>rfl
 |some o=>exact absurd (I.bs a o q).2 h
theorem Inv.moved {ts:List Addr}{h':Heap}(I:Inv X pins σ H s)(hst:X.stack=X.env::X.outer)(m:Moved (frs X.stack) a ts s.heap h')(ha:∃C d,H a=some (xcO a C d))(hts:∀T∈ts,H T=none∧X.s₀.heap.get? T=none∧(∀p∈X.pn++pins,p.1≠T)∧∃o vs,s.heap.get? T=some o∧o.data=.fields vs):Inv X pins σ H {s with heap:=h'}:=by
 have ha':H a≠none:=by obtain⟨C,d,z⟩:=ha;rw[z];simp
 have hf:X.env.frame=some X.env.locals:=by
  rcases I.ok.stk with z|⟨_,z⟩
  ·rw[hst] at z;exact absurd (congrArg List.length z) (by simp)
  ·exact z
 have mem:∀b∈frs X.stack,b=X.env.locals∨b∈X.fs:=fun b hb=>by
  rw[hst] at hb
  unfold frs at hb
  rw[List.filterMap_cons_some hf] at hb
  rcases cm.mp hb with z|z
  ·exact .inl z
  ·exact .inr z
 have dat:∀{b:Addr} {o:Obj},s.heap.get? b=some o→(∀vs,o.data≠.fields vs)→b∉ts:=fun {b o} q n z=>by
  obtain⟨_,_,_,o',vs,q',d⟩:=hts b z
  rw[q] at q';cases q'
  exact n vs d
 obtain⟨mm,hn,hl⟩:=id I.loc
 obtain⟨oL,es,ep,hoL,hdL,hrL⟩:=id hn
 have hLL:∃sl,h'.get? X.env.locals=some {oL with slots:=sl}:=m.slot _ _ (by rw[hst];unfold frs;rw[List.filterMap_cons_some hf];exact cv) hoL
 have hn':h'.Ns X.env.locals mm:=by obtain⟨sl,z⟩:=hLL;exact⟨_,es,ep,z,hdL,hrL⟩
 have cells:∀{x:Str} {c:Addr} {v:Option Value},X.env.cells.lookup x=some c→s.heap.IsCell c v→h'.IsCell c v:=fun {x c v} e ⟨oc,hoc,hd⟩=>by
  by_cases z:c∈frs X.stack
  ·obtain⟨sl,z'⟩:=m.slot c oc z hoc
   exact⟨_,z',hd⟩
  ·exact⟨oc,m.keep c oc (fun z=>ha' (z▸I.freeC x c e)) (dat hoc fun vs q=>by rw[hd] at q;cases q) z hoc,hd⟩
 have un:Un X.fs X.ex X.H₀ H X.s₀.heap h':=by
  have u:=I.base
  have ne:∀{b:Addr} {o:Obj},X.s₀.heap.get? b=some o→X.H₀ b=none→b∉X.ex→b≠a:=fun {b o} q n hx z=>ha' (z▸u.free b o q n hx)
  have nt:∀{b:Addr} {o:Obj},X.s₀.heap.get? b=some o→b∉ts:=fun {b o} q z=>by rw[(hts b z).2.1] at q;cases q
  have nl:∀{b:Addr} {o:Obj},X.s₀.heap.get? b=some o→b≠X.env.locals:=fun {b o} q=>cz (cu (dR q) I.ok.above)
  refine⟨fun b o q n hb hx=>m.keep b o (ne q n hx) (nt q) (fun z=>(mem b z).elim (nl q) hb) (u.keep b o q n hb hx),fun b o q n hb hx=>?_,u.free,fun b o q hx=>?_,u.tups,u.frzs,u.tbls⟩
  ·obtain⟨sl,e1⟩:=u.slot b o q n hb hx
   by_cases z:b∈frs X.stack
   ·obtain⟨sl',e2⟩:=m.slot b _ z e1
    exact⟨sl',e2⟩
   ·exact⟨sl,m.keep b _ (ne q n hx) (nt q) z e1⟩
  ·obtain⟨o',e1⟩:=u.there b o q hx
   exact m.there b o' e1
 refine⟨I.ok,I.os,I.bare,un,⟨mm,hn',fun i x v e1 e2 e3=>?_⟩,fun x c e=>?_,I.free,I.freeC,fun p hp=>?_,I.hok.moved m I.stkFree (fun b hb=>(hts b hb).1) ha,I.len⟩
 ·obtain⟨u,r,q⟩:=hl i x v e1 e2 e3
  refine⟨u,r,?_⟩
  rcases q with q|⟨k,c,e,z⟩
  ·exact .inl q
  ·exact .inr ⟨k,c,e,cells e z⟩
 ·obtain⟨v,z⟩:=I.cell x c e
  exact⟨v,cells e z⟩
 ·obtain⟨e,n,ne,nf,d⟩:=I.pin p hp
  exact⟨m.keep _ _ (fun z=>ha' (z▸n)) (fun z=>(hts _ z).2.2.1 p hp rfl) (fun z=>(mem _ z).elim ne nf) e,n,ne,nf,d⟩
theorem Fl.beg (f:Fl X H s.heap a):(∃ts,Beg s.heap X.base a ts∧∀T∈ts,H T=none∧X.s₀.heap.get? T=none∧(∀p∈X.pn,p.1≠T)∧∃o vs,s.heap.get? T=some o∧o.data=.fields vs)∨∃T,H T=none∧X.s₀.heap.get? T=none∧(∀p∈X.pn,p.1≠T)∧Ent s.heap X.base a T (rawInt X.env.locals):=by
 cases f with
 |new h1 h2 h3=>exact .inl ⟨[],.inl ⟨rfl,_,_,h1,h2,h3⟩,fun T hT=>by cases hT⟩
 |@old T h1 h2 h3 h4=>
  refine .inl ⟨[T],.inr ⟨T,rfl,h4⟩,fun T' hT=>?_⟩
  rw[bx] at hT
  subst hT
  obtain⟨_,_,oT,tv,_,_,_,_,_,hT,hdT,_⟩:=h4
  exact⟨h1,h2,h3,oT,tv,hT,hdT⟩
 |@here T h1 h2 h3 h4=>exact .inr ⟨T,h1,h2,h3,h4⟩
theorem Inv.stkf (I:Inv X pins σ H s)(hst:X.stack=X.env::X.outer):X.env.frame=some X.env.locals:=by
 rcases I.ok.stk with z|⟨_,z⟩
 ·rw[hst] at z;exact absurd (congrArg List.length z) (by simp)
 ·exact z
theorem Inv.stays (I:Inv X pins σ H s):X.base.StaysIn s.heap:=I.bk
theorem Inv.note {M:Model}{Q:Unit→Shared→Prop}{E:Value→Shared→Prop}(I:Inv X [] σ H s)(hst:X.stack=X.env::X.outer)(ha:∃C d,H a=some (xcO a C d))(f:Fl X H s.heap a)
  (h:∀h' T,Inv X [] σ H {s with heap:=h'}→H T=none→X.s₀.heap.get? T=none→(∀p∈X.pn,p.1≠T)→Ent h' X.base a T (rawInt X.env.locals)→Q () {s with heap:=h'}):wpAny M X.A (noteFrame (.ref a) X.env) Q E s:=by
 have ha':H a≠none:=by obtain⟨C,d,z⟩:=ha;rw[z];simp
 have hf:=I.stkf hst
 rcases f.beg with ⟨ts,bg,ht⟩|⟨T,h1,h2,h3,h4⟩
 ·refine fH (by rw[←hst];exact I.ok.frames) (by rw[←hst];exact I.stack) hf I.stays (I.basex ha') bg fun h' T m1 m2 m3 _ _=>?_
  have I':Inv X [] σ H {s with heap:=h'}:=I.moved hst (by rw[hst];exact m1) ha fun T hT=>by
   obtain⟨q1,q2,q3,q4⟩:=ht T hT
   exact⟨q1,q2,fun p hp=>q3 p (by simpa using hp),q4⟩
  refine h h' T I' (I.hok.fresh m2) (Heap.get?_none_of_le (cM I.sz m2)) (fun p hp z=>?_) m3
  have:=dR (I.pin p (by simpa using hp)).1
  rw[z] at this
  exact absurd this (Nat.not_lt.mpr m2)
 ·exact lU hf h4 (by have:=h s.heap T I h1 h2 h3 h4;exact this)
theorem Inv.flight {M:Model}{Q:Unit→Shared→Prop}{E:Value→Shared→Prop}{A:Around}{T:Addr}{fl:Value}{fo:Option Addr}(I:Inv X pins σ H s)(hst:X.stack=X.env::X.outer)(ha:∃C d,H a=some (xcO a C d))(h1:H T=none)(h2:X.s₀.heap.get? T=none)(h3:∀p∈X.pn++pins,p.1≠T)(x:Ent s.heap X.base a T fl)
  (h:∀h',Inv X pins σ H {s with heap:=h'}→Ent h' X.base a T (fo.elim .none fun f=>rawInt f)→Q () {s with heap:=h'}):wpAny M A (setFlight (.ref a) fo) Q E s:=by
 refine jn (l:=X.stack) I.stack I.stays x fun h' m1 m2 _ _ _=>h h' (I.moved hst m1 ha fun T' hT=>?_) m2
 rw[bx] at hT
 subst hT
 obtain⟨_,_,oT,tv,_,_,_,_,_,hT,hdT,_⟩:=x
 exact⟨h1,h2,h3,oT,tv,hT,hdT⟩
theorem il {R:St→Addr→Hp→Prop}(hst:X.stack=X.env::X.outer):PassesOwn (model X.prog X.w) X.A X.env (XE X R):=by
 rintro e s ⟨σ,H,a,rfl,I,ha,f,r⟩
 refine I.note hst ha f fun h' T I' h1 h2 h3 h4=>?_
 obtain⟨oe,vs,oT,tv,he,hd,hv,_⟩:=id h4
 show wpAny _ _ _ _ _ _
 refine dJ (bZ he hd hv ?_)
 rw[if_neg (by simp)]
 rw[I.stkf hst]
 refine I'.flight hst ha h1 h2 (by simpa using h3) h4 fun h'' I'' e''=>?_
 exact⟨σ,H,a,rfl,I'',ha,.here h1 h2 h3 e'',r⟩
theorem pD {R:St→Addr→Hp→Prop}{E:XK}{e:Value}(hex:X.ex=[])(I:Inv X pins σ H s)(h:CX1 X.prog X.w X.base X.stack H s E e s')(hE:∀a H',E (.ref a) none H'→R σ a H'):XE X R e s':=by
 obtain⟨a,T,H',rfl,ho,hg,u,hok,ha,h1,h2,h3,hE'⟩:=h
 have I':Inv X pins σ H' s':=I.call' (ch:=[]) ho u hok hg fun b hb=>by cases hb
 refine⟨σ,H',a,rfl,I'.nopins,ha,.old h1 ?_ (fun p hp z=>?_) h3,hE a H' hE'⟩
 ·cases q:X.s₀.heap.get? T with
  |none=>rfl
  |some o=>
   exfalso
   obtain⟨o',e1⟩:=I.base.there T o q (by rw[hex];simp)
   rw[h2] at e1;cases e1
 ·have:=(I.pin p (aF _ hp)).1
  rw[z,h2] at this;cases this
end
section
variable {X:Cx}{E':Value→Shared→Prop}
theorem PSs.wishx {st:List Stmt}{t:TS}(h:PSs (X.wish E') st t)(k:∀e s,E' e s→X.xe e s):PSs X st t:=fun pins s σ H D I hw=>
 cE (h pins s σ H D (I.wish _) hw) (fun _ _ q=>q.unwish) fun e s z=>k e s z
end
section
variable {P:Program}{w:World}{K:PySem.W.Frag}{mg:Str→Option Value}{base:Heap}
theorem pA {N:List Str}{qual:Str}{scope:Scope}{f:Addr}{cd:Value}{A:Around}{outer:List Env}{s₀ s:Shared}{H₀:Hp}{E:XK}{e:Value}
  (h:XE (yF (CX1 P w base) P w K mg base N qual scope f cd A outer s₀ H₀ E) (fun _ a H=>E (.ref a) none H) e s):(yF (CX1 P w base) P w K mg base N qual scope f cd A outer s₀ H₀ E).xe e s:=by
 obtain⟨σ,H,a,rfl,I,ha,f',r⟩:=h
 show wpAny _ _ (leaving _ _) _ _ _
 unfold leaving
 refine dJ (I.note rfl ha f' fun h' T I' h1 h2 h3 h4=>?_)
 refine I'.flight (fo:=none) rfl ha h1 h2 (by simpa using h3) h4 fun h'' I'' e''=>?_
 exact⟨a,T,H,rfl,I''.os,I''.bare,I''.base,I''.hok,ha,h1,h2,e'',r⟩
theorem Fun.okX {x qual:Str}{st:Stmt}{f:Addr}{fd:FuncData}{N ps:List Str}{k:Nat}{sp:Sp}(F:Fun K x qual st f fd)(S:zl N ps (za st))(len:∀vs H Q E,sp vs H Q E→vs.length=ps.length)
  (hbody:∀(cdv:Value) (A:Around) (outer:List Env) (s:Shared) (H:Hp) (vs:List V) (Q:VK) (E:XK),zI k (A.deeper (envOfC qual (za st) s.heap.objs.size f cdv))→sp vs H Q E→
   ∃t,PSs ((yF (CX1 P w base) P w K mg base N qual (za st) f cdv A outer s H E).wish (XE (yF (CX1 P w base) P w K mg base N qual (za st) f cdv A outer s H E) fun _ a H=>E (.ref a) none H)) (zq st) t∧t {nx:=fun _ H'=>Q .non H',rt:=Q} (start N vs) H):zt P w K mg base (CX1 P w base) (k+1) f fd ps sp:=by
 obtain⟨oc,od,kV,doc,pm,an,cdv,ct,osl,rfl,lk,hcd⟩:=F.ex
 refine pS lk hcd S len fun A outer s H vs Q E hr hsp=>?_
 obtain⟨t,h,q⟩:=hbody cdv A outer s H vs Q E hr hsp
 exact⟨t,h.wishx fun e s z=>pA z,q⟩
end
section
variable {prog:Program}{w:World}{A:Around}{E:Value→Shared→Prop}{h:Heap}{g:Array GenState}{d:Drawn}{t:Nat}{os:OsState}
variable {nm q:Str}{C N:Addr}{bs bm bmB:List Value}{hdct:Bool}{sn:List Str}{sub:List Value}{ab:Bool}{col:Option Bool}{dd:Option Addr}{k0 k1 k2 k3 k5:Option Value}{B Bn newId nid initId inN:String}{bmN:List Value}
abbrev xI (C t:Addr)(d:Option Addr):Obj:={cls:=.ref C,dict:=d,data:=.fields #[.ref t,.none,.none,.none,.bool false,.none]}
def yz (h:Heap)(C:Addr)(rest:List Value):Heap:=(h.push {cls:=.type "tuple",data:=.seq rest.toArray}).push (xI C h.objs.size none)
theorem qJ (Fn:ExcBaseFacts Bn newId inN bmN)(hBn:bmB.contains (.type Bn)=true)(F:ExcBaseFacts B nid initId bmB)(T:OwnTail h bmB bm){mN:Str→Option Value}{rest:List Value}{fI:Addr}{oI:Obj}{Q:Fin→Shared→Prop}
  (hC:h.get? C=some (excClassObj nm q C N bs bm hdct sn sub ab col dd k0 k1 k2 k3 k5 newId)) (hn:h.Ns N mN) (hi:mN "__init__"=some (.ref fI))
  (hfI:h.get? fI=some oI) (hfc:oI.cls=.type "function")
  (hq:wpAny (model prog w) A (call (.ref fI) (.ref (h.objs.size+1)::rest)) (fun r s'=>r=.none∧Q (.done (.ret (.ref (h.objs.size+1)))) s') E ⟨yz h C rest,g,d,t,os⟩) (hrest:rest.length≤sizeLine):
  wpAny (model prog w) A (Builtin.«type.__call__» ⟨.ref C::rest,[]⟩) Q E ⟨h,g,d,t,os⟩:=by
 repeat (first|with_reducible refine cW hC ?_|with_reducible refine wpAny_madeBy_exc hC ?_|wp_step)
 refine codeAny_call_builtin_code (az _ Fn.quiet) (wpAny_check_new_subU Fn hBn T hC ?_)
 refine codeAny_exc_new_subU Fn hBn F T hC ?_ hrest
 show wpAny _ _ _ _ _ ⟨yz h C rest,g,d,t,os⟩
 have keep:∀b o,h.get? b=some o→(yz h C rest).get? b=some o:=fun b o e=>dM _ (dM _ e)
 have hC₁:=keep _ _ hC
 have hfI₁:=keep _ _ hfI
 have hn₁:(yz h C rest).Ns N mN:=let ⟨o,es,ep,e,r⟩:=hn;⟨o,es,ep,keep _ _ e,r⟩
 have hget:(yz h C rest).get? (h.objs.size+1)=some (xI C h.objs.size none):=by unfold yz;heap_get
 have hcC:(Value.ref C::bm).contains (.ref C)=true:=by simp
 have T₁:=T.keeps keep
 unfold isInstance
 repeat (first|with_reducible refine cW hget ?_|(with_reducible refine wpAny_isSubtype_exc hC₁ ?_;rw[hcC])|wp_step)
 show wpAny _ _ (typeLookup (.ref C) _) _ _ _
 refine wpAny_typeLookup_tail hC₁ hn₁ T₁ F.mroIs F.init.lookup ?_
 rw[hi]
 refine bj (dJ ?_)
 unfold bindSpecial
 refine dJ (wpAny_typeOf (T:="function") ⟨_,hfI₁,hfc⟩ ?_)
 rw[if_pos (by decide)]
 refine dO (dJ (cE hq (fun r s' hr=>?_) fun _ _ x=>x))
 obtain⟨rfl,hQ⟩:=hr
 wp_walk
 exact hQ
theorem eK (Fn:ExcBaseFacts Bn newId inN bmN)(hBn:bmB.contains (.type Bn)=true)(F:ExcBaseFacts B nid initId bmB)(T:OwnTail h bmB bm){mN:Str→Option Value}{rest:List Value}{fI:Addr}{oI:Obj}{Q:Value→Shared→Prop}
  (hC:h.get? C=some (excClassObj nm q C N bs bm hdct sn sub ab col dd k0 k1 k2 k3 k5 newId)) (hn:h.Ns N mN) (hi:mN "__init__"=some (.ref fI))
  (hfI:h.get? fI=some oI) (hfc:oI.cls=.type "function")
  (hq:wpAny (model prog w) (A.under (.builtin "type.__call__" ⟨.ref C::rest,[]⟩)) (call (.ref fI) (.ref (h.objs.size+1)::rest)) (fun r s'=>r=.none∧Q (.ref (h.objs.size+1)) s') E ⟨yz h C rest,g,d,t,os⟩) (hrest:rest.length≤sizeLine):
  wpAny (model prog w) A (call (.ref C) rest) Q E ⟨h,g,d,t,os⟩:=by
 have f1:=tc_lookup
 have f2:=tc_bind (.ref C)
 have hT:(⟨h,g,d,t,os⟩:Shared).TypeIs (.ref C) "type":=⟨_,hC,rfl⟩
 refine bu (codeAny_of_tree ?_)
 show wpAny _ _ (callAny (.ref C) _) _ _ _
 repeat (any_goals (first|assumption|with_reducible refine cW hC ?_|wp_step))
 refine⟨rfl,?_⟩
 exact codeAny_call_builtin_at (az _ (by decide +kernel)) entry_typeCall (wpAny_check_type_call_sub hC (qJ Fn hBn F T hC hn hi hfI hfc hq hrest))
theorem iN {M:Model}{s:Shared}{env:Env}{x:Sem Value}{Q:Flow→Shared→Prop}(hbase:bm.contains (.type "BaseException")=true)(hh:A.handled=none)
  (h:wpAny M A x (fun v s₁=>∃e t d,v=.ref e∧s₁.heap.get? C=some (excClassObj nm q C N bs bm hdct sn sub ab col dd k0 k1 k2 k3 k5 newId)∧s₁.heap.get? e=some (xI C t d)∧E (.ref e) s₁) E s):
  wpAny M A (raiseStmt env (some x) none) Q E s:=by
 have hcB:(Value.ref C::bm).contains (.type "BaseException")=true:=by rw[List.contains_cons,hbase,Bool.or_true]
 unfold raiseStmt
 refine dJ (cE h (fun v s₁ h₁=>?_) fun _ _ x=>x)
 obtain⟨e,t,d,rfl,hC,he,hE⟩:=h₁
 obtain⟨hp,g,d,tk,os⟩:=s₁
 repeat (first|with_reducible refine cW he ?_|with_reducible refine cW hC ?_|(with_reducible refine wpAny_isSubtype_exc hC ?_;rw[hcB])|wp_step)
 exact wpAny_raiseNew_none hh hE
end
open Builtin Builtin.ObjectAttr
def bmV :List Value:=[.type "ValueError",.type "Exception",.type "BaseException",.type "object"]
def yB (K:Frag)(C S:Addr)(init:Option Value):Bool:=match K.lookup C with
 |some ⟨.type "type",_,.cls cd,sl⟩=>(match sl.toList with
  |[_,_,_,_,some (.builtin n),_]=>cd.mro == .ref C::.ref S::bmV&&n == "ValueError.__new__"&&!cd.hasDel&&cd.hasDict&&tailIn K bmV (.ref S::bmV)&&nsOkIn K cd.ns&&nsIn K cd.ns "__init__" == some init
  |_=>false)
 |_=>false
theorem km {K:Frag}{h:Heap}{N:Addr}{mg:Str→Option Value}{n:Str}{v:Option Value}(X:K.In h)(G:h.Ns N mg)(e:nsIn K N n=some v):mg n=v:=by
 cases v with
 |none=>exact ns_none_of X G e
 |some v=>
  obtain⟨o,es,ep,ho,hd,_,hf⟩:=G
  unfold nsIn at e
  split at e
  ·rename_i c d es' n' sl q
   have:=X _ _ q
   rw[ho] at this
   cases this
   cases hd
   split at e
   ·rename_i en he
    cases e
    rw[←hf]
    unfold nsFind findBy
    rw[←Array.find?_toList,he]
    rfl
   ·split at e<;>cases e
  ·cases e
theorem yk {K:Frag}{h:Heap}{C S:Addr}{init:Option Value}(X:K.In h)(q:yB K C S init=true):
  ∃nm qn N bs sn sub ab col dd k0 k1 k2 k3 k5 mN,h.get? C=some (excClassObj nm qn C N bs (.ref S::bmV) true sn sub ab col dd k0 k1 k2 k3 k5 "ValueError.__new__")∧h.Ns N mN∧mN "__init__"=init∧OwnTail h bmV (.ref S::bmV)∧∃cd,clsIn K C=some cd∧cd.hasDict=true∧cd.mro=.ref C::.ref S::bmV∧K.lookup C=some (excClassObj nm qn C N bs (.ref S::bmV) true sn sub ab col dd k0 k1 k2 k3 k5 "ValueError.__new__"):=by
 unfold yB at q
 split at q
 ·rename_i dd cd sl ho
  split at q
  ·rename_i k0 k1 k2 k3 n k5 hs
   simp only[cy,br,Bool.not_eq_true'] at q
   obtain⟨⟨⟨⟨⟨⟨hm,hn⟩,hdel⟩,hdd⟩,ht⟩,hok⟩,hni⟩:=q
   obtain⟨nm,bs,mro,ns,qn,hd,sn,sub,ab,col,del⟩:=cd
   dsimp only at hm hdel hok hni hdd
   subst hm hdel hn hdd
   have hsl:sl=#[k0,k1,k2,k3,some (.builtin "ValueError.__new__"),k5]:=by
    obtain⟨l⟩:=sl
    simp only at hs
    rw[hs]
   subst hsl
   have N:=Heap.Ns.of_isNs (isNs_of_in X hok)
   exact⟨nm,qn,ns,bs,sn,sub,ab,col,dd,k0,k1,k2,k3,k5,_,X _ _ ho,N,km X N hni,tail_of_in X ht,_,by unfold clsIn;rw[ho],rfl,rfl,ho⟩
  ·cases q
 ·cases q
section
variable {prog:Program}{w:World}{A:Around}{E:Value→Shared→Prop}{h:Heap}{g:Array GenState}{d:Drawn}{t:Nat}{os:OsState}{K:Frag}{C S e t0:Addr}{dx:Option Addr}{init:Option Value}
theorem qD {rest:List Value}{Q:Value→Shared→Prop}(X:K.In h)(q:yB K C S init=true)(he:h.get? e=some (xI C t0 dx))(hr:rest.length≤1000)
  (hq:∀h' t',(∀b o,b≠e→h.get? b=some o→h'.get? b=some o)→h'.get? e=some (xI C t' dx)→Q .none ⟨h',g,d,t,os⟩):wpAny (model prog w) A (call (.builtin "ValueError.__init__") (.ref e::rest)) Q E ⟨h,g,d,t,os⟩:=by
 obtain⟨nm,qn,N,bs,sn,sub,ab,col,dd,k0,k1,k2,k3,k5,mN,hC,hN,hi,T,_⟩:=yk X q
 have F:=cR
 have hz:rest.length≤sizeLine:=by rw[bq];omega
 refine bu (ak F.init.plain F.initEntry (wpAny_check_init_subU F T hC he rfl ?_))
 unfold Builtin.«BaseException.__init__»
 wp_walk
 refine hq _ h.objs.size (fun b o hb z=>?_) ?_
 ·rw[cj _ _ (aa hb)]
  exact dM _ z
 ·rw[cN _ (dM _ he) rfl]
  rfl
theorem pG {ox:Obj}(he:h.get? e=some ox)(hc:ox.cls=.ref C)(hd:∃vs,ox.data=.fields vs){od:Option Obj}(hdx:match ox.dict,od with
  |some dx,some o=>h.get? dx=some o
  |none,none=>True
  |_,_=>False):InstAt h e ox C od:=⟨he,hc,by obtain⟨vs,hd⟩:=hd;unfold notCls;rw[hd],hdx⟩
theorem eY {name:Str}{v:Value}{Q:Unit→Shared→Prop}(X:K.In h)(q:yB K C S init=true)(hs:findIn K (.ref C) "__setattr__"=some (some (.builtin "object.__setattr__")))(hn:findIn K (.ref C) name=some none)(he:h.get? e=some (xI C t0 none))
  (hq:∀h' dx tk',h.objs.size≤dx→(∀b o,b≠e→h.get? b=some o→h'.get? b=some o)→h'.get? e=some (xI C t0 (some dx))→h'.Ns1 dx (fun y=>if y=name then some v else none)→Q () ⟨h',g,d,tk',os⟩):wpAny (model prog w) A (setAttr (.ref e) name v) Q E ⟨h,g,d,t,os⟩:=by
 obtain⟨nm,qn,N,bs,sn,sub,ab,col,dd,k0,k1,k2,k3,k5,mN,hC,hN,hi,T,cd,hcd,hdict,hmro,_⟩:=yk X q
 have I:InstAt h e (xI C t0 none) C none:=pG he rfl ⟨_,rfl⟩ trivial
 refine set_plain (s:=⟨h,g,d,t,os⟩) X I hs ?_
 have SF:=PySem.F.store_object
 have sub:Looks (model prog w) h (isInstance (.ref e) (.type "object")) true:=I.type.andThen (looks_mroIn X (by unfold mroIn;rw[hcd,bQ,hmro]<;>rfl))
 refine ak SF.slot.plain SF.entry (@check_slot (model prog w) _ _ ⟨h,g,d,t+1,os⟩ "object.__setattr__" "object" "__setattr__" (.ref e) [.str name t,v] [] _ SF.kind SF.split sub (SF.args (.ref e) (.str name t) v) ?_)
 have hm:Looks (model prog w) h (mroOf (.ref C)) (.ref C::.ref S::bmV):=hmro▸(looks_clsIn X hcd).andThen .now
 rw[osa_eq,refuse_eq]
 refine dJ (dJ (I.type.at (dJ (hm.at ?_))))
 rw[refuseLoop_ref,refuseLoop_ref,show refuseLoop (.ref e) "__setattr__" bmV=pure () from PySem.F.store_ValueError.passes _]
 refine dO (dJ (I.type.at (dJ ((looks_findIn X hn).at (dJ (dO ?_))))))
 show wpAny _ _ (storeInOwnDict (.ref e) (.ref C) (.str name t) name v false) _ _ _
 refine dJ (dO (dJ (dJ (cW he (dJ ((looks_clsIn X hcd).at ?_))))))
 rw[hdict]
 have hx₁:(h.push {cls:=.type "dict",data:=.dict #[]}).get? e=some (xI C t0 none):=dM _ he
 have hxs:e≠h.objs.size:=cz (dR he)
 refine dJ (wpAny_alloc' ?_)
 refine dJ (wpAny_update' hx₁ ?_)
 refine dO ?_
 generalize hh1:((h.push {cls:=.type "dict",data:=.dict #[]}).update e fun o=>{cls:=o.cls,dict:=some h.objs.size,data:=o.data,slots:=o.slots})=h1
 have hgd:h1.get? h.objs.size=some {cls:=.type "dict",data:=.dict #[]}:=by
  rw[←hh1]
  exact (Heap.get?_update_ne _ _ _ _ hxs.symm).trans (Heap.get?_push_at rfl rfl)
 have hnd:h1.Ns h.objs.size (fun _=>none):=⟨_,#[],_,hgd,rfl,fun e he=>absurd he (by simp),fun _=>rfl⟩
 show wpAny _ _ (storeInDict h.objs.size (.str name t) name v) _ _ _
 unfold storeInDict newKeyGuard
 refine dJ (dO (dJ (wpAny_nsSet1 (Heap.Ns1.of_empty hnd) fun h' hn' hs=>?_)))
 obtain⟨oD,esD,epD,hoD,hdD,hcD⟩:=hn'.count (Within.cons name v Within.nil)
 refine dJ (wpAny_lookBehind hoD (by rw[hdD];exact pastItsLine_dict (cM hcD (by rw[cf,List.length_nil,bq];omega))) ?_)
 refine dO (hq h' h.objs.size _ (dQ _) (fun b o hb z=>?_) ?_ hn')
 ·refine (hs.2 b (cz (dR z))).trans ?_
  rw[←hh1]
  exact (Heap.get?_update_ne _ _ _ _ hb).trans (dM _ z)
 ·refine (hs.2 e hxs).trans ?_
  rw[←hh1]
  exact cN _ hx₁ rfl
end
structure XC (K:Frag)(C S:Addr)(init:Option Value):Prop where
 ok:yB K C S init=true
 sa:findIn K (.ref C) "__setattr__"=some (some (.builtin "object.__setattr__"))
 ga:findIn K (.ref C) "__getattribute__"=some (some (.builtin "BaseException.__getattribute__"))
 gt:findIn K (.ref C) "__getattr__"=some none
 cl:findIn K (.ref C) "__class__"=some (some (.builtin "object.__class__"))
 cg:specialIn K (.builtin "object.__class__") "__get__"=some (some (.builtin "getset_descriptor.__get__"))
 ct:takesIn K (.builtin "object.__class__")=some true
section
variable {prog:Program}{w:World}{A:Around}{E:Value→Shared→Prop}{h:Heap}{g:Array GenState}{d:Drawn}{t:Nat}{os:OsState}{K:Frag}{C S e t0:Addr}{init:Option Value}
theorem rk {name:Str}{tk:Tok}{fill expr:Bool}{ox:Obj}{od:Option Obj}{Q:Value→Shared→Prop}(X:K.In h)(c:XC K C S init)(I:InstAt h e ox C od)
  (hq:wpAny (model prog w) A.in1 (Builtin.«object.__getattribute__» ⟨[.ref e,.str name tk],[]⟩) (fun fin s'=>match fin with|.done (.ret v)=>wpAny (model prog w) A (handedOut v) Q E s'|_=>False) (fun _ _=>False) ⟨h,g,d,t,os⟩):
  wpAny (model prog w) A (getAttrBy (.ref e) (.str name tk) fill expr) Q E ⟨h,g,d,t,os⟩:=by
 obtain⟨nm,qn,N,bs,sn,sub,ab,col,dd,k0,k1,k2,k3,k5,mN,hC,hN,hi,T,cd,hcd,hdict,hmro,_⟩:=yk X c.ok
 have FA:=PySem.F.attr_ValueError
 unfold getAttrBy
 refine bj (dJ (I.type.at (dJ ((looks_findIn X c.ga).at ?_))))
 have hx2:(Value.builtin "BaseException.__getattribute__" == Value.builtin "object.__getattribute__")=false:=by decide +kernel
 dsimp only
 rw[hx2,aA,if_neg (by decide)]
 have hb:Looks (model prog w) h (hookBefore (.ref C)) none:=looks_hook X (by rw[if_pos (show onTheHeap (.ref C)=true from rfl)];exact c.gt)
 refine dJ (hb.at (dJ (wpAny_attempt (bj ?_))))
 unfold callGetattribute
 rw[show (expr&&onTheHeap (Value.builtin "BaseException.__getattribute__"))=false from aA _,if_neg (by decide)]
 unfold boundAndCalled
 rw[FA.ga.bind]
 refine dJ (dO ?_)
 have sub:Looks (model prog w) h (isInstance (.ref e) (.type "BaseException")) true:=I.type.andThen (looks_mroIn X (by unfold mroIn;rw[hcd,bQ,hmro]<;>rfl))
 show wpAny _ _ (call (.builtin "BaseException.__getattribute__") [.ref e,.str name tk]) _ _ _
 refine bu (ak FA.ga.plain PySem.F.entry_bexc_ga (@check_slot (model prog w) _ _ ⟨h,g,d,t,os⟩ "BaseException.__getattribute__" "BaseException" "__getattribute__" (.ref e) [.str name tk] [] _ (by decide +kernel) (by decide +kernel) sub (PySem.F.args_bexc_ga (.ref e) (.str name tk)) ?_))
 refine cE hq (fun fin s' z=>?_) fun _ _ z=>z.elim
 rcases fin with (_|_|_|_)|_<;>first|exact z|exact z.elim
theorem eo {name:Str}{v:Value}{expr:Bool}{ox od:Obj}{Q:Value→Shared→Prop}(X:K.In h)(c:XC K C S init)(I:InstAt h e ox C (some od))(hf:findObj K C (some od) name=some (.value v))(hh:handedIn v=true)(hq:Q v ⟨h,g,d,t+1,os⟩):
  wpAny (model prog w) A (getAttr (.ref e) name expr) Q E ⟨h,g,d,t,os⟩:=by
 unfold getAttr
 refine dJ (wpAny_mkText (rk X c I ?_))
 unfold Builtin.«object.__getattribute__»
 refine dJ (dO (dJ (dO (dJ (I.type.at (dJ ((looks_find X I hf).at ?_)))))))
 refine dO ?_
 show wpAny _ _ (handedOut v) _ _ _
 rw[handedOut_of hh]
 exact dO hq
theorem gu {ox:Obj}{od:Option Obj}{Q:Option Value→Shared→Prop}(X:K.In h)(c:XC K C S init)(I:InstAt h e ox C od)(hq:Q (some (.ref C)) ⟨h,g,d,t+1,os⟩):wpAny (model prog w) A (getAttr? (.ref e) "__class__") Q E ⟨h,g,d,t,os⟩:=by
 obtain⟨nm,qn,N,bs,sn,sub,ab,col,dd,k0,k1,k2,k3,k5,mN,hC,hN,hi,T,cd,hcd,hdict,hmro,_⟩:=yk X c.ok
 have hf:findObj K C od "__class__"=some (.bind (.builtin "getset_descriptor.__get__") (.builtin "object.__class__")):=by
  unfold findObj
  rw[hcd,bQ,c.cl,bQ]
  dsimp only
  rw[c.cg,bQ]
  dsimp only
  rw[c.ct]
  rfl
 unfold getAttr? getAttrBy?
 refine dJ (wpAny_mkText (dJ (wpAny_attempt (rk X c I ?_))))
 unfold Builtin.«object.__getattribute__»
 refine dJ (dO (dJ (dO (dJ (I.type.at (dJ ((looks_find X I hf).at ?_)))))))
 show wpAny _ _ (bindTo _ _ _ _) _ _ _
 have hm:mroIn K C (.type "object")=some true:=by unfold mroIn;rw[hcd,bQ,hmro]<;>rfl
 refine dJ (bj (bu (class_get (s:=⟨h,g,d,t+1,os⟩) (ox:=ox) (od:=od) X I hm ?_)))
 refine dO ?_
 exact handed_on rfl (dO hq)
theorem nS {ox:Obj}{od:Option Obj}(c:XC K C S init):KitX K (.ref e) (.ref C) (fun h=>InstAt h e ox C od) where
 ty:=fun _ _ _ I=>I.type
 it:=fun _ _ X _=>by
  obtain⟨nm,qn,N,bs,sn,sub,ab,col,dd,k0,k1,k2,k3,k5,mN,hC,_⟩:=yk X c.ok
  intro A' Q' E' s' k q
  unfold isType loadHead
  exact dJ (wpAny_loadPart (k _ _ hC) (dO q))
 ne:=fun h tp dd its n sl X htp=>by
  obtain⟨nm,qn,N,bs,sn,sub,ab,col,dd,k0,k1,k2,k3,k5,mN,hC,_⟩:=yk X c.ok
  refine cC.mpr fun q=>?_
  have e:C=tp:=Value.ref.inj (br.mp q)
  subst e
  cases (show Data.cls _=Data.seq _ _ from congrArg Obj.data (cA (hC.symm.trans htp)))
 ca:=fun {_ _ _ _ _ s} X I k=>by obtain⟨h,g,d,t,os⟩:=s;exact gu X c I k
structure XB (K:Frag)(C B:Addr):Prop where
 ty:typeIn K (.ref B)=some (.type "type")
 be:mroIn K B (.type "BaseException")=some true
 sub:mroIn K C (.ref B)=some true
theorem iq {B:Addr}{ox:Obj}{od:Option Obj}{Q:Bool→Shared→Prop}(X:K.In h)(b:XB K C B)(I:InstAt h e ox C od)(hq:Q true ⟨h,g,d,t,os⟩):wpAny (model prog w) A (excMatches (.ref e) (.ref B)) Q E ⟨h,g,d,t,os⟩:=by
 have l1:Looks (model prog w) h (isType (.ref B)) true:=by
  obtain⟨cd,hcd,_⟩:=Option.bind_eq_some_iff.mp b.be
  unfold clsIn at hcd
  split at hcd
  ·rename_i c' d' cd' sl' ho
   intro A' Q' E' s' k q
   unfold isType loadHead
   exact dJ (wpAny_loadPart (k _ _ (X _ _ ho)) (dO q))
  ·cases hcd
 have l2:Looks (model prog w) h (isExcClass (.ref B)) true:=l1.andThen (by rw[if_pos rfl];exact looks_mroIn X b.be)
 have l3:Looks (model prog w) h (isInstance (.ref B) (.type "tuple")) false:=(looks_typeIn X b.ty).andThen (Looks.of_pure tc_notTuple)
 have l4:=looks_mroIn (M:=model prog w) X b.sub
 have l5:=I.type (M:=model prog w)
 unfold excMatches
 refine dJ (l3.at ?_)
 rw[if_neg (by decide)]
 refine dJ (dO ?_)
 simp only[List.forIn_cons,List.forIn_nil]
 refine dJ (dJ (dJ (l2.at ?_)))
 refine dO (dO (dJ (l5.at (dJ (dJ (dJ (l4.at ?_)))))))
 exact dO (dO (dO hq))
end
def xcF (a C:Addr)(d:Option Addr):HO:=.ext fun h=>∃t,h.get? a=some (xI C t d)
section
variable {X:Cx}{pins:List (Addr×Obj)}{σ:St}{H:Hp}{s:Shared}{a C:Addr}{d:Option Addr}{pos:Pos}
theorem qv {P:Program}{w:World}{H':Hp}{h:Heap}{t:Addr}(e:h.get? a=some (xI C t d)):zZ P w H' h a (xcF a C d):=⟨⟨t,e⟩,⟨_,e⟩,fun _ _ ⟨t,e⟩ k=>⟨t,k _ e⟩⟩
theorem Inv.xat (I:Inv X pins σ H s)(e:H a=some (xcF a C d)):∃t,s.heap.get? a=some (xI C t d):=(I.hok a _ e).1
theorem mj {o:HO}(e:H a=some o):upd H a o=H:=by
 funext b
 unfold upd
 split
 ·rename_i z;rw[z,e]
 ·rfl
theorem Inv.xthaw (I:Inv X pins σ H s)(e:H a=some (xcF a C d)):Inv X pins σ (upd H a (xcO a C d)) s:=by
 obtain⟨t,h⟩:=I.xat e
 have:=I.write (x:=a) (e:=a) (o:=xcO a C d) (h':=s.heap) (t':=s.toks) (by rw[e];exact True.intro) (.inl rfl) (fun _ _ _ q=>q) ⟨_,h⟩ ⟨⟨_,_,h,rfl,rfl,rfl⟩,⟨_,h⟩,fun _ _ ⟨o,vs,h1,h2⟩ k=>⟨o,vs,k _ h1,h2⟩⟩
 exact this
theorem mE {e:Expr}{te:TE}(he:PE X e te):PE X (.FormattedValue e (-1) none pos) (fun σ H Q=>te σ H fun x H1=>∃i:Int,x=.int i∧i.natAbs.log2<1920∧Q (.str (toString i)) H1):=by
 intro pins s σ H Q I h
 refine FormattedValue_plain (thn (he pins s σ H _ I h) fun u s1 ⟨x,H1,I1,rx,i,ex,hi,q⟩=>?_)
 subst ex
 obtain⟨t,rfl⟩:=(show ∃t,u=Value.int i t from rx)
 exact formatField_int_small hi ⟨.str (toString i),H1,I1.tok _,⟨_,rfl⟩,q⟩
def tJ (t:TE)(k:Str→TE):TE:=fun σ H Q=>t σ H fun x H1=>∃a,x=.str a∧a.length≤10000∧k a σ H1 Q
theorem rf {a b c:Expr}{ta tb tc:TE}(ha:PE X a ta)(hb:PE X b tb)(hc:PE X c tc):PE X (.JoinedStr [a,b,c] pos) (tJ ta fun x=>tJ tb fun y=>tJ tc fun z=>fun _ H Q=>Q (.str (Str.empty++x++y++z)) H):=by
 intro pins s σ H Q I h
 refine PyProof.Rows.JoinedStr_many (joinParts_cons (thn (ha pins s σ H _ I h) fun u s1 ⟨x,H1,I1,rx,x',ex,lx,h1⟩=>?_))
 subst ex
 obtain⟨t1,rfl⟩:=(show ∃t,u=Value.str x' t from rx)
 have e0:Str.empty.length=0:=rfl
 refine⟨by rw[ba,bq];omega,joinParts_cons (thn (hb pins s1 σ H1 _ I1 h1) fun u s2 ⟨y,H2,I2,ry,y',ey,ly,h2⟩=>?_)⟩
 subst ey
 obtain⟨t2,rfl⟩:=(show ∃t,u=Value.str y' t from ry)
 refine⟨by rw[ba,ba,bq];omega,joinParts_cons (thn (hc pins s2 σ H2 _ I2 h2) fun u s3 ⟨z,H3,I3,rz,z',ez,lz,h3⟩=>?_)⟩
 subst ez
 obtain⟨t3,rfl⟩:=(show ∃t,u=Value.str z' t from rz)
 have hl:(Str.empty++x'++y'++z').length≤sizeLine:=by rw[ba,ba,ba,bq];omega
 exact⟨hl,joinParts_nil ⟨.str (Str.empty++x'++y'++z'),H3,I3.tok _,⟨_,rfl⟩,h3⟩ hl⟩
theorem pP {i:Int}(h:i.natAbs.log2<1920):(Str.ofString (toString i)).length≤10000:=by
 have e:=int_text_length_le (k:=1920) (by decide) h
 rw[PySem.ofString_length];omega
structure XS (K:PySem.W.Frag)(S:Addr):Prop where
 rd:PySem.W.readsIn K S (.type "type")=true
 fi:PySem.W.findCls K (.ref S) (.type "type") "__init__"=some (.val (.builtin "ValueError.__init__"))
 ga:PySem.W.specialIn K (.ref S) "__getattribute__"=some (some (.builtin "type.__getattribute__"))
theorem lP {pl:Sem Bool}{sn:Str}{S:Addr}{init:Option Value}{p apos:Pos}{e:Expr}{es:List Expr}{ta:TA}(hg:Gl X sn)(hm:X.mg sn=some (.ref S))(xs:XS X.K S)(c:yB X.K C S init=true)(ha:PA X (e::es) ta)(hdb:(sn == ("__debug__":Str))=false:=by decide)
  (hst:starEach (e::es) X.env=(false,eval e X.env)::starEach es X.env:=by rfl) (hpl:(backTo pos (starEach es X.env)).any (·.1)=false:=by rfl)
  (ht:eval (.Call (.Attribute (.Name sn p) "__init__" apos) (e::es) [] pos) X.env=(do
   let ov ←eval (.Name sn p) X.env
   standAt apos.atName
   let (f,first) ←holding [ov] (getMethod ov "__init__" pl)
   callWith pos f first (backTo pos (starEach (e::es) X.env)) (backToKw pos (keywordEach [] X.env))):=by rfl):
  PE X (.Call (.Attribute (.Name sn p) "__init__" apos) (e::es) [] pos) (fun σ H Q=>ta σ H fun vs H1=>∃a rest d,vs=.ref a::rest∧rest.length≤100∧H1 a=some (xcF a C d)∧Q .non H1):=by
 intro pins s σ H Q I h
 refine PySem.W.methodCall_KW (pl:=pl) (yE I hg hm ?_ hdb) ht
 refine PySem.W.method_cls I.kIn xs.ga (PySem.W.cls_value I.kIn xs.rd xs.fi (by decide +kernel) ?_)
 refine PyProof.Rows.callWith_builtin1 (thn (ha pos pins _ σ H _ (I.tok (s.toks+1)) h) fun us s1 ⟨vs,H1,I1,r1,a,rest,d,ev,lr,ea,q⟩=>?_) hst hpl
 subst ev
 obtain⟨t,hx⟩:=I1.xat ea
 cases r1 with
 |@cons _ u _ us r0 r1=>
  obtain rfl:u=Value.ref a:=r0
  obtain⟨h1,g1,d1,t1,o1⟩:=s1
  refine qD I1.kIn c hx (by have:=r1.length;omega) fun h' t' hk he=>?_
  have I2:=I1.write (x:=a) (e:=a) (o:=xcF a C d) (h':=h') (t':=t1) (by rw[ea];exact True.intro) (.inl rfl) (fun b u hb q=>hk b u hb q) ⟨_,he⟩ (qv he)
  rw[mj ea] at I2
  exact⟨.non,H1,I2,rfl,q⟩
theorem Inv.xput {h':Heap}{t':Nat}{dx t:Addr}{f:Str}{y:V}{u:Value}(I:Inv X pins σ H s)(ea:H a=some (xcF a C none))(hdx:s.heap.objs.size≤dx)(hk:∀b o,b≠a→s.heap.get? b=some o→h'.get? b=some o)(he:h'.get? a=some (xI C t (some dx)))(hn:h'.Ns1 dx (fun z=>if z=f then some u else none))(ry:RelV y u):
  Inv X pins σ (upd (upd H dx (.xd [(f,y)])) a (xcF a C (some dx))) {s with heap:=h',toks:=t'}:=by
 have hf:H dx=none:=I.hok.fresh hdx
 have da:dx≠a:=fun z=>by rw[z,ea] at hf;cases hf
 have lt:∀{b:Addr} {o:Obj},s.heap.get? b=some o→b≠dx:=fun {b o} q z=>absurd (dR q) (by rw[z];exact Nat.not_lt.mpr hdx)
 have na:∀{b:Addr},H b=none→b≠a:=fun {b} n z=>by rw[z,ea] at n;cases n
 have nn:∀{b:Addr} {o:HO},H b=some o→b≠dx:=fun {b o} q z=>by rw[z,hf] at q;cases q
 have keepH:∀{b:Addr} {o:HO},H b=some o→b≠a→(upd (upd H dx (.xd [(f,y)])) a (xcF a C (some dx))) b=some o:=fun {b o} q z=>by rw[zc z,zc (nn q)];exact q
 refine I.un ⟨fun b o q n _ _=>hk b o (na n) q,fun b o q n _ _=>⟨o.slots,hk b o (na n) q⟩,fun b o q n _=>by rw[zc (na n),zc (lt q)];exact n,fun b o q _=>?_,fun b xs q=>keepH q (fun z=>by rw[z,ea] at q;cases q),fun b o u q=>keepH q (fun z=>by rw[z,ea] at q;cases q),fun b ps q=>⟨#[],by rw[Array.append_empty];exact keepH q (fun z=>by rw[z,ea] at q;cases q)⟩⟩ fun b o q=>?_
 ·by_cases z:b=a
  ·subst z;exact⟨_,he⟩
  ·exact⟨o,hk b o z q⟩
 ·by_cases z:b=a
  ·subst z
   rw[zd] at q;cases q
   exact qv he
  ·rw[zc z] at q
   by_cases z2:b=dx
   ·subst z2
    rw[zd] at q;cases q
    refine⟨_,hn,fun g=>?_⟩
    show vn (([(f,y)]:List (Str×V)).lookup g) (if g=f then some u else none)
    by_cases zz:g=f
    ·subst zz
     rw[if_pos rfl]
     simp only[cQ,beq_self_eq_true]
     exact ry
    ·rw[if_neg zz]
     have:(g == f)=false:=by simpa using zz
     simp only[cQ,this,List.lookup_nil]
     trivial
   ·rw[zc z2] at q
    refine (I.hok b o q).stay (fun c v hc e=>hk c v ?_ e) (fun c e=>keepH e (fun z=>by rw[z,ea] at e;cases e)) fun c xs e=>keepH e (fun z=>by rw[z,ea] at e;cases e)
    rcases hc with rfl|hc
    ·exact z
    ·intro z3;rw[z3,ea] at hc;cases hc
theorem jg {o value:Expr}{ta tv:TE}{f:Str}{S:Addr}{init:Option Value}{pos':Pos}(ha:PE X o ta)(hv:PE X value tv)(c:XC X.K C S init)(hn:PySem.W.findIn X.K (.ref C) f=some none)(hs:swapsWith value (some (.Attribute o f pos')) pos.line X.env=pure false:=by rfl):
  PS X (.Assign [.Attribute o f pos'] value pos) (fun D σ H=>tv σ H fun y H1=>ta σ H1 fun x H2=>∃a,x=.ref a∧H2 a=some (xcF a C none)∧∀dx,H2 dx=none→dx≠a→D.nx σ (upd (upd H2 dx (.xd [(f,y)])) a (xcF a C (some dx)))):=by
 intro pins s σ H D I h
 refine plainObj_wpAny_Assign_Attribute (thn (hv pins s σ H _ I h) fun u s1 ⟨y,H1,I1,ry,q⟩=>thn (ha pins s1 σ H1 _ I1 q) fun ov s2 ⟨x,H2,I2,rx,a,ex,ea,q2⟩=>?_) hs
 subst ex
 obtain rfl:ov=Value.ref a:=rx
 obtain⟨t,hx⟩:=I2.xat ea
 obtain⟨h2,g2,d2,t2,o2⟩:=s2
 refine eY I2.kIn c.ok c.sa hn hx fun h' dx tk' hdx hk he hn'=>⟨σ,_,I2.xput ea hdx hk he hn' ry,q2 dx (I2.hok.fresh hdx) fun z=>?_⟩
 have:=I2.hok.fresh hdx
 rw[z,ea] at this;cases this
end
section
variable {prog:Program}{w:World}{A:Around}{E:Value→Shared→Prop}{h:Heap}{g:Array GenState}{d:Drawn}{t:Nat}{os:OsState}
variable {nm q:Str}{C N:Addr}{bs bm bmB:List Value}{hdct:Bool}{sn:List Str}{sub:List Value}{ab:Bool}{col:Option Bool}{dd:Option Addr}{k0 k1 k2 k3 k5:Option Value}{B Bn newId nid initId inN:String}{bmN:List Value}
theorem sO (Fn:ExcBaseFacts Bn newId inN bmN)(hBn:bmB.contains (.type Bn)=true)(F:ExcBaseFacts B nid initId bmB)(T:OwnTail h bmB bm){mN:Str→Option Value}{rest:List Value}{Q:Fin→Shared→Prop}
  (hC:h.get? C=some (excClassObj nm q C N bs bm hdct sn sub ab col dd k0 k1 k2 k3 k5 newId)) (hn:h.Ns N mN) (hni:mN "__init__"=none)
  (hq:∀h' t',(∀b o,h.get? b=some o→h'.get? b=some o)→h'.get? (h.objs.size+1)=some (xI C t' none)→Q (.done (.ret (.ref (h.objs.size+1)))) ⟨h',g,d,t,os⟩) (hrest:rest.length≤sizeLine):
  wpAny (model prog w) A (Builtin.«type.__call__» ⟨.ref C::rest,[]⟩) Q E ⟨h,g,d,t,os⟩:=by
 repeat (first|with_reducible refine cW hC ?_|with_reducible refine wpAny_madeBy_exc hC ?_|wp_step)
 refine codeAny_call_builtin_code (az _ Fn.quiet) (wpAny_check_new_subU Fn hBn T hC ?_)
 refine codeAny_exc_new_subU Fn hBn F T hC ?_ hrest
 show wpAny _ _ _ _ _ ⟨yz h C rest,g,d,t,os⟩
 have keep:∀b o,h.get? b=some o→(yz h C rest).get? b=some o:=fun b o e=>dM _ (dM _ e)
 have hC₁:=keep _ _ hC
 have hn₁:(yz h C rest).Ns N mN:=let ⟨o,es,ep,e,r⟩:=hn;⟨o,es,ep,keep _ _ e,r⟩
 have hget:(yz h C rest).get? (h.objs.size+1)=some (xI C h.objs.size none):=by unfold yz;heap_get
 have hcC:(Value.ref C::bm).contains (.ref C)=true:=by simp
 have T₁:=T.keeps keep
 unfold isInstance
 repeat (first|with_reducible refine cW hget ?_|(with_reducible refine wpAny_isSubtype_exc hC₁ ?_;rw[hcC])|wp_step)
 show wpAny _ _ (typeLookup (.ref C) _) _ _ _
 refine wpAny_typeLookup_tail hC₁ hn₁ T₁ F.mroIs F.init.lookup ?_
 rw[hni]
 refine bj (dJ (wpAny_of_eq (F.init.bind _) ?_))
 refine dJ (bu (ak F.init.plain F.initEntry (wpAny_check_init_subU F T₁ hC₁ hget rfl ?_)))
 wp_walk
 refine hq _ (yz h C rest).objs.size (fun b o hb=>?_) ?_
 ·rw[cj _ _ (ay (Nat.lt_succ_of_lt (dR hb)))]
  exact dM _ (keep _ _ hb)
 ·rw[cN _ (dM _ hget) rfl]
  rfl
theorem iy (Fn:ExcBaseFacts Bn newId inN bmN)(hBn:bmB.contains (.type Bn)=true)(F:ExcBaseFacts B nid initId bmB)(T:OwnTail h bmB bm){mN:Str→Option Value}{rest:List Value}{Q:Value→Shared→Prop}
  (hC:h.get? C=some (excClassObj nm q C N bs bm hdct sn sub ab col dd k0 k1 k2 k3 k5 newId)) (hn:h.Ns N mN) (hni:mN "__init__"=none)
  (hq:∀h' t',(∀b o,h.get? b=some o→h'.get? b=some o)→h'.get? (h.objs.size+1)=some (xI C t' none)→Q (.ref (h.objs.size+1)) ⟨h',g,d,t,os⟩) (hrest:rest.length≤sizeLine):
  wpAny (model prog w) A (call (.ref C) rest) Q E ⟨h,g,d,t,os⟩:=by
 have f1:=tc_lookup
 have f2:=tc_bind (.ref C)
 have hT:(⟨h,g,d,t,os⟩:Shared).TypeIs (.ref C) "type":=⟨_,hC,rfl⟩
 refine bu (codeAny_of_tree ?_)
 show wpAny _ _ (callAny (.ref C) _) _ _ _
 repeat (any_goals (first|assumption|with_reducible refine cW hC ?_|wp_step))
 refine⟨rfl,?_⟩
 exact codeAny_call_builtin_at (az _ (by decide +kernel)) entry_typeCall (wpAny_check_type_call_sub hC (sO Fn hBn F T hC hn hni hq hrest))
end
section
variable {X:Cx}{pins:List (Addr×Obj)}{σ:St}{H:Hp}{s:Shared}{k:Nat}{f C S:Addr}{fd:FuncData}{ps:List Str}{sp:Sp}{x:Str}{p pos:Pos}{e:Expr}{es:List Expr}{t:TA}
theorem Inv.xmade {h':Heap}{t':Addr}(I:Inv X pins σ H s)(hk:∀b o,s.heap.get? b=some o→h'.get? b=some o)(he:h'.get? (s.heap.objs.size+1)=some (xI C t' none)):Inv X pins σ (upd H (s.heap.objs.size+1) (xcF (s.heap.objs.size+1) C none)) {s with heap:=h'}:=
 I.laid (t':=s.toks) hk (bK _) (qv he)
theorem mI (c:yB X.K C S (some (.ref f))=true)(hfn:PySem.W.typeIn X.K (.ref f)=some (.type "function"))(kp:PySem.W.keepIn X.K (.ref C)=true)(F:zt X.prog X.w X.K X.mg X.base CX0 k f fd ps sp)(hr:zI (k+1) X.A)(hg:Gl X x)(hm:X.mg x=some (.ref C))(hb:Binds X.K fd ps [])
  (ha:PA X (e::es) t) (hdb:(x == ("__debug__":Str))=false:=by decide) (he:starEach (e::es) X.env=(false,eval e X.env)::starEach es X.env:=by rfl) (hpl:(backTo pos (starEach es X.env)).any (·.1)=false:=by rfl):
  PE X (.Call (.Name x p) (e::es) [] pos) (fun σ H Q=>t σ H fun vs H1=>vs.length≤100∧∀a,H1 a=none→sp (.ref a::vs) (upd H1 a (xcF a C none)) (fun v H2=>v=.non∧Q (.ref a) H2) E0):=by
 intro pins s σ H Q I h
 refine cZ (yE I hg hm ?_ hdb)
 refine bw (h₀:=X.base) I.ok.mod.kin kp (thn (ha pos pins s σ H _ I h) fun us s1 ⟨vs,H1,I1,r,lv,q⟩=>⟨I1.kIn,?_⟩) he hpl
 obtain⟨nm,qn,N,bs,sn,sub,ab,col,dd,k0,k1,k2,k3,k5,mN,hC,hN,hi,T,_⟩:=yk I1.kIn c
 obtain⟨oI,lI,cI⟩:=cV.mp hfn
 have hfI:=I1.kIn _ _ lI
 have hl:=r.length
 have hq:=q (s1.heap.objs.size+1) (I1.hok.fresh (bK _))
 obtain⟨h0,g,d,tk,os⟩:=s1
 refine eK cR (by decide +kernel) cR T hC hN hi hfI cI ?_ (by show us.length≤_;rw[bq];omega)
 have keep:∀b o,h0.get? b=some o→(yz h0 C us).get? b=some o:=fun b o e=>dM _ (dM _ e)
 have hget:(yz h0 C us).get? (h0.objs.size+1)=some (xI C h0.objs.size none):=by unfold yz;heap_get
 have I2:=I1.xmade (h':=yz h0 C us) keep hget
 have r2:Vals (V.ref (h0.objs.size+1)::vs) (Value.ref (h0.objs.size+1)::us):=.cons rfl r
 have hl2:(Value.ref (h0.objs.size+1)::us++[]).length=ps.length:=by
  have e:=r2.length
  rw[F.len _ _ _ _ hq] at e
  rw[cO]
  exact e.symm
 have hbb:=hb _ (Value.ref (h0.objs.size+1)::us) I2.kIn hl2
 rw[cO] at hbb
 refine bu (ae (F.run _ X.stack _ _ ⟨Value.ref (h0.objs.size+1)::us,[]⟩ _ _ _ E0 (hr.make C us []) (I2.env0.make C us []) hbb r2 hq) fun r s' hq'=>?_)
 cases r with
 |error e=>exact (hq':False).elim
 |ok fl=>
  cases fl with
  |ret u=>
   obtain⟨v,H',I3,rv,ev,q3⟩:=I2.after hq'
   subst ev
   exact⟨rv,⟨V.ref (h0.objs.size+1),H',I3,rfl,q3⟩⟩
  |next=>exact False.elim hq'
  |brk=>exact False.elim hq'
  |cont=>exact False.elim hq'
theorem oH (c:yB X.K C S none=true)(kp:PySem.W.keepIn X.K (.ref C)=true)(hg:Gl X x)(hm:X.mg x=some (.ref C))
  (ha:PA X (e::es) t) (hdb:(x == ("__debug__":Str))=false:=by decide) (he:starEach (e::es) X.env=(false,eval e X.env)::starEach es X.env:=by rfl) (hpl:(backTo pos (starEach es X.env)).any (·.1)=false:=by rfl):
  PE X (.Call (.Name x p) (e::es) [] pos) (fun σ H Q=>t σ H fun vs H1=>vs.length≤100∧∀a,H1 a=none→Q (.ref a) (upd H1 a (xcF a C none))):=by
 intro pins s σ H Q I h
 refine cZ (yE I hg hm ?_ hdb)
 refine bw (h₀:=X.base) I.ok.mod.kin kp (thn (ha pos pins s σ H _ I h) fun us s1 ⟨vs,H1,I1,r,lv,q⟩=>⟨I1.kIn,?_⟩) he hpl
 obtain⟨nm,qn,N,bs,sn,sub,ab,col,dd,k0,k1,k2,k3,k5,mN,hC,hN,hi,T,_⟩:=yk I1.kIn c
 have hl:=r.length
 have hq:=q (s1.heap.objs.size+1) (I1.hok.fresh (bK _))
 obtain⟨h0,g,d,tk,os⟩:=s1
 refine iy cR (by decide +kernel) cR T hC hN hi (fun h' t' hk he=>?_) (by show us.length≤_;rw[bq];omega)
 exact⟨.ref (h0.objs.size+1),_,I1.xmade hk he,rfl,hq⟩
theorem sL {X0:Cx}{R:St→Addr→Hp→Prop}{te:TE}{init:Option Value}(c:yB X0.K C S init=true)(hc:X0.calm=true)(he:PE (X0.wish (XE X0 R)) e te):
  PS (X0.wish (XE X0 R)) (.Raise (some e) none pos) (fun D σ H=>te σ H fun x H1=>∃a d,x=.ref a∧H1 a=some (xcF a C d)∧R σ a (upd H1 a (xcO a C d))):=by
 intro pins s σ H D I h
 show wpAny _ _ (do standAt pos;raiseStmt X0.env (some (do let v ←eval e X0.env;standAt pos;pure v)) none) _ _ _
 obtain⟨nm,qn,N,bs,sn,sub,ab,col,dd,k0,k1,k2,k3,k5,mN,hC,hN,hi,T,_,_,_,_,lk⟩:=yk I.kIn c
 refine dJ (aC (iN (C:=C) (nm:=nm) (q:=qn) (N:=N) (bs:=bs) (bm:=.ref S::bmV) (hdct:=true) (sn:=sn) (sub:=sub) (ab:=ab) (col:=col) (dd:=dd) (k0:=k0) (k1:=k1) (k2:=k2) (k3:=k3) (k5:=k5) (newId:="ValueError.__new__") (T.hasType cR.hasBase) (I.ok.hd hc) (dJ (thn (he pins s σ H _ I h) fun v s1 ⟨x,H1,I1,rx,a,d,ex,ea,r⟩=>dJ (aC (dO ?_))))))
 subst ex
 obtain rfl:v=Value.ref a:=rx
 obtain⟨t',ha⟩:=I1.xat ea
 exact⟨a,t',d,rfl,I1.kIn _ _ lk,ha,⟨σ,_,a,rfl,(I1.xthaw ea).unwish.nopins,⟨C,d,zd⟩,.new ha rfl rfl,r⟩⟩
end
abbrev Cx.held (X:Cx)(pins:List (Addr×Obj)):Cx:={X with pn:=X.pn++pins}
abbrev Cx.suite (X:Cx)(a:Addr):Cx:={X with A:=X.A.mark (some (.ref a)),calm:=false,xe:=fun _ _=>False}
section
variable {X:Cx}{pins:List (Addr×Obj)}{σ:St}{H:Hp}{s:Shared}{a:Addr}{D:Ends}{f:Flow}
theorem Inv.held (I:Inv X pins σ H s):Inv (X.held pins) [] σ H s:=
 ⟨⟨I.ok.mod,I.ok.kind,I.ok.glob,I.ok.blt,I.ok.above,I.ok.inj,I.ok.has,I.ok.cab,I.ok.hd,I.ok.frames,I.ok.stk,I.ok.exf,I.ok.bs,I.ok.bsz,I.ok.noex,I.ok.exfs,I.ok.funs,I.ok.frf⟩,I.os,I.bare,I.base,I.loc,I.cell,I.free,I.freeC,fun p hp=>I.pin p (by simpa using hp),I.hok,I.len⟩
theorem Inv.unheld (I:Inv (X.held pins) [] σ H s):Inv X pins σ H s:=
 ⟨⟨I.ok.mod,I.ok.kind,I.ok.glob,I.ok.blt,I.ok.above,I.ok.inj,I.ok.has,I.ok.cab,I.ok.hd,I.ok.frames,I.ok.stk,I.ok.exf,I.ok.bs,I.ok.bsz,I.ok.noex,I.ok.exfs,I.ok.funs,I.ok.frf⟩,I.os,I.bare,I.base,I.loc,I.cell,I.free,I.freeC,fun p hp=>I.pin p (by simpa using hp),I.hok,I.len⟩
theorem Inv.suite (I:Inv X pins σ H s):Inv (X.suite a) pins σ H s:=
 ⟨⟨I.ok.mod,I.ok.kind,I.ok.glob,I.ok.blt,I.ok.above,I.ok.inj,I.ok.has,I.ok.cab,(fun z=>nomatch z),I.ok.frames,I.ok.stk,I.ok.exf,I.ok.bs,I.ok.bsz,I.ok.noex,I.ok.exfs,I.ok.funs,I.ok.frf⟩,I.os,I.bare,I.base,I.loc,I.cell,I.free,I.freeC,I.pin,I.hok,I.len⟩
theorem Inv.unsuite (J:Inv X [] σ H s){σ':St}{H':Hp}{s':Shared}(I:Inv (X.suite a) pins σ' H' s'):Inv X pins σ' H' s':=
 ⟨J.ok,I.os,I.bare,I.base,I.loc,I.cell,I.free,I.freeC,I.pin,I.hok,I.len⟩
theorem SP.held {E:Value→Shared→Prop}(h:SP ((X.held pins).wish E) [] D f s):SP X pins D f s:=by
 cases f with
 |next=>obtain⟨σ',H',I,q⟩:=h;exact⟨σ',H',I.unwish.unheld,q⟩
 |brk=>obtain⟨σ',H',I,q⟩:=h;exact⟨σ',H',I.unwish.unheld,q⟩
 |cont=>obtain⟨σ',H',I,q⟩:=h;exact⟨σ',H',I.unwish.unheld,q⟩
 |ret u=>obtain⟨v,σ',H',I,r,q⟩:=h;exact⟨v,σ',H',I.unwish.unheld,r,q⟩
theorem Inv.gone {M:Model}{A:Around}{E:Value→Shared→Prop}{Q:Unit→Shared→Prop}{i:Nat}{n:Str}{pos:Pos}(I:Inv X pins σ H s)(hN:X.N.Nodup)(hi:X.N[i]?=some n)(hl:X.env.scope.names.lookup n=some .local)
  (h:∀s',Inv X pins (σ.set i none) H s'→Q () s'):wpAny M A (do bindName X.env n .none;unbindBehindTheSuite X.env n pos) Q E s:=by
 obtain⟨m,hn,hlk⟩:=id I.loc
 have hcls:(X.env.scope.kind == .class||(X.env.scope.kind == .module&&X.env.locals != X.env.globals))=false:=by rw[I.ok.kind];rfl
 have hiσ:i<σ.length:=by rw[I.len];exact (dN.mp hi).1
 have cne:=I.cne
 refine wpAny_nameGoes_keeps hl hn hcls fun h' v hn' hs=>?_
 obtain⟨oL,_,_,hoL,_⟩:=id hn
 have nl:∀{b:Addr} {o:Obj},X.s₀.heap.get? b=some o→b≠X.env.locals:=fun {b o} e=>cz (cu (dR e) I.ok.above)
 refine h _ ⟨I.ok,I.os,I.bare,⟨fun b o e n hb hx=>(hs.2 b (nl e)).trans (I.base.keep b o e n hb hx),fun b o e n hb hx=>?_,I.base.free,fun b o e hx=>?_,I.base.tups,I.base.frzs,I.base.tbls⟩,⟨_,hn',fun j y v' e1 e2 e3=>?_⟩,fun y c e=>?_,I.free,I.freeC,fun p hp=>?_,fun b ob e=>?_,by simpa using I.len⟩
 ·obtain⟨sl,e1⟩:=I.base.slot b o e n hb hx
  exact⟨sl,(hs.2 b (nl e)).trans e1⟩
 ·obtain⟨o',e1⟩:=I.base.there b o e hx
  exact⟨o',(hs.2 b (nl e)).trans e1⟩
 ·by_cases hj:j=i
  ·subst hj
   rw[cT hiσ] at e2
   cases e2
  ·rw[cF (aa hj)] at e2
   obtain⟨u',r',q⟩:=hlk j y v' e1 e2 e3
   refine⟨u',r',?_⟩
   rcases q with ⟨k,e⟩|⟨k,c,e,z⟩
   ·refine .inl ⟨k,?_⟩
    have:y≠n:=fun e=>hj (vY hN e1 (e▸hi))
    simp[this,e]
   ·exact .inr ⟨k,c,e,z.sameBut hs (cne y c e)⟩
 ·obtain⟨w',z⟩:=I.cell y c e
  exact⟨w',z.sameBut hs (cne y c e)⟩
 ·obtain⟨e,n,ne,nf,d⟩:=I.pin p hp
  exact⟨(hs.2 p.1 ne).trans e,n,ne,nf,d⟩
 ·refine (I.hok b ob e).stay (fun c w' hc q=>(hs.2 c ?_).trans q) (fun _ q=>q) fun _ _ q=>q
  rintro rfl
  rcases hc with rfl|hc
  ·rw[I.free] at e;cases e
  ·rw[I.free] at hc;cases hc
theorem Inv.caught {R:St→Addr→Hp→Prop}{E':Value→Shared→Prop}{Q:Flow→Shared→Prop}{e:Value}{hs:List ExceptHandler}(hst:X.stack=X.env::X.outer)(h:XE X R e s)
  (k:∀σ H a T s',Inv X [] σ H s'→(∃C d,H a=some (xcO a C d))→R σ a H→H T=none→X.s₀.heap.get? T=none→(∀p∈X.pn,p.1≠T)→Ent s'.heap X.base a T .none→wpAny (model X.prog X.w) X.A (handleBy (.ref a) X.env hs) Q E' s'):
  wpAny (model X.prog X.w) X.A (noteFrame e X.env) (fun _ s₂=>wpAny (model X.prog X.w) X.A (setFlight e none) (fun _ s₃=>wpAny (model X.prog X.w) X.A (handleBy e X.env hs) Q E' s₃) E' s₂) E' s:=by
 obtain⟨σ,H,a,rfl,I,ha,f,r⟩:=h
 refine I.note hst ha f fun h' T I' h1 h2 h3 h4=>?_
 refine I'.flight (fo:=none) hst ha h1 h2 (by simpa using h3) h4 fun h'' I'' e''=>?_
 exact k σ H a T _ I'' ha r h1 h2 h3 e''
theorem pJ {P:Program}{w:World}{h:Heap}{C:Addr}{d:Option Addr}(hok:HOk P w H h)(e:H a=some (xcO a C d))(hd:∀dx,d=some dx→∃fs,H dx=some (.xd fs)):∃ox od,PySem.W.InstAt h a ox C od∧od.isSome=d.isSome:=by
 obtain⟨⟨o,vs,h1,h2,h3,h4⟩,_⟩:=hok a _ e
 cases d with
 |none=>exact⟨o,none,pG h1 h2 ⟨vs,h4⟩ (by rw[h3];trivial),rfl⟩
 |some dx=>
  obtain⟨fs,hx⟩:=hd dx rfl
  obtain⟨mA,⟨od,es,ep,e1,_⟩,_⟩:=hok dx _ hx
  exact⟨o,some od,pG h1 h2 ⟨vs,h4⟩ (by rw[h3];exact e1),rfl⟩
end
section
variable {X:Cx}{body suite:List Stmt}{b0:Stmt}{x n:Str}{np hpos pos:Pos}{B:Addr}
def qV (K:PySem.W.Frag)(B:Addr)(R:St→Addr→Hp→Prop):Prop:=∀σ a H,R σ a H→∃C d,H a=some (xcO a C d)∧(∀dx,d=some dx→∃fs,H dx=some (.xd fs))∧XB K C B
theorem mz {R:St→Addr→Hp→Prop}{i:Nat}(hst:X.stack=X.env::X.outer)(hN:X.N.Nodup)(hi:X.N[i]?=some n)(hl:X.env.scope.names.lookup n=some .local)(hg:Gl X x)(hm:X.mg x=some (.ref B))(hR:qV X.K B R)(hdb:(x == ("__debug__":Str))=false:=by decide):
  PS X (.Try body [.ExceptHandler (some (.Name x np)) (some n) (b0::suite) hpos] [] [] pos) (fun D σ H=>(∀pins,nF ((X.held pins).wish (XE (X.held pins) R)) body D σ H)∧
   ∀pins a σ' H',R σ' a H'→nF ((X.held pins).suite a) (b0::suite) {nx:=fun σ'' H''=>D.nx (σ''.set i none) H'',rt:=D.rt,bk:=fun σ'' H''=>D.bk (σ''.set i none) H'',ct:=fun σ'' H''=>D.ct (σ''.set i none) H''} (σ'.set i (some (.ref a))) H'):=by
 rintro pins s σ H D I ⟨h1,h2⟩
 obtain⟨tb,pb,qb⟩:=h1 pins
 refine wpAny_Try_except (cE (pb [] s σ H D (I.held.wish _) qb) (fun f s1 hf=>?_) fun e s1 hx=>?_)
 ·have hf:=SP.held hf
  cases f with
  |next=>exact au hf
  |brk=>exact hf
  |cont=>exact hf
  |ret u=>exact hf
 ·refine Inv.caught (X:=X.held pins) hst hx fun σ' H' a T s' I' ha r t1 t2 t3 ent=>?_
  obtain⟨C,d,hc,hd,xb⟩:=hR σ' a H' r
  refine wpAny_handleBy_cons (codeAny_handlers_test (yE (I'.suite (a:=a)) hg hm ?_ hdb)) (by intro q;cases q)
  obtain⟨ox,od,J,_⟩:=pJ I'.hok hc hd
  obtain⟨h',g',d',tk',os'⟩:=s'
  refine iq I'.kIn xb J (codeAny_handlers_suite_as ?_)
  refine I'.flight (fo:=none) hst ha t1 t2 (by simpa using t3) ent fun h'' I'' _=>?_
  refine vV I'' hN hi (Or.inl hl) (v:=.ref a) rfl (fun s2 I2=>?_) (.inr hl)
  obtain⟨ts,p2,q2⟩:=h2 pins a σ' H' r
  refine cE (p2 [] s2 _ H' _ I2.suite q2) (fun f s3 hf=>?_) fun _ _ z=>(z:False).elim
  cases f with
  |next=>
   obtain⟨σ3,H3,I3,q3⟩:=hf
   exact (I''.unsuite I3).gone hN hi hl fun s4 I4=>⟨_,H3,I4.unheld,q3⟩
  |brk=>
   obtain⟨σ3,H3,I3,q3⟩:=hf
   exact (I''.unsuite I3).gone hN hi hl fun s4 I4=>⟨_,H3,I4.unheld,q3⟩
  |cont=>
   obtain⟨σ3,H3,I3,q3⟩:=hf
   exact (I''.unsuite I3).gone hN hi hl fun s4 I4=>⟨_,H3,I4.unheld,q3⟩
  |ret u=>
   obtain⟨v,σ3,H3,I3,r3,q3⟩:=hf
   exact (I''.unsuite I3).gone hN hi hl fun s4 I4=>⟨v,_,H3,I4.unheld,r3,q3⟩
end
def xD (C:Addr)(fs:List (PyData×PyData)):PyData:=.dict ((.int (C:Nat),.bool true)::fs)
def xD0 (C:Addr):PyData:=.dict [(.int (C:Nat),.bool false)]
section
variable {G:Hp}{v:V}{C:Addr}{ds:List (PyData×PyData)}
theorem AV.xc_inv (h:AV G v (xD C ds)):∃a dx fs,v=.ref a∧G a=some (xcO a C (some dx))∧G dx=some (.xd fs)∧AVf G fs ds:=by
 generalize e:xD C ds=d at h
 cases h with
 |@xc a C' dx fs ds' h1 h2 h3=>
  unfold xD at e
  injection e with e
  injection e with e1 e2
  injection e1 with e1 _
  injection e1 with e1
  have:C=C':=by exact_mod_cast e1
  subst this;subst e2
  exact⟨a,dx,fs,rfl,h1,h2,h3⟩
 |_=>simp[xD] at e
theorem AV.xn_inv (h:AV G v (xD0 C)):∃a,v=.ref a∧G a=some (xcO a C none):=by
 generalize e:xD0 C=d at h
 cases h with
 |@xn a C' h1=>
  unfold xD0 at e
  injection e with e
  injection e with e1 e2
  injection e1 with e1 _
  injection e1 with e1
  have:C=C':=by exact_mod_cast e1
  subst this
  exact⟨a,rfl,h1⟩
 |_=>simp[xD0] at e
end
def isX (C:Addr)(d:PyData):Prop:=(∃fs,d=xD C fs)∨d=xD0 C
theorem isX.at {G:Hp}{v:V}{C:Addr}{d:PyData}(x:isX C d)(h:AV G v d):∃a dx,v=.ref a∧G a=some (xcO a C dx)∧∀y,dx=some y→∃fs,G y=some (.xd fs):=by
 rcases x with ⟨fs,rfl⟩|rfl
 ·obtain⟨a,dx,gs,rfl,h1,h2,_⟩:=h.xc_inv
  exact⟨a,some dx,rfl,h1,fun y e=>by cases e;exact⟨gs,h2⟩⟩
 ·obtain⟨a,rfl,h1⟩:=h.xn_inv
  exact⟨a,none,rfl,h1,fun y e=>by cases e⟩
theorem M.reidx {F:Fr}{α α':Ev}{σ σ':St}{H:Hp}(m:M F α σ H)(f:Nat→Nat)(hl:α'.length=σ'.length)(hf:∀(k:Nat) a s,α'[k]?=some (some a)→σ'[k]?=some s→α[f k]?=some (some a)∧σ[f k]?=some s)(inj:∀(k k':Nat) a a',α'[k]?=some (some a)→α'[k']?=some (some a')→f k=f k'→k=k'):M F α' σ' H:=by
 have ow:∀{y:Addr},Ow F α' σ' y→Ow F α σ y:=fun {y} h=>by
  rcases h with z|⟨i,c,s,e1,e2,fo⟩
  ·exact .inl z
  ·obtain⟨g1,g2⟩:=hf i c s e1 e2
   exact .inr ⟨_,c,s,g1,g2,fo⟩
 have gs:zm (Gz F α σ H) (Gz F α' σ' H):=zk fun a o h e=>⟨fun z=>h (ow z),e⟩
 refine⟨hl,fun i c s e1 e2=>?_,fun i i' c d s s' x e1 e2 h1 h2 f1 f2=>?_,fun i r q e i' c s x e1 e2 fo=>?_,m.tp,m.keep,m.oex⟩
 ·obtain⟨g1,g2⟩:=hf i c s e1 e2
  exact (m.ok _ c s g1 g2).stay gs (fun x o fo e=>⟨e,(m.ft g1 g2 fo).1,(m.ft g1 g2 fo).2.1⟩) rfl fun _ _ _ l=>l
 ·obtain⟨g1,g2⟩:=hf i c s e1 h1
  obtain⟨k1,k2⟩:=hf i' d s' e2 h2
  exact inj i i' c d e1 e2 (m.dj _ _ c d s s' x g1 k1 g2 k2 f1 f2)
 ·have:i<σ'.length:=by rw[←hl];exact (dN.mp e).1
  obtain⟨g1,_⟩:=hf i _ _ e (dP this)
  obtain⟨k1,k2⟩:=hf i' c s e1 e2
  exact m.xd _ r q g1 _ c s x k1 k2 fo
theorem vD {β:Ev}{b:Option A}{k:Nat}{a:A}(h:(β++[b])[k]?=some (some a)):(k<β.length∧β[k]?=some (some a))∨(k=β.length∧b=some a):=by
 rcases Nat.lt_or_ge k β.length with z|z
 ·rw[cn z] at h;exact .inl ⟨z,h⟩
 ·rw[cp z] at h
  obtain⟨j,hj⟩:∃j,k-β.length=j:=⟨_,rfl⟩
  rw[hj] at h
  cases j with
  |zero=>simp at h;exact .inr ⟨by omega,h⟩
  |succ j=>simp at h
section
variable {F:Fr}{α αh:Ev}{σ:St}{H:Hp}
theorem M.grow (m:M F α σ H):M F (α++[none]) (σ++[none]) H:=by
 have hl:=m.len
 refine m.reidx id (by rw[cx,cx,hl];rfl) (fun k a s e1 e2=>?_) fun _ _ _ _ _ _ e=>e
 rcases vD e1 with ⟨z,e⟩|⟨_,e⟩
 ·exact⟨e,by rw[cn (by omega)] at e2;exact e2⟩
 ·cases e
theorem M.snoc {v:V}{b:A}{H':Hp}(m:M F α σ H)(t:zC F H')(k:Kz F H H')(hn:∀x,foot (some v) b x→H x=none)(hok:xV (sub (fun x=>¬Ow F α σ x∧¬foot (some v) b x) H') F H' (some v) b)(hx:noX b:=by trivial):M F (α++[some b]) (σ++[some v]) H':=by
 have hl:=m.len
 have mg:=m.grow
 have ow:∀{y:Addr},Ow F (α++[none]) (σ++[none]) y→Ow F α σ y:=fun {y} h=>by
  rcases h with z|⟨i,c,s,e1,e2,fo⟩
  ·exact .inl z
  ·rcases vD e1 with ⟨z,e⟩|⟨_,e⟩
   ·exact .inr ⟨i,c,s,e,by rw[cn (by omega)] at e2;exact e2,fo⟩
   ·cases e
 have m2:=mg.store (i:=α.length) (v:=v) (b:=b) t k hn (hok.stay (zk fun a o h e=>⟨⟨fun z=>h.1 (ow z),h.2⟩,e⟩) (fun x o f e=>by
  obtain⟨w1,w2,_⟩:=vv hok f
  exact⟨e,w1,w2⟩) rfl fun _ _ _ l=>l) hx
 have e1:(α++[none]).set α.length (some b)=α++[some b]:=by rw[ag _ _ (dQ _),cS]<;>rfl
 have e2:(σ++[none]).set α.length (some v)=σ++[some v]:=by rw[ag _ _ (by omega),hl,cS]<;>rfl
 rw[e1,e2] at m2
 exact m2
theorem M.len' {b:Option A}{s:Option V}(m:M F (α++[b]) (σ++[s]) H):α.length=σ.length:=by
 have:=m.len
 rw[cx,cx] at this
 exact Nat.add_right_cancel this
theorem M.lastAt {b:A}{v:V}{i:Nat}(m:M F (α++[some b]) (σ++[some v]) H):M F (α.set i (some b)) (σ.set i (some v)) H:=by
 have hl:=m.len'
 have key:∀{k:Nat} {a:A},(α.set i (some b))[k]?=some (some a)→k<α.length∧((k=i∧a=b)∨(k≠i∧α[k]?=some (some a))):=fun {k a} e=>by
  have hk:=(dN.mp e).1
  rw[cq] at hk
  rcases zy e with ⟨rfl,z⟩|⟨z1,z2⟩
  ·cases z;exact⟨hk,.inl ⟨rfl,rfl⟩⟩
  ·exact⟨hk,.inr ⟨fun w=>z1 w.symm,z2⟩⟩
 refine m.reidx (fun k=>if k=i then α.length else k) (by rw[cq,cq];exact hl) (fun k a s e1 e2=>?_) fun k k' a a' e e' z=>?_
 ·obtain⟨hk,⟨rfl,rfl⟩|⟨hne,e⟩⟩:=key e1
  ·rw[if_pos rfl]
   rw[cT (by omega)] at e2
   cases e2
   exact⟨by rw[cp (dQ _),cS]<;>rfl,by rw[cp (by omega),hl,cS]<;>rfl⟩
  ·rw[if_neg hne]
   rw[cF (fun w=>hne w.symm)] at e2
   exact⟨by rw[cn hk];exact e,by rw[cn (by omega)];exact e2⟩
 ·have h1:=(key e).1
  have h2:=(key e').1
  by_cases z1:k=i
  ·by_cases z2:k'=i
   ·omega
   ·rw[if_pos z1,if_neg z2] at z;omega
  ·by_cases z2:k'=i
   ·rw[if_neg z1,if_pos z2] at z;omega
   ·rw[if_neg z1,if_neg z2] at z;exact z
theorem tj {S:Addr→Prop}{G H:Hp}{x:Addr}{o:HO}(h:G x=some o)(hs:¬S x)(hn:∀xs,o≠.lst xs):vp S G H x=some o:=by
 unfold vp
 rw[if_neg hs,h]
 cases o<;>first|rfl|exact absurd rfl (hn _)
theorem lG {S:Addr→Prop}{p:Addr→Prop}{H:Hp}{x:Addr}{o:HO}(h:vp S (sub p H) H x=some o):H x=some o:=by
 rcases uh h with ⟨_,z⟩|⟨_,z⟩
 ·exact z
 ·exact (zh z).2
end
structure Xok (X:Cx)(r:Fr)(αh:Ev)(q:PyData→Prop):Prop where
 ex:∃(X0:Cx) (R:St→Addr→Hp→Prop),X=X0.wish (XE X0 R)∧X0.stack=X0.env::X0.outer∧X0.ex=[]∧∀σ d S a H',M r (αh++[some (.deep d S)]) (σ++[some (.ref a)]) H'→q d→R σ a H'
theorem Xok.own {X:Cx}{r:Fr}{αh:Ev}{q:PyData→Prop}(x:Xok X r αh q):PassesOwn (model X.prog X.w) X.A X.env X.xe:=by
 obtain⟨X0,R,rfl,h1,_⟩:=x.ex
 exact il h1
section
variable {F:Fr}{α αh:Ev}{σ:St}{H:Hp}
theorem M.exc {j:Nat}{q:PyData→Prop}(m:M F α σ H)(hj:α[j]?=some none):M F (α.set j (some (.exc F q))) σ H:=by
 have hs:∀{i:Nat} {c:A},(α.set j (some (.exc F q)))[i]?=some (some c)→(i=j∧c=.exc F q)∨α[i]?=some (some c):=fun {i c} e=>by
  rcases zy e with ⟨rfl,z⟩|⟨_,e'⟩
  ·cases z;exact .inl ⟨rfl,rfl⟩
  ·exact .inr e'
 have ow:∀{y:Addr},Ow F (α.set j (some (.exc F q))) σ y→Ow F α σ y:=fun {y} h=>by
  rcases h with z|⟨i,c,s,e1,e2,f⟩
  ·exact .inl z
  ·rcases hs e1 with ⟨_,rfl⟩|e1
   ·exact f.elim
   ·exact .inr ⟨i,c,s,e1,e2,f⟩
 have gs:zm (Gz F α σ H) (Gz F (α.set j (some (.exc F q))) σ H):=zk fun a o h e=>⟨fun z=>h (ow z),e⟩
 refine⟨by rw[cq];exact m.len,fun i c s e1 e2=>?_,fun i i' c c' s s' x e1 e2 h1 h2 f1 f2=>?_,fun i r' q' e i' c s x e1 e2 f=>?_,m.tp,m.keep,m.oex⟩
 ·rcases hs e1 with ⟨_,rfl⟩|e1
  ·exact⟨rfl,fun _ z=>z,m.tp,m.keep⟩
  ·exact (m.ok i c s e1 e2).stay gs (fun x o f e=>⟨e,(m.ft e1 e2 f).1,(m.ft e1 e2 f).2.1⟩) rfl fun _ _ _ l=>l
 ·rcases hs e1 with ⟨_,rfl⟩|e1
  ·exact f1.elim
  ·rcases hs e2 with ⟨_,rfl⟩|e2
   ·exact f2.elim
   ·exact m.dj i i' c c' s s' x e1 e2 h1 h2 f1 f2
 ·rcases hs e1 with ⟨_,rfl⟩|e1
  ·exact f.elim
  ·rcases hs e with ⟨_,z⟩|e
   ·cases z;exact (m.ft e1 e2 f).2.1
   ·exact m.xd i r' q' e i' c s x e1 e2 f
theorem M.back {j:Nat}{r:Fr}{q:PyData→Prop}(m:M F α σ H)(hj:α[j]?=some (some (.exc r q)))(hl:αh.length=α.length)(le:∀(i:Nat) a,αh[i]?=some (some a)→α[i]?=some (some a)∧noX a):M r αh σ H:=by
 have l:=m.lnk hj
 have ow:∀{y:Addr},Ow r αh σ y→Ow F α σ y:=fun {y} h=>by
  rcases h with z|⟨i,c,s,e1,e2,f⟩
  ·exact .inl (l.o y z)
  ·exact .inr ⟨i,c,s,(le _ _ e1).1,e2,f⟩
 have gs:zm (Gz F α σ H) (Gz r αh σ H):=zk fun a o h e=>⟨fun z=>h (ow z),e⟩
 refine⟨hl.trans m.len,fun i c s e1 e2=>?_,fun i i' c d s s' x e1 e2=>m.dj i i' c d s s' x (le _ _ e1).1 (le _ _ e2).1,fun i r' q' e=>((le _ _ e).2:False).elim,l.ok,l.k,fun x hx=>m.oex x (l.o x hx)⟩
 refine (m.ok i c s (le _ _ e1).1 e2).stay gs (fun x o f e=>⟨e,fun z=>(m.ft (le _ _ e1).1 e2 f).1 (l.o x z),m.xd j r q hj i c s x (le _ _ e1).1 e2 f⟩) l.tp fun r' q' z=>?_
 subst z
 exact ((le _ _ e1).2:False).elim
end
def leX :Ev→Ev→Prop:=fun αh α=>αh.length=α.length∧∀(i:Nat) a,αh[i]?=some (some a)→α[i]?=some (some a)∧noX a
theorem leX.nil {n:Nat}{α:Ev}(h:n=α.length):leX (List.replicate n none) α:=⟨by rw[af];exact h,fun i a e=>by
 rw[bp] at e
 split at e<;>cases e⟩
theorem leX.cons {x y:Option A}{αh α:Ev}(h:x=none∨(x=y∧∀a,x=some a→noX a))(r:leX αh α):leX (x::αh) (y::α):=⟨by rw[cf,cf,r.1],fun i a e=>by
 cases i with
 |zero=>
  simp at e
  rcases h with h|⟨h1,h2⟩
  ·rw[h] at e;cases e
  ·subst h1;subst e;exact⟨rfl,h2 _ rfl⟩
 |succ i=>simpa using r.2 i a (by simpa using e)⟩
theorem leX.nil' :leX [] []:=⟨rfl,fun i a e=>by simp at e⟩
theorem leX.snoc {αh α:Ev}{b:A}(h:leX αh α)(hb:noX b):leX (αh++[some b]) (α++[some b]):=⟨by rw[cx,cx,h.1],fun i a e=>by
 rcases vD e with ⟨z,e⟩|⟨z,e⟩
 ·rw[cn (by rw[←h.1];exact z)]
  exact h.2 i a e
 ·cases e
  rw[z,h.1,cp (dQ _),cS]
  exact⟨rfl,hb⟩⟩
theorem M.backS {F:Fr}{α αh:Ev}{σ:St}{H:Hp}{j:Nat}{r:Fr}{q:PyData→Prop}{b:A}{v:V}(m:M F (α++[some b]) (σ++[some v]) H)(hj:α[j]?=some (some (.exc r q)))(le:leX αh α)(hb:noX b):M r (αh++[some b]) (σ++[some v]) H:=by
 have hj':(α++[some b])[j]?=some (some (.exc r q)):=by rw[cn (dN.mp hj).1];exact hj
 exact m.back hj' (le.snoc hb).1 (le.snoc hb).2
theorem wI {r:Fr}{αh:Ev}{σ:St}{H':Hp}{d:PyData}{S:Addr→Prop}{a:Addr}(m:M r (αh++[some (.deep d S)]) (σ++[some (.ref a)]) H'):mB r (.ref a) H' (.deep d S):=by
 obtain⟨v,h1,h2,h3⟩:=m.deep αh.length d S (by rw[cp (dQ _),cS]<;>rfl)
 rw[m.len',cp (dQ _),cS] at h1
 cases h1
 exact⟨h2.same (wM (zk fun a o h e=>⟨ow0 h,e⟩) fun _ _ _ e=>e),h3⟩
def spX (φ:List A→(A→Prop)→(PyData→Prop)→Prop):Sp:=fun vs H Qc E=>∃(F:Fr) (as:List A) (Q:A→Prop) (q:PyData→Prop),F.H0=H∧zC F H∧(∀x,F.O0 x→∃o,H x=some o∧xH o)∧zL F (sub (fun x=>¬F.O0 x) H) vs as∧φ as Q q∧(∀a v H',Q a→xG F v H' a→Qc v H')∧∀d S a H',q d→xG F (.ref a) H' (.deep d S)→E (.ref a) none H'
section
variable {P:Program}{w:World}{K:PySem.W.Frag}{mg:Str→Option Value}{base:Heap}
theorem fnX {x qual:Str}{st:Stmt}{f:Addr}{fd:FuncData}{N ps:List Str}{z:Str}{k:Nat}{φ:List A→(A→Prop)→(PyData→Prop)→Prop}(G:Fun K x qual st f fd)(S:zl (N++[z]) ps (za st))(hpn:ps.length≤N.length)(hlen:∀as Q q,φ as Q q→as.length=ps.length)
  (hbody:∀(cdv:Value) (A':Around) (outer:List Env) (s:Shared) (H:Hp) (E:XK) (as:List A) (Q:A→Prop) (q:PyData→Prop) (r:Fr) (xe:Value→Shared→Prop),zI k (A'.deeper (envOfC qual (za st) s.heap.objs.size f cdv))→φ as Q q→Xok ((yF (CX1 P w base) P w K mg base (N++[z]) qual (za st) f cdv A' outer s H E).wish xe) r (List.replicate (N.length+1) none) q→
   SvS ((yF (CX1 P w base) P w K mg base (N++[z]) qual (za st) f cdv A' outer s H E).wish xe) ((as.map some++List.replicate (N.length-as.length) none)++[some (.exc r fun _=>True)]) (zq st) {nx:=fun _=>Q (.dat .none),rt:=Q}):zt P w K mg base (CX1 P w base) (k+1) f fd ps (spX φ):=by
 refine G.okX S (fun vs H Q E h=>?_) (fun cdv A' outer s H vs Qc E hr h=>?_)
 ·obtain⟨F,as,Q',q,_,_,_,rv,hφ,_⟩:=h
  rw[rv.length,hlen as _ _ hφ]
 ·obtain⟨F,as,Q',q,e,t,o,rv,hφ,kk,kx⟩:=h
  have hl:=hlen as _ _ hφ
  have m:=M.start (N:=N++[z]) e t o rv
  have ea:as.map some++List.replicate ((N++[z]).length-as.length) none=(as.map some++List.replicate (N.length-as.length) none)++[none]:=by
   rw[cx,aE,show N.length+1-as.length=(N.length-as.length)+1 by omega,List.replicate_succ',List.append_assoc]
  rw[ea] at m
  have el:(as.map some++List.replicate (N.length-as.length) (none:Option A)).length=N.length:=by rw[cx,dU,af];omega
  have mx:=m.exc (j:=N.length) (q:=fun _=>True) (by rw[cp (by omega),el,cS]<;>rfl)
  have es:((as.map some++List.replicate (N.length-as.length) (none:Option A))++[none]).set N.length (some (A.exc F fun _=>True))=(as.map some++List.replicate (N.length-as.length) none)++[some (.exc F fun _=>True)]:=by
   rw[ag _ _ (by omega),el,cS]<;>rfl
  rw[es] at mx
  refine hbody cdv A' outer s H E as Q' q F _ hr hφ ⟨_,_,rfl,rfl,rfl,fun σ d S a H' mr qd=>kx d S a H' qd ⟨mr.tp,mr.keep,wI mr⟩⟩ F _ H _ mx ⟨fun α σ H' m q=>?_,fun a v H' r q=>kk a v H' q r,fun _ _ _ _ z=>z.elim,fun _ _ _ _ z=>z.elim⟩
  exact kk _ _ _ q ⟨m.tp,m.keep,.non⟩
end
structure nz (P:Program)(w:World)(K:PySem.W.Frag)(mg:Str→Option Value)(base:Heap)(x:Str)(k:Nat)(φ:List A→(A→Prop)→(PyData→Prop)→Prop):Prop where
 ex:∃f fd ps,mg x=some (.ref f)∧PySem.W.keepIn K (.ref f)=true∧Binds K fd ps []∧zt P w K mg base (CX1 P w base) k f fd ps (spX φ)
def fk (C:Addr)(fl:Str):Sp:=fun vs H Qc _=>∃(a:Addr) (i:Int),vs=[.ref a,.int i]∧i.natAbs.log2<1920∧H a=some (xcF a C none)∧∀dx,H dx=none→dx≠a→Qc .non (upd (upd H dx (.xd [(fl,.int i)])) a (xcF a C (some dx)))
structure XMk (P:Program)(w:World)(K:PySem.W.Frag)(mg:Str→Option Value)(base:Heap)(x:Str)(k:Nat)(C:Addr)(fl:Str):Prop where
 m:mg x=some (.ref C)
 kp:PySem.W.keepIn K (.ref C)=true
 ex:∃S f fd ps,yB K C S (some (.ref f))=true∧PySem.W.typeIn K (.ref f)=some (.type "function")∧Binds K fd ps []∧zt P w K mg base CX0 k f fd ps (fk C fl)
structure iM (K:PySem.W.Frag)(mg:Str→Option Value)(x:Str)(C:Addr):Prop where
 m:mg x=some (.ref C)
 kp:PySem.W.keepIn K (.ref C)=true
 ex:∃S,yB K C S none=true
section
variable {X:Cx}{α αh:Ev}{r:Fr}{q q0:PyData→Prop}{j k:Nat}{x fl:Str}{C:Addr}{e:Expr}{es:List Expr}{p pos pos':Pos}{rest:List Stmt}{E:yu}
theorem ng (xo:Xok X r αh q)(hc:X.calm=true)(ck:XMk X.prog X.w X.K X.mg X.base x k C fl)(hr:zI (k+1) X.A)(hg:Gl X x)(hj:α[j]?=some (some (.exc r q0)))(le:leX αh α)(h:EvD X α e fun d=>∃i:Int,d=.int i∧i.natAbs.log2<1920∧q (xD C [(.str fl,.int i)]))
  (hdb:(x == ("__debug__":Str))=false:=by decide) (he:starEach [e] X.env=(false,eval e X.env)::starEach [] X.env:=by rfl):SvS X α (.Raise (some (.Call (.Name x p) [e] [] pos)) none pos'::rest) E:=fun F σ H D m rr=>by
 obtain⟨X0,R,rfl,h1,h2,h3⟩:=xo.ex
 obtain⟨S,f,fd,ps,c,hf,hb,G⟩:=ck.ex
 refine⟨_,zu (sL c hc (mI (X:=X0.wish (XE X0 R)) c hf ck.kp G hr hg ck.m hb (zb zi zj he) hdb he)) zM,?_⟩
 refine h F σ H _ m fun d v H1 q1 t1 k1 r1=>?_
 obtain⟨i,rfl,hi,qi⟩:=q1
 cases r1.int_inv
 refine⟨dS rfl,fun a ha=>⟨a,i,rfl,hi,zd,fun dx hd hne=>⟨rfl,a,some dx,rfl,zd,?_⟩⟩⟩
 have m1:=m.kz k1 t1
 rw[xY]
 have hd1:H1 dx=none:=by rw[zc hne] at hd;exact hd
 generalize hH3:upd (upd (upd H1 a (xcF a C none)) dx (HO.xd [(fl,.int i)])) a (xcO a C (some dx))=H3
 have sm:zm H1 H3:=fun y o e=>by
  have ya:y≠a:=fun z=>by rw[z,ha] at e;cases e
  have yd:y≠dx:=fun z=>by rw[z,hd1] at e;cases e
  rw[←hH3,zc ya,zc yd,zc ya]
  exact e
 have fa:∀y,H1 y=none→¬Ow F α σ y∧¬foot (some (.ref a)) (.deep (xD C [(.str fl,.int i)]) fun _=>False) y:=fun y hy=>⟨m1.fresh hy,fun z=>z⟩
 have m3:=m1.snoc (v:=.ref a) (b:=.deep (xD C [(.str fl,.int i)]) fun _=>False) (H':=H3) (m1.tp.same sm) (Kz.of_same sm) (fun x z=>z.elim) ⟨_,rfl,.xc (dx:=dx) (fs:=[(fl,.int i)]) (tj (zx (fa a ha) (by rw[←hH3];exact zd)) (fun z=>z) fun xs z=>by cases z) (tj (zx (fa dx hd1) (by rw[←hH3,zc hne];exact zd)) (fun z=>z) fun xs z=>by cases z) (.cons (.int i) .nil),fun x z=>z.elim⟩
 exact h3 σ _ _ a H3 (m3.backS hj le trivial) qi
theorem oz (xo:Xok X r αh q)(hc:X.calm=true)(ck:iM X.K X.mg x C)(hg:Gl X x)(hj:α[j]?=some (some (.exc r q0)))(le:leX αh α)(h:EvD X α e fun _=>q (xD0 C))
  (hdb:(x == ("__debug__":Str))=false:=by decide) (he:starEach [e] X.env=(false,eval e X.env)::starEach [] X.env:=by rfl):SvS X α (.Raise (some (.Call (.Name x p) [e] [] pos)) none pos'::rest) E:=fun F σ H D m rr=>by
 obtain⟨X0,R,rfl,h1,h2,h3⟩:=xo.ex
 obtain⟨S,c⟩:=ck.ex
 refine⟨_,zu (sL c hc (oH (X:=X0.wish (XE X0 R)) c ck.kp hg ck.m (zb zi zj he) hdb he)) zM,?_⟩
 refine h F σ H _ m fun d v H1 q1 t1 k1 r1=>?_
 refine⟨dS rfl,fun a ha=>⟨a,none,rfl,zd,?_⟩⟩
 have m1:=m.kz k1 t1
 rw[xY]
 have sm:zm H1 (upd H1 a (xcO a C none)):=fun y o e=>by rw[zc (fun z=>by rw[z,ha] at e;cases e)];exact e
 have m3:=m1.snoc (v:=.ref a) (b:=.deep (xD0 C) fun _=>False) (H':=upd H1 a (xcO a C none)) (m1.tp.same sm) (Kz.of_same sm) (fun x z=>z.elim) ⟨_,rfl,.xn (tj (zx ⟨m1.fresh ha,fun z=>z⟩ zd) (fun z=>z) fun xs z=>by cases z),fun x z=>z.elim⟩
 exact h3 σ _ _ a _ (m3.backS hj le trivial) q1
theorem mM {X0:Cx}{R:St→Addr→Hp→Prop}{f:Addr}{fd:FuncData}{ps:List Str}{sp:Sp}{t:TA}(hex:X0.ex=[])(F:zt X0.prog X0.w X0.K X0.mg X0.base (CX1 X0.prog X0.w X0.base) k f fd ps sp)(hr:zI k X0.A)(hg:Gl X0 x)(hm:X0.mg x=some (.ref f))(hk:PySem.W.keepIn X0.K (.ref f)=true)(hb:Binds X0.K fd ps [])
  (ha:PA (X0.wish (XE X0 R)) (e::es) t) (hdb:(x == ("__debug__":Str))=false:=by decide) (he:starEach (e::es) X0.env=(false,eval e X0.env)::starEach es X0.env:=by rfl) (hpl:(backTo pos (starEach es X0.env)).any (·.1)=false:=by rfl):
  PE (X0.wish (XE X0 R)) (.Call (.Name x p) (e::es) [] pos) (fun σ H Q=>t σ H fun vs H1=>∃E:XK,(∀a H',E (.ref a) none H'→R σ a H')∧sp vs H1 Q E):=by
 intro pins s σ H Q I h
 refine cZ (yE I hg hm ?_ hdb)
 refine bw (h₀:=X0.base) I.ok.mod.kin hk (thn (ha pos pins s σ H _ I h) fun us s1 ⟨vs,H1,I1,r,E,hE,q⟩=>⟨I1.kIn,?_⟩) he hpl
 have hl:(us++[]).length=ps.length:=by rw[cO,←r.length];exact F.len _ _ _ _ q
 have hbb:=hb s1 us I1.kIn hl
 rw[cO] at hbb
 refine bu (ae (F.run X0.A X0.stack s1 H1 ⟨us,[]⟩ us vs Q E hr I1.env0 hbb r q) fun r s' hq=>?_)
 cases r with
 |error e=>exact pD hex I1.unwish hq hE
 |ok fl=>
  cases fl with
  |ret u=>exact I1.after hq
  |next=>exact False.elim hq
  |brk=>exact False.elim hq
  |cont=>exact False.elim hq
variable {φ:List A→(A→Prop)→(PyData→Prop)→Prop}{Q:PyData→Prop}
theorem vg {F:Fr}{σ:St}{H:Hp}{vs:List V}{as:List A}{QA:A→Prop}{Rk:VK}{R:St→Addr→Hp→Prop}(m:M F α σ H)(hj:α[j]?=some (some (.exc r q0)))(le:leX αh α)(h3:∀σ d S a H',M r (αh++[some (.deep d S)]) (σ++[some (.ref a)]) H'→q d→R σ a H')(rv:zL F (Gz F α σ H) vs as)(hφ:φ as QA q)
  (kk:∀a v H',QA a→xG ⟨H,Ow F α σ,F.tp⟩ v H' a→Rk v H'):∃E:XK,(∀a H',E (.ref a) none H'→R σ a H')∧spX φ vs H Rk E:=by
 refine⟨fun v _ H'=>∃a,v=.ref a∧∃d S,q d∧xG ⟨H,Ow F α σ,F.tp⟩ (.ref a) H' (.deep d S),fun a H' ⟨a',e,d,S,qd,ra⟩=>?_,⟨⟨H,Ow F α σ,F.tp⟩,as,QA,q,rfl,m.tp.to rfl fun _ z=>.inl z,fun y z=>m.owEx z,zL.to (F:=F) (F':=⟨H,Ow F α σ,F.tp⟩) (fun _ _ e=>e) rfl rv,hφ,kk,fun d S a H' qd ra=>⟨a,rfl,d,S,qd,ra⟩⟩⟩
 cases e
 obtain⟨g1,g2,_⟩:=ra.back m
 obtain⟨_,_,g3,g4⟩:=ra
 have m3:=m.snoc (v:=.ref a) (b:=.deep d S) (H':=H') g1 g2 (fun x z=>(g4 x z).2.1) ⟨_,rfl,g3.same fun x o e=>?_,fun x z=>⟨ow0 (g4 x z).1,m.fresh0 (g4 x z).2.1,(g4 x z).2.2⟩⟩
 ·exact h3 σ d S a H' (m3.backS hj le trivial) qd
 ·unfold vp at e ⊢
  by_cases z:S x
  ·rw[if_pos z] at e ⊢;exact e
  ·rw[if_neg z] at e ⊢
   cases q:sub (fun x=>¬Ow F α σ x) H' x with
   |none=>rw[q] at e;cases e
   |some u=>
    obtain⟨w1,w2⟩:=zh q
    rw[zx (p:=fun x=>¬Ow F α σ x∧¬foot (some (V.ref a)) (.deep d S) x) ⟨w1,z⟩ w2]
    rw[q] at e
    exact e
theorem pZ {Q:List PyData→Prop}(xo:Xok X r αh q)(hj:α[j]?=some (some (.exc r q0)))(le:leX αh α)(C:nz X.prog X.w X.K X.mg X.base x k φ)(hr:zI k X.A)(hg:Gl X x)(h:EvA X α (e::es) fun as=>φ as (fun a=>∃ds,a=.own ds∧Q ds) q)
  (hdb:(x == ("__debug__":Str))=false:=by decide) (he:starEach (e::es) X.env=(false,eval e X.env)::starEach es X.env:=by rfl) (hpl:(backTo pos (starEach es X.env)).any (·.1)=false:=by rfl):EvL X α (.Call (.Name x p) (e::es) [] pos) Q:=fun F σ H Rk m kk=>by
 obtain⟨X0,R,rfl,h1,h2,h3⟩:=xo.ex
 obtain⟨f,fd,ps,c1,c2,c3,c4⟩:=C.ex
 refine⟨_,mM h2 c4 hr hg c1 c2 c3 yx hdb he hpl,?_⟩
 refine h F σ H _ m fun as vs H1 q1 t1 k1 r1=>?_
 have m1:=m.kz k1 t1
 refine vg m1 hj le h3 r1 q1 fun a v H' qa ra=>?_
 obtain⟨ds,rfl,qd⟩:=qa
 obtain⟨g1,g2,_⟩:=ra.back m1
 obtain⟨_,_,l,xs,ds',rfl,hc,w1,w2,w3,w4⟩:=ra
 cases hc
 exact kk ds _ H' qd g1 (k1.trans g2) (yt.back m k1 t1 ⟨l,xs,rfl,w1,w3,w4⟩)
end
section
variable {P:Program}{w:World}{K:PySem.W.Frag}{mg:Str→Option Value}{base:Heap}
theorem ff {x qual:Str}{st:Stmt}{f:Addr}{fd:FuncData}{N ps:List Str}{z:Str}{k:Nat}{φ:List A→(A→Prop)→(PyData→Prop)→Prop}(G:Fun K x qual st f fd)(hm:mg x=some (.ref f))(hb:Binds K fd ps [])(S:zl (N++[z]) ps (za st))(hpn:ps.length≤N.length)(hlen:∀as Q q,φ as Q q→as.length=ps.length)
  (hbody:∀(cdv:Value) (A':Around) (outer:List Env) (s:Shared) (H:Hp) (E:XK) (as:List A) (Q:A→Prop) (q:PyData→Prop) (r:Fr) (xe:Value→Shared→Prop),zI k (A'.deeper (envOfC qual (za st) s.heap.objs.size f cdv))→φ as Q q→Xok ((yF (CX1 P w base) P w K mg base (N++[z]) qual (za st) f cdv A' outer s H E).wish xe) r (List.replicate (N.length+1) none) q→
   SvS ((yF (CX1 P w base) P w K mg base (N++[z]) qual (za st) f cdv A' outer s H E).wish xe) ((as.map some++List.replicate (N.length-as.length) none)++[some (.exc r fun _=>True)]) (zq st) {nx:=fun _=>Q (.dat .none),rt:=Q}):nz P w K mg base x (k+1) φ:=
 ⟨f,fd,ps,hm,G.kp,hb,fnX G S hpn hlen hbody⟩
end
section
variable {X:Cx}{α αh:Ev}{q:PyData→Prop}{i j:Nat}{x n:Str}{B:Addr}{body suite rest:List Stmt}{b0:Stmt}{np hpos pos:Pos}{E:yu}
theorem qP {K:PySem.W.Frag}{r:Fr}{αh:Ev}(hq:∀d,q d→∃C,isX C d∧XB K C B):qV K B (fun σ a H=>∃d S,M r (αh++[some (.deep d S)]) (σ++[some (.ref a)]) H∧q d):=fun σ a H ⟨d,S,m,qd⟩=>by
 obtain⟨C,x,b⟩:=hq d qd
 obtain⟨av,_⟩:=wI m
 obtain⟨a',dx,e,h1,h2⟩:=x.at av
 cases e
 exact⟨C,dx,lG h1,fun y e=>by obtain⟨fs,h⟩:=h2 y e;exact⟨fs,lG h⟩,b⟩
theorem tF {β:Ev}{j:Nat}{a:A}{i:Nat}(e:(β.set j none)[i]?=some (some a)):β[i]?=some (some a):=by
 rcases zy e with ⟨_,z⟩|⟨_,z⟩
 ·cases z
 ·exact z
theorem M.drop {F:Fr}{β:Ev}{σ:St}{H:Hp}{j:Nat}(m:M F β σ H):M F (β.set j none) σ H:=m.forget (by rw[cq]) fun i a e=>tF e
theorem M.dropS {F:Fr}{β:Ev}{σ:St}{H:Hp}{j:Nat}(m:M F β σ H):M F (β.set j none) (σ.set j none) H:=by
 have m':=m.drop (j:=j)
 have gs:∀{i:Nat} {a:A} {s:Option V},(β.set j none)[i]?=some (some a)→(σ.set j none)[i]?=some s→σ[i]?=some s:=fun {i a s} e1 e2=>by
  by_cases z:j=i
  ·subst z
   rcases zy e1 with ⟨_,z⟩|⟨z,_⟩
   ·cases z
   ·exact absurd rfl z
  ·rw[cF z] at e2;exact e2
 have ow:∀{y:Addr},Ow F (β.set j none) (σ.set j none) y→Ow F (β.set j none) σ y:=fun {y} h=>by
  rcases h with z|⟨i,c,s,e1,e2,f⟩
  ·exact .inl z
  ·exact .inr ⟨i,c,s,e1,gs e1 e2,f⟩
 have gz:zm (Gz F (β.set j none) σ H) (Gz F (β.set j none) (σ.set j none) H):=zk fun a o h e=>⟨fun z=>h (ow z),e⟩
 exact⟨by rw[cq,cq];exact m.len,fun i c s e1 e2=>(m'.ok i c s e1 (gs e1 e2)).stay gz (fun x o f e=>⟨e,(m'.ft e1 (gs e1 e2) f).1,(m'.ft e1 (gs e1 e2) f).2.1⟩) rfl fun _ _ _ l=>l,fun i i' c d s s' x e1 e2 h1 h2=>m'.dj i i' c d s s' x e1 e2 (gs e1 h1) (gs e2 h2),fun i r' q' e i' c s x e1 e2=>m'.xd i r' q' e i' c s x e1 (gs e1 e2),m'.tp,m'.keep,m'.oex⟩
theorem vC (i j:Nat)(αh:Ev)(q:PyData→Prop)(hst:X.stack=X.env::X.outer)(hex:X.ex=[])(hN:X.N.Nodup)(hj:α[j]?=some none)(le:leX αh α)(hg:Gl X x)(hm:X.mg x=some (.ref B))(hq:∀d,q d→∃C,isX C d∧XB X.K C B)
  (h1:∀(pins:List (Addr×Obj)) (xe:Value→Shared→Prop) (r:Fr),Xok ((X.held pins).wish xe) r αh q→SvS ((X.held pins).wish xe) (α.set j (some (.exc r fun _=>True))) body {nx:=fun α'=>SvS X (α'.set j none) rest E,rt:=E.rt,bk:=fun α'=>E.bk (α'.set j none),ct:=fun α'=>E.ct (α'.set j none)})
  (h2:∀(pins:List (Addr×Obj)) (a:Addr) d S,q d→SvS ((X.held pins).suite a) (αh.set i (some (.deep d S))) (b0::suite) {nx:=fun α'=>SvS X (α'.set i none) rest E,rt:=E.rt,bk:=fun α'=>E.bk (α'.set i none),ct:=fun α'=>E.ct (α'.set i none)})
  (hi:X.N[i]?=some n:=by rfl) (hl:X.env.scope.names.lookup n=some .local:=by rfl) (hdb:(x == ("__debug__":Str))=false:=by decide):
  SvS X α (.Try body [.ExceptHandler (some (.Name x np)) (some n) (b0::suite) hpos] [] [] pos::rest) E:=fun F σ H D m rr=>by
 refine⟨_,zu (mz (R:=fun σ a H=>∃d S,M F (αh++[some (.deep d S)]) (σ++[some (.ref a)]) H∧q d) hst hN hi hl hg hm (qP hq) hdb) zM,fun pins=>?_,fun pins a σ' H' hR=>?_⟩
 ·refine h1 pins _ F ⟨_,_,rfl,hst,hex,fun σ d S a H' mr qd=>⟨d,S,mr,qd⟩⟩ F σ H _ (m.exc hj) ⟨fun α' σ' H' m' z=>?_,rr.rt,fun α' σ' H' m' z=>rr.bk _ _ _ m'.drop z,fun α' σ' H' m' z=>rr.ct _ _ _ m'.drop z⟩
  exact z F σ' H' D m'.drop rr
 ·obtain⟨d,S,mr,qd⟩:=hR
  refine h2 pins a d S qd F _ H' _ mr.lastAt ⟨fun α' σ' H' m' z=>?_,rr.rt,fun α' σ' H' m' z=>rr.bk _ _ _ m'.dropS z,fun α' σ' H' m' z=>rr.ct _ _ _ m'.dropS z⟩
  exact z F _ H' D m'.dropS rr
end
section
variable {X:Cx}{α:Ev}{p p1 pos:Pos}{a:Expr}{Q:PyData→Prop}{C S:Addr}{init:Option Value}
inductive TyX (K:PySem.W.Frag)(H:Hp):V→Addr→Prop where
 |mk {a C S:Addr} {d:Option Addr} {init:Option Value} (e:H a=some (xcO a C d)) (hd:∀dx,d=some dx→∃fs,H dx=some (.xd fs)) (c:XC K C S init):TyX K H (.ref a) C
theorem ui {pins:List (Addr×Obj)}{σ:St}{H:Hp}{s:Shared}{A:Around}{E:Value→Shared→Prop}{Q:Value→Shared→Prop}{c:Value}{b:Bool}{x:V}{u:Value}(I:Inv X pins σ H s)(rx:RelV x u)(ty:TyX X.K H x C)(e:PySem.W.kitOne X.K (.ref C) c=some b)(h:∀tk,Q (.bool b) {s with toks:=tk}):
  wpAny (model X.prog X.w) A (call (.builtin "isinstance") [u,c]) Q E s:=by
 cases ty with
 |@mk a C S d init ea hd xc=>
  cases (show u=Value.ref a from rx)
  obtain⟨ox,od,J,_⟩:=pJ I.hok ea hd
  exact cJ (nS xc) I.kIn J e (fun z=>nomatch z) h
theorem nD :xX X (.builtin "isinstance") (fun xs H Q=>∃x B C b,xs=[x,.ref B]∧TyX X.K H x C∧PySem.W.kitOne X.K (.ref C) (.ref B)=some b∧Q (.bl b) H):=by
 intro pins s σ H xs us Q I r h
 obtain⟨x,B,C,b,rfl,ty,e,q⟩:=h
 obtain⟨u,v,rfl,rx,ry⟩:=Vals.two r
 cases (show v=Value.ref B from ry)
 exact ui I rx ty e fun tk=>⟨.bl b,H,I.tok tk,rfl,q⟩
theorem qQ :xX X (.builtin "isinstance") (fun xs H Q=>∃x T C b,xs=[x,.ty T]∧TyX X.K H x C∧PySem.W.kitOne X.K (.ref C) (.type T)=some b∧Q (.bl b) H):=by
 intro pins s σ H xs us Q I r h
 obtain⟨x,T,C,b,rfl,ty,e,q⟩:=h
 obtain⟨u,v,rfl,rx,ry⟩:=Vals.two r
 cases (show v=Value.type T from ry)
 exact ui I rx ty e fun tk=>⟨.bl b,H,I.tok tk,rfl,q⟩
theorem mQ {G H:Hp}{pr:Addr→Prop}{v:V}{d:PyData}(x:isX C d)(c:XC X.K C S init)(h:AV (sub pr H) v d):TyX X.K H v C:=by
 obtain⟨a,dx,rfl,h1,h2⟩:=x.at h
 exact .mk (zh h1).2 (fun y e=>by obtain⟨fs,z⟩:=h2 y e;exact⟨fs,(zh z).2⟩) c
theorem zV {B:Addr}{x:Str}(hg:Gl X "isinstance")(hm:X.mg "isinstance"=none)(hgC:Gl X x)(hmC:X.mg x=some (.ref B))(h:EvD X α a fun d=>∃C S init b,isX C d∧XC X.K C S init∧PySem.W.kitOne X.K (.ref C) (.ref B)=some b∧Q (.bool b))
  (hdx:(x == ("__debug__":Str))=false:=by decide) (he:starEach [a,.Name x p1] X.env=(false,eval a X.env)::starEach [.Name x p1] X.env:=by rfl) (he2:starEach [.Name x p1] X.env=(false,eval (.Name x p1) X.env)::starEach [] X.env:=by rfl) (hpl:(backTo pos (starEach [.Name x p1] X.env)).any (·.1)=false:=by rfl):
  EvD X α (.Call (.Name "isinstance" p) [a,.Name x p1] [] pos) Q:=fun F σ H R m k=>by
 refine⟨_,zJ nD hg hm bE (zb zi (zb (xZ (v:=.ref B) hgC hmC rfl hdx) zj he2) he) (he:=he) (hpl:=hpl),?_⟩
 refine h F σ H _ m fun d vx H1 q1 t1 k1 r1=>?_
 obtain⟨C,S,init,b,x,c,e,q⟩:=q1
 exact⟨vx,B,C,b,rfl,mQ (G:=H1) x c r1,e,k _ _ H1 q t1 k1 (.bl b)⟩
theorem sH {T:String}{x:Str}(hg:Gl X "isinstance")(hm:X.mg "isinstance"=none)(hgC:Gl X x)(hmC:X.mg x=none)(hv:bootBuiltins x=some (.type T))(h:EvD X α a fun d=>∃C S init b,isX C d∧XC X.K C S init∧PySem.W.kitOne X.K (.ref C) (.type T)=some b∧Q (.bool b))(hn:x≠"__name__":=by decide)
  (hdx:(x == ("__debug__":Str))=false:=by decide) (he:starEach [a,.Name x p1] X.env=(false,eval a X.env)::starEach [.Name x p1] X.env:=by rfl) (he2:starEach [.Name x p1] X.env=(false,eval (.Name x p1) X.env)::starEach [] X.env:=by rfl) (hpl:(backTo pos (starEach [.Name x p1] X.env)).any (·.1)=false:=by rfl):
  EvD X α (.Call (.Name "isinstance" p) [a,.Name x p1] [] pos) Q:=fun F σ H R m k=>by
 refine⟨_,zJ qQ hg hm bE (zb zi (zb (wg hgC hmC hv (show RelV (.ty T) (.type T) from rfl) hn hdx) zj he2) he) (he:=he) (hpl:=hpl),?_⟩
 refine h F σ H _ m fun d vx H1 q1 t1 k1 r1=>?_
 obtain⟨C,S,init,b,x,c,e,q⟩:=q1
 exact⟨vx,T,C,b,rfl,mQ (G:=H1) x c r1,e,k _ _ H1 q t1 k1 (.bl b)⟩
end
section
variable {X:Cx}{α:Ev}{pos:Pos}{o:Expr}{f:Str}{Q:PyData→Prop}{C S:Addr}{init:Option Value}
theorem rp {pins:List (Addr×Obj)}{σ:St}{H:Hp}{s:Shared}{A:Around}{E:Value→Shared→Prop}{b:Bool}{Q:Value→Shared→Prop}{a dx:Addr}{fs:List (Str×V)}{v:V}(I:Inv X pins σ H s)(e:H a=some (xcO a C (some dx)))(ed:H dx=some (.xd fs))(c:XC X.K C S init)(n:PySem.W.findIn X.K (.ref C) f=some none)(l:fs.lookup f=some v)
  (h:∀u s',Inv X pins σ H s'→RelV v u→Q u s'):wpAny (model X.prog X.w) A (getAttr (.ref a) f b) Q E s:=by
 obtain⟨⟨ox,vs,h1,h2,h3,h4⟩,_⟩:=I.hok a _ e
 obtain⟨mA,ns,r⟩:=I.hok dx _ ed
 obtain⟨od,ho,hl⟩:=uO ns
 obtain⟨u,hu,ru⟩:=vn.some_of (v:=v) (o:=mA f) (by rw[←l];exact r f)
 have J:PySem.W.InstAt s.heap a ox C (some od):=pG h1 h2 ⟨vs,h4⟩ (by rw[h3];exact ho)
 obtain⟨nm,qn,N,bs,sn,sub,ab,col,dd,k0,k1,k2,k3,k5,mN,hC,hN,hi,T,cd,hcd,hdict,hmro,_⟩:=yk I.kIn c.ok
 have hh:PySem.W.hasDictIn X.K C=true:=by unfold PySem.W.hasDictIn;rw[hcd];exact hdict
 have q:=h u _ (I.tok (s.toks+1)) ru
 obtain⟨h0,g,d,t,os⟩:=s
 exact eo I.kIn c J (PySem.W.findObj_own hh n rfl (by rw[hl,hu])) (oQ ru) q
theorem jo {ta:TE}(c:XC X.K C S init)(n:PySem.W.findIn X.K (.ref C) f=some none)(he:PE X o ta)(hb:attributeBase o f X.env (eval o X.env)=eval o X.env):
  PE X (.Attribute o f pos) (fun σ H Q=>ta σ H fun x H1=>∃a dx fs v,x=.ref a∧H1 a=some (xcO a C (some dx))∧H1 dx=some (.xd fs)∧fs.lookup f=some v∧Q v H1):=by
 intro pins s σ H Q I h
 refine jz hb (thn (he pins s σ H _ I h) fun u s1 ⟨x,H1,I1,rx,a,dx,fs,v,ex,ea,ed,l,q⟩=>?_)
 subst ex
 obtain rfl:u=Value.ref a:=rx
 exact rp I1 ea ed c n l fun u' s2 I2 ru=>⟨v,H1,I2,ru,q⟩
theorem jC (c:XC X.K C S init)(n:PySem.W.findIn X.K (.ref C) f=some none)(h:EvD X α o fun x=>∃fs d,x=xD C fs∧kf fs f=some d∧Q d)(hb:attributeBase o f X.env (eval o X.env)=eval o X.env:=by rfl):EvD X α (.Attribute o f pos) Q:=fun F σ H R m k=>by
 refine⟨_,jo c n zi hb,?_⟩
 refine h F σ H _ m fun x vx H1 q1 t1 k1 r1=>?_
 obtain⟨fs,d,rfl,hf,q⟩:=q1
 obtain⟨a,dx,gs,rfl,h1,h2,h3⟩:=r1.xc_inv
 obtain⟨v,hv,av⟩:=h3.get hf
 exact⟨a,dx,gs,v,rfl,(zh h1).2,(zh h2).2,hv,k d v H1 q t1 k1 av⟩
end
section
variable {P:Program}{w:World}{K:PySem.W.Frag}{mg:Str→Option Value}{base:Heap}
theorem lp {st:Stmt}{f C S:Addr}{fd:FuncData}{qual n fl a b:Str}{init:Option Value}{j1 j2:Nat}{p1 p2 p3 p4 p5 p6 p7 p8 p9 p10 p11 p12 p13 p14:Pos}(G:Fun K "__init__" qual st f fd)(S':zl ["self",n] ["self",n] (za st))
  (hb:zq st=[.Expr (.Call (.Attribute (.Name "StayError" p1) "__init__" p2) [.Name "self" p3,.JoinedStr [.Constant (.str a) j1 p4,.FormattedValue (.Name n p5) (-1) none p6,.Constant (.str b) j2 p7] p8] [] p9) p10,.Assign [.Attribute (.Name "self" p11) fl p12] (.Name n p13) p14])
  (hg:(za st).names.lookup ("StayError":Str)=some .globalImplicit) (hm:mg "StayError"=some (.ref S)) (xs:XS K S) (xc:XC K C S init) (hn:PySem.W.findIn K (.ref C) fl=some none) (la:a.length≤10000) (lb:b.length≤10000)
  {pl:Env→Sem Bool} (ht:∀env:Env,eval (.Call (.Attribute (.Name "StayError" p1) "__init__" p2) [.Name "self" p3,.JoinedStr [.Constant (.str a) j1 p4,.FormattedValue (.Name n p5) (-1) none p6,.Constant (.str b) j2 p7] p8] [] p9) env=(do
   let ov ←eval (.Name "StayError" p1) env
   standAt p2.atName
   let (f,first) ←holding [ov] (getMethod ov "__init__" (pl env))
   callWith p9 f first (backTo p9 (starEach [.Name "self" p3,.JoinedStr [.Constant (.str a) j1 p4,.FormattedValue (.Name n p5) (-1) none p6,.Constant (.str b) j2 p7] p8] env)) (backToKw p9 (keywordEach [] env))))
  (v0:Vis (za st) "self") (v1:Vis (za st) n) (hd:(n == ("__debug__":Str))=false:=by decide) (hcd:(n == ("__classdict__":Str))=false:=by decide):zt P w K mg base CX0 1 f fd ["self",n] (fk C fl):=by
 refine G.ok S' (fun vs H Q E h=>?_) (fun cdv A outer s H vs Q E hr h=>?_)
 ·obtain⟨a,i,rfl,_⟩:=h
  rfl
 ·obtain⟨a',i,rfl,hi,ha,k⟩:=h
  rw[hb]
  refine⟨_,zu (vq (lP (C:=C) (init:=init) hg hm xs xc.ok (zb (yo (i:=0) rfl v0) (zb (rf yc (mE (yo (i:=1) rfl v1 hd hcd)) yc) zj)) (ht:=ht _))) (zo (jg (yo (i:=0) rfl v0) (yo (i:=1) rfl v1 hd hcd) xc hn)),?_⟩
  refine⟨_,rfl,a,rfl,la,_,rfl,i,rfl,hi,_,rfl,pP hi,b,rfl,lb,a',_,none,rfl,dS rfl,ha,?_⟩
  exact⟨_,rfl,_,rfl,a',rfl,ha,fun dx h1 h2=>k dx h1 h2⟩
end
section
variable {X:Cx}{α αh:Ev}{r:Fr}{q q0:PyData→Prop}{j k:Nat}{x fl:Str}{C:Addr}{e:Expr}{es:List Expr}{p pos pos':Pos}{rest:List Stmt}{E:yu}
end
section
variable {P:Program}{w:World}{K:PySem.W.Frag}{mg:Str→Option Value}{base:Heap}
end
def tP (K:Frag)(C S:Addr)(init:Option Value):Bool:=yB K C S init&&findIn K (.ref C) "__setattr__" == some (some (.builtin "object.__setattr__"))&&findIn K (.ref C) "__getattribute__" == some (some (.builtin "BaseException.__getattribute__"))&&findIn K (.ref C) "__getattr__" == some none&&findIn K (.ref C) "__class__" == some (some (.builtin "object.__class__"))&&specialIn K (.builtin "object.__class__") "__get__" == some (some (.builtin "getset_descriptor.__get__"))&&takesIn K (.builtin "object.__class__")==some true
theorem XC.of {K:Frag}{C S:Addr}{init:Option Value}(h:tP K C S init=true):XC K C S init:=by
 simp only[tP,cy,br] at h
 obtain⟨⟨⟨⟨⟨⟨h1,h2⟩,h3⟩,h4⟩,h5⟩,h6⟩,h7⟩:=h
 exact⟨h1,h2,h3,h4,h5,h6,h7⟩
def mf (K:Frag)(S:Addr):Bool:=readsIn K S (.type "type")&&(match findCls K (.ref S) (.type "type") "__init__" with|some (.val v)=>v == .builtin "ValueError.__init__"|_=>false)&&specialIn K (.ref S) "__getattribute__" == some (some (.builtin "type.__getattribute__"))
theorem XS.of {K:Frag}{S:Addr}(h:mf K S=true):XS K S:=by
 simp only[mf,cy,br] at h
 obtain⟨⟨h1,h2⟩,h3⟩:=h
 refine⟨h1,?_,h3⟩
 split at h2
 ·rename_i v e
  rw[e,br.mp h2]
 ·cases h2
def pk (K:Frag)(C B:Addr):Bool:=typeIn K (.ref B)==some (.type "type")&&mroIn K B (.type "BaseException")==some true&&mroIn K C (.ref B)==some true
theorem XB.of {K:Frag}{C B:Addr}(h:pk K C B=true):XB K C B:=by
 simp only[pk,cy,br] at h
 exact⟨h.1.1,h.1.2,h.2⟩
section
variable {P:Program}{w:World}{K:PySem.W.Frag}{mg:Str→Option Value}{base:Heap}
theorem sX.okX {dV:Value}{x qual:Str}{st:Stmt}{f:Addr}{fd:FuncData}{N ps:List Str}{k:Nat}{sp:Sp}(F:sX K x qual st dV f fd)(S:zl N ps (za st))(len:∀vs H Q E,sp vs H Q E→vs.length=ps.length)
  (hbody:∀(cdv:Value) (A:Around) (outer:List Env) (s:Shared) (H:Hp) (vs:List V) (Q:VK) (E:XK),zI k (A.deeper (envOfC qual (za st) s.heap.objs.size f cdv))→sp vs H Q E→
   ∃t,PSs ((yF (CX1 P w base) P w K mg base N qual (za st) f cdv A outer s H E).wish (XE (yF (CX1 P w base) P w K mg base N qual (za st) f cdv A outer s H E) fun _ a H=>E (.ref a) none H)) (zq st) t∧t {nx:=fun _ H'=>Q .non H',rt:=Q} (start N vs) H):zt P w K mg base (CX1 P w base) (k+1) f fd ps sp:=by
 obtain⟨oc,od,kV,doc,pm,an,cdv,ct,osl,rfl,lk,hcd⟩:=F.ex
 refine pS lk hcd S len fun A outer s H vs Q E hr hsp=>?_
 obtain⟨t,h,q⟩:=hbody cdv A outer s H vs Q E hr hsp
 exact⟨t,h.wishx fun e s z=>pA z,q⟩
theorem fZ {dV:Value}{x qual:Str}{st:Stmt}{f:Addr}{fd:FuncData}{N ps:List Str}{z:Str}{k:Nat}{φ:List A→(A→Prop)→(PyData→Prop)→Prop}(G:sX K x qual st dV f fd)(S:zl (N++[z]) ps (za st))(hpn:ps.length≤N.length)(hlen:∀as Q q,φ as Q q→as.length=ps.length)
  (hbody:∀(cdv:Value) (A':Around) (outer:List Env) (s:Shared) (H:Hp) (E:XK) (as:List A) (Q:A→Prop) (q:PyData→Prop) (r:Fr) (xe:Value→Shared→Prop),zI k (A'.deeper (envOfC qual (za st) s.heap.objs.size f cdv))→φ as Q q→Xok ((yF (CX1 P w base) P w K mg base (N++[z]) qual (za st) f cdv A' outer s H E).wish xe) r (List.replicate (N.length+1) none) q→
   SvS ((yF (CX1 P w base) P w K mg base (N++[z]) qual (za st) f cdv A' outer s H E).wish xe) ((as.map some++List.replicate (N.length-as.length) none)++[some (.exc r fun _=>True)]) (zq st) {nx:=fun _=>Q (.dat .none),rt:=Q}):zt P w K mg base (CX1 P w base) (k+1) f fd ps (spX φ):=by
 refine G.okX S (fun vs H Q E h=>?_) (fun cdv A' outer s H vs Qc E hr h=>?_)
 ·obtain⟨F,as,Q',q,_,_,_,rv,hφ,_⟩:=h
  rw[rv.length,hlen as _ _ hφ]
 ·obtain⟨F,as,Q',q,e,t,o,rv,hφ,kk,kx⟩:=h
  have hl:=hlen as _ _ hφ
  have m:=M.start (N:=N++[z]) e t o rv
  have ea:as.map some++List.replicate ((N++[z]).length-as.length) none=(as.map some++List.replicate (N.length-as.length) none)++[none]:=by
   rw[cx,aE,show N.length+1-as.length=(N.length-as.length)+1 by omega,List.replicate_succ',List.append_assoc]
  rw[ea] at m
  have el:(as.map some++List.replicate (N.length-as.length) (none:Option A)).length=N.length:=by rw[cx,dU,af];omega
  have mx:=m.exc (j:=N.length) (q:=fun _=>True) (by rw[cp (by omega),el,cS]<;>rfl)
  have es:((as.map some++List.replicate (N.length-as.length) (none:Option A))++[none]).set N.length (some (A.exc F fun _=>True))=(as.map some++List.replicate (N.length-as.length) none)++[some (.exc F fun _=>True)]:=by
   rw[ag _ _ (by omega),el,cS]<;>rfl
  rw[es] at mx
  refine hbody cdv A' outer s H E as Q' q F _ hr hφ ⟨_,_,rfl,rfl,rfl,fun σ d S a H' mr qd=>kx d S a H' qd ⟨mr.tp,mr.keep,wI mr⟩⟩ F _ H _ mx ⟨fun α σ H' m q=>?_,fun a v H' r q=>kk a v H' q r,fun _ _ _ _ z=>z.elim,fun _ _ _ _ z=>z.elim⟩
  exact kk _ _ _ q ⟨m.tp,m.keep,.non⟩
structure sN (P:Program)(w:World)(K:PySem.W.Frag)(mg:Str→Option Value)(base:Heap)(x:Str)(k:Nat)(φ:List A→(PyData→Prop)→Prop):Prop where
 ex:∃C f fd ps,mg x=some (.ref C)∧Mk K C f∧Binds K fd ps []∧zt P w K mg base (CX1 P w base) k f fd ps (spX fun as _ q=>∃as',as=.dat (nu C [])::as'∧φ as' q)
end
section
variable {X:Cx}{α αh:Ev}{r:Fr}{q q0:PyData→Prop}{j k:Nat}{x fl:Str}{C:Addr}{e:Expr}{es:List Expr}{p pos pos':Pos}{rest:List Stmt}{E:yu}{Q:PyData→Prop}{φ:List A→(PyData→Prop)→Prop}
theorem lj {X0:Cx}{R:St→Addr→Hp→Prop}{f:Addr}{fd:FuncData}{ps:List Str}{sp:Sp}{t:TA}(hex:X0.ex=[])(M':Mk X0.K C f)(F:zt X0.prog X0.w X0.K X0.mg X0.base (CX1 X0.prog X0.w X0.base) k f fd ps sp)(hr:zI (k+1) X0.A)(hg:Gl X0 x)(hm:X0.mg x=some (.ref C))(hb:Binds X0.K fd ps [])
  (ha:PA (X0.wish (XE X0 R)) (e::es) t) (hdb:(x == ("__debug__":Str))=false:=by decide) (he:starEach (e::es) X0.env=(false,eval e X0.env)::starEach es X0.env:=by rfl) (hpl:(backTo pos (starEach es X0.env)).any (·.1)=false:=by rfl):
  PE (X0.wish (XE X0 R)) (.Call (.Name x p) (e::es) [] pos) (fun σ H Q=>t σ H fun vs H1=>∀y dx,H1 y=none→H1 dx=none→dx≠y→∃E:XK,(∀a H',E (.ref a) none H'→R σ a H')∧sp (.ref y::vs) (upd (upd H1 dx (.own y)) y (.ins C dx [])) (fun v H2=>v=.non∧Q (.ref y) H2) E):=by
 intro pins s σ H Q I h
 refine cZ (yE I hg hm ?_ hdb)
 refine bw (h₀:=X0.base) I.ok.mod.kin M'.kp (thn (ha pos pins s σ H _ I h) fun us s1 ⟨vs,H1,I1,r,q⟩=>⟨I1.kIn,?_⟩) he hpl
 obtain⟨E,hE,hq⟩:=q (s1.heap.objs.size+1) s1.heap.objs.size (I1.hok.fresh (bK _)) (I1.hok.fresh (dQ _)) (cz (ai _))
 have I2:=Inv.made (C:=C) I1
 have r2:Vals (V.ref (s1.heap.objs.size+1)::vs) (Value.ref (s1.heap.objs.size+1)::us):=.cons rfl r
 have hl:(Value.ref (s1.heap.objs.size+1)::us++[]).length=ps.length:=by
  rw[cO,←r2.length]
  exact F.len _ _ _ _ hq
 have hbb:=hb _ (Value.ref (s1.heap.objs.size+1)::us) I2.kIn hl
 rw[cO] at hbb
 refine bu (rE (f:=f) I1.kIn M'.makes M'.init (br.mp M'.fn) (ae (F.run _ X0.stack _ _ ⟨Value.ref (s1.heap.objs.size+1)::us,[]⟩ (Value.ref (s1.heap.objs.size+1)::us) _ _ E (hr.make C us [])
  (I2.env0.make C us []) hbb r2 hq) fun r s' hq'=>?_))
 cases r with
 |error e=>exact pD hex I2.unwish hq' hE
 |ok fl=>
  cases fl with
  |ret u=>
   obtain⟨v,H',I3,rv,ev,q3⟩:=I2.after hq'
   subst ev
   exact⟨rv,⟨V.ref (s1.heap.objs.size+1),H',I3,rfl,q3⟩⟩
  |next=>exact False.elim hq'
  |brk=>exact False.elim hq'
  |cont=>exact False.elim hq'
theorem rG (xo:Xok X r αh q)(hj:α[j]?=some (some (.exc r q0)))(le:leX αh α)(C':sN X.prog X.w X.K X.mg X.base x k φ)(hr:zI (k+1) X.A)(hg:Gl X x)(h:EvA X α (e::es) fun as=>φ as q)
  (hdb:(x == ("__debug__":Str))=false:=by decide) (he:starEach (e::es) X.env=(false,eval e X.env)::starEach es X.env:=by rfl) (hpl:(backTo pos (starEach es X.env)).any (·.1)=false:=by rfl):EvD X α (.Call (.Name x p) (e::es) [] pos) Q:=fun F σ H Rk m kk=>by
 obtain⟨X0,R,rfl,h1,h2,h3⟩:=xo.ex
 obtain⟨C,f,fd,ps,c1,c2,c3,c4⟩:=C'.ex
 refine⟨_,lj h2 c2 c4 hr hg c1 c3 yx hdb he hpl,?_⟩
 refine h F σ H _ m fun as vs H1 q1 t1 k1 r1=>?_
 have m1:=m.kz k1 t1
 intro y dx hy hdx hne
 have sm:zm H1 (upd (upd H1 dx (.own y)) y (.ins C dx [])):=fun a o e=>by rw[zc (ze e hy),zc (ze e hdx)];exact e
 have m2:=m1.kz (Kz.of_same sm) (m1.tp.same sm)
 refine vg (as:=.dat (nu C [])::as) (QA:=fun _=>False) m2 hj le h3 (.cons ?_ (r1.same ?_)) ⟨as,rfl,q1⟩ fun a v H' z=>z.elim
 ·exact .ins (zx (m1.fresh hy) zd) .nil
 ·exact zk fun a o hh e=>⟨hh,sm a o e⟩
theorem qW {y f:Str}{p1 p2:Pos}(i:Nat)(h:EvD X α e fun _=>False)(hN:X.N[i]?=some y:=by rfl)(hv:Vis X.env.scope y:=by first|exact Or.inl rfl|exact Or.inr (Or.inl rfl)|exact Or.inr (Or.inr rfl))(hd:(y == ("__debug__":Str))=false:=by decide)(hcd:(y == ("__classdict__":Str))=false:=by decide)
  (hs:swapsWith e (some (.Attribute (.Name y p1) f p2)) pos.line X.env=pure false:=by rfl):SvS X α (.Assign [.Attribute (.Name y p1) f p2] e pos::rest) E:=fun F σ H D m r=>by
 refine⟨_,zu (uq (yo hN hv hd hcd) zi hs) zM,?_⟩
 exact h F σ H _ m fun d v H' z=>z.elim
theorem kr {a b:Str}{j1 j2:Nat}{p4 p6 p7 p8:Pos}(la:a.length≤10000)(lb:b.length≤10000)(h:EvD X α e fun d=>∃i:Int,d=.int i∧i.natAbs.log2<1920∧∀t:Str,Q (.str t)):EvD X α (.JoinedStr [.Constant (.str a) j1 p4,.FormattedValue e (-1) none p6,.Constant (.str b) j2 p7] p8) Q:=fun F σ H R m k=>by
 refine⟨_,rf yc (mE zi) yc,?_⟩
 refine⟨a,rfl,la,?_⟩
 refine h F σ H _ m fun d v H1 q1 t1 k1 r1=>?_
 obtain⟨i,rfl,hi,q⟩:=q1
 cases r1.int_inv
 exact⟨i,rfl,hi,_,rfl,pP hi,b,rfl,lb,k _ _ H1 (q _) t1 k1 (.str _)⟩
end
end L2
set_option maxHeartbeats 4000000
namespace K10
open PySem PySem.Spec PyProof.Rows L2
def top (i:Nat):Stmt:=PySem.Challenge.pw_stayprice_k10_no_book.main.body.getD i (.Pass ⟨0,0,0,0⟩)
abbrev uT :Stmt:=top 45
abbrev ml :Stmt:=top 46
def oq :Scope:=match zq uT with
 |[.Return (some (.List (.ListComp _ _ sc _::_) _)) _]=>sc
 |_=>za uT
section
variable {P:Program}{w:World}{K:PySem.W.Frag}{mg:Str→Option Value}{base:Heap}
theorem gI :zl ["_law_script"] ["_law_script"] (za uT):=⟨rfl,rfl,rfl,by decide +kernel,rfl,by decide +kernel,by decide +kernel⟩
theorem kb :zO ["_law_script"] (za uT) ["_law_cell"] [none] oq:=⟨rfl,by decide +kernel,by decide +kernel,by decide +kernel,by decide +kernel,rfl,by decide +kernel⟩
theorem kN {f:Addr}{fd:FuncData}(F:Fun K "_law_tape" "_law_tape" uT f fd)(T:iX mg):zt P w K mg base CX0 1 f fd ["_law_script"] (qG K):=by
 refine F.ok gI (fun vs H Q E h=>?_) (fun cdv A outer s H vs Q E hr h=>?_)
 ·obtain⟨a,ns,rfl,_⟩:=h
  rfl
 ·obtain⟨a,ns,rfl,hS,hlen,k⟩:=h
  refine⟨_,zo (zA (lW (zb
   (jX rfl kb (jr (vS pF (pv 0) tW (tS zg)))
    (fun _ _ _ _=>zX (i:=0) kb.nd rfl (Or.inl rfl))
    (fun _ _ _ _=>pM (zN eG (zJ rH (by rfl) T.abs boot_abs (zb (pv 0) zj)) (zY nY zg zg) (zw _)))
    (fun _ _ _ _=>zJ rH (by rfl) T.abs boot_abs (zb (pv 0) zj)))
   (zb (uR wG (by rfl) T.list boot_list (zb (vS pF (pv 0) tW (tS zg)) zj))
   (zb zg zj))))),?_⟩
  -- script[:63]
  refine⟨_,rfl,63,rfl,a,_,rfl,hS,fun l hl=>?_⟩
  obtain⟨ms,em,lm⟩:=kh ns none (some 63)
  rw[em]
  refine⟨l,rfl,⟨_,SqL.of zd⟩,fun acc hacc=>?_⟩
  have nal:acc≠l:=fun z=>by rw[z,zd] at hacc;cases hacc
  have hacc':H acc=none:=by rw[zc nal] at hacc;exact hacc
  have s0:zm H (upd H l (.lst (ms.map V.int))):=fun b o e=>by rw[zc (ze e hl)];exact e
  refine oN (K:=K) (a:=l) (xs:=ms.map V.int) (fun i ys τ H2=>∃(bs:List Int) (v:Option V),ys=bs.map V.int∧bs.length≤i∧τ=[v]∧H2=upd (upd H l (.lst (ms.map V.int))) acc (.lst (bs.map V.int)))
   ⟨[],none,rfl,dQ _,rfl,rfl⟩ ?_ ?_ ?_
  ·rintro i ys τ H2 _ ⟨bs,v,rfl,_,rfl,rfl⟩
   exact SqL.of (by rw[zc nal.symm,zd])
  ·rintro i x ys τ H2 hx ⟨bs,v,rfl,hb,rfl,rfl⟩
   have hi:i<ms.length:=by
    have:=(dN.mp hx).1
    rwa [dU] at this
   obtain⟨z,rfl⟩:∃z,x=V.int z:=by
    rw[cH] at hx
    cases e:ms[i]? with
    |none=>rw[e] at hx;cases hx
    |some z=>rw[e] at hx;exact⟨z,(cA hx).symm⟩
   refine⟨_,rfl,z,rfl,_,_,rfl,rfl,⟨by decide,by decide,by decide⟩,_,_,rfl,rfl,_,rfl,?_⟩
   refine yg (fun _=>?_) (fun _=>?_)
   ·refine⟨_,rfl,z,rfl,zd,?_,bs++[if z<0 then -z else z],_,?_,?_,rfl,?_⟩
    ·rw[dU];exact yH (by omega)
    ·rw[aw];rfl
    ·rw[cx];simp;omega
    ·rw[xY,aw];rfl
   ·exact⟨bs,_,rfl,by omega,rfl,rfl⟩
  ·rintro ys τ H2 ⟨bs,v,rfl,hb,rfl,rfl⟩
   rw[dU] at hb
   -- list(script[:63])
   have s1:zm H (upd (upd H l (.lst (ms.map V.int))) acc (.lst (bs.map V.int))):=fun b o e=>by rw[zc (ze e hacc')];exact s0 b o e
   refine⟨_,rfl,63,rfl,a,_,rfl,s1.seq hS,fun l2 hl2=>?_⟩
   rw[em]
   refine⟨l2,_,rfl,.inl (SqL.of zd),fun c hc=>?_⟩
   refine⟨(by show 3≤sizeLine;decide),fun t ht=>?_⟩
   have n1:l2≠acc:=fun z=>by rw[z,zd] at hl2;cases hl2
   have n2:c≠l2:=fun z=>by rw[z,zd] at hc;cases hc
   have hc2:upd (upd H l (.lst (ms.map V.int))) acc (.lst (bs.map V.int)) c=none:=by rw[zc n2] at hc;exact hc
   have n3:c≠acc:=fun z=>by rw[z,zd] at hc2;cases hc2
   have n4:t≠c:=fun z=>by rw[z,zd] at ht;cases ht
   have ht2:upd (upd (upd H l (.lst (ms.map V.int))) acc (.lst (bs.map V.int))) l2 (.lst (ms.map V.int)) t=none:=by rw[zc n4] at ht;exact ht
   have n5:t≠l2:=fun z=>by rw[z,zd] at ht2;cases ht2
   have ht3:upd (upd H l (.lst (ms.map V.int))) acc (.lst (bs.map V.int)) t=none:=by rw[zc n5] at ht2;exact ht2
   have n6:t≠acc:=fun z=>by rw[z,zd] at ht3;cases ht3
   refine k t acc c _ ⟨0,bs,ms,n3.symm,zd,?_,?_,by omega,by omega⟩ (s1.free ht3) hacc' (s1.free hc2) fun b o e=>?_
   ·rw[zc n6.symm,zc n3.symm,zc n1.symm,zd]
   ·rw[zc n4.symm,zd]
   ·have e1:=s1 b o e
    rw[zc (ze e1 ht3),zc (ze e1 hc2),zc (ze e1 hl2)]
    exact e1
theorem wN :zl ["_law_tape_here","_law_many","_law_found","_law_cell","_law_number"] ["_law_tape_here","_law_many"] (za ml):=⟨rfl,rfl,rfl,by decide +kernel,rfl,by decide +kernel,by decide +kernel⟩
theorem kQ {f:Addr}{fd:FuncData}(F:Fun K "_law_draw" "_law_draw" ml f fd)(T:iX mg):zt P w K mg base CX0 1 f fd ["_law_tape_here","_law_many"] lF:=by
 refine F.ok wN (fun vs H Q E h=>?_) (fun cdv A outer s H vs Q E hr h=>?_)
 ·obtain⟨t,b,c,many,rfl,_⟩:=h
  rfl
 ·obtain⟨t,b,c,many,rfl,⟨n,bs,cs,nbc,ht,hb,hc,lb,lc⟩,hm0,hm1,k⟩:=h
  have ntb:t≠b:=jO ht hb (qY bs)
  have ntc:t≠c:=jO ht hc (qY cs)
  have hlog:many.natAbs.log2<9000:=log2_small hm0 hm1
  -- tape[2]=tape[2]+1
  refine zH (fun σ H1=>σ=[some (.ref t),some (.int many),none,none,none]∧H1=upd H t (.lst [.ref b,.ref c,.int (n+1)]))
   ⟨_,rN (zY wY (zG zK (pv 0) zg (fun _ _=>rfl)) zg) (qw (pv 0) zg set_list),?_⟩ ?_
  ·exact⟨_,rfl,t,_,2,_,rfl,rfl,SqL.of ht,rfl,_,_,rfl,rfl,_,rfl,t,_,2,2,rfl,rfl,ht,rfl,rfl,rfl⟩
  rintro σ H1 ⟨rfl,hH1⟩
  have ht1:H1 t=some (.lst [.ref b,.ref c,.int (n+1)]):=by rw[hH1];exact zd
  have hb1:H1 b=some (.lst (bs.map V.int)):=by rw[hH1,zc ntb.symm];exact hb
  have hc1:H1 c=some (.lst (cs.map V.int)):=by rw[hH1,zc ntc.symm];exact hc
  have off1:sx t b H H1:=fun a h1 h2=>by rw[hH1,zc h1]
  clear hH1
  -- while len(tape[0]) > 0 and tape[0][0]==0:tape[0].pop(0)
  refine zH (fun σ H2=>∃bs2:List Int,bs2.length≤63∧σ=[some (.ref t),some (.int many),none,none,none]∧H2 t=some (.lst [.ref b,.ref c,.int (n+1)])∧H2 b=some (.lst (bs2.map V.int))∧H2 c=some (.lst (cs.map V.int))∧sx t b H H2)
   ⟨_,nV PassesOwn.never (ma (zN pB (zJ zW (by rfl) T.len bL (zb (zG zK (pv 0) zg (fun _ _=>rfl)) zj)) zg (zw _))
     (pf (zN wk (zG zK (zG zK (pv 0) zg (fun _ _=>rfl)) zg (fun _ _=>rfl)) zg (zw _)))).pt
    (zo (vq (jT PySem.F.plainAttrs_list PySem.F.slot_list_pop PySem.F.type_list_pop me (zG zK (pv 0) zg (fun _ _=>rfl)) (zb zg zj)))),?_⟩ ?_
  ·refine⟨fun m σ H2=>∃bs2:List Int,m=bs2.length∧bs2.length≤63∧σ=[some (.ref t),some (.int many),none,none,none]∧H2 t=some (.lst [.ref b,.ref c,.int (n+1)])∧H2 b=some (.lst (bs2.map V.int))∧H2 c=some (.lst (cs.map V.int))∧sx t b H H2,
    ⟨_,bs,rfl,lb,rfl,ht1,hb1,hc1,off1⟩,?_⟩
   rintro m σ H2 ⟨bs2,rfl,lb2,rfl,ht2,hb2,hc2,off2⟩
   refine⟨_,rfl,t,_,0,_,rfl,rfl,SqL.of ht2,rfl,b,_,rfl,.inl (SqL.of hb2),_,_,rfl,rfl,_,rfl,?_⟩
   refine yg (fun _=>?_) (fun _=>?_)
   ·cases bs2 with
    |nil=>rename_i z;simp at z
    |cons z r=>
     refine⟨_,rfl,t,_,0,_,rfl,rfl,SqL.of ht2,rfl,b,_,0,_,rfl,rfl,SqL.of hb2,at0,rfl,_,rfl,?_⟩
     refine yg (fun _=>?_) (fun _=>?_)
     ·refine⟨_,fun σ' H' h'=>h',_,rfl,t,_,0,_,rfl,rfl,SqL.of ht2,rfl,.inl ⟨rfl,_,SqL.of hb2⟩,b,_,0,0,_,rfl,rfl,hb2,by decide,by decide,eW,rfl,r.length,?_,r,rfl,?_,rfl,?_,zd,?_,?_⟩
      ·simp
      ·simp at lb2;omega
      ·rw[zc ntb];exact ht2
      ·rw[zc nbc.symm];exact hc2
      ·exact off2.trans fun a h1 h2=>by rw[zc h2]
     ·exact⟨_,lb2,rfl,ht2,hb2,hc2,off2⟩
   ·exact⟨_,lb2,rfl,ht2,hb2,hc2,off2⟩
  rintro σ H2 ⟨bs2,lb2,rfl,ht2,hb2,hc2,off2⟩
  -- if len(tape[0]) > 0:..
  refine zH (fun σ H3=>σ=[some (.ref t),some (.int many),none,none,none]∧H2=H3)
   ⟨_,yS (zN pB (zJ zW (by rfl) T.len bL (zb (zG zK (pv 0) zg (fun _ _=>rfl)) zj)) zg (zw _))
    (zu (xq (i:=2) wN.nd rfl (Or.inl rfl) (zY wo (zG zK (zG zK (pv 0) zg (fun _ _=>rfl)) zg (fun _ _=>rfl)) (pv 1)))
    (zu (rN (zY vI (zG zK (zG zK (pv 0) zg (fun _ _=>rfl)) zg (fun _ _=>rfl)) (pv 1)) (qw (zG zK (pv 0) zg (fun _ _=>rfl)) zg set_list))
    (zo (zA (pv 2))))) ye,?_⟩ ?_
  ·refine⟨_,rfl,t,_,0,_,rfl,rfl,SqL.of ht2,rfl,b,_,rfl,.inl (SqL.of hb2),_,_,rfl,rfl,_,rfl,?_⟩
   refine yg (fun _=>?_) (fun _=>?_)
   ·cases bs2 with
    |nil=>rename_i z;simp at z
    |cons z r=>
     refine⟨_,rfl,t,_,0,_,rfl,rfl,SqL.of ht2,rfl,b,_,0,_,rfl,rfl,SqL.of hb2,at0,_,rfl,_,_,rfl,rfl,hm0,?_⟩
     refine⟨_,rfl,t,_,0,_,rfl,rfl,SqL.of ht2,rfl,b,_,0,_,rfl,rfl,SqL.of hb2,at0,_,rfl,_,_,rfl,rfl,⟨hm0,hlog⟩,?_⟩
     refine⟨_,rfl,t,_,0,_,rfl,rfl,SqL.of ht2,rfl,b,_,0,0,rfl,rfl,hb2,ix0,_,rfl,?_⟩
     refine k _ _ (ax _ (Int.ne_of_gt hm0)) (bY _ hm0) ⟨n+1,(z / many)::r,cs,nbc,?_,zd,?_,?_,lc⟩ ?_
     ·rw[zc ntb];exact ht2
     ·rw[zc nbc.symm];exact hc2
     ·simpa using lb2
     ·exact off2.trans fun a h1 h2=>by rw[zc h2]
   ·exact⟨rfl,rfl⟩
  rintro σ H3 ⟨rfl,rfl⟩
  -- cell=5;if len(tape[1]) > 0:..
  refine zH (fun σ H3=>σ=[some (.ref t),some (.int many),none,some (.int 5),none]∧H2=H3) ⟨_,xq (i:=3) wN.nd rfl (Or.inl rfl) zg,rfl,rfl⟩ ?_
  rintro σ H3 ⟨rfl,rfl⟩
  refine zH (fun σ H3=>∃z:Int,σ=[some (.ref t),some (.int many),none,some (.int z),none]∧H2=H3)
   ⟨_,yS (zN pB (zJ zW (by rfl) T.len bL (zb (zG zK (pv 0) zg (fun _ _=>rfl)) zj)) zg (zw _))
    (zo (xq (i:=3) wN.nd rfl (Or.inl rfl) (zG zK (zG zK (pv 0) zg (fun _ _=>rfl)) (zY wo (zG zK (pv 0) zg (fun _ _=>rfl)) (zJ zW (by rfl) T.len bL (zb (zG zK (pv 0) zg (fun _ _=>rfl)) zj))) (fun _ _=>rfl)))) ye,?_⟩ ?_
  ·refine⟨_,rfl,t,_,1,_,rfl,rfl,SqL.of ht2,rfl,c,_,rfl,.inl (SqL.of hc2),_,_,rfl,rfl,_,rfl,?_⟩
   refine yg (fun hpos=>?_) (fun _=>?_)
   ·have hpos':0<cs.length:=by simpa using hpos
    have hp:(0:Int)<((cs.map V.int).length:Int):=by rw[dU];omega
    have h1:=ax (n+1) (Int.ne_of_gt hp)
    have h2:=bY (n+1) hp
    obtain⟨j,hj⟩:=Int.eq_ofNat_of_zero_le h1
    have hjl:j<cs.length:=by rw[hj,dU] at h2;omega
    refine⟨_,rfl,t,_,1,_,rfl,rfl,SqL.of ht2,rfl,_,rfl,t,_,2,_,rfl,rfl,SqL.of ht2,rfl,_,rfl,t,_,1,_,rfl,rfl,SqL.of ht2,rfl,c,_,rfl,.inl (SqL.of hc2),_,_,rfl,rfl,hp,c,_,_,V.int cs[j],rfl,rfl,SqL.of hc2,?_,cs[j],rfl,rfl⟩
    rw[hj]
    exact wA (by rw[cH,dP hjl];rfl)
   ·exact⟨5,rfl,rfl⟩
  rintro σ H3 ⟨z,rfl,rfl⟩
  -- the numbers
  refine zH (fun σ H3=>∃y:Int,(0≤y∧y<2147483647)∧σ=[some (.ref t),some (.int many),none,some (.int z),some (.int y)]∧H2=H3)
   ⟨_,xq (i:=4) wN.nd rfl (Or.inl rfl) (zY wo (zY vN (zY wY (zY wY (zY wo (pv 3) zg) (zY vN zg (zG zK (pv 0) zg (fun _ _=>rfl)))) zg) zg) zg),?_⟩ ?_
  ·exact⟨_,rfl,_,_,rfl,rfl,(by show (0:Int)<999983;decide),_,rfl,t,_,2,_,rfl,rfl,SqL.of ht2,rfl,_,_,rfl,rfl,.inl ⟨by decide,by decide⟩,_,_,rfl,rfl,_,_,rfl,rfl,_,_,rfl,rfl,.inr ⟨by decide,by decide⟩,_,_,rfl,rfl,(by show (0:Int)<2147483647;decide),
    _,⟨ax _ (by decide),bY _ (by decide)⟩,rfl,rfl⟩
  rintro σ H3 ⟨y,⟨hy0,hy1⟩,rfl,rfl⟩
  refine zH (fun σ H3=>∃y:Int,(0≤y∧y<2147483647)∧σ=[some (.ref t),some (.int many),none,some (.int z),some (.int y)]∧H2=H3)
   ⟨_,xq (i:=4) wN.nd rfl (Or.inl rfl) (zY wo (zY wY (zY wY (zY vN (pv 4) (pv 4)) (zY vN zg (zG zK (pv 0) zg (fun _ _=>rfl)))) zg) zg),?_⟩ ?_
  ·refine⟨_,rfl,_,rfl,_,_,rfl,rfl,.inl ⟨by omega,by omega⟩,_,rfl,t,_,2,_,rfl,rfl,SqL.of ht2,rfl,_,_,rfl,rfl,.inl ⟨by decide,by decide⟩,_,_,rfl,rfl,_,_,rfl,rfl,_,_,rfl,rfl,(by show (0:Int)<2147483629;decide),
    _,⟨ax _ (by decide),Int.lt_trans (bY _ (by decide)) (by decide)⟩,rfl,rfl⟩
  rintro σ H3 ⟨y2,⟨hy0,hy1⟩,rfl,rfl⟩
  refine⟨_,zo (zA (zY wo (zY vI (zY wo (zY vN (zY vI (pv 4) zg) zg) zg) zg) (pv 1))),?_⟩
  refine⟨_,rfl,_,_,rfl,rfl,⟨by decide,by decide +kernel⟩,_,_,rfl,rfl,.inr ⟨by decide,by decide⟩,_,_,rfl,rfl,(by show (0:Int)<2147483587;decide),_,_,rfl,rfl,⟨by decide,by decide +kernel⟩,_,rfl,_,_,rfl,rfl,hm0,?_⟩
  exact k _ _ (ax _ (Int.ne_of_gt hm0)) (bY _ hm0) ⟨n+1,bs2,cs,nbc,ht2,hb2,hc2,lb2,lc⟩ off2
end
abbrev tK :Stmt:=top 4
abbrev sC :Stmt:=top 5
abbrev lR :Stmt:=top 6
abbrev gq :Stmt:=top 7
abbrev nX :Stmt:=top 8
abbrev vz :Stmt:=top 9
structure rq (mg:Str→Option Value)(fW fI fP fD fPD:Addr):Prop where
 isi:mg "isinstance"=none
 int:mg "int"=none
 bool:mg "bool"=none
 tuple:mg "tuple"=none
 len:mg "len"=none
 last:∃t,mg "LAST_DAY"=some (.int 1000000 t)
 most:∃t,mg "MOST_NIGHTS"=some (.int 14 t)
 whole:mg "is_whole"=some (.ref fW)
 within:mg "is_whole_within"=some (.ref fI)
 pair:mg "is_pair"=some (.ref fP)
 day:mg "is_day"=some (.ref fD)
 days:mg "is_pair_of_days"=some (.ref fPD)
section
variable {P:Program}{w:World}{K:PySem.W.Frag}{mg:Str→Option Value}{base:Heap}{fW fI fP fD fPD:Addr}
theorem jf :zl ["thing"] ["thing"] (za tK):=⟨rfl,rfl,rfl,by decide +kernel,rfl,by decide +kernel,by decide +kernel⟩
theorem mK {f:Addr}{fd:FuncData}(F:Fun K "is_whole" "is_whole" tK f fd)(T:rq mg fW fI fP fD fPD):zt P w K mg base CX0 1 f fd ["thing"] (ym qC):=by
 refine F.ok jf (fun vs H Q E h=>?_) (fun cdv A outer s H vs Q E hr h=>?_)
 ·obtain⟨x,d,rfl,_⟩:=h
  rfl
 ·obtain⟨x,d,rfl,hd,q⟩:=h
  refine⟨_,zo (zA (yw (zJ yY (by rfl) T.isi bE (zb (pv 0) (zb (wg (v:=.ty "int") (by rfl) T.int boot_int rfl) zj)))
   (yL (iO (zJ yY (by rfl) T.isi bE (zb (pv 0) (zb (wg (v:=.ty "bool") (by rfl) T.bool boot_bool rfl) zj))))))),?_⟩
  rw[oF] at q
  refine⟨_,rfl,x,"int",d,_,rfl,hd,jh d,_,rfl,?_⟩
  refine yg (fun h=>?_) (fun h=>?_)
  ·rw[h,bo] at q
   exact⟨_,rfl,x,"bool",d,_,rfl,hd,uv d,_,rfl,q⟩
  ·rw[cC.mpr h,cU] at q
   exact q
theorem ke :zl ["thing","lowest","highest"] ["thing","lowest","highest"] (za sC):=⟨rfl,rfl,rfl,by decide +kernel,rfl,by decide +kernel,by decide +kernel⟩
theorem oP {f:Addr}{fd fdW:FuncData}(F:Fun K "is_whole_within" "is_whole_within" sC f fd)(T:rq mg fW fI fP fD fPD)(FW:Fun K "is_whole" "is_whole" tK fW fdW)(bW:Binds K fdW ["thing"] []):
  zt P w K mg base CX0 2 f fd ["thing","lowest","highest"] xO:=by
 have GW:zt P w K mg base CX0 1 fW fdW ["thing"] (ym qC):=mK FW T
 refine F.ok ke (fun vs H Q E h=>?_) (fun cdv A outer s H vs Q E hr h=>?_)
 ·obtain⟨x,d,lo,hi,rfl,_⟩:=h
  rfl
 ·obtain⟨x,d,lo,hi,rfl,hd,q⟩:=h
  refine⟨_,zo (zA (yw (zE GW hr (by rfl) T.whole FW.kp bW .nil zR (zb (pv 0) zj)) (yL (mZ mC mC (pv 1) (pv 0) (pv 2))))),?_⟩
  refine⟨_,rfl,x,d,rfl,hd,_,rfl,?_⟩
  cases hd with
  |int i=>
   have q':Q (.bl (decide (lo≤i)&&decide (i≤hi))) H:=q
   refine wJ ⟨_,rfl,_,rfl,_,_,rfl,rfl,_,rfl,?_⟩
   refine yg (fun h=>?_) (fun h=>?_)
   ·rw[h,bo] at q'
    exact⟨_,rfl,_,_,rfl,rfl,q'⟩
   ·rw[cC.mpr h,cU] at q'
    exact q'
  |_=>exact wC q
theorem gR :zl ["thing"] ["thing"] (za lR):=⟨rfl,rfl,rfl,by decide +kernel,rfl,by decide +kernel,by decide +kernel⟩
theorem jG {f:Addr}{fd:FuncData}(F:Fun K "is_pair" "is_pair" lR f fd)(T:rq mg fW fI fP fD fPD):zt P w K mg base CX0 1 f fd ["thing"] (ym pairD):=by
 refine F.ok gR (fun vs H Q E h=>?_) (fun cdv A outer s H vs Q E hr h=>?_)
 ·obtain⟨x,d,rfl,_⟩:=h
  rfl
 ·obtain⟨x,d,rfl,hd,q⟩:=h
  refine⟨_,zo (zA (yw (zJ yY (by rfl) T.isi bE (zb (pv 0) (zb (wg (v:=.ty "tuple") (by rfl) T.tuple boot_tuple rfl) zj)))
   (yL (xF wk (zJ zW (by rfl) T.len bL (zb (pv 0) zj)) zg (zw _))))),?_⟩
  refine⟨_,rfl,x,"tuple",d,_,rfl,hd,uD d,_,rfl,?_⟩
  cases hd with
  |@tup a xs ds e hs=>
   refine wJ ⟨_,rfl,a,_,rfl,.inr (SqT.of e),rfl,?_⟩
   rw[jD,hs.length]
   exact q
  |_=>exact wC q
theorem fb :zl ["thing"] ["thing"] (za gq):=⟨rfl,rfl,rfl,by decide +kernel,rfl,by decide +kernel,by decide +kernel⟩
theorem iE {f:Addr}{fd fdI:FuncData}(F:Fun K "is_day" "is_day" gq f fd)(T:rq mg fW fI fP fD fPD)(GI:zt P w K mg base CX0 2 fI fdI ["thing","lowest","highest"] xO)(kI:PySem.W.keepIn K (.ref fI)=true)(bI:Binds K fdI ["thing","lowest","highest"] []):
  zt P w K mg base CX0 3 f fd ["thing"] (ym xP):=by
 obtain⟨tl,hl⟩:=T.last
 refine F.ok fb (fun vs H Q E h=>?_) (fun cdv A outer s H vs Q E hr h=>?_)
 ·obtain⟨x,d,rfl,_⟩:=h
  rfl
 ·obtain⟨x,d,rfl,hd,q⟩:=h
  refine⟨_,zo (zA (zE GI hr (by rfl) T.within kI bI .nil zR (zb (pv 0) (zb zg (zb (xZ (v:=.int 1000000) (by rfl) hl ⟨tl,rfl⟩) zj))))),?_⟩
  exact⟨_,rfl,x,d,_,_,rfl,hd,q⟩
theorem gJ :zl ["thing"] ["thing"] (za nX):=⟨rfl,rfl,rfl,by decide +kernel,rfl,by decide +kernel,by decide +kernel⟩
theorem kA {f:Addr}{fd fdP fdD:FuncData}(F:Fun K "is_pair_of_days" "is_pair_of_days" nX f fd)(T:rq mg fW fI fP fD fPD)(GP:zt P w K mg base CX0 1 fP fdP ["thing"] (ym pairD))(kP:PySem.W.keepIn K (.ref fP)=true)(bP:Binds K fdP ["thing"] [])
  (GD:zt P w K mg base CX0 3 fD fdD ["thing"] (ym xP)) (kD:PySem.W.keepIn K (.ref fD)=true) (bD:Binds K fdD ["thing"] []):zt P w K mg base CX0 4 f fd ["thing"] (ym vJ):=by
 refine F.ok gJ (fun vs H Q E h=>?_) (fun cdv A outer s H vs Q E hr h=>?_)
 ·obtain⟨x,d,rfl,_⟩:=h
  rfl
 ·obtain⟨x,d,rfl,hd,q⟩:=h
  have hr1:zI 1 _:=hr.mono (by decide)
  refine⟨_,zo (zA (yw (zE GP hr1 (by rfl) T.pair kP bP .nil zR (zb (pv 0) zj))
   (yw (zE GD hr (by rfl) T.day kD bD .nil zR (zb (zG yj (pv 0) zg (fun _ _=>rfl)) zj))
   (yL (zE GD hr (by rfl) T.day kD bD .nil zR (zb (zG yj (pv 0) zg (fun _ _=>rfl)) zj)))))),?_⟩
  refine⟨_,rfl,x,d,rfl,hd,_,rfl,?_⟩
  refine yg (fun h=>?_) (fun h=>?_)
  ·obtain⟨a,b,rfl⟩:=vh h
   cases hd with
   |tup e hs=>
    cases hs with
    |cons ha hs=>
     cases hs with
     |cons hb hs=>
      cases hs
      have q':Q (.bl (xP a&&xP b)) H:=q
      refine⟨_,rfl,_,_,0,_,rfl,rfl,SqT.of e,rfl,_,_,rfl,ha,_,rfl,?_⟩
      refine yg (fun h=>?_) (fun h=>?_)
      ·rw[h,bo] at q'
       exact⟨_,rfl,_,_,1,_,rfl,rfl,SqT.of e,rfl,_,_,rfl,hb,q'⟩
      ·rw[cC.mpr h,cU] at q'
       exact q'
  ·have e:vJ d=false:=by
    unfold vJ
    split
    ·exact absurd rfl h
    ·rfl
   rw[e] at q
   exact q
theorem nr :zl ["thing"] ["thing"] (za vz):=⟨rfl,rfl,rfl,by decide +kernel,rfl,by decide +kernel,by decide +kernel⟩
theorem qr {f:Addr}{fd fdP:FuncData}(F:Fun K "is_stretch" "is_stretch" vz f fd)(T:rq mg fW fI fP fD fPD)(G:zt P w K mg base CX0 4 fPD fdP ["thing"] (ym vJ))(kP:PySem.W.keepIn K (.ref fPD)=true)(bP:Binds K fdP ["thing"] []):
  zt P w K mg base CX0 5 f fd ["thing"] (ym zB):=by
 refine F.ok nr (fun vs H Q E h=>?_) (fun cdv A outer s H vs Q E hr h=>?_)
 ·obtain⟨x,d,rfl,_⟩:=h
  rfl
 ·obtain⟨x,d,rfl,hd,q⟩:=h
  refine⟨_,zo (zA (yw (zE G hr (by rfl) T.days kP bP .nil zR (zb (pv 0) zj))
   (yL (xF mC (zG yj (pv 0) zg (fun _ _=>rfl)) (zG yj (pv 0) zg (fun _ _=>rfl)) (zw _))))),?_⟩
  refine⟨_,rfl,x,d,rfl,hd,_,rfl,?_⟩
  refine yg (fun h=>?_) (fun h=>?_)
  ·obtain⟨a,b,rfl,ef⟩:=qt h
   unfold zB at q
   rw[ef] at q
   have q':Q (.bl (decide (0≤b-a))) H:=q
   have eq1:decide (0≤b-a)=decide (a≤b):=by
    rw[decide_eq_decide]
    omega
   rw[eq1] at q'
   cases hd with
   |tup e hs=>
    cases hs with
    |cons ha hs=>
     cases ha
     cases hs with
     |cons hb hs=>
      cases hb
      cases hs
      exact⟨_,rfl,_,_,0,_,rfl,rfl,SqT.of e,rfl,_,rfl,_,_,1,_,rfl,rfl,SqT.of e,rfl,_,_,rfl,rfl,q'⟩
  ·rw[ue] at h
   unfold zB at q
   cases ef:vZ d with
   |some k=>rw[ef] at h;exact absurd rfl h
   |none=>
    rw[ef] at q
    exact q
end
abbrev pQ :Stmt:=inClass (top 26) 0
abbrev qg :Stmt:=top 34
abbrev uY :Stmt:=top 35
abbrev rO :Stmt:=top 36
abbrev tL :Stmt:=top 37
abbrev ko :Stmt:=top 38
abbrev sj :Stmt:=top 39
structure qR (mg:Str→Option Value)(fW fI fP fD fPD fS fC fDl fWo fR fM:Addr)(cs:Cs):Prop where
 d:rq mg fW fI fP fD fPD
 coinsMost:∃t,mg "MOST_COINS"=some (.int 1000000000000 t)
 stretch:mg "is_stretch"=some (.ref fS)
 coins:mg "is_coins"=some (.ref fC)
 deal:mg "is_deal"=some (.ref fDl)
 worth:mg "is_worth"=some (.ref fWo)
 rule:mg "is_rule"=some (.ref fR)
 made:mg "made"=some (.ref fM)
 cPrice:mg "Price"=some (.ref cs.price)
 cCome:mg "Come"=some (.ref cs.come)
 cGo:mg "Go"=some (.ref cs.go)
 cLeast:mg "Least"=some (.ref cs.least)
 cMost:mg "Most"=some (.ref cs.most)
 cDeal:mg "Deal"=some (.ref cs.deal)
 cFee:mg "Fee"=some (.ref cs.fee)
section
variable {P:Program}{w:World}{K:PySem.W.Frag}{mg:Str→Option Value}{base:Heap}{fW fI fP fD fPD fS fC fDl fWo fR fM:Addr}{cs:Cs}
theorem gD :zl ["self","first","last","worth"] ["self","first","last","worth"] (za pQ):=⟨rfl,rfl,rfl,by decide +kernel,rfl,by decide +kernel,by decide +kernel⟩
theorem xt {f C fT fE fWd:Addr}{fd:FuncData}(F:Fun K "__init__" "Rule.__init__" pQ f fd)(R:wj K C f fT fE fWd):zt P w K mg base CX0 1 f fd ["self","first","last","worth"] (gg C):=by
 refine F.ok gD (fun vs H Q E h=>?_) (fun cdv A outer s H vs Q E hr h=>?_)
 ·obtain⟨p,dx,x,y,z,rfl,_⟩:=h
  rfl
 ·obtain⟨p,dx,x,y,z,rfl,hp,q⟩:=h
  refine⟨_,zu (uq (pv 0) (pv 1) rfl) (zu (uq (pv 0) (pv 2) rfl) (zo (uq (pv 0) (pv 3) rfl))),?_⟩
  refine⟨_,rfl,_,rfl,p,C,dx,[],rfl,hp,R.cl,R.nf,(by show 0<1000;decide),?_⟩
  refine⟨_,rfl,_,rfl,p,C,dx,_,rfl,zd,R.cl,R.nl,(by show 1<1000;decide),?_⟩
  refine⟨_,rfl,_,rfl,p,C,dx,yN "last" y (yN "first" x []),rfl,zd,R.cl,R.nw,?_,?_⟩
  ·show (if ("first":Str)="last" then _ else _:List (Str×V)).length<1000
   rw[if_neg (fun e=>jN e.symm)]
   show 2<1000
   decide
  ·rw[xY,xY]
   exact q
theorem ja :zl ["thing"] ["thing"] (za qg):=⟨rfl,rfl,rfl,by decide +kernel,rfl,by decide +kernel,by decide +kernel⟩
theorem lZ {f:Addr}{fd fdI:FuncData}(F:Fun K "is_coins" "is_coins" qg f fd)(T:qR mg fW fI fP fD fPD fS fC fDl fWo fR fM cs)(GI:zt P w K mg base CX0 2 fI fdI ["thing","lowest","highest"] xO)(kI:PySem.W.keepIn K (.ref fI)=true)(bI:Binds K fdI ["thing","lowest","highest"] []):
  zt P w K mg base CX0 3 f fd ["thing"] (ym xM):=by
 obtain⟨tl,hl⟩:=T.coinsMost
 refine F.ok ja (fun vs H Q E h=>?_) (fun cdv A outer s H vs Q E hr h=>?_)
 ·obtain⟨x,d,rfl,_⟩:=h
  rfl
 ·obtain⟨x,d,rfl,hd,q⟩:=h
  refine⟨_,zo (zA (zE GI hr (by rfl) T.d.within kI bI .nil zR (zb (pv 0) (zb zg (zb (xZ (v:=.int 1000000000000) (by rfl) hl ⟨tl,rfl⟩) zj))))),?_⟩
  exact⟨_,rfl,x,d,_,_,rfl,hd,q⟩
theorem mD :zl ["thing"] ["thing"] (za uY):=⟨rfl,rfl,rfl,by decide +kernel,rfl,by decide +kernel,by decide +kernel⟩
theorem nA {f:Addr}{fd fdI fdP:FuncData}(F:Fun K "is_deal" "is_deal" uY f fd)(T:qR mg fW fI fP fD fPD fS fC fDl fWo fR fM cs)(GI:zt P w K mg base CX0 2 fI fdI ["thing","lowest","highest"] xO)(kI:PySem.W.keepIn K (.ref fI)=true)(bI:Binds K fdI ["thing","lowest","highest"] [])
  (GP:zt P w K mg base CX0 1 fP fdP ["thing"] (ym pairD)) (kP:PySem.W.keepIn K (.ref fP)=true) (bP:Binds K fdP ["thing"] []):zt P w K mg base CX0 3 f fd ["thing"] (ym vL):=by
 obtain⟨tm,hm⟩:=T.d.most
 refine F.ok mD (fun vs H Q E h=>?_) (fun cdv A outer s H vs Q E hr h=>?_)
 ·obtain⟨x,d,rfl,_⟩:=h
  rfl
 ·obtain⟨x,d,rfl,hd,q⟩:=h
  have hr1:zI 1 _:=hr.mono (by decide)
  refine⟨_,zo (zA (yw (zE GP hr1 (by rfl) T.d.pair kP bP .nil zR (zb (pv 0) zj))
   (yw (zE GI hr (by rfl) T.d.within kI bI .nil zR (zb (zG yj (pv 0) zg (fun _ _=>rfl)) (zb zg (zb (xZ (v:=.int 14) (by rfl) hm ⟨tm,rfl⟩) zj))))
   (yL (zE GI hr (by rfl) T.d.within kI bI .nil zR (zb (zG yj (pv 0) zg (fun _ _=>rfl)) (zb zg (zb (zY kj (zG yj (pv 0) zg (fun _ _=>rfl)) zg) zj)))))))),?_⟩
  refine⟨_,rfl,x,d,rfl,hd,_,rfl,?_⟩
  refine yg (fun h=>?_) (fun h=>?_)
  ·obtain⟨a,b,rfl⟩:=vh h
   cases hd with
   |tup e hs=>
    cases hs with
    |cons ha hs=>
     cases hs with
     |cons hb hs=>
      cases hs
      refine⟨_,rfl,_,_,0,_,rfl,rfl,SqT.of e,rfl,_,_,_,_,rfl,ha,_,rfl,?_⟩
      cases ha with
      |int m=>
       have q':Q (.bl (zP 2 14 (.int m)&&zP 1 (m-1) b)) H:=q
       refine yg (fun h=>?_) (fun h=>?_)
       ·rw[h,bo] at q'
        exact⟨_,rfl,_,_,1,_,rfl,rfl,SqT.of e,rfl,_,rfl,_,_,0,_,rfl,rfl,SqT.of e,rfl,_,_,rfl,rfl,_,_,_,_,rfl,hb,q'⟩
       ·rw[cC.mpr h,cU] at q'
        exact q'
      |_=>exact wC q
  ·have e:vL d=false:=by
    unfold vL
    split
    ·exact absurd rfl h
    ·rfl
   rw[e] at q
   exact q
theorem jH :zl ["word","thing"] ["word","thing"] (za rO):=⟨rfl,rfl,rfl,by decide +kernel,rfl,by decide +kernel,by decide +kernel⟩
theorem kl {f:Addr}{fd fdI fdC fdDl:FuncData}(F:Fun K "is_worth" "is_worth" rO f fd)(T:qR mg fW fI fP fD fPD fS fC fDl fWo fR fM cs)(GI:zt P w K mg base CX0 2 fI fdI ["thing","lowest","highest"] xO)(kI:PySem.W.keepIn K (.ref fI)=true)(bI:Binds K fdI ["thing","lowest","highest"] [])
  (GC:zt P w K mg base CX0 3 fC fdC ["thing"] (ym xM)) (kC:PySem.W.keepIn K (.ref fC)=true) (bC:Binds K fdC ["thing"] []) (GDl:zt P w K mg base CX0 3 fDl fdDl ["thing"] (ym vL)) (kDl:PySem.W.keepIn K (.ref fDl)=true) (bDl:Binds K fdDl ["thing"] []):
  zt P w K mg base CX0 4 f fd ["word","thing"] pY:=by
 obtain⟨tm,hm⟩:=T.d.most
 refine F.ok jH (fun vs H Q E h=>?_) (fun cdv A outer s H vs Q E hr h=>?_)
 ·obtain⟨x,y,dw,dv,rfl,_⟩:=h
  rfl
 ·obtain⟨x,y,dw,dv,rfl,hx,sw,hy,q⟩:=h
  have hr2:zI 2 _:=hr.mono (by decide)
  have hu:=hr.units
  have st:∀{z:Str},z∈words→SeqAt.shaped (.str z)=true:=fun {z} hz=>qq (by
   simp only[words,cm,cD,bh] at hz
   rcases hz with rfl|rfl|rfl|rfl|rfl|rfl|rfl<;>decide +kernel)
  unfold zp at q
  -- if word == 'price'
  refine zH (fun σ H1=>σ=[some x,some y]∧eqS dw "price"=false∧H=H1)
   ⟨_,yS (zN (xW hu) (pv 0) yc (zw _)) (zo (zA (my (xF rX (pv 1) tw (zw _)) (yL (zE GC hr (by rfl) T.coins kC bC .nil zR (zb (pv 1) zj)))))) ye,?_⟩ ?_
  ·refine⟨_,rfl,dw,.str "price",hx,.str _,sw,st (by simp[words]),_,rfl,?_⟩
   refine yg (fun h=>?_) (fun h=>⟨rfl,cC.mpr h,rfl⟩)
   rw[if_pos h] at q
   refine⟨_,rfl,rfl,_,rfl,?_⟩
   rw[hy.non_iff]
   refine yg (fun h2=>?_) (fun h2=>?_)
   ·rw[h2,Bool.true_or] at q
    exact q
   ·rw[cC.mpr h2,aM] at q
    exact⟨_,rfl,y,dv,rfl,hy,q⟩
  rintro σ H1 ⟨rfl,e1,rfl⟩
  rw[e1,if_neg dY] at q
  -- if word == 'come' or word == 'go'
  refine zH (fun σ H1=>σ=[some x,some y]∧(eqS dw "come"||eqS dw "go")=false∧H=H1)
   ⟨_,yS (PW.pt (kg (zN (xW hu) (pv 0) yc (zw _)) (rM (zN (xW hu) (pv 0) yc (zw _))))) (zo (zA (zJ yY (by rfl) T.d.isi bE (zb (pv 1) (zb (wg (v:=.ty "bool") (by rfl) T.d.bool boot_bool rfl) zj))))) ye,?_⟩ ?_
  ·refine⟨_,rfl,dw,.str "come",hx,.str _,sw,st (by simp[words]),_,rfl,?_⟩
   refine yg (fun h=>?_) (fun h=>?_)
   ·have h':eqS dw "come"=true:=h
    rw[h',Bool.true_or,if_pos rfl] at q
    exact wJ ⟨_,rfl,y,"bool",dv,_,rfl,hy,uv dv,q⟩
   ·have h':eqS dw "come"=false:=cC.mpr h
    refine⟨_,rfl,dw,.str "go",hx,.str _,sw,st (by simp[words]),_,rfl,?_⟩
    refine yg (fun h2=>?_) (fun h2=>?_)
    ·have h2':eqS dw "go"=true:=h2
     rw[h',h2',aM,if_pos rfl] at q
     exact⟨_,rfl,y,"bool",dv,_,rfl,hy,uv dv,q⟩
    ·have h2':eqS dw "go"=false:=cC.mpr h2
     exact⟨rfl,by rw[h',h2'];rfl,rfl⟩
  rintro σ H1 ⟨rfl,e2,rfl⟩
  rw[e2,if_neg dY] at q
  -- if word == 'least' or word == 'most'
  refine zH (fun σ H1=>σ=[some x,some y]∧(eqS dw "least"||eqS dw "most")=false∧H=H1)
   ⟨_,yS (PW.pt (kg (zN (xW hu) (pv 0) yc (zw _)) (rM (zN (xW hu) (pv 0) yc (zw _))))) (zo (zA (zE GI hr2 (by rfl) T.d.within kI bI .nil zR (zb (pv 1) (zb zg (zb (xZ (v:=.int 14) (by rfl) hm ⟨tm,rfl⟩) zj)))))) ye,?_⟩ ?_
  ·refine⟨_,rfl,dw,.str "least",hx,.str _,sw,st (by simp[words]),_,rfl,?_⟩
   refine yg (fun h=>?_) (fun h=>?_)
   ·have h':eqS dw "least"=true:=h
    rw[h',Bool.true_or,if_pos rfl] at q
    exact wJ ⟨_,rfl,y,dv,_,_,rfl,hy,q⟩
   ·have h':eqS dw "least"=false:=cC.mpr h
    refine⟨_,rfl,dw,.str "most",hx,.str _,sw,st (by simp[words]),_,rfl,?_⟩
    refine yg (fun h2=>?_) (fun h2=>?_)
    ·have h2':eqS dw "most"=true:=h2
     rw[h',h2',aM,if_pos rfl] at q
     exact⟨_,rfl,y,dv,_,_,rfl,hy,q⟩
    ·have h2':eqS dw "most"=false:=cC.mpr h2
     exact⟨rfl,by rw[h',h2'];rfl,rfl⟩
  rintro σ H1 ⟨rfl,e3,rfl⟩
  rw[e3,if_neg dY] at q
  -- if word == 'deal'
  refine zH (fun σ H1=>σ=[some x,some y]∧eqS dw "deal"=false∧H=H1)
   ⟨_,yS (zN (xW hu) (pv 0) yc (zw _)) (zo (zA (my (xF rX (pv 1) tw (zw _)) (yL (zE GDl hr (by rfl) T.deal kDl bDl .nil zR (zb (pv 1) zj)))))) ye,?_⟩ ?_
  ·refine⟨_,rfl,dw,.str "deal",hx,.str _,sw,st (by simp[words]),_,rfl,?_⟩
   refine yg (fun h=>?_) (fun h=>⟨rfl,cC.mpr h,rfl⟩)
   rw[if_pos h] at q
   refine⟨_,rfl,rfl,_,rfl,?_⟩
   rw[hy.non_iff]
   refine yg (fun h2=>?_) (fun h2=>?_)
   ·rw[h2,Bool.true_or] at q
    exact q
   ·rw[cC.mpr h2,aM] at q
    exact⟨_,rfl,y,dv,rfl,hy,q⟩
  rintro σ H1 ⟨rfl,e4,rfl⟩
  rw[e4,if_neg dY] at q
  refine⟨_,zo (zA (yw (xF (xW hu) (pv 0) yc (zw _)) (yL (zE GC hr (by rfl) T.coins kC bC .nil zR (zb (pv 1) zj))))),?_⟩
  refine⟨_,rfl,dw,.str "fee",hx,.str _,sw,st (by simp[words]),_,rfl,?_⟩
  refine yg (fun h=>?_) (fun h=>?_)
  ·have h':eqS dw "fee"=true:=h
   rw[h',bo] at q
   exact⟨_,rfl,y,dv,rfl,hy,q⟩
  ·have h':eqS dw "fee"=false:=cC.mpr h
   rw[h',cU] at q
   exact q
theorem mY :zl ["thing"] ["thing"] (za tL):=⟨rfl,rfl,rfl,by decide +kernel,rfl,by decide +kernel,by decide +kernel⟩
theorem nE {f:Addr}{fd fdS fdWo:FuncData}(F:Fun K "is_rule" "is_rule" tL f fd)(T:qR mg fW fI fP fD fPD fS fC fDl fWo fR fM cs)(GS:zt P w K mg base CX0 5 fS fdS ["thing"] (ym zB))(kS:PySem.W.keepIn K (.ref fS)=true)(bS:Binds K fdS ["thing"] [])
  (GW:zt P w K mg base CX0 4 fWo fdWo ["word","thing"] pY) (kW:PySem.W.keepIn K (.ref fWo)=true) (bW:Binds K fdWo ["word","thing"] []):zt P w K mg base CX0 6 f fd ["thing"] lD:=by
 refine F.ok mY (fun vs H Q E h=>?_) (fun cdv A outer s H vs Q E hr h=>?_)
 ·obtain⟨x,d,rfl,_⟩:=h
  rfl
 ·obtain⟨x,d,rfl,hd,sd,q⟩:=h
  have hr4:zI 4 _:=hr.mono (by decide)
  refine⟨_,zo (zA (yw (zJ yY (by rfl) T.d.isi bE (zb (pv 0) (zb (wg (v:=.ty "tuple") (by rfl) T.d.tuple boot_tuple rfl) zj)))
   (yw (xF wk (zJ zW (by rfl) T.d.len bL (zb (pv 0) zj)) zg (zw _))
   (yw (zE GS hr (by rfl) T.stretch kS bS .nil zR (zb (mR (zb (zG yj (pv 0) zg (fun _ _=>rfl)) (zb (zG yj (pv 0) zg (fun _ _=>rfl)) zj))) zj))
   (yL (zE GW hr4 (by rfl) T.worth kW bW .nil zR (zb (zG yj (pv 0) zg (fun _ _=>rfl)) (zb (zG yj (pv 0) zg (fun _ _=>rfl)) zj)))))))),?_⟩
  refine⟨_,rfl,x,"tuple",d,_,rfl,hd,uD d,_,rfl,?_⟩
  cases hd with
  |@tup a xs ds e hs=>
   refine wJ ⟨_,rfl,a,_,rfl,.inr (SqT.of e),rfl,_,rfl,?_⟩
   match xs,ds,hs with
   |_,[dw,da,db,dv],.cons (x:=xw) hw (.cons (x:=xa) ha (.cons (x:=xb) hb (.cons (x:=xv) hv .nil)))=>
    refine yg (fun _=>?_) (fun h=>absurd rfl h)
    refine⟨_,rfl,a,_,1,_,rfl,rfl,SqT.of e,rfl,_,rfl,a,_,2,_,rfl,rfl,SqT.of e,rfl,(by show 2≤sizeLine;decide),fun p hp=>?_⟩
    have s1:zm H (upd H p (.tup [xa,xb])):=yf hp
    refine⟨_,.tuple [da,db],rfl,.tup zd (.cons (ha.same s1) (.cons (hb.same s1) .nil)),_,rfl,?_⟩
    have q':Q (.bl (zB (.tuple [da,db])&&zp dw dv)) (upd H p (.tup [xa,xb])):=q _ s1
    refine yg (fun h=>?_) (fun h=>?_)
    ·rw[h,bo] at q'
     exact⟨_,rfl,a,_,0,_,rfl,rfl,SqT.of (s1 _ _ e),rfl,_,rfl,a,_,3,_,rfl,rfl,SqT.of (s1 _ _ e),rfl,_,_,_,_,rfl,hw.same s1,tH sd dw (by simp),hv.same s1,q'⟩
    ·rw[cC.mpr h,cU] at q'
     exact q'
   |_,[],.nil=>exact yg (fun h=>absurd h (by simp)) (fun _=>q H (zm.refl H))
   |_,[_],.cons _ .nil=>exact yg (fun h=>absurd h (by simp)) (fun _=>q H (zm.refl H))
   |_,[_,_],.cons _ (.cons _ .nil)=>exact yg (fun h=>absurd h (by simp)) (fun _=>q H (zm.refl H))
   |_,[_,_,_],.cons _ (.cons _ (.cons _ .nil))=>exact yg (fun h=>absurd h (by simp)) (fun _=>q H (zm.refl H))
   |_,_::_::_::_::_::_,.cons _ (.cons _ (.cons _ (.cons _ (.cons _ _))))=>exact yg (fun h=>absurd h (by simp;omega)) (fun _=>q H (zm.refl H))
  |_=>exact wC (q H (zm.refl H))
end
section
variable {P:Program}{w:World}{K:PySem.W.Frag}{mg:Str→Option Value}{base:Heap}{fW fI fP fD fPD fS fC fDl fWo fR fM:Addr}{cs:Cs}
structure ka (K:PySem.W.Frag)(cs:Cs)(fIn fTo fTe w1 w2 w3 w4 w5 w6 w7:Addr):Prop where
 price:wj K cs.price fIn fTo fTe w1
 come:wj K cs.come fIn fTo fTe w2
 go:wj K cs.go fIn fTo fTe w3
 least:wj K cs.least fIn fTo fTe w4
 most:wj K cs.most fIn fTo fTe w5
 deal:wj K cs.deal fIn fTo fTe w6
 fee:wj K cs.fee fIn fTo fTe w7
theorem lL (cs:Cs):cs.of "price"=cs.price:=by unfold Cs.of;rw[if_pos rfl]
theorem jK (cs:Cs):cs.of "come"=cs.come:=by unfold Cs.of;rw[if_neg (by decide +kernel),if_pos rfl]
theorem fv (cs:Cs):cs.of "go"=cs.go:=by unfold Cs.of;rw[if_neg (by decide +kernel),if_neg (by decide +kernel),if_pos rfl]
theorem nZ (cs:Cs):cs.of "least"=cs.least:=by unfold Cs.of;rw[if_neg (by decide +kernel),if_neg (by decide +kernel),if_neg (by decide +kernel),if_pos rfl]
theorem jI (cs:Cs):cs.of "most"=cs.most:=by unfold Cs.of;rw[if_neg (by decide +kernel),if_neg (by decide +kernel),if_neg (by decide +kernel),if_neg (by decide +kernel),if_pos rfl]
theorem jv (cs:Cs):cs.of "deal"=cs.deal:=by unfold Cs.of;rw[if_neg (by decide +kernel),if_neg (by decide +kernel),if_neg (by decide +kernel),if_neg (by decide +kernel),if_neg (by decide +kernel),if_pos rfl]
theorem iF (cs:Cs):cs.of "fee"=cs.fee:=by unfold Cs.of;rw[if_neg (by decide +kernel),if_neg (by decide +kernel),if_neg (by decide +kernel),if_neg (by decide +kernel),if_neg (by decide +kernel),if_neg (by decide +kernel)]
theorem wO {x y:Str}(h:decide (V.str x=V.str y)=true):x=y:=by
 have:=bH h
 injection this
theorem wQ {x y:Str}(h:¬decide (V.str x=V.str y)=true):x≠y:=fun e=>h (by rw[e];exact bf rfl)
theorem yJ {C p dx:Addr}{H:Hp}{x y z:V}{Q:VK}(k:∀(p dx:Addr) (H':Hp),H' p=some (.ins C dx (qo x y z))→H p=none→zm H H'→Q (.ref p) H')(hp:H p=none)(hx:H dx=none)(n:dx≠p):
  Q (.ref p) (upd (upd (upd H dx (.own p)) p (.ins C dx [])) p (.ins C dx (qo x y z))):=by
 refine k p dx _ zd hp fun a o e=>?_
 rw[xY,zc (ze e hp),zc (ze e hx)]
 exact e
theorem gO :zl ["word","first","last","worth"] ["word","first","last","worth"] (za ko):=⟨rfl,rfl,rfl,by decide +kernel,rfl,by decide +kernel,by decide +kernel⟩
set_option maxHeartbeats 4000000 in
theorem jk {f fIn fTo fTe w1 w2 w3 w4 w5 w6 w7:Addr}{fd fdIn:FuncData}(F:Fun K "made" "made" ko f fd)(T:qR mg fW fI fP fD fPD fS fC fDl fWo fR fM cs)(A7:ka K cs fIn fTo fTe w1 w2 w3 w4 w5 w6 w7)
  (FI:Fun K "__init__" "Rule.__init__" pQ fIn fdIn) (bI:Binds K fdIn ["self","first","last","worth"] []):zt P w K mg base CX0 3 f fd ["word","first","last","worth"] (lE cs):=by
 refine F.ok gO (fun vs H Q E h=>?_) (fun cdv A outer s H vs Q E hr h=>?_)
 ·obtain⟨wd,x,y,z,rfl,_⟩:=h
  rfl
 ·obtain⟨wd,x,y,z,rfl,hw,k⟩:=h
  refine zH (fun σ H1=>σ=[some (.str wd),some x,some y,some z]∧wd≠"price"∧H=H1)
   ⟨_,yS (zN wk (pv 0) yc (zw _)) (zo (zA (yO A7.price.makes (xt FI A7.price) hr (by rfl) T.cPrice bI .nil zR (zb (pv 1) (zb (pv 2) (zb (pv 3) zj)))))) ye,?_⟩ ?_
  ·refine⟨_,rfl,rfl,_,rfl,yg (fun h=>?_) (fun h=>⟨rfl,wQ h,rfl⟩)⟩
   rw[wO h,lL] at k
   exact⟨_,rfl,_,rfl,_,rfl,fun p dx hp hx n=>⟨p,dx,_,_,_,rfl,zd,rfl,yJ k hp hx n⟩⟩
  rintro σ H1 ⟨rfl,n1,rfl⟩
  refine zH (fun σ H1=>σ=[some (.str wd),some x,some y,some z]∧wd≠"come"∧H=H1)
   ⟨_,yS (zN wk (pv 0) yc (zw _)) (zo (zA (yO A7.come.makes (xt FI A7.come) hr (by rfl) T.cCome bI .nil zR (zb (pv 1) (zb (pv 2) (zb (pv 3) zj)))))) ye,?_⟩ ?_
  ·refine⟨_,rfl,rfl,_,rfl,yg (fun h=>?_) (fun h=>⟨rfl,wQ h,rfl⟩)⟩
   rw[wO h,jK] at k
   exact⟨_,rfl,_,rfl,_,rfl,fun p dx hp hx n=>⟨p,dx,_,_,_,rfl,zd,rfl,yJ k hp hx n⟩⟩
  rintro σ H1 ⟨rfl,n2,rfl⟩
  refine zH (fun σ H1=>σ=[some (.str wd),some x,some y,some z]∧wd≠"go"∧H=H1)
   ⟨_,yS (zN wk (pv 0) yc (zw _)) (zo (zA (yO A7.go.makes (xt FI A7.go) hr (by rfl) T.cGo bI .nil zR (zb (pv 1) (zb (pv 2) (zb (pv 3) zj)))))) ye,?_⟩ ?_
  ·refine⟨_,rfl,rfl,_,rfl,yg (fun h=>?_) (fun h=>⟨rfl,wQ h,rfl⟩)⟩
   rw[wO h,fv] at k
   exact⟨_,rfl,_,rfl,_,rfl,fun p dx hp hx n=>⟨p,dx,_,_,_,rfl,zd,rfl,yJ k hp hx n⟩⟩
  rintro σ H1 ⟨rfl,n3,rfl⟩
  refine zH (fun σ H1=>σ=[some (.str wd),some x,some y,some z]∧wd≠"least"∧H=H1)
   ⟨_,yS (zN wk (pv 0) yc (zw _)) (zo (zA (yO A7.least.makes (xt FI A7.least) hr (by rfl) T.cLeast bI .nil zR (zb (pv 1) (zb (pv 2) (zb (pv 3) zj)))))) ye,?_⟩ ?_
  ·refine⟨_,rfl,rfl,_,rfl,yg (fun h=>?_) (fun h=>⟨rfl,wQ h,rfl⟩)⟩
   rw[wO h,nZ] at k
   exact⟨_,rfl,_,rfl,_,rfl,fun p dx hp hx n=>⟨p,dx,_,_,_,rfl,zd,rfl,yJ k hp hx n⟩⟩
  rintro σ H1 ⟨rfl,n4,rfl⟩
  refine zH (fun σ H1=>σ=[some (.str wd),some x,some y,some z]∧wd≠"most"∧H=H1)
   ⟨_,yS (zN wk (pv 0) yc (zw _)) (zo (zA (yO A7.most.makes (xt FI A7.most) hr (by rfl) T.cMost bI .nil zR (zb (pv 1) (zb (pv 2) (zb (pv 3) zj)))))) ye,?_⟩ ?_
  ·refine⟨_,rfl,rfl,_,rfl,yg (fun h=>?_) (fun h=>⟨rfl,wQ h,rfl⟩)⟩
   rw[wO h,jI] at k
   exact⟨_,rfl,_,rfl,_,rfl,fun p dx hp hx n=>⟨p,dx,_,_,_,rfl,zd,rfl,yJ k hp hx n⟩⟩
  rintro σ H1 ⟨rfl,n5,rfl⟩
  refine zH (fun σ H1=>σ=[some (.str wd),some x,some y,some z]∧wd≠"deal"∧H=H1)
   ⟨_,yS (zN wk (pv 0) yc (zw _)) (zo (zA (yO A7.deal.makes (xt FI A7.deal) hr (by rfl) T.cDeal bI .nil zR (zb (pv 1) (zb (pv 2) (zb (pv 3) zj)))))) ye,?_⟩ ?_
  ·refine⟨_,rfl,rfl,_,rfl,yg (fun h=>?_) (fun h=>⟨rfl,wQ h,rfl⟩)⟩
   rw[wO h,jv] at k
   exact⟨_,rfl,_,rfl,_,rfl,fun p dx hp hx n=>⟨p,dx,_,_,_,rfl,zd,rfl,yJ k hp hx n⟩⟩
  rintro σ H1 ⟨rfl,n6,rfl⟩
  have e7:wd="fee":=by
   simp only[words,cm,cD,bh] at hw
   rcases hw with e|e|e|e|e|e|e
   ·exact absurd e n1
   ·exact absurd e n2
   ·exact absurd e n3
   ·exact absurd e n4
   ·exact absurd e n5
   ·exact absurd e n6
   ·exact e
  rw[e7,iF] at k
  refine⟨_,zo (zA (yO A7.fee.makes (xt FI A7.fee) hr (by rfl) T.cFee bI .nil zR (zb (pv 1) (zb (pv 2) (zb (pv 3) zj))))),?_⟩
  exact⟨_,rfl,_,rfl,_,rfl,fun p dx hp hx n=>⟨p,dx,_,_,_,rfl,zd,rfl,yJ k hp hx n⟩⟩
theorem lO :zl ["thing"] ["thing"] (za sj):=⟨rfl,rfl,rfl,by decide +kernel,rfl,by decide +kernel,by decide +kernel⟩
theorem oG {f:Addr}{fd fdR fdM:FuncData}(F:Fun K "rule_of" "rule_of" sj f fd)(T:qR mg fW fI fP fD fPD fS fC fDl fWo fR fM cs)(GR:zt P w K mg base CX0 6 fR fdR ["thing"] lD)(kR:PySem.W.keepIn K (.ref fR)=true)(bR:Binds K fdR ["thing"] [])
  (GM:zt P w K mg base CX0 3 fM fdM ["word","first","last","worth"] (lE cs)) (kM:PySem.W.keepIn K (.ref fM)=true) (bM:Binds K fdM ["word","first","last","worth"] []):zt P w K mg base CX0 7 f fd ["thing"] (sZ cs):=by
 refine F.ok lO (fun vs H Q E h=>?_) (fun cdv A outer s H vs Q E hr h=>?_)
 ·obtain⟨x,d,rfl,_⟩:=h
  rfl
 ·obtain⟨x,d,rfl,hd,sd,k0,k1⟩:=h
  have hr3:zI 3 _:=hr.mono (by decide)
  refine zH (fun σ H1=>σ=[some x]∧yK d=true∧zm H H1)
   ⟨_,yS (mh (lq (zE GR hr (by rfl) T.rule kR bR .nil zR (zb (pv 0) zj)))) (zo (zA tw)) ye,?_⟩ ?_
  ·refine⟨_,rfl,x,d,rfl,hd,sd,fun H1 s1=>⟨_,rfl,?_⟩⟩
   refine yg (fun h=>?_) (fun h=>?_)
   ·exact k0 (by simpa using h) H1 s1
   ·exact⟨rfl,by simpa using h,s1⟩
  rintro σ H1 ⟨rfl,er,s1⟩
  obtain⟨sw,da,db,dv,hsw,rfl⟩:=yU er
  cases hd with
  |@tup r xs ds e hs=>
   cases hs with
   |@cons xw _ _ _ hw hs=>
    cases hw
    cases hs with
    |@cons xa _ _ _ ha hs=>
     cases hs with
     |@cons xb _ _ _ hb hs=>
      cases hs with
      |@cons xv _ _ _ hv hs=>
       cases hs
       have e1:=s1 _ _ e
       refine⟨_,zo (zA (zE GM hr3 (by rfl) T.made kM bM .nil zR (zb (zG yj (pv 0) zg (fun _ _=>rfl)) (zb (zG yj (pv 0) zg (fun _ _=>rfl)) (zb (zG yj (pv 0) zg (fun _ _=>rfl)) (zb (zG yj (pv 0) zg (fun _ _=>rfl)) zj)))))),?_⟩
       refine⟨_,rfl,r,_,0,_,rfl,rfl,SqT.of e1,rfl,_,rfl,r,_,1,_,rfl,rfl,SqT.of e1,rfl,_,rfl,r,_,2,_,rfl,rfl,SqT.of e1,rfl,_,rfl,r,_,3,_,rfl,rfl,SqT.of e1,rfl,sw,_,_,_,rfl,hsw,fun p dx H2 h2 hp s2=>?_⟩
       exact k1 r sw xa xb xv p dx H2 rfl er hsw e h2 (s1.free hp) (s1.trans s2)
end
abbrev uA :Stmt:=top 43
abbrev yh :Stmt:=inClass (top 42) 0
def uz (C:Addr)(a b v:PyData):PyData:=nu C [(.str "first",a),(.str "last",b),(.str "worth",v)]
def yR (cs:Cs):PyData→PyData
 |.tuple [.str w,a,b,v]=>uz (cs.of w) a b v
 |_=>.none
def fy (C:Addr)(cs:Cs)(ds:List PyData):PyData:=nu C [(.str "kept",.list (ds.map (yR cs)))]
def Rules (ds:List PyData):Prop:=∀d∈ds,yK d=true∧SeqAt.shaped d=true∧d.hasDict=false
def xN (cs:Cs):List A→(A→Prop)→Prop:=fun as Q=>∃d,as=[.dat d]∧d.hasDict=false∧SeqAt.shaped d=true∧(yK d=false→Q (.dat .none))∧(yK d=true→Q (.dat (yR cs d)))
def rQ (cs:Cs):List A→(A→Prop)→Prop:=fun as Q=>∃ds,as=[.dat (.list ds)]∧Rules ds∧ds.length≤24∧Q (.own (ds.map (yR cs)))
def tf (C:Addr)(cs:Cs):List A→(A→Prop)→Prop:=fun as Q=>∃ds,(as=[.dat (.list ds)]∨(as=[.dat .none]∧ds=[]))∧Rules ds∧ds.length≤24∧Q (.dat (fy C cs ds))
theorem kF (x y z:V):qo x y z=[(("first":Str),x),(("last":Str),y),(("worth":Str),z)]:=by
 unfold qo
 show yN "worth" z (if ("first":Str)="last" then _ else _)=_
 rw[if_neg (fun e=>jN e.symm)]
 show (if ("first":Str)="worth" then _ else _)=_
 rw[if_neg (fun e=>ee e.symm)]
 show _::(if ("last":Str)="worth" then _ else _)=_
 rw[if_neg (fun e=>eI e.symm)]
 rfl
theorem xx {cs:Cs}{d:PyData}(h:yK d=true):∃(s:Str) (a b v:PyData),s∈words∧d=.tuple [.str s,a,b,v]∧yR cs d=uz (cs.of s) a b v:=by
 obtain⟨s,a,b,v,hs,rfl⟩:=yU h
 exact⟨s,a,b,v,hs,rfl,rfl⟩
section
variable {P:Program}{w:World}{K:PySem.W.Frag}{mg:Str→Option Value}{base:Heap}{cs:Cs}
theorem qN {k:Nat}{f:Addr}{fd:FuncData}{ps:List Str}(hm:mg "rule_of"=some (.ref f))(hk:PySem.W.keepIn K (.ref f)=true)(hb:Binds K fd ps [])(G:zt P w K mg base CX0 k f fd ps (sZ cs)):Cal P w K mg base "rule_of" k (xN cs):=by
 refine⟨f,fd,_,hm,hk,hb,G.imp fun vs H Q E h=>?_⟩
 obtain⟨F,as,Q',rfl,t,o,rv,⟨d,rfl,nd,sh,q0,q1⟩,kk⟩:=h
 obtain⟨x,rfl,av⟩:=rv.one
 have oo:∀{a:Addr},F.H0 a=none→¬F.O0 a:=fun {a} e z=>by
  obtain⟨u,hu,_⟩:=o a z
  rw[e] at hu;cases hu
 refine⟨x,d,rfl,(av.dv nd).same yX,sh,fun hr H' s=>kk _ _ _ (q0 hr) ⟨t.same s,Kz.of_same s,.non⟩,fun r wd x1 x2 x3 p dx H' hx hr hw he hp' hp s=>kk _ _ _ (q1 hr) ⟨t.same s,Kz.of_same s,?_⟩⟩
 subst hx
 obtain⟨s',a,b,v,_,rfl⟩:=yU hr
 obtain⟨r',xs,e1,e2,e3⟩:=av.tup_inv
 cases e1
 have e4:=(zh e2).2
 rw[he] at e4
 cases e4
 have gs:zm (sub (fun x=>¬F.O0 x) F.H0) (sub (fun x=>¬F.O0 x) H'):=zk fun a u h e=>⟨h,s _ _ e⟩
 cases e3 with
 |cons g1 e3=>
  cases g1.str_inv
  cases e3 with
  |cons g2 e3=>
   cases e3 with
   |cons g3 e3=>
    cases e3 with
    |cons g4 e3=>
     cases e3
     rw[kF] at hp'
     exact .ins (zx (oo hp) hp') (.cons (g2.same gs) (.cons (g3.same gs) (.cons (g4.same gs) .nil)))
theorem nW :zl ["things","kept","number","thing","rule"] ["things"] (za uA):=⟨rfl,rfl,rfl,by decide +kernel,rfl,by decide +kernel,by decide +kernel⟩
set_option maxHeartbeats 4000000 in
theorem lY {f:Addr}{fd:FuncData}(F:Fun K "kept_rules" "kept_rules" uA f fd)(hm:mg "kept_rules"=some (.ref f))(hb:Binds K fd ["things"] [])(nb:NbT mg)(gM:∃t,mg "MOST_RULES"=some (.int 24 t))(CRO:Cal P w K mg base "rule_of" 7 (xN cs)):Cal P w K mg base "kept_rules" 8 (rQ cs):=by
 refine rg F hm hb nW (fun as Q h=>?_) (fun cdv A' outer s H E as Q hr h=>?_)
 ·obtain⟨ds,rfl,_⟩:=h
  rfl
 ·obtain⟨ds,rfl,rd,hl,q⟩:=h
  refine xr 1 nW.nd (xE (zF (⟨_,rfl,dS rfl,?_⟩)))
  refine sg (pat:=.many [2,3]) PassesOwn.never rfl (yZ (n:=2) (K:=K) rfl rfl (yq (zX (i:=2) nW.nd rfl (Or.inl rfl)) (yq (zX (i:=3) nW.nd rfl (Or.inl rfl)) (wa)))) (tM (by rfl) nb.enumerate (zf 0 rfl (⟨_,rfl,?_⟩)))
  refine wy (fun i α=>∃v2 v3 v4,α=[some (.dat (.list ds)),some (.own ((ds.take i).map (yR cs))),v2,v3,v4]) ⟨none,none,none,rfl⟩ ?_ ?_
  ·rintro i d α hd ⟨v2,v3,v4,rfl⟩
   obtain⟨e,he,rfl⟩:=xg hd
   obtain⟨r1,r2,r3⟩:=rd e (cP he)
   have hi:i<ds.length:=(dN.mp he).1
   refine⟨_,rfl,?_⟩
   refine xU 4 nW.nd (xA CRO hr (by rfl) (zr (zf 3 rfl (zF (⟨_,rfl,r3,r2,fun z=>(by rw[r1] at z;cases z),fun _=>?_⟩)))))
   refine yD (yM (zf 4 rfl ?_))
   obtain⟨s',a,b,v,hs,rfl,ei⟩:=xx (cs:=cs) r1
   refine yQ (fun h=>by rw[show (A.dat (yR cs (.tuple [.str s',a,b,v]))).d=uz (cs.of s') a b v from rfl] at h;cases h) (fun _=>zS ?_)
   refine wb 1 rfl (zf 4 rfl ⟨by rw[dU,bc];omega,?_⟩)
   refine zS ⟨some (.dat (.int ((0+i:Nat):Int))),some (.dat (.tuple [.str s',a,b,v])),some (.dat (yR cs (.tuple [.str s',a,b,v]))),?_⟩
   rw[List.take_add_one,he,aw]
   rfl
  ·rintro α ⟨v2,v3,v4,rfl⟩
   rw[yW,List.take_length]
   refine yD (qX 1 rfl (nL (uW (by rfl) nb.len (zf 1 rfl ⟨_,rfl,uk (by rfl) gM ⟨_,_,rfl,rfl,?_⟩⟩))))
   refine lC (fun h=>?_) (fun _=>zS ?_)
   ·rw[dU] at h
    omega
   ·exact pe 1 rfl q
theorem eX :zl ["self","rules"] ["self","rules"] (za yh):=⟨rfl,rfl,rfl,by decide +kernel,rfl,by decide +kernel,by decide +kernel⟩
theorem uQ {w' v:PyData}(h:zp w' v=true):noL v=true:=by
 have wi:∀{lo hi:Int} {x:PyData},zP lo hi x=true→noL x=true:=fun {lo hi x} h=>by
  cases x with
  |int i=>rfl
  |_=>cases h
 have nn:∀{x:PyData},isNone x=true→noL x=true:=fun {x} h=>by
  cases x with
  |none=>rfl
  |_=>cases h
 unfold zp at h
 split at h
 ·rcases (aI _ _).mp h with h|h
  ·exact nn h
  ·exact wi h
 ·split at h
  ·cases v with
   |bool b=>rfl
   |_=>cases h
  ·split at h
   ·exact wi h
   ·split at h
    ·rcases (aI _ _).mp h with h|h
     ·exact nn h
     ·unfold vL at h
      split at h
      ·rw[cy] at h
       simp only[noL,noLs,wi h.2,Bool.and_self]
      ·cases h
    ·rw[cy] at h
     exact wi h.2
theorem lS {s':Str}{a b v:PyData}(h:yK (.tuple [.str s',a,b,v])=true):noL a=true∧noL b=true∧noL v=true:=by
 have h':(zB (.tuple [a,b])&&zp (.str s') v)=true:=h
 rw[cy] at h'
 refine⟨?_,?_,uQ h'.2⟩
 ·have:=h'.1
  unfold zB vZ at this
  split at this
  ·rename_i k e
   split at e
   ·rename_i z;cases z;rfl
   ·cases e
  ·cases this
 ·have:=h'.1
  unfold zB vZ at this
  split at this
  ·rename_i k e
   split at e
   ·rename_i z;cases z;rfl
   ·cases e
  ·cases this
theorem sY {ds:List PyData}(rd:Rules ds):noLs (ds.map (yR cs))=true:=by
 induction ds with
 |nil=>rfl
 |cons d r ih=>
  have ih':=ih fun x hx=>rd x (dX _ hx)
  have h1:=(rd d cv).1
  obtain⟨s',a,b,v,hs,rfl,ei⟩:=xx (cs:=cs) h1
  obtain⟨z1,z2,z3⟩:=lS h1
  rw[bV,ei]
  simp only[noLs,ih',Bool.and_true]
  simp[uz,nu,noL,qB,z1,z2,z3]
theorem nR {f C:Addr}{dV:Value}{fd:FuncData}(F:sX K "__init__" "Book.__init__" yh dV f fd)(c:Cls K C)(na:xC K C "kept")(CK:Cal P w K mg base "kept_rules" 8 (rQ cs)):zt P w K mg base CX0 9 f fd ["self","rules"] (spI C (tf C cs)):=by
 refine fY (N:=[]) F eX c na rfl (fun as Q h=>?_) (fun cdv A' outer s H E as Q hr h=>?_) (fun _ _ _ _ _ _=>rfl) (Or.inl rfl)
 ·obtain⟨ds,h|⟨h,_⟩,_⟩:=h<;>rw[h]<;>rfl
 ·obtain⟨ds,h|⟨h,hz⟩,rd,hl,q⟩:=h
  ·subst h
   exact lh CK hr (by rfl) (zr (vG (yM (zf 1 rfl (wC (zf 1 rfl (zF ⟨_,rfl,rd,hl,_,rfl,sY rd,q⟩)))))))
  ·subst h hz
   exact lh CK hr (by rfl) (zr (vG (yM (zf 1 rfl (wJ (EvL.d (xE (zF ⟨_,rfl,dS rfl,zF ⟨[],rfl,rd,hl,_,rfl,sY rd,q⟩⟩))))))))
end
def ju :PyData→PyData
 |.tuple [_,_,_,v]=>v
 |_=>.none
theorem vU {d:PyData}(h:yK d=true):∃(s:Str) (i j:Int) (v:PyData),s∈words∧d=.tuple [.str s,.int i,.int j,v]∧0≤i∧i≤j∧j≤1000000∧zp (.str s) v=true:=by
 obtain⟨s,a,b,v,hs,rfl⟩:=yU h
 have h':(zB (.tuple [a,b])&&zp (.str s) v)=true:=h
 rw[cy] at h'
 have h1:=h'.1
 unfold zB vZ at h1
 split at h1
 ·rename_i k e
  split at e
  ·rename_i z
   cases z
   split at e
   ·rename_i q
    cases e
    rw[cy] at q
    rename_i a' b'
    have qa:(decide (0≤a')&&decide (a'≤1000000))=true:=q.1
    have qb:(decide (0≤b')&&decide (b'≤1000000))=true:=q.2
    rw[cy,cL,cL] at qa qb
    have h2:=bH h1
    exact⟨s,a',b',v,hs,rfl,qa.1,by omega,qb.2,h'.2⟩
   ·cases e
  ·cases e
 ·cases h1
theorem vi (d:PyData):zp (.str "price") d=(isNone d||xM d):=by unfold zp;rw[if_pos (by decide +kernel)]
theorem rS (d:PyData):zp (.str "come") d=isBool d:=by unfold zp;rw[if_neg (by decide +kernel),if_pos (by decide +kernel)]
theorem nN (d:PyData):zp (.str "go") d=isBool d:=by unfold zp;rw[if_neg (by decide +kernel),if_pos (by decide +kernel)]
theorem sV (d:PyData):zp (.str "least") d=zP 1 14 d:=by unfold zp;rw[if_neg (by decide +kernel),if_neg (by decide +kernel),if_pos (by decide +kernel)]
theorem rY (d:PyData):zp (.str "most") d=zP 1 14 d:=by unfold zp;rw[if_neg (by decide +kernel),if_neg (by decide +kernel),if_pos (by decide +kernel)]
theorem ub (d:PyData):zp (.str "deal") d=(isNone d||vL d):=by unfold zp;rw[if_neg (by decide +kernel),if_neg (by decide +kernel),if_neg (by decide +kernel),if_pos (by decide +kernel)]
theorem nB (d:PyData):zp (.str "fee") d=xM d:=by
 unfold zp
 rw[if_neg (by decide +kernel),if_neg (by decide +kernel),if_neg (by decide +kernel),if_neg (by decide +kernel),show eqS (.str "fee") "fee"=true by decide +kernel,bo]
theorem within_int {lo hi i:Int}(h1:lo≤i)(h2:i≤hi):zP lo hi (.int i)=true:=by
 show (decide (lo≤i)&&decide (i≤hi))=true
 rw[bf h1,bf h2]<;>rfl
def pK :List A→(A→Prop)→Prop:=fun as Q=>as=[.tape]∧∀z:Int,0≤z→z≤1000000000000→Q (.dat (.int z))
def rL :List A→(A→Prop)→Prop:=fun as Q=>∃wd,as=[.tape,.dat (.str wd)]∧wd∈words∧∀d,zp (.str wd) d=true→zD 5000 d→d.depth≤1→Q (.dat d)
theorem jj {m f:Int}(h0:2≤m)(h1:m≤14)(h2:1≤f)(h3:f<m):zp (.str "deal") (.tuple [.int m,.int f])=true∧zD 5000 (.tuple [.int m,.int f])∧(PyData.tuple [.int m,.int f]).depth≤1:=by
 have hbig:(1000001:Int)<big:=by decide
 have hneg:-big<(0:Int):=by decide
 refine⟨?_,zD.tuple (n:=2000) (zT.two (zD.int (by omega) (by omega)) (zD.int (by omega) (by omega)) (dZ _) (dZ _)) (by show 2*(2000+2)+3≤5000;decide),by simp[PyData.depth,PyData.depthAll]⟩
 rw[ub]
 show (false||(zP 2 14 (.int m)&&zP 1 (m-1) (.int f)))=true
 rw[within_int h0 h1,within_int h2 (by omega)]
 rfl
end K10
set_option compiler.extract_closed false
set_option hygiene false in
local macro_rules
 |`(tactic| exists $f,$a)=>`(tactic| first|refine $f 0 $a ?_|refine $f 1 $a ?_|refine $f 2 $a ?_|refine $f 3 $a ?_|refine $f 4 $a ?_|refine $f 5 $a ?_|refine $f 6 $a ?_|refine $f 7 $a ?_|refine $f 8 $a ?_|refine $f 9 $a ?_|refine $f 10 $a ?_|refine $f 11 $a ?_|refine $f 12 $a ?_|refine $f 13 $a ?_|refine $f 14 $a ?_|refine $f 15 $a ?_|refine $f 16 $a ?_|refine $f 17 $a ?_)
set_option hygiene false in
local macro_rules
 |`(tactic| and_intros)=>`(tactic| repeat (first
  |((with_reducible show EvD _ _ _ _);first
   |((with_reducible show EvD _ _ (.Name _ _) _);exists zf,rfl)
   |((with_reducible show EvD _ _ (.Constant _ _ _) _);first|with_reducible refine wX ?_|with_reducible refine sv ?_|with_reducible refine ev_bl ?_|with_reducible refine tE ?_)
   |((with_reducible show EvD _ _ (.BinOp (.Constant (.int 10) _ _) .Pow (.Constant (.int 6) _ _) _) _);refine sE (r:=1000000) ⟨by decide,by decide,by decide⟩ (by decide) ?_)
   |((with_reducible show EvD _ _ (.BinOp (.Constant (.int 10) _ _) .Pow (.Constant (.int 12) _ _) _) _);refine sE (r:=1000000000000) ⟨by decide,by decide,by decide⟩ (by decide) ?_)
   |((with_reducible show EvD _ _ (.BinOp (.Constant (.int 10) _ _) .Pow (.Constant (.int 9) _ _) _) _);refine sE (r:=1000000000) ⟨by decide,by decide,by decide⟩ (by decide) ?_)
   |((with_reducible show EvD _ _ (.BinOp (.Constant (.int 10) _ _) .Pow (.Constant (.int 11) _ _) _) _);refine sE (r:=100000000000) ⟨by decide,by decide,by decide⟩ (by decide) ?_)
   |((with_reducible show EvD _ _ (.BinOp _ .Add (.List _ _) _) _);refine EvL.d (el_cat ?_))
   |((with_reducible show EvD _ _ (.BinOp (.List _ _) .Add _ _) _);refine EvL.d (el_cat ?_))
   |((with_reducible show EvD _ _ (.BinOp (.Subscript _ (.Slice _ _ none _) _) .Add _ _) _);refine EvL.d (el_cat ?_))
   |((with_reducible show EvD _ _ (.BinOp _ .Add (.Subscript _ (.Slice _ _ none _) _) _) _);refine EvL.d (el_cat ?_))
   |((with_reducible show EvD _ _ (.BinOp (.Call (.Attribute _ "rules" _) _ _ _) .Add _ _) _);refine EvL.d (el_cat ?_))
   |with_reducible refine iD ?_
   |with_reducible refine gF ?_
   |with_reducible refine ev_mod ?_
   |with_reducible refine ev_fdiv ?_
   |with_reducible refine ev_mul ?_
   |with_reducible refine ev_shl ?_
   |with_reducible refine hZ ?_
   |with_reducible refine ev_not ?_
   |with_reducible refine sD ?_
   |((with_reducible show EvD _ _ (.Subscript _ (.Slice _ _ none _) _) _);refine EvL.d (el_sl ?_))
   |((with_reducible show EvD _ _ (.Subscript _ _ _) _);refine xu hr.one (fun _ _=>rfl) ?_)
   |((with_reducible show EvD _ _ (.List _ _) _);refine EvL.d (xE ?_))
   |((with_reducible show EvD _ _ (.Call (.Name "len" _) [.Call (.Name "set" _) _ _ _] _ _) _);refine ev_lenSet rfl (by rfl) nb.len (by rfl) (by assumption) ?_)
   |((with_reducible show EvD _ _ (.Call (.Name "len" _) _ _ _) _);refine uW (by rfl) nb.len ?_)
   |((with_reducible show EvD _ _ (.Call (.Name "min" _) [_,_] _ _) _);refine ev_min rfl (by rfl) nb.min ?_)
   |((with_reducible show EvD _ _ (.Call (.Name "max" _) [_,_] _ _) _);refine ev_max rfl (by rfl) nb.max ?_)
   |((with_reducible show EvD _ _ (.Call (.Name "list" _) _ _ _) _);refine EvL.d (vw (by rfl) nb.list ?_))
   |((with_reducible show EvD _ _ (.Call (.Name "repr" _) _ _ _) _);refine kO hr.gd hr.units (by rfl) nb.repr ?_)
   |((with_reducible show EvD _ _ (.Call (.Name "min" _) [_] _ _) _);refine ev_minI rfl hr.few (by rfl) nb.min ?_)
   |((with_reducible show EvD _ _ (.Call (.Name "isinstance" _) _ _ _) _);first|refine ev_isi (by rfl) nb.isinstance (by rfl) nb.int boot_int ?_|refine ev_isi (by rfl) nb.isinstance (by rfl) nb.bool boot_bool ?_|refine ev_isi (by rfl) nb.isinstance (by rfl) nb.str boot_str ?_|refine ev_isi (by rfl) nb.isinstance (by rfl) nb.list boot_list ?_|refine ev_isi (by rfl) nb.isinstance (by rfl) nb.tuple boot_tuple ?_)
   |((with_reducible show EvD _ _ (.Call (.Name "int" _) _ _ _) _);refine ev_intB (by rfl) nb.int ?_)
   |((with_reducible show EvD _ _ (.Call (.Name _ _) _ _ _) _);first|refine ku (by with_reducible assumption) (by exact⟨rfl,rfl,rfl,rfl,rfl⟩) (hr.mono (by decide)) (by rfl) ?_|refine EvN.d (en_makeR (by with_reducible assumption) (by exact⟨rfl,rfl,rfl,rfl,rfl⟩) (hr.mono (by decide)) (by rfl) ?_))
   |((with_reducible show EvD _ _ (.Call (.Attribute _ _ _) (_::_) _ _) _);refine ev_methR (by with_reducible assumption) (by exact⟨rfl,rfl,rfl,rfl,rfl⟩) (hr.mono (by decide)) ?_)
   |((with_reducible show EvD _ _ (.Call (.Attribute _ _ _) [] _ _) _);refine ev_meth0R (by with_reducible assumption) (by exact⟨rfl,rfl,rfl,rfl,rfl⟩) (hr.mono (by decide)) ?_)
   |((with_reducible show EvD _ _ (.Compare _ [_] _ _) _);first|with_reducible refine ev_lt ?_|with_reducible refine ev_le ?_|with_reducible refine ev_gt ?_|with_reducible refine ev_ge ?_|with_reducible refine ev_isN ?_|with_reducible refine ev_notN ?_|((with_reducible show EvD _ _ (.Compare _ [.Eq] _ _) _);refine gp hr.units ?_)|((with_reducible show EvD _ _ (.Compare _ [.NotEq] _ _) _);refine ev_nek hr.units ?_)|((with_reducible show EvD _ _ (.Compare _ [.In] _ _) _);refine ev_ink hr.one ?_)|((with_reducible show EvD _ _ (.Compare _ [.NotIn] _ _) _);refine ev_nink hr.one ?_)|((with_reducible show EvD _ _ (.Compare _ [.Is] [.Constant (.bool _) _ _] _) _);refine ev_isB ?_))
   |((with_reducible show EvD _ _ (.Compare _ [_,_] _ _) _);first|refine ev_lelt ?_|refine ev_ltle ?_|refine ev_lele' ?_)
   |((with_reducible show EvD _ _ (.BoolOp _ _ _) _);first|with_reducible refine iu ?_|with_reducible refine eQ ?_|with_reducible refine iL ?_)
   |with_reducible refine vG ?_)
  |((with_reducible show EvA _ _ _ _);first
   |with_reducible refine zF ?_
   |((with_reducible show EvA _ _ (.Name "_law_tape_here" _::_) _);exists sF,rfl)
   |refine zr ?_)
  |((with_reducible show EvT _ _ _ _);first
   |((with_reducible show EvT _ _ (.Compare _ [_] _ _) _);first|with_reducible refine gX ?_|with_reducible refine et_le ?_|with_reducible refine nL ?_|with_reducible refine et_ge ?_|with_reducible refine yM ?_|with_reducible refine et_notN ?_|((with_reducible show EvT _ _ (.Compare _ [.Eq] _ _) _);refine gE hr.units ?_)|((with_reducible show EvT _ _ (.Compare _ [.NotEq] _ _) _);refine qx hr.units ?_)|((with_reducible show EvT _ _ (.Compare _ [.In] _ _) _);refine et_ink hr.one ?_)|((with_reducible show EvT _ _ (.Compare _ [.NotIn] _ _) _);refine et_nink hr.one ?_)|((with_reducible show EvT _ _ (.Compare _ [.Is] [.Constant (.bool _) _ _] _) _);refine et_isB ?_)|((with_reducible show EvT _ _ (.Compare _ [.IsNot] [.Constant (.bool _) _ _] _) _);refine et_isntB ?_))
   |((with_reducible show EvT _ _ (.Compare _ [_,_] _ _) _);first|refine et_lelt ?_|refine et_ltle ?_|refine et_lele' ?_)
   |with_reducible refine vH ?_
   |((with_reducible show EvT _ _ (.BoolOp _ _ _) _);with_reducible refine EvW.t ?_)
   |refine ur ?_)
  |((with_reducible show EvL _ _ _ _);first
   |with_reducible refine xE ?_
   |((with_reducible show EvL _ _ (.Call (.Name "list" _) _ _ _) _);refine vw (by rfl) nb.list ?_)
   |((with_reducible show EvL _ _ (.Call (.Name _ _) _ _ _) _);refine el_calR (by with_reducible assumption) (by exact⟨rfl,rfl,rfl,rfl,rfl⟩) (hr.mono (by decide)) (by rfl) ?_)
   |((with_reducible show EvL _ _ (.Call (.Attribute _ _ _) [] _ _) _);refine el_meth0R (by with_reducible assumption) (by exact⟨rfl,rfl,rfl,rfl,rfl⟩) (hr.mono (by decide)) ?_)
   |((with_reducible show EvL _ _ (.Subscript _ (.Slice _ _ none _) _) _);refine el_sl ?_)
   |((with_reducible show EvL _ _ (.BinOp _ .Add _ _) _);refine el_cat ?_))
  |((with_reducible show EvW _ _ _ _);first
   |with_reducible refine sA ?_
   |with_reducible refine xJ ?_
   |with_reducible refine tU ?_
   |with_reducible refine ug ?_)
  |((with_reducible show EvO _ _ _ _);first
   |with_reducible refine tQ ?_
   |with_reducible refine tV ?_)
  |((with_reducible show oK _ _ _);first
   |refine ixk rfl rfl rfl ?_
   |refine jV ?_
   |refine ixk_1 ?_)
  |((with_reducible show InOk _ _ _ _);first
   |refine ink rfl rfl ?_
   |refine inkT rfl rfl ?_)
  |((with_reducible show oh _ _ _);first
   |with_reducible refine eqk_int ?_
   |with_reducible refine pX ?_
   |with_reducible refine eqk_bool ?_
   |refine eqk rfl rfl rfl rfl ?_)
  |((with_reducible show SvS _ _ _ _);first
   |((with_reducible show SvS _ (List.set _ _ _) _ _);dsimp only[List.set])
   |((with_reducible show SvS _ _ (zq _) _);show SvS _ _ (_::_) _)
   |((with_reducible show SvS _ _ (.Assign [.Name _ _] (.List [] _) _::_) _);exists xr,nd)
   |((with_reducible show SvS _ _ (.Assign [.Name _ _] _ _::_) _);exists xU,nd)
   |((with_reducible show SvS _ _ (.Expr (.Call (.Attribute _ "append" _) _ _ _) _::_) _);exists wb,rfl)
   |((with_reducible show SvS _ _ (.Return (some (.Name _ _)) _::_) _);exists pe,rfl)
   |with_reducible refine uf ?_
   |with_reducible refine sv_cont ?_
   |with_reducible refine sv_pass ?_
   |with_reducible refine yD ?_
   |with_reducible refine zS ?_
   |((with_reducible refine wD ?hk ?_);case hk=>first|rfl|decide +kernel)
   |((with_reducible refine yy ?hk ?_);case hk=>first|rfl|decide +kernel))
  |((with_reducible show xl _ _);refine⟨_,rfl,by first|decide|omega,by first|decide|(show _<big;unfold big;omega),fun _ _ _=>?_⟩)
  |((with_reducible refine uK ?hk ?_);case hk=>first|rfl|decide +kernel)
  |((with_reducible refine xh ?hk ?_);case hk=>first|rfl|decide +kernel)
  |refine⟨_,_,rfl,rfl,?_⟩
  |refine⟨_,_,_,rfl,rfl,rfl,?_⟩
  |refine⟨_,rfl,dS rfl,?_⟩
  |refine⟨_,rfl,rfl,?_⟩
  |refine⟨_,rfl,?_⟩))
namespace K10
open PySem PySem.Spec PyProof.Rows L2
abbrev tO :Stmt:=top 47
abbrev tI :Stmt:=top 48
section
variable {P:Program}{w:World}{K:PySem.W.Frag}{mg:Str→Option Value}{base:Heap}{cs:Cs}
theorem fO :zl ["_law_tape_here"] ["_law_tape_here"] (za tO):=⟨rfl,rfl,rfl,by decide +kernel,rfl,by decide +kernel,by decide +kernel⟩
theorem oS {f:Addr}{fd:FuncData}(F:Fun K "_law_coins" "_law_coins" tO f fd)(hm:mg "_law_coins"=some (.ref f))(hb:Binds K fd ["_law_tape_here"] [])(CD:Cal P w K mg base "_law_draw" 1 xl):Cal P w K mg base "_law_coins" 2 pK:=by
 refine rg F hm hb fO (fun as Q h=>?_) (fun cdv A' outer s H E as Q hr h=>?_)
 ·obtain⟨rfl,_⟩:=h
  rfl
 ·obtain⟨rfl,q⟩:=h
  have nd:=fO.nd
  and_intros
  exact tX rfl (by assumption) (by assumption) ⟨q _ (by omega) (by omega),q _ (by omega) (by omega),q _ (by omega) (by omega),q _ (by omega) (by omega),q _ (by omega) (by omega),trivial⟩
theorem fz :zl ["_law_tape_here","_law_word","_law_many"] ["_law_tape_here","_law_word"] (za tI):=⟨rfl,rfl,rfl,by decide +kernel,rfl,by decide +kernel,by decide +kernel⟩
set_option maxHeartbeats 4000000 in
theorem oM {f:Addr}{fd:FuncData}(F:Fun K "_law_worth" "_law_worth" tI f fd)(hm:mg "_law_worth"=some (.ref f))(hb:Binds K fd ["_law_tape_here","_law_word"] [])(CD:Cal P w K mg base "_law_draw" 1 xl)(CC:Cal P w K mg base "_law_coins" 2 pK):Cal P w K mg base "_law_worth" 3 rL:=by
 refine rg F hm hb fz (fun as Q h=>?_) (fun cdv A' outer s H E as Q hr h=>?_)
 ·obtain⟨wd,rfl,_⟩:=h
  rfl
 ·obtain⟨wd,rfl,hw,q⟩:=h
  have nd:=fz.nd
  have qc:∀z:Int,0≤z→z≤1000000000000→xM (.int z)=true:=fun z h0 h1=>within_int h0 h1
  have hbig:(1000000000001:Int)<big:=by decide
  have hneg:-big<(0:Int):=by decide
  have nc:∀z:Int,0≤z→z≤1000000000000→zD 5000 (.int z):=fun z h0 h1=>(zD.int (by omega) (by omega)).mono (by decide)
  have qn:zp (.str wd) .none=true→Q (.dat .none):=fun h=>q _ h (zD.none.mono (by decide)) (dZ _)
  have qi:∀z:Int,0≤z→z≤1000000000000→zp (.str wd) (.int z)=true→Q (.dat (.int z)):=fun z a b h=>q _ h (nc z a b) (dZ _)
  have qd:∀m f:Int,wd="deal"→2≤m→m≤14→1≤f→f<m→Q (.dat (.tuple [.int m,.int f])):=fun m f e a b c d=>by
   subst e
   obtain⟨x,y,z⟩:=jj a b c d
   exact q _ x y z
  have qp:∀z:Int,0≤z→z≤1000000000000→wd="price"→Q (.dat (.int z)):=fun z a b e=>by
   subst e
   exact qi z a b (by rw[vi,qc z a b,Bool.or_true])
  simp only[words,cm,cD,bh] at hw
  rcases hw with rfl|rfl|rfl|rfl|rfl|rfl|rfl
  ·and_intros
   refine⟨rfl,fun z1 a1 b1=>?_⟩
   and_intros
   refine⟨rfl,fun z2 a2 b2=>?_⟩
   and_intros
   exact tX rfl (by assumption) (by assumption) ⟨qn (by rw[vi]<;>rfl),qp z1 a1 b1 rfl,qp z2 a2 b2 rfl,trivial⟩
  ·and_intros
   exact q _ (by rw[rS]<;>rfl) ((zD.bool _).mono (by decide)) (dZ _)
  ·and_intros
   exact q _ (by rw[nN]<;>rfl) ((zD.bool _).mono (by decide)) (dZ _)
  ·and_intros
   exact qi _ (by omega) (by omega) (by rw[sV];exact within_int (by omega) (by omega))
  ·and_intros
   exact qi _ (by omega) (by omega) (by rw[rY];exact within_int (by omega) (by omega))
  ·and_intros
   exact tX rfl (by assumption) (by assumption) ⟨qn (by rw[ub]<;>rfl),qd _ _ rfl (by omega) (by omega) (by omega) (by omega),qd _ _ rfl (by omega) (by omega) (by omega) (by omega),qd _ _ rfl (by omega) (by omega) (by omega) (by omega),trivial⟩
  ·and_intros
   refine⟨rfl,fun z1 a1 b1=>?_⟩
   exact qi z1 a1 b1 (by rw[nB];exact qc z1 a1 b1)
end
structure yI (d:PyData):Prop where
 rule:yK d=true
 nice:zD 20011 d
 dep:d.depth≤2
 wn:zD 5000 (ju d)
def yT (ds:List PyData):Prop:=∀d∈ds,yI d
theorem wc {s:Str}(h:s∈words):zD 2000 (.str s):=by
 simp only[words,cm,cD,bh] at h
 rcases h with rfl|rfl|rfl|rfl|rfl|rfl|rfl<;>exact⟨rfl,rfl,dZ _,by decide +kernel,by decide +kernel⟩
theorem yI.of {s:Str}{i j:Int}{d:PyData}(hs:s∈words)(i0:0≤i)(ij:i≤j)(j1:j≤1000000)(hw:zp (.str s) d=true)(hn:zD 5000 d)(hd:d.depth≤1):yI (.tuple [.str s,.int i,.int j,d]):=by
 have hbig:(1000001:Int)<big:=by decide
 have hneg:-big<(0:Int):=by decide
 have na:zT 5000 [.str s,.int i,.int j,d]:=by
  constructor
  ·intro x hx
   simp only[cm,cD,bh] at hx
   rcases hx with rfl|rfl|rfl|rfl
   ·exact (wc hs).mono (by decide)
   ·exact (zD.int (by omega) (by omega)).mono (by decide)
   ·exact (zD.int (by omega) (by omega)).mono (by decide)
   ·exact hn
  ·intro x hx
   simp only[cm,cD,bh] at hx
   rcases hx with rfl|rfl|rfl|rfl
   ·exact dZ _
   ·exact dZ _
   ·exact dZ _
   ·omega
 refine⟨?_,zD.tuple na (by show 4*(5000+2)+3≤20011;decide),?_,hn⟩
 ·show (zB (.tuple [.int i,.int j])&&zp (.str s) d)=true
  rw[hw,Bool.and_true]
  unfold zB vZ
  have h1:(xP (.int i)&&xP (.int j))=true:=by
   show ((decide (0≤i)&&decide (i≤1000000))&&(decide (0≤j)&&decide (j≤1000000)))=true
   simp only[cy,cL]
   omega
  simp only[h1,if_true,cL]
  omega
 ·simp only[PyData.depth,PyData.depthAll]
  omega
theorem yT.rules {ds:List PyData}(h:yT ds):Rules ds:=fun d hd=>⟨(h d hd).rule,(h d hd).nice.shaped,(h d hd).nice.nod⟩
def pR (CT:Addr):List A→(A→Prop)→(PyData→Prop)→Prop:=fun as _ q=>∃ds,as=[.dat (.list ds)]∧Rules ds∧24<ds.length∧ds.length≤900∧q (xD0 CT)
def pd (CT:Addr):List A→(PyData→Prop)→Prop:=fun as q=>∃ds,as=[.dat (.list ds)]∧Rules ds∧24<ds.length∧ds.length≤900∧q (xD0 CT)
section
variable {P:Program}{w:World}{K:PySem.W.Frag}{mg:Str→Option Value}{base:Heap}{cs:Cs}
theorem oa :zl ((["things","kept","number","thing","rule"]:List Str)++[("":Str)]) ["things"] (za uA):=⟨rfl,rfl,rfl,by decide +kernel,rfl,by decide +kernel,by decide +kernel⟩
set_option maxHeartbeats 4000000 in
theorem nh {f CT:Addr}{fd:FuncData}(F:Fun K "kept_rules" "kept_rules" uA f fd)(hm:mg "kept_rules"=some (.ref f))(hb:Binds K fd ["things"] [])(nb:NbT mg)(gM:∃t,mg "MOST_RULES"=some (.int 24 t))(CRO:Cal P w K mg base "rule_of" 7 (xN cs))(XT:iM K mg "TooMany" CT):nz P w K mg base "kept_rules" 8 (pR CT):=by
 refine ff F hm hb oa (by decide) (fun as Q q h=>?_) (fun cdv A' outer s H E as Q q r xe hr h xo=>?_)
 ·obtain⟨ds,rfl,_⟩:=h
  rfl
 ·obtain⟨ds,rfl,rd,hl,hu,qz⟩:=h
  have nd:=oa.nd
  refine xr 1 nd (xE (zF (⟨_,rfl,dS rfl,?_⟩)))
  refine sg (pat:=.many [2,3]) xo.own rfl (yZ (n:=2) (K:=K) rfl rfl (yq (zX (i:=2) nd rfl (Or.inl rfl)) (yq (zX (i:=3) nd rfl (Or.inl rfl)) (wa)))) (tM (by rfl) nb.enumerate (zf 0 rfl (⟨_,rfl,?_⟩)))
  refine wy (fun i α=>∃v2 v3 v4,α=[some (.dat (.list ds)),some (.own ((ds.take i).map (yR cs))),v2,v3,v4,some (.exc r fun _=>True)]∧noE [v2,v3,v4]=true) ⟨none,none,none,rfl,rfl⟩ ?_ ?_
  ·rintro i d α hd ⟨v2,v3,v4,rfl,ne⟩
   obtain⟨e,he,rfl⟩:=xg hd
   obtain⟨r1,r2,r3⟩:=rd e (cP he)
   have hi:i<ds.length:=(dN.mp he).1
   refine⟨_,rfl,?_⟩
   refine xU 4 nd (xA CRO hr (by rfl) (zr (zf 3 rfl (zF (⟨_,rfl,r3,r2,fun z=>(by rw[r1] at z;cases z),fun _=>?_⟩)))))
   refine yD (yM (zf 4 rfl ?_))
   obtain⟨s',a,b,v,hs,rfl,ei⟩:=xx (cs:=cs) r1
   refine yQ (fun h=>by rw[show (A.dat (yR cs (.tuple [.str s',a,b,v]))).d=uz (cs.of s') a b v from rfl] at h;cases h) (fun _=>zS ?_)
   refine wb 1 rfl (zf 4 rfl ⟨by rw[dU,bc];omega,?_⟩)
   refine zS ⟨some (.dat (.int ((0+i:Nat):Int))),some (.dat (.tuple [.str s',a,b,v])),some (.dat (yR cs (.tuple [.str s',a,b,v]))),?_,rfl⟩
   rw[List.take_add_one,he,aw]
   rfl
  ·rintro α ⟨v2,v3,v4,rfl,ne⟩
   rw[yW,List.take_length]
   refine yD (qX 1 rfl (nL (uW (by rfl) nb.len (zf 1 rfl ⟨_,rfl,uk (by rfl) gM ⟨_,_,rfl,rfl,?_⟩⟩))))
   refine lC (fun h=>?_) (fun h=>?_)
   ·exact oz (j:=5) xo rfl XT (by rfl) rfl (leX.nil rfl) (kr (by decide +kernel) (by decide +kernel) (uk (by rfl) gM ⟨24,rfl,by decide,fun _=>qz⟩))
   ·rw[dU] at h
    omega
theorem jS :zl ((["self","rules"]:List Str)++[("":Str)]) ["self","rules"] (za yh):=⟨rfl,rfl,rfl,by decide +kernel,rfl,by decide +kernel,by decide +kernel⟩
theorem qE {f C CT:Addr}{dV:Value}{fd:FuncData}(F:sX K "__init__" "Book.__init__" yh dV f fd)(hm:mg "Book"=some (.ref C))(mk:Mk K C f)(hb:Binds K fd ["self","rules"] [])(CKe:nz P w K mg base "kept_rules" 8 (pR CT)):sN P w K mg base "Book" 9 (pd CT):=by
 refine⟨C,f,fd,_,hm,mk,hb,fZ F jS (by decide) (fun as Q q h=>?_) (fun cdv A' outer s H E as Q q r xe hr h xo=>?_)⟩
 ·obtain⟨as',rfl,ds,rfl,_⟩:=h
  rfl
 ·obtain⟨as',rfl,ds,rfl,rd,hl,hu,qz⟩:=h
  refine qW 0 (EvL.d (pZ (j:=2) xo rfl (leX.nil rfl) CKe hr (by rfl) (zr (vG (yM (zf 1 rfl (wC (zf 1 rfl (zF ⟨ds,rfl,rd,hl,hu,qz⟩)))))))))
end
abbrev ua :Stmt:=inClass (top 12) 0
theorem fN :zl ["self","number"] ["self","number"] (za ua):=⟨rfl,rfl,rfl,by decide +kernel,rfl,by decide +kernel,by decide +kernel⟩
theorem gL {P:Program}{w:World}{K:PySem.W.Frag}{mg:Str→Option Value}{base:Heap}{f C S:Addr}{fd:FuncData}(F:Fun K "__init__" "NoRule.__init__" ua f fd)(hb:Binds K fd ["self","number"] [])(hm:mg "NoRule"=some (.ref C))(hS:mg "StayError"=some (.ref S))(kp:PySem.W.keepIn K (.ref C)=true)(hf:PySem.W.typeIn K (.ref f)=some (.type "function"))(xs:XS K S)(xc:XC K C S (some (.ref f)))(hn:PySem.W.findIn K (.ref C) "number"=some none):XMk P w K mg base "NoRule" 1 C "number":=
 ⟨hm,kp,S,f,fd,_,xc.ok,hf,hb,lp F fN rfl rfl hS xs xc hn (by decide +kernel) (by decide +kernel) (fun _=>rfl) (Or.inl rfl) (Or.inl rfl)⟩
def nrX (CR:Addr)(n:Nat):PyData:=xD CR [(.str "number",.int n)]
def uc (ds:List PyData)(n:Nat):Prop:=∃pre d post,ds=pre++d::post∧Rules pre∧yK d=false∧SeqAt.shaped d=true∧d.hasDict=false∧pre.length=n
def og (CR:Addr):List A→(A→Prop)→(PyData→Prop)→Prop:=fun as _ q=>∃ds n,as=[.dat (.list ds)]∧uc ds n∧n≤900∧q (nrX CR n)
def ph (CR:Addr):List A→(PyData→Prop)→Prop:=fun as q=>∃ds n,as=[.dat (.list ds)]∧uc ds n∧n≤900∧q (nrX CR n)
section
variable {P:Program}{w:World}{K:PySem.W.Frag}{mg:Str→Option Value}{base:Heap}{cs:Cs}
set_option maxHeartbeats 4000000 in
theorem nC {f CR:Addr}{fd:FuncData}(F:Fun K "kept_rules" "kept_rules" uA f fd)(hm:mg "kept_rules"=some (.ref f))(hb:Binds K fd ["things"] [])(nb:NbT mg)(CRO:Cal P w K mg base "rule_of" 7 (xN cs))(XN:XMk P w K mg base "NoRule" 1 CR "number"):nz P w K mg base "kept_rules" 8 (og CR):=by
 refine ff F hm hb oa (by decide) (fun as Q q h=>?_) (fun cdv A' outer s H E as Q q r xe hr h xo=>?_)
 ·obtain⟨ds,n,rfl,_⟩:=h
  rfl
 ·obtain⟨ds,n,rfl,⟨pre,bad,post,hds,rd,rb,sb,nb',hn⟩,hu,qz⟩:=h
  subst hn
  have nd:=oa.nd
  refine xr 1 nd (xE (zF (⟨_,rfl,dS rfl,?_⟩)))
  refine sg (pat:=.many [2,3]) xo.own rfl (yZ (n:=2) (K:=K) rfl rfl (yq (zX (i:=2) nd rfl (Or.inl rfl)) (yq (zX (i:=3) nd rfl (Or.inl rfl)) (wa)))) (tM (by rfl) nb.enumerate (zf 0 rfl (⟨_,rfl,?_⟩)))
  refine wy (fun i α=>i≤pre.length∧∃v2 v3 v4,α=[some (.dat (.list ds)),some (.own ((ds.take i).map (yR cs))),v2,v3,v4,some (.exc r fun _=>True)]∧noE [v2,v3,v4]=true) ⟨dZ _,none,none,none,rfl,rfl⟩ ?_ ?_
  ·rintro i d α hd ⟨ip,v2,v3,v4,rfl,ne⟩
   obtain⟨e,he,rfl⟩:=xg hd
   have hi:i<ds.length:=(dN.mp he).1
   refine⟨_,rfl,?_⟩
   by_cases ie:i<pre.length
   ·have em:e∈pre:=by
     rw[hds,cn ie] at he
     exact cP he
    obtain⟨r1,r2,r3⟩:=rd e em
    refine xU 4 nd (xA CRO hr (by rfl) (zr (zf 3 rfl (zF (⟨_,rfl,r3,r2,fun z=>(by rw[r1] at z;cases z),fun _=>?_⟩)))))
    refine yD (yM (zf 4 rfl ?_))
    obtain⟨s',a,b,v,hs,rfl,ei⟩:=xx (cs:=cs) r1
    refine yQ (fun h=>by rw[show (A.dat (yR cs (.tuple [.str s',a,b,v]))).d=uz (cs.of s') a b v from rfl] at h;cases h) (fun _=>zS ?_)
    refine wb 1 rfl (zf 4 rfl ⟨by rw[dU,bc];omega,?_⟩)
    refine zS ⟨by omega,some (.dat (.int ((0+i:Nat):Int))),some (.dat (.tuple [.str s',a,b,v])),some (.dat (yR cs (.tuple [.str s',a,b,v]))),?_,rfl⟩
    rw[List.take_add_one,he,aw]
    rfl
   ·have e1:i=pre.length:=by omega
    subst e1
    rw[hds,cp (dQ _),cS] at he
    cases he
    refine xU 4 nd (xA CRO hr (by rfl) (zr (zf 3 rfl (zF (⟨_,rfl,nb',sb,fun _=>?_,fun z=>(by rw[rb] at z;cases z)⟩)))))
    refine yD (yM (zf 4 rfl ?_))
    refine wD rfl ?_
    exact ng (j:=5) xo rfl XN (hr.mono (by decide)) (by rfl) rfl (leX.nil rfl) (zf 2 rfl ⟨((0+pre.length:Nat):Int),rfl,by
     have:(((0+pre.length:Nat):Int).natAbs).log2<64:=by
      by_cases e:((0+pre.length:Nat):Int).natAbs=0
      ·rw[e];decide
      ·exact (Nat.log2_lt e).mpr (by omega)
     omega,by rw[Nat.zero_add];exact qz⟩)
  ·rintro α ⟨ip,v2,v3,v4,rfl,ne⟩
   rw[yW,hds,cx,cf] at ip
   omega
theorem rF {f C CR:Addr}{dV:Value}{fd:FuncData}(F:sX K "__init__" "Book.__init__" yh dV f fd)(hm:mg "Book"=some (.ref C))(mk:Mk K C f)(hb:Binds K fd ["self","rules"] [])(CKe:nz P w K mg base "kept_rules" 8 (og CR)):sN P w K mg base "Book" 9 (ph CR):=by
 refine⟨C,f,fd,_,hm,mk,hb,fZ F jS (by decide) (fun as Q q h=>?_) (fun cdv A' outer s H E as Q q r xe hr h xo=>?_)⟩
 ·obtain⟨as',rfl,ds,n,rfl,_⟩:=h
  rfl
 ·obtain⟨as',rfl,ds,n,rfl,rd,hl,qz⟩:=h
  exact qW 0 (EvL.d (pZ (j:=2) xo rfl (leX.nil rfl) CKe hr (by rfl) (zr (vG (yM (zf 1 rfl (wC (zf 1 rfl (zF ⟨ds,n,rfl,rd,hl,qz⟩)))))))))
end
abbrev rW :Stmt:=top 49
abbrev qF :Stmt:=top 50
def sU :List A→(A→Prop)→Prop:=fun as Q=>∃bs:Int,as=[.tape,.dat (.int bs)]∧0≤bs∧bs≤999960∧∀d,yI d→Q (.dat d)
def qZ :List A→(A→Prop)→Prop:=fun as Q=>as=[.tape]∧∀b:Int,0≤b→b≤999960→Q (.dat (.int b))
section
variable {P:Program}{w:World}{K:PySem.W.Frag}{mg:Str→Option Value}{base:Heap}{cs:Cs}
theorem gU :zl ["_law_tape_here","_law_base_here","_law_word","_law_first","_law_last"] ["_law_tape_here","_law_base_here"] (za rW):=⟨rfl,rfl,rfl,by decide +kernel,rfl,by decide +kernel,by decide +kernel⟩
theorem qj {f:Addr}{fd:FuncData}(F:Fun K "_law_rule" "_law_rule" rW f fd)(hm:mg "_law_rule"=some (.ref f))(hb:Binds K fd ["_law_tape_here","_law_base_here"] [])(CD:Cal P w K mg base "_law_draw" 1 xl)(CW:Cal P w K mg base "_law_worth" 3 rL):Cal P w K mg base "_law_rule" 4 sU:=by
 refine rg F hm hb gU (fun as Q h=>?_) (fun cdv A' outer s H E as Q hr h=>?_)
 ·obtain⟨bs,rfl,_⟩:=h
  rfl
 ·obtain⟨bs,rfl,b0,b1,q⟩:=h
  have nd:=gU.nd
  and_intros
  refine vM (fun d=>∃s:Str,d=.str s∧s∈words) rfl (by assumption) (by assumption) ⟨⟨_,rfl,by simp[words]⟩,⟨_,rfl,by simp[words]⟩,⟨_,rfl,by simp[words]⟩,⟨_,rfl,by simp[words]⟩,⟨_,rfl,by simp[words]⟩,⟨_,rfl,by simp[words]⟩,⟨_,rfl,by simp[words]⟩,trivial⟩ ?_
  rintro _ ⟨wd,rfl,hw⟩
  and_intros
  rename_i v1 a1 c1 v2 a2 c2 v3 a3 c3 v4 a4 c4
  refine vM (fun d=>∃z:Int,d=.int z∧0≤z∧z≤15) rfl (by assumption) (by assumption) ⟨⟨_,rfl,by omega,by omega⟩,⟨_,rfl,by omega,by omega⟩,⟨_,rfl,by omega,by omega⟩,⟨_,rfl,by omega,by omega⟩,trivial⟩ ?_
  rintro _ ⟨z,rfl,z0,z1⟩
  refine⟨_,_,rfl,rfl,?_⟩
  refine sr (fun α=>∃i j:Int,α=[some .tape,some (.dat (.int bs)),some (.dat (.str wd)),some (.dat (.int i)),some (.dat (.int j))]∧0≤i∧i≤j∧j≤1000000) ?_ ?_
  ·and_intros
   refine yQ (fun _=>?_) (fun _=>?_)
   ·and_intros
    exact⟨_,_,rfl,by omega,by omega,by omega⟩
   ·and_intros
    exact⟨_,_,rfl,by omega,by omega,by omega⟩
  rintro α ⟨i,j,rfl,i0,ij,j1⟩
  refine sr (fun α=>∃i j:Int,α=[some .tape,some (.dat (.int bs)),some (.dat (.str wd)),some (.dat (.int i)),some (.dat (.int j))]∧0≤i∧i≤j∧j≤1000000) ?_ ?_
  ·and_intros
   refine yQ (fun _=>?_) (fun _=>?_)
   ·and_intros
    refine⟨_,_,rfl,by omega,?_,?_⟩
    ·show i≤(1000000:Int)
     omega
    ·exact Int.le_refl _
   ·and_intros
    exact⟨_,_,rfl,by omega,by omega,by omega⟩
  rintro α ⟨i,j,rfl,i0,ij,j1⟩
  and_intros
  refine⟨hw,fun v wv nv dv=>?_⟩
  and_intros
  exact q _ (yI.of hw i0 ij j1 wv nv dv)
theorem ig :zl ["_law_tape_here"] ["_law_tape_here"] (za qF):=⟨rfl,rfl,rfl,by decide +kernel,rfl,by decide +kernel,by decide +kernel⟩
theorem oX {f:Addr}{fd:FuncData}(F:Fun K "_law_base" "_law_base" qF f fd)(hm:mg "_law_base"=some (.ref f))(hb:Binds K fd ["_law_tape_here"] [])(CD:Cal P w K mg base "_law_draw" 1 xl):Cal P w K mg base "_law_base" 2 qZ:=by
 refine rg F hm hb ig (fun as Q h=>?_) (fun cdv A' outer s H E as Q hr h=>?_)
 ·obtain⟨rfl,_⟩:=h
  rfl
 ·obtain⟨rfl,q⟩:=h
  have nd:=ig.nd
  and_intros
  rename_i v1 a1 c1 v2 a2 c2
  refine vM (fun d=>∃z:Int,d=.int z∧0≤z∧z≤999960) rfl (by assumption) (by assumption) ⟨⟨_,rfl,by omega,by omega⟩,⟨_,rfl,by omega,by omega⟩,⟨_,rfl,by omega,by omega⟩,trivial⟩ ?_
  rintro _ ⟨z,rfl,z0,z1⟩
  and_intros
  exact q z z0 z1
end
abbrev iz :Stmt:=top 51
abbrev gh :Stmt:=top 52
abbrev qu :Stmt:=top 53
def Kit (K:PySem.W.Frag)(mg:Str→Option Value)(C:Addr)(x:Str)(b:Bool):Prop:=∃B,mg x=some (.ref B)∧PySem.W.kitOne K (.ref C) (.ref B)=some b
structure iZ (K:PySem.W.Frag)(mg:Str→Option Value)(C:Addr):Prop where
 k1:Kit K mg C "Barred" false
 k2:Kit K mg C "Had" false
 k3:Kit K mg C "NoDeed" false
 k4:Kit K mg C "NoName" false
 k5:Kit K mg C "NoRow" false
 k6:Kit K mg C "NoStay" false
 k7:Kit K mg C "NoTaken" false
 k8:Kit K mg C "Off" false
 k9:Kit K mg C "NoText" false
 k10:Kit K mg C "NotSold" false
def jQ (CR CT:Addr):List A→(A→Prop)→Prop:=fun as Q=>∃d C,as=[.dat d]∧(C=CR∨C=CT)∧isX C d∧Q (.dat (.bool false))
section
variable {P:Program}{w:World}{K:PySem.W.Frag}{mg:Str→Option Value}{base:Heap}{cs:Cs}
theorem eJ :zl ["_law_error"] ["_law_error"] (za gh):=⟨rfl,rfl,rfl,by decide +kernel,rfl,by decide +kernel,by decide +kernel⟩
theorem jB {f CR CT S:Addr}{fd:FuncData}(F:Fun K "_law_of_another" "_law_of_another" gh f fd)(hm:mg "_law_of_another"=some (.ref f))(hb:Binds K fd ["_law_error"] [])(nb:NbT mg)(xR:∃init,XC K CR S init)(xT:∃init,XC K CT S init)(kR:iZ K mg CR)(kT:iZ K mg CT):Cal P w K mg base "_law_of_another" 1 (jQ CR CT):=by
 refine rg F hm hb eJ (fun as Q h=>?_) (fun cdv A' outer s H E as Q hr h=>?_)
 ·obtain⟨d,C,rfl,_⟩:=h
  rfl
 ·obtain⟨d,C,rfl,hc,ix,q⟩:=h
  have nd:=eJ.nd
  have xk:(∃init,XC K C S init)∧iZ K mg C:=by
   rcases hc with rfl|rfl
   ·exact⟨xR,kR⟩
   ·exact⟨xT,kT⟩
  obtain⟨⟨init,xc⟩,kn⟩:=xk
  obtain⟨B1,m1,e1⟩:=kn.k1
  obtain⟨B2,m2,e2⟩:=kn.k2
  obtain⟨B3,m3,e3⟩:=kn.k3
  obtain⟨B4,m4,e4⟩:=kn.k4
  obtain⟨B5,m5,e5⟩:=kn.k5
  obtain⟨B6,m6,e6⟩:=kn.k6
  obtain⟨B7,m7,e7⟩:=kn.k7
  obtain⟨B8,m8,e8⟩:=kn.k8
  obtain⟨B9,m9,e9⟩:=kn.k9
  obtain⟨B10,m10,e10⟩:=kn.k10
  refine yD (EvW.t (xJ (yn (zV (by rfl) nb.isinstance (by rfl) m1 (zf 0 rfl ⟨C,_,init,false,ix,xc,e1,⟨_,rfl,?_⟩⟩)))))
  refine xh rfl (xJ (yn (zV (by rfl) nb.isinstance (by rfl) m2 (zf 0 rfl ⟨C,_,init,false,ix,xc,e2,⟨_,rfl,?_⟩⟩))))
  refine xh rfl (xJ (yn (zV (by rfl) nb.isinstance (by rfl) m3 (zf 0 rfl ⟨C,_,init,false,ix,xc,e3,⟨_,rfl,?_⟩⟩))))
  refine xh rfl (ug (yn (zV (by rfl) nb.isinstance (by rfl) m4 (zf 0 rfl ⟨C,_,init,false,ix,xc,e4,⟨_,rfl,?_⟩⟩))))
  refine yy rfl (zS ?_)
  refine yD (EvW.t (xJ (yn (zV (by rfl) nb.isinstance (by rfl) m5 (zf 0 rfl ⟨C,_,init,false,ix,xc,e5,⟨_,rfl,?_⟩⟩)))))
  refine xh rfl (xJ (yn (zV (by rfl) nb.isinstance (by rfl) m6 (zf 0 rfl ⟨C,_,init,false,ix,xc,e6,⟨_,rfl,?_⟩⟩))))
  refine xh rfl (xJ (yn (zV (by rfl) nb.isinstance (by rfl) m7 (zf 0 rfl ⟨C,_,init,false,ix,xc,e7,⟨_,rfl,?_⟩⟩))))
  refine xh rfl (ug (yn (zV (by rfl) nb.isinstance (by rfl) m8 (zf 0 rfl ⟨C,_,init,false,ix,xc,e8,⟨_,rfl,?_⟩⟩))))
  refine yy rfl (zS ?_)
  refine uf ?_
  and_intros
  refine zV (by rfl) nb.isinstance (by rfl) m9 (zf 0 rfl ⟨C,_,init,false,ix,xc,e9,?_⟩)
  and_intros
  refine zV (by rfl) nb.isinstance (by rfl) m10 (zf 0 rfl ⟨C,_,init,false,ix,xc,e10,?_⟩)
  and_intros
  exact q
end
end K10
namespace L2
open PySem PySem.Spec PyProof.Rows
theorem lJ {X:Cx}{α:Ev}{E:yu}{rest:List Stmt}{pos p p':Pos}(i y:Nat){x n:Str}{d:PyData}{S:Addr→Prop}(hN:X.N.Nodup)(hy:α[y]?=some (some (.deep d S)))(hne:y≠i)(h:SvS X ((α.set y none).set i (some (.deep d S))) rest E)(hn:X.N[y]?=some n:=by rfl)(hv:Vis X.env.scope n:=by first|exact Or.inl rfl|exact Or.inr (Or.inl rfl)|exact Or.inr (Or.inr rfl))
  (hdb:(n == ("__debug__":Str))=false:=by decide) (hcd:(n == ("__classdict__":Str))=false:=by decide) (hi:X.N[i]?=some x:=by rfl) (hx:Loc X.env.scope x:=by first|exact Or.inl rfl|exact Or.inr rfl)
  (hs:swapsWith (.Name n p) (some (.Name x p')) pos.line X.env=pure false:=by rfl) (hf:X.fn x=true∨X.env.scope.names.lookup x=some .local:=by first|exact .inl rfl|exact .inr rfl|assumption):SvS X α (.Assign [.Name x p'] (.Name n p) pos::rest) E:=fun F σ H D m r=>by
 refine⟨_,zu (xq hN hi hx (yo hn hv hdb hcd) hs hf) zM,?_⟩
 obtain⟨v,h1,h2,h3⟩:=m.deep y d S hy
 refine⟨v,h1,h F _ H D ?_ r⟩
 have hl:=m.len
 have key:∀{k:Nat} {a:A},((α.set y none).set i (some (.deep d S)))[k]?=some (some a)→k<α.length∧((k=i∧a=.deep d S)∨(k≠i∧k≠y∧α[k]?=some (some a))):=fun {k a} e=>by
  have hk:=(dN.mp e).1
  rw[cq,cq] at hk
  rcases zy e with ⟨rfl,z⟩|⟨z1,z2⟩
  ·cases z;exact⟨hk,.inl ⟨rfl,rfl⟩⟩
  ·rcases zy z2 with ⟨_,z⟩|⟨z3,z4⟩
   ·cases z
   ·exact⟨hk,.inr ⟨fun w=>z1 w.symm,fun w=>z3 w.symm,z4⟩⟩
 refine m.reidx (fun k=>if k=i then y else k) (by rw[cq,cq,cq];exact hl) (fun k a s e1 e2=>?_) fun k k' a a' e e' z=>?_
 ·obtain⟨hk,⟨rfl,rfl⟩|⟨hne,hny,e⟩⟩:=key e1
  ·rw[if_pos rfl]
   rw[cT (by omega)] at e2
   cases e2
   exact⟨hy,h1⟩
  ·rw[if_neg hne]
   rw[cF (fun w=>hne w.symm)] at e2
   exact⟨e,e2⟩
 ·rcases (key e).2 with ⟨z1,_⟩|⟨z1,y1,_⟩
  ·rcases (key e').2 with ⟨z2,_⟩|⟨z2,y2,_⟩
   ·omega
   ·rw[if_pos z1,if_neg z2] at z;exact absurd z.symm y2
  ·rcases (key e').2 with ⟨z2,_⟩|⟨z2,y2,_⟩
   ·rw[if_neg z1,if_pos z2] at z;exact absurd z y1
   ·rw[if_neg z1,if_neg z2] at z;exact z
end L2
namespace K10
open PySem PySem.Spec PyProof.Rows L2
structure XF (K:PySem.W.Frag)(mg:Str→Option Value)(CR CT S:Addr):Prop where
 mS:mg "StayError"=some (.ref S)
 bR:XB K CR S
 bT:XB K CT S
 xR:∃init,XC K CR S init
 xT:∃init,XC K CT S init
 nn:PySem.W.findIn K (.ref CR) "number"=some none
 rR:Kit K mg CR "NoRule" true
 rT:Kit K mg CR "TooMany" false
 tR:Kit K mg CT "NoRule" false
 tT:Kit K mg CT "TooMany" true
 mV:mg "ValueError"=none
 vR:PySem.W.kitOne K (.ref CR) (.type "ValueError")=some true
 vT:PySem.W.kitOne K (.ref CT) (.type "ValueError")=some true
inductive xy :List PyData→PyData→Prop where
 |rule {ds:List PyData} {n:Nat}:uc ds n→n≤900→xy ds (.tuple [.str "rule",.int n])
 |many {ds:List PyData}:Rules ds→24<ds.length→ds.length≤900→xy ds (.tuple [.str "many"])
 |made {ds:List PyData}:Rules ds→ds.length≤24→xy ds (.tuple [.str "made"])
def pI :List A→(A→Prop)→Prop:=fun as Q=>∃ds d,as=[.dat (.list ds)]∧xy ds d∧Q (.dat d)
section
variable {P:Program}{w:World}{K:PySem.W.Frag}{mg:Str→Option Value}{base:Heap}{cs:Cs}
theorem eA :zl ((["_law_things","_law_found","e"]:List Str)++[("":Str)]) ["_law_things"] (za qu):=⟨rfl,rfl,rfl,by decide +kernel,rfl,by decide +kernel,by decide +kernel⟩
set_option maxHeartbeats 4000000 in
theorem oY {f C CR CT S:Addr}{fd:FuncData}(F:Fun K "_law_told" "_law_told" qu f fd)(hm:mg "_law_told"=some (.ref f))(hb:Binds K fd ["_law_things"] [])(nb:NbT mg)(xf:XF K mg CR CT S)(CA:Cal P w K mg base "_law_of_another" 1 (jQ CR CT))(CBk:jJ P w K mg base "Book" 9 [] (tf C cs))(CKN:sN P w K mg base "Book" 9 (ph CR))(CKT:sN P w K mg base "Book" 9 (pd CT)):Cal P w K mg base "_law_told" 11 pI:=by
 refine rg F hm hb eA (fun as Q h=>?_) (fun cdv A' outer s H E as Q hr h=>?_)
 ·obtain⟨ds,d,rfl,_⟩:=h
  rfl
 ·obtain⟨ds,d0,rfl,td,q⟩:=h
  have nd:=eA.nd
  obtain⟨iR,xR⟩:=xf.xR
  obtain⟨iT,xT⟩:=xf.xT
  refine xU 1 nd (tE ?_)
  have lx:leX [some (.dat (.list ds)),some (.dat .none),none,none] [some (.dat (.list ds)),some (.dat .none),none,none]:=leX.cons (.inr ⟨rfl,fun a e=>by cases e;trivial⟩) (leX.cons (.inr ⟨rfl,fun a e=>by cases e;trivial⟩) (leX.cons (.inl rfl) (leX.cons (.inl rfl) leX.nil')))
  cases td with
  |made rd hl=>
   refine vC 2 3 [some (.dat (.list ds)),some (.dat .none),none,none] (fun _=>False) rfl rfl nd rfl lx (by rfl) xf.mS (fun _ z=>z.elim) (fun pins xe r xo=>?_) (fun pins a d S z=>z.elim)
   refine tu (EvN.d (kH CBk hr (by rfl) (zr (zf 0 rfl (zF ⟨ds,.inl rfl,rd,hl,zS ?_⟩)))))
   and_intros
   exact q
  |many rd hl hu=>
   refine vC 2 3 [some (.dat (.list ds)),some (.dat .none),none,none] (fun d=>d=xD0 CT) rfl rfl nd rfl lx (by rfl) xf.mS (fun d e=>⟨CT,.inr e,xf.bT⟩) (fun pins xe r xo=>?_) (fun pins a d S e=>?_)
   ·exact tu (rG (j:=3) xo rfl (leX.cons (.inr ⟨rfl,fun a e=>by cases e;trivial⟩) (leX.cons (.inr ⟨rfl,fun a e=>by cases e;trivial⟩) (leX.cons (.inl rfl) (leX.cons (.inl rfl) leX.nil')))) CKT hr (by rfl) (zr (zf 0 rfl (zF ⟨ds,rfl,rd,hl,hu,rfl⟩))))
   ·subst e
    refine lJ 1 2 nd rfl (by decide) (zS ?_)
    refine pN 1 rfl ?_
    refine yD (yM (zf 1 rfl ?_))
    refine yy rfl (zS ?_)
    obtain⟨B1,m1,e1⟩:=xf.tR
    obtain⟨B2,m2,e2⟩:=xf.tT
    have ix:isX CT (xD0 CT):=.inr rfl
    refine yD (EvW.t (xJ (vH (yn (sH (by rfl) nb.isinstance (by rfl) xf.mV PyProof.Rows.Boot.«ValueError» (zf 1 rfl ⟨CT,_,iT,true,ix,xT,xf.vT,⟨_,rfl,?_⟩⟩))))))
    refine xh rfl (ug (ur (xA CA (hr.mono (by decide)) (by rfl) (zr (zf 1 rfl (zF ⟨_,CT,rfl,.inr rfl,ix,⟨_,rfl,?_⟩⟩))))))
    refine yy rfl (zS ?_)
    refine yD (EvW.t (sA (yn (zV (by rfl) nb.isinstance (by rfl) m1 (zf 1 rfl ⟨CT,_,iT,false,ix,xT,e1,⟨_,rfl,?_⟩⟩)))))
    refine xh rfl ?_
    refine yy rfl (zS ?_)
    refine yD (EvW.t (sA (yn (zV (by rfl) nb.isinstance (by rfl) m2 (zf 1 rfl ⟨CT,_,iT,true,ix,xT,e2,⟨_,rfl,?_⟩⟩)))))
    refine uK rfl (tU (vH (yn (zV (by rfl) nb.isinstance (by rfl) m1 (zf 1 rfl ⟨CT,_,iT,false,ix,xT,e1,⟨_,rfl,?_⟩⟩)))))
    refine wD rfl ?_
    and_intros
    exact q
  |@rule n hn hu=>
   refine vC 2 3 [some (.dat (.list ds)),some (.dat .none),none,none] (fun d=>d=nrX CR n) rfl rfl nd rfl lx (by rfl) xf.mS (fun d e=>⟨CR,.inl ⟨_,e⟩,xf.bR⟩) (fun pins xe r xo=>?_) (fun pins a d S e=>?_)
   ·exact tu (rG (j:=3) xo rfl (leX.cons (.inr ⟨rfl,fun a e=>by cases e;trivial⟩) (leX.cons (.inr ⟨rfl,fun a e=>by cases e;trivial⟩) (leX.cons (.inl rfl) (leX.cons (.inl rfl) leX.nil')))) CKN hr (by rfl) (zr (zf 0 rfl (zF ⟨ds,n,rfl,hn,hu,rfl⟩))))
   ·subst e
    refine lJ 1 2 nd rfl (by decide) (zS ?_)
    refine pN 1 rfl ?_
    refine yD (yM (zf 1 rfl ?_))
    refine yy rfl (zS ?_)
    obtain⟨B1,m1,e1⟩:=xf.rR
    obtain⟨B2,m2,e2⟩:=xf.rT
    have ix:isX CR (nrX CR n):=.inl ⟨_,rfl⟩
    refine yD (EvW.t (xJ (vH (yn (sH (by rfl) nb.isinstance (by rfl) xf.mV PyProof.Rows.Boot.«ValueError» (zf 1 rfl ⟨CR,_,iR,true,ix,xR,xf.vR,⟨_,rfl,?_⟩⟩))))))
    refine xh rfl (ug (ur (xA CA (hr.mono (by decide)) (by rfl) (zr (zf 1 rfl (zF ⟨_,CR,rfl,.inl rfl,ix,⟨_,rfl,?_⟩⟩))))))
    refine yy rfl (zS ?_)
    refine yD (EvW.t (sA (yn (zV (by rfl) nb.isinstance (by rfl) m1 (zf 1 rfl ⟨CR,_,iR,true,ix,xR,e1,⟨_,rfl,?_⟩⟩)))))
    refine uK rfl (tU (vH (yn (zV (by rfl) nb.isinstance (by rfl) m2 (zf 1 rfl ⟨CR,_,iR,false,ix,xR,e2,⟨_,rfl,?_⟩⟩)))))
    refine wD rfl ?_
    exact uf (sD (zr (sv (zr (jC xR xf.nn (zf 1 rfl ⟨_,_,rfl,rfl,zF ⟨_,rfl,dS rfl,q⟩⟩))))))
end
structure uE (d t:PyData):Prop where
 no:yK t=false
 ni:zD 40000 t
 dp:t.depth≤3
 ne:PyData.eqv t d=false
def jZ :List A→(A→Prop)→Prop:=fun as Q=>∃d,as=[.tape,.dat d]∧yI d∧∀t,uE d t→Q (.dat t)
theorem ve {n:Nat}{ds:List PyData}(hl:ds.length≤4)(h:∀d∈ds,zD n d∧d.depth≤2)(hn:n≤5000):zD 40000 (.tuple ds)∧zD 40000 (.list ds)∧(PyData.tuple ds).depth≤3∧(PyData.list ds).depth≤3:=by
 have na:zT n ds:=⟨fun d hd=>(h d hd).1,fun d hd=>by have:=(h d hd).2;omega⟩
 have h1:ds.length*(n+2)≤4*5002:=Nat.mul_le_mul hl (by omega)
 have dp:PyData.depthAll ds≤2:=by
  clear na h1 hl
  induction ds with
  |nil=>exact dZ _
  |cons d r ih=>
   have h2:=(h d cv).2
   have h3:=ih fun e he=>h e (dX _ he)
   simp only[PyData.depthAll]
   omega
 exact⟨zD.tuple na (by omega),zD.list na (by omega),by simp only[PyData.depth];omega,by simp only[PyData.depth];omega⟩
section
variable {u:Str}{i j:Int}{v:PyData}
theorem wH {i:Int}(h0:-1≤i)(h1:i≤1000000000001):zD 5000 (.int i)∧(PyData.int i).depth≤2:=
 ⟨(zD.int (by
         have:-big<(-1:Int):=by decide
         omega) (by
              have:(1000000000001:Int)<big:=by decide
              omega)).mono (by decide),dZ _⟩
theorem lN (h:u∈words):zD 5000 (.str u)∧(PyData.str u).depth≤2:=⟨(wc h).mono (by decide),dZ _⟩
theorem yI.vd (h:yI (.tuple [.str u,.int i,.int j,v])):zD 5000 v∧v.depth≤2:=by
 refine⟨h.wn,?_⟩
 have:=h.dep
 simp only[PyData.depth,PyData.depthAll] at this
 omega
theorem dm (ro:yI (.tuple [.str u,.int i,.int j,v]))(hu:u∈words)(i0:0≤i)(ij:i≤j)(j1:j≤1000000):ud (uE (.tuple [.str u,.int i,.int j,v])) [.tuple [.str u,.int i,.int j],.list [.str u,.int i,.int j,v],.tuple [.str u,.int (-1),.int j,v]]:=by
 have n1:=ve (ds:=[.str u,.int i,.int j]) (n:=5000) (dS rfl) (by simpa using ⟨lN hu,wH (by omega) (by omega),wH (by omega) (by omega)⟩) (by omega)
 have n2:=ve (ds:=[.str u,.int i,.int j,v]) (n:=5000) (dS rfl) (by simpa using ⟨lN hu,wH (by omega) (by omega),wH (by omega) (by omega),ro.vd⟩) (by omega)
 have n3:=ve (ds:=[.str u,.int (-1),.int j,v]) (n:=5000) (dS rfl) (by simpa using ⟨lN hu,wH (by omega) (by omega),wH (by omega) (by omega),ro.vd⟩) (by omega)
 refine⟨⟨rfl,n1.1,n1.2.2.1,?_⟩,⟨rfl,n2.2.1,n2.2.2.2,?_⟩,⟨?_,n3.1,n3.2.2.1,?_⟩,trivial⟩
 ·simp[PyData.eqv,PyData.eqvAll]
 ·simp[PyData.eqv,PyData.eqvAll]
 ·show (zB (.tuple [.int (-1),.int j])&&zp (.str u) v)=false
  rw[show zB (.tuple [.int (-1),.int j])=false from rfl,cU]
 ·simp[PyData.eqv,PyData.eqvAll]
  omega
theorem dq (ro:yI (.tuple [.str u,.int i,.int j,v]))(hu:u∈words)(i0:0≤i)(ij:i≤j)(j1:j≤1000000)(hw:zp (.str u) v=true):ud (uE (.tuple [.str u,.int i,.int j,v])) [.tuple [.str u,.int i,.int 1000001,v],.tuple [.str "fee",.int i,.int j,.int 1000000000001]]:=by
 have n1:=ve (ds:=[.str u,.int i,.int 1000001,v]) (n:=5000) (dS rfl) (by simpa using ⟨lN hu,wH (by omega) (by omega),wH (by omega) (by omega),ro.vd⟩) (by omega)
 have n2:=ve (ds:=[.str "fee",.int i,.int j,.int 1000000000001]) (n:=5000) (dS rfl) (by simpa using ⟨lN (by simp[words]),wH (by omega) (by omega),wH (by omega) (by omega),wH (by omega) (by omega)⟩) (by omega)
 refine⟨⟨?_,n1.1,n1.2.2.1,?_⟩,⟨?_,n2.1,n2.2.2.1,?_⟩,trivial⟩
 ·show (zB (.tuple [.int i,.int 1000001])&&_)=false
  have:zB (.tuple [.int i,.int 1000001])=false:=by
   unfold zB vZ
   have:(xP (.int i)&&xP (.int 1000001))=false:=by rw[show xP (.int 1000001)=false from rfl,aA]
   simp only[this]
   rfl
  rw[this,cU]
 ·simp[PyData.eqv,PyData.eqvAll]
  omega
 ·show (_&&zp (.str "fee") (.int 1000000000001))=false
  rw[show zp (.str "fee") (.int 1000000000001)=false by decide +kernel,aA]
 ·by_cases e:u="fee"
  ·subst e
   cases v with
   |int z=>
    have:¬(1000000000001=z):=by
     rintro rfl
     rw[show zp (.str "fee") (.int 1000000000001)=false by decide +kernel] at hw
     cases hw
    simp[PyData.eqv,PyData.eqvAll,this]
   |_=>exact absurd hw (by unfold zp;rw[if_neg (by decide +kernel),if_neg (by decide +kernel),if_neg (by decide +kernel),if_neg (by decide +kernel)];simp[xM,zP])
  ·have:PyData.eqv (.str "fee") (.str u)=false:=by
    show (_ == u)=false
    exact beq_false_of_ne fun z=>e z.symm
   show (PyData.eqv (.str "fee") (.str u)&&_)=false
   rw[this,cU]
theorem dn (ro:yI (.tuple [.str u,.int i,.int j,v]))(hu:u∈words)(i0:0≤i)(ij:i≤j)(j1:j≤1000000):ud (uE (.tuple [.str u,.int i,.int j,v])) [.none,.str "price 0 0 1",.tuple [.list [.str u],.int i,.int j,v]]:=by
 have n0:=ve (ds:=[.str u]) (n:=4000) (dS rfl) (by simpa using ⟨(wc hu).mono (by decide),dZ _⟩) (by omega)
 have nl:zD 5000 (.list [.str u])∧(PyData.list [.str u]).depth≤2:=⟨zD.list (n:=2000) ⟨by simpa using wc hu,by simp[PyData.depth]⟩ (dS rfl),by simp[PyData.depth,PyData.depthAll]⟩
 have n3:=ve (ds:=[.list [.str u],.int i,.int j,v]) (n:=5000) (dS rfl) (by simpa using ⟨nl,wH (by omega) (by omega),wH (by omega) (by omega),ro.vd⟩) (by omega)
 refine⟨⟨rfl,⟨rfl,rfl,dZ _,by decide +kernel,rfl⟩,dZ _,?_⟩,⟨rfl,⟨rfl,rfl,dZ _,by decide +kernel,by decide +kernel⟩,dZ _,?_⟩,⟨?_,n3.1,n3.2.2.1,?_⟩,trivial⟩
 ·simp[PyData.eqv,PyData.eqvAll]
 ·simp[PyData.eqv,PyData.eqvAll]
 ·show (_&&zp (.list [.str u]) v)=false
  rw[show zp (.list [.str u]) v=false from rfl,aA]
 ·simp[PyData.eqv,PyData.eqvAll]
end
section
variable {P:Program}{w:World}{K:PySem.W.Frag}{mg:Str→Option Value}{base:Heap}{cs:Cs}
theorem fJ :zl ["_law_tape_here","_law_rule_here","_law_way"] ["_law_tape_here","_law_rule_here"] (za iz):=⟨rfl,rfl,rfl,by decide +kernel,rfl,by decide +kernel,by decide +kernel⟩
theorem kE {f:Addr}{fd:FuncData}(F:Fun K "_law_bad" "_law_bad" iz f fd)(hm:mg "_law_bad"=some (.ref f))(hb:Binds K fd ["_law_tape_here","_law_rule_here"] [])(nb:NbT mg)(CD:Cal P w K mg base "_law_draw" 1 xl):Cal P w K mg base "_law_bad" 2 jZ:=by
 refine rg F hm hb fJ (fun as Q h=>?_) (fun cdv A' outer s H E as Q hr h=>?_)
 ·obtain⟨d,rfl,_⟩:=h
  rfl
 ·obtain⟨d,rfl,ro,q⟩:=h
  obtain⟨u,i,j,v,hu,rfl,i0,ij,j1,hw⟩:=vU ro.rule
  have nd:=fJ.nd
  and_intros
  rename_i z z0 z1
  refine yQ (fun h1=>?_) (fun h1=>?_)
  ·have h1':=bH h1
   refine uf (xu hr.one (fun _ _=>rfl) (EvL.d (xE (zr (lK (zf 1 rfl (tQ (tV (wX ⟨_,rfl,⟨_,rfl,(by show ¬(HT.sIx 4 0 _=0∧HT.sIx 4 4 _=4);decide),?_⟩⟩)))))))))
   and_intros
   exact vM _ rfl z0 h1' (dm ro hu i0 ij j1) q
  ·have h1':=aL h1
   and_intros
   refine yQ (fun h2=>?_) (fun h2=>?_)
   ·have h2':=bH h2
    and_intros
    exact vM _ rfl (show 0≤z-3 by omega) (show z-3<2 by omega) (dq ro hu i0 ij j1 hw) q
   ·have h2':=aL h2
    refine zS (uf (xu hr.one (fun _ _=>rfl) (EvL.d (xE (zr (tE (zr (sv (zr (kB (sD (zr (EvL.d (xE (zr (xu hr.one (fun _ _=>rfl) (zf 1 rfl (wX (jV (zF ⟨_,rfl,dS rfl,zF ⟨_,rfl,dS rfl,?_⟩⟩))))))))))))))))))))
    refine lK (zf 1 rfl (tV (wX ⟨_,rfl,tQ (⟨_,rfl,(by show ¬(HT.sIx 4 0 _=0∧HT.sIx 4 4 _=4);decide),?_⟩)⟩)))
    refine⟨_,_,rfl,rfl,List.cons_ne_nil _ _,dS rfl,?_⟩
    and_intros
    exact vM _ rfl (show 0≤z-5 by omega) (show z-5<3 by omega) (dn ro hu i0 ij j1) q
end
abbrev so :Stmt:=top 54
abbrev NmL :List Str:=["_law_script","_law_tape_here","_law_base_here","_law_many","_law_things","_law_right","_law_k","_law_at","_law_bad_here","_law_due","_law_handed"]
theorem fQ :zl NmL ["_law_script"] (za so):=⟨rfl,rfl,rfl,by decide +kernel,rfl,by decide +kernel,by decide +kernel⟩
structure ux (ds ts:List PyData):Prop where
 len:ts.length=ds.length
 all:∀(k:Nat) (d t:PyData),ds[k]?=some d→ts[k]?=some t→t=d∨uE d t
theorem ux.put {ds ts:List PyData}{k:Nat}{d t:PyData}(h:ux ds ts)(hd:ds[k]?=some d)(hb:uE d t):ux ds (ts.set k t):=by
 refine⟨by rw[cq,h.len],fun j e u he hu=>?_⟩
 rw[List.getElem?_set] at hu
 split at hu
 ·rename_i e1
  subst e1
  rw[hd] at he
  cases he
  split at hu
  ·cases hu
   exact .inr hb
  ·cases hu
 ·exact h.all j e u he hu
open Classical in
noncomputable def vX (ds ts:List PyData)(k:Int):Bool:=!decide (ts[k.toNat]?=ds[k.toNat]?)
theorem oj {p:Int→Bool}{n:Nat}{k:Int}{r:List Int}(h:(yC 0 n).filter p=k::r):∃m:Nat,k=m∧m<n∧p m=true∧∀j:Nat,j<m→p j=false:=by
 obtain⟨l1,l2,e,h1,h2,_⟩:=List.filter_eq_cons_iff.mp h
 have hl:l1.length<n:=by
  have:=congrArg List.length e
  rw[yb,cx,cf] at this
  omega
 have hk:k=(l1.length:Int):=by
  have h3:=xm (lo:=0) hl
  rw[e,cp (dQ _),cS] at h3
  have h4:k=0+(l1.length:Nat):=by simpa using h3
  omega
 refine⟨l1.length,hk,hl,hk▸h2,fun j hj=>?_⟩
 have h3:=xm (lo:=0) (show j<n by omega)
 rw[e,cn hj] at h3
 have:=h1 _ (cP h3)
 rw[Int.zero_add] at this
 simpa using this
theorem ux.told {ds ts:List PyData}(rd:yT ds)(h:ux ds ts)(hl:ds.length≤30){k:Int}{r:List Int}(hb:(yC 0 ts.length).filter (vX ds ts)=k::r):xy ts (.tuple [.str "rule",.int k]):=by
 obtain⟨m,rfl,mn,pm,pj⟩:=oj hb
 have mn':m<ds.length:=by rw[←h.len];exact mn
 refine .rule ⟨ts.take m,ts[m],ts.drop (m+1),?_,?_,?_,?_,?_,?_⟩ (by omega)
 ·rw[List.getElem_cons_drop,List.take_append_drop]
 ·intro d hd
  obtain⟨j,hj⟩:=List.getElem?_of_mem hd
  rw[List.getElem?_take] at hj
  split at hj
  ·rename_i jm
   have h1:=pj j jm
   simp only[vX,Int.toNat_natCast,Bool.not_eq_false',cL] at h1
   rw[h1] at hj
   exact rd.rules d (cP hj)
  ·cases hj
 all_goals
  have h2:=h.all m ds[m] ts[m] (dP mn') (dP mn)
  have h3:¬ts[m]=ds[m]:=fun e=>by
   simp only[vX,Int.toNat_natCast,Bool.not_eq_true',decide_eq_false_iff_not] at pm
   exact pm (by rw[dP mn,dP mn',e])
  have hB:=h2.resolve_left h3
 ·exact hB.no
 ·exact hB.ni.shaped
 ·exact hB.ni.nod
 ·rw[bc]
  omega
theorem ux.same {ds ts:List PyData}(h:ux ds ts)(hb:(yC 0 ts.length).filter (vX ds ts)=[]):ts=ds:=by
 refine List.ext_getElem? fun j=>?_
 by_cases hj:j<ts.length
 ·have h1:=List.filter_eq_nil_iff.mp hb (j:Int) (cP (i:=j) (by rw[xm hj,Int.zero_add]))
  simpa[vX] using h1
 ·rw[List.getElem?_eq_none (by omega),List.getElem?_eq_none (by rw[←h.len];omega)]
theorem oE {ds:List PyData}(rd:yT ds)(hl:ds.length≤30):xy ds (.tuple [.str (if (ds.length:Int) > 24 then "many" else "made")]):=by
 split
 ·exact .many rd.rules (by omega) (by omega)
 ·exact .made rd.rules (by omega)
theorem ux.nice {ds ts:List PyData}(rd:yT ds)(h:ux ds ts)(hl:ds.length≤30):zD sizeLine (.list ts):=by
 have hx:∀t∈ts,zD 40000 t∧t.depth≤3:=fun t ht=>by
  obtain⟨j,hj⟩:=List.getElem?_of_mem ht
  have j1:j<ts.length:=(dN.mp hj).1
  have j2:j<ds.length:=by rw[←h.len];exact j1
  rcases h.all j ds[j] t (dP j2) hj with rfl|b
  ·have:=rd _ (bO j2)
   exact⟨this.nice.mono (by decide),by have:=this.dep;omega⟩
  ·exact⟨b.ni,b.dp⟩
 refine zD.list (n:=40000) ⟨fun t ht=>(hx t ht).1,fun t ht=>by have:=(hx t ht).2;omega⟩ ?_
 have h2:ts.length*(40000+2)≤30*(40000+2):=Nat.mul_le_mul_right _ (by rw[h.len];exact hl)
 have h3:30*(40000+2)+2≤sizeLine:=by decide
 omega
theorem yT.noLs {ds:List PyData}(h:yT ds):L2.noLs ds=true:=by
 induction ds with
 |nil=>rfl
 |cons d r ih=>
  have h1:=h d cv
  obtain⟨u,i,j,v,hu,rfl,_,_,_,hw⟩:=vU h1.rule
  have h2:=ih fun e he=>h e (dX _ he)
  show (L2.noLs [.str u,.int i,.int j,v]&&L2.noLs r)=true
  rw[h2,Bool.and_true]
  show (true&&(true&&(true&&(L2.noL v&&true))))=true
  rw[uQ hw]
  rfl
theorem wu {ds:List PyData}{v:Int}(v0:0≤v)(hv:v.toNat<ds.length):atI ds v=some ds[v.toNat]:=by
 unfold atI ixN
 rw[if_pos v0,if_pos (by omega)]
 show ds[v.toNat]?=_
 rw[dP hv]
theorem iV {n:Nat}{k:Int}(h:k∈yC 0 n):0≤k∧k.toNat<n:=by
 unfold yC at h
 obtain⟨i,hi,rfl⟩:=List.mem_map.mp h
 rw[List.mem_range] at hi
 omega
structure OkT (d:PyData):Prop where
 sh:SeqAt.shaped d=true
 nd:d.hasDict=false
 eq:PyData.eqv d d=true
theorem xy.ok {ds:List PyData}{d:PyData}(h:xy ds d):OkT d:=by
 cases h with
 |@rule n _ hn=>
  have n1:=ve (ds:=[.str "rule",.int n]) (n:=5000) (dS rfl) (by simpa using ⟨⟨⟨rfl,rfl,dZ _,by decide +kernel,by decide +kernel⟩,dZ _⟩,wH (by omega) (by omega)⟩) (by omega)
  exact⟨n1.1.shaped,n1.1.nod,SeqAt.eqv_refl _ n1.1.lay⟩
 |many _ _ _=>exact⟨by decide +kernel,by decide +kernel,by decide +kernel⟩
 |made _ _=>exact⟨by decide +kernel,by decide +kernel,by decide +kernel⟩
abbrev stL (b m:Int)(ts ds:List PyData)(o6 o7 o8 o9 o10:Option A):Ev:=[none,some .tape,some (.dat (.int b)),some (.dat (.int m)),some (.own ts),some (.dat (.list ds)),o6,o7,o8,o9,o10]
section
variable {P:Program}{w:World}{K:PySem.W.Frag}{mg:Str→Option Value}{base:Heap}{cs:Cs}
theorem hU {f fT:Addr}{fd fdT:FuncData}(F:Fun K "law" "law" so f fd)(nb:NbT mg)(GT:zt P w K mg base CX0 1 fT fdT ["_law_script"] (qG K))(mT:mg "_law_tape"=some (.ref fT))(kT:PySem.W.keepIn K (.ref fT)=true)(bT:Binds K fdT ["_law_script"] [])
  (CD:Cal P w K mg base "_law_draw" 1 xl) (CBa:Cal P w K mg base "_law_base" 2 qZ) (CRu:Cal P w K mg base "_law_rule" 4 sU) (CBd:Cal P w K mg base "_law_bad" 2 jZ) (CTo:Cal P w K mg base "_law_told" 11 pI):
  zt P w K mg base CX0 13 f fd ["_law_script"] (rK K):=by
 refine dD (k:=11) F fQ GT mT kT bT rfl rfl (Or.inr rfl) (Or.inl rfl) (fun cdv A' outer s H E hr=>?_)
 have nd:=fQ.nd
 and_intros
 refine⟨rfl,fun b b0 b1=>?_⟩
 and_intros
 refine vM (fun d=>∃z:Int,d=.int z∧1≤z∧z≤30) rfl (by assumption) (by assumption) ⟨⟨_,rfl,by omega,by omega⟩,⟨_,rfl,by omega,by omega⟩,trivial⟩ ?_
 rintro _ ⟨m,rfl,m1,m30⟩
 refine xr 4 nd (iB ["_law_k","_law_base_here","_law_tape_here"] [none,some 2,some 1] (.one 0) (wV (by rfl) nb.range ?_))
 and_intros
 refine⟨by omega,by omega,by rw[dU,yb];omega,?_⟩
 refine oU (fun i acc=>yT acc∧acc.length=i) ⟨fun d hd=>by simp at hd,rfl⟩ (fun i d acc hd ⟨ra,la⟩=>⟨_,rfl,fun C s2 H2 fp=>?_⟩) (fun ds h=>?_)
 ·refine gA ?_
  rw[if_pos rfl]
  intro C s2 H2 fp
  and_intros
  refine⟨b0,b1,fun d rd=>⟨fun e he=>?_,by rw[cx,la];rfl⟩⟩
  rcases ar.mp he with he|he
  ·exact ra e he
  ·rw[bx.mp he];exact rd
 obtain⟨rd,ld⟩:=h
 rw[dU,yb] at ld
 refine xr 5 nd (ji 4 rfl (vw (by rfl) nb.list (zf 4 rfl ⟨ds,rfl,rd.noLs,?_⟩)))
 refine sk 5 rfl ?_
 refine jA (.one 6) (wV (by rfl) nb.range ?_)
 and_intros
 refine⟨by omega,by omega,?_⟩
 refine wy (fun i α=>∃ts o6 o7,ux ds ts∧α=stL b m ts ds o6 o7 none none none) ⟨ds,none,none,⟨rfl,fun k d t h1 h2=>by rw[h1] at h2;cases h2;exact .inl rfl⟩,rfl⟩ ?_ ?_
 ·rintro i d α hd ⟨ts,o6,o7,hf,rfl⟩
  refine⟨_,rfl,?_⟩
  refine xU 7 nd (xA CD (hr.mono (by decide)) (by rfl) (sF 1 rfl (zr (kK 4 rfl (uW (by rfl) nb.len (zf 4 rfl ⟨_,rfl,rfl,zF ⟨_,rfl,?_⟩⟩))))))
  have ln:=hf.len
  have hbig:(1000:Int)<big:=by decide
  refine⟨by omega,by omega,fun v v0 v1=>?_⟩
  have hv:v.toNat<ds.length:=by omega
  refine gC 4 rfl (xA CBd (hr.mono (by decide)) (by rfl) (sF 1 rfl (zr (xu hr.one (fun _ _=>rfl) (zf 5 rfl (zf 7 rfl (ixk rfl rfl (wu v0 hv) (zF ⟨_,rfl,rd _ (bO hv),fun t bt=>?_⟩))))))))
  refine zf 7 rfl ⟨v,v.toNat,rfl,?_,?_⟩
  ·unfold ixN
   rw[if_pos v0,if_pos v1]
  ·refine zS ⟨_,_,_,hf.put (dP hv) bt,rfl⟩
 rintro α ⟨ts,o6,o7,hf,rfl⟩
 refine sk 4 rfl ?_
 have ln:=hf.len
 refine gQ 8 ["_law_k","_law_things","_law_right"] [none,some 4,some 5] (.one 0) (wV (by rfl) nb.range ?_)
 and_intros
 refine⟨by omega,by omega,by rw[dU,yb];omega,?_⟩
 rw[Int.toNat_natCast]
 refine lA (vX ds ts) .int (fun k hk=>⟨_,rfl,fun C s2 H2 fp Q q=>?_,fun _ C s2 H2 fp Q q=>zf 0 rfl q⟩) ?_
 ·obtain⟨k0,k1⟩:=iV hk
  have k2:k.toNat<ds.length:=by omega
  rcases hf.all k.toNat ds[k.toNat] ts[k.toNat] (dP k2) (dP k1) with e|bt
  ·have hq:Q false:=by
    have:vX ds ts k=false:=by
     unfold vX
     rw[dP k1,dP k2,e]
     simp
    rw[this] at q
    exact q
   have rn:=(rd _ (bO k2)).nice
   refine nM (EvW.t (xJ (qx hr.units (xu hr.one (fun _ _=>rfl) (zf 1 rfl (zf 0 rfl (ixk rfl rfl (wu k0 k1) (xu hr.one (fun _ _=>rfl) (zf 2 rfl (zf 0 rfl ?_))))))))))
   refine ixk rfl rfl (wu k0 k2) ?_
   rw[e]
   refine eqk rn.shaped rn.shaped rn.nod rn.nod ?_
   refine xh (by rw[SeqAt.eqv_refl _ rn.lay];rfl) ?_
   and_intros
   refine ixk rfl rfl (wu k0 k1) ?_
   rw[e]
   refine⟨rn.mono (by decide),?_⟩
   and_intros
   refine ixk rfl rfl (wu k0 k2) ?_
   refine⟨rn.mono (by decide),?_⟩
   refine pX ?_
   rw[bf rfl]
   exact hq
  ·have hq:Q true:=by
    have:vX ds ts k=true:=by
     unfold vX
     rw[dP k1,dP k2]
     have:¬ts[k.toNat]=ds[k.toNat]:=fun e=>by
      have:=bt.ne
      rw[e,SeqAt.eqv_refl _ (rd _ (bO k2)).nice.lay] at this
      cases this
     simp[this]
    rw[this] at q
    exact q
   have rn:=(rd _ (bO k2)).nice
   refine nM (EvW.t (xJ (qx hr.units (xu hr.one (fun _ _=>rfl) (zf 1 rfl (zf 0 rfl (ixk rfl rfl (wu k0 k1) (xu hr.one (fun _ _=>rfl) (zf 2 rfl (zf 0 rfl ?_))))))))))
   refine ixk rfl rfl (wu k0 k2) ?_
   refine eqk bt.ni.shaped rn.shaped bt.ni.nod rn.nod ?_
   refine uK (by rw[bt.ne];rfl) ?_
   exact hq
 ·rw[List.nil_append]
  obtain⟨bs,hbs⟩:∃bs,bs=(yC 0 ts.length).filter (vX ds ts):=⟨_,rfl⟩
  rw[←hbs]
  refine sk 8 rfl ?_
  refine xU 9 nd (sD (zr (sv (zF ⟨_,rfl,dS rfl,?_⟩))))
  refine sr (fun α=>∃D,xy ts D∧α=[none,some .tape,some (.dat (.int b)),some (.dat (.int m)),some (.dat (.list ts)),some (.dat (.list ds)),o6,o7,some (.dat (.list (bs.map .int))),some (.dat D),none]) ?_ ?_
  ·and_intros
   cases bs with
   |cons k r=>
    refine wD (bf (by simp)) ?_
    and_intros
    refine ixk rfl rfl (wA (j:=0) rfl) ?_
    and_intros
    exact⟨_,hf.told rd (by omega) hbs.symm,rfl⟩
   |nil=>
    have e:=hf.same hbs.symm
    subst e
    refine yy rfl ?_
    and_intros
    refine yQ (fun h1=>?_) (fun h1=>?_)
    ·and_intros
     refine⟨_,.many rd.rules ?_ (by omega),rfl⟩
     have:=bH h1
     omega
    ·and_intros
     refine⟨_,.made rd.rules ?_,rfl⟩
     have:=aL h1
     omega
  rintro α ⟨D,hD,rfl⟩
  have okD:=hD.ok
  have tnice:=hf.nice rd (by omega)
  refine xr 10 nd (vw (by rfl) nb.list (zf 4 rfl ⟨ts,rfl,?_⟩))
  refine sk 10 rfl ?_
  and_intros
  refine⟨ts,D,rfl,hD,?_⟩
  refine zf 9 rfl (eqk okD.sh okD.sh okD.nd okD.nd ?_)
  refine xh (by show (!PyData.eqv D D)=false;rw[okD.eq];rfl) ?_
  and_intros
  refine⟨tnice,?_⟩
  and_intros
  refine⟨tnice,?_⟩
  and_intros
  refine yy (by simp[A.d]) ?_
  refine zS ?_
  have hR:=oE rd (by omega)
  have okR:=hR.ok
  obtain⟨D2,hD2⟩:∃D2,D2=PyData.tuple [.str (if (ds.length:Int) > 24 then "many" else "made")]:=⟨_,rfl⟩
  rw[←hD2] at hR okR
  refine sr (fun α=>α=[none,some .tape,some (.dat (.int b)),some (.dat (.int m)),some (.dat (.list ts)),some (.dat (.list ds)),o6,o7,some (.dat (.list (bs.map .int))),some (.dat D2),some (.dat (.list ts))]) ?_ ?_
  ·and_intros
   by_cases h24:(24:Int)<ds.length
   ·rw[if_pos h24] at hD2
    subst hD2
    refine uK (bf h24) ?_
    and_intros
    rfl
   ·rw[if_neg h24] at hD2
    subst hD2
    refine xh (cY h24) ?_
    and_intros
    rfl
  rintro α rfl
  and_intros
  refine⟨ds,D2,rfl,hR,?_⟩
  refine zf 9 rfl (eqk okR.sh okR.sh okR.nd okR.nd ⟨_,rfl,?_⟩)
  refine uK okR.eq ?_
  and_intros
  refine⟨ts,D,rfl,hD,?_⟩
  and_intros
  refine⟨ts,D,rfl,hD,?_⟩
  refine eqk okD.sh okD.sh okD.nd okD.nd ?_
  show A.dat (.bool (PyData.eqv D D))=_
  rw[okD.eq]
end
def FnF (K:PySem.W.Frag)(f:Addr)(nm ql:Str)(st:Stmt):Prop:=∃fd,Fun K nm ql st f fd
theorem mkF {K:PySem.W.Frag}{f:Addr}{nm ql:Str}{st:Stmt}{oc kV dc pm cd ct:Value}{od an:Option Addr}{sl:Array (Option Value)}(l:K.lookup f=some ⟨oc,od,.func (PySem.W.fnOf nm ql (zU st) (zq st) (za st) .none kV dc pm an cd ct),sl⟩)(c:PySem.W.codeIn K cd ql=true)(k:PySem.W.keepIn K (.ref f)=true):FnF K f nm ql st:=⟨_,lM l c k⟩
def FnG (K:PySem.W.Frag)(f:Addr)(nm:Str)(st:Stmt):Prop:=PySem.W.nsIn K mainGlobals nm=some (some (.ref f))∧FnF K f nm nm st
theorem mkG {K:PySem.W.Frag}{f:Addr}{nm:Str}{st:Stmt}{oc kV dc pm cd ct:Value}{od an:Option Addr}{sl:Array (Option Value)}(a:PySem.W.nsIn K mainGlobals nm=some (some (.ref f)))(l:K.lookup f=some ⟨oc,od,.func (PySem.W.fnOf nm nm (zU st) (zq st) (za st) .none kV dc pm an cd ct),sl⟩)(c:PySem.W.codeIn K cd nm=true)(k:PySem.W.keepIn K (.ref f)=true):FnG K f nm st:=⟨a,mkF l c k⟩
theorem FnF.get {K:PySem.W.Frag}{f:Addr}{nm ql:Str}{st:Stmt}(ps:List Str)(h:FnF K f nm ql st)(hb:∀(kV doc pm:Value) (an:Option Addr) (cdv ct:Value) (us:List Value),us.length=ps.length→bindArgs (PySem.W.fnOf nm ql (zU st) (zq st) (za st) .none kV doc pm an cdv ct) ⟨us,[]⟩=pure (ps.zip us)):∃fd,Fun K nm ql st f fd∧Binds K fd ps []:=by
 obtain⟨fd,F⟩:=h
 exact⟨fd,F,F.binds hb⟩
theorem FnG.get {K:PySem.W.Frag}{h0:Heap}{mg:Str→Option Value}{f:Addr}{nm:Str}{st:Stmt}(ps:List Str)(h:FnG K f nm st)(X:K.In h0)(G:h0.Ns mainGlobals mg)(hb:∀(kV doc pm:Value) (an:Option Addr) (cdv ct:Value) (us:List Value),us.length=ps.length→bindArgs (PySem.W.fnOf nm nm (zU st) (zq st) (za st) .none kV doc pm an cdv ct) ⟨us,[]⟩=pure (ps.zip us)):∃fd,mg nm=some (.ref f)∧Fun K nm nm st f fd∧Binds K fd ps []:=by
 obtain⟨a,fd,F⟩:=h
 exact⟨fd,cb X G a,F,F.binds hb⟩
theorem mkR {K:PySem.W.Frag}{C gi gt ge gw:Addr}(pg:PySem.W.plainGet K C Str.empty=true)(hd:PySem.W.hasDictIn K C=true)(po:PySem.W.plainOver K C=true)(sa:PySem.W.findIn K (.ref C) "__setattr__"=some (some (.builtin "object.__setattr__")))(n1:PySem.W.findIn K (.ref C) "first"=some none)(n2:PySem.W.findIn K (.ref C) "last"=some none)(n3:PySem.W.findIn K (.ref C) "worth"=some none)(mk:PySem.W.makesIn K C=true)(f1:PySem.W.findIn K (.ref C) "__init__"=some (some (.ref gi)))(i1:PySem.W.isFn K (.ref gi)=true)(kc:PySem.W.keepIn K (.ref C)=true)(f2:PySem.W.findIn K (.ref C) "told"=some (some (.ref gt)))(i2:PySem.W.isFn K (.ref gt)=true)(k2:PySem.W.keepIn K (.ref gt)=true)(f3:PySem.W.findIn K (.ref C) "tells"=some (some (.ref ge)))(i3:PySem.W.isFn K (.ref ge)=true)(k3:PySem.W.keepIn K (.ref ge)=true)(f4:PySem.W.findIn K (.ref C) "word"=some (some (.ref gw)))(i4:PySem.W.isFn K (.ref gw)=true)(k4:PySem.W.keepIn K (.ref gw)=true):wj K C gi gt ge gw:=⟨⟨pg,hd,po,sa⟩,n1,n2,n3,⟨mk,f1,i1,kc⟩,⟨f2,i2,k2⟩,⟨f3,i3,k3⟩,⟨f4,i4,k4⟩⟩
theorem ou {K:PySem.W.Frag}{dT:Addr}{oc kV doc pm cdv ct:Value}{od an:Option Addr}{n:Nat}{sl:Array (Option Value)}(lk:K.lookup dT=some ⟨oc,od,.seq #[.none] n,sl⟩):
  Binds K (PySem.W.fnOf "__init__" "Book.__init__" (zU yh) (zq yh) (za yh) (.ref dT) kV doc pm an cdv ct) ["self","rules"] [.none]:=fun s us hk hl=>by
 match us,(show us.length=1 by rw[cx] at hl;simpa using hl) with
 |[u],_=>exact BindsTo.of_defaults (T:=dT) rfl (hk _ _ lk) rfl rfl rfl
theorem wK {K:PySem.W.Frag}{dT:Addr}{oc kV doc pm cdv ct:Value}{od an:Option Addr}{n:Nat}{sl:Array (Option Value)}(lk:K.lookup dT=some ⟨oc,od,.seq #[.none] n,sl⟩):
  Binds K (PySem.W.fnOf "__init__" "Book.__init__" (zU yh) (zq yh) (za yh) (.ref dT) kV doc pm an cdv ct) ["self","rules"] []:=fun s us hk hl=>by
 rw[cO] at hl ⊢
 match us,hl with
 |[u,v],_=>exact BindsTo.of_defaults (T:=dT) rfl (hk _ _ lk) rfl rfl rfl
set_option maxHeartbeats 8000000 in
theorem us1 {α:Type}{p:List α→Prop}(h:∀a,p [a])(us:List α)(hl:us.length=1):p us:=by
 obtain⟨a,rfl⟩:=List.length_eq_one_iff.mp hl
 exact h a
theorem us2 {α:Type}{p:List α→Prop}(h:∀a b,p [a,b])(us:List α)(hl:us.length=2):p us:=by
 cases us with
 |nil=>cases hl
 |cons a us=>exact us1 (p:=fun us=>p (a::us)) (h a) us (Nat.succ.inj hl)
theorem us3 {α:Type}{p:List α→Prop}(h:∀a b c,p [a,b,c])(us:List α)(hl:us.length=3):p us:=by
 cases us with
 |nil=>cases hl
 |cons a us=>exact us2 (p:=fun us=>p (a::us)) (h a) us (Nat.succ.inj hl)
theorem us4 {α:Type}{p:List α→Prop}(h:∀a b c d,p [a,b,c,d])(us:List α)(hl:us.length=4):p us:=by
 cases us with
 |nil=>cases hl
 |cons a us=>exact us3 (p:=fun us=>p (a::us)) (h a) us (Nat.succ.inj hl)
set_option maxHeartbeats 0 in
theorem all_mk {l:PySem.W.OpenLaw}{w:World}{K:PySem.W.Frag}{h:Heap}{mg:Str→Option Value}{fa f1 f2 f3 f4 f5 f6 f7 f8 f9 f10 f11 f12 f13 f14 f15 f16 f17 f18 f19 f20 f21 f22 f23 g_init g_told g_tells g_wPrice g_wCome g_wGo g_wLeast g_wMost g_wDeal g_wFee CPrice CCome CGo CLeast CMost CDeal CFee CB dT g_binit CSt CX_Barred CX_Had CX_NoDeed CX_NoName CX_NoRow CX_NoStay CX_NoTaken CX_Off CX_NoText CX_NotSold CX_NoRule CX_TooMany gx_NoRule:Addr}(X:K.In h)(G:h.Ns mainGlobals mg)(hfa:mg "law"=some (.ref fa))
  {od23 an23 odB anB odT:Option Addr} {sl23 slB slT:Array (Option Value)} {oc23 kV23 dc23 pm23 ct23 cd23 ocB kVB dcB pmB ctB cdB ocT:Value} {tk1 tk2 tk3 tk4:Tok} {nT:Nat}
  (q1:FnG K f1 "is_whole" tK)
  (q2:FnG K f2 "is_whole_within" sC)
  (q3:FnG K f3 "is_pair" lR)
  (q4:FnG K f4 "is_day" gq)
  (q5:FnG K f5 "is_pair_of_days" nX)
  (q6:FnG K f6 "is_stretch" vz)
  (q7:FnG K f7 "is_coins" qg)
  (q8:FnG K f8 "is_deal" uY)
  (q9:FnG K f9 "is_worth" rO)
  (q10:FnG K f10 "is_rule" tL)
  (q11:FnG K f11 "made" ko)
  (q12:FnG K f12 "rule_of" sj)
  (q13:FnG K f13 "kept_rules" uA)
  (q14:FnG K f14 "_law_tape" uT)
  (q15:FnG K f15 "_law_draw" ml)
  (q16:FnG K f16 "_law_coins" tO)
  (q17:FnG K f17 "_law_worth" tI)
  (q18:FnG K f18 "_law_rule" rW)
  (q19:FnG K f19 "_law_base" qF)
  (q20:FnG K f20 "_law_bad" iz)
  (q21:FnG K f21 "_law_of_another" gh)
  (q22:FnG K f22 "_law_told" qu)
  (a23:PySem.W.nsIn K mainGlobals "law"=some (some (.ref f23)))
  (l23:K.lookup f23=some ⟨oc23,od23,.func (PySem.W.fnOf "law" "law" (zU so) (zq so) (za so) .none kV23 dc23 pm23 an23 cd23 ct23),sl23⟩)
  (c23:PySem.W.codeIn K cd23 "law"=true)
  (k23:PySem.W.keepIn K (.ref f23)=true)
  (aCPrice:PySem.W.nsIn K mainGlobals "Price"=some (some (.ref CPrice)))
  (aCCome:PySem.W.nsIn K mainGlobals "Come"=some (some (.ref CCome)))
  (aCGo:PySem.W.nsIn K mainGlobals "Go"=some (some (.ref CGo)))
  (aCLeast:PySem.W.nsIn K mainGlobals "Least"=some (some (.ref CLeast)))
  (aCMost:PySem.W.nsIn K mainGlobals "Most"=some (some (.ref CMost)))
  (aCDeal:PySem.W.nsIn K mainGlobals "Deal"=some (some (.ref CDeal)))
  (aCFee:PySem.W.nsIn K mainGlobals "Fee"=some (some (.ref CFee)))
  (RPrice:wj K CPrice g_init g_told g_tells g_wPrice)
  (RCome:wj K CCome g_init g_told g_tells g_wCome)
  (RGo:wj K CGo g_init g_told g_tells g_wGo)
  (RLeast:wj K CLeast g_init g_told g_tells g_wLeast)
  (RMost:wj K CMost g_init g_told g_tells g_wMost)
  (RDeal:wj K CDeal g_init g_told g_tells g_wDeal)
  (RFee:wj K CFee g_init g_told g_tells g_wFee)
  (q_init:FnF K g_init "__init__" "Rule.__init__" pQ)
  (aCB:PySem.W.nsIn K mainGlobals "Book"=some (some (.ref CB)))
  (fi_binit:PySem.W.findIn K (.ref CB) "__init__"=some (some (.ref g_binit)))
  (is_binit:PySem.W.isFn K (.ref g_binit)=true)
  (l_binit:K.lookup g_binit=some ⟨ocB,odB,.func (PySem.W.fnOf "__init__" "Book.__init__" (zU yh) (zq yh) (za yh) (.ref dT) kVB dcB pmB anB cdB ctB),slB⟩)
  (c_binit:PySem.W.codeIn K cdB "Book.__init__"=true)
  (k_binit:PySem.W.keepIn K (.ref g_binit)=true)
  (lT:K.lookup dT=some ⟨ocT,odT,.seq #[.none] nT,slT⟩)
  (pgB:PySem.W.plainGet K CB Str.empty=true)
  (hdB:PySem.W.hasDictIn K CB=true)
  (poB:PySem.W.plainOver K CB=true)
  (saB:PySem.W.findIn K (.ref CB) "__setattr__"=some (some (.builtin "object.__setattr__")))
  (mkB:PySem.W.makesIn K CB=true)
  (kcB:PySem.W.keepIn K (.ref CB)=true)
  (noB:PySem.W.findIn K (.ref CB) "kept"=some none)
  (z1:PySem.W.nsIn K mainGlobals "abs"=some none)
  (z2:PySem.W.nsIn K mainGlobals "list"=some none)
  (z3:PySem.W.nsIn K mainGlobals "len"=some none)
  (z4:PySem.W.nsIn K mainGlobals "range"=some none)
  (z5:PySem.W.nsIn K mainGlobals "min"=some none)
  (z6:PySem.W.nsIn K mainGlobals "max"=some none)
  (z7:PySem.W.nsIn K mainGlobals "sorted"=some none)
  (z8:PySem.W.nsIn K mainGlobals "isinstance"=some none)
  (z9:PySem.W.nsIn K mainGlobals "int"=some none)
  (z10:PySem.W.nsIn K mainGlobals "bool"=some none)
  (z11:PySem.W.nsIn K mainGlobals "str"=some none)
  (z12:PySem.W.nsIn K mainGlobals "tuple"=some none)
  (z13:PySem.W.nsIn K mainGlobals "all"=some none)
  (z14:PySem.W.nsIn K mainGlobals "any"=some none)
  (z15:PySem.W.nsIn K mainGlobals "repr"=some none)
  (z16:PySem.W.nsIn K mainGlobals "zip"=some none)
  (z17:PySem.W.nsIn K mainGlobals "enumerate"=some none)
  (z18:PySem.W.nsIn K mainGlobals "reversed"=some none)
  (z19:PySem.W.nsIn K mainGlobals "sum"=some none)
  (z20:PySem.W.nsIn K mainGlobals "ValueError"=some none)
  (gi1:PySem.W.nsIn K mainGlobals "LAST_DAY"=some (some (.int 1000000 tk1)))
  (gi2:PySem.W.nsIn K mainGlobals "MOST_NIGHTS"=some (some (.int 14 tk2)))
  (gi3:PySem.W.nsIn K mainGlobals "MOST_COINS"=some (some (.int 1000000000000 tk3)))
  (gi4:PySem.W.nsIn K mainGlobals "MOST_RULES"=some (some (.int 24 tk4)))
  (aSt:PySem.W.nsIn K mainGlobals "StayError"=some (some (.ref CSt)))
  (aX_Barred:PySem.W.nsIn K mainGlobals "Barred"=some (some (.ref CX_Barred)))
  (aX_Had:PySem.W.nsIn K mainGlobals "Had"=some (some (.ref CX_Had)))
  (aX_NoDeed:PySem.W.nsIn K mainGlobals "NoDeed"=some (some (.ref CX_NoDeed)))
  (aX_NoName:PySem.W.nsIn K mainGlobals "NoName"=some (some (.ref CX_NoName)))
  (aX_NoRow:PySem.W.nsIn K mainGlobals "NoRow"=some (some (.ref CX_NoRow)))
  (aX_NoStay:PySem.W.nsIn K mainGlobals "NoStay"=some (some (.ref CX_NoStay)))
  (aX_NoTaken:PySem.W.nsIn K mainGlobals "NoTaken"=some (some (.ref CX_NoTaken)))
  (aX_Off:PySem.W.nsIn K mainGlobals "Off"=some (some (.ref CX_Off)))
  (aX_NoText:PySem.W.nsIn K mainGlobals "NoText"=some (some (.ref CX_NoText)))
  (aX_NotSold:PySem.W.nsIn K mainGlobals "NotSold"=some (some (.ref CX_NotSold)))
  (aX_NoRule:PySem.W.nsIn K mainGlobals "NoRule"=some (some (.ref CX_NoRule)))
  (aX_TooMany:PySem.W.nsIn K mainGlobals "TooMany"=some (some (.ref CX_TooMany)))
  (fX_NoRule:PySem.W.findIn K (.ref CX_NoRule) "__init__"=some (some (.ref gx_NoRule)))
  (tX_NoRule:PySem.W.typeIn K (.ref gx_NoRule)=some (.type "function"))
  (qX_NoRule:FnF K gx_NoRule "__init__" "NoRule.__init__" ua)
  (uSt:mf K CSt=true)
  (eX_NoRule:tP K CX_NoRule CSt (some (.ref gx_NoRule))=true)
  (kX_NoRule:PySem.W.keepIn K (.ref CX_NoRule)=true)
  (eX_TooMany:tP K CX_TooMany CSt none=true)
  (kX_TooMany:PySem.W.keepIn K (.ref CX_TooMany)=true)
  (nX_NoRule_number:PySem.W.findIn K (.ref CX_NoRule) "number"=some none)
  (bX_NoRule_StayError:pk K CX_NoRule CSt=true)
  (bX_TooMany_StayError:pk K CX_TooMany CSt=true)
  (kt_NoRule_Barred:PySem.W.kitOne K (.ref CX_NoRule) (.ref CX_Barred)=some false)
  (kt_NoRule_Had:PySem.W.kitOne K (.ref CX_NoRule) (.ref CX_Had)=some false)
  (kt_NoRule_NoDeed:PySem.W.kitOne K (.ref CX_NoRule) (.ref CX_NoDeed)=some false)
  (kt_NoRule_NoName:PySem.W.kitOne K (.ref CX_NoRule) (.ref CX_NoName)=some false)
  (kt_NoRule_NoRow:PySem.W.kitOne K (.ref CX_NoRule) (.ref CX_NoRow)=some false)
  (kt_NoRule_NoStay:PySem.W.kitOne K (.ref CX_NoRule) (.ref CX_NoStay)=some false)
  (kt_NoRule_NoTaken:PySem.W.kitOne K (.ref CX_NoRule) (.ref CX_NoTaken)=some false)
  (kt_NoRule_Off:PySem.W.kitOne K (.ref CX_NoRule) (.ref CX_Off)=some false)
  (kt_NoRule_NoText:PySem.W.kitOne K (.ref CX_NoRule) (.ref CX_NoText)=some false)
  (kt_NoRule_NotSold:PySem.W.kitOne K (.ref CX_NoRule) (.ref CX_NotSold)=some false)
  (kt_NoRule_NoRule:PySem.W.kitOne K (.ref CX_NoRule) (.ref CX_NoRule)=some true)
  (kt_NoRule_TooMany:PySem.W.kitOne K (.ref CX_NoRule) (.ref CX_TooMany)=some false)
  (kt_TooMany_Barred:PySem.W.kitOne K (.ref CX_TooMany) (.ref CX_Barred)=some false)
  (kt_TooMany_Had:PySem.W.kitOne K (.ref CX_TooMany) (.ref CX_Had)=some false)
  (kt_TooMany_NoDeed:PySem.W.kitOne K (.ref CX_TooMany) (.ref CX_NoDeed)=some false)
  (kt_TooMany_NoName:PySem.W.kitOne K (.ref CX_TooMany) (.ref CX_NoName)=some false)
  (kt_TooMany_NoRow:PySem.W.kitOne K (.ref CX_TooMany) (.ref CX_NoRow)=some false)
  (kt_TooMany_NoStay:PySem.W.kitOne K (.ref CX_TooMany) (.ref CX_NoStay)=some false)
  (kt_TooMany_NoTaken:PySem.W.kitOne K (.ref CX_TooMany) (.ref CX_NoTaken)=some false)
  (kt_TooMany_Off:PySem.W.kitOne K (.ref CX_TooMany) (.ref CX_Off)=some false)
  (kt_TooMany_NoText:PySem.W.kitOne K (.ref CX_TooMany) (.ref CX_NoText)=some false)
  (kt_TooMany_NotSold:PySem.W.kitOne K (.ref CX_TooMany) (.ref CX_NotSold)=some false)
  (kt_TooMany_NoRule:PySem.W.kitOne K (.ref CX_TooMany) (.ref CX_NoRule)=some false)
  (kt_TooMany_TooMany:PySem.W.kitOne K (.ref CX_TooMany) (.ref CX_TooMany)=some true)
  (kt_NoRule_ValueError:PySem.W.kitOne K (.ref CX_NoRule) (.type "ValueError")=some true)
  (kt_TooMany_ValueError:PySem.W.kitOne K (.ref CX_TooMany) (.type "ValueError")=some true):
  ∃fd:FuncData,(∀(s:Shared) (v:Value),BindsTo s fd ⟨[v],[]⟩ [("_law_script",v)])∧∀base:Heap,K.In base→base.Ns mainGlobals mg→zt l.prog w K mg base CX0 13 fa fd ["_law_script"] (rK K):=by
 have e:=hfa.symm.trans (cb X G a23)
 cases e
 have nb:NbT mg:=⟨cc X G z1,cc X G z2,cc X G z3,cc X G z4,cc X G z5,cc X G z6,cc X G z7,cc X G z8,cc X G z9,cc X G z10,cc X G z11,cc X G z12,cc X G z13,cc X G z14,cc X G z15,cc X G z16,cc X G z17,cc X G z18,cc X G z19⟩
 have n_ValueError:mg "ValueError"=none:=cc X G z20
 obtain⟨_,m_is_whole,F_is_whole,b_is_whole⟩:=q1.get ["thing"] X G fun _ _ _ _ _ _=>us1 fun _=>rfl
 obtain⟨_,m_is_whole_within,F_is_whole_within,b_is_whole_within⟩:=q2.get ["thing","lowest","highest"] X G fun _ _ _ _ _ _=>us3 fun _ _ _=>rfl
 obtain⟨_,m_is_pair,F_is_pair,b_is_pair⟩:=q3.get ["thing"] X G fun _ _ _ _ _ _=>us1 fun _=>rfl
 obtain⟨_,m_is_day,F_is_day,b_is_day⟩:=q4.get ["thing"] X G fun _ _ _ _ _ _=>us1 fun _=>rfl
 obtain⟨_,m_is_pair_of_days,F_is_pair_of_days,b_is_pair_of_days⟩:=q5.get ["thing"] X G fun _ _ _ _ _ _=>us1 fun _=>rfl
 obtain⟨_,m_is_stretch,F_is_stretch,b_is_stretch⟩:=q6.get ["thing"] X G fun _ _ _ _ _ _=>us1 fun _=>rfl
 obtain⟨_,m_is_coins,F_is_coins,b_is_coins⟩:=q7.get ["thing"] X G fun _ _ _ _ _ _=>us1 fun _=>rfl
 obtain⟨_,m_is_deal,F_is_deal,b_is_deal⟩:=q8.get ["thing"] X G fun _ _ _ _ _ _=>us1 fun _=>rfl
 obtain⟨_,m_is_worth,F_is_worth,b_is_worth⟩:=q9.get ["word","thing"] X G fun _ _ _ _ _ _=>us2 fun _ _=>rfl
 obtain⟨_,m_is_rule,F_is_rule,b_is_rule⟩:=q10.get ["thing"] X G fun _ _ _ _ _ _=>us1 fun _=>rfl
 obtain⟨_,m_made,F_made,b_made⟩:=q11.get ["word","first","last","worth"] X G fun _ _ _ _ _ _=>us4 fun _ _ _ _=>rfl
 obtain⟨_,m_rule_of,F_rule_of,b_rule_of⟩:=q12.get ["thing"] X G fun _ _ _ _ _ _=>us1 fun _=>rfl
 obtain⟨_,m_kept_rules,F_kept_rules,b_kept_rules⟩:=q13.get ["things"] X G fun _ _ _ _ _ _=>us1 fun _=>rfl
 obtain⟨_,m__law_tape,F__law_tape,b__law_tape⟩:=q14.get ["_law_script"] X G fun _ _ _ _ _ _=>us1 fun _=>rfl
 obtain⟨_,m__law_draw,F__law_draw,b__law_draw⟩:=q15.get ["_law_tape_here","_law_many"] X G fun _ _ _ _ _ _=>us2 fun _ _=>rfl
 obtain⟨_,m__law_coins,F__law_coins,b__law_coins⟩:=q16.get ["_law_tape_here"] X G fun _ _ _ _ _ _=>us1 fun _=>rfl
 obtain⟨_,m__law_worth,F__law_worth,b__law_worth⟩:=q17.get ["_law_tape_here","_law_word"] X G fun _ _ _ _ _ _=>us2 fun _ _=>rfl
 obtain⟨_,m__law_rule,F__law_rule,b__law_rule⟩:=q18.get ["_law_tape_here","_law_base_here"] X G fun _ _ _ _ _ _=>us2 fun _ _=>rfl
 obtain⟨_,m__law_base,F__law_base,b__law_base⟩:=q19.get ["_law_tape_here"] X G fun _ _ _ _ _ _=>us1 fun _=>rfl
 obtain⟨_,m__law_bad,F__law_bad,b__law_bad⟩:=q20.get ["_law_tape_here","_law_rule_here"] X G fun _ _ _ _ _ _=>us2 fun _ _=>rfl
 obtain⟨_,m__law_of_another,F__law_of_another,b__law_of_another⟩:=q21.get ["_law_error"] X G fun _ _ _ _ _ _=>us1 fun _=>rfl
 obtain⟨_,m__law_told,F__law_told,b__law_told⟩:=q22.get ["_law_things"] X G fun _ _ _ _ _ _=>us1 fun _=>rfl
 have F_law:=lM (st:=so) l23 c23 k23
 have b_law:=F_law.binds (ps:=["_law_script"]) fun _ _ _ _ _ _=>us1 fun _=>rfl
 obtain⟨_,F_init,b_init⟩:=q_init.get ["self","first","last","worth"] fun _ _ _ _ _ _=>us4 fun _ _ _ _=>rfl
 have TD:rq mg f1 f2 f3 f4 f5:=⟨nb.isinstance,nb.int,nb.bool,nb.tuple,nb.len,⟨tk1,cb X G gi1⟩,⟨tk2,cb X G gi2⟩,m_is_whole,m_is_whole_within,m_is_pair,m_is_day,m_is_pair_of_days⟩
 have TR:qR mg f1 f2 f3 f4 f5 f6 f7 f8 f9 f10 f11 ⟨CPrice,CCome,CGo,CLeast,CMost,CDeal,CFee⟩:=⟨TD,⟨tk3,cb X G gi3⟩,m_is_stretch,m_is_coins,m_is_deal,m_is_worth,m_is_rule,m_made,cb X G aCPrice,cb X G aCCome,cb X G aCGo,cb X G aCLeast,cb X G aCMost,cb X G aCDeal,cb X G aCFee⟩
 have TT:iX mg:=⟨nb.abs,nb.list,nb.len⟩
 have A7:ka K ⟨CPrice,CCome,CGo,CLeast,CMost,CDeal,CFee⟩ g_init g_told g_tells g_wPrice g_wCome g_wGo g_wLeast g_wMost g_wDeal g_wFee:=⟨RPrice,RCome,RGo,RLeast,RMost,RDeal,RFee⟩
 refine⟨PySem.W.fnOf "law" "law" (zU so) (zq so) (za so) .none kV23 dc23 pm23 an23 cd23 ct23,fun s v=>.of_eq rfl,fun base KX _=>?_⟩
 have G_in:=oP (P:=l.prog) (w:=w) (base:=base) F_is_whole_within TD F_is_whole b_is_whole
 have G_pair:=jG (P:=l.prog) (w:=w) (base:=base) F_is_pair TD
 have G_day:=iE F_is_day TD G_in F_is_whole_within.kp b_is_whole_within
 have G_days:=kA F_is_pair_of_days TD G_pair F_is_pair.kp b_is_pair G_day F_is_day.kp b_is_day
 have G_stretch:=qr F_is_stretch TD G_days F_is_pair_of_days.kp b_is_pair_of_days
 have G_coins:=lZ F_is_coins TR G_in F_is_whole_within.kp b_is_whole_within
 have G_deal:=nA F_is_deal TR G_in F_is_whole_within.kp b_is_whole_within G_pair F_is_pair.kp b_is_pair
 have G_worth:=kl F_is_worth TR G_in F_is_whole_within.kp b_is_whole_within G_coins F_is_coins.kp b_is_coins G_deal F_is_deal.kp b_is_deal
 have G_rule:=nE F_is_rule TR G_stretch F_is_stretch.kp b_is_stretch G_worth F_is_worth.kp b_is_worth
 have G_made:=jk (P:=l.prog) (w:=w) (base:=base) F_made TR A7 F_init b_init
 have G_ruleOf:=oG F_rule_of TR G_rule F_is_rule.kp b_is_rule G_made F_made.kp b_made
 have CRO:Cal l.prog w K mg base "rule_of" 7 (xN ⟨CPrice,CCome,CGo,CLeast,CMost,CDeal,CFee⟩):=qN m_rule_of F_rule_of.kp b_rule_of G_ruleOf
 have CKe:Cal l.prog w K mg base "kept_rules" 8 (rQ ⟨CPrice,CCome,CGo,CLeast,CMost,CDeal,CFee⟩):=lY F_kept_rules m_kept_rules b_kept_rules nb ⟨tk4,cb X G gi4⟩ CRO
 have cB:Cls K CB:=⟨pgB,hdB,poB,saB⟩
 have GBI:=nR (sq (st:=yh) l_binit c_binit k_binit) cB noB CKe
 have m_Book:mg "Book"=some (.ref CB):=cb X G aCB
 have MkB:Mk K CB g_binit:=⟨mkB,fi_binit,is_binit,kcB⟩
 have CBk:jJ l.prog w K mg base "Book" 9 [] (tf CB ⟨CPrice,CCome,CGo,CLeast,CMost,CDeal,CFee⟩):=⟨CB,g_binit,_,_,_,m_Book,MkB,wK lT,.nil,GBI⟩
 have CBk0:jJ l.prog w K mg base "Book" 9 [.non] (tf CB ⟨CPrice,CCome,CGo,CLeast,CMost,CDeal,CFee⟩):=⟨CB,g_binit,_,_,_,m_Book,MkB,ou lT,.cons rfl .nil,GBI⟩
 have m_StayError:mg "StayError"=some (.ref CSt):=cb X G aSt
 have mX_Barred:mg "Barred"=some (.ref CX_Barred):=cb X G aX_Barred
 have mX_Had:mg "Had"=some (.ref CX_Had):=cb X G aX_Had
 have mX_NoDeed:mg "NoDeed"=some (.ref CX_NoDeed):=cb X G aX_NoDeed
 have mX_NoName:mg "NoName"=some (.ref CX_NoName):=cb X G aX_NoName
 have mX_NoRow:mg "NoRow"=some (.ref CX_NoRow):=cb X G aX_NoRow
 have mX_NoStay:mg "NoStay"=some (.ref CX_NoStay):=cb X G aX_NoStay
 have mX_NoTaken:mg "NoTaken"=some (.ref CX_NoTaken):=cb X G aX_NoTaken
 have mX_Off:mg "Off"=some (.ref CX_Off):=cb X G aX_Off
 have mX_NoText:mg "NoText"=some (.ref CX_NoText):=cb X G aX_NoText
 have mX_NotSold:mg "NotSold"=some (.ref CX_NotSold):=cb X G aX_NotSold
 have mX_NoRule:mg "NoRule"=some (.ref CX_NoRule):=cb X G aX_NoRule
 have mX_TooMany:mg "TooMany"=some (.ref CX_TooMany):=cb X G aX_TooMany
 have XC_NoRule:=XC.of eX_NoRule
 have XC_TooMany:=XC.of eX_TooMany
 obtain⟨_,FX_NoRule,bX_NoRule⟩:=qX_NoRule.get ["self","number"] fun _ _ _ _ _ _=>us2 fun _ _=>rfl
 have CD:Cal l.prog w K mg base "_law_draw" 1 xl:=lV m__law_draw F__law_draw.kp b__law_draw (kQ F__law_draw TT)
 have CCo:=oS F__law_coins m__law_coins b__law_coins CD
 have CW:=oM F__law_worth m__law_worth b__law_worth CD CCo
 have CLRu:=qj F__law_rule m__law_rule b__law_rule CD CW
 have CLBa:=oX F__law_base m__law_base b__law_base CD
 have CBd:=kE F__law_bad m__law_bad b__law_bad nb CD
 have CAn:=jB (P:=l.prog) (w:=w) (base:=base) F__law_of_another m__law_of_another b__law_of_another nb ⟨_,XC_NoRule⟩ ⟨_,XC_TooMany⟩ ⟨⟨_,mX_Barred,kt_NoRule_Barred⟩,⟨_,mX_Had,kt_NoRule_Had⟩,⟨_,mX_NoDeed,kt_NoRule_NoDeed⟩,⟨_,mX_NoName,kt_NoRule_NoName⟩,⟨_,mX_NoRow,kt_NoRule_NoRow⟩,⟨_,mX_NoStay,kt_NoRule_NoStay⟩,⟨_,mX_NoTaken,kt_NoRule_NoTaken⟩,⟨_,mX_Off,kt_NoRule_Off⟩,⟨_,mX_NoText,kt_NoRule_NoText⟩,⟨_,mX_NotSold,kt_NoRule_NotSold⟩⟩ ⟨⟨_,mX_Barred,kt_TooMany_Barred⟩,⟨_,mX_Had,kt_TooMany_Had⟩,⟨_,mX_NoDeed,kt_TooMany_NoDeed⟩,⟨_,mX_NoName,kt_TooMany_NoName⟩,⟨_,mX_NoRow,kt_TooMany_NoRow⟩,⟨_,mX_NoStay,kt_TooMany_NoStay⟩,⟨_,mX_NoTaken,kt_TooMany_NoTaken⟩,⟨_,mX_Off,kt_TooMany_Off⟩,⟨_,mX_NoText,kt_TooMany_NoText⟩,⟨_,mX_NotSold,kt_TooMany_NotSold⟩⟩
 have XT0:iM K mg "TooMany" CX_TooMany:=⟨mX_TooMany,kX_TooMany,⟨_,XC_TooMany.ok⟩⟩
 have XN0:=gL (P:=l.prog) (w:=w) (base:=base) FX_NoRule bX_NoRule mX_NoRule m_StayError kX_NoRule tX_NoRule (XS.of uSt) XC_NoRule nX_NoRule_number
 have CKT:=nh F_kept_rules m_kept_rules b_kept_rules nb ⟨tk4,cb X G gi4⟩ CRO XT0
 have CKN:=nC F_kept_rules m_kept_rules b_kept_rules nb CRO XN0
 have CKTX:=qE (sq (st:=yh) l_binit c_binit k_binit) m_Book MkB (wK lT) CKT
 have CKNX:=rF (sq (st:=yh) l_binit c_binit k_binit) m_Book MkB (wK lT) CKN
 have CTo:=oY F__law_told m__law_told b__law_told nb ⟨m_StayError,XB.of bX_NoRule_StayError,XB.of bX_TooMany_StayError,⟨_,XC_NoRule⟩,⟨_,XC_TooMany⟩,nX_NoRule_number,⟨_,mX_NoRule,kt_NoRule_NoRule⟩,⟨_,mX_TooMany,kt_NoRule_TooMany⟩,⟨_,mX_NoRule,kt_TooMany_NoRule⟩,⟨_,mX_TooMany,kt_TooMany_TooMany⟩,n_ValueError,kt_NoRule_ValueError,kt_TooMany_ValueError⟩ CAn CBk CKNX CKTX
 exact hU F_law nb (kN F__law_tape TT) m__law_tape F__law_tape.kp b__law_tape CD CLBa CLRu CBd CTo
theorem walk {l:PySem.W.OpenLaw}{q:Program}{loose:List Str}{XP:(Str→Option Value)→Heap→Prop}{YP:World→Heap→Prop}{d:DefRec}{K:Params→PySem.W.Frag}(hn:l.most=some 63)(hdf:d.params.defaults=[])
  (hY:∀(w:World) (h:Heap),YP w h→(K w.params).In h)
  (F:∀(w:World) (mg:Str→Option Value) (fa:Addr) (h:Heap),(K w.params).In h→h.Ns mainGlobals mg→mg d.name=some (.ref fa)→
   ∃fd:FuncData,(∀(s:Shared) (u:Value),BindsTo s fd ⟨[u],[]⟩ [("_law_script",u)])∧∀base:Heap,(K w.params).In base→base.Ns mainGlobals mg→zt l.prog w (K w.params) mg base CX0 13 fa fd ["_law_script"] (rK (K w.params))):
  PySem.W.WalkO q loose XP YP l.row.toRowW d [] (fun f vs=>PySem.call f vs):=
 L2.jF (n:=63) (k:=13) (x:="_law_script") (CX:=fun _=>CX0) (sp:=fun w=>rK (K w.params)) hn (by decide) hdf ⟨rfl,by decide,by decide,rfl⟩ hY F (fun _ _ a ns hl _ hS=>⟨a,ns,rfl,hS,hl,trivial,fun _=>rfl⟩) fun _ _ _ _ _ z=>z
end K10
def PySem.W.Fast.tw10942476172571323446 :Nat:=0
def PySem.W.Fast.tw9465412698455442877 :Nat:=0
def PySem.W.Fast.tw15701220619029571810 :Nat:=0
def PySem.W.Fast.tw16946852246210746330 :Nat:=0
def PySem.W.Fast.tw13484724875148691751 :Nat:=0
def PySem.W.Fast.tw3455364306395359245 :Nat:=0
def PySem.W.Fast.tw8454854373228481980 :Nat:=0
def PySem.W.Fast.tw10736819269823296658 :Nat:=0
def PySem.W.Fast.tw3001509105507037000 :Nat:=0
def PySem.W.Fast.tw12311183615517015898 :Nat:=0
def PySem.W.Fast.tw15291735138464311494 :Nat:=0
def PySem.W.Fast.tw6328125041166852780 :Nat:=0
def PySem.W.Fast.tw15572491882253891446 :Nat:=0
def PySem.W.Fast.tw12486701075888473220 :Nat:=0
def PySem.W.Fast.tw2557972222655564917 :Nat:=0
def PySem.W.Fast.tw876153411584502302 :Nat:=0
def PySem.W.Fast.tw678475445148304108 :Nat:=0
def PySem.W.Fast.tw18249539786736391604 :Nat:=0
def PySem.W.Fast.tw10498552680626740237 :Nat:=0
def PySem.W.Fast.tw18123441174732696966 :Nat:=0
def PySem.W.Fast.tw14336323554252644103 :Nat:=0
def PySem.W.Fast.tw16584688347560571782 :Nat:=0
def PySem.W.Fast.tw4311713079590696530 :Nat:=0
def PySem.W.Fast.tw13272419580052007927 :Nat:=0
def PySem.W.Fast.tw14436016261455098504 :Nat:=0
def PySem.W.Fast.tw13241422912679609268 :Nat:=0
def PySem.W.Fast.tw9387798787809369146 :Nat:=0
def PySem.W.Fast.tw15553591972181153613 :Nat:=0
def PySem.W.Fast.tw4043158213119523375 :Nat:=0
def PySem.W.Fast.tw8797106172569157906 :Nat:=0
def PySem.W.Fast.tw4412606931472526813 :Nat:=0
def PySem.W.Fast.tw15110857728670298394 :Nat:=0
def PySem.W.Fast.tw9072716405964023489 :Nat:=0
def PySem.W.Fast.tw1024035718923350524 :Nat:=0
def PySem.W.Fast.tw15733804865854701155 :Nat:=0
def PySem.W.Fast.tw3208309479437670634 :Nat:=0
def PySem.W.Fast.tw13758814430503192536 :Nat:=0
def PySem.W.Fast.tw9585267228021818147 :Nat:=0
def PySem.W.Fast.tw12099823348975564517 :Nat:=0
def PySem.W.Fast.tw14479069763466769440 :Nat:=0
def PySem.W.Fast.tw9419375489397242474 :Nat:=0
def PySem.W.Fast.tw3471008768340086315 :Nat:=0
def PySem.W.Fast.tw6973782256955224119 :Nat:=0
def PySem.W.Fast.tw15900940259462765473 :Nat:=0
def PySem.W.Fast.tw360069546682258889 :Nat:=0
def PySem.W.Fast.tw3965180840460401169 :Nat:=0
def PySem.W.Fast.tw9270336308012641292 :Nat:=0
def PySem.W.Fast.tw3188194460714147980 :Nat:=0
def PySem.W.Fast.tw3745374145595551934 :Nat:=0
def PySem.W.Fast.tw6780203030069435457 :Nat:=0
def PySem.W.Fast.tw16256895778026611483 :Nat:=0
def PySem.W.Fast.tw14868445329087388911 :Nat:=0
def PySem.W.Fast.tw9134885921622467101 :Nat:=0
def PySem.W.Fast.tw17570706635154500823 :Nat:=0
def PySem.W.Fast.tw12717227321592692563 :Nat:=0
def PySem.W.Fast.tw16790022086485185489 :Nat:=0
def PySem.W.Fast.tw9877532317410062015 :Nat:=0
def PySem.W.Fast.tw16447090188901600396 :Nat:=0
def PySem.W.Fast.tw17695121969188232423 :Nat:=0
def PySem.W.Fast.tw17573709641430513752 :Nat:=0
def PySem.W.Fast.tw7162333923738890097 :Nat:=0
def PySem.W.Fast.tw14617387757041121225 :Nat:=0
def PySem.W.Fast.tw9138784031741640877 :Nat:=0
def PySem.W.Fast.tw15966688005681066545 :Nat:=0
def PySem.W.Fast.tw603972931636786628 :Nat:=0
def PySem.W.Fast.tw1336688827303789190 :Nat:=0
def PySem.W.Fast.tw12812954610555163112 :Nat:=0
def PySem.W.Fast.tw6084627198119984817 :Nat:=0
def PySem.W.Fast.tw16072636363586447568 :Nat:=0
def PySem.W.Fast.tw18021766221457956115 :Nat:=0
def PySem.W.Fast.tw8340866904072453660 :Nat:=0
def PySem.W.Fast.tw6287808785818072458 :Nat:=0
def PySem.W.Fast.tw16651089637230866970 :Nat:=0
def PySem.W.Fast.tw8722664577485013988 :Nat:=0
def PySem.W.Fast.tw10551597919106759156 :Nat:=0
def PySem.W.Fast.tw16331101797808025798 :Nat:=0
def PySem.W.Fast.tw4240830226031012902 :Nat:=0
def PySem.W.Fast.tw5711987814386113595 :Nat:=0
def PySem.W.Fast.tw15720828467058190962 :Nat:=0
def PySem.W.Fast.tw15212149220560746965 :Nat:=0
def PySem.W.Fast.tw13189194437479948517 :Nat:=0
def PySem.W.Fast.tw14411086369395381775 :Nat:=0
def PySem.W.Fast.tw2809991533070205598 :Nat:=0
def PySem.W.Fast.tw8494498473122353191 :Nat:=0
def PySem.W.Fast.tw9892409948160668046 :Nat:=0
def PySem.W.Fast.tw6067252149583306530 :Nat:=0
def PySem.W.Fast.tw9373844447977383621 :Nat:=0
def PySem.W.Fast.tw17919625602547496767 :Nat:=0
def PySem.W.Fast.tw6831204311934062540 :Nat:=0
def PySem.W.Fast.tw10464075091535564931 :Nat:=0
def PySem.W.Fast.tw4015684684822313715 :Nat:=0
def PySem.W.Fast.tw4374756990187801773 :Nat:=0
def PySem.W.Fast.tw13187618649151863062 :Nat:=0
def PySem.W.Fast.tw8795171998067812785 :Nat:=0
def PySem.W.Fast.tw5454746245525735466 :Nat:=0
def PySem.W.Fast.tw4238541546072560382 :Nat:=0
def PySem.W.Fast.tw15671540590681261407 :Nat:=0
def PySem.W.Fast.tw8079488274792787377 :Nat:=0
def PySem.W.Fast.tw16735533046160112348 :Nat:=0
def PySem.W.Fast.tw4665920215148527530 :Nat:=0
def PySem.W.Fast.tw1932122507269480183 :Nat:=0
def PySem.W.Fast.tw5934248449344261043 :Nat:=0
def PySem.W.Fast.tw17568845341167450360 :Nat:=0
def PySem.W.Fast.tw10252570718762200052 :Nat:=0
def PySem.W.Fast.tw2053920679883307969 :Nat:=0
def PySem.W.Fast.tw15927892546502405194 :Nat:=0
def PySem.W.Fast.tw587730857751401165 :Nat:=0
def PySem.W.Fast.tw13530818892828050076 :Nat:=0
def PySem.W.Fast.tw919100874179127270 :Nat:=0
def PySem.W.Fast.tw12777461430016447444 :Nat:=0
def PySem.W.Fast.tw11943565916680859254 :Nat:=0
def PySem.W.Fast.tw440578152533088432 :Nat:=0
def PySem.W.Fast.tw5497131341148237207 :Nat:=0
def PySem.W.Fast.tw3785154057748653836 :Nat:=0
def PySem.W.Fast.tw1186759263697654209 :Nat:=0
def PySem.W.Fast.tw11104425464406467392 :Nat:=0
def PySem.W.Fast.tw593141361279085867 :Nat:=0
def PySem.W.Fast.tw9829763921601909950 :Nat:=0
def PySem.W.Fast.tw10236222298616210413 :Nat:=0
def PySem.W.Fast.tw10476760279167090570 :Nat:=0
def PySem.W.Fast.tw2595510760581350617 :Nat:=0
def PySem.W.Fast.tw6507848544523600150 :Nat:=0
def PySem.W.Fast.tw7562051698757293739 :Nat:=0
def PySem.W.Fast.tw2928514311088392827 :Nat:=0
def PySem.W.Fast.tw12026828047801896073 :Nat:=0
def PySem.W.Fast.tw18210452150108706213 :Nat:=0
def PySem.W.Fast.tw17596689162041628035 :Nat:=0
def PySem.W.Fast.tw9146391284772411804 :Nat:=0
def PySem.W.Fast.tw16127885549622258679 :Nat:=0
def PySem.W.Fast.tw7315693065587240076 :Nat:=0
def PySem.W.Fast.tw8923329883351892905 :Nat:=0
def PySem.W.Fast.tw16896742253883327400 :Nat:=0
def PySem.W.Fast.tw18202875888135947127 :Nat:=0
def PySem.W.Fast.tw8755234960649613439 :Nat:=0
def PySem.W.Fast.tw6478938957589314064 :Nat:=0
def PySem.W.Fast.tw404026592080234960 :Nat:=0
def PySem.W.Fast.tw11935801613821875924 :Nat:=0
def PySem.W.Fast.tw10046881838903978953 :Nat:=0
def PySem.W.Fast.tw3134320613686287972 :Nat:=0
def PySem.W.Fast.tw14925415850712990949 :Nat:=0
def PySem.W.Fast.tw17141569502652492206 :Nat:=0
def PySem.W.Fast.tw5414065335527547460 :Nat:=0
def PySem.W.Fast.tw13851815332024553619 :Nat:=0
def PySem.W.Fast.tw8725029286076560668 :Nat:=0
def PySem.W.Fast.tw16921013790614378020 :Nat:=0
def PySem.W.Fast.tw8714883853267129334 :Nat:=0
def PySem.W.Fast.tw1643499921176357991 :Nat:=0
def PySem.W.Fast.tw14177833340532236176 :Nat:=0
def PySem.W.Fast.tw4883747859126946438 :Nat:=0
def PySem.W.Fast.tw10524099171482454540 :Nat:=0
def PySem.W.Fast.tw15893213117039663735 :Nat:=0
def PySem.W.Fast.tw5188548412619774754 :Nat:=0
def PySem.W.Fast.tw8601772620895717593 :Nat:=0
def PySem.W.Fast.tw15151351299544232017 :Nat:=0
def PySem.W.Fast.tw8162263341985401705 :Nat:=0
def PySem.W.Fast.tw16465843228617348915 :Nat:=0
def PySem.W.Fast.tw18112344403256783492 :Nat:=0
def PySem.W.Fast.tw14024415900531802705 :Nat:=0
def PySem.W.Fast.tw13912015746767481789 :Nat:=0
def PySem.W.Fast.tw12604443198651451031 :Nat:=0
def PySem.W.Fast.tw12979176684767082308 :Nat:=0
def PySem.W.Fast.tw3127163590036573999 :Nat:=0
def PySem.W.Fast.tw344976154762541665 :Nat:=0
def PySem.W.Fast.tw14042413644735145437 :Nat:=0
def PySem.W.Fast.tw3242666440871109719 :Nat:=0
def PySem.W.Fast.tw5551452755805954738 :Nat:=0
def PySem.W.Fast.tw11773364439536197506 :Nat:=0
def PySem.W.Fast.tw14087914642285907925 :Nat:=0
def PySem.W.Fast.tw10672031956916018121 :Nat:=0
def PySem.W.Fast.tw8253291134903633997 :Nat:=0
def PySem.W.Fast.tw17025896274470967102 :Nat:=0
def PySem.W.Fast.tw843105712945439939 :Nat:=0
def PySem.W.Fast.tw10837783032336349577 :Nat:=0
def PySem.W.Fast.tw5384547603718135099 :Nat:=0
def PySem.W.Fast.tw8493419966617844687 :Nat:=0
def PySem.W.Fast.tw17358142731486357593 :Nat:=0
def PySem.W.Fast.tw16159633104556201132 :Nat:=0
def PySem.W.Fast.tw9222668643285855250 :Nat:=0
def PySem.W.Fast.tw14519921770694143175 :Nat:=0
def PySem.W.Fast.tw16321272499755271853 :Nat:=0
def PySem.W.Fast.tw8640231069592017919 :Nat:=0
def PySem.W.Fast.tw13566311656316728661 :Nat:=0
def PySem.W.Fast.tw5800604256335411767 :Nat:=0
def PySem.W.Fast.tw16160420276450516177 :Nat:=0
def PySem.W.Fast.tw1346972147305701767 :Nat:=0
def PySem.W.Fast.tw17849472707421351283 :Nat:=0
def PySem.W.Fast.tw9772885627686339350 :Nat:=0
def PySem.W.Fast.tw7068169639202225123 :Nat:=0
def PySem.W.Fast.tw4460124725149104465 :Nat:=0
def PySem.W.Fast.tw13438066090563070686 :Nat:=0
def PySem.W.Fast.tw13793196199046026910 :Nat:=0
def PySem.W.Fast.tw14262304594121648750 :Nat:=0
def PySem.W.Fast.tw7191430627497068455 :Nat:=0
def PySem.W.Fast.tw9044716593520084646 :Nat:=0
def PySem.W.Fast.tw15549682533898201860 :Nat:=0
def PySem.W.Fast.tw8004138889954974406 :Nat:=0
def PySem.W.Fast.tw10442124077958407127 :Nat:=0
def PySem.W.Fast.tw5278442838277481875 :Nat:=0
def PySem.W.Fast.tw18215408770777873868 :Nat:=0
def PySem.W.Fast.tw17832325531662016789 :Nat:=0
def PySem.W.Fast.tw14340819682690674043 :Nat:=0
def PySem.W.Fast.tw6974842292285156372 :Nat:=0
def PySem.W.Fast.tw13276878818216032825 :Nat:=0
def PySem.W.Fast.tw598853723257234810 :Nat:=0
def PySem.W.Fast.tw9397761117037717587 :Nat:=0
def PySem.W.Fast.tw7300502308428305011 :Nat:=0
def PySem.W.Fast.tw7831230869936011594 :Nat:=0
def PySem.W.Fast.tw4904564890146653977 :Nat:=0
def PySem.W.Fast.tw10402734402146282401 :Nat:=0
def PySem.W.Fast.tw5938326674280821641 :Nat:=0
def PySem.W.Fast.tw12712361965345120741 :Nat:=0
def PySem.W.Fast.tw13281296645184123894 :Nat:=0
def PySem.W.Fast.tw7952859099529611734 :Nat:=0
def PySem.W.Fast.tw425705724823397533 :Nat:=0
def PySem.W.Fast.tw3546478251004587220 :Nat:=0
def PySem.W.Fast.tw899434586314309466 :Nat:=0
def PySem.W.Fast.tw17076853605426250139 :Nat:=0
def PySem.W.Fast.tw256314869508665923 :Nat:=0
def PySem.W.Fast.tw17143948317137652198 :Nat:=0
def PySem.W.Fast.tw13940077652165325125 :Nat:=0
def PySem.W.Fast.tw41514402813426951 :Nat:=0
def PySem.W.Fast.tw13940408922357950935 :Nat:=0
def PySem.W.Fast.tw16880954277050112292 :Nat:=0
def PySem.W.Fast.tw4525682599149861937 :Nat:=0
def PySem.W.Fast.tw12560866658621792114 :Nat:=0
def PySem.W.Fast.tw2522702973560193768 :Nat:=0
def PySem.W.Fast.tw9040204191552896120 :Nat:=0
def PySem.W.Fast.tw15993516288590516160 :Nat:=0
def PySem.W.Fast.tw14752466336687065061 :Nat:=0
def PySem.W.Fast.tw12683687034600740211 :Nat:=0
def PySem.W.Fast.tw4469847313187753067 :Nat:=0
def PySem.W.Fast.tw14745944222104703736 :Nat:=0
def PySem.W.Fast.tw17063361274290078574 :Nat:=0
def PySem.W.Fast.tw9895798686109140977 :Nat:=0
def PySem.W.Fast.tw11458966212149356099 :Nat:=0
def PySem.W.Fast.tw10235800341010094020 :Nat:=0
def PySem.W.Fast.tw15710130731487734482 :Nat:=0
def PySem.W.Fast.tw9817603180302515541 :Nat:=0
def PySem.W.Fast.tw6389939598481369563 :Nat:=0
def PySem.W.Fast.tw1840174331984177433 :Nat:=0
def PySem.W.Fast.tw2380434762652159957 :Nat:=0
def PySem.W.Fast.tw13554721762483299350 :Nat:=0
def PySem.W.Fast.tw2672832491993470519 :Nat:=0
def PySem.W.Fast.tw4414287839289208710 :Nat:=0
def PySem.W.Fast.tw11539298784298013358 :Nat:=0
def PySem.W.Fast.tw2983696416048711256 :Nat:=0
def PySem.W.Fast.tw4441801933143554988 :Nat:=0
def PySem.W.Fast.tw16978155049427835901 :Nat:=0
def PySem.W.Fast.tw9393857669513564138 :Nat:=0
def PySem.W.Fast.tw11572790549225826674 :Nat:=0
def PySem.W.Fast.tw14051064258784823822 :Nat:=0
def PySem.W.Fast.tw7315917366149980230 :Nat:=0
def PySem.W.Fast.tw1299366667411638641 :Nat:=0
def PySem.W.Fast.tw1713137231070246987 :Nat:=0
def PySem.W.Fast.tw18274479031004474740 :Nat:=0
open PySem PySem.W PyProof.Rows
set_option maxRecDepth 100000 in
set_option maxHeartbeats 0 in
theorem PySem.Challenge.cw_stayprice_k10_no_book_holds : PySem.Challenge.rw_stayprice_k10_no_book.Holds := by
 w_on;o_law;k_head;(case hw=>w_witness2)
 k_fill
 refine K10.walk (l:=PySem.Challenge.rw_stayprice_k10_no_book) rfl rfl (fun w h Y=>PySem.W.kIn_of Y) ?hF
 case hF=>
  intro w mg fa h KX G hmg
  refine' K10.all_mk KX G hmg (K10.mkG ?_ ?_ ?_ ?_) (K10.mkG ?_ ?_ ?_ ?_) (K10.mkG ?_ ?_ ?_ ?_) (K10.mkG ?_ ?_ ?_ ?_) (K10.mkG ?_ ?_ ?_ ?_) (K10.mkG ?_ ?_ ?_ ?_) (K10.mkG ?_ ?_ ?_ ?_) (K10.mkG ?_ ?_ ?_ ?_) (K10.mkG ?_ ?_ ?_ ?_) (K10.mkG ?_ ?_ ?_ ?_) (K10.mkG ?_ ?_ ?_ ?_) (K10.mkG ?_ ?_ ?_ ?_) (K10.mkG ?_ ?_ ?_ ?_) (K10.mkG ?_ ?_ ?_ ?_) (K10.mkG ?_ ?_ ?_ ?_) (K10.mkG ?_ ?_ ?_ ?_) (K10.mkG ?_ ?_ ?_ ?_) (K10.mkG ?_ ?_ ?_ ?_) (K10.mkG ?_ ?_ ?_ ?_) (K10.mkG ?_ ?_ ?_ ?_) (K10.mkG ?_ ?_ ?_ ?_) (K10.mkG ?_ ?_ ?_ ?_) ?_ ?_ ?_ ?_ ?_ ?_ ?_ ?_ ?_ ?_ ?_ (K10.mkR ?_ ?_ ?_ ?_ ?_ ?_ ?_ ?_ ?_ ?_ ?_ ?_ ?_ ?_ ?_ ?_ ?_ ?_ ?_ ?_) (K10.mkR ?_ ?_ ?_ ?_ ?_ ?_ ?_ ?_ ?_ ?_ ?_ ?_ ?_ ?_ ?_ ?_ ?_ ?_ ?_ ?_) (K10.mkR ?_ ?_ ?_ ?_ ?_ ?_ ?_ ?_ ?_ ?_ ?_ ?_ ?_ ?_ ?_ ?_ ?_ ?_ ?_ ?_) (K10.mkR ?_ ?_ ?_ ?_ ?_ ?_ ?_ ?_ ?_ ?_ ?_ ?_ ?_ ?_ ?_ ?_ ?_ ?_ ?_ ?_) (K10.mkR ?_ ?_ ?_ ?_ ?_ ?_ ?_ ?_ ?_ ?_ ?_ ?_ ?_ ?_ ?_ ?_ ?_ ?_ ?_ ?_) (K10.mkR ?_ ?_ ?_ ?_ ?_ ?_ ?_ ?_ ?_ ?_ ?_ ?_ ?_ ?_ ?_ ?_ ?_ ?_ ?_ ?_) (K10.mkR ?_ ?_ ?_ ?_ ?_ ?_ ?_ ?_ ?_ ?_ ?_ ?_ ?_ ?_ ?_ ?_ ?_ ?_ ?_ ?_) (K10.mkF ?_ ?_ ?_) ?_ ?_ ?_ ?_ ?_ ?_ ?_ ?_ ?_ ?_ ?_ ?_ ?_ ?_ ?_ ?_ ?_ ?_ ?_ ?_ ?_ ?_ ?_ ?_ ?_ ?_ ?_ ?_ ?_ ?_ ?_ ?_ ?_ ?_ ?_ ?_ ?_ ?_ ?_ ?_ ?_ ?_ ?_ ?_ ?_ ?_ ?_ ?_ ?_ ?_ ?_ ?_ ?_ (K10.mkF ?_ ?_ ?_) ?_ ?_ ?_ ?_ ?_ ?_ ?_ ?_ ?_ ?_ ?_ ?_ ?_ ?_ ?_ ?_ ?_ ?_ ?_ ?_ ?_ ?_ ?_ ?_ ?_ ?_ ?_ ?_ ?_ ?_ ?_ ?_ ?_ ?_
  all_goals try (show _=_;first|k_is|kernel_rfl)
