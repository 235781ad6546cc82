import PyProof.Rows.All
import Wide.All
import OpenK.AllK
import Wide.FinOn
import Lean
import PyProof.EqAt
import PyProof.EqKinds
import PyProof.TupleCall
import PySem.Challenge.RW_stayprice_k12_laid_over
set_option Elab.async false
set_option linter.all false
set_option maxRecDepth 100000
def cQ := @_root_.PySem.wpAny_bind
def cR := @_root_.List.getElem?_eq_some_iff
def cS := @_root_.PySem.Heap.get?_push_of_some
def cT := @_root_.List.length_map
def cU := @_root_.Nat.le_refl
def cV := @_root_.PySem.Heap.lt_size
def cW := @_root_.List.length_append
def cX := @_root_.List.size_toArray
def cY := @_root_.List.mem_cons
def cZ := @_root_.Bool.false_ne_true
def ba := @_root_.List.mem_cons_of_mem
def bb := @_root_.PySem.W.mg_none_of
def bc := @_root_.PySem.wpAny_pure
def bf := @_root_.PySem.Heap.get?_update_other
def bh := @_root_.Nat.lt_of_lt_of_le
def bj := @_root_.List.length_cons
def bo := @_root_.List.getElem?_append_left
def bp := @_root_.List.mem_cons_self
def bq := @_root_.List.not_mem_nil
def br := @_root_.List.getElem?_append_right
def bt := @_root_.Option.some.inj
def bu := @_root_.Bool.and_eq_true
def bw := @_root_.Bool.eq_false_iff
def bx := @_root_.Nat.ne_of_lt
def bz := @_root_.Nat.zero_le
def bA := @_root_.PySem.W.mg_of
def bB := @_root_.List.length_set
def bE := @_root_.List.getElem?_map
def bF := @_root_.PySem.wpAny_mono
def bG := @_root_.Option.map_eq_some_iff
def bH := @_root_.List.getElem?_eq_getElem
def bJ := @_root_.List.mem_append_right
def bK := @_root_.PySem.Heap.get?_push_size
def bL := @_root_.decide_eq_false
def bN := @_root_.List.getElem?_set_ne
def bO := @_root_.PySem.W.kia_one
def bQ := @_root_.List.append_nil
def bU := @_root_.PySem.wpAny_Call_Name_kw
def bV := @_root_.List.mem_of_getElem?
def bX := @_root_.List.lookup_cons
def bY := @_root_.decide_eq_true
def bZ := @_root_.decide_eq_true_eq
def aa := @_root_.PySem.mem_of_lookup
def ae := @_root_.Nat.le_trans
def af := @_root_.or_false
def ag := @_root_.PySem.strLen_append
def ah := @_root_.PySem.wpAny_loadPart_at
def ai := @_root_.List.mem_append
def aj := @_root_.List.find?_cons
def ak := @_root_.List.getElem?_set_self
def ao := @_root_.Nat.sub_self
def aq := @_root_.Bool.true_and
def ar := @_root_.PySem.F.excBase_ValueError
def aw := @_root_.Bool.false_and
def ax := @_root_.PySem.W.callWith_K
def az := @_root_.PySem.Heap.get?_update_self
def aA := @_root_.List.mem_singleton
def aB := @_root_.Nat.le_of_ble_eq_true
def aC := @_root_.PySem.wpAny_truthy_bool
def aD := @_root_.List.getElem?_replicate
def aE := @_root_.Nat.le_of_lt
def aF := @_root_.PyProof.Rows.callWith_type1
def aG := @_root_.PySem.Obj.data_mapFields
def aH := @_root_.PySem.wpAny_passesOwn
def aI := @_root_.PyProof.Rows.boot_isinstance
def aJ := @_root_.PySem.Obj.isFreed_of_fields
def aK := @_root_.PySem.wpAny_holding
def aL := @_root_.List.map_cons
def aM := @_root_.Array.getElem?_eq_some_iff
def aN := @_root_.beq_iff_eq
def aO := @_root_.PySem.wpAny_call
def aP := @_root_.List.drop_eq_getElem_cons
def aQ := @_root_.Nat.le_succ
def aR := @_root_.PySem.boot_len
def aS := @_root_.List.length_take
def aT := @_root_.beq_eq_false_iff_ne
def aV := @_root_.Int.emod_lt_of_pos
def aW := @_root_.Ne.symm
def aX := @_root_.PySem.codeAny_mono
def aY := @_root_.List.length_replicate
def aZ := @_root_.List.set_append_right
def za0 := @_root_.Nat.lt_succ_self
def za1 := @_root_.List.all_eq_true
def za2 := @_root_.Option.bind_some
def za3 := @_root_.Nat.lt_irrefl
def za4 := @_root_.PySem.sizeLine_eq
def za5 := @_root_.List.length_reverse
def za6 := @_root_.PySem.wpAny_execs_nil
def za7 := @_root_.List.map_append
def za8 := @_root_.Int.emod_nonneg
def za9 := @_root_.Nat.ne_of_gt
def zb0 := @_root_.PySem.Code.quiet_builtin
def zb1 := @_root_.PySem.F.plainAttrs_list
def zb2 := @_root_.List.getElem?_cons_succ
def zb3 := @_root_.PySem.wpAny_standAt
def zb4 := @_root_.List.drop_length
def zb5 := @_root_.List.mem_reverse
def zb6 := @_root_.List.any_eq_true
def zb7 := @_root_.PySem.W.methodCall_KW
def zb8 := @_root_.List.length_singleton
def zb9 := @_root_.List.mem_append_left
def zc0 := @_root_.Bool.eq_iff_iff
def zc1 := @_root_.List.nodup_cons
def zc2 := @_root_.Bool.or_eq_true
def zc3 := @_root_.PySem.PassesOwn.never
def zc4 := @_root_.List.filterMap_cons
def zc5 := @_root_.PySem.W.plainGet_of
def zc6 := @_root_.Bool.false_or
namespace L2
open PySem PySem.Spec PyProof.Rows
abbrev Key :=Sum Int Str
def uD :Key→Value→Bool
 |.inl k,v=>Value.isInt k v
 |.inr x,v=>Value.isStrOf x v
def cN (w:World):Key→Int
 |.inl k=>hashInt k
 |.inr x=>hashStr w x
theorem zQ :∀{k:Key} {v:Value},uD k v=true→(∃i t,k=Sum.inl i∧v=Value.int i t)∨(∃x t,k=Sum.inr x∧v=Value.str x t)
 |.inl i,v,h=>by
  obtain⟨t,e⟩:=Value.isInt_shape (k:=i) (v:=v) h
  exact .inl ⟨i,t,rfl,e⟩
 |.inr x,v,h=>by
  obtain⟨t,e⟩:=Value.isStrOf_shape (x:=x) (v:=v) h
  exact .inr ⟨x,t,rfl,e⟩
theorem nz (i:Int)(t:Tok):uD (.inl i) (.int i t)=true:=by simp[uD,Value.isInt]
theorem nY (x:Str)(t:Tok):uD (.inr x) (.str x t)=true:=by simp[uD,Value.isStrOf]
theorem gG (a b:Int):decide ((Sum.inl a:Key)=Sum.inl b)=(a == b):=by
 by_cases e:a=b
 ·subst e;simp
 ·have h:¬(Sum.inl a:Key)=Sum.inl b:=fun q=>e (Sum.inl.inj q)
  rw[bL h]
  exact (aT.mpr e).symm
theorem gO (a b:Str):decide ((Sum.inr a:Key)=Sum.inr b)=decide (a=b):=by
 by_cases e:a=b
 ·subst e;simp
 ·have h:¬(Sum.inr a:Key)=Sum.inr b:=fun q=>e (Sum.inr.inj q)
  rw[bL h,bL e]
theorem ec (a:Int)(b:Str):decide ((Sum.inl a:Key)=Sum.inr b)=false:=bL (fun q=>nomatch q)
theorem fJ (a:Str)(b:Int):decide ((Sum.inr a:Key)=Sum.inl b)=false:=bL (fun q=>nomatch q)
def yx (prog:Program)(w:World):PySem.KeyKind prog w Key where
 is:=uD
 hash:=cN w
 inj:=fun v a b ha hb=>by
  rcases zQ ha with ⟨i,t,rfl,rfl⟩|⟨x,t,rfl,rfl⟩
  ·rcases zQ hb with ⟨j,u,rfl,e⟩|⟨y,u,rfl,e⟩
   ·injection e with e1 _;rw[e1]
   ·exact nomatch e
  ·rcases zQ hb with ⟨j,u,rfl,e⟩|⟨y,u,rfl,e⟩
   ·exact nomatch e
   ·injection e with e1 _;rw[e1]
 byValue:=fun k v h=>by
  rcases zQ h with ⟨i,t,rfl,rfl⟩|⟨x,t,rfl,rfl⟩<;>rfl
 pyHash:=fun hv h=>by
  rcases zQ hv with ⟨i,t,rfl,rfl⟩|⟨x,t,rfl,rfl⟩
  ·exact wpAny_pyHash_int h
  ·exact wpAny_pyHash_str h
 eqBool:=fun hu hv h=>by
  rcases zQ hu with ⟨i,t,rfl,rfl⟩|⟨x,t,rfl,rfl⟩
  ·rcases zQ hv with ⟨j,u,rfl,rfl⟩|⟨y,u,rfl,rfl⟩
   ·rw[gG] at h;exact wpAny_eqBool_int h
   ·rw[ec] at h;exact SeqAt.EqAt.int_str i t y u _ _ _ _ h
  ·rcases zQ hv with ⟨j,u,rfl,rfl⟩|⟨y,u,rfl,rfl⟩
   ·rw[fJ] at h;exact SeqAt.EqAt.str_int x t j u _ _ _ _ h
   ·rw[gO] at h;exact wpAny_eqBool_str h
 «strs»:=fun k x t v h=>by
  rcases zQ h with ⟨i,u,rfl,e⟩|⟨y,u,rfl,e⟩
  ·exact nomatch e
  ·injection e with e1 _
   subst e1
   cases v<;>rfl
theorem sZ (prog:Program)(w:World)(i:Int)(t:Tok):(yx prog w).is (.inl i) (.int i t)=true:=nz i t
theorem sM (prog:Program)(w:World)(x:Str)(t:Tok):(yx prog w).is (.inr x) (.str x t)=true:=nY x t
inductive V where
 |non|bl (b:Bool)|int (i:Int)|str (x:Str)|byt (b:Array UInt8)|flt (b:UInt64)|ref (a:Addr)|ty (n:String)
 deriving DecidableEq
def RelV :V→Value→Prop
 |.non,u=>u=Value.none
 |.bl b,u=>u=Value.bool b
 |.int i,u=>∃t,u=Value.int i t
 |.str x,u=>∃t,u=Value.str x t
 |.byt b,u=>∃t,u=Value.bytes b t
 |.flt b,u=>∃t,u=Value.float b t
 |.ref a,u=>u=Value.ref a
 |.ty n,u=>u=Value.type n
abbrev Vals :List V→List Value→Prop:=Paired RelV
theorem Vals.length {xs:List V}{us:List Value}(r:Vals xs us):xs.length=us.length:=Paired.length r
theorem Vals.get :∀{xs:List V} {us:List Value} {i:Nat} {x:V},Vals xs us→xs[i]?=some x→∃u,us[i]?=some u∧RelV x u
 |_,_,_,_,.nil,e=>by simp at e
 |_,_,0,_,.cons r _,e=>by simp at e;subst e;exact⟨_,rfl,r⟩
 |_,_,i+1,x,.cons _ t,e=>by
  obtain⟨u,h1,h2⟩:=Vals.get (i:=i) (x:=x) t (by simpa using e)
  exact⟨u,by simpa using h1,h2⟩
theorem Vals.set {x:V}{u:Value}(r:RelV x u):∀{xs:List V} {us:List Value} (i:Nat),Vals xs us→Vals (xs.set i x) (us.set i u)
 |_,_,_,.nil=>.nil
 |_,_,0,.cons _ t=>.cons r t
 |_,_,i+1,.cons q t=>.cons q (Vals.set r i t)
theorem Vals.append :∀{xs ys:List V} {us ws:List Value},Vals xs us→Vals ys ws→Vals (xs++ys) (us++ws)
 |_,_,_,_,.nil,s=>s
 |_,_,_,_,.cons r t,s=>.cons r (Vals.append t s)
theorem Vals.take :∀{xs:List V} {us:List Value} (n:Nat),Vals xs us→Vals (xs.take n) (us.take n)
 |_,_,0,_=>.nil
 |_,_,_+1,.nil=>.nil
 |_,_,n+1,.cons r t=>.cons r (Vals.take n t)
theorem Vals.drop :∀{xs:List V} {us:List Value} (n:Nat),Vals xs us→Vals (xs.drop n) (us.drop n)
 |_,_,0,r=>r
 |_,_,_+1,.nil=>.nil
 |_,_,n+1,.cons _ t=>Vals.drop n t
def wA :Option V→Option Value→Prop
 |some v,some u=>RelV v u
 |none,none=>True
 |_,_=>False
def KV {κ:Type}:List (κ×V)→List (κ×Value)→Prop:=Paired fun (p:κ×V) (q:κ×Value)=>p.1=q.1∧RelV p.2 q.2
def kV :Key→V
 |.inl i=>.int i
 |.inr x=>.str x
inductive HO where
  |lst (xs:List V)
  |tup (xs:List V)
  |dK (kvs:List (Key×V))|dT (kvs:List (List Key×V))
  |set (S:Int→Bool) (n:Nat)
  |ins (C dx:Addr) (fs:List (Str×V))
  |own (x:Addr)
  |xd (fs:List (Str×V))
  |met (f x:Addr)
  |rng (lo hi:Int)
  |frz (o:Obj) (u:HO)
  |tbl (ps:Array Value)
  |ext (φ:Heap→Prop)
abbrev Hp :=Addr→Option HO
def upd (H:Hp)(a:Addr)(o:HO):Hp:=fun b=>if b=a then some o else H b
theorem zd {H:Hp}{a:Addr}{o:HO}:upd H a o a=some o:=by unfold upd;rw[if_pos rfl]
theorem zc {H:Hp}{a b:Addr}{o:HO}(h:b≠a):upd H a o b=H b:=by unfold upd;rw[if_neg h]
theorem wm {H:Hp}{a:Addr}{o u:HO}:upd (upd H a o) a u=upd H a u:=by
 funext b;unfold upd;split<;>rfl
theorem iX {H:Hp}{a b:Addr}{o u:HO}(h:H a=some o)(h':H b=some u)(d:o≠u):a≠b:=by
 intro e;subst e;rw[h] at h';exact d (bt h')
theorem ze {H:Hp}{a b:Addr}{o:HO}(h:H a=some o)(h':H b=none):a≠b:=by
 intro e;subst e;rw[h] at h';cases h'
section
variable (P:Program)(w:World)
def zZ (H:Hp)(h:Heap)(a:Addr):HO→Prop
 |.lst xs=>xs.length≤sizeLine∧∃(its:List Value) (n:Nat),Vals xs its∧h.get? a=some {cls:=.type "list",data:=.seq its.toArray n}
 |.tup xs=>xs.length≤sizeLine∧∃its:List Value,Vals xs its∧IsTup h a its.toArray
 |.dK kvs=>kvs.length≤sizeLine∧(a == sysModules)=false∧∃vs,KV kvs vs∧h.DictOf (yx P w) a vs
 |.dT kvs=>kvs.length≤sizeLine∧(a == sysModules)=false∧∃xs:List (List Key×Addr×Value),
   Paired (fun (p:List Key×V) (q:List Key×Addr×Value)=>p.1=q.1∧H q.2.1=some (.tup (p.1.map kV))∧RelV p.2 q.2.2) kvs xs∧
   ∃o es ep,h.get? a=some o∧o.ExactDict∧o.data=.dict es ep∧es.toList=xs.map (entryOfKey (tupleKind (yx P w)))∧(xs.map (·.1)).Nodup
 |.set S n=>h.SetOf (intKind P w) a S n
 |.ins C dx fs=>H dx=some (.own a)∧fs.length≤1000∧dx≠a∧h.get? a=some (PySem.W.instObj C dx)∧
   ∃mA,h.Ns1 dx mA∧(∀f,wA (fs.lookup f) (mA f))∧PySem.Within mA (fs.map (·.1))
 |.own _=>∃o,h.get? a=some o
 |.xd fs=>∃mA,h.Ns1 a mA∧∀f,wA (fs.lookup f) (mA f)
 |.rng lo hi=>∃t u v,h.get? a=some {cls:=.type "range",data:=.fields #[.int lo t,.int hi u,.int 1 v]}
 |.frz o u=>h.get? a=some o∧zZ H h a u
 |.tbl ps=>h.get? a=some {cls:=.none,data:=.fields ps}
 |.met f x=>h.get? a=some (PySem.W.methodObj (.ref f) (.ref x))
 |.ext φ=>φ h∧(∃o,h.get? a=some o)∧∀h1 h2:Heap,φ h1→(∀o,h1.get? a=some o→h2.get? a=some o)→φ h2
def HOk (H:Hp)(h:Heap):Prop:=∀a o,H a=some o→zZ P w H h a o
end
section
variable {P:Program}{w:World}{H H':Hp}{h h':Heap}{a:Addr}{o:HO}
theorem zZ.lt (x:zZ P w H h a o):a<h.objs.size:=by
 cases o with
 |lst xs=>obtain⟨_,_,_,_,e⟩:=x;exact cV e
 |tup xs=>obtain⟨_,_,_,p⟩:=x;exact p.lt
 |dK kvs=>obtain⟨_,_,_,_,o,_,_,e,_⟩:=x;exact cV e
 |dT kvs=>obtain⟨_,_,_,_,o,_,_,e,_⟩:=x;exact cV e
 |set S n=>obtain⟨o,_,_,_,e,_⟩:=x;exact cV e
 |ins C dx fs=>obtain⟨_,_,_,e,_⟩:=x;exact cV e
 |own y=>obtain⟨_,e⟩:=x;exact cV e
 |xd fs=>obtain⟨_,⟨_,_,_,e,_⟩,_⟩:=x;exact cV e
 |rng lo hi=>obtain⟨_,_,_,e⟩:=x;exact cV e
 |frz ob u=>obtain⟨e,_⟩:=x;exact cV e
 |tbl ps=>exact cV (show h.get? a=some _ from x)
 |met f y=>exact cV (show h.get? a=some _ from x)
 |ext φ=>obtain⟨_,⟨_,e⟩,_⟩:=x;exact cV e
theorem Paired.mapP {α β:Type}{F G:α→β→Prop}:∀{l₁:List α} {l₂:List β},Paired F l₁ l₂→(∀a b,F a b→G a b)→Paired G l₁ l₂
 |_,_,.nil,_=>.nil
 |_,_,.cons r t,f=>.cons (f _ _ r) (Paired.mapP t f)
theorem zZ.stay (x:zZ P w H h a o)(k:∀b u,(b=a∨H b=some (.own a))→h.get? b=some u→h'.get? b=some u)
  (ho:∀b,H b=some (.own a)→H' b=some (.own a)) (ht:∀b xs,H b=some (.tup xs)→H' b=some (.tup xs)):zZ P w H' h' a o:=by
 induction o with
 |lst xs=>obtain⟨z,its,n,r,e⟩:=x;exact⟨z,its,n,r,k _ _ (.inl rfl) e⟩
 |tup xs=>obtain⟨z,its,r,ob,e,c⟩:=x;exact⟨z,its,r,ob,k _ _ (.inl rfl) e,c⟩
 |dK kvs=>obtain⟨z,y,vs,r,ob,es,ep,e,c⟩:=x;exact⟨z,y,vs,r,ob,es,ep,k _ _ (.inl rfl) e,c⟩
 |dT kvs=>
  obtain⟨z,y,xs,r,ob,es,ep,e,c⟩:=x
  exact⟨z,y,xs,Paired.mapP r fun p q z=>⟨z.1,ht _ _ z.2.1,z.2.2⟩,ob,es,ep,k _ _ (.inl rfl) e,c⟩
 |set S n=>obtain⟨ob,es,ep,t,e,c⟩:=x;exact⟨ob,es,ep,t,k _ _ (.inl rfl) e,c⟩
 |ins C dx fs=>
  obtain⟨d,z,ne,e,mA,⟨od,es,ep,e2,c⟩,r⟩:=x
  exact⟨ho _ d,z,ne,k _ _ (.inl rfl) e,mA,⟨od,es,ep,k _ _ (.inr d) e2,c⟩,r⟩
 |own y=>obtain⟨ob,e⟩:=x;exact⟨ob,k _ _ (.inl rfl) e⟩
 |xd fs=>obtain⟨mA,⟨od,es,ep,e,c⟩,r⟩:=x;exact⟨mA,⟨od,es,ep,k _ _ (.inl rfl) e,c⟩,r⟩
 |rng lo hi=>obtain⟨t,u,v,e⟩:=x;exact⟨t,u,v,k _ _ (.inl rfl) e⟩
 |frz ob u ih=>obtain⟨e,q⟩:=x;exact⟨k _ _ (.inl rfl) e,ih q⟩
 |tbl ps=>
  have e:h.get? a=some {cls:=.none,data:=.fields ps}:=x
  show h'.get? a=some {cls:=.none,data:=.fields ps}
  exact k a _ (.inl rfl) e
 |met f y=>
  have e:h.get? a=some (PySem.W.methodObj (.ref f) (.ref y)):=x
  show h'.get? a=some (PySem.W.methodObj (.ref f) (.ref y))
  exact k a _ (.inl rfl) e
 |ext φ=>obtain⟨p,⟨o,e⟩,st⟩:=x;exact⟨st _ _ p fun o q=>k _ _ (.inl rfl) q,⟨o,k _ _ (.inl rfl) e⟩,st⟩
theorem HOk.lt (x:HOk P w H h)(e:H a=some o):a<h.objs.size:=(x a o e).lt
theorem HOk.fresh (x:HOk P w H h)(e:h.objs.size≤a):H a=none:=by
 cases q:H a with
 |none=>rfl
 |some u=>exact absurd (bh (x.lt q) e) (za3 _)
theorem HOk.kept (x:HOk P w H h)(k:∀b u,h.get? b=some u→h'.get? b=some u):HOk P w H h':=fun a o e=>
 (x a o e).stay (fun b u _ q=>k b u q) (fun _ q=>q) fun _ _ q=>q
theorem HOk.laid (x:HOk P w H h)(k:∀b u,h.get? b=some u→h'.get? b=some u)(hp:h.objs.size≤a)(new:zZ P w (upd H a o) h' a o):HOk P w (upd H a o) h':=fun b u e=>by
 have hn:=x.fresh hp
 by_cases hb:b=a
 ·subst hb;rw[zd] at e;cases e;exact new
 ·rw[zc hb] at e
  exact (x b u e).stay (fun c v _ q=>k c v q) (fun c q=>by rw[zc (ze q hn)];exact q) fun c xs q=>by rw[zc (ze q hn)];exact q
end
def Rd (H:Hp)(a:Addr)(u:HO):Prop:=H a=some u∨∃o,H a=some (.frz o u)
theorem Rd.ok {P:Program}{w:World}{H:Hp}{h:Heap}{a:Addr}{u:HO}(r:Rd H a u)(x:HOk P w H h):zZ P w H h a u:=by
 rcases r with r|⟨o,r⟩
 ·exact x a u r
 ·obtain⟨_,q⟩:=x a _ r
  exact q
def Mut :Option HO→Prop
 |some (.lst _)=>True
 |some (.dK _)=>True
 |some (.dT _)=>True
 |some (.set _ _)=>True
 |some (.ins _ _ _)=>True
 |some (.ext _)=>True
 |_=>False
section
variable {P:Program}{w:World}{H:Hp}{h h':Heap}{x e:Addr}{o':HO}
theorem HOk.write (ok:HOk P w H h)(mu:Mut (H x))(he:e=x∨H e=some (.own x))(k:∀b u,b≠e→h.get? b=some u→h'.get? b=some u)(heo:∃u,h'.get? e=some u)
  (new:zZ P w (upd H x o') h' x o'):HOk P w (upd H x o') h':=fun b u q=>by
 have nown:∀c y,H c=some (.own y)→c≠x:=fun c y r z=>by subst z;rw[r] at mu;exact mu
 have ntup:∀c xs,H c=some (.tup xs)→c≠x:=fun c xs r z=>by subst z;rw[r] at mu;exact mu
 by_cases hb:b=x
 ·subst hb;rw[zd] at q;cases q;exact new
 ·rw[zc hb] at q
  by_cases hbe:b=e
  ·have q':H b=some (.own x):=by
    rcases he with z|z
    ·exact absurd (hbe.trans z) hb
    ·rw[hbe];exact z
   rw[q] at q';cases q'
   obtain⟨v,hv⟩:=heo
   exact⟨v,by rw[hbe];exact hv⟩
  ·refine (ok b u q).stay (fun c v hc r=>k c v ?_ r) (fun c r=>by rw[zc (nown c b r)];exact r) fun c xs r=>by rw[zc (ntup c xs r)];exact r
   rcases hc with rfl|hc
   ·exact hbe
   ·rintro rfl
    rcases he with z|z
    ·exact nown c b hc z
    ·rw[hc] at z;cases z;exact hb rfl
end
structure Un (fs ex:List Addr)(H H':Hp)(h h':Heap):Prop where
 keep:∀b o,h.get? b=some o→H b=none→b∉fs→b∉ex→h'.get? b=some o
 slot:∀b o,h.get? b=some o→H b=none→b∈fs→b∉ex→∃sl,h'.get? b=some {o with slots:=sl}
 free:∀b o,h.get? b=some o→H b=none→b∉ex→H' b=none
 there:∀b o,h.get? b=some o→b∉ex→∃o',h'.get? b=some o'
 tups:∀b xs,H b=some (.tup xs)→H' b=some (.tup xs)
 frzs:∀b o u,H b=some (.frz o u)→H' b=some (.frz o u)
 tbls:∀b ps,H b=some (.tbl ps)→∃more,H' b=some (.tbl (ps++more))
section
variable {fs fs' ex ex':List Addr}{H H1 H2:Hp}{h h1 h2 h':Heap}{a x e:Addr}{o:HO}
theorem Un.any (u:Un fs ex H H1 h h1){b:Addr}{ob:Obj}(q:h.get? b=some ob)(n:H b=none)(hx:b∉ex):∃sl,h1.get? b=some {ob with slots:=sl}:=by
 by_cases hb:b∈fs
 ·exact u.slot b ob q n hb hx
 ·exact⟨ob.slots,u.keep b ob q n hb hx⟩
theorem Un.kept (k:∀b u,h.get? b=some u→h'.get? b=some u):Un fs ex H H h h':=
 ⟨fun b ob q _ _ _=>k b ob q,fun b ob q _ _ _=>⟨ob.slots,k b ob q⟩,fun _ _ _ n _=>n,fun b ob q _=>⟨ob,k b ob q⟩,fun _ _ q=>q,fun _ _ _ q=>q,fun _ ps q=>⟨#[],by rw[q];simp⟩⟩
theorem Un.refl :Un fs ex H H h h:=Un.kept fun _ _ q=>q
theorem Un.laid (k:∀b u,h.get? b=some u→h'.get? b=some u)(hp:h.objs.size≤a)(hn:H a=none):Un fs ex H (upd H a o) h h' where
 keep:=fun b u q _ _ _=>k b u q
 slot:=fun b u q _ _ _=>⟨u.slots,k b u q⟩
 free:=fun b u q n _=>by rw[zc (bx (bh (cV q) hp))];exact n
 there:=fun b u q _=>⟨u,k b u q⟩
 tups:=fun b xs q=>by rw[zc (ze q hn)];exact q
 frzs:=fun b u xs q=>by rw[zc (ze q hn)];exact q
 tbls:=fun b ps q=>⟨#[],by rw[zc (ze q hn),q];simp⟩
theorem Un.write (mu:Mut (H x))(he:e=x∨H e=some (.own x))(k:∀b u,b≠e→h.get? b=some u→h'.get? b=some u)(heo:∃u,h'.get? e=some u):Un fs ex H (upd H x o) h h':=by
 have hx:∀b,H b=none→b≠x:=fun b n z=>by subst z;rw[n] at mu;exact mu
 have hb:∀b,H b=none→b≠e:=fun b n z=>by
  subst z
  rcases he with r|r
  ·exact hx b n r
  ·rw[n] at r;cases r
 have hm:∀b u,H b=some u→¬Mut (some u)→b≠x:=fun b u q nm z=>by subst z;rw[q] at mu;exact nm mu
 refine⟨fun b u q n _ _=>k b u (hb b n) q,fun b u q n _ _=>⟨u.slots,k b u (hb b n) q⟩,fun b u q n _=>by rw[zc (hx b n)];exact n,fun b u q _=>?_,
  fun b xs q=>by rw[zc (hm b _ q fun z=>z)];exact q,fun b u xs q=>by rw[zc (hm b _ q fun z=>z)];exact q,fun b ps q=>⟨#[],by rw[zc (hm b _ q fun z=>z),q];simp⟩⟩
 by_cases hbe:b=e
 ·subst hbe;exact heo
 ·exact⟨u,k b u hbe q⟩
end
def trk (h:Heap)(H:Hp):List Addr:=(List.range h.objs.size).filter fun a=>(H a).isSome
def tR (h:Heap)(H:Hp):Heap:=PySem.W.hideAll h (trk h H)
theorem nh (h:Heap)(H:Hp):(tR h H).objs.size=h.objs.size:=PySem.W.hideAll_size _ _
theorem lN {h:Heap}{H:Hp}{b:Addr}{o:Obj}(e:h.get? b=some o)(n:H b=none):(tR h H).get? b=some o:=
 PySem.W.hideAll_get _ e fun hm=>by
  have q:(H b).isSome=true:=(List.mem_filter.mp hm).2
  rw[n] at q;simp at q
theorem iF {h:Heap}{H:Hp}{b:Addr}{o:Obj}(e:(tR h H).get? b=some o):h.get? b=some o∧H b=none:=by
 have e':h.get? b=some o:=PySem.W.of_hideAll (trk h H) e
 refine⟨e',?_⟩
 cases q:H b with
 |none=>rfl
 |some x=>
  have hm:b∈trk h H:=List.mem_filter.mpr ⟨List.mem_range.mpr (cV e'),by simp[q]⟩
  have z:(tR h H).get? b=none:=PySem.W.hideAll_none (trk h H) hm
  rw[z] at e;cases e
structure Mod (K:PySem.W.Frag)(mg:Str→Option Value)(base:Heap):Prop where
 kin:K.In base
 glob:base.Ns mainGlobals mg
 blt:∃mb,base.Ns builtinsNs mb∧∀x:Str,x≠"__name__"→mb x=bootBuiltins x
 nolimit:base.NoLimit
structure Cx where
 prog:Program
 w:World
 K:PySem.W.Frag
 mg:Str→Option Value
 base:Heap
 A:Around
 N:List Str
 s₀:Shared
 H₀:Hp
 env:Env
 outer:List Env
 stack:List Env
 ex:List Addr
 fn:Str→Bool
 calm:Bool
 pn:List (Addr×Obj)
 xe:Value→Shared→Prop
def frs (l:List Env):List Addr:=l.filterMap (·.frame)
abbrev Cx.fs (X:Cx):List Addr:=frs X.outer
def Vis (sc:Scope)(x:Str):Prop:=sc.names.lookup x=some .local∨sc.names.lookup x=some .cell∨sc.names.lookup x=some .free
def Loc (sc:Scope)(x:Str):Prop:=sc.names.lookup x=some .local∨sc.names.lookup x=some .cell
def Look (env:Env)(h:Heap)(m:Str→Option Value)(x:Str)(u:Value):Prop:=
 (env.kindOf x=some .local∧m x=some u)∨((env.kindOf x=some .cell∨env.kindOf x=some .free)∧∃c,env.cells.lookup x=some c∧h.IsCell c (some u))
structure Cx.Ok (X:Cx):Prop where
 mod:Mod X.K X.mg X.base
 kind:X.env.scope.kind=.function
 glob:X.env.globals=mainGlobals
 blt:X.env.builtins=builtinsNs
 above:X.s₀.heap.objs.size≤X.env.locals
 inj:∀x y c,X.env.cells.lookup x=some c→X.env.cells.lookup y=some c→x=y
 has:∀x,(X.env.kindOf x=some .cell∨X.env.kindOf x=some .free)→∃c,X.env.cells.lookup x=some c
 cab:∀x c,X.fn x=true→X.env.cells.lookup x=some c→X.s₀.heap.objs.size≤c
 hd:X.calm=true→X.A.handled=none
 frames:X.A.frames=some X.stack
 stk:X.stack=X.outer∨(X.stack=X.env::X.outer∧X.env.frame=some X.env.locals)
 exf:∀b∈X.ex,b≠X.env.locals∧∀x c,X.env.cells.lookup x=some c→c≠b
 bs:∀b o,X.base.get? b=some o→X.s₀.heap.get? b=some o∧X.H₀ b=none
 bsz:X.base.objs.size≤X.s₀.heap.objs.size
 noex:∀b o,X.base.get? b=some o→b∉X.ex
 exfs:∀b∈X.ex,b∉X.fs
 funs:X.s₀.heap.FunFrames X.base X.outer
 frf:∀b∈X.fs,X.H₀ b=none
structure Inv (X:Cx)(pins:List (Addr×Obj))(σ:List (Option V))(H:Hp)(s:Shared):Prop where
 ok:X.Ok
 os:s.os=X.s₀.os
 bare:AllBare s.gens
 base:Un X.fs X.ex X.H₀ H X.s₀.heap s.heap
 loc:∃m,s.heap.Ns X.env.locals m∧∀(i:Nat) (x:Str) (v:V),X.N[i]?=some x→σ[i]?=some (some v)→Vis X.env.scope x→∃u,RelV v u∧Look X.env s.heap m x u
 cell:∀x c,X.env.cells.lookup x=some c→∃v,s.heap.IsCell c v
 free:H X.env.locals=none
 freeC:∀x c,X.env.cells.lookup x=some c→H c=none
 pin:∀p∈X.pn++pins,s.heap.get? p.1=some p.2∧H p.1=none∧p.1≠X.env.locals∧p.1∉X.fs∧∀v,p.2.data≠.cell v
 hok:HOk X.prog X.w H s.heap
 len:σ.length=X.N.length
section
variable {X:Cx}{pins:List (Addr×Obj)}{σ:List (Option V)}{H H':Hp}{s:Shared}{h':Heap}
theorem Cx.Ok.nofr (ok:X.Ok){b:Addr}{o:Obj}(e:X.base.get? b=some o):b∉X.fs:=fun hb=>by
 have:=(ok.funs.mem hb).1
 rw[e] at this;cases this
theorem Inv.bs (I:Inv X pins σ H s):∀b o,X.base.get? b=some o→s.heap.get? b=some o∧H b=none:=fun b o e=>
 ⟨I.base.keep b o (I.ok.bs b o e).1 (I.ok.bs b o e).2 (I.ok.nofr e) (I.ok.noex b o e),I.base.free b o (I.ok.bs b o e).1 (I.ok.bs b o e).2 (I.ok.noex b o e)⟩
theorem Inv.bk (I:Inv X pins σ H s):∀b o,X.base.get? b=some o→s.heap.get? b=some o:=fun b o e=>(I.bs b o e).1
theorem Inv.mod (I:Inv X pins σ H s):Mod X.K X.mg X.base:=I.ok.mod
theorem Inv.kIn (I:Inv X pins σ H s):X.K.In s.heap:=I.ok.mod.kin.keeps I.bk
theorem Inv.lt (I:Inv X pins σ H s):X.env.locals<s.heap.objs.size:=let ⟨_,hn,_⟩:=I.loc;hn.lt
theorem Inv.sz (I:Inv X pins σ H s):X.s₀.heap.objs.size≤s.heap.objs.size:=ae I.ok.above (aE I.lt)
theorem Inv.nofs (I:Inv X pins σ H s){a:Addr}(h:s.heap.objs.size≤a):a∉X.fs:=fun hb=>by
 obtain⟨_,o,ho,_⟩:=I.ok.funs.mem hb
 exact absurd (bh (cV ho) (ae I.sz h)) (za3 _)
theorem Inv.cne (I:Inv X pins σ H s):∀x c,X.env.cells.lookup x=some c→c≠X.env.locals:=fun x c e z=>by
 obtain⟨v,o,ho,hd⟩:=I.cell x c e
 obtain⟨m,⟨o',es,ep,ho',hd',_⟩,_⟩:=I.loc
 rw[z,ho'] at ho;cases ho;rw[hd'] at hd;cases hd
theorem Inv.funs (I:Inv X pins σ H s):s.heap.FunFrames X.base X.outer:=by
 have all:∀(l:List Env),(∀b∈frs l,b∈X.fs)→X.s₀.heap.FunFrames X.base l→s.heap.FunFrames X.base l:=by
  intro l
  induction l with
  |nil=>intro _ _;trivial
  |cons env r ih=>
   intro hs hl
   obtain⟨hk,⟨L,o,hf,hn,ho,hd⟩,hr⟩:=hl
   have hL:L∈X.fs:=hs L (by unfold frs;rw[zc4,hf];exact bp)
   obtain⟨sl,e⟩:=I.base.slot L o ho (I.ok.frf L hL) hL fun z=>I.ok.exfs L z hL
   exact⟨hk,⟨L,_,hf,hn,e,hd⟩,ih (fun b hb=>hs b (by unfold frs;rw[zc4,hf];exact ba _ hb)) hr⟩
 exact all X.outer (fun _ hb=>hb) I.ok.funs
theorem Inv.stack (I:Inv X pins σ H s):s.heap.FunFrames X.base X.stack:=by
 rcases I.ok.stk with e|⟨e,hf⟩
 ·rw[e];exact I.funs
 ·rw[e]
  obtain⟨m,hn,_⟩:=I.loc
  refine .cons (by rw[I.ok.kind];decide) hf hn ?_ I.funs
  exact Heap.get?_none_of_le (ae I.ok.bsz I.ok.above)
theorem Inv.stkSub (I:Inv X pins σ H s):∀b∈frs X.stack,b∈X.env.locals::X.fs:=fun b hb=>by
 rcases I.ok.stk with e|⟨e,hf⟩
 ·rw[e] at hb;exact ba _ hb
 ·rw[e] at hb
  unfold frs at hb
  rw[zc4,hf] at hb
  exact hb
theorem Inv.stkFree (I:Inv X pins σ H s):∀b∈frs X.stack,H b=none:=fun b hb=>by
 rcases cY.mp (I.stkSub b hb) with e|hb
 ·rw[e];exact I.free
 ·obtain⟨_,o,ho,_⟩:=I.ok.funs.mem hb
  exact I.base.free b o ho (I.ok.frf b hb) fun z=>I.ok.exfs b z hb
theorem Inv.step {g':Array GenState}{t':Nat}{d':Drawn}{ch:List Addr}(I:Inv X pins σ H s)
  (hch:∀b∈ch,(b∈X.ex∨X.s₀.heap.objs.size≤b)∧b≠X.env.locals∧(∀x c,X.env.cells.lookup x=some c→c≠b)∧∀p∈X.pn++pins,p.1≠b)
  (keep:∀b o,b≠X.env.locals→b∉X.fs→b∉ch→s.heap.get? b=some o→H b=none→h'.get? b=some o)
  (slot:∀b o,b≠X.env.locals→b∈X.fs→b∉ch→s.heap.get? b=some o→H b=none→∃sl,h'.get? b=some {o with slots:=sl}) (free:∀b o,b∉ch→s.heap.get? b=some o→H b=none→H' b=none)
  (there:∀b o,b∉ch→s.heap.get? b=some o→∃o',h'.get? b=some o')
  (tups:∀b xs,H b=some (.tup xs)→H' b=some (.tup xs)) (frzs:∀b o u,H b=some (.frz o u)→H' b=some (.frz o u)) (tbls:∀b ps,H b=some (.tbl ps)→∃more,H' b=some (.tbl (ps++more)))
  (ns:∀m,s.heap.Ns X.env.locals m→h'.Ns X.env.locals m) (hok:HOk X.prog X.w H' h') (hg:AllBare g'):
  Inv X pins σ H' {s with heap:=h',gens:=g',drawn:=d',toks:=t'}:=by
 have neL:∀b o,X.s₀.heap.get? b=some o→b≠X.env.locals:=fun b o e=>bx (bh (cV e) I.ok.above)
 have neC:∀b o,X.s₀.heap.get? b=some o→b∉X.ex→b∉ch:=fun b o e hx hb=>by
  rcases (hch b hb).1 with z|z
  ·exact hx z
  ·exact absurd (bh (cV e) z) (za3 _)
 have cellK:∀x c,X.env.cells.lookup x=some c→∀v,s.heap.IsCell c v→h'.IsCell c v:=fun x c e v ⟨o,ho,hd⟩=>by
  have nch:c∉ch:=fun z=>(hch c z).2.2.1 x c e rfl
  by_cases hc:c∈X.fs
  ·obtain⟨sl,q⟩:=slot c o (I.cne x c e) hc nch ho (I.freeC x c e)
   exact⟨_,q,hd⟩
  ·exact⟨o,keep c o (I.cne x c e) hc nch ho (I.freeC x c e),hd⟩
 refine⟨I.ok,I.os,hg,⟨fun b o e n hb hx=>?_,fun b o e n hb hx=>?_,fun b o e n hx=>?_,fun b o e hx=>?_,fun b xs e=>tups b xs (I.base.tups b xs e),fun b o xs e=>frzs b o xs (I.base.frzs b o xs e),fun b ps e=>?_⟩,?_,fun x c e=>?_,?_,fun x c e=>?_,fun p hp=>?_,hok,I.len⟩
 ·exact keep b o (neL b o e) hb (neC b o e hx) (I.base.keep b o e n hb hx) (I.base.free b o e n hx)
 ·obtain⟨sl,e1⟩:=I.base.slot b o e n hb hx
  obtain⟨sl',e2⟩:=slot b _ (neL b o e) hb (neC b o e hx) e1 (I.base.free b o e n hx)
  exact⟨sl',e2⟩
 ·obtain⟨o',e1⟩:=I.base.there b o e hx
  exact free b o' (neC b o e hx) e1 (I.base.free b o e n hx)
 ·obtain⟨o',e1⟩:=I.base.there b o e hx
  exact there b o' (neC b o e hx) e1
 ·obtain⟨m1,e1⟩:=I.base.tbls b ps e
  obtain⟨m2,e2⟩:=tbls b _ e1
  exact⟨m1++m2,by rw[e2,Array.append_assoc]⟩
 ·obtain⟨m,hn,hl⟩:=I.loc
  refine⟨m,ns m hn,fun i x v e1 e2 e3=>?_⟩
  obtain⟨u,r,l⟩:=hl i x v e1 e2 e3
  refine⟨u,r,?_⟩
  rcases l with l|⟨k,c,e,z⟩
  ·exact .inl l
  ·exact .inr ⟨k,c,e,cellK x c e _ z⟩
 ·obtain⟨v,z⟩:=I.cell x c e
  exact⟨v,cellK x c e v z⟩
 ·obtain⟨m,⟨o,_,_,ho,_⟩,_⟩:=I.loc
  exact free _ o (fun z=>(hch _ z).2.1 rfl) ho I.free
 ·obtain⟨v,o,ho,hd⟩:=I.cell x c e
  exact free c o (fun z=>(hch c z).2.2.1 x c e rfl) ho (I.freeC x c e)
 ·obtain⟨e,n,ne,nf,d⟩:=I.pin p hp
  have nch:p.1∉ch:=fun z=>(hch p.1 z).2.2.2 p hp rfl
  exact⟨keep p.1 p.2 ne nf nch e n,free p.1 p.2 nch e n,ne,nf,d⟩
theorem Inv.un {t':Nat}(I:Inv X pins σ H s)(u:Un X.fs [] H H' s.heap h')(hok:HOk X.prog X.w H' h'):Inv X pins σ H' {s with heap:=h',toks:=t'}:=by
 obtain⟨m,⟨o,es,ep,ho,r⟩,_⟩:=id I.loc
 obtain⟨sl,hL⟩:=u.any ho I.free (by simp)
 exact I.step (g':=s.gens) (d':=s.drawn) (ch:=[]) (fun _ z=>nomatch z) (fun b o _ hb _ e n=>u.keep b o e n hb (by simp)) (fun b o _ hb _ e n=>u.slot b o e n hb (by simp)) (fun b o _ e n=>u.free b o e n (by simp)) (fun b o _ e=>u.there b o e (by simp)) u.tups u.frzs u.tbls (fun m' hm=>by
  obtain⟨o',es',ep',ho',r'⟩:=hm
  rw[ho] at ho';cases ho'
  exact⟨_,es',ep',hL,r'⟩) hok I.bare
theorem Inv.call {g':Array GenState}{t':Nat}{d':Drawn}{ch:List Addr}(I:Inv X pins σ H s)(u:Un (frs X.stack) ch H H' s.heap h')(hok:HOk X.prog X.w H' h')(hg:AllBare g')
  (hch:∀b∈ch,(b∈X.ex∨X.s₀.heap.objs.size≤b)∧b≠X.env.locals∧(∀x c,X.env.cells.lookup x=some c→c≠b)∧∀p∈X.pn++pins,p.1≠b):
  Inv X pins σ H' {s with heap:=h',gens:=g',drawn:=d',toks:=t'}:=by
 obtain⟨m,⟨o,es,ep,ho,r⟩,_⟩:=id I.loc
 obtain⟨sl,hL⟩:=u.any ho I.free fun z=>(hch _ z).2.1 rfl
 exact I.step (ch:=ch) hch (fun b o hL hb hc e n=>u.keep b o e n (fun z=>(cY.mp (I.stkSub b z)).elim hL hb) hc) (fun b o _ _ hc e n=>u.any e n hc) (fun b o hc e n=>u.free b o e n hc) (fun b o hc e=>u.there b o e hc) u.tups u.frzs u.tbls (fun m' hm=>by
  obtain⟨o',es',ep',ho',r'⟩:=hm
  rw[ho] at ho';cases ho'
  exact⟨_,es',ep',hL,r'⟩) hok hg
theorem Inv.turned {t':Nat}{it:Addr}(I:Inv X pins σ H s)(k:∀b o,b≠it→s.heap.get? b=some o→h'.get? b=some o)(hn:H it=none)(hL:it≠X.env.locals)
  (h1:it∈X.ex∨X.s₀.heap.objs.size≤it) (h2:∀x c,X.env.cells.lookup x=some c→c≠it) (h3:∀p∈X.pn++pins,p.1≠it):Inv X pins σ H {s with heap:=h',toks:=t'}:=by
 have nit:∀b u,H b=some u→b≠it:=fun b u e z=>by rw[z,hn] at e;cases e
 refine I.step (g':=s.gens) (d':=s.drawn) (ch:=[it]) (fun b hb=>?_) (fun b o _ _ hc e _=>k b o (fun z=>hc (by simp[z])) e) (fun b o _ _ hc e _=>⟨o.slots,k b o (fun z=>hc (by simp[z])) e⟩) (fun _ _ _ _ n=>n)
  (fun b o hc e=>⟨o,k b o (fun z=>hc (by simp[z])) e⟩) (fun _ _ e=>e) (fun _ _ _ e=>e) (fun b ps e=>⟨#[],by rw[e];simp⟩) (fun m hm=>?_) (fun b u e=>?_) I.bare
 ·have e:b=it:=by simpa using hb
  subst e
  exact⟨h1,hL,h2,h3⟩
 ·obtain⟨o,es,ep,ho,r⟩:=hm
  exact⟨o,es,ep,k _ o (aW hL) ho,r⟩
 ·refine (I.hok b u e).stay (fun c v hc q=>k c v ?_ q) (fun _ q=>q) fun _ _ q=>q
  rcases hc with z|z
  ·rw[z];exact nit b u e
  ·exact nit c _ z
theorem Inv.tok (I:Inv X pins σ H s)(t:Nat):Inv X pins σ H {s with toks:=t}:=I.un (h':=s.heap) (t':=t) Un.refl I.hok
theorem Inv.kept {t':Nat}(I:Inv X pins σ H s)(k:∀b u,s.heap.get? b=some u→h'.get? b=some u):Inv X pins σ H {s with heap:=h',toks:=t'}:=I.un (Un.kept k) (I.hok.kept k)
theorem Inv.laid {a:Addr}{o:HO}{t':Nat}(I:Inv X pins σ H s)(k:∀b u,s.heap.get? b=some u→h'.get? b=some u)(hp:s.heap.objs.size≤a)(new:zZ X.prog X.w (upd H a o) h' a o):
  Inv X pins σ (upd H a o) {s with heap:=h',toks:=t'}:=I.un (Un.laid k hp (I.hok.fresh hp)) (I.hok.laid k hp new)
theorem Inv.write {x e:Addr}{o:HO}{t':Nat}(I:Inv X pins σ H s)(mu:Mut (H x))(he:e=x∨H e=some (.own x))(k:∀b u,b≠e→s.heap.get? b=some u→h'.get? b=some u)(heo:∃u,h'.get? e=some u)
  (new:zZ X.prog X.w (upd H x o) h' x o):Inv X pins σ (upd H x o) {s with heap:=h',toks:=t'}:=I.un (Un.write mu he k heo) (I.hok.write mu he k heo new)
theorem Inv.pins_of {pins':List (Addr×Obj)}(I:Inv X pins σ H s)(h:∀p∈pins',s.heap.get? p.1=some p.2∧H p.1=none∧p.1≠X.env.locals∧p.1∉X.fs∧∀v,p.2.data≠.cell v):Inv X pins' σ H s:=
 ⟨I.ok,I.os,I.bare,I.base,I.loc,I.cell,I.free,I.freeC,fun p hp=>(ai.mp hp).elim (fun z=>I.pin p (zb9 _ z)) (h p),I.hok,I.len⟩
theorem vZ {N:List Str}(hN:N.Nodup){i j:Nat}{x:Str}(a:N[i]?=some x)(b:N[j]?=some x):i=j:=by
 obtain⟨h1,e1⟩:=cR.mp a
 obtain⟨h2,e2⟩:=cR.mp b
 exact (List.getElem_inj hN).mp (e1.trans e2.symm)
theorem uP {M:Model}{A:Around}{E:Value→Shared→Prop}{i:Nat}{x:Str}{v:V}{u:Value}{Q:Unit→Shared→Prop}(I:Inv X pins σ H s)(hN:X.N.Nodup)(hi:X.N[i]?=some x)(hx:Loc X.env.scope x)(r:RelV v u)
  (h:∀s',Inv X pins (σ.set i (some v)) H s'→(∃a,Heap.SameBut a s.heap s'.heap∧(a=X.env.locals∨X.env.cells.lookup x=some a))→Q () s') (hf:X.fn x=true∨X.env.scope.names.lookup x=some .local:=by first|exact .inl rfl|exact .inr rfl|assumption):wpAny M A (storeName X.env x u) Q E s:=by
 obtain⟨m,hn,hl⟩:=id I.loc
 have hcls:(X.env.scope.kind == .class||(X.env.scope.kind == .module&&X.env.locals != X.env.globals))=false:=by rw[I.ok.kind];rfl
 have hiσ:i<σ.length:=by rw[I.len];exact (cR.mp hi).1
 have cne:=I.cne
 have tracked:∀{a:Addr} {h':Heap},(∃o,s.heap.get? a=some o∧H a=none)→Heap.SameBut a s.heap h'→HOk X.prog X.w H h':=fun {a h'} ha hs b ob e=>by
  obtain⟨_,_,hfree⟩:=ha
  refine (I.hok b ob e).stay (fun c w' hc q=>(hs.2 c ?_).trans q) (fun _ q=>q) fun _ _ q=>q
  rintro rfl
  rcases hc with rfl|hc
  ·rw[hfree] at e;cases e
  ·rw[hfree] at hc;cases hc
 rcases hx with hk|hk
 ·refine wpAny_storeName_local hk hn (fun h' hn' hs=>?_) hcls
  obtain⟨oL,_,_,hoL,_⟩:=id hn
  refine h _ ⟨I.ok,I.os,I.bare,⟨fun b o e n hb hx=>?_,fun b o e n hb hx=>?_,I.base.free,fun b o e hx=>?_,I.base.tups,I.base.frzs,I.base.tbls⟩,⟨_,hn',fun j y v' e1 e2 e3=>?_⟩,fun y c e=>?_,I.free,I.freeC,fun p hp=>?_,tracked ⟨oL,hoL,I.free⟩ hs,by simpa using I.len⟩ ⟨_,hs,.inl rfl⟩
  ·exact (hs.2 b (bx (bh (cV e) I.ok.above))).trans (I.base.keep b o e n hb hx)
  ·obtain⟨sl,e1⟩:=I.base.slot b o e n hb hx
   exact⟨sl,(hs.2 b (bx (bh (cV e) I.ok.above))).trans e1⟩
  ·obtain⟨o',e1⟩:=I.base.there b o e hx
   exact⟨o',(hs.2 b (bx (bh (cV e) I.ok.above))).trans e1⟩
  ·by_cases hj:j=i
   ·subst hj
    rw[hi] at e1;cases e1
    rw[ak hiσ] at e2
    cases e2
    exact⟨u,r,.inl ⟨hk,by simp⟩⟩
   ·rw[bN (aW hj)] at e2
    obtain⟨u',r',q⟩:=hl j y v' e1 e2 e3
    refine⟨u',r',?_⟩
    rcases q with ⟨k,e⟩|⟨k,c,e,z⟩
    ·refine .inl ⟨k,?_⟩
     have:y≠x:=fun e=>hj (vZ hN e1 (e▸hi))
     simp[this,e]
    ·exact .inr ⟨k,c,e,z.sameBut hs (cne y c e)⟩
  ·obtain⟨w',z⟩:=I.cell y c e
   exact⟨w',z.sameBut hs (cne y c e)⟩
  ·obtain⟨e,n,ne,nf,d⟩:=I.pin p hp
   exact⟨(hs.2 p.1 ne).trans e,n,ne,nf,d⟩
 ·have hfn:X.fn x=true:=by
   rcases hf with z|z
   ·exact z
   ·rw[z] at hk;cases hk
  obtain⟨c,hc⟩:=I.ok.has x (.inl hk)
  obtain⟨w',z⟩:=I.cell x c hc
  refine wpAny_storeName_cell I.ok.kind hk hc z (fun h' hc' hs=>?_)
  obtain⟨oc,hoc,hocd⟩:=id z
  refine h {s with heap:=h'} ⟨I.ok,I.os,I.bare,⟨fun b o e n hb hx=>?_,fun b o e n hb hx=>?_,I.base.free,fun b o e hx=>?_,I.base.tups,I.base.frzs,I.base.tbls⟩,⟨m,hn.sameBut hs (aW (cne x c hc)),fun j y v' e1 e2 e3=>?_⟩,fun y c' e=>?_,I.free,I.freeC,fun p hp=>?_,tracked ⟨oc,hoc,I.freeC x c hc⟩ hs,by simpa using I.len⟩ ⟨c,hs,.inr hc⟩
  ·exact (hs.2 b (bx (bh (cV e) (I.ok.cab x c hfn hc)))).trans (I.base.keep b o e n hb hx)
  ·obtain⟨sl,e1⟩:=I.base.slot b o e n hb hx
   exact⟨sl,(hs.2 b (bx (bh (cV e) (I.ok.cab x c hfn hc)))).trans e1⟩
  ·obtain⟨o',e1⟩:=I.base.there b o e hx
   exact⟨o',(hs.2 b (bx (bh (cV e) (I.ok.cab x c hfn hc)))).trans e1⟩
  ·by_cases hj:j=i
   ·subst hj
    rw[hi] at e1;cases e1
    rw[ak hiσ] at e2
    cases e2
    exact⟨u,r,.inr ⟨.inl hk,c,hc,hc'⟩⟩
   ·rw[bN (aW hj)] at e2
    obtain⟨u',r',q⟩:=hl j y v' e1 e2 e3
    refine⟨u',r',?_⟩
    rcases q with q|⟨k,c',e,z'⟩
    ·exact .inl q
    ·refine .inr ⟨k,c',e,z'.sameBut hs ?_⟩
     rintro rfl
     exact hj (vZ hN e1 (I.ok.inj _ _ _ e hc▸hi))
  ·by_cases hcc:c'=c
   ·subst hcc;exact⟨_,hc'⟩
   ·obtain⟨w2,z2⟩:=I.cell y c' e
    exact⟨w2,z2.sameBut hs hcc⟩
  ·obtain⟨e,n,ne,nf,d⟩:=I.pin p hp
   refine⟨(hs.2 p.1 ?_).trans e,n,ne,nf,d⟩
   intro q
   rw[q,hoc] at e
   have q':oc=p.2:=bt e
   exact d w' (by rw[←q'];exact hocd)
theorem vE {M:Model}{A:Around}{E:Value→Shared→Prop}{i:Nat}{x:Str}{v:V}{u:Value}{Q:Unit→Shared→Prop}(I:Inv X pins σ H s)(hN:X.N.Nodup)(hi:X.N[i]?=some x)(hx:Loc X.env.scope x)(r:RelV v u)
  (h:∀s',Inv X pins (σ.set i (some v)) H s'→Q () s') (hf:X.fn x=true∨X.env.scope.names.lookup x=some .local:=by first|exact .inl rfl|exact .inr rfl|assumption):wpAny M A (storeName X.env x u) Q E s:=
 uP I hN hi hx r (fun s' I' _=>h s' I') hf
theorem Inv.call' {s':Shared}{ch:List Addr}(I:Inv X pins σ H s)(ho:s'.os=s.os)(u:Un (frs X.stack) ch H H' s.heap s'.heap)(hok:HOk X.prog X.w H' s'.heap)(hg:AllBare s'.gens)
  (hch:∀b∈ch,(b∈X.ex∨X.s₀.heap.objs.size≤b)∧b≠X.env.locals∧(∀x c,X.env.cells.lookup x=some c→c≠b)∧∀p∈X.pn++pins,p.1≠b):Inv X pins σ H' s':=by
 obtain⟨h',g',d',t',o'⟩:=s'
 have e:o'=s.os:=ho
 subst e
 exact I.call (g':=g') (t':=t') (d':=d') u hok hg hch
end
abbrev XK :=Value→Option Addr→Hp→Prop
abbrev St :=List (Option V)
abbrev VK :=V→Hp→Prop
abbrev TE :=St→Hp→VK→Prop
abbrev TT :=St→Hp→(Bool→Hp→Prop)→Prop
abbrev TA :=St→Hp→(List V→Hp→Prop)→Prop
structure Ends where
 nx:St→Hp→Prop
 rt:VK
 bk:St→Hp→Prop:=fun _ _=>False
 ct:St→Hp→Prop:=fun _ _=>False
abbrev TS :=Ends→St→Hp→Prop
def EP (X:Cx)(pins:List (Addr×Obj))(σ:St)(Q:VK)(u:Value)(s':Shared):Prop:=∃v H',Inv X pins σ H' s'∧RelV v u∧Q v H'
def TP (X:Cx)(pins:List (Addr×Obj))(σ:St)(Q:Bool→Hp→Prop)(b:Bool)(s':Shared):Prop:=∃H',Inv X pins σ H' s'∧Q b H'
def AP (X:Cx)(pins:List (Addr×Obj))(σ:St)(Q:List V→Hp→Prop)(us:List Value)(s':Shared):Prop:=∃vs H',Inv X pins σ H' s'∧Vals vs us∧Q vs H'
def SP (X:Cx)(pins:List (Addr×Obj))(D:Ends)(f:Flow)(s':Shared):Prop:=
 match f with
 |.next=>∃σ' H',Inv X pins σ' H' s'∧D.nx σ' H'
 |.brk=>∃σ' H',Inv X pins σ' H' s'∧D.bk σ' H'
 |.cont=>∃σ' H',Inv X pins σ' H' s'∧D.ct σ' H'
 |.ret u=>∃v σ' H',Inv X pins σ' H' s'∧RelV v u∧D.rt v H'
def PE (X:Cx)(e:Expr)(t:TE):Prop:=
 ∀(pins:List (Addr×Obj)) (s:Shared) (σ:St) (H:Hp) (Q:VK),Inv X pins σ H s→t σ H Q→wpAny (model X.prog X.w) X.A (eval e X.env) (EP X pins σ Q) X.xe s
def PT (X:Cx)(e:Expr)(t:TT):Prop:=
 ∀(pins:List (Addr×Obj)) (s:Shared) (σ:St) (H:Hp) (Q:Bool→Hp→Prop),Inv X pins σ H s→t σ H Q→wpAny (model X.prog X.w) X.A (isTrue e X.env (eval e X.env)) (TP X pins σ Q) X.xe s
def PW (X:Cx)(e:Expr)(t:TT):Prop:=
 ∀(whole:Sem Value) (pins:List (Addr×Obj)) (s:Shared) (σ:St) (H:Hp) (Q:Bool→Hp→Prop),Inv X pins σ H s→t σ H Q→wpAny (model X.prog X.w) X.A (isTrue e X.env whole) (TP X pins σ Q) X.xe s
theorem PW.pt {X:Cx}{e:Expr}{t:TT}(h:PW X e t):PT X e t:=h _
def PA (X:Cx)(es:List Expr)(t:TA):Prop:=
 ∀(pos:Pos) (pins:List (Addr×Obj)) (s:Shared) (σ:St) (H:Hp) (Q:List V→Hp→Prop),Inv X pins σ H s→t σ H Q→wpAny (model X.prog X.w) X.A (spliced (backTo pos (starEach es X.env))) (AP X pins σ Q) X.xe s
def PS (X:Cx)(st:Stmt)(t:TS):Prop:=
 ∀(pins:List (Addr×Obj)) (s:Shared) (σ:St) (H:Hp) (D:Ends),Inv X pins σ H s→t D σ H→wpAny (model X.prog X.w) X.A (exec st X.env) (SP X pins D) X.xe s
def PSs (X:Cx)(st:List Stmt)(t:TS):Prop:=
 ∀(pins:List (Addr×Obj)) (s:Shared) (σ:St) (H:Hp) (D:Ends),Inv X pins σ H s→t D σ H→wpAny (model X.prog X.w) X.A (execs st X.env) (SP X pins D) X.xe s
theorem thn {α:Type}{t:Sem α}{Q Q':α→Shared→Prop}{M:Model}{A:Around}{E:Value→Shared→Prop}{s:Shared}(h:wpAny M A t Q E s)(hQ:∀a s,Q a s→Q' a s):wpAny M A t Q' E s:=bF h hQ fun _ _ x=>x
section
variable {X:Cx}
theorem bin {a b:Expr}{ta tb:TE}(ha:PE X a ta)(hb:PE X b tb){pins:List (Addr×Obj)}{s:Shared}{σ:St}{H:Hp}{R:V→V→Hp→Prop}(I:Inv X pins σ H s)(h:ta σ H fun x H1=>tb σ H1 fun y H2=>R x y H2)
  {α:Type} {Q:α→Shared→Prop} {f:Value→Value→Sem α}
  (hf:∀v u s2 x y H2,Inv X pins σ H2 s2→RelV x v→RelV y u→R x y H2→wpAny (model X.prog X.w) X.A (f v u) Q X.xe s2):
  wpAny (model X.prog X.w) X.A (eval a X.env) (fun v s₁=>wpAny (model X.prog X.w) X.A (eval b X.env) (fun u s₂=>wpAny (model X.prog X.w) X.A (f v u) Q X.xe s₂) X.xe s₁) X.xe s:=by
 refine thn (ha pins s σ H _ I h) fun v s1 ⟨x,H1,I1,r1,q1⟩=>?_
 refine thn (hb pins s1 σ H1 _ I1 q1) fun u s2 ⟨y,H2,I2,r2,q2⟩=>?_
 exact hf v u s2 x y H2 I2 r1 r2 q2
def dI (i:Nat):TE:=fun σ H Q=>∃v,σ[i]?=some (some v)∧Q v H
def tC (v:V):TE:=fun _ H Q=>Q v H
theorem xk {i:Nat}{x:Str}{pos:Pos}(hN:X.N[i]?=some x)(hv:Vis X.env.scope x)(hd:(x == ("__debug__":Str))=false:=by decide)(hcd:(x == ("__classdict__":Str))=false:=by decide):PE X (.Name x pos) (dI i):=by
 intro pins s σ H Q I h
 obtain⟨v,e,h⟩:=h
 obtain⟨m,hn,hl⟩:=I.loc
 obtain⟨u,r,l⟩:=hl i x v hN e hv
 have fin:EP X pins σ Q u s:=⟨v,H,I,r,h⟩
 rcases l with ⟨hk,hm⟩|⟨hk,c,hc,hcell⟩
 ·exact wpAny_Name (wpAny_loadName_local I.ok.kind hk hn hm fin) hd
 ·rcases hk with hk|hk
  ·exact wpAny_Name (wpAny_loadName_cell I.ok.kind hk hc hcell fin) hd
  ·exact wpAny_Name (wpAny_loadName_free I.ok.kind hk hc hcell fin hcd) hd
theorem zf {i j pos}:PE X (.Constant (.int i) j pos) (tC (.int i)):=fun _ _ _ H _ I h=>wpAny_Constant_int ⟨.int i,H,I.tok _,⟨_,rfl⟩,h⟩
theorem vT {j pos}:PE X (.Constant .none j pos) (tC .non):=fun _ _ _ H _ I h=>Constant_none ⟨.non,H,I,rfl,h⟩
theorem zN {x j pos}:PE X (.Constant (.str x) j pos) (tC (.str x)):=fun _ _ _ H _ I h=>Calls.Constant_str ⟨.str x,H,I.tok _,⟨_,rfl⟩,h⟩
def Gl (X:Cx)(x:Str):Prop:=X.env.kindOf x=some .globalImplicit
theorem yw {E:Value→Shared→Prop}{pins:List (Addr×Obj)}{s:Shared}{σ:St}{H:Hp}{x:Str}{u:Value}{pos:Pos}{Q:Value→Shared→Prop}(I:Inv X pins σ H s)(hg:Gl X x)(hm:X.mg x=some u)(h:Q u s)
  (hd:(x == ("__debug__":Str))=false:=by decide):wpAny (model X.prog X.w) X.A (eval (.Name x pos) X.env) Q E s:=
 Calls.Name_function_global I.ok.kind hg (Calls.loadGlobal_global (by rw[I.ok.glob];exact I.mod.glob.keeps I.bk) hm h) hd
theorem wW {E:Value→Shared→Prop}{pins:List (Addr×Obj)}{s:Shared}{σ:St}{H:Hp}{x:Str}{u:Value}{pos:Pos}{Q:Value→Shared→Prop}(I:Inv X pins σ H s)(hg:Gl X x)(hm:X.mg x=none)(hv:bootBuiltins x=some u)(h:Q u s)
  (hn:x≠"__name__":=by decide) (hd:(x == ("__debug__":Str))=false:=by decide):wpAny (model X.prog X.w) X.A (eval (.Name x pos) X.env) Q E s:=by
 obtain⟨mb,h1,h2⟩:=I.mod.blt
 exact Calls.Name_function_global I.ok.kind hg (Calls.loadGlobal_builtin (by rw[I.ok.glob];exact I.mod.glob.keeps I.bk) hm (by rw[I.ok.blt];exact h1.keeps I.bk) ((h2 x hn).trans hv) h) hd
theorem xq {x:Str}{v:V}{u:Value}{pos:Pos}(hg:Gl X x)(hm:X.mg x=some u)(r:RelV v u)(hd:(x == ("__debug__":Str))=false:=by decide):PE X (.Name x pos) (tC v):=
 fun _ _ _ H _ I h=>yw I hg hm ⟨v,H,I,r,h⟩ hd
theorem wF {x:Str}{v:V}{u:Value}{pos:Pos}(hg:Gl X x)(hm:X.mg x=none)(hv:bootBuiltins x=some u)(r:RelV v u)(hn:x≠"__name__":=by decide)(hd:(x == ("__debug__":Str))=false:=by decide):PE X (.Name x pos) (tC v):=
 fun _ _ _ H _ I h=>wW I hg hm hv ⟨v,H,I,r,h⟩ hn hd
variable {a b:Expr}{ta tb:TE}{pos:Pos}
def PC (X:Cx)(op:CmpOp)(a b:Expr)(t:TE):Prop:=
 ∀(pins:List (Addr×Obj)) (s:Shared) (σ:St) (H:Hp) (Q:VK),Inv X pins σ H s→t σ H Q→
  wpAny (model X.prog X.w) X.A (eval a X.env) (fun v s₁=>wpAny (model X.prog X.w) X.A (eval b X.env) (fun u s₂=>wpAny (model X.prog X.w) X.A (compareOp op v u) (EP X pins σ Q) X.xe s₂) X.xe s₁) X.xe s
def tB (t:TE):TT:=fun σ H Q=>t σ H fun x H1=>∃c,x=.bl c∧Q c H1
theorem cH {op:CmpOp}{t:TE}(h:PC X op a b t)(h1:behindInMarks op b=false:=by first|exact nobehind _ (by decide) (by decide)|rfl):PT X (.Compare a [op] [b] pos) (tB t):=by
 intro pins s σ H Q I hw
 refine wpAny_isTrue_Compare1 (thn (h pins s σ H _ I hw) fun v s1 h1=>thn h1 fun u s2 h2=>thn h2 fun c s3 ⟨x,H1,I1,r1,q1⟩=>?_) h1
 obtain⟨d,rfl,q⟩:=q1
 cases r1
 exact aC ⟨H1,I1,q⟩
theorem kj {e:Expr}{t:TE}(h:PE X e t)(he:∀whole,isTrue e X.env whole=(do let v ←whole;standAt e.pos;holding [v] (truthy v)):=by intro _;rfl):PT X e (tB t):=by
 intro pins s σ H Q I hw
 refine isTrue_plain (thn (h pins s σ H _ I hw) fun v s1 ⟨x,H1,I1,r1,q1⟩=>?_) (he _)
 obtain⟨d,rfl,q⟩:=q1
 cases r1
 exact aC ⟨H1,I1,q⟩
variable {tA tB':TT}{rest:List Expr}
def cz (t u:TT):TT:=fun σ H Q=>t σ H fun c H1=>if c=true then u σ H1 Q else Q false H1
def tOr (t u:TT):TT:=fun σ H Q=>t σ H fun c H1=>if c=true then Q true H1 else u σ H1 Q
def cE (t:TT):TT:=fun σ H Q=>t σ H fun c H1=>Q (!c) H1
theorem oM (ha:PT X a tA):PW X (.BoolOp .And [a] pos) tA:=by
 intro wh pins s σ H Q I h
 refine isTrue_and (thn (ha pins s σ H Q I h) fun c s1 e=>?_)
 cases c with
 |true=>exact isTrue_and_nil e
 |false=>exact e
theorem qJ (ha:PT X a tA):PW X (.BoolOp .Or [a] pos) tA:=by
 intro wh pins s σ H Q I h
 refine isTrue_or (thn (ha pins s σ H Q I h) fun c s1 e=>?_)
 cases c with
 |false=>exact isTrue_or_nil e
 |true=>exact e
theorem lA (ha:PT X a tA)(hb:PW X (.BoolOp .And (b::rest) pos) tB'):PW X (.BoolOp .And (a::b::rest) pos) (cz tA tB'):=by
 intro wh pins s σ H Q I h
 refine isTrue_and (thn (ha pins s σ H _ I h) fun c s1 ⟨H1,I1,q1⟩=>?_)
 cases c with
 |true=>exact hb wh pins s1 σ H1 Q I1 q1
 |false=>exact⟨H1,I1,q1⟩
theorem kN (ha:PT X a tA)(hb:PW X (.BoolOp .Or (b::rest) pos) tB'):PW X (.BoolOp .Or (a::b::rest) pos) (tOr tA tB'):=by
 intro wh pins s σ H Q I h
 refine isTrue_or (thn (ha pins s σ H _ I h) fun c s1 ⟨H1,I1,q1⟩=>?_)
 cases c with
 |true=>exact⟨H1,I1,q1⟩
 |false=>exact hb wh pins s1 σ H1 Q I1 q1
theorem jv (ha:PT X a tA):PT X (.UnaryOp .Not a pos) (cE tA):=by
 intro pins s σ H Q I h
 exact isTrue_not (ha pins s σ H (fun c H1=>Q (!c) H1) I h)
def eQ (ta tb:TE):TE:=fun σ H Q=>ta σ H fun x H1=>∃c,x=.bl c∧if c=true then tb σ H1 Q else Q (.bl false) H1
def cK (ta tb:TE):TE:=fun σ H Q=>ta σ H fun x H1=>∃c,x=.bl c∧if c=true then Q (.bl true) H1 else tb σ H1 Q
def eO (ta:TE):TE:=fun σ H Q=>ta σ H fun x H1=>∃c,x=.bl c∧Q (.bl (!c)) H1
theorem yH {op}{t:TE}(h:PE X a t):PE X (.BoolOp op [a] pos) t:=fun pins s σ H Q I hw=>BoolOp_one (h pins s σ H Q I hw)
theorem yq (ha:PE X a ta)(hb:PE X (.BoolOp .And (b::rest) pos) tb):PE X (.BoolOp .And (a::b::rest) pos) (eQ ta tb):=by
 intro pins s σ H Q I h
 refine BoolOp_and (thn (ha pins s σ H _ I h) fun v s1 ⟨x,H1,I1,r1,q1⟩=>?_)
 obtain⟨c,rfl,q1⟩:=q1
 cases r1
 refine aC ?_
 cases c with
 |true=>exact hb pins s1 σ H1 Q I1 q1
 |false=>exact⟨.bl false,H1,I1,rfl,q1⟩
theorem iT (ha:PE X a ta)(hb:PE X (.BoolOp .Or (b::rest) pos) tb):PE X (.BoolOp .Or (a::b::rest) pos) (cK ta tb):=by
 intro pins s σ H Q I h
 refine BoolOp_or (thn (ha pins s σ H _ I h) fun v s1 ⟨x,H1,I1,r1,q1⟩=>?_)
 obtain⟨c,rfl,q1⟩:=q1
 cases r1
 refine aC ?_
 cases c with
 |false=>exact hb pins s1 σ H1 Q I1 q1
 |true=>exact⟨.bl true,H1,I1,rfl,q1⟩
theorem gR (ha:PE X a ta):PE X (.UnaryOp .Not a pos) (eO ta):=by
 intro pins s σ H Q I h
 refine UnaryOp_ (thn (ha pins s σ H _ I h) fun v s1 ⟨x,H1,I1,r1,q1⟩=>?_)
 obtain⟨c,rfl,q1⟩:=q1
 cases r1
 exact not_of (aC ⟨.bl (!c),H1,I1,rfl,q1⟩)
def tIf (t:TT)(ta tb:TE):TE:=fun σ H Q=>t σ H fun c H1=>if c=true then ta σ H1 Q else tb σ H1 Q
theorem lY {c:Expr}(hc:PT X c tA)(ha:PE X a ta)(hb:PE X b tb):PE X (.IfExp c a b pos) (tIf tA ta tb):=by
 intro pins s σ H Q I h
 refine wpAny_IfExp (thn (hc pins s σ H _ I h) fun d s1 ⟨H1,I1,q1⟩=>?_)
 cases d with
 |true=>exact ha pins s1 σ H1 Q I1 q1
 |false=>exact hb pins s1 σ H1 Q I1 q1
end
def SqL (K:PySem.W.Frag)(H:Hp)(a:Addr)(xs:List V):Prop:=
 Rd H a (.lst xs)∨
  ∃(o:Obj) (its:Array Value) (n:Nat),K.lookup a=some o∧o.cls=.type "list"∧o.dict=none∧o.data=.seq its n∧its.size≤sizeLine∧Vals xs its.toList
def SqT (K:PySem.W.Frag)(H:Hp)(a:Addr)(xs:List V):Prop:=
 Rd H a (.tup xs)∨
  ∃(o:Obj) (its:Array Value) (n:Nat),K.lookup a=some o∧o.cls=.type "tuple"∧o.data=.seq its n∧its.size≤sizeLine∧Vals xs its.toList
def cM :Value→Option V
 |.none=>some .non
 |.bool b=>some (.bl b)
 |.int i _=>some (.int i)
 |.str x _=>some (.str x)
 |.bytes b _=>some (.byt b)
 |.float b _=>some (.flt b)
 |.ref a=>some (.ref a)
 |.type n=>some (.ty n)
 |_=>none
theorem RelV.abs {x:V}{u:Value}(r:RelV x u):cM u=some x:=by
 cases x with
 |non=>cases r;rfl
 |bl _=>cases r;rfl
 |int _=>obtain⟨t,rfl⟩:=r;rfl
 |str _=>obtain⟨t,rfl⟩:=r;rfl
 |byt _=>obtain⟨t,rfl⟩:=r;rfl
 |flt _=>obtain⟨t,rfl⟩:=r;rfl
 |ref _=>cases r;rfl
 |ty _=>cases r;rfl
theorem RelV.inj {x y:V}{u:Value}(r:RelV x u)(q:RelV y u):x=y:=bt (r.abs.symm.trans q.abs)
theorem Vals.inj :∀{xs ys:List V} {us:List Value},Vals xs us→Vals ys us→xs=ys
 |_,_,_,.nil,.nil=>rfl
 |_,_,_,.cons r t,.cons r' t'=>by rw[r.inj r',Vals.inj t t']
section
variable {X:Cx}{pins:List (Addr×Obj)}{σ:St}{H:Hp}{s:Shared}{a:Addr}{xs ys:List V}
theorem SqL.of {K:PySem.W.Frag}(h:H a=some (.lst xs)):SqL K H a xs:=.inl (.inl h)
theorem SqT.of {K:PySem.W.Frag}(h:H a=some (.tup xs)):SqT K H a xs:=.inl (.inl h)
theorem Inv.list (I:Inv X pins σ H s)(h:SqL X.K H a xs):∃its:List Value,Vals xs its∧PlainL s.heap a its.toArray∧xs.length≤sizeLine:=by
 rcases h with h|⟨o,its,n,hk,hc,hd,hs,hz,r⟩
 ·obtain⟨z,its,n,r,e⟩:=h.ok I.hok
  exact⟨its,r,⟨_,n,e,rfl,rfl,rfl⟩,z⟩
 ·refine⟨its.toList,r,⟨o,n,I.kIn a o hk,hc,hd,by simpa using hs⟩,?_⟩
  have e:=r.length
  simp only[Array.length_toList] at e
  omega
theorem Inv.tuple (I:Inv X pins σ H s)(h:SqT X.K H a xs):∃its:List Value,Vals xs its∧IsTup s.heap a its.toArray∧xs.length≤sizeLine:=by
 rcases h with h|⟨o,its,n,hk,hc,hs,hz,r⟩
 ·obtain⟨z,its,r,p⟩:=h.ok I.hok
  exact⟨its,r,p,z⟩
 ·refine⟨its.toList,r,⟨o,I.kIn a o hk,hc,n,by simpa using hs⟩,?_⟩
  have e:=r.length
  simp only[Array.length_toList] at e
  omega
theorem Inv.list_inj (I:Inv X pins σ H s)(h:SqL X.K H a xs)(h':SqL X.K H a ys):xs=ys:=by
 obtain⟨its,r,⟨o,n,e,_,_,d⟩,_⟩:=I.list h
 obtain⟨its',r',⟨o',n',e',_,_,d'⟩,_⟩:=I.list h'
 rw[e] at e';cases e'
 rw[d] at d'
 injection d' with d1 _
 have:its=its':=by simpa using congrArg Array.toList d1
 subst this
 exact r.inj r'
end
abbrev Cx.wish (X:Cx)(E:Value→Shared→Prop):Cx:={X with xe:=E}
abbrev Cx.nox (X:Cx):Cx:=X.wish fun _ _=>False
theorem Cx.Ok.wish {X:Cx}(ok:X.Ok)(E:Value→Shared→Prop):(X.wish E).Ok:=
 ⟨ok.mod,ok.kind,ok.glob,ok.blt,ok.above,ok.inj,ok.has,ok.cab,ok.hd,ok.frames,ok.stk,ok.exf,ok.bs,ok.bsz,ok.noex,ok.exfs,ok.funs,ok.frf⟩
theorem Cx.Ok.unwish {X:Cx}{E:Value→Shared→Prop}(ok:(X.wish E).Ok):X.Ok:=
 ⟨ok.mod,ok.kind,ok.glob,ok.blt,ok.above,ok.inj,ok.has,ok.cab,ok.hd,ok.frames,ok.stk,ok.exf,ok.bs,ok.bsz,ok.noex,ok.exfs,ok.funs,ok.frf⟩
section
variable {X:Cx}{pins:List (Addr×Obj)}{σ:St}{H:Hp}{s:Shared}{E:Value→Shared→Prop}
theorem Inv.wish (I:Inv X pins σ H s)(E:Value→Shared→Prop):Inv (X.wish E) pins σ H s:=⟨I.ok.wish E,I.os,I.bare,I.base,I.loc,I.cell,I.free,I.freeC,I.pin,I.hok,I.len⟩
theorem Inv.unwish (I:Inv (X.wish E) pins σ H s):Inv X pins σ H s:=⟨I.ok.unwish,I.os,I.bare,I.base,I.loc,I.cell,I.free,I.freeC,I.pin,I.hok,I.len⟩
theorem SP.unwish {D:Ends}{f:Flow}{s':Shared}(h:SP (X.wish E) pins D f s'):SP X pins D f s':=by
 cases f with
 |next=>obtain⟨σ',H',I,q⟩:=h;exact⟨σ',H',I.unwish,q⟩
 |brk=>obtain⟨σ',H',I,q⟩:=h;exact⟨σ',H',I.unwish,q⟩
 |cont=>obtain⟨σ',H',I,q⟩:=h;exact⟨σ',H',I.unwish,q⟩
 |ret u=>obtain⟨v,σ',H',I,r,q⟩:=h;exact⟨v,σ',H',I.unwish,r,q⟩
theorem PSs.nox {st:List Stmt}{t:TS}(h:PSs X.nox st t):PSs X st t:=fun pins s σ H D I hw=>
 bF (h pins s σ H D (I.wish _) hw) (fun _ _ q=>q.unwish) fun _ _ z=>False.elim z
end
section
variable {X:Cx}{st:Stmt}{rest:List Stmt}{t u:TS}{e:Expr}{te:TE}{pos:Pos}
def eW :TS:=fun D σ H=>D.nx σ H
def dP (t u:TS):TS:=fun D σ H=>t {D with nx:=u D} σ H
theorem yc :PSs X [] eW:=fun _ _ σ H _ I h=>za6 ⟨σ,H,I,h⟩
theorem zz (h1:PS X st t)(h2:PSs X rest u):PSs X (st::rest) (dP t u):=by
 intro pins s σ H D I h
 refine wpAny_execs_cons (thn (h1 pins s σ H {D with nx:=u D} I h) fun f s1 q=>?_)
 cases f with
 |next=>
  obtain⟨σ',H',I',q⟩:=q
  exact h2 pins s1 σ' H' D I' q
 |ret v=>exact q
 |brk=>exact q
 |cont=>exact q
theorem zl (h1:PS X st t):PSs X [st] t:=by
 intro pins s σ H D I h
 refine wpAny_execs_cons (thn (h1 pins s σ H D I h) fun f s1 q=>?_)
 cases f with
 |next=>exact za6 q
 |ret v=>exact q
 |brk=>exact q
 |cont=>exact q
theorem Inv.quiet {pins:List (Addr×Obj)}{σ:St}{H:Hp}{s:Shared}(I:Inv X pins σ H s):interactive X.env=false:=by simp[interactive,I.ok.kind]
def eU (te:TE):TS:=fun D σ H=>te σ H fun _ H1=>D.nx σ H1
theorem sf (he:PE X e te)(hs:swapsWith e none pos.line X.env=pure false:=by rfl):PS X (.Expr e pos) (eU te):=by
 intro pins s σ H D I h
 exact wpAny_Expr_any (thn (he pins s σ H _ I h) fun v s1 ⟨x,H1,I1,r1,q1⟩=>⟨σ,H1,I1,q1⟩) I.quiet hs
def cm (te:TE):TS:=fun D σ H=>te σ H D.rt
theorem zq (he:PE X e te):PS X (.Return (some e) pos) (cm te):=by
 intro pins s σ H D I h
 exact wpAny_Return_some (thn (he pins s σ H _ I h) fun v s1 ⟨x,H1,I1,r1,q1⟩=>⟨x,σ,H1,I1,r1,q1⟩)
def cv (c:TT)(t u:TS):TS:=fun D σ H=>c σ H fun b H1=>if b=true then t D σ H1 else u D σ H1
theorem yN {c:Expr}{a b:List Stmt}{tc:TT}(hc:PT X c tc)(ha:PSs X a t)(hb:PSs X b u):PS X (.If c a b pos) (cv tc t u):=by
 intro pins s σ H D I h
 refine wpAny_If (thn (hc pins s σ H _ I h) fun d s1 ⟨H1,I1,q1⟩=>?_)
 cases d with
 |true=>exact ha pins s1 σ H1 D I1 q1
 |false=>exact hb pins s1 σ H1 D I1 q1
end
abbrev TG :=V→St→Hp→(St→Hp→Prop)→Prop
abbrev TGs :=List V→St→Hp→(St→Hp→Prop)→Prop
def PG (X:Cx)(target:Expr)(t:TG):Prop:=
 ∀(pins:List (Addr×Obj)) (s:Shared) (σ:St) (H:Hp) (v:V) (u:Value) (Q:St→Hp→Prop),Inv X pins σ H s→RelV v u→t v σ H Q→
  wpAny (model X.prog X.w) X.A (assign target X.env u) (fun _ s'=>∃σ' H',Inv X pins σ' H' s'∧Q σ' H') X.xe s
def PGs (X:Cx)(ts:List Expr)(t:TGs):Prop:=
 ∀(pins:List (Addr×Obj)) (s:Shared) (σ:St) (H:Hp) (vs:List V) (us:List Value) (Q:St→Hp→Prop),Inv X pins σ H s→Vals vs us→t vs σ H Q→
  wpAny (model X.prog X.w) X.A (assignInOrder ((assignEach ts X.env).map (·.2)) us) (fun _ s'=>∃σ' H',Inv X pins σ' H' s'∧Q σ' H') X.xe s
abbrev gK :=V→V→V→Hp→(Hp→Prop)→Prop
def dz (X:Cx)(t:gK):Prop:=
 ∀(pins:List (Addr×Obj)) (s:Shared) (σ:St) (H:Hp) (o i v:V) (ov iv u:Value) (Q:Hp→Prop),Inv X pins σ H s→RelV o ov→RelV i iv→RelV v u→t o i v H Q→
  wpAny (model X.prog X.w) X.A (setItem ov iv u) (fun _ s'=>∃H',Inv X pins σ H' s'∧Q H') X.xe s
section
variable {X:Cx}{pos:Pos}
def uI (i:Nat):TG:=fun v σ H Q=>Q (σ.set i (some v)) H
theorem zY {i:Nat}{x:Str}(hN:X.N.Nodup)(hi:X.N[i]?=some x)(hx:Loc X.env.scope x)(hf:X.fn x=true∨X.env.scope.names.lookup x=some .local:=by first|exact .inl rfl|exact .inr rfl|assumption):PG X (.Name x pos) (uI i):=by
 intro pins s σ H v u Q I r h
 exact wpAny_assign_Name (vE I hN hi hx r (fun s' I'=>⟨_,H,I',h⟩) hf)
def eG :TGs:=fun vs σ H Q=>vs=[]∧Q σ H
def gf (t:TG)(u:TGs):TGs:=fun vs σ H Q=>∃v r,vs=v::r∧t v σ H fun σ' H'=>u r σ' H' Q
theorem wq :PGs X [] eG:=by
 intro pins s σ H vs us Q I r h
 obtain⟨e,h⟩:=h
 subst e
 cases r
 exact assignInOrder_nil ⟨σ,H,I,h⟩
theorem yG {e:Expr}{es:List Expr}{t:TG}{u:TGs}(h1:PG X e t)(h2:PGs X es u)
  (hs:(assignEach (e::es) X.env).map (·.2)=assign e X.env::(assignEach es X.env).map (·.2):=by rfl):PGs X (e::es) (gf t u):=by
 intro pins s σ H vs us Q I r h
 obtain⟨v,vr,e1,h⟩:=h
 subst e1
 cases r with
 |cons r rr=>
  rw[hs]
  refine assignInOrder_cons (thn (h1 pins s σ H _ _ _ I r h) fun _ s1 ⟨σ1,H1,I1,q1⟩=>?_)
  exact h2 pins s1 σ1 H1 _ _ Q I1 rr q1
def fb (K:PySem.W.Frag)(n:Nat)(t:TGs):TG:=fun v σ H Q=>∃a xs,v=.ref a∧SqT K H a xs∧xs.length=n∧t xs σ H Q
theorem gP {es:List Expr}{k:Nat}{t:TGs}{n:Nat}(hc:X.calm=true)(h:PGs X es t)
  (hn:(assignEach es X.env).length=n:=by rfl) (hst:(assignEach es X.env).findIdx? (·.1)=none:=by rfl):PG X (.Tuple es k pos) (fb X.K n t):=by
 intro pins s σ H v u Q I r hw
 obtain⟨a,xs,e1,hq,hl,hw⟩:=hw
 subst e1
 cases r
 obtain⟨its,rv,ht,hz⟩:=I.tuple hq
 refine assign_Tuple_tuple (I.ok.hd hc) ht (by simp[hn,←hl,rv.length]) hst fun h' hx=>?_
 have I1:Inv X pins σ H {s with heap:=h'}:=I.kept (t':=s.toks) fun b o e=>hx b o (bx (cV e)) e
 exact h pins _ σ H xs _ Q I1 (by simpa using rv) hw
def cn (to ti:TE)(t:gK):TG:=fun v σ H Q=>to σ H fun o H1=>ti σ H1 fun i H2=>t o i v H2 fun H3=>Q σ H3
theorem my {o i:Expr}{to ti:TE}{t:gK}(ho:PE X o to)(hi:PE X i ti)(hs:dz X t)
  (ha:∀v,assign (.Subscript o i pos) X.env v=(do
   let ov ←holding [v] (eval o X.env)
   let iv ←holding [v,ov] (eval i X.env)
   standAt pos
   holding [v,ov,iv] (setItem ov iv v)
   release [v,ov,iv] []):=by intro _;rfl):PG X (.Subscript o i pos) (cn to ti t):=by
 intro pins s σ H v u Q I r h
 rw[ha]
 refine cQ (aK (thn (ho pins s σ H _ I h) fun ov s1 ⟨x,H1,I1,r1,q1⟩=>?_))
 refine cQ (aK (thn (hi pins s1 σ H1 _ I1 q1) fun iv s2 ⟨y,H2,I2,r2,q2⟩=>?_))
 refine cQ (zb3 (cQ (aK (thn (hs pins s2 σ H2 x y v ov iv u _ I2 r1 r2 r q2) fun _ s3 ⟨H3,I3,q3⟩=>?_))))
 exact wpAny_release ⟨σ,H3,I3,q3⟩
def fA (te:TE)(g:TG):TS:=fun D σ H=>te σ H fun x H1=>g x σ H1 D.nx
theorem kJ {tg e:Expr}{te:TE}{g:TG}(he:PE X e te)(hg:PG X tg g)(hs:swapsWithSole [tg] e pos.line X.env=pure false:=by rfl)(hw:swappedStores [tg] e X.env=pure none:=by rfl)
  (h1:(assignEach [tg] X.env).map (·.2)=[assign tg X.env]:=by rfl):PS X (.Assign [tg] e pos) (fA te g):=by
 intro pins s σ H D I h
 refine wpAny_Assign_stores (thn (he pins s σ H _ I h) fun v s1 ⟨x,H1,I1,r1,q1⟩=>?_) hs hw
 rw[h1]
 exact thn (hg pins s1 σ H1 x v _ I1 r1 q1) fun _ s2 q=>q
theorem xF {i:Nat}{x:Str}{e:Expr}{te:TE}{pos':Pos}(hN:X.N.Nodup)(hi:X.N[i]?=some x)(hx:Loc X.env.scope x)(he:PE X e te)(hs:swapsWith e (some (.Name x pos')) pos.line X.env=pure false:=by rfl)(hf:X.fn x=true∨X.env.scope.names.lookup x=some .local:=by first|exact .inl rfl|exact .inr rfl|assumption):
  PS X (.Assign [.Name x pos'] e pos) (fA te (uI i)):=by
 intro pins s σ H D I h
 refine wpAny_Assign_Name (thn (he pins s σ H _ I h) fun v s1 ⟨y,H1,I1,r1,q1⟩=>?_) hs
 exact vE I1 hN hi hx r1 (fun s2 I2=>⟨_,H1,I2,q1⟩) hf
end
section
variable {X:Cx}{pos:Pos}
def fc (c:TT)(tb:TS):TS:=fun D σ H=>∃W:Nat→St→Hp→Prop,(∃m,W m σ H)∧∀m σ H,W m σ H→
 c σ H fun b H1=>if b=true then ∃N:St→Hp→Prop,(∀σ' H',N σ' H'→∃m',m'<m∧W m' σ' H')∧tb {D with nx:=N,ct:=N,bk:=D.nx} σ H1 else D.nx σ H1
theorem lZ {c:Expr}{body:List Stmt}{tc:TT}{tb:TS}(hp:PassesOwn (model X.prog X.w) X.A X.env X.xe)(hc:PT X c tc)(hb:PSs X body tb):PS X (.While c body [] pos) (fc tc tb):=by
 intro pins s σ H D I h
 obtain⟨W,⟨m0,w0⟩,turn⟩:=h
 refine wpAny_While (codeAny_whileLoop (fun n s'=>∃σ' H',Inv X pins σ' H' s'∧W n σ' H') ?_ m0 ⟨σ,H,I,w0⟩)
 rintro n s1 ⟨σ1,H1,I1,w1⟩
 refine aH hp (thn (hc pins s1 σ1 H1 _ I1 (turn n σ1 H1 w1)) fun b s2 ⟨H2,I2,q2⟩=>?_)
 cases b with
 |true=>
  obtain⟨N,hN,q2⟩:=q2
  rw[if_pos rfl]
  refine aH hp (thn (hb pins s2 σ1 H2 _ I2 q2) fun f s3 q3=>?_)
  cases f with
  |next=>
   obtain⟨σ3,H3,I3,n3⟩:=q3
   obtain⟨m',hm,w3⟩:=hN σ3 H3 n3
   exact⟨m',hm,σ3,H3,I3,w3⟩
  |cont=>
   obtain⟨σ3,H3,I3,n3⟩:=q3
   obtain⟨m',hm,w3⟩:=hN σ3 H3 n3
   exact⟨m',hm,σ3,H3,I3,w3⟩
  |brk=>exact q3
  |ret v=>exact q3
 |false=>
  rw[if_neg cZ]
  exact za6 ⟨σ1,H2,I2,q2⟩
end
structure It where
 go:Nat→Hp→Prop
 yld:Nat→Hp→V→Hp→Prop
 stop:Nat→Hp→Prop
def wL (X:Cx)(pins:List (Addr×Obj))(H:Hp)(b:Addr):Prop:=
 H b=none∧b≠X.env.locals∧b∉X.fs∧(b∈X.ex∨X.s₀.heap.objs.size≤b)∧(∀x c,X.env.cells.lookup x=some c→c≠b)∧∀p∈X.pn++pins,p.1≠b
theorem Inv.fpOk {X:Cx}{pins:List (Addr×Obj)}{σ:St}{H H':Hp}{s:Shared}{b:Addr}(I:Inv X pins σ H s)(hb:s.heap.objs.size≤b)(hn:H' b=none):wL X pins H' b:=by
 refine⟨hn,za9 (bh I.lt hb),I.nofs hb,.inr (ae I.sz hb),fun x c e z=>?_,fun p hp z=>?_⟩
 ·obtain⟨v,q⟩:=I.cell x c e
  exact absurd (bh q.lt (by rw[z];exact hb)) (za3 _)
 ·exact absurd (bh (cV (I.pin p hp).1) (by rw[z];exact hb)) (za3 _)
structure Turn (P:Program)(w:World)(K:PySem.W.Frag)(tg:Expr)(J:It)(fp:List Addr)(it:Addr)(tn:Nat→Heap→Prop):Prop where
 mem:it∈fp
 obj:∀i h,tn i h→∀b∈fp,∃o,h.get? b=some o∧∀v,o.data≠.cell v
 keep:∀i h h',tn i h→(∀b∈fp,∀o,h.get? b=some o→h'.get? b=some o)→tn i h'
 item:∀(X:Cx),X.prog=P→X.w=w→X.K=K→X.calm=true→∀(i:Nat) (pins:List (Addr×Obj)) (s:Shared) (σ:St) (H:Hp) (E:Value→Shared→Prop),Inv X pins σ H s→(∀b∈fp,wL X pins H b)→tn i s.heap→J.go i H→
  wpAny (model P w) X.A (pyNext (.ref it)) (fun r s1=>∃u,r=some u∧
   wpAny (model P w) X.A (letOwnedTupleGo tg (.ref it) u) (fun _ s2=>∃x H',Inv X pins σ H' s2∧RelV x u∧J.yld i H x H'∧tn (i+1) s2.heap∧∀b∈fp,H' b=none) E s1) E s
 done:∀(X:Cx),X.prog=P→X.w=w→X.K=K→X.calm=true→∀(i:Nat) (pins:List (Addr×Obj)) (s:Shared) (σ:St) (H:Hp) (E:Value→Shared→Prop),Inv X pins σ H s→(∀b∈fp,wL X pins H b)→tn i s.heap→J.stop i H→
  wpAny (model P w) X.A (pyNext (.ref it)) (fun r s1=>r=none∧Inv X pins σ H s1) E s
 self:∀(A:Around) (i:Nat) (s:Shared) (Q:Value→Shared→Prop) (E:Value→Shared→Prop),tn i s.heap→Q (.ref it) s→wpAny (model P w) A (pyIter (.ref it)) Q E s
abbrev TI :=St→Hp→(It→Hp→Prop)→Prop
def PIE (X:Cx)(pins:List (Addr×Obj))(σ:St)(tg:Expr)(R:It→Hp→Prop)(itv:Value)(s2:Shared):Prop:=
 ∃(it:Addr) (fp:List Addr) (tn:Nat→Heap→Prop) (J:It) (H':Hp),itv=.ref it∧Inv X pins σ H' s2∧Turn X.prog X.w X.K tg J fp it tn∧tn 0 s2.heap∧(∀b∈fp,wL X pins H' b)∧R J H'
def PI (X:Cx)(tg iter:Expr)(wi:TI):Prop:=
 ∀(pins:List (Addr×Obj)) (s:Shared) (σ:St) (H:Hp) (R:It→Hp→Prop),Inv X pins σ H s→wi σ H R→
  wpAny (model X.prog X.w) X.A (eval iter X.env) (fun v s1=>wpAny (model X.prog X.w) X.A (pyIter v) (PIE X pins σ tg R) X.xe s1) X.xe s
theorem js {M:Model}{A:Around}{E:Value→Shared→Prop}{s:Shared}{tg:Expr}{it:Addr}{u:Value}{o:Obj}{n:String}{vs:Array Value}{Q:Unit→Shared→Prop}(ho:s.heap.get? it=some o)(hc:o.cls=.type n)(hd:o.data=.fields vs)
  (hn:["enumerate","zip","dict_itemiterator","dict_reverseitemiterator","odict_iterator","itertools.zip_longest","itertools.pairwise"].contains n=false) (hQ:Q () s):wpAny M A (letOwnedTupleGo tg (.ref it) u) Q E s:=by
 unfold letOwnedTupleGo
 cases tg<;>first
  |exact bc hQ
  |(cases u<;>first
    |exact bc hQ
    |(refine cQ (wpAny_load ho ?_)
      rw[hc,hd]
      show wpAny M A (if (["enumerate","zip","dict_itemiterator","dict_reverseitemiterator","odict_iterator","itertools.zip_longest","itertools.pairwise"].contains n&&vs[0]? == some (rawInt _))=true then _ else _) Q E s
      rw[if_neg (by intro h;rw[hn,aw] at h;cases h)]
      exact bc hQ))
def Itl (K:PySem.W.Frag)(a:Addr):It:=
 ⟨fun i H=>∃xs x,SqL K H a xs∧xs[i]?=some x,fun i H x H'=>H'=H∧∀xs,SqL K H a xs→xs[i]?=some x,fun i H=>∃xs,SqL K H a xs∧xs.length≤i⟩
def Itr (lo:Int)(n:Nat):It:=⟨fun i _=>i<n,fun i H x H'=>H'=H∧x=.int (lo+i),fun i _=>n≤i⟩
theorem ma {P:Program}{w:World}{K:PySem.W.Frag}{tg:Expr}(a it:Addr):Turn P w K tg (Itl K a) [it] it (fun i h=>h.IsListIter it a i) where
 mem:=by simp
 obj:=fun i h st b hb=>by
  have e:b=it:=by simpa using hb
  subst e
  obtain⟨o,e,c,d⟩:=st
  exact⟨o,e,fun v z=>by rw[d] at z;cases z⟩
 keep:=fun i h h' st k=>st.at fun o e=>k it (by simp) o e
 item:=by
  intro X hP hw hK hc i pins s σ H E I hf st hg
  subst hP hw hK
  obtain⟨xs,x,hq,hx⟩:=hg
  obtain⟨its,rv,p,hz⟩:=I.list hq
  obtain⟨u,hu,ru⟩:=rv.get hx
  obtain⟨f0,f1,f2,f3,f4,f5⟩:=hf it (by simp)
  refine wpAny_pyNext_list_item st p.isList (x:=u) (by simpa using hu) fun h' st' sb=>?_
  have I1:Inv X pins σ H {s with heap:=h'}:=I.turned (t':=s.toks) (fun b o hb e=>(sb.2 b hb).trans e) f0 f1 f3 f4 f5
  obtain⟨o,e,c,d⟩:=id st'
  exact⟨u,rfl,js (s:={s with heap:=h'}) e c d (by decide) ⟨x,H,I1,ru,⟨rfl,fun ys hy=>by rw[I.list_inj hy hq];exact hx⟩,st',fun b hb=>(hf b hb).1⟩⟩
 done:=by
  intro X hP hw hK hc i pins s σ H E I hf st hg
  subst hP hw hK
  obtain⟨xs,hq,hx⟩:=hg
  obtain⟨its,rv,p,hz⟩:=I.list hq
  obtain⟨f0,f1,f2,f3,f4,f5⟩:=hf it (by simp)
  have hl:=rv.length
  exact wpAny_pyNext_list_end (I.ok.hd hc) st p.isList (by simp;omega) fun h' eb=>⟨rfl,I.turned (t':=s.toks) (fun b o hb e=>eb b o hb e) f0 f1 f3 f4 f5⟩
 self:=fun _ _ _ _ _ st h=>wpAny_pyIter_listiter st h
theorem qV {P:Program}{w:World}{K:PySem.W.Frag}{tg:Expr}(it:Addr)(lo:Int)(n:Nat):Turn P w K tg (Itr lo n) [it] it (fun i h=>IsRangeIter h it (lo+(i:Nat)*1) ((n:Int)-(i:Nat)) 1) where
 mem:=by simp
 obj:=fun i h st b hb=>by
  have e:b=it:=by simpa using hb
  subst e
  exact⟨_,st,fun v z=>by
   have z':Data.fields _=Data.cell v:=z
   cases z'⟩
 keep:=fun i h h' st k=>k it (by simp) _ st
 item:=by
  intro X hP hw hK hc i pins s σ H E I hf st hg
  subst hP hw hK
  obtain⟨f0,f1,f2,f3,f4,f5⟩:=hf it (by simp)
  have W:=Walks.range (prog:=X.prog) (w:=X.w) (I.ok.hd hc) it lo 1 n
  refine W.item i s _ _ hg st fun v h' tk hv st' kk=>?_
  obtain⟨t,rfl⟩:=hv
  have I1:Inv X pins σ H {s with heap:=h',toks:=tk}:=I.turned (fun b o hb e=>kk b o (by simpa using hb) e) f0 f1 f3 f4 f5
  refine⟨_,rfl,js (s:={s with heap:=h',toks:=tk}) (n:="range_iterator") st' rfl rfl (by decide) ⟨.int (lo+i),H,I1,⟨t,?_⟩,⟨rfl,rfl⟩,st',fun b hb=>(hf b hb).1⟩⟩
  rw[Int.mul_one]
 done:=by
  intro X hP hw hK hc i pins s σ H E I hf st hg
  subst hP hw hK
  obtain⟨f0,f1,f2,f3,f4,f5⟩:=hf it (by simp)
  exact wpAny_pyNext_range_end (I.ok.hd hc) st (by have:n≤i:=hg;omega) fun h' eb=>⟨rfl,I.turned (t':=s.toks) (fun b o hb e=>eb b o hb e) f0 f1 f3 f4 f5⟩
 self:=fun _ _ _ _ _ st h=>wpAny_pyIter_rangeiter st h
section
variable {X:Cx}{tg:Expr}
def eL (K:PySem.W.Frag)(tl:TE):TI:=fun σ H R=>tl σ H fun x H1=>∃a,x=.ref a∧(∃xs,SqL K H1 a xs)∧R (Itl K a) H1
theorem pS {l:Expr}{tl:TE}(hl:PE X l tl):PI X tg l (eL X.K tl):=by
 intro pins s σ H R I h
 refine thn (hl pins s σ H _ I h) fun v s1 ⟨x,H1,I1,r1,q1⟩=>?_
 obtain⟨a,e,⟨xs,hq⟩,q⟩:=q1
 subst e
 cases r1
 obtain⟨its,rv,p,hz⟩:=I1.list hq
 refine wpAny_pyIter_list p.isList ?_
 refine⟨s1.heap.objs.size,[s1.heap.objs.size],_,_,H1,rfl,I1.kept (t':=s1.toks) fun b o e=>cS _ e,ma a _,⟨_,bK _ rfl,rfl,rfl⟩,fun b hb=>?_,q⟩
 have e:b=s1.heap.objs.size:=by simpa using hb
 subst e
 exact I1.fpOk (cU _) (I1.hok.fresh (cU _))
theorem mz {pins:List (Addr×Obj)}{σ:St}{H:Hp}{s:Shared}{R:It→Hp→Prop}{E:Value→Shared→Prop}{lo hi:Int}{t u v:Tok}{tk:Nat}(I:Inv X pins σ H s)(h1:-(2 ^ 62)≤lo)(h2:lo<2 ^ 62)(h3:-(2 ^ 62)≤hi)(h4:hi<2 ^ 62)
  (q:R (Itr lo (hi-lo).toNat) H):wpAny (model X.prog X.w) X.A (pyIter (.ref s.heap.objs.size)) (PIE X pins σ tg R) E {s with heap:=s.heap.push {cls:=.type "range",data:=.fields #[.int lo t,.int hi u,.int 1 v]},toks:=tk}:=by
 refine wpAny_pyIter_range (IsRange.new ..) (small_one h1 h2 h3 h4) ?_
 have I1:Inv X pins σ H {s with heap:=s.heap.push {cls:=.type "range",data:=.fields #[.int lo t,.int hi u,.int 1 v]},toks:=tk}:=I.kept fun b o e=>cS _ e
 refine⟨(s.heap.push {cls:=.type "range",data:=.fields #[.int lo t,.int hi u,.int 1 v]}).objs.size,[(s.heap.push {cls:=.type "range",data:=.fields #[.int lo t,.int hi u,.int 1 v]}).objs.size],_,_,H,rfl,
  I1.kept (t':=tk) fun b o e=>cS _ e,qV _ lo (hi-lo).toNat,?_,fun b hb=>?_,q⟩
 ·have e1:lo+((0:Nat):Int)*1=lo:=by simp
  have e2:(((hi-lo).toNat:Nat):Int)-((0:Nat):Int)=Builtin.Range.rangeSize lo hi 1:=by rw[rangeSize_one];split<;>omega
  show IsRangeIter _ _ (lo+((0:Nat):Int)*1) ((((hi-lo).toNat:Nat):Int)-((0:Nat):Int)) 1
  rw[e1,e2]
  exact bK _ rfl
 ·have e:b=(s.heap.push {cls:=.type "range",data:=.fields #[.int lo t,.int hi u,.int 1 v]}).objs.size:=by simpa using hb
  subst e
  exact I1.fpOk (cU _) (I1.hok.fresh (cU _))
def dQ (ta:TA):TI:=fun σ H R=>ta σ H fun vs H1=>∃j:Int,vs=[.int j]∧-(2 ^ 62)≤j∧j<2 ^ 62∧R (Itr 0 j.toNat) H1
theorem ng {a:Expr}{ta:TA}{p pos:Pos}(hg:Gl X "range")(hm:X.mg "range"=none)(ha:PA X [a] ta)(hs:starEach [a] X.env=[(false,eval a X.env)]:=by rfl):PI X tg (.Call (.Name "range" p) [a] [] pos) (dQ ta):=by
 intro pins s σ H R I h
 refine Call_ (wW I hg hm boot_range (aF (thn (ha pos pins s σ H _ I h) fun us s1 ⟨vs,H1,I1,r1,q1⟩=>?_) hs rfl))
 obtain⟨j,e,q1,q2,q⟩:=q1
 subst e
 cases r1 with
 |cons r rr=>
  cases rr
  obtain⟨t,rfl⟩:=r
  exact call_range_1 (mz I1 (by omega) (by omega) q1 q2 (by simpa using q))
def dY (wi:TI)(g:TG)(tb:TS):TS:=fun D σ H=>wi σ H fun J H1=>∃W:Nat→Nat→St→Hp→Prop,(∃m,W 0 m σ H1)∧∀i m σ H,W i m σ H→
 (J.stop i H∧D.nx σ H)∨(J.go i H∧∃N:St→Hp→Prop,(∀σ' H',N σ' H'→∃m',m'<m∧W (i+1) m' σ' H')∧∀x H',J.yld i H x H'→g x σ H' fun σ2 H2=>tb {D with nx:=N,ct:=N,bk:=D.nx} σ2 H2)
def vW (fp:List Addr)(h:Heap):List (Addr×Obj):=fp.filterMap fun b=>(h.get? b).map fun o=>(b,o)
theorem xg {fp:List Addr}{h:Heap}{b:Addr}{o:Obj}(hb:b∈fp)(e:h.get? b=some o):(b,o)∈vW fp h:=List.mem_filterMap.mpr ⟨b,hb,by rw[e];rfl⟩
theorem nu {fp:List Addr}{h:Heap}{p:Addr×Obj}(hp:p∈vW fp h):p.1∈fp∧h.get? p.1=some p.2:=by
 obtain⟨b,hb,e⟩:=List.mem_filterMap.mp hp
 cases q:h.get? b with
 |none=>rw[q] at e;cases e
 |some o=>
  rw[q] at e
  have e':(b,o)=p:=bt e
  subst e'
  exact⟨hb,q⟩
theorem Inv.pinned {pins:List (Addr×Obj)}{σ:St}{H:Hp}{s:Shared}{fp:List Addr}(I:Inv X pins σ H s)(hf:∀b∈fp,wL X pins H b)(ho:∀b∈fp,∃o,s.heap.get? b=some o∧∀v,o.data≠.cell v):Inv X (pins++vW fp s.heap) σ H s:=
 I.pins_of fun p hp=>(ai.mp hp).elim (fun z=>I.pin p (bJ _ z)) fun z=>by
  obtain⟨hb,e⟩:=nu z
  obtain⟨f0,f1,f2,_⟩:=hf p.1 hb
  obtain⟨o,e',d⟩:=ho p.1 hb
  rw[e] at e';cases e'
  exact⟨e,f0,f1,f2,d⟩
theorem Inv.unpinned {pins pl:List (Addr×Obj)}{σ:St}{H:Hp}{s:Shared}(I:Inv X (pins++pl) σ H s):Inv X pins σ H s:=I.pins_of fun p hp=>I.pin p (bJ _ (zb9 _ hp))
theorem fV {iter:Expr}{body:List Stmt}{wi:TI}{g:TG}{tb:TS}{pos:Pos}(hp:PassesOwn (model X.prog X.w) X.A X.env X.xe)(hc:X.calm=true)(hi:PI X tg iter wi)(hg:PG X tg g)(hb:PSs X body tb)
  (hs:∀x,foldedSetIterable iter X.env x=pure x:=by intro _;rfl):PS X (.For tg iter body [] pos) (dY wi g tb):=by
 intro pins s σ H D I h
 refine wpAny_For (thn (hi pins s σ H _ I h) fun v s1 h1=>thn h1 fun itv s2 h2=>?_) hs
 obtain⟨it,fp,tn,J,H2,e,I2,T,st2,f2,W,⟨m0,w0⟩,turn⟩:=h2
 subst e
 -- what stays true of the iterator's objects through the loop
 have stat:∀{H':Hp},(∀b∈fp,H' b=none)→∀b∈fp,wL X pins H' b:=fun hn b hb=>⟨hn b hb,(f2 b hb).2⟩
 refine codeAny_forLoop_any (fun n s'=>∃i σ' H',Inv X pins σ' H' s'∧tn i s'.heap∧(∀b∈fp,H' b=none)∧W i n σ' H') ?_ m0 ⟨0,σ,H2,I2,st2,fun b hb=>(f2 b hb).1,w0⟩
 rintro n s3 ⟨i,σ3,H3,I3,st3,fr3,w3⟩
 rcases turn i n σ3 H3 w3 with ⟨stop,qn⟩|⟨go,N,hN,step⟩
 ·refine aH hp (thn (T.done X rfl rfl rfl hc i pins s3 σ3 H3 X.xe I3 (stat fr3) st3 stop) fun r s4 ⟨hr,I4⟩=>?_)
  subst hr
  exact za6 ⟨σ3,H3,I4,qn⟩
 ·refine aH hp (thn (T.item X rfl rfl rfl hc i pins s3 σ3 H3 X.xe I3 (stat fr3) st3 go) fun r s4 ⟨u,hr,h4⟩=>?_)
  subst hr
  refine aH hp (thn h4 fun _ s5 ⟨x,H5,I5,r5,y5,st5,fr5⟩=>?_)
  have I5':=I5.pinned (stat fr5) (T.obj _ _ st5)
  refine aH hp (thn (hg _ s5 σ3 H5 x u _ I5' r5 (step x H5 y5)) fun _ s6 ⟨σ6,H6,I6,q6⟩=>?_)
  refine aH hp (thn (hb _ s6 σ6 H6 _ I6 q6) fun f s7 q7=>?_)
  have again:∀{σ7:St} {H7:Hp},Inv X (pins++vW fp s5.heap) σ7 H7 s7→N σ7 H7→∃m,m<n∧∃i σ' H',Inv X pins σ' H' s7∧tn i s7.heap∧(∀b∈fp,H' b=none)∧W i m σ' H':=fun {σ7 H7} I7 n7=>by
   obtain⟨m',hm,w7⟩:=hN σ7 H7 n7
   refine⟨m',hm,i+1,σ7,H7,I7.unpinned,T.keep _ _ _ st5 fun b hb o e=>(I7.pin (b,o) (bJ _ (bJ _ (xg hb e)))).1,fun b hb=>?_,w7⟩
   obtain⟨o,e,d⟩:=T.obj _ _ st5 b hb
   exact (I7.pin (b,o) (bJ _ (bJ _ (xg hb e)))).2.1
  cases f with
  |next=>obtain⟨σ7,H7,I7,n7⟩:=q7;exact again I7 n7
  |cont=>obtain⟨σ7,H7,I7,n7⟩:=q7;exact again I7 n7
  |brk=>obtain⟨σ7,H7,I7,q7⟩:=q7;exact⟨σ7,H7,I7.unpinned,q7⟩
  |ret v=>obtain⟨x7,σ7,H7,I7,r7,q7⟩:=q7;exact⟨x7,σ7,H7,I7.unpinned,r7,q7⟩
end
abbrev R2 :=V→V→Hp→VK→Prop
def OpR (X:Cx)(f:Value→Value→Sem Value)(r:R2):Prop:=
 ∀(pins:List (Addr×Obj)) (s:Shared) (σ:St) (H:Hp) (x y:V) (v u:Value) (Q:VK),Inv X pins σ H s→RelV x v→RelV y u→r x y H Q→
  wpAny (model X.prog X.w) X.A (f v u) (EP X pins σ Q) X.xe s
def UnR (X:Cx)(f:Value→Sem Value)(r:V→Hp→VK→Prop):Prop:=
 ∀(pins:List (Addr×Obj)) (s:Shared) (σ:St) (H:Hp) (x:V) (v:Value) (Q:VK),Inv X pins σ H s→RelV x v→r x H Q→
  wpAny (model X.prog X.w) X.A (f v) (EP X pins σ Q) X.xe s
def yX (X:Cx)(f:Value)(r:List V→Hp→VK→Prop):Prop:=
 ∀(pins:List (Addr×Obj)) (s:Shared) (σ:St) (H:Hp) (xs:List V) (us:List Value) (Q:VK),Inv X pins σ H s→Vals xs us→r xs H Q→
  wpAny (model X.prog X.w) X.A (call f us) (EP X pins σ Q) X.xe s
def tOp (r:R2)(ta tb:TE):TE:=fun σ H Q=>ta σ H fun x H1=>tb σ H1 fun y H2=>r x y H2 Q
def tUn (r:V→Hp→VK→Prop)(ta:TE):TE:=fun σ H Q=>ta σ H fun x H1=>r x H1 Q
def rI (C:Int→Int→Prop)(g:Int→Int→V):R2:=fun x y H Q=>∃i j,x=.int i∧y=.int j∧C i j∧Q (g i j) H
def rI0 (g:Int→Int→V):R2:=fun x y H Q=>∃i j,x=.int i∧y=.int j∧Q (g i j) H
def rU (g:Int→V):V→Hp→VK→Prop:=fun x H Q=>∃i,x=.int i∧Q (g i) H
section
variable {X:Cx}{a b c:Expr}{ta tb tc:TE}{pos:Pos}
theorem gF (ha:PE X a ta)(hb:PE X b tb){pins:List (Addr×Obj)}{s:Shared}{σ:St}{H:Hp}{R:V→V→Hp→Prop}(I:Inv X pins σ H s)
  (h:ta σ H fun x H1=>tb σ H1 fun y H2=>R x y H2) {Q:Value→Shared→Prop} {f:Value→Value→Sem Value}
  (hf:∀v u s2 x y H2,Inv X pins σ H2 s2→RelV x v→RelV y u→R x y H2→wpAny (model X.prog X.w) X.A (f v u) Q X.xe s2):
  wpAny (model X.prog X.w) X.A (eval a X.env) (fun v s₁=>wpAny (model X.prog X.w) X.A (eval b X.env) (fun u s₂=>wpAny (model X.prog X.w) X.A (f v u) Q X.xe s₂) X.xe s₁) X.xe s:=by
 refine thn (ha pins s σ H _ I h) fun v s1 ⟨x,H1,I1,r1,q1⟩=>?_
 refine thn (hb pins s1 σ H1 _ I1 q1) fun u s2 ⟨y,H2,I2,r2,q2⟩=>?_
 exact hf v u s2 x y H2 I2 r1 r2 q2
theorem ya {op:Operator}{r:R2}(ho:OpR X (binaryOp op) r)(ha:PE X a ta)(hb:PE X b tb):PE X (.BinOp a op b pos) (tOp r ta tb):=by
 intro pins s σ H Q I h
 exact wpAny_BinOp (gF ha hb I h fun v u s2 x y H2 I2 rx ry q=>ho pins s2 σ H2 x y v u Q I2 rx ry q)
theorem de {op:UnaryOp}{r:V→Hp→VK→Prop}(ho:UnR X (unaryOp op) r)(ha:PE X a ta):PE X (.UnaryOp op a pos) (tUn r ta):=by
 intro pins s σ H Q I h
 exact UnaryOp_ (thn (ha pins s σ H _ I h) fun v s1 ⟨x,H1,I1,r1,q1⟩=>ho pins s1 σ H1 x v Q I1 r1 q1)
theorem opI {f:Value→Value→Sem Value}{C:Int→Int→Prop}{g:Int→Int→Int}
  (rule:∀(i j:Int) (t u:Tok) (s:Shared) (Q:Value→Shared→Prop) (E:Value→Shared→Prop),C i j→Q (.int (g i j) s.toks) {s with toks:=s.toks+1}→wpAny (model X.prog X.w) X.A (f (.int i t) (.int j u)) Q E s):
  OpR X f (rI C fun i j=>.int (g i j)):=by
 intro pins s σ H x y v u Q I rx ry h
 obtain⟨i,j,rfl,rfl,hc,q⟩:=h
 obtain⟨t,rfl⟩:=rx
 obtain⟨t',rfl⟩:=ry
 exact rule i j t t' s _ _ hc ⟨.int (g i j),H,I.tok _,⟨_,rfl⟩,q⟩
theorem dD {f:Value→Value→Sem Value}{g:Int→Int→Int}
  (rule:∀(i j:Int) (t u:Tok) (s:Shared) (Q:Value→Shared→Prop) (E:Value→Shared→Prop),Q (.int (g i j) s.toks) {s with toks:=s.toks+1}→wpAny (model X.prog X.w) X.A (f (.int i t) (.int j u)) Q E s):
  OpR X f (rI0 fun i j=>.int (g i j)):=by
 intro pins s σ H x y v u Q I rx ry h
 obtain⟨i,j,rfl,rfl,q⟩:=h
 obtain⟨t,rfl⟩:=rx
 obtain⟨t',rfl⟩:=ry
 exact rule i j t t' s _ _ ⟨.int (g i j),H,I.tok _,⟨_,rfl⟩,q⟩
theorem gx {f:Value→Value→Sem Value}{g:Int→Int→Bool}
  (rule:∀(i j:Int) (t u:Tok) (s:Shared) (Q:Value→Shared→Prop) (E:Value→Shared→Prop),Q (.bool (g i j)) s→wpAny (model X.prog X.w) X.A (f (.int i t) (.int j u)) Q E s):
  OpR X f (rI0 fun i j=>.bl (g i j)):=by
 intro pins s σ H x y v u Q I rx ry h
 obtain⟨i,j,rfl,rfl,q⟩:=h
 obtain⟨t,rfl⟩:=rx
 obtain⟨t',rfl⟩:=ry
 exact rule i j t t' s _ _ ⟨.bl (g i j),H,I,rfl,q⟩
def fi (i j:Int):Prop:=0≤j∧j≤1000000∧i.natAbs<2 ^ 64
def gp (i j:Int):Prop:=(-(2 ^ 64)<i∧i<2 ^ 64)∨(-(2 ^ 64)<j∧j<2 ^ 64)
theorem gp.ok {i j:Int}(h:gp i j):IntMulOk i j:=by
 rcases h with ⟨h1,h2⟩|⟨h1,h2⟩
 ·exact .of_left (intBits_le_64 h1 h2)
 ·exact .of_right (intBits_le_64 h1 h2)
theorem va :OpR X (binaryOp .Add) (rI0 fun i j=>.int (i+j)):=dD fun _ _ _ _ _ _ _ q=>add_int q
theorem ko :OpR X (binaryOp .Sub) (rI0 fun i j=>.int (i-j)):=dD fun _ _ _ _ _ _ _ q=>sub_int q
theorem vC :OpR X (binaryOp .Mult) (rI gp fun i j=>.int (i*j)):=opI fun _ _ _ _ _ _ _ hc q=>mul_int q hc.ok
theorem wb :OpR X (binaryOp .Mod) (rI (fun _ j=>0<j) fun i j=>.int (i % j)):=opI fun i j _ _ _ _ _ hc q=>by
 have h1:(0:Int)<j:=hc
 exact mod_int' (by omega) (by rw[Int.fmod_eq_emod_of_nonneg i (by omega)];exact q)
theorem ja :OpR X (binaryOp .Pow) (rI fi fun i j=>.int (i ^ j.toNat)):=opI fun _ _ _ _ _ _ _ hc q=>pow_int_small hc.1 hc.2.1 hc.2.2 q
theorem unI {f:Value→Sem Value}{g:Int→Int}
  (rule:∀(i:Int) (t:Tok) (s:Shared) (Q:Value→Shared→Prop) (E:Value→Shared→Prop),Q (.int (g i) s.toks) {s with toks:=s.toks+1}→wpAny (model X.prog X.w) X.A (f (.int i t)) Q E s):
  UnR X f (rU fun i=>.int (g i)):=by
 intro pins s σ H x v Q I rx h
 obtain⟨i,rfl,q⟩:=h
 obtain⟨t,rfl⟩:=rx
 exact rule i t s _ _ ⟨.int (g i),H,I.tok _,⟨_,rfl⟩,q⟩
theorem eg :UnR X (unaryOp .USub) (rU fun i=>.int (-i)):=unI fun _ _ _ _ _ q=>neg_int q
end
def eE :V→V→Bool
 |.non,.non=>true|.non,.int _=>true|.int _,.non=>true|.non,.bl _=>true|.bl _,.non=>true|.non,.str _=>true|.str _,.non=>true
 |.int _,.int _=>true|.bl _,.bl _=>true|.str _,.str _=>true|.byt _,.byt _=>true
 |.int _,.str _=>true|.str _,.int _=>true|.bl _,.str _=>true|.str _,.bl _=>true
 |_,_=>false
def rEq :R2:=fun x y H Q=>eE x y=true∧Q (.bl (decide (x=y))) H
def rNe :R2:=fun x y H Q=>eE x y=true∧Q (.bl (!decide (x=y))) H
theorem oN {i j:Int}:decide (V.int i=V.int j)=(i == j):=by
 rw[zc0]
 simp
theorem lM {i j:Bool}:decide (V.bl i=V.bl j)=(i == j):=by
 rw[zc0]
 simp
theorem oq {i j:Str}:decide (V.str i=V.str j)=(i == j):=by
 rw[zc0]
 simp
theorem pw {i j:Array UInt8}:decide (V.byt i=V.byt j)=(i.toList == j.toList):=by
 rw[zc0]
 cases i
 cases j
 simp
section
variable {X:Cx}{a b c:Expr}{ta tb tc:TE}{pos:Pos}
theorem zw {pins:List (Addr×Obj)}{σ:St}{H:Hp}{s:Shared}{Q:VK}{k k':Bool}(I:Inv X pins σ H s)(q:Q (.bl k) H)(e:k=k'):EP X pins σ Q (.bool k') s:=by
 subst e
 exact⟨.bl k,H,I,rfl,q⟩
theorem xI :OpR X (compareOp .Eq) rEq:=by
 intro pins s σ H x y v u Q I rx ry h
 obtain⟨hs,q⟩:=h
 cases x with
 |non=>
  cases rx
  cases y with
  |non=>cases ry;exact PySem.EqNone.eq_none_none (zw I q (by simp))
  |bl j=>cases ry;exact PySem.EqNone.eq_none_bool (zw I q (by simp))
  |int j=>obtain⟨t',rfl⟩:=ry;exact PySem.EqNone.eq_none_int (zw I q (by simp))
  |str j=>obtain⟨t',rfl⟩:=ry;exact PySem.EqNone.eq_none_str (zw I q (by simp))
  |_=>exact absurd (show false=true from hs) cZ
 |bl i=>
  cases rx
  cases y with
  |non=>cases ry;exact PySem.EqNone.eq_bool_none (zw I q (by simp))
  |bl j=>cases ry;exact eq_bool (zw I q lM)
  |str j=>obtain⟨t',rfl⟩:=ry;exact PySem.EqMixed.eq_bool_str (zw I q (by simp))
  |_=>exact absurd (show false=true from hs) cZ
 |int i=>
  obtain⟨t,rfl⟩:=rx
  cases y with
  |non=>cases ry;exact PySem.EqNone.eq_int_none (zw I q (by simp))
  |int j=>obtain⟨t',rfl⟩:=ry;exact eq_int (zw I q oN)
  |str j=>obtain⟨t',rfl⟩:=ry;exact PySem.EqMixed.eq_int_str (zw I q (by simp))
  |_=>exact absurd (show false=true from hs) cZ
 |str i=>
  obtain⟨t,rfl⟩:=rx
  cases y with
  |non=>cases ry;exact PySem.EqNone.eq_str_none (zw I q (by simp))
  |bl j=>cases ry;exact PySem.EqMixed.eq_str_bool (zw I q (by simp))
  |int j=>obtain⟨t',rfl⟩:=ry;exact PySem.EqMixed.eq_str_int (zw I q (by simp))
  |str j=>obtain⟨t',rfl⟩:=ry;exact eq_str (zw I q oq)
  |_=>exact absurd (show false=true from hs) cZ
 |byt i=>
  obtain⟨t,rfl⟩:=rx
  cases y with
  |byt j=>obtain⟨t',rfl⟩:=ry;exact PySem.W.eq_bytes (zw I q pw)
  |_=>exact absurd (show false=true from hs) cZ
 |_=>cases y<;>exact absurd (show false=true from hs) cZ
theorem eS :OpR X (compareOp .NotEq) rNe:=by
 intro pins s σ H x y v u Q I rx ry h
 obtain⟨hs,q⟩:=h
 cases x with
 |non=>
  cases rx
  cases y with
  |non=>cases ry;exact PySem.EqNone.ne_none_none (zw I q (by simp))
  |bl j=>cases ry;exact PySem.EqNone.ne_none_bool (zw I q (by simp))
  |int j=>obtain⟨t',rfl⟩:=ry;exact PySem.EqNone.ne_none_int (zw I q (by simp))
  |str j=>obtain⟨t',rfl⟩:=ry;exact PySem.EqNone.ne_none_str (zw I q (by simp))
  |_=>exact absurd (show false=true from hs) cZ
 |bl i=>
  cases rx
  cases y with
  |non=>cases ry;exact PySem.EqNone.ne_bool_none (zw I q (by simp))
  |bl j=>cases ry;exact ne_bool (zw I q (congrArg not lM))
  |str j=>obtain⟨t',rfl⟩:=ry;exact PySem.EqMixed.ne_bool_str (zw I q (by simp))
  |_=>exact absurd (show false=true from hs) cZ
 |int i=>
  obtain⟨t,rfl⟩:=rx
  cases y with
  |non=>cases ry;exact PySem.EqNone.ne_int_none (zw I q (by simp))
  |int j=>obtain⟨t',rfl⟩:=ry;exact ne_int (zw I q (congrArg not oN))
  |str j=>obtain⟨t',rfl⟩:=ry;exact PySem.EqMixed.ne_int_str (zw I q (by simp))
  |_=>exact absurd (show false=true from hs) cZ
 |str i=>
  obtain⟨t,rfl⟩:=rx
  cases y with
  |non=>cases ry;exact PySem.EqNone.ne_str_none (zw I q (by simp))
  |bl j=>cases ry;exact PySem.EqMixed.ne_str_bool (zw I q (by simp))
  |int j=>obtain⟨t',rfl⟩:=ry;exact PySem.EqMixed.ne_str_int (zw I q (by simp))
  |str j=>obtain⟨t',rfl⟩:=ry;exact ne_str (zw I q (congrArg not oq))
  |_=>exact absurd (show false=true from hs) cZ
 |byt i=>
  obtain⟨t,rfl⟩:=rx
  cases y with
  |byt j=>obtain⟨t',rfl⟩:=ry;exact PySem.W.ne_bytes (zw I q (congrArg not pw))
  |_=>exact absurd (show false=true from hs) cZ
 |_=>cases y<;>exact absurd (show false=true from hs) cZ
theorem uC :OpR X (compareOp .LtE) (rI0 fun i j=>.bl (decide (i≤j))):=gx fun _ _ _ _ _ _ _ q=>le_int q
theorem pE :OpR X (compareOp .Gt) (rI0 fun i j=>.bl (decide (j<i))):=gx fun _ _ _ _ _ _ _ q=>gt_int q
theorem du :OpR X (compareOp .GtE) (rI0 fun i j=>.bl (decide (j≤i))):=gx fun _ _ _ _ _ _ _ q=>ge_int q
theorem tj :OpR X (compareOp .Is) (fun x y H Q=>y=.non∧Q (.bl (decide (x=.non))) H):=by
 intro pins s σ H x y v u Q I rx ry h
 obtain⟨rfl,q⟩:=h
 cases ry
 refine is_none_gen (zw I q ?_)
 cases x<;>first
  |(cases rx;rfl)
  |(obtain⟨t,rfl⟩:=rx;rfl)
theorem zu (b:Expr){op:CmpOp}(h:op≠.In:=by decide)(h2:op≠.NotIn:=by decide):behindInMarks op b=false:=by
 have e1:(op == CmpOp.In)=false:=by cases op<;>first|rfl|exact absurd rfl h
 have e2:(op == CmpOp.NotIn)=false:=by cases op<;>first|rfl|exact absurd rfl h2
 cases b<;>simp[behindInMarks,e1,e2]
theorem yO {op:CmpOp}{r:R2}(ho:OpR X (compareOp op) r)(ha:PE X a ta)(hb:PE X b tb)(hm:behindInMarks op b=false):PE X (.Compare a [op] [b] pos) (tOp r ta tb):=by
 intro pins s σ H Q I h
 exact wpAny_Compare1 (gF ha hb I h fun v u s2 x y H2 I2 rx ry q=>ho pins s2 σ H2 x y v u Q I2 rx ry q) hm
def dr (t:TE):TT:=fun σ H Q=>t σ H fun x H'=>∃k,x=.bl k∧Q k H'
theorem zO {op:CmpOp}{r:R2}(ho:OpR X (compareOp op) r)(ha:PE X a ta)(hb:PE X b tb)(hm:behindInMarks op b=false):PT X (.Compare a [op] [b] pos) (dr (tOp r ta tb)):=by
 intro pins s σ H Q I h
 refine wpAny_isTrue_Compare1 (thn (ha pins s σ H _ I h) fun v s1 ⟨x,H1,I1,r1,q1⟩=>thn (hb pins s1 σ H1 _ I1 q1) fun u s2 ⟨y,H2,I2,r2,q2⟩=>
  thn (ho pins s2 σ H2 x y v u _ I2 r1 r2 q2) fun c s3 ⟨z,H3,I3,r3,k,e,q3⟩=>?_) hm
 subst e
 cases r3
 exact aC ⟨H3,I3,q3⟩
def gg (r r':R2)(ta tb tc:TE):TE:=fun σ H Q=>ta σ H fun x H1=>tb σ H1 fun y H2=>r x y H2 fun z H3=>∃k,z=.bl k∧
 (if k=true then tc σ H3 fun w' H4=>r' y w' H4 Q else Q (.bl false) H3)
theorem rq {op op':CmpOp}{r r':R2}(ho:OpR X (compareOp op) r)(ho':OpR X (compareOp op') r')(ha:PE X a ta)(hb:PE X b tb)(hc:PE X c tc)
  (hm:lastMarks [op,op'] [b,c]=false:=by with_unfolding_all rfl):PE X (.Compare a [op,op'] [b,c] pos) (gg r r' ta tb tc):=by
 intro pins s σ H Q I h
 refine Compare_chain (thn (ha pins s σ H _ I h) fun v s1 ⟨x,H1,I1,r1,q1⟩=>chain_link (thn (hb pins s1 σ H1 _ I1 q1) fun u s2 ⟨y,H2,I2,r2,q2⟩=>
  thn (ho pins s2 σ H2 x y v u _ I2 r1 r2 q2) fun d s3 ⟨z,H3,I3,r3,k,e,q3⟩=>?_)) hm
 subst e
 cases r3
 refine aC ?_
 cases k with
 |false=>exact ite_ff ⟨.bl false,H3,I3,rfl,q3⟩
 |true=>exact ite_tt (chain_last (thn (hc pins s3 σ H3 _ I3 q3) fun w' s4 ⟨z',H4,I4,r4,q4⟩=>ho' pins s4 σ H4 y z' u w' Q I4 r2 r4 q4))
theorem uq :(sizeLine:Nat)<2 ^ 63:=by rw[za4];decide
theorem vals1 {x:V}{us:List Value}(r:Vals [x] us):∃u,us=[u]∧RelV x u:=by
 cases r with
 |cons r1 r2=>cases r2;exact⟨_,rfl,r1⟩
theorem vals2 {x y:V}{us:List Value}(r:Vals [x,y] us):∃u w',us=[u,w']∧RelV x u∧RelV y w':=by
 cases r with
 |cons r1 r2=>
  cases r2 with
  |cons r3 r4=>cases r4;exact⟨_,_,rfl,r1,r3⟩
theorem rl :yX X (.builtin "abs") (fun xs H Q=>∃i,xs=[.int i]∧Q (.int (if i<0 then -i else i)) H):=by
 intro pins s σ H xs us Q I r h
 obtain⟨i,rfl,q⟩:=h
 obtain⟨u,rfl,t,rfl⟩:=vals1 r
 exact call_abs_int fun u tk=>⟨.int (if i<0 then -i else i),H,I.tok _,⟨_,rfl⟩,q⟩
theorem mh (hc:X.calm=true):yX X (.builtin "max") (fun xs H Q=>∃i j,xs=[.int i,.int j]∧Q (.int (if j > i then j else i)) H):=by
 intro pins s σ H xs us Q I r h
 obtain⟨i,j,rfl,q⟩:=h
 obtain⟨u,w',rfl,⟨t,rfl⟩,⟨t',rfl⟩⟩:=vals2 r
 refine max_two_ints (I.ok.hd hc) fun h' tk k=>⟨_,H,I.kept k,?_,q⟩
 by_cases hj:j > i
 ·rw[if_pos hj,if_pos hj];exact⟨_,rfl⟩
 ·rw[if_neg hj,if_neg hj];exact⟨_,rfl⟩
theorem oR (hc:X.calm=true):yX X (.builtin "min") (fun xs H Q=>∃i j,xs=[.int i,.int j]∧Q (.int (if j<i then j else i)) H):=by
 intro pins s σ H xs us Q I r h
 obtain⟨i,j,rfl,q⟩:=h
 obtain⟨u,w',rfl,⟨t,rfl⟩,⟨t',rfl⟩⟩:=vals2 r
 refine min_two_ints (I.ok.hd hc) fun h' tk k=>⟨_,H,I.kept k,?_,q⟩
 by_cases hj:j<i
 ·rw[if_pos hj,if_pos hj];exact⟨_,rfl⟩
 ·rw[if_neg hj,if_neg hj];exact⟨_,rfl⟩
end
structure qt (h:Heap)(x dx C:Addr)(mA:Str→Option Value):Prop where
 obj:h.get? x=some (PySem.W.instObj C dx)
 ns:h.Ns1 dx mA
 ne:dx≠x
theorem nI {h:Heap}{dx:Addr}{mA:Str→Option Value}(n:h.Ns1 dx mA):∃od,h.get? dx=some od∧∀name,PySem.W.lookIn name od=some (mA name):=by
 obtain⟨o,es,ep,ho,hd,hk,_,hm⟩:=n
 refine⟨o,ho,fun name=>?_⟩
 have e:=hm name
 unfold nsFind findBy at e
 rw[←Array.find?_toList] at e
 unfold PySem.W.lookIn
 rw[hd]
 dsimp only
 split
 ·rename_i y q
  rw[q] at e
  exact congrArg some e
 ·rename_i q
  rw[q] at e
  have a:es.toList.any (·.refKey)=false:=by
   rw[List.any_eq_false]
   intro y hy
   obtain⟨z,t,hkey⟩:=hk y (Array.mem_toList_iff.mp hy)
   simp[DictEntry.refKey,hkey]
  have a':¬es.toList.any (·.refKey)=true:=by rw[a];exact cZ
  rw[if_neg a']
  exact congrArg some e
theorem qt.look {h:Heap}{x dx C:Addr}{mA:Str→Option Value}(I:qt h x dx C mA):∃od,PySem.W.InstAt h x (PySem.W.instObj C dx) C (some od)∧∀name,PySem.W.lookIn name od=some (mA name):=
 let ⟨od,ho,hl⟩:=nI I.ns
 ⟨od,⟨I.obj,rfl,rfl,ho⟩,hl⟩
section
variable {prog:Program}{w:World}{A:Around}{E:Value→Shared→Prop}{s:Shared}{K:PySem.W.Frag}{x dx C f:Addr}{mA:Str→Option Value}{name:Str}{v:Value}
theorem get_map {expr:Bool}{Q:Value→Shared→Prop}(X:K.In s.heap)(I:qt s.heap x dx C mA)(hg:PySem.W.plainGet K C name=true)(hh:PySem.W.hasDictIn K C=true)
  (ha:PySem.W.findIn K (.ref C) name=some none) (hv:mA name=some v) (hv':PySem.W.handedIn v=true) (h:Q v {s with toks:=s.toks+1}):
  wpAny (model prog w) A (getAttr (.ref x) name expr) Q E s:=by
 obtain⟨od,J,hl⟩:=I.look
 exact PySem.W.get_value X J (zc5 hg).1 (PySem.W.findObj_own hh ha rfl (by rw[hl,hv])) hv' h
theorem kg {pl:Sem Bool}{Q:Value×List Value→Shared→Prop}(X:K.In s.heap)(I:qt s.heap x dx C mA)(hg:PySem.W.plainGet K C name=true)
  (hf:PySem.W.findIn K (.ref C) name=some (some (.ref f))) (ht:PySem.W.isFn K (.ref f)=true) (hv:mA name=none) (h:Q (.ref f,[.ref x]) s):
  wpAny (model prog w) A (getMethod (.ref x) name pl) Q E s:=by
 obtain⟨od,J,hl⟩:=I.look
 exact PySem.W.method_fn X J (zc5 hg).1 (zc5 hg).2 hf (aN.mp ht) (by show (PySem.W.lookIn name od).map (·.isSome)=some false;rw[hl,hv];rfl) h
theorem ik {ns:List Str}{Q:Unit→Shared→Prop}(X:K.In s.heap)(I:qt s.heap x dx C mA)
  (hs:PySem.W.findIn K (.ref C) "__setattr__"=some (some (.builtin "object.__setattr__"))) (hp:PySem.W.plainOver K C=true) (ht:PySem.W.takerIn K C name=some none) (hh:PySem.W.hasDictIn K C=true)
  (hw:PySem.Within mA ns) (hsz:ns.length≤sizeLine)
  (h:∀h',qt h' x dx C (fun y=>if y=name then some v else mA y)→Heap.SameBut dx s.heap h'→Q () {s with heap:=h',toks:=s.toks+2}):
  wpAny (model prog w) A (setAttr (.ref x) name v) Q E s:=by
 obtain⟨od,J,hl⟩:=I.look
 refine PySem.W.set_plain X J hs (PySem.W.osa_open (s:={s with toks:=s.toks+1}) (r:=none) X J hp ht fun b=>?_)
 obtain⟨cd,hc,hd'⟩:=PySem.W.any_some hh
 have hx:s.heap.get? x=some ⟨.ref C,some dx,.plain,#[]⟩:=I.obj
 refine cQ (bc (cQ (cQ (wpAny_loadPart hx (cQ (PySem.W.Looks.here (s:={s with toks:=s.toks+1}) (PySem.W.looks_clsIn X hc) ?_))))))
 rw[hd']
 refine bc (a:=some dx) (cQ (bc (cQ ?_)))
 refine wpAny_nsSet1 (s:={s with toks:=s.toks+1}) I.ns fun h' hn2 hs2=>?_
 obtain⟨oD,esD,epD,hoD,hdD,hcD⟩:=hn2.count (PySem.Within.cons name v hw)
 refine cQ (wpAny_lookBehind hoD (by rw[hdD];exact pastItsLine_dict (ae hcD (by rw[bj];omega))) ?_)
 exact bc (h _ ⟨(hs2.2 _ (aW I.ne)).trans I.obj,hn2,I.ne⟩ hs2)
theorem rN {R:Result→Shared→Prop}{vs:List Value}{kw:List (Str×Value)}(X:K.In s.heap)(hm:PySem.W.makesIn K C=true)
  (hi:PySem.W.findIn K (.ref C) "__init__"=some (some (.ref f))) (hf:PySem.W.typeIn K (.ref f)=some (.type "function"))
  (h:codeAny (model prog w) (A.under (.builtin "type.__call__" ⟨.ref C::vs,kw⟩)) (.call (.ref f) ⟨.ref (s.heap.objs.size+1)::vs,kw⟩) (PySem.W.InitBack (s.heap.objs.size+1) R)
   {s with heap:=(s.heap.push PySem.W.emptyDict).push (PySem.W.instObj C s.heap.objs.size)}):
  codeAny (model prog w) A (.call (.ref C) ⟨vs,kw⟩) R s:=by
 obtain⟨hh,g,d,t,os⟩:=s
 exact PySem.W.make_core (PySem.W.makes_of X hm) (PySem.W.looks_findIn X hi) (fun self=>PySem.W.bind_fn X self hf) (.inl rfl) h
end
def yJ (f:Str)(v:V):List (Str×V)→List (Str×V)
 |[]=>[(f,v)]
 |(g,x)::r=>if g=f then (g,v)::r else (g,x)::yJ f v r
theorem zD (f g:Str)(v:V):∀fs:List (Str×V),(yJ f v fs).lookup g=if g=f then some v else fs.lookup g
 |[]=>by
  show List.lookup g [(f,v)]=_
  by_cases h:g=f
  ·have hb:(g == f)=true:=aN.mpr h
   simp only[List.lookup,hb,if_pos h]
  ·have hb:(g == f)=false:=aT.mpr h
   simp only[List.lookup,hb,if_neg h]
 |(k,x)::r=>by
  have ih:=zD f g v r
  rw[show yJ f v ((k,x)::r)=(if k=f then (k,v)::r else (k,x)::yJ f v r) from rfl]
  by_cases hk:k=f
  ·rw[if_pos hk]
   by_cases h:g=k
   ·have hb:(g == k)=true:=aN.mpr h
    simp only[List.lookup,hb,if_pos (h.trans hk)]
   ·have hb:(g == k)=false:=aT.mpr h
    simp only[List.lookup,hb,if_neg (fun e:g=f=>h (e.trans hk.symm))]
  ·rw[if_neg hk]
   by_cases h:g=k
   ·have hb:(g == k)=true:=aN.mpr h
    simp only[List.lookup,hb,if_neg (fun e:g=f=>hk (h.symm.trans e))]
   ·have hb:(g == k)=false:=aT.mpr h
    simp only[List.lookup,hb]
    exact ih
theorem wN (f:Str)(v:V):∀fs:List (Str×V),f∈(yJ f v fs).map (·.1)∧∀g,g∈fs.map (·.1)→g∈(yJ f v fs).map (·.1)
 |[]=>⟨by simp[yJ],fun g h=>by simp at h⟩
 |(k,x)::r=>by
  obtain⟨i1,i2⟩:=wN f v r
  rw[show yJ f v ((k,x)::r)=(if k=f then (k,v)::r else (k,x)::yJ f v r) from rfl]
  by_cases hk:k=f
  ·rw[if_pos hk]
   subst hk
   exact⟨by simp,fun g h=>by simpa using h⟩
  ·rw[if_neg hk]
   refine⟨?_,fun g h=>?_⟩
   ·rw[aL]
    exact ba _ i1
   ·rw[aL] at h ⊢
    rcases cY.mp h with e|e
    ·exact cY.mpr (.inl e)
    ·exact ba _ (i2 g e)
theorem vg (f:Str)(v:V):∀fs:List (Str×V),(yJ f v fs).length≤fs.length+1
 |[]=>by simp[yJ]
 |(k,x)::r=>by
  have ih:=vg f v r
  rw[show yJ f v ((k,x)::r)=(if k=f then (k,v)::r else (k,x)::yJ f v r) from rfl]
  by_cases hk:k=f
  ·rw[if_pos hk,bj,bj];omega
  ·rw[if_neg hk,bj,bj];omega
theorem wA.some_of {v:V}{o:Option Value}(r:wA (some v) o):∃u,o=some u∧RelV v u:=by
 cases o with
 |none=>exact (show False from r).elim
 |some u=>exact⟨u,rfl,r⟩
theorem wA.none_of {o:Option Value}(r:wA none o):o=none:=by
 cases o with
 |none=>rfl
 |some u=>exact (show False from r).elim
theorem nV {v:V}{u:Value}(r:RelV v u):PySem.W.handedIn u=true:=by
 cases v with
 |non=>cases (show u=Value.none from r);rfl
 |bl b=>cases (show u=Value.bool b from r);rfl
 |int i=>obtain⟨t,e⟩:=(show ∃t,u=Value.int i t from r);cases e;rfl
 |str x=>obtain⟨t,e⟩:=(show ∃t,u=Value.str x t from r);cases e;rfl
 |byt b=>obtain⟨t,e⟩:=(show ∃t,u=Value.bytes b t from r);cases e;rfl
 |flt b=>obtain⟨t,e⟩:=(show ∃t,u=Value.float b t from r);cases e;rfl
 |ref a=>cases (show u=Value.ref a from r);rfl
 |ty n=>cases (show u=Value.type n from r);rfl
section
variable {P:Program}{w:World}{H H':Hp}{h h':Heap}{a C dx:Addr}{fs fs':List (Str×V)}
theorem vw (hok:HOk P w H h)(e:H a=some (.ins C dx fs)):∃mA,qt h a dx C mA∧(∀f,wA (fs.lookup f) (mA f))∧PySem.Within mA (fs.map (·.1))∧fs.length≤1000∧H dx=some (.own a):=by
 obtain⟨d,z,ne,ob,mA,n,r,q⟩:=(show zZ P w H h a (.ins C dx fs) from hok a _ e)
 exact⟨mA,⟨ob,n,ne⟩,r,q,z,d⟩
end
structure Cls (K:PySem.W.Frag)(C:Addr):Prop where
 pg:PySem.W.plainGet K C Str.empty=true
 hd:PySem.W.hasDictIn K C=true
 po:PySem.W.plainOver K C=true
 sa:PySem.W.findIn K (.ref C) "__setattr__"=some (some (.builtin "object.__setattr__"))
theorem Cls.get {K:PySem.W.Frag}{C:Addr}(c:Cls K C)(f:Str):PySem.W.plainGet K C f=true:=c.pg
def yf (K:PySem.W.Frag)(C:Addr)(f:Str):Prop:=PySem.W.findIn K (.ref C) f=some none
theorem yf.taker {K:PySem.W.Frag}{C:Addr}{f:Str}(n:yf K C f):PySem.W.takerIn K C f=some none:=by
 unfold PySem.W.takerIn
 rw[show PySem.W.findIn K (.ref C) f=some none from n]
 rfl
structure Meth (K:PySem.W.Frag)(C:Addr)(m:Str)(f:Addr):Prop where
 at_:PySem.W.findIn K (.ref C) m=some (some (.ref f))
 fn:PySem.W.isFn K (.ref f)=true
 kp:PySem.W.keepIn K (.ref f)=true
section
variable {X:Cx}{pins:List (Addr×Obj)}{σ:St}{H:Hp}{s:Shared}{a C dx:Addr}{fs:List (Str×V)}{f:Str}{v:V}{A:Around}{E:Value→Shared→Prop}
theorem qZ {b:Bool}{Q:Value→Shared→Prop}(I:Inv X pins σ H s)(e:H a=some (.ins C dx fs))(c:Cls X.K C)(n:yf X.K C f)(l:fs.lookup f=some v)
  (h:∀u s',Inv X pins σ H s'→RelV v u→Q u s'):wpAny (model X.prog X.w) A (getAttr (.ref a) f b) Q E s:=by
 obtain⟨mA,O,r,_,_,_⟩:=vw I.hok e
 obtain⟨u,hu,ru⟩:=wA.some_of (v:=v) (o:=mA f) (by rw[←l];exact r f)
 exact get_map I.kIn O (c.get f) c.hd n hu (nV ru) (h u _ (I.tok _) ru)
theorem wa {m:Str}{g:Addr}{pl:Sem Bool}{Q:Value×List Value→Shared→Prop}(I:Inv X pins σ H s)(e:H a=some (.ins C dx fs))(c:Cls X.K C)(k:Meth X.K C m g)(l:fs.lookup m=none)
  (h:Q (.ref g,[.ref a]) s):wpAny (model X.prog X.w) A (getMethod (.ref a) m pl) Q E s:=by
 obtain⟨mA,O,r,_,_,_⟩:=vw I.hok e
 have hn:mA m=none:=wA.none_of (by rw[←l];exact r m)
 exact kg I.kIn O (c.get m) k.at_ k.fn hn h
theorem rV {y:V}{u:Value}{Q:Unit→Shared→Prop}(I:Inv X pins σ H s)(e:H a=some (.ins C dx fs))(c:Cls X.K C)(n:yf X.K C f)(hl:fs.length<1000)(ry:RelV y u)
  (h:∀s',Inv X pins σ (upd H a (.ins C dx (yJ f y fs))) s'→Q () s'):wpAny (model X.prog X.w) A (setAttr (.ref a) f u) Q E s:=by
 obtain⟨mA,O,r,wi,_,ho⟩:=vw I.hok e
 have hz:(fs.map (·.1)).length≤sizeLine:=by rw[cT,za4];omega
 refine ik I.kIn O c.sa c.po n.taker c.hd wi hz fun h' O' sb=>h _ ?_
 have hd:∃o,h'.get? dx=some o:=let ⟨o,_,_,e',_⟩:=O'.ns;⟨o,e'⟩
 refine I.write (x:=a) (e:=dx) (by rw[e];exact True.intro) (.inr ho) (fun b q hb z=>(sb.2 b hb).trans z) hd ?_
 refine⟨by rw[zc O.ne];exact ho,?_,O.ne,O'.obj,_,O'.ns,fun g=>?_,fun g hg=>?_⟩
 ·have:=vg f y fs;omega
 ·show wA ((yJ f y fs).lookup g) (if g=f then some u else mA g)
  rw[zD]
  by_cases q:g=f
  ·rw[if_pos q,if_pos q];exact ry
  ·rw[if_neg q,if_neg q];exact r g
 ·by_cases q:g=f
  ·rw[q];exact (wN f y fs).1
  ·refine (wN f y fs).2 g (wi g fun z=>hg ?_)
   show (if g=f then some u else mA g)=none
   rw[if_neg q];exact z
theorem Inv.made (I:Inv X pins σ H s):Inv X pins σ (upd (upd H s.heap.objs.size (.own (s.heap.objs.size+1))) (s.heap.objs.size+1) (.ins C s.heap.objs.size []))
  {s with heap:=(s.heap.push PySem.W.emptyDict).push (PySem.W.instObj C s.heap.objs.size)}:=by
 have e1:(s.heap.push PySem.W.emptyDict).get? s.heap.objs.size=some PySem.W.emptyDict:=bK s.heap rfl
 have e2:((s.heap.push PySem.W.emptyDict).push (PySem.W.instObj C s.heap.objs.size)).get? (s.heap.objs.size+1)=some (PySem.W.instObj C s.heap.objs.size):=by
  have:=bK (s.heap.push PySem.W.emptyDict) (o:=PySem.W.instObj C s.heap.objs.size) rfl
  rwa [Heap.size_push] at this
 have e3:(s.heap.push PySem.W.emptyDict).Ns s.heap.objs.size (fun _=>none):=⟨PySem.W.emptyDict,#[],_,e1,rfl,(fun e he=>absurd he (by simp)),fun _=>rfl⟩
 have I1:=I.laid (a:=s.heap.objs.size) (o:=.own (s.heap.objs.size+1)) (h':=s.heap.push PySem.W.emptyDict) (t':=s.toks) (fun b u q=>cS _ q) (cU _) ⟨_,e1⟩
 refine I1.laid (a:=s.heap.objs.size+1) (o:=.ins C s.heap.objs.size []) (t':=s.toks) (fun b u q=>cS _ q) (Nat.le_of_eq (Heap.size_push _ _)) ?_
 have ne:s.heap.objs.size≠s.heap.objs.size+1:=bx (za0 _)
 refine⟨by rw[zc ne,zd],bz _,ne,e2,fun _=>none,(Heap.Ns1.of_empty e3).at fun o q=>cS _ q,fun _=>True.intro,fun y hy=>absurd rfl hy⟩
theorem jB {prog:Program}{w:World}{env:Env}{e:Expr}{f:Str}{pos:Pos}{s:Shared}{Q:Value→Shared→Prop}(hb:attributeBase e f env (eval e env)=eval e env)
  (h:wpAny (model prog w) A (eval e env) (fun o s₁=>wpAny (model prog w) A (getAttr o f true) Q E s₁) E s):wpAny (model prog w) A (eval (.Attribute e f pos) env) Q E s:=
 Attribute_any_ h (by rw[arm_eval_Attribute,hb])
end
def cC (K:PySem.W.Frag)(ta:TE)(f:Str):TE:=fun σ H Q=>ta σ H fun x H1=>∃a C dx fs v,x=.ref a∧H1 a=some (.ins C dx fs)∧Cls K C∧yf K C f∧fs.lookup f=some v∧Q v H1
def cJ (K:PySem.W.Frag)(ta tv:TE)(f:Str):TS:=fun D σ H=>tv σ H fun y H1=>ta σ H1 fun x H2=>∃a C dx fs,x=.ref a∧H2 a=some (.ins C dx fs)∧Cls K C∧yf K C f∧fs.length<1000∧
 D.nx σ (upd H2 a (.ins C dx (yJ f y fs)))
section
variable {X:Cx}{o e value:Expr}{f:Str}{pos pos' tpos:Pos}{ta tv:TE}
theorem wX (he:PE X e ta)(hb:attributeBase e f X.env (eval e X.env)=eval e X.env):PE X (.Attribute e f pos) (cC X.K ta f):=by
 intro pins s σ H Q I h
 refine jB hb (thn (he pins s σ H _ I h) fun u s1 ⟨x,H1,I1,rx,a,C,dx,fs,v,ex,ea,c,n,l,q⟩=>?_)
 subst ex
 obtain rfl:u=Value.ref a:=rx
 exact qZ I1 ea c n l fun u' s2 I2 ru=>⟨v,H1,I2,ru,q⟩
theorem vI (ha:PE X o ta)(hv:PE X value tv)(hs:swapsWith value (some (.Attribute o f pos')) pos.line X.env=pure false):PS X (.Assign [.Attribute o f pos'] value pos) (cJ X.K ta tv f):=by
 intro pins s σ H D I h
 refine plainObj_wpAny_Assign_Attribute (thn (hv pins s σ H _ I h) fun u s1 ⟨y,H1,I1,ry,q⟩=>thn (ha pins s1 σ H1 _ I1 q) fun ov s2 ⟨x,H2,I2,rx,a,C,dx,fs,ex,ea,c,n,l,q2⟩=>?_) hs
 subst ex
 obtain rfl:ov=Value.ref a:=rx
 exact rV I2 ea c n l ry fun s3 I3=>⟨σ,_,I3,q2⟩
theorem iZ {pl:Sem Bool}{m:Str}{apos:Pos}{args:List Expr}{pins:List (Addr×Obj)}{s:Shared}{σ:St}{H:Hp}{Q:Value→Shared→Prop}{te:TE}(he:PE X e te)(I:Inv X pins σ H s)
  (h:te σ H fun x H1=>∃a C dx fs g,x=.ref a∧H1 a=some (.ins C dx fs)∧Cls X.K C∧Meth X.K C m g∧fs.lookup m=none∧
   ∀s1,Inv X pins σ H1 s1→wpAny (model X.prog X.w) X.A (callWith pos (.ref g) [.ref a] (backTo pos (starEach args X.env)) (backToKw pos (keywordEach [] X.env))) Q X.xe s1)
  (ht:eval (.Call (.Attribute e m apos) args [] pos) X.env=(do
   let ov ←eval e X.env
   standAt apos.atName
   let (f,first) ←holding [ov] (getMethod ov m pl)
   callWith pos f first (backTo pos (starEach args X.env)) (backToKw pos (keywordEach [] X.env)))):
  wpAny (model X.prog X.w) X.A (eval (.Call (.Attribute e m apos) args [] pos) X.env) Q X.xe s:=by
 refine zb7 (pl:=pl) (thn (he pins s σ H _ I h) fun u s1 ⟨x,H1,I1,rx,a,C,dx,fs,g,ex,ea,c,k,l,q⟩=>?_) ht
 subst ex
 obtain rfl:u=Value.ref a:=rx
 exact wa I1 ea c k l (q s1 I1)
end
section
variable {X:Cx}{pins:List (Addr×Obj)}{σ:St}{H:Hp}{s:Shared}{A:Around}{E:Value→Shared→Prop}{Q:Value→Shared→Prop}{c:Value}{b:Bool}
inductive xX (K:PySem.W.Frag)(H:Hp):V→Value→Prop where
 |non:xX K H .non (.type "NoneType")
 |bl (x:Bool):xX K H (.bl x) (.type "bool")
 |int (i:Int):xX K H (.int i) (.type "int")
 |str (x:Str):xX K H (.str x) (.type "str")
 |flt (x:UInt64):xX K H (.flt x) (.type "float")
 |lst {a:Addr} {xs:List V} (e:H a=some (.lst xs)):xX K H (.ref a) (.type "list")
 |frz {a:Addr} {o:Obj} {xs:List V} (e:H a=some (.frz o (.lst xs))):xX K H (.ref a) (.type "list")
 |tup {a:Addr} {xs:List V} (e:H a=some (.tup xs)):xX K H (.ref a) (.type "tuple")
 |dK {a:Addr} {kvs:List (Key×V)} (e:H a=some (.dK kvs)):xX K H (.ref a) (.type "dict")
 |dT {a:Addr} {kvs:List (List Key×V)} (e:H a=some (.dT kvs)):xX K H (.ref a) (.type "dict")
 |ins {a C dx:Addr} {fs:List (Str×V)} (e:H a=some (.ins C dx fs)) (cl:Cls K C) (ha:PySem.W.findIn K (.ref C) "__class__"=some (some (.builtin "object.__class__")))
   (hn:PySem.W.specialIn K (.builtin "object.__class__") "__get__"=some (some (.builtin "getset_descriptor.__get__"))) (htk:PySem.W.takesIn K (.builtin "object.__class__")=some true)
   (hm:PySem.W.mroIn K C (.type "object")=some true):xX K H (.ref a) (.ref C)
theorem uN {x:V}{u t:Value}(I:Inv X pins σ H s)(rx:RelV x u)(ty:xX X.K H x t)(e:PySem.W.kitOne X.K t c=some b)(h:∀tk,Q (.bool b) {s with toks:=tk}):
  wpAny (model X.prog X.w) A (call (.builtin "isinstance") [u,c]) Q E s:=by
 cases ty with
 |non=>cases (show u=Value.none from rx);exact bO PySem.W.kitx_none I.kIn True.intro e (fun z=>nomatch z) h
 |bl y=>cases (show u=Value.bool y from rx);exact bO PySem.W.kitx_bool I.kIn True.intro e (fun z=>nomatch z) h
 |int i=>obtain⟨t,q⟩:=(show ∃t,u=Value.int i t from rx);cases q;exact bO PySem.W.kitx_int I.kIn True.intro e (fun z=>nomatch z) h
 |str y=>obtain⟨t,q⟩:=(show ∃t,u=Value.str y t from rx);cases q;exact bO PySem.W.kitx_str I.kIn True.intro e (fun z=>nomatch z) h
 |flt y=>obtain⟨t,q⟩:=(show ∃t,u=Value.float y t from rx);cases q;exact bO PySem.W.kitx_float I.kIn True.intro e (fun z=>nomatch z) h
 |@lst a xs ea=>
  cases (show u=Value.ref a from rx)
  obtain⟨_,_,n,_,h1⟩:=(show zZ X.prog X.w H s.heap a (.lst xs) from I.hok a _ ea)
  exact bO PySem.W.kitx_list I.kIn ⟨_,h1,rfl⟩ e (fun z=>nomatch z) h
 |@frz a ob xs ea=>
  cases (show u=Value.ref a from rx)
  obtain⟨_,_,_,n,_,h1⟩:=(show zZ X.prog X.w H s.heap a (.frz ob (.lst xs)) from I.hok a _ ea)
  exact bO PySem.W.kitx_list I.kIn ⟨_,h1,rfl⟩ e (fun z=>nomatch z) h
 |@tup a xs ea=>
  cases (show u=Value.ref a from rx)
  obtain⟨_,_,_,p⟩:=(show zZ X.prog X.w H s.heap a (.tup xs) from I.hok a _ ea)
  obtain⟨o,h1,h2,_⟩:=p
  exact bO PySem.W.kitx_tuple I.kIn ⟨o,h1,h2⟩ e (fun z=>nomatch z) h
 |@dK a kvs ea=>
  cases (show u=Value.ref a from rx)
  obtain⟨_,_,vs,_,p⟩:=(show zZ X.prog X.w H s.heap a (.dK kvs) from I.hok a _ ea)
  obtain⟨o,es,ep,h1,h2,_⟩:=p
  exact bO PySem.W.kitx_dict I.kIn ⟨o,h1,h2.1⟩ e (fun z=>nomatch z) h
 |@dT a kvs ea=>
  cases (show u=Value.ref a from rx)
  obtain⟨_,_,xs,_,o,es,ep,h1,h2,_⟩:=(show zZ X.prog X.w H s.heap a (.dT kvs) from I.hok a _ ea)
  exact bO PySem.W.kitx_dict I.kIn ⟨o,h1,h2.1⟩ e (fun z=>nomatch z) h
 |@ins a C dx fs ea cl ha hn htk hm=>
  cases (show u=Value.ref a from rx)
  obtain⟨mA,O,_⟩:=vw I.hok ea
  obtain⟨od,J,_⟩:=O.look
  exact bO (PySem.W.kitx_own (cl.get _) cl.hd ha hn htk hm) I.kIn J e (fun z=>nomatch z) h
end
structure zy (k:Nat)(A:Around):Prop where
 hd:A.handled=none
 dp:A.depth+3*k+5<recursionLimit
 un:A.units+16*k+200<cLine
 gd:A.guards=some []
theorem zy.mono {j k:Nat}{A:Around}(r:zy k A)(h:j≤k):zy j A:=⟨r.hd,by have:=r.dp;omega,by have:=r.un;omega,r.gd⟩
theorem zy.deeper {k:Nat}{A:Around}(r:zy (k+1) A)(env:Env):zy k (A.deeper env):=
 ⟨r.hd,by have:=r.dp;show A.depth+1+3*k+5<_;omega,by have:=r.un;show A.units+3+16*k+200<_;omega,r.gd⟩
theorem qk {A:Around}{C:Addr}{us:List Value}{kw:List (Str×Value)}:(A.under (.builtin "type.__call__" ⟨.ref C::us,kw⟩)).depth=A.depth+1:=by
 first|rfl|simp[Around.under,Code.weight,Code.isCreation,Code.isGuard,Code.isCaller,Code.frames,Code.isFrame,guardIds]
theorem qX {A:Around}{C:Addr}{us:List Value}{kw:List (Str×Value)}:(A.under (.builtin "type.__call__" ⟨.ref C::us,kw⟩)).units=A.units+1:=by
 first|rfl|simp[Around.under,Code.cUnits,Code.frames,Code.isFrame]
theorem rG {A:Around}{C:Addr}{us:List Value}{kw:List (Str×Value)}:(A.under (.builtin "type.__call__" ⟨.ref C::us,kw⟩)).guards=A.guards:=by
 first|rfl|simp[Around.under,Code.guards,Code.isGuard,guardIds,pushGuards]
theorem zy.make {k:Nat}{A:Around}(r:zy (k+1) A)(C:Addr)(us:List Value)(kw:List (Str×Value)):zy k (A.under (.builtin "type.__call__" ⟨.ref C::us,kw⟩)):=
 ⟨r.hd,by have:=r.dp;rw[qk];omega,by have:=r.un;rw[qX];omega,(rG (A:=A)).trans r.gd⟩
theorem zy.depth {k:Nat}{A:Around}(r:zy k A):A.depth<recursionLimit:=by have:=r.dp;omega
theorem zy.units {k:Nat}{A:Around}(r:zy k A):A.units+64<cLine:=by have:=r.un;omega
def fg :TA:=fun _ H Q=>Q [] H
def df (ta:TE)(tr:TA):TA:=fun σ H Q=>ta σ H fun x H1=>tr σ H1 fun xs H2=>Q (x::xs) H2
section
variable {X:Cx}{e:Expr}{es:List Expr}{te:TE}{t:TA}{pos:Pos}
theorem zj :PA X [] fg:=fun _ _ _ _ H Q I h=>Calls.spliced_nil ⟨[],H,I,.nil,h⟩
theorem zb (ha:PE X e te)(hr:PA X es t)(hs:starEach (e::es) X.env=(false,eval e X.env)::starEach es X.env:=by rfl):PA X (e::es) (df te t):=by
 intro pos pins s σ H Q I h
 rw[hs]
 show wpAny _ _ (spliced ((false,eval e X.env)::backTo pos (starEach es X.env))) _ _ s
 refine Calls.spliced_cons (thn (ha pins s σ H _ I h) fun u s1 ⟨x,H1,I1,r1,q1⟩=>?_)
 exact thn (hr pos pins s1 σ H1 _ I1 q1) fun us s2 ⟨xs,H2,I2,r2,q2⟩=>⟨x::xs,H2,I2,.cons r1 r2,q2⟩
def cL (t:TA):TE:=fun σ H Q=>t σ H fun xs H1=>xs.length≤sizeLine∧∀p,H1 p=none→Q (.ref p) (upd H1 p (.tup xs))
def cj (t:TA):TE:=fun σ H Q=>t σ H fun xs H1=>xs.length≤sizeLine∧∀p,H1 p=none→Q (.ref p) (upd H1 p (.lst xs))
theorem qh {x1}(h:PA X es t):PE X (.Tuple es x1 pos) (cL t):=by
 intro pins s σ H Q I hq
 refine wpAny_Tuple_spliced (thn (h pos pins s σ H _ I hq) fun us s1 ⟨xs,H1,I1,r,z,q⟩=>⟨by rw[←r.length];exact z,?_⟩)
 have hf:H1 s1.heap.objs.size=none:=I1.hok.fresh (cU _)
 refine⟨.ref s1.heap.objs.size,upd H1 s1.heap.objs.size (.tup xs),I1.laid (t':=s1.toks) (fun b u e=>cS _ e) (cU _) ?_,rfl,q _ hf⟩
 exact⟨z,us,r,⟨_,bK _ rfl,rfl,_,rfl⟩⟩
theorem kY (h:PA X es t):PE X (.List es pos) (cj t):=by
 intro pins s σ H Q I hq
 refine wpAny_List_spliced (thn (h pos pins s σ H _ I hq) fun us s1 ⟨xs,H1,I1,r,z,q⟩=>⟨by rw[←r.length];exact z,?_⟩)
 have hf:H1 s1.heap.objs.size=none:=I1.hok.fresh (cU _)
 refine⟨.ref s1.heap.objs.size,upd H1 s1.heap.objs.size (.lst xs),I1.laid (t':=s1.toks) (fun b u e=>cS _ e) (cU _) ?_,rfl,q _ hf⟩
 exact⟨z,us,0,r,bK _ rfl⟩
end
abbrev Sp :=List V→Hp→VK→XK→Prop
abbrev CXT :=List Env→Hp→Shared→XK→Value→Shared→Prop
structure pe (P:Program)(w:World)(K:PySem.W.Frag)(mg:Str→Option Value)(base:Heap)(A:Around)(outer:List Env)(s:Shared)(H:Hp):Prop where
 frames:A.frames=some outer
 mod:Mod K mg base
 bs:∀b o,base.get? b=some o→s.heap.get? b=some o∧H b=none
 bsz:base.objs.size≤s.heap.objs.size
 funs:s.heap.FunFrames base outer
 frf:∀b∈frs outer,H b=none
 hok:HOk P w H s.heap
 bare:AllBare s.gens
def CE (outer:List Env)(P:Program)(w:World)(H:Hp)(s:Shared)(Q:VK)(u:Value)(s':Shared):Prop:=
 ∃v H',s'.os=s.os∧AllBare s'.gens∧Un (frs outer) [] H H' s.heap s'.heap∧HOk P w H' s'.heap∧RelV v u∧Q v H'
def CR (CX:CXT)(outer:List Env)(P:Program)(w:World)(H:Hp)(s:Shared)(Q:VK)(E:XK)(r:Result)(s':Shared):Prop:=
 match r with
 |.ok (.ret u)=>CE outer P w H s Q u s'
 |.ok _=>False
 |.error e=>CX outer H s E e s'
structure zo (P:Program)(w:World)(K:PySem.W.Frag)(mg:Str→Option Value)(base:Heap)(CX:CXT)(k:Nat)(f:Addr)(fd:FuncData)(ps:List Str)(sp:Sp):Prop where
 len:∀vs H Q E,sp vs H Q E→vs.length=ps.length
 run:∀(A:Around) (outer:List Env) (s:Shared) (H:Hp) (args:Args) (us:List Value) (vs:List V) (Q:VK) (E:XK),zy k A→pe P w K mg base A outer s H→BindsTo s fd args (ps.zip us)→Vals vs us→sp vs H Q E→
  codeAny (model P w) A (.call (.ref f) args) (CR CX outer P w H s Q E) s
theorem zo.imp {P:Program}{w:World}{K:PySem.W.Frag}{mg:Str→Option Value}{base:Heap}{CX:CXT}{k:Nat}{f:Addr}{fd:FuncData}{ps:List Str}{sp sp':Sp}(F:zo P w K mg base CX k f fd ps sp)
  (h:∀vs H Q E,sp' vs H Q E→sp vs H Q E):zo P w K mg base CX k f fd ps sp':=
 ⟨fun vs H Q E q=>F.len vs H Q E (h _ _ _ _ q),fun A outer s H args us vs Q E hr he hb hv hs=>F.run A outer s H args us vs Q E hr he hb hv (h _ _ _ _ hs)⟩
theorem pe.make {P:Program}{w:World}{K:PySem.W.Frag}{mg:Str→Option Value}{base:Heap}{A:Around}{outer:List Env}{s:Shared}{H:Hp}(e:pe P w K mg base A outer s H)(C:Addr)(us:List Value)(kw:List (Str×Value)):
  pe P w K mg base (A.under (.builtin "type.__call__" ⟨.ref C::us,kw⟩)) outer s H:=⟨by first|exact e.frames|(simpa[Around.under,Code.envs,Code.isFrame,pushEnvs] using e.frames),e.mod,e.bs,e.bsz,e.funs,e.frf,e.hok,e.bare⟩
section
variable {X:Cx}{pins:List (Addr×Obj)}{σ:St}{H:Hp}{s s':Shared}
theorem Inv.env0 (I:Inv X pins σ H s):pe X.prog X.w X.K X.mg X.base X.A X.stack s H:=
 ⟨I.ok.frames,I.ok.mod,I.bs,ae I.ok.bsz I.sz,I.stack,I.stkFree,I.hok,I.bare⟩
theorem Inv.after {Q:VK}{u:Value}(I:Inv X pins σ H s)(h:CE X.stack X.prog X.w H s Q u s'):EP X pins σ Q u s':=by
 obtain⟨v,H',os,bare,un,hok,r,q⟩:=h
 obtain⟨hh,g,d,t,os'⟩:=s'
 obtain rfl:os'=s.os:=os
 exact⟨v,H',I.call (h':=hh) (g':=g) (d':=d) (t':=t) (ch:=[]) un hok bare (fun b z=>absurd z (by simp)),r,q⟩
end
def eZ (sp:Sp)(dvs:List V)(E:XK)(t:TA):TE:=fun σ H Q=>t σ H fun vs H1=>sp (vs++dvs) H1 Q E
def iQ (C:Addr)(m:Str)(sp:Sp)(dvs:List V)(E:XK)(ta:TE)(t:TA):TE:=fun σ H Q=>ta σ H fun x H1=>∃a dx fs,x=.ref a∧H1 a=some (.ins C dx fs)∧fs.lookup m=none∧
 t σ H1 fun vs H2=>sp (x::(vs++dvs)) H2 Q E
def iR (C:Addr)(sp:Sp)(dvs:List V)(E:XK)(t:TA):TE:=fun σ H Q=>t σ H fun vs H1=>∀x dx,H1 x=none→H1 dx=none→dx≠x→
 sp (.ref x::(vs++dvs)) (upd (upd H1 dx (.own x)) x (.ins C dx [])) (fun v H2=>v=.non∧Q (.ref x) H2) E
def Binds (K:PySem.W.Frag)(fd:FuncData)(ps:List Str)(ds:List Value):Prop:=
 ∀(s:Shared) (us:List Value),K.In s.heap→(us++ds).length=ps.length→BindsTo s fd ⟨us,[]⟩ (ps.zip (us++ds))
theorem Binds.all {K:PySem.W.Frag}{fd:FuncData}{ps:List Str}(h:∀us:List Value,us.length=ps.length→bindArgs fd ⟨us,[]⟩=pure (ps.zip us)):Binds K fd ps []:=fun s us _ hl=>by
 rw[bQ] at hl ⊢
 exact .of_eq (h us hl)
def Passes (CX:CXT)(X:Cx)(E:XK):Prop:=∀(pins:List (Addr×Obj)) (σ:St) (H:Hp) (s:Shared) (e:Value) (s':Shared),Inv X pins σ H s→CX X.stack H s E e s'→X.xe e s'
section
variable {X:Cx}{CX:CXT}{k:Nat}{f C:Addr}{fd:FuncData}{ps:List Str}{sp:Sp}{dvs:List V}{ds:List Value}{E:XK}{x m:Str}{p pos apos:Pos}{e o:Expr}{es:List Expr}{ta:TE}{t:TA}
theorem qv {pins:List (Addr×Obj)}{σ:St}{H:Hp}{s:Shared}{Q:VK}{us:List Value}{vs:List V}(F:zo X.prog X.w X.K X.mg X.base CX k f fd ps sp)(hr:zy k X.A)(hb:Binds X.K fd ps ds)(hd:Vals dvs ds)(hx:Passes CX X E)
  (I:Inv X pins σ H s) (r:Vals vs us) (h:sp (vs++dvs) H Q E):wpAny (model X.prog X.w) X.A (call (.ref f) us) (EP X pins σ Q) X.xe s:=by
 have r2:Vals (vs++dvs) (us++ds):=r.append hd
 have hl:(us++ds).length=ps.length:=by rw[←r2.length];exact F.len _ _ _ _ h
 refine aO (aX (F.run X.A X.stack s H ⟨us,[]⟩ (us++ds) (vs++dvs) Q E hr I.env0 (hb s us I.kIn hl) r2 h) fun r s' hq=>?_)
 cases r with
 |error e=>exact hx pins σ H s e s' I hq
 |ok fl=>
  cases fl with
  |ret u=>exact I.after hq
  |next=>exact False.elim hq
  |brk=>exact False.elim hq
  |cont=>exact False.elim hq
theorem zB (F:zo X.prog X.w X.K X.mg X.base CX k f fd ps sp)(hr:zy k X.A)(hg:Gl X x)(hm:X.mg x=some (.ref f))(hk:PySem.W.keepIn X.K (.ref f)=true)(hb:Binds X.K fd ps ds)(hd:Vals dvs ds)(hx:Passes CX X E)
  (ha:PA X (e::es) t) (hdb:(x == ("__debug__":Str))=false:=by decide) (he:starEach (e::es) X.env=(false,eval e X.env)::starEach es X.env:=by rfl) (hpl:(backTo pos (starEach es X.env)).any (·.1)=false:=by rfl):
  PE X (.Call (.Name x p) (e::es) [] pos) (eZ sp dvs E t):=by
 intro pins s σ H Q I h
 refine bU (yw I hg hm ?_ hdb)
 refine ax (h₀:=X.base) I.ok.mod.kin hk (thn (ha pos pins s σ H _ I h) fun us s1 ⟨vs,H1,I1,r,q⟩=>⟨I1.kIn,?_⟩) he hpl
 exact qv F hr hb hd hx I1 r q
theorem iI {pl:Sem Bool}(he:PE X o ta)(c:Cls X.K C)(hm:Meth X.K C m f)(F:zo X.prog X.w X.K X.mg X.base CX k f fd ps sp)(hr:zy k X.A)(hb:Binds X.K fd ps ds)(hd:Vals dvs ds)(hx:Passes CX X E)(ha:PA X (e::es) t)
  (hst:starEach (e::es) X.env=(false,eval e X.env)::starEach es X.env:=by rfl) (hpl:(backTo pos (starEach es X.env)).any (·.1)=false:=by rfl)
  (ht:eval (.Call (.Attribute o m apos) (e::es) [] pos) X.env=(do
   let ov ←eval o X.env
   standAt apos.atName
   let (f,first) ←holding [ov] (getMethod ov m pl)
   callWith pos f first (backTo pos (starEach (e::es) X.env)) (backToKw pos (keywordEach [] X.env))):=by rfl):
  PE X (.Call (.Attribute o m apos) (e::es) [] pos) (iQ C m sp dvs E ta t):=by
 intro pins s σ H Q I h
 refine zb7 (pl:=pl) (thn (he pins s σ H _ I h) fun u s1 ⟨x,H1,I1,rx,a,dx,fs,ex,ea,l,q⟩=>?_) ht
 subst ex
 obtain rfl:u=Value.ref a:=rx
 refine wa I1 ea c hm l ?_
 refine ax (first:=[.ref a]) (h₀:=X.base) I.ok.mod.kin hm.kp (thn (ha pos pins s1 σ H1 _ I1 q) fun us s2 ⟨vs,H2,I2,r,q2⟩=>⟨I2.kIn,?_⟩) hst hpl
 exact qv (us:=.ref a::us) (vs:=.ref a::vs) F hr hb hd hx I2 (.cons rfl r) q2
theorem rJ {pl:Sem Bool}(he:PE X o ta)(c:Cls X.K C)(hm:Meth X.K C m f)(F:zo X.prog X.w X.K X.mg X.base CX k f fd ps sp)(hr:zy k X.A)(hb:Binds X.K fd ps ds)(hd:Vals dvs ds)(hx:Passes CX X E)
  (ht:eval (.Call (.Attribute o m apos) [] [] pos) X.env=(do
   let ov ←eval o X.env
   standAt apos.atName
   let (f,first) ←holding [ov] (getMethod ov m pl)
   callWith pos f first (backTo pos (starEach [] X.env)) (backToKw pos (keywordEach [] X.env))):=by rfl):
  PE X (.Call (.Attribute o m apos) [] [] pos) (iQ C m sp dvs E ta fg):=by
 intro pins s σ H Q I h
 refine zb7 (pl:=pl) (thn (he pins s σ H _ I h) fun u s1 ⟨x,H1,I1,rx,a,dx,fs,ex,ea,l,q⟩=>?_) ht
 subst ex
 obtain rfl:u=Value.ref a:=rx
 refine wa I1 ea c hm l ?_
 exact PySem.W.callWith_K0 (first:=[.ref a]) I1.kIn hm.kp (qv (us:=[.ref a]) (vs:=[.ref a]) F hr hb hd hx I1 (.cons rfl .nil) q)
structure Mk (K:PySem.W.Frag)(C f:Addr):Prop where
 makes:PySem.W.makesIn K C=true
 init:PySem.W.findIn K (.ref C) "__init__"=some (some (.ref f))
 fn:PySem.W.isFn K (.ref f)=true
 kp:PySem.W.keepIn K (.ref C)=true
theorem sQ {pins:List (Addr×Obj)}{σ:St}{H:Hp}{s:Shared}{Q:VK}{us:List Value}{vs:List V}(M:Mk X.K C f)(F:zo X.prog X.w X.K X.mg X.base CX k f fd ps sp)(hr:zy (k+1) X.A)(hb:Binds X.K fd ps ds)(hd:Vals dvs ds)
  (hx:Passes CX X E) (I:Inv X pins σ H s) (r:Vals vs us)
  (h:∀x dx,H x=none→H dx=none→dx≠x→sp (.ref x::(vs++dvs)) (upd (upd H dx (.own x)) x (.ins C dx [])) (fun v H2=>v=.non∧Q (.ref x) H2) E):
  wpAny (model X.prog X.w) X.A (call (.ref C) us) (EP X pins σ Q) X.xe s:=by
 have hq:=h (s.heap.objs.size+1) s.heap.objs.size (I.hok.fresh (aQ _)) (I.hok.fresh (cU _)) (bx (za0 _))
 have I2:=Inv.made (C:=C) I
 have r2:Vals (V.ref (s.heap.objs.size+1)::(vs++dvs)) (Value.ref (s.heap.objs.size+1)::(us++ds)):=.cons rfl (r.append hd)
 have hl:(Value.ref (s.heap.objs.size+1)::us++ds).length=ps.length:=by
  have e:=r2.length
  rw[F.len _ _ _ _ hq] at e
  exact e.symm
 refine aO (rN (f:=f) I.kIn M.makes M.init (aN.mp M.fn) (aX (F.run _ X.stack _ _ ⟨Value.ref (s.heap.objs.size+1)::us,[]⟩ (Value.ref (s.heap.objs.size+1)::(us++ds)) _ _ E (hr.make C us [])
  (I2.env0.make C us []) (hb _ (Value.ref (s.heap.objs.size+1)::us) I2.kIn hl) r2 hq) fun r s' hq'=>?_))
 cases r with
 |error e=>exact hx pins σ _ _ e s' I2 hq'
 |ok fl=>
  cases fl with
  |ret u=>
   obtain⟨v,H',I3,rv,ev,q3⟩:=I2.after hq'
   subst ev
   exact⟨rv,⟨V.ref (s.heap.objs.size+1),H',I3,rfl,q3⟩⟩
  |next=>exact False.elim hq'
  |brk=>exact False.elim hq'
  |cont=>exact False.elim hq'
theorem yL (M:Mk X.K C f)(F:zo X.prog X.w X.K X.mg X.base CX k f fd ps sp)(hr:zy (k+1) X.A)(hg:Gl X x)(hm:X.mg x=some (.ref C))(hb:Binds X.K fd ps ds)(hd:Vals dvs ds)(hx:Passes CX X E)
  (ha:PA X (e::es) t) (hdb:(x == ("__debug__":Str))=false:=by decide) (he:starEach (e::es) X.env=(false,eval e X.env)::starEach es X.env:=by rfl) (hpl:(backTo pos (starEach es X.env)).any (·.1)=false:=by rfl):
  PE X (.Call (.Name x p) (e::es) [] pos) (iR C sp dvs E t):=by
 intro pins s σ H Q I h
 refine bU (yw I hg hm ?_ hdb)
 refine ax (h₀:=X.base) I.ok.mod.kin M.kp (thn (ha pos pins s σ H _ I h) fun us s1 ⟨vs,H1,I1,r,q⟩=>⟨I1.kIn,?_⟩) he hpl
 exact sQ M F hr hb hd hx I1 r q
theorem ki (M:Mk X.K C f)(F:zo X.prog X.w X.K X.mg X.base CX k f fd ps sp)(hr:zy (k+1) X.A)(hg:Gl X x)(hm:X.mg x=some (.ref C))(hb:Binds X.K fd ps ds)(hd:Vals dvs ds)(hx:Passes CX X E)
  (hdb:(x == ("__debug__":Str))=false:=by decide):PE X (.Call (.Name x p) [] [] pos) (iR C sp dvs E fg):=by
 intro pins s σ H Q I h
 refine bU (yw I hg hm ?_ hdb)
 exact PySem.W.callWith_K0 I.kIn M.kp (sQ (us:=[]) M F hr hb hd hx I .nil h)
end
section
variable {X:Cx}{CX:CXT}{k:Nat}{f C:Addr}{fd:FuncData}{ps ks:List Str}{sp:Sp}{E:XK}{x m:Str}{p pos apos kpos:Pos}{e o:Expr}{es:List Expr}{kws:List Keyword}{te ta:TE}{t tk:TA}{nm:Option Str}
variable {g:List Value→List Value→List Value}{gV:List V→List V→List V}
end
structure zg (N P:List Str)(sc:Scope):Prop where
 kind:sc.kind=.function
 co:sc.isCoroutine=false
 gen:sc.isGenerator=false
 nd:N.Nodup
 pre:N.take P.length=P
 par:∀x∈P,sc.names.lookup x=some .local∨sc.names.lookup x=some .cell
 nofree:∀y∈sc.names,y.2≠.free
theorem uE {kindOf:Str→Option NameKind}{x:Str}:∀{binds:List (Str×Value)} {m:Str→Option Value},(∀v,(x,v)∉binds)→bindL kindOf binds m x=m x
 |[],_,_=>rfl
 |(n,v)::r,m,h=>by
  unfold bindL
  rw[uE fun w hw=>h w (ba _ hw)]
  split
  ·have:x≠n:=by rintro rfl;exact h v bp
   simp[this]
  ·rfl
theorem uQ {kindOf:Str→Option NameKind}{x:Str}:∀{binds:List (Str×Value)} {m:Str→Option Value},(∀v,(x,v)∉binds)→bindC kindOf binds m x=m x
 |[],_,_=>rfl
 |(n,v)::r,m,h=>by
  unfold bindC
  rw[uQ fun w hw=>h w (ba _ hw)]
  split
  ·rfl
  ·have:x≠n:=by rintro rfl;exact h v bp
   simp[this]
theorem uH {kindOf:Str→Option NameKind}{x:Str}{v:Value}:∀{P:List Str} {vs:List Value} {i:Nat} {m:Str→Option Value},P.Nodup→P[i]?=some x→vs[i]?=some v→kindOf x=some .local→
  bindL kindOf (P.zip vs) m x=some v
 |[],_,_,_,_,h,_,_=>by simp at h
 |_::_,[],_,_,_,_,h,_=>by simp at h
 |p::P,w::vs,0,m,nd,h1,h2,hk=>by
  simp at h1 h2;subst h1;subst h2
  show bindL kindOf ((p,w)::P.zip vs) m p=_
  unfold bindL
  rw[uE fun v hv=>(zc1.mp nd).1 (List.of_mem_zip hv).1,if_pos hk]
  simp
 |p::P,w::vs,i+1,m,nd,h1,h2,hk=>by
  show bindL kindOf ((p,w)::P.zip vs) m x=_
  unfold bindL
  exact uH (i:=i) (zc1.mp nd).2 (by simpa using h1) (by simpa using h2) hk
theorem uO {kindOf:Str→Option NameKind}{x:Str}{v:Value}:∀{P:List Str} {vs:List Value} {i:Nat} {m:Str→Option Value},P.Nodup→P[i]?=some x→vs[i]?=some v→kindOf x≠some .local→
  bindC kindOf (P.zip vs) m x=some v
 |[],_,_,_,_,h,_,_=>by simp at h
 |_::_,[],_,_,_,_,h,_=>by simp at h
 |p::P,w::vs,0,m,nd,h1,h2,hk=>by
  simp at h1 h2;subst h1;subst h2
  show bindC kindOf ((p,w)::P.zip vs) m p=_
  unfold bindC
  rw[uQ fun v hv=>(zc1.mp nd).1 (List.of_mem_zip hv).1,if_neg hk]
  simp
 |p::P,w::vs,i+1,m,nd,h1,h2,hk=>by
  show bindC kindOf ((p,w)::P.zip vs) m x=_
  unfold bindC
  exact uO (i:=i) (zc1.mp nd).2 (by simpa using h1) (by simpa using h2) hk
def start (N:List Str)(vs:List V):St:=vs.map some++List.replicate (N.length-vs.length) none
def yB (CX:CXT)(P:Program)(w:World)(K:PySem.W.Frag)(mg:Str→Option Value)(base:Heap)(N:List Str)(qual:Str)(scope:Scope)(f:Addr)(cd:Value)(A:Around)(outer:List Env)(s:Shared)(H:Hp)(E:XK):Cx where
 prog:=P
 w:=w
 K:=K
 mg:=mg
 base:=base
 A:=A.deeper (envOfC qual scope s.heap.objs.size f cd)
 N:=N
 s₀:=s
 H₀:=H
 env:=envOfC qual scope s.heap.objs.size f cd
 outer:=outer
 stack:=envOfC qual scope s.heap.objs.size f cd::outer
 ex:=[]
 calm:=true
 fn:=fun _=>true
 pn:=[]
 xe:=fun e s'=>wpAny (model P w) (A.deeper (envOfC qual scope s.heap.objs.size f cd)) (leaving (envOfC qual scope s.heap.objs.size f cd) e) (fun _ s''=>CX outer H s E e s'') (fun e' s''=>CX outer H s E e' s'') s'
theorem sN {sc:Scope}{n:Nat}{x:Str}(h:sc.names.lookup x=some .cell):∃c,(cellsFrom n sc.names []).lookup x=some c:=by
 have q:=PySem.W.cellsFrom_some sc.names n [] (.inl h)
 exact Option.isSome_iff_exists.mp q
theorem nj {CX:CXT}{P:Program}{w:World}{K:PySem.W.Frag}{mg:Str→Option Value}{base:Heap}{N ps:List Str}{qual:Str}{scope:Scope}{f:Addr}{cd:Value}{A:Around}{outer:List Env}{s s1:Shared}{H:Hp}{E:XK}{us:List Value}{vs:List V}
  (S:zg N ps scope) (hd:A.handled=none) (e0:pe P w K mg base A outer s H) (hl:vs.length=ps.length) (r:Vals vs us)
  (x:InCallC s s.heap.objs.size (bindL (envOfC qual scope s.heap.objs.size f cd).kindOf (ps.zip us) fun _=>none) (cellsFrom (s.heap.objs.size+1) scope.names []) (bindC (envOfC qual scope s.heap.objs.size f cd).kindOf (ps.zip us) fun _=>none) s1):
  Inv (yB CX P w K mg base N qual scope f cd A outer s H E) [] (start N vs) H s1:=by
 have hpl:ps.length≤N.length:=by have:=congrArg List.length S.pre;rw[aS] at this;omega
 obtain⟨h1,tk,rfl,hk⟩:=x.done
 have noA:∀b:Addr,b∉(yB CX P w K mg base N qual scope f cd A outer s H E).ex:=fun b z=>absurd (show b∈([]:List Addr) from z) (by simp)
 refine⟨⟨e0.mod,S.kind,rfl,rfl,cU _,fun y z c h1 h2=>?_,fun y hy=>?_,fun y c _ h=>?_,fun _=>hd,Around.frames_deeper e0.frames,.inr ⟨rfl,rfl⟩,fun b z=>absurd z (noA b),e0.bs,e0.bsz,fun b _ _=>noA b,fun b z=>absurd z (noA b),e0.funs,e0.frf⟩,
  rfl,e0.bare,Un.kept hk,⟨_,x.toInCall.ns,fun i y v h1 h2 h3=>?_⟩,fun y c h=>⟨_,x.cell y c h⟩,e0.hok.fresh (cU _),fun y c h=>?_,fun p hp=>absurd (show p∈([]:List (Addr×Obj)) from hp) (by simp),e0.hok.kept hk,?_⟩
 ·exact name_of_addr x.apart (aa h1) (aa h2)
 ·have hy:scope.names.lookup y=some .cell∨scope.names.lookup y=some .free:=hy
  rcases hy with hy|hy
  ·exact sN hy
  ·exact absurd rfl (S.nofree _ (aa hy))
 ·exact aE (x.above y c (aa h))
 ·have hi:i<vs.length:=by
   unfold start at h2
   by_cases hi:i<vs.length
   ·exact hi
   ·rw[br (by simpa using hi)] at h2
    rw[aD] at h2
    split at h2<;>cases h2
  have ha:vs[i]?=some v:=by
   unfold start at h2
   rw[bo (by simpa using hi),bE] at h2
   cases e:vs[i]? with
   |none=>rw[e] at h2;cases h2
   |some a=>rw[e] at h2;cases h2;rfl
  obtain⟨u,hu,rv⟩:=r.get ha
  have hp:ps[i]?=some y:=by
   rw[←S.pre,List.getElem?_take_of_lt (by omega)];exact h1
  have ndP:ps.Nodup:=by rw[←S.pre];exact S.nd.sublist (List.take_sublist _ _)
  refine⟨u,rv,?_⟩
  rcases S.par y (bV hp) with k|k
  ·exact .inl ⟨k,uH ndP hp hu k⟩
  ·obtain⟨c,e⟩:=sN (n:=s.heap.objs.size+1) k
   refine .inr ⟨.inl k,c,e,?_⟩
   have q:=x.cell y c e
   rw[uO ndP hp hu (by show scope.names.lookup y≠_;rw[k];decide)] at q
   exact q
 ·exact e0.hok.fresh (aE (x.above y c (aa h)))
 ·unfold start
  show _=N.length
  rw[cW,cT,aY]
  omega
theorem oF {CX:CXT}{P:Program}{w:World}{K:PySem.W.Frag}{mg:Str→Option Value}{base:Heap}{k:Nat}{f:Addr}{name qual:Str}{params:Arguments}{body:List Stmt}{scope:Scope}{dV kV doc pm cdv ct oc:Value}{an od:Option Addr}
  {osl:Array (Option Value)} {N ps:List Str} {sp:Sp} (lk:K.lookup f=some ⟨oc,od,.func (PySem.W.fnOf name qual params body scope dV kV doc pm an cdv ct),osl⟩) (hcd:PySem.W.codeIn K cdv qual=true) (S:zg N ps scope)
  (len:∀vs H Q E,sp vs H Q E→vs.length=ps.length)
  (hbody:∀(A:Around) (outer:List Env) (s:Shared) (H:Hp) (vs:List V) (Q:VK) (E:XK),zy k (A.deeper (envOfC qual scope s.heap.objs.size f cdv))→sp vs H Q E→
   ∃t,PSs (yB CX P w K mg base N qual scope f cdv A outer s H E) body t∧t {nx:=fun _ H'=>Q .non H',rt:=Q} (start N vs) H):
  zo P w K mg base CX (k+1) f (PySem.W.fnOf name qual params body scope dV kV doc pm an cdv ct) ps sp:=by
 refine⟨len,fun A outer s H args us vs Q E hr e0 hb r hsp=>?_⟩
 have hl:=len _ _ _ _ hsp
 have KX:K.In s.heap:=e0.mod.kin.keeps fun b o e=>(e0.bs b o e).1
 have lim:s.heap.NoLimit:=e0.mod.nolimit.keeps fun b o e=>(e0.bs b o e).1
 have hkind:∀y∈ps.zip us,scope.names.lookup y.1=some .local∨(scope.names.lookup y.1=some .cell∧((cellsFrom (s.heap.objs.size+1) scope.names []).lookup y.1).isSome=true):=fun⟨n,v⟩ hy=>by
  rcases S.par n (List.of_mem_zip hy).1 with q|q
  ·exact .inl q
  ·exact .inr ⟨q,PySem.W.cellsFrom_some _ _ _ (.inl q)⟩
 refine codeAny_call_function hr.depth (KX _ _ lk) rfl S.co S.gen rfl (PySem.W.codeRec_of KX hcd) (hb _ _ _ _ ?_)
 refine wpAny_newFunctionEnv_cells S.kind hkind fun env he s1 x=>?_
 subst he
 refine⟨lim.keeps x.toInCall.keep,codeAny_func ?_⟩
 obtain⟨t,ht,hq⟩:=hbody A outer s H vs Q E (hr.deeper _) hsp
 have I:Inv (yB CX P w K mg base N qual scope f cdv A outer s H E) [] (start N vs) H s1:=nj S hr.hd e0 hl r x
 refine bF (ht [] s1 (start N vs) H _ I hq) (fun fl s' hs=>?_) fun e s' hs=>hs
 have fin:∀{σ':St} {H':Hp} {v:V} {u:Value},Inv (yB CX P w K mg base N qual scope f cdv A outer s H E) [] σ' H' s'→RelV v u→Q v H'→CE outer P w H s Q u s':=
  fun {σ' H' v u} J rv q=>⟨v,H',J.os,J.bare,J.base,J.hok,rv,q⟩
 cases fl with
 |ret u=>
  obtain⟨v,σ',H',J,rv,q⟩:=hs
  exact fin J rv q
 |next=>
  obtain⟨σ',H',J,q⟩:=hs
  exact fin (v:=V.non) (u:=Value.none) J rfl q
 |brk=>
  obtain⟨_,_,_,q⟩:=hs
  exact False.elim q
 |cont=>
  obtain⟨_,_,_,q⟩:=hs
  exact False.elim q
section
variable {X:Cx}{x:Str}{p pos:Pos}{e:Expr}{es:List Expr}{t:TA}{id T:String}{r:List V→Hp→VK→Prop}
def tCB (r:List V→Hp→VK→Prop)(t:TA):TE:=fun σ H Q=>t σ H fun vs H1=>r vs H1 Q
theorem zI (hc:yX X (.builtin id) r)(hg:Gl X x)(hm:X.mg x=none)(hv:bootBuiltins x=some (.builtin id))(ha:PA X (e::es) t)(hn:x≠"__name__":=by decide)(hdb:(x == ("__debug__":Str))=false:=by decide)
  (he:starEach (e::es) X.env=(false,eval e X.env)::starEach es X.env:=by rfl) (hpl:(backTo pos (starEach es X.env)).any (·.1)=false:=by rfl):PE X (.Call (.Name x p) (e::es) [] pos) (tCB r t):=by
 intro pins s σ H Q I h
 refine bU (wW I hg hm hv ?_ hn hdb)
 exact PyProof.Rows.callWith_builtin1 (thn (ha pos pins s σ H _ I h) fun us s1 ⟨vs,H1,I1,r1,q1⟩=>hc pins s1 σ H1 vs us Q I1 r1 q1) he hpl
theorem uz (hc:yX X (.type T) r)(hg:Gl X x)(hm:X.mg x=none)(hv:bootBuiltins x=some (.type T))(ha:PA X (e::es) t)(hn:x≠"__name__":=by decide)(hdb:(x == ("__debug__":Str))=false:=by decide)
  (he:starEach (e::es) X.env=(false,eval e X.env)::starEach es X.env:=by rfl) (hpl:(backTo pos (starEach es X.env)).any (·.1)=false:=by rfl):PE X (.Call (.Name x p) (e::es) [] pos) (tCB r t):=by
 intro pins s σ H Q I h
 refine bU (wW I hg hm hv ?_ hn hdb)
 exact aF (thn (ha pos pins s σ H _ I h) fun us s1 ⟨vs,H1,I1,r1,q1⟩=>hc pins s1 σ H1 vs us Q I1 r1 q1) he hpl
end
end L2
namespace HT
open PySem PyProof.Rows
section
open PySem.SeqAt
open PySem.AutoSeq1 (wpAny_loadPart')
open PySem.MeetsSeq PySem.MeetsSeq2 PySem.MeetsSeq3
end
section
variable {prog:Program}{w:World}{A:Around}{E:Value→Shared→Prop}{s:Shared}
def sIx (n d:Nat):Option Int→Nat
 |none=>d
 |some v=>if v<0 then (v+(n:Int)).toNat else min v.toNat n
end
end HT
namespace L2
open PySem PySem.Spec PyProof.Rows
abbrev TO :=St→Hp→(Option Int→Hp→Prop)→Prop
def PO (X:Cx)(e:Option Expr)(t:TO):Prop:=
 ∀(pins:List (Addr×Obj)) (s:Shared) (σ:St) (H:Hp) (Q:Option Int→Hp→Prop),Inv X pins σ H s→t σ H Q→
  wpAny (model X.prog X.w) X.A (evalPart e X.env) (fun u s'=>∃o H',Inv X pins σ H' s'∧IsPart u o∧Q o H') X.xe s
def iL :TO:=fun _ H Q=>Q none H
def dF (t:TE):TO:=fun σ H Q=>t σ H fun x H1=>∃i,x=.int i∧Q (some i) H1
section
variable {X:Cx}{e:Expr}{te:TE}{lo hi:Option Expr}{tl th:TO}{pos p2:Pos}
theorem tP :PO X none iL:=by
 intro pins s σ H Q I h
 rw[evalPart_none]
 exact bc ⟨none,H,I,.none,h⟩
theorem sr (h:PE X e te):PO X (some e) (dF te):=by
 intro pins s σ H Q I hw
 rw[evalPart_some]
 refine thn (h pins s σ H _ I hw) fun u s1 ⟨x,H1,I1,r1,q1⟩=>?_
 obtain⟨i,rfl,q⟩:=q1
 obtain⟨t,rfl⟩:=r1
 exact⟨some i,H1,I1,.int i t,q⟩
def SlR (X:Cx)(r:V→Option Int→Option Int→Hp→VK→Prop):Prop:=
 ∀(pins:List (Addr×Obj)) (s:Shared) (σ:St) (H:Hp) (x:V) (v vl vu:Value) (lo hi:Option Int) (sl:Addr) (Q:VK),Inv X pins σ H s→RelV x v→s.heap.IsSliceOf sl vl vu .none→IsPart vl lo→IsPart vu hi→r x lo hi H Q→
  ∃T id,typeLookup (.type T) "__getitem__"=pure (some (.builtin id))∧s.TypeIs v T∧wpAny (model X.prog X.w) X.A (getItem v (.ref sl)) (EP X pins σ Q) X.xe s
def tSl (r:V→Option Int→Option Int→Hp→VK→Prop)(te:TE)(tl th:TO):TE:=fun σ H Q=>te σ H fun x H1=>tl σ H1 fun l H2=>th σ H2 fun u H3=>r x l u H3 Q
theorem vM {r:V→Option Int→Option Int→Hp→VK→Prop}(hr:SlR X r)(he:PE X e te)(hl:PO X lo tl)(hu:PO X hi th):PE X (.Subscript e (.Slice lo hi none p2) pos) (tSl r te tl th):=by
 intro pins s σ H Q I h
 refine Subscript_ (thn (he pins s σ H _ I h) fun v s1 ⟨x,H1,I1,r1,q1⟩=>?_)
 refine wpAny_Slice (thn (hl pins s1 σ H1 _ I1 q1) fun vl s2 ⟨l,H2,I2,pl,q2⟩=>thn (hu pins s2 σ H2 _ I2 q2) fun vu s3 ⟨u,H3,I3,pu,q3⟩=>?_)
 rw[evalPart_none]
 refine bc ?_
 have I4:Inv X pins σ H3 {s3 with heap:=s3.heap.push {cls:=.type "slice",data:=.fields #[vl,vu,.none]}}:=I3.kept (t':=s3.toks) fun b ob q=>cS _ q
 obtain⟨T,id,hT,ht,hg⟩:=hr pins {s3 with heap:=s3.heap.push {cls:=.type "slice",data:=.fields #[vl,vu,.none]}} σ H3 x v vl vu l u s3.heap.objs.size Q I4 r1 (Heap.IsSliceOf.new ..) pl pu q3
 show wpAny (model X.prog X.w) X.A (subscriptTail e (.Slice lo hi none p2) v (.ref s3.heap.objs.size)) (EP X pins σ Q) X.xe {s3 with heap:=s3.heap.push {cls:=.type "slice",data:=.fields #[vl,vu,.none]}}
 exact tail_any (ops:=[.ref s3.heap.objs.size,v]) ht hT hg (by with_unfolding_all rfl)
def rk (xs:List V)(lo hi:Option Int):List V:=(xs.drop (HT.sIx xs.length 0 lo)).take (HT.sIx xs.length xs.length hi-HT.sIx xs.length 0 lo)
theorem rC (xs:List V)(lo hi:Option Int):(rk xs lo hi).length≤xs.length:=by
 unfold rk
 rw[aS,List.length_drop]
 omega
end
def ixN (n:Nat)(i:Int):Option Nat:=if 0≤i then (if i<n then some i.toNat else none) else if -(n:Int)≤i then some (i+n).toNat else none
def atI {α:Type}(xs:List α)(i:Int):Option α:=(ixN xs.length i).bind fun j=>xs[j]?
theorem sx {n:Nat}{i:Int}{j:Nat}(h:ixN n i=some j):seqIndex? i n=some j∧j<n∧-(n:Int)≤i∧i<n:=by
 unfold ixN at h
 by_cases h0:0≤i
 ·rw[if_pos h0] at h
  by_cases h1:i<n
  ·rw[if_pos h1] at h
   have e:i.toNat=j:=bt h
   exact⟨by rw[seqIndex_of h0 h1,e],by omega,by omega,h1⟩
  ·rw[if_neg h1] at h;cases h
 ·rw[if_neg h0] at h
  by_cases h1:-(n:Int)≤i
  ·rw[if_pos h1] at h
   have e:(i+n).toNat=j:=bt h
   exact⟨by rw[seqIndex_neg (by omega) h1,e],by omega,h1,by omega⟩
  ·rw[if_neg h1] at h;cases h
theorem uY {α:Type}{xs:List α}{i:Int}{v:α}(h:atI xs i=some v):∃j,seqIndex? i xs.length=some j∧xs[j]?=some v∧j<xs.length∧-(xs.length:Int)≤i∧i<xs.length:=by
 unfold atI at h
 cases e:ixN xs.length i with
 |none=>rw[e] at h;cases h
 |some j=>
  rw[e] at h
  obtain⟨h1,h2,h3,h4⟩:=sx e
  exact⟨j,h1,h,h2,h3,h4⟩
theorem tQ {α:Type}{xs:List α}{j:Nat}{v:α}(h:xs[j]?=some v):atI xs (j:Int)=some v:=by
 have hj:j<xs.length:=(cR.mp h).1
 have e:ixN xs.length (j:Int)=some j:=by
  unfold ixN
  rw[if_pos (by omega),if_pos (by omega)];simp
 unfold atI;rw[e];exact h
def oa (b:Expr):Prop:=∀o i,subscripted b false o i=operate [o,i] (getItem o i)
def IxR (X:Cx)(r:R2):Prop:=
 ∀(value slice:Expr) (pins:List (Addr×Obj)) (s:Shared) (σ:St) (H:Hp) (x y:V) (v u:Value) (Q:VK),Inv X pins σ H s→RelV x v→RelV y u→r x y H Q→
  subscripted slice false v u=operate [v,u] (getItem v u)→wpAny (model X.prog X.w) X.A (subscriptTail value slice v u) (EP X pins σ Q) X.xe s
def MtR (X:Cx)(id:String)(r:V→List V→Hp→VK→Prop):Prop:=
 ∀(pins:List (Addr×Obj)) (s:Shared) (σ:St) (H:Hp) (x:V) (xs:List V) (v:Value) (us:List Value) (Q:VK),Inv X pins σ H s→RelV x v→Vals xs us→r x xs H Q→
  wpAny (model X.prog X.w) X.A (call (.builtin id) (v::us)) (EP X pins σ Q) X.xe s
section
variable {X:Cx}{a b:Expr}{ta tb:TE}{pos:Pos}
theorem IxR.or {r r':R2}(h:IxR X r)(h':IxR X r'):IxR X (fun x y H Q=>r x y H Q∨r' x y H Q):=by
 intro value slice pins s σ H x y v u Q I rx ry q hs
 rcases q with q|q
 ·exact h value slice pins s σ H x y v u Q I rx ry q hs
 ·exact h' value slice pins s σ H x y v u Q I rx ry q hs
theorem zG {r:R2}(hr:IxR X r)(ha:PE X a ta)(hb:PE X b tb)(hs:oa b):PE X (.Subscript a b pos) (tOp r ta tb):=by
 intro pins s σ H Q I h
 exact Subscript_ (gF ha hb I h fun v u s2 x y H2 I2 rx ry q=>hr a b pins s2 σ H2 x y v u Q I2 rx ry q (hs _ _))
def dE (K:PySem.W.Frag):R2:=fun x y H Q=>∃p xs i v,x=.ref p∧y=.int i∧SqL K H p xs∧atI xs i=some v∧Q v H
def eN (K:PySem.W.Frag):R2:=fun x y H Q=>∃p xs i v,x=.ref p∧y=.int i∧SqT K H p xs∧atI xs i=some v∧Q v H
def dq :R2:=fun x y H Q=>∃z i c,x=.str z∧y=.int i∧z.length≤sizeLine∧atI z.cps.toList i=some c∧Q (.str ⟨#[c]⟩) H
theorem zJ :IxR X (dE X.K):=by
 intro value slice pins s σ H x y v u Q I rx ry h hs
 obtain⟨p,xs,i,z,rfl,rfl,hq,he,q⟩:=h
 cases rx
 obtain⟨t,rfl⟩:=ry
 obtain⟨its,r,pl,hz⟩:=I.list hq
 obtain⟨j,h1,h2,h3,h4,h5⟩:=uY he
 obtain⟨w,ew,rw'⟩:=r.get h2
 have hl:=r.length
 have hn:=uq
 have fin:EP X pins σ Q w s:=⟨z,H,I,rw',q⟩
 by_cases h0:0≤i
 ·have hj:i.toNat=j:=by
   rw[seqIndex_of h0 h5] at h1
   exact bt h1
  exact item_listR pl.isList h0 (by omega) (by rw[hj];simpa using ew) fin hs
 ·have hj:(i+(its.toArray.size:Int)).toNat=j:=by
   rw[seqIndex_neg (by omega) h4] at h1
   rw[cX,←hl]
   exact bt h1
  exact subscriptTail_builtinR (x:=w) pl.isList.typeIs slot_list_getitem.lookup
   (wpAny_getItem_list_neg (Q:=fun r s'=>r=w∧EP X pins σ Q r s') pl.isList (by omega) (by rw[cX]<;>omega) (by omega) (by rw[hj];simpa using ew) ⟨rfl,fin⟩) hs
theorem yh :IxR X (eN X.K):=by
 intro value slice pins s σ H x y v u Q I rx ry h hs
 obtain⟨p,xs,i,z,rfl,rfl,hq,he,q⟩:=h
 cases rx
 obtain⟨t,rfl⟩:=ry
 obtain⟨its,r,pl,hz⟩:=I.tuple hq
 obtain⟨j,h1,h2,h3,h4,h5⟩:=uY he
 obtain⟨w,ew,rw'⟩:=r.get h2
 have hl:=r.length
 have hn:=uq
 have fin:EP X pins σ Q w s:=⟨z,H,I,rw',q⟩
 exact subscriptTail_builtinR (x:=w) pl.typeIs slot_tuple_getitem.lookup
  (getItem_tuple (j:=j) (Q:=fun r s'=>r=w∧EP X pins σ Q r s') pl (by omega) (by omega) (by rw[cX,←hl];exact h1) (by simpa using ew) ⟨rfl,fin⟩) hs
theorem eh :IxR X dq:=by
 intro value slice pins s σ H x y v u Q I rx ry h hs
 obtain⟨z,i,c,rfl,rfl,hz,he,q⟩:=h
 obtain⟨t,rfl⟩:=rx
 obtain⟨t',rfl⟩:=ry
 obtain⟨j,h1,h2,h3,h4,h5⟩:=uY he
 have hl:z.cps.toList.length=z.length:=by simp[Str.length]
 rw[hl] at h1 h4 h5
 have hn:=uq
 exact tail_any (typeIs_str s z t) slot_str_getitem.lookup (getItem_str (c:=c) (by
  have e1:decide (i < -(2 ^ 63:Int))=false:=bL (by omega)
  have e2:decide (i≥2 ^ 63)=false:=bL (by omega)
  rw[e1,e2,Bool.or_false]) (by rw[h1];simpa using h2) ⟨.str ⟨#[c]⟩,H,I.tok _,⟨_,rfl⟩,q⟩) hs
def rIx (K:PySem.W.Frag):R2:=fun x y H Q=>dE K x y H Q∨eN K x y H Q∨dq x y H Q
theorem gS :IxR X (rIx X.K):=zJ.or (yh.or eh)
theorem qM (its:List Value)(n j:Nat)(u:Value):Obj.mapSeq (·.setIfInBounds j u) {cls:=.type "list",data:=.seq its.toArray n}={cls:=.type "list",data:=.seq (its.set j u).toArray n}:=by
 simp[Obj.mapSeq]
theorem Inv.lst {pins:List (Addr×Obj)}{σ:St}{H:Hp}{s:Shared}{p:Addr}{xs:List V}(I:Inv X pins σ H s)(h:H p=some (.lst xs)):
  ∃(its:List Value) (n:Nat),Vals xs its∧s.heap.get? p=some {cls:=.type "list",data:=.seq its.toArray n}∧xs.length≤sizeLine:=by
 obtain⟨z,its,n,r,e⟩:=I.hok p _ h
 exact⟨its,n,r,e,z⟩
theorem Inv.lstUpd {pins:List (Addr×Obj)}{σ:St}{H:Hp}{s:Shared}{p:Addr}{xs ys:List V}{its its':List Value}{n n':Nat}{f:Obj→Obj}(I:Inv X pins σ H s)(h:H p=some (.lst xs))
  (ho:s.heap.get? p=some {cls:=.type "list",data:=.seq its.toArray n}) (hf:f {cls:=.type "list",data:=.seq its.toArray n}={cls:=.type "list",data:=.seq its'.toArray n'}) (r:Vals ys its') (hz:ys.length≤sizeLine) (t:Nat):
  Inv X pins σ (upd H p (.lst ys)) {s with heap:=s.heap.update p f,toks:=t}:=by
 have e:(s.heap.update p f).get? p=some {cls:=.type "list",data:=.seq its'.toArray n'}:=by
  rw[az f ho (by rw[hf]<;>rfl),hf]
 refine I.write (x:=p) (e:=p) (by rw[h];trivial) (.inl rfl) (fun b u hb q=>(bf _ _ (aW hb)).trans q) ⟨_,e⟩ ?_
 exact⟨hz,its',n',r,e⟩
def dW :V→V→V→Hp→(Hp→Prop)→Prop:=fun o i v H Q=>∃p xs k j,o=.ref p∧i=.int k∧H p=some (.lst xs)∧ixN xs.length k=some j∧Q (upd H p (.lst (xs.set j v)))
theorem set_list :dz X dW:=by
 intro pins s σ H o i v ov iv u Q I ro ri rv h
 obtain⟨p,xs,k,j,rfl,rfl,hp,hj,q⟩:=h
 cases ro
 obtain⟨t,rfl⟩:=ri
 obtain⟨its,n,r,ho,hz⟩:=I.lst hp
 obtain⟨h1,h2,h3,h4⟩:=sx hj
 have hl:=r.length
 have hn:=uq
 have I':Inv X pins σ (upd H p (.lst (xs.set j v))) {s with heap:=s.heap.update p (Obj.mapSeq (·.setIfInBounds j u))}:=
  I.lstUpd hp ho (qM its n j u) (r.set rv j) (by rw[bB];exact hz) s.toks
 by_cases h0:0≤k
 ·have hk:k.toNat=j:=by
   rw[seqIndex_of h0 h4] at h1
   exact bt h1
  exact PySem.W.ki_setAt ho h0 (by omega) (by rw[cX,←hl];exact h4) (by rw[hk];exact⟨_,I',q⟩)
 ·have hk:(k+(its.toArray.size:Int)).toNat=j:=by
   rw[seqIndex_neg (by omega) h3] at h1
   rw[cX,←hl]
   exact bt h1
  exact PySem.W.ki_setBack ho (by omega) (by rw[cX,←hl];exact h3) (by omega) (by rw[hk];exact⟨_,I',q⟩)
theorem tN (lo hi:Option Int)(n:Nat):(sliceBounds lo hi none n).1=((HT.sIx n 0 lo:Nat):Int)∧(sliceBounds lo hi none n).2.1=((HT.sIx n n hi:Nat):Int)∧(sliceBounds lo hi none n).2.2=1:=by
 refine⟨?_,?_,rfl⟩
 ·cases lo with
  |none=>simp[sliceBounds,HT.sIx]
  |some i=>
   simp only[sliceBounds,HT.sIx,Option.getD_none,show (1:Int) > 0 by decide,if_true]
   by_cases h:i<0
   ·simp only[h,if_true]<;>omega
   ·simp only[h,if_false]<;>omega
 ·cases hi with
  |none=>simp[sliceBounds,HT.sIx]
  |some i=>
   simp only[sliceBounds,HT.sIx,Option.getD_none,show (1:Int) > 0 by decide,if_true]
   by_cases h:i<0
   ·simp only[h,if_true]<;>omega
   ·simp only[h,if_false]<;>omega
theorem uy (its:List Value)(lo hi:Option Int):slicePick its.toArray lo hi none=((its.drop (HT.sIx its.length 0 lo)).take (HT.sIx its.length its.length hi-HT.sIx its.length 0 lo)).toArray:=by
 obtain⟨h1,h2,h3⟩:=tN lo hi its.toArray.size
 unfold slicePick
 rw[h1,h2,h3]
 simp only[sliceRange_one,pick_run,cX]<;>rfl
def cP (K:PySem.W.Frag):V→Option Int→Option Int→Hp→VK→Prop:=fun x lo hi H Q=>∃a xs,x=.ref a∧SqL K H a xs∧∀p,H p=none→Q (.ref p) (upd H p (.lst (rk xs lo hi)))
theorem sk :SlR X (cP X.K):=by
 intro pins s σ H x v vl vu lo hi sl Q I rx hs pl pu h
 obtain⟨a,xs,rfl,hx,q⟩:=h
 cases rx
 obtain⟨its,r,ht,hz⟩:=I.list hx
 have hlen:=r.length
 refine⟨"list",_,slot_list_getitem.lookup,ht.isList.typeIs,?_⟩
 refine wpAny_getItem_list_slice ht.isList hs pl pu .none (by simp) ?_ (by rw[cX]<;>omega)
 rw[uy,←hlen]
 refine⟨.ref s.heap.objs.size,_,I.laid (t':=s.toks) (o:=.lst (rk xs lo hi)) (fun b ob q=>cS _ q) (cU _) ?_,rfl,q _ (I.hok.fresh (cU _))⟩
 exact⟨ae (rC xs lo hi) hz,_,0,(r.drop (HT.sIx xs.length 0 lo)).take (HT.sIx xs.length xs.length hi-HT.sIx xs.length 0 lo),bK _ rfl⟩
theorem zX :yX X (.builtin "len") (fun xs H Q=>∃p ys,xs=[.ref p]∧(SqL X.K H p ys∨SqT X.K H p ys)∧Q (.int ys.length) H):=by
 intro pins s σ H xs us Q I r h
 obtain⟨p,ys,rfl,hq,q⟩:=h
 obtain⟨u,rfl,rx⟩:=vals1 r
 cases rx
 have hn:=uq
 rcases hq with hq|hq
 ·obtain⟨its,r',pl,hz⟩:=I.list hq
  have hlen:=r'.length
  exact Calls.call_len_list pl.isList (by simp only[cX]<;>omega) ⟨.int ys.length,H,I.tok _,⟨s.toks+1,by rw[cX,hlen]⟩,q⟩
 ·obtain⟨its,r',pl,hz⟩:=I.tuple hq
  have hlen:=r'.length
  exact len_tuple pl (by simp only[cX]<;>omega) ⟨.int ys.length,H,I.tok _,⟨s.toks+1,by rw[cX,hlen]⟩,q⟩
theorem wo :yX X (.type "list") (fun xs H Q=>∃p ys,xs=[.ref p]∧(SqL X.K H p ys∨SqT X.K H p ys)∧∀l,H l=none→Q (.ref l) (upd H l (.lst ys))):=by
 intro pins s σ H xs us Q I r h
 obtain⟨p,ys,rfl,hq,q⟩:=h
 obtain⟨u,rfl,rx⟩:=vals1 r
 cases rx
 have fin:∀(its:List Value),Vals ys its→ys.length≤sizeLine→∀(h':Heap) (c':Nat),(∀b o',s.heap.get? b=some o'→h'.get? b=some o')→
   h'.get? s.heap.objs.size=some {cls:=.type "list",dict:=none,data:=.seq its.toArray c',slots:=#[]}→EP X pins σ Q (.ref s.heap.objs.size) {s with heap:=h'}:=fun its r' hz h' c' kp e=>
  ⟨.ref s.heap.objs.size,_,I.laid (t':=s.toks) kp (cU _) (show zZ X.prog X.w _ h' _ (.lst ys) from ⟨hz,its,c',r',e⟩),rfl,q _ (I.hok.fresh (cU _))⟩
 rcases hq with hq|hq
 ·obtain⟨its,r',pl,hz⟩:=I.list hq
  have hlen:=r'.length
  obtain⟨o,ho,hc,n,hd⟩:=pl.isList
  exact call_list_seq p (.inl rfl) ho hc hd (fun h' c' kp e=>fin its r' hz h' c' kp e) (by simp only[cX]<;>omega)
 ·obtain⟨its,r',pl,hz⟩:=I.tuple hq
  have hlen:=r'.length
  obtain⟨o,ho,hc,n,hd⟩:=pl
  exact call_list_seq p (.inr rfl) ho hc hd (fun h' c' kp e=>fin its r' hz h' c' kp e) (by simp only[cX]<;>omega)
def tyV (K:PySem.W.Frag)(T:String)(x:V)(H:Hp):Prop:=match x with
 |.str _=>T="str"
 |.int _=>T="int"
 |.ref p=>(T="list"∧∃xs,SqL K H p xs)∨(T="tuple"∧∃o,K.lookup p=some o∧o.cls=.type "tuple"∧o.dict=none)∨
   (T="dict"∧((∃kvs,H p=some (.dK kvs))∨∃kvs,H p=some (.dT kvs)))∨(T="set"∧∃S n,H p=some (.set S n))
 |_=>False
theorem fG {pins:List (Addr×Obj)}{σ:St}{H:Hp}{s:Shared}{T:String}{x:V}{v:Value}(I:Inv X pins σ H s)(r:RelV x v)(ty:tyV X.K T x H):
  s.TypeIs v T∧∀a,v=.ref a→∃ob,s.heap.get? a=some ob∧ob.dict=none:=by
 cases x with
 |str z=>
  obtain⟨t,rfl⟩:=r
  cases (show T="str" from ty)
  exact⟨typeIs_str s z t,fun _ e=>nomatch e⟩
 |int i=>
  obtain⟨t,rfl⟩:=r
  cases (show T="int" from ty)
  exact⟨typeIs_int s i t,fun _ e=>nomatch e⟩
 |ref p=>
  cases r
  rcases ty with ⟨rfl,xs,hq⟩|⟨rfl,o,hk,hc,hd⟩|⟨rfl,hk⟩|⟨rfl,S,n,hk⟩
  ·obtain⟨its,_,pl,_⟩:=I.list hq
   refine⟨pl.isList.typeIs,fun a e=>?_⟩
   cases e
   obtain⟨o,n,e,c,hd,_⟩:=pl
   exact⟨o,e,hd⟩
  ·refine⟨⟨o,I.kIn p o hk,hc⟩,fun a e=>?_⟩
   cases e
   exact⟨o,I.kIn _ o hk,hd⟩
  ·have z:∃o,s.heap.get? p=some o∧o.ExactDict:=by
    rcases hk with ⟨kvs,hk⟩|⟨kvs,hk⟩
    ·obtain⟨_,_,_,_,o,_,_,e,ex,_⟩:=I.hok p _ hk
     exact⟨o,e,ex⟩
    ·obtain⟨_,_,_,_,o,_,_,e,ex,_⟩:=I.hok p _ hk
     exact⟨o,e,ex⟩
   obtain⟨o,e,ex⟩:=z
   refine⟨⟨o,e,ex.1⟩,fun a e2=>?_⟩
   cases e2
   exact⟨o,e,ex.2.1⟩
  ·obtain⟨o,_,_,_,e,ex,_⟩:=I.hok p _ hk
   refine⟨⟨o,e,ex.1⟩,fun a e2=>?_⟩
   cases e2
   exact⟨o,e,ex.2.1⟩
 |_=>exact False.elim ty
def tBM (K:PySem.W.Frag)(T:String)(r:V→List V→Hp→VK→Prop)(to:TE)(t:TA):TE:=fun σ H Q=>to σ H fun x H1=>tyV K T x H1∧t σ H1 fun xs H2=>r x xs H2 Q
variable {o e:Expr}{es:List Expr}{to:TE}{t:TA}{name:Str}{apos cpos:Pos}{T id:String}{r:V→List V→Hp→VK→Prop}
theorem kZ (pa:PlainAttrs T)(slot:Slot T name id)(hty:typeOf (.builtin id)=pure (.type "method_descriptor"))(hm:MtR X id r)(ho:PE X o to)(ha:PA X (e::es) t)
  (hbase:attributeBase o name X.env (eval o X.env)=eval o X.env:=by rfl)
  (hfew:((backTo cpos (starEach (e::es) X.env)).all (fun x=>!x.1)&&(backToKw cpos (keywordEach [] X.env)).all (fun x=>x.1.isSome)
   &&decide ((e::es).length+([]:List Keyword).length+(if ([]:List Keyword).isEmpty then 0 else 1)<30))=true:=by rfl)
  (hline:(apos.endLine == cpos.line)=true:=by rfl) (hs:starEach (e::es) X.env=(false,eval e X.env)::starEach es X.env:=by rfl) (hplain:(backTo cpos (starEach es X.env)).any (·.1)=false:=by rfl):
  PE X (.Call (.Attribute o name apos) (e::es) [] cpos) (tBM X.K T r to t):=by
 intro pins s σ H Q I h
 refine wpAny_Call_method_late hbase hfew hline rfl (thn (ho pins s σ H _ I h) fun v s1 ⟨x,H1,I1,r1,ty,q1⟩=>?_)
 obtain⟨h1,h2⟩:=fG I1 r1 ty
 refine⟨T,id,pa,slot,hty,h1,h2,?_⟩
 have hA:=ha cpos pins s1 σ H1 _ I1 q1
 rw[hs] at hA ⊢
 refine Calls.callWith_builtin (by show (false||(backTo cpos (starEach es X.env)).any (·.1))=false;rw[hplain]<;>rfl) (Calls.evalArgs_plain ?_)
 exact thn hA fun us s2 ⟨vs,H2,I2,r2,q2⟩=>hm pins s2 σ H2 x vs v us Q I2 r1 r2 q2
/- xs.append(e),list.index on a module's tuple .. are MtR facts of 06m -/
end
def MtM (X:Cx)(id:String)(r:V→List V→Hp→VK→Prop):Prop:=
 ∀(pins:List (Addr×Obj)) (s:Shared) (σ:St) (H:Hp) (x:V) (xs:List V) (v:Value) (us:List Value) (Q:VK),Inv X pins σ H s→RelV x v→Vals xs us→r x xs H Q→
  wpAny (model X.prog X.w) X.A (call (.builtin id) (v::us)) (EP X pins σ Q) X.xe s
theorem Vals.one :∀{x:V} {us:List Value},Vals [x] us→∃u,us=[u]∧RelV x u
 |_,_,.cons r .nil=>⟨_,rfl,r⟩
theorem Vals.two :∀{x y:V} {us:List Value},Vals [x,y] us→∃u v,us=[u,v]∧RelV x u∧RelV y v
 |_,_,_,.cons r (.cons q .nil)=>⟨_,_,rfl,r,q⟩
theorem Vals.eraseIdx :∀{xs:List V} {us:List Value} (i:Nat),Vals xs us→Vals (xs.eraseIdx i) (us.eraseIdx i)
 |_,_,_,.nil=>.nil
 |_,_,0,.cons _ t=>t
 |_,_,i+1,.cons r t=>.cons r (Vals.eraseIdx i t)
theorem uA {α:Type}:∀(l:List α) (i:Nat),(l.eraseIdx i).length≤l.length
 |[],_=>cU _
 |_::_,0=>aQ _
 |_::r,i+1=>Nat.succ_le_succ (uA r i)
section
variable {X:Cx}{pins:List (Addr×Obj)}{σ:St}{H:Hp}{s:Shared}{l b:Addr}{xs ys zs:List V}
theorem Inv.lset {its its':List Value}{n:Nat}{f:Array Value→Array Value}{t':Nat}(I:Inv X pins σ H s)(hH:H l=some (.lst xs))
  (e:s.heap.get? l=some {cls:=.type "list",data:=.seq its.toArray n}) (hf:f its.toArray=its'.toArray) (hv:Vals ys its') (hz:ys.length≤sizeLine):
  Inv X pins σ (upd H l (.lst ys)) {s with heap:=s.heap.update l (Obj.mapSeq f),toks:=t'}:=by
 have q:=PySem.IsL.update e f
 rw[hf] at q
 refine I.write (x:=l) (e:=l) (by rw[hH];exact trivial) (.inl rfl) (fun b' u hb hu=>(bf s.heap (Obj.mapSeq f) (aW hb)).trans hu) ⟨_,q⟩ ?_
 exact⟨hz,its',_,hv,q⟩
theorem Inv.lnew {its:List Value}{t':Nat}(I:Inv X pins σ H s)(hv:Vals ys its)(hz:ys.length≤sizeLine):
  Inv X pins σ (upd H s.heap.objs.size (.lst ys)) {s with heap:=s.heap.push {cls:=.type "list",data:=.seq its.toArray},toks:=t'}:=
 I.laid (fun _ _ q=>cS _ q) (cU _) ⟨hz,its,0,hv,bK _ rfl⟩
theorem Inv.fresh (I:Inv X pins σ H s):H s.heap.objs.size=none:=I.hok.fresh (cU _)
theorem Inv.lstM (I:Inv X pins σ H s)(hH:H l=some (.lst xs)):xs.length≤sizeLine∧∃(its:List Value) (n:Nat),Vals xs its∧xs.length=its.length∧s.heap.get? l=some {cls:=.type "list",data:=.seq its.toArray n}:=by
 obtain⟨z,its,n,r,e⟩:=I.hok l _ hH
 exact⟨z,its,n,r,r.length,e⟩
theorem lW {n:Nat}(h:n≤sizeLine):Builtin.List.listTooLong n=false:=by
 unfold Builtin.List.listTooLong
 exact bL (by omega)
end
section
variable {X:Cx}
def jL :V→List V→Hp→VK→Prop:=fun x vs H Q=>∃l xs y,x=.ref l∧vs=[y]∧H l=some (.lst xs)∧xs.length<sizeLine∧Q .non (upd H l (.lst (xs++[y])))
theorem uG :MtM X "list.append" jL:=by
 intro pins s σ H x vs v us Q I rx rv h
 obtain⟨l,xs,y,rfl,rfl,hH,hz,q⟩:=h
 cases rx
 obtain⟨u,rfl,ru⟩:=rv.one
 obtain⟨z,its,n,r,hl,e⟩:=I.lstM hH
 refine call_meets F.slot_list_append ⟨_,e,rfl⟩ F.entry_list_append (F.args_list_append_2 _ _) (PySem.list_append l its.toArray n u (by rw[cX];omega)) ⟨e,?_⟩
 refine⟨.non,_,I.lset (its':=its++[u]) hH e (by simp) (r.append (.cons ru .nil)) ?_,rfl,q⟩
 rw[cW,zb8]
 omega
def iG :V→List V→Hp→VK→Prop:=fun x vs H Q=>∃l b xs zs,x=.ref l∧vs=[.ref b]∧H l=some (.lst xs)∧H b=some (.lst zs)∧xs.length+zs.length≤sizeLine∧Q .non (upd H l (.lst (xs++zs)))
theorem nG :MtM X "list.extend" iG:=by
 intro pins s σ H x vs v us Q I rx rv h
 obtain⟨l,b,xs,zs,rfl,rfl,hH,hB,hz,q⟩:=h
 cases rx
 obtain⟨u,rfl,ru⟩:=rv.one
 cases ru
 obtain⟨z,its,n,r,hl,e⟩:=I.lstM hH
 obtain⟨z2,its2,n2,r2,hl2,e2⟩:=I.lstM hB
 have hsz:its.toArray.size+its2.toArray.size≤sizeLine:=by rw[cX,cX];omega
 have hlong:¬(!its.toArray.isEmpty&&Builtin.List.listTooLong (its.toArray.size+its2.toArray.size))=true:=by
  rw[lW hsz,Bool.and_false]
  exact cZ
 refine call_meets F.slot_list_extend ⟨_,e,rfl⟩ F.entry_list_extend (F.args_list_extend_2 _ _)
  (AutoSeq1.list_extend_list_list_0 l its.toArray n b its2.toArray n2 hlong (by rw[cX];omega) (by omega)) ⟨e,e2,?_⟩
 refine⟨.non,_,I.lset (its':=its++its2) hH e (by simp) (r.append r2) ?_,rfl,q⟩
 rw[cW]
 omega
def gm :V→List V→Hp→VK→Prop:=fun x vs H Q=>∃l xs i k y,x=.ref l∧vs=[.int i]∧H l=some (.lst xs)∧-(2 ^ 63)≤i∧i<2 ^ 63∧seqIndex? i xs.length=some k∧xs[k]?=some y∧Q y (upd H l (.lst (xs.eraseIdx k)))
theorem lP :MtM X "list.pop" gm:=by
 intro pins s σ H x vs v us Q I rx rv h
 obtain⟨l,xs,i,k,y,rfl,rfl,hH,h1,h2,hk,hy,q⟩:=h
 cases rx
 obtain⟨u,rfl,ru⟩:=rv.one
 obtain⟨t,rfl⟩:=ru
 obtain⟨z,its,n,r,hl,e⟩:=I.lstM hH
 obtain⟨w,hw,rw'⟩:=r.get hy
 refine call_meets F.slot_list_pop ⟨_,e,rfl⟩ F.entry_list_pop (F.args_list_pop_2 _ _)
  (MeetsSeq.list_pop_at l its.toArray n i t k w (fitsIndex_both h1 h2) (by rw[cX,←hl];exact hk) (by rw[←Array.getElem?_toList];exact hw) (by rw[cX];omega)) ⟨e,?_⟩
 refine⟨y,_,I.lset (its':=its.eraseIdx k) hH e ?_ (r.eraseIdx k) ?_,rw',q⟩
 ·show its.toArray.eraseIdxIfInBounds k=(its.eraseIdx k).toArray
  rw[List.eraseIdxIfInBounds_toArray]
 ·have:=uA xs k
  omega
def cu :R2:=fun x y H Q=>∃l b xs zs,x=.ref l∧y=.ref b∧H l=some (.lst xs)∧H b=some (.lst zs)∧xs.length+zs.length≤sizeLine∧∀p,H p=none→Q (.ref p) (upd H p (.lst (xs++zs)))
theorem gE :OpR X (binaryOp .Add) cu:=by
 intro pins s σ H x y v u Q I rx ry h
 obtain⟨l,b,xs,zs,rfl,rfl,hH,hB,hz,q⟩:=h
 cases rx
 cases ry
 obtain⟨z,its,n,r,hl,e⟩:=I.lstM hH
 obtain⟨z2,its2,n2,r2,hl2,e2⟩:=I.lstM hB
 refine PySem.P.add_list e e2 ?_ (by rw[cX,cX];omega)
 have ea:its.toArray++its2.toArray=(its++its2).toArray:=by simp
 rw[ea]
 exact⟨.ref _,_,I.lnew (t':=s.toks) (r.append r2) (by rw[cW];omega),rfl,q _ I.fresh⟩
end
section
variable {prog:Program}{w:World}{A:Around}{E:Value→Shared→Prop}{s:Shared}
end
section
variable {X:Cx}
end
end L2
namespace Att
open PySem PySem.W PySem.Calls PyProof.Rows
theorem vt {P:Params}{h:Heap}:∀(ns:List Int) (vs:List Value),WellAll P h vs (ns.map WData.int)→IntsAre vs ns:=by
 intro ns
 induction ns with
 |nil=>
  intro vs w
  rw[List.map_nil] at w
  cases w
  exact .nil
 |cons n ns ih=>
  intro vs w
  rw[aL] at w
  cases w with
  |cons a b=>
   cases a
   exact .cons _ _ (ih _ b)
theorem nK {l:OpenLaw}{n:Nat}(hn:l.most=some n){P:Params}{h:Heap}{args:List WData}{vals:List Value}
  (hpre:l.row.toRowW.claim.pre args=true) (hwl:WellAll P h vals args):
  ∃a vs ns,vals=[Value.ref a]∧args=[WData.list (ns.map WData.int)]∧h.get? a=some {cls:=.type "list",data:=.seq vs.toArray}∧IntsAre vs ns∧ns.length≤n:=by
 have hsh:WShape.hasAll [] args [.list .int]=true:=(pre_splitW hpre).1
 have hc:l.pre.holds [] {args:=args}=true:=(pre_splitW hpre).2
 obtain⟨d,r,rfl,h1,h2⟩:=hasAllW_cons hsh
 obtain rfl:=hasAllW_nil h2
 obtain⟨xs,rfl,h3⟩:=hasW_list h1
 obtain⟨ns,rfl⟩:=items_int h3
 have hlen:ns.length≤n:=by
  unfold OpenLaw.pre at hc
  have h4:(WTm.not (.lt (.lit (.int (n:Int))) (.len (.arg 0)))).holds [] {args:=[.list (ns.map .int)]}=true:=by
   have h4:=(holds_andW hc).1
   rw[hn] at h4
   exact h4
  have h5:=condW_of h4 (w_not (w_lt w_lit (w_len_list (w_arg rfl))))
  rw[cT] at h5
  refine Nat.le_of_not_lt fun q=>?_
  have q':(n:Int)<((ns.length:Nat):Int):=by omega
  first
   |(rw[bY q'] at h5;exact absurd h5 (by decide))
   |(simp at h5;omega)
 cases hwl with
 |cons w1 w2=>
  cases w2
  cases w1 with
  |list ho hall=>exact⟨_,_,ns,rfl,rfl,ho,vt ns _ hall,hlen⟩
theorem oQ (l:OpenLaw)(args:List WData):l.row.toRowW.claim.post args (.bool true) args=true:=
 postW_of (r:=l.row.toRowW) (X:=(true == true))
  (show WShape.has [] (.bool true) .bool=true by first|rfl|decide|simp[WShape.has,WShape.arms,WShape.armsAll])
  (show (WTm.eq .res (.lit (.bool true))).value [] {args:=args,res:=some (.bool true),after:=args}=some (.bool (true == true)) from w_eq_bool (w_res rfl) w_lit) rfl
theorem attach_call {l:OpenLaw}{n:Nat}{q:Program}{loose:List Str}{XP:(Str→Option Value)→Heap→Prop}{YP:World→Heap→Prop}{d:DefRec}
  (hn:l.most=some n) (hdf:d.params.defaults=[])
  (call:∀(w:World) (s₀ s₁:Shared) (mg mb:Str→Option Value) (fa:Addr) (o:Obj) (pm cd doc:Value) (a:Addr) (vs:List Value) (ns:List Int),
   Ground q loose [] XP w s₀ mg mb s₁.heap→YP w s₁.heap→
   s₁.heap.get? fa=some o→o.data=.func (docDef d.name d.params d.body d.scope pm cd doc)→s₁.heap.CodeRec cd d.name→mg d.name=some (.ref fa)→
   s₁.heap.get? a=some {cls:=.type "list",data:=.seq vs.toArray}→IntsAre vs ns→ns.length≤n→s₁.gens=#[]→
   codeAny (model l.prog w) callerA (.call (.ref fa) ⟨[.ref a],[]⟩) (fun r s'=>r=.ok (.ret (.bool true))∧OldK s₁.heap s'.heap∧s'.os=s₁.os∧AllBare s'.gens) s₁):
  WalkO q loose XP YP l.row.toRowW d [] (fun f vs=>PySem.call f vs):=by
 intro w s₀ s₁ mg mb G Y fa o pm cd doc dV kV ho hd hcd hD hmg hg args vals as hpre hlay hrd hwl hlo
 obtain rfl:dV=.none:=Dflts.none hD hdf
 obtain rfl:kV=.none:=Dflts.noKw hD
 obtain⟨a,vs,ns,rfl,rfl,hobj,hints,hlen⟩:=nK hn hpre hwl
 refine enter_call (aX (call w s₀ s₁ mg mb fa o pm cd doc a vs ns G Y ho (fd_plain hd) hcd hmg hobj hints hlen hg) fun r s' hq=>?_)
 obtain⟨rfl,h2,h3,h4⟩:=hq
 exact⟨.inl ⟨.bool true,.bool true,[],rfl,fun _=>rfl,.bool true,oQ l _,fun _=>⟨List.Pairwise.nil,fun _ hm=>(nomatch hm)⟩⟩,h2,h3,h4⟩
section
variable {prog:Program}{w:World}{A:Around}{E:Value→Shared→Prop}{s:Shared}{K:Frag}
end
end Att
namespace L2
open PySem PySem.Spec PyProof.Rows
theorem uL :∀{vs:List Value} {ns:List Int},IntsAre vs ns→Vals (ns.map V.int) vs
 |_,_,.nil=>.nil
 |_,_,.cons n t h=>.cons ⟨t,rfl⟩ (uL h)
def gU (H:Hp):Prop:=∀b,H b=none∨∃o xs,H b=some (.frz o (.lst xs))
theorem mY {P:Program}{w:World}{K:PySem.W.Frag}{mg mb:Str→Option Value}{CX:CXT}{k:Nat}{fa a:Addr}{fd:FuncData}{x:Str}{sp:Sp}{s₁:Shared}{vs:List Value}{ns:List Int}
  (KX:K.In s₁.heap) (hns:s₁.heap.Ns mainGlobals mg) (hb:s₁.heap.Ns builtinsNs mb) (hbb:∀x:Str,x≠"__name__"→mb x=bootBuiltins x) (hlim:s₁.heap.NoLimit) (hg:s₁.gens=#[])
  (ha:s₁.heap.get? a=some {cls:=.type "list",data:=.seq vs.toArray}) (hi:IntsAre vs ns) (hl:ns.length≤sizeLine) (hr:zy k callerA)
  (F:∀base:Heap,K.In base→base.Ns mainGlobals mg→zo P w K mg base CX k fa fd [x] sp) (hbind:∀(s:Shared) (u:Value),BindsTo s fd ⟨[u],[]⟩ [(x,u)])
  (hsp:∀H:Hp,gU H→SqL K H a (ns.map V.int)→sp [.ref a] H (fun v _=>v=.bl true) fun _ _ _=>False)
  (hCX:∀H e s',CX [] H s₁ (fun _ _ _=>False) e s'→False):
  codeAny (model P w) callerA (.call (.ref fa) ⟨[.ref a],[]⟩) (fun r s'=>r=.ok (.ret (.bool true))∧OldK s₁.heap s'.heap∧s'.os=s₁.os∧AllBare s'.gens) s₁:=by
 have rv:=uL hi
 have lenV:=hi.length
 -- from an abstract heap in which nothing but the script may be tracked
 have core:∀H:Hp,gU H→SqL K H a (ns.map V.int)→HOk P w H s₁.heap→(∀b,H b≠none→b=a)→(H a≠none→K.lookup a=none)→
   codeAny (model P w) callerA (.call (.ref fa) ⟨[.ref a],[]⟩) (fun r s'=>r=.ok (.ret (.bool true))∧OldK s₁.heap s'.heap∧s'.os=s₁.os∧AllBare s'.gens) s₁:=by
  intro H hO hS hok hA hK
  have base_of:∀{b:Addr} {o:Obj},s₁.heap.get? b=some o→H b=none→(tR s₁.heap H).get? b=some o:=fun e n=>lN e n
  have noA:∀{b:Addr} {o:Obj} {es:Array DictEntry} {ep:Nat},s₁.heap.get? b=some o→o.data=.dict es ep→H b=none:=fun {b o es ep} e d=>by
   cases q:H b with
   |none=>rfl
   |some u=>
    have e':b=a:=hA b (by rw[q];simp)
    subst e'
    rw[ha] at e;cases e
    have d':Data.seq vs.toArray _=Data.dict es ep:=d
    cases d'
  have nsK:∀{b:Addr} {m:Str→Option Value},s₁.heap.Ns b m→(tR s₁.heap H).Ns b m:=fun {b m} ⟨o,es,ep,e,d,r⟩=>⟨o,es,ep,base_of e (noA e d),d,r⟩
  have hKb:K.In (tR s₁.heap H):=fun b o e=>base_of (KX b o e) (by
   cases q:H b with
   |none=>rfl
   |some u=>
    have e':b=a:=hA b (by rw[q];simp)
    subst e'
    rw[hK (by rw[q];simp)] at e;cases e)
  have hM:Mod K mg (tR s₁.heap H):=⟨hKb,nsK hns,⟨mb,nsK hb,hbb⟩,let ⟨mc,h1,h2⟩:=hlim;⟨mc,nsK h1,h2⟩⟩
  have e0:pe P w K mg (tR s₁.heap H) callerA [] s₁ H:=⟨rfl,hM,fun b o e=>iF e,Nat.le_of_eq (nh _ _),trivial,fun b hb=>absurd (show b∈([]:List Addr) from hb) (by simp),hok,.of_eq hg⟩
  refine aX ((F _ hKb (nsK hns)).run callerA [] s₁ H ⟨[.ref a],[]⟩ [.ref a] [.ref a] _ _ hr e0 (hbind s₁ (.ref a)) (.cons rfl .nil) (hsp H hO hS)) fun r s' h=>?_
  cases r with
  |error e=>exact (hCX H e s' h).elim
  |ok fl=>
   cases fl with
   |next=>exact False.elim h
   |brk=>exact False.elim h
   |cont=>exact False.elim h
   |ret u=>
    obtain⟨v,H',os,bare,un,hok',r',q⟩:=h
    have q':v=.bl true:=q
    subst q'
    obtain rfl:u=Value.bool true:=r'
    refine⟨rfl,OldK.of_keep fun b o e=>?_,os,bare⟩
    cases q:H b with
    |none=>exact un.keep b o e q (by intro z;exact absurd (show b∈([]:List Addr) from z) (by simp)) (by simp)
    |some u=>
     rcases hO b with z|⟨ob,xs,z⟩
     ·rw[q] at z;cases z
     ·have z2:=un.frzs b ob _ z
      obtain⟨e1,_⟩:=hok b _ z
      obtain⟨e2,_⟩:=hok' b _ z2
      rw[e] at e1;cases e1
      exact e2
 cases hk:K.lookup a with
 |some o=>
  -- the script is one of the module's own objects
  have e:=KX a o hk
  rw[ha] at e
  cases e
  refine core (fun _=>none) (fun _=>.inl rfl) (.inr ⟨_,vs.toArray,_,hk,rfl,rfl,rfl,by rw[cX,lenV];exact hl,by simpa using rv⟩) (fun b u z=>by have z':(none:Option HO)=some u:=z;cases z') (fun b z=>absurd rfl z) fun z=>absurd rfl z
 |none=>
  refine core (fun b=>if b=a then some (.frz {cls:=.type "list",data:=.seq vs.toArray} (.lst (ns.map V.int))) else none) (fun b=>?_) (.inl (.inr ⟨{cls:=.type "list",data:=.seq vs.toArray},if_pos rfl⟩)) (fun b u z=>?_) (fun b z=>?_) fun _=>hk
  ·by_cases hb:b=a
   ·exact .inr ⟨_,_,if_pos hb⟩
   ·exact .inl (if_neg hb)
  ·by_cases hb:b=a
   ·have z':=(if_pos hb).symm.trans z
    cases z'
    subst hb
    exact⟨ha,by rw[cT];exact hl,vs,_,rv,ha⟩
   ·have z':=(if_neg hb).symm.trans z
    cases z'
  ·by_cases hb:b=a
   ·exact hb
   ·exact absurd (if_neg hb) z
theorem jX {l:PySem.W.OpenLaw}{n k:Nat}{q:Program}{loose:List Str}{XP:(Str→Option Value)→Heap→Prop}{YP:World→Heap→Prop}{d:DefRec}{K:Params→PySem.W.Frag}{CX:World→CXT}{sp:World→Sp}{x:Str}
  (hn:l.most=some n) (hn2:n≤sizeLine) (hdf:d.params.defaults=[]) (hr:zy k callerA)
  (hY:∀(w:World) (h:Heap),YP w h→(K w.params).In h)
  (F:∀(w:World) (mg:Str→Option Value) (fa:Addr) (h:Heap),(K w.params).In h→h.Ns mainGlobals mg→mg d.name=some (.ref fa)→
   ∃fd:FuncData,(∀(s:Shared) (u:Value),BindsTo s fd ⟨[u],[]⟩ [(x,u)])∧
    ∀base:Heap,(K w.params).In base→base.Ns mainGlobals mg→zo l.prog w (K w.params) mg base (CX w) k fa fd [x] (sp w))
  (hsp:∀(w:World) (H:Hp) (a:Addr) (ns:List Int),ns.length≤n→gU H→SqL (K w.params) H a (ns.map V.int)→sp w [.ref a] H (fun v _=>v=.bl true) fun _ _ _=>False)
  (hCX:∀(w:World) (H:Hp) (s:Shared) (e:Value) (s':Shared),CX w [] H s (fun _ _ _=>False) e s'→False):
  PySem.W.WalkO q loose XP YP l.row.toRowW d [] (fun f vs=>PySem.call f vs):=by
 refine Att.attach_call hn hdf fun w s₀ s₁ mg mb fa o pm cd doc a vs ns G Y ho hd hcd hmg hobj hints hlen hg=>?_
 have KX:=hY w _ Y
 obtain⟨fd,hb,hF⟩:=F w mg fa _ KX G.T.g hmg
 exact mY KX G.T.g G.T.b G.T.builtins G.T.nolimit hg hobj hints (ae hlen hn2) hr hF hb (fun H hO hS=>hsp w H a ns hlen hO hS) fun H e s'=>hCX w H s₁ e s'
def inClass (s:Stmt)(j:Nat):Stmt:=match s with
 |.ClassDef _ _ _ body _ _ _ _ _ _ _=>body.getD j (.Pass ⟨0,0,0,0⟩)
 |_=>.Pass ⟨0,0,0,0⟩
def zS (s:Stmt):Arguments:=match s with
 |.FunctionDef _ a _ _ _ _ _ _ _ _=>a
 |_=>{posonlyargs:=[],args:=[],vararg:=none,kwonlyargs:=[],kw_defaults:=[],kwarg:=none,defaults:=[]}
def zr (s:Stmt):List Stmt:=match s with
 |.FunctionDef _ _ b _ _ _ _ _ _ _=>b
 |_=>[]
def za (s:Stmt):Scope:=match s with
 |.FunctionDef _ _ _ _ _ _ sc _ _ _=>sc
 |_=>{kind:=.function,names:=[],isGenerator:=false,isCoroutine:=false}
abbrev CX0 :CXT:=fun _ _ _ _ _ _=>False
abbrev E0 :XK:=fun _ _ _=>False
theorem zH {X:Cx}:Passes CX0 X E0:=fun _ _ _ _ _ _ _ h=>h.elim
structure Fun (K:PySem.W.Frag)(x qual:Str)(st:Stmt)(f:Addr)(fd:FuncData):Prop where
 ex:∃(oc:Value) (od:Option Addr) (kV doc pm:Value) (an:Option Addr) (cdv ct:Value) (osl:Array (Option Value)),
  fd=PySem.W.fnOf x qual (zS st) (zr st) (za st) .none kV doc pm an cdv ct∧K.lookup f=some ⟨oc,od,.func fd,osl⟩∧PySem.W.codeIn K cdv qual=true
 kp:PySem.W.keepIn K (.ref f)=true
section
variable {P:Program}{w:World}{K:PySem.W.Frag}{mg:Str→Option Value}{base:Heap}
theorem Fun.ok {x qual:Str}{st:Stmt}{f:Addr}{fd:FuncData}{N ps:List Str}{k:Nat}{sp:Sp}(F:Fun K x qual st f fd)(S:zg N ps (za st))(len:∀vs H Q E,sp vs H Q E→vs.length=ps.length)
  (hbody:∀(cdv:Value) (A:Around) (outer:List Env) (s:Shared) (H:Hp) (vs:List V) (Q:VK) (E:XK),zy k (A.deeper (envOfC qual (za st) s.heap.objs.size f cdv))→sp vs H Q E→
   ∃t,PSs (yB CX0 P w K mg base N qual (za st) f cdv A outer s H E).nox (zr st) t∧t {nx:=fun _ H'=>Q .non H',rt:=Q} (start N vs) H):zo P w K mg base CX0 (k+1) f fd ps sp:=by
 obtain⟨oc,od,kV,doc,pm,an,cdv,ct,osl,rfl,lk,hcd⟩:=F.ex
 refine oF lk hcd S len fun A outer s H vs Q E hr hsp=>?_
 obtain⟨t,h,q⟩:=hbody cdv A outer s H vs Q E hr hsp
 exact⟨t,h.nox,q⟩
theorem Fun.binds {x qual:Str}{st:Stmt}{f:Addr}{fd:FuncData}{ps:List Str}(F:Fun K x qual st f fd)
  (h:∀(kV doc pm:Value) (an:Option Addr) (cdv ct:Value) (us:List Value),us.length=ps.length→bindArgs (PySem.W.fnOf x qual (zS st) (zr st) (za st) .none kV doc pm an cdv ct) ⟨us,[]⟩=pure (ps.zip us)):Binds K fd ps []:=by
 obtain⟨oc,od,kV,doc,pm,an,cdv,ct,osl,rfl,lk,hcd⟩:=F.ex
 exact .all (h kV doc pm an cdv ct)
theorem lB {x qual:Str}{st:Stmt}{f:Addr}{oc:Value}{od an:Option Addr}{osl:Array (Option Value)}{kV doc pm cdv ct:Value}(l:K.lookup f=some ⟨oc,od,.func (PySem.W.fnOf x qual (zS st) (zr st) (za st) .none kV doc pm an cdv ct),osl⟩)
  (c:PySem.W.codeIn K cdv qual=true) (k:PySem.W.keepIn K (.ref f)=true):Fun K x qual st f (PySem.W.fnOf x qual (zS st) (zr st) (za st) .none kV doc pm an cdv ct):=⟨⟨oc,od,kV,doc,pm,an,cdv,ct,osl,rfl,l,c⟩,k⟩
end
theorem yv {n:Nat}(h:n≤1000):n<sizeLine:=Nat.lt_of_le_of_lt h (by decide)
section
variable {X:Cx}
theorem pv (i:Nat){x:Str}{pos:Pos}(hN:X.N[i]?=some x:=by rfl)(hv:Vis X.env.scope x:=by first|exact Or.inl rfl|exact Or.inr (Or.inl rfl)|exact Or.inr (Or.inr rfl))(hd:(x == ("__debug__":Str))=false:=by decide)
  (hcd:(x == ("__classdict__":Str))=false:=by decide):PE X (.Name x pos) (dI i):=xk hN hv hd hcd
end
theorem vn {A B:Prop}(h:B):if false=true then A else B:=by
 rw[if_neg cZ]
 exact h
theorem vo {A B:Prop}(h:A):if true=true then A else B:=by
 rw[if_pos rfl]
 exact h
theorem yd {c A B:Prop}[Decidable c](h1:c→A)(h2:¬c→B):if c then A else B:=by
 by_cases h:c
 ·rw[if_pos h]
  exact h1 h
 ·rw[if_neg h]
  exact h2 h
def zm (H H':Hp):Prop:=∀b o,H b=some o→H' b=some o
theorem zm.refl (H:Hp):zm H H:=fun _ _ h=>h
theorem zm.trans {H H1 H2:Hp}(a:zm H H1)(b:zm H1 H2):zm H H2:=fun c o h=>b c o (a c o h)
theorem zm.free {H H':Hp}(e:zm H H'){l:Addr}(h:H' l=Option.none):H l=Option.none:=by
 cases q:H l with
 |none=>rfl
 |some o=>
  rw[e l o q] at h
  cases h
theorem zm.seq {K:PySem.W.Frag}{H H':Hp}{a:Addr}{xs:List V}(e:zm H H')(h:SqL K H a xs):SqL K H' a xs:=by
 rcases h with (h|⟨o,h⟩)|h
 ·exact .inl (.inl (e _ _ h))
 ·exact .inl (.inr ⟨o,e _ _ h⟩)
 ·exact .inr h
def wc (cells:List (Str×Addr)):List (Str×NameKind)→List (Str×Addr)→List (Str×Addr)
 |[],acc=>acc
 |(n,k)::r,acc=>wc cells r (if k=.free then (n,(cells.lookup n).getD 0)::acc else acc)
theorem xY {env:Env}{scope:Scope}(h:∀y∈scope.names,y.2=.free→∃c,env.cells.lookup y.1=some c):
  closureFor scope env=pure (wc env.cells scope.names []):=by
 have key:∀(ns:List (Str×NameKind)) (acc:List (Str×Addr)),(∀y∈ns,y.2=.free→∃c,env.cells.lookup y.1=some c)→
   (forIn ns acc fun (x:Str×NameKind) (r:List (Str×Addr))=>(if (x.2 == NameKind.free)=true then (do let a ←cellOf env x.1;pure (ForInStep.yield ((x.1,a)::r))) else pure (ForInStep.yield r):Sem (ForInStep (List (Str×Addr)))))=pure (wc env.cells ns acc):=by
  intro ns
  induction ns with
  |nil=>intro acc _;rfl
  |cons y r ih=>
   intro acc hy
   obtain⟨n,k⟩:=y
   rw[List.forIn_cons]
   have hr:∀z∈r,z.2=.free→∃c,env.cells.lookup z.1=some c:=fun z hz=>hy z (ba _ hz)
   by_cases hk:k=.free
   ·subst hk
    obtain⟨c,hc⟩:=hy (n,.free) bp rfl
    have e1:cellOf env n=pure c:=by
     unfold cellOf
     rw[hc]
    have e2:((NameKind.free == NameKind.free)=true):=rfl
    simp only[e2,if_true,e1,pure_bind]
    rw[ih _ hr]
    show _=pure (wc env.cells r (if NameKind.free=NameKind.free then (n,(env.cells.lookup n).getD 0)::acc else acc))
    rw[if_pos rfl,hc]
    rfl
   ·have e2:(k == NameKind.free)=false:=by simpa using hk
    simp only[e2,Bool.false_eq_true,if_false,pure_bind]
    rw[ih _ hr]
    show _=pure (wc env.cells r (if k=NameKind.free then (n,(env.cells.lookup n).getD 0)::acc else acc))
    rw[if_neg hk]
 have q:=key scope.names [] h
 unfold closureFor
 simp only[] at q ⊢
 rw[show (forIn scope.names ([]:List (Str×Addr)) fun (x:Str×NameKind) (r:List (Str×Addr))=>_)=_ from q]
 rfl
theorem rA {cells:List (Str×Addr)}:∀(ns:List (Str×NameKind)) (acc:List (Str×Addr)),(∀y∈ns,y.2=.free→∃c,cells.lookup y.1=some c)→
  ∀x c,(x,c)∈wc cells ns acc→(x,c)∈acc∨((x,NameKind.free)∈ns∧cells.lookup x=some c)
 |[],acc,_,x,c,h=>.inl h
 |(n,k)::r,acc,hy,x,c,h=>by
  have hr:∀z∈r,z.2=.free→∃c,cells.lookup z.1=some c:=fun z hz=>hy z (ba _ hz)
  have h':(x,c)∈wc cells r (if k=.free then (n,(cells.lookup n).getD 0)::acc else acc):=h
  rcases rA r _ hr x c h' with q|⟨q1,q2⟩
  ·by_cases hk:k=.free
   ·rw[if_pos hk] at q
    rcases cY.mp q with e|q
    ·obtain⟨c',hc⟩:=hy (n,k) bp hk
     have e1:x=n:=congrArg Prod.fst e
     have e2:c=(cells.lookup n).getD 0:=congrArg Prod.snd e
     have hc':cells.lookup n=some c':=hc
     rw[hc'] at e2
     have e3:c=c':=e2
     subst e1 e3 hk
     exact .inr ⟨bp,hc'⟩
    ·exact .inl q
   ·rw[if_neg hk] at q
    exact .inl q
  ·exact .inr ⟨ba _ q1,q2⟩
theorem sF {cells:List (Str×Addr)}:∀(ns:List (Str×NameKind)) (acc:List (Str×Addr)) (p:Str×Addr),p∈acc→p∈wc cells ns acc
 |[],_,_,h=>h
 |(n,k)::r,acc,p,h=>by
  show p∈wc cells r (if k=.free then (n,(cells.lookup n).getD 0)::acc else acc)
  refine sF r _ p ?_
  split
  ·exact ba _ h
  ·exact h
theorem rL {cells:List (Str×Addr)}:∀(ns:List (Str×NameKind)) (acc:List (Str×Addr)) (x:Str),(x,NameKind.free)∈ns→∃c,(x,c)∈wc cells ns acc
 |[],_,_,h=>by simp at h
 |(n,k)::r,acc,x,h=>by
  show ∃c,(x,c)∈wc cells r (if k=.free then (n,(cells.lookup n).getD 0)::acc else acc)
  rcases cY.mp h with e|h
  ·have e1:x=n:=congrArg Prod.fst e
   have e2:NameKind.free=k:=congrArg Prod.snd e
   subst e1 e2
   rw[if_pos rfl]
   exact⟨_,sF r _ _ bp⟩
  ·exact rL r _ x h
theorem mem_lookup {x:Str}{c:Addr}:∀{l:List (Str×Addr)},(x,c)∈l→∃d,l.lookup x=some d
 |[],h=>by simp at h
 |(n,a)::r,h=>by
  rw[bX]
  cases e:x == n with
  |true=>exact⟨a,rfl⟩
  |false=>
   rcases cY.mp h with q|q
   ·have e1:x=n:=congrArg Prod.fst q
    rw[e1] at e
    simp at e
   ·exact mem_lookup q
structure zK (XN:List Str)(xs:Scope)(N:List Str)(imp:List (Option Nat))(scope:Scope):Prop where
 kind:scope.kind=.function
 nd:N.Nodup
 nocell:∀y∈scope.names,y.2≠.cell
 locs:∀y∈scope.names,y.2=.local→scope.names.lookup y.1=some .local
 frees:∀y∈scope.names,y.2=.free→xs.names.lookup y.1=some .cell∨xs.names.lookup y.1=some .free
 len:imp.length=N.length
 impsB:((imp.zip N).all fun p=>match p.1 with|none=>true|some j=>XN[j]? == some p.2&&scope.names.lookup p.2 == some .free)=true
theorem zK.imps {XN N:List Str}{xs scope:Scope}{imp:List (Option Nat)}(S:zK XN xs N imp scope):∀(i j:Nat),imp[i]?=some (some j)→∃x,N[i]?=some x∧XN[j]?=some x∧scope.names.lookup x=some .free:=by
 intro i j h
 have hi:i<imp.length:=(cR.mp h).1
 have hn:i<N.length:=by rw[←S.len];exact hi
 have hx:N[i]?=some N[i]:=bH hn
 have hm:(some j,N[i])∈imp.zip N:=by
  have hz:(imp.zip N)[i]?=some (some j,N[i]):=by
   rw[List.getElem?_zip_eq_some]
   exact⟨h,hx⟩
  exact bV hz
 have q:=za1.mp S.impsB _ hm
 have q':(XN[j]? == some N[i]&&scope.names.lookup N[i]==some .free)=true:=q
 rw[bu] at q'
 exact⟨N[i],hx,eq_of_beq q'.1,eq_of_beq q'.2⟩
def yY (imp:List (Option Nat))(σ:St):St:=imp.map fun o=>o.bind fun j=>(σ[j]?).bind id
theorem oS {imp:List (Option Nat)}{σ:St}{i:Nat}{v:V}(h:(yY imp σ)[i]?=some (some v)):∃j,imp[i]?=some (some j)∧σ[j]?=some (some v):=by
 unfold yY at h
 rw[bE] at h
 cases e:imp[i]? with
 |none=>rw[e] at h;cases h
 |some o=>
  rw[e] at h
  have h':(o.bind fun j=>(σ[j]?).bind id)=some v:=bt h
  cases o with
  |none=>cases h'
  |some j=>
   have h2:(σ[j]?).bind id=some v:=h'
   cases e2:σ[j]? with
   |none=>rw[e2] at h2;cases h2
   |some w=>
    rw[e2] at h2
    have h3:w=some v:=h2
    exact⟨j,rfl,by rw[e2,h3]⟩
def Cx.comp (X:Cx)(N:List Str)(scope:Scope)(C:Addr)(s2:Shared)(H2:Hp)(fp:List Addr):Cx where
 prog:=X.prog
 w:=X.w
 K:=X.K
 mg:=X.mg
 base:=X.base
 A:=X.A
 N:=N
 s₀:=s2
 H₀:=H2
 env:=compEnvC scope (wc X.env.cells scope.names []) C X.env
 outer:=X.stack
 stack:=X.stack
 ex:=fp
 fn:=fun _=>false
 calm:=X.calm
 pn:=[]
 xe:=fun _ _=>False
theorem wx {env:Env}:∀{names:List (Str×NameKind)} {x:Str},
  (names.map fun (n,k)=>if (k == NameKind.free&&env.scope.kind == .function&&env.kindOf n == some .cell) then (n,NameKind.cell) else (n,k)).lookup x=some .cell∨
  (names.map fun (n,k)=>if (k == NameKind.free&&env.scope.kind == .function&&env.kindOf n == some .cell) then (n,NameKind.cell) else (n,k)).lookup x=some .free→
  (∀y∈names,y.2≠.cell)→(x,NameKind.free)∈names
 |[],x,h,_=>by simp at h
 |(n,k)::r,x,h,hc=>by
  have ih:=@wx env r x
  rw[aL] at h
  dsimp only at h
  by_cases hx:x=n
  ·subst hx
   by_cases hk:k=.free
   ·subst hk;exact bp
   ·have hk':(k == NameKind.free)=false:=by simpa using hk
    simp only[hk',aw,Bool.false_eq_true,if_false,bX,beq_self_eq_true,if_true] at h
    rcases h with h|h
    ·have e:k=.cell:=bt h
     exact absurd e (hc (x,k) bp)
    ·have e:k=.free:=bt h
     exact absurd e hk
  ·have hxn:(x == n)=false:=by simpa using hx
   have step:∀(b:Bool) (l:List (Str×NameKind)),List.lookup x ((if b=true then (n,NameKind.cell) else (n,k))::l)=l.lookup x:=fun b l=>by
    cases b<;>simp[bX,hxn]
   rw[step] at h
   exact ba _ (ih h fun y hy=>hc y (ba _ hy))
theorem vj {env:Env}:∀{names:List (Str×NameKind)} {x:Str},names.lookup x=some .free→
  (names.map fun (n,k)=>if (k == NameKind.free&&env.scope.kind == .function&&env.kindOf n == some .cell) then (n,NameKind.cell) else (n,k)).lookup x=some .cell∨
  (names.map fun (n,k)=>if (k == NameKind.free&&env.scope.kind == .function&&env.kindOf n == some .cell) then (n,NameKind.cell) else (n,k)).lookup x=some .free
 |[],x,h=>by simp at h
 |(n,k)::r,x,h=>by
  have ih:=@vj env r x
  rw[aL]
  dsimp only
  rw[bX] at h
  cases hx:x == n with
  |true=>
   rw[hx] at h
   have e:k=.free:=bt h
   subst e
   by_cases hb:(NameKind.free == NameKind.free&&env.scope.kind == .function&&env.kindOf n == some .cell)=true
   ·left;rw[if_pos hb];simp[bX,hx]
   ·right;rw[if_neg hb];simp[bX,hx]
  |false=>
   rw[hx] at h
   have step:∀(b:Bool) (l:List (Str×NameKind)),List.lookup x ((if b=true then (n,NameKind.cell) else (n,k))::l)=l.lookup x:=fun b l=>by
    cases b<;>simp[bX,hx]
   rw[step]
   exact ih h
section
variable {X:Cx}{pins:List (Addr×Obj)}{σ:St}{H2 H':Hp}{s2 s':Shared}{fp:List Addr}{N:List Str}{imp:List (Option Nat)}{scope:Scope}{C acc:Addr}
theorem wk (I:Inv X pins σ H2 s2)(S:zK X.N X.env.scope N imp scope):∀y∈scope.names,y.2=.free→∃c,X.env.cells.lookup y.1=some c:=fun y hy hk=>I.ok.has y.1 (S.frees y hy hk)
theorem yC (I:Inv X pins σ H2 s2)(S:zK X.N X.env.scope N imp scope){x:Str}{c:Addr}(h:(wc X.env.cells scope.names []).lookup x=some c):(x,NameKind.free)∈scope.names∧X.env.cells.lookup x=some c:=by
 rcases rA scope.names [] (wk I S) x c (aa h) with q|q
 ·exact absurd q (by simp)
 ·exact q
theorem wy (I:Inv X pins σ H2 s2)(S:zK X.N X.env.scope N imp scope){x:Str}(h:(x,NameKind.free)∈scope.names):∃c,(wc X.env.cells scope.names []).lookup x=some c:=by
 obtain⟨c,hc⟩:=rL (cells:=X.env.cells) scope.names [] x h
 exact mem_lookup hc
theorem kQ {h1:Heap}{tk:Nat}{m:Str→Option Value}{n0:Nat}(I:Inv X pins σ H2 s2)(S:zK X.N X.env.scope N imp scope)(hf:∀b∈fp,wL X pins H2 b)(ho:∀b∈fp,∃o,s2.heap.get? b=some o)
  (hacc:acc=s2.heap.objs.size) (hC:C=s2.heap.objs.size+1) (old:∀b o,s2.heap.get? b=some o→h1.get? b=some o) (hn:h1.Ns C m)
  (hl:h1.get? acc=some {cls:=.type "list",data:=.seq ([]:List Value).toArray n0}):
  Inv (X.comp N scope C s2 H2 fp) [] (yY imp σ) (upd H2 acc (.lst [])) {s2 with heap:=h1,toks:=tk}:=by
 have fa:H2 acc=none:=I.hok.fresh (by rw[hacc];exact cU _)
 have cac:C≠acc:=by rw[hC,hacc];exact Nat.succ_ne_self _
 have clt:∀x c,X.env.cells.lookup x=some c→c<s2.heap.objs.size:=fun x c e=>by
  obtain⟨v,q⟩:=I.cell x c e
  exact q.lt
 refine⟨⟨I.ok.mod,S.kind,I.ok.glob,I.ok.blt,?above,?inj,?has,?cab,I.ok.hd,I.ok.frames,.inl rfl,?exf,fun b o e=>I.bs b o e,ae I.ok.bsz I.sz,?noex,?exfs,I.stack,I.stkFree⟩,
  rfl,I.bare,Un.laid old (by rw[hacc];exact cU _) fa,⟨m,hn,?loc⟩,?cell,?free,?freeC,fun p hp=>absurd (show p∈([]:List (Addr×Obj)) from hp) (by simp),I.hok.laid old (by rw[hacc];exact cU _) ⟨bz _,[],n0,.nil,hl⟩,?len⟩
 case above=>show s2.heap.objs.size≤C;rw[hC];exact aQ _
 case inj=>exact fun x y c h1 h2=>I.ok.inj x y c (yC I S h1).2 (yC I S h2).2
 case has=>exact fun x hx=>wy I S (wx (env:=X.env) hx S.nocell)
 case cab=>exact fun x c h _=>absurd h (by show ¬(false=true);simp)
 case exf=>
  intro b hb
  obtain⟨o,hob⟩:=ho b hb
  refine⟨?_,fun x c e=>(hf b hb).2.2.2.2.1 x c (yC I S e).2⟩
  show b≠C
  rw[hC]
  exact bx (Nat.lt_succ_of_lt (cV hob))
 case noex=>
  intro b o e hb
  rcases (hf b hb).2.2.2.1 with z|z
  ·exact I.ok.noex b o e z
  ·exact absurd (bh (cV e) (ae I.ok.bsz z)) (za3 _)
 case exfs=>
  intro b hb hz
  rcases cY.mp (I.stkSub b hz) with e|e
  ·exact (hf b hb).2.1 e
  ·exact (hf b hb).2.2.1 e
 case loc=>
  intro i x v e1 e2 e3
  obtain⟨j,q1,q2⟩:=oS e2
  obtain⟨y,n1,n2,n3⟩:=S.imps i j q1
  have n1':(X.comp N scope C s2 H2 fp).N[i]?=some y:=n1
  rw[n1'] at e1
  have exy:y=x:=bt e1
  subst exy
  have hfr:=S.frees (y,.free) (aa n3) rfl
  obtain⟨mX,hnX,hlX⟩:=I.loc
  obtain⟨u,r,l⟩:=hlX j y v n2 q2 (.inr hfr)
  refine⟨u,r,?_⟩
  rcases l with ⟨k,_⟩|⟨k,c,e,z⟩
  ·have k':X.env.scope.names.lookup y=some .local:=k
   rcases hfr with z|z
   ·have z':X.env.scope.names.lookup y=some .cell:=z
    rw[k'] at z';cases z'
   ·have z':X.env.scope.names.lookup y=some .free:=z
    rw[k'] at z';cases z'
  ·obtain⟨d,hd⟩:=wy I S (aa n3)
   have hd2:=(yC I S hd).2
   rw[e] at hd2
   have edc:c=d:=bt hd2
   subst edc
   exact .inr ⟨vj (env:=X.env) n3,c,hd,z.keeps old⟩
 case cell=>
  intro x c e
  obtain⟨v,q⟩:=I.cell x c (yC I S e).2
  exact⟨v,q.keeps old⟩
 case free=>
  show upd H2 acc _ C=none
  rw[zc cac]
  exact I.hok.fresh (by rw[hC];exact aQ _)
 case freeC=>
  intro x c e
  have e':=(yC I S e).2
  have hlt:=clt x c e'
  show upd H2 acc _ c=none
  rw[zc (by rw[hacc];exact bx hlt)]
  exact I.freeC x c e'
 case len=>
  show (yY imp σ).length=N.length
  unfold yY
  rw[cT]
  exact S.len
theorem nq {pl:List (Addr×Obj)}{τ:St}(I:Inv X pins σ H2 s2)(hf:∀b∈fp,wL X pins H2 b)(J:Inv (X.comp N scope C s2 H2 fp) pl τ H' s'):Inv X pins σ H' s':=
 I.call' (ch:=fp) J.os J.base J.hok J.bare fun b hb=>⟨(hf b hb).2.2.2.1,(hf b hb).2.1,(hf b hb).2.2.2.2.1,(hf b hb).2.2.2.2.2⟩
end
section
variable {prog:Program}{w:World}{A:Around}{R:Result→Shared→Prop}{s:Shared}
theorem tI {elt target iter:Expr}{ifs:List Expr}{scope:Scope}{pos:Pos}{it acc:Value}{env:Env}(I:Nat→Shared→Prop)
  (turn:∀n s,I n s→wpAny (model prog w) A (pyNext it) (fun r s1=>match r with
   |none=>R (.ok .next) s1
   |some v=>wpAny (model prog w) A (letOwnedTupleGo target it v) (fun _ s2=>wpAny (model prog w) A (assign target env v) (fun _ s3=>
     wpAny (model prog w) A (forIn ifs true fun c r=>if r=true then do let ok ←isTrue c env (eval c env);pure (ForInStep.yield ok) else pure (ForInStep.yield r)) (fun ok s4=>
      if ok=true then wpAny (model prog w) A (eval elt env) (fun x s5=>
       wpAny (model prog w) A (call (.builtin "list.append") [acc,x]) (fun _ s6=>∃m,m<n∧I m s6) (fun _ _=>False) s5) (fun _ _=>False) s4
      else ∃m,m<n∧I m s4) (fun _ _=>False) s3) (fun _ _=>False) s2) (fun _ _=>False) s1) (fun _ _=>False) s)
  (n:Nat) (h:I n s):codeAny (model prog w) A (.compLoop (.ListComp elt [⟨target,iter,ifs,0⟩] scope pos) 0 it acc env) R s:=by
 refine codeAny_loop rfl I (fun n s hI=>?_) n h
 show wpAny _ A ((compTurn (.ListComp elt [⟨target,iter,ifs,0⟩] scope pos) 0 it acc env).onRaise (fun x=>do noteFrame x env;theTreesLotGoes x)) _ _ s
 refine wpAny_noted ?_
 rw[compTurn_list]
 refine cQ (zb3 (cQ (bF (turn n s hI) (fun r s1 h1=>?_) fun _ _ h'=>False.elim h')))
 cases r with
 |none=>exact bc h1
 |some v=>
  refine cQ (bF h1 (fun _ s2 h2=>?_) fun _ _ h'=>False.elim h')
  refine cQ (bF h2 (fun _ s3 h3=>cQ (bF h3 (fun ok s4 h4=>?_) fun _ _ h'=>False.elim h')) fun _ _ h'=>False.elim h')
  cases ok with
  |false=>exact bc ⟨rfl,h4⟩
  |true=>
   exact cQ (cQ (bF h4 (fun x s5 h5=>cQ (bF h5 (fun _ s6 h6=>bc (bc ⟨rfl,h6⟩)) fun _ _ h'=>False.elim h')) fun _ _ h'=>False.elim h'))
end
def xC (Y:Cx)(ifs:List Expr)(t:TT):Prop:=
 ∀(pins:List (Addr×Obj)) (s:Shared) (σ:St) (H:Hp) (Q:Bool→Hp→Prop),Inv Y pins σ H s→t σ H Q→
  wpAny (model Y.prog Y.w) Y.A (forIn ifs true fun c r=>if r=true then do let ok ←isTrue c Y.env (eval c Y.env);pure (ForInStep.yield ok) else pure (ForInStep.yield r)) (TP Y pins σ Q) Y.xe s
def cx :TT:=fun _ H Q=>Q true H
theorem iq {Y:Cx}:xC Y [] cx:=fun _ _ _ H _ I h=>wpAny_tests_nil ⟨H,I,h⟩
theorem pF {Y:Cx}{c:Expr}{t:TT}(h:PT Y c t):xC Y [c] t:=fun pins s σ H Q I q=>wpAny_tests_one (h pins s σ H Q I q)
def sg (J:It)(acc:Addr)(g:TG)(tt:TT)(te:TE)(τ0:St)(H0:Hp)(Q:VK):Prop:=
 ∃W:Nat→Nat→List V→St→Hp→Prop,(∃m,W 0 m [] τ0 H0)∧∀i m ys τ H2,W i m ys τ H2→
  (J.stop i H2∧Q (.ref acc) H2)∨(J.go i H2∧∃N:List V→St→Hp→Prop,(∀ys' τ' H',N ys' τ' H'→∃m',m'<m∧W (i+1) m' ys' τ' H')∧
   ∀x H3,J.yld i H2 x H3→g x τ H3 fun τ2 H4=>tt τ2 H4 fun c H5=>
    if c=true then te τ2 H5 fun y H6=>H6 acc=some (.lst ys)∧ys.length<sizeLine∧N (ys++[y]) τ2 (upd H6 acc (.lst (ys++[y]))) else N ys τ2 H5)
def lh (wi:TI)(imp:List (Option Nat))(g:TG)(tt:TT)(te:TE):TE:=fun σ H Q=>wi σ H fun J H1=>∀acc,H1 acc=none→sg J acc g tt te (yY imp σ) (upd H1 acc (.lst [])) Q
section
variable {X:Cx}{pins:List (Addr×Obj)}{σ:St}{elt iter tg:Expr}{ifs:List Expr}{scope:Scope}{pos:Pos}{wi:TI}{g:TG}{tt:TT}{te:TE}{N:List Str}{imp:List (Option Nat)}
theorem ui {H2:Hp}{s2:Shared}{it:Addr}{fp:List Addr}{tn:Nat→Heap→Prop}{J:It}{RR:Value→Addr→Result→Shared→Prop}{E:Value→Shared→Prop}{Q:VK}
  (hc:X.calm=true) (S:zK X.N X.env.scope N imp scope) (hg:∀C s2 H2 fp,PG (X.comp N scope C s2 H2 fp) tg g) (ht:∀C s2 H2 fp,xC (X.comp N scope C s2 H2 fp) ifs tt) (he:∀C s2 H2 fp,PE (X.comp N scope C s2 H2 fp) elt te)
  (I2:Inv X pins σ H2 s2) (T:Turn X.prog X.w X.K tg J fp it tn) (st2:tn 0 s2.heap) (f2:∀b∈fp,wL X pins H2 b)
  (hW:∀acc,H2 acc=none→sg J acc g tt te (yY imp σ) (upd H2 acc (.lst [])) Q)
  (hRR:∀a C H' s' m,Inv X pins σ H' s'→s'.heap.Ns C m→wL X pins H' C→Q (.ref a) H'→RR (.ref a) C (.ok .next) s'):
  wpAny (model X.prog X.w) X.A (newList []) (fun acc s3=>wpAny (model X.prog X.w) X.A (newFunctionEnv scope X.env.globals (wc X.env.cells scope.names []) [] X.env.qual none .none (some X.env)) (fun cenv s4=>
   codeAny (model X.prog X.w) X.A (.compStart (.ListComp elt [⟨tg,iter,ifs,0⟩] scope pos) 0 (.ref it) acc {cenv with scope:=relabel scope X.env}) (RR acc cenv.locals) s4) E s3) E s2:=by
 refine wpAny_newObj_type (wpAny_newFunctionEnv S.nocell (by intro y hy;simp at hy) (fun h1 hns1 hsb1=>?_) S.kind)
 dsimp only at hns1 hsb1 ⊢
 generalize hHH:s2.heap.push {cls:=.type "list",dict:=none,data:=.seq ([]:List Value).toArray}=HH at hns1 hsb1 ⊢
 have hC:HH.objs.size=s2.heap.objs.size+1:=by rw[←hHH,Heap.size_push]
 have hDC:s2.heap.objs.size≠HH.objs.size:=by rw[hC];exact bx (za0 _)
 have old:∀b o,s2.heap.get? b=some o→h1.get? b=some o:=fun b o e=>hsb1.extBut b o (by rw[hC];exact bx (Nat.lt_succ_of_lt (cV e))) (cS _ (hHH▸cS _ e))
 have hacc:h1.get? s2.heap.objs.size=some {cls:=.type "list",data:=.seq ([]:List Value).toArray}:=hsb1.extBut _ _ hDC (cS _ (hHH▸bK _ rfl))
 obtain⟨W,⟨m0,w0⟩,turn⟩:=hW s2.heap.objs.size I2.fresh
 generalize hCC:HH.objs.size=C at hns1 hsb1 hC hDC ⊢
 have ho:∀b∈fp,∃o,s2.heap.get? b=some o:=fun b hb=>let ⟨o,e,_⟩:=T.obj 0 _ st2 b hb;⟨o,e⟩
 generalize hacc0:s2.heap.objs.size=acc at *
 have loop:∀s3:Shared,s3={s2 with heap:=h1,toks:=s2.toks+([]:List (Str×Value)).length}→
   codeAny (model X.prog X.w) X.A (.compLoop (.ListComp elt [⟨tg,iter,ifs,0⟩] scope pos) 0 (.ref it) (.ref acc) (X.comp N scope C s2 H2 fp).env) (RR (.ref acc) C) s3:=by
  rintro s3 rfl
  have I3:Inv (X.comp N scope C s2 H2 fp) [] (yY imp σ) (upd H2 acc (.lst [])) {s2 with heap:=h1,toks:=s2.toks+([]:List (Str×Value)).length}:=
   kQ I2 S f2 ho hacc0.symm (by rw[hC,hacc0]) old hns1 hacc
  have fpn:∀b∈fp,upd H2 acc (.lst []) b=none:=fun b hb=>by
   obtain⟨o,e⟩:=ho b hb
   rw[zc (by rw[←hacc0];exact bx (cV e))]
   exact (f2 b hb).1
  have stat:∀{H':Hp},(∀b∈fp,H' b=none)→∀b∈fp,wL (X.comp N scope C s2 H2 fp) [] H' b:=fun hn b hb=>by
   obtain⟨e1,e2⟩:=I3.ok.exf b hb
   exact⟨hn b hb,e1,I3.ok.exfs b hb,.inl hb,e2,fun p hp=>absurd (show p∈([]:List (Addr×Obj)) from hp) (by simp)⟩
  refine tI (fun n s'=>∃i ys τ H',Inv (X.comp N scope C s2 H2 fp) [] τ H' s'∧tn i s'.heap∧(∀b∈fp,H' b=none)∧W i n ys τ H') ?_ m0
   ⟨0,[],_,_,I3,T.keep _ _ _ st2 fun b _ o e=>old b o e,fpn,w0⟩
  rintro n s4 ⟨i,ys,τ,H4,I4,st4,fr4,w4⟩
  rcases turn i n ys τ H4 w4 with ⟨stop,qn⟩|⟨go,NN,hN,step⟩
  ·refine bF (T.done (X.comp N scope C s2 H2 fp) rfl rfl rfl hc i [] s4 τ H4 (fun _ _=>False) I4 (stat fr4) st4 stop) (fun r s5 ⟨hr,I5⟩=>?_) fun _ _ z=>z
   subst hr
   obtain⟨m5,hn5,_⟩:=id I5.loc
   exact hRR acc C H4 s5 m5 (nq I2 f2 I5) hn5 (I2.fpOk (by rw[hC,hacc0];exact aQ _) I5.free) qn
  ·refine bF (T.item (X.comp N scope C s2 H2 fp) rfl rfl rfl hc i [] s4 τ H4 (fun _ _=>False) I4 (stat fr4) st4 go) (fun r s5 ⟨u,hr,h5⟩=>?_) fun _ _ z=>z
   subst hr
   refine bF h5 (fun _ s6 ⟨x,H6,I6,r6,y6,st6,fr6⟩=>?_) fun _ _ z=>z
   have I6':=I6.pinned (stat fr6) (T.obj _ _ st6)
   refine bF (hg C s2 H2 fp _ s6 τ H6 x u _ I6' r6 (step x H6 y6)) (fun _ s7 ⟨τ7,H7,I7,q7⟩=>?_) fun _ _ z=>z
   refine bF (ht C s2 H2 fp _ s7 τ7 H7 _ I7 q7) (fun ok s8 ⟨H8,I8,q8⟩=>?_) fun _ _ z=>z
   have again:∀{ys9:List V} {H9:Hp} {s9:Shared},Inv (X.comp N scope C s2 H2 fp) ([]++vW fp s6.heap) τ7 H9 s9→NN ys9 τ7 H9→∃m,m<n∧∃i ys τ H',Inv (X.comp N scope C s2 H2 fp) [] τ H' s9∧tn i s9.heap∧(∀b∈fp,H' b=none)∧W i m ys τ H':=fun {ys9 H9 s9} I9 n9=>by
    obtain⟨m',hm,w9⟩:=hN ys9 τ7 H9 n9
    refine⟨m',hm,i+1,ys9,τ7,H9,I9.unpinned,T.keep _ _ _ st6 fun b hb o e=>(I9.pin (b,o) (bJ _ (bJ _ (xg hb e)))).1,fun b hb=>?_,w9⟩
    obtain⟨o,e,d⟩:=T.obj _ _ st6 b hb
    exact (I9.pin (b,o) (bJ _ (bJ _ (xg hb e)))).2.1
   cases ok with
   |false=>
    have q8':NN ys τ7 H8:=by
     have z:=q8
     rw[if_neg cZ] at z
     exact z
    rw[if_neg cZ]
    exact again I8 q8'
   |true=>
    rw[if_pos rfl] at q8 ⊢
    refine bF (he C s2 H2 fp _ s8 τ7 H8 _ I8 q8) (fun v s9 ⟨y,H9,I9,r9,a9,z9,q9⟩=>?_) fun _ _ z=>z
    refine bF (uG (X:=X.comp N scope C s2 H2 fp) _ s9 τ7 H9 (.ref acc) [y] (.ref acc) [v] (fun _ H10=>H10=upd H9 acc (.lst (ys++[y]))) I9 rfl (.cons r9 .nil) ⟨acc,ys,y,rfl,rfl,a9,z9,rfl⟩) (fun _ s10 ⟨_,H10,I10,_,e10⟩=>?_) fun _ _ z=>z
    subst e10
    exact again I10 q9
 exact codeAny_compStart_list (loop _ rfl) (T.self X.A 0 _ _ _ (T.keep _ _ _ st2 fun b _ o e=>old b o e) (loop _ rfl))
theorem hG (hc:X.calm=true)(S:zK X.N X.env.scope N imp scope)(hi:PI X tg iter wi)(hg:∀C s2 H2 fp,PG (X.comp N scope C s2 H2 fp) tg g)(ht:∀C s2 H2 fp,xC (X.comp N scope C s2 H2 fp) ifs tt)
  (he:∀C s2 H2 fp,PE (X.comp N scope C s2 H2 fp) elt te) (hs:∀x,foldedSetIterable iter X.env x=pure x:=by intro _;rfl):
  PE X (.ListComp elt [⟨tg,iter,ifs,0⟩] scope pos) (lh wi imp g tt te):=by
 intro pins s σ H Q I h
 rw[eval_ListComp]
 refine wpAny_comprehension_free (use:=none) rfl hs (xY (wk I S)) S.kind S.locs (thn (hi pins s σ H _ I h) fun v s1 h1=>thn h1 fun itv s2 h2=>?_)
 obtain⟨it,fp,tn,J,H2,e,I2,T,st2,f2,hW⟩:=h2
 subst e
 refine ui (RR:=fun acc C=>compPost (model X.prog X.w) X.A X.xe none (EP X pins σ Q) acc C) hc S hg ht he I2 T st2 f2 hW fun a C H' s' m I' hn f q=>?_
 refine⟨m,hn,fun h' sb=>?_⟩
 obtain⟨g0,g1,g2,g3,g4,g5⟩:=f
 exact⟨.ref a,H',I'.turned (t':=s'.toks) (it:=C) (fun b o hb e=>(sb.2 b hb).trans e) g0 g1 g3 g4 g5,rfl,q⟩
theorem mC {i:Nat}{x:Str}{px:Pos}{spos:Pos}(hc:X.calm=true)(S:zK X.N X.env.scope N imp scope)(hi:PI X tg iter wi)(hg:∀C s2 H2 fp,PG (X.comp N scope C s2 H2 fp) tg g)(ht:∀C s2 H2 fp,xC (X.comp N scope C s2 H2 fp) ifs tt)
  (he:∀C s2 H2 fp,PE (X.comp N scope C s2 H2 fp) elt te) (hN:X.N.Nodup) (hx:X.N[i]?=some x) (hl:Loc X.env.scope x) (hsw:swapsWith (.ListComp elt [⟨tg,iter,ifs,0⟩] scope pos) (some (.Name x px)) spos.line X.env=pure true:=by rfl)
  (hf:X.fn x=true∨X.env.scope.names.lookup x=some .local:=by first|exact .inl rfl|exact .inr rfl|assumption) (hs:∀x,foldedSetIterable iter X.env x=pure x:=by intro _;rfl):
  PS X (.Assign [.Name x px] (.ListComp elt [⟨tg,iter,ifs,0⟩] scope pos) spos) (fA (lh wi imp g tt te) (uI i)):=by
 intro pins s σ H D I h
 rw[exec_Assign_Name_used _ _ _ _ hsw]
 refine cQ (zb3 (cQ ?_))
 show wpAny _ X.A (do let _ ←comprehension (.ListComp elt [⟨tg,iter,ifs,0⟩] scope pos) scope X.env _ (newList []) false (eval iter X.env) (some (assign (.Name x px) X.env))) _ _ s
 refine cQ (bF (wpAny_comprehension_free (use:=some (assign (.Name x px) X.env)) (Q:=fun _ s'=>SP X pins D .next s') rfl hs (xY (wk I S)) S.kind S.locs (thn (hi pins s σ H _ I h) fun v s1 h1=>thn h1 fun itv s2 h2=>?_))
  (fun _ s' hq=>bc (bc hq)) fun _ _ e=>e)
 obtain⟨it,fp,tn,J,H2,e,I2,T,st2,f2,hW⟩:=h2
 subst e
 refine ui (Q:=fun x H1=>uI i x σ H1 D.nx) (RR:=fun acc C=>compPost (model X.prog X.w) X.A X.xe (some (assign (.Name x px) X.env)) (fun _ s'=>SP X pins D .next s') acc C) hc S hg ht he I2 T st2 f2 hW fun a C H' s' m I' hn f q=>?_
 show wpAny _ X.A (assign (.Name x px) X.env (.ref a)) _ _ _
 obtain⟨g0,g1,g2,g3,g4,g5⟩:=f
 refine wpAny_assign_Name (uP I' hN hx hl (show RelV (.ref a) (.ref a) from rfl) (fun s4 I4 hch=>?_) hf)
 obtain⟨ad,sb,had⟩:=hch
 have hCa:C≠ad:=by
  rcases had with e|e
  ·rw[e];exact g1
  ·exact (g4 x ad e).symm
 refine⟨m,hn.sameBut sb hCa,fun h' sb2=>?_⟩
 exact⟨_,H',I4.turned (t':=s4.toks) (it:=C) (fun b o hb e=>(sb2.2 b hb).trans e) g0 g1 g3 g4 g5,q⟩
end
mutual
inductive DV (H:Hp):V→PyData→Prop where
 |non:DV H .non .none
 |bl (b:Bool):DV H (.bl b) (.bool b)
 |int (i:Int):DV H (.int i) (.int i)
 |str (x:Str):DV H (.str x) (.str x)
 |lst {a:Addr} {xs:List V} {ds:List PyData}:H a=some (.lst xs)→DVs H xs ds→DV H (.ref a) (.list ds)
 |tup {a:Addr} {xs:List V} {ds:List PyData}:H a=some (.tup xs)→DVs H xs ds→DV H (.ref a) (.tuple ds)
inductive DVs (H:Hp):List V→List PyData→Prop where
 |nil:DVs H [] []
 |cons {x:V} {xs:List V} {d:PyData} {ds:List PyData}:DV H x d→DVs H xs ds→DVs H (x::xs) (d::ds)
end
section
variable {X:Cx}{pins:List (Addr×Obj)}{σ:St}{H:Hp}{s:Shared}
mutual
theorem DV.reads (I:Inv X pins σ H s):∀{x:V} {d:PyData} {u:Value},DV H x d→RelV x u→∃as,Reads s.heap u d as
 |_,_,u,.non,r=>by cases (show u=Value.none from r);exact⟨_,.none⟩
 |_,_,u,.bl b,r=>by cases (show u=Value.bool b from r);exact⟨_,.bool b⟩
 |_,_,u,.int i,r=>by obtain⟨t,rfl⟩:=(show ∃t,u=Value.int i t from r);exact⟨_,.int i t⟩
 |_,_,u,.str x,r=>by obtain⟨t,rfl⟩:=(show ∃t,u=Value.str x t from r);exact⟨_,.str x t⟩
 |_,_,u,.lst (a:=a) hq hs,r=>by
  cases (show u=Value.ref a from r)
  obtain⟨its,rv,p,hz⟩:=I.list (SqL.of hq)
  obtain⟨o,ho,hc,n,hd⟩:=p.isList
  obtain⟨as,ra⟩:=DVs.reads I hs rv
  exact⟨_,.list ho hc hd (by simpa using ra)⟩
 |_,_,u,.tup (a:=a) hq hs,r=>by
  cases (show u=Value.ref a from r)
  obtain⟨its,rv,p,hz⟩:=I.tuple (SqT.of hq)
  obtain⟨o,ho,hc,n,hd⟩:=p
  obtain⟨as,ra⟩:=DVs.reads I hs rv
  exact⟨_,.tuple ho hc hd (by simpa using ra)⟩
theorem DVs.reads (I:Inv X pins σ H s):∀{xs:List V} {ds:List PyData} {us:List Value},DVs H xs ds→Vals xs us→∃as,ReadsAll s.heap us ds as
 |_,_,_,.nil,.nil=>⟨_,.nil⟩
 |_,_,_,.cons h hs,.cons r rs=>by
  obtain⟨as,ra⟩:=DV.reads I h r
  obtain⟨bs,rb⟩:=DVs.reads I hs rs
  exact⟨_,.cons ra rb⟩
end
end
mutual
theorem DV.same {H H':Hp}(e:zm H H'):∀{x:V} {d:PyData},DV H x d→DV H' x d
 |_,_,.non=>.non
 |_,_,.bl b=>.bl b
 |_,_,.int i=>.int i
 |_,_,.str x=>.str x
 |_,_,.lst hq hs=>.lst (e _ _ hq) (DVs.same e hs)
 |_,_,.tup hq hs=>.tup (e _ _ hq) (DVs.same e hs)
theorem DVs.same {H H':Hp}(e:zm H H'):∀{xs:List V} {ds:List PyData},DVs H xs ds→DVs H' xs ds
 |_,_,.nil=>.nil
 |_,_,.cons h hs=>.cons (DV.same e h) (DVs.same e hs)
end
theorem DVs.length {H:Hp}:∀{xs:List V} {ds:List PyData},DVs H xs ds→xs.length=ds.length
 |_,_,.nil=>rfl
 |_,_,.cons _ hs=>by rw[bj,bj,DVs.length hs]
def tyD :PyData→String
 |.none=>"NoneType"
 |.bool _=>"bool"
 |.int _=>"int"
 |.str _=>"str"
 |.list _=>"list"
 |.tuple _=>"tuple"
 |.dict _=>"dict"
theorem DV.ty {K:PySem.W.Frag}{H:Hp}{x:V}{d:PyData}(h:DV H x d):xX K H x (.type (tyD d)):=by
 cases h with
 |non=>exact .non
 |bl b=>exact .bl b
 |int i=>exact .int i
 |str x=>exact .str x
 |lst e _=>exact .lst e
 |tup e _=>exact .tup e
def isInt :PyData→Bool
 |.int _=>true
 |.bool _=>true
 |_=>false
def isBool :PyData→Bool
 |.bool _=>true
 |_=>false
def isStr :PyData→Bool
 |.str _=>true
 |_=>false
def isList :PyData→Bool
 |.list _=>true
 |_=>false
def oJ :PyData→Bool
 |.tuple _=>true
 |_=>false
def tZ (T:String)(d:PyData):Option Bool:=
 if T="int" then some (isInt d) else if T="bool" then some (isBool d) else if T="str" then some (isStr d) else if T="list" then some (isList d) else if T="tuple" then some (oJ d) else none
def fN (t T:String):Option Bool:=if (Value.type t == Value.type T)=true then some true else if PySem.W.kitMeta T=true then (fastBuiltinMro t).map (·.contains (Value.type T)) else none
theorem mG (K:PySem.W.Frag)(t T:String):PySem.W.kitOne K (.type t) (.type T)=fN t T:=rfl
theorem kG :(["NoneType","bool","int","str","list","tuple"].all fun t=>["int","bool","str","list","tuple"].all fun T=>
  fN t T == some (if T="int" then t == "int"||t == "bool" else t == T))=true:=by decide +kernel
theorem dh (K:PySem.W.Frag){H:Hp}{x:V}{d:PyData}(h:DV H x d){T:String}{b:Bool}(e:tZ T d=some b):PySem.W.kitOne K (.type (tyD d)) (.type T)=some b:=by
 rw[mG]
 have key:∀t∈["NoneType","bool","int","str","list","tuple"],∀T∈["int","bool","str","list","tuple"],fN t T=some (if T="int" then t == "int"||t == "bool" else t == T):=fun t ht T hT=>
  eq_of_beq (za1.mp (za1.mp kG t ht) T hT)
 have hd:tyD d∈["NoneType","bool","int","str","list","tuple"]:=by cases h<;>simp[tyD]
 unfold tZ at e
 split at e
 ·rename_i eT
  subst eT
  rw[key _ hd "int" (by decide)]
  cases e
  cases h<;>rfl
 ·split at e
  ·rename_i eT
   subst eT
   rw[key _ hd "bool" (by decide)]
   cases e
   cases h<;>rfl
  ·split at e
   ·rename_i eT
    subst eT
    rw[key _ hd "str" (by decide)]
    cases e
    cases h<;>rfl
   ·split at e
    ·rename_i eT
     subst eT
     rw[key _ hd "list" (by decide)]
     cases e
     cases h<;>rfl
    ·split at e
     ·rename_i eT
      subst eT
      rw[key _ hd "tuple" (by decide)]
      cases e
      cases h<;>rfl
     ·cases e
section
variable {X:Cx}
def eP :R2:=fun x y H Q=>∃d e,DV H x d∧DV H y e∧SeqAt.shaped d=true∧SeqAt.shaped e=true∧Q (.bl (PyData.eqv d e)) H
def dR :R2:=fun x y H Q=>∃d e,DV H x d∧DV H y e∧SeqAt.shaped d=true∧SeqAt.shaped e=true∧Q (.bl (!PyData.eqv d e)) H
theorem xM (hu:X.A.units+64<cLine):OpR X (compareOp .Eq) eP:=by
 intro pins s σ H x y v u Q I rx ry h
 obtain⟨d,e,hd,he,sd,se,q⟩:=h
 obtain⟨as,ra⟩:=hd.reads I rx
 obtain⟨bs,rb⟩:=he.reads I ry
 exact SeqAt.compareEq_shaped ra rb sd se hu ⟨.bl _,H,I,rfl,q⟩
theorem fu (hu:X.A.units+64<cLine):OpR X (compareOp .NotEq) dR:=by
 intro pins s σ H x y v u Q I rx ry h
 obtain⟨d,e,hd,he,sd,se,q⟩:=h
 obtain⟨as,ra⟩:=hd.reads I rx
 obtain⟨bs,rb⟩:=he.reads I ry
 exact SeqAt.compareNe_shaped ra rb sd se hu ⟨.bl _,H,I,rfl,q⟩
theorem mJ :yX X (.builtin "isinstance") (fun xs H Q=>∃x T t b,xs=[x,.ty T]∧xX X.K H x t∧PySem.W.kitOne X.K t (.type T)=some b∧Q (.bl b) H):=by
 intro pins s σ H xs us Q I r h
 obtain⟨x,T,t,b,rfl,ty,e,q⟩:=h
 obtain⟨u,v,rfl,rx,ry⟩:=Vals.two r
 cases (show v=Value.type T from ry)
 exact uN I rx ty e fun tk=>⟨.bl b,H,I.tok tk,rfl,q⟩
theorem yR :yX X (.builtin "isinstance") (fun xs H Q=>∃x T d b,xs=[x,.ty T]∧DV H x d∧tZ T d=some b∧Q (.bl b) H):=by
 intro pins s σ H xs us Q I r h
 obtain⟨x,T,d,b,e,hd,ht,q⟩:=h
 exact mJ pins s σ H xs us Q I r ⟨x,T,_,b,e,hd.ty,dh X.K hd ht,q⟩
def dy (i j:Int):Prop:=0<j∧j.natAbs.log2<9000
theorem vK :OpR X (binaryOp .FloorDiv) (rI dy fun i j=>.int (i / j)):=opI fun i j _ _ _ _ _ hc q=>by
 have h1:(0:Int)<j:=hc.1
 refine floordiv_int (Int.ne_of_gt h1) ?_ (.inl (PyProof.noPylong_of_log2 hc.2))
 rw[Int.fdiv_eq_ediv_of_nonneg _ (Int.le_of_lt h1)]
 exact q
abbrev big :Int:=115792089237316195423570985008687907853269984665640564039457584007913129639936
theorem log2_small {j:Int}(h0:0<j)(h:j<big):j.natAbs.log2<9000:=by
 have hn:j.natAbs≠0:=by omega
 have h2:j.natAbs<2 ^ 256:=by
  have e:(2:Nat) ^ 256=115792089237316195423570985008687907853269984665640564039457584007913129639936:=by decide +kernel
  rw[e]
  unfold big at h
  omega
 have h3:j.natAbs.log2<256:=(Nat.log2_lt hn).mpr h2
 omega
def wV (lo:Int)(n:Nat):List Int:=(List.range n).map fun i=>lo+(i:Nat)
theorem yb (lo:Int)(n:Nat):(wV lo n).length=n:=by simp[wV]
theorem qH {lo:Int}{n i:Nat}(h:i<n):(wV lo n)[i]?=some (lo+(i:Nat)):=by simp[wV,h]
end
def nB (X:Cx)(body:List Stmt):TS:=fun D σ H=>∃t,PSs X body t∧t D σ H
theorem zT {X:Cx}{body:List Stmt}:PSs X body (nB X body):=fun pins s σ H D I ⟨t,p,q⟩=>p pins s σ H D I q
theorem zE {X:Cx}{st:Stmt}{rest:List Stmt}{D:Ends}{σ:St}{H:Hp}(M:St→Hp→Prop)(h1:∃t,PS X st t∧t {D with nx:=M} σ H)(h2:∀σ' H',M σ' H'→∃t,PSs X rest t∧t D σ' H'):
  ∃t,PSs X (st::rest) t∧t D σ H:=by
 obtain⟨t1,p1,q1⟩:=h1
 refine⟨fun D' σ' H'=>D'=D∧σ'=σ∧H'=H,?_,rfl,rfl,rfl⟩
 intro pins s σ' H' D' I h
 obtain⟨e1,e2,e3⟩:=h
 subst e1 e2 e3
 have step:PSs X (st::rest) (dP t1 fun D2 σ2 H2=>D2=D'∧M σ2 H2):=zz p1 fun pins s σ2 H2 D2 I2 ⟨e,m⟩=>by
  subst e
  obtain⟨t2,p2,q2⟩:=h2 σ2 H2 m
  exact p2 pins s σ2 H2 _ I2 q2
 refine step pins s _ _ _ I ?_
 show t1 {D' with nx:=fun σ2 H2=>D'=D'∧M σ2 H2} _ _
 have e:(fun (σ2:St) (H2:Hp)=>D'=D'∧M σ2 H2)=M:=by
  funext σ2 H2
  exact propext ⟨fun z=>z.2,fun z=>⟨rfl,z⟩⟩
 rw[e]
 exact q1
theorem mi {K:PySem.W.Frag}{a acc:Addr}{xs:List V}{g:TG}{tt:TT}{te:TE}{Q:VK}{τ0:St}{H0:Hp}(Pv:Nat→List V→St→Hp→Prop)(h0:Pv 0 [] τ0 H0)(hl:∀i ys τ H,i≤xs.length→Pv i ys τ H→SqL K H a xs)
  (hs:∀i x ys τ H,xs[i]?=some x→Pv i ys τ H→g x τ H fun τ2 H4=>tt τ2 H4 fun c H5=>
   if c=true then te τ2 H5 fun y H6=>H6 acc=some (.lst ys)∧ys.length<sizeLine∧Pv (i+1) (ys++[y]) τ2 (upd H6 acc (.lst (ys++[y]))) else Pv (i+1) ys τ2 H5)
  (hd:∀ys τ H,Pv xs.length ys τ H→Q (.ref acc) H):
  sg (Itl K a) acc g tt te τ0 H0 Q:=by
 refine⟨fun i m ys τ H=>m=xs.length-i∧i≤xs.length∧Pv i ys τ H,⟨xs.length,by simp,bz _,h0⟩,?_⟩
 rintro i m ys τ H ⟨rfl,hi,p⟩
 have q:=hl i ys τ H hi p
 by_cases hlt:i<xs.length
 ·refine .inr ⟨⟨xs,xs[i],q,by simp[hlt]⟩,Pv (i+1),fun ys' τ' H' p'=>⟨xs.length-(i+1),by omega,rfl,hlt,p'⟩,fun x H' y=>?_⟩
  obtain⟨e,y⟩:=y
  subst e
  exact hs i x ys τ _ (y xs q) p
 ·have e:i=xs.length:=by omega
  subst e
  exact .inl ⟨⟨xs,q,cU _⟩,hd ys τ H p⟩
theorem at0 {α:Type}{x:α}{xs:List α}:atI (x::xs) 0=some x:=tQ (j:=0) rfl
theorem ix0 {α:Type}{x:α}{xs:List α}:ixN (x::xs).length 0=some 0:=by
 unfold ixN
 rw[if_pos (Int.le_refl _),if_pos (by rw[bj];omega)]
 rfl
theorem dX {α:Type}{x:α}{xs:List α}:seqIndex? 0 (x::xs).length=some 0:=(sx ix0).1
theorem kd (ns:List Int)(lo hi:Option Int):∃ms:List Int,rk (ns.map V.int) lo hi=ms.map V.int∧ms.length≤ns.length:=by
 refine⟨(ns.drop (HT.sIx (ns.map V.int).length 0 lo)).take (HT.sIx (ns.map V.int).length (ns.map V.int).length hi-HT.sIx (ns.map V.int).length 0 lo),?_,?_⟩
 ·unfold rk
  rw[List.map_take,List.map_drop]
 ·rw[aS,List.length_drop]
  omega
structure yg (H:Hp)(t b c:Addr):Prop where
 ex:∃(n:Int) (bs cs:List Int),b≠c∧H t=some (.lst [.ref b,.ref c,.int n])∧H b=some (.lst (bs.map V.int))∧H c=some (.lst (cs.map V.int))∧bs.length≤63∧cs.length≤63
theorem pQ {b c:Addr}{n:Int}(bs:List Int):HO.lst [.ref b,.ref c,.int n]≠HO.lst (bs.map V.int):=by
 intro z
 injection z with z
 cases bs with
 |nil=>cases z
 |cons x r=>cases z
def tD (t b:Addr)(H H':Hp):Prop:=∀a,a≠t→a≠b→H' a=H a
theorem tD.trans {t b:Addr}{H H1 H2:Hp}(h:tD t b H H1)(k:tD t b H1 H2):tD t b H H2:=fun a h1 h2=>(k a h1 h2).trans (h a h1 h2)
def qU (K:PySem.W.Frag):Sp:=fun vs H Q _=>∃(a:Addr) (ns:List Int),vs=[.ref a]∧SqL K H a (ns.map V.int)∧ns.length≤63∧
 ∀(t b c:Addr) (H':Hp),yg H' t b c→H t=none→H b=none→H c=none→zm H H'→Q (.ref t) H'
def kh :Sp:=fun vs H Q _=>∃(t b c:Addr) (many:Int),vs=[.ref t,.int many]∧yg H t b c∧0<many∧many<big∧
 ∀(v:Int) (H':Hp),0≤v→v<many→yg H' t b c→tD t b H H'→Q (.int v) H'
theorem yg.free {H:Hp}{t b c l:Addr}(T:yg H t b c)(h:H l=none):l≠t∧l≠b∧l≠c:=by
 obtain⟨n,bs,cs,n1,e1,e2,e3,l1,l2⟩:=T.ex
 exact⟨(ze e1 h).symm,(ze e2 h).symm,(ze e3 h).symm⟩
theorem yg.off {H H':Hp}{t b c:Addr}(T:yg H t b c)(h:∀a,a=t∨a=b∨a=c→H' a=H a):yg H' t b c:=by
 obtain⟨n,bs,cs,n1,e1,e2,e3,l1,l2⟩:=T.ex
 exact⟨n,bs,cs,n1,by rw[h t (.inl rfl)];exact e1,by rw[h b (.inr (.inl rfl))];exact e2,by rw[h c (.inr (.inr rfl))];exact e3,l1,l2⟩
theorem jk {H:Hp}{t b c l:Addr}{o:HO}(T:yg H t b c)(h:l≠t∧l≠b∧l≠c):yg (upd H l o) t b c:=
 T.off fun a ha=>zc (ha.elim (fun e=>e▸h.1.symm) fun ha=>ha.elim (fun e=>e▸h.2.1.symm) fun e=>e▸h.2.2.symm)
theorem mw {H H':Hp}{t b c:Addr}(T:yg H t b c)(s:zm H H'):yg H' t b c:=by
 obtain⟨n,bs,cs,n1,e1,e2,e3,l1,l2⟩:=T.ex
 exact⟨n,bs,cs,n1,s _ _ e1,s _ _ e2,s _ _ e3,l1,l2⟩
theorem yn {H:Hp}{p:Addr}{o:HO}(h:H p=none):zm H (upd H p o):=fun b u e=>by rw[zc (ze e h)];exact e
def ug (x:Addr):Prop:=False
def TabAt (H:Hp):Prop:=True
def Plain (H:Hp)(l:Addr):Prop:=True
theorem sO {H H':Hp}(T:TabAt H)(h:∀a o,(∀xs,o≠.lst xs)→H a=some o→H' a=some o):TabAt H':=trivial
theorem iK {H:Hp}{l:Addr}{o:HO}(T:TabAt H)(h:Plain H l):TabAt (upd H l o):=trivial
theorem tw {H:Hp}{x:Addr}(T:TabAt H)(h:ug x):∃o,H x=some o∧(∀ts,o≠.tup ts)∧∀xs,o≠.lst xs:=h.elim
theorem uJ {H:Hp}{l:Addr}{xs:List V}(h:H l=some (.lst xs)):Plain H l:=trivial
theorem kl {H:Hp}{l:Addr}{xs:List (Key×V)}(h:H l=some (.dK xs)):Plain H l:=trivial
theorem nC {H:Hp}{l C dx:Addr}{fs:List (Str×V)}(h:H l=some (.ins C dx fs)):Plain H l:=trivial
theorem rD {H:Hp}{l:Addr}(T:TabAt H)(h:H l=none):¬ug l:=fun z=>by
 obtain⟨o,e,_⟩:=tw T z
 rw[h] at e;cases e
theorem iw {H H':Hp}{t b:Addr}{xs ys:List V}(T:TabAt H)(ht:H t=some (.lst xs))(hb:H b=some (.lst ys))(off:tD t b H H'):TabAt H':=sO T fun a o no e=>by
 have n1:a≠t:=fun z=>by rw[z,ht] at e;cases e;exact no _ rfl
 have n2:a≠b:=fun z=>by rw[z,hb] at e;cases e;exact no _ rfl
 rw[off a n1 n2];exact e
theorem mM {H H':Hp}(T:TabAt H)(h:zm H H'):TabAt H':=sO T fun a o _ e=>h a o e
def sR (K:PySem.W.Frag):Sp:=fun vs H Q _=>∃(a:Addr) (ns:List Int),vs=[.ref a]∧SqL K H a (ns.map V.int)∧ns.length≤63∧TabAt H∧∀H',Q (.bl true) H'
structure ed (mg:Str→Option Value):Prop where
 abs:mg "abs"=none
 list:mg "list"=none
 len:mg "len"=none
theorem iB (d:PyData):tZ "int" d=some (isInt d):=by unfold tZ;rw[if_pos rfl]
theorem vH (d:PyData):tZ "bool" d=some (isBool d):=by unfold tZ;rw[if_neg (by decide),if_pos rfl]
theorem uS (d:PyData):tZ "tuple" d=some (oJ d):=by unfold tZ;rw[if_neg (by decide),if_neg (by decide),if_neg (by decide),if_neg (by decide),if_pos rfl]
structure zL (n:Nat)(d:PyData):Prop where
 shw:d.showable=true
 nod:d.hasDict=false
 dep:d.depth≤8
 len:d.shown.length≤n
 lay:d.canLay0=true
theorem zL.mono {m n:Nat}{d:PyData}(h:zL m d)(e:m≤n):zL n d:=⟨h.shw,h.nod,h.dep,ae h.len e,h.lay⟩
theorem vh :∀(ts:List Str) (k:Nat) (acc:Str),(textFrom k acc ts).length≤acc.length+piled ts
 |[],_,acc=>by rw[piled_nil];exact cU _
 |t::r,k,acc=>by
  have h:=vh r (k+1) (acc++(if k > 0 then ", " else "":String)++t)
  rw[piled_cons]
  have e2:(Str.ofString (if k > 0 then ", " else "":String)).length≤2:=by
   split
   ·exact Nat.le_of_eq rfl
   ·exact bz _
  have e3:=ag (acc++Str.ofString (if k > 0 then ", " else "":String)) t
  have e4:=ag acc (Str.ofString (if k > 0 then ", " else "":String))
  show (textFrom (k+1) (acc++Str.ofString (if k > 0 then ", " else "":String)++t) r).length≤_
  have h':(textFrom (k+1) (acc++Str.ofString (if k > 0 then ", " else "":String)++t) r).length≤(acc++Str.ofString (if k > 0 then ", " else "":String)++t).length+piled r:=h
  omega
theorem sP (ts:List Str):(listText ts).length≤piled ts+2:=by
 unfold listText
 rw[ag]
 have h:=vh ts 0 (Str.ofString "[")
 have e1:(Str.ofString "[").length=1:=rfl
 have e2:(Str.ofString "]").length=1:=rfl
 show (textFrom 0 (Str.ofString "[") ts).length+(Str.ofString "]").length≤_
 omega
theorem sD (ts:List Str):(tupleText ts).length≤piled ts+3:=by
 cases ts with
 |nil=>decide +kernel
 |cons t r=>
  have h:=join_length_add (t::r) (by simp)
  unfold tupleText
  rw[ag,ag]
  have e1:(Str.ofString "(").length=1:=rfl
  have e2:(Str.ofString (if (t::r).length == 1 then ",)" else ")":String)).length≤2:=by
   split
   ·exact Nat.le_of_eq rfl
   ·exact aE (show 1<2 by decide)
  show (Str.ofString "(").length+(Str.join ", " (t::r)).length+(Str.ofString (if (t::r).length == 1 then ",)" else ")":String)).length≤_
  omega
theorem xP {n:Nat}:∀(ds:List PyData),(∀d∈ds,zL n d)→piled (PyData.shownAll ds)≤ds.length*(n+2)
 |[],_=>bz _
 |d::r,h=>by
  have h1:=(h d bp).len
  have h2:=xP r fun e he=>h e (ba _ he)
  show piled (d.shown::PyData.shownAll r)≤_
  rw[piled_cons,bj,Nat.succ_mul]
  omega
structure zW (n:Nat)(ds:List PyData):Prop where
 all:∀d∈ds,zL n d
 dep:∀d∈ds,d.depth≤7
theorem zW.parts {n:Nat}:∀{ds:List PyData},zW n ds→PyData.showableAll ds=true∧PyData.hasDictAll ds=false∧PyData.depthAll ds≤7∧PyData.canLayAll0 ds=true
 |[],_=>⟨rfl,rfl,bz _,rfl⟩
 |d::r,h=>by
  obtain⟨a,b,c,e⟩:=zW.parts (ds:=r) ⟨fun x hx=>h.all x (ba _ hx),fun x hx=>h.dep x (ba _ hx)⟩
  have hd:=h.all d bp
  have hp:=h.dep d bp
  refine⟨?_,?_,?_,?_⟩
  ·simp only[PyData.showableAll,hd.shw,a,Bool.and_self]
  ·simp only[PyData.hasDictAll,hd.nod,b,Bool.or_self]
  ·simp only[PyData.depthAll];omega
  ·simp only[PyData.canLayAll0,hd.lay,e,Bool.and_self]
theorem zL.list {n m:Nat}{ds:List PyData}(h:zW n ds)(e:ds.length*(n+2)+2≤m):zL m (.list ds):=by
 obtain⟨a,b,c,f⟩:=h.parts
 refine⟨by simp only[PyData.showable,a],by simp only[PyData.hasDict,b],by simp only[PyData.depth];omega,?_,by simp only[PyData.canLay0,f]⟩
 show (listText (PyData.shownAll ds)).length≤m
 have h1:=sP (PyData.shownAll ds)
 have h2:=xP ds h.all
 omega
theorem zL.tuple {n m:Nat}{ds:List PyData}(h:zW n ds)(e:ds.length*(n+2)+3≤m):zL m (.tuple ds):=by
 obtain⟨a,b,c,f⟩:=h.parts
 refine⟨by simp only[PyData.showable,a],by simp only[PyData.hasDict,b],by simp only[PyData.depth];omega,?_,by simp only[PyData.canLay0,f]⟩
 show (tupleText (PyData.shownAll ds)).length≤m
 have h1:=sD (PyData.shownAll ds)
 have h2:=xP ds h.all
 omega
theorem mP {i:Int}(h0:-big<i)(h1:i<big):i.natAbs.log2<1920:=by
 by_cases hn:i.natAbs=0
 ·rw[hn];decide
 ·have h2:i.natAbs<2 ^ 256:=by
   have e:(2:Nat) ^ 256=115792089237316195423570985008687907853269984665640564039457584007913129639936:=by decide +kernel
   rw[e]
   unfold big at h0 h1
   omega
  have h3:i.natAbs.log2<256:=(Nat.log2_lt hn).mpr h2
  omega
theorem zL.int {i:Int}(h0:-big<i)(h1:i<big):zL 2000 (.int i):=by
 have hl:=mP h0 h1
 refine⟨by simp only[PyData.showable,bZ];exact hl,rfl,bz _,?_,rfl⟩
 have:=int_text_len_1921 hl
 show (Str.ofString (toString i)).length≤2000
 omega
theorem zL.none :zL 2000 .none:=⟨rfl,rfl,bz _,by decide +kernel,rfl⟩
theorem zL.bool (b:Bool):zL 2000 (.bool b):=⟨rfl,rfl,bz _,by cases b<;>decide +kernel,rfl⟩
theorem zL.shaped {n:Nat}{d:PyData}(h:zL n d):SeqAt.shaped d=true:=by
 unfold SeqAt.shaped
 rw[h.lay,aq,bZ]
 have:=h.dep
 omega
section
variable {X:Cx}
theorem nZ (hg:X.A.guards=some [])(hu:X.A.units+64<cLine):yX X (.builtin "repr") (fun xs H Q=>∃x d,xs=[x]∧DV H x d∧zL sizeLine d∧Q (.str d.shown) H):=by
 intro pins s σ H xs us Q I r h
 obtain⟨x,d,rfl,hd,N,q⟩:=h
 obtain⟨u,rfl,rx⟩:=Vals.one r
 have big':∀{a:Addr},u=Value.ref a→wpAny (model X.prog X.w) X.A (call (.builtin "repr") [u]) (EP X pins σ Q) X.xe s:=fun {a} e=>by
  obtain⟨as,rd⟩:=hd.reads I rx
  subst e
  refine repr_of_reads' rd N.shw (PyData.noDict_hsm N.nod) hg (by have:=N.dep;omega) (fun _ _ e=>e) (fun h' t tk hk=>?_) N.len
  exact⟨.str d.shown,H,I.kept hk,⟨t,rfl⟩,q⟩
 cases hd with
 |non=>cases (show u=Value.none from rx);exact P.repr_of_none ⟨.str _,H,I.tok _,⟨_,rfl⟩,q⟩
 |bl b=>cases (show u=Value.bool b from rx);exact P.repr_of_bool ⟨.str _,H,I.tok _,⟨_,rfl⟩,q⟩
 |int i=>
  obtain⟨t,rfl⟩:=(show ∃t,u=Value.int i t from rx)
  have hs:i.natAbs.log2<1920:=by
   have:=N.shw
   simpa only[PyData.showable,bZ] using this
  exact P.repr_of_int hs ⟨.str _,H,I.tok _,⟨_,rfl⟩,q⟩
 |str y=>
  obtain⟨t,rfl⟩:=(show ∃t,u=Value.str y t from rx)
  exact P.repr_of_str ⟨.str _,H,I.tok _,⟨_,rfl⟩,q⟩ N.len
 |lst e _=>exact big' rx
 |tup e _=>exact big' rx
end
def qF :PyData→Bool
 |.int _=>true
 |_=>false
def zR (lo hi:Int):PyData→Bool
 |.int i=>decide (lo≤i)&&decide (i≤hi)
 |_=>false
def pairD :PyData→Bool
 |.tuple ds=>decide ((ds.length:Int)=2)
 |_=>false
abbrev wH :PyData→Bool:=zR 0 1000000
def ua :PyData→Bool
 |.tuple [a,b]=>wH a&&wH b
 |_=>false
def ux :PyData→Option Int
 |.tuple [.int a,.int b]=>if wH (.int a)&&wH (.int b) then some (b-a) else none
 |_=>none
def zV (d:PyData):Bool:=match ux d with
 |some k=>decide (0≤k)
 |none=>false
theorem nO (d:PyData):qF d=(isInt d&&!isBool d):=by cases d<;>rfl
theorem ve {d:PyData}(h:pairD d=true):∃a b,d=.tuple [a,b]:=by
 cases d with
 |tuple ds=>
  have h':(ds.length:Int)=2:=of_decide_eq_true h
  match ds,h' with
  |[a,b],_=>exact⟨a,b,rfl⟩
  |[],z=>simp at z
  |[_],z=>simp at z
  |_::_::_::_,z=>simp at z;omega
 |_=>cases h
theorem um (d:PyData):ua d=(ux d).isSome:=by
 unfold ua ux
 split
 ·rename_i a b
  cases a with
  |int i=>
   cases b with
   |int j=>
    show (wH (.int i)&&wH (.int j))=_
    cases e:(wH (.int i)&&wH (.int j))<;>simp[e]
   |_=>simp[zR]
  |_=>simp[zR]
 ·rename_i h
  split
  ·rename_i a b
   exact absurd rfl (h (.int a) (.int b))
  ·rfl
theorem qW {d:PyData}(h:ua d=true):∃a b:Int,d=.tuple [.int a,.int b]∧ux d=some (b-a):=by
 rw[um] at h
 unfold ux at h ⊢
 split at h
 ·rename_i a b
  split at h
  ·rename_i hc
   exact⟨a,b,rfl,by simp[hc]⟩
  ·cases h
 ·cases h
def yj (g:PyData→Bool):Sp:=fun vs H Q _=>∃x d,vs=[x]∧DV H x d∧Q (.bl (g d)) H
def xN :Sp:=fun vs H Q _=>∃x d lo hi,vs=[x,.int lo,.int hi]∧DV H x d∧Q (.bl (zR lo hi d)) H
theorem iH {n:Nat}:decide (V.int (n:Int)=V.int 2)=decide ((n:Int)=2):=by simp
noncomputable def sub (p:Addr→Prop)(H:Hp):Hp:=fun a=>open Classical in if p a then H a else none
theorem zh {p:Addr→Prop}{H:Hp}{a:Addr}{o:HO}(h:sub p H a=some o):p a∧H a=some o:=by
 unfold sub at h
 split at h
 ·rename_i hp;exact⟨hp,h⟩
 ·cases h
theorem zM {p:Addr→Prop}{H:Hp}{a:Addr}{o:HO}(hp:p a)(h:H a=some o):sub p H a=some o:=by
 unfold sub
 rw[if_pos hp]
 exact h
theorem zk {p q:Addr→Prop}{H H':Hp}(h:∀a o,p a→H a=some o→q a∧H' a=some o):zm (sub p H) (sub q H'):=fun a o e=>by
 obtain⟨hp,he⟩:=zh e
 obtain⟨hq,he'⟩:=h a o hp he
 exact zM hq he'
theorem yW {p:Addr→Prop}{H:Hp}:zm (sub p H) H:=fun _ _ e=>(zh e).2
theorem zW.snoc {n:Nat}{ds:List PyData}{d:PyData}(h:zW n ds)(hd:zL n d)(hp:d.depth≤7):zW n (ds++[d]):=
 ⟨fun e he=>(ai.mp he).elim (h.all e) fun z=>by rw[aA.mp z];exact hd,fun e he=>(ai.mp he).elim (h.dep e) fun z=>by rw[aA.mp z];exact hp⟩
theorem zW.nil {n:Nat}:zW n []:=⟨fun d hd=>by simp at hd,fun d hd=>by simp at hd⟩
theorem zW.two {n:Nat}{d e:PyData}(hd:zL n d)(he:zL n e)(h1:d.depth≤7)(h2:e.depth≤7):zW n [d,e]:=(zW.nil.snoc hd h1).snoc he h2
section
variable {X:Cx}{e:Expr}{es:List Expr}
def vD (X:Cx)(e:Expr):TE:=fun σ H Q=>∃t,PE X e t∧t σ H Q
theorem zi :PE X e (vD X e):=fun pins s σ H Q I ⟨t,p,q⟩=>p pins s σ H Q I q
def dC (X:Cx)(e:Expr):TT:=fun σ H Q=>∃t,PT X e t∧t σ H Q
theorem yP :PT X e (dC X e):=fun pins s σ H Q I ⟨t,p,q⟩=>p pins s σ H Q I q
def dm (X:Cx)(es:List Expr):TA:=fun σ H Q=>∃t,PA X es t∧t σ H Q
theorem yi :PA X es (dm X es):=fun pos pins s σ H Q I ⟨t,p,q⟩=>p pos pins s σ H Q I q
end
def nr :Key→PyData
 |.inl i=>.int i
 |.inr x=>.str x
def xcO (a C:Addr)(d:Option Addr):HO:=.ext fun h=>∃o vs,h.get? a=some o∧o.cls=.ref C∧o.dict=d∧o.data=.fields vs
mutual
inductive AV (H:Hp):V→PyData→Prop where
 |non:AV H .non .none
 |bl (b:Bool):AV H (.bl b) (.bool b)
 |int (i:Int):AV H (.int i) (.int i)
 |str (x:Str):AV H (.str x) (.str x)
 |lst {a:Addr} {xs:List V} {ds:List PyData}:H a=some (.lst xs)→AVs H xs ds→AV H (.ref a) (.list ds)
 |tup {a:Addr} {xs:List V} {ds:List PyData}:H a=some (.tup xs)→AVs H xs ds→AV H (.ref a) (.tuple ds)
 |ins {a C dx:Addr} {fs:List (Str×V)} {ds:List (PyData×PyData)}:H a=some (.ins C dx fs)→AVf H fs ds→AV H (.ref a) (.dict ((.int (C:Nat),.none)::ds))
 |dk {a:Addr} {o:Obj} {kvs:List (Key×V)} {ds:List (PyData×PyData)}:H a=some (.frz o (.dK kvs))→AVk H kvs ds→AV H (.ref a) (.dict ((.none,.none)::ds))
 |dt {a:Addr} {o:Obj} {kvs:List (List Key×V)} {ds:List (PyData×PyData)}:H a=some (.frz o (.dT kvs))→AVt H kvs ds→AV H (.ref a) (.dict ((.none,.bool true)::ds))
 |xc {a C dx:Addr} {fs:List (Str×V)} {ds:List (PyData×PyData)}:H a=some (xcO a C (some dx))→H dx=some (.xd fs)→AVf H fs ds→AV H (.ref a) (.dict ((.int (C:Nat),.bool true)::ds))
 |xn {a C:Addr}:H a=some (xcO a C none)→AV H (.ref a) (.dict [(.int (C:Nat),.bool false)])
inductive AVs (H:Hp):List V→List PyData→Prop where
 |nil:AVs H [] []
 |cons {x:V} {xs:List V} {d:PyData} {ds:List PyData}:AV H x d→AVs H xs ds→AVs H (x::xs) (d::ds)
inductive AVf (H:Hp):List (Str×V)→List (PyData×PyData)→Prop where
 |nil:AVf H [] []
 |cons {f:Str} {x:V} {fs:List (Str×V)} {d:PyData} {ds:List (PyData×PyData)}:AV H x d→AVf H fs ds→AVf H ((f,x)::fs) ((.str f,d)::ds)
inductive AVk (H:Hp):List (Key×V)→List (PyData×PyData)→Prop where
 |nil:AVk H [] []
 |cons {k:Key} {x:V} {fs:List (Key×V)} {d:PyData} {ds:List (PyData×PyData)}:AV H x d→AVk H fs ds→AVk H ((k,x)::fs) ((nr k,d)::ds)
inductive AVt (H:Hp):List (List Key×V)→List (PyData×PyData)→Prop where
 |nil:AVt H [] []
 |cons {k:List Key} {x:V} {fs:List (List Key×V)} {d:PyData} {ds:List (PyData×PyData)}:AV H x d→AVt H fs ds→AVt H ((k,x)::fs) ((.tuple (k.map nr),d)::ds)
end
mutual
theorem AV.same {H H':Hp}(e:zm H H'):∀{x:V} {d:PyData},AV H x d→AV H' x d
 |_,_,.non=>.non
 |_,_,.bl b=>.bl b
 |_,_,.int i=>.int i
 |_,_,.str x=>.str x
 |_,_,.lst hq hs=>.lst (e _ _ hq) (AVs.same e hs)
 |_,_,.tup hq hs=>.tup (e _ _ hq) (AVs.same e hs)
 |_,_,.ins hq hs=>.ins (e _ _ hq) (AVf.same e hs)
 |_,_,.dk hq hs=>.dk (e _ _ hq) (AVk.same e hs)
 |_,_,.dt hq hs=>.dt (e _ _ hq) (AVt.same e hs)
 |_,_,.xc hq hd hs=>.xc (e _ _ hq) (e _ _ hd) (AVf.same e hs)
 |_,_,.xn hq=>.xn (e _ _ hq)
theorem AVs.same {H H':Hp}(e:zm H H'):∀{xs:List V} {ds:List PyData},AVs H xs ds→AVs H' xs ds
 |_,_,.nil=>.nil
 |_,_,.cons h hs=>.cons (AV.same e h) (AVs.same e hs)
theorem AVf.same {H H':Hp}(e:zm H H'):∀{fs:List (Str×V)} {ds:List (PyData×PyData)},AVf H fs ds→AVf H' fs ds
 |_,_,.nil=>.nil
 |_,_,.cons h hs=>.cons (AV.same e h) (AVf.same e hs)
theorem AVk.same {H H':Hp}(e:zm H H'):∀{fs:List (Key×V)} {ds:List (PyData×PyData)},AVk H fs ds→AVk H' fs ds
 |_,_,.nil=>.nil
 |_,_,.cons h hs=>.cons (AV.same e h) (AVk.same e hs)
theorem AVt.same {H H':Hp}(e:zm H H'):∀{fs:List (List Key×V)} {ds:List (PyData×PyData)},AVt H fs ds→AVt H' fs ds
 |_,_,.nil=>.nil
 |_,_,.cons h hs=>.cons (AV.same e h) (AVt.same e hs)
end
mutual
theorem AV.dv {H:Hp}:∀{x:V} {d:PyData},AV H x d→d.hasDict=false→DV H x d
 |_,_,.non,_=>.non
 |_,_,.bl b,_=>.bl b
 |_,_,.int i,_=>.int i
 |_,_,.str x,_=>.str x
 |_,_,.lst hq hs,h=>.lst hq (AVs.dv hs (by simpa only[PyData.hasDict] using h))
 |_,_,.tup hq hs,h=>.tup hq (AVs.dv hs (by simpa only[PyData.hasDict] using h))
 |_,_,.ins hq hs,h=>by simp[PyData.hasDict] at h
 |_,_,.dk hq hs,h=>by simp[PyData.hasDict] at h
 |_,_,.dt hq hs,h=>by simp[PyData.hasDict] at h
 |_,_,.xc hq _ hs,h=>by simp[PyData.hasDict] at h
 |_,_,.xn hq,h=>by simp[PyData.hasDict] at h
theorem AVs.dv {H:Hp}:∀{xs:List V} {ds:List PyData},AVs H xs ds→PyData.hasDictAll ds=false→DVs H xs ds
 |_,_,.nil,_=>.nil
 |_,_,.cons h hs,e=>by
  simp only[PyData.hasDictAll,Bool.or_eq_false_iff] at e
  exact .cons (AV.dv h e.1) (AVs.dv hs e.2)
end
mutual
theorem DV.av {H:Hp}:∀{x:V} {d:PyData},DV H x d→AV H x d
 |_,_,.non=>.non
 |_,_,.bl b=>.bl b
 |_,_,.int i=>.int i
 |_,_,.str x=>.str x
 |_,_,.lst hq hs=>.lst hq (DVs.av hs)
 |_,_,.tup hq hs=>.tup hq (DVs.av hs)
theorem DVs.av {H:Hp}:∀{xs:List V} {ds:List PyData},DVs H xs ds→AVs H xs ds
 |_,_,.nil=>.nil
 |_,_,.cons h hs=>.cons (DV.av h) (DVs.av hs)
end
theorem AVs.length {H:Hp}:∀{xs:List V} {ds:List PyData},AVs H xs ds→xs.length=ds.length
 |_,_,.nil=>rfl
 |_,_,.cons _ hs=>by rw[bj,bj,AVs.length hs]
theorem AVs.append {H:Hp}:∀{xs ys:List V} {ds es:List PyData},AVs H xs ds→AVs H ys es→AVs H (xs++ys) (ds++es)
 |_,_,_,_,.nil,h=>h
 |_,_,_,_,.cons a r,h=>.cons a (AVs.append r h)
theorem AVs.get {H:Hp}:∀{xs:List V} {ds:List PyData} {i:Nat} {d:PyData},AVs H xs ds→ds[i]?=some d→∃x,xs[i]?=some x∧AV H x d
 |_,_,_,_,.nil,e=>by simp at e
 |_,_,0,_,.cons a _,e=>by simp at e;subst e;exact⟨_,rfl,a⟩
 |_,_,i+1,d,.cons _ r,e=>by
  obtain⟨x,h1,h2⟩:=AVs.get (i:=i) (d:=d) r (by simpa using e)
  exact⟨x,by simpa using h1,h2⟩
theorem AVs.take {H:Hp}:∀{xs:List V} {ds:List PyData} (n:Nat),AVs H xs ds→AVs H (xs.take n) (ds.take n)
 |_,_,0,_=>.nil
 |_,_,_+1,.nil=>.nil
 |_,_,n+1,.cons a r=>.cons a (AVs.take n r)
theorem AVs.drop {H:Hp}:∀{xs:List V} {ds:List PyData} (n:Nat),AVs H xs ds→AVs H (xs.drop n) (ds.drop n)
 |_,_,0,r=>r
 |_,_,_+1,.nil=>.nil
 |_,_,n+1,.cons _ r=>AVs.drop n r
theorem AVs.atI {H:Hp}{xs:List V}{ds:List PyData}{i:Int}{d:PyData}(h:AVs H xs ds)(e:atI ds i=some d):∃x,L2.atI xs i=some x∧AV H x d:=by
 unfold L2.atI at e ⊢
 rw[h.length]
 cases q:ixN ds.length i with
 |none=>rw[q] at e;cases e
 |some j=>
  rw[q] at e
  exact h.get (i:=j) e
def cutD (ds:List PyData)(lo hi:Option Int):List PyData:=(ds.drop (HT.sIx ds.length 0 lo)).take (HT.sIx ds.length ds.length hi-HT.sIx ds.length 0 lo)
theorem AVs.cut {H:Hp}{xs:List V}{ds:List PyData}(h:AVs H xs ds)(lo hi:Option Int):AVs H (rk xs lo hi) (cutD ds lo hi):=by
 unfold rk cutD
 rw[h.length]
 exact (h.drop _).take _
mutual
def noL :PyData→Bool
 |.list _=>false
 |.dict ((.none,_)::_)=>false
 |.dict kvs=>qR kvs
 |.tuple ds=>sL ds
 |_=>true
def sL :List PyData→Bool
 |[]=>true
 |d::r=>noL d&&sL r
def qR :List (PyData×PyData)→Bool
 |[]=>true
 |(_,d)::r=>noL d&&qR r
end
def Ob :HO→Prop
 |.lst _=>True
 |.dK _=>True
 |.frz _ _=>True
 |_=>False
mutual
theorem AV.noL {H H':Hp}(e:∀a o,¬Ob o→H a=some o→H' a=some o):∀{x:V} {d:PyData},AV H x d→noL d=true→AV H' x d
 |_,_,.non,_=>.non
 |_,_,.bl b,_=>.bl b
 |_,_,.int i,_=>.int i
 |_,_,.str x,_=>.str x
 |_,_,.lst _ _,h=>by simp[L2.noL] at h
 |_,_,.tup hq hs,h=>.tup (e _ _ (fun z=>z) hq) (AVs.noL e hs (by simpa only[L2.noL] using h))
 |_,_,.ins hq hs,h=>.ins (e _ _ (fun z=>z) hq) (AVf.noL e hs (by simpa[L2.noL,L2.qR] using h))
 |_,_,.dk _ _,h=>by simp[L2.noL] at h
 |_,_,.dt _ _,h=>by simp[L2.noL] at h
 |_,_,.xc hq hd hs,h=>.xc (e _ _ (fun z=>z) hq) (e _ _ (fun z=>z) hd) (AVf.noL e hs (by simpa[L2.noL,L2.qR] using h))
 |_,_,.xn hq,h=>.xn (e _ _ (fun z=>z) hq)
theorem AVs.noL {H H':Hp}(e:∀a o,¬Ob o→H a=some o→H' a=some o):∀{xs:List V} {ds:List PyData},AVs H xs ds→sL ds=true→AVs H' xs ds
 |_,_,.nil,_=>.nil
 |_,_,.cons h hs,q=>by
  simp only[L2.sL,bu] at q
  exact .cons (AV.noL e h q.1) (AVs.noL e hs q.2)
theorem AVf.noL {H H':Hp}(e:∀a o,¬Ob o→H a=some o→H' a=some o):∀{fs:List (Str×V)} {ds:List (PyData×PyData)},AVf H fs ds→qR ds=true→AVf H' fs ds
 |_,_,.nil,_=>.nil
 |_,_,.cons h hs,q=>by
  simp only[L2.qR,bu] at q
  exact .cons (AV.noL e h q.1) (AVf.noL e hs q.2)
end
structure Fr where
 H0:Hp
 O0:Addr→Prop
 tp:Option (Addr×Addr×Addr)
inductive A where
 |dat (d:PyData)
 |ow (c:PyData)
 |deep (d:PyData) (S:Addr→Prop)
 |tape
 |at (l:Addr)
 |exc (r:Fr) (q:PyData→Prop)
 |pin (l:Addr) (vs:List V) (ds:List PyData)
@[reducible] def A.own (ds:List PyData):A:=.ow (.list ds)
abbrev jS (ds:List (PyData×PyData)):PyData:=.dict ((.none,.none)::ds)
abbrev Ev :=List (Option A)
def xu (o:HO):Prop:=∀ts,o≠.tup ts
theorem yu {xs:List V}:xu (.lst xs):=fun _ z=>by cases z
theorem Ob.notup {o:HO}(h:Ob o):xu o:=fun ts z=>by subst z;exact h
def NT (F:Fr)(x:Addr):Prop:=(∀t b c,F.tp=some (t,b,c)→x≠t∧x≠b)∧¬ug x
def Kz (F:Fr)(H H':Hp):Prop:=∀x o,H x=some o→NT F x→H' x=some o
structure zA (F:Fr)(H:Hp):Prop where
 tab:TabAt H
 ot:∀x,ug x→F.O0 x
 all:∀t b c,F.tp=some (t,b,c)→yg H t b c∧F.O0 t∧F.O0 b∧F.O0 c
instance {F:Fr} {H:Hp}:CoeFun (zA F H) (fun _=>∀t b c,F.tp=some (t,b,c)→yg H t b c∧F.O0 t∧F.O0 b∧F.O0 c):=⟨zA.all⟩
theorem zA.to {F F':Fr}{H:Hp}(t:zA F H)(hp:F'.tp=F.tp)(ho:∀x,F.O0 x→F'.O0 x):zA F' H:=⟨t.tab,fun x h=>ho x (t.ot x h),fun a b c e=>by
 obtain⟨h1,h2,h3,h4⟩:=t a b c (hp▸e)
 exact⟨h1,ho _ h2,ho _ h3,ho _ h4⟩⟩
theorem zA.re {F F':Fr}{H H':Hp}(t:zA F H)(t':zA F' H')(hp:F'.tp=F.tp):zA F H':=⟨t'.tab,t.ot,fun a b c e=>⟨(t' a b c (hp▸e)).1,(t a b c e).2⟩⟩
theorem zA.upd {F:Fr}{H:Hp}{l:Addr}{o:HO}(t:zA F H)(h:∀a b c,F.tp=some (a,b,c)→l≠a∧l≠b∧l≠c)(hp:Plain H l):zA F (upd H l o):=⟨iK t.tab hp,t.ot,fun a b c e=>⟨jk (t a b c e).1 (h a b c e),(t a b c e).2⟩⟩
theorem zA.updO {F:Fr}{H:Hp}{l:Addr}{o:HO}(t:zA F H)(h:¬F.O0 l)(hp:Plain H l):zA F (L2.upd H l o):=t.upd (fun a b c e=>⟨fun z=>h (by rw[z];exact (t a b c e).2.1),fun z=>h (by rw[z];exact (t a b c e).2.2.1),fun z=>h (by rw[z];exact (t a b c e).2.2.2)⟩) hp
def foot (s:Option V):A→Addr→Prop
 |.ow _,x=>s=some (.ref x)
 |.deep _ S,x=>S x
 |_,_=>False
def Ow (F:Fr)(α:Ev)(σ:St)(x:Addr):Prop:=F.O0 x∨∃(i:Nat) (a:A) (s:Option V),α[i]?=some (some a)∧σ[i]?=some s∧foot s a x
noncomputable abbrev Gz (F:Fr)(α:Ev)(σ:St)(H:Hp):Hp:=sub (fun x=>¬Ow F α σ x) H
noncomputable def vq (S:Addr→Prop)(G H:Hp):Hp:=fun x=>open Classical in if S x then H x else match G x with
 |some (.lst _)=>none
 |o=>o
theorem wM {S:Addr→Prop}{G G' H H':Hp}(h:zm G G')(hS:∀x o,S x→H x=some o→H' x=some o):zm (vq S G H) (vq S G' H'):=fun x o e=>by
 unfold vq at e ⊢
 by_cases z:S x
 ·rw[if_pos z] at e ⊢;exact hS x o z e
 ·rw[if_neg z] at e ⊢
  cases q:G x with
  |none=>rw[q] at e;cases e
  |some u=>
   rw[h _ _ q]
   rw[q] at e
   exact e
theorem vL {S:Addr→Prop}{G H:Hp}{x:Addr}{o:HO}(h:vq S G H x=some o):(S x∧H x=some o)∨(¬S x∧G x=some o):=by
 unfold vq at h
 by_cases z:S x
 ·rw[if_pos z] at h;exact .inl ⟨z,h⟩
 ·rw[if_neg z] at h
  split at h
  ·cases h
  ·exact .inr ⟨z,h⟩
inductive yy (G:Hp):HO→PyData→Prop where
 |lst {xs:List V} {ds:List PyData}:AVs G xs ds→yy G (.lst xs) (.list ds)
 |dk {kvs:List (Key×V)} {ds:List (PyData×PyData)}:AVk G kvs ds→yy G (.dK kvs) (jS ds)
theorem yy.ob {G:Hp}{o:HO}{c:PyData}(h:yy G o c):Ob o:=by cases h<;>trivial
theorem yy.same {G G':Hp}{o:HO}{c:PyData}(h:yy G o c)(s:zm G G'):yy G' o c:=by
 cases h with
 |lst h=>exact .lst (h.same s)
 |dk h=>exact .dk (h.same s)
theorem yy.av {G:Hp}{o:HO}{ds:List PyData}{l:Addr}(h:yy G o (.list ds))(e:G l=some o):AV G (.ref l) (.list ds):=by
 cases h with
 |lst h=>exact .lst e h
theorem yy.lst_inv {G:Hp}{o:HO}{ds:List PyData}(h:yy G o (.list ds)):∃xs,o=.lst xs∧AVs G xs ds:=by cases h;exact⟨_,rfl,by assumption⟩
theorem yy.plain {G H:Hp}{o:HO}{c:PyData}{l:Addr}(h:yy G o c)(e:H l=some o):Plain H l:=by
 cases h with
 |lst h=>exact uJ e
 |dk h=>exact kl e
structure Lnk (r F:Fr)(H:Hp):Prop where
 tp:r.tp=F.tp
 o:∀x,r.O0 x→F.O0 x
 ok:zA r H
 k:Kz r r.H0 H
def xB (G:Hp)(F:Fr)(H:Hp)(s:Option V):A→Prop
 |.dat d=>∃v,s=some v∧AV G v d
 |.ow c=>∃l o,s=some (.ref l)∧H l=some o∧yy G o c∧¬F.O0 l∧F.H0 l=none
 |.deep d S=>∃v,s=some v∧AV (vq S G H) v d∧∀x,S x→¬F.O0 x∧F.H0 x=none∧∃xs,H x=some (.lst xs)
 |.tape=>∃t b c,F.tp=some (t,b,c)∧s=some (.ref t)
 |.at l=>s=some (.ref l)
 |.exc r _=>Lnk r F H
 |.pin l vs ds=>s=some (.ref l)∧G l=some (.lst vs)∧AVs G vs ds
structure M (F:Fr)(α:Ev)(σ:St)(H:Hp):Prop where
 len:α.length=σ.length
 ok:∀(i:Nat) (a:A) (s:Option V),α[i]?=some (some a)→σ[i]?=some s→xB (Gz F α σ H) F H s a
 dj:∀(i j:Nat) (a b:A) (s t:Option V) (x:Addr),α[i]?=some (some a)→α[j]?=some (some b)→σ[i]?=some s→σ[j]?=some t→foot s a x→foot t b x→i=j
 xd:∀(i:Nat) (r:Fr) (q:PyData→Prop),α[i]?=some (some (.exc r q))→∀(j:Nat) (a:A) (s:Option V) (x:Addr),α[j]?=some (some a)→σ[j]?=some s→foot s a x→r.H0 x=none
 tp:zA F H
 keep:Kz F F.H0 H
 oex:∀x,F.O0 x→∃o,H x=some o∧xu o
theorem M.at' {F:Fr}{α:Ev}{σ:St}{H:Hp}(m:M F α σ H){i:Nat}{a:Option A}(e:α[i]?=some a):∃s,σ[i]?=some s:=by
 have:i<σ.length:=by rw[←m.len];exact (cR.mp e).1
 exact⟨_,bH this⟩
theorem vB {G:Hp}{F:Fr}{H:Hp}{s:Option V}{a:A}{x:Addr}(h:xB G F H s a)(f:foot s a x):¬F.O0 x∧F.H0 x=none∧∃o,H x=some o∧Ob o:=by
 cases a with
 |ow c=>
  obtain⟨l,o,h1,h2,h3,h4,h5⟩:=h
  have f':s=some (.ref x):=f
  rw[f'] at h1;cases h1
  exact⟨h4,h5,o,h2,h3.ob⟩
 |deep d S=>
  obtain⟨v,h1,h2,h3⟩:=h
  obtain⟨z1,z2,xs,z3⟩:=h3 x f
  exact⟨z1,z2,_,z3,trivial⟩
 |dat d=>exact f.elim
 |tape=>exact f.elim
 |«at» l=>exact f.elim
 |exc r q=>exact f.elim
 |pin l vs ds=>exact f.elim
theorem Lnk.kz {r F:Fr}{H H':Hp}(l:Lnk r F H)(k:Kz F H H')(t:zA F H'):Lnk r F H':=⟨l.tp,l.o,l.ok.re t l.tp.symm,fun x o e n=>k x o (l.k x o e n) ⟨fun a b c z=>n.1 a b c (l.tp.trans z),n.2⟩⟩
theorem Lnk.none {r F:Fr}{H:Hp}(l:Lnk r F H){x:Addr}(h:H x=Option.none):r.H0 x=Option.none:=by
 cases q:r.H0 x with
 |none=>rfl
 |some o=>rw[l.k x o q ⟨fun a b c e=>⟨((l.ok a b c e).1.free h).1,((l.ok a b c e).1.free h).2.1⟩,rD l.ok.tab h⟩] at h;cases h
def noX :A→Prop
 |.exc _ _=>False
 |_=>True
theorem xB.stay {G G':Hp}{F F':Fr}{H H':Hp}{s:Option V}{a:A}(h:xB G F H s a)(g:zm G G')(hf:∀x o,foot s a x→H x=some o→H' x=some o∧¬F'.O0 x∧F'.H0 x=none)(hp:F'.tp=F.tp)(hl:∀r q,a=.exc r q→Lnk r F H→Lnk r F' H'):xB G' F' H' s a:=by
 cases a with
 |dat d=>obtain⟨v,h1,h2⟩:=h;exact⟨v,h1,h2.same g⟩
 |ow c=>
  obtain⟨l,o,h1,h2,h3,h4,h5⟩:=h
  obtain⟨z1,z2,z3⟩:=hf l o h1 h2
  exact⟨l,o,h1,z1,h3.same g,z2,z3⟩
 |deep d S=>
  obtain⟨v,h1,h2,h3⟩:=h
  refine⟨v,h1,h2.same (wM g fun x o z e=>(hf x o z e).1),fun x z=>?_⟩
  obtain⟨_,_,xs,e⟩:=h3 x z
  obtain⟨z1,z2,z3⟩:=hf x _ z e
  exact⟨z2,z3,xs,z1⟩
 |tape=>obtain⟨t,b,c,e,z⟩:=h;exact⟨t,b,c,hp.trans e,z⟩
 |«at» l=>exact h
 |exc r q=>exact hl r q rfl h
 |pin l vs ds=>exact⟨h.1,g _ _ h.2.1,h.2.2.same g⟩
section
variable {F:Fr}{α:Ev}{σ:St}{H H' H'':Hp}
theorem M.dat (m:M F α σ H)(i:Nat)(d:PyData)(e:α[i]?=some (some (.dat d))):∃v,σ[i]?=some (some v)∧AV (Gz F α σ H) v d:=by
 obtain⟨s,hs⟩:=m.at' e
 obtain⟨v,rfl,h⟩:=m.ok i _ s e hs
 exact⟨v,hs,h⟩
theorem M.owc (m:M F α σ H)(i:Nat)(c:PyData)(e:α[i]?=some (some (.ow c))):∃l o,σ[i]?=some (some (.ref l))∧H l=some o∧yy (Gz F α σ H) o c∧¬F.O0 l∧F.H0 l=none:=by
 obtain⟨s,hs⟩:=m.at' e
 obtain⟨l,o,rfl,h⟩:=m.ok i _ s e hs
 exact⟨l,o,hs,h⟩
theorem M.own (m:M F α σ H)(i:Nat)(ds:List PyData)(e:α[i]?=some (some (.own ds))):∃l xs,σ[i]?=some (some (.ref l))∧H l=some (.lst xs)∧AVs (Gz F α σ H) xs ds∧¬F.O0 l∧F.H0 l=none:=by
 obtain⟨l,o,h1,h2,h3,h4⟩:=m.owc i _ e
 obtain⟨xs,rfl,h5⟩:=h3.lst_inv
 exact⟨l,xs,h1,h2,h5,h4⟩
theorem M.deep (m:M F α σ H)(i:Nat)(d:PyData)(S:Addr→Prop)(e:α[i]?=some (some (.deep d S))):∃v,σ[i]?=some (some v)∧AV (vq S (Gz F α σ H) H) v d∧∀x,S x→¬F.O0 x∧F.H0 x=none∧∃xs,H x=some (.lst xs):=by
 obtain⟨s,hs⟩:=m.at' e
 obtain⟨v,rfl,h⟩:=m.ok i _ s e hs
 exact⟨v,hs,h⟩
theorem M.tvar (m:M F α σ H)(i:Nat)(e:α[i]?=some (some .tape)):∃t b c,F.tp=some (t,b,c)∧σ[i]?=some (some (.ref t)):=by
 obtain⟨s,hs⟩:=m.at' e
 obtain⟨t,b,c,h,rfl⟩:=m.ok i _ s e hs
 exact⟨t,b,c,h,hs⟩
theorem M.lnk (m:M F α σ H){i:Nat}{r:Fr}{q:PyData→Prop}(e:α[i]?=some (some (.exc r q))):Lnk r F H:=by
 obtain⟨s,hs⟩:=m.at' e
 exact m.ok i _ s e hs
theorem Kz.refl :Kz F H H:=fun _ _ e _=>e
theorem Kz.trans (h:Kz F H H')(k:Kz F H' H''):Kz F H H'':=fun x o e n=>k x o (h x o e n) n
theorem Kz.of_same (h:zm H H'):Kz F H H':=fun x o e _=>h x o e
theorem zA.same (t:zA F H)(h:zm H H'):zA F H':=⟨mM t.tab h,t.ot,fun a b c e=>⟨mw (t a b c e).1 h,(t a b c e).2⟩⟩
theorem zA.nt (t:zA F H){x:Addr}(h:¬F.O0 x):NT F x:=⟨fun a b c e=>⟨fun z=>h (z▸(t a b c e).2.1),fun z=>h (z▸(t a b c e).2.2.1)⟩,fun z=>h (t.ot x z)⟩
theorem ow0 {x:Addr}(h:¬Ow F α σ x):¬F.O0 x:=fun z=>h (.inl z)
theorem Kz.gz (k:Kz F H H')(t:zA F H):zm (Gz F α σ H) (Gz F α σ H'):=zk fun a o h e=>⟨h,k a o e (t.nt (ow0 h))⟩
theorem M.oex' (t:zA F H')(k:Kz F H H')(h:∀x,F.O0 x→∃o,H x=some o∧xu o):∀x,F.O0 x→∃o,H' x=some o∧xu o:=fun x hx=>by
 by_cases n:NT F x
 ·obtain⟨o,ho,hn⟩:=h x hx
  exact⟨o,k _ _ ho n,hn⟩
 ·by_cases z:ug x
  ·obtain⟨o,ho,hn,_⟩:=tw t.tab z
   exact⟨o,ho,hn⟩
  ·have:∃a b c,F.tp=some (a,b,c)∧¬(x≠a∧x≠b):=by
    refine Classical.byContradiction fun q=>n ⟨fun a b c e=>?_,z⟩
    exact Classical.byContradiction fun w=>q ⟨a,b,c,e,w⟩
   obtain⟨a,b,c,e,w⟩:=this
   obtain⟨n,bs,cs,_,e1,e2,e3,_⟩:=(t a b c e).1.ex
   by_cases xa:x=a
   ·exact⟨_,xa▸e1,yu⟩
   ·by_cases xb:x=b
    ·exact⟨_,xb▸e2,yu⟩
    ·exact absurd ⟨xa,xb⟩ w
theorem M.kz (m:M F α σ H)(k:Kz F H H')(t:zA F H'):M F α σ H' where
 len:=m.len
 ok:=fun i a s e1 e2=>(m.ok i a s e1 e2).stay (k.gz m.tp) (fun x o hf e=>by
  obtain⟨h1,h2,_⟩:=vB (m.ok i a s e1 e2) hf
  exact⟨k x o e (m.tp.nt h1),h1,h2⟩) rfl fun r _ _ l=>l.kz k t
 dj:=m.dj
 xd:=m.xd
 tp:=t
 keep:=m.keep.trans k
 oex:=M.oex' t k m.oex
theorem M.ft (m:M F α σ H){i:Nat}{a:A}{s:Option V}{x:Addr}(e1:α[i]?=some (some a))(e2:σ[i]?=some s)(f:foot s a x):¬F.O0 x∧F.H0 x=none∧∃o,H x=some o∧Ob o:=vB (m.ok i a s e1 e2) f
theorem M.owEx (m:M F α σ H){x:Addr}(h:Ow F α σ x):∃o,H x=some o∧xu o:=by
 rcases h with z|⟨i,a,s,e1,e2,f⟩
 ·exact m.oex x z
 ·obtain⟨_,_,o,ho,hb⟩:=m.ft e1 e2 f
  exact⟨o,ho,hb.notup⟩
theorem M.fresh (m:M F α σ H){l:Addr}(h:H l=none):¬Ow F α σ l:=fun z=>by
 obtain⟨o,ho,_⟩:=m.owEx z
 rw[h] at ho;cases ho
theorem M.fresh0 (m:M F α σ H){l:Addr}(h:H l=none):F.H0 l=none:=by
 cases q:F.H0 l with
 |none=>rfl
 |some o=>rw[m.keep l o q (m.tp.nt fun z=>m.fresh h (.inl z))] at h;cases h
theorem M.old (m:M F α σ H):zm (sub (fun x=>¬F.O0 x) F.H0) (Gz F α σ H):=fun a o e=>by
 obtain⟨h1,h2⟩:=zh e
 refine zM ?_ (m.keep a o h2 (m.tp.nt h1))
 rintro (z|⟨i,b,s,e1,e2,f⟩)
 ·exact h1 z
 ·obtain⟨_,z,_⟩:=m.ft e1 e2 f
  rw[h2] at z;cases z
noncomputable def Fr.up (F:Fr)(G:Hp):Fr:={F with H0:=fun x=>(F.H0 x).or (G x)}
theorem tG {G:Hp}{x:Addr}{o:HO}(h:F.H0 x=some o):(F.up G).H0 x=some o:=by show (F.H0 x).or (G x)=some o;rw[h];rfl
theorem om {G:Hp}{x:Addr}(h:(F.up G).H0 x=none):F.H0 x=none:=by
 cases q:F.H0 x with
 |none=>rfl
 |some o=>rw[tG q] at h;cases h
theorem M.up (m:M F α σ H):M (F.up (Gz F α σ H)) α σ H where
 len:=m.len
 ok:=fun i a s e1 e2=>(m.ok i a s e1 e2).stay (fun _ _ e=>e) (fun x o hf e=>by
  obtain⟨h1,h2,_⟩:=m.ft e1 e2 hf
  refine⟨e,h1,?_⟩
  show (F.H0 x).or (Gz F α σ H x)=none
  rw[h2]
  show Gz F α σ H x=none
  cases q:Gz F α σ H x with
  |none=>rfl
  |some o=>exact absurd (.inr ⟨i,a,s,e1,e2,hf⟩) (zh q).1) rfl fun r _ _ l=>⟨l.tp,l.o,l.ok,l.k⟩
 dj:=m.dj
 xd:=m.xd
 tp:=m.tp.to rfl fun _ z=>z
 keep:=fun x o e n=>by
  have e':(F.H0 x).or (Gz F α σ H x)=some o:=e
  cases q:F.H0 x with
  |none=>rw[q,Option.none_or] at e';exact (zh e').2
  |some o'=>rw[q] at e';cases e';exact m.keep x _ q n
 oex:=m.oex
theorem M.down {G:Hp}(m:M (F.up G) α σ H):M F α σ H where
 len:=m.len
 ok:=fun i a s e1 e2=>(m.ok i a s e1 e2).stay (fun _ _ e=>e) (fun x o hf e=>by
  obtain⟨h1,h2,_⟩:=m.ft e1 e2 hf
  exact⟨e,h1,om h2⟩) rfl fun r _ _ l=>⟨l.tp,l.o,l.ok,l.k⟩
 dj:=m.dj
 xd:=m.xd
 tp:=m.tp.to rfl fun _ z=>z
 keep:=fun x o e n=>m.keep x o (tG e) n
 oex:=m.oex
theorem M.upold {α0:Ev}{σ0:St}{H1:Hp}(m0:M F α0 σ0 H1)(m:M (F.up (Gz F α0 σ0 H1)) α σ H):zm (Gz F α0 σ0 H1) (Gz F α σ H):=fun a o e=>by
 obtain⟨h1,h2⟩:=zh e
 have e0:(F.up (Gz F α0 σ0 H1)).H0 a=some o:=by
  show (F.H0 a).or (Gz F α0 σ0 H1 a)=some o
  cases q:F.H0 a with
  |none=>exact e
  |some o'=>
   have:=m0.keep a o' q (m0.tp.nt (ow0 h1))
   rw[h2] at this;cases this;rfl
 exact m.old a o (zM (p:=fun x=>¬F.O0 x) (ow0 h1) e0)
end
def yp (F:Fr)(α:Ev)(σ:St)(H:Hp)(v:V)(H':Hp)(ds:List PyData):Prop:=
 ∃l xs,v=.ref l∧H l=none∧H' l=some (.lst xs)∧AVs (sub (fun x=>¬Ow F α σ x∧x≠l) H') xs ds
def mS (F:Fr)(α:Ev)(σ:St)(H:Hp)(v:V)(H':Hp)(c:PyData):Prop:=
 ∃l o,v=.ref l∧H l=none∧H' l=some o∧yy (sub (fun x=>¬Ow F α σ x∧x≠l) H') o c
theorem yp.c {F:Fr}{α:Ev}{σ:St}{H H':Hp}{v:V}{ds:List PyData}(h:yp F α σ H v H' ds):mS F α σ H v H' (.list ds):=by
 obtain⟨l,xs,h1,h2,h3,h4⟩:=h
 exact⟨l,_,h1,h2,h3,.lst h4⟩
theorem yp.av {F:Fr}{α:Ev}{σ:St}{H H':Hp}{v:V}{ds:List PyData}(m:M F α σ H)(h:yp F α σ H v H' ds):AV (Gz F α σ H') v (.list ds):=by
 obtain⟨l,xs,rfl,h1,h2,h3⟩:=h
 exact .lst (zM (m.fresh h1) h2) (h3.same (zk fun a o h e=>⟨h.1,e⟩))
section
variable (X:Cx)(α:Ev)
def EvD (e:Expr)(Q:PyData→Prop):Prop:=∀(F:Fr) (σ:St) (H:Hp) (R:VK),M F α σ H→(∀d v H',Q d→zA F H'→Kz F H H'→AV (Gz F α σ H') v d→R v H')→vD X e σ H R
def EvL (e:Expr)(Q:List PyData→Prop):Prop:=∀(F:Fr) (σ:St) (H:Hp) (R:VK),M F α σ H→(∀ds v H',Q ds→zA F H'→Kz F H H'→yp F α σ H v H' ds→R v H')→vD X e σ H R
def EvT (e:Expr)(Q:Bool→Prop):Prop:=∀(F:Fr) (σ:St) (H:Hp) (R:Bool→Hp→Prop),M F α σ H→(∀b H',Q b→zA F H'→Kz F H H'→R b H')→dC X e σ H R
def oO (F:Fr)(G:Hp)(v:V):A→Prop
 |.dat d=>AV G v d
 |.tape=>∃t b c,F.tp=some (t,b,c)∧v=.ref t
 |_=>False
inductive zF (F:Fr)(G:Hp):List V→List A→Prop where
 |nil:zF F G [] []
 |cons {v:V} {vs:List V} {a:A} {as:List A}:oO F G v a→zF F G vs as→zF F G (v::vs) (a::as)
def EvA (es:List Expr)(Q:List A→Prop):Prop:=∀(F:Fr) (σ:St) (H:Hp) (R:List V→Hp→Prop),M F α σ H→(∀as vs H',Q as→zA F H'→Kz F H H'→zF F (Gz F α σ H') vs as→R vs H')→dm X es σ H R
end
theorem oO.to {F F':Fr}{G G':Hp}(s:zm G G')(hp:F'.tp=F.tp){v:V}:∀{a:A},oO F G v a→oO F' G' v a
 |.dat _,h=>AV.same s h
 |.tape,⟨t,b,c,e,z⟩=>⟨t,b,c,hp.trans e,z⟩
 |.ow _,h=>h
 |.deep _ _,h=>h
 |.at _,h=>h
 |.exc _ _,h=>h
 |.pin _ _ _,h=>h
theorem zF.to {F F':Fr}{G G':Hp}(s:zm G G')(hp:F'.tp=F.tp):∀{vs:List V} {as:List A},zF F G vs as→zF F' G' vs as
 |_,_,.nil=>.nil
 |_,_,.cons h r=>.cons (h.to s hp) (zF.to s hp r)
theorem zF.same {F:Fr}{G G':Hp}(s:zm G G'){vs:List V}{as:List A}(h:zF F G vs as):zF F G' vs as:=h.to s rfl
theorem zF.length {F:Fr}{G:Hp}:∀{vs:List V} {as:List A},zF F G vs as→vs.length=as.length
 |_,_,.nil=>rfl
 |_,_,.cons _ r=>by rw[bj,bj,zF.length r]
def A.d :A→PyData
 |.dat d=>d
 |.ow c=>c
 |.deep d _=>d
 |_=>.none
def mZ (F:Fr)(v:V)(H':Hp):A→Prop
 |.dat d=>AV (sub (fun x=>¬F.O0 x) H') v d
 |.ow c=>∃l xs ds,v=.ref l∧c=.list ds∧F.H0 l=none∧¬F.O0 l∧H' l=some (.lst xs)∧AVs (sub (fun x=>¬F.O0 x∧x≠l) H') xs ds
 |.deep d S=>AV (vq S (sub (fun x=>¬F.O0 x) H') H') v d∧∀x,S x→¬F.O0 x∧F.H0 x=none∧∃xs,H' x=some (.lst xs)
 |_=>False
def xx (F:Fr)(v:V)(H':Hp)(a:A):Prop:=zA F H'∧Kz F F.H0 H'∧mZ F v H' a
def spA (φ:List A→(A→Prop)→Prop):Sp:=fun vs H Qc _=>∃(F:Fr) (as:List A) (Q:A→Prop),F.H0=H∧zA F H∧(∀x,F.O0 x→∃o,H x=some o∧xu o)∧zF F (sub (fun x=>¬F.O0 x) H) vs as∧φ as Q∧∀a v H',Q a→xx F v H' a→Qc v H'
theorem mZ.to {F F':Fr}{v:V}{H':Hp}{a:A}(r:mZ F v H' a)(ho:∀x,F'.O0 x→F.O0 x)(h0:∀x,F.H0 x=none→F'.H0 x=none):mZ F' v H' a:=by
 have s:zm (sub (fun x=>¬F.O0 x) H') (sub (fun x=>¬F'.O0 x) H'):=zk fun a o h e=>⟨fun z=>h (ho _ z),e⟩
 cases a with
 |dat d=>exact AV.same s r
 |ow c=>
  obtain⟨l,xs,ds,h1,hc,h2,h3,h4,h5⟩:=r
  exact⟨l,xs,ds,h1,hc,h0 _ h2,fun z=>h3 (ho _ z),h4,h5.same (zk fun a o h e=>⟨⟨fun z=>h.1 (ho _ z),h.2⟩,e⟩)⟩
 |deep d S=>
  obtain⟨h1,h2⟩:=r
  refine⟨h1.same (wM s fun _ _ _ e=>e),fun x z=>?_⟩
  obtain⟨z1,z2,z3⟩:=h2 x z
  exact⟨fun w=>z1 (ho _ w),h0 _ z2,z3⟩
 |tape=>exact r
 |«at» _=>exact r
 |exc _ _=>exact r
 |pin _ _ _=>exact r
structure yA where
 nx:Ev→Prop
 rt:A→Prop
 bk:Ev→Prop:=fun _=>False
 ct:Ev→Prop:=fun _=>False
structure rf (F:Fr)(E:yA)(D:Ends):Prop where
 nx:∀α σ H,M F α σ H→E.nx α→D.nx σ H
 rt:∀a v H,xx F v H a→E.rt a→D.rt v H
 bk:∀α σ H,M F α σ H→E.bk α→D.bk σ H
 ct:∀α σ H,M F α σ H→E.ct α→D.ct σ H
def SvS (X:Cx)(α:Ev)(sts:List Stmt)(E:yA):Prop:=∀(F:Fr) (σ:St) (H:Hp) (D:Ends),M F α σ H→rf F E D→nB X sts D σ H
theorem rf.up {F:Fr}{G:Hp}{E:yA}{D:Ends}(e:rf F E D):rf (F.up G) E D where
 nx:=fun α σ H m q=>e.nx α σ H m.down q
 bk:=fun α σ H m q=>e.bk α σ H m.down q
 ct:=fun α σ H m q=>e.ct α σ H m.down q
 rt:=fun a v H r q=>e.rt a v H (by
  obtain⟨t,k,r⟩:=r
  exact⟨t.to rfl fun _ z=>z,fun x o e n=>k x o (tG e) n,r.to (fun _ z=>z) fun x z=>om z⟩) q
section
variable {X:Cx}{α:Ev}{e a b c:Expr}{es:List Expr}{pos p q:Pos}{Q:PyData→Prop}
theorem EvL.d (h:EvL X α e (fun ds=>Q (.list ds))):EvD X α e Q:=fun F σ H R m k=>h F σ H R m fun ds v H' q t z f=>k _ v H' q t z (f.av m)
theorem EvD.imp {Q':PyData→Prop}(h:EvD X α e Q')(k:∀d,Q' d→Q d):EvD X α e Q:=fun F σ H R m r=>h F σ H R m fun d v H' q=>r d v H' (k d q)
theorem zp (i:Nat){x:Str}{d:PyData}(hi:α[i]?=some (some (.dat d)))(q:Q d)(hN:X.N[i]?=some x:=by rfl)(hv:Vis X.env.scope x:=by first|exact Or.inl rfl|exact Or.inr (Or.inl rfl)|exact Or.inr (Or.inr rfl))
  (hd:(x == ("__debug__":Str))=false:=by decide) (hcd:(x == ("__classdict__":Str))=false:=by decide):EvD X α (.Name x pos) Q:=fun F σ H R m k=>by
 obtain⟨v,h1,h2⟩:=m.dat i d hi
 exact⟨_,xk hN hv hd hcd,v,h1,k d v H q m.tp Kz.refl h2⟩
theorem vX {i:Int}{j:Nat}(q:Q (.int i)):EvD X α (.Constant (.int i) j pos) Q:=fun F σ H R m k=>⟨_,zf,k _ _ H q m.tp Kz.refl (.int i)⟩
theorem rZ {j:Nat}(q:Q .none):EvD X α (.Constant .none j pos) Q:=fun F σ H R m k=>⟨_,vT,k _ _ H q m.tp Kz.refl .non⟩
theorem xG {x:Str}{j:Nat}(q:Q (.str x)):EvD X α (.Constant (.str x) j pos) Q:=fun F σ H R m k=>⟨_,zN,k _ _ H q m.tp Kz.refl (.str x)⟩
theorem vP {x:Str}{i:Int}(hg:Gl X x)(hm:∃t,X.mg x=some (.int i t))(q:Q (.int i))(hd:(x == ("__debug__":Str))=false:=by decide):EvD X α (.Name x pos) Q:=fun F σ H R m k=>by
 obtain⟨t,hm⟩:=hm
 exact⟨_,xq hg hm (show RelV (.int i) (.int i t) from ⟨t,rfl⟩) hd,k _ _ H q m.tp Kz.refl (.int i)⟩
theorem qm {f:TE→TE→TE}(hf:PE X e (f (vD X a) (vD X b)))(hr:∀σ H R,f (vD X a) (vD X b) σ H R↔vD X a σ H (fun x H1=>vD X b σ H1 fun y H2=>f (tC x) (tC y) σ H2 R))
  (h:EvD X α a fun x=>EvD X α b fun y=>∀(F:Fr) (σ:St) (H:Hp) (vx vy:V) (R:VK),M F α σ H→AV (Gz F α σ H) vx x→AV (Gz F α σ H) vy y→(∀d v H',Q d→zA F H'→Kz F H H'→AV (Gz F α σ H') v d→R v H')→f (tC vx) (tC vy) σ H R):
  EvD X α e Q:=fun F σ H R m k=>by
 refine⟨_,hf,(hr σ H R).mpr ?_⟩
 refine h F σ H _ m fun x vx H1 q1 t1 k1 r1=>?_
 have m1:=m.kz k1 t1
 refine q1 F σ H1 _ m1 fun y vy H2 q2 t2 k2 r2=>?_
 exact q2 F σ H2 vx vy R (m1.kz k2 t2) (r1.same (k2.gz m1.tp)) r2 fun d v H' qd t3 k3 r3=>k d v H' qd t3 ((k1.trans k2).trans k3) r3
theorem AV.int_inv {H:Hp}{v:V}{i:Int}(h:AV H v (.int i)):v=.int i:=by cases h;rfl
theorem AV.bl_inv {H:Hp}{v:V}{i:Bool}(h:AV H v (.bool i)):v=.bl i:=by cases h;rfl
theorem AV.str_inv {H:Hp}{v:V}{i:Str}(h:AV H v (.str i)):v=.str i:=by cases h;rfl
theorem AV.tup_inv {H:Hp}{v:V}{ds:List PyData}(h:AV H v (.tuple ds)):∃a xs,v=.ref a∧H a=some (.tup xs)∧AVs H xs ds:=by cases h;exact⟨_,_,rfl,by assumption,by assumption⟩
theorem AV.lst_inv {H:Hp}{v:V}{ds:List PyData}(h:AV H v (.list ds)):∃a xs,v=.ref a∧H a=some (.lst xs)∧AVs H xs ds:=by cases h;exact⟨_,_,rfl,by assumption,by assumption⟩
theorem AV.non_inv {H:Hp}{v:V}(h:AV H v .none):v=.non:=by cases h;rfl
theorem AV.isnon {H:Hp}{v:V}{d:PyData}(h:AV H v d):decide (v=.non)=(match d with|.none=>true|_=>false):=by cases h<;>simp
theorem fK {op:Operator}{C:Int→Int→Prop}{g:Int→Int→V}{gd:Int→Int→PyData}(ho:OpR X (binaryOp op) (rI C g))(hg:∀H i j,AV H (g i j) (gd i j))
  (h:EvD X α a fun x=>EvD X α b fun y=>∃i j,x=.int i∧y=.int j∧C i j∧Q (gd i j)):EvD X α (.BinOp a op b pos) Q:=by
 refine qm (f:=tOp (rI C g)) (ya ho zi zi) (fun _ _ _=>Iff.rfl) (h.imp fun x h=>h.imp fun y ⟨i,j,e1,e2,hc,hq⟩=>?_)
 subst e1 e2
 intro F σ H vx vy R m rx ry k
 cases rx.int_inv;cases ry.int_inv
 exact⟨i,j,rfl,rfl,hc,k _ _ H hq m.tp Kz.refl (hg _ i j)⟩
theorem pH {op:Operator}{g:Int→Int→V}{gd:Int→Int→PyData}(ho:OpR X (binaryOp op) (rI0 g))(hg:∀H i j,AV H (g i j) (gd i j))
  (h:EvD X α a fun x=>EvD X α b fun y=>∃i j,x=.int i∧y=.int j∧Q (gd i j)):EvD X α (.BinOp a op b pos) Q:=by
 refine qm (f:=tOp (rI0 g)) (ya ho zi zi) (fun _ _ _=>Iff.rfl) (h.imp fun x h=>h.imp fun y ⟨i,j,e1,e2,hq⟩=>?_)
 subst e1 e2
 intro F σ H vx vy R m rx ry k
 cases rx.int_inv;cases ry.int_inv
 exact⟨i,j,rfl,rfl,k _ _ H hq m.tp Kz.refl (hg _ i j)⟩
theorem fZ (h:EvD X α a fun x=>EvD X α b fun y=>∃i j,x=.int i∧y=.int j∧Q (.int (i+j))):EvD X α (.BinOp a .Add b pos) Q:=pH (gd:=fun i j=>.int (i+j)) va (fun _ _ _=>.int _) h
theorem ee (h:EvD X α a fun x=>EvD X α b fun y=>∃i j,x=.int i∧y=.int j∧Q (.int (i-j))):EvD X α (.BinOp a .Sub b pos) Q:=pH (gd:=fun i j=>.int (i-j)) ko (fun _ _ _=>.int _) h
theorem fU (h:EvD X α a fun x=>EvD X α b fun y=>∃i j,x=.int i∧y=.int j∧fi i j∧Q (.int (i ^ j.toNat))):EvD X α (.BinOp a .Pow b pos) Q:=fK (gd:=fun i j=>.int (i ^ j.toNat)) ja (fun _ _ _=>.int _) h
theorem sC {i j r:Int}{p1 p2:Pos}{n1 n2:Nat}(hc:fi i j)(hr:i ^ j.toNat=r)(q:Q (.int r)):EvD X α (.BinOp (.Constant (.int i) n1 p1) .Pow (.Constant (.int j) n2 p2) pos) Q:=
 fU (vX (vX ⟨i,j,rfl,rfl,hc,hr▸q⟩))
theorem ff (h:EvD X α a fun x=>∃i,x=.int i∧Q (.int (-i))):EvD X α (.UnaryOp .USub a pos) Q:=fun F σ H R m k=>by
 refine⟨_,de eg zi,?_⟩
 refine h F σ H _ m fun x vx H1 q1 t1 k1 r1=>?_
 obtain⟨i,rfl,q⟩:=q1
 cases r1.int_inv
 exact⟨i,rfl,k _ _ H1 q t1 k1 (.int _)⟩
def pJ :PyData→Bool
 |.none=>true
 |_=>false
theorem AV.non_iff {H:Hp}{v:V}{d:PyData}(h:AV H v d):decide (v=.non)=pJ d:=by cases h<;>simp[pJ]
theorem fq {j:Nat}(h:EvD X α a fun x=>Q (.bool (pJ x))):EvD X α (.Compare a [.Is] [.Constant .none j p] pos) Q:=fun F σ H R m k=>by
 refine⟨_,yO tj zi vT (zu _),?_⟩
 refine h F σ H _ m fun x vx H1 q1 t1 k1 r1=>⟨rfl,?_⟩
 rw[r1.non_iff]
 exact k _ _ H1 q1 t1 k1 (.bl _)
theorem qx {Q:Bool→Prop}(h:EvD X α e fun x=>∃k,x=.bool k∧Q k)(he:∀whole,isTrue e X.env whole=(do let v ←whole;standAt e.pos;holding [v] (truthy v)):=by intro _;rfl):EvT X α e Q:=fun F σ H R m k=>by
 refine⟨_,kj zi he,?_⟩
 refine h F σ H _ m fun x vx H1 q1 t1 k1 r1=>?_
 obtain⟨b,rfl,q⟩:=q1
 cases r1.bl_inv
 exact⟨b,rfl,k b H1 q t1 k1⟩
def Cmp (r:R2)(x y:PyData)(k:Bool):Prop:=∀(p:Addr→Prop) (H:Hp) (vx vy:V) (R:VK),AV (sub p H) vx x→AV (sub p H) vy y→R (.bl k) H→r vx vy H R
theorem vG {op:CmpOp}{r:R2}{Q:Bool→Prop}(ho:OpR X (compareOp op) r)(hm:behindInMarks op b=false)(h:EvD X α a fun x=>EvD X α b fun y=>∃k,Cmp r x y k∧Q k):EvT X α (.Compare a [op] [b] pos) Q:=fun F σ H R m k=>by
 refine⟨_,zO ho zi zi hm,?_⟩
 refine h F σ H _ m fun x vx H1 q1 t1 k1 r1=>?_
 have m1:=m.kz k1 t1
 refine q1 F σ H1 _ m1 fun y vy H2 q2 t2 k2 r2=>?_
 obtain⟨b,hc,q⟩:=q2
 exact hc _ H2 vx vy _ (r1.same (k2.gz m1.tp)) r2 ⟨b,rfl,k b H2 q t2 (k1.trans k2)⟩
theorem jC {g:Int→Int→Bool}{i j:Int}:Cmp (rI0 fun i j=>.bl (g i j)) (.int i) (.int j) (g i j):=fun p H vx vy R rx ry h=>by
 cases rx.int_inv;cases ry.int_inv
 exact⟨i,j,rfl,rfl,h⟩
theorem pR {op:CmpOp}{g:Int→Int→Bool}{Q:Bool→Prop}(ho:OpR X (compareOp op) (rI0 fun i j=>.bl (g i j)))(hm:behindInMarks op b=false)
  (h:EvD X α a fun x=>EvD X α b fun y=>∃i j,x=.int i∧y=.int j∧Q (g i j)):EvT X α (.Compare a [op] [b] pos) Q:=
 vG ho hm (h.imp fun x h=>h.imp fun y ⟨i,j,e1,e2,q⟩=>⟨_,by subst e1 e2;exact jC,q⟩)
theorem dg {Q:Bool→Prop}(h:EvD X α a fun x=>EvD X α b fun y=>∃i j,x=.int i∧y=.int j∧Q (decide (i≤j))):EvT X α (.Compare a [.LtE] [b] pos) Q:=pR uC (zu _) h
theorem og {Q:Bool→Prop}(h:EvD X α a fun x=>EvD X α b fun y=>∃i j,x=.int i∧y=.int j∧Q (decide (j<i))):EvT X α (.Compare a [.Gt] [b] pos) Q:=pR pE (zu _) h
theorem wZ {j:Nat}{Q:Bool→Prop}(h:EvD X α a fun x=>Q (pJ x)):EvT X α (.Compare a [.Is] [.Constant .none j p] pos) Q:=
 vG tj (zu _) (h.imp fun x h=>rZ ⟨_,fun p H vx vy R rx ry z=>⟨ry.non_inv,by rw[rx.non_iff];exact z⟩,h⟩)
theorem lq {Q:Bool→Prop}(h:EvT X α a fun k=>Q (!k)):EvT X α (.UnaryOp .Not a pos) Q:=fun F σ H R m k=>by
 refine⟨_,jv yP,?_⟩
 exact h F σ H _ m fun b H1 q1 t1 k1=>k _ H1 q1 t1 k1
def EvW (X:Cx)(α:Ev)(e:Expr)(Q:Bool→Prop):Prop:=∀(F:Fr) (σ:St) (H:Hp) (R:Bool→Hp→Prop),M F α σ H→(∀b H',Q b→zA F H'→Kz F H H'→R b H')→∃t,PW X e t∧t σ H R
def cb (X:Cx)(e:Expr):TT:=fun σ H Q=>∃t,PW X e t∧t σ H Q
theorem oC :PW X e (cb X e):=fun w pins s σ H Q I ⟨t,p,q⟩=>p w pins s σ H Q I q
theorem EvW.t {Q:Bool→Prop}(h:EvW X α e Q):EvT X α e Q:=fun F σ H R m k=>by
 obtain⟨t,p,q⟩:=h F σ H R m k
 exact⟨t,p.pt,q⟩
variable {rest:List Expr}
theorem oH {Q:Bool→Prop}(h:EvT X α a Q):EvW X α (.BoolOp .And [a] pos) Q:=fun F σ H R m k=>⟨_,oM yP,h F σ H R m k⟩
theorem lQ {Q:Bool→Prop}(h:EvT X α a Q):EvW X α (.BoolOp .Or [a] pos) Q:=fun F σ H R m k=>⟨_,qJ yP,h F σ H R m k⟩
theorem lK {Q:Bool→Prop}(h:EvT X α a fun k=>if k=true then EvW X α (.BoolOp .And (b::rest) pos) Q else Q false):EvW X α (.BoolOp .And (a::b::rest) pos) Q:=fun F σ H R m k=>by
 refine⟨_,lA yP oC,?_⟩
 refine h F σ H _ m fun c H1 q1 t1 k1=>?_
 cases c with
 |true=>exact vo ((by simpa using q1:EvW X α _ Q) F σ H1 R (m.kz k1 t1) fun b H2 q2 t2 k2=>k b H2 q2 t2 (k1.trans k2))
 |false=>exact vn (k _ H1 (by simpa using q1) t1 k1)
theorem iY {Q:Bool→Prop}(h:EvT X α a fun k=>if k=true then Q true else EvW X α (.BoolOp .Or (b::rest) pos) Q):EvW X α (.BoolOp .Or (a::b::rest) pos) Q:=fun F σ H R m k=>by
 refine⟨_,kN yP oC,?_⟩
 refine h F σ H _ m fun c H1 q1 t1 k1=>?_
 cases c with
 |false=>exact vn ((by simpa using q1:EvW X α _ Q) F σ H1 R (m.kz k1 t1) fun b H2 q2 t2 k2=>k b H2 q2 t2 (k1.trans k2))
 |true=>exact vo (k _ H1 (by simpa using q1) t1 k1)
theorem gD {op}(h:EvD X α a Q):EvD X α (.BoolOp op [a] pos) Q:=fun F σ H R m k=>⟨_,yH zi,h F σ H R m k⟩
theorem ej (h:EvD X α a fun x=>∃k,x=.bool k∧if k=true then EvD X α (.BoolOp .And (b::rest) pos) Q else Q (.bool false)):EvD X α (.BoolOp .And (a::b::rest) pos) Q:=fun F σ H R m k=>by
 refine⟨_,yq zi zi,?_⟩
 refine h F σ H _ m fun x vx H1 q1 t1 k1 r1=>?_
 obtain⟨c,rfl,q1⟩:=q1
 cases r1.bl_inv
 refine⟨c,rfl,?_⟩
 cases c with
 |true=>exact vo ((by simpa using q1:EvD X α _ Q) F σ H1 R (m.kz k1 t1) fun d v H2 q2 t2 k2 r2=>k d v H2 q2 t2 (k1.trans k2) r2)
 |false=>exact vn (k _ _ H1 (by simpa using q1) t1 k1 (.bl _))
theorem sA (h:EvT X α c fun k=>if k=true then EvD X α a Q else EvD X α b Q):EvD X α (.IfExp c a b pos) Q:=fun F σ H R m k=>by
 refine⟨_,lY yP zi zi,?_⟩
 refine h F σ H _ m fun x H1 q1 t1 k1=>?_
 cases x with
 |true=>exact vo ((by simpa using q1:EvD X α _ Q) F σ H1 R (m.kz k1 t1) fun d v H2 q2 t2 k2 r2=>k d v H2 q2 t2 (k1.trans k2) r2)
 |false=>exact vn ((by simpa using q1:EvD X α _ Q) F σ H1 R (m.kz k1 t1) fun d v H2 q2 t2 k2 r2=>k d v H2 q2 t2 (k1.trans k2) r2)
def EvO (X:Cx)(α:Ev)(e:Option Expr)(Q:Option Int→Prop):Prop:=∀(F:Fr) (σ:St) (H:Hp) (R:Option Int→Hp→Prop),M F α σ H→(∀i H',Q i→zA F H'→Kz F H H'→R i H')→∃t,PO X e t∧t σ H R
def cF (X:Cx)(e:Option Expr):TO:=fun σ H Q=>∃t,PO X e t∧t σ H Q
theorem pB {e:Option Expr}:PO X e (cF X e):=fun pins s σ H Q I ⟨t,p,q⟩=>p pins s σ H Q I q
theorem il {Q:Option Int→Prop}(q:Q none):EvO X α none Q:=fun F σ H R m k=>⟨_,tP,k _ H q m.tp Kz.refl⟩
theorem jM {Q:Option Int→Prop}(h:EvD X α a fun x=>∃i,x=.int i∧Q (some i)):EvO X α (some a) Q:=fun F σ H R m k=>by
 refine⟨_,sr zi,?_⟩
 refine h F σ H _ m fun x vx H1 q1 t1 k1 r1=>?_
 obtain⟨i,rfl,q⟩:=q1
 cases r1.int_inv
 exact⟨i,rfl,k _ H1 q t1 k1⟩
theorem M.lay {F:Fr}{σ:St}{H:Hp}{l:Addr}{xs:List V}{ds:List PyData}(m:M F α σ H)(hl:H l=none)(h:AVs (Gz F α σ H) xs ds):zA F (upd H l (.lst xs))∧Kz F H (upd H l (.lst xs))∧yp F α σ H (.ref l) (upd H l (.lst xs)) ds:=by
 refine⟨m.tp.same (yn hl),Kz.of_same (yn hl),l,xs,rfl,hl,zd,h.same (zk fun a o ha e=>?_)⟩
 have:=ze e hl
 exact⟨⟨ha,this⟩,by rw[zc this];exact e⟩
theorem iS {lo hi:Option Expr}{Q:List PyData→Prop}(h:EvD X α a fun x=>EvO X α lo fun l=>EvO X α hi fun u=>∃ds,x=.list ds∧Q (cutD ds l u)):EvL X α (.Subscript a (.Slice lo hi none p) pos) Q:=fun F σ H R m k=>by
 refine⟨_,vM sk zi pB pB,?_⟩
 refine h F σ H _ m fun x vx H1 q1 t1 k1 r1=>?_
 have m1:=m.kz k1 t1
 refine q1 F σ H1 _ m1 fun l H2 q2 t2 k2=>?_
 have m2:=m1.kz k2 t2
 refine q2 F σ H2 _ m2 fun u H3 q3 t3 k3=>?_
 have m3:=m2.kz k3 t3
 obtain⟨ds,rfl,q⟩:=q3
 obtain⟨a,xs,rfl,h1,h2⟩:=(r1.same ((k2.gz m1.tp).trans (k3.gz m2.tp))).lst_inv
 refine⟨a,xs,rfl,SqL.of (zh h1).2,fun p hp=>?_⟩
 obtain⟨g1,g2,g3⟩:=m3.lay hp (h2.cut l u)
 have kk:=(k1.trans k2).trans k3
 obtain⟨l',xs',e1,e2,e3,e4⟩:=g3
 refine k _ _ _ q g1 (kk.trans g2) ⟨l',xs',e1,?_,e3,e4⟩
 cases z:H l' with
 |none=>rfl
 |some o=>rw[kk l' o z (m.tp.nt (ow0 (m3.fresh e2)))] at e2;cases e2
theorem yp.back {F:Fr}{σ:St}{H H1 H':Hp}{v:V}{ds:List PyData}(m:M F α σ H)(k:Kz F H H1)(t1:zA F H1)(h:yp F α σ H1 v H' ds):yp F α σ H v H' ds:=by
 obtain⟨l',xs',e1,e2,e3,e4⟩:=h
 refine⟨l',xs',e1,?_,e3,e4⟩
 cases z:H l' with
 |none=>rfl
 |some o=>rw[k l' o z (m.tp.nt (ow0 ((m.kz k t1).fresh e2)))] at e2;cases e2
theorem zU {Q:List A→Prop}(q:Q []):EvA X α [] Q:=fun F σ H R m k=>⟨_,zj,k _ _ H q m.tp Kz.refl .nil⟩
theorem zt {Q:List A→Prop}(h:EvD X α e fun d=>EvA X α es fun as=>Q (.dat d::as))(hs:starEach (e::es) X.env=(false,eval e X.env)::starEach es X.env:=by rfl):EvA X α (e::es) Q:=fun F σ H R m k=>by
 refine⟨_,zb zi yi hs,?_⟩
 refine h F σ H _ m fun d v H1 q1 t1 k1 r1=>?_
 have m1:=m.kz k1 t1
 exact q1 F σ H1 _ m1 fun as vs H2 q2 t2 k2 r2=>k _ _ H2 q2 t2 (k1.trans k2) (.cons (r1.same (k2.gz m1.tp)) r2)
theorem su {Q:List A→Prop}(i:Nat){x:Str}(hi:α[i]?=some (some .tape))(h:EvA X α es fun as=>Q (.tape::as))(hN:X.N[i]?=some x:=by rfl)(hv:Vis X.env.scope x:=by first|exact Or.inl rfl|exact Or.inr (Or.inl rfl)|exact Or.inr (Or.inr rfl))
  (hd:(x == ("__debug__":Str))=false:=by decide) (hcd:(x == ("__classdict__":Str))=false:=by decide) (hs:starEach (.Name x pos::es) X.env=(false,eval (.Name x pos) X.env)::starEach es X.env:=by rfl):EvA X α (.Name x pos::es) Q:=fun F σ H R m k=>by
 obtain⟨t,b,c,h1,h2⟩:=m.tvar i hi
 refine⟨_,zb (xk hN hv hd hcd) yi hs,.ref t,h2,?_⟩
 exact h F σ H _ m fun as vs H2 q2 t2 k2 r2=>k _ _ H2 q2 t2 k2 (.cons ⟨t,b,c,h1,rfl⟩ r2)
def datas :List A→Option (List PyData)
 |[]=>some []
 |.dat d::r=>(datas r).map (d::·)
 |_::_=>none
theorem zF.datas {F:Fr}{G:Hp}:∀{vs:List V} {as:List A} {ds:List PyData},zF F G vs as→L2.datas as=some ds→AVs G vs ds
 |_,_,ds,.nil,h=>by cases h;exact .nil
 |_,_,ds,.cons (a:=.dat d) (as:=as) h r,e=>by
  simp only[L2.datas,bG] at e
  obtain⟨es,e1,rfl⟩:=e
  exact .cons h (zF.datas r e1)
 |_,_,ds,.cons (a:=.ow _) h r,e=>by cases h
 |_,_,ds,.cons (a:=.deep _ _) h r,e=>by cases h
 |_,_,ds,.cons (a:=.exc _ _) h r,e=>by cases h
 |_,_,ds,.cons (a:=.pin _ _ _) h r,e=>by cases h
 |_,_,ds,.cons (a:=.tape) h r,e=>by cases e
 |_,_,ds,.cons (a:=.at _) h r,e=>by cases h
theorem gJ {n:Nat}(h:EvA X α es fun as=>∃ds,datas as=some ds∧ds.length≤1000∧Q (.tuple ds)):EvD X α (.Tuple es n pos) Q:=fun F σ H R m k=>by
 refine⟨_,qh yi,?_⟩
 refine h F σ H _ m fun as vs H1 q1 t1 k1 r1=>?_
 obtain⟨ds,e,hl,q⟩:=q1
 have r:=r1.datas e
 have m1:=m.kz k1 t1
 refine⟨by rw[r.length];exact aE (yv hl),fun p hp=>?_⟩
 refine k _ _ _ q (t1.same (yn hp)) (k1.trans (Kz.of_same (yn hp))) (.tup (xs:=vs) (zM (m1.fresh hp) zd) (r.same (zk fun a o ha e=>⟨ha,by rw[zc (ze e hp)];exact e⟩)))
theorem wO {Q:List PyData→Prop}(h:EvA X α es fun as=>∃ds,datas as=some ds∧ds.length≤1000∧Q ds):EvL X α (.List es pos) Q:=fun F σ H R m k=>by
 refine⟨_,kY yi,?_⟩
 refine h F σ H _ m fun as vs H1 q1 t1 k1 r1=>?_
 obtain⟨ds,e,hl,q⟩:=q1
 have r:=r1.datas e
 have m1:=m.kz k1 t1
 refine⟨by rw[r.length];exact aE (yv hl),fun p hp=>?_⟩
 obtain⟨g1,g2,g3⟩:=m1.lay hp r
 exact k _ _ _ q g1 (k1.trans g2) (g3.back m k1 t1)
theorem wj {Q:List PyData→Prop}(h:EvD X α a fun x=>EvD X α b fun y=>∃ds es,x=.list ds∧y=.list es∧ds.length+es.length≤1000∧Q (ds++es)):EvL X α (.BinOp a .Add b pos) Q:=fun F σ H R m k=>by
 refine⟨_,ya gE zi zi,?_⟩
 refine h F σ H _ m fun x vx H1 q1 t1 k1 r1=>?_
 have m1:=m.kz k1 t1
 refine q1 F σ H1 _ m1 fun y vy H2 q2 t2 k2 r2=>?_
 have m2:=m1.kz k2 t2
 obtain⟨ds,es,rfl,rfl,hl,q⟩:=q2
 obtain⟨a,xs,rfl,h1,h2⟩:=(r1.same (k2.gz m1.tp)).lst_inv
 obtain⟨b,ys,rfl,h3,h4⟩:=r2.lst_inv
 refine⟨a,b,xs,ys,rfl,rfl,(zh h1).2,(zh h3).2,by rw[h2.length,h4.length];exact aE (yv hl),fun p hp=>?_⟩
 obtain⟨g1,g2,g3⟩:=m2.lay hp (h2.append h4)
 exact k _ _ _ q g1 ((k1.trans k2).trans g2) (g3.back m (k1.trans k2) t2)
theorem wI {id:String}{x:Str}{r:List V→Hp→VK→Prop}(hc:yX X (.builtin id) r)(hg:Gl X x)(hm:X.mg x=none)(hv:bootBuiltins x=some (.builtin id))
  (h:EvA X α (e::es) fun as=>∀(F:Fr) (σ:St) (H:Hp) (vs:List V) (R:VK),M F α σ H→zF F (Gz F α σ H) vs as→(∀d v H',Q d→zA F H'→Kz F H H'→AV (Gz F α σ H') v d→R v H')→r vs H R)
  (hn:x≠"__name__":=by decide) (hdb:(x == ("__debug__":Str))=false:=by decide) (he:starEach (e::es) X.env=(false,eval e X.env)::starEach es X.env:=by rfl) (hpl:(backTo pos (starEach es X.env)).any (·.1)=false:=by rfl):
  EvD X α (.Call (.Name x p) (e::es) [] pos) Q:=fun F σ H R m k=>by
 refine⟨_,zI hc hg hm hv yi hn hdb he hpl,?_⟩
 refine h F σ H _ m fun as vs H1 q1 t1 k1 r1=>?_
 exact q1 F σ H1 vs R (m.kz k1 t1) r1 fun d v H' qd t2 k2 r2=>k d v H' qd t2 (k1.trans k2) r2
end
section
variable {X:Cx}{α:Ev}{e a b c:Expr}{es:List Expr}{pos p q:Pos}{Q:PyData→Prop}
theorem zF.one {F:Fr}{G:Hp}{vs:List V}{d:PyData}(h:zF F G vs [.dat d]):∃v,vs=[v]∧AV G v d:=by
 cases h with|cons h r=>cases r;exact⟨_,rfl,h⟩
theorem zF.two {F:Fr}{G:Hp}{vs:List V}{d e:PyData}(h:zF F G vs [.dat d,.dat e]):∃v u,vs=[v,u]∧AV G v d∧AV G u e:=by
 cases h with|cons h r=>obtain⟨u,rfl,h2⟩:=r.one;exact⟨_,u,rfl,h,h2⟩
def cq :PyData→Option Int
 |.list ds=>some ds.length
 |.tuple ds=>some ds.length
 |_=>none
theorem tF (hg:Gl X "len")(hm:X.mg "len"=none)(h:EvD X α e fun x=>∃n,cq x=some n∧Q (.int n))(he:starEach [e] X.env=(false,eval e X.env)::starEach [] X.env:=by rfl):
  EvD X α (.Call (.Name "len" p) [e] [] pos) Q:=by
 refine wI zX hg hm aR (zt (h.imp fun x ⟨n,e1,q⟩=>zU ?_) he) (he:=he)
 intro F σ H vs R m rv k
 obtain⟨v,rfl,av⟩:=rv.one
 cases av with
 |lst h1 h2=>cases e1;rw[←h2.length] at q;exact⟨_,_,rfl,.inl (SqL.of (zh h1).2),k _ _ H q m.tp Kz.refl (.int _)⟩
 |tup h1 h2=>cases e1;rw[←h2.length] at q;exact⟨_,_,rfl,.inr (SqT.of (zh h1).2),k _ _ H q m.tp Kz.refl (.int _)⟩
 |_=>cases e1
theorem fx (hc:X.calm=true)(hg:Gl X "max")(hm:X.mg "max"=none)(h:EvD X α a fun x=>EvD X α b fun y=>∃i j,x=.int i∧y=.int j∧Q (.int (if j > i then j else i)))
  (he:starEach [a,b] X.env=(false,eval a X.env)::starEach [b] X.env:=by rfl) (he2:starEach [b] X.env=(false,eval b X.env)::starEach [] X.env:=by rfl) (hpl:(backTo pos (starEach [b] X.env)).any (·.1)=false:=by rfl):
  EvD X α (.Call (.Name "max" p) [a,b] [] pos) Q:=by
 refine wI (mh hc) hg hm boot_max (zt (h.imp fun x h=>zt (h.imp fun y ⟨i,j,e1,e2,q⟩=>zU ?_) he2) he) (he:=he) (hpl:=hpl)
 intro F σ H vs R m rv k
 subst e1 e2
 obtain⟨v,u,rfl,av,au⟩:=rv.two
 cases av.int_inv;cases au.int_inv
 exact⟨i,j,rfl,k _ _ H q m.tp Kz.refl (.int _)⟩
theorem fO (hc:X.calm=true)(hg:Gl X "min")(hm:X.mg "min"=none)(h:EvD X α a fun x=>EvD X α b fun y=>∃i j,x=.int i∧y=.int j∧Q (.int (if j<i then j else i)))
  (he:starEach [a,b] X.env=(false,eval a X.env)::starEach [b] X.env:=by rfl) (he2:starEach [b] X.env=(false,eval b X.env)::starEach [] X.env:=by rfl) (hpl:(backTo pos (starEach [b] X.env)).any (·.1)=false:=by rfl):
  EvD X α (.Call (.Name "min" p) [a,b] [] pos) Q:=by
 refine wI (oR hc) hg hm boot_min (zt (h.imp fun x h=>zt (h.imp fun y ⟨i,j,e1,e2,q⟩=>zU ?_) he2) he) (he:=he) (hpl:=hpl)
 intro F σ H vs R m rv k
 subst e1 e2
 obtain⟨v,u,rfl,av,au⟩:=rv.two
 cases av.int_inv;cases au.int_inv
 exact⟨i,j,rfl,k _ _ H q m.tp Kz.refl (.int _)⟩
def xm :PyData→Option (List PyData)
 |.list ds=>some ds
 |.tuple ds=>some ds
 |_=>none
theorem pz {Q:List PyData→Prop}(hg:Gl X "list")(hm:X.mg "list"=none)(h:EvD X α e fun x=>∃ds,xm x=some ds∧Q ds)(he:starEach [e] X.env=(false,eval e X.env)::starEach [] X.env:=by rfl):
  EvL X α (.Call (.Name "list" p) [e] [] pos) Q:=fun F σ H R m k=>by
 refine⟨_,uz wo hg hm boot_list (zb zi zj he) (he:=he),?_⟩
 refine h F σ H _ m fun x vx H1 q1 t1 k1 r1=>?_
 obtain⟨ds,e1,q⟩:=q1
 have m1:=m.kz k1 t1
 have fin:∀{xs:List V},AVs (Gz F α σ H1) xs ds→∀l,H1 l=none→R (.ref l) (upd H1 l (.lst xs)):=fun {xs} h2 l hl=>by
  obtain⟨g1,g2,g3⟩:=m1.lay hl h2
  exact k _ _ _ q g1 (k1.trans g2) (g3.back m k1 t1)
 cases r1 with
 |lst h1 h2=>cases e1;exact⟨_,_,rfl,.inl (SqL.of (zh h1).2),fin h2⟩
 |tup h1 h2=>cases e1;exact⟨_,_,rfl,.inr (SqT.of (zh h1).2),fin h2⟩
 |_=>cases e1
theorem oB (hgu:X.A.guards=some [])(hu:X.A.units+64<cLine)(hg:Gl X "repr")(hm:X.mg "repr"=none)(h:EvD X α e fun x=>zL sizeLine x∧Q (.str x.shown))(he:starEach [e] X.env=(false,eval e X.env)::starEach [] X.env:=by rfl):
  EvD X α (.Call (.Name "repr" p) [e] [] pos) Q:=by
 refine wI (nZ hgu hu) hg hm boot_repr (zt (h.imp fun x ⟨n,q⟩=>zU ?_) he) (he:=he)
 intro F σ H vs R m rv k
 obtain⟨v,rfl,av⟩:=rv.one
 exact⟨v,x,rfl,(av.dv n.nod).same yW,n,k _ _ H q m.tp Kz.refl (.str _)⟩
section
variable {k:Nat}{f:Addr}{fd:FuncData}{ps:List Str}{φ:List A→(A→Prop)→Prop}{x:Str}
theorem xj {F:Fr}{σ:St}{H:Hp}{vs:List V}{as:List A}{QA:A→Prop}{R:VK}(m:M F α σ H)(rv:zF F (Gz F α σ H) vs as)(hφ:φ as QA)
  (kk:∀a v H',QA a→xx ⟨H,Ow F α σ,F.tp⟩ v H' a→R v H') {E:XK}:spA φ (vs++[]) H R E:=by
 refine⟨⟨H,Ow F α σ,F.tp⟩,as,QA,rfl,?_,?_,?_,hφ,kk⟩
 ·exact m.tp.to rfl fun _ z=>.inl z
 ·exact fun y z=>m.owEx z
 ·rw[bQ]
  exact zF.to (F:=F) (F':=⟨H,Ow F α σ,F.tp⟩) (fun _ _ e=>e) rfl rv
theorem xx.back {F:Fr}{σ:St}{H H':Hp}{v:V}{a:A}(m:M F α σ H)(h:xx ⟨H,Ow F α σ,F.tp⟩ v H' a):zA F H'∧Kz F H H'∧AV (Gz F α σ H') v a.d:=by
 obtain⟨t,kz,r⟩:=h
 refine⟨m.tp.re t rfl,kz,?_⟩
 cases a with
 |dat d=>exact r
 |ow c=>
  obtain⟨l,xs,ds,rfl,rfl,h1,h2,h3,h4⟩:=r
  exact .lst (zM h2 h3) (h4.same (zk fun a o h e=>⟨h.1,e⟩))
 |deep d S=>
  obtain⟨h1,h2⟩:=r
  refine h1.same fun x o e=>?_
  rcases vL e with ⟨z1,z2⟩|⟨_,z2⟩
  ·exact zM (h2 x z1).1 z2
  ·exact z2
 |tape=>exact r.elim
 |«at» _=>exact r.elim
 |exc _ _=>exact r.elim
 |pin _ _ _=>exact r.elim
theorem jz (G:zo X.prog X.w X.K X.mg X.base CX0 k f fd ps (spA φ))(hr:zy k X.A)(hg:Gl X x)(hm:X.mg x=some (.ref f))(hk:PySem.W.keepIn X.K (.ref f)=true)(hb:Binds X.K fd ps [])
  (h:EvA X α (e::es) fun as=>φ as fun a=>Q a.d) (hdb:(x == ("__debug__":Str))=false:=by decide) (he:starEach (e::es) X.env=(false,eval e X.env)::starEach es X.env:=by rfl) (hpl:(backTo pos (starEach es X.env)).any (·.1)=false:=by rfl):
  EvD X α (.Call (.Name x p) (e::es) [] pos) Q:=fun F σ H R m kk=>by
 refine⟨_,zB G hr hg hm hk hb .nil zH yi hdb he hpl,?_⟩
 refine h F σ H _ m fun as vs H1 q1 t1 k1 r1=>?_
 have m1:=m.kz k1 t1
 refine xj m1 r1 q1 fun a v H' qa ra=>?_
 obtain⟨g1,g2,g3⟩:=ra.back m1
 exact kk _ v H' qa g1 (k1.trans g2) g3
theorem jD {Q:List PyData→Prop}(G:zo X.prog X.w X.K X.mg X.base CX0 k f fd ps (spA φ))(hr:zy k X.A)(hg:Gl X x)(hm:X.mg x=some (.ref f))(hk:PySem.W.keepIn X.K (.ref f)=true)(hb:Binds X.K fd ps [])
  (h:EvA X α (e::es) fun as=>φ as fun a=>∃ds,a=.own ds∧Q ds) (hdb:(x == ("__debug__":Str))=false:=by decide) (he:starEach (e::es) X.env=(false,eval e X.env)::starEach es X.env:=by rfl) (hpl:(backTo pos (starEach es X.env)).any (·.1)=false:=by rfl):
  EvL X α (.Call (.Name x p) (e::es) [] pos) Q:=fun F σ H R m kk=>by
 refine⟨_,zB G hr hg hm hk hb .nil zH yi hdb he hpl,?_⟩
 refine h F σ H _ m fun as vs H1 q1 t1 k1 r1=>?_
 have m1:=m.kz k1 t1
 refine xj m1 r1 q1 fun a v H' qa ra=>?_
 obtain⟨ds,rfl,q⟩:=qa
 obtain⟨g1,g2,_⟩:=ra.back m1
 obtain⟨_,_,l,xs,ds',rfl,hc,h1,h2,h3,h4⟩:=ra
 cases hc
 exact kk ds _ H' q g1 (k1.trans g2) (yp.back m k1 t1 ⟨l,xs,rfl,h1,h3,h4⟩)
end
theorem zC {i:Nat}{x:Option A}{j:Nat}{y:Option A}(h:(α.set i x)[j]?=some y):(i=j∧x=y)∨(i≠j∧α[j]?=some y):=by
 by_cases hij:i=j
 ·subst hij
  left
  have hl:i<α.length:=by
   have:=(cR.mp h).1
   rwa [bB] at this
  rw[ak hl] at h
  exact⟨rfl,bt h⟩
 ·right
  rw[bN hij] at h
  exact⟨hij,h⟩
theorem M.put {F:Fr}{σ:St}{H:Hp}{i:Nat}{b:Option A}(m:M F α σ H)(hf:∀s c x,σ[i]?=some s→b=some c→foot s c x→∃a,α[i]?=some (some a)∧foot s a x)
  (hok:∀s c,i<α.length→σ[i]?=some s→b=some c→xB (Gz F (α.set i b) σ H) F H s c) (hx:∀c,b=some c→noX c:=by intro c z;cases z;trivial):zm (Gz F α σ H) (Gz F (α.set i b) σ H)∧M F (α.set i b) σ H:=by
 have gs:zm (Gz F α σ H) (Gz F (α.set i b) σ H):=zk fun a o h e=>⟨fun z=>h (by
  rcases z with z|⟨j,c,s,e1,e2,f⟩
  ·exact .inl z
  ·rcases zC e1 with ⟨rfl,z⟩|⟨hj,e1'⟩
   ·obtain⟨a',h1,h2⟩:=hf s c a e2 z f
    exact .inr ⟨i,a',s,h1,e2,h2⟩
   ·exact .inr ⟨j,c,s,e1',e2,f⟩),e⟩
 have old:∀{j:Nat} {c:A} {s:Option V} {x:Addr},(α.set i b)[j]?=some (some c)→σ[j]?=some s→foot s c x→∃a,α[j]?=some (some a)∧foot s a x:=fun {j c s x} e1 e2 f=>by
  rcases zC e1 with ⟨rfl,z⟩|⟨hj,e1'⟩
  ·exact hf s c x e2 z f
  ·exact⟨c,e1',f⟩
 refine⟨gs,by rw[bB];exact m.len,fun j c s e1 e2=>?_,fun j k c d s t x e1 e2 h1 h2 f1 f2=>?_,fun j r q e j' c s x e1 e2 f=>?_,m.tp,m.keep,m.oex⟩
 ·rcases zC e1 with ⟨rfl,z⟩|⟨hj,e1'⟩
  ·refine hok s c ?_ e2 z
   have:=(cR.mp e1).1
   rwa [bB] at this
  ·exact (m.ok j c s e1' e2).stay gs (fun x o f e=>⟨e,(m.ft e1' e2 f).1,(m.ft e1' e2 f).2.1⟩) rfl fun _ _ _ l=>l
 ·obtain⟨a',g1,g2⟩:=old e1 h1 f1
  obtain⟨b',g3,g4⟩:=old e2 h2 f2
  exact m.dj j k a' b' s t x g1 g3 h1 h2 g2 g4
 ·obtain⟨a',g1,g2⟩:=old e1 e2 f
  rcases zC e with ⟨rfl,z⟩|⟨_,e'⟩
  ·exact (hx _ z).elim
  ·exact m.xd j r q e' j' a' s x g1 e2 g2
theorem M.gave {F:Fr}{σ:St}{H:Hp}{i:Nat}{a:A}{s:Option V}{b:Option A}{x:Addr}(m:M F α σ H)(e1:α[i]?=some (some a))(e2:σ[i]?=some s)(f:foot s a x)(hb:∀c,b=some c→¬foot s c x):¬Ow F (α.set i b) σ x:=by
 rintro (z|⟨j,c,t,h1,h2,g⟩)
 ·exact (m.ft e1 e2 f).1 z
 ·rcases zC h1 with ⟨rfl,z⟩|⟨hj,h1'⟩
  ·rw[e2] at h2;cases h2;exact hb c z g
  ·exact hj (m.dj i j a c s t x e1 h1' e2 h2 f g)
theorem gZ {F:Fr}{σ:St}{H:Hp}{i:Nat}{b:A}(hb:∀s x,¬foot s b x):zm (Gz F α σ H) (Gz F (α.set i (some b)) σ H):=zk fun a o h e=>⟨fun z=>h (by
 rcases z with z|⟨j,c,s,e1,e2,f⟩
 ·exact .inl z
 ·rcases zC e1 with ⟨rfl,z⟩|⟨hj,e1'⟩
  ·cases z;exact (hb _ _ f).elim
  ·exact .inr ⟨j,c,s,e1',e2,f⟩),e⟩
theorem M.frz {F:Fr}{σ:St}{H:Hp}{i:Nat}{ds:List PyData}(m:M F α σ H)(hi:α[i]?=some (some (.own ds))):M F (α.set i (some (.dat (.list ds)))) σ H:=
 (m.put (b:=some (.dat (.list ds))) (fun s c' x _ z f=>by cases z;exact f.elim) fun s c' _ e2 z=>by
  cases z
  obtain⟨l,o,h1,h2,h3,h4,h5⟩:=m.owc i _ hi
  rw[h1] at e2;cases e2
  exact⟨.ref l,rfl,(h3.same (gZ (b:=.dat (.list ds)) fun _ _ f=>f)).av (zM (m.gave hi h1 rfl fun c z=>by cases z;exact id) h2)⟩).2
theorem M.frzd {F:Fr}{σ:St}{H:Hp}{i:Nat}{d:PyData}{S:Addr→Prop}(m:M F α σ H)(hi:α[i]?=some (some (.deep d S))):M F (α.set i (some (.dat d))) σ H:=
 (m.put (b:=some (.dat d)) (fun s c' x _ z f=>by cases z;exact f.elim) fun s c' _ e2 z=>by
  cases z
  obtain⟨v,h1,h2,h3⟩:=m.deep i d S hi
  rw[h1] at e2;cases e2
  refine⟨v,rfl,h2.same fun x o e=>?_⟩
  rcases vL e with ⟨z1,z2⟩|⟨_,z2⟩
  ·exact zM (m.gave hi h1 z1 fun c z=>by cases z;exact id) z2
  ·obtain⟨w1,w2⟩:=zh z2
   refine zM (fun q=>w1 ?_) w2
   rcases q with z|⟨j,c,s,e1,e2,f⟩
   ·exact .inl z
   ·rcases zC e1 with ⟨rfl,z⟩|⟨hj,e1'⟩
    ·cases z;exact f.elim
    ·exact .inr ⟨j,c,s,e1',e2,f⟩).2
theorem kA {Q:Bool→Prop}(i:Nat){c:PyData}{S:Addr→Prop}(hi:α[i]?=some (some (.deep c S)))(h:EvT X (α.set i (some (.dat c))) e Q):EvT X α e Q:=fun F σ H R m k=>h F σ H R (m.frzd hi) k
theorem pM {Q:Bool→Prop}(i:Nat){ds:List PyData}(hi:α[i]?=some (some (.own ds)))(h:EvT X (α.set i (some (.dat (.list ds)))) e Q):EvT X α e Q:=fun F σ H R m k=>h F σ H R (m.frz hi) k
def ItW (p:Addr→Prop)(J:It)(ds:List PyData)(G:Hp):Prop:=∀(i:Nat) (H2:Hp) (q:Addr→Prop),zm G (sub q H2)→
 (∀d,ds[i]?=some d→J.go i H2∧∀x H3,J.yld i H2 x H3→zm H2 H3∧((∀a o,H3 a=some o→H2 a=none→q a)→AV (sub q H3) x d))∧(ds.length≤i→J.stop i H2)
def eo (X:Cx)(tg e:Expr):TI:=fun σ H R=>∃t,PI X tg e t∧t σ H R
theorem tS {tg e:Expr}:PI X tg e (eo X tg e):=fun pins s σ H R I ⟨t,p,q⟩=>p pins s σ H R I q
def EvI (X:Cx)(α:Ev)(tg e:Expr)(Q:List PyData→Prop):Prop:=∀(F:Fr) (σ:St) (H:Hp) (R:It→Hp→Prop),M F α σ H→
 (∀ds J H',Q ds→zA F H'→Kz F H H'→ItW (fun x=>¬Ow F α σ x) J ds (Gz F α σ H')→R J H')→eo X tg e σ H R
theorem wG {tg:Expr}{Q:List PyData→Prop}(h:EvD X α e fun x=>∃ds,x=.list ds∧Q ds):EvI X α tg e Q:=fun F σ H R m k=>by
 refine⟨_,pS zi,?_⟩
 refine h F σ H _ m fun x vx H1 q1 t1 k1 r1=>?_
 obtain⟨ds,rfl,q⟩:=q1
 obtain⟨a,xs,rfl,h1,h2⟩:=r1.lst_inv
 refine⟨a,rfl,⟨xs,SqL.of (zh h1).2⟩,k ds _ H1 q t1 k1 fun i H2 p s=>⟨fun d hd=>?_,fun hl=>?_⟩⟩
 ·obtain⟨x,hx,av⟩:=h2.get hd
  have ha:=SqL.of (K:=X.K) (zh (s _ _ h1)).2
  refine⟨⟨xs,x,ha,hx⟩,fun x' H3 y=>?_⟩
  obtain⟨e,y⟩:=y
  subst e
  have:=y xs ha
  rw[hx] at this;cases this
  exact⟨zm.refl _,fun _=>av.same s⟩
 ·exact⟨xs,SqL.of (zh (s _ _ h1)).2,by rw[h2.length];exact hl⟩
theorem md {p:Addr→Prop}{lo:Int}{n:Nat}{G:Hp}:ItW p (Itr lo n) ((wV lo n).map .int) G:=fun i H2 q s=>⟨fun d hd=>by
  rw[bE,bG] at hd
  obtain⟨z,h1,rfl⟩:=hd
  have hi:i<n:=by
   have:=(cR.mp h1).1
   rwa [yb] at this
  rw[qH hi] at h1
  cases h1
  refine⟨hi,fun x H3 y=>?_⟩
  obtain⟨rfl,rfl⟩:=y
  exact⟨zm.refl _,fun _=>.int _⟩,fun hl=>by
  rw[cT,yb] at hl
  exact hl⟩
theorem uB {tg:Expr}{Q:List PyData→Prop}(hg:Gl X "range")(hm:X.mg "range"=none)(h:EvD X α a fun x=>∃j,x=.int j∧-(2 ^ 62)≤j∧j<2 ^ 62∧Q ((wV 0 j.toNat).map .int))(hs:starEach [a] X.env=[(false,eval a X.env)]:=by rfl):
  EvI X α tg (.Call (.Name "range" p) [a] [] pos) Q:=fun F σ H R m k=>by
 refine⟨_,ng hg hm (zb zi zj hs) hs,?_⟩
 refine h F σ H _ m fun x vx H1 q1 t1 k1 r1=>?_
 obtain⟨j,rfl,b1,b2,q⟩:=q1
 cases r1.int_inv
 exact⟨j,rfl,b1,b2,k _ _ H1 q t1 k1 md⟩
end
inductive Pat where
 |one (i:Nat)
 |many (is:List Nat)
def xO :List Nat→List PyData→Ev→Option Ev
 |[],[],α=>some α
 |i::is,d::ds,α=>xO is ds (α.set i (some (.dat d)))
 |_,_,_=>none
def Pat.bind :Pat→PyData→Ev→Option Ev
 |.one i,d,α=>some (α.set i (some (.dat d)))
 |.many is,.tuple ds,α=>xO is ds α
 |_,_,_=>none
def gIs :List Nat→TGs
 |[]=>eG
 |i::is=>gf (uI i) (gIs is)
def sV (K:PySem.W.Frag):Pat→TG
 |.one i=>uI i
 |.many is=>fb K is.length (gIs is)
def Pat.slots :Pat→List Nat
 |.one i=>[i]
 |.many is=>is
def isFree (α:Ev)(i:Nat):Bool:=match α[i]? with
 |some none=>true
 |_=>false
def Pat.free (p:Pat)(α:Ev):Bool:=p.slots.all (isFree α)
section
variable {X:Cx}{α α':Ev}{F:Fr}{σ:St}{H:Hp}
theorem M.store {i:Nat}{v:V}{b:A}{H':Hp}(m:M F α σ H)(t:zA F H')(k:Kz F H H')(hn:∀x,foot (some v) b x→H x=none)(hok:xB (sub (fun x=>¬Ow F α σ x∧¬foot (some v) b x) H') F H' (some v) b)(hx:noX b:=by trivial):M F (α.set i (some b)) (σ.set i (some v)) H':=by
 have m':=m.kz k t
 have hs:∀{j:Nat} {c:A} {s:Option V},(α.set i (some b))[j]?=some (some c)→(σ.set i (some v))[j]?=some s→(i=j∧c=b∧s=some v)∨(i≠j∧α[j]?=some (some c)∧σ[j]?=some s):=fun {j c s} e1 e2=>by
  rcases zC e1 with ⟨rfl,z⟩|⟨hj,e1'⟩
  ·cases z
   have hl:i<σ.length:=by
    have:=(cR.mp e2).1
    rwa [bB] at this
   rw[ak hl] at e2
   cases e2
   exact .inl ⟨rfl,rfl,rfl⟩
  ·rw[bN hj] at e2
   exact .inr ⟨hj,e1',e2⟩
 have ow:∀{y:Addr},Ow F (α.set i (some b)) (σ.set i (some v)) y→Ow F α σ y∨foot (some v) b y:=fun {y} h=>by
  rcases h with z|⟨j,c,s,e1,e2,f⟩
  ·exact .inl (.inl z)
  ·rcases hs e1 e2 with ⟨_,rfl,rfl⟩|⟨_,g1,g2⟩
   ·exact .inr f
   ·exact .inl (.inr ⟨j,c,s,g1,g2,f⟩)
 have g1:zm (sub (fun x=>¬Ow F α σ x∧¬foot (some v) b x) H') (Gz F (α.set i (some b)) (σ.set i (some v)) H'):=zk fun a o h e=>⟨fun z=>(ow z).elim h.1 h.2,e⟩
 have g0:zm (Gz F α σ H) (sub (fun x=>¬Ow F α σ x∧¬foot (some v) b x) H'):=zk fun a o h e=>⟨⟨h,fun z=>by rw[hn a z] at e;cases e⟩,k a o e (m.tp.nt (ow0 h))⟩
 refine⟨by rw[bB,bB];exact m.len,fun j c s e1 e2=>?_,fun j j' c d s s' x e1 e2 h1 h2 f1 f2=>?_,fun j r q e j' c s x e1 e2 f=>?_,t,m.keep.trans k,m'.oex⟩
 ·rcases hs e1 e2 with ⟨rfl,rfl,rfl⟩|⟨_,z1,z2⟩
  ·exact hok.stay g1 (fun x o f e=>by
    obtain⟨w1,w2,_⟩:=vB hok f
    exact⟨e,w1,w2⟩) rfl fun _ _ _ l=>l
  ·exact (m.ok j c s z1 z2).stay (g0.trans g1) (fun x o f e=>by
    obtain⟨w1,w2,_⟩:=m.ft z1 z2 f
    exact⟨k x o e (m.tp.nt w1),w1,w2⟩) rfl fun _ _ _ l=>l.kz k t
 ·have nn:∀{j:Nat} {c:A} {s:Option V},α[j]?=some (some c)→σ[j]?=some s→foot s c x→¬foot (some v) b x:=fun {j c s} z1 z2 f g=>by
   obtain⟨_,_,o,w,_⟩:=m.ft z1 z2 f
   rw[hn x g] at w;cases w
  rcases hs e1 h1 with ⟨rfl,rfl,rfl⟩|⟨_,z1,z2⟩
  ·rcases hs e2 h2 with ⟨rfl,_⟩|⟨_,w1,w2⟩
   ·rfl
   ·exact absurd f1 (nn w1 w2 f2)
  ·rcases hs e2 h2 with ⟨rfl,rfl,rfl⟩|⟨_,w1,w2⟩
   ·exact absurd f2 (nn z1 z2 f1)
   ·exact m.dj j j' c d s s' x z1 w1 z2 w2 f1 f2
 ·rcases zC e with ⟨rfl,z⟩|⟨_,e'⟩
  ·cases z;exact hx.elim
  ·rcases hs e1 e2 with ⟨rfl,rfl,rfl⟩|⟨_,z1,z2⟩
   ·exact (m.lnk e').none (hn x f)
   ·exact m.xd j r q e' j' c s x z1 z2 f
theorem M.set {i:Nat}{v:V}{d:PyData}(m:M F α σ H)(av:AV (Gz F α σ H) v d):M F (α.set i (some (.dat d))) (σ.set i (some v)) H:=
 m.store m.tp Kz.refl (fun x z=>z.elim) ⟨v,rfl,av.same (zk fun a o h e=>⟨⟨h,fun z=>z⟩,e⟩)⟩
theorem M.setC {i:Nat}{v:V}{c:PyData}{H':Hp}(m:M F α σ H)(t:zA F H')(k:Kz F H H')(fl:mS F α σ H v H' c):M F (α.set i (some (.ow c))) (σ.set i (some v)) H':=by
 obtain⟨l,o,rfl,h1,h2,h3⟩:=fl
 have nl:¬Ow F α σ l:=m.fresh h1
 refine m.store t k (fun x z=>?_) ⟨l,o,rfl,h2,h3.same (zk fun a o h e=>⟨⟨h.1,fun z=>h.2 (by cases z;rfl)⟩,e⟩),ow0 nl,m.fresh0 h1⟩
 have z':some (V.ref l)=some (.ref x):=z
 cases z';exact h1
theorem M.setOwn {i:Nat}{v:V}{ds:List PyData}{H':Hp}(m:M F α σ H)(t:zA F H')(k:Kz F H H')(fl:yp F α σ H v H' ds):M F (α.set i (some (.own ds))) (σ.set i (some v)) H':=m.setC t k fl.c
theorem M.wr {x:Addr}{o:HO}(m:M F α σ H)(hno:xu o)(ho:F.O0 x)(ht:∀t b c,F.tp=some (t,b,c)→x≠t∧x≠b∧x≠c)(h0:F.H0 x=none)(hpl:Plain H x)(hx:∀(i:Nat) r q,α[i]?=some (some (.exc r q))→r.H0 x=none):M F α σ (upd H x o):=by
 have gs:zm (Gz F α σ H) (Gz F α σ (upd H x o)):=zk fun a u h e=>⟨h,by rw[zc (fun z=>h (.inl (by rw[z];exact ho)))];exact e⟩
 refine⟨m.len,fun j c s e1 e2=>?_,m.dj,m.xd,m.tp.upd ht hpl,fun y u e n=>?_,fun y hy=>?_⟩
 ·have:=m.ok j c s e1 e2
  cases c with
  |exc r q=>
   have l:Lnk r F H:=this
   exact⟨l.tp,l.o,l.ok.upd (fun a b c e=>ht a b c (l.tp▸e)) hpl,fun y u e n=>by rw[zc (ze e (hx j r q e1))];exact l.k y u e n⟩
  |_=>exact this.stay gs (fun y u f e=>by
    obtain⟨w1,w2,_⟩:=m.ft e1 e2 f
    exact⟨by rw[zc (fun z=>w1 (by rw[z];exact ho))];exact e,w1,w2⟩) rfl fun _ _ z=>by cases z
 ·rw[zc (ze e h0)];exact m.keep y u e n
 ·by_cases z:y=x
  ·exact⟨o,by rw[z];exact zd,hno⟩
  ·obtain⟨u,hu,hn⟩:=m.oex y hy
   exact⟨u,by rw[zc z];exact hu,hn⟩
theorem M.forget {α0:Ev}(m:M F α σ H)(hl:α0.length=α.length)(le:∀(i:Nat) a,α0[i]?=some (some a)→α[i]?=some (some a)):M F α0 σ H:=by
 have ow:∀{y:Addr},Ow F α0 σ y→Ow F α σ y:=fun {y} h=>by
  rcases h with z|⟨j,c,s,e1,e2,f⟩
  ·exact .inl z
  ·exact .inr ⟨j,c,s,le _ _ e1,e2,f⟩
 have gs:zm (Gz F α σ H) (Gz F α0 σ H):=zk fun a o h e=>⟨fun z=>h (ow z),e⟩
 exact⟨hl.trans m.len,fun j c s e1 e2=>(m.ok j c s (le _ _ e1) e2).stay gs (fun x o f e=>⟨e,(m.ft (le _ _ e1) e2 f).1,(m.ft (le _ _ e1) e2 f).2.1⟩) rfl fun _ _ _ l=>l,fun j j' c d s s' x e1 e2=>m.dj j j' c d s s' x (le _ _ e1) (le _ _ e2),fun j r q e j' c s x e1=>m.xd j r q (le _ _ e) j' c s x (le _ _ e1),m.tp,m.keep,m.oex⟩
theorem uX {H:Hp}:∀{is:List Nat} {ds:List PyData} {α α':Ev} {σ:St} {xs:List V} {R:St→Hp→Prop},xO is ds α=some α'→M F α σ H→(∀G,zm (Gz F α σ H) G→AVs G xs ds)→(∀σ',M F α' σ' H→R σ' H)→gIs is xs σ H R
 |[],[],α,α',σ,xs,R,e,m,av,k=>by
  cases e
  cases av _ (zm.refl _)
  exact⟨rfl,k σ m⟩
 |i::is,d::ds,α,α',σ,xs,R,e,m,av,k=>by
  cases h:av _ (zm.refl _) with
  |@cons x xs _ _ h1 h2=>
   refine⟨x,xs,rfl,?_⟩
   have gs:zm (Gz F α σ H) (Gz F (α.set i (some (.dat d))) (σ.set i (some x)) H):=zk fun a o h e=>⟨fun z=>h (by
    rcases z with z|⟨j,c,s,e1,e2,f⟩
    ·exact .inl z
    ·rcases zC e1 with ⟨_,z⟩|⟨hj,e1'⟩
     ·cases z;exact f.elim
     ·rw[bN hj] at e2
      exact .inr ⟨j,c,s,e1',e2,f⟩),e⟩
   exact uX (is:=is) (ds:=ds) e (m.set (i:=i) h1) (fun G s=>h2.same (gs.trans s)) k
 |[],_::_,_,_,_,_,_,e,_,_,_=>by cases e
 |_::_,[],_,_,_,_,_,e,_,_,_=>by cases e
theorem pK {K:PySem.W.Frag}{pat:Pat}{d:PyData}{v:V}{R:St→Hp→Prop}(e:pat.bind d α=some α')(m:M F α σ H)(av:AV (Gz F α σ H) v d)(k:∀σ',M F α' σ' H→R σ' H):sV K pat v σ H R:=by
 cases pat with
 |one i=>cases e;exact k _ (m.set av)
 |many is=>
  cases d with
  |tuple ds=>
   obtain⟨a,xs,rfl,h1,h2⟩:=av.tup_inv
   have hl:∀{is:List Nat} {ds:List PyData} {α α':Ev},xO is ds α=some α'→ds.length=is.length:=by
    intro is
    induction is with
    |nil=>intro ds α α' h;cases ds with|nil=>rfl|cons _ _=>cases h
    |cons i is ih=>intro ds α α' h;cases ds with|nil=>cases h|cons d ds=>rw[bj,bj,ih h]
   exact⟨a,xs,rfl,SqT.of (zh h1).2,by rw[h2.length];exact hl e,uX e m (fun G s=>h2.same s) k⟩
  |_=>cases e
theorem vO :∀{is:List Nat} {ds:List PyData} {α α':Ev},xO is ds α=some α'→α'.length=α.length
 |[],[],_,_,e=>by cases e;rfl
 |i::is,d::ds,α,α',e=>by
  have:=vO (is:=is) (ds:=ds) e
  rwa [bB] at this
 |[],_::_,_,_,e=>by cases e
 |_::_,[],_,_,e=>by cases e
theorem uf :∀{is:List Nat} {ds:List PyData} {α α':Ev} {j:Nat},xO is ds α=some α'→j∉is→α'[j]?=α[j]?
 |[],[],_,_,_,e,_=>by cases e;rfl
 |i::is,d::ds,α,α',j,e,h=>by
  rw[uf (is:=is) (ds:=ds) e fun z=>h (ba _ z)]
  exact bN fun (z:i=j)=>h (by rw[←z];exact bp)
 |[],_::_,_,_,_,e,_=>by cases e
 |_::_,[],_,_,_,e,_=>by cases e
theorem uc :∀{is:List Nat} {ds:List PyData} {α α':Ev} {j:Nat} {a:A},xO is ds α=some α'→α'[j]?=some (some a)→(∀d,a≠.dat d)→α[j]?=some (some a)
 |[],[],_,_,_,_,e,h,_=>by cases e;exact h
 |i::is,d::ds,α,α',j,a,e,h,hn=>by
  rcases zC (uc (is:=is) (ds:=ds) e h hn) with ⟨_,z⟩|⟨_,z⟩
  ·cases z;exact absurd rfl (hn d)
  ·exact z
 |[],_::_,_,_,_,_,e,_,_=>by cases e
 |_::_,[],_,_,_,_,e,_,_=>by cases e
theorem Pat.is_ok {pat:Pat}{d:PyData}(e:pat.bind d α=some α'):∃is ds,pat.slots=is∧xO is ds α=some α':=by
 cases pat with
 |one i=>cases e;exact⟨_,[d],rfl,rfl⟩
 |many is=>
  cases d with
  |tuple ds=>exact⟨_,ds,rfl,e⟩
  |_=>cases e
theorem Pat.back {pat:Pat}{d:PyData}(e:pat.bind d α=some α')(fr:pat.free α=true)(m:M F α' σ H):M F α σ H:=by
 obtain⟨is,ds,rfl,e⟩:=Pat.is_ok e
 refine m.forget (vO e).symm fun j a h=>?_
 by_cases hj:j∈pat.slots
 ·have:=za1.mp fr j hj
  unfold isFree at this
  rw[h] at this
  cases this
 ·rw[uf e hj];exact h
end
section
variable {X:Cx}{α:Ev}
def jg (X:Cx)(α:Ev)(ifs:List Expr)(Q:Bool→Prop):Prop:=∀(F:Fr) (σ:St) (H:Hp) (R:Bool→Hp→Prop),M F α σ H→(∀b H',Q b→zA F H'→Kz F H H'→R b H')→∃t,xC X ifs t∧t σ H R
def iO (X:Cx)(ifs:List Expr):TT:=fun σ H R=>∃t,xC X ifs t∧t σ H R
theorem oy {ifs:List Expr}:xC X ifs (iO X ifs):=fun pins s σ H Q I ⟨t,p,q⟩=>p pins s σ H Q I q
theorem qK {Q:Bool→Prop}(q:Q true):jg X α [] Q:=fun F σ H R m k=>⟨_,iq,k _ H q m.tp Kz.refl⟩
theorem fk {c:Expr}{Q:Bool→Prop}(h:EvT X α c Q):jg X α [c] Q:=fun F σ H R m k=>⟨_,pF yP,h F σ H R m k⟩
def seen :Option A→Option A
 |some (.dat d)=>some (.dat d)
 |some .tape=>some .tape
 |_=>none
def yo (imp:List (Option Nat))(α:Ev):Ev:=imp.map fun o=>o.bind fun j=>(α[j]?).bind seen
theorem rP {imp:List (Option Nat)}{i:Nat}{a:A}(h:(yo imp α)[i]?=some (some a)):∃j,imp[i]?=some (some j)∧α[j]?=some (some a)∧((∃d,a=.dat d)∨a=.tape):=by
 unfold yo at h
 rw[bE,bG] at h
 obtain⟨o,h1,h2⟩:=h
 cases o with
 |none=>cases h2
 |some j=>
  have h2':(α[j]?).bind seen=some a:=h2
  cases q:α[j]? with
  |none=>rw[q] at h2';cases h2'
  |some b=>
   rw[q] at h2'
   cases b with
   |none=>cases h2'
   |some b=>
    cases b with
    |dat d=>cases h2';exact⟨j,h1,q,.inl ⟨d,rfl⟩⟩
    |tape=>cases h2';exact⟨j,h1,q,.inr rfl⟩
    |_=>cases h2'
theorem rQ {imp:List (Option Nat)}{σ:St}{i j:Nat}{v:V}(h1:imp[i]?=some (some j))(h2:σ[j]?=some (some v)):(yY imp σ)[i]?=some (some v):=by
 unfold yY
 rw[bE,h1]
 show some ((σ[j]?).bind id)=_
 rw[h2];rfl
def yK (Y:Addr→Shared→Hp→List Addr→Cx)(pat:Pat)(ifs:List Expr)(elt:Expr)(α0:Ev):List PyData→List PyData→(List PyData→Prop)→Prop
 |[],acc,Q=>Q acc
 |d::ds,acc,Q=>∃α1,pat.bind d α0=some α1∧∀C s2 H2 fp,jg (Y C s2 H2 fp) α1 ifs fun k=>if k=true then ∀C s2 H2 fp,EvD (Y C s2 H2 fp) α1 elt fun y=>yK Y pat ifs elt α0 ds (acc++[y]) Q else yK Y pat ifs elt α0 ds acc Q
def eC (Y:Addr→Shared→Hp→List Addr→Cx)(e:Expr):TE:=fun σ H Q=>∀C s2 H2 fp,vD (Y C s2 H2 fp) e σ H Q
def tsC (Y:Addr→Shared→Hp→List Addr→Cx)(ifs:List Expr):TT:=fun σ H Q=>∀C s2 H2 fp,iO (Y C s2 H2 fp) ifs σ H Q
theorem pU {N:List Str}{imp:List (Option Nat)}{scope:Scope}{tg iter elt:Expr}{ifs:List Expr}{pat:Pat}{Q:List PyData→Prop}(hfree:pat.free (yo imp α)=true)
  (h:EvI X α tg iter fun ds=>ds.length≤1000∧yK (fun C s2 H2 fp=>X.comp N scope C s2 H2 fp) pat ifs elt (yo imp α) ds [] Q)
  (F:Fr) (σ:St) (H:Hp) (R:VK) (m:M F α σ H) (k:∀ds v H',Q ds→zA F H'→Kz F H H'→yp F α σ H v H' ds→R v H'):
  ∃Y:Addr→Shared→Hp→List Addr→Cx,Y=(fun C s2 H2 fp=>X.comp N scope C s2 H2 fp)∧lh (eo X tg iter) imp (sV X.K pat) (tsC Y ifs) (eC Y elt) σ H R:=by
 refine⟨_,rfl,?_⟩
 refine h F σ H _ m fun ds J H1 ⟨hl,q1⟩ t1 k1 itw acc hacc=>?_
 have m1:=m.kz k1 t1
 have nacc:¬Ow F α σ acc:=m1.fresh hacc
 let Fc:Fr:=⟨H1,fun x=>Ow F α σ x∨x=acc,F.tp⟩
 let Nd:Ev→Prop:=fun α1=>∀(j:Nat) a,α1[j]?=some (some a)→(∃d,a=.dat d)∨a=.tape
 have no0:Nd (yo imp α):=fun j a z=>by
  obtain⟨_,_,_,n⟩:=rP z
  exact n
 have owc:∀{α1:Ev} {τ:St} {x:Addr},Nd α1→(Ow Fc α1 τ x↔Fc.O0 x):=fun {α1 τ x} hh=>⟨fun z=>z.elim id fun⟨j,a,s,e1,e2,f⟩=>by
  rcases hh j a e1 with ⟨d,rfl⟩|rfl
  ·exact f.elim
  ·exact f.elim,.inl⟩
 have gz:∀{α1 α2:Ev} {τ1 τ2:St} {H:Hp},Nd α1→Nd α2→zm (Gz Fc α1 τ1 H) (Gz Fc α2 τ2 H):=fun h1 h2=>zk fun a o h e=>⟨fun z=>h ((owc h1).mpr ((owc h2).mp z)),e⟩
 have tpc:∀{H2:Hp},zA F H2→zA Fc H2:=fun t=>t.to rfl fun x z=>.inl (.inl z)
 have s01:zm H1 (upd H1 acc (.lst [])):=yn hacc
 have mc0:M Fc (yo imp α) (yY imp σ) (upd H1 acc (.lst [])):=by
  have g1:zm (Gz F α σ H1) (Gz Fc (yo imp α) (yY imp σ) (upd H1 acc (.lst []))):=fun a o e=>by
   obtain⟨z1,z2⟩:=zh e
   have na:a≠acc:=ze z2 hacc
   exact zM (fun z=>((owc no0).mp z).elim z1 na) (by rw[zc na];exact z2)
  refine⟨by unfold yo yY;rw[cT,cT],fun i a s e1 e2=>?_,fun i j a b s t x e1 e2 _ _ f=>?_,fun i r q e=>(by rcases no0 i _ e with ⟨d,w⟩|w<;>cases w),tpc (t1.same s01),fun x o e _=>s01 x o e,?_⟩
  ·obtain⟨j,w1,w2,w3⟩:=rP e1
   rcases w3 with ⟨d,rfl⟩|rfl
   ·obtain⟨v,g2,g3⟩:=m1.dat j d w2
    rw[rQ w1 g2] at e2;cases e2
    exact⟨v,rfl,g3.same g1⟩
   ·obtain⟨t,b,c,g2,g3⟩:=m1.tvar j w2
    rw[rQ w1 g3] at e2;cases e2
    exact⟨t,b,c,g2,rfl⟩
  ·rcases no0 i a e1 with ⟨d,rfl⟩|rfl
   ·exact f.elim
   ·exact f.elim
  ·rintro x (z|z)
   ·have:∃o,H1 x=some o∧xu o:=m1.owEx z
    obtain⟨o,ho,hn⟩:=this
    exact⟨o,s01 _ _ ho,hn⟩
   ·exact⟨_,by rw[z];exact zd,yu⟩
 refine⟨fun i n ys τ H2=>n=ds.length-i∧i≤ds.length∧∃ad:List PyData,M Fc (yo imp α) τ H2∧H2 acc=some (.lst ys)∧AVs (Gz Fc (yo imp α) τ H2) ys ad∧ad.length≤i∧yK (fun C s2 H2 fp=>X.comp N scope C s2 H2 fp) pat ifs elt (yo imp α) (ds.drop i) ad Q,
  ⟨ds.length,by simp,bz _,[],mc0,zd,.nil,cU _,q1⟩,?_⟩
 rintro i n ys τ H2 ⟨rfl,hi,ad,m2,ha,av,had,cw⟩
 have sG:zm (Gz F α σ H1) (Gz Fc (yo imp α) τ H2):=fun a o e=>by
  obtain⟨z1,z2⟩:=zh e
  exact m2.old a o (zM (p:=fun x=>¬Fc.O0 x) (fun z=>z.elim z1 (ze z2 hacc)) z2)
 obtain⟨w1,w2⟩:=itw i H2 _ sG
 by_cases hlt:i<ds.length
 ·have hd:ds[i]?=some ds[i]:=bH hlt
  have hdr:ds.drop i=ds[i]::ds.drop (i+1):=aP hlt
  rw[hdr] at cw
  obtain⟨α1,eb,body⟩:=cw
  obtain⟨go,yl⟩:=w1 _ hd
  have no1:Nd α1:=fun j a z=>by
   obtain⟨is,ds',_,e⟩:=Pat.is_ok eb
   by_cases hn:∀d,a≠.dat d
   ·exact no0 j a (uc e z hn)
   ·simp only[Classical.not_forall,Classical.not_not] at hn
    exact .inl hn
  refine .inr ⟨go,fun ys' τ' H'=>∃ad:List PyData,M Fc (yo imp α) τ' H'∧H' acc=some (.lst ys')∧AVs (Gz Fc (yo imp α) τ' H') ys' ad∧ad.length≤i+1∧yK (fun C s2 H2 fp=>X.comp N scope C s2 H2 fp) pat ifs elt (yo imp α) (ds.drop (i+1)) ad Q,
   fun ys' τ' H' ⟨ad',r1,r2,r3,r4,r5⟩=>⟨ds.length-(i+1),by omega,rfl,hlt,ad',r1,r2,r3,r4,r5⟩,fun x H3 y=>?_⟩
  obtain⟨s23,avx⟩:=yl x H3 y
  have m3:M Fc (yo imp α) τ H3:=m2.kz (Kz.of_same s23) (m2.tp.same s23)
  have avx':=avx fun a o _ e=>m2.fresh e
  refine pK eb m3 avx' fun τ1 m4 C s2 H2' fp=>?_
  refine body C s2 H2' fp Fc τ1 H3 _ m4 fun b H5 qb t5 k5=>?_
  have m5:=m4.kz k5 t5
  have av5:AVs (Gz Fc (yo imp α) τ1 H5) ys ad:=av.same ((Kz.of_same s23).gz m2.tp |>.trans ((gz (τ2:=τ1) no0 no1).trans ((k5.gz m4.tp).trans (gz no1 no0))))
  have accN:NT Fc acc:=⟨fun t b c e=>by
   have:=(t1 t b c e).1.free hacc
   exact⟨this.1,this.2.1⟩,rD t1.tab hacc⟩
  have ha5:H5 acc=some (.lst ys):=k5 _ _ (s23 _ _ ha) accN
  cases b with
  |false=>
   have qb':yK (fun C s2 H2 fp=>X.comp N scope C s2 H2 fp) pat ifs elt (yo imp α) (ds.drop (i+1)) ad Q:=by simpa using qb
   exact vn ⟨ad,Pat.back eb hfree m5,ha5,av5,by omega,qb'⟩
  |true=>
   refine vo fun C s2 H2'' fp=>?_
   have qe:EvD (X.comp N scope C s2 H2'' fp) α1 elt fun y=>yK (fun C s2 H2 fp=>X.comp N scope C s2 H2 fp) pat ifs elt (yo imp α) (ds.drop (i+1)) (ad++[y]) Q:=by
    have z:=qb
    rw[if_pos rfl] at z
    exact z C s2 H2'' fp
   refine qe Fc τ1 H5 _ m5 fun y v H6 qy t6 k6 r6=>?_
   have m6:=m5.kz k6 t6
   have ha6:H6 acc=some (.lst ys):=k6 _ _ ha5 accN
   have hlen:ys.length≤i:=by rw[av.length];exact had
   have oacc:Fc.O0 acc:=.inr rfl
   have tacc:∀t b c,Fc.tp=some (t,b,c)→acc≠t∧acc≠b∧acc≠c:=fun t b c e=>(t1 t b c e).1.free hacc
   have m7:=(Pat.back eb hfree m6).wr (o:=.lst (ys++[v])) yu oacc tacc hacc (uJ ha6) (fun i r q z=>by rcases no0 i _ z with ⟨d,w⟩|w<;>cases w)
   refine⟨ha6,yv (by omega),ad++[y],m7,zd,?_,by simp;omega,qy⟩
   have g67:zm (Gz Fc (yo imp α) τ1 H6) (Gz Fc (yo imp α) τ1 (upd H6 acc (.lst (ys++[v])))):=zk fun a o h e=>⟨h,by rw[zc (fun z=>h (.inl (by rw[z];exact oacc)))];exact e⟩
   exact ((av5.same ((gz (τ2:=τ1) no0 no1).trans ((k6.gz m5.tp).trans (gz no1 no0)))).append (.cons (r6.same (gz no1 no0)) .nil)).same g67
 ·have e:i=ds.length:=by omega
  subst e
  rw[zb4] at cw
  refine .inl ⟨w2 (cU _),k ad _ H2 cw ?_ (k1.trans m2.keep) (yp.back m k1 t1 ⟨acc,ys,rfl,hacc,ha,av.same (zk fun a o h e=>⟨⟨fun z=>h (.inl (.inl z)),fun z=>h (.inl (.inr z))⟩,e⟩)⟩)⟩
  exact m.tp.re m2.tp rfl
theorem hU {N:List Str}{imp:List (Option Nat)}{scope:Scope}{tg iter elt:Expr}{ifs:List Expr}{pat:Pat}{Q:List PyData→Prop}{pos:Pos}(hc:X.calm=true)(S:zK X.N X.env.scope N imp scope)(hfree:pat.free (yo imp α)=true)
  (hg:∀C s2 H2 fp,PG (X.comp N scope C s2 H2 fp) tg (sV X.K pat))
  (h:EvI X α tg iter fun ds=>ds.length≤1000∧yK (fun C s2 H2 fp=>X.comp N scope C s2 H2 fp) pat ifs elt (yo imp α) ds [] Q) (hs:∀x,foldedSetIterable iter X.env x=pure x:=by intro _;rfl):
  EvL X α (.ListComp elt [⟨tg,iter,ifs,0⟩] scope pos) Q:=fun F σ H R m k=>by
 obtain⟨Y,rfl,h⟩:=pU hfree h F σ H R m k
 exact⟨_,hG hc S tS hg (fun C s2 H2 fp pins s σ H Q I h=>oy pins s σ H Q I (h C s2 H2 fp)) (fun C s2 H2 fp pins s σ H Q I h=>zi pins s σ H Q I (h C s2 H2 fp)) hs,h⟩
section
variable {E:yA}{rest body:List Stmt}{e c tg iter:Expr}{pos p:Pos}
theorem rf.then {F:Fr}{D:Ends}(h:rf F E D):rf F {E with nx:=fun α'=>SvS X α' rest E} {D with nx:=nB X rest D}:=
 ⟨fun α' σ' H' m q=>q F σ' H' D m h,h.rt,h.bk,h.ct⟩
theorem ym (q:E.nx α):SvS X α [] E:=fun F σ H D m h=>⟨_,yc,h.nx _ _ _ m q⟩
theorem SvS.imp {sts:List Stmt}{E':yA}(h:SvS X α sts E')(hn:∀α,E'.nx α→E.nx α)(hr:∀a,E'.rt a→E.rt a)(hb:∀α,E'.bk α→E.bk α)(hc:∀α,E'.ct α→E.ct α):SvS X α sts E:=fun F σ H D m r=>
 h F σ H D m ⟨fun α σ H m q=>r.nx α σ H m (hn _ q),fun a v H m q=>r.rt a v H m (hr _ q),fun α σ H m q=>r.bk α σ H m (hb _ q),fun α σ H m q=>r.ct α σ H m (hc _ q)⟩
theorem wK (i:Nat){x:Str}{pos':Pos}(hN:X.N.Nodup)(h:EvD X α e fun d=>SvS X (α.set i (some (.dat d))) rest E)(hi:X.N[i]?=some x:=by rfl)(hx:Loc X.env.scope x:=by first|exact Or.inl rfl|exact Or.inr rfl)
  (hs:swapsWith e (some (.Name x pos')) pos.line X.env=pure false:=by rfl) (hf:X.fn x=true∨X.env.scope.names.lookup x=some .local:=by first|exact .inl rfl|exact .inr rfl|assumption):SvS X α (.Assign [.Name x pos'] e pos::rest) E:=fun F σ H D m r=>by
 refine⟨_,zz (xF hN hi hx zi hs hf) zT,?_⟩
 exact h F σ H _ m fun d v H1 q1 t1 k1 r1=>q1 F _ H1 D ((m.kz k1 t1).set r1) r
theorem xT (i:Nat){x:Str}{pos':Pos}(hN:X.N.Nodup)(h:EvL X α e fun ds=>SvS X (α.set i (some (.own ds))) rest E)(hi:X.N[i]?=some x:=by rfl)(hx:Loc X.env.scope x:=by first|exact Or.inl rfl|exact Or.inr rfl)
  (hs:swapsWith e (some (.Name x pos')) pos.line X.env=pure false:=by rfl) (hf:X.fn x=true∨X.env.scope.names.lookup x=some .local:=by first|exact .inl rfl|exact .inr rfl|assumption):SvS X α (.Assign [.Name x pos'] e pos::rest) E:=fun F σ H D m r=>by
 refine⟨_,zz (xF hN hi hx zi hs hf) zT,?_⟩
 exact h F σ H _ m fun d v H1 q1 t1 k1 r1=>q1 F _ H1 D (m.setOwn t1 k1 r1) r
theorem eB (i:Nat){x:Str}{pos' cpos:Pos}{N:List Str}{imp:List (Option Nat)}{scope:Scope}{elt:Expr}{ifs:List Expr}{pat:Pat}(hN:X.N.Nodup)(hc:X.calm=true)(S:zK X.N X.env.scope N imp scope)(hfree:pat.free (yo imp α)=true)
  (hg:∀C s2 H2 fp,PG (X.comp N scope C s2 H2 fp) tg (sV X.K pat))
  (h:EvI X α tg iter fun ds=>ds.length≤1000∧yK (fun C s2 H2 fp=>X.comp N scope C s2 H2 fp) pat ifs elt (yo imp α) ds [] fun ds=>SvS X (α.set i (some (.own ds))) rest E)
  (hi:X.N[i]?=some x:=by rfl) (hx:Loc X.env.scope x:=by first|exact Or.inl rfl|exact Or.inr rfl) (hsw:swapsWith (.ListComp elt [⟨tg,iter,ifs,0⟩] scope cpos) (some (.Name x pos')) pos.line X.env=pure true:=by rfl)
  (hf:X.fn x=true∨X.env.scope.names.lookup x=some .local:=by first|exact .inl rfl|exact .inr rfl|assumption) (hs:∀x,foldedSetIterable iter X.env x=pure x:=by intro _;rfl):
  SvS X α (.Assign [.Name x pos'] (.ListComp elt [⟨tg,iter,ifs,0⟩] scope cpos) pos::rest) E:=fun F σ H D m r=>by
 obtain⟨Y,rfl,h⟩:=pU hfree h F σ H (fun v H'=>nB X rest D (σ.set i (some v)) H') m fun ds v H' q t k fl=>q F _ H' D (m.setOwn t k fl) r
 exact⟨_,zz (mC hc S tS hg (fun C s2 H2 fp pins s σ H Q I h=>oy pins s σ H Q I (h C s2 H2 fp)) (fun C s2 H2 fp pins s σ H Q I h=>zi pins s σ H Q I (h C s2 H2 fp)) hN hi hx hsw hf hs) zT,h⟩
theorem xx.dat {F:Fr}{σ:St}{H:Hp}{v:V}{d:PyData}(m:M F α σ H)(r:AV (Gz F α σ H) v d):xx F v H (.dat d):=
 ⟨m.tp,m.keep,r.same (zk fun a o h e=>⟨ow0 h,e⟩)⟩
theorem wg (h:EvD X α e fun d=>E.rt (.dat d)):SvS X α (.Return (some e) pos::rest) E:=fun F σ H D m r=>by
 refine⟨_,zz (zq zi) zT,?_⟩
 exact h F σ H _ m fun d v H1 q1 t1 k1 r1=>r.rt _ _ _ (xx.dat (m.kz k1 t1) r1) q1
theorem ou (h:EvL X α e fun ds=>E.rt (.own ds)):SvS X α (.Return (some e) pos::rest) E:=fun F σ H D m r=>by
 refine⟨_,zz (zq zi) zT,?_⟩
 refine h F σ H _ m fun d v H1 q1 t1 k1 r1=>r.rt _ _ _ ?_ q1
 obtain⟨l,xs,h1,h2,h3,h4⟩:=r1
 exact⟨t1,m.keep.trans k1,l,xs,_,h1,rfl,m.fresh0 h2,ow0 (m.fresh h2),h3,h4.same (zk fun a o h e=>⟨⟨ow0 h.1,h.2⟩,e⟩)⟩
theorem pC (i:Nat){x:Str}{ds:List PyData}(hi:α[i]?=some (some (.own ds)))(q:E.rt (.own ds))(hN:X.N[i]?=some x:=by rfl)(hv:Vis X.env.scope x:=by first|exact Or.inl rfl|exact Or.inr (Or.inl rfl)|exact Or.inr (Or.inr rfl))
  (hd:(x == ("__debug__":Str))=false:=by decide) (hcd:(x == ("__classdict__":Str))=false:=by decide):SvS X α (.Return (some (.Name x p)) pos::rest) E:=fun F σ H D m r=>by
 obtain⟨l,xs,h1,h2,h3,h4,h5⟩:=m.own i ds hi
 refine⟨_,zz (zq (xk hN hv hd hcd)) zT,.ref l,h1,r.rt (.own ds) _ _ ⟨m.tp,m.keep,l,xs,_,rfl,rfl,h5,h4,h2,h3.same (zk fun a o h e=>⟨⟨ow0 h,fun z=>h (by rw[z];exact .inr ⟨i,_,_,hi,h1,rfl⟩)⟩,e⟩)⟩ q⟩
theorem wt {a b:List Stmt}(h:EvT X α c fun k=>SvS X α (if k=true then a else b) {E with nx:=fun α'=>SvS X α' rest E}):SvS X α (.If c a b pos::rest) E:=fun F σ H D m r=>by
 refine⟨_,zz (yN yP zT zT) zT,?_⟩
 refine h F σ H _ m fun k H1 q1 t1 k1=>?_
 cases k with
 |true=>exact vo ((by simpa using q1:SvS X α a _) F σ H1 _ (m.kz k1 t1) r.then)
 |false=>exact vn ((by simpa using q1:SvS X α b _) F σ H1 _ (m.kz k1 t1) r.then)
theorem sq (i:Nat){ds:List PyData}{sts:List Stmt}(hi:α[i]?=some (some (.own ds)))(h:SvS X (α.set i (some (.dat (.list ds)))) sts E):SvS X α sts E:=fun F σ H D m r=>h F σ H D (m.frz hi) r
theorem M.wrC {F:Fr}{σ:St}{H:Hp}{i:Nat}{c c':PyData}{l:Addr}{o':HO}(m:M F α σ H)(hi:α[i]?=some (some (.ow c)))(hl:σ[i]?=some (some (.ref l)))(av:yy (Gz F α σ H) o' c'):
  M F (α.set i (some (.ow c'))) σ (upd H l o'):=by
 obtain⟨l',o,h1,h2,h3,h4,h5⟩:=m.owc i c hi
 rw[hl] at h1;cases h1
 have hs:∀{j:Nat} {a:A} {s:Option V},(α.set i (some (.ow c')))[j]?=some (some a)→σ[j]?=some s→(i=j∧a=.ow c'∧s=some (.ref l))∨(i≠j∧α[j]?=some (some a)):=fun {j a s} e1 e2=>by
  rcases zC e1 with ⟨rfl,z⟩|⟨hj,e1'⟩
  ·cases z;rw[hl] at e2;cases e2;exact .inl ⟨rfl,rfl,rfl⟩
  ·exact .inr ⟨hj,e1'⟩
 have oww:∀{y:Addr},Ow F (α.set i (some (.ow c'))) σ y→Ow F α σ y:=fun {y} h=>by
  rcases h with z|⟨j,a,s,e1,e2,f⟩
  ·exact .inl z
  ·rcases hs e1 e2 with ⟨rfl,rfl,rfl⟩|⟨hj,e1'⟩
   ·exact .inr ⟨i,_,_,hi,hl,f⟩
   ·exact .inr ⟨j,a,s,e1',e2,f⟩
 have ol:Ow F α σ l:=.inr ⟨i,_,_,hi,hl,rfl⟩
 have gs:zm (Gz F α σ H) (Gz F (α.set i (some (.ow c'))) σ (upd H l o')):=zk fun a o h e=>⟨fun z=>h (oww z),by rw[zc (fun z=>h (by rw[z];exact ol))];exact e⟩
 refine⟨by rw[bB];exact m.len,fun j a s e1 e2=>?_,fun j j' a b s t x e1 e2 q1 q2 f1 f2=>?_,fun j r q e j' a s x e1 e2 f=>?_,m.tp.updO h4 (h3.plain h2),fun y o e n=>?_,fun y hy=>?_⟩
 ·rcases hs e1 e2 with ⟨rfl,rfl,rfl⟩|⟨hj,e1'⟩
  ·exact⟨l,o',rfl,zd,av.same gs,h4,h5⟩
  ·refine (m.ok j a s e1' e2).stay gs (fun y u f e=>?_) rfl fun r q ea k=>⟨k.tp,k.o,k.ok.updO (fun z=>h4 (k.o _ z)) (h3.plain h2),fun y u e n=>?_⟩
   ·obtain⟨w1,w2,_⟩:=m.ft e1' e2 f
    refine⟨?_,w1,w2⟩
    rw[zc fun z=>hj (m.dj i j _ a _ s l hi e1' hl e2 rfl (by rw[←z];exact f))]
    exact e
   ·rw[zc (ze e (m.xd j r q (by rw[←ea];exact e1') i _ _ l hi hl rfl))];exact k.k y u e n
 ·rcases hs e1 q1 with ⟨rfl,rfl,rfl⟩|⟨hj,e1'⟩
  ·rcases hs e2 q2 with ⟨rfl,_⟩|⟨hj',e2'⟩
   ·rfl
   ·exact m.dj i j' _ b _ t x hi e2' hl q2 f1 f2
  ·rcases hs e2 q2 with ⟨rfl,rfl,rfl⟩|⟨hj',e2'⟩
   ·exact m.dj j i a _ s _ x e1' hi q1 hl f1 f2
   ·exact m.dj j j' a b s t x e1' e2' q1 q2 f1 f2
 ·rcases zC e with ⟨_,z⟩|⟨_,e'⟩
  ·cases z
  ·rcases hs e1 e2 with ⟨rfl,rfl,rfl⟩|⟨_,e1'⟩
   ·exact m.xd j r q e' i _ _ x hi hl f
   ·exact m.xd j r q e' j' a s x e1' e2 f
 ·rw[zc (ze e h5)];exact m.keep y o e n
 ·rw[zc (fun z=>h4 (by rw[←z];exact hy))];exact m.oex y hy
theorem M.wrOwn {F:Fr}{σ:St}{H:Hp}{i:Nat}{ds es:List PyData}{l:Addr}{ys:List V}(m:M F α σ H)(hi:α[i]?=some (some (.own ds)))(hl:σ[i]?=some (some (.ref l)))(av:AVs (Gz F α σ H) ys es):
  M F (α.set i (some (.own es))) σ (upd H l (.lst ys)):=m.wrC hi hl (.lst av)
theorem wR (i:Nat){x:Str}{ds:List PyData}{p1 p2 p3:Pos}(hi:α[i]?=some (some (.own ds)))(h:EvD X α e fun d=>ds.length<1000∧SvS X (α.set i (some (.own (ds++[d])))) rest E)
  (hN:X.N[i]?=some x:=by rfl) (hv:Vis X.env.scope x:=by first|exact Or.inl rfl|exact Or.inr (Or.inl rfl)|exact Or.inr (Or.inr rfl)) (hd:(x == ("__debug__":Str))=false:=by decide) (hcd:(x == ("__classdict__":Str))=false:=by decide)
  (hbase:attributeBase (.Name x p1) "append" X.env (eval (.Name x p1) X.env)=eval (.Name x p1) X.env:=by rfl) (hs:starEach [e] X.env=(false,eval e X.env)::starEach [] X.env:=by rfl)
  (hpl:((((backTo p3 (starEach [e] X.env)).all fun x=>!x.fst)&&(backToKw p3 (keywordEach [] X.env)).all fun x=>x.fst.isSome)&&decide (([e].length+([]:List Keyword).length+if ([]:List Keyword).isEmpty=true then 0 else 1)<30))=true:=by rfl)
  (hline:(p2.endLine == p3.line)=true:=by rfl) (hsw:swapsWith (.Call (.Attribute (.Name x p1) "append" p2) [e] [] p3) none pos.line X.env=pure false:=by rfl):SvS X α (.Expr (.Call (.Attribute (.Name x p1) "append" p2) [e] [] p3) pos::rest) E:=fun F σ H D m r=>by
 obtain⟨l,xs,h1,h2,h3,h4,h5⟩:=m.own i ds hi
 refine⟨_,zz (sf (kZ zb1 PySem.F.slot_list_append PySem.F.type_list_append uG (xk hN hv hd hcd) (zb zi zj hs) hbase hpl hline hs) hsw) zT,?_⟩
 refine⟨.ref l,h1,.inl ⟨rfl,_,SqL.of h2⟩,?_⟩
 refine h F σ H _ m fun d v H1 q1 t1 k1 r1=>?_
 have m1:=m.kz k1 t1
 refine⟨l,xs,v,rfl,rfl,k1 _ _ h2 (m.tp.nt h4),by rw[h3.length];exact yv (aE q1.1),?_⟩
 exact q1.2 F σ _ D (m1.wrOwn hi h1 ((h3.same (k1.gz m.tp)).append (.cons r1 .nil))) r
theorem ml (i:Nat){x:Str}{ds:List PyData}{p1 p2 p3:Pos}(hi:α[i]?=some (some (.own ds)))(h:EvD X α e fun d=>∃es,d=.list es∧ds.length+es.length≤1000∧SvS X (α.set i (some (.own (ds++es)))) rest E)
  (hN:X.N[i]?=some x:=by rfl) (hv:Vis X.env.scope x:=by first|exact Or.inl rfl|exact Or.inr (Or.inl rfl)|exact Or.inr (Or.inr rfl)) (hd:(x == ("__debug__":Str))=false:=by decide) (hcd:(x == ("__classdict__":Str))=false:=by decide)
  (hbase:attributeBase (.Name x p1) "extend" X.env (eval (.Name x p1) X.env)=eval (.Name x p1) X.env:=by rfl) (hs:starEach [e] X.env=(false,eval e X.env)::starEach [] X.env:=by rfl)
  (hpl:((((backTo p3 (starEach [e] X.env)).all fun x=>!x.fst)&&(backToKw p3 (keywordEach [] X.env)).all fun x=>x.fst.isSome)&&decide (([e].length+([]:List Keyword).length+if ([]:List Keyword).isEmpty=true then 0 else 1)<30))=true:=by rfl)
  (hline:(p2.endLine == p3.line)=true:=by rfl) (hsw:swapsWith (.Call (.Attribute (.Name x p1) "extend" p2) [e] [] p3) none pos.line X.env=pure false:=by rfl):SvS X α (.Expr (.Call (.Attribute (.Name x p1) "extend" p2) [e] [] p3) pos::rest) E:=fun F σ H D m r=>by
 obtain⟨l,xs,h1,h2,h3,h4,h5⟩:=m.own i ds hi
 refine⟨_,zz (sf (kZ zb1 PySem.F.slot_list_extend PySem.F.type_list_extend nG (xk hN hv hd hcd) (zb zi zj hs) hbase hpl hline hs) hsw) zT,?_⟩
 refine⟨.ref l,h1,.inl ⟨rfl,_,SqL.of h2⟩,?_⟩
 refine h F σ H _ m fun d v H1 q1 t1 k1 r1=>?_
 have m1:=m.kz k1 t1
 obtain⟨es,rfl,hl,q⟩:=q1
 obtain⟨b,ys,rfl,g1,g2⟩:=r1.lst_inv
 refine⟨l,b,xs,ys,rfl,rfl,k1 _ _ h2 (m.tp.nt h4),(zh g1).2,by rw[h3.length,g2.length];exact aE (yv hl),?_⟩
 exact q F σ _ D (m1.wrOwn hi h1 ((h3.same (k1.gz m.tp)).append g2)) r
def vf (X:Cx)(pat:Pat)(body rest:List Stmt)(E:yA):List PyData→Ev→Prop
 |[],α=>SvS X α rest E
 |d::ds,α=>∃α1,pat.bind d α=some α1∧SvS X α1 body {nx:=vf X pat body rest E ds,ct:=vf X pat body rest E ds,bk:=fun α'=>SvS X α' rest E,rt:=E.rt}
theorem tq {pat:Pat}(hp:PassesOwn (model X.prog X.w) X.A X.env X.xe)(hc:X.calm=true)(hg:PG X tg (sV X.K pat))(h:EvI X α tg iter fun ds=>vf X pat body rest E ds α)
  (hs:∀x,foldedSetIterable iter X.env x=pure x:=by intro _;rfl):SvS X α (.For tg iter body [] pos::rest) E:=fun F σ H D m r=>by
 refine⟨_,zz (fV hp hc tS hg zT hs) zT,?_⟩
 refine h F σ H _ m fun ds J H1 q1 t1 k1 itw=>?_
 have m1:=m.kz k1 t1
 have mu:=m1.up
 have ru:rf (F.up (Gz F α σ H1)) E D:=r.up
 refine⟨fun i n σ' H'=>n=ds.length-i∧i≤ds.length∧∃α',M (F.up (Gz F α σ H1)) α' σ' H'∧vf X pat body rest E (ds.drop i) α',⟨ds.length,by simp,bz _,α,mu,q1⟩,?_⟩
 rintro i n σ' H' ⟨rfl,hi,α',m',lw⟩
 obtain⟨w1,w2⟩:=itw i H' _ (m1.upold m')
 by_cases hlt:i<ds.length
 ·have hd:ds[i]?=some ds[i]:=bH hlt
  rw[aP hlt] at lw
  obtain⟨α1,eb,body⟩:=lw
  obtain⟨go,yl⟩:=w1 _ hd
  refine .inr ⟨go,fun σ'' H''=>∃α',M (F.up (Gz F α σ H1)) α' σ'' H''∧vf X pat _ rest E (ds.drop (i+1)) α',fun σ'' H'' ⟨α'',r1,r2⟩=>⟨ds.length-(i+1),by omega,rfl,hlt,α'',r1,r2⟩,fun x H3 y=>?_⟩
  obtain⟨s23,avx⟩:=yl x H3 y
  have m3:=m'.kz (Kz.of_same s23) (m'.tp.same s23)
  refine pK eb m3 (avx fun a o _ e=>m'.fresh e) fun σ1 m4=>?_
  exact body _ σ1 H3 _ m4 ⟨fun α2 σ2 H2 m2 q=>⟨α2,m2,q⟩,ru.rt,fun α2 σ2 H2 m2 q=>q _ σ2 H2 D m2 ru,fun α2 σ2 H2 m2 q=>⟨α2,m2,q⟩⟩
 ·have e:i=ds.length:=by omega
  subst e
  rw[zb4] at lw
  exact .inl ⟨w2 (cU _),lw _ σ' H' D m' ru⟩
theorem yS {pat:Pat}{ds:List PyData}(P:Nat→Ev→Prop)(h0:P 0 α)(hs:∀i d α,ds[i]?=some d→P i α→∃α1,pat.bind d α=some α1∧SvS X α1 body {nx:=P (i+1),ct:=P (i+1),bk:=fun α'=>SvS X α' rest E,rt:=E.rt})
  (hd:∀α,P ds.length α→SvS X α rest E):vf X pat body rest E ds α:=by
 have key:∀n i α,n=ds.length-i→i≤ds.length→P i α→vf X pat body rest E (ds.drop i) α:=by
  intro n
  induction n with
  |zero=>
   intro i α hn hi p
   have e:i=ds.length:=by omega
   subst e
   rw[zb4]
   exact hd α p
  |succ n ih=>
   intro i α hn hi p
   have hlt:i<ds.length:=by omega
   rw[aP hlt]
   obtain⟨α1,e,b⟩:=hs i ds[i] α (bH hlt) p
   exact⟨α1,e,b.imp (fun α p=>ih (i+1) α (by omega) hlt p) (fun _ z=>z) (fun _ z=>z) (fun α p=>ih (i+1) α (by omega) hlt p)⟩
 exact key _ 0 α rfl (bz _) h0
end
end
section
variable {P:Program}{w:World}{K:PySem.W.Frag}{mg:Str→Option Value}{base:Heap}
theorem M.start {F:Fr}{N:List Str}{vs:List V}{as:List A}{H:Hp}(e:F.H0=H)(t:zA F H)(o:∀x,F.O0 x→∃u,H x=some u∧xu u)(rv:zF F (sub (fun x=>¬F.O0 x) H) vs as):
  M F (as.map some++List.replicate (N.length-as.length) none) (L2.start N vs) H:=by
 have hl:=rv.length
 have g:∀{i:Nat} {a:A},(as.map some++List.replicate (N.length-as.length) none)[i]?=some (some a)→as[i]?=some a:=fun {i a} h=>by
  rcases Nat.lt_or_ge i as.length with z|z
  ·rw[bo (by rw[cT];exact z),bE,bG] at h
   obtain⟨b,h1,h2⟩:=h
   cases h2;exact h1
  ·rw[br (by rw[cT];exact z),aD] at h
   split at h<;>cases h
 have at':∀{vs:List V} {as:List A} {i:Nat} {a:A},zF F (sub (fun x=>¬F.O0 x) H) vs as→as[i]?=some a→∃v,vs[i]?=some v∧oO F (sub (fun x=>¬F.O0 x) H) v a:=by
  intro vs as i a h
  induction h generalizing i with
  |nil=>intro e;simp at e
  |cons h r ih=>
   intro e
   cases i with
   |zero=>simp at e;subst e;exact⟨_,rfl,h⟩
   |succ i=>obtain⟨v,h1,h2⟩:=ih (by simpa using e);exact⟨v,by simpa using h1,h2⟩
 have gv:∀{i:Nat} {v:V},vs[i]?=some v→(L2.start N vs)[i]?=some (some v):=fun {i v} h=>by
  have hi:i<vs.length:=(cR.mp h).1
  unfold L2.start
  rw[bo (by rw[cT];exact hi),bE,h];rfl
 have no:∀(i:Nat) a,(as.map some++List.replicate (N.length-as.length) none)[i]?=some (some a)→(∃d,a=.dat d)∨a=.tape:=fun i a z=>by
  obtain⟨v,_,h⟩:=at' rv (g z)
  cases a with
  |dat d=>exact .inl ⟨d,rfl⟩
  |tape=>exact .inr rfl
  |_=>exact h.elim
 have gs:zm (sub (fun x=>¬F.O0 x) H) (Gz F (as.map some++List.replicate (N.length-as.length) none) (L2.start N vs) H):=zk fun a o h e=>⟨fun z=>z.elim h fun⟨i,b,s,e1,_,f⟩=>by
  rcases no i b e1 with ⟨d,rfl⟩|rfl
  ·exact f.elim
  ·exact f.elim,e⟩
 refine⟨by unfold L2.start;simp[hl],fun i a s e1 e2=>?_,fun i j a b s t x e1 _ _ _ f=>?_,fun i r q z=>(by rcases no i _ z with ⟨d,w⟩|w<;>cases w),t,fun x o' h _=>by rw[←e];exact h,o⟩
 ·obtain⟨v,h1,h2⟩:=at' rv (g e1)
  rw[gv h1] at e2;cases e2
  rcases no i a e1 with ⟨d,rfl⟩|rfl
  ·exact⟨v,rfl,AV.same gs h2⟩
  ·obtain⟨t',b,c,h3,rfl⟩:=h2
   exact⟨t',b,c,h3,rfl⟩
 ·rcases no i a e1 with ⟨d,rfl⟩|rfl
  ·exact f.elim
  ·exact f.elim
theorem fnA {x qual:Str}{st:Stmt}{f:Addr}{fd:FuncData}{N ps:List Str}{k:Nat}{φ:List A→(A→Prop)→Prop}(G:Fun K x qual st f fd)(S:zg N ps (za st))(hlen:∀as Q,φ as Q→as.length=ps.length)
  (hbody:∀(cdv:Value) (A':Around) (outer:List Env) (s:Shared) (H:Hp) (E:XK) (as:List A) (Q:A→Prop),zy k (A'.deeper (envOfC qual (za st) s.heap.objs.size f cdv))→φ as Q→
   SvS (yB CX0 P w K mg base N qual (za st) f cdv A' outer s H E).nox (as.map some++List.replicate (N.length-as.length) none) (zr st) {nx:=fun _=>Q (.dat .none),rt:=Q}):zo P w K mg base CX0 (k+1) f fd ps (spA φ):=by
 refine G.ok S (fun vs H Q E h=>?_) (fun cdv A' outer s H vs Qc E hr h=>?_)
 ·obtain⟨F,as,Q',_,_,_,rv,hφ,_⟩:=h
  rw[rv.length,hlen as _ hφ]
 ·obtain⟨F,as,Q',e,t,o,rv,hφ,kk⟩:=h
  refine hbody cdv A' outer s H E as Q' hr hφ F _ H _ (M.start e t o rv) ⟨fun α σ H' m q=>?_,fun a v H' r q=>kk a v H' q r,fun _ _ _ _ z=>z.elim,fun _ _ _ _ z=>z.elim⟩
  exact kk _ _ _ q ⟨m.tp,m.keep,.non⟩
end
section
variable {X:Cx}{pins:List (Addr×Obj)}{σ:St}{H:Hp}{s:Shared}{h':Heap}
theorem Inv.turnL {t':Nat}{ch:List Addr}(I:Inv X pins σ H s)(k:∀b o,b∉ch→s.heap.get? b=some o→h'.get? b=some o)(hf:∀b∈ch,wL X pins H b):Inv X pins σ H {s with heap:=h',toks:=t'}:=by
 have nit:∀b u,H b=some u→b∉ch:=fun b u e z=>by rw[(hf b z).1] at e;cases e
 refine I.step (g':=s.gens) (d':=s.drawn) (ch:=ch) (fun b hb=>?_) (fun b o _ _ hc e _=>k b o hc e) (fun b o _ _ hc e _=>⟨o.slots,k b o hc e⟩) (fun _ _ _ _ n=>n)
  (fun b o hc e=>⟨o,k b o hc e⟩) (fun _ _ e=>e) (fun _ _ _ e=>e) (fun b ps e=>⟨#[],by rw[e];simp⟩) (fun m hm=>?_) (fun b u e=>?_) I.bare
 ·obtain⟨_,f1,_,f3,f4,f5⟩:=hf b hb
  exact⟨f3,f1,f4,f5⟩
 ·obtain⟨o,es,ep,ho,r⟩:=hm
  exact⟨o,es,ep,k _ o (fun z=>(hf _ z).2.1 rfl) ho,r⟩
 ·refine (I.hok b u e).stay (fun c v hc q=>k c v ?_ q) (fun _ q=>q) fun _ _ q=>q
  rcases hc with z|z
  ·rw[z];exact nit b u e
  ·exact nit c _ z
theorem Inv.turnLay {t':Nat}{ch:List Addr}{T:Addr}{o:HO}(I:Inv X pins σ H s)(k:∀b o,b∉ch→s.heap.get? b=some o→h'.get? b=some o)(hf:∀b∈ch,wL X pins H b)(hT:s.heap.objs.size≤T)(new:zZ X.prog X.w (upd H T o) h' T o):
  Inv X pins σ (upd H T o) {s with heap:=h',toks:=t'}:=by
 have nit:∀b u,H b=some u→b∉ch:=fun b u e z=>by rw[(hf b z).1] at e;cases e
 have hn:H T=none:=I.hok.fresh hT
 have lt:∀{b:Addr} {u:Obj},s.heap.get? b=some u→b≠T:=fun e=>bx (bh (cV e) hT)
 refine I.step (g':=s.gens) (d':=s.drawn) (ch:=ch) (fun b hb=>?_) (fun b o _ _ hc e _=>k b o hc e) (fun b o _ _ hc e _=>⟨o.slots,k b o hc e⟩) (fun b u _ e n=>by rw[zc (lt e)];exact n)
  (fun b o hc e=>⟨o,k b o hc e⟩) (fun b xs e=>by rw[zc (ze e hn)];exact e) (fun b u xs e=>by rw[zc (ze e hn)];exact e) (fun b ps e=>⟨#[],by rw[zc (ze e hn),e];simp⟩) (fun m hm=>?_) (fun b u e=>?_) I.bare
 ·obtain⟨_,f1,_,f3,f4,f5⟩:=hf b hb
  exact⟨f3,f1,f4,f5⟩
 ·obtain⟨o,es,ep,ho,r⟩:=hm
  exact⟨o,es,ep,k _ o (fun z=>(hf _ z).2.1 rfl) ho,r⟩
 ·by_cases hb:b=T
  ·subst hb;rw[zd] at e;cases e;exact new
  ·rw[zc hb] at e
   refine (I.hok b u e).stay (fun c v hc q=>k c v ?_ q) (fun c q=>by rw[zc (ze q hn)];exact q) fun c xs q=>by rw[zc (ze q hn)];exact q
   rcases hc with z|z
   ·rw[z];exact nit b u e
   ·exact nit c _ z
end
theorem cO {a b:Nat}(h:b<a):(a:Addr)≠b:=za9 h
def Itz (K:PySem.W.Frag)(l1 l2:Addr):It:=
 ⟨fun i H=>∃xs ys x y,SqL K H l1 xs∧SqL K H l2 ys∧xs[i]?=some x∧ys[i]?=some y,
  fun i H v H'=>∃T x y,v=.ref T∧H T=none∧H'=upd H T (.tup [x,y])∧(∀xs,SqL K H l1 xs→xs[i]?=some x)∧∀ys,SqL K H l2 ys→ys[i]?=some y,
  fun i H=>∃xs ys,SqL K H l1 xs∧SqL K H l2 ys∧(xs.length≤i∨ys.length≤i)⟩
def Ite (K:PySem.W.Frag)(l:Addr):It:=
 ⟨fun i H=>∃xs x,SqL K H l xs∧xs[i]?=some x,
  fun i H v H'=>∃T x,v=.ref T∧H T=none∧H'=upd H T (.tup [.int i,x])∧∀xs,SqL K H l xs→xs[i]?=some x,
  fun i H=>∃xs,SqL K H l xs∧xs.length≤i⟩
theorem eu {P:Program}{w:World}{K:PySem.W.Frag}{elts:List Expr}{kk:Nat}{pos:Pos}{z TI TO i1 i2 l1 l2:Addr}(D:ZipApart z TI TO i1 i2 l1 l2):
  Turn P w K (.Tuple elts kk pos) (Itz K l1 l2) [z,TI,TO,i1,i2] z (fun i h=>IsZip h z TI TO .none∧IsPair h TI (.ref i1) (.ref i2)∧(∃a b,IsPair h TO a b)∧h.IsListIter i1 l1 i∧h.IsListIter i2 l2 i) where
 mem:=by simp
 obj:=fun i h st b hb=>by
  obtain⟨h1,h2,⟨a,c,h3⟩,⟨o1,e1,_,d1⟩,⟨o2,e2,_,d2⟩⟩:=st
  simp only[cY,bq,af] at hb
  rcases hb with rfl|rfl|rfl|rfl|rfl
  ·exact⟨_,h1,fun v z=>by cases (show Data.fields _=Data.cell v from z)⟩
  ·exact⟨_,h2,fun v z=>by cases (show Data.seq _ _=Data.cell v from z)⟩
  ·exact⟨_,h3,fun v z=>by cases (show Data.seq _ _=Data.cell v from z)⟩
  ·exact⟨o1,e1,fun v z=>by rw[d1] at z;cases z⟩
  ·exact⟨o2,e2,fun v z=>by rw[d2] at z;cases z⟩
 keep:=fun i h h' st k=>by
  obtain⟨h1,h2,⟨a,c,h3⟩,h4,h5⟩:=st
  exact⟨k z (by simp) _ h1,k TI (by simp) _ h2,⟨a,c,k TO (by simp) _ h3⟩,h4.at fun o e=>k i1 (by simp) o e,h5.at fun o e=>k i2 (by simp) o e⟩
 item:=by
  intro X hP hw hK hc i pins s σ H E I hf st hg
  subst hP hw hK
  obtain⟨xs,ys,x,y,hq1,hq2,hx,hy⟩:=hg
  obtain⟨its1,rv1,p1,hz1⟩:=I.list hq1
  obtain⟨its2,rv2,p2,hz2⟩:=I.list hq2
  obtain⟨u,hu,ru⟩:=rv1.get hx
  obtain⟨v,hv,rv⟩:=rv2.get hy
  obtain⟨h1,h2,⟨a,c,h3⟩,h4,h5⟩:=st
  refine wpAny_pyNext_zip_item D h1 h2 h3 h4 h5 p1.isList p2.isList (x:=u) (y:=v) (by simpa using hu) (by simpa using hv) fun h' a1 a2 a3 a4 a5 a6 hk=>⟨_,rfl,?_⟩
  refine wpAny_letOwnedTupleGo_zip (s:={s with heap:=h'}) a1 fun h'' b1 b2=>?_
  have hTz:s.heap.objs.size≠z:=za9 (cV h1)
  have hk2:∀b o,b∉[z,TI,TO,i1,i2]→s.heap.get? b=some o→h''.get? b=some o:=fun b o hb e=>by
   simp only[cY,bq,af,not_or] at hb
   exact b2.extBut _ _ hb.1 (hk b o hb.1 hb.2.2.1 hb.2.2.2.1 hb.2.2.2.2 e)
  have gT:h''.get? s.heap.objs.size=some {cls:=.type "tuple",data:=.seq #[u,v]}:=b2.extBut _ _ hTz a5
  have J:=I.turnLay (t':=s.toks) (T:=s.heap.objs.size) (o:=.tup [x,y]) hk2 hf (cU _) ⟨by show 2≤sizeLine;decide,[u,v],.cons ru (.cons rv .nil),_,gT,rfl,0,rfl⟩
  refine⟨.ref s.heap.objs.size,_,J,rfl,⟨_,x,y,rfl,I.hok.fresh (cU _),rfl,fun zs hz=>by rw[I.list_inj hz hq1];exact hx,fun zs hz=>by rw[I.list_inj hz hq2];exact hy⟩,⟨b1,b2.extBut _ _ D.TIz (hk _ _ D.TIz D.TITO D.TIi1 D.TIi2 h2),⟨u,v,b2.extBut _ _ D.TOz a2⟩,a3.extBut b2.extBut D.i1z,a4.extBut b2.extBut D.i2z⟩,fun b hb=>?_⟩
  rw[zc]
  ·exact (hf b hb).1
  ·obtain⟨o,e,_⟩:=(show ∃o,s.heap.get? b=some o∧True from by
    simp only[cY,bq,af] at hb
    obtain⟨o1,e1,_⟩:=h4
    obtain⟨o2,e2,_⟩:=h5
    rcases hb with rfl|rfl|rfl|rfl|rfl
    ·exact⟨_,h1,trivial⟩
    ·exact⟨_,h2,trivial⟩
    ·exact⟨_,h3,trivial⟩
    ·exact⟨_,e1,trivial⟩
    ·exact⟨_,e2,trivial⟩)
   exact bx (cV e)
 done:=by
  intro X hP hw hK hc i pins s σ H E I hf st hg
  subst hP hw hK
  obtain⟨xs,ys,hq1,hq2,hl⟩:=hg
  obtain⟨its1,rv1,p1,hz1⟩:=I.list hq1
  obtain⟨its2,rv2,p2,hz2⟩:=I.list hq2
  obtain⟨h1,h2,⟨a,c,h3⟩,h4,h5⟩:=st
  have e1:=rv1.length
  have e2:=rv2.length
  refine wpAny_pyNext_zip_end (I.ok.hd hc) D h1 h2 h3 h4 h5 p1.isList p2.isList (hl.imp (fun z=>by simp;omega) fun z=>by simp;omega) fun h' hk=>⟨rfl,?_⟩
  exact I.turnL (t':=s.toks) (ch:=[z,TI,TO,i1,i2]) (fun b o hb e=>by
   simp only[cY,bq,af,not_or] at hb
   exact hk b o hb.1 hb.2.2.1 hb.2.2.2.1 hb.2.2.2.2 e) hf
 self:=fun A i s Q E st h=>wpAny_pyIter_zip st.1 h
theorem nD {P:Program}{w:World}{K:PySem.W.Frag}{elts:List Expr}{kk:Nat}{pos:Pos}{e it l:Addr}(hne:e≠it):
  Turn P w K (.Tuple elts kk pos) (Ite K l) [e,it] e (fun i h=>(∃old,IsEnum h e it i old)∧h.IsListIter it l i) where
 mem:=by simp
 obj:=fun i h st b hb=>by
  obtain⟨⟨old,h1⟩,⟨o1,e1,_,d1⟩⟩:=st
  simp only[cY,bq,af] at hb
  rcases hb with rfl|rfl
  ·exact⟨_,h1,fun v z=>by cases (show Data.fields _=Data.cell v from z)⟩
  ·exact⟨o1,e1,fun v z=>by rw[d1] at z;cases z⟩
 keep:=fun i h h' st k=>by
  obtain⟨⟨old,h1⟩,h4⟩:=st
  exact⟨⟨old,k e (by simp) _ h1⟩,h4.at fun o q=>k it (by simp) o q⟩
 item:=by
  intro X hP hw hK hc i pins s σ H E I hf st hg
  subst hP hw hK
  obtain⟨xs,x,hq1,hx⟩:=hg
  obtain⟨its1,rv1,p1,hz1⟩:=I.list hq1
  obtain⟨u,hu,ru⟩:=rv1.get hx
  obtain⟨⟨old,h1⟩,h4⟩:=st
  refine wpAny_pyNext_enum_item h1 h4 p1.isList (x:=u) (by simpa using hu) hne fun h' a1 a3 a5 a6 hk=>⟨_,rfl,?_⟩
  refine wpAny_letOwnedTupleGo_enum (s:={s with heap:=h',toks:=s.toks+1}) a1 fun h'' b1 b2=>?_
  have hTz:s.heap.objs.size≠e:=za9 (cV h1)
  have hk2:∀b o,b∉[e,it]→s.heap.get? b=some o→h''.get? b=some o:=fun b o hb q=>by
   simp only[cY,bq,af,not_or] at hb
   exact b2.extBut _ _ hb.1 (hk b o hb.1 hb.2 q)
  have gT:h''.get? s.heap.objs.size=some {cls:=.type "tuple",data:=.seq #[.int i s.toks,u]}:=b2.extBut _ _ hTz a5
  have J:=I.turnLay (t':=s.toks+1) (T:=s.heap.objs.size) (o:=.tup [.int i,x]) hk2 hf (cU _) ⟨by show 2≤sizeLine;decide,[.int i s.toks,u],.cons ⟨_,rfl⟩ (.cons ru .nil),_,gT,rfl,0,rfl⟩
  refine⟨.ref s.heap.objs.size,_,J,rfl,⟨_,x,rfl,I.hok.fresh (cU _),rfl,fun zs hz=>by rw[I.list_inj hz hq1];exact hx⟩,⟨⟨u,by simpa using b1⟩,a3.extBut b2.extBut hne.symm⟩,fun b hb=>?_⟩
  rw[zc]
  ·exact (hf b hb).1
  ·obtain⟨o,q,_⟩:=(show ∃o,s.heap.get? b=some o∧True from by
    simp only[cY,bq,af] at hb
    obtain⟨o1,e1,_⟩:=h4
    rcases hb with rfl|rfl
    ·exact⟨_,h1,trivial⟩
    ·exact⟨_,e1,trivial⟩)
   exact bx (cV q)
 done:=by
  intro X hP hw hK hc i pins s σ H E I hf st hg
  subst hP hw hK
  obtain⟨xs,hq1,hl⟩:=hg
  obtain⟨its1,rv1,p1,hz1⟩:=I.list hq1
  obtain⟨⟨old,h1⟩,h4⟩:=st
  have e1:=rv1.length
  refine wpAny_pyNext_enum_end (I.ok.hd hc) h1 h4 p1.isList (by simp;omega) fun h' hk=>⟨rfl,?_⟩
  exact I.turnL (t':=s.toks) (ch:=[e,it]) (fun b o hb q=>by
   simp only[cY,bq,af,not_or] at hb
   exact hk b o hb.2 q) hf
 self:=fun A i s Q E st h=>by
  obtain⟨⟨old,h1⟩,h4⟩:=st
  exact wpAny_pyIter_enum h1 h
section
variable {X:Cx}{α:Ev}{elts:List Expr}{kk:Nat}{tp p pos:Pos}{a b:Expr}
def eJ (K:PySem.W.Frag)(ta:TA):TI:=fun σ H R=>ta σ H fun vs H1=>∃l,vs=[.ref l]∧(∃xs,SqL K H1 l xs)∧R (Ite K l) H1
theorem jK {ta:TA}(hg:Gl X "enumerate")(hm:X.mg "enumerate"=none)(ha:PA X [a] ta)(hs:starEach [a] X.env=[(false,eval a X.env)]:=by rfl):
  PI X (.Tuple elts kk tp) (.Call (.Name "enumerate" p) [a] [] pos) (eJ X.K ta):=by
 intro pins s σ H R I h
 refine Call_ (wW I hg hm boot_enumerate (aF (thn (ha pos pins s σ H _ I h) fun us s1 ⟨vs,H1,I1,r1,q1⟩=>?_) hs rfl))
 obtain⟨l1,e,⟨xs,hq1⟩,q⟩:=q1
 subst e
 obtain⟨u,rfl,ru⟩:=Vals.one r1
 cases (show u=Value.ref l1 from ru)
 obtain⟨its1,rv1,p1,hz1⟩:=I1.list hq1
 refine call_enumerate_list p1.isList fun h' z1 z4 z6 hk=>?_
 refine wpAny_pyIter_enum (s:={s1 with heap:=h'}) z1 ?_
 refine⟨_,_,_,_,H1,rfl,I1.kept (t':=s1.toks) fun b o e=>hk b o e,nD (cO (a:=s1.heap.objs.size+1) (b:=s1.heap.objs.size) (za0 _)),⟨⟨_,z1⟩,z4⟩,fun b hb=>?_,q⟩
 simp only[cY,bq,af] at hb
 have hb':s1.heap.objs.size≤b:=by
  have key:∀n b:Nat,n=s1.heap.objs.size→(b=n+1∨b=n)→n≤b:=fun n b _ h=>by omega
  exact key _ _ rfl hb
 exact I1.fpOk hb' (I1.hok.fresh hb')
def vi (n:Nat):List PyData→List PyData
 |[]=>[]
 |d::ds=>.tuple [.int n,d]::vi (n+1) ds
theorem xW :∀{ds:List PyData} {n i:Nat} {d:PyData},(vi n ds)[i]?=some d→∃e,ds[i]?=some e∧d=.tuple [.int ((n+i:Nat):Int),e]
 |[],n,i,d,h=>by simp[vi] at h
 |e::ds,n,0,d,h=>by simp[vi] at h;exact⟨e,rfl,by simp[←h]⟩
 |e::ds,n,i+1,d,h=>by
  simp only[vi,zb2] at h
  obtain⟨e',h1,h2⟩:=xW h
  exact⟨e',by simpa using h1,by rw[h2,Nat.add_assoc,Nat.add_comm 1 i]⟩
theorem xV :∀(ds:List PyData) (n:Nat),(vi n ds).length=ds.length
 |[],_=>rfl
 |_::ds,n=>by simp[vi,xV ds (n+1)]
theorem oj {Q:List PyData→Prop}(hg:Gl X "enumerate")(hm:X.mg "enumerate"=none)(h:EvD X α a fun x=>∃ds,x=.list ds∧Q (vi 0 ds))(hs:starEach [a] X.env=[(false,eval a X.env)]:=by rfl):
  EvI X α (.Tuple elts kk tp) (.Call (.Name "enumerate" p) [a] [] pos) Q:=fun F σ H R m k=>by
 refine⟨_,jK hg hm (zb zi zj hs) hs,?_⟩
 refine h F σ H _ m fun x vx H1 q1 t1 k1 r1=>?_
 obtain⟨ds,rfl,q⟩:=q1
 obtain⟨l1,xs,rfl,g1,g2⟩:=r1.lst_inv
 refine⟨l1,rfl,⟨xs,SqL.of (zh g1).2⟩,k _ _ H1 q t1 k1 fun i H3 p s=>⟨fun d hd=>?_,fun hl=>?_⟩⟩
 ·have s1:=SqL.of (K:=X.K) (zh (s _ _ g1)).2
  obtain⟨e,he,rfl⟩:=xW hd
  obtain⟨x1,hx1,av1⟩:=g2.get he
  refine⟨⟨xs,x1,s1,hx1⟩,fun v H4 y=>?_⟩
  obtain⟨T,x,rfl,hT,rfl,hx⟩:=y
  have hx:=hx _ s1
  rw[hx1] at hx;cases hx
  refine⟨yn hT,fun fr=>?_⟩
  have gs:zm (Gz F α σ H1) (sub p (upd H3 T (.tup [.int i,x1]))):=fun a o e=>by
   obtain⟨z1,z2⟩:=zh (s a o e)
   exact zM z1 (by rw[zc (ze z2 hT)];exact z2)
  refine .tup (zM (fr T _ zd hT) zd) (.cons ?_ (.cons (av1.same gs) .nil))
  rw[Nat.zero_add]
  exact .int _
 ·refine⟨xs,SqL.of (zh (s _ _ g1)).2,?_⟩
  rw[xV,←g2.length] at hl
  exact hl
end
structure Cal (P:Program)(w:World)(K:PySem.W.Frag)(mg:Str→Option Value)(base:Heap)(x:Str)(k:Nat)(φ:List A→(A→Prop)→Prop):Prop where
 ex:∃f fd ps,mg x=some (.ref f)∧PySem.W.keepIn K (.ref f)=true∧Binds K fd ps []∧zo P w K mg base CX0 k f fd ps (spA φ)
section
variable {X:Cx}{α:Ev}{e a b:Expr}{es:List Expr}{pos p:Pos}{Q:PyData→Prop}{k:Nat}{φ:List A→(A→Prop)→Prop}{x:Str}
theorem ub (C:Cal X.prog X.w X.K X.mg X.base x k φ)(hr:zy k X.A)(hg:Gl X x)(h:EvA X α (e::es) fun as=>φ as fun a=>Q a.d)
  (hdb:(x == ("__debug__":Str))=false:=by decide) (he:starEach (e::es) X.env=(false,eval e X.env)::starEach es X.env:=by rfl) (hpl:(backTo pos (starEach es X.env)).any (·.1)=false:=by rfl):EvD X α (.Call (.Name x p) (e::es) [] pos) Q:=by
 obtain⟨f,fd,ps,h1,h2,h3,h4⟩:=C.ex
 exact jz h4 hr hg h1 h2 h3 h hdb he hpl
theorem tL {Q:List PyData→Prop}(C:Cal X.prog X.w X.K X.mg X.base x k φ)(hr:zy k X.A)(hg:Gl X x)(h:EvA X α (e::es) fun as=>φ as fun a=>∃ds,a=.own ds∧Q ds)
  (hdb:(x == ("__debug__":Str))=false:=by decide) (he:starEach (e::es) X.env=(false,eval e X.env)::starEach es X.env:=by rfl) (hpl:(backTo pos (starEach es X.env)).any (·.1)=false:=by rfl):EvL X α (.Call (.Name x p) (e::es) [] pos) Q:=by
 obtain⟨f,fd,ps,h1,h2,h3,h4⟩:=C.ex
 exact jD h4 hr hg h1 h2 h3 h hdb he hpl
end
section
variable {P:Program}{w:World}{K:PySem.W.Frag}{mg:Str→Option Value}{base:Heap}
theorem uw {x qual:Str}{st:Stmt}{f:Addr}{fd:FuncData}{N ps:List Str}{k:Nat}{φ:List A→(A→Prop)→Prop}(G:Fun K x qual st f fd)(hm:mg x=some (.ref f))(hb:Binds K fd ps [])(S:zg N ps (za st))(hlen:∀as Q,φ as Q→as.length=ps.length)
  (hbody:∀(cdv:Value) (A':Around) (outer:List Env) (s:Shared) (H:Hp) (E:XK) (as:List A) (Q:A→Prop),zy k (A'.deeper (envOfC qual (za st) s.heap.objs.size f cdv))→φ as Q→
   SvS (yB CX0 P w K mg base N qual (za st) f cdv A' outer s H E).nox (as.map some++List.replicate (N.length-as.length) none) (zr st) {nx:=fun _=>Q (.dat .none),rt:=Q}):Cal P w K mg base x (k+1) φ:=
 ⟨f,fd,ps,hm,G.kp,hb,fnA G S hlen hbody⟩
def xp :List A→(A→Prop)→Prop:=fun as Q=>∃n:Int,as=[.tape,.dat (.int n)]∧0<n∧n<big∧∀v,0≤v→v<n→Q (.dat (.int v))
theorem jo {f:Addr}{fd:FuncData}{x:Str}(hm:mg x=some (.ref f))(hk:PySem.W.keepIn K (.ref f)=true)(hb:Binds K fd ["_law_tape_here","_law_many"] [])(G:zo P w K mg base CX0 1 f fd ["_law_tape_here","_law_many"] kh):Cal P w K mg base x 1 xp:=by
 refine⟨f,fd,_,hm,hk,hb,G.imp fun vs H Q E h=>?_⟩
 obtain⟨F,as,Q',rfl,t,o,rv,⟨n,rfl,h0,h1,hq⟩,kk⟩:=h
 cases rv with
 |cons a1 r=>
  obtain⟨ta,b,c,e,rfl⟩:=a1
  obtain⟨v,rfl,av⟩:=r.one
  cases av.int_inv
  refine⟨ta,b,c,n,rfl,(t ta b c e).1,h0,h1,fun z H' z0 z1 TA off=>kk _ _ _ (hq z z0 z1) ⟨⟨(by
   obtain⟨_,_,_,_,e1,e2,_⟩:=(t ta b c e).1.ex
   exact iw t.tab e1 e2 off),t.ot,fun t' b' c' e'=>?_⟩,fun y u hy n=>?_,.int z⟩⟩
  ·rw[e] at e';cases e'
   exact⟨TA,(t ta b c e).2⟩
  ·rw[off y (n.1 _ _ _ e).1 (n.1 _ _ _ e).2];exact hy
theorem M.tape {H:Hp}{t b c:Addr}{α:Ev}{σ:St}(T:yg H t b c)(TB:TabAt H)(hl:α.length=σ.length)(h:∀(i:Nat) a,α[i]?=some (some a)→a=.tape∧σ[i]?=some (some (.ref t))):M ⟨H,fun x=>x=t∨x=b∨x=c∨ug x,some (t,b,c)⟩ α σ H:=by
 refine⟨hl,fun i a s e1 e2=>?_,fun i j a b s u x e1 _ _ _ f=>?_,fun i r q e=>?_,⟨TB,fun x z=>.inr (.inr (.inr z)),fun t' b' c' e=>?_⟩,fun _ _ e _=>e,fun x hx=>?_⟩
 ·obtain⟨rfl,z⟩:=h i a e1
  rw[z] at e2;cases e2
  exact⟨t,b,c,rfl,rfl⟩
 ·obtain⟨rfl,_⟩:=h i a e1
  exact f.elim
 ·cases (h i _ e).1
 ·cases e
  exact⟨T,.inl rfl,.inr (.inl rfl),.inr (.inr (.inl rfl))⟩
 ·obtain⟨n,bs,cs,_,e1,e2,e3,_⟩:=T.ex
  rcases hx with rfl|rfl|rfl|z
  ·exact⟨_,e1,yu⟩
  ·exact⟨_,e2,yu⟩
  ·exact⟨_,e3,yu⟩
  ·obtain⟨o,h1,h2,_⟩:=tw TB z
   exact⟨o,h1,h2⟩
theorem cD {st:Stmt}{f fT:Addr}{fd fdT:FuncData}{N':List Str}{k:Nat}{p1 p2 p3 p4 p5:Pos}{rest:List Stmt}(G:Fun K "law" "law" st f fd)(S:zg ("_law_script"::"_law_tape_here"::N') ["_law_script"] (za st))
  (GT:zo P w K mg base CX0 1 fT fdT ["_law_script"] (qU K)) (mT:mg "_law_tape"=some (.ref fT)) (kT:PySem.W.keepIn K (.ref fT)=true) (bT:Binds K fdT ["_law_script"] [])
  (hb:zr st=.Assign [.Name "_law_tape_here" p1] (.Call (.Name "_law_tape" p2) [.Name "_law_script" p3] [] p4) p5::rest) (hgl:(za st).names.lookup ("_law_tape":Str)=some .globalImplicit) (hl:Loc (za st) "_law_tape_here") (hv:Vis (za st) "_law_script")
  (hbody:∀(cdv:Value) (A':Around) (outer:List Env) (s:Shared) (H:Hp) (E:XK),zy (k+1) (A'.deeper (envOfC "law" (za st) s.heap.objs.size f cdv))→
   SvS (yB CX0 P w K mg base ("_law_script"::"_law_tape_here"::N') "law" (za st) f cdv A' outer s H E).nox (none::some .tape::List.replicate N'.length none) rest {nx:=fun _=>False,rt:=fun a=>a=.dat (.bool true)}):
  zo P w K mg base CX0 (k+1+1) f fd ["_law_script"] (sR K):=by
 refine G.ok S (fun vs H Q E h=>?_) (fun cdv A' outer s H vs Qc E hr h=>?_)
 ·obtain⟨a,ns,rfl,_⟩:=h
  rfl
 ·obtain⟨a,ns,rfl,hS,hn,tb,kk⟩:=h
  rw[hb]
  refine zE (fun σ H1=>∃t b c,yg H1 t b c∧TabAt H1∧σ=some (.ref a)::some (.ref t)::List.replicate N'.length none)
   ⟨_,xF (i:=1) S.nd rfl hl (zB GT (hr.mono (by omega)) hgl mT kT bT .nil zH (zb (xk (i:=0) rfl hv) zj)) (hf:=.inl rfl),?_⟩ ?_
  ·refine⟨.ref a,rfl,a,ns,rfl,hS,hn,fun t b c H' T _ _ _ sm=>⟨t,b,c,T,mM tb sm,?_⟩⟩
   show ((L2.start ("_law_script"::"_law_tape_here"::N') [.ref a]).set 1 (some (.ref t)))=_
   unfold L2.start
   simp[List.replicate_succ]
  ·rintro σ H1 ⟨t,b,c,T,TB,rfl⟩
   refine hbody cdv A' outer s H E hr ⟨H1,fun x=>x=t∨x=b∨x=c∨ug x,some (t,b,c)⟩ _ H1 _ (M.tape T TB (by simp) fun i z e=>?_) ⟨fun _ _ _ _ z=>z.elim,fun z v H' r e=>?_,fun _ _ _ _ z=>z.elim,fun _ _ _ _ z=>z.elim⟩
   ·cases i with
    |zero=>simp at e
    |succ i=>
     cases i with
     |zero=>simp at e;subst e;exact⟨rfl,rfl⟩
     |succ i=>
      simp only[zb2,aD] at e
      split at e<;>cases e
   ·cases e
    obtain⟨_,_,r⟩:=r
    rw[AV.bl_inv r]
    exact kk H'
end
section
variable {Y:Addr→Shared→Hp→List Addr→Cx}{pat:Pat}{ifs:List Expr}{elt:Expr}{α0:Ev}
theorem vc {ds acc:List PyData}{Q:List PyData→Prop}(P:Nat→List PyData→Prop)(h0:P 0 acc)
  (hs:∀i d acc,ds[i]?=some d→P i acc→∃α1,pat.bind d α0=some α1∧∀C s2 H2 fp,jg (Y C s2 H2 fp) α1 ifs fun k=>if k=true then ∀C s2 H2 fp,EvD (Y C s2 H2 fp) α1 elt fun y=>P (i+1) (acc++[y]) else P (i+1) acc)
  (hd:∀acc,P ds.length acc→Q acc):yK Y pat ifs elt α0 ds acc Q:=by
 have key:∀n i acc,n=ds.length-i→i≤ds.length→P i acc→yK Y pat ifs elt α0 (ds.drop i) acc Q:=by
  intro n
  induction n with
  |zero=>
   intro i acc hn hi p
   have e:i=ds.length:=by omega
   subst e
   rw[zb4]
   exact hd acc p
  |succ n ih=>
   intro i acc hn hi p
   have hlt:i<ds.length:=by omega
   rw[aP hlt]
   obtain⟨α1,e,b⟩:=hs i ds[i] acc (bH hlt) p
   refine⟨α1,e,fun C s2 H2 fp F σ H R m kk=>b C s2 H2 fp F σ H R m fun k H' q=>kk k H' ?_⟩
   cases k with
   |true=>
    rw[if_pos rfl] at q ⊢
    exact fun C s2 H2 fp=>(q C s2 H2 fp).imp fun y p=>ih (i+1) _ (by omega) hlt p
   |false=>
    rw[if_neg (by decide)] at q ⊢
    exact ih (i+1) _ (by omega) hlt q
 exact key _ 0 acc rfl (bz _) h0
theorem qT {ds acc:List PyData}{Q:List PyData→Prop}(p:PyData→Bool)(f:PyData→PyData)
  (hs:∀d∈ds,∃α1,pat.bind d α0=some α1∧(∀C s2 H2 fp (Q:Bool→Prop),Q (p d)→jg (Y C s2 H2 fp) α1 ifs Q)∧(p d=true→∀C s2 H2 fp (Q:PyData→Prop),Q (f d)→EvD (Y C s2 H2 fp) α1 elt Q))
  (hd:Q (acc++(ds.filter p).map f)):yK Y pat ifs elt α0 ds acc Q:=by
 induction ds generalizing acc with
 |nil=>
  show Q acc
  simpa using hd
 |cons d ds ih=>
  obtain⟨α1,e,h1,h2⟩:=hs d bp
  refine⟨α1,e,fun C s2 H2 fp=>h1 C s2 H2 fp _ ?_⟩
  have ih':=fun acc=>ih (acc:=acc) fun d hd=>hs d (ba _ hd)
  cases hp:p d with
  |true=>
   rw[if_pos rfl]
   refine fun C s2 H2 fp=>h2 hp C s2 H2 fp _ (ih' _ ?_)
   simpa[List.filter_cons,hp] using hd
  |false=>
   rw[if_neg (by decide)]
   refine ih' _ ?_
   simpa[List.filter_cons,hp] using hd
end
theorem iN {ds:List PyData}{v:Int}(h0:0≤v)(h1:v<ds.length):∃d,d∈ds∧atI ds v=some d:=by
 obtain⟨j,rfl⟩:=Int.eq_ofNat_of_zero_le h0
 have hj:j<ds.length:=by omega
 exact⟨ds[j],List.getElem_mem hj,tQ (bH hj)⟩
theorem qP (st:Stmt)(env:Env):execs [st] env=exec st env:=by
 rw[PySem.execs_cons]
 have:(fun f:Flow=>(match f with|.next=>execs [] env|f=>pure f:Sem Flow))=pure:=by
  funext f
  cases f<;>rfl
 exact (congrArg (fun g=>exec st env >>= g) this).trans (bind_pure _)
section
variable {X:Cx}{α:Ev}{e a b c:Expr}{es rest:List Expr}{pos p:Pos}{Q:PyData→Prop}{E:yA}{st:Stmt}{sts sts':List Stmt}
theorem vd (P:Ev→Prop)(h1:SvS X α [st] {E with nx:=P})(h2:∀α',P α'→SvS X α' sts E):SvS X α (st::sts) E:=fun F σ H D m r=>by
 refine zE (fun σ' H'=>∃α',M F α' σ' H'∧P α') ?_ ?_
 ·obtain⟨t,p,q⟩:=h1 F σ H {D with nx:=fun σ' H'=>∃α',M F α' σ' H'∧P α'} m ⟨fun α' σ' H' m' z=>⟨α',m',z⟩,r.rt,r.bk,r.ct⟩
  exact⟨t,fun pins s σ H D I h=>(by
   have:=p pins s σ H D I h
   rw[qP] at this
   exact this),q⟩
 ·rintro σ' H' ⟨α',m',z⟩
  exact h2 α' z F σ' H' D m' r
theorem lF {c:Prop}[Decidable c]{a b:List Stmt}(h1:c→SvS X α a E)(h2:¬c→SvS X α b E):SvS X α (if decide c=true then a else b) E:=by
 by_cases h:c
 ·rw[bY h];exact h1 h
 ·rw[bL h];exact h2 h
theorem xR {k:Bool}{a b:List Stmt}(h1:k=true→SvS X α a E)(h2:k=false→SvS X α b E):SvS X α (if k=true then a else b) E:=by
 cases k with
 |true=>exact h1 rfl
 |false=>exact h2 rfl
theorem pq {i j:Str}:Cmp rEq (.str i) (.str j) (decide (i=j)):=fun p H vx vy R rx ry h=>by
 cases rx.str_inv;cases ry.str_inv
 refine⟨rfl,?_⟩
 rw[show decide (V.str i=V.str j)=decide (i=j) by simp]
 exact h
theorem gX {op:CmpOp}{r:R2}(ho:OpR X (compareOp op) r)(hm:behindInMarks op b=false)(h:EvD X α a fun x=>EvD X α b fun y=>∃k,Cmp r x y k∧Q (.bool k)):EvD X α (.Compare a [op] [b] pos) Q:=fun F σ H R m k=>by
 refine⟨_,yO ho zi zi hm,?_⟩
 refine h F σ H _ m fun x vx H1 q1 t1 k1 r1=>?_
 have m1:=m.kz k1 t1
 refine q1 F σ H1 _ m1 fun y vy H2 q2 t2 k2 r2=>?_
 obtain⟨b,hc,q⟩:=q2
 exact hc _ H2 vx vy _ (r1.same (k2.gz m1.tp)) r2 (k _ _ H2 q t2 (k1.trans k2) (.bl b))
theorem fh {Q:Bool→Prop}(h:EvD X α a fun x=>EvD X α b fun y=>∃i j,x=.str i∧y=.str j∧Q (decide (i=j))):EvT X α (.Compare a [.Eq] [b] pos) Q:=
 vG xI (zu _) (h.imp fun x h=>h.imp fun y ⟨i,j,e1,e2,q⟩=>⟨_,by subst e1 e2;exact pq,q⟩)
theorem iJ {p q:Bool}{Q:Bool→Prop}(ha:∀Q:Bool→Prop,Q p→EvT X α a Q)(hb:p=true→∀Q:Bool→Prop,Q q→EvW X α (.BoolOp .And (b::rest) pos) Q)(k:Q (p&&q)):EvW X α (.BoolOp .And (a::b::rest) pos) Q:=by
 refine lK (ha _ ?_)
 cases p with
 |true=>rw[if_pos rfl];exact hb rfl _ (by simpa using k)
 |false=>rw[if_neg (by decide)];simpa using k
end
structure NbT (mg:Str→Option Value):Prop where
 abs:mg "abs"=none
 list:mg "list"=none
 len:mg "len"=none
 range:mg "range"=none
 min:mg "min"=none
 max:mg "max"=none
 sorted:mg "sorted"=none
 isinstance:mg "isinstance"=none
 int:mg "int"=none
 bool:mg "bool"=none
 str:mg "str"=none
 tuple:mg "tuple"=none
 all:mg "all"=none
 any:mg "any"=none
 repr:mg "repr"=none
 zip:mg "zip"=none
 enumerate:mg "enumerate"=none
 reversed:mg "reversed"=none
 sum:mg "sum"=none
theorem xJ {X:Cx}{K:PySem.W.Frag}{es:List Expr}{k:Nat}{t:TGs}{n:Nat}{pos:Pos}(hK:X.K=K)(hc:X.calm=true)(h:PGs X es t)
  (hn:(assignEach es X.env).length=n:=by rfl) (hst:(assignEach es X.env).findIdx? (·.1)=none:=by rfl):PG X (.Tuple es k pos) (fb K n t):=by
 subst hK
 exact gP hc h hn hst
end L2
namespace SortA
open PySem PySem.W PyProof.Rows
abbrev g (p:Array Nat)(i:Nat):Nat:=p.getD i 0
variable {lt:Nat→Nat→Bool}
end SortA
namespace SortA
open PySem PySem.W PyProof.Rows
end SortA
namespace L2
open PySem PySem.Spec PySem.Calls PySem.W PyProof.Rows SortA
section
variable {prog:Program}{w:World}{A:Around}{E:Value→Shared→Prop}{s:Shared}
end
section
variable {X:Cx}{pins:List (Addr×Obj)}{σ:St}{H H':Hp}{s:Shared}
end
end L2
namespace Days
end Days
namespace L2
open PySem PySem.Spec PyProof.Rows Days
section
variable {X:Cx}{α:Ev}{e a b c tg:Expr}{pos p:Pos}{Q:PyData→Prop}{E:yA}{sts:List Stmt}
end
section
variable {X:Cx}{α:Ev}{tg:Expr}{pos p:Pos}{E:yA}{sts body:List Stmt}
def noE :Ev→Bool
 |[]=>true
 |some (.exc _ _)::_=>false
 |_::r=>noE r
end
def isNone :PyData→Bool
 |.none=>true
 |_=>false
theorem DV.non_iff {H:Hp}{x:V}{d:PyData}(h:DV H x d):decide (x=.non)=isNone d:=by
 cases h<;>simp[isNone]
abbrev eqS (d:PyData)(s:Str):Bool:=PyData.eqv d (.str s)
abbrev we :PyData→Bool:=zR 0 1000000000000
def ue :PyData→Bool
 |.tuple [.int m,f]=>zR 2 14 (.int m)&&zR 1 (m-1) f
 |_=>false
def zv (w v:PyData):Bool:=
 if eqS w "price"=true then isNone v||we v
 else if (eqS w "come"||eqS w "go")=true then isBool v
 else if (eqS w "least"||eqS w "most")=true then zR 1 14 v
 else if eqS w "deal"=true then isNone v||ue v
 else eqS w "fee"&&we v
def yT :PyData→Bool
 |.tuple [w,a,b,v]=>zV (.tuple [a,b])&&zv w v
 |_=>false
abbrev words :List Str:=["price","come","go","least","most","deal","fee"]
theorem qE {x:Str}(h:(PyData.str x).canLay0=true):SeqAt.shaped (.str x)=true:=by
 unfold SeqAt.shaped
 rw[h]
 rfl
def oE :Sp:=fun vs H Q _=>∃x y dw dv,vs=[x,y]∧DV H x dw∧SeqAt.shaped dw=true∧DV H y dv∧Q (.bl (zv dw dv)) H
def mL :Sp:=fun vs H Q _=>∃x d,vs=[x]∧DV H x d∧SeqAt.shaped d=true∧∀H',zm H H'→Q (.bl (yT d)) H'
theorem tV {ds:List PyData}(h:SeqAt.shaped (.tuple ds)=true):∀d∈ds,SeqAt.shaped d=true:=by
 unfold SeqAt.shaped at h
 rw[bu,bZ] at h
 obtain⟨h1,h2⟩:=h
 simp only[PyData.canLay0] at h1
 simp only[PyData.depth] at h2
 have key:∀(ds:List PyData),PyData.canLayAll0 ds=true→PyData.depthAll ds+1≤64→∀d∈ds,SeqAt.shaped d=true:=by
  intro ds
  induction ds with
  |nil=>intro _ _ d hd;simp at hd
  |cons e r ih=>
   intro a b d hd
   simp only[PyData.canLayAll0,bu] at a
   simp only[PyData.depthAll] at b
   rcases cY.mp hd with z|z
   ·subst z
    unfold SeqAt.shaped
    rw[a.1,aq,bZ]
    omega
   ·exact ih a.2 (by omega) d z
 exact key ds h1 (by omega)
def xy (x y z:V):List (Str×V):=yJ "worth" z (yJ "last" y (yJ "first" x []))
theorem jl :¬(("worth":Str)="last"):=by decide +kernel
theorem lE :¬(("worth":Str)="first"):=by decide +kernel
theorem mQ :¬(("last":Str)="first"):=by decide +kernel
theorem uk (x y z:V):(xy x y z).lookup ("first":Str)=some x:=by
 unfold xy
 rw[zD,if_neg (fun e=>lE e.symm),zD,if_neg (fun e=>mQ e.symm),zD,if_pos rfl]
theorem uF (x y z:V):(xy x y z).lookup ("last":Str)=some y:=by
 unfold xy
 rw[zD,if_neg (fun e=>jl e.symm),zD,if_pos rfl]
theorem qo (x y z:V):(xy x y z).lookup ("worth":Str)=some z:=by
 unfold xy
 rw[zD,if_pos rfl]
theorem iz (x y z:V){m:Str}(h1:¬m="worth")(h2:¬m="last")(h3:¬m="first"):(xy x y z).lookup m=none:=by
 unfold xy
 rw[zD,if_neg h1,zD,if_neg h2,zD,if_neg h3]
 rfl
structure Cs where
 price:Addr
 come:Addr
 go:Addr
 least:Addr
 most:Addr
 deal:Addr
 fee:Addr
def Cs.of (c:Cs)(w:Str):Addr:=
 if w="price" then c.price else if w="come" then c.come else if w="go" then c.go else if w="least" then c.least else if w="most" then c.most else if w="deal" then c.deal else c.fee
structure yQ (K:PySem.W.Frag)(C fI fT fE fW:Addr):Prop where
 cl:Cls K C
 nf:yf K C "first"
 nl:yf K C "last"
 nw:yf K C "worth"
 makes:Mk K C fI
 told:Meth K C "told" fT
 tells:Meth K C "tells" fE
 word:Meth K C "word" fW
def fv (C:Addr):Sp:=fun vs H Q _=>∃(p dx:Addr) (x y z:V),vs=[.ref p,x,y,z]∧H p=some (.ins C dx [])∧Q .non (upd H p (.ins C dx (xy x y z)))
def xh (w:Str):Sp:=fun vs H Q _=>∃p,vs=[.ref p]∧Q (.str w) H
def mE (C:Addr)(w:Str):Sp:=fun vs H Q _=>∃(p dx:Addr) (x y z:V),vs=[.ref p]∧H p=some (.ins C dx (xy x y z))∧∀q,H q=none→Q (.ref q) (upd H q (.tup [.str w,x,y,z]))
def pV (C:Addr):Sp:=fun vs H Q _=>∃(p dx:Addr) (a b day:Int) (z:V),vs=[.ref p,.int day]∧H p=some (.ins C dx (xy (.int a) (.int b) z))∧Q (.bl (decide (a≤day)&&decide (day≤b))) H
def kU (cs:Cs):Sp:=fun vs H Q _=>∃(w:Str) (x y z:V),vs=[.str w,x,y,z]∧w∈words∧∀(p dx:Addr) (H':Hp),H' p=some (.ins (cs.of w) dx (xy x y z))→H p=none→zm H H'→Q (.ref p) H'
def sT (cs:Cs):Sp:=fun vs H Q _=>∃x d,vs=[x]∧DV H x d∧SeqAt.shaped d=true∧(yT d=false→∀H',zm H H'→Q .non H')∧
 (∀(r:Addr) (w:Str) (x1 x2 x3:V) (p dx:Addr) (H':Hp),x=.ref r→yT d=true→w∈words→H r=some (.tup [.str w,x1,x2,x3])→H' p=some (.ins (cs.of w) dx (xy x1 x2 x3))→H p=none→zm H H'→Q (.ref p) H')
theorem xl {d:PyData}{s:Str}(h:eqS d s=true):d=.str s:=by
 cases d with
 |str x=>
  have h':(x == s)=true:=h
  rw[eq_of_beq h']
 |_=>simp[PyData.eqv] at h
theorem rp {w v:PyData}(h:zv w v=true):∃s∈words,w=.str s:=by
 unfold zv at h
 split at h
 ·rename_i e;exact⟨"price",by simp[words],xl e⟩
 ·split at h
  ·rename_i e
   rcases (zc2 _ _).mp e with e|e
   ·exact⟨"come",by simp[words],xl e⟩
   ·exact⟨"go",by simp[words],xl e⟩
  ·split at h
   ·rename_i e
    rcases (zc2 _ _).mp e with e|e
    ·exact⟨"least",by simp[words],xl e⟩
    ·exact⟨"most",by simp[words],xl e⟩
   ·split at h
    ·rename_i e;exact⟨"deal",by simp[words],xl e⟩
    ·rw[bu] at h;exact⟨"fee",by simp[words],xl h.1⟩
theorem yM {d:PyData}(h:yT d=true):∃(s:Str) (a b v:PyData),s∈words∧d=.tuple [.str s,a,b,v]:=by
 unfold yT at h
 split at h
 ·rename_i w a b v
  rw[bu] at h
  obtain⟨s,hs,rfl⟩:=rp h.2
  exact⟨s,a,b,v,hs,rfl⟩
 ·cases h
section
variable {X:Cx}
theorem nW :yX X (.builtin "isinstance") (fun xs H Q=>∃x C t b,xs=[x,.ref C]∧xX X.K H x t∧PySem.W.kitOne X.K t (.ref C)=some b∧Q (.bl b) H):=by
 intro pins s σ H xs us Q I r h
 obtain⟨x,C,t,b,rfl,ty,e,q⟩:=h
 obtain⟨u,v,rfl,rx,ry⟩:=Vals.two r
 cases (show v=Value.ref C from ry)
 exact uN I rx ty e fun tk=>⟨.bl b,H,I.tok tk,rfl,q⟩
end
abbrev yV (C:Addr)(fs:List (PyData×PyData)):PyData:=.dict ((.int (C:Nat),.none)::fs)
def vp :List (PyData×PyData)→Str→Option PyData
 |[],_=>none
 |(.str g,d)::r,f=>if f=g then some d else vp r f
 |_::r,f=>vp r f
theorem AVf.get {H:Hp}:∀{fs:List (Str×V)} {ds:List (PyData×PyData)} {f:Str} {d:PyData},AVf H fs ds→vp ds f=some d→∃v,fs.lookup f=some v∧AV H v d
 |_,_,f,d,.nil,e=>by cases e
 |_,_,f,d,.cons (f:=g) h r,e=>by
  rw[bX]
  unfold vp at e
  by_cases z:f=g
  ·subst z
   rw[if_pos rfl] at e
   cases e
   exact⟨_,by simp,h⟩
  ·rw[if_neg z] at e
   have z':(f == g)=false:=by simpa using z
   rw[z']
   exact AVf.get r e
theorem AVf.none {H:Hp}:∀{fs:List (Str×V)} {ds:List (PyData×PyData)} {f:Str},AVf H fs ds→vp ds f=Option.none→fs.lookup f=Option.none
 |_,_,f,.nil,e=>rfl
 |_,_,f,.cons (f:=g) h r,e=>by
  rw[bX]
  unfold vp at e
  by_cases z:f=g
  ·subst z
   rw[if_pos rfl] at e
   cases e
  ·rw[if_neg z] at e
   have z':(f == g)=false:=by simpa using z
   rw[z']
   exact AVf.none r e
theorem AV.ins_inv {H:Hp}{v:V}{C:Addr}{ds:List (PyData×PyData)}(h:AV H v (yV C ds)):∃a dx fs,v=.ref a∧H a=some (.ins C dx fs)∧AVf H fs ds:=by
 generalize e:yV C ds=d at h
 cases h with
 |@ins a C' dx fs ds' h1 h2=>
  injection e with e
  injection e with e1 e2
  have e3:(C:Int)=(C':Int):=by
   have:=congrArg Prod.fst e1
   injection this
  have e4:C=C':=Int.ofNat.inj e3
  subst e4 e2
  exact⟨a,dx,fs,rfl,h1,h2⟩
 |_=>cases e
section
variable {X:Cx}{α:Ev}{o e:Expr}{es:List Expr}{pos apos p:Pos}{Q:PyData→Prop}{C:Addr}{f m:Str}
theorem pd (c:Cls X.K C)(na:yf X.K C f)(h:EvD X α o fun x=>∃fs d,x=yV C fs∧vp fs f=some d∧Q d)(hb:attributeBase o f X.env (eval o X.env)=eval o X.env:=by rfl):EvD X α (.Attribute o f pos) Q:=fun F σ H R m k=>by
 refine⟨_,wX zi hb,?_⟩
 refine h F σ H _ m fun x vx H1 q1 t1 k1 r1=>?_
 obtain⟨fs,d,rfl,hf,q⟩:=q1
 obtain⟨a,dx,gs,rfl,h1,h2⟩:=r1.ins_inv
 obtain⟨v,hv,av⟩:=h2.get hf
 exact⟨a,C,dx,gs,v,rfl,(zh h1).2,c,na,hv,k d v H1 q t1 k1 av⟩
structure yU (P:Program)(w:World)(K:PySem.W.Frag)(mg:Str→Option Value)(base:Heap)(C:Addr)(m:Str)(k:Nat)(φ:List A→(A→Prop)→Prop):Prop where
 ex:∃f fd ps,Cls K C∧Meth K C m f∧Binds K fd ps []∧zo P w K mg base CX0 k f fd ps (spA φ)
theorem oi {k:Nat}{φ:List A→(A→Prop)→Prop}{pl:Sem Bool}(M':yU X.prog X.w X.K X.mg X.base C m k φ)(hr:zy k X.A)(h:EvD X α o fun x=>∃fs,x=yV C fs∧vp fs m=none∧EvA X α (e::es) fun as=>φ (.dat (yV C fs)::as) fun a=>Q a.d)
  (hst:starEach (e::es) X.env=(false,eval e X.env)::starEach es X.env:=by rfl) (hpl:(backTo pos (starEach es X.env)).any (·.1)=false:=by rfl)
  (ht:eval (.Call (.Attribute o m apos) (e::es) [] pos) X.env=(do
   let ov ←eval o X.env
   standAt apos.atName
   let (f,first) ←holding [ov] (getMethod ov m pl)
   callWith pos f first (backTo pos (starEach (e::es) X.env)) (backToKw pos (keywordEach [] X.env))):=by rfl):EvD X α (.Call (.Attribute o m apos) (e::es) [] pos) Q:=fun F σ H R m' kk=>by
 obtain⟨f,fd,ps,c,hm,hb,G⟩:=M'.ex
 refine⟨_,iI zi c hm G hr hb .nil zH yi hst hpl ht,?_⟩
 refine h F σ H _ m' fun x vx H1 q1 t1 k1 r1=>?_
 obtain⟨fs,rfl,hf,q⟩:=q1
 have m1:=m'.kz k1 t1
 obtain⟨a,dx,gs,rfl,h1,h2⟩:=r1.ins_inv
 refine⟨a,dx,gs,rfl,(zh h1).2,h2.none hf,?_⟩
 refine q F σ H1 _ m1 fun as vs H2 q2 t2 k2 r2=>?_
 have m2:=m1.kz k2 t2
 have cf:=xj (vs:=.ref a::vs) (as:=.dat (yV C fs)::as) (R:=R) (E:=E0) m2 (.cons (r1.same (k2.gz m1.tp)) r2) q2 fun z v H' qa ra=>by
  obtain⟨g1,g2,g3⟩:=ra.back m2
  exact kk _ v H' qa g1 ((k1.trans k2).trans g2) g3
 exact cf
theorem vN {k:Nat}{φ:List A→(A→Prop)→Prop}{pl:Sem Bool}(M':yU X.prog X.w X.K X.mg X.base C m k φ)(hr:zy k X.A)(h:EvD X α o fun x=>∃fs,x=yV C fs∧vp fs m=none∧φ [.dat (yV C fs)] fun a=>Q a.d)
  (ht:eval (.Call (.Attribute o m apos) [] [] pos) X.env=(do
   let ov ←eval o X.env
   standAt apos.atName
   let (f,first) ←holding [ov] (getMethod ov m pl)
   callWith pos f first (backTo pos (starEach [] X.env)) (backToKw pos (keywordEach [] X.env))):=by rfl):EvD X α (.Call (.Attribute o m apos) [] [] pos) Q:=fun F σ H R m' kk=>by
 obtain⟨f,fd,ps,c,hm,hb,G⟩:=M'.ex
 refine⟨_,rJ zi c hm G hr hb .nil zH ht,?_⟩
 refine h F σ H _ m' fun x vx H1 q1 t1 k1 r1=>?_
 obtain⟨fs,rfl,hf,q⟩:=q1
 have m1:=m'.kz k1 t1
 obtain⟨a,dx,gs,rfl,h1,h2⟩:=r1.ins_inv
 refine⟨a,dx,gs,rfl,(zh h1).2,h2.none hf,?_⟩
 have cf:=xj (vs:=[.ref a]) (as:=[.dat (yV C fs)]) (R:=R) (E:=E0) m1 (.cons r1 .nil) q fun z v H' qa ra=>by
  obtain⟨g1,g2,g3⟩:=ra.back m1
  exact kk _ v H' qa g1 (k1.trans g2) g3
 exact cf
def jJ (F:Fr)(v:V)(H':Hp)(d:PyData):Prop:=zA F H'∧Kz F F.H0 H'∧AV (sub (fun x=>¬F.O0 x∧∀xs,F.H0 x≠some (.lst xs)) H') v d
def EvN (X:Cx)(α:Ev)(e:Expr)(Q:PyData→Prop):Prop:=∀(F:Fr) (σ:St) (H:Hp) (R:VK),M F α σ H→(∀d v H',Q d→zA F H'→Kz F H H'→AV (sub (fun x=>¬Ow F α σ x∧∀xs,H x≠some (.lst xs)) H') v d→R v H')→vD X e σ H R
theorem EvN.d (h:EvN X α e Q):EvD X α e Q:=fun F σ H R m k=>h F σ H R m fun d v H' q t z r=>k d v H' q t z (r.same (zk fun a o h e=>⟨h.1,e⟩))
def spI (C:Addr)(φ:List A→(A→Prop)→Prop):Sp:=fun vs H Qc _=>∃(F:Fr) (as:List A) (Q:A→Prop) (x dx:Addr) (vs':List V) (H1:Hp),vs=.ref x::vs'∧H1 x=none∧H1 dx=none∧dx≠x∧H=upd (upd H1 dx (.own x)) x (.ins C dx [])∧
 F.H0=H1∧zA F H1∧(∀y,F.O0 y→∃u,H1 y=some u∧xu u)∧zF F (sub (fun y=>¬F.O0 y) H1) vs' as∧φ as Q∧∀d H',Q (.dat d)→jJ F (.ref x) H' d→Qc .non H'
structure sH (P:Program)(w:World)(K:PySem.W.Frag)(mg:Str→Option Value)(base:Heap)(x:Str)(k:Nat)(dvs:List V)(φ:List A→(A→Prop)→Prop):Prop where
 ex:∃C f fd ps ds,mg x=some (.ref C)∧Mk K C f∧Binds K fd ps ds∧Vals dvs ds∧zo P w K mg base CX0 k f fd ps (spI C φ)
theorem uo {F:Fr}{σ:St}{H:Hp}{vs:List V}{as:List A}{QA:A→Prop}{R:VK}{φ:List A→(A→Prop)→Prop}(m:M F α σ H)(rv:zF F (Gz F α σ H) vs as)(hφ:φ as QA)
  (kk:∀d v H',QA (.dat d)→jJ ⟨H,Ow F α σ,F.tp⟩ v H' d→R v H') {E:XK} (x dx:Addr) (hx:H x=none) (hdx:H dx=none) (hne:dx≠x):spI C φ (.ref x::vs) (upd (upd H dx (.own x)) x (.ins C dx [])) (fun v H2=>v=.non∧R (.ref x) H2) E:=by
 refine⟨⟨H,Ow F α σ,F.tp⟩,as,QA,x,dx,vs,H,rfl,hx,hdx,hne,rfl,rfl,?_,?_,?_,hφ,fun d H' qa ra=>⟨rfl,kk d _ H' qa ra⟩⟩
 ·exact m.tp.to rfl fun _ z=>.inl z
 ·exact fun y z=>m.owEx z
 ·exact zF.to (F:=F) (F':=⟨H,Ow F α σ,F.tp⟩) (fun _ _ e=>e) rfl rv
theorem jJ.back {F:Fr}{σ:St}{H H1 H':Hp}{v:V}{d:PyData}(m:M F α σ H)(k1:Kz F H H1)(h:jJ ⟨H1,Ow F α σ,F.tp⟩ v H' d):zA F H'∧Kz F H1 H'∧AV (sub (fun x=>¬Ow F α σ x∧∀xs,H x≠some (.lst xs)) H') v d:=by
 obtain⟨t,kz,r⟩:=h
 refine⟨m.tp.re t rfl,kz,r.same (zk fun a o h e=>⟨⟨h.1,fun xs z=>h.2 xs (k1 _ _ z (m.tp.nt (ow0 h.1)))⟩,e⟩)⟩
theorem ie {k:Nat}{φ:List A→(A→Prop)→Prop}{x:Str}(M':sH X.prog X.w X.K X.mg X.base x k [] φ)(hr:zy (k+1) X.A)(hg:Gl X x)(h:EvA X α (e::es) fun as=>φ as fun a=>Q a.d)
  (hdb:(x == ("__debug__":Str))=false:=by decide) (he:starEach (e::es) X.env=(false,eval e X.env)::starEach es X.env:=by rfl) (hpl:(backTo pos (starEach es X.env)).any (·.1)=false:=by rfl):EvN X α (.Call (.Name x p) (e::es) [] pos) Q:=fun F σ H R m kk=>by
 obtain⟨C,f,fd,ps,ds,hm,hk,hb,hd,G⟩:=M'.ex
 cases hd
 refine⟨_,yL hk G hr hg hm hb .nil zH yi hdb he hpl,?_⟩
 refine h F σ H _ m fun as vs H1 q1 t1 k1 r1=>?_
 have m1:=m.kz k1 t1
 intro y dx hy hdx hne
 rw[bQ]
 refine uo m1 r1 q1 (fun d v H' qa ra=>?_) y dx hy hdx hne
 obtain⟨g1,g2,g3⟩:=ra.back m k1
 exact kk d v H' qa g1 (k1.trans g2) g3
theorem sI {k:Nat}{φ:List A→(A→Prop)→Prop}{x:Str}(M':sH X.prog X.w X.K X.mg X.base x k [.non] φ)(hr:zy (k+1) X.A)(hg:Gl X x)(h:φ [.dat .none] fun a=>Q a.d)(hdb:(x == ("__debug__":Str))=false:=by decide):EvN X α (.Call (.Name x p) [] [] pos) Q:=fun F σ H R m kk=>by
 obtain⟨C,f,fd,ps,ds,hm,hk,hb,hd,G⟩:=M'.ex
 refine⟨_,ki hk G hr hg hm hb hd zH hdb,?_⟩
 intro y dx hy hdx hne
 refine uo (vs:=[.non]) (as:=[.dat .none]) m (.cons .non .nil) h (fun d v H' qa ra=>?_) y dx hy hdx hne
 obtain⟨g1,g2,g3⟩:=ra.back m Kz.refl
 exact kk d v H' qa g1 g2 g3
end
structure qf (K:PySem.W.Frag)(x qual:Str)(st:Stmt)(dV:Value)(f:Addr)(fd:FuncData):Prop where
 ex:∃(oc:Value) (od:Option Addr) (kV doc pm:Value) (an:Option Addr) (cdv ct:Value) (osl:Array (Option Value)),
  fd=PySem.W.fnOf x qual (zS st) (zr st) (za st) dV kV doc pm an cdv ct∧K.lookup f=some ⟨oc,od,.func fd,osl⟩∧PySem.W.codeIn K cdv qual=true
 kp:PySem.W.keepIn K (.ref f)=true
theorem pP {K:PySem.W.Frag}{x qual:Str}{st:Stmt}{f:Addr}{oc:Value}{od an:Option Addr}{osl:Array (Option Value)}{dV kV doc pm cdv ct:Value}(l:K.lookup f=some ⟨oc,od,.func (PySem.W.fnOf x qual (zS st) (zr st) (za st) dV kV doc pm an cdv ct),osl⟩)
  (c:PySem.W.codeIn K cdv qual=true) (k:PySem.W.keepIn K (.ref f)=true):qf K x qual st dV f (PySem.W.fnOf x qual (zS st) (zr st) (za st) dV kV doc pm an cdv ct):=⟨⟨oc,od,kV,doc,pm,an,cdv,ct,osl,rfl,l,c⟩,k⟩
section
variable {P:Program}{w:World}{K:PySem.W.Frag}{mg:Str→Option Value}{base:Heap}
theorem eF {qual:Str}{st:Stmt}{f C:Addr}{dV:Value}{fd:FuncData}{N:List Str}{x:Str}{k:Nat}{φ:List A→(A→Prop)→Prop}{fl:Str}{e:Expr}{p1 p2 p3:Pos}(G:qf K "__init__" qual st dV f fd)(S:zg ("self"::x::N) ["self",x] (za st))(c:Cls K C)(na:yf K C fl)
  (hb:zr st=[.Assign [.Attribute (.Name "self" p1) fl p2] e p3]) (hlen:∀as Q,φ as Q→as.length=1)
  (hbody:∀(cdv:Value) (A':Around) (outer:List Env) (s:Shared) (H:Hp) (E:XK) (as:List A) (Q:A→Prop),zy k (A'.deeper (envOfC qual (za st) s.heap.objs.size f cdv))→φ as Q→
   EvL (yB CX0 P w K mg base ("self"::x::N) qual (za st) f cdv A' outer s H E).nox (none::as.map some++List.replicate N.length none) e fun ds=>sL ds=true∧Q (.dat (yV C [(.str fl,.list ds)])))
  (hsw:∀(cdv:Value) (A':Around) (outer:List Env) (s:Shared) (H:Hp) (E:XK),swapsWith e (some (.Attribute (.Name "self" p1) fl p2)) p3.line (yB CX0 P w K mg base ("self"::x::N) qual (za st) f cdv A' outer s H E).nox.env=pure false)
  (hv:Vis (za st) "self"):zo P w K mg base CX0 (k+1) f fd ["self",x] (spI C φ):=by
 obtain⟨oc,od,kV,doc,pm,an,cdv,ct,osl,rfl,lk,hcd⟩:=G.ex
 refine oF lk hcd S (fun vs H Q E h=>?_) fun A' outer s H vs Qc E hr h=>?_
 ·obtain⟨F,as,Q',y,dx,vs',H1,rfl,_,_,_,_,_,_,_,rv,hφ,_⟩:=h
  rw[bj,rv.length,hlen as _ hφ]
  rfl
 ·obtain⟨F,as,Q',y,dx,vs',H1,rfl,hy,hdx,hne,rfl,rfl,t,o,rv,hφ,kk⟩:=h
  have hl:=rv.length
  have hl1:=hlen as _ hφ
  rw[hb]
  refine⟨_,(show PSs _ _ _ from (zl (vI (X:=(yB CX0 P w K mg base ("self"::x::N) qual (za st) f cdv A' outer s (upd (upd F.H0 dx (.own y)) y (.ins C dx [])) E).nox) (xk (i:=0) rfl hv) zi (hsw cdv A' outer s _ E))).nox),?_⟩
  let F2:Fr:=⟨F.H0,fun z=>F.O0 z∨z=y∨z=dx,F.tp⟩
  have s1:zm F.H0 (upd (upd F.H0 dx (.own y)) y (.ins C dx [])):=fun a u q=>by
   rw[zc (ze q hy),zc (ze q hdx)];exact q
  have noy:¬F.O0 y:=fun z=>by obtain⟨u,hu,_⟩:=o y z;rw[hy] at hu;cases hu
  have nodx:¬F.O0 dx:=fun z=>by obtain⟨u,hu,_⟩:=o dx z;rw[hdx] at hu;cases hu
  have t2:zA F2 (upd (upd F.H0 dx (.own y)) y (.ins C dx [])):=(t.same s1).to rfl fun _ z=>.inl z
  -- the names of the body
  have g:∀{i:Nat} {a:A},(none::as.map some++List.replicate N.length none:Ev)[i]?=some (some a)→∃j,i=j+1∧as[j]?=some a:=fun {i a} h=>by
   cases i with
   |zero=>simp at h
   |succ j=>
    refine⟨j,rfl,?_⟩
    have h':(as.map some++List.replicate N.length none:Ev)[j]?=some (some a):=by simpa using h
    rcases Nat.lt_or_ge j as.length with z|z
    ·rw[bo (by rw[cT];exact z),bE,bG] at h'
     obtain⟨b,h1,h2⟩:=h'
     cases h2;exact h1
    ·rw[br (by rw[cT];exact z),aD] at h'
     split at h'<;>cases h'
  have at':∀{vs:List V} {as:List A} {i:Nat} {a:A},zF F (sub (fun x=>¬F.O0 x) F.H0) vs as→as[i]?=some a→∃v,vs[i]?=some v∧oO F (sub (fun x=>¬F.O0 x) F.H0) v a:=by
   intro vs as i a h
   induction h generalizing i with
   |nil=>intro e;simp at e
   |cons h r ih=>
    intro e
    cases i with
    |zero=>simp at e;subst e;exact⟨_,rfl,h⟩
    |succ i=>obtain⟨v,h1,h2⟩:=ih (by simpa using e);exact⟨v,by simpa using h1,h2⟩
  have gv:∀{j:Nat} {v:V},vs'[j]?=some v→(L2.start ("self"::x::N) (.ref y::vs'))[j+1]?=some (some v):=fun {j v} h=>by
   have hj:j<vs'.length:=(cR.mp h).1
   unfold L2.start
   rw[bo (by rw[cT,bj];omega),bE,zb2,h];rfl
  have no:∀(i:Nat) a,(none::as.map some++List.replicate N.length none:Ev)[i]?=some (some a)→(∃d,a=.dat d)∨a=.tape:=fun i a z=>by
   obtain⟨j,_,hj⟩:=g z
   obtain⟨v,_,h⟩:=at' rv hj
   cases a with
   |dat d=>exact .inl ⟨d,rfl⟩
   |tape=>exact .inr rfl
   |_=>exact h.elim
  have gs:zm (sub (fun x=>¬F.O0 x) F.H0) (Gz F2 (none::as.map some++List.replicate N.length none) (L2.start ("self"::x::N) (.ref y::vs')) (upd (upd F.H0 dx (.own y)) y (.ins C dx []))):=fun a u q=>by
   obtain⟨z1,z2⟩:=zh q
   refine zM ?_ (s1 _ _ z2)
   rintro ((z|z|z)|⟨i,b,s,e,_,f⟩)
   ·exact z1 z
   ·rw[z,hy] at z2;cases z2
   ·rw[z,hdx] at z2;cases z2
   ·rcases no i b e with ⟨d,rfl⟩|rfl
    ·exact f.elim
    ·exact f.elim
  have m2:M F2 (none::as.map some++List.replicate N.length none) (L2.start ("self"::x::N) (.ref y::vs')) (upd (upd F.H0 dx (.own y)) y (.ins C dx [])):=by
   refine⟨by unfold L2.start;simp[hl,hl1],fun i a s e1 e2=>?_,fun i j a b s t x e1 _ _ _ f=>?_,fun i r q z=>(by rcases no i _ z with ⟨d,w⟩|w<;>cases w),t2,fun z u h _=>s1 z u h,fun z hz=>?_⟩
   ·obtain⟨j,rfl,hj⟩:=g e1
    obtain⟨v,h1,h2⟩:=at' rv hj
    rw[gv h1] at e2;cases e2
    rcases no _ a e1 with ⟨d,rfl⟩|rfl
    ·exact⟨v,rfl,AV.same gs h2⟩
    ·obtain⟨t',b,c,h3,rfl⟩:=h2
     exact⟨t',b,c,h3,rfl⟩
   ·rcases no i a e1 with ⟨d,rfl⟩|rfl
    ·exact f.elim
    ·exact f.elim
   ·rcases hz with q|q|q
    ·obtain⟨u,hu,hn⟩:=o z q
     exact⟨u,s1 _ _ hu,hn⟩
    ·exact⟨_,by rw[q];exact zd,fun _ q=>by cases q⟩
    ·exact⟨_,by rw[q,zc hne];exact zd,fun _ q=>by cases q⟩
  refine hbody cdv A' outer s _ E as Q' hr hφ F2 _ _ _ m2 fun d v H2 qd t3 k3 r3=>?_
  obtain⟨l,xs,rfl,hl0,hl2,avl⟩:=r3
  obtain⟨nol,qd⟩:=qd
  have nly:l≠y:=fun z=>by rw[z,zd] at hl0;cases hl0
  have nldx:l≠dx:=fun z=>by rw[z,zc hne,zd] at hl0;cases hl0
  have hl00:F.H0 l=none:=by rw[zc nly,zc nldx] at hl0;exact hl0
  have nol0:¬F.O0 l:=fun z=>by obtain⟨u,hu,_⟩:=o l z;rw[hl00] at hu;cases hu
  have nty:NT F2 y:=t.nt noy
  have hy2:H2 y=some (.ins C dx []):=k3 _ _ zd nty
  refine⟨.ref y,rfl,y,C,dx,[],rfl,hy2,c,na,by show 0<1000;decide,?_⟩
  refine kk _ _ qd ⟨(t.re t3 rfl).updO noy (nC hy2),fun z u h n=>?_,?_⟩
  ·rw[zc (ze h hy)]
   exact k3 _ _ (s1 _ _ h) n
  ·refine AV.ins (zM ⟨noy,fun xs z=>by rw[hy] at z;cases z⟩ zd) (.cons (.lst (zM ⟨nol0,fun xs z=>by rw[hl00] at z;cases z⟩ (by rw[zc nly];exact hl2)) ?_) .nil)
   refine avl.noL (fun a u hno z=>?_) nol
   obtain⟨z1,z2⟩:=zh z
   have na:a≠y:=fun w=>z1.1 (.inl (.inr (.inl w)))
   refine zM ⟨fun w=>z1.1 (.inl (.inl w)),fun xs w=>?_⟩ (by rw[zc na];exact z2)
   have:H2 a=some (.lst xs):=k3 _ _ (s1 _ _ w) (t.nt fun w=>z1.1 (.inl (.inl w)))
   rw[z2] at this
   cases this
   exact hno trivial
end
section
variable {X:Cx}{α:Ev}{e e':Expr}{pos:Pos}{E:yA}{sts:List Stmt}
end
def Itv (K:PySem.W.Frag)(a:Addr)(n:Nat):It:=
 ⟨fun i H=>∃xs x,SqL K H a xs∧xs.length=n∧i<n∧xs[n-1-i]?=some x,fun i H x H'=>H'=H∧∀xs,SqL K H a xs→xs[n-1-i]?=some x,fun i H=>n≤i⟩
theorem kL {P:Program}{w:World}{K:PySem.W.Frag}{tg:Expr}(a it:Addr)(n:Nat):Turn P w K tg (Itv K a n) [it] it (fun i h=>i≤n∧h.IsRevIter it a ((n:Int)-1-(i:Int))) where
 mem:=by simp
 obj:=fun i h st b hb=>by
  have e:b=it:=by simpa using hb
  subst e
  obtain⟨_,o,e,c,d⟩:=st
  exact⟨o,e,fun v z=>by rw[d] at z;cases z⟩
 keep:=fun i h h' st k=>⟨st.1,st.2.at fun o e=>k it (by simp) o e⟩
 item:=by
  intro X hP hw hK hc i pins s σ H E I hf st hg
  subst hP hw hK
  obtain⟨xs,x,hq,hl,hi,hx⟩:=hg
  obtain⟨its,rv,p,hz⟩:=I.list hq
  obtain⟨u,hu,ru⟩:=rv.get hx
  obtain⟨f0,f1,f2,f3,f4,f5⟩:=hf it (by simp)
  have e1:((n:Int)-1-(i:Int))=((n-1-i:Nat):Int):=by omega
  have st':=st.2
  rw[e1] at st'
  refine wpAny_pyNext_rev_item st' p.isList (x:=u) (by simpa using hu) fun h' st2 sb=>?_
  have I1:Inv X pins σ H {s with heap:=h'}:=I.turned (t':=s.toks) (fun b o hb e=>(sb.2 b hb).trans e) f0 f1 f3 f4 f5
  obtain⟨o,e,c,d⟩:=id st2
  have e2:(((n-1-i:Nat):Int)-1)=(n:Int)-1-((i+1:Nat):Int):=by omega
  rw[e2] at st2
  exact⟨u,rfl,js (s:={s with heap:=h'}) e c d (by decide) ⟨x,H,I1,ru,⟨rfl,fun ys hy=>by rw[I.list_inj hy hq];exact hx⟩,⟨hi,st2⟩,fun b hb=>(hf b hb).1⟩⟩
 done:=by
  intro X hP hw hK hc i pins s σ H E I hf st hg
  subst hP hw hK
  have hi:i=n:=Nat.le_antisymm st.1 hg
  obtain⟨f0,f1,f2,f3,f4,f5⟩:=hf it (by simp)
  have st':=st.2
  rw[show ((n:Int)-1-(i:Int))=-1 by omega] at st'
  exact wpAny_pyNext_rev_end (I.ok.hd hc) st' fun h' eb=>⟨rfl,I.turned (t':=s.toks) (fun b o hb e=>eb b o hb e) f0 f1 f3 f4 f5⟩
 self:=fun A i s Q E st h=>wpAny_pyIter_revIter st.2 h
section
variable {X:Cx}{α:Ev}{tg:Expr}{p pos:Pos}{a:Expr}
def dZ (K:PySem.W.Frag)(ta:TA):TI:=fun σ H R=>ta σ H fun vs H1=>∃l xs,vs=[.ref l]∧SqL K H1 l xs∧R (Itv K l xs.length) H1
theorem fY {ta:TA}(hg:Gl X "reversed")(hm:X.mg "reversed"=none)(ha:PA X [a] ta)(hs:starEach [a] X.env=[(false,eval a X.env)]:=by rfl):PI X tg (.Call (.Name "reversed" p) [a] [] pos) (dZ X.K ta):=by
 intro pins s σ H R I h
 refine Call_ (wW I hg hm boot_reversed (aF (thn (ha pos pins s σ H _ I h) fun us s1 ⟨vs,H1,I1,r1,q1⟩=>?_) hs rfl))
 obtain⟨l1,xs,e,hq1,q⟩:=q1
 subst e
 obtain⟨u,rfl,ru⟩:=Vals.one r1
 cases (show u=Value.ref l1 from ru)
 obtain⟨its1,rv1,p1,hz1⟩:=I1.list hq1
 have hlen:=rv1.length
 refine call_reversed_list p1.isList ?_
 have it0:({s1 with heap:=s1.heap.push (revObj l1 ((its1.toArray.size:Int)-1))}:Shared).heap.IsRevIter s1.heap.objs.size l1 ((xs.length:Int)-1-((0:Nat):Int)):=by
  refine⟨_,bK _ rfl,rfl,?_⟩
  show Data.fields _=_
  rw[cX,hlen]
  simp
 refine wpAny_pyIter_revIter it0 ?_
 refine⟨_,_,_,_,H1,rfl,I1.kept (t':=s1.toks) fun b o e=>cS _ e,kL l1 _ xs.length,⟨bz _,it0⟩,fun b hb=>?_,q⟩
 have e:b=s1.heap.objs.size:=by simpa using hb
 subst e
 exact I1.fpOk (cU _) (I1.hok.fresh (cU _))
theorem fm {Q:List PyData→Prop}(hg:Gl X "reversed")(hm:X.mg "reversed"=none)(h:EvD X α a fun x=>∃ds,x=.list ds∧Q ds.reverse)(hs:starEach [a] X.env=[(false,eval a X.env)]:=by rfl):
  EvI X α tg (.Call (.Name "reversed" p) [a] [] pos) Q:=fun F σ H R m k=>by
 refine⟨_,fY hg hm (zb zi zj hs) hs,?_⟩
 refine h F σ H _ m fun x vx H1 q1 t1 k1 r1=>?_
 obtain⟨ds,rfl,q⟩:=q1
 obtain⟨l1,xs,rfl,g1,g2⟩:=r1.lst_inv
 refine⟨l1,xs,rfl,SqL.of (zh g1).2,k _ _ H1 q t1 k1 fun i H3 p s=>⟨fun d hd=>?_,fun hl=>?_⟩⟩
 ·have s1:=SqL.of (K:=X.K) (zh (s _ _ g1)).2
  have hi:i<ds.length:=by
   have:=(cR.mp hd).1
   rwa [za5] at this
  rw[List.getElem?_reverse hi] at hd
  obtain⟨x1,hx1,av1⟩:=g2.get hd
  rw[←g2.length] at hx1
  refine⟨⟨xs,x1,s1,rfl,by rw[g2.length];exact hi,hx1⟩,fun v H4 y=>?_⟩
  obtain⟨rfl,hy⟩:=y
  have:=hy _ s1
  rw[hx1] at this;cases this
  exact⟨zm.refl _,fun _=>av1.same s⟩
 ·rw[za5,←g2.length] at hl
  exact hl
end
def EnS (w:World):List DictEntry→List (Str×V)→Prop:=Paired fun e p=>e.hash=hashStr w p.1∧(∃t,e.key=.str p.1 t)∧RelV p.2 e.val
def pO (K:PySem.W.Frag)(w:World)(d:Addr)(tb:List (Str×V)):Prop:=
 ∃es n,K.lookup d=some ⟨.type "dict",none,.dict es n,#[]⟩∧EnS w es.toList tb∧(tb.map (·.1)).Nodup
theorem uT {P:Program}{w:World}:∀{es:List DictEntry} {tb:List (Str×V)},EnS w es tb→Pairs (PySem.strKind P w) es (List.zipWith (fun e (p:Str×V)=>(p.1,e.val)) es tb)
 |_,_,.nil=>.nil
 |e::_,p::_,.cons ⟨_,⟨t,ek⟩,_⟩ r=>.cons (by rw[ek];simp[PySem.strKind,Value.isStrOf]) rfl (uT r)
theorem pG {w:World}:∀{es:List DictEntry} {tb:List (Str×V)},EnS w es tb→(List.zipWith (fun e (p:Str×V)=>(p.1,e.val)) es tb).map (·.1)=tb.map (·.1)
 |_,_,.nil=>rfl
 |_,_,.cons _ r=>by simp only[List.zipWith_cons_cons,aL,pG r]
theorem rj {P:Program}{w:World}:∀{es:List DictEntry} {tb:List (Str×V)},EnS w es tb→∀e∈es,∃k,(PySem.strKind P w).is k e.key=true∧e.hash=(PySem.strKind P w).hash k
 |_,_,.nil,e,he=>by simp at he
 |_,_,.cons (b:=p) ⟨h1,⟨t,ek⟩,_⟩ r,e,he=>by
  rcases cY.mp he with rfl|he
  ·exact⟨p.1,by rw[ek];simp[PySem.strKind,Value.isStrOf],h1⟩
  ·exact rj r e he
theorem pL {w:World}{x:Str}{v:V}:∀{es:List DictEntry} {tb:List (Str×V)},EnS w es tb→tb.lookup x=some v→∃u,valueAt (List.zipWith (fun e (p:Str×V)=>(p.1,e.val)) es tb) x=some u∧RelV v u
 |_,_,.nil,e=>by simp at e
 |e::es,p::tb,.cons ⟨_,_,rv⟩ r,h=>by
  obtain⟨y,z⟩:=p
  by_cases q:x=y
  ·subst q
   simp only[List.lookup_cons_self,Option.some.injEq] at h
   subst h
   exact⟨e.val,by simp[valueAt],rv⟩
  ·rw[bX,aT.mpr q] at h
   obtain⟨u,h1,h2⟩:=pL r h
   refine⟨u,?_,h2⟩
   rw[←h1]
   simp[valueAt,aj,aW q]
section
variable {X:Cx}{α:Ev}{p pos:Pos}{a:Expr}{g:Str}{Q:PyData→Prop}
def gA (i:Expr):Prop:=∀ov iv,subscripted i false ov iv=operate [ov,iv] (getItem ov iv)
theorem cA {prog:Program}{w:World}{A:Around}{E:Value→Shared→Prop}{s:Shared}{env:Env}{value slice:Expr}{pos:Pos}{T id:String}{Q:Value→Shared→Prop}
  (hl:typeLookup (.type T) "__getitem__"=pure (some (.builtin id))) (hs:gA slice)
  (h:wpAny (model prog w) A (eval value env) (fun o s₁=>wpAny (model prog w) A (eval slice env) (fun i s₂=>s₂.TypeIs o T∧wpAny (model prog w) A (getItem o i) Q E s₂) E s₁) E s):
  wpAny (model prog w) A (eval (.Subscript value slice pos) env) Q E s:=by
 refine Subscript_ (thn h fun o s₁ h₁=>thn h₁ fun i s₂ h₂=>?_)
 obtain⟨hT,h₂⟩:=h₂
 unfold subscriptTail
 refine cQ ?_
 rw[getitemInPython_of_ne hT.not_modules]
 refine cQ (wpAny_specialOf hT hl ?_)
 have fin:wpAny (model prog w) A (subscripted slice false o i) (fun r s₃=>wpAny (model prog w) A (letTemporaryGo value o r >>= fun _=>pure r) Q E s₃) E s₂:=by
  rw[hs o i]
  exact wpAny_operating (thn h₂ fun r s₃ h₃=>cQ (wpAny_letTemporaryGo (bc h₃)))
 first
  |exact bc (cQ fin)
  |exact cQ (bc (cQ fin))
  |exact cQ fin
theorem mV {d:Addr}{tb:List (Str×V)}{ty:TE}(hg:Gl X g)(hm:X.mg g=some (.ref d))(hd:pO X.K X.w d tb)(hi:PE X a ty)(hs:gA a)(hb:(g == ("__debug__":Str))=false:=by decide):
  PE X (.Subscript (.Name g p) a pos) (fun σ H Q=>ty σ H fun y H1=>∃x v,y=.str x∧tb.lookup x=some v∧Q v H1):=by
 intro pins s σ H Q I h
 refine cA PySem.F.slot_dict_getitem.lookup hs (yw I hg hm (thn (hi pins s σ H _ I h) fun iv s2 ⟨y,H2,I2,ry,x,v,ey,ex,q2⟩=>?_) hb)
 subst ey
 obtain⟨t,rfl⟩:=ry
 obtain⟨es,n,hl,he,hn⟩:=hd
 have dd:s2.heap.DictOf (PySem.strKind X.prog X.w) d (List.zipWith (fun e (p:Str×V)=>(p.1,e.val)) es.toList tb):=
  ⟨_,es,n,I2.kIn _ _ hl,⟨rfl,rfl,rfl⟩,rfl,fun e he'=>rj he e (by simpa using he'),uT he,by rw[pG he];exact hn⟩
 obtain⟨u,h1,h2⟩:=pL he ex
 exact⟨dd.typeIs,wpAny_getItem_of (show (PySem.strKind X.prog X.w).is x (.str x t)=true by simp[PySem.strKind,Value.isStrOf]) dd.mapOf h1 ⟨v,H2,I2.tok _,h2,q2⟩⟩
def scV :PyData→Option V
 |.none=>some .non
 |.bool b=>some (.bl b)
 |.int i=>some (.int i)
 |.str x=>some (.str x)
 |_=>Option.none
theorem fj {H:Hp}{d:PyData}{v:V}(h:scV d=some v):AV H v d:=by
 cases d<;>simp[scV] at h<;>subst h<;>constructor
theorem kn {d:Addr}{tb:List (Str×V)}(hg:Gl X g)(hm:X.mg g=some (.ref d))(hd:pO X.K X.w d tb)(h:EvD X α a fun y=>∃x d v,y=.str x∧tb.lookup x=some v∧scV d=some v∧Q d)(hs:gA a:=by exact fun _ _=>rfl)
  (hb:(g == ("__debug__":Str))=false:=by decide):EvD X α (.Subscript (.Name g p) a pos) Q:=fun F σ H R m k=>by
 refine⟨_,mV hg hm hd zi hs hb,?_⟩
 refine h F σ H _ m fun y vy H1 q1 t1 k1 r1=>?_
 obtain⟨x,d',v,rfl,h1,h2,q⟩:=q1
 cases r1.str_inv
 exact⟨x,v,rfl,h1,k _ _ H1 q t1 k1 (fj h2)⟩
end
section
variable {X:Cx}{α:Ev}{p pos:Pos}{a b:Expr}{g:Str}{Q:PyData→Prop}
end
section
variable {X:Cx}{α:Ev}{p pos:Pos}{a b:Expr}{Q:PyData→Prop}
end
section
variable {X:Cx}{α:Ev}{a e:Expr}{pos p2 p3 p4:Pos}{n1:Nat}{te:TE}
end
section
variable {X:Cx}{pins:List (Addr×Obj)}{σ:St}{H:Hp}{s:Shared}
end
section
variable {X:Cx}{α:Ev}{p q pos:Pos}{a b:Expr}
end
section
variable {X:Cx}{α:Ev}{p pos:Pos}{a b:Expr}{Q:PyData→Prop}
structure eI (K:PySem.W.Frag)(C:Addr):Prop where
 cl:Cls K C
 ha:PySem.W.findIn K (.ref C) "__class__"=some (some (.builtin "object.__class__"))
 hn:PySem.W.specialIn K (.builtin "object.__class__") "__get__"=some (some (.builtin "getset_descriptor.__get__"))
 ht:PySem.W.takesIn K (.builtin "object.__class__")=some true
 hm:PySem.W.mroIn K C (.type "object")=some true
theorem jy {C:Addr}{x:Str}{p1:Pos}(hg:Gl X "isinstance")(hm:X.mg "isinstance"=none)(hgC:Gl X x)(hmC:X.mg x=some (.ref C))(h:EvD X α a fun d=>∃C' fs k,d=yV C' fs∧eI X.K C'∧PySem.W.kitOne X.K (.ref C') (.ref C)=some k∧Q (.bool k))
  (hdx:(x == ("__debug__":Str))=false:=by decide) (he:starEach [a,.Name x p1] X.env=(false,eval a X.env)::starEach [.Name x p1] X.env:=by rfl) (he2:starEach [.Name x p1] X.env=(false,eval (.Name x p1) X.env)::starEach [] X.env:=by rfl) (hpl:(backTo pos (starEach [.Name x p1] X.env)).any (·.1)=false:=by rfl):
  EvD X α (.Call (.Name "isinstance" p) [a,.Name x p1] [] pos) Q:=fun F σ H R m k=>by
 refine⟨_,zI nW hg hm aI (zb zi (zb (xq (v:=.ref C) hgC hmC rfl hdx) zj he2) he) (he:=he) (hpl:=hpl),?_⟩
 refine h F σ H _ m fun d vx H1 q1 t1 k1 r1=>?_
 obtain⟨C',fs,b,rfl,ck,e,q⟩:=q1
 obtain⟨ad,dx,gs,rfl,h1,h2⟩:=r1.ins_inv
 exact⟨.ref ad,C,.ref C',b,rfl,xX.ins (zh h1).2 ck.cl ck.ha ck.hn ck.ht ck.hm,e,k _ _ H1 q t1 k1 (.bl b)⟩
end
open PySem.W SortA
section
variable {P:Program}{w:World}{K:PySem.W.Frag}{mg:Str→Option Value}{base:Heap}
end
section
variable {X:Cx}{α:Ev}{Q:PyData→Prop}{a b:Expr}{pos:Pos}
end
open PySem (IsZip)
section
variable {prog:Program}{w:World}{A:Around}{E:Value→Shared→Prop}{s:Shared}
abbrev z3 (n:Nat):List Addr:=[(n:Nat),(n+1:Nat),(n+2:Nat),(n+3:Nat),(n+4:Nat),(n+5:Nat)]
end
section
variable {X:Cx}{pins:List (Addr×Obj)}{σ:St}{H:Hp}{s:Shared}
end
section
variable {prog:Program}{w:World}{A:Around}{E:Value→Shared→Prop}{s:Shared}
end
section
variable {X:Cx}{pins:List (Addr×Obj)}{σ:St}{H:Hp}{s:Shared}
end
section
variable {X:Cx}{pins:List (Addr×Obj)}{σ:St}{H:Hp}{s:Shared}
variable {a b c:Expr}{p p0 pos pos2:Pos}
end
section
variable {X:Cx}{α:Ev}{a b c:Expr}{p p0 pos pos2:Pos}
end
section
variable {κ:Type}[DecidableEq κ]
def uv (kvs:List (κ×V))(k:κ):Option V:=(kvs.find? fun kv=>decide (kv.1=k)).map (·.2)
theorem uj {p:κ×V}{r:List (κ×V)}{k:κ}(e:p.1=k):uv (p::r) k=some p.2:=by simp[uv,aj,e]
theorem vU {p:κ×V}{r:List (κ×V)}{k:κ}(e:¬p.1=k):uv (p::r) k=uv r k:=by simp[uv,aj,e]
theorem KV.val {kvs:List (κ×V)}{vs:List (κ×Value)}(r:KV kvs vs)(k:κ):wA (uv kvs k) (valueAt vs k):=by
 unfold KV at r
 induction r with
 |nil=>exact True.intro
 |@cons p q ps qs h t ih=>
  obtain⟨h1,h2⟩:=h
  by_cases e:p.1=k
  ·have e':q.1=k:=h1.symm.trans e
   have b:valueAt (q::qs) k=some q.2:=by simp[valueAt,aj,e']
   rw[uj e,b];exact h2
  ·have e':¬q.1=k:=fun z=>e (h1.trans z)
   have b:valueAt (q::qs) k=valueAt qs k:=by simp[valueAt,aj,e']
   rw[vU e,b];exact ih
end
theorem hJ {P:Program}{w:World}{k:Key}{u:Value}(r:RelV (kV k) u):(yx P w).is k u=true:=by
 cases k with
 |inl i=>obtain⟨t,e⟩:=(show ∃t,u=Value.int i t from r);subst e;exact sZ P w i t
 |inr x=>obtain⟨t,e⟩:=(show ∃t,u=Value.str x t from r);subst e;exact sM P w x t
theorem uK {P:Program}{w:World}:∀{ks:List Key} {us:List Value},Vals (ks.map kV) us→ItemsAre (yx P w) ks us
 |[],_,r=>by rw[List.map_nil] at r;cases r;exact .nil
 |k::ks,_,r=>by
  rw[aL] at r
  cases r with
  |cons h t=>exact .cons (hJ h) (uK t)
abbrev KT (H:Hp):List (List Key×V)→List (List Key×Addr×Value)→Prop:=Paired fun p q=>p.1=q.1∧H q.2.1=some (.tup (p.1.map kV))∧RelV p.2 q.2.2
theorem KT.val {H:Hp}{kvs:List (List Key×V)}{xs:List (List Key×Addr×Value)}(r:KT H kvs xs)(k:List Key):wA (uv kvs k) ((atKey xs k).map (·.2)):=by
 induction r with
 |nil=>exact True.intro
 |@cons p q ps qs h t ih=>
  obtain⟨h1,_,h2⟩:=h
  by_cases e:p.1=k
  ·have e':q.1=k:=h1.symm.trans e
   have b:atKey (q::qs) k=some q.2:=by simp[atKey,aj,e']
   rw[uj e,b];exact h2
  ·have e':¬q.1=k:=fun z=>e (h1.trans z)
   have b:atKey (q::qs) k=atKey qs k:=by simp[atKey,aj,e']
   rw[vU e,b];exact ih
section
variable {P:Program}{w:World}{H:Hp}{h:Heap}{a:Addr}
theorem gb {u:HO}(ok:HOk P w H h)(e:Rd H a u):zZ P w H h a u:=e.ok ok
theorem iU {kvs:List (Key×V)}(ok:HOk P w H h)(e:Rd H a (.dK kvs)):kvs.length≤sizeLine∧(a == sysModules)=false∧∃vs,KV kvs vs∧h.DictOf (yx P w) a vs:=
 show zZ P w H h a (.dK kvs) from gb ok e
theorem mR {ks:List Key}(ok:HOk P w H h)(e:H a=some (.tup (ks.map kV))):(tupleKind (yx P w)).is h ks a:=by
 obtain⟨_,its,r,o,h1,h2,n,h3⟩:=(show zZ P w H h a (.tup (ks.map kV)) from ok a _ e)
 exact⟨o,its.toArray,n,h1,h2,h3,by simpa using uK r⟩
theorem iM {kvs:List (List Key×V)}(ok:HOk P w H h)(e:Rd H a (.dT kvs)):kvs.length≤sizeLine∧(a == sysModules)=false∧
  ∃xs,KT H kvs xs∧h.DictOfH (tupleKind (yx P w)) a xs:=by
 obtain⟨z,y,xs,r,o,es,ep,h1,h2,h3,h4,h5⟩:=(show zZ P w H h a (.dT kvs) from gb ok e)
 refine⟨z,y,xs,r,o,es,ep,h1,h2,h3,h4,fun x hx=>?_,h5⟩
 have all:∀{l:List (List Key×V)} {m:List (List Key×Addr×Value)},KT H l m→∀x∈m,(tupleKind (yx P w)).is h x.1 x.2.1:=by
  intro l m q
  induction q with
  |nil=>intro x hx;exact nomatch hx
  |@cons p q ps qs hq t ih=>
   intro x hx
   rcases cY.mp hx with e|hx
   ·subst e
    exact mR ok (by rw[←hq.1];exact hq.2.1)
   ·exact ih x hx
 exact all r x hx
end
def fL (H:Hp)(a:Addr)(y:V)(r:Option V):Prop:=
 (∃kvs k,Rd H a (.dK kvs)∧y=kV k∧r=uv kvs k)∨∃kvs k b,Rd H a (.dT kvs)∧y=.ref b∧H b=some (.tup (k.map kV))∧r=uv kvs k
section
variable {X:Cx}{pins:List (Addr×Obj)}{σ:St}{H:Hp}{s:Shared}{a:Addr}{y v:V}{u r:Value}{o:Option V}{A:Around}{E:Value→Shared→Prop}
theorem nH {Q:Value→Shared→Prop}(hu:A.units+1<cLine)(I:Inv X pins σ H s)(g:fL H a y (some v))(ry:RelV y u)(h:∀w' s',Inv X pins σ H s'→RelV v w'→Q w' s'):
  wpAny (model X.prog X.w) A (getItem (.ref a) u) Q E s:=by
 rcases g with ⟨kvs,k,e,ey,l⟩|⟨kvs,k,b,e,ey,eb,l⟩
 ·subst ey
  obtain⟨z,hd,vs,rel,dd⟩:=iU I.hok e
  obtain⟨w',hw,rw'⟩:=wA.some_of (v:=v) (o:=valueAt vs k) (by rw[l];exact rel.val k)
  exact wpAny_getItem_of (hJ ry) dd.mapOf hw (h w' _ (I.tok _) rw')
 ·subst ey
  cases (show u=Value.ref b from ry)
  obtain⟨z,hd,xs,rel,dd⟩:=iM I.hok e
  obtain⟨w',hw,rw'⟩:=wA.some_of (v:=v) (o:=(atKey xs k).map (·.2)) (by rw[l];exact rel.val k)
  obtain⟨p,hp,hp2⟩:=bG.mp hw
  refine wpAny_getItem_heap (tupleKind_room_in1 hu) (mR I.hok eb) dd hp ?_
  rw[hp2]
  exact h w' _ (I.tok _) rw'
end
section
variable {X:Cx}{pins:List (Addr×Obj)}{σ:St}{H:Hp}{s:Shared}{a:Addr}{kvs:List (Key×V)}{k:Key}{u:Value}{A:Around}{E:Value→Shared→Prop}
end
theorem sW {X:Cx}{pins:List (Addr×Obj)}{σ:St}{H:Hp}{s:Shared}{a:Addr}{y:V}{o:Option V}(I:Inv X pins σ H s)(g:fL H a y o):s.TypeIs (.ref a) "dict":=by
 rcases g with ⟨kvs,k,e,_,_⟩|⟨kvs,k,b,e,_,_,_⟩
 ·obtain⟨_,_,vs,_,dd⟩:=iU I.hok e
  exact dd.typeIs
 ·obtain⟨_,_,xs,_,dd⟩:=iM I.hok e
  exact dd.typeIs
section
variable {X:Cx}{o i e value:Expr}{pos pos' tpos:Pos}{td ty tv:TE}
end
section
variable {X:Cx}{pos:Pos}
end
section
variable {X:Cx}{pins:List (Addr×Obj)}{σ:St}{H:Hp}{s:Shared}{a:Addr}{y d:V}{u r:Value}{o:Option V}{A:Around}{E:Value→Shared→Prop}
end
section
variable {X:Cx}{o e f:Expr}{apos cpos:Pos}{td ty tx:TE}
end
section
variable {X:Cx}{pins:List (Addr×Obj)}{σ:St}{H:Hp}{s:Shared}{a:Addr}{kvs:List (Key×V)}{A:Around}{E:Value→Shared→Prop}
end
section
variable {X:Cx}{pins:List (Addr×Obj)}{σ:St}{H:Hp}{s:Shared}{a:Addr}{y:V}{u:Value}{A:Around}{E:Value→Shared→Prop}
end
def kEq :PyData→Key→Bool
 |.int i,.inl j=>decide (i=j)
 |.str x,.inr y=>decide (x=y)
 |_,_=>false
theorem kf (k j:Key):kEq (nr k) j=decide (k=j):=by
 cases k<;>cases j<;>simp[kEq,nr]
def jT :List (PyData×PyData)→Key→Option PyData
 |[],_=>none
 |(p,d)::r,k=>if kEq p k=true then some d else jT r k
theorem AVk.get {H:Hp}:∀{kvs:List (Key×V)} {ds:List (PyData×PyData)} {k:Key} {d:PyData},AVk H kvs ds→jT ds k=some d→∃v,uv kvs k=some v∧AV H v d
 |_,_,k,d,.nil,e=>by cases e
 |_,_,k,d,.cons (k:=j) h r,e=>by
  unfold jT at e
  rw[kf] at e
  by_cases z:j=k
  ·rw[bY z,if_pos rfl] at e
   cases e
   exact⟨_,uj z,h⟩
  ·rw[bL z,if_neg (by decide)] at e
   rw[vU z]
   exact AVk.get r e
theorem jN {H:Hp}{v:V}{k:Key}(h:AV H v (nr k)):v=kV k:=by
 cases k with
 |inl i=>exact h.int_inv
 |inr x=>exact h.str_inv
theorem AV.dk_inv {H:Hp}{v:V}{ds:List (PyData×PyData)}(h:AV H v (jS ds)):∃a o kvs,v=.ref a∧H a=some (.frz o (.dK kvs))∧AVk H kvs ds:=by
 generalize e:jS ds=d at h
 cases h with
 |dk h1 h2=>cases e;exact⟨_,_,_,rfl,h1,h2⟩
 |_=>cases e
section
variable {X:Cx}{pins:List (Addr×Obj)}{σ:St}{H:Hp}{s:Shared}{l:Addr}{kvs:List (Key×V)}
end
section
variable {X:Cx}{e:Expr}{sts:List Stmt}
end
section
variable {X:Cx}{α:Ev}{e a b:Expr}{pos p:Pos}{Q:PyData→Prop}
end
section
variable {X:Cx}{α:Ev}{e a b:Expr}{pos p:Pos}{Q:PyData→Prop}
end
section
variable {X:Cx}{tg:Expr}
end
section
variable {X:Cx}{α:Ev}{e a b tg:Expr}{pos p:Pos}{Q:List PyData→Prop}
end
mutual
def ltD :PyData→PyData→Option Bool
 |.int a,.int b=>some (decide (a<b))
 |.str a,.str b=>some (decide (a.cps.toList<b.cps.toList))
 |.tuple xs,.tuple ys=>eR xs ys
 |_,_=>none
def eR :List PyData→List PyData→Option Bool
 |[],[]=>some false
 |[],_::_=>some true
 |_::_,[]=>some false
 |x::xs,y::ys=>if PyData.eqv x y=true then eR xs ys else ltD x y
end
section
open PySem.SeqAt
open PySem.AutoSeq1 (wpAny_loadPart')
open PySem.MeetsSeq PySem.MeetsSeq2 PySem.MeetsSeq3
end
section
variable {prog:Program}{w:World}{A:Around}{R:Result→Shared→Prop}{it:Addr}{fp wr:List Addr}{m:Nat}{P:Nat→Value→Prop}{St:Nat→Heap→Prop}
end
section
variable {prog:Program}{w:World}{A:Around}{E:Value→Shared→Prop}{s:Shared}
end
section
variable {X:Cx}{α:Ev}{e:Expr}{pos p:Pos}{Q:PyData→Prop}
end
section
variable {prog:Program}{w:World}{A:Around}{E:Value→Shared→Prop}{s:Shared}{it l:Addr}{items:Array Value}
end
section
variable {X:Cx}{α:Ev}{a e c:Expr}{p p0 pos pos2:Pos}{Q:List PyData→Prop}
end
def sJ (Q:PyData→Prop):List PyData→Prop
 |[]=>True
 |d::r=>Q d∧sJ Q r
theorem sJ.mem {Q:PyData→Prop}:∀{ds:List PyData},sJ Q ds→∀d∈ds,Q d
 |[],_,d,h=>by cases h
 |x::r,h,d,hd=>by
  rcases cY.mp hd with rfl|hd
  ·exact h.1
  ·exact sJ.mem h.2 d hd
theorem jU {x:PyData}{ds:List PyData}{v:Int}{Q:PyData→Prop}(hx:xm x=some ds)(h0:0≤v)(h1:v<ds.length)(h:sJ Q ds):∃ds i d,xm x=some ds∧PyData.int v=.int i∧atI ds i=some d∧Q d:=by
 obtain⟨d,hd,e⟩:=iN h0 h1
 exact⟨ds,v,d,hx,rfl,e,h.mem d hd⟩
theorem kr {x:PyData}{ds:List PyData}{v:Int}{Q:PyData→Prop}(P:PyData→Prop)(hx:xm x=some ds)(h0:0≤v)(h1:v<ds.length)(h:sJ P ds)(k:∀d,P d→Q d):∃ds i d,xm x=some ds∧PyData.int v=.int i∧atI ds i=some d∧Q d:=by
 obtain⟨d,hd,e⟩:=iN h0 h1
 exact⟨ds,v,d,hx,rfl,e,k d (h.mem d hd)⟩
theorem iP {k:Bool}{p q:Prop}(h1:k=true→p)(h2:k=false→q):if k=true then p else q:=by
 cases k with
 |true=>exact h1 rfl
 |false=>exact h2 rfl
section
variable {X:Cx}{α:Ev}{e a b:Expr}{pos p:Pos}{E:yA}{rest:List Stmt}
end
def dO :R2:=fun x y H R=>rEq x y H R∨eP x y H R
def eX :R2:=fun x y H R=>rNe x y H R∨dR x y H R
theorem kO {X:Cx}(hu:X.A.units+64<cLine):OpR X (compareOp .Eq) dO:=fun pins s σ H x y v u Q I rx ry h=>h.elim (fun h=>xI _ _ _ _ _ _ _ _ _ I rx ry h) fun h=>xM hu _ _ _ _ _ _ _ _ _ I rx ry h
theorem gB {X:Cx}(hu:X.A.units+64<cLine):OpR X (compareOp .NotEq) eX:=fun pins s σ H x y v u Q I rx ry h=>h.elim (fun h=>eS _ _ _ _ _ _ _ _ _ I rx ry h) fun h=>fu hu _ _ _ _ _ _ _ _ _ I rx ry h
theorem jG {i j:Str}:Cmp rNe (.str i) (.str j) (!decide (i=j)):=fun p H vx vy R rx ry h=>by
 cases rx.str_inv;cases ry.str_inv
 refine⟨rfl,?_⟩
 rw[show decide (V.str i=V.str j)=decide (i=j) by simp]
 exact h
def oP (x y:PyData)(Q:Bool→Prop):Prop:=∃k,Cmp dO x y k∧Cmp eX x y (!k)∧Q k
theorem jO {i j:Str}{Q:Bool→Prop}(h:Q (decide (i=j))):oP (.str i) (.str j) Q:=⟨_,fun p H vx vy R rx ry z=>.inl (pq p H vx vy R rx ry z),fun p H vx vy R rx ry z=>.inl (jG p H vx vy R rx ry z),h⟩
theorem eqk {x y:PyData}{Q:Bool→Prop}(s1:SeqAt.shaped x=true)(s2:SeqAt.shaped y=true)(d1:x.hasDict=false)(d2:y.hasDict=false)(h:Q (PyData.eqv x y)):oP x y Q:=
 ⟨_,fun p H vx vy R rx ry z=>.inr ⟨x,y,(rx.dv d1).same yW,(ry.dv d2).same yW,s1,s2,z⟩,fun p H vx vy R rx ry z=>.inr ⟨x,y,(rx.dv d1).same yW,(ry.dv d2).same yW,s1,s2,z⟩,h⟩
section
variable {X:Cx}{α:Ev}{a b:Expr}{pos:Pos}{Q:PyData→Prop}{T:Bool→Prop}
theorem gI (hu:X.A.units+64<cLine)(h:EvD X α a fun x=>EvD X α b fun y=>oP x y fun k=>Q (.bool k)):EvD X α (.Compare a [.Eq] [b] pos) Q:=gX (kO hu) (zu _) (h.imp fun x h=>h.imp fun y ⟨k,e,_,q⟩=>⟨k,e,q⟩)
theorem gL (hu:X.A.units+64<cLine)(h:EvD X α a fun x=>EvD X α b fun y=>oP x y T):EvT X α (.Compare a [.Eq] [b] pos) T:=vG (kO hu) (zu _) (h.imp fun x h=>h.imp fun y ⟨k,e,_,q⟩=>⟨k,e,q⟩)
theorem et (hu:X.A.units+64<cLine)(h:EvD X α a fun x=>EvD X α b fun y=>oP x y fun k=>T (!k)):EvT X α (.Compare a [.NotEq] [b] pos) T:=vG (gB hu) (zu _) (h.imp fun x h=>h.imp fun y ⟨k,_,e,q⟩=>⟨!k,e,q⟩)
theorem pN {k:Bool}{p q:Prop}(e:k=true)(h:p):if k=true then p else q:=by rw[if_pos e];exact h
theorem lj {k:Bool}{p q:Prop}(e:k=false)(h:q):if k=true then p else q:=by rw[if_neg (by rw[e];decide)];exact h
variable {E:yA}{s t:List Stmt}
theorem tu {k:Bool}(e:k=true)(h:SvS X α s E):SvS X α (if k=true then s else t) E:=by rw[if_pos e];exact h
theorem xt {k:Bool}(e:k=false)(h:SvS X α t E):SvS X α (if k=true then s else t) E:=by rw[if_neg (by rw[e];decide)];exact h
end
section
variable {X:Cx}{α:Ev}{a b:Expr}{pos:Pos}{Q:PyData→Prop}{T:Bool→Prop}
def dB :R2:=fun x y H Q=>∃a v,x=.ref a∧fL H a y (some v)∧Q v H
theorem ic (hu:X.A.units+1<cLine):IxR X dB:=fun value slice pins s σ H x y v u Q I rx ry h hs=>by
 obtain⟨a,z,rfl,g,q⟩:=h
 cases rx
 exact tail_any (sW I g) PySem.F.slot_dict_getitem.lookup (nH hu I g ry fun w' s' I' r'=>⟨z,H,I',r',q⟩) hs
def lD (x y:PyData)(Q:PyData→Prop):Prop:=(∃ds i d,xm x=some ds∧y=.int i∧atI ds i=some d∧Q d)∨∃ds k d,x=jS ds∧y=nr k∧jT ds k=some d∧Q d
theorem ixk {x y:PyData}{ds:List PyData}{i:Int}{d:PyData}(h1:xm x=some ds)(h2:y=.int i)(h3:atI ds i=some d)(h:Q d):lD x y Q:=.inl ⟨ds,i,d,h1,h2,h3,h⟩
theorem so {x:PyData}{ds:List PyData}{v:Int}(hx:xm x=some ds)(h0:0≤v)(h1:v<ds.length)(h:sJ Q ds):lD x (.int v) Q:=.inl (jU hx h0 h1 h)
theorem pW {x:PyData}{ds:List PyData}{v:Int}(P:PyData→Prop)(hx:xm x=some ds)(h0:0≤v)(h1:v<ds.length)(h:sJ P ds)(k:∀d,P d→Q d):lD x (.int v) Q:=.inl (kr P hx h0 h1 h k)
theorem gH (hu:X.A.units+1<cLine)(hs:oa b)(h:EvD X α a fun x=>EvD X α b fun y=>lD x y Q):EvD X α (.Subscript a b pos) Q:=by
 refine qm (f:=tOp (fun x y H Q=>rIx X.K x y H Q∨dB x y H Q)) (zG (gS.or (ic hu)) zi zi hs) (fun _ _ _=>Iff.rfl) (h.imp fun x h=>h.imp fun y h=>?_)
 intro F σ H vx vy R m rx ry k
 rcases h with ⟨ds,i,d,e1,rfl,hat,hq⟩|⟨ds,kk,d,rfl,rfl,hv,hq⟩
 ·cases ry.int_inv
  cases x with
  |list ds'=>
   cases e1
   obtain⟨a,xs,rfl,h1,h2⟩:=rx.lst_inv
   obtain⟨v,hv,av⟩:=h2.atI hat
   exact .inl (.inl ⟨a,xs,i,v,rfl,rfl,SqL.of (zh h1).2,hv,k d v H hq m.tp Kz.refl av⟩)
  |tuple ds'=>
   cases e1
   obtain⟨a,xs,rfl,h1,h2⟩:=rx.tup_inv
   obtain⟨v,hv,av⟩:=h2.atI hat
   exact .inl (.inr (.inl ⟨a,xs,i,v,rfl,rfl,SqT.of (zh h1).2,hv,k d v H hq m.tp Kz.refl av⟩))
  |_=>cases e1
 ·obtain⟨a,o,kvs,rfl,g1,g2⟩:=rx.dk_inv
  obtain⟨v,w1,w2⟩:=g2.get hv
  cases jN ry
  exact .inr ⟨a,v,rfl,.inl ⟨kvs,kk,.inr ⟨o,(zh g1).2⟩,rfl,w1.symm⟩,k d v H hq m.tp Kz.refl w2⟩
end
theorem zy.one {k:Nat}{A:Around}(h:zy k A):A.units+1<cLine:=by have:=h.units;omega
section
variable {X:Cx}{α:Ev}{E:yA}{rest body:List Stmt}{e c tg iter:Expr}{pos p:Pos}
theorem tW (pat:Pat)(h:EvI X α tg iter fun ds=>vf X pat body rest E ds α)(hN:X.N.Nodup:=by assumption)(hp:PassesOwn (model X.prog X.w) X.A X.env X.xe:=by exact zc3)(hc:X.calm=true:=by rfl)
  (hg:PG X tg (sV X.K pat):=by first|exact zY (by assumption) rfl (Or.inl rfl)|exact zY (by assumption) rfl (Or.inr rfl)|exact xJ rfl rfl (by repeat (first|exact wq|refine yG (by first|exact zY (by assumption) rfl (Or.inl rfl)|exact zY (by assumption) rfl (Or.inr rfl)) ?_)))
  (hs:∀x,foldedSetIterable iter X.env x=pure x:=by intro _;rfl):SvS X α (.For tg iter body [] pos::rest) E:=tq hp hc hg h hs
def freeOk (xs:Scope)(y:Str×NameKind):Bool:=match y.2 with
 |.free=>match xs.names.lookup y.1 with
  |some .cell=>true
  |some .free=>true
  |_=>false
 |_=>true
theorem rF {xs scope:Scope}(h:scope.names.all (freeOk xs)=true):∀y∈scope.names,y.2=.free→xs.names.lookup y.1=some .cell∨xs.names.lookup y.1=some .free:=fun y hy e=>by
 have:=za1.mp h y hy
 unfold freeOk at this
 rw[e] at this
 cases z:xs.names.lookup y.1 with
 |none=>rw[z] at this;cases this
 |some k=>
  rw[z] at this
  cases k<;>first|exact .inl rfl|exact .inr rfl|cases this
theorem ky (N:List Str)(imp:List (Option Nat))(pat:Pat){scope:Scope}{elt:Expr}{ifs:List Expr}{Q:List PyData→Prop}(h:EvI X α tg iter fun ds=>ds.length≤1000∧yK (fun C s2 H2 fp=>X.comp N scope C s2 H2 fp) pat ifs elt (yo imp α) ds [] Q)
  (nd:N.Nodup:=by decide +kernel) (h1:scope.kind=.function:=by rfl) (h2:∀y∈scope.names,y.2≠.cell:=by decide +kernel) (h3:∀y∈scope.names,y.2=.local→scope.names.lookup y.1=some .local:=by decide +kernel) (h4:scope.names.all (freeOk X.env.scope)=true:=by rfl) (h5:imp.length=N.length:=by rfl)
  (h6:((imp.zip N).all fun p=>match p.1 with|none=>true|some j=>X.N[j]? == some p.2&&scope.names.lookup p.2 == some .free)=true:=by rfl) (hfree:pat.free (yo imp α)=true:=by rfl)
  (hg:∀C s2 H2 fp,N.Nodup→PG (X.comp N scope C s2 H2 fp) tg (sV X.K pat):=by intro _ _ _ _ hnd;first|exact zY hnd rfl (Or.inl rfl)|exact xJ rfl rfl (by repeat (first|exact wq|refine yG (zY hnd rfl (Or.inl rfl)) ?_)))
  (hc:X.calm=true:=by rfl) (hs:∀x,foldedSetIterable iter X.env x=pure x:=by intro _;rfl):EvL X α (.ListComp elt [⟨tg,iter,ifs,0⟩] scope pos) Q:=hU hc ⟨h1,nd,h2,h3,rF h4,h5,h6⟩ hfree (fun C s2 H2 fp=>hg C s2 H2 fp nd) h hs
theorem gj (i:Nat)(N:List Str)(imp:List (Option Nat))(pat:Pat){x:Str}{pos' cpos:Pos}{scope:Scope}{elt:Expr}{ifs:List Expr}(h:EvI X α tg iter fun ds=>ds.length≤1000∧yK (fun C s2 H2 fp=>X.comp N scope C s2 H2 fp) pat ifs elt (yo imp α) ds [] fun ds=>SvS X (α.set i (some (.own ds))) rest E)
  (hN:X.N.Nodup:=by assumption)
  (nd:N.Nodup:=by decide +kernel) (h1:scope.kind=.function:=by rfl) (h2:∀y∈scope.names,y.2≠.cell:=by decide +kernel) (h3:∀y∈scope.names,y.2=.local→scope.names.lookup y.1=some .local:=by decide +kernel) (h4:scope.names.all (freeOk X.env.scope)=true:=by rfl) (h5:imp.length=N.length:=by rfl)
  (h6:((imp.zip N).all fun p=>match p.1 with|none=>true|some j=>X.N[j]? == some p.2&&scope.names.lookup p.2 == some .free)=true:=by rfl) (hfree:pat.free (yo imp α)=true:=by rfl)
  (hg:∀C s2 H2 fp,N.Nodup→PG (X.comp N scope C s2 H2 fp) tg (sV X.K pat):=by intro _ _ _ _ hnd;first|exact zY hnd rfl (Or.inl rfl)|exact xJ rfl rfl (by repeat (first|exact wq|refine yG (zY hnd rfl (Or.inl rfl)) ?_)))
  (hc:X.calm=true:=by rfl)
  (hi:X.N[i]?=some x:=by rfl) (hx:Loc X.env.scope x:=by first|exact Or.inl rfl|exact Or.inr rfl) (hsw:swapsWith (.ListComp elt [⟨tg,iter,ifs,0⟩] scope cpos) (some (.Name x pos')) pos.line X.env=pure true:=by rfl)
  (hf:X.fn x=true∨X.env.scope.names.lookup x=some .local:=by first|exact .inl rfl|exact .inr rfl|assumption) (hs:∀x,foldedSetIterable iter X.env x=pure x:=by intro _;rfl):
  SvS X α (.Assign [.Name x pos'] (.ListComp elt [⟨tg,iter,ifs,0⟩] scope cpos) pos::rest) E:=eB i hN hc ⟨h1,nd,h2,h3,rF h4,h5,h6⟩ hfree (fun C s2 H2 fp=>hg C s2 H2 fp nd) h hi hx hsw hf hs
end
section
variable {Y:Addr→Shared→Hp→List Addr→Cx}{pat:Pat}{ifs:List Expr}{elt:Expr}{α0:Ev}{ι:Type}{g f:ι→PyData}{l:List ι}{acc:List PyData}{Q:List PyData→Prop}
end
section
variable {co:Co}{N:Nat}
end
section
variable {co:Co}{N:Nat}
end
section
variable {X:Cx}{α:Ev}{a b e:Expr}{pos p:Pos}{Q:PyData→Prop}
end
section
variable {X:Cx}{α:Ev}{a b c e:Expr}{pos p:Pos}{Q:PyData→Prop}{T:Bool→Prop}
end
section
variable {X:Cx}{α:Ev}{a b c e:Expr}{pos p p2 pos2:Pos}{Q:PyData→Prop}{T:Bool→Prop}
end
section
variable {X:Cx}{α:Ev}{a b c d e:Expr}{pos p:Pos}{ta tb tc td:TE}{T:Bool→Prop}
end
section
variable {X:Cx}{α:Ev}{a b c d e:Expr}{pos p:Pos}{T:Bool→Prop}
end
abbrev pX (X:Cx)(P:Program)(w:World)(K:PySem.W.Frag)(mg:Str→Option Value)(base:Heap):Prop:=X.prog=P∧X.w=w∧X.K=K∧X.mg=mg∧X.base=base
section
variable {X:Cx}{α:Ev}{e o:Expr}{es:List Expr}{pos p apos:Pos}{Q:PyData→Prop}{k:Nat}{φ:List A→(A→Prop)→Prop}{x m:Str}{C:Addr}{pl:Sem Bool}{P:Program}{w:World}{K:PySem.W.Frag}{mg:Str→Option Value}{base:Heap}
theorem ir (D:Cal P w K mg base x k φ)(hX:pX X P w K mg base)(hr:zy k X.A)(hg:Gl X x)(h:EvA X α (e::es) fun as=>φ as fun a=>Q a.d)
  (hdb:(x == ("__debug__":Str))=false:=by decide) (he:starEach (e::es) X.env=(false,eval e X.env)::starEach es X.env:=by rfl) (hpl:(backTo pos (starEach es X.env)).any (·.1)=false:=by rfl):EvD X α (.Call (.Name x p) (e::es) [] pos) Q:=by
 obtain⟨rfl,rfl,rfl,rfl,rfl⟩:=hX
 exact ub D hr hg h hdb he hpl
theorem jb (D:sH P w K mg base x k [] φ)(hX:pX X P w K mg base)(hr:zy (k+1) X.A)(hg:Gl X x)(h:EvA X α (e::es) fun as=>φ as fun a=>Q a.d)
  (hdb:(x == ("__debug__":Str))=false:=by decide) (he:starEach (e::es) X.env=(false,eval e X.env)::starEach es X.env:=by rfl) (hpl:(backTo pos (starEach es X.env)).any (·.1)=false:=by rfl):EvN X α (.Call (.Name x p) (e::es) [] pos) Q:=by
 obtain⟨rfl,rfl,rfl,rfl,rfl⟩:=hX
 exact ie D hr hg h hdb he hpl
theorem mO (D:yU P w K mg base C m k φ)(hX:pX X P w K mg base)(hr:zy k X.A)(h:EvD X α o fun x=>∃fs,x=yV C fs∧vp fs m=none∧EvA X α (e::es) fun as=>φ (.dat (yV C fs)::as) fun a=>Q a.d)
  (hst:starEach (e::es) X.env=(false,eval e X.env)::starEach es X.env:=by rfl) (hpl:(backTo pos (starEach es X.env)).any (·.1)=false:=by rfl)
  (ht:eval (.Call (.Attribute o m apos) (e::es) [] pos) X.env=(do
   let ov ←eval o X.env
   standAt apos.atName
   let (f,first) ←holding [ov] (getMethod ov m pl)
   callWith pos f first (backTo pos (starEach (e::es) X.env)) (backToKw pos (keywordEach [] X.env))):=by rfl):EvD X α (.Call (.Attribute o m apos) (e::es) [] pos) Q:=by
 obtain⟨rfl,rfl,rfl,rfl,rfl⟩:=hX
 exact oi D hr h hst hpl ht
theorem mn (D:yU P w K mg base C m k φ)(hX:pX X P w K mg base)(hr:zy k X.A)(h:EvD X α o fun x=>∃fs,x=yV C fs∧vp fs m=none∧φ [.dat (yV C fs)] fun a=>Q a.d)
  (ht:eval (.Call (.Attribute o m apos) [] [] pos) X.env=(do
   let ov ←eval o X.env
   standAt apos.atName
   let (f,first) ←holding [ov] (getMethod ov m pl)
   callWith pos f first (backTo pos (starEach [] X.env)) (backToKw pos (keywordEach [] X.env))):=by rfl):EvD X α (.Call (.Attribute o m apos) [] [] pos) Q:=by
 obtain⟨rfl,rfl,rfl,rfl,rfl⟩:=hX
 exact vN D hr h ht
end
section
variable {X:Cx}{α:Ev}{pos:Pos}{Q:PyData→Prop}
end
structure Moved (fs:List Addr)(e:Addr)(ts:List Addr)(h h':Heap):Prop where
 keep:∀b o,b≠e→b∉ts→b∉fs→h.get? b=some o→h'.get? b=some o
 slot:∀b o,b∈fs→h.get? b=some o→∃sl,h'.get? b=some {o with slots:=sl}
 exc:∀o vs,h.get? e=some o→o.data=.fields vs→∃o' vs',h'.get? e=some o'∧o'.cls=o.cls∧o'.dict=o.dict∧o'.data=.fields vs'
 there:∀b o,h.get? b=some o→∃o',h'.get? b=some o'
def Ent (h base:Heap)(e T:Addr)(fl:Value):Prop:=
 ∃oe vs oT tv,h.get? e=some oe∧oe.data=.fields vs∧vs[1]?=some (.ref T)∧T≠e∧base.get? T=none∧h.get? T=some oT∧oT.data=.fields tv∧tv[3]?=some fl
def Beg (h base:Heap)(e:Addr)(ts:List Addr):Prop:=
 (ts=[]∧∃oe vs,h.get? e=some oe∧oe.data=.fields vs∧vs[1]?=some .none)∨∃T,ts=[T]∧Ent h base e T .none
theorem vA {base h:Heap}{l:List Env}{b:Addr}(hl:h.FunFrames base l)(hb:b∈frs l):base.get? b=none∧∃o,h.get? b=some o∧∀vs,o.data≠.fields vs:=hl.mem hb
section
variable {M:Model}{A:Around}{E:Value→Shared→Prop}{s:Shared}
theorem xU (o:Obj)(f:Array Value→Array Value):(o.mapFields f).cls=o.cls∧(o.mapFields f).dict=o.dict:=by
 obtain⟨c,d,dt,sl⟩:=o
 cases dt<;>exact⟨rfl,rfl⟩
theorem uV {fs:List Addr}{e T:Addr}{h:Heap}{oT:Obj}{tv:Array Value}{f:Array Value→Array Value}(hT:h.get? T=some oT)(hd:oT.data=.fields tv)(hfs:∀b∈fs,b≠T):Moved fs e [T] h (h.update T (Obj.mapFields f)) where
 keep:=fun b o _ hb _ q=>by
  rw[bf _ _ (fun z=>hb (by rw[←z];exact aA.mpr rfl))]
  exact q
 slot:=fun b o hb q=>⟨o.slots,by rw[bf _ _ (aW (hfs b hb))];exact q⟩
 exc:=fun o vs q d=>by
  by_cases z:T=e
  ·subst z
   rw[hT] at q;cases q
   refine⟨_,_,az _ hT (aJ (aG hd _)),(xU _ _).1,(xU _ _).2,aG hd _⟩
  ·exact⟨o,vs,by rw[bf _ _ z];exact q,rfl,rfl,d⟩
 there:=fun b o q=>by
  by_cases z:T=b
  ·subst z
   exact⟨_,az _ hT (aJ (aG hd _))⟩
  ·exact⟨o,by rw[bf _ _ z];exact q⟩
theorem jE {base:Heap}{l:List Env}{e T:Addr}{fl:Value}{fo:Option Addr}{Q:Unit→Shared→Prop}(hl:s.heap.FunFrames base l)(hk:base.StaysIn s.heap)(x:Ent s.heap base e T fl)
  (h:∀h',Moved (frs l) e [T] s.heap h'→Ent h' base e T (fo.elim .none fun f=>rawInt f)→h'.FunFrames base l→base.StaysIn h'→h'.objs.size=s.heap.objs.size→Q () {s with heap:=h'}):wpAny M A (setFlight (.ref e) fo) Q E s:=by
 obtain⟨oe,vs,oT,tv,he,hd,h1,hne,hb,hT,hdT,h3⟩:=x
 have hsz:3<tv.size:=(aM.mp h3).1
 unfold setFlight
 refine cQ (wpAny_field he hd h1 ?_)
 rw[if_pos (show (Value.ref T != Value.none)=true from by simp)]
 refine wpAny_setField hT hdT hsz (h _ (uV hT hdT fun b hb' z=>?_) ?_ ?_ ?_ (by simp))
 ·obtain⟨_,o,ho,hn⟩:=vA hl hb'
  rw[z,hT] at ho;cases ho
  exact hn _ hdT
 ·exact⟨oe,vs,_,_,by rw[bf _ _ hne];exact he,hd,h1,hne,hb,az _ hT (aJ (aG hdT _)),aG hdT _,by simp[hsz]⟩
 ·refine hl.of_keeps fun b o hb' hn=>⟨o,?_,rfl⟩
  rw[bf _ _ (fun z=>by subst z;rw[hT] at hb';cases hb';exact hn _ hdT)]
  exact hb'
 ·intro b o q
  rw[bf _ _ (fun z=>by subst z;rw[hb] at q;cases q)]
  exact hk b o q
theorem mW {base:Heap}{env:Env}{outer:List Env}{L e:Addr}{oe:Obj}{vs:Array Value}{head:Value}{hadNext:Bool}{Q:Unit→Shared→Prop}
  (hfr:A.frames=some (env::outer)) (hl:s.heap.FunFrames base (env::outer)) (hf:env.frame=some L) (he:s.heap.get? e=some oe) (hkb:base.StaysIn s.heap) (hen:base.get? e=none) (hd:oe.data=.fields vs) (hsz:1<vs.size)
  (h:∀h' T,Moved (frs (env::outer)) e [] s.heap h'→s.heap.objs.size≤T→Ent h' base e T (rawInt L)→h'.FunFrames base (env::outer)→base.StaysIn h'→Q () {s with heap:=h'}):
  wpAny M A (do let a ←frameOf env;let pl ←entryPlaceOf L hadNext;let b ←EntryCells.newEntry head a .none (rawInt L) .none pl;setField (.ref e) 1 b) Q E s:=by
 have hene:e∉frs (env::outer):=fun hm=>by
  obtain⟨_,o,ho,hnf⟩:=vA hl hm
  rw[he] at ho;injection ho with ho;subst ho;exact hnf vs hd
 refine cQ (wpAny_frameOf_fun hfr hl hf fun h₁ hs₁=>?_)
 refine cQ (wpAny_entryPlaceOf fun pl hpl=>?_)
 unfold EntryCells.newEntry newFields
 refine cQ (wpAny_newObj_type ?_ (hpl.sizeOk5 _ _ _ _ _))
 have he₁:h₁.get? e=some oe:=(hs₁.2.1 e hene).trans he
 have kb₁:base.StaysIn h₁:=fun b o hbo=>(hs₁.2.1 b fun hm=>by rw[(vA hl hm).1] at hbo;cases hbo).trans (hkb b o hbo)
 generalize hob:({cls:=.type "traceback",dict:=none,data:=.fields ([head,.ref L,.none,rawInt L,.none]++(if pl.isEmpty then List.replicate 6 Value.none else pl)).toArray}:Obj)=ob
 have obd:ob.data=.fields ([head,.ref L,.none,rawInt L,.none]++(if pl.isEmpty then List.replicate 6 Value.none else pl)).toArray:=by rw[←hob]
 have he₂:=cS (h:=h₁) ob he₁
 refine wpAny_setField he₂ hd hsz ?_
 have hTe:h₁.objs.size≠e:=za9 (cV he₁)
 have hd₃:=aG hd (·.setIfInBounds 1 (Value.ref h₁.objs.size))
 have he₃:=az (Obj.mapFields (·.setIfInBounds 1 (Value.ref h₁.objs.size))) he₂ (aJ hd₃)
 have hT₃:((h₁.push ob).update e (Obj.mapFields (·.setIfInBounds 1 (Value.ref h₁.objs.size)))).get? h₁.objs.size=some ob:=
  (bf (h₁.push ob) (Obj.mapFields (·.setIfInBounds 1 (Value.ref h₁.objs.size))) (aW hTe)).trans (bK h₁ (aJ obd))
 have keep:∀b o,b≠e→h₁.get? b=some o→((h₁.push ob).update e (Obj.mapFields (·.setIfInBounds 1 (Value.ref h₁.objs.size)))).get? b=some o:=fun b o hbe hb=>by
  rw[bf _ _ (aW hbe)]
  exact cS _ hb
 refine h _ h₁.objs.size ⟨fun b o hb _ hf q=>keep b o hb ((hs₁.2.1 b hf).trans q),fun b o hb q=>?_,fun o vs' q d=>?_,fun b o q=>?_⟩ (by rw[hs₁.1];exact cU _) ⟨_,_,ob,_,he₃,hd₃,by simp[hsz],hTe,kb₁.fresh,hT₃,obd,by simp⟩ ?_ (fun b o q=>keep b o (fun z=>by rw[z,hen] at q;cases q) (kb₁ b o q))
 ·obtain⟨sl,hs⟩:=hs₁.2.2 b o q
  exact⟨sl,keep b _ (fun z=>hene (z▸hb)) hs⟩
 ·rw[he] at q;cases q
  exact⟨_,_,he₃,(xU _ _).1,(xU _ _).2,hd₃⟩
 ·by_cases z:b=e
  ·subst z;exact⟨_,he₃⟩
  ·obtain⟨sl,hs⟩:=hs₁.2.2 b o q
   exact⟨_,keep b _ z hs⟩
 ·refine hl.of_keeps fun b o hb hn=>?_
  obtain⟨sl,hs⟩:=hs₁.2.2 b o hb
  exact⟨_,keep b _ (fun z=>by subst z;rw[he] at hb;cases hb;exact hn _ hd) hs,rfl⟩
theorem eA {base:Heap}{env:Env}{outer:List Env}{L e:Addr}{ts:List Addr}{Q:Unit→Shared→Prop}
  (hfr:A.frames=some (env::outer)) (hl:s.heap.FunFrames base (env::outer)) (hf:env.frame=some L) (hkb:base.StaysIn s.heap) (hen:base.get? e=none) (x:Beg s.heap base e ts)
  (h:∀h' T,Moved (frs (env::outer)) e ts s.heap h'→s.heap.objs.size≤T→Ent h' base e T (rawInt L)→h'.FunFrames base (env::outer)→base.StaysIn h'→Q () {s with heap:=h'}):wpAny M A (noteFrame (.ref e) env) Q E s:=by
 rcases x with ⟨rfl,oe,vs,he,hd,h1⟩|⟨T,rfl,oe,vs,oT,tv,he,hd,h1,hne,hb,hT,hdT,h3⟩
 ·unfold noteFrame
  simp only[hf]
  refine cQ (wpAny_field he hd h1 ?_)
  rw[if_neg (by decide)]
  exact mW hfr hl hf he hkb hen hd (aM.mp h1).1 h
 ·unfold noteFrame
  simp only[hf]
  refine cQ (wpAny_field he hd h1 ?_)
  rw[if_pos (show (Value.ref T != Value.none)=true from by simp)]
  refine cQ (wpAny_field hT hdT h3 ?_)
  rw[if_neg (show ¬((Value.none == rawInt L)=true) from by simp[rawInt])]
  refine cQ (wpAny_setField hT hdT (aM.mp h3).1 ?_)
  have hfs:∀b∈frs (env::outer),b≠T:=fun b hb' z=>by
   obtain⟨_,o,ho,hn⟩:=vA hl hb'
   rw[z,hT] at ho;cases ho
   exact hn _ hdT
  have mv:Moved (frs (env::outer)) e [T] s.heap (s.heap.update T (Obj.mapFields (·.setIfInBounds 3 Value.none))):=uV hT hdT hfs
  refine mW (s:={s with heap:=s.heap.update T (Obj.mapFields (·.setIfInBounds 3 Value.none))}) hfr ?_ hf (show (s.heap.update T (Obj.mapFields (·.setIfInBounds 3 Value.none))).get? e=some oe by rw[bf _ _ hne];exact he) ?_ hen hd (aM.mp h1).1 fun h' T' m1 m2 m3 m4 m5=>?_
  ·refine hl.of_keeps fun b o hb' hn=>⟨o,?_,rfl⟩
   rw[bf _ _ (fun z=>by subst z;rw[hT] at hb';cases hb';exact hn _ hdT)]
   exact hb'
  ·intro b o q
   show (s.heap.update T _).get? b=some o
   rw[bf _ _ (fun z=>by subst z;rw[hb] at q;cases q)]
   exact hkb b o q
  ·refine h h' T' ⟨fun b o q1 q2 q3 q=>m1.keep b o q1 (by simp) q3 (mv.keep b o q1 q2 q3 q),fun b o q1 q=>?_,fun o vs' q d=>?_,fun b o q=>?_⟩ (by have m2:(s.heap.update T _).objs.size≤T':=m2;simpa using m2) m3 m4 m5
   ·obtain⟨sl,e1⟩:=mv.slot b o q1 q
    obtain⟨sl',e2⟩:=m1.slot b _ q1 e1
    exact⟨sl',e2⟩
   ·obtain⟨o1,vs1,e1,c1,d1,f1⟩:=mv.exc o vs' q d
    obtain⟨o2,vs2,e2,c2,d2,f2⟩:=m1.exc o1 vs1 e1 f1
    exact⟨o2,vs2,e2,c2.trans c1,d2.trans d1,f2⟩
   ·obtain⟨o1,e1⟩:=mv.there b o q
    exact m1.there b o1 e1
theorem lS {base:Heap}{env:Env}{L e T:Addr}{Q:Unit→Shared→Prop}(hf:env.frame=some L)(x:Ent s.heap base e T (rawInt L))(h:Q () s):wpAny M A (noteFrame (.ref e) env) Q E s:=by
 obtain⟨oe,vs,oT,tv,he,hd,h1,hne,hb,hT,hdT,h3⟩:=x
 exact wpAny_noteFrame_inFlight hf he hd h1 hT hdT h3 h
end
section
variable {P:Program}{w:World}{H H0:Hp}{h h' h0:Heap}{fs fs' ts:List Addr}{e:Addr}
theorem HOk.moved (x:HOk P w H h)(m:Moved fs e ts h h')(hfs:∀b∈fs,H b=none)(hts:∀b∈ts,H b=none)(he:∃C d,H e=some (xcO e C d)):HOk P w H h':=fun a o q=>by
 obtain⟨C,d,he⟩:=he
 by_cases z:a=e
 ·subst z
  rw[he] at q;cases q
  obtain⟨⟨o,vs,h1,h2,h3,h4⟩,_,st⟩:=x _ _ he
  obtain⟨o',vs',g1,g2,g3,g4⟩:=m.exc o vs h1 h4
  exact⟨⟨o',vs',g1,g2.trans h2,g3.trans h3,g4⟩,⟨o',g1⟩,st⟩
 ·have nf:∀{b:Addr} {u:HO},H b=some u→b∉fs:=fun {b u} hb q=>by rw[hfs b q] at hb;cases hb
  have nt:∀{b:Addr} {u:HO},H b=some u→b∉ts:=fun {b u} hb q=>by rw[hts b q] at hb;cases hb
  refine (x a o q).stay (fun b u hb e1=>?_) (fun _ q=>q) fun _ _ q=>q
  rcases hb with rfl|hb
  ·exact m.keep _ _ z (nt q) (nf q) e1
  ·refine m.keep _ _ (fun z=>?_) (nt hb) (nf hb) e1
   rw[z,he] at hb;cases hb
end
def CX1 (P:Program)(w:World)(base:Heap):CXT:=fun outer H s E e s'=>∃a T H',e=.ref a∧s'.os=s.os∧AllBare s'.gens∧Un (frs outer) [] H H' s.heap s'.heap∧HOk P w H' s'.heap∧(∃C d,H' a=some (xcO a C d))∧H' T=none∧s.heap.get? T=none∧Ent s'.heap base a T .none∧E (.ref a) none H'
inductive Fl (X:Cx)(H:Hp)(h:Heap)(a:Addr):Prop where
 |new {oe:Obj} {vs:Array Value}:h.get? a=some oe→oe.data=.fields vs→vs[1]?=some .none→Fl X H h a
 |old {T:Addr}:H T=none→X.s₀.heap.get? T=none→(∀p∈X.pn,p.1≠T)→Ent h X.base a T .none→Fl X H h a
 |here {T:Addr}:H T=none→X.s₀.heap.get? T=none→(∀p∈X.pn,p.1≠T)→Ent h X.base a T (rawInt X.env.locals)→Fl X H h a
def XE (X:Cx)(R:St→Addr→Hp→Prop):Value→Shared→Prop:=fun e s=>∃σ H a,e=.ref a∧Inv X [] σ H s∧(∃C d,H a=some (xcO a C d))∧Fl X H s.heap a∧R σ a H
section
variable {X:Cx}{pins:List (Addr×Obj)}{σ:St}{H H':Hp}{s s':Shared}{a:Addr}
theorem Inv.nopins (I:Inv X pins σ H s):Inv X [] σ H s:=I.pins_of fun p hp=>by cases hp
theorem Inv.basex (I:Inv X pins σ H s)(h:H a≠none):X.base.get? a=none:=by
 cases q:X.base.get? a with
 |none=>rfl
 |some o=>exact absurd (I.bs a o q).2 h
theorem Inv.moved {ts:List Addr}{h':Heap}(I:Inv X pins σ H s)(hst:X.stack=X.env::X.outer)(m:Moved (frs X.stack) a ts s.heap h')(ha:∃C d,H a=some (xcO a C d))(hts:∀T∈ts,H T=none∧X.s₀.heap.get? T=none∧(∀p∈X.pn++pins,p.1≠T)∧∃o vs,s.heap.get? T=some o∧o.data=.fields vs):Inv X pins σ H {s with heap:=h'}:=by
 have ha':H a≠none:=by obtain⟨C,d,z⟩:=ha;rw[z];simp
 have hf:X.env.frame=some X.env.locals:=by
  rcases I.ok.stk with z|⟨_,z⟩
  ·rw[hst] at z;exact absurd (congrArg List.length z) (by simp)
  ·exact z
 have mem:∀b∈frs X.stack,b=X.env.locals∨b∈X.fs:=fun b hb=>by
  rw[hst] at hb
  unfold frs at hb
  rw[List.filterMap_cons_some hf] at hb
  rcases cY.mp hb with z|z
  ·exact .inl z
  ·exact .inr z
 have dat:∀{b:Addr} {o:Obj},s.heap.get? b=some o→(∀vs,o.data≠.fields vs)→b∉ts:=fun {b o} q n z=>by
  obtain⟨_,_,_,o',vs,q',d⟩:=hts b z
  rw[q] at q';cases q'
  exact n vs d
 obtain⟨mm,hn,hl⟩:=id I.loc
 obtain⟨oL,es,ep,hoL,hdL,hrL⟩:=id hn
 have hLL:∃sl,h'.get? X.env.locals=some {oL with slots:=sl}:=m.slot _ _ (by rw[hst];unfold frs;rw[List.filterMap_cons_some hf];exact bp) hoL
 have hn':h'.Ns X.env.locals mm:=by obtain⟨sl,z⟩:=hLL;exact⟨_,es,ep,z,hdL,hrL⟩
 have cells:∀{x:Str} {c:Addr} {v:Option Value},X.env.cells.lookup x=some c→s.heap.IsCell c v→h'.IsCell c v:=fun {x c v} e ⟨oc,hoc,hd⟩=>by
  by_cases z:c∈frs X.stack
  ·obtain⟨sl,z'⟩:=m.slot c oc z hoc
   exact⟨_,z',hd⟩
  ·exact⟨oc,m.keep c oc (fun z=>ha' (z▸I.freeC x c e)) (dat hoc fun vs q=>by rw[hd] at q;cases q) z hoc,hd⟩
 have un:Un X.fs X.ex X.H₀ H X.s₀.heap h':=by
  have u:=I.base
  have ne:∀{b:Addr} {o:Obj},X.s₀.heap.get? b=some o→X.H₀ b=none→b∉X.ex→b≠a:=fun {b o} q n hx z=>ha' (z▸u.free b o q n hx)
  have nt:∀{b:Addr} {o:Obj},X.s₀.heap.get? b=some o→b∉ts:=fun {b o} q z=>by rw[(hts b z).2.1] at q;cases q
  have nl:∀{b:Addr} {o:Obj},X.s₀.heap.get? b=some o→b≠X.env.locals:=fun {b o} q=>bx (bh (cV q) I.ok.above)
  refine⟨fun b o q n hb hx=>m.keep b o (ne q n hx) (nt q) (fun z=>(mem b z).elim (nl q) hb) (u.keep b o q n hb hx),fun b o q n hb hx=>?_,u.free,fun b o q hx=>?_,u.tups,u.frzs,u.tbls⟩
  ·obtain⟨sl,e1⟩:=u.slot b o q n hb hx
   by_cases z:b∈frs X.stack
   ·obtain⟨sl',e2⟩:=m.slot b _ z e1
    exact⟨sl',e2⟩
   ·exact⟨sl,m.keep b _ (ne q n hx) (nt q) z e1⟩
  ·obtain⟨o',e1⟩:=u.there b o q hx
   exact m.there b o' e1
 refine⟨I.ok,I.os,I.bare,un,⟨mm,hn',fun i x v e1 e2 e3=>?_⟩,fun x c e=>?_,I.free,I.freeC,fun p hp=>?_,I.hok.moved m I.stkFree (fun b hb=>(hts b hb).1) ha,I.len⟩
 ·obtain⟨u,r,q⟩:=hl i x v e1 e2 e3
  refine⟨u,r,?_⟩
  rcases q with q|⟨k,c,e,z⟩
  ·exact .inl q
  ·exact .inr ⟨k,c,e,cells e z⟩
 ·obtain⟨v,z⟩:=I.cell x c e
  exact⟨v,cells e z⟩
 ·obtain⟨e,n,ne,nf,d⟩:=I.pin p hp
  exact⟨m.keep _ _ (fun z=>ha' (z▸n)) (fun z=>(hts _ z).2.2.1 p hp rfl) (fun z=>(mem _ z).elim ne nf) e,n,ne,nf,d⟩
theorem Fl.beg (f:Fl X H s.heap a):(∃ts,Beg s.heap X.base a ts∧∀T∈ts,H T=none∧X.s₀.heap.get? T=none∧(∀p∈X.pn,p.1≠T)∧∃o vs,s.heap.get? T=some o∧o.data=.fields vs)∨∃T,H T=none∧X.s₀.heap.get? T=none∧(∀p∈X.pn,p.1≠T)∧Ent s.heap X.base a T (rawInt X.env.locals):=by
 cases f with
 |new h1 h2 h3=>exact .inl ⟨[],.inl ⟨rfl,_,_,h1,h2,h3⟩,fun T hT=>by cases hT⟩
 |@old T h1 h2 h3 h4=>
  refine .inl ⟨[T],.inr ⟨T,rfl,h4⟩,fun T' hT=>?_⟩
  rw[aA] at hT
  subst hT
  obtain⟨_,_,oT,tv,_,_,_,_,_,hT,hdT,_⟩:=h4
  exact⟨h1,h2,h3,oT,tv,hT,hdT⟩
 |@here T h1 h2 h3 h4=>exact .inr ⟨T,h1,h2,h3,h4⟩
theorem Inv.stkf (I:Inv X pins σ H s)(hst:X.stack=X.env::X.outer):X.env.frame=some X.env.locals:=by
 rcases I.ok.stk with z|⟨_,z⟩
 ·rw[hst] at z;exact absurd (congrArg List.length z) (by simp)
 ·exact z
theorem Inv.stays (I:Inv X pins σ H s):X.base.StaysIn s.heap:=I.bk
theorem Inv.note {M:Model}{Q:Unit→Shared→Prop}{E:Value→Shared→Prop}(I:Inv X [] σ H s)(hst:X.stack=X.env::X.outer)(ha:∃C d,H a=some (xcO a C d))(f:Fl X H s.heap a)
  (h:∀h' T,Inv X [] σ H {s with heap:=h'}→H T=none→X.s₀.heap.get? T=none→(∀p∈X.pn,p.1≠T)→Ent h' X.base a T (rawInt X.env.locals)→Q () {s with heap:=h'}):wpAny M X.A (noteFrame (.ref a) X.env) Q E s:=by
 have ha':H a≠none:=by obtain⟨C,d,z⟩:=ha;rw[z];simp
 have hf:=I.stkf hst
 rcases f.beg with ⟨ts,bg,ht⟩|⟨T,h1,h2,h3,h4⟩
 ·refine eA (by rw[←hst];exact I.ok.frames) (by rw[←hst];exact I.stack) hf I.stays (I.basex ha') bg fun h' T m1 m2 m3 _ _=>?_
  have I':Inv X [] σ H {s with heap:=h'}:=I.moved hst (by rw[hst];exact m1) ha fun T hT=>by
   obtain⟨q1,q2,q3,q4⟩:=ht T hT
   exact⟨q1,q2,fun p hp=>q3 p (by simpa using hp),q4⟩
  refine h h' T I' (I.hok.fresh m2) (Heap.get?_none_of_le (ae I.sz m2)) (fun p hp z=>?_) m3
  have:=cV (I.pin p (by simpa using hp)).1
  rw[z] at this
  exact absurd this (Nat.not_lt.mpr m2)
 ·exact lS hf h4 (by have:=h s.heap T I h1 h2 h3 h4;exact this)
theorem Inv.flight {M:Model}{Q:Unit→Shared→Prop}{E:Value→Shared→Prop}{A:Around}{T:Addr}{fl:Value}{fo:Option Addr}(I:Inv X pins σ H s)(hst:X.stack=X.env::X.outer)(ha:∃C d,H a=some (xcO a C d))(h1:H T=none)(h2:X.s₀.heap.get? T=none)(h3:∀p∈X.pn++pins,p.1≠T)(x:Ent s.heap X.base a T fl)
  (h:∀h',Inv X pins σ H {s with heap:=h'}→Ent h' X.base a T (fo.elim .none fun f=>rawInt f)→Q () {s with heap:=h'}):wpAny M A (setFlight (.ref a) fo) Q E s:=by
 refine jE (l:=X.stack) I.stack I.stays x fun h' m1 m2 _ _ _=>h h' (I.moved hst m1 ha fun T' hT=>?_) m2
 rw[aA] at hT
 subst hT
 obtain⟨_,_,oT,tv,_,_,_,_,_,hT,hdT,_⟩:=x
 exact⟨h1,h2,h3,oT,tv,hT,hdT⟩
theorem gN {R:St→Addr→Hp→Prop}(hst:X.stack=X.env::X.outer):PassesOwn (model X.prog X.w) X.A X.env (XE X R):=by
 rintro e s ⟨σ,H,a,rfl,I,ha,f,r⟩
 refine I.note hst ha f fun h' T I' h1 h2 h3 h4=>?_
 obtain⟨oe,vs,oT,tv,he,hd,hv,_⟩:=id h4
 show wpAny _ _ _ _ _ _
 refine cQ (wpAny_field he hd hv ?_)
 rw[if_neg (by simp)]
 rw[I.stkf hst]
 refine I'.flight hst ha h1 h2 (by simpa using h3) h4 fun h'' I'' e''=>?_
 exact⟨σ,H,a,rfl,I'',ha,.here h1 h2 h3 e'',r⟩
theorem pj {R:St→Addr→Hp→Prop}{E:XK}{e:Value}(hex:X.ex=[])(I:Inv X pins σ H s)(h:CX1 X.prog X.w X.base X.stack H s E e s')(hE:∀a H',E (.ref a) none H'→R σ a H'):XE X R e s':=by
 obtain⟨a,T,H',rfl,ho,hg,u,hok,ha,h1,h2,h3,hE'⟩:=h
 have I':Inv X pins σ H' s':=I.call' (ch:=[]) ho u hok hg fun b hb=>by cases hb
 refine⟨σ,H',a,rfl,I'.nopins,ha,.old h1 ?_ (fun p hp z=>?_) h3,hE a H' hE'⟩
 ·cases q:X.s₀.heap.get? T with
  |none=>rfl
  |some o=>
   exfalso
   obtain⟨o',e1⟩:=I.base.there T o q (by rw[hex];simp)
   rw[h2] at e1;cases e1
 ·have:=(I.pin p (zb9 _ hp)).1
  rw[z,h2] at this;cases this
end
section
variable {X:Cx}{E':Value→Shared→Prop}
theorem PSs.wishx {st:List Stmt}{t:TS}(h:PSs (X.wish E') st t)(k:∀e s,E' e s→X.xe e s):PSs X st t:=fun pins s σ H D I hw=>
 bF (h pins s σ H D (I.wish _) hw) (fun _ _ q=>q.unwish) fun e s z=>k e s z
end
section
variable {P:Program}{w:World}{K:PySem.W.Frag}{mg:Str→Option Value}{base:Heap}
theorem pZ {N:List Str}{qual:Str}{scope:Scope}{f:Addr}{cd:Value}{A:Around}{outer:List Env}{s₀ s:Shared}{H₀:Hp}{E:XK}{e:Value}
  (h:XE (yB (CX1 P w base) P w K mg base N qual scope f cd A outer s₀ H₀ E) (fun _ a H=>E (.ref a) none H) e s):(yB (CX1 P w base) P w K mg base N qual scope f cd A outer s₀ H₀ E).xe e s:=by
 obtain⟨σ,H,a,rfl,I,ha,f',r⟩:=h
 show wpAny _ _ (leaving _ _) _ _ _
 unfold leaving
 refine cQ (I.note rfl ha f' fun h' T I' h1 h2 h3 h4=>?_)
 refine I'.flight (fo:=none) rfl ha h1 h2 (by simpa using h3) h4 fun h'' I'' e''=>?_
 exact⟨a,T,H,rfl,I''.os,I''.bare,I''.base,I''.hok,ha,h1,h2,e'',r⟩
theorem Fun.okX {x qual:Str}{st:Stmt}{f:Addr}{fd:FuncData}{N ps:List Str}{k:Nat}{sp:Sp}(F:Fun K x qual st f fd)(S:zg N ps (za st))(len:∀vs H Q E,sp vs H Q E→vs.length=ps.length)
  (hbody:∀(cdv:Value) (A:Around) (outer:List Env) (s:Shared) (H:Hp) (vs:List V) (Q:VK) (E:XK),zy k (A.deeper (envOfC qual (za st) s.heap.objs.size f cdv))→sp vs H Q E→
   ∃t,PSs ((yB (CX1 P w base) P w K mg base N qual (za st) f cdv A outer s H E).wish (XE (yB (CX1 P w base) P w K mg base N qual (za st) f cdv A outer s H E) fun _ a H=>E (.ref a) none H)) (zr st) t∧t {nx:=fun _ H'=>Q .non H',rt:=Q} (start N vs) H):zo P w K mg base (CX1 P w base) (k+1) f fd ps sp:=by
 obtain⟨oc,od,kV,doc,pm,an,cdv,ct,osl,rfl,lk,hcd⟩:=F.ex
 refine oF lk hcd S len fun A outer s H vs Q E hr hsp=>?_
 obtain⟨t,h,q⟩:=hbody cdv A outer s H vs Q E hr hsp
 exact⟨t,h.wishx fun e s z=>pZ z,q⟩
end
section
variable {prog:Program}{w:World}{A:Around}{E:Value→Shared→Prop}{h:Heap}{g:Array GenState}{d:Drawn}{t:Nat}{os:OsState}
variable {nm q:Str}{C N:Addr}{bs bm bmB:List Value}{hdct:Bool}{sn:List Str}{sub:List Value}{ab:Bool}{col:Option Bool}{dd:Option Addr}{k0 k1 k2 k3 k5:Option Value}{B Bn newId nid initId inN:String}{bmN:List Value}
abbrev uh (C t:Addr)(d:Option Addr):Obj:={cls:=.ref C,dict:=d,data:=.fields #[.ref t,.none,.none,.none,.bool false,.none]}
def yz (h:Heap)(C:Addr)(rest:List Value):Heap:=(h.push {cls:=.type "tuple",data:=.seq rest.toArray}).push (uh C h.objs.size none)
theorem qD (Fn:ExcBaseFacts Bn newId inN bmN)(hBn:bmB.contains (.type Bn)=true)(F:ExcBaseFacts B nid initId bmB)(T:OwnTail h bmB bm){mN:Str→Option Value}{rest:List Value}{fI:Addr}{oI:Obj}{Q:Fin→Shared→Prop}
  (hC:h.get? C=some (excClassObj nm q C N bs bm hdct sn sub ab col dd k0 k1 k2 k3 k5 newId)) (hn:h.Ns N mN) (hi:mN "__init__"=some (.ref fI))
  (hfI:h.get? fI=some oI) (hfc:oI.cls=.type "function")
  (hq:wpAny (model prog w) A (call (.ref fI) (.ref (h.objs.size+1)::rest)) (fun r s'=>r=.none∧Q (.done (.ret (.ref (h.objs.size+1)))) s') E ⟨yz h C rest,g,d,t,os⟩) (hrest:rest.length≤sizeLine):
  wpAny (model prog w) A (Builtin.«type.__call__» ⟨.ref C::rest,[]⟩) Q E ⟨h,g,d,t,os⟩:=by
 repeat (first|with_reducible refine ah hC ?_|with_reducible refine wpAny_madeBy_exc hC ?_|wp_step)
 refine codeAny_call_builtin_code (zb0 _ Fn.quiet) (wpAny_check_new_subU Fn hBn T hC ?_)
 refine codeAny_exc_new_subU Fn hBn F T hC ?_ hrest
 show wpAny _ _ _ _ _ ⟨yz h C rest,g,d,t,os⟩
 have keep:∀b o,h.get? b=some o→(yz h C rest).get? b=some o:=fun b o e=>cS _ (cS _ e)
 have hC₁:=keep _ _ hC
 have hfI₁:=keep _ _ hfI
 have hn₁:(yz h C rest).Ns N mN:=let ⟨o,es,ep,e,r⟩:=hn;⟨o,es,ep,keep _ _ e,r⟩
 have hget:(yz h C rest).get? (h.objs.size+1)=some (uh C h.objs.size none):=by unfold yz;heap_get
 have hcC:(Value.ref C::bm).contains (.ref C)=true:=by simp
 have T₁:=T.keeps keep
 unfold isInstance
 repeat (first|with_reducible refine ah hget ?_|(with_reducible refine wpAny_isSubtype_exc hC₁ ?_;rw[hcC])|wp_step)
 show wpAny _ _ (typeLookup (.ref C) _) _ _ _
 refine wpAny_typeLookup_tail hC₁ hn₁ T₁ F.mroIs F.init.lookup ?_
 rw[hi]
 refine aK (cQ ?_)
 unfold bindSpecial
 refine cQ (wpAny_typeOf (T:="function") ⟨_,hfI₁,hfc⟩ ?_)
 rw[if_pos (by decide)]
 refine bc (cQ (bF hq (fun r s' hr=>?_) fun _ _ x=>x))
 obtain⟨rfl,hQ⟩:=hr
 wp_walk
 exact hQ
theorem dM (Fn:ExcBaseFacts Bn newId inN bmN)(hBn:bmB.contains (.type Bn)=true)(F:ExcBaseFacts B nid initId bmB)(T:OwnTail h bmB bm){mN:Str→Option Value}{rest:List Value}{fI:Addr}{oI:Obj}{Q:Value→Shared→Prop}
  (hC:h.get? C=some (excClassObj nm q C N bs bm hdct sn sub ab col dd k0 k1 k2 k3 k5 newId)) (hn:h.Ns N mN) (hi:mN "__init__"=some (.ref fI))
  (hfI:h.get? fI=some oI) (hfc:oI.cls=.type "function")
  (hq:wpAny (model prog w) (A.under (.builtin "type.__call__" ⟨.ref C::rest,[]⟩)) (call (.ref fI) (.ref (h.objs.size+1)::rest)) (fun r s'=>r=.none∧Q (.ref (h.objs.size+1)) s') E ⟨yz h C rest,g,d,t,os⟩) (hrest:rest.length≤sizeLine):
  wpAny (model prog w) A (call (.ref C) rest) Q E ⟨h,g,d,t,os⟩:=by
 have f1:=tc_lookup
 have f2:=tc_bind (.ref C)
 have hT:(⟨h,g,d,t,os⟩:Shared).TypeIs (.ref C) "type":=⟨_,hC,rfl⟩
 refine aO (codeAny_of_tree ?_)
 show wpAny _ _ (callAny (.ref C) _) _ _ _
 repeat (any_goals (first|assumption|with_reducible refine ah hC ?_|wp_step))
 refine⟨rfl,?_⟩
 exact codeAny_call_builtin_at (zb0 _ (by decide +kernel)) entry_typeCall (wpAny_check_type_call_sub hC (qD Fn hBn F T hC hn hi hfI hfc hq hrest))
theorem gQ {M:Model}{s:Shared}{env:Env}{x:Sem Value}{Q:Flow→Shared→Prop}(hbase:bm.contains (.type "BaseException")=true)(hh:A.handled=none)
  (h:wpAny M A x (fun v s₁=>∃e t d,v=.ref e∧s₁.heap.get? C=some (excClassObj nm q C N bs bm hdct sn sub ab col dd k0 k1 k2 k3 k5 newId)∧s₁.heap.get? e=some (uh C t d)∧E (.ref e) s₁) E s):
  wpAny M A (raiseStmt env (some x) none) Q E s:=by
 have hcB:(Value.ref C::bm).contains (.type "BaseException")=true:=by rw[List.contains_cons,hbase,Bool.or_true]
 unfold raiseStmt
 refine cQ (bF h (fun v s₁ h₁=>?_) fun _ _ x=>x)
 obtain⟨e,t,d,rfl,hC,he,hE⟩:=h₁
 obtain⟨hp,g,d,tk,os⟩:=s₁
 repeat (first|with_reducible refine ah he ?_|with_reducible refine ah hC ?_|(with_reducible refine wpAny_isSubtype_exc hC ?_;rw[hcB])|wp_step)
 exact wpAny_raiseNew_none hh hE
end
open Builtin Builtin.ObjectAttr
def bmV :List Value:=[.type "ValueError",.type "Exception",.type "BaseException",.type "object"]
def xH (K:Frag)(C S:Addr)(init:Option Value):Bool:=match K.lookup C with
 |some ⟨.type "type",_,.cls cd,sl⟩=>(match sl.toList with
  |[_,_,_,_,some (.builtin n),_]=>cd.mro == .ref C::.ref S::bmV&&n == "ValueError.__new__"&&!cd.hasDel&&cd.hasDict&&tailIn K bmV (.ref S::bmV)&&nsOkIn K cd.ns&&nsIn K cd.ns "__init__" == some init
  |_=>false)
 |_=>false
theorem mF {K:Frag}{h:Heap}{N:Addr}{mg:Str→Option Value}{n:Str}{v:Option Value}(X:K.In h)(G:h.Ns N mg)(e:nsIn K N n=some v):mg n=v:=by
 cases v with
 |none=>exact ns_none_of X G e
 |some v=>
  obtain⟨o,es,ep,ho,hd,_,hf⟩:=G
  unfold nsIn at e
  split at e
  ·rename_i c d es' n' sl q
   have:=X _ _ q
   rw[ho] at this
   cases this
   cases hd
   split at e
   ·rename_i en he
    cases e
    rw[←hf]
    unfold nsFind findBy
    rw[←Array.find?_toList,he]
    rfl
   ·split at e<;>cases e
  ·cases e
theorem yD {K:Frag}{h:Heap}{C S:Addr}{init:Option Value}(X:K.In h)(q:xH K C S init=true):
  ∃nm qn N bs sn sub ab col dd k0 k1 k2 k3 k5 mN,h.get? C=some (excClassObj nm qn C N bs (.ref S::bmV) true sn sub ab col dd k0 k1 k2 k3 k5 "ValueError.__new__")∧h.Ns N mN∧mN "__init__"=init∧OwnTail h bmV (.ref S::bmV)∧∃cd,clsIn K C=some cd∧cd.hasDict=true∧cd.mro=.ref C::.ref S::bmV∧K.lookup C=some (excClassObj nm qn C N bs (.ref S::bmV) true sn sub ab col dd k0 k1 k2 k3 k5 "ValueError.__new__"):=by
 unfold xH at q
 split at q
 ·rename_i dd cd sl ho
  split at q
  ·rename_i k0 k1 k2 k3 n k5 hs
   simp only[bu,aN,Bool.not_eq_true'] at q
   obtain⟨⟨⟨⟨⟨⟨hm,hn⟩,hdel⟩,hdd⟩,ht⟩,hok⟩,hni⟩:=q
   obtain⟨nm,bs,mro,ns,qn,hd,sn,sub,ab,col,del⟩:=cd
   dsimp only at hm hdel hok hni hdd
   subst hm hdel hn hdd
   have hsl:sl=#[k0,k1,k2,k3,some (.builtin "ValueError.__new__"),k5]:=by
    obtain⟨l⟩:=sl
    simp only at hs
    rw[hs]
   subst hsl
   have N:=Heap.Ns.of_isNs (isNs_of_in X hok)
   exact⟨nm,qn,ns,bs,sn,sub,ab,col,dd,k0,k1,k2,k3,k5,_,X _ _ ho,N,mF X N hni,tail_of_in X ht,_,by unfold clsIn;rw[ho],rfl,rfl,ho⟩
  ·cases q
 ·cases q
section
variable {prog:Program}{w:World}{A:Around}{E:Value→Shared→Prop}{h:Heap}{g:Array GenState}{d:Drawn}{t:Nat}{os:OsState}{K:Frag}{C S e t0:Addr}{dx:Option Addr}{init:Option Value}
theorem gc {ox:Obj}(he:h.get? e=some ox)(hc:ox.cls=.ref C)(hd:∃vs,ox.data=.fields vs){od:Option Obj}(hdx:match ox.dict,od with
  |some dx,some o=>h.get? dx=some o
  |none,none=>True
  |_,_=>False):InstAt h e ox C od:=⟨he,hc,by obtain⟨vs,hd⟩:=hd;unfold notCls;rw[hd],hdx⟩
end
structure XC (K:Frag)(C S:Addr)(init:Option Value):Prop where
 ok:xH K C S init=true
 sa:findIn K (.ref C) "__setattr__"=some (some (.builtin "object.__setattr__"))
 ga:findIn K (.ref C) "__getattribute__"=some (some (.builtin "BaseException.__getattribute__"))
 gt:findIn K (.ref C) "__getattr__"=some none
 cl:findIn K (.ref C) "__class__"=some (some (.builtin "object.__class__"))
 cg:specialIn K (.builtin "object.__class__") "__get__"=some (some (.builtin "getset_descriptor.__get__"))
 ct:takesIn K (.builtin "object.__class__")=some true
section
variable {prog:Program}{w:World}{A:Around}{E:Value→Shared→Prop}{h:Heap}{g:Array GenState}{d:Drawn}{t:Nat}{os:OsState}{K:Frag}{C S e t0:Addr}{init:Option Value}
theorem lp {name:Str}{tk:Tok}{fill expr:Bool}{ox:Obj}{od:Option Obj}{Q:Value→Shared→Prop}(X:K.In h)(c:XC K C S init)(I:InstAt h e ox C od)
  (hq:wpAny (model prog w) A.in1 (Builtin.«object.__getattribute__» ⟨[.ref e,.str name tk],[]⟩) (fun fin s'=>match fin with|.done (.ret v)=>wpAny (model prog w) A (handedOut v) Q E s'|_=>False) (fun _ _=>False) ⟨h,g,d,t,os⟩):
  wpAny (model prog w) A (getAttrBy (.ref e) (.str name tk) fill expr) Q E ⟨h,g,d,t,os⟩:=by
 obtain⟨nm,qn,N,bs,sn,sub,ab,col,dd,k0,k1,k2,k3,k5,mN,hC,hN,hi,T,cd,hcd,hdict,hmro,_⟩:=yD X c.ok
 have FA:=PySem.F.attr_ValueError
 unfold getAttrBy
 refine aK (cQ (I.type.at (cQ ((looks_findIn X c.ga).at ?_))))
 have hx2:(Value.builtin "BaseException.__getattribute__" == Value.builtin "object.__getattribute__")=false:=by decide +kernel
 dsimp only
 rw[hx2,Bool.and_false,if_neg (by decide)]
 have hb:Looks (model prog w) h (hookBefore (.ref C)) none:=looks_hook X (by rw[if_pos (show onTheHeap (.ref C)=true from rfl)];exact c.gt)
 refine cQ (hb.at (cQ (wpAny_attempt (aK ?_))))
 unfold callGetattribute
 rw[show (expr&&onTheHeap (Value.builtin "BaseException.__getattribute__"))=false from Bool.and_false _,if_neg (by decide)]
 unfold boundAndCalled
 rw[FA.ga.bind]
 refine cQ (bc ?_)
 have sub:Looks (model prog w) h (isInstance (.ref e) (.type "BaseException")) true:=I.type.andThen (looks_mroIn X (by unfold mroIn;rw[hcd,za2,hmro]<;>rfl))
 show wpAny _ _ (call (.builtin "BaseException.__getattribute__") [.ref e,.str name tk]) _ _ _
 refine aO (codeAny_call_builtin FA.ga.plain PySem.F.entry_bexc_ga (@check_slot (model prog w) _ _ ⟨h,g,d,t,os⟩ "BaseException.__getattribute__" "BaseException" "__getattribute__" (.ref e) [.str name tk] [] _ (by decide +kernel) (by decide +kernel) sub (PySem.F.args_bexc_ga (.ref e) (.str name tk)) ?_))
 refine bF hq (fun fin s' z=>?_) fun _ _ z=>z.elim
 rcases fin with (_|_|_|_)|_<;>first|exact z|exact z.elim
theorem fe {ox:Obj}{od:Option Obj}{Q:Option Value→Shared→Prop}(X:K.In h)(c:XC K C S init)(I:InstAt h e ox C od)(hq:Q (some (.ref C)) ⟨h,g,d,t+1,os⟩):wpAny (model prog w) A (getAttr? (.ref e) "__class__") Q E ⟨h,g,d,t,os⟩:=by
 obtain⟨nm,qn,N,bs,sn,sub,ab,col,dd,k0,k1,k2,k3,k5,mN,hC,hN,hi,T,cd,hcd,hdict,hmro,_⟩:=yD X c.ok
 have hf:findObj K C od "__class__"=some (.bind (.builtin "getset_descriptor.__get__") (.builtin "object.__class__")):=by
  unfold findObj
  rw[hcd,za2,c.cl,za2]
  dsimp only
  rw[c.cg,za2]
  dsimp only
  rw[c.ct]
  rfl
 unfold getAttr? getAttrBy?
 refine cQ (wpAny_mkText (cQ (wpAny_attempt (lp X c I ?_))))
 unfold Builtin.«object.__getattribute__»
 refine cQ (bc (cQ (bc (cQ (I.type.at (cQ ((looks_find X I hf).at ?_)))))))
 show wpAny _ _ (bindTo _ _ _ _) _ _ _
 have hm:mroIn K C (.type "object")=some true:=by unfold mroIn;rw[hcd,za2,hmro]<;>rfl
 refine cQ (aK (aO (class_get (s:=⟨h,g,d,t+1,os⟩) (ox:=ox) (od:=od) X I hm ?_)))
 refine bc ?_
 exact handed_on rfl (bc hq)
theorem jj {ox:Obj}{od:Option Obj}(c:XC K C S init):KitX K (.ref e) (.ref C) (fun h=>InstAt h e ox C od) where
 ty:=fun _ _ _ I=>I.type
 it:=fun _ _ X _=>by
  obtain⟨nm,qn,N,bs,sn,sub,ab,col,dd,k0,k1,k2,k3,k5,mN,hC,_⟩:=yD X c.ok
  intro A' Q' E' s' k q
  unfold isType loadHead
  exact cQ (wpAny_loadPart (k _ _ hC) (bc q))
 ne:=fun h tp dd its n sl X htp=>by
  obtain⟨nm,qn,N,bs,sn,sub,ab,col,dd,k0,k1,k2,k3,k5,mN,hC,_⟩:=yD X c.ok
  refine bw.mpr fun q=>?_
  have e:C=tp:=Value.ref.inj (aN.mp q)
  subst e
  cases (show Data.cls _=Data.seq _ _ from congrArg Obj.data (bt (hC.symm.trans htp)))
 ca:=fun {_ _ _ _ _ s} X I k=>by obtain⟨h,g,d,t,os⟩:=s;exact fe X c I k
structure XB (K:Frag)(C B:Addr):Prop where
 ty:typeIn K (.ref B)=some (.type "type")
 be:mroIn K B (.type "BaseException")=some true
 sub:mroIn K C (.ref B)=some true
theorem gr {B:Addr}{ox:Obj}{od:Option Obj}{Q:Bool→Shared→Prop}(X:K.In h)(b:XB K C B)(I:InstAt h e ox C od)(hq:Q true ⟨h,g,d,t,os⟩):wpAny (model prog w) A (excMatches (.ref e) (.ref B)) Q E ⟨h,g,d,t,os⟩:=by
 have l1:Looks (model prog w) h (isType (.ref B)) true:=by
  obtain⟨cd,hcd,_⟩:=Option.bind_eq_some_iff.mp b.be
  unfold clsIn at hcd
  split at hcd
  ·rename_i c' d' cd' sl' ho
   intro A' Q' E' s' k q
   unfold isType loadHead
   exact cQ (wpAny_loadPart (k _ _ (X _ _ ho)) (bc q))
  ·cases hcd
 have l2:Looks (model prog w) h (isExcClass (.ref B)) true:=l1.andThen (by rw[if_pos rfl];exact looks_mroIn X b.be)
 have l3:Looks (model prog w) h (isInstance (.ref B) (.type "tuple")) false:=(looks_typeIn X b.ty).andThen (Looks.of_pure tc_notTuple)
 have l4:=looks_mroIn (M:=model prog w) X b.sub
 have l5:=I.type (M:=model prog w)
 unfold excMatches
 refine cQ (l3.at ?_)
 rw[if_neg (by decide)]
 refine cQ (bc ?_)
 simp only[List.forIn_cons,List.forIn_nil]
 refine cQ (cQ (cQ (l2.at ?_)))
 refine bc (bc (cQ (l5.at (cQ (cQ (cQ (l4.at ?_)))))))
 exact bc (bc (bc hq))
end
def xcF (a C:Addr)(d:Option Addr):HO:=.ext fun h=>∃t,h.get? a=some (uh C t d)
section
variable {X:Cx}{pins:List (Addr×Obj)}{σ:St}{H:Hp}{s:Shared}{a C:Addr}{d:Option Addr}{pos:Pos}
theorem gW {P:Program}{w:World}{H':Hp}{h:Heap}{t:Addr}(e:h.get? a=some (uh C t d)):zZ P w H' h a (xcF a C d):=⟨⟨t,e⟩,⟨_,e⟩,fun _ _ ⟨t,e⟩ k=>⟨t,k _ e⟩⟩
theorem Inv.xat (I:Inv X pins σ H s)(e:H a=some (xcF a C d)):∃t,s.heap.get? a=some (uh C t d):=(I.hok a _ e).1
theorem Inv.xthaw (I:Inv X pins σ H s)(e:H a=some (xcF a C d)):Inv X pins σ (upd H a (xcO a C d)) s:=by
 obtain⟨t,h⟩:=I.xat e
 have:=I.write (x:=a) (e:=a) (o:=xcO a C d) (h':=s.heap) (t':=s.toks) (by rw[e];exact True.intro) (.inl rfl) (fun _ _ _ q=>q) ⟨_,h⟩ ⟨⟨_,_,h,rfl,rfl,rfl⟩,⟨_,h⟩,fun _ _ ⟨o,vs,h1,h2⟩ k=>⟨o,vs,k _ h1,h2⟩⟩
 exact this
theorem gh {e:Expr}{te:TE}(he:PE X e te):PE X (.FormattedValue e (-1) none pos) (fun σ H Q=>te σ H fun x H1=>∃i:Int,x=.int i∧i.natAbs.log2<1920∧Q (.str (toString i)) H1):=by
 intro pins s σ H Q I h
 refine FormattedValue_plain (thn (he pins s σ H _ I h) fun u s1 ⟨x,H1,I1,rx,i,ex,hi,q⟩=>?_)
 subst ex
 obtain⟨t,rfl⟩:=(show ∃t,u=Value.int i t from rx)
 exact formatField_int_small hi ⟨.str (toString i),H1,I1.tok _,⟨_,rfl⟩,q⟩
def tJ (t:TE)(k:Str→TE):TE:=fun σ H Q=>t σ H fun x H1=>∃a,x=.str a∧a.length≤10000∧k a σ H1 Q
theorem ku {a b c:Expr}{ta tb tc:TE}(ha:PE X a ta)(hb:PE X b tb)(hc:PE X c tc):PE X (.JoinedStr [a,b,c] pos) (tJ ta fun x=>tJ tb fun y=>tJ tc fun z=>fun _ H Q=>Q (.str (Str.empty++x++y++z)) H):=by
 intro pins s σ H Q I h
 refine PyProof.Rows.JoinedStr_many (joinParts_cons (thn (ha pins s σ H _ I h) fun u s1 ⟨x,H1,I1,rx,x',ex,lx,h1⟩=>?_))
 subst ex
 obtain⟨t1,rfl⟩:=(show ∃t,u=Value.str x' t from rx)
 have e0:Str.empty.length=0:=rfl
 refine⟨by rw[ag,za4];omega,joinParts_cons (thn (hb pins s1 σ H1 _ I1 h1) fun u s2 ⟨y,H2,I2,ry,y',ey,ly,h2⟩=>?_)⟩
 subst ey
 obtain⟨t2,rfl⟩:=(show ∃t,u=Value.str y' t from ry)
 refine⟨by rw[ag,ag,za4];omega,joinParts_cons (thn (hc pins s2 σ H2 _ I2 h2) fun u s3 ⟨z,H3,I3,rz,z',ez,lz,h3⟩=>?_)⟩
 subst ez
 obtain⟨t3,rfl⟩:=(show ∃t,u=Value.str z' t from rz)
 have hl:(Str.empty++x'++y'++z').length≤sizeLine:=by rw[ag,ag,ag,za4];omega
 exact⟨hl,joinParts_nil ⟨.str (Str.empty++x'++y'++z'),H3,I3.tok _,⟨_,rfl⟩,h3⟩ hl⟩
theorem jQ {i:Int}(h:i.natAbs.log2<1920):(Str.ofString (toString i)).length≤10000:=by
 have e:=int_text_length_le (k:=1920) (by decide) h
 rw[PySem.ofString_length];omega
end
section
variable {prog:Program}{w:World}{A:Around}{E:Value→Shared→Prop}{h:Heap}{g:Array GenState}{d:Drawn}{t:Nat}{os:OsState}
variable {nm q:Str}{C N:Addr}{bs bm bmB:List Value}{hdct:Bool}{sn:List Str}{sub:List Value}{ab:Bool}{col:Option Bool}{dd:Option Addr}{k0 k1 k2 k3 k5:Option Value}{B Bn newId nid initId inN:String}{bmN:List Value}
theorem rH (Fn:ExcBaseFacts Bn newId inN bmN)(hBn:bmB.contains (.type Bn)=true)(F:ExcBaseFacts B nid initId bmB)(T:OwnTail h bmB bm){mN:Str→Option Value}{rest:List Value}{Q:Fin→Shared→Prop}
  (hC:h.get? C=some (excClassObj nm q C N bs bm hdct sn sub ab col dd k0 k1 k2 k3 k5 newId)) (hn:h.Ns N mN) (hni:mN "__init__"=none)
  (hq:∀h' t',(∀b o,h.get? b=some o→h'.get? b=some o)→h'.get? (h.objs.size+1)=some (uh C t' none)→Q (.done (.ret (.ref (h.objs.size+1)))) ⟨h',g,d,t,os⟩) (hrest:rest.length≤sizeLine):
  wpAny (model prog w) A (Builtin.«type.__call__» ⟨.ref C::rest,[]⟩) Q E ⟨h,g,d,t,os⟩:=by
 repeat (first|with_reducible refine ah hC ?_|with_reducible refine wpAny_madeBy_exc hC ?_|wp_step)
 refine codeAny_call_builtin_code (zb0 _ Fn.quiet) (wpAny_check_new_subU Fn hBn T hC ?_)
 refine codeAny_exc_new_subU Fn hBn F T hC ?_ hrest
 show wpAny _ _ _ _ _ ⟨yz h C rest,g,d,t,os⟩
 have keep:∀b o,h.get? b=some o→(yz h C rest).get? b=some o:=fun b o e=>cS _ (cS _ e)
 have hC₁:=keep _ _ hC
 have hn₁:(yz h C rest).Ns N mN:=let ⟨o,es,ep,e,r⟩:=hn;⟨o,es,ep,keep _ _ e,r⟩
 have hget:(yz h C rest).get? (h.objs.size+1)=some (uh C h.objs.size none):=by unfold yz;heap_get
 have hcC:(Value.ref C::bm).contains (.ref C)=true:=by simp
 have T₁:=T.keeps keep
 unfold isInstance
 repeat (first|with_reducible refine ah hget ?_|(with_reducible refine wpAny_isSubtype_exc hC₁ ?_;rw[hcC])|wp_step)
 show wpAny _ _ (typeLookup (.ref C) _) _ _ _
 refine wpAny_typeLookup_tail hC₁ hn₁ T₁ F.mroIs F.init.lookup ?_
 rw[hni]
 refine aK (cQ (wpAny_of_eq (F.init.bind _) ?_))
 refine cQ (aO (codeAny_call_builtin F.init.plain F.initEntry (wpAny_check_init_subU F T₁ hC₁ hget rfl ?_)))
 wp_walk
 refine hq _ (yz h C rest).objs.size (fun b o hb=>?_) ?_
 ·rw[bf _ _ (za9 (Nat.lt_succ_of_lt (cV hb)))]
  exact cS _ (keep _ _ hb)
 ·rw[az _ (cS _ hget) rfl]
  rfl
theorem fF (Fn:ExcBaseFacts Bn newId inN bmN)(hBn:bmB.contains (.type Bn)=true)(F:ExcBaseFacts B nid initId bmB)(T:OwnTail h bmB bm){mN:Str→Option Value}{rest:List Value}{Q:Value→Shared→Prop}
  (hC:h.get? C=some (excClassObj nm q C N bs bm hdct sn sub ab col dd k0 k1 k2 k3 k5 newId)) (hn:h.Ns N mN) (hni:mN "__init__"=none)
  (hq:∀h' t',(∀b o,h.get? b=some o→h'.get? b=some o)→h'.get? (h.objs.size+1)=some (uh C t' none)→Q (.ref (h.objs.size+1)) ⟨h',g,d,t,os⟩) (hrest:rest.length≤sizeLine):
  wpAny (model prog w) A (call (.ref C) rest) Q E ⟨h,g,d,t,os⟩:=by
 have f1:=tc_lookup
 have f2:=tc_bind (.ref C)
 have hT:(⟨h,g,d,t,os⟩:Shared).TypeIs (.ref C) "type":=⟨_,hC,rfl⟩
 refine aO (codeAny_of_tree ?_)
 show wpAny _ _ (callAny (.ref C) _) _ _ _
 repeat (any_goals (first|assumption|with_reducible refine ah hC ?_|wp_step))
 refine⟨rfl,?_⟩
 exact codeAny_call_builtin_at (zb0 _ (by decide +kernel)) entry_typeCall (wpAny_check_type_call_sub hC (rH Fn hBn F T hC hn hni hq hrest))
end
section
variable {X:Cx}{pins:List (Addr×Obj)}{σ:St}{H:Hp}{s:Shared}{k:Nat}{f C S:Addr}{fd:FuncData}{ps:List Str}{sp:Sp}{x:Str}{p pos:Pos}{e:Expr}{es:List Expr}{t:TA}
theorem Inv.xmade {h':Heap}{t':Addr}(I:Inv X pins σ H s)(hk:∀b o,s.heap.get? b=some o→h'.get? b=some o)(he:h'.get? (s.heap.objs.size+1)=some (uh C t' none)):Inv X pins σ (upd H (s.heap.objs.size+1) (xcF (s.heap.objs.size+1) C none)) {s with heap:=h'}:=
 I.laid (t':=s.toks) hk (aQ _) (gW he)
theorem eD (c:xH X.K C S (some (.ref f))=true)(hfn:PySem.W.typeIn X.K (.ref f)=some (.type "function"))(kp:PySem.W.keepIn X.K (.ref C)=true)(F:zo X.prog X.w X.K X.mg X.base CX0 k f fd ps sp)(hr:zy (k+1) X.A)(hg:Gl X x)(hm:X.mg x=some (.ref C))(hb:Binds X.K fd ps [])
  (ha:PA X (e::es) t) (hdb:(x == ("__debug__":Str))=false:=by decide) (he:starEach (e::es) X.env=(false,eval e X.env)::starEach es X.env:=by rfl) (hpl:(backTo pos (starEach es X.env)).any (·.1)=false:=by rfl):
  PE X (.Call (.Name x p) (e::es) [] pos) (fun σ H Q=>t σ H fun vs H1=>vs.length≤100∧∀a,H1 a=none→sp (.ref a::vs) (upd H1 a (xcF a C none)) (fun v H2=>v=.non∧Q (.ref a) H2) E0):=by
 intro pins s σ H Q I h
 refine bU (yw I hg hm ?_ hdb)
 refine ax (h₀:=X.base) I.ok.mod.kin kp (thn (ha pos pins s σ H _ I h) fun us s1 ⟨vs,H1,I1,r,lv,q⟩=>⟨I1.kIn,?_⟩) he hpl
 obtain⟨nm,qn,N,bs,sn,sub,ab,col,dd,k0,k1,k2,k3,k5,mN,hC,hN,hi,T,_⟩:=yD I1.kIn c
 obtain⟨oI,lI,cI⟩:=bG.mp hfn
 have hfI:=I1.kIn _ _ lI
 have hl:=r.length
 have hq:=q (s1.heap.objs.size+1) (I1.hok.fresh (aQ _))
 obtain⟨h0,g,d,tk,os⟩:=s1
 refine dM ar (by decide +kernel) ar T hC hN hi hfI cI ?_ (by show us.length≤_;rw[za4];omega)
 have keep:∀b o,h0.get? b=some o→(yz h0 C us).get? b=some o:=fun b o e=>cS _ (cS _ e)
 have hget:(yz h0 C us).get? (h0.objs.size+1)=some (uh C h0.objs.size none):=by unfold yz;heap_get
 have I2:=I1.xmade (h':=yz h0 C us) keep hget
 have r2:Vals (V.ref (h0.objs.size+1)::vs) (Value.ref (h0.objs.size+1)::us):=.cons rfl r
 have hl2:(Value.ref (h0.objs.size+1)::us++[]).length=ps.length:=by
  have e:=r2.length
  rw[F.len _ _ _ _ hq] at e
  rw[bQ]
  exact e.symm
 have hbb:=hb _ (Value.ref (h0.objs.size+1)::us) I2.kIn hl2
 rw[bQ] at hbb
 refine aO (aX (F.run _ X.stack _ _ ⟨Value.ref (h0.objs.size+1)::us,[]⟩ _ _ _ E0 (hr.make C us []) (I2.env0.make C us []) hbb r2 hq) fun r s' hq'=>?_)
 cases r with
 |error e=>exact (hq':False).elim
 |ok fl=>
  cases fl with
  |ret u=>
   obtain⟨v,H',I3,rv,ev,q3⟩:=I2.after hq'
   subst ev
   exact⟨rv,⟨V.ref (h0.objs.size+1),H',I3,rfl,q3⟩⟩
  |next=>exact False.elim hq'
  |brk=>exact False.elim hq'
  |cont=>exact False.elim hq'
theorem ny (c:xH X.K C S none=true)(kp:PySem.W.keepIn X.K (.ref C)=true)(hg:Gl X x)(hm:X.mg x=some (.ref C))
  (ha:PA X (e::es) t) (hdb:(x == ("__debug__":Str))=false:=by decide) (he:starEach (e::es) X.env=(false,eval e X.env)::starEach es X.env:=by rfl) (hpl:(backTo pos (starEach es X.env)).any (·.1)=false:=by rfl):
  PE X (.Call (.Name x p) (e::es) [] pos) (fun σ H Q=>t σ H fun vs H1=>vs.length≤100∧∀a,H1 a=none→Q (.ref a) (upd H1 a (xcF a C none))):=by
 intro pins s σ H Q I h
 refine bU (yw I hg hm ?_ hdb)
 refine ax (h₀:=X.base) I.ok.mod.kin kp (thn (ha pos pins s σ H _ I h) fun us s1 ⟨vs,H1,I1,r,lv,q⟩=>⟨I1.kIn,?_⟩) he hpl
 obtain⟨nm,qn,N,bs,sn,sub,ab,col,dd,k0,k1,k2,k3,k5,mN,hC,hN,hi,T,_⟩:=yD I1.kIn c
 have hl:=r.length
 have hq:=q (s1.heap.objs.size+1) (I1.hok.fresh (aQ _))
 obtain⟨h0,g,d,tk,os⟩:=s1
 refine fF ar (by decide +kernel) ar T hC hN hi (fun h' t' hk he=>?_) (by show us.length≤_;rw[za4];omega)
 exact⟨.ref (h0.objs.size+1),_,I1.xmade hk he,rfl,hq⟩
theorem jf {X0:Cx}{R:St→Addr→Hp→Prop}{te:TE}{init:Option Value}(c:xH X0.K C S init=true)(hc:X0.calm=true)(he:PE (X0.wish (XE X0 R)) e te):
  PS (X0.wish (XE X0 R)) (.Raise (some e) none pos) (fun D σ H=>te σ H fun x H1=>∃a d,x=.ref a∧H1 a=some (xcF a C d)∧R σ a (upd H1 a (xcO a C d))):=by
 intro pins s σ H D I h
 show wpAny _ _ (do standAt pos;raiseStmt X0.env (some (do let v ←eval e X0.env;standAt pos;pure v)) none) _ _ _
 obtain⟨nm,qn,N,bs,sn,sub,ab,col,dd,k0,k1,k2,k3,k5,mN,hC,hN,hi,T,_,_,_,_,lk⟩:=yD I.kIn c
 refine cQ (zb3 (gQ (C:=C) (nm:=nm) (q:=qn) (N:=N) (bs:=bs) (bm:=.ref S::bmV) (hdct:=true) (sn:=sn) (sub:=sub) (ab:=ab) (col:=col) (dd:=dd) (k0:=k0) (k1:=k1) (k2:=k2) (k3:=k3) (k5:=k5) (newId:="ValueError.__new__") (T.hasType ar.hasBase) (I.ok.hd hc) (cQ (thn (he pins s σ H _ I h) fun v s1 ⟨x,H1,I1,rx,a,d,ex,ea,r⟩=>cQ (zb3 (bc ?_))))))
 subst ex
 obtain rfl:v=Value.ref a:=rx
 obtain⟨t',ha⟩:=I1.xat ea
 exact⟨a,t',d,rfl,I1.kIn _ _ lk,ha,⟨σ,_,a,rfl,(I1.xthaw ea).unwish.nopins,⟨C,d,zd⟩,.new ha rfl rfl,r⟩⟩
end
abbrev Cx.held (X:Cx)(pins:List (Addr×Obj)):Cx:={X with pn:=X.pn++pins}
abbrev Cx.suite (X:Cx)(a:Addr):Cx:={X with A:=X.A.mark (some (.ref a)),calm:=false,xe:=fun _ _=>False}
section
variable {X:Cx}{pins:List (Addr×Obj)}{σ:St}{H:Hp}{s:Shared}{a:Addr}{D:Ends}{f:Flow}
theorem Inv.held (I:Inv X pins σ H s):Inv (X.held pins) [] σ H s:=
 ⟨⟨I.ok.mod,I.ok.kind,I.ok.glob,I.ok.blt,I.ok.above,I.ok.inj,I.ok.has,I.ok.cab,I.ok.hd,I.ok.frames,I.ok.stk,I.ok.exf,I.ok.bs,I.ok.bsz,I.ok.noex,I.ok.exfs,I.ok.funs,I.ok.frf⟩,I.os,I.bare,I.base,I.loc,I.cell,I.free,I.freeC,fun p hp=>I.pin p (by simpa using hp),I.hok,I.len⟩
theorem Inv.unheld (I:Inv (X.held pins) [] σ H s):Inv X pins σ H s:=
 ⟨⟨I.ok.mod,I.ok.kind,I.ok.glob,I.ok.blt,I.ok.above,I.ok.inj,I.ok.has,I.ok.cab,I.ok.hd,I.ok.frames,I.ok.stk,I.ok.exf,I.ok.bs,I.ok.bsz,I.ok.noex,I.ok.exfs,I.ok.funs,I.ok.frf⟩,I.os,I.bare,I.base,I.loc,I.cell,I.free,I.freeC,fun p hp=>I.pin p (by simpa using hp),I.hok,I.len⟩
theorem Inv.suite (I:Inv X pins σ H s):Inv (X.suite a) pins σ H s:=
 ⟨⟨I.ok.mod,I.ok.kind,I.ok.glob,I.ok.blt,I.ok.above,I.ok.inj,I.ok.has,I.ok.cab,(fun z=>nomatch z),I.ok.frames,I.ok.stk,I.ok.exf,I.ok.bs,I.ok.bsz,I.ok.noex,I.ok.exfs,I.ok.funs,I.ok.frf⟩,I.os,I.bare,I.base,I.loc,I.cell,I.free,I.freeC,I.pin,I.hok,I.len⟩
theorem Inv.unsuite (J:Inv X [] σ H s){σ':St}{H':Hp}{s':Shared}(I:Inv (X.suite a) pins σ' H' s'):Inv X pins σ' H' s':=
 ⟨J.ok,I.os,I.bare,I.base,I.loc,I.cell,I.free,I.freeC,I.pin,I.hok,I.len⟩
theorem SP.held {E:Value→Shared→Prop}(h:SP ((X.held pins).wish E) [] D f s):SP X pins D f s:=by
 cases f with
 |next=>obtain⟨σ',H',I,q⟩:=h;exact⟨σ',H',I.unwish.unheld,q⟩
 |brk=>obtain⟨σ',H',I,q⟩:=h;exact⟨σ',H',I.unwish.unheld,q⟩
 |cont=>obtain⟨σ',H',I,q⟩:=h;exact⟨σ',H',I.unwish.unheld,q⟩
 |ret u=>obtain⟨v,σ',H',I,r,q⟩:=h;exact⟨v,σ',H',I.unwish.unheld,r,q⟩
theorem Inv.gone {M:Model}{A:Around}{E:Value→Shared→Prop}{Q:Unit→Shared→Prop}{i:Nat}{n:Str}{pos:Pos}(I:Inv X pins σ H s)(hN:X.N.Nodup)(hi:X.N[i]?=some n)(hl:X.env.scope.names.lookup n=some .local)
  (h:∀s',Inv X pins (σ.set i none) H s'→Q () s'):wpAny M A (do bindName X.env n .none;unbindBehindTheSuite X.env n pos) Q E s:=by
 obtain⟨m,hn,hlk⟩:=id I.loc
 have hcls:(X.env.scope.kind == .class||(X.env.scope.kind == .module&&X.env.locals != X.env.globals))=false:=by rw[I.ok.kind];rfl
 have hiσ:i<σ.length:=by rw[I.len];exact (cR.mp hi).1
 have cne:=I.cne
 refine wpAny_nameGoes_keeps hl hn hcls fun h' v hn' hs=>?_
 obtain⟨oL,_,_,hoL,_⟩:=id hn
 have nl:∀{b:Addr} {o:Obj},X.s₀.heap.get? b=some o→b≠X.env.locals:=fun {b o} e=>bx (bh (cV e) I.ok.above)
 refine h _ ⟨I.ok,I.os,I.bare,⟨fun b o e n hb hx=>(hs.2 b (nl e)).trans (I.base.keep b o e n hb hx),fun b o e n hb hx=>?_,I.base.free,fun b o e hx=>?_,I.base.tups,I.base.frzs,I.base.tbls⟩,⟨_,hn',fun j y v' e1 e2 e3=>?_⟩,fun y c e=>?_,I.free,I.freeC,fun p hp=>?_,fun b ob e=>?_,by simpa using I.len⟩
 ·obtain⟨sl,e1⟩:=I.base.slot b o e n hb hx
  exact⟨sl,(hs.2 b (nl e)).trans e1⟩
 ·obtain⟨o',e1⟩:=I.base.there b o e hx
  exact⟨o',(hs.2 b (nl e)).trans e1⟩
 ·by_cases hj:j=i
  ·subst hj
   rw[ak hiσ] at e2
   cases e2
  ·rw[bN (aW hj)] at e2
   obtain⟨u',r',q⟩:=hlk j y v' e1 e2 e3
   refine⟨u',r',?_⟩
   rcases q with ⟨k,e⟩|⟨k,c,e,z⟩
   ·refine .inl ⟨k,?_⟩
    have:y≠n:=fun e=>hj (vZ hN e1 (e▸hi))
    simp[this,e]
   ·exact .inr ⟨k,c,e,z.sameBut hs (cne y c e)⟩
 ·obtain⟨w',z⟩:=I.cell y c e
  exact⟨w',z.sameBut hs (cne y c e)⟩
 ·obtain⟨e,n,ne,nf,d⟩:=I.pin p hp
  exact⟨(hs.2 p.1 ne).trans e,n,ne,nf,d⟩
 ·refine (I.hok b ob e).stay (fun c w' hc q=>(hs.2 c ?_).trans q) (fun _ q=>q) fun _ _ q=>q
  rintro rfl
  rcases hc with rfl|hc
  ·rw[I.free] at e;cases e
  ·rw[I.free] at hc;cases hc
theorem Inv.caught {R:St→Addr→Hp→Prop}{E':Value→Shared→Prop}{Q:Flow→Shared→Prop}{e:Value}{hs:List ExceptHandler}(hst:X.stack=X.env::X.outer)(h:XE X R e s)
  (k:∀σ H a T s',Inv X [] σ H s'→(∃C d,H a=some (xcO a C d))→R σ a H→H T=none→X.s₀.heap.get? T=none→(∀p∈X.pn,p.1≠T)→Ent s'.heap X.base a T .none→wpAny (model X.prog X.w) X.A (handleBy (.ref a) X.env hs) Q E' s'):
  wpAny (model X.prog X.w) X.A (noteFrame e X.env) (fun _ s₂=>wpAny (model X.prog X.w) X.A (setFlight e none) (fun _ s₃=>wpAny (model X.prog X.w) X.A (handleBy e X.env hs) Q E' s₃) E' s₂) E' s:=by
 obtain⟨σ,H,a,rfl,I,ha,f,r⟩:=h
 refine I.note hst ha f fun h' T I' h1 h2 h3 h4=>?_
 refine I'.flight (fo:=none) hst ha h1 h2 (by simpa using h3) h4 fun h'' I'' e''=>?_
 exact k σ H a T _ I'' ha r h1 h2 h3 e''
theorem oh {P:Program}{w:World}{h:Heap}{C:Addr}{d:Option Addr}(hok:HOk P w H h)(e:H a=some (xcO a C d))(hd:∀dx,d=some dx→∃fs,H dx=some (.xd fs)):∃ox od,PySem.W.InstAt h a ox C od∧od.isSome=d.isSome:=by
 obtain⟨⟨o,vs,h1,h2,h3,h4⟩,_⟩:=hok a _ e
 cases d with
 |none=>exact⟨o,none,gc h1 h2 ⟨vs,h4⟩ (by rw[h3];trivial),rfl⟩
 |some dx=>
  obtain⟨fs,hx⟩:=hd dx rfl
  obtain⟨mA,⟨od,es,ep,e1,_⟩,_⟩:=hok dx _ hx
  exact⟨o,some od,gc h1 h2 ⟨vs,h4⟩ (by rw[h3];exact e1),rfl⟩
end
section
variable {X:Cx}{body suite:List Stmt}{b0:Stmt}{x n:Str}{np hpos pos:Pos}{B:Addr}
def oz (K:PySem.W.Frag)(B:Addr)(R:St→Addr→Hp→Prop):Prop:=∀σ a H,R σ a H→∃C d,H a=some (xcO a C d)∧(∀dx,d=some dx→∃fs,H dx=some (.xd fs))∧XB K C B
theorem jh {R:St→Addr→Hp→Prop}{i:Nat}(hst:X.stack=X.env::X.outer)(hN:X.N.Nodup)(hi:X.N[i]?=some n)(hl:X.env.scope.names.lookup n=some .local)(hg:Gl X x)(hm:X.mg x=some (.ref B))(hR:oz X.K B R)(hdb:(x == ("__debug__":Str))=false:=by decide):
  PS X (.Try body [.ExceptHandler (some (.Name x np)) (some n) (b0::suite) hpos] [] [] pos) (fun D σ H=>(∀pins,nB ((X.held pins).wish (XE (X.held pins) R)) body D σ H)∧
   ∀pins a σ' H',R σ' a H'→nB ((X.held pins).suite a) (b0::suite) {nx:=fun σ'' H''=>D.nx (σ''.set i none) H'',rt:=D.rt,bk:=fun σ'' H''=>D.bk (σ''.set i none) H'',ct:=fun σ'' H''=>D.ct (σ''.set i none) H''} (σ'.set i (some (.ref a))) H'):=by
 rintro pins s σ H D I ⟨h1,h2⟩
 obtain⟨tb,pb,qb⟩:=h1 pins
 refine wpAny_Try_except (bF (pb [] s σ H D (I.held.wish _) qb) (fun f s1 hf=>?_) fun e s1 hx=>?_)
 ·have hf:=SP.held hf
  cases f with
  |next=>exact za6 hf
  |brk=>exact hf
  |cont=>exact hf
  |ret u=>exact hf
 ·refine Inv.caught (X:=X.held pins) hst hx fun σ' H' a T s' I' ha r t1 t2 t3 ent=>?_
  obtain⟨C,d,hc,hd,xb⟩:=hR σ' a H' r
  refine wpAny_handleBy_cons (codeAny_handlers_test (yw (I'.suite (a:=a)) hg hm ?_ hdb)) (by intro q;cases q)
  obtain⟨ox,od,J,_⟩:=oh I'.hok hc hd
  obtain⟨h',g',d',tk',os'⟩:=s'
  refine gr I'.kIn xb J (codeAny_handlers_suite_as ?_)
  refine I'.flight (fo:=none) hst ha t1 t2 (by simpa using t3) ent fun h'' I'' _=>?_
  refine vE I'' hN hi (Or.inl hl) (v:=.ref a) rfl (fun s2 I2=>?_) (.inr hl)
  obtain⟨ts,p2,q2⟩:=h2 pins a σ' H' r
  refine bF (p2 [] s2 _ H' _ I2.suite q2) (fun f s3 hf=>?_) fun _ _ z=>(z:False).elim
  cases f with
  |next=>
   obtain⟨σ3,H3,I3,q3⟩:=hf
   exact (I''.unsuite I3).gone hN hi hl fun s4 I4=>⟨_,H3,I4.unheld,q3⟩
  |brk=>
   obtain⟨σ3,H3,I3,q3⟩:=hf
   exact (I''.unsuite I3).gone hN hi hl fun s4 I4=>⟨_,H3,I4.unheld,q3⟩
  |cont=>
   obtain⟨σ3,H3,I3,q3⟩:=hf
   exact (I''.unsuite I3).gone hN hi hl fun s4 I4=>⟨_,H3,I4.unheld,q3⟩
  |ret u=>
   obtain⟨v,σ3,H3,I3,r3,q3⟩:=hf
   exact (I''.unsuite I3).gone hN hi hl fun s4 I4=>⟨v,_,H3,I4.unheld,r3,q3⟩
end
def xD (C:Addr)(fs:List (PyData×PyData)):PyData:=.dict ((.int (C:Nat),.bool true)::fs)
def xD0 (C:Addr):PyData:=.dict [(.int (C:Nat),.bool false)]
section
variable {G:Hp}{v:V}{C:Addr}{ds:List (PyData×PyData)}
theorem AV.xc_inv (h:AV G v (xD C ds)):∃a dx fs,v=.ref a∧G a=some (xcO a C (some dx))∧G dx=some (.xd fs)∧AVf G fs ds:=by
 generalize e:xD C ds=d at h
 cases h with
 |@xc a C' dx fs ds' h1 h2 h3=>
  unfold xD at e
  injection e with e
  injection e with e1 e2
  injection e1 with e1 _
  injection e1 with e1
  have:C=C':=by exact_mod_cast e1
  subst this;subst e2
  exact⟨a,dx,fs,rfl,h1,h2,h3⟩
 |_=>simp[xD] at e
theorem AV.xn_inv (h:AV G v (xD0 C)):∃a,v=.ref a∧G a=some (xcO a C none):=by
 generalize e:xD0 C=d at h
 cases h with
 |@xn a C' h1=>
  unfold xD0 at e
  injection e with e
  injection e with e1 e2
  injection e1 with e1 _
  injection e1 with e1
  have:C=C':=by exact_mod_cast e1
  subst this
  exact⟨a,rfl,h1⟩
 |_=>simp[xD0] at e
end
def isX (C:Addr)(d:PyData):Prop:=(∃fs,d=xD C fs)∨d=xD0 C
theorem isX.at {G:Hp}{v:V}{C:Addr}{d:PyData}(x:isX C d)(h:AV G v d):∃a dx,v=.ref a∧G a=some (xcO a C dx)∧∀y,dx=some y→∃fs,G y=some (.xd fs):=by
 rcases x with ⟨fs,rfl⟩|rfl
 ·obtain⟨a,dx,gs,rfl,h1,h2,_⟩:=h.xc_inv
  exact⟨a,some dx,rfl,h1,fun y e=>by cases e;exact⟨gs,h2⟩⟩
 ·obtain⟨a,rfl,h1⟩:=h.xn_inv
  exact⟨a,none,rfl,h1,fun y e=>by cases e⟩
theorem M.reidx {F:Fr}{α α':Ev}{σ σ':St}{H:Hp}(m:M F α σ H)(f:Nat→Nat)(hl:α'.length=σ'.length)(hf:∀(k:Nat) a s,α'[k]?=some (some a)→σ'[k]?=some s→α[f k]?=some (some a)∧σ[f k]?=some s)(inj:∀(k k':Nat) a a',α'[k]?=some (some a)→α'[k']?=some (some a')→f k=f k'→k=k'):M F α' σ' H:=by
 have ow:∀{y:Addr},Ow F α' σ' y→Ow F α σ y:=fun {y} h=>by
  rcases h with z|⟨i,c,s,e1,e2,fo⟩
  ·exact .inl z
  ·obtain⟨g1,g2⟩:=hf i c s e1 e2
   exact .inr ⟨_,c,s,g1,g2,fo⟩
 have gs:zm (Gz F α σ H) (Gz F α' σ' H):=zk fun a o h e=>⟨fun z=>h (ow z),e⟩
 refine⟨hl,fun i c s e1 e2=>?_,fun i i' c d s s' x e1 e2 h1 h2 f1 f2=>?_,fun i r q e i' c s x e1 e2 fo=>?_,m.tp,m.keep,m.oex⟩
 ·obtain⟨g1,g2⟩:=hf i c s e1 e2
  exact (m.ok _ c s g1 g2).stay gs (fun x o fo e=>⟨e,(m.ft g1 g2 fo).1,(m.ft g1 g2 fo).2.1⟩) rfl fun _ _ _ l=>l
 ·obtain⟨g1,g2⟩:=hf i c s e1 h1
  obtain⟨k1,k2⟩:=hf i' d s' e2 h2
  exact inj i i' c d e1 e2 (m.dj _ _ c d s s' x g1 k1 g2 k2 f1 f2)
 ·have:i<σ'.length:=by rw[←hl];exact (cR.mp e).1
  obtain⟨g1,_⟩:=hf i _ _ e (bH this)
  obtain⟨k1,k2⟩:=hf i' c s e1 e2
  exact m.xd _ r q g1 _ c s x k1 k2 fo
theorem ud {β:Ev}{b:Option A}{k:Nat}{a:A}(h:(β++[b])[k]?=some (some a)):(k<β.length∧β[k]?=some (some a))∨(k=β.length∧b=some a):=by
 rcases Nat.lt_or_ge k β.length with z|z
 ·rw[bo z] at h;exact .inl ⟨z,h⟩
 ·rw[br z] at h
  obtain⟨j,hj⟩:∃j,k-β.length=j:=⟨_,rfl⟩
  rw[hj] at h
  cases j with
  |zero=>simp at h;exact .inr ⟨by omega,h⟩
  |succ j=>simp at h
section
variable {F:Fr}{α αh:Ev}{σ:St}{H:Hp}
theorem M.grow (m:M F α σ H):M F (α++[none]) (σ++[none]) H:=by
 have hl:=m.len
 refine m.reidx id (by rw[cW,cW,hl];rfl) (fun k a s e1 e2=>?_) fun _ _ _ _ _ _ e=>e
 rcases ud e1 with ⟨z,e⟩|⟨_,e⟩
 ·exact⟨e,by rw[bo (by omega)] at e2;exact e2⟩
 ·cases e
theorem M.snoc {v:V}{b:A}{H':Hp}(m:M F α σ H)(t:zA F H')(k:Kz F H H')(hn:∀x,foot (some v) b x→H x=none)(hok:xB (sub (fun x=>¬Ow F α σ x∧¬foot (some v) b x) H') F H' (some v) b)(hx:noX b:=by trivial):M F (α++[some b]) (σ++[some v]) H':=by
 have hl:=m.len
 have mg:=m.grow
 have ow:∀{y:Addr},Ow F (α++[none]) (σ++[none]) y→Ow F α σ y:=fun {y} h=>by
  rcases h with z|⟨i,c,s,e1,e2,fo⟩
  ·exact .inl z
  ·rcases ud e1 with ⟨z,e⟩|⟨_,e⟩
   ·exact .inr ⟨i,c,s,e,by rw[bo (by omega)] at e2;exact e2,fo⟩
   ·cases e
 have m2:=mg.store (i:=α.length) (v:=v) (b:=b) t k hn (hok.stay (zk fun a o h e=>⟨⟨fun z=>h.1 (ow z),h.2⟩,e⟩) (fun x o f e=>by
  obtain⟨w1,w2,_⟩:=vB hok f
  exact⟨e,w1,w2⟩) rfl fun _ _ _ l=>l) hx
 have e1:(α++[none]).set α.length (some b)=α++[some b]:=by rw[aZ _ _ (cU _),ao]<;>rfl
 have e2:(σ++[none]).set α.length (some v)=σ++[some v]:=by rw[aZ _ _ (by omega),hl,ao]<;>rfl
 rw[e1,e2] at m2
 exact m2
theorem M.len' {b:Option A}{s:Option V}(m:M F (α++[b]) (σ++[s]) H):α.length=σ.length:=by
 have:=m.len
 rw[cW,cW] at this
 exact Nat.add_right_cancel this
theorem M.lastAt {b:A}{v:V}{i:Nat}(m:M F (α++[some b]) (σ++[some v]) H):M F (α.set i (some b)) (σ.set i (some v)) H:=by
 have hl:=m.len'
 have key:∀{k:Nat} {a:A},(α.set i (some b))[k]?=some (some a)→k<α.length∧((k=i∧a=b)∨(k≠i∧α[k]?=some (some a))):=fun {k a} e=>by
  have hk:=(cR.mp e).1
  rw[bB] at hk
  rcases zC e with ⟨rfl,z⟩|⟨z1,z2⟩
  ·cases z;exact⟨hk,.inl ⟨rfl,rfl⟩⟩
  ·exact⟨hk,.inr ⟨fun w=>z1 w.symm,z2⟩⟩
 refine m.reidx (fun k=>if k=i then α.length else k) (by rw[bB,bB];exact hl) (fun k a s e1 e2=>?_) fun k k' a a' e e' z=>?_
 ·obtain⟨hk,⟨rfl,rfl⟩|⟨hne,e⟩⟩:=key e1
  ·rw[if_pos rfl]
   rw[ak (by omega)] at e2
   cases e2
   exact⟨by rw[br (cU _),ao]<;>rfl,by rw[br (by omega),hl,ao]<;>rfl⟩
  ·rw[if_neg hne]
   rw[bN (fun w=>hne w.symm)] at e2
   exact⟨by rw[bo hk];exact e,by rw[bo (by omega)];exact e2⟩
 ·have h1:=(key e).1
  have h2:=(key e').1
  by_cases z1:k=i
  ·by_cases z2:k'=i
   ·omega
   ·rw[if_pos z1,if_neg z2] at z;omega
  ·by_cases z2:k'=i
   ·rw[if_neg z1,if_pos z2] at z;omega
   ·rw[if_neg z1,if_neg z2] at z;exact z
theorem iE {S:Addr→Prop}{G H:Hp}{x:Addr}{o:HO}(h:G x=some o)(hs:¬S x)(hn:∀xs,o≠.lst xs):vq S G H x=some o:=by
 unfold vq
 rw[if_neg hs,h]
 cases o<;>first|rfl|exact absurd rfl (hn _)
theorem lX {S:Addr→Prop}{p:Addr→Prop}{H:Hp}{x:Addr}{o:HO}(h:vq S (sub p H) H x=some o):H x=some o:=by
 rcases vL h with ⟨_,z⟩|⟨_,z⟩
 ·exact z
 ·exact (zh z).2
end
structure Xok (X:Cx)(r:Fr)(αh:Ev)(q:PyData→Prop):Prop where
 ex:∃(X0:Cx) (R:St→Addr→Hp→Prop),X=X0.wish (XE X0 R)∧X0.stack=X0.env::X0.outer∧X0.ex=[]∧∀σ d S a H',M r (αh++[some (.deep d S)]) (σ++[some (.ref a)]) H'→q d→R σ a H'
theorem Xok.own {X:Cx}{r:Fr}{αh:Ev}{q:PyData→Prop}(x:Xok X r αh q):PassesOwn (model X.prog X.w) X.A X.env X.xe:=by
 obtain⟨X0,R,rfl,h1,_⟩:=x.ex
 exact gN h1
section
variable {F:Fr}{α αh:Ev}{σ:St}{H:Hp}
theorem M.exc {j:Nat}{q:PyData→Prop}(m:M F α σ H)(hj:α[j]?=some none):M F (α.set j (some (.exc F q))) σ H:=by
 have hs:∀{i:Nat} {c:A},(α.set j (some (.exc F q)))[i]?=some (some c)→(i=j∧c=.exc F q)∨α[i]?=some (some c):=fun {i c} e=>by
  rcases zC e with ⟨rfl,z⟩|⟨_,e'⟩
  ·cases z;exact .inl ⟨rfl,rfl⟩
  ·exact .inr e'
 have ow:∀{y:Addr},Ow F (α.set j (some (.exc F q))) σ y→Ow F α σ y:=fun {y} h=>by
  rcases h with z|⟨i,c,s,e1,e2,f⟩
  ·exact .inl z
  ·rcases hs e1 with ⟨_,rfl⟩|e1
   ·exact f.elim
   ·exact .inr ⟨i,c,s,e1,e2,f⟩
 have gs:zm (Gz F α σ H) (Gz F (α.set j (some (.exc F q))) σ H):=zk fun a o h e=>⟨fun z=>h (ow z),e⟩
 refine⟨by rw[bB];exact m.len,fun i c s e1 e2=>?_,fun i i' c c' s s' x e1 e2 h1 h2 f1 f2=>?_,fun i r' q' e i' c s x e1 e2 f=>?_,m.tp,m.keep,m.oex⟩
 ·rcases hs e1 with ⟨_,rfl⟩|e1
  ·exact⟨rfl,fun _ z=>z,m.tp,m.keep⟩
  ·exact (m.ok i c s e1 e2).stay gs (fun x o f e=>⟨e,(m.ft e1 e2 f).1,(m.ft e1 e2 f).2.1⟩) rfl fun _ _ _ l=>l
 ·rcases hs e1 with ⟨_,rfl⟩|e1
  ·exact f1.elim
  ·rcases hs e2 with ⟨_,rfl⟩|e2
   ·exact f2.elim
   ·exact m.dj i i' c c' s s' x e1 e2 h1 h2 f1 f2
 ·rcases hs e1 with ⟨_,rfl⟩|e1
  ·exact f.elim
  ·rcases hs e with ⟨_,z⟩|e
   ·cases z;exact (m.ft e1 e2 f).2.1
   ·exact m.xd i r' q' e i' c s x e1 e2 f
theorem M.back {j:Nat}{r:Fr}{q:PyData→Prop}(m:M F α σ H)(hj:α[j]?=some (some (.exc r q)))(hl:αh.length=α.length)(le:∀(i:Nat) a,αh[i]?=some (some a)→α[i]?=some (some a)∧noX a):M r αh σ H:=by
 have l:=m.lnk hj
 have ow:∀{y:Addr},Ow r αh σ y→Ow F α σ y:=fun {y} h=>by
  rcases h with z|⟨i,c,s,e1,e2,f⟩
  ·exact .inl (l.o y z)
  ·exact .inr ⟨i,c,s,(le _ _ e1).1,e2,f⟩
 have gs:zm (Gz F α σ H) (Gz r αh σ H):=zk fun a o h e=>⟨fun z=>h (ow z),e⟩
 refine⟨hl.trans m.len,fun i c s e1 e2=>?_,fun i i' c d s s' x e1 e2=>m.dj i i' c d s s' x (le _ _ e1).1 (le _ _ e2).1,fun i r' q' e=>((le _ _ e).2:False).elim,l.ok,l.k,fun x hx=>m.oex x (l.o x hx)⟩
 refine (m.ok i c s (le _ _ e1).1 e2).stay gs (fun x o f e=>⟨e,fun z=>(m.ft (le _ _ e1).1 e2 f).1 (l.o x z),m.xd j r q hj i c s x (le _ _ e1).1 e2 f⟩) l.tp fun r' q' z=>?_
 subst z
 exact ((le _ _ e1).2:False).elim
end
def leX :Ev→Ev→Prop:=fun αh α=>αh.length=α.length∧∀(i:Nat) a,αh[i]?=some (some a)→α[i]?=some (some a)∧noX a
theorem leX.nil {n:Nat}{α:Ev}(h:n=α.length):leX (List.replicate n none) α:=⟨by rw[aY];exact h,fun i a e=>by
 rw[aD] at e
 split at e<;>cases e⟩
theorem leX.cons {x y:Option A}{αh α:Ev}(h:x=none∨(x=y∧∀a,x=some a→noX a))(r:leX αh α):leX (x::αh) (y::α):=⟨by rw[bj,bj,r.1],fun i a e=>by
 cases i with
 |zero=>
  simp at e
  rcases h with h|⟨h1,h2⟩
  ·rw[h] at e;cases e
  ·subst h1;subst e;exact⟨rfl,h2 _ rfl⟩
 |succ i=>simpa using r.2 i a (by simpa using e)⟩
theorem leX.nil' :leX [] []:=⟨rfl,fun i a e=>by simp at e⟩
theorem leX.snoc {αh α:Ev}{b:A}(h:leX αh α)(hb:noX b):leX (αh++[some b]) (α++[some b]):=⟨by rw[cW,cW,h.1],fun i a e=>by
 rcases ud e with ⟨z,e⟩|⟨z,e⟩
 ·rw[bo (by rw[←h.1];exact z)]
  exact h.2 i a e
 ·cases e
  rw[z,h.1,br (cU _),ao]
  exact⟨rfl,hb⟩⟩
theorem M.backS {F:Fr}{α αh:Ev}{σ:St}{H:Hp}{j:Nat}{r:Fr}{q:PyData→Prop}{b:A}{v:V}(m:M F (α++[some b]) (σ++[some v]) H)(hj:α[j]?=some (some (.exc r q)))(le:leX αh α)(hb:noX b):M r (αh++[some b]) (σ++[some v]) H:=by
 have hj':(α++[some b])[j]?=some (some (.exc r q)):=by rw[bo (cR.mp hj).1];exact hj
 exact m.back hj' (le.snoc hb).1 (le.snoc hb).2
theorem wJ {r:Fr}{αh:Ev}{σ:St}{H':Hp}{d:PyData}{S:Addr→Prop}{a:Addr}(m:M r (αh++[some (.deep d S)]) (σ++[some (.ref a)]) H'):mZ r (.ref a) H' (.deep d S):=by
 obtain⟨v,h1,h2,h3⟩:=m.deep αh.length d S (by rw[br (cU _),ao]<;>rfl)
 rw[m.len',br (cU _),ao] at h1
 cases h1
 exact⟨h2.same (wM (zk fun a o h e=>⟨ow0 h,e⟩) fun _ _ _ e=>e),h3⟩
def spX (φ:List A→(A→Prop)→(PyData→Prop)→Prop):Sp:=fun vs H Qc E=>∃(F:Fr) (as:List A) (Q:A→Prop) (q:PyData→Prop),F.H0=H∧zA F H∧(∀x,F.O0 x→∃o,H x=some o∧xu o)∧zF F (sub (fun x=>¬F.O0 x) H) vs as∧φ as Q q∧(∀a v H',Q a→xx F v H' a→Qc v H')∧∀d S a H',q d→xx F (.ref a) H' (.deep d S)→E (.ref a) none H'
section
variable {P:Program}{w:World}{K:PySem.W.Frag}{mg:Str→Option Value}{base:Heap}
theorem fnX {x qual:Str}{st:Stmt}{f:Addr}{fd:FuncData}{N ps:List Str}{z:Str}{k:Nat}{φ:List A→(A→Prop)→(PyData→Prop)→Prop}(G:Fun K x qual st f fd)(S:zg (N++[z]) ps (za st))(hpn:ps.length≤N.length)(hlen:∀as Q q,φ as Q q→as.length=ps.length)
  (hbody:∀(cdv:Value) (A':Around) (outer:List Env) (s:Shared) (H:Hp) (E:XK) (as:List A) (Q:A→Prop) (q:PyData→Prop) (r:Fr) (xe:Value→Shared→Prop),zy k (A'.deeper (envOfC qual (za st) s.heap.objs.size f cdv))→φ as Q q→Xok ((yB (CX1 P w base) P w K mg base (N++[z]) qual (za st) f cdv A' outer s H E).wish xe) r (List.replicate (N.length+1) none) q→
   SvS ((yB (CX1 P w base) P w K mg base (N++[z]) qual (za st) f cdv A' outer s H E).wish xe) ((as.map some++List.replicate (N.length-as.length) none)++[some (.exc r fun _=>True)]) (zr st) {nx:=fun _=>Q (.dat .none),rt:=Q}):zo P w K mg base (CX1 P w base) (k+1) f fd ps (spX φ):=by
 refine G.okX S (fun vs H Q E h=>?_) (fun cdv A' outer s H vs Qc E hr h=>?_)
 ·obtain⟨F,as,Q',q,_,_,_,rv,hφ,_⟩:=h
  rw[rv.length,hlen as _ _ hφ]
 ·obtain⟨F,as,Q',q,e,t,o,rv,hφ,kk,kx⟩:=h
  have hl:=hlen as _ _ hφ
  have m:=M.start (N:=N++[z]) e t o rv
  have ea:as.map some++List.replicate ((N++[z]).length-as.length) none=(as.map some++List.replicate (N.length-as.length) none)++[none]:=by
   rw[cW,zb8,show N.length+1-as.length=(N.length-as.length)+1 by omega,List.replicate_succ',List.append_assoc]
  rw[ea] at m
  have el:(as.map some++List.replicate (N.length-as.length) (none:Option A)).length=N.length:=by rw[cW,cT,aY];omega
  have mx:=m.exc (j:=N.length) (q:=fun _=>True) (by rw[br (by omega),el,ao]<;>rfl)
  have es:((as.map some++List.replicate (N.length-as.length) (none:Option A))++[none]).set N.length (some (A.exc F fun _=>True))=(as.map some++List.replicate (N.length-as.length) none)++[some (.exc F fun _=>True)]:=by
   rw[aZ _ _ (by omega),el,ao]<;>rfl
  rw[es] at mx
  refine hbody cdv A' outer s H E as Q' q F _ hr hφ ⟨_,_,rfl,rfl,rfl,fun σ d S a H' mr qd=>kx d S a H' qd ⟨mr.tp,mr.keep,wJ mr⟩⟩ F _ H _ mx ⟨fun α σ H' m q=>?_,fun a v H' r q=>kk a v H' q r,fun _ _ _ _ z=>z.elim,fun _ _ _ _ z=>z.elim⟩
  exact kk _ _ _ q ⟨m.tp,m.keep,.non⟩
end
structure qj (P:Program)(w:World)(K:PySem.W.Frag)(mg:Str→Option Value)(base:Heap)(x:Str)(k:Nat)(φ:List A→(A→Prop)→(PyData→Prop)→Prop):Prop where
 ex:∃f fd ps,mg x=some (.ref f)∧PySem.W.keepIn K (.ref f)=true∧Binds K fd ps []∧zo P w K mg base (CX1 P w base) k f fd ps (spX φ)
structure fz (K:PySem.W.Frag)(mg:Str→Option Value)(x:Str)(C:Addr):Prop where
 m:mg x=some (.ref C)
 kp:PySem.W.keepIn K (.ref C)=true
 ex:∃S,xH K C S none=true
section
variable {X:Cx}{α αh:Ev}{r:Fr}{q q0:PyData→Prop}{j k:Nat}{x fl:Str}{C:Addr}{e:Expr}{es:List Expr}{p pos pos':Pos}{rest:List Stmt}{E:yA}
theorem nS (xo:Xok X r αh q)(hc:X.calm=true)(ck:fz X.K X.mg x C)(hg:Gl X x)(hj:α[j]?=some (some (.exc r q0)))(le:leX αh α)(h:EvD X α e fun _=>q (xD0 C))
  (hdb:(x == ("__debug__":Str))=false:=by decide) (he:starEach [e] X.env=(false,eval e X.env)::starEach [] X.env:=by rfl):SvS X α (.Raise (some (.Call (.Name x p) [e] [] pos)) none pos'::rest) E:=fun F σ H D m rr=>by
 obtain⟨X0,R,rfl,h1,h2,h3⟩:=xo.ex
 obtain⟨S,c⟩:=ck.ex
 refine⟨_,zz (jf c hc (ny (X:=X0.wish (XE X0 R)) c ck.kp hg ck.m (zb zi zj he) hdb he)) zT,?_⟩
 refine h F σ H _ m fun d v H1 q1 t1 k1 r1=>?_
 refine⟨aB rfl,fun a ha=>⟨a,none,rfl,zd,?_⟩⟩
 have m1:=m.kz k1 t1
 rw[wm]
 have sm:zm H1 (upd H1 a (xcO a C none)):=fun y o e=>by rw[zc (fun z=>by rw[z,ha] at e;cases e)];exact e
 have m3:=m1.snoc (v:=.ref a) (b:=.deep (xD0 C) fun _=>False) (H':=upd H1 a (xcO a C none)) (m1.tp.same sm) (Kz.of_same sm) (fun x z=>z.elim) ⟨_,rfl,.xn (iE (zM ⟨m1.fresh ha,fun z=>z⟩ zd) (fun z=>z) fun xs z=>by cases z),fun x z=>z.elim⟩
 exact h3 σ _ _ a _ (m3.backS hj le trivial) q1
theorem sU {X0:Cx}{R:St→Addr→Hp→Prop}{f:Addr}{fd:FuncData}{ps:List Str}{sp:Sp}{t:TA}(hex:X0.ex=[])(F:zo X0.prog X0.w X0.K X0.mg X0.base (CX1 X0.prog X0.w X0.base) k f fd ps sp)(hr:zy k X0.A)(hg:Gl X0 x)(hm:X0.mg x=some (.ref f))(hk:PySem.W.keepIn X0.K (.ref f)=true)(hb:Binds X0.K fd ps [])
  (ha:PA (X0.wish (XE X0 R)) (e::es) t) (hdb:(x == ("__debug__":Str))=false:=by decide) (he:starEach (e::es) X0.env=(false,eval e X0.env)::starEach es X0.env:=by rfl) (hpl:(backTo pos (starEach es X0.env)).any (·.1)=false:=by rfl):
  PE (X0.wish (XE X0 R)) (.Call (.Name x p) (e::es) [] pos) (fun σ H Q=>t σ H fun vs H1=>∃E:XK,(∀a H',E (.ref a) none H'→R σ a H')∧sp vs H1 Q E):=by
 intro pins s σ H Q I h
 refine bU (yw I hg hm ?_ hdb)
 refine ax (h₀:=X0.base) I.ok.mod.kin hk (thn (ha pos pins s σ H _ I h) fun us s1 ⟨vs,H1,I1,r,E,hE,q⟩=>⟨I1.kIn,?_⟩) he hpl
 have hl:(us++[]).length=ps.length:=by rw[bQ,←r.length];exact F.len _ _ _ _ q
 have hbb:=hb s1 us I1.kIn hl
 rw[bQ] at hbb
 refine aO (aX (F.run X0.A X0.stack s1 H1 ⟨us,[]⟩ us vs Q E hr I1.env0 hbb r q) fun r s' hq=>?_)
 cases r with
 |error e=>exact pj hex I1.unwish hq hE
 |ok fl=>
  cases fl with
  |ret u=>exact I1.after hq
  |next=>exact False.elim hq
  |brk=>exact False.elim hq
  |cont=>exact False.elim hq
variable {φ:List A→(A→Prop)→(PyData→Prop)→Prop}{Q:PyData→Prop}
theorem xA {F:Fr}{σ:St}{H:Hp}{vs:List V}{as:List A}{QA:A→Prop}{Rk:VK}{R:St→Addr→Hp→Prop}(m:M F α σ H)(hj:α[j]?=some (some (.exc r q0)))(le:leX αh α)(h3:∀σ d S a H',M r (αh++[some (.deep d S)]) (σ++[some (.ref a)]) H'→q d→R σ a H')(rv:zF F (Gz F α σ H) vs as)(hφ:φ as QA q)
  (kk:∀a v H',QA a→xx ⟨H,Ow F α σ,F.tp⟩ v H' a→Rk v H'):∃E:XK,(∀a H',E (.ref a) none H'→R σ a H')∧spX φ vs H Rk E:=by
 refine⟨fun v _ H'=>∃a,v=.ref a∧∃d S,q d∧xx ⟨H,Ow F α σ,F.tp⟩ (.ref a) H' (.deep d S),fun a H' ⟨a',e,d,S,qd,ra⟩=>?_,⟨⟨H,Ow F α σ,F.tp⟩,as,QA,q,rfl,m.tp.to rfl fun _ z=>.inl z,fun y z=>m.owEx z,zF.to (F:=F) (F':=⟨H,Ow F α σ,F.tp⟩) (fun _ _ e=>e) rfl rv,hφ,kk,fun d S a H' qd ra=>⟨a,rfl,d,S,qd,ra⟩⟩⟩
 cases e
 obtain⟨g1,g2,_⟩:=ra.back m
 obtain⟨_,_,g3,g4⟩:=ra
 have m3:=m.snoc (v:=.ref a) (b:=.deep d S) (H':=H') g1 g2 (fun x z=>(g4 x z).2.1) ⟨_,rfl,g3.same fun x o e=>?_,fun x z=>⟨ow0 (g4 x z).1,m.fresh0 (g4 x z).2.1,(g4 x z).2.2⟩⟩
 ·exact h3 σ d S a H' (m3.backS hj le trivial) qd
 ·unfold vq at e ⊢
  by_cases z:S x
  ·rw[if_pos z] at e ⊢;exact e
  ·rw[if_neg z] at e ⊢
   cases q:sub (fun x=>¬Ow F α σ x) H' x with
   |none=>rw[q] at e;cases e
   |some u=>
    obtain⟨w1,w2⟩:=zh q
    rw[zM (p:=fun x=>¬Ow F α σ x∧¬foot (some (V.ref a)) (.deep d S) x) ⟨w1,z⟩ w2]
    rw[q] at e
    exact e
theorem ix (xo:Xok X r αh q)(hj:α[j]?=some (some (.exc r q0)))(le:leX αh α)(C:qj X.prog X.w X.K X.mg X.base x k φ)(hr:zy k X.A)(hg:Gl X x)(h:EvA X α (e::es) fun as=>φ as (fun a=>Q a.d) q)
  (hdb:(x == ("__debug__":Str))=false:=by decide) (he:starEach (e::es) X.env=(false,eval e X.env)::starEach es X.env:=by rfl) (hpl:(backTo pos (starEach es X.env)).any (·.1)=false:=by rfl):EvD X α (.Call (.Name x p) (e::es) [] pos) Q:=fun F σ H Rk m kk=>by
 obtain⟨X0,R,rfl,h1,h2,h3⟩:=xo.ex
 obtain⟨f,fd,ps,c1,c2,c3,c4⟩:=C.ex
 refine⟨_,sU h2 c4 hr hg c1 c2 c3 yi hdb he hpl,?_⟩
 refine h F σ H _ m fun as vs H1 q1 t1 k1 r1=>?_
 have m1:=m.kz k1 t1
 refine xA m1 hj le h3 r1 q1 fun a v H' qa ra=>?_
 obtain⟨g1,g2,g3⟩:=ra.back m1
 exact kk _ v H' qa g1 (k1.trans g2) g3
theorem ip {Q:List PyData→Prop}(xo:Xok X r αh q)(hj:α[j]?=some (some (.exc r q0)))(le:leX αh α)(C:qj X.prog X.w X.K X.mg X.base x k φ)(hr:zy k X.A)(hg:Gl X x)(h:EvA X α (e::es) fun as=>φ as (fun a=>∃ds,a=.own ds∧Q ds) q)
  (hdb:(x == ("__debug__":Str))=false:=by decide) (he:starEach (e::es) X.env=(false,eval e X.env)::starEach es X.env:=by rfl) (hpl:(backTo pos (starEach es X.env)).any (·.1)=false:=by rfl):EvL X α (.Call (.Name x p) (e::es) [] pos) Q:=fun F σ H Rk m kk=>by
 obtain⟨X0,R,rfl,h1,h2,h3⟩:=xo.ex
 obtain⟨f,fd,ps,c1,c2,c3,c4⟩:=C.ex
 refine⟨_,sU h2 c4 hr hg c1 c2 c3 yi hdb he hpl,?_⟩
 refine h F σ H _ m fun as vs H1 q1 t1 k1 r1=>?_
 have m1:=m.kz k1 t1
 refine xA m1 hj le h3 r1 q1 fun a v H' qa ra=>?_
 obtain⟨ds,rfl,qd⟩:=qa
 obtain⟨g1,g2,_⟩:=ra.back m1
 obtain⟨_,_,l,xs,ds',rfl,hc,w1,w2,w3,w4⟩:=ra
 cases hc
 exact kk ds _ H' qd g1 (k1.trans g2) (yp.back m k1 t1 ⟨l,xs,rfl,w1,w3,w4⟩)
end
section
variable {P:Program}{w:World}{K:PySem.W.Frag}{mg:Str→Option Value}{base:Heap}
theorem dJ {x qual:Str}{st:Stmt}{f:Addr}{fd:FuncData}{N ps:List Str}{z:Str}{k:Nat}{φ:List A→(A→Prop)→(PyData→Prop)→Prop}(G:Fun K x qual st f fd)(hm:mg x=some (.ref f))(hb:Binds K fd ps [])(S:zg (N++[z]) ps (za st))(hpn:ps.length≤N.length)(hlen:∀as Q q,φ as Q q→as.length=ps.length)
  (hbody:∀(cdv:Value) (A':Around) (outer:List Env) (s:Shared) (H:Hp) (E:XK) (as:List A) (Q:A→Prop) (q:PyData→Prop) (r:Fr) (xe:Value→Shared→Prop),zy k (A'.deeper (envOfC qual (za st) s.heap.objs.size f cdv))→φ as Q q→Xok ((yB (CX1 P w base) P w K mg base (N++[z]) qual (za st) f cdv A' outer s H E).wish xe) r (List.replicate (N.length+1) none) q→
   SvS ((yB (CX1 P w base) P w K mg base (N++[z]) qual (za st) f cdv A' outer s H E).wish xe) ((as.map some++List.replicate (N.length-as.length) none)++[some (.exc r fun _=>True)]) (zr st) {nx:=fun _=>Q (.dat .none),rt:=Q}):qj P w K mg base x (k+1) φ:=
 ⟨f,fd,ps,hm,G.kp,hb,fnX G S hpn hlen hbody⟩
end
section
variable {X:Cx}{α αh:Ev}{q:PyData→Prop}{i j:Nat}{x n:Str}{B:Addr}{body suite rest:List Stmt}{b0:Stmt}{np hpos pos:Pos}{E:yA}
theorem qq {K:PySem.W.Frag}{r:Fr}{αh:Ev}(hq:∀d,q d→∃C,isX C d∧XB K C B):oz K B (fun σ a H=>∃d S,M r (αh++[some (.deep d S)]) (σ++[some (.ref a)]) H∧q d):=fun σ a H ⟨d,S,m,qd⟩=>by
 obtain⟨C,x,b⟩:=hq d qd
 obtain⟨av,_⟩:=wJ m
 obtain⟨a',dx,e,h1,h2⟩:=x.at av
 cases e
 exact⟨C,dx,lX h1,fun y e=>by obtain⟨fs,h⟩:=h2 y e;exact⟨fs,lX h⟩,b⟩
theorem tK {β:Ev}{j:Nat}{a:A}{i:Nat}(e:(β.set j none)[i]?=some (some a)):β[i]?=some (some a):=by
 rcases zC e with ⟨_,z⟩|⟨_,z⟩
 ·cases z
 ·exact z
theorem M.drop {F:Fr}{β:Ev}{σ:St}{H:Hp}{j:Nat}(m:M F β σ H):M F (β.set j none) σ H:=m.forget (by rw[bB]) fun i a e=>tK e
theorem M.dropS {F:Fr}{β:Ev}{σ:St}{H:Hp}{j:Nat}(m:M F β σ H):M F (β.set j none) (σ.set j none) H:=by
 have m':=m.drop (j:=j)
 have gs:∀{i:Nat} {a:A} {s:Option V},(β.set j none)[i]?=some (some a)→(σ.set j none)[i]?=some s→σ[i]?=some s:=fun {i a s} e1 e2=>by
  by_cases z:j=i
  ·subst z
   rcases zC e1 with ⟨_,z⟩|⟨z,_⟩
   ·cases z
   ·exact absurd rfl z
  ·rw[bN z] at e2;exact e2
 have ow:∀{y:Addr},Ow F (β.set j none) (σ.set j none) y→Ow F (β.set j none) σ y:=fun {y} h=>by
  rcases h with z|⟨i,c,s,e1,e2,f⟩
  ·exact .inl z
  ·exact .inr ⟨i,c,s,e1,gs e1 e2,f⟩
 have gz:zm (Gz F (β.set j none) σ H) (Gz F (β.set j none) (σ.set j none) H):=zk fun a o h e=>⟨fun z=>h (ow z),e⟩
 exact⟨by rw[bB,bB];exact m.len,fun i c s e1 e2=>(m'.ok i c s e1 (gs e1 e2)).stay gz (fun x o f e=>⟨e,(m'.ft e1 (gs e1 e2) f).1,(m'.ft e1 (gs e1 e2) f).2.1⟩) rfl fun _ _ _ l=>l,fun i i' c d s s' x e1 e2 h1 h2=>m'.dj i i' c d s s' x e1 e2 (gs e1 h1) (gs e2 h2),fun i r' q' e i' c s x e1 e2=>m'.xd i r' q' e i' c s x e1 (gs e1 e2),m'.tp,m'.keep,m'.oex⟩
theorem sS (i j:Nat)(αh:Ev)(q:PyData→Prop)(hst:X.stack=X.env::X.outer)(hex:X.ex=[])(hN:X.N.Nodup)(hj:α[j]?=some none)(le:leX αh α)(hg:Gl X x)(hm:X.mg x=some (.ref B))(hq:∀d,q d→∃C,isX C d∧XB X.K C B)
  (h1:∀(pins:List (Addr×Obj)) (xe:Value→Shared→Prop) (r:Fr),Xok ((X.held pins).wish xe) r αh q→SvS ((X.held pins).wish xe) (α.set j (some (.exc r fun _=>True))) body {nx:=fun α'=>SvS X (α'.set j none) rest E,rt:=E.rt,bk:=fun α'=>E.bk (α'.set j none),ct:=fun α'=>E.ct (α'.set j none)})
  (h2:∀(pins:List (Addr×Obj)) (a:Addr) d S,q d→SvS ((X.held pins).suite a) (αh.set i (some (.deep d S))) (b0::suite) {nx:=fun α'=>SvS X (α'.set i none) rest E,rt:=E.rt,bk:=fun α'=>E.bk (α'.set i none),ct:=fun α'=>E.ct (α'.set i none)})
  (hi:X.N[i]?=some n:=by rfl) (hl:X.env.scope.names.lookup n=some .local:=by rfl) (hdb:(x == ("__debug__":Str))=false:=by decide):
  SvS X α (.Try body [.ExceptHandler (some (.Name x np)) (some n) (b0::suite) hpos] [] [] pos::rest) E:=fun F σ H D m rr=>by
 refine⟨_,zz (jh (R:=fun σ a H=>∃d S,M F (αh++[some (.deep d S)]) (σ++[some (.ref a)]) H∧q d) hst hN hi hl hg hm (qq hq) hdb) zT,fun pins=>?_,fun pins a σ' H' hR=>?_⟩
 ·refine h1 pins _ F ⟨_,_,rfl,hst,hex,fun σ d S a H' mr qd=>⟨d,S,mr,qd⟩⟩ F σ H _ (m.exc hj) ⟨fun α' σ' H' m' z=>?_,rr.rt,fun α' σ' H' m' z=>rr.bk _ _ _ m'.drop z,fun α' σ' H' m' z=>rr.ct _ _ _ m'.drop z⟩
  exact z F σ' H' D m'.drop rr
 ·obtain⟨d,S,mr,qd⟩:=hR
  refine h2 pins a d S qd F _ H' _ mr.lastAt ⟨fun α' σ' H' m' z=>?_,rr.rt,fun α' σ' H' m' z=>rr.bk _ _ _ m'.dropS z,fun α' σ' H' m' z=>rr.ct _ _ _ m'.dropS z⟩
  exact z F _ H' D m'.dropS rr
end
section
variable {X:Cx}{α:Ev}{p p1 pos:Pos}{a:Expr}{Q:PyData→Prop}{C S:Addr}{init:Option Value}
inductive TyX (K:PySem.W.Frag)(H:Hp):V→Addr→Prop where
 |mk {a C S:Addr} {d:Option Addr} {init:Option Value} (e:H a=some (xcO a C d)) (hd:∀dx,d=some dx→∃fs,H dx=some (.xd fs)) (c:XC K C S init):TyX K H (.ref a) C
theorem pf {pins:List (Addr×Obj)}{σ:St}{H:Hp}{s:Shared}{A:Around}{E:Value→Shared→Prop}{Q:Value→Shared→Prop}{c:Value}{b:Bool}{x:V}{u:Value}(I:Inv X pins σ H s)(rx:RelV x u)(ty:TyX X.K H x C)(e:PySem.W.kitOne X.K (.ref C) c=some b)(h:∀tk,Q (.bool b) {s with toks:=tk}):
  wpAny (model X.prog X.w) A (call (.builtin "isinstance") [u,c]) Q E s:=by
 cases ty with
 |@mk a C S d init ea hd xc=>
  cases (show u=Value.ref a from rx)
  obtain⟨ox,od,J,_⟩:=oh I.hok ea hd
  exact bO (jj xc) I.kIn J e (fun z=>nomatch z) h
theorem nQ :yX X (.builtin "isinstance") (fun xs H Q=>∃x B C b,xs=[x,.ref B]∧TyX X.K H x C∧PySem.W.kitOne X.K (.ref C) (.ref B)=some b∧Q (.bl b) H):=by
 intro pins s σ H xs us Q I r h
 obtain⟨x,B,C,b,rfl,ty,e,q⟩:=h
 obtain⟨u,v,rfl,rx,ry⟩:=Vals.two r
 cases (show v=Value.ref B from ry)
 exact pf I rx ty e fun tk=>⟨.bl b,H,I.tok tk,rfl,q⟩
theorem gY {G H:Hp}{pr:Addr→Prop}{v:V}{d:PyData}(x:isX C d)(c:XC X.K C S init)(h:AV (sub pr H) v d):TyX X.K H v C:=by
 obtain⟨a,dx,rfl,h1,h2⟩:=x.at h
 exact .mk (zh h1).2 (fun y e=>by obtain⟨fs,z⟩:=h2 y e;exact⟨fs,(zh z).2⟩) c
theorem jY {B:Addr}{x:Str}(hg:Gl X "isinstance")(hm:X.mg "isinstance"=none)(hgC:Gl X x)(hmC:X.mg x=some (.ref B))(h:EvD X α a fun d=>∃C S init b,isX C d∧XC X.K C S init∧PySem.W.kitOne X.K (.ref C) (.ref B)=some b∧Q (.bool b))
  (hdx:(x == ("__debug__":Str))=false:=by decide) (he:starEach [a,.Name x p1] X.env=(false,eval a X.env)::starEach [.Name x p1] X.env:=by rfl) (he2:starEach [.Name x p1] X.env=(false,eval (.Name x p1) X.env)::starEach [] X.env:=by rfl) (hpl:(backTo pos (starEach [.Name x p1] X.env)).any (·.1)=false:=by rfl):
  EvD X α (.Call (.Name "isinstance" p) [a,.Name x p1] [] pos) Q:=fun F σ H R m k=>by
 refine⟨_,zI nQ hg hm aI (zb zi (zb (xq (v:=.ref B) hgC hmC rfl hdx) zj he2) he) (he:=he) (hpl:=hpl),?_⟩
 refine h F σ H _ m fun d vx H1 q1 t1 k1 r1=>?_
 obtain⟨C,S,init,b,x,c,e,q⟩:=q1
 exact⟨vx,B,C,b,rfl,gY (G:=H1) x c r1,e,k _ _ H1 q t1 k1 (.bl b)⟩
end
section
variable {X:Cx}{α:Ev}{pos:Pos}{o:Expr}{f:Str}{Q:PyData→Prop}{C S:Addr}{init:Option Value}
end
section
variable {P:Program}{w:World}{K:PySem.W.Frag}{mg:Str→Option Value}{base:Heap}
end
section
variable {X:Cx}{α αh:Ev}{r:Fr}{q q0:PyData→Prop}{j k:Nat}{x fl:Str}{C:Addr}{e:Expr}{es:List Expr}{p pos pos':Pos}{rest:List Stmt}{E:yA}
end
section
variable {P:Program}{w:World}{K:PySem.W.Frag}{mg:Str→Option Value}{base:Heap}
end
def rY (K:Frag)(C S:Addr)(init:Option Value):Bool:=xH K C S init&&findIn K (.ref C) "__setattr__" == some (some (.builtin "object.__setattr__"))&&findIn K (.ref C) "__getattribute__" == some (some (.builtin "BaseException.__getattribute__"))&&findIn K (.ref C) "__getattr__" == some none&&findIn K (.ref C) "__class__" == some (some (.builtin "object.__class__"))&&specialIn K (.builtin "object.__class__") "__get__" == some (some (.builtin "getset_descriptor.__get__"))&&takesIn K (.builtin "object.__class__")==some true
theorem XC.of {K:Frag}{C S:Addr}{init:Option Value}(h:rY K C S init=true):XC K C S init:=by
 simp only[rY,bu,aN] at h
 obtain⟨⟨⟨⟨⟨⟨h1,h2⟩,h3⟩,h4⟩,h5⟩,h6⟩,h7⟩:=h
 exact⟨h1,h2,h3,h4,h5,h6,h7⟩
def jn (K:Frag)(C B:Addr):Bool:=typeIn K (.ref B)==some (.type "type")&&mroIn K B (.type "BaseException")==some true&&mroIn K C (.ref B)==some true
theorem XB.of {K:Frag}{C B:Addr}(h:jn K C B=true):XB K C B:=by
 simp only[jn,bu,aN] at h
 exact⟨h.1.1,h.1.2,h.2⟩
section
variable {P:Program}{w:World}{K:PySem.W.Frag}{mg:Str→Option Value}{base:Heap}
theorem qf.okX {dV:Value}{x qual:Str}{st:Stmt}{f:Addr}{fd:FuncData}{N ps:List Str}{k:Nat}{sp:Sp}(F:qf K x qual st dV f fd)(S:zg N ps (za st))(len:∀vs H Q E,sp vs H Q E→vs.length=ps.length)
  (hbody:∀(cdv:Value) (A:Around) (outer:List Env) (s:Shared) (H:Hp) (vs:List V) (Q:VK) (E:XK),zy k (A.deeper (envOfC qual (za st) s.heap.objs.size f cdv))→sp vs H Q E→
   ∃t,PSs ((yB (CX1 P w base) P w K mg base N qual (za st) f cdv A outer s H E).wish (XE (yB (CX1 P w base) P w K mg base N qual (za st) f cdv A outer s H E) fun _ a H=>E (.ref a) none H)) (zr st) t∧t {nx:=fun _ H'=>Q .non H',rt:=Q} (start N vs) H):zo P w K mg base (CX1 P w base) (k+1) f fd ps sp:=by
 obtain⟨oc,od,kV,doc,pm,an,cdv,ct,osl,rfl,lk,hcd⟩:=F.ex
 refine oF lk hcd S len fun A outer s H vs Q E hr hsp=>?_
 obtain⟨t,h,q⟩:=hbody cdv A outer s H vs Q E hr hsp
 exact⟨t,h.wishx fun e s z=>pZ z,q⟩
theorem cG {dV:Value}{x qual:Str}{st:Stmt}{f:Addr}{fd:FuncData}{N ps:List Str}{z:Str}{k:Nat}{φ:List A→(A→Prop)→(PyData→Prop)→Prop}(G:qf K x qual st dV f fd)(S:zg (N++[z]) ps (za st))(hpn:ps.length≤N.length)(hlen:∀as Q q,φ as Q q→as.length=ps.length)
  (hbody:∀(cdv:Value) (A':Around) (outer:List Env) (s:Shared) (H:Hp) (E:XK) (as:List A) (Q:A→Prop) (q:PyData→Prop) (r:Fr) (xe:Value→Shared→Prop),zy k (A'.deeper (envOfC qual (za st) s.heap.objs.size f cdv))→φ as Q q→Xok ((yB (CX1 P w base) P w K mg base (N++[z]) qual (za st) f cdv A' outer s H E).wish xe) r (List.replicate (N.length+1) none) q→
   SvS ((yB (CX1 P w base) P w K mg base (N++[z]) qual (za st) f cdv A' outer s H E).wish xe) ((as.map some++List.replicate (N.length-as.length) none)++[some (.exc r fun _=>True)]) (zr st) {nx:=fun _=>Q (.dat .none),rt:=Q}):zo P w K mg base (CX1 P w base) (k+1) f fd ps (spX φ):=by
 refine G.okX S (fun vs H Q E h=>?_) (fun cdv A' outer s H vs Qc E hr h=>?_)
 ·obtain⟨F,as,Q',q,_,_,_,rv,hφ,_⟩:=h
  rw[rv.length,hlen as _ _ hφ]
 ·obtain⟨F,as,Q',q,e,t,o,rv,hφ,kk,kx⟩:=h
  have hl:=hlen as _ _ hφ
  have m:=M.start (N:=N++[z]) e t o rv
  have ea:as.map some++List.replicate ((N++[z]).length-as.length) none=(as.map some++List.replicate (N.length-as.length) none)++[none]:=by
   rw[cW,zb8,show N.length+1-as.length=(N.length-as.length)+1 by omega,List.replicate_succ',List.append_assoc]
  rw[ea] at m
  have el:(as.map some++List.replicate (N.length-as.length) (none:Option A)).length=N.length:=by rw[cW,cT,aY];omega
  have mx:=m.exc (j:=N.length) (q:=fun _=>True) (by rw[br (by omega),el,ao]<;>rfl)
  have es:((as.map some++List.replicate (N.length-as.length) (none:Option A))++[none]).set N.length (some (A.exc F fun _=>True))=(as.map some++List.replicate (N.length-as.length) none)++[some (.exc F fun _=>True)]:=by
   rw[aZ _ _ (by omega),el,ao]<;>rfl
  rw[es] at mx
  refine hbody cdv A' outer s H E as Q' q F _ hr hφ ⟨_,_,rfl,rfl,rfl,fun σ d S a H' mr qd=>kx d S a H' qd ⟨mr.tp,mr.keep,wJ mr⟩⟩ F _ H _ mx ⟨fun α σ H' m q=>?_,fun a v H' r q=>kk a v H' q r,fun _ _ _ _ z=>z.elim,fun _ _ _ _ z=>z.elim⟩
  exact kk _ _ _ q ⟨m.tp,m.keep,.non⟩
structure lL (P:Program)(w:World)(K:PySem.W.Frag)(mg:Str→Option Value)(base:Heap)(x:Str)(k:Nat)(φ:List A→(PyData→Prop)→Prop):Prop where
 ex:∃C f fd ps,mg x=some (.ref C)∧Mk K C f∧Binds K fd ps []∧zo P w K mg base (CX1 P w base) k f fd ps (spX fun as _ q=>∃as',as=.dat (yV C [])::as'∧φ as' q)
end
section
variable {X:Cx}{α αh:Ev}{r:Fr}{q q0:PyData→Prop}{j k:Nat}{x fl:Str}{C:Addr}{e:Expr}{es:List Expr}{p pos pos':Pos}{rest:List Stmt}{E:yA}{Q:PyData→Prop}{φ:List A→(PyData→Prop)→Prop}
theorem mH {X0:Cx}{R:St→Addr→Hp→Prop}{f:Addr}{fd:FuncData}{ps:List Str}{sp:Sp}{t:TA}(hex:X0.ex=[])(M':Mk X0.K C f)(F:zo X0.prog X0.w X0.K X0.mg X0.base (CX1 X0.prog X0.w X0.base) k f fd ps sp)(hr:zy (k+1) X0.A)(hg:Gl X0 x)(hm:X0.mg x=some (.ref C))(hb:Binds X0.K fd ps [])
  (ha:PA (X0.wish (XE X0 R)) (e::es) t) (hdb:(x == ("__debug__":Str))=false:=by decide) (he:starEach (e::es) X0.env=(false,eval e X0.env)::starEach es X0.env:=by rfl) (hpl:(backTo pos (starEach es X0.env)).any (·.1)=false:=by rfl):
  PE (X0.wish (XE X0 R)) (.Call (.Name x p) (e::es) [] pos) (fun σ H Q=>t σ H fun vs H1=>∀y dx,H1 y=none→H1 dx=none→dx≠y→∃E:XK,(∀a H',E (.ref a) none H'→R σ a H')∧sp (.ref y::vs) (upd (upd H1 dx (.own y)) y (.ins C dx [])) (fun v H2=>v=.non∧Q (.ref y) H2) E):=by
 intro pins s σ H Q I h
 refine bU (yw I hg hm ?_ hdb)
 refine ax (h₀:=X0.base) I.ok.mod.kin M'.kp (thn (ha pos pins s σ H _ I h) fun us s1 ⟨vs,H1,I1,r,q⟩=>⟨I1.kIn,?_⟩) he hpl
 obtain⟨E,hE,hq⟩:=q (s1.heap.objs.size+1) s1.heap.objs.size (I1.hok.fresh (aQ _)) (I1.hok.fresh (cU _)) (bx (za0 _))
 have I2:=Inv.made (C:=C) I1
 have r2:Vals (V.ref (s1.heap.objs.size+1)::vs) (Value.ref (s1.heap.objs.size+1)::us):=.cons rfl r
 have hl:(Value.ref (s1.heap.objs.size+1)::us++[]).length=ps.length:=by
  rw[bQ,←r2.length]
  exact F.len _ _ _ _ hq
 have hbb:=hb _ (Value.ref (s1.heap.objs.size+1)::us) I2.kIn hl
 rw[bQ] at hbb
 refine aO (rN (f:=f) I1.kIn M'.makes M'.init (aN.mp M'.fn) (aX (F.run _ X0.stack _ _ ⟨Value.ref (s1.heap.objs.size+1)::us,[]⟩ (Value.ref (s1.heap.objs.size+1)::us) _ _ E (hr.make C us [])
  (I2.env0.make C us []) hbb r2 hq) fun r s' hq'=>?_))
 cases r with
 |error e=>exact pj hex I2.unwish hq' hE
 |ok fl=>
  cases fl with
  |ret u=>
   obtain⟨v,H',I3,rv,ev,q3⟩:=I2.after hq'
   subst ev
   exact⟨rv,⟨V.ref (s1.heap.objs.size+1),H',I3,rfl,q3⟩⟩
  |next=>exact False.elim hq'
  |brk=>exact False.elim hq'
  |cont=>exact False.elim hq'
theorem lC (xo:Xok X r αh q)(hj:α[j]?=some (some (.exc r q0)))(le:leX αh α)(C':lL X.prog X.w X.K X.mg X.base x k φ)(hr:zy (k+1) X.A)(hg:Gl X x)(h:EvA X α (e::es) fun as=>φ as q)
  (hdb:(x == ("__debug__":Str))=false:=by decide) (he:starEach (e::es) X.env=(false,eval e X.env)::starEach es X.env:=by rfl) (hpl:(backTo pos (starEach es X.env)).any (·.1)=false:=by rfl):EvD X α (.Call (.Name x p) (e::es) [] pos) Q:=fun F σ H Rk m kk=>by
 obtain⟨X0,R,rfl,h1,h2,h3⟩:=xo.ex
 obtain⟨C,f,fd,ps,c1,c2,c3,c4⟩:=C'.ex
 refine⟨_,mH h2 c2 c4 hr hg c1 c3 yi hdb he hpl,?_⟩
 refine h F σ H _ m fun as vs H1 q1 t1 k1 r1=>?_
 have m1:=m.kz k1 t1
 intro y dx hy hdx hne
 have sm:zm H1 (upd (upd H1 dx (.own y)) y (.ins C dx [])):=fun a o e=>by rw[zc (ze e hy),zc (ze e hdx)];exact e
 have m2:=m1.kz (Kz.of_same sm) (m1.tp.same sm)
 refine xA (as:=.dat (yV C [])::as) (QA:=fun _=>False) m2 hj le h3 (.cons ?_ (r1.same ?_)) ⟨as,rfl,q1⟩ fun a v H' z=>z.elim
 ·exact .ins (zM (m1.fresh hy) zd) .nil
 ·exact zk fun a o hh e=>⟨hh,sm a o e⟩
theorem iC {y f:Str}{p1 p2:Pos}(i:Nat)(h:EvD X α e fun _=>False)(hN:X.N[i]?=some y:=by rfl)(hv:Vis X.env.scope y:=by first|exact Or.inl rfl|exact Or.inr (Or.inl rfl)|exact Or.inr (Or.inr rfl))(hd:(y == ("__debug__":Str))=false:=by decide)(hcd:(y == ("__classdict__":Str))=false:=by decide)
  (hs:swapsWith e (some (.Attribute (.Name y p1) f p2)) pos.line X.env=pure false:=by rfl):SvS X α (.Assign [.Attribute (.Name y p1) f p2] e pos::rest) E:=fun F σ H D m r=>by
 refine⟨_,zz (vI (xk hN hv hd hcd) zi hs) zT,?_⟩
 exact h F σ H _ m fun d v H' z=>z.elim
theorem jt {a b:Str}{j1 j2:Nat}{p4 p6 p7 p8:Pos}(la:a.length≤10000)(lb:b.length≤10000)(h:EvD X α e fun d=>∃i:Int,d=.int i∧i.natAbs.log2<1920∧∀t:Str,Q (.str t)):EvD X α (.JoinedStr [.Constant (.str a) j1 p4,.FormattedValue e (-1) none p6,.Constant (.str b) j2 p7] p8) Q:=fun F σ H R m k=>by
 refine⟨_,ku zN (gh zi) zN,?_⟩
 refine⟨a,rfl,la,?_⟩
 refine h F σ H _ m fun d v H1 q1 t1 k1 r1=>?_
 obtain⟨i,rfl,hi,q⟩:=q1
 cases r1.int_inv
 exact⟨i,rfl,hi,_,rfl,jQ hi,b,rfl,lb,k _ _ H1 (q _) t1 k1 (.str _)⟩
end
end L2
set_option maxHeartbeats 4000000
namespace K12
open PySem PySem.Spec PyProof.Rows L2
def top (i:Nat):Stmt:=PySem.Challenge.pw_stayprice_k12_laid_over.main.body.getD i (.Pass ⟨0,0,0,0⟩)
abbrev uW :Stmt:=top 37
abbrev lJ :Stmt:=top 38
def mq :Scope:=match zr uW with
 |[.Return (some (.List (.ListComp _ _ sc _::_) _)) _]=>sc
 |_=>za uW
section
variable {P:Program}{w:World}{K:PySem.W.Frag}{mg:Str→Option Value}{base:Heap}
theorem gq :zg ["_law_script"] ["_law_script"] (za uW):=⟨rfl,rfl,rfl,by decide +kernel,rfl,by decide +kernel,by decide +kernel⟩
theorem lH :zK ["_law_script"] (za uW) ["_law_cell"] [none] mq:=⟨rfl,by decide +kernel,by decide +kernel,by decide +kernel,by decide +kernel,rfl,by decide +kernel⟩
theorem ig {f:Addr}{fd:FuncData}(F:Fun K "_law_tape" "_law_tape" uW f fd)(T:ed mg):zo P w K mg base CX0 1 f fd ["_law_script"] (qU K):=by
 refine F.ok gq (fun vs H Q E h=>?_) (fun cdv A outer s H vs Q E hr h=>?_)
 ·obtain⟨a,ns,rfl,_⟩:=h
  rfl
 ·obtain⟨a,ns,rfl,hS,hlen,k⟩:=h
  refine⟨_,zl (zq (kY (zb
   (hG rfl lH (pS (vM sk (pv 0) tP (sr zf)))
    (fun _ _ _ _=>zY (i:=0) lH.nd rfl (Or.inl rfl))
    (fun _ _ _ _=>pF (zO du (zI rl (by rfl) T.abs boot_abs (zb (pv 0) zj)) (ya ja zf zf) (zu _)))
    (fun _ _ _ _=>zI rl (by rfl) T.abs boot_abs (zb (pv 0) zj)))
   (zb (uz wo (by rfl) T.list boot_list (zb (vM sk (pv 0) tP (sr zf)) zj))
   (zb zf zj))))),?_⟩
  -- script[:63]
  refine⟨_,rfl,63,rfl,a,_,rfl,hS,fun l hl=>?_⟩
  obtain⟨ms,em,lm⟩:=kd ns none (some 63)
  rw[em]
  refine⟨l,rfl,⟨_,SqL.of zd⟩,fun acc hacc=>?_⟩
  have nal:acc≠l:=fun z=>by rw[z,zd] at hacc;cases hacc
  have hacc':H acc=none:=by rw[zc nal] at hacc;exact hacc
  have s0:zm H (upd H l (.lst (ms.map V.int))):=fun b o e=>by rw[zc (ze e hl)];exact e
  refine mi (K:=K) (a:=l) (xs:=ms.map V.int) (fun i ys τ H2=>∃(bs:List Int) (v:Option V),ys=bs.map V.int∧bs.length≤i∧τ=[v]∧H2=upd (upd H l (.lst (ms.map V.int))) acc (.lst (bs.map V.int)))
   ⟨[],none,rfl,cU _,rfl,rfl⟩ ?_ ?_ ?_
  ·rintro i ys τ H2 _ ⟨bs,v,rfl,_,rfl,rfl⟩
   exact SqL.of (by rw[zc nal.symm,zd])
  ·rintro i x ys τ H2 hx ⟨bs,v,rfl,hb,rfl,rfl⟩
   have hi:i<ms.length:=by
    have:=(cR.mp hx).1
    rwa [cT] at this
   obtain⟨z,rfl⟩:∃z,x=V.int z:=by
    rw[bE] at hx
    cases e:ms[i]? with
    |none=>rw[e] at hx;cases hx
    |some z=>rw[e] at hx;exact⟨z,(bt hx).symm⟩
   refine⟨_,rfl,z,rfl,_,_,rfl,rfl,⟨by decide,by decide,by decide⟩,_,_,rfl,rfl,_,rfl,?_⟩
   refine yd (fun _=>?_) (fun _=>?_)
   ·refine⟨_,rfl,z,rfl,zd,?_,bs++[if z<0 then -z else z],_,?_,?_,rfl,?_⟩
    ·rw[cT];exact yv (by omega)
    ·rw[za7];rfl
    ·rw[cW];simp;omega
    ·rw[wm,za7];rfl
   ·exact⟨bs,_,rfl,by omega,rfl,rfl⟩
  ·rintro ys τ H2 ⟨bs,v,rfl,hb,rfl,rfl⟩
   rw[cT] at hb
   -- list(script[:63])
   have s1:zm H (upd (upd H l (.lst (ms.map V.int))) acc (.lst (bs.map V.int))):=fun b o e=>by rw[zc (ze e hacc')];exact s0 b o e
   refine⟨_,rfl,63,rfl,a,_,rfl,s1.seq hS,fun l2 hl2=>?_⟩
   rw[em]
   refine⟨l2,_,rfl,.inl (SqL.of zd),fun c hc=>?_⟩
   refine⟨(by show 3≤sizeLine;decide),fun t ht=>?_⟩
   have n1:l2≠acc:=fun z=>by rw[z,zd] at hl2;cases hl2
   have n2:c≠l2:=fun z=>by rw[z,zd] at hc;cases hc
   have hc2:upd (upd H l (.lst (ms.map V.int))) acc (.lst (bs.map V.int)) c=none:=by rw[zc n2] at hc;exact hc
   have n3:c≠acc:=fun z=>by rw[z,zd] at hc2;cases hc2
   have n4:t≠c:=fun z=>by rw[z,zd] at ht;cases ht
   have ht2:upd (upd (upd H l (.lst (ms.map V.int))) acc (.lst (bs.map V.int))) l2 (.lst (ms.map V.int)) t=none:=by rw[zc n4] at ht;exact ht
   have n5:t≠l2:=fun z=>by rw[z,zd] at ht2;cases ht2
   have ht3:upd (upd H l (.lst (ms.map V.int))) acc (.lst (bs.map V.int)) t=none:=by rw[zc n5] at ht2;exact ht2
   have n6:t≠acc:=fun z=>by rw[z,zd] at ht3;cases ht3
   refine k t acc c _ ⟨0,bs,ms,n3.symm,zd,?_,?_,by omega,by omega⟩ (s1.free ht3) hacc' (s1.free hc2) fun b o e=>?_
   ·rw[zc n6.symm,zc n3.symm,zc n1.symm,zd]
   ·rw[zc n4.symm,zd]
   ·have e1:=s1 b o e
    rw[zc (ze e1 ht3),zc (ze e1 hc2),zc (ze e1 hl2)]
    exact e1
theorem vb :zg ["_law_tape_here","_law_many","_law_found","_law_cell","_law_number"] ["_law_tape_here","_law_many"] (za lJ):=⟨rfl,rfl,rfl,by decide +kernel,rfl,by decide +kernel,by decide +kernel⟩
theorem iA {f:Addr}{fd:FuncData}(F:Fun K "_law_draw" "_law_draw" lJ f fd)(T:ed mg):zo P w K mg base CX0 1 f fd ["_law_tape_here","_law_many"] kh:=by
 refine F.ok vb (fun vs H Q E h=>?_) (fun cdv A outer s H vs Q E hr h=>?_)
 ·obtain⟨t,b,c,many,rfl,_⟩:=h
  rfl
 ·obtain⟨t,b,c,many,rfl,⟨n,bs,cs,nbc,ht,hb,hc,lb,lc⟩,hm0,hm1,k⟩:=h
  have ntb:t≠b:=iX ht hb (pQ bs)
  have ntc:t≠c:=iX ht hc (pQ cs)
  have hlog:many.natAbs.log2<9000:=log2_small hm0 hm1
  -- tape[2]=tape[2]+1
  refine zE (fun σ H1=>σ=[some (.ref t),some (.int many),none,none,none]∧H1=upd H t (.lst [.ref b,.ref c,.int (n+1)]))
   ⟨_,kJ (ya va (zG zJ (pv 0) zf (fun _ _=>rfl)) zf) (my (pv 0) zf set_list),?_⟩ ?_
  ·exact⟨_,rfl,t,_,2,_,rfl,rfl,SqL.of ht,rfl,_,_,rfl,rfl,_,rfl,t,_,2,2,rfl,rfl,ht,rfl,rfl,rfl⟩
  rintro σ H1 ⟨rfl,hH1⟩
  have ht1:H1 t=some (.lst [.ref b,.ref c,.int (n+1)]):=by rw[hH1];exact zd
  have hb1:H1 b=some (.lst (bs.map V.int)):=by rw[hH1,zc ntb.symm];exact hb
  have hc1:H1 c=some (.lst (cs.map V.int)):=by rw[hH1,zc ntc.symm];exact hc
  have off1:tD t b H H1:=fun a h1 h2=>by rw[hH1,zc h1]
  clear hH1
  -- while len(tape[0]) > 0 and tape[0][0]==0:tape[0].pop(0)
  refine zE (fun σ H2=>∃bs2:List Int,bs2.length≤63∧σ=[some (.ref t),some (.int many),none,none,none]∧H2 t=some (.lst [.ref b,.ref c,.int (n+1)])∧H2 b=some (.lst (bs2.map V.int))∧H2 c=some (.lst (cs.map V.int))∧tD t b H H2)
   ⟨_,lZ zc3 (lA (zO pE (zI zX (by rfl) T.len aR (zb (zG zJ (pv 0) zf (fun _ _=>rfl)) zj)) zf (zu _))
     (oM (zO xI (zG zJ (zG zJ (pv 0) zf (fun _ _=>rfl)) zf (fun _ _=>rfl)) zf (zu _)))).pt
    (zl (sf (kZ zb1 PySem.F.slot_list_pop PySem.F.type_list_pop lP (zG zJ (pv 0) zf (fun _ _=>rfl)) (zb zf zj)))),?_⟩ ?_
  ·refine⟨fun m σ H2=>∃bs2:List Int,m=bs2.length∧bs2.length≤63∧σ=[some (.ref t),some (.int many),none,none,none]∧H2 t=some (.lst [.ref b,.ref c,.int (n+1)])∧H2 b=some (.lst (bs2.map V.int))∧H2 c=some (.lst (cs.map V.int))∧tD t b H H2,
    ⟨_,bs,rfl,lb,rfl,ht1,hb1,hc1,off1⟩,?_⟩
   rintro m σ H2 ⟨bs2,rfl,lb2,rfl,ht2,hb2,hc2,off2⟩
   refine⟨_,rfl,t,_,0,_,rfl,rfl,SqL.of ht2,rfl,b,_,rfl,.inl (SqL.of hb2),_,_,rfl,rfl,_,rfl,?_⟩
   refine yd (fun _=>?_) (fun _=>?_)
   ·cases bs2 with
    |nil=>rename_i z;simp at z
    |cons z r=>
     refine⟨_,rfl,t,_,0,_,rfl,rfl,SqL.of ht2,rfl,b,_,0,_,rfl,rfl,SqL.of hb2,at0,rfl,_,rfl,?_⟩
     refine yd (fun _=>?_) (fun _=>?_)
     ·refine⟨_,fun σ' H' h'=>h',_,rfl,t,_,0,_,rfl,rfl,SqL.of ht2,rfl,.inl ⟨rfl,_,SqL.of hb2⟩,b,_,0,0,_,rfl,rfl,hb2,by decide,by decide,dX,rfl,r.length,?_,r,rfl,?_,rfl,?_,zd,?_,?_⟩
      ·simp
      ·simp at lb2;omega
      ·rw[zc ntb];exact ht2
      ·rw[zc nbc.symm];exact hc2
      ·exact off2.trans fun a h1 h2=>by rw[zc h2]
     ·exact⟨_,lb2,rfl,ht2,hb2,hc2,off2⟩
   ·exact⟨_,lb2,rfl,ht2,hb2,hc2,off2⟩
  rintro σ H2 ⟨bs2,lb2,rfl,ht2,hb2,hc2,off2⟩
  -- if len(tape[0]) > 0:..
  refine zE (fun σ H3=>σ=[some (.ref t),some (.int many),none,none,none]∧H2=H3)
   ⟨_,yN (zO pE (zI zX (by rfl) T.len aR (zb (zG zJ (pv 0) zf (fun _ _=>rfl)) zj)) zf (zu _))
    (zz (xF (i:=2) vb.nd rfl (Or.inl rfl) (ya wb (zG zJ (zG zJ (pv 0) zf (fun _ _=>rfl)) zf (fun _ _=>rfl)) (pv 1)))
    (zz (kJ (ya vK (zG zJ (zG zJ (pv 0) zf (fun _ _=>rfl)) zf (fun _ _=>rfl)) (pv 1)) (my (zG zJ (pv 0) zf (fun _ _=>rfl)) zf set_list))
    (zl (zq (pv 2))))) yc,?_⟩ ?_
  ·refine⟨_,rfl,t,_,0,_,rfl,rfl,SqL.of ht2,rfl,b,_,rfl,.inl (SqL.of hb2),_,_,rfl,rfl,_,rfl,?_⟩
   refine yd (fun _=>?_) (fun _=>?_)
   ·cases bs2 with
    |nil=>rename_i z;simp at z
    |cons z r=>
     refine⟨_,rfl,t,_,0,_,rfl,rfl,SqL.of ht2,rfl,b,_,0,_,rfl,rfl,SqL.of hb2,at0,_,rfl,_,_,rfl,rfl,hm0,?_⟩
     refine⟨_,rfl,t,_,0,_,rfl,rfl,SqL.of ht2,rfl,b,_,0,_,rfl,rfl,SqL.of hb2,at0,_,rfl,_,_,rfl,rfl,⟨hm0,hlog⟩,?_⟩
     refine⟨_,rfl,t,_,0,_,rfl,rfl,SqL.of ht2,rfl,b,_,0,0,rfl,rfl,hb2,ix0,_,rfl,?_⟩
     refine k _ _ (za8 _ (Int.ne_of_gt hm0)) (aV _ hm0) ⟨n+1,(z / many)::r,cs,nbc,?_,zd,?_,?_,lc⟩ ?_
     ·rw[zc ntb];exact ht2
     ·rw[zc nbc.symm];exact hc2
     ·simpa using lb2
     ·exact off2.trans fun a h1 h2=>by rw[zc h2]
   ·exact⟨rfl,rfl⟩
  rintro σ H3 ⟨rfl,rfl⟩
  -- cell=5;if len(tape[1]) > 0:..
  refine zE (fun σ H3=>σ=[some (.ref t),some (.int many),none,some (.int 5),none]∧H2=H3) ⟨_,xF (i:=3) vb.nd rfl (Or.inl rfl) zf,rfl,rfl⟩ ?_
  rintro σ H3 ⟨rfl,rfl⟩
  refine zE (fun σ H3=>∃z:Int,σ=[some (.ref t),some (.int many),none,some (.int z),none]∧H2=H3)
   ⟨_,yN (zO pE (zI zX (by rfl) T.len aR (zb (zG zJ (pv 0) zf (fun _ _=>rfl)) zj)) zf (zu _))
    (zl (xF (i:=3) vb.nd rfl (Or.inl rfl) (zG zJ (zG zJ (pv 0) zf (fun _ _=>rfl)) (ya wb (zG zJ (pv 0) zf (fun _ _=>rfl)) (zI zX (by rfl) T.len aR (zb (zG zJ (pv 0) zf (fun _ _=>rfl)) zj))) (fun _ _=>rfl)))) yc,?_⟩ ?_
  ·refine⟨_,rfl,t,_,1,_,rfl,rfl,SqL.of ht2,rfl,c,_,rfl,.inl (SqL.of hc2),_,_,rfl,rfl,_,rfl,?_⟩
   refine yd (fun hpos=>?_) (fun _=>?_)
   ·have hpos':0<cs.length:=by simpa using hpos
    have hp:(0:Int)<((cs.map V.int).length:Int):=by rw[cT];omega
    have h1:=za8 (n+1) (Int.ne_of_gt hp)
    have h2:=aV (n+1) hp
    obtain⟨j,hj⟩:=Int.eq_ofNat_of_zero_le h1
    have hjl:j<cs.length:=by rw[hj,cT] at h2;omega
    refine⟨_,rfl,t,_,1,_,rfl,rfl,SqL.of ht2,rfl,_,rfl,t,_,2,_,rfl,rfl,SqL.of ht2,rfl,_,rfl,t,_,1,_,rfl,rfl,SqL.of ht2,rfl,c,_,rfl,.inl (SqL.of hc2),_,_,rfl,rfl,hp,c,_,_,V.int cs[j],rfl,rfl,SqL.of hc2,?_,cs[j],rfl,rfl⟩
    rw[hj]
    exact tQ (by rw[bE,bH hjl];rfl)
   ·exact⟨5,rfl,rfl⟩
  rintro σ H3 ⟨z,rfl,rfl⟩
  -- the numbers
  refine zE (fun σ H3=>∃y:Int,(0≤y∧y<2147483647)∧σ=[some (.ref t),some (.int many),none,some (.int z),some (.int y)]∧H2=H3)
   ⟨_,xF (i:=4) vb.nd rfl (Or.inl rfl) (ya wb (ya vC (ya va (ya va (ya wb (pv 3) zf) (ya vC zf (zG zJ (pv 0) zf (fun _ _=>rfl)))) zf) zf) zf),?_⟩ ?_
  ·exact⟨_,rfl,_,_,rfl,rfl,(by show (0:Int)<999983;decide),_,rfl,t,_,2,_,rfl,rfl,SqL.of ht2,rfl,_,_,rfl,rfl,.inl ⟨by decide,by decide⟩,_,_,rfl,rfl,_,_,rfl,rfl,_,_,rfl,rfl,.inr ⟨by decide,by decide⟩,_,_,rfl,rfl,(by show (0:Int)<2147483647;decide),
    _,⟨za8 _ (by decide),aV _ (by decide)⟩,rfl,rfl⟩
  rintro σ H3 ⟨y,⟨hy0,hy1⟩,rfl,rfl⟩
  refine zE (fun σ H3=>∃y:Int,(0≤y∧y<2147483647)∧σ=[some (.ref t),some (.int many),none,some (.int z),some (.int y)]∧H2=H3)
   ⟨_,xF (i:=4) vb.nd rfl (Or.inl rfl) (ya wb (ya va (ya va (ya vC (pv 4) (pv 4)) (ya vC zf (zG zJ (pv 0) zf (fun _ _=>rfl)))) zf) zf),?_⟩ ?_
  ·refine⟨_,rfl,_,rfl,_,_,rfl,rfl,.inl ⟨by omega,by omega⟩,_,rfl,t,_,2,_,rfl,rfl,SqL.of ht2,rfl,_,_,rfl,rfl,.inl ⟨by decide,by decide⟩,_,_,rfl,rfl,_,_,rfl,rfl,_,_,rfl,rfl,(by show (0:Int)<2147483629;decide),
    _,⟨za8 _ (by decide),Int.lt_trans (aV _ (by decide)) (by decide)⟩,rfl,rfl⟩
  rintro σ H3 ⟨y2,⟨hy0,hy1⟩,rfl,rfl⟩
  refine⟨_,zl (zq (ya wb (ya vK (ya wb (ya vC (ya vK (pv 4) zf) zf) zf) zf) (pv 1))),?_⟩
  refine⟨_,rfl,_,_,rfl,rfl,⟨by decide,by decide +kernel⟩,_,_,rfl,rfl,.inr ⟨by decide,by decide⟩,_,_,rfl,rfl,(by show (0:Int)<2147483587;decide),_,_,rfl,rfl,⟨by decide,by decide +kernel⟩,_,rfl,_,_,rfl,rfl,hm0,?_⟩
  exact k _ _ (za8 _ (Int.ne_of_gt hm0)) (aV _ hm0) ⟨n+1,bs2,cs,nbc,ht2,hb2,hc2,lb2,lc⟩ off2
end
abbrev tf :Stmt:=top 3
abbrev sE :Stmt:=top 4
abbrev mI :Stmt:=top 5
abbrev fQ :Stmt:=top 6
abbrev jr :Stmt:=top 7
abbrev vJ :Stmt:=top 8
structure rE (mg:Str→Option Value)(fW fI fP fD fPD:Addr):Prop where
 isi:mg "isinstance"=none
 int:mg "int"=none
 bool:mg "bool"=none
 tuple:mg "tuple"=none
 len:mg "len"=none
 last:∃t,mg "LAST_DAY"=some (.int 1000000 t)
 most:∃t,mg "MOST_NIGHTS"=some (.int 14 t)
 whole:mg "is_whole"=some (.ref fW)
 within:mg "is_whole_within"=some (.ref fI)
 pair:mg "is_pair"=some (.ref fP)
 day:mg "is_day"=some (.ref fD)
 days:mg "is_pair_of_days"=some (.ref fPD)
section
variable {P:Program}{w:World}{K:PySem.W.Frag}{mg:Str→Option Value}{base:Heap}{fW fI fP fD fPD:Addr}
theorem ib :zg ["thing"] ["thing"] (za tf):=⟨rfl,rfl,rfl,by decide +kernel,rfl,by decide +kernel,by decide +kernel⟩
theorem jd {f:Addr}{fd:FuncData}(F:Fun K "is_whole" "is_whole" tf f fd)(T:rE mg fW fI fP fD fPD):zo P w K mg base CX0 1 f fd ["thing"] (yj qF):=by
 refine F.ok ib (fun vs H Q E h=>?_) (fun cdv A outer s H vs Q E hr h=>?_)
 ·obtain⟨x,d,rfl,_⟩:=h
  rfl
 ·obtain⟨x,d,rfl,hd,q⟩:=h
  refine⟨_,zl (zq (yq (zI yR (by rfl) T.isi aI (zb (pv 0) (zb (wF (v:=.ty "int") (by rfl) T.int boot_int rfl) zj)))
   (yH (gR (zI yR (by rfl) T.isi aI (zb (pv 0) (zb (wF (v:=.ty "bool") (by rfl) T.bool boot_bool rfl) zj))))))),?_⟩
  rw[nO] at q
  refine⟨_,rfl,x,"int",d,_,rfl,hd,iB d,_,rfl,?_⟩
  refine yd (fun h=>?_) (fun h=>?_)
  ·rw[h,aq] at q
   exact⟨_,rfl,x,"bool",d,_,rfl,hd,vH d,_,rfl,q⟩
  ·rw[bw.mpr h,aw] at q
   exact q
theorem mD :zg ["thing","lowest","highest"] ["thing","lowest","highest"] (za sE):=⟨rfl,rfl,rfl,by decide +kernel,rfl,by decide +kernel,by decide +kernel⟩
theorem ni {f:Addr}{fd fdW:FuncData}(F:Fun K "is_whole_within" "is_whole_within" sE f fd)(T:rE mg fW fI fP fD fPD)(FW:Fun K "is_whole" "is_whole" tf fW fdW)(bW:Binds K fdW ["thing"] []):
  zo P w K mg base CX0 2 f fd ["thing","lowest","highest"] xN:=by
 have GW:zo P w K mg base CX0 1 fW fdW ["thing"] (yj qF):=jd FW T
 refine F.ok mD (fun vs H Q E h=>?_) (fun cdv A outer s H vs Q E hr h=>?_)
 ·obtain⟨x,d,lo,hi,rfl,_⟩:=h
  rfl
 ·obtain⟨x,d,lo,hi,rfl,hd,q⟩:=h
  refine⟨_,zl (zq (yq (zB GW hr (by rfl) T.whole FW.kp bW .nil zH (zb (pv 0) zj)) (yH (rq uC uC (pv 1) (pv 0) (pv 2))))),?_⟩
  refine⟨_,rfl,x,d,rfl,hd,_,rfl,?_⟩
  cases hd with
  |int i=>
   have q':Q (.bl (decide (lo≤i)&&decide (i≤hi))) H:=q
   refine vo ⟨_,rfl,_,rfl,_,_,rfl,rfl,_,rfl,?_⟩
   refine yd (fun h=>?_) (fun h=>?_)
   ·rw[h,aq] at q'
    exact⟨_,rfl,_,_,rfl,rfl,q'⟩
   ·rw[bw.mpr h,aw] at q'
    exact q'
  |_=>exact vn q
theorem fH :zg ["thing"] ["thing"] (za mI):=⟨rfl,rfl,rfl,by decide +kernel,rfl,by decide +kernel,by decide +kernel⟩
theorem jF {f:Addr}{fd:FuncData}(F:Fun K "is_pair" "is_pair" mI f fd)(T:rE mg fW fI fP fD fPD):zo P w K mg base CX0 1 f fd ["thing"] (yj pairD):=by
 refine F.ok fH (fun vs H Q E h=>?_) (fun cdv A outer s H vs Q E hr h=>?_)
 ·obtain⟨x,d,rfl,_⟩:=h
  rfl
 ·obtain⟨x,d,rfl,hd,q⟩:=h
  refine⟨_,zl (zq (yq (zI yR (by rfl) T.isi aI (zb (pv 0) (zb (wF (v:=.ty "tuple") (by rfl) T.tuple boot_tuple rfl) zj)))
   (yH (yO xI (zI zX (by rfl) T.len aR (zb (pv 0) zj)) zf (zu _))))),?_⟩
  refine⟨_,rfl,x,"tuple",d,_,rfl,hd,uS d,_,rfl,?_⟩
  cases hd with
  |@tup a xs ds e hs=>
   refine vo ⟨_,rfl,a,_,rfl,.inr (SqT.of e),rfl,?_⟩
   rw[iH,hs.length]
   exact q
  |_=>exact vn q
theorem eK :zg ["thing"] ["thing"] (za fQ):=⟨rfl,rfl,rfl,by decide +kernel,rfl,by decide +kernel,by decide +kernel⟩
theorem gu {f:Addr}{fd fdI:FuncData}(F:Fun K "is_day" "is_day" fQ f fd)(T:rE mg fW fI fP fD fPD)(GI:zo P w K mg base CX0 2 fI fdI ["thing","lowest","highest"] xN)(kI:PySem.W.keepIn K (.ref fI)=true)(bI:Binds K fdI ["thing","lowest","highest"] []):
  zo P w K mg base CX0 3 f fd ["thing"] (yj wH):=by
 obtain⟨tl,hl⟩:=T.last
 refine F.ok eK (fun vs H Q E h=>?_) (fun cdv A outer s H vs Q E hr h=>?_)
 ·obtain⟨x,d,rfl,_⟩:=h
  rfl
 ·obtain⟨x,d,rfl,hd,q⟩:=h
  refine⟨_,zl (zq (zB GI hr (by rfl) T.within kI bI .nil zH (zb (pv 0) (zb zf (zb (xq (v:=.int 1000000) (by rfl) hl ⟨tl,rfl⟩) zj))))),?_⟩
  exact⟨_,rfl,x,d,_,_,rfl,hd,q⟩
theorem fy :zg ["thing"] ["thing"] (za jr):=⟨rfl,rfl,rfl,by decide +kernel,rfl,by decide +kernel,by decide +kernel⟩
theorem iu {f:Addr}{fd fdP fdD:FuncData}(F:Fun K "is_pair_of_days" "is_pair_of_days" jr f fd)(T:rE mg fW fI fP fD fPD)(GP:zo P w K mg base CX0 1 fP fdP ["thing"] (yj pairD))(kP:PySem.W.keepIn K (.ref fP)=true)(bP:Binds K fdP ["thing"] [])
  (GD:zo P w K mg base CX0 3 fD fdD ["thing"] (yj wH)) (kD:PySem.W.keepIn K (.ref fD)=true) (bD:Binds K fdD ["thing"] []):zo P w K mg base CX0 4 f fd ["thing"] (yj ua):=by
 refine F.ok fy (fun vs H Q E h=>?_) (fun cdv A outer s H vs Q E hr h=>?_)
 ·obtain⟨x,d,rfl,_⟩:=h
  rfl
 ·obtain⟨x,d,rfl,hd,q⟩:=h
  have hr1:zy 1 _:=hr.mono (by decide)
  refine⟨_,zl (zq (yq (zB GP hr1 (by rfl) T.pair kP bP .nil zH (zb (pv 0) zj))
   (yq (zB GD hr (by rfl) T.day kD bD .nil zH (zb (zG yh (pv 0) zf (fun _ _=>rfl)) zj))
   (yH (zB GD hr (by rfl) T.day kD bD .nil zH (zb (zG yh (pv 0) zf (fun _ _=>rfl)) zj)))))),?_⟩
  refine⟨_,rfl,x,d,rfl,hd,_,rfl,?_⟩
  refine yd (fun h=>?_) (fun h=>?_)
  ·obtain⟨a,b,rfl⟩:=ve h
   cases hd with
   |tup e hs=>
    cases hs with
    |cons ha hs=>
     cases hs with
     |cons hb hs=>
      cases hs
      have q':Q (.bl (wH a&&wH b)) H:=q
      refine⟨_,rfl,_,_,0,_,rfl,rfl,SqT.of e,rfl,_,_,rfl,ha,_,rfl,?_⟩
      refine yd (fun h=>?_) (fun h=>?_)
      ·rw[h,aq] at q'
       exact⟨_,rfl,_,_,1,_,rfl,rfl,SqT.of e,rfl,_,_,rfl,hb,q'⟩
      ·rw[bw.mpr h,aw] at q'
       exact q'
  ·have e:ua d=false:=by
    unfold ua
    split
    ·exact absurd rfl h
    ·rfl
   rw[e] at q
   exact q
theorem nN :zg ["thing"] ["thing"] (za vJ):=⟨rfl,rfl,rfl,by decide +kernel,rfl,by decide +kernel,by decide +kernel⟩
theorem qO {f:Addr}{fd fdP:FuncData}(F:Fun K "is_stretch" "is_stretch" vJ f fd)(T:rE mg fW fI fP fD fPD)(G:zo P w K mg base CX0 4 fPD fdP ["thing"] (yj ua))(kP:PySem.W.keepIn K (.ref fPD)=true)(bP:Binds K fdP ["thing"] []):
  zo P w K mg base CX0 5 f fd ["thing"] (yj zV):=by
 refine F.ok nN (fun vs H Q E h=>?_) (fun cdv A outer s H vs Q E hr h=>?_)
 ·obtain⟨x,d,rfl,_⟩:=h
  rfl
 ·obtain⟨x,d,rfl,hd,q⟩:=h
  refine⟨_,zl (zq (yq (zB G hr (by rfl) T.days kP bP .nil zH (zb (pv 0) zj))
   (yH (yO uC (zG yh (pv 0) zf (fun _ _=>rfl)) (zG yh (pv 0) zf (fun _ _=>rfl)) (zu _))))),?_⟩
  refine⟨_,rfl,x,d,rfl,hd,_,rfl,?_⟩
  refine yd (fun h=>?_) (fun h=>?_)
  ·obtain⟨a,b,rfl,ef⟩:=qW h
   unfold zV at q
   rw[ef] at q
   have q':Q (.bl (decide (0≤b-a))) H:=q
   have eq1:decide (0≤b-a)=decide (a≤b):=by
    rw[decide_eq_decide]
    omega
   rw[eq1] at q'
   cases hd with
   |tup e hs=>
    cases hs with
    |cons ha hs=>
     cases ha
     cases hs with
     |cons hb hs=>
      cases hb
      cases hs
      exact⟨_,rfl,_,_,0,_,rfl,rfl,SqT.of e,rfl,_,rfl,_,_,1,_,rfl,rfl,SqT.of e,rfl,_,_,rfl,rfl,q'⟩
  ·rw[um] at h
   unfold zV at q
   cases ef:ux d with
   |some k=>rw[ef] at h;exact absurd rfl h
   |none=>
    rw[ef] at q
    exact q
end
abbrev pT :Stmt:=inClass (top 16) 0
abbrev kK :Stmt:=inClass (top 16) 2
abbrev qI :Stmt:=inClass (top 16) 3
abbrev sv :Stmt:=inClass (top 17) 0
abbrev qY :Stmt:=inClass (top 18) 0
abbrev fw :Stmt:=inClass (top 19) 0
abbrev tU :Stmt:=inClass (top 20) 0
abbrev rX :Stmt:=inClass (top 21) 0
abbrev rT :Stmt:=inClass (top 22) 0
abbrev lg :Stmt:=inClass (top 23) 0
abbrev qQ :Stmt:=top 25
abbrev si :Stmt:=top 26
abbrev qS :Stmt:=top 27
abbrev tY :Stmt:=top 28
abbrev jx :Stmt:=top 29
abbrev uZ :Stmt:=top 30
structure qu (mg:Str→Option Value)(fW fI fP fD fPD fS fC fDl fWo fR fM:Addr)(cs:Cs):Prop where
 d:rE mg fW fI fP fD fPD
 coinsMost:∃t,mg "MOST_COINS"=some (.int 1000000000000 t)
 stretch:mg "is_stretch"=some (.ref fS)
 coins:mg "is_coins"=some (.ref fC)
 deal:mg "is_deal"=some (.ref fDl)
 worth:mg "is_worth"=some (.ref fWo)
 rule:mg "is_rule"=some (.ref fR)
 made:mg "made"=some (.ref fM)
 cPrice:mg "Price"=some (.ref cs.price)
 cCome:mg "Come"=some (.ref cs.come)
 cGo:mg "Go"=some (.ref cs.go)
 cLeast:mg "Least"=some (.ref cs.least)
 cMost:mg "Most"=some (.ref cs.most)
 cDeal:mg "Deal"=some (.ref cs.deal)
 cFee:mg "Fee"=some (.ref cs.fee)
section
variable {P:Program}{w:World}{K:PySem.W.Frag}{mg:Str→Option Value}{base:Heap}{fW fI fP fD fPD fS fC fDl fWo fR fM:Addr}{cs:Cs}
theorem gk :zg ["self","first","last","worth"] ["self","first","last","worth"] (za pT):=⟨rfl,rfl,rfl,by decide +kernel,rfl,by decide +kernel,by decide +kernel⟩
theorem xr {f C fT fE fWd:Addr}{fd:FuncData}(F:Fun K "__init__" "Rule.__init__" pT f fd)(R:yQ K C f fT fE fWd):zo P w K mg base CX0 1 f fd ["self","first","last","worth"] (fv C):=by
 refine F.ok gk (fun vs H Q E h=>?_) (fun cdv A outer s H vs Q E hr h=>?_)
 ·obtain⟨p,dx,x,y,z,rfl,_⟩:=h
  rfl
 ·obtain⟨p,dx,x,y,z,rfl,hp,q⟩:=h
  refine⟨_,zz (vI (pv 0) (pv 1) rfl) (zz (vI (pv 0) (pv 2) rfl) (zl (vI (pv 0) (pv 3) rfl))),?_⟩
  refine⟨_,rfl,_,rfl,p,C,dx,[],rfl,hp,R.cl,R.nf,(by show 0<1000;decide),?_⟩
  refine⟨_,rfl,_,rfl,p,C,dx,_,rfl,zd,R.cl,R.nl,(by show 1<1000;decide),?_⟩
  refine⟨_,rfl,_,rfl,p,C,dx,yJ "last" y (yJ "first" x []),rfl,zd,R.cl,R.nw,?_,?_⟩
  ·show (if ("first":Str)="last" then _ else _:List (Str×V)).length<1000
   rw[if_neg (fun e=>mQ e.symm)]
   show 2<1000
   decide
  ·rw[wm,wm]
   exact q
theorem ke :zg ["self"] ["self"] (za sv):=⟨rfl,rfl,rfl,by decide +kernel,rfl,by decide +kernel,by decide +kernel⟩
theorem iD :zg ["self"] ["self"] (za qY):=⟨rfl,rfl,rfl,by decide +kernel,rfl,by decide +kernel,by decide +kernel⟩
theorem dN :zg ["self"] ["self"] (za fw):=⟨rfl,rfl,rfl,by decide +kernel,rfl,by decide +kernel,by decide +kernel⟩
theorem kq :zg ["self"] ["self"] (za tU):=⟨rfl,rfl,rfl,by decide +kernel,rfl,by decide +kernel,by decide +kernel⟩
theorem jH :zg ["self"] ["self"] (za rX):=⟨rfl,rfl,rfl,by decide +kernel,rfl,by decide +kernel,by decide +kernel⟩
theorem jA :zg ["self"] ["self"] (za rT):=⟨rfl,rfl,rfl,by decide +kernel,rfl,by decide +kernel,by decide +kernel⟩
theorem gn :zg ["self"] ["self"] (za lg):=⟨rfl,rfl,rfl,by decide +kernel,rfl,by decide +kernel,by decide +kernel⟩
theorem uR {f:Addr}{fd:FuncData}(F:Fun K "word" "Price.word" sv f fd):zo P w K mg base CX0 1 f fd ["self"] (xh "price"):=by
 refine F.ok ke (fun vs H Q E h=>?_) (fun cdv A outer s H vs Q E hr h=>?_)
 ·obtain⟨p,rfl,_⟩:=h;rfl
 ·obtain⟨p,rfl,q⟩:=h;exact⟨_,zl (zq zN),q⟩
theorem rg {f:Addr}{fd:FuncData}(F:Fun K "word" "Come.word" qY f fd):zo P w K mg base CX0 1 f fd ["self"] (xh "come"):=by
 refine F.ok iD (fun vs H Q E h=>?_) (fun cdv A outer s H vs Q E hr h=>?_)
 ·obtain⟨p,rfl,_⟩:=h;rfl
 ·obtain⟨p,rfl,q⟩:=h;exact⟨_,zl (zq zN),q⟩
theorem km {f:Addr}{fd:FuncData}(F:Fun K "word" "Go.word" fw f fd):zo P w K mg base CX0 1 f fd ["self"] (xh "go"):=by
 refine F.ok dN (fun vs H Q E h=>?_) (fun cdv A outer s H vs Q E hr h=>?_)
 ·obtain⟨p,rfl,_⟩:=h;rfl
 ·obtain⟨p,rfl,q⟩:=h;exact⟨_,zl (zq zN),q⟩
theorem uU {f:Addr}{fd:FuncData}(F:Fun K "word" "Least.word" tU f fd):zo P w K mg base CX0 1 f fd ["self"] (xh "least"):=by
 refine F.ok kq (fun vs H Q E h=>?_) (fun cdv A outer s H vs Q E hr h=>?_)
 ·obtain⟨p,rfl,_⟩:=h;rfl
 ·obtain⟨p,rfl,q⟩:=h;exact⟨_,zl (zq zN),q⟩
theorem rO {f:Addr}{fd:FuncData}(F:Fun K "word" "Most.word" rX f fd):zo P w K mg base CX0 1 f fd ["self"] (xh "most"):=by
 refine F.ok jH (fun vs H Q E h=>?_) (fun cdv A outer s H vs Q E hr h=>?_)
 ·obtain⟨p,rfl,_⟩:=h;rfl
 ·obtain⟨p,rfl,q⟩:=h;exact⟨_,zl (zq zN),q⟩
theorem rK {f:Addr}{fd:FuncData}(F:Fun K "word" "Deal.word" rT f fd):zo P w K mg base CX0 1 f fd ["self"] (xh "deal"):=by
 refine F.ok jA (fun vs H Q E h=>?_) (fun cdv A outer s H vs Q E hr h=>?_)
 ·obtain⟨p,rfl,_⟩:=h;rfl
 ·obtain⟨p,rfl,q⟩:=h;exact⟨_,zl (zq zN),q⟩
theorem pk {f:Addr}{fd:FuncData}(F:Fun K "word" "Fee.word" lg f fd):zo P w K mg base CX0 1 f fd ["self"] (xh "fee"):=by
 refine F.ok gn (fun vs H Q E h=>?_) (fun cdv A outer s H vs Q E hr h=>?_)
 ·obtain⟨p,rfl,_⟩:=h;rfl
 ·obtain⟨p,rfl,q⟩:=h;exact⟨_,zl (zq zN),q⟩
theorem gy :zg ["self"] ["self"] (za kK):=⟨rfl,rfl,rfl,by decide +kernel,rfl,by decide +kernel,by decide +kernel⟩
theorem jI (x y z:V):(xy x y z).lookup ("word":Str)=none:=iz x y z (by decide +kernel) (by decide +kernel) (by decide +kernel)
theorem yZ {f C fIn fE fWd:Addr}{fd fdW:FuncData}{wd:Str}(F:Fun K "told" "Rule.told" kK f fd)(R:yQ K C fIn f fE fWd)(GW:zo P w K mg base CX0 1 fWd fdW ["self"] (xh wd))(bW:Binds K fdW ["self"] []):
  zo P w K mg base CX0 2 f fd ["self"] (mE C wd):=by
 refine F.ok gy (fun vs H Q E h=>?_) (fun cdv A outer s H vs Q E hr h=>?_)
 ·obtain⟨p,dx,x,y,z,rfl,_⟩:=h
  rfl
 ·obtain⟨p,dx,x,y,z,rfl,hp,q⟩:=h
  refine⟨_,zl (zq (qh (zb (rJ (pv 0) R.cl R.word GW hr bW .nil zH) (zb (wX (pv 0) rfl) (zb (wX (pv 0) rfl) (zb (wX (pv 0) rfl) zj)))))),?_⟩
  refine⟨_,rfl,p,dx,_,rfl,hp,jI _ _ _,p,rfl,?_⟩
  exact⟨_,rfl,p,C,dx,_,_,rfl,hp,R.cl,R.nf,uk _ _ _,_,rfl,p,C,dx,_,_,rfl,hp,R.cl,R.nl,uF _ _ _,_,rfl,p,C,dx,_,_,rfl,hp,R.cl,R.nw,qo _ _ _,(by show 4≤sizeLine;decide),q⟩
theorem jV :zg ["self","day"] ["self","day"] (za qI):=⟨rfl,rfl,rfl,by decide +kernel,rfl,by decide +kernel,by decide +kernel⟩
theorem yF {f C fIn fT fWd:Addr}{fd:FuncData}(F:Fun K "tells" "Rule.tells" qI f fd)(R:yQ K C fIn fT f fWd):zo P w K mg base CX0 1 f fd ["self","day"] (pV C):=by
 refine F.ok jV (fun vs H Q E h=>?_) (fun cdv A outer s H vs Q E hr h=>?_)
 ·obtain⟨p,dx,a,b,day,z,rfl,_⟩:=h
  rfl
 ·obtain⟨p,dx,a,b,day,z,rfl,hp,q⟩:=h
  refine⟨_,zl (zq (rq uC uC (wX (pv 0) rfl) (pv 1) (wX (pv 0) rfl))),?_⟩
  refine⟨_,rfl,p,C,dx,_,_,rfl,hp,R.cl,R.nf,uk _ _ _,_,rfl,_,_,rfl,rfl,_,rfl,?_⟩
  refine yd (fun h=>?_) (fun h=>?_)
  ·rw[h,aq] at q
   exact⟨_,rfl,p,C,dx,_,_,rfl,hp,R.cl,R.nl,uF _ _ _,_,_,rfl,rfl,q⟩
  ·rw[bw.mpr h,aw] at q
   exact q
theorem jP :zg ["thing"] ["thing"] (za qQ):=⟨rfl,rfl,rfl,by decide +kernel,rfl,by decide +kernel,by decide +kernel⟩
theorem je {f:Addr}{fd fdI:FuncData}(F:Fun K "is_coins" "is_coins" qQ f fd)(T:qu mg fW fI fP fD fPD fS fC fDl fWo fR fM cs)(GI:zo P w K mg base CX0 2 fI fdI ["thing","lowest","highest"] xN)(kI:PySem.W.keepIn K (.ref fI)=true)(bI:Binds K fdI ["thing","lowest","highest"] []):
  zo P w K mg base CX0 3 f fd ["thing"] (yj we):=by
 obtain⟨tl,hl⟩:=T.coinsMost
 refine F.ok jP (fun vs H Q E h=>?_) (fun cdv A outer s H vs Q E hr h=>?_)
 ·obtain⟨x,d,rfl,_⟩:=h
  rfl
 ·obtain⟨x,d,rfl,hd,q⟩:=h
  refine⟨_,zl (zq (zB GI hr (by rfl) T.d.within kI bI .nil zH (zb (pv 0) (zb zf (zb (xq (v:=.int 1000000000000) (by rfl) hl ⟨tl,rfl⟩) zj))))),?_⟩
  exact⟨_,rfl,x,d,_,_,rfl,hd,q⟩
theorem kX :zg ["thing"] ["thing"] (za si):=⟨rfl,rfl,rfl,by decide +kernel,rfl,by decide +kernel,by decide +kernel⟩
theorem nk {f:Addr}{fd fdI fdP:FuncData}(F:Fun K "is_deal" "is_deal" si f fd)(T:qu mg fW fI fP fD fPD fS fC fDl fWo fR fM cs)(GI:zo P w K mg base CX0 2 fI fdI ["thing","lowest","highest"] xN)(kI:PySem.W.keepIn K (.ref fI)=true)(bI:Binds K fdI ["thing","lowest","highest"] [])
  (GP:zo P w K mg base CX0 1 fP fdP ["thing"] (yj pairD)) (kP:PySem.W.keepIn K (.ref fP)=true) (bP:Binds K fdP ["thing"] []):zo P w K mg base CX0 3 f fd ["thing"] (yj ue):=by
 obtain⟨tm,hm⟩:=T.d.most
 refine F.ok kX (fun vs H Q E h=>?_) (fun cdv A outer s H vs Q E hr h=>?_)
 ·obtain⟨x,d,rfl,_⟩:=h
  rfl
 ·obtain⟨x,d,rfl,hd,q⟩:=h
  have hr1:zy 1 _:=hr.mono (by decide)
  refine⟨_,zl (zq (yq (zB GP hr1 (by rfl) T.d.pair kP bP .nil zH (zb (pv 0) zj))
   (yq (zB GI hr (by rfl) T.d.within kI bI .nil zH (zb (zG yh (pv 0) zf (fun _ _=>rfl)) (zb zf (zb (xq (v:=.int 14) (by rfl) hm ⟨tm,rfl⟩) zj))))
   (yH (zB GI hr (by rfl) T.d.within kI bI .nil zH (zb (zG yh (pv 0) zf (fun _ _=>rfl)) (zb zf (zb (ya ko (zG yh (pv 0) zf (fun _ _=>rfl)) zf) zj)))))))),?_⟩
  refine⟨_,rfl,x,d,rfl,hd,_,rfl,?_⟩
  refine yd (fun h=>?_) (fun h=>?_)
  ·obtain⟨a,b,rfl⟩:=ve h
   cases hd with
   |tup e hs=>
    cases hs with
    |cons ha hs=>
     cases hs with
     |cons hb hs=>
      cases hs
      refine⟨_,rfl,_,_,0,_,rfl,rfl,SqT.of e,rfl,_,_,_,_,rfl,ha,_,rfl,?_⟩
      cases ha with
      |int m=>
       have q':Q (.bl (zR 2 14 (.int m)&&zR 1 (m-1) b)) H:=q
       refine yd (fun h=>?_) (fun h=>?_)
       ·rw[h,aq] at q'
        exact⟨_,rfl,_,_,1,_,rfl,rfl,SqT.of e,rfl,_,rfl,_,_,0,_,rfl,rfl,SqT.of e,rfl,_,_,rfl,rfl,_,_,_,_,rfl,hb,q'⟩
       ·rw[bw.mpr h,aw] at q'
        exact q'
      |_=>exact vn q
  ·have e:ue d=false:=by
    unfold ue
    split
    ·exact absurd rfl h
    ·rfl
   rw[e] at q
   exact q
theorem iy :zg ["word","thing"] ["word","thing"] (za qS):=⟨rfl,rfl,rfl,by decide +kernel,rfl,by decide +kernel,by decide +kernel⟩
theorem lV {f:Addr}{fd fdI fdC fdDl:FuncData}(F:Fun K "is_worth" "is_worth" qS f fd)(T:qu mg fW fI fP fD fPD fS fC fDl fWo fR fM cs)(GI:zo P w K mg base CX0 2 fI fdI ["thing","lowest","highest"] xN)(kI:PySem.W.keepIn K (.ref fI)=true)(bI:Binds K fdI ["thing","lowest","highest"] [])
  (GC:zo P w K mg base CX0 3 fC fdC ["thing"] (yj we)) (kC:PySem.W.keepIn K (.ref fC)=true) (bC:Binds K fdC ["thing"] []) (GDl:zo P w K mg base CX0 3 fDl fdDl ["thing"] (yj ue)) (kDl:PySem.W.keepIn K (.ref fDl)=true) (bDl:Binds K fdDl ["thing"] []):
  zo P w K mg base CX0 4 f fd ["word","thing"] oE:=by
 obtain⟨tm,hm⟩:=T.d.most
 refine F.ok iy (fun vs H Q E h=>?_) (fun cdv A outer s H vs Q E hr h=>?_)
 ·obtain⟨x,y,dw,dv,rfl,_⟩:=h
  rfl
 ·obtain⟨x,y,dw,dv,rfl,hx,sw,hy,q⟩:=h
  have hr2:zy 2 _:=hr.mono (by decide)
  have hu:=hr.units
  have st:∀{z:Str},z∈words→SeqAt.shaped (.str z)=true:=fun {z} hz=>qE (by
   simp only[words,cY,bq,af] at hz
   rcases hz with rfl|rfl|rfl|rfl|rfl|rfl|rfl<;>decide +kernel)
  unfold zv at q
  -- if word == 'price'
  refine zE (fun σ H1=>σ=[some x,some y]∧eqS dw "price"=false∧H=H1)
   ⟨_,yN (zO (xM hu) (pv 0) zN (zu _)) (zl (zq (iT (yO tj (pv 1) vT (zu _)) (yH (zB GC hr (by rfl) T.coins kC bC .nil zH (zb (pv 1) zj)))))) yc,?_⟩ ?_
  ·refine⟨_,rfl,dw,.str "price",hx,.str _,sw,st (by simp[words]),_,rfl,?_⟩
   refine yd (fun h=>?_) (fun h=>⟨rfl,bw.mpr h,rfl⟩)
   rw[if_pos h] at q
   refine⟨_,rfl,rfl,_,rfl,?_⟩
   rw[hy.non_iff]
   refine yd (fun h2=>?_) (fun h2=>?_)
   ·rw[h2,Bool.true_or] at q
    exact q
   ·rw[bw.mpr h2,zc6] at q
    exact⟨_,rfl,y,dv,rfl,hy,q⟩
  rintro σ H1 ⟨rfl,e1,rfl⟩
  rw[e1,if_neg cZ] at q
  -- if word == 'come' or word == 'go'
  refine zE (fun σ H1=>σ=[some x,some y]∧(eqS dw "come"||eqS dw "go")=false∧H=H1)
   ⟨_,yN (PW.pt (kN (zO (xM hu) (pv 0) zN (zu _)) (qJ (zO (xM hu) (pv 0) zN (zu _))))) (zl (zq (zI yR (by rfl) T.d.isi aI (zb (pv 1) (zb (wF (v:=.ty "bool") (by rfl) T.d.bool boot_bool rfl) zj))))) yc,?_⟩ ?_
  ·refine⟨_,rfl,dw,.str "come",hx,.str _,sw,st (by simp[words]),_,rfl,?_⟩
   refine yd (fun h=>?_) (fun h=>?_)
   ·have h':eqS dw "come"=true:=h
    rw[h',Bool.true_or,if_pos rfl] at q
    exact vo ⟨_,rfl,y,"bool",dv,_,rfl,hy,vH dv,q⟩
   ·have h':eqS dw "come"=false:=bw.mpr h
    refine⟨_,rfl,dw,.str "go",hx,.str _,sw,st (by simp[words]),_,rfl,?_⟩
    refine yd (fun h2=>?_) (fun h2=>?_)
    ·have h2':eqS dw "go"=true:=h2
     rw[h',h2',zc6,if_pos rfl] at q
     exact⟨_,rfl,y,"bool",dv,_,rfl,hy,vH dv,q⟩
    ·have h2':eqS dw "go"=false:=bw.mpr h2
     exact⟨rfl,by rw[h',h2'];rfl,rfl⟩
  rintro σ H1 ⟨rfl,e2,rfl⟩
  rw[e2,if_neg cZ] at q
  -- if word == 'least' or word == 'most'
  refine zE (fun σ H1=>σ=[some x,some y]∧(eqS dw "least"||eqS dw "most")=false∧H=H1)
   ⟨_,yN (PW.pt (kN (zO (xM hu) (pv 0) zN (zu _)) (qJ (zO (xM hu) (pv 0) zN (zu _))))) (zl (zq (zB GI hr2 (by rfl) T.d.within kI bI .nil zH (zb (pv 1) (zb zf (zb (xq (v:=.int 14) (by rfl) hm ⟨tm,rfl⟩) zj)))))) yc,?_⟩ ?_
  ·refine⟨_,rfl,dw,.str "least",hx,.str _,sw,st (by simp[words]),_,rfl,?_⟩
   refine yd (fun h=>?_) (fun h=>?_)
   ·have h':eqS dw "least"=true:=h
    rw[h',Bool.true_or,if_pos rfl] at q
    exact vo ⟨_,rfl,y,dv,_,_,rfl,hy,q⟩
   ·have h':eqS dw "least"=false:=bw.mpr h
    refine⟨_,rfl,dw,.str "most",hx,.str _,sw,st (by simp[words]),_,rfl,?_⟩
    refine yd (fun h2=>?_) (fun h2=>?_)
    ·have h2':eqS dw "most"=true:=h2
     rw[h',h2',zc6,if_pos rfl] at q
     exact⟨_,rfl,y,dv,_,_,rfl,hy,q⟩
    ·have h2':eqS dw "most"=false:=bw.mpr h2
     exact⟨rfl,by rw[h',h2'];rfl,rfl⟩
  rintro σ H1 ⟨rfl,e3,rfl⟩
  rw[e3,if_neg cZ] at q
  -- if word == 'deal'
  refine zE (fun σ H1=>σ=[some x,some y]∧eqS dw "deal"=false∧H=H1)
   ⟨_,yN (zO (xM hu) (pv 0) zN (zu _)) (zl (zq (iT (yO tj (pv 1) vT (zu _)) (yH (zB GDl hr (by rfl) T.deal kDl bDl .nil zH (zb (pv 1) zj)))))) yc,?_⟩ ?_
  ·refine⟨_,rfl,dw,.str "deal",hx,.str _,sw,st (by simp[words]),_,rfl,?_⟩
   refine yd (fun h=>?_) (fun h=>⟨rfl,bw.mpr h,rfl⟩)
   rw[if_pos h] at q
   refine⟨_,rfl,rfl,_,rfl,?_⟩
   rw[hy.non_iff]
   refine yd (fun h2=>?_) (fun h2=>?_)
   ·rw[h2,Bool.true_or] at q
    exact q
   ·rw[bw.mpr h2,zc6] at q
    exact⟨_,rfl,y,dv,rfl,hy,q⟩
  rintro σ H1 ⟨rfl,e4,rfl⟩
  rw[e4,if_neg cZ] at q
  refine⟨_,zl (zq (yq (yO (xM hu) (pv 0) zN (zu _)) (yH (zB GC hr (by rfl) T.coins kC bC .nil zH (zb (pv 1) zj))))),?_⟩
  refine⟨_,rfl,dw,.str "fee",hx,.str _,sw,st (by simp[words]),_,rfl,?_⟩
  refine yd (fun h=>?_) (fun h=>?_)
  ·have h':eqS dw "fee"=true:=h
   rw[h',aq] at q
   exact⟨_,rfl,y,dv,rfl,hy,q⟩
  ·have h':eqS dw "fee"=false:=bw.mpr h
   rw[h',aw] at q
   exact q
theorem ka :zg ["thing"] ["thing"] (za tY):=⟨rfl,rfl,rfl,by decide +kernel,rfl,by decide +kernel,by decide +kernel⟩
theorem oX {f:Addr}{fd fdS fdWo:FuncData}(F:Fun K "is_rule" "is_rule" tY f fd)(T:qu mg fW fI fP fD fPD fS fC fDl fWo fR fM cs)(GS:zo P w K mg base CX0 5 fS fdS ["thing"] (yj zV))(kS:PySem.W.keepIn K (.ref fS)=true)(bS:Binds K fdS ["thing"] [])
  (GW:zo P w K mg base CX0 4 fWo fdWo ["word","thing"] oE) (kW:PySem.W.keepIn K (.ref fWo)=true) (bW:Binds K fdWo ["word","thing"] []):zo P w K mg base CX0 6 f fd ["thing"] mL:=by
 refine F.ok ka (fun vs H Q E h=>?_) (fun cdv A outer s H vs Q E hr h=>?_)
 ·obtain⟨x,d,rfl,_⟩:=h
  rfl
 ·obtain⟨x,d,rfl,hd,sd,q⟩:=h
  have hr4:zy 4 _:=hr.mono (by decide)
  refine⟨_,zl (zq (yq (zI yR (by rfl) T.d.isi aI (zb (pv 0) (zb (wF (v:=.ty "tuple") (by rfl) T.d.tuple boot_tuple rfl) zj)))
   (yq (yO xI (zI zX (by rfl) T.d.len aR (zb (pv 0) zj)) zf (zu _))
   (yq (zB GS hr (by rfl) T.stretch kS bS .nil zH (zb (qh (zb (zG yh (pv 0) zf (fun _ _=>rfl)) (zb (zG yh (pv 0) zf (fun _ _=>rfl)) zj))) zj))
   (yH (zB GW hr4 (by rfl) T.worth kW bW .nil zH (zb (zG yh (pv 0) zf (fun _ _=>rfl)) (zb (zG yh (pv 0) zf (fun _ _=>rfl)) zj)))))))),?_⟩
  refine⟨_,rfl,x,"tuple",d,_,rfl,hd,uS d,_,rfl,?_⟩
  cases hd with
  |@tup a xs ds e hs=>
   refine vo ⟨_,rfl,a,_,rfl,.inr (SqT.of e),rfl,_,rfl,?_⟩
   cases hs with
   |nil=>exact yd (fun h=>absurd h (by simp)) (fun _=>q H (zm.refl H))
   |@cons xw _ dw _ hw hs=>
   cases hs with
   |nil=>exact yd (fun h=>absurd h (by simp)) (fun _=>q H (zm.refl H))
   |@cons xa _ da _ ha hs=>
   cases hs with
   |nil=>exact yd (fun h=>absurd h (by simp)) (fun _=>q H (zm.refl H))
   |@cons xb _ db _ hb hs=>
   cases hs with
   |nil=>exact yd (fun h=>absurd h (by simp)) (fun _=>q H (zm.refl H))
   |@cons xv _ dv _ hv hs=>
   cases hs with
   |cons _ _=>exact yd (fun h=>absurd h (by simp;omega)) (fun _=>q H (zm.refl H))
   |nil=>
    refine yd (fun _=>?_) (fun h=>absurd rfl h)
    refine⟨_,rfl,a,_,1,_,rfl,rfl,SqT.of e,rfl,_,rfl,a,_,2,_,rfl,rfl,SqT.of e,rfl,(by show 2≤sizeLine;decide),fun p hp=>?_⟩
    have s1:zm H (upd H p (.tup [xa,xb])):=yn hp
    refine⟨_,.tuple [da,db],rfl,.tup zd (.cons (ha.same s1) (.cons (hb.same s1) .nil)),_,rfl,?_⟩
    have q':Q (.bl (zV (.tuple [da,db])&&zv dw dv)) (upd H p (.tup [xa,xb])):=q _ s1
    refine yd (fun h=>?_) (fun h=>?_)
    ·rw[h,aq] at q'
     exact⟨_,rfl,a,_,0,_,rfl,rfl,SqT.of (s1 _ _ e),rfl,_,rfl,a,_,3,_,rfl,rfl,SqT.of (s1 _ _ e),rfl,_,_,_,_,rfl,hw.same s1,tV sd dw (by simp),hv.same s1,q'⟩
    ·rw[bw.mpr h,aw] at q'
     exact q'
  |_=>exact vn (q H (zm.refl H))
end
section
variable {P:Program}{w:World}{K:PySem.W.Frag}{mg:Str→Option Value}{base:Heap}{fW fI fP fD fPD fS fC fDl fWo fR fM:Addr}{cs:Cs}
structure jc (K:PySem.W.Frag)(cs:Cs)(fIn fTo fTe w1 w2 w3 w4 w5 w6 w7:Addr):Prop where
 price:yQ K cs.price fIn fTo fTe w1
 come:yQ K cs.come fIn fTo fTe w2
 go:yQ K cs.go fIn fTo fTe w3
 least:yQ K cs.least fIn fTo fTe w4
 most:yQ K cs.most fIn fTo fTe w5
 deal:yQ K cs.deal fIn fTo fTe w6
 fee:yQ K cs.fee fIn fTo fTe w7
theorem xK (cs:Cs):cs.of "price"=cs.price:=by unfold Cs.of;rw[if_pos rfl]
theorem wu (cs:Cs):cs.of "come"=cs.come:=by unfold Cs.of;rw[if_neg (by decide +kernel),if_pos rfl]
theorem rh (cs:Cs):cs.of "go"=cs.go:=by unfold Cs.of;rw[if_neg (by decide +kernel),if_neg (by decide +kernel),if_pos rfl]
theorem xQ (cs:Cs):cs.of "least"=cs.least:=by unfold Cs.of;rw[if_neg (by decide +kernel),if_neg (by decide +kernel),if_neg (by decide +kernel),if_pos rfl]
theorem wD (cs:Cs):cs.of "most"=cs.most:=by unfold Cs.of;rw[if_neg (by decide +kernel),if_neg (by decide +kernel),if_neg (by decide +kernel),if_neg (by decide +kernel),if_pos rfl]
theorem wC (cs:Cs):cs.of "deal"=cs.deal:=by unfold Cs.of;rw[if_neg (by decide +kernel),if_neg (by decide +kernel),if_neg (by decide +kernel),if_neg (by decide +kernel),if_neg (by decide +kernel),if_pos rfl]
theorem uu (cs:Cs):cs.of "fee"=cs.fee:=by unfold Cs.of;rw[if_neg (by decide +kernel),if_neg (by decide +kernel),if_neg (by decide +kernel),if_neg (by decide +kernel),if_neg (by decide +kernel),if_neg (by decide +kernel)]
theorem wQ {x y:Str}(h:decide (V.str x=V.str y)=true):x=y:=by
 have:=of_decide_eq_true h
 injection this
theorem wY {x y:Str}(h:¬decide (V.str x=V.str y)=true):x≠y:=fun e=>h (by rw[e];exact bY rfl)
theorem yE {C p dx:Addr}{H:Hp}{x y z:V}{Q:VK}(k:∀(p dx:Addr) (H':Hp),H' p=some (.ins C dx (xy x y z))→H p=none→zm H H'→Q (.ref p) H')(hp:H p=none)(hx:H dx=none)(n:dx≠p):
  Q (.ref p) (upd (upd (upd H dx (.own p)) p (.ins C dx [])) p (.ins C dx (xy x y z))):=by
 refine k p dx _ zd hp fun a o e=>?_
 rw[wm,zc (ze e hp),zc (ze e hx)]
 exact e
theorem fB :zg ["word","first","last","worth"] ["word","first","last","worth"] (za jx):=⟨rfl,rfl,rfl,by decide +kernel,rfl,by decide +kernel,by decide +kernel⟩
set_option maxHeartbeats 4000000 in
theorem jZ {f fIn fTo fTe w1 w2 w3 w4 w5 w6 w7:Addr}{fd fdIn:FuncData}(F:Fun K "made" "made" jx f fd)(T:qu mg fW fI fP fD fPD fS fC fDl fWo fR fM cs)(A7:jc K cs fIn fTo fTe w1 w2 w3 w4 w5 w6 w7)
  (FI:Fun K "__init__" "Rule.__init__" pT fIn fdIn) (bI:Binds K fdIn ["self","first","last","worth"] []):zo P w K mg base CX0 3 f fd ["word","first","last","worth"] (kU cs):=by
 refine F.ok fB (fun vs H Q E h=>?_) (fun cdv A outer s H vs Q E hr h=>?_)
 ·obtain⟨wd,x,y,z,rfl,_⟩:=h
  rfl
 ·obtain⟨wd,x,y,z,rfl,hw,k⟩:=h
  refine zE (fun σ H1=>σ=[some (.str wd),some x,some y,some z]∧wd≠"price"∧H=H1)
   ⟨_,yN (zO xI (pv 0) zN (zu _)) (zl (zq (yL A7.price.makes (xr FI A7.price) hr (by rfl) T.cPrice bI .nil zH (zb (pv 1) (zb (pv 2) (zb (pv 3) zj)))))) yc,?_⟩ ?_
  ·refine⟨_,rfl,rfl,_,rfl,yd (fun h=>?_) (fun h=>⟨rfl,wY h,rfl⟩)⟩
   rw[wQ h,xK] at k
   exact⟨_,rfl,_,rfl,_,rfl,fun p dx hp hx n=>⟨p,dx,_,_,_,rfl,zd,rfl,yE k hp hx n⟩⟩
  rintro σ H1 ⟨rfl,n1,rfl⟩
  refine zE (fun σ H1=>σ=[some (.str wd),some x,some y,some z]∧wd≠"come"∧H=H1)
   ⟨_,yN (zO xI (pv 0) zN (zu _)) (zl (zq (yL A7.come.makes (xr FI A7.come) hr (by rfl) T.cCome bI .nil zH (zb (pv 1) (zb (pv 2) (zb (pv 3) zj)))))) yc,?_⟩ ?_
  ·refine⟨_,rfl,rfl,_,rfl,yd (fun h=>?_) (fun h=>⟨rfl,wY h,rfl⟩)⟩
   rw[wQ h,wu] at k
   exact⟨_,rfl,_,rfl,_,rfl,fun p dx hp hx n=>⟨p,dx,_,_,_,rfl,zd,rfl,yE k hp hx n⟩⟩
  rintro σ H1 ⟨rfl,n2,rfl⟩
  refine zE (fun σ H1=>σ=[some (.str wd),some x,some y,some z]∧wd≠"go"∧H=H1)
   ⟨_,yN (zO xI (pv 0) zN (zu _)) (zl (zq (yL A7.go.makes (xr FI A7.go) hr (by rfl) T.cGo bI .nil zH (zb (pv 1) (zb (pv 2) (zb (pv 3) zj)))))) yc,?_⟩ ?_
  ·refine⟨_,rfl,rfl,_,rfl,yd (fun h=>?_) (fun h=>⟨rfl,wY h,rfl⟩)⟩
   rw[wQ h,rh] at k
   exact⟨_,rfl,_,rfl,_,rfl,fun p dx hp hx n=>⟨p,dx,_,_,_,rfl,zd,rfl,yE k hp hx n⟩⟩
  rintro σ H1 ⟨rfl,n3,rfl⟩
  refine zE (fun σ H1=>σ=[some (.str wd),some x,some y,some z]∧wd≠"least"∧H=H1)
   ⟨_,yN (zO xI (pv 0) zN (zu _)) (zl (zq (yL A7.least.makes (xr FI A7.least) hr (by rfl) T.cLeast bI .nil zH (zb (pv 1) (zb (pv 2) (zb (pv 3) zj)))))) yc,?_⟩ ?_
  ·refine⟨_,rfl,rfl,_,rfl,yd (fun h=>?_) (fun h=>⟨rfl,wY h,rfl⟩)⟩
   rw[wQ h,xQ] at k
   exact⟨_,rfl,_,rfl,_,rfl,fun p dx hp hx n=>⟨p,dx,_,_,_,rfl,zd,rfl,yE k hp hx n⟩⟩
  rintro σ H1 ⟨rfl,n4,rfl⟩
  refine zE (fun σ H1=>σ=[some (.str wd),some x,some y,some z]∧wd≠"most"∧H=H1)
   ⟨_,yN (zO xI (pv 0) zN (zu _)) (zl (zq (yL A7.most.makes (xr FI A7.most) hr (by rfl) T.cMost bI .nil zH (zb (pv 1) (zb (pv 2) (zb (pv 3) zj)))))) yc,?_⟩ ?_
  ·refine⟨_,rfl,rfl,_,rfl,yd (fun h=>?_) (fun h=>⟨rfl,wY h,rfl⟩)⟩
   rw[wQ h,wD] at k
   exact⟨_,rfl,_,rfl,_,rfl,fun p dx hp hx n=>⟨p,dx,_,_,_,rfl,zd,rfl,yE k hp hx n⟩⟩
  rintro σ H1 ⟨rfl,n5,rfl⟩
  refine zE (fun σ H1=>σ=[some (.str wd),some x,some y,some z]∧wd≠"deal"∧H=H1)
   ⟨_,yN (zO xI (pv 0) zN (zu _)) (zl (zq (yL A7.deal.makes (xr FI A7.deal) hr (by rfl) T.cDeal bI .nil zH (zb (pv 1) (zb (pv 2) (zb (pv 3) zj)))))) yc,?_⟩ ?_
  ·refine⟨_,rfl,rfl,_,rfl,yd (fun h=>?_) (fun h=>⟨rfl,wY h,rfl⟩)⟩
   rw[wQ h,wC] at k
   exact⟨_,rfl,_,rfl,_,rfl,fun p dx hp hx n=>⟨p,dx,_,_,_,rfl,zd,rfl,yE k hp hx n⟩⟩
  rintro σ H1 ⟨rfl,n6,rfl⟩
  have e7:wd="fee":=by
   simp only[words,cY,bq,af] at hw
   rcases hw with e|e|e|e|e|e|e
   ·exact absurd e n1
   ·exact absurd e n2
   ·exact absurd e n3
   ·exact absurd e n4
   ·exact absurd e n5
   ·exact absurd e n6
   ·exact e
  rw[e7,uu] at k
  refine⟨_,zl (zq (yL A7.fee.makes (xr FI A7.fee) hr (by rfl) T.cFee bI .nil zH (zb (pv 1) (zb (pv 2) (zb (pv 3) zj))))),?_⟩
  exact⟨_,rfl,_,rfl,_,rfl,fun p dx hp hx n=>⟨p,dx,_,_,_,rfl,zd,rfl,yE k hp hx n⟩⟩
theorem lr :zg ["thing"] ["thing"] (za uZ):=⟨rfl,rfl,rfl,by decide +kernel,rfl,by decide +kernel,by decide +kernel⟩
theorem oY {f:Addr}{fd fdR fdM:FuncData}(F:Fun K "rule_of" "rule_of" uZ f fd)(T:qu mg fW fI fP fD fPD fS fC fDl fWo fR fM cs)(GR:zo P w K mg base CX0 6 fR fdR ["thing"] mL)(kR:PySem.W.keepIn K (.ref fR)=true)(bR:Binds K fdR ["thing"] [])
  (GM:zo P w K mg base CX0 3 fM fdM ["word","first","last","worth"] (kU cs)) (kM:PySem.W.keepIn K (.ref fM)=true) (bM:Binds K fdM ["word","first","last","worth"] []):zo P w K mg base CX0 7 f fd ["thing"] (sT cs):=by
 refine F.ok lr (fun vs H Q E h=>?_) (fun cdv A outer s H vs Q E hr h=>?_)
 ·obtain⟨x,d,rfl,_⟩:=h
  rfl
 ·obtain⟨x,d,rfl,hd,sd,k0,k1⟩:=h
  have hr3:zy 3 _:=hr.mono (by decide)
  refine zE (fun σ H1=>σ=[some x]∧yT d=true∧zm H H1)
   ⟨_,yN (jv (kj (zB GR hr (by rfl) T.rule kR bR .nil zH (zb (pv 0) zj)))) (zl (zq vT)) yc,?_⟩ ?_
  ·refine⟨_,rfl,x,d,rfl,hd,sd,fun H1 s1=>⟨_,rfl,?_⟩⟩
   refine yd (fun h=>?_) (fun h=>?_)
   ·exact k0 (by simpa using h) H1 s1
   ·exact⟨rfl,by simpa using h,s1⟩
  rintro σ H1 ⟨rfl,er,s1⟩
  obtain⟨sw,da,db,dv,hsw,rfl⟩:=yM er
  cases hd with
  |@tup r xs ds e hs=>
   cases hs with
   |@cons xw _ _ _ hw hs=>
    cases hw
    cases hs with
    |@cons xa _ _ _ ha hs=>
     cases hs with
     |@cons xb _ _ _ hb hs=>
      cases hs with
      |@cons xv _ _ _ hv hs=>
       cases hs
       have e1:=s1 _ _ e
       refine⟨_,zl (zq (zB GM hr3 (by rfl) T.made kM bM .nil zH (zb (zG yh (pv 0) zf (fun _ _=>rfl)) (zb (zG yh (pv 0) zf (fun _ _=>rfl)) (zb (zG yh (pv 0) zf (fun _ _=>rfl)) (zb (zG yh (pv 0) zf (fun _ _=>rfl)) zj)))))),?_⟩
       refine⟨_,rfl,r,_,0,_,rfl,rfl,SqT.of e1,rfl,_,rfl,r,_,1,_,rfl,rfl,SqT.of e1,rfl,_,rfl,r,_,2,_,rfl,rfl,SqT.of e1,rfl,_,rfl,r,_,3,_,rfl,rfl,SqT.of e1,rfl,sw,_,_,_,rfl,hsw,fun p dx H2 h2 hp s2=>?_⟩
       exact k1 r sw xa xb xv p dx H2 rfl er hsw e h2 (s1.free hp) (s1.trans s2)
end
abbrev sY :Stmt:=top 34
abbrev yk :Stmt:=inClass (top 33) 0
abbrev xS :Stmt:=inClass (top 33) 1
def vm (C:Addr)(a b v:PyData):PyData:=yV C [(.str "first",a),(.str "last",b),(.str "worth",v)]
def xE (cs:Cs):PyData→PyData
 |.tuple [.str w,a,b,v]=>vm (cs.of w) a b v
 |_=>.none
def zP (C:Addr)(cs:Cs)(ds:List PyData):PyData:=yV C [(.str "kept",.list (ds.map (xE cs)))]
def Rules (ds:List PyData):Prop:=∀d∈ds,yT d=true∧SeqAt.shaped d=true∧d.hasDict=false
def wB (cs:Cs):List A→(A→Prop)→Prop:=fun as Q=>∃d,as=[.dat d]∧d.hasDict=false∧SeqAt.shaped d=true∧(yT d=false→Q (.dat .none))∧(yT d=true→Q (.dat (xE cs d)))
def qC (cs:Cs):List A→(A→Prop)→Prop:=fun as Q=>∃ds,as=[.dat (.list ds)]∧Rules ds∧ds.length≤24∧Q (.own (ds.map (xE cs)))
def wU (C:Addr)(cs:Cs):List A→(A→Prop)→Prop:=fun as Q=>∃ds,(as=[.dat (.list ds)]∨(as=[.dat .none]∧ds=[]))∧Rules ds∧ds.length≤24∧Q (.dat (zP C cs ds))
def ph (C:Addr)(w:Str):List A→(A→Prop)→Prop:=fun as Q=>∃a b v,as=[.dat (vm C a b v)]∧Q (.dat (.tuple [.str w,a,b,v]))
def wz (C:Addr)(cs:Cs):List A→(A→Prop)→Prop:=fun as Q=>∃ds,as=[.dat (zP C cs ds)]∧Rules ds∧ds.length≤1000∧Q (.own ds)
theorem tO (x y z:V):xy x y z=[(("first":Str),x),(("last":Str),y),(("worth":Str),z)]:=by
 unfold xy
 show yJ "worth" z (if ("first":Str)="last" then _ else _)=_
 rw[if_neg (fun e=>mQ e.symm)]
 show (if ("first":Str)="worth" then _ else _)=_
 rw[if_neg (fun e=>lE e.symm)]
 show _::(if ("last":Str)="worth" then _ else _)=_
 rw[if_neg (fun e=>jl e.symm)]
 rfl
theorem xi {cs:Cs}{d:PyData}(h:yT d=true):∃(s:Str) (a b v:PyData),s∈words∧d=.tuple [.str s,a,b,v]∧xE cs d=vm (cs.of s) a b v:=by
 obtain⟨s,a,b,v,hs,rfl⟩:=yM h
 exact⟨s,a,b,v,hs,rfl,rfl⟩
def lR :Scope:=match zr xS with
 |[.Return (some (.ListComp _ _ sc _)) _]=>sc
 |_=>za xS
section
variable {P:Program}{w:World}{K:PySem.W.Frag}{mg:Str→Option Value}{base:Heap}{cs:Cs}
theorem rR {k:Nat}{f:Addr}{fd:FuncData}{ps:List Str}(hm:mg "rule_of"=some (.ref f))(hk:PySem.W.keepIn K (.ref f)=true)(hb:Binds K fd ps [])(G:zo P w K mg base CX0 k f fd ps (sT cs)):Cal P w K mg base "rule_of" k (wB cs):=by
 refine⟨f,fd,_,hm,hk,hb,G.imp fun vs H Q E h=>?_⟩
 obtain⟨F,as,Q',rfl,t,o,rv,⟨d,rfl,nd,sh,q0,q1⟩,kk⟩:=h
 obtain⟨x,rfl,av⟩:=rv.one
 have oo:∀{a:Addr},F.H0 a=none→¬F.O0 a:=fun {a} e z=>by
  obtain⟨u,hu,_⟩:=o a z
  rw[e] at hu;cases hu
 refine⟨x,d,rfl,(av.dv nd).same yW,sh,fun hr H' s=>kk _ _ _ (q0 hr) ⟨t.same s,Kz.of_same s,.non⟩,fun r wd x1 x2 x3 p dx H' hx hr hw he hp' hp s=>kk _ _ _ (q1 hr) ⟨t.same s,Kz.of_same s,?_⟩⟩
 subst hx
 obtain⟨s',a,b,v,_,rfl⟩:=yM hr
 obtain⟨r',xs,e1,e2,e3⟩:=av.tup_inv
 cases e1
 have e4:=(zh e2).2
 rw[he] at e4
 cases e4
 have gs:zm (sub (fun x=>¬F.O0 x) F.H0) (sub (fun x=>¬F.O0 x) H'):=zk fun a u h e=>⟨h,s _ _ e⟩
 cases e3 with
 |cons g1 e3=>
  cases g1.str_inv
  cases e3 with
  |cons g2 e3=>
   cases e3 with
   |cons g3 e3=>
    cases e3 with
    |cons g4 e3=>
     cases e3
     rw[tO] at hp'
     exact .ins (zM (oo hp) hp') (.cons (g2.same gs) (.cons (g3.same gs) (.cons (g4.same gs) .nil)))
theorem yt {C f fIn fE fWd:Addr}{fd:FuncData}{wd:Str}(R:yQ K C fIn f fE fWd)(hb:Binds K fd ["self"] [])(G:zo P w K mg base CX0 2 f fd ["self"] (mE C wd)):yU P w K mg base C "told" 2 (ph C wd):=by
 refine⟨f,fd,_,R.cl,R.told,hb,G.imp fun vs H Q E h=>?_⟩
 obtain⟨F,as,Q',rfl,t,o,rv,⟨a,b,v,rfl,q⟩,kk⟩:=h
 obtain⟨x,rfl,av⟩:=rv.one
 obtain⟨p,dx,fs,rfl,h1,h2⟩:=av.ins_inv
 cases h2 with
 |cons g1 h2=>
  cases h2 with
  |cons g2 h2=>
   cases h2 with
   |cons g3 h2=>
    cases h2
    refine⟨p,dx,_,_,_,rfl,by rw[tO];exact (zh h1).2,fun r hr=>kk _ _ _ q ⟨t.same (yn hr),Kz.of_same (yn hr),?_⟩⟩
    have gs:∀o':HO,zm (sub (fun x=>¬F.O0 x) F.H0) (sub (fun x=>¬F.O0 x) (upd F.H0 r o')):=fun o'=>zk fun a u h e=>⟨h,by rw[zc (ze e hr)];exact e⟩
    refine .tup (zM (fun z=>?_) zd) (.cons (.str _) (.cons (g1.same (gs _)) (.cons (g2.same (gs _)) (.cons (g3.same (gs _)) .nil))))
    obtain⟨u,hu,_⟩:=o r z
    rw[hr] at hu;cases hu
theorem lG :zg ["things","kept","number","thing","rule"] ["things"] (za sY):=⟨rfl,rfl,rfl,by decide +kernel,rfl,by decide +kernel,by decide +kernel⟩
set_option maxHeartbeats 4000000 in
theorem jw {f:Addr}{fd:FuncData}(F:Fun K "kept_rules" "kept_rules" sY f fd)(hm:mg "kept_rules"=some (.ref f))(hb:Binds K fd ["things"] [])(nb:NbT mg)(gM:∃t,mg "MOST_RULES"=some (.int 24 t))(CRO:Cal P w K mg base "rule_of" 7 (wB cs)):Cal P w K mg base "kept_rules" 8 (qC cs):=by
 refine uw F hm hb lG (fun as Q h=>?_) (fun cdv A' outer s H E as Q hr h=>?_)
 ·obtain⟨ds,rfl,_⟩:=h
  rfl
 ·obtain⟨ds,rfl,rd,hl,q⟩:=h
  refine xT 1 lG.nd (wO (zU (⟨_,rfl,aB rfl,?_⟩)))
  refine tq (pat:=.many [2,3]) zc3 rfl (xJ (n:=2) (K:=K) rfl rfl (yG (zY (i:=2) lG.nd rfl (Or.inl rfl)) (yG (zY (i:=3) lG.nd rfl (Or.inl rfl)) (wq)))) (oj (by rfl) nb.enumerate (zp 0 rfl (⟨_,rfl,?_⟩)))
  refine yS (fun i α=>∃v2 v3 v4,α=[some (.dat (.list ds)),some (.own ((ds.take i).map (xE cs))),v2,v3,v4]) ⟨none,none,none,rfl⟩ ?_ ?_
  ·rintro i d α hd ⟨v2,v3,v4,rfl⟩
   obtain⟨e,he,rfl⟩:=xW hd
   obtain⟨r1,r2,r3⟩:=rd e (bV he)
   have hi:i<ds.length:=(cR.mp he).1
   refine⟨_,rfl,?_⟩
   refine wK 4 lG.nd (ub CRO hr (by rfl) (zt (zp 3 rfl (zU (⟨_,rfl,r3,r2,fun z=>(by rw[r1] at z;cases z),fun _=>?_⟩)))))
   refine wt (wZ (zp 4 rfl ?_))
   obtain⟨s',a,b,v,hs,rfl,ei⟩:=xi (cs:=cs) r1
   refine xR (fun h=>by rw[show (A.dat (xE cs (.tuple [.str s',a,b,v]))).d=vm (cs.of s') a b v from rfl] at h;cases h) (fun _=>ym ?_)
   refine wR 1 rfl (zp 4 rfl ⟨by rw[cT,aS];omega,?_⟩)
   refine ym ⟨some (.dat (.int ((0+i:Nat):Int))),some (.dat (.tuple [.str s',a,b,v])),some (.dat (xE cs (.tuple [.str s',a,b,v]))),?_⟩
   rw[List.take_add_one,he,za7]
   rfl
  ·rintro α ⟨v2,v3,v4,rfl⟩
   rw[xV,List.take_length]
   refine wt (pM 1 rfl (og (tF (by rfl) nb.len (zp 1 rfl ⟨_,rfl,vP (by rfl) gM ⟨_,_,rfl,rfl,?_⟩⟩))))
   refine lF (fun h=>?_) (fun _=>ym ?_)
   ·rw[cT] at h
    omega
   ·exact pC 1 rfl q
theorem cc :zg ["self","rules"] ["self","rules"] (za yk):=⟨rfl,rfl,rfl,by decide +kernel,rfl,by decide +kernel,by decide +kernel⟩
theorem me {w' v:PyData}(h:zv w' v=true):noL v=true:=by
 have wi:∀{lo hi:Int} {x:PyData},zR lo hi x=true→noL x=true:=fun {lo hi x} h=>by
  cases x with
  |int i=>rfl
  |_=>cases h
 have nn:∀{x:PyData},isNone x=true→noL x=true:=fun {x} h=>by
  cases x with
  |none=>rfl
  |_=>cases h
 unfold zv at h
 split at h
 ·rcases (zc2 _ _).mp h with h|h
  ·exact nn h
  ·exact wi h
 ·split at h
  ·cases v with
   |bool b=>rfl
   |_=>cases h
  ·split at h
   ·exact wi h
   ·split at h
    ·rcases (zc2 _ _).mp h with h|h
     ·exact nn h
     ·unfold ue at h
      split at h
      ·rw[bu] at h
       simp only[noL,sL,wi h.2,Bool.and_self]
      ·cases h
    ·rw[bu] at h
     exact wi h.2
theorem kE {s':Str}{a b v:PyData}(h:yT (.tuple [.str s',a,b,v])=true):noL a=true∧noL b=true∧noL v=true:=by
 have h':(zV (.tuple [a,b])&&zv (.str s') v)=true:=h
 rw[bu] at h'
 refine⟨?_,?_,me h'.2⟩
 ·have:=h'.1
  unfold zV ux at this
  split at this
  ·rename_i k e
   split at e
   ·rename_i z;cases z;rfl
   ·cases e
  ·cases this
 ·have:=h'.1
  unfold zV ux at this
  split at this
  ·rename_i k e
   split at e
   ·rename_i z;cases z;rfl
   ·cases e
  ·cases this
theorem sX {ds:List PyData}(rd:Rules ds):sL (ds.map (xE cs))=true:=by
 induction ds with
 |nil=>rfl
 |cons d r ih=>
  have ih':=ih fun x hx=>rd x (ba _ hx)
  have h1:=(rd d bp).1
  obtain⟨s',a,b,v,hs,rfl,ei⟩:=xi (cs:=cs) h1
  obtain⟨z1,z2,z3⟩:=kE h1
  rw[aL,ei]
  simp only[sL,ih',Bool.and_true]
  simp[vm,yV,noL,qR,z1,z2,z3]
theorem ll {f C:Addr}{dV:Value}{fd:FuncData}(F:qf K "__init__" "Book.__init__" yk dV f fd)(c:Cls K C)(na:yf K C "kept")(CK:Cal P w K mg base "kept_rules" 8 (qC cs)):zo P w K mg base CX0 9 f fd ["self","rules"] (spI C (wU C cs)):=by
 refine eF (N:=[]) F cc c na rfl (fun as Q h=>?_) (fun cdv A' outer s H E as Q hr h=>?_) (fun _ _ _ _ _ _=>rfl) (Or.inl rfl)
 ·obtain⟨ds,h|⟨h,_⟩,_⟩:=h<;>rw[h]<;>rfl
 ·obtain⟨ds,h|⟨h,hz⟩,rd,hl,q⟩:=h
  ·subst h
   exact tL CK hr (by rfl) (zt (sA (wZ (zp 1 rfl (vn (zp 1 rfl (zU ⟨_,rfl,rd,hl,_,rfl,sX rd,q⟩)))))))
  ·subst h hz
   exact tL CK hr (by rfl) (zt (sA (wZ (zp 1 rfl (vo (EvL.d (wO (zU ⟨_,rfl,aB rfl,zU ⟨[],rfl,rd,hl,_,rfl,sX rd,q⟩⟩))))))))
theorem cy :zg ["self"] ["self"] (za xS):=⟨rfl,rfl,rfl,by decide +kernel,rfl,by decide +kernel,by decide +kernel⟩
theorem dS :zK ["self"] (za xS) ["rule"] [none] lR:=⟨rfl,by decide +kernel,by decide +kernel,by decide +kernel,by decide +kernel,rfl,by decide +kernel⟩
set_option maxHeartbeats 4000000 in
theorem nM {f C:Addr}{fd:FuncData}(F:Fun K "rules" "Book.rules" xS f fd)(c:Cls K C)(na:yf K C "kept")(hb:Binds K fd ["self"] [])(O:∀w'∈words,yU P w K mg base (cs.of w') "told" 2 (ph (cs.of w') w')):zo P w K mg base CX0 3 f fd ["self"] (spA (wz C cs)):=by
 refine fnA F cy (fun as Q h=>?_) (fun cdv A' outer s H E as Q hr h=>?_)
 ·obtain⟨ds,rfl,_⟩:=h
  rfl
 ·obtain⟨ds,rfl,rd,hl,q⟩:=h
  refine ou (hU (pat:=.one 0) rfl dS rfl (fun _ _ _ _=>zY (i:=0) dS.nd rfl (Or.inl rfl)) (wG (pd c na (zp 0 rfl ⟨_,_,rfl,rfl,⟨_,rfl,by rw[cT];exact hl,?comp⟩⟩))))
  case comp=>
   refine vc (fun i acc=>acc=ds.take i) rfl ?_ (fun acc h=>?_)
   ·rintro i d acc hd rfl
    rw[bE,bG] at hd
    obtain⟨e,he,rfl⟩:=hd
    obtain⟨s',a,b,v,hs,rfl,ei⟩:=xi (cs:=cs) (rd e (bV he)).1
    refine⟨_,rfl,fun C s2 H2 fp=>qK ?_⟩
    rw[if_pos rfl]
    refine fun C s2 H2 fp=>vN (O s' hs) hr (zp 0 rfl ⟨_,rfl,rfl,_,_,_,rfl,?_⟩)
    show ds.take i++[_]=ds.take (i+1)
    rw[List.take_add_one,he]
    rfl
   ·rw[cT,List.take_length] at h
    rw[h]
    exact q
end
abbrev tH :Stmt:=inClass (top 33) 2
abbrev qA :Stmt:=top 24
def tbU :List (Str×V):=[("price",.non),("come",.bl true),("go",.bl true),("least",.int 1),("most",.int 14),("deal",.non),("fee",.int 0)]
def nF (x:Str):PyData:=if x="price"∨x="deal" then .none else if x="come"∨x="go" then .bool true else if x="least" then .int 1 else if x="most" then .int 14 else .int 0
theorem fX {x:Str}(h:x∈words):∃v,tbU.lookup x=some v∧scV (nF x)=some v:=by
 simp only[words,cY,bq,af] at h
 rcases h with rfl|rfl|rfl|rfl|rfl|rfl|rfl
 ·exact⟨.non,by decide +kernel,by decide +kernel⟩
 ·exact⟨.bl true,by decide +kernel,by decide +kernel⟩
 ·exact⟨.bl true,by decide +kernel,by decide +kernel⟩
 ·exact⟨.int 1,by decide +kernel,by decide +kernel⟩
 ·exact⟨.int 14,by decide +kernel,by decide +kernel⟩
 ·exact⟨.non,by decide +kernel,by decide +kernel⟩
 ·exact⟨.int 0,by decide +kernel,by decide +kernel⟩
theorem kb (x:Str):zL 5000 (nF x):=by
 have b0:(0:Int)<big:=by decide +kernel
 have b1:(14:Int)<big:=by decide +kernel
 have i1:∀i:Int,0≤i→i≤14→zL 5000 (.int i):=fun i h0 h1=>(zL.int (by omega) (by omega)).mono (by decide)
 unfold nF
 split
 ·exact zL.none.mono (by decide)
 ·split
  ·exact (zL.bool _).mono (by decide)
  ·split
   ·exact i1 _ (by decide) (by decide)
   ·split
    ·exact i1 _ (by decide) (by decide)
    ·exact i1 _ (by decide) (by decide)
def vv (w:Str)(day:Int):PyData→Bool
 |.tuple [.str x,.int a,.int b,_]=>decide (x=w)&&(decide (a≤day)&&decide (day≤b))
 |_=>false
def pI :PyData→PyData
 |.tuple [_,_,_,v]=>v
 |_=>.none
def yI (ds:List PyData)(w:Str)(day:Int):PyData:=match ds.reverse.find? (vv w day) with
 |some d=>pI d
 |none=>nF w
theorem vV {p:PyData→Bool}{e:PyData}:∀{l:List PyData} {i:Nat},(∀j<i,∀d,l[j]?=some d→p d=false)→l[i]?=some e→p e=true→l.find? p=some e
 |[],i,_,h,_=>by simp at h
 |d::l,0,_,h,q=>by
  simp at h;subst h
  simp[aj,q]
 |d::l,i+1,a,h,q=>by
  have hd:=a 0 (Nat.succ_pos _) d rfl
  rw[aj,hd]
  exact vV (i:=i) (fun j hj x hx=>a (j+1) (Nat.succ_lt_succ hj) x (by simpa using hx)) (by simpa using h) q
theorem jW {p:PyData→Bool}{l:List PyData}(h:∀(j:Nat) d,l[j]?=some d→p d=false):l.find? p=none:=by
 rw[List.find?_eq_none]
 intro x hx
 obtain⟨j,hj⟩:=List.mem_iff_getElem?.mp hx
 rw[h j x hj];simp
theorem xZ {d:PyData}(h:yT d=true):∃(s:Str) (i j:Int) (v:PyData),s∈words∧d=.tuple [.str s,.int i,.int j,v]∧0≤i∧i≤j∧j≤1000000∧zv (.str s) v=true:=by
 obtain⟨s,a,b,v,hs,rfl⟩:=yM h
 have h':(zV (.tuple [a,b])&&zv (.str s) v)=true:=h
 rw[bu] at h'
 have h1:=h'.1
 unfold zV ux at h1
 split at h1
 ·rename_i k e
  split at e
  ·rename_i z
   cases z
   split at e
   ·rename_i q
    cases e
    rw[bu] at q
    rename_i a' b'
    have qa:(decide (0≤a')&&decide (a'≤1000000))=true:=q.1
    have qb:(decide (0≤b')&&decide (b'≤1000000))=true:=q.2
    rw[bu,bZ,bZ] at qa qb
    have h2:=of_decide_eq_true h1
    exact⟨s,a',b',v,hs,rfl,qa.1,by omega,qb.2,h'.2⟩
   ·cases e
  ·cases e
 ·cases h1
theorem oV (a b v:PyData):vp [(.str "first",a),(.str "last",b),(.str "worth",v)] "worth"=some v:=by
 show (if ("worth":Str)="first" then _ else _)=_
 rw[if_neg lE]
 show (if ("worth":Str)="last" then _ else _)=_
 rw[if_neg jl]
 show (if ("worth":Str)="worth" then _ else _)=_
 rw[if_pos rfl]
def tM :List A→(A→Prop)→Prop:=fun as Q=>∃x,as=[.dat (.str x)]∧x∈words∧Q (.dat (nF x))
def rS (C:Addr)(w:Str):List A→(A→Prop)→Prop:=fun as Q=>∃a b v,as=[.dat (vm C a b v)]∧Q (.dat (.str w))
def vY (C:Addr):List A→(A→Prop)→Prop:=fun as Q=>∃(a b day:Int) (v:PyData),as=[.dat (vm C (.int a) (.int b) v),.dat (.int day)]∧Q (.dat (.bool (decide (a≤day)&&decide (day≤b))))
def vz (C:Addr)(cs:Cs):List A→(A→Prop)→Prop:=fun as Q=>∃ds x day,as=[.dat (zP C cs ds),.dat (.str x),.dat (.int day)]∧Rules ds∧x∈words∧Q (.dat (yI ds x day))
section
variable {P:Program}{w:World}{K:PySem.W.Frag}{mg:Str→Option Value}{base:Heap}{cs:Cs}
theorem cp :zg ["word"] ["word"] (za qA):=⟨rfl,rfl,rfl,by decide +kernel,rfl,by decide +kernel,by decide +kernel⟩
theorem mj {f dU:Addr}{fd:FuncData}(F:Fun K "usual" "usual" qA f fd)(hm:mg "usual"=some (.ref f))(hb:Binds K fd ["word"] [])(mU:mg "USUAL"=some (.ref dU))(DU:pO K w dU tbU):Cal P w K mg base "usual" 1 tM:=by
 refine uw F hm hb cp (fun as Q h=>?_) (fun cdv A' outer s H E as Q hr h=>?_)
 ·obtain⟨x,rfl,_⟩:=h
  rfl
 ·obtain⟨x,rfl,hx,q⟩:=h
  obtain⟨v,h1,h2⟩:=fX hx
  exact wg (kn (by rfl) mU DU (zp 0 rfl ⟨x,nF x,v,rfl,h1,h2,q⟩))
theorem yr {C f fIn fT fE:Addr}{fd:FuncData}{wd:Str}(R:yQ K C fIn fT fE f)(hb:Binds K fd ["self"] [])(G:zo P w K mg base CX0 1 f fd ["self"] (xh wd)):yU P w K mg base C "word" 1 (rS C wd):=by
 refine⟨f,fd,_,R.cl,R.word,hb,G.imp fun vs H Q E h=>?_⟩
 obtain⟨F,as,Q',rfl,t,o,rv,⟨a,b,v,rfl,q⟩,kk⟩:=h
 obtain⟨x,rfl,av⟩:=rv.one
 obtain⟨p,dx,fs,rfl,h1,h2⟩:=av.ins_inv
 exact⟨p,rfl,kk _ _ _ q ⟨t,Kz.refl,.str _⟩⟩
theorem ye {C f fIn fT fWd:Addr}{fd:FuncData}(R:yQ K C fIn fT f fWd)(hb:Binds K fd ["self","day"] [])(G:zo P w K mg base CX0 1 f fd ["self","day"] (pV C)):yU P w K mg base C "tells" 1 (vY C):=by
 refine⟨f,fd,_,R.cl,R.tells,hb,G.imp fun vs H Q E h=>?_⟩
 obtain⟨F,as,Q',rfl,t,o,rv,⟨a,b,day,v,rfl,q⟩,kk⟩:=h
 obtain⟨x,y,rfl,av,ay⟩:=rv.two
 cases ay.int_inv
 obtain⟨p,dx,fs,rfl,h1,h2⟩:=av.ins_inv
 cases h2 with
 |cons g1 h2=>
  cases h2 with
  |cons g2 h2=>
   cases h2 with
   |cons g3 h2=>
    cases h2
    cases g1.int_inv
    cases g2.int_inv
    exact⟨p,dx,a,b,day,_,rfl,by rw[tO];exact (zh h1).2,kk _ _ _ q ⟨t,Kz.refl,.bl _⟩⟩
theorem dA :zg ["self","word","day","rule"] ["self","word","day"] (za tH):=⟨rfl,rfl,rfl,by decide +kernel,rfl,by decide +kernel,by decide +kernel⟩
set_option maxHeartbeats 4000000 in
theorem nP {f C:Addr}{fd:FuncData}(F:Fun K "tells_of" "Book.tells_of" tH f fd)(c:Cls K C)(na:yf K C "kept")(nb:NbT mg)(CU:Cal P w K mg base "usual" 1 tM)(OW:∀u∈words,yU P w K mg base (cs.of u) "word" 1 (rS (cs.of u) u))(OR:∀u∈words,yU P w K mg base (cs.of u) "tells" 1 (vY (cs.of u)))
  (OC:∀u∈words,Cls K (cs.of u)∧yf K (cs.of u) "worth"):zo P w K mg base CX0 2 f fd ["self","word","day"] (spA (vz C cs)):=by
 refine fnA F dA (fun as Q h=>?_) (fun cdv A' outer s H E as Q hr h=>?_)
 ·obtain⟨ds,x,d,rfl,_⟩:=h
  rfl
 ·obtain⟨ds,x,day,rfl,rd,hx,q⟩:=h
  refine tq (pat:=.one 3) zc3 rfl (zY (i:=3) dA.nd rfl (Or.inl rfl)) (fm (by rfl) nb.reversed (pd c na (zp 0 rfl ⟨_,_,rfl,rfl,⟨_,rfl,?_⟩⟩)))
  refine yS (fun i α=>(∃v3,α=[some (.dat (zP C cs ds)),some (.dat (.str x)),some (.dat (.int day)),v3])∧∀j<i,∀d,ds.reverse[j]?=some d→vv x day d=false) ⟨⟨none,rfl⟩,fun j hj=>absurd hj (Nat.not_lt_zero _)⟩ ?_ ?_
  ·rintro i d α hd ⟨⟨v3,rfl⟩,hno⟩
   rw[←List.map_reverse,bE,bG] at hd
   obtain⟨e,he,rfl⟩:=hd
   have hme:e∈ds:=zb5.mp (bV he)
   obtain⟨u,a,b,v,hu,rfl,_,_,_,_⟩:=xZ (rd e hme).1
   refine⟨_,rfl,?_⟩
   refine wt (EvW.t (iJ (fun _ k=>fh (vN (OW u hu) hr (zp 3 rfl ⟨_,rfl,rfl,_,_,_,rfl,zp 1 rfl ⟨_,_,rfl,rfl,k⟩⟩)))
    (fun hp _ k=>oH (qx (oi (OR u hu) hr (zp 3 rfl ⟨_,rfl,rfl,zt (zp 2 rfl (zU ⟨_,_,_,_,rfl,_,rfl,k⟩))⟩)))) ?_))
   refine xR (fun h=>?_) (fun h=>?_)
   ·refine wg (pd (OC u hu).1 (OC u hu).2 (zp 3 rfl ⟨_,_,rfl,oV _ _ _,?_⟩))
    have e1:ds.reverse.find? (vv x day)=some (.tuple [.str u,.int a,.int b,v]):=vV hno he h
    unfold yI at q
    rw[e1] at q
    exact q
   ·refine ym (ym ⟨⟨_,rfl⟩,fun j hj d' hd'=>?_⟩)
    rcases Nat.lt_or_ge j i with z|z
    ·exact hno j z d' hd'
    ·have:j=i:=by omega
     subst this
     rw[he] at hd';cases hd'
     exact h
  ·rintro α ⟨⟨v3,rfl⟩,hno⟩
   refine wg (ub CU (hr.mono (by decide)) (by rfl) (zt (zp 1 rfl (zU ⟨x,rfl,hx,?_⟩))))
   have e1:ds.reverse.find? (vv x day)=none:=jW fun j d hd=>hno j (by
    have:=(cR.mp hd).1
    rw[za5,cT]
    rwa [za5] at this) d hd
   unfold yI at q
   rw[e1] at q
   exact q
end
theorem vk (d:PyData):zv (.str "price") d=(isNone d||we d):=by unfold zv;rw[if_pos (by decide +kernel)]
theorem rW (d:PyData):zv (.str "come") d=isBool d:=by unfold zv;rw[if_neg (by decide +kernel),if_pos (by decide +kernel)]
theorem lO (d:PyData):zv (.str "go") d=isBool d:=by unfold zv;rw[if_neg (by decide +kernel),if_pos (by decide +kernel)]
theorem rB (d:PyData):zv (.str "least") d=zR 1 14 d:=by unfold zv;rw[if_neg (by decide +kernel),if_neg (by decide +kernel),if_pos (by decide +kernel)]
theorem qL (d:PyData):zv (.str "most") d=zR 1 14 d:=by unfold zv;rw[if_neg (by decide +kernel),if_neg (by decide +kernel),if_pos (by decide +kernel)]
theorem vS (d:PyData):zv (.str "deal") d=(isNone d||ue d):=by unfold zv;rw[if_neg (by decide +kernel),if_neg (by decide +kernel),if_neg (by decide +kernel),if_pos (by decide +kernel)]
theorem oZ (d:PyData):zv (.str "fee") d=we d:=by
 unfold zv
 rw[if_neg (by decide +kernel),if_neg (by decide +kernel),if_neg (by decide +kernel),if_neg (by decide +kernel),show eqS (.str "fee") "fee"=true by decide +kernel,aq]
theorem within_int {lo hi i:Int}(h1:lo≤i)(h2:i≤hi):zR lo hi (.int i)=true:=by
 show (decide (lo≤i)&&decide (i≤hi))=true
 rw[bY h1,bY h2]<;>rfl
def pA :List A→(A→Prop)→Prop:=fun as Q=>as=[.tape]∧∀z:Int,0≤z→z≤1000000000000→Q (.dat (.int z))
def rm :List A→(A→Prop)→Prop:=fun as Q=>∃wd,as=[.tape,.dat (.str wd)]∧wd∈words∧∀d,zv (.str wd) d=true→zL 5000 d→d.depth≤1→Q (.dat d)
theorem ia {m f:Int}(h0:2≤m)(h1:m≤14)(h2:1≤f)(h3:f<m):zv (.str "deal") (.tuple [.int m,.int f])=true∧zL 5000 (.tuple [.int m,.int f])∧(PyData.tuple [.int m,.int f]).depth≤1:=by
 have hbig:(1000001:Int)<big:=by decide
 have hneg:-big<(0:Int):=by decide
 refine⟨?_,zL.tuple (n:=2000) (zW.two (zL.int (by omega) (by omega)) (zL.int (by omega) (by omega)) (bz _) (bz _)) (by show 2*(2000+2)+3≤5000;decide),by simp[PyData.depth,PyData.depthAll]⟩
 rw[vS]
 show (false||(zR 2 14 (.int m)&&zR 1 (m-1) (.int f)))=true
 rw[within_int h0 h1,within_int h2 (by omega)]
 rfl
end K12
set_option compiler.extract_closed false
set_option hygiene false in
local macro_rules
 |`(tactic| exists $f,$a)=>`(tactic| first|refine $f 0 $a ?_|refine $f 1 $a ?_|refine $f 2 $a ?_|refine $f 3 $a ?_|refine $f 4 $a ?_|refine $f 5 $a ?_|refine $f 6 $a ?_|refine $f 7 $a ?_|refine $f 8 $a ?_|refine $f 9 $a ?_|refine $f 10 $a ?_|refine $f 11 $a ?_|refine $f 12 $a ?_|refine $f 13 $a ?_|refine $f 14 $a ?_|refine $f 15 $a ?_|refine $f 16 $a ?_|refine $f 17 $a ?_)
set_option hygiene false in
local macro_rules
 |`(tactic| and_intros)=>`(tactic| repeat (first
  |((with_reducible show EvD _ _ _ _);first
   |((with_reducible show EvD _ _ (.Name _ _) _);exists zp,rfl)
   |((with_reducible show EvD _ _ (.Constant _ _ _) _);first|with_reducible refine vX ?_|with_reducible refine xG ?_|with_reducible refine ev_bl ?_|with_reducible refine rZ ?_)
   |((with_reducible show EvD _ _ (.BinOp (.Constant (.int 10) _ _) .Pow (.Constant (.int 6) _ _) _) _);refine sC (r:=1000000) ⟨by decide,by decide,by decide⟩ (by decide) ?_)
   |((with_reducible show EvD _ _ (.BinOp (.Constant (.int 10) _ _) .Pow (.Constant (.int 12) _ _) _) _);refine sC (r:=1000000000000) ⟨by decide,by decide,by decide⟩ (by decide) ?_)
   |((with_reducible show EvD _ _ (.BinOp (.Constant (.int 10) _ _) .Pow (.Constant (.int 9) _ _) _) _);refine sC (r:=1000000000) ⟨by decide,by decide,by decide⟩ (by decide) ?_)
   |((with_reducible show EvD _ _ (.BinOp (.Constant (.int 10) _ _) .Pow (.Constant (.int 11) _ _) _) _);refine sC (r:=100000000000) ⟨by decide,by decide,by decide⟩ (by decide) ?_)
   |((with_reducible show EvD _ _ (.BinOp _ .Add (.List _ _) _) _);refine EvL.d (wj ?_))
   |((with_reducible show EvD _ _ (.BinOp (.List _ _) .Add _ _) _);refine EvL.d (wj ?_))
   |((with_reducible show EvD _ _ (.BinOp (.Subscript _ (.Slice _ _ none _) _) .Add _ _) _);refine EvL.d (wj ?_))
   |((with_reducible show EvD _ _ (.BinOp _ .Add (.Subscript _ (.Slice _ _ none _) _) _) _);refine EvL.d (wj ?_))
   |((with_reducible show EvD _ _ (.BinOp (.Call (.Attribute _ "rules" _) _ _ _) .Add _ _) _);refine EvL.d (wj ?_))
   |with_reducible refine fZ ?_
   |with_reducible refine ee ?_
   |with_reducible refine ev_mod ?_
   |with_reducible refine ev_fdiv ?_
   |with_reducible refine ev_mul ?_
   |with_reducible refine ev_shl ?_
   |with_reducible refine ff ?_
   |with_reducible refine ev_not ?_
   |with_reducible refine gJ ?_
   |((with_reducible show EvD _ _ (.Subscript _ (.Slice _ _ none _) _) _);refine EvL.d (iS ?_))
   |((with_reducible show EvD _ _ (.Subscript _ _ _) _);refine gH hr.one (fun _ _=>rfl) ?_)
   |((with_reducible show EvD _ _ (.List _ _) _);refine EvL.d (wO ?_))
   |((with_reducible show EvD _ _ (.Call (.Name "len" _) [.Call (.Name "set" _) _ _ _] _ _) _);refine ev_lenSet rfl (by rfl) nb.len (by rfl) (by assumption) ?_)
   |((with_reducible show EvD _ _ (.Call (.Name "len" _) _ _ _) _);refine tF (by rfl) nb.len ?_)
   |((with_reducible show EvD _ _ (.Call (.Name "min" _) [_,_] _ _) _);refine fO rfl (by rfl) nb.min ?_)
   |((with_reducible show EvD _ _ (.Call (.Name "max" _) [_,_] _ _) _);refine fx rfl (by rfl) nb.max ?_)
   |((with_reducible show EvD _ _ (.Call (.Name "list" _) _ _ _) _);refine EvL.d (pz (by rfl) nb.list ?_))
   |((with_reducible show EvD _ _ (.Call (.Name "repr" _) _ _ _) _);refine oB hr.gd hr.units (by rfl) nb.repr ?_)
   |((with_reducible show EvD _ _ (.Call (.Name "min" _) [_] _ _) _);refine ev_minI rfl hr.few (by rfl) nb.min ?_)
   |((with_reducible show EvD _ _ (.Call (.Name "isinstance" _) _ _ _) _);first|refine ev_isi (by rfl) nb.isinstance (by rfl) nb.int boot_int ?_|refine ev_isi (by rfl) nb.isinstance (by rfl) nb.bool boot_bool ?_|refine ev_isi (by rfl) nb.isinstance (by rfl) nb.str boot_str ?_|refine ev_isi (by rfl) nb.isinstance (by rfl) nb.list boot_list ?_|refine ev_isi (by rfl) nb.isinstance (by rfl) nb.tuple boot_tuple ?_)
   |((with_reducible show EvD _ _ (.Call (.Name "int" _) _ _ _) _);refine ev_intB (by rfl) nb.int ?_)
   |((with_reducible show EvD _ _ (.Call (.Name _ _) _ _ _) _);first|refine ir (by with_reducible assumption) (by exact⟨rfl,rfl,rfl,rfl,rfl⟩) (hr.mono (by decide)) (by rfl) ?_|refine EvN.d (jb (by with_reducible assumption) (by exact⟨rfl,rfl,rfl,rfl,rfl⟩) (hr.mono (by decide)) (by rfl) ?_))
   |((with_reducible show EvD _ _ (.Call (.Attribute _ _ _) (_::_) _ _) _);refine mO (by with_reducible assumption) (by exact⟨rfl,rfl,rfl,rfl,rfl⟩) (hr.mono (by decide)) ?_)
   |((with_reducible show EvD _ _ (.Call (.Attribute _ _ _) [] _ _) _);refine mn (by with_reducible assumption) (by exact⟨rfl,rfl,rfl,rfl,rfl⟩) (hr.mono (by decide)) ?_)
   |((with_reducible show EvD _ _ (.Compare _ [_] _ _) _);first|with_reducible refine ev_lt ?_|with_reducible refine ev_le ?_|with_reducible refine ev_gt ?_|with_reducible refine ev_ge ?_|with_reducible refine fq ?_|with_reducible refine ev_notN ?_|((with_reducible show EvD _ _ (.Compare _ [.Eq] _ _) _);refine gI hr.units ?_)|((with_reducible show EvD _ _ (.Compare _ [.NotEq] _ _) _);refine ev_nek hr.units ?_)|((with_reducible show EvD _ _ (.Compare _ [.In] _ _) _);refine ev_ink hr.one ?_)|((with_reducible show EvD _ _ (.Compare _ [.NotIn] _ _) _);refine ev_nink hr.one ?_)|((with_reducible show EvD _ _ (.Compare _ [.Is] [.Constant (.bool _) _ _] _) _);refine ev_isB ?_))
   |((with_reducible show EvD _ _ (.Compare _ [_,_] _ _) _);first|refine ev_lelt ?_|refine ev_ltle ?_|refine ev_lele' ?_)
   |((with_reducible show EvD _ _ (.BoolOp _ _ _) _);first|with_reducible refine ej ?_|with_reducible refine ev_or ?_|with_reducible refine gD ?_)
   |with_reducible refine sA ?_)
  |((with_reducible show EvA _ _ _ _);first
   |with_reducible refine zU ?_
   |((with_reducible show EvA _ _ (.Name "_law_tape_here" _::_) _);exists su,rfl)
   |refine zt ?_)
  |((with_reducible show EvT _ _ _ _);first
   |((with_reducible show EvT _ _ (.Compare _ [_] _ _) _);first|with_reducible refine et_lt ?_|with_reducible refine dg ?_|with_reducible refine og ?_|with_reducible refine et_ge ?_|with_reducible refine wZ ?_|with_reducible refine et_notN ?_|((with_reducible show EvT _ _ (.Compare _ [.Eq] _ _) _);refine gL hr.units ?_)|((with_reducible show EvT _ _ (.Compare _ [.NotEq] _ _) _);refine et hr.units ?_)|((with_reducible show EvT _ _ (.Compare _ [.In] _ _) _);refine et_ink hr.one ?_)|((with_reducible show EvT _ _ (.Compare _ [.NotIn] _ _) _);refine et_nink hr.one ?_)|((with_reducible show EvT _ _ (.Compare _ [.Is] [.Constant (.bool _) _ _] _) _);refine et_isB ?_)|((with_reducible show EvT _ _ (.Compare _ [.IsNot] [.Constant (.bool _) _ _] _) _);refine et_isntB ?_))
   |((with_reducible show EvT _ _ (.Compare _ [_,_] _ _) _);first|refine et_lelt ?_|refine et_ltle ?_|refine et_lele' ?_)
   |with_reducible refine lq ?_
   |((with_reducible show EvT _ _ (.BoolOp _ _ _) _);with_reducible refine EvW.t ?_)
   |refine et_truth ?_)
  |((with_reducible show EvL _ _ _ _);first
   |with_reducible refine wO ?_
   |((with_reducible show EvL _ _ (.Call (.Name "list" _) _ _ _) _);refine pz (by rfl) nb.list ?_)
   |((with_reducible show EvL _ _ (.Call (.Name _ _) _ _ _) _);refine el_calR (by with_reducible assumption) (by exact⟨rfl,rfl,rfl,rfl,rfl⟩) (hr.mono (by decide)) (by rfl) ?_)
   |((with_reducible show EvL _ _ (.Call (.Attribute _ _ _) [] _ _) _);refine el_meth0R (by with_reducible assumption) (by exact⟨rfl,rfl,rfl,rfl,rfl⟩) (hr.mono (by decide)) ?_)
   |((with_reducible show EvL _ _ (.Subscript _ (.Slice _ _ none _) _) _);refine iS ?_)
   |((with_reducible show EvL _ _ (.BinOp _ .Add _ _) _);refine wj ?_))
  |((with_reducible show EvW _ _ _ _);first
   |with_reducible refine lK ?_
   |with_reducible refine iY ?_
   |with_reducible refine oH ?_
   |with_reducible refine lQ ?_)
  |((with_reducible show EvO _ _ _ _);first
   |with_reducible refine il ?_
   |with_reducible refine jM ?_)
  |((with_reducible show lD _ _ _);first
   |refine ixk rfl rfl rfl ?_
   |refine ixk_0 ?_
   |refine ixk_1 ?_)
  |((with_reducible show InOk _ _ _ _);first
   |refine ink rfl rfl ?_
   |refine inkT rfl rfl ?_)
  |((with_reducible show oP _ _ _);first
   |with_reducible refine eqk_int ?_
   |with_reducible refine jO ?_
   |with_reducible refine eqk_bool ?_
   |refine eqk rfl rfl rfl rfl ?_)
  |((with_reducible show SvS _ _ _ _);first
   |((with_reducible show SvS _ (List.set _ _ _) _ _);dsimp only[List.set])
   |((with_reducible show SvS _ _ (zr _) _);show SvS _ _ (_::_) _)
   |((with_reducible show SvS _ _ (.Assign [.Name _ _] (.List [] _) _::_) _);exists xT,nd)
   |((with_reducible show SvS _ _ (.Assign [.Name _ _] _ _::_) _);exists wK,nd)
   |((with_reducible show SvS _ _ (.Expr (.Call (.Attribute _ "append" _) _ _ _) _::_) _);exists wR,rfl)
   |((with_reducible show SvS _ _ (.Return (some (.Name _ _)) _::_) _);exists pC,rfl)
   |with_reducible refine wg ?_
   |with_reducible refine sv_cont ?_
   |with_reducible refine sv_pass ?_
   |with_reducible refine wt ?_
   |with_reducible refine ym ?_
   |((with_reducible refine tu ?hk ?_);case hk=>first|rfl|decide +kernel)
   |((with_reducible refine xt ?hk ?_);case hk=>first|rfl|decide +kernel))
  |((with_reducible show xp _ _);refine⟨_,rfl,by first|decide|omega,by first|decide|(show _<big;unfold big;omega),fun _ _ _=>?_⟩)
  |((with_reducible refine pN ?hk ?_);case hk=>first|rfl|decide +kernel)
  |((with_reducible refine lj ?hk ?_);case hk=>first|rfl|decide +kernel)
  |refine⟨_,_,rfl,rfl,?_⟩
  |refine⟨_,_,_,rfl,rfl,rfl,?_⟩
  |refine⟨_,rfl,aB rfl,?_⟩
  |refine⟨_,rfl,rfl,?_⟩
  |refine⟨_,rfl,?_⟩))
namespace K12
open PySem PySem.Spec PyProof.Rows L2
abbrev sj :Stmt:=top 39
abbrev tT :Stmt:=top 40
section
variable {P:Program}{w:World}{K:PySem.W.Frag}{mg:Str→Option Value}{base:Heap}{cs:Cs}
theorem dn :zg ["_law_tape_here"] ["_law_tape_here"] (za sj):=⟨rfl,rfl,rfl,by decide +kernel,rfl,by decide +kernel,by decide +kernel⟩
theorem nJ {f:Addr}{fd:FuncData}(F:Fun K "_law_coins" "_law_coins" sj f fd)(hm:mg "_law_coins"=some (.ref f))(hb:Binds K fd ["_law_tape_here"] [])(CD:Cal P w K mg base "_law_draw" 1 xp):Cal P w K mg base "_law_coins" 2 pA:=by
 refine uw F hm hb dn (fun as Q h=>?_) (fun cdv A' outer s H E as Q hr h=>?_)
 ·obtain⟨rfl,_⟩:=h
  rfl
 ·obtain⟨rfl,q⟩:=h
  have nd:=dn.nd
  and_intros
  exact so rfl (by assumption) (by assumption) ⟨q _ (by omega) (by omega),q _ (by omega) (by omega),q _ (by omega) (by omega),q _ (by omega) (by omega),q _ (by omega) (by omega),trivial⟩
theorem dG :zg ["_law_tape_here","_law_word","_law_many"] ["_law_tape_here","_law_word"] (za tT):=⟨rfl,rfl,rfl,by decide +kernel,rfl,by decide +kernel,by decide +kernel⟩
set_option maxHeartbeats 4000000 in
theorem nE {f:Addr}{fd:FuncData}(F:Fun K "_law_worth" "_law_worth" tT f fd)(hm:mg "_law_worth"=some (.ref f))(hb:Binds K fd ["_law_tape_here","_law_word"] [])(CD:Cal P w K mg base "_law_draw" 1 xp)(CC:Cal P w K mg base "_law_coins" 2 pA):Cal P w K mg base "_law_worth" 3 rm:=by
 refine uw F hm hb dG (fun as Q h=>?_) (fun cdv A' outer s H E as Q hr h=>?_)
 ·obtain⟨wd,rfl,_⟩:=h
  rfl
 ·obtain⟨wd,rfl,hw,q⟩:=h
  have nd:=dG.nd
  have qc:∀z:Int,0≤z→z≤1000000000000→we (.int z)=true:=fun z h0 h1=>within_int h0 h1
  have hbig:(1000000000001:Int)<big:=by decide
  have hneg:-big<(0:Int):=by decide
  have nc:∀z:Int,0≤z→z≤1000000000000→zL 5000 (.int z):=fun z h0 h1=>(zL.int (by omega) (by omega)).mono (by decide)
  have qn:zv (.str wd) .none=true→Q (.dat .none):=fun h=>q _ h (zL.none.mono (by decide)) (bz _)
  have qi:∀z:Int,0≤z→z≤1000000000000→zv (.str wd) (.int z)=true→Q (.dat (.int z)):=fun z a b h=>q _ h (nc z a b) (bz _)
  have qd:∀m f:Int,wd="deal"→2≤m→m≤14→1≤f→f<m→Q (.dat (.tuple [.int m,.int f])):=fun m f e a b c d=>by
   subst e
   obtain⟨x,y,z⟩:=ia a b c d
   exact q _ x y z
  have qp:∀z:Int,0≤z→z≤1000000000000→wd="price"→Q (.dat (.int z)):=fun z a b e=>by
   subst e
   exact qi z a b (by rw[vk,qc z a b,Bool.or_true])
  simp only[words,cY,bq,af] at hw
  rcases hw with rfl|rfl|rfl|rfl|rfl|rfl|rfl
  ·and_intros
   refine⟨rfl,fun z1 a1 b1=>?_⟩
   and_intros
   refine⟨rfl,fun z2 a2 b2=>?_⟩
   and_intros
   exact so rfl (by assumption) (by assumption) ⟨qn (by rw[vk]<;>rfl),qp z1 a1 b1 rfl,qp z2 a2 b2 rfl,trivial⟩
  ·and_intros
   exact q _ (by rw[rW]<;>rfl) ((zL.bool _).mono (by decide)) (bz _)
  ·and_intros
   exact q _ (by rw[lO]<;>rfl) ((zL.bool _).mono (by decide)) (bz _)
  ·and_intros
   exact qi _ (by omega) (by omega) (by rw[rB];exact within_int (by omega) (by omega))
  ·and_intros
   exact qi _ (by omega) (by omega) (by rw[qL];exact within_int (by omega) (by omega))
  ·and_intros
   exact so rfl (by assumption) (by assumption) ⟨qn (by rw[vS]<;>rfl),qd _ _ rfl (by omega) (by omega) (by omega) (by omega),qd _ _ rfl (by omega) (by omega) (by omega) (by omega),qd _ _ rfl (by omega) (by omega) (by omega) (by omega),trivial⟩
  ·and_intros
   refine⟨rfl,fun z1 a1 b1=>?_⟩
   exact qi z1 a1 b1 (by rw[oZ];exact qc z1 a1 b1)
end
structure vR (d:PyData):Prop where
 rule:yT d=true
 nice:zL 20011 d
 dep:d.depth≤2
 wn:zL 5000 (pI d)
def zx (ds:List PyData):Prop:=∀d∈ds,vR d
theorem mf {s:Str}(h:s∈words):zL 2000 (.str s):=by
 simp only[words,cY,bq,af] at h
 rcases h with rfl|rfl|rfl|rfl|rfl|rfl|rfl<;>exact⟨rfl,rfl,bz _,by decide +kernel,by decide +kernel⟩
theorem vR.of {s:Str}{i j:Int}{d:PyData}(hs:s∈words)(i0:0≤i)(ij:i≤j)(j1:j≤1000000)(hw:zv (.str s) d=true)(hn:zL 5000 d)(hd:d.depth≤1):vR (.tuple [.str s,.int i,.int j,d]):=by
 have hbig:(1000001:Int)<big:=by decide
 have hneg:-big<(0:Int):=by decide
 have na:zW 5000 [.str s,.int i,.int j,d]:=by
  constructor
  ·intro x hx
   simp only[cY,bq,af] at hx
   rcases hx with rfl|rfl|rfl|rfl
   ·exact (mf hs).mono (by decide)
   ·exact (zL.int (by omega) (by omega)).mono (by decide)
   ·exact (zL.int (by omega) (by omega)).mono (by decide)
   ·exact hn
  ·intro x hx
   simp only[cY,bq,af] at hx
   rcases hx with rfl|rfl|rfl|rfl
   ·exact bz _
   ·exact bz _
   ·exact bz _
   ·omega
 refine⟨?_,zL.tuple na (by show 4*(5000+2)+3≤20011;decide),?_,hn⟩
 ·show (zV (.tuple [.int i,.int j])&&zv (.str s) d)=true
  rw[hw,Bool.and_true]
  unfold zV ux
  have h1:(wH (.int i)&&wH (.int j))=true:=by
   show ((decide (0≤i)&&decide (i≤1000000))&&(decide (0≤j)&&decide (j≤1000000)))=true
   simp only[bu,bZ]
   omega
  simp only[h1,if_true,bZ]
  omega
 ·simp only[PyData.depth,PyData.depthAll]
  omega
theorem zx.rules {ds:List PyData}(h:zx ds):Rules ds:=fun d hd=>⟨(h d hd).rule,(h d hd).nice.shaped,(h d hd).nice.nod⟩
theorem zx.nice {ds:List PyData}(h:zx ds)(hl:ds.length≤100):zL sizeLine (.list ds):=by
 refine zL.list (n:=20011) ⟨fun d hd=>(h d hd).nice,fun d hd=>by have:=(h d hd).dep;omega⟩ ?_
 have h2:ds.length*(20011+2)≤100*(20011+2):=Nat.mul_le_mul_right _ hl
 have h3:100*(20011+2)+2≤sizeLine:=by decide
 omega
theorem tX {ds:List PyData}{lo hi:Option Int}{d:PyData}(h:d∈L2.cutD ds lo hi):d∈ds:=by
 unfold L2.cutD at h
 exact List.mem_of_mem_drop (List.mem_of_mem_take h)
theorem tE {ds:List PyData}{lo hi:Option Int}:(L2.cutD ds lo hi).length≤ds.length:=by
 unfold L2.cutD
 rw[aS,List.length_drop]
 omega
abbrev rM :Stmt:=top 35
theorem zx.app {ds es:List PyData}(h:zx ds)(h':zx es):zx (ds++es):=fun d hd=>(ai.mp hd).elim (h d) (h' d)
def qG (C:Addr)(cs:Cs):List A→(A→Prop)→Prop:=fun as Q=>∃ds es,as=[.dat (zP C cs ds),.dat (zP C cs es)]∧zx ds∧zx es∧ds.length+es.length≤24∧Q (.dat (zP C cs (ds++es)))
section
variable {P:Program}{w:World}{K:PySem.W.Frag}{mg:Str→Option Value}{base:Heap}{cs:Cs}
theorem eY :zg ["elder","newer"] ["elder","newer"] (za rM):=⟨rfl,rfl,rfl,by decide +kernel,rfl,by decide +kernel,by decide +kernel⟩
set_option maxHeartbeats 4000000 in
theorem mK {f C:Addr}{fd:FuncData}(F:Fun K "laid" "laid" rM f fd)(hm:mg "laid"=some (.ref f))(hb:Binds K fd ["elder","newer"] [])(CK:sH P w K mg base "Book" 9 [] (wU C cs))(MR:yU P w K mg base C "rules" 3 (wz C cs)):Cal P w K mg base "laid" 11 (qG C cs):=by
 refine uw F hm hb eY (fun as Q h=>?_) (fun cdv A' outer s H E as Q hr h=>?_)
 ·obtain⟨ds,es,rfl,_⟩:=h
  rfl
 ·obtain⟨ds,es,rfl,rd,re,hl,q⟩:=h
  have nd:=eY.nd
  and_intros
  refine⟨rd.rules,by omega,?_⟩
  and_intros
  refine⟨re.rules,by omega,ds,es,rfl,rfl,by omega,?_⟩
  and_intros
  exact⟨ds++es,.inl rfl,(rd.app re).rules,by rw[cW];exact hl,q⟩
end
def oG (CT:Addr):List A→(A→Prop)→(PyData→Prop)→Prop:=fun as _ q=>∃ds,as=[.dat (.list ds)]∧Rules ds∧24<ds.length∧ds.length≤900∧q (xD0 CT)
def pD (CT:Addr):List A→(PyData→Prop)→Prop:=fun as q=>∃ds,as=[.dat (.list ds)]∧Rules ds∧24<ds.length∧ds.length≤900∧q (xD0 CT)
section
variable {P:Program}{w:World}{K:PySem.W.Frag}{mg:Str→Option Value}{base:Heap}{cs:Cs}
theorem hZ :zg ((["things","kept","number","thing","rule"]:List Str)++[("":Str)]) ["things"] (za sY):=⟨rfl,rfl,rfl,by decide +kernel,rfl,by decide +kernel,by decide +kernel⟩
set_option maxHeartbeats 4000000 in
theorem nL {f CT:Addr}{fd:FuncData}(F:Fun K "kept_rules" "kept_rules" sY f fd)(hm:mg "kept_rules"=some (.ref f))(hb:Binds K fd ["things"] [])(nb:NbT mg)(gM:∃t,mg "MOST_RULES"=some (.int 24 t))(CRO:Cal P w K mg base "rule_of" 7 (wB cs))(XT:fz K mg "TooMany" CT):qj P w K mg base "kept_rules" 8 (oG CT):=by
 refine dJ F hm hb hZ (by decide) (fun as Q q h=>?_) (fun cdv A' outer s H E as Q q r xe hr h xo=>?_)
 ·obtain⟨ds,rfl,_⟩:=h
  rfl
 ·obtain⟨ds,rfl,rd,hl,hu,qz⟩:=h
  have nd:=hZ.nd
  refine xT 1 nd (wO (zU (⟨_,rfl,aB rfl,?_⟩)))
  refine tq (pat:=.many [2,3]) xo.own rfl (xJ (n:=2) (K:=K) rfl rfl (yG (zY (i:=2) nd rfl (Or.inl rfl)) (yG (zY (i:=3) nd rfl (Or.inl rfl)) (wq)))) (oj (by rfl) nb.enumerate (zp 0 rfl (⟨_,rfl,?_⟩)))
  refine yS (fun i α=>∃v2 v3 v4,α=[some (.dat (.list ds)),some (.own ((ds.take i).map (xE cs))),v2,v3,v4,some (.exc r fun _=>True)]∧noE [v2,v3,v4]=true) ⟨none,none,none,rfl,rfl⟩ ?_ ?_
  ·rintro i d α hd ⟨v2,v3,v4,rfl,ne⟩
   obtain⟨e,he,rfl⟩:=xW hd
   obtain⟨r1,r2,r3⟩:=rd e (bV he)
   have hi:i<ds.length:=(cR.mp he).1
   refine⟨_,rfl,?_⟩
   refine wK 4 nd (ub CRO hr (by rfl) (zt (zp 3 rfl (zU (⟨_,rfl,r3,r2,fun z=>(by rw[r1] at z;cases z),fun _=>?_⟩)))))
   refine wt (wZ (zp 4 rfl ?_))
   obtain⟨s',a,b,v,hs,rfl,ei⟩:=xi (cs:=cs) r1
   refine xR (fun h=>by rw[show (A.dat (xE cs (.tuple [.str s',a,b,v]))).d=vm (cs.of s') a b v from rfl] at h;cases h) (fun _=>ym ?_)
   refine wR 1 rfl (zp 4 rfl ⟨by rw[cT,aS];omega,?_⟩)
   refine ym ⟨some (.dat (.int ((0+i:Nat):Int))),some (.dat (.tuple [.str s',a,b,v])),some (.dat (xE cs (.tuple [.str s',a,b,v]))),?_,rfl⟩
   rw[List.take_add_one,he,za7]
   rfl
  ·rintro α ⟨v2,v3,v4,rfl,ne⟩
   rw[xV,List.take_length]
   refine wt (pM 1 rfl (og (tF (by rfl) nb.len (zp 1 rfl ⟨_,rfl,vP (by rfl) gM ⟨_,_,rfl,rfl,?_⟩⟩))))
   refine lF (fun h=>?_) (fun h=>?_)
   ·exact nS (j:=5) xo rfl XT (by rfl) rfl (leX.nil rfl) (jt (by decide +kernel) (by decide +kernel) (vP (by rfl) gM ⟨24,rfl,by decide,fun _=>qz⟩))
   ·rw[cT] at h
    omega
theorem dH :zg ((["self","rules"]:List Str)++[("":Str)]) ["self","rules"] (za yk):=⟨rfl,rfl,rfl,by decide +kernel,rfl,by decide +kernel,by decide +kernel⟩
theorem qw {f C CT:Addr}{dV:Value}{fd:FuncData}(F:qf K "__init__" "Book.__init__" yk dV f fd)(hm:mg "Book"=some (.ref C))(mk:Mk K C f)(hb:Binds K fd ["self","rules"] [])(CKe:qj P w K mg base "kept_rules" 8 (oG CT)):lL P w K mg base "Book" 9 (pD CT):=by
 refine⟨C,f,fd,_,hm,mk,hb,cG F dH (by decide) (fun as Q q h=>?_) (fun cdv A' outer s H E as Q q r xe hr h xo=>?_)⟩
 ·obtain⟨as',rfl,ds,rfl,_⟩:=h
  rfl
 ·obtain⟨as',rfl,ds,rfl,rd,hl,hu,qz⟩:=h
  refine iC 0 (EvL.d (ip (j:=2) xo rfl (leX.nil rfl) CKe hr (by rfl) (zt (sA (wZ (zp 1 rfl (vn (zp 1 rfl (zU ⟨ds,rfl,rd,hl,hu,qz⟩)))))))))
theorem iV :zg ((["elder","newer"]:List Str)++[("":Str)]) ["elder","newer"] (za rM):=⟨rfl,rfl,rfl,by decide +kernel,rfl,by decide +kernel,by decide +kernel⟩
def pY (C:Addr)(cs:Cs)(CT:Addr):List A→(A→Prop)→(PyData→Prop)→Prop:=fun as _ q=>∃ds es,as=[.dat (zP C cs ds),.dat (zP C cs es)]∧zx ds∧zx es∧ds.length≤24∧es.length≤24∧24<ds.length+es.length∧q (xD0 CT)
set_option maxHeartbeats 4000000 in
theorem oU {f C CT:Addr}{fd:FuncData}(F:Fun K "laid" "laid" rM f fd)(hm:mg "laid"=some (.ref f))(hb:Binds K fd ["elder","newer"] [])(CK:lL P w K mg base "Book" 9 (pD CT))(MR:yU P w K mg base C "rules" 3 (wz C cs)):qj P w K mg base "laid" 11 (pY C cs CT):=by
 refine dJ F hm hb iV (by decide) (fun as Q q h=>?_) (fun cdv A' outer s H E as Q q r xe hr h xo=>?_)
 ·obtain⟨ds,es,rfl,_⟩:=h
  rfl
 ·obtain⟨ds,es,rfl,rd,re,hl1,hl2,hl,qz⟩:=h
  have nd:=iV.nd
  refine wg (lC (j:=2) xo rfl (leX.nil rfl) CK hr (by rfl) (zt ?_))
  and_intros
  refine⟨rd.rules,by omega,?_⟩
  and_intros
  refine⟨re.rules,by omega,ds,es,rfl,rfl,by omega,?_⟩
  and_intros
  exact⟨(rd.app re).rules,by rw[cW];exact hl,by rw[cW];omega,qz⟩
end
abbrev qN :Stmt:=top 41
abbrev qr :Stmt:=top 42
abbrev kF :Stmt:=top 43
def ur :List A→(A→Prop)→Prop:=fun as Q=>∃bs:Int,as=[.tape,.dat (.int bs)]∧0≤bs∧bs≤999960∧∀d,vR d→Q (.dat d)
def oA :List A→(A→Prop)→Prop:=fun as Q=>as=[.tape]∧∀b:Int,0≤b→b≤999960→Q (.dat (.int b))
def ju :List A→(A→Prop)→Prop:=fun as Q=>∃bs:Int,as=[.tape,.dat (.int bs)]∧0≤bs∧bs≤999960∧∀ds,zx ds→ds.length≤16→Q (.own ds)
section
variable {P:Program}{w:World}{K:PySem.W.Frag}{mg:Str→Option Value}{base:Heap}{cs:Cs}
theorem eM :zg ["_law_tape_here","_law_base_here","_law_word","_law_first","_law_last"] ["_law_tape_here","_law_base_here"] (za qN):=⟨rfl,rfl,rfl,by decide +kernel,rfl,by decide +kernel,by decide +kernel⟩
theorem qg {f:Addr}{fd:FuncData}(F:Fun K "_law_rule" "_law_rule" qN f fd)(hm:mg "_law_rule"=some (.ref f))(hb:Binds K fd ["_law_tape_here","_law_base_here"] [])(CD:Cal P w K mg base "_law_draw" 1 xp)(CW:Cal P w K mg base "_law_worth" 3 rm):Cal P w K mg base "_law_rule" 4 ur:=by
 refine uw F hm hb eM (fun as Q h=>?_) (fun cdv A' outer s H E as Q hr h=>?_)
 ·obtain⟨bs,rfl,_⟩:=h
  rfl
 ·obtain⟨bs,rfl,b0,b1,q⟩:=h
  have nd:=eM.nd
  and_intros
  refine pW (fun d=>∃s:Str,d=.str s∧s∈words) rfl (by assumption) (by assumption) ⟨⟨_,rfl,by simp[words]⟩,⟨_,rfl,by simp[words]⟩,⟨_,rfl,by simp[words]⟩,⟨_,rfl,by simp[words]⟩,⟨_,rfl,by simp[words]⟩,⟨_,rfl,by simp[words]⟩,⟨_,rfl,by simp[words]⟩,trivial⟩ ?_
  rintro _ ⟨wd,rfl,hw⟩
  and_intros
  rename_i v1 a1 c1 v2 a2 c2 v3 a3 c3 v4 a4 c4
  refine pW (fun d=>∃z:Int,d=.int z∧0≤z∧z≤15) rfl (by assumption) (by assumption) ⟨⟨_,rfl,by omega,by omega⟩,⟨_,rfl,by omega,by omega⟩,⟨_,rfl,by omega,by omega⟩,⟨_,rfl,by omega,by omega⟩,trivial⟩ ?_
  rintro _ ⟨z,rfl,z0,z1⟩
  refine⟨_,_,rfl,rfl,?_⟩
  refine vd (fun α=>∃i j:Int,α=[some .tape,some (.dat (.int bs)),some (.dat (.str wd)),some (.dat (.int i)),some (.dat (.int j))]∧0≤i∧i≤j∧j≤1000000) ?_ ?_
  ·and_intros
   refine xR (fun _=>?_) (fun _=>?_)
   ·and_intros
    exact⟨_,_,rfl,by omega,by omega,by omega⟩
   ·and_intros
    exact⟨_,_,rfl,by omega,by omega,by omega⟩
  rintro α ⟨i,j,rfl,i0,ij,j1⟩
  refine vd (fun α=>∃i j:Int,α=[some .tape,some (.dat (.int bs)),some (.dat (.str wd)),some (.dat (.int i)),some (.dat (.int j))]∧0≤i∧i≤j∧j≤1000000) ?_ ?_
  ·and_intros
   refine xR (fun _=>?_) (fun _=>?_)
   ·and_intros
    refine⟨_,_,rfl,by omega,?_,?_⟩
    ·show i≤(1000000:Int)
     omega
    ·exact Int.le_refl _
   ·and_intros
    exact⟨_,_,rfl,by omega,by omega,by omega⟩
  rintro α ⟨i,j,rfl,i0,ij,j1⟩
  and_intros
  refine⟨hw,fun v wv nv dv=>?_⟩
  and_intros
  exact q _ (vR.of hw i0 ij j1 wv nv dv)
theorem hV :zg ["_law_tape_here"] ["_law_tape_here"] (za qr):=⟨rfl,rfl,rfl,by decide +kernel,rfl,by decide +kernel,by decide +kernel⟩
theorem nX {f:Addr}{fd:FuncData}(F:Fun K "_law_base" "_law_base" qr f fd)(hm:mg "_law_base"=some (.ref f))(hb:Binds K fd ["_law_tape_here"] [])(CD:Cal P w K mg base "_law_draw" 1 xp):Cal P w K mg base "_law_base" 2 oA:=by
 refine uw F hm hb hV (fun as Q h=>?_) (fun cdv A' outer s H E as Q hr h=>?_)
 ·obtain⟨rfl,_⟩:=h
  rfl
 ·obtain⟨rfl,q⟩:=h
  have nd:=hV.nd
  and_intros
  rename_i v1 a1 c1 v2 a2 c2
  refine pW (fun d=>∃z:Int,d=.int z∧0≤z∧z≤999960) rfl (by assumption) (by assumption) ⟨⟨_,rfl,by omega,by omega⟩,⟨_,rfl,by omega,by omega⟩,⟨_,rfl,by omega,by omega⟩,trivial⟩ ?_
  rintro _ ⟨z,rfl,z0,z1⟩
  and_intros
  exact q z z0 z1
theorem iW :zg ["_law_tape_here","_law_base_here"] ["_law_tape_here","_law_base_here"] (za kF):=⟨rfl,rfl,rfl,by decide +kernel,rfl,by decide +kernel,by decide +kernel⟩
theorem kH {f:Addr}{fd:FuncData}(F:Fun K "_law_row" "_law_row" kF f fd)(hm:mg "_law_row"=some (.ref f))(hb:Binds K fd ["_law_tape_here","_law_base_here"] [])(nb:NbT mg)(CD:Cal P w K mg base "_law_draw" 1 xp)(CR:Cal P w K mg base "_law_rule" 4 ur):Cal P w K mg base "_law_row" 5 ju:=by
 refine uw F hm hb iW (fun as Q h=>?_) (fun cdv A' outer s H E as Q hr h=>?_)
 ·obtain⟨bs,rfl,_⟩:=h
  rfl
 ·obtain⟨bs,rfl,b0,b1,q⟩:=h
  have nd:=iW.nd
  refine ou (ky ["_law_k","_law_base_here","_law_tape_here"] [none,some 1,some 0] (.one 0) (uB (by rfl) nb.range ?_))
  and_intros
  rename_i v1 a1 c1 v2 a2 c2 v3 a3 c3
  refine pW (fun d=>∃z:Int,d=.int z∧0≤z∧z≤16) rfl (by assumption) (by assumption) ⟨⟨_,rfl,by omega,by omega⟩,⟨_,rfl,by omega,by omega⟩,⟨_,rfl,by omega,by omega⟩,trivial⟩ ?_
  rintro _ ⟨z,rfl,z0,z1⟩
  refine⟨_,rfl,by omega,by omega,?_⟩
  refine⟨by rw[cT,yb];omega,?_⟩
  refine vc (fun i acc=>zx acc∧acc.length≤i) ⟨fun d hd=>by simp at hd,cU _⟩ (fun i d acc hd ⟨ra,la⟩=>⟨_,rfl,fun C s2 H2 fp=>?_⟩) (fun acc h=>?_)
  ·refine qK ?_
   rw[if_pos rfl]
   intro C s2 H2 fp
   and_intros
   refine⟨b0,b1,fun d rd=>⟨fun e he=>?_,by rw[cW];exact Nat.add_le_add_right la 1⟩⟩
   rcases ai.mp he with he|he
   ·exact ra e he
   ·rw[aA.mp he];exact rd
  ·rw[cT,yb] at h
   exact q acc h.1 (by have:=h.2;omega)
end
abbrev qB :Stmt:=top 44
abbrev jm :Stmt:=top 45
def Kit (K:PySem.W.Frag)(mg:Str→Option Value)(C:Addr)(x:Str)(b:Bool):Prop:=∃B,mg x=some (.ref B)∧PySem.W.kitOne K (.ref C) (.ref B)=some b
structure XT (K:PySem.W.Frag)(mg:Str→Option Value)(CT S:Addr):Prop where
 m:mg "TooMany"=some (.ref CT)
 b:XB K CT CT
 xc:∃init,XC K CT S init
 k:Kit K mg CT "NoRule" false
def vQ (C:Addr)(cs:Cs)(ds es:List PyData):PyData:=if ds.length+es.length≤24 then zP C cs (ds++es) else .none
def oK (C:Addr)(cs:Cs):List A→(A→Prop)→Prop:=fun as Q=>∃ds es,as=[.dat (zP C cs ds),.dat (zP C cs es)]∧zx ds∧zx es∧ds.length≤24∧es.length≤24∧Q (.dat (vQ C cs ds es))
theorem oW (ds es:List PyData)(x:Str)(day:Int):yI (ds++es) x day=if es.any (vv x day)=true then yI es x day else yI ds x day:=by
 unfold yI
 rw[List.reverse_append,List.find?_append]
 cases h:es.reverse.find? (vv x day) with
 |some d=>
  have:es.any (vv x day)=true:=zb6.mpr ⟨d,zb5.mp (List.mem_of_find?_eq_some h),List.find?_some h⟩
  rw[if_pos this]
  rfl
 |none=>
  have:¬es.any (vv x day)=true:=fun z=>by
   obtain⟨d,hd,hh⟩:=zb6.mp z
   have:=List.find?_eq_none.mp h d (zb5.mpr hd)
   exact this hh
  rw[if_neg this]
  rfl
def ji (C:Addr)(cs:Cs):List A→(A→Prop)→Prop:=fun as Q=>∃(ds es:List PyData) (x:Str) (day:Int),as=[.dat (zP C cs ds),.dat (zP C cs es),.dat (.list es),.dat (.str x),.dat (.int day)]∧zx ds∧zx es∧es.length≤24∧x∈words∧Q (.dat (yI (ds++es) x day))
section
variable {P:Program}{w:World}{K:PySem.W.Frag}{mg:Str→Option Value}{base:Heap}{cs:Cs}
theorem eH :zg ((["_law_elder","_law_newer","_law_found","e"]:List Str)++[("":Str)]) ["_law_elder","_law_newer"] (za qB):=⟨rfl,rfl,rfl,by decide +kernel,rfl,by decide +kernel,by decide +kernel⟩
set_option maxHeartbeats 4000000 in
theorem nA {f C CT S:Addr}{fd:FuncData}(F:Fun K "_law_laid" "_law_laid" qB f fd)(hm:mg "_law_laid"=some (.ref f))(hb:Binds K fd ["_law_elder","_law_newer"] [])(nb:NbT mg)(xf:XT K mg CT S)(CL:Cal P w K mg base "laid" 11 (qG C cs))(CU:qj P w K mg base "laid" 11 (pY C cs CT)):Cal P w K mg base "_law_laid" 12 (oK C cs):=by
 refine uw F hm hb eH (fun as Q h=>?_) (fun cdv A' outer s H E as Q hr h=>?_)
 ·obtain⟨ds,es,rfl,_⟩:=h
  rfl
 ·obtain⟨ds,es,rfl,rd,re,l1,l2,q⟩:=h
  have nd:=eH.nd
  obtain⟨init,xc⟩:=xf.xc
  refine wK 2 nd (rZ ?_)
  have lx:leX [some (.dat (zP C cs ds)),some (.dat (zP C cs es)),some (.dat .none),none,none] [some (.dat (zP C cs ds)),some (.dat (zP C cs es)),some (.dat .none),none,none]:=leX.cons (.inr ⟨rfl,fun a e=>by cases e;trivial⟩) (leX.cons (.inr ⟨rfl,fun a e=>by cases e;trivial⟩) (leX.cons (.inr ⟨rfl,fun a e=>by cases e;trivial⟩) (leX.cons (.inl rfl) (leX.cons (.inl rfl) leX.nil'))))
  unfold vQ at q
  by_cases hh:ds.length+es.length≤24
  ·rw[if_pos hh] at q
   refine sS 3 4 [some (.dat (zP C cs ds)),some (.dat (zP C cs es)),some (.dat .none),none,none] (fun _=>False) rfl rfl nd rfl lx (by rfl) xf.m (fun _ z=>z.elim) (fun pins xe r xo=>?_) (fun pins a d S z=>z.elim)
   refine wK 2 nd (ub CL hr (by rfl) (zt (zp 0 rfl (zt (zp 1 rfl (zU ⟨ds,es,rfl,rd,re,hh,ym ?_⟩))))))
   exact wg (zp 2 rfl q)
  ·rw[if_neg hh] at q
   refine sS 3 4 [some (.dat (zP C cs ds)),some (.dat (zP C cs es)),some (.dat .none),none,none] (fun d=>d=xD0 CT) rfl rfl nd rfl lx (by rfl) xf.m (fun d e=>⟨CT,.inr e,xf.b⟩) (fun pins xe r xo=>?_) (fun pins a d S e=>?_)
   ·exact wK 2 nd (ix (j:=4) xo rfl (leX.cons (.inr ⟨rfl,fun a e=>by cases e;trivial⟩) (leX.cons (.inr ⟨rfl,fun a e=>by cases e;trivial⟩) (leX.cons (.inr ⟨rfl,fun a e=>by cases e;trivial⟩) (leX.cons (.inl rfl) (leX.cons (.inl rfl) leX.nil'))))) CU hr (by rfl) (zt (zp 0 rfl (zt (zp 1 rfl (zU ⟨ds,es,rfl,rd,re,l1,l2,by omega,rfl⟩))))))
   ·subst e
    obtain⟨B1,m1,e1⟩:=xf.k
    refine wt (kA 3 rfl (qx (jY (by rfl) nb.isinstance (by rfl) m1 (zp 3 rfl ⟨CT,_,init,false,.inr rfl,xc,e1,⟨_,rfl,?_⟩⟩))))
    refine xt rfl (ym (ym ?_))
    exact wg (zp 2 rfl q)
theorem eV :zg ["_law_elder","_law_newer","_law_others","_law_word","_law_day"] ["_law_elder","_law_newer","_law_others","_law_word","_law_day"] (za jm):=⟨rfl,rfl,rfl,by decide +kernel,rfl,by decide +kernel,by decide +kernel⟩
set_option maxHeartbeats 4000000 in
theorem jq {f C:Addr}{fd:FuncData}(F:Fun K "_law_due" "_law_due" jm f fd)(hm:mg "_law_due"=some (.ref f))(hb:Binds K fd ["_law_elder","_law_newer","_law_others","_law_word","_law_day"] [])(nb:NbT mg)(MT:yU P w K mg base C "tells_of" 2 (vz C cs)):Cal P w K mg base "_law_due" 3 (ji C cs):=by
 refine uw F hm hb eV (fun as Q h=>?_) (fun cdv A' outer s H E as Q hr h=>?_)
 ·obtain⟨ds,es,x,day,rfl,_⟩:=h
  rfl
 ·obtain⟨ds,es,x,day,rfl,rd,re,le,hx,q⟩:=h
  have nd:=eV.nd
  rw[oW] at q
  refine wt (og (tF (by rfl) nb.len (EvL.d (ky ["_law_rule_here","_law_word","_law_day"] [none,some 3,some 4] (.one 0) (wG (zp 2 rfl ⟨_,rfl,by omega,?_⟩))))))
  refine qT (vv x day) (fun _=>.int 1) (fun d hd=>?_) ?_
  ·obtain⟨u,i,j,v,hu,rfl,_,_,_,_⟩:=xZ (re d hd).rule
   refine⟨_,rfl,fun C s2 H2 fp Q k=>fk ?_,fun _ C s2 H2 fp Q k=>vX k⟩
   have k:Q (decide (u=x)&&(decide (i≤day)&&decide (day≤j))):=k
   and_intros
   refine iP (fun h1=>?_) (fun h1=>?_)
   ·and_intros
    refine iP (fun h2=>?_) (fun h2=>?_)
    ·and_intros
     rw[h1,h2] at k
     exact k
    ·rw[h1,h2] at k
     exact k
   ·rw[h1] at k
    exact k
  rw[List.nil_append]
  refine⟨_,rfl,vX ⟨_,_,rfl,rfl,?_⟩⟩
  by_cases ha:es.any (vv x day)=true
  ·rw[if_pos ha] at q
   obtain⟨d,hd,hh⟩:=zb6.mp ha
   have hp:0<(es.filter (vv x day)).length:=List.length_pos_of_mem (List.mem_filter.mpr ⟨hd,hh⟩)
   refine tu (bY (by rw[cT];omega)) ?_
   and_intros
   exact⟨es,x,day,rfl,re.rules,hx,q⟩
  ·rw[if_neg ha] at q
   have hp:(es.filter (vv x day)).length=0:=by
    rw[List.length_eq_zero_iff,List.filter_eq_nil_iff]
    intro d hd hh
    exact ha (zb6.mpr ⟨d,hd,hh⟩)
   refine xt (bL (by rw[cT];omega)) ?_
   and_intros
   exact⟨ds,x,day,rfl,rd.rules,hx,q⟩
end
abbrev sy :Stmt:=top 46
abbrev NmL :List Str:=["_law_script","_law_tape_here","_law_base_here","_law_ones","_law_others","_law_elder","_law_newer","_law_found","_law_days","_law_rule_here","_law_day","_law_word"]
theorem di :zg NmL ["_law_script"] (za sy):=⟨rfl,rfl,rfl,by decide +kernel,rfl,by decide +kernel,by decide +kernel⟩
theorem vF {ds:List PyData}(h:zx ds)(x:Str)(day:Int)(hx:x∈words):zL sizeLine (yI ds x day):=by
 have:zL 5000 (yI ds x day):=by
  unfold yI
  split
  ·rename_i d e
   exact (h d (zb5.mp (List.mem_of_find?_eq_some e))).wn
  ·exact kb x
 exact this.mono (by decide)
abbrev stL (C:Addr)(cs:Cs)(b:Int)(ds es:List PyData)(o7 o8 o9 o10 o11:Option A):Ev:=[none,some .tape,some (.dat (.int b)),some (.dat (.list ds)),some (.dat (.list es)),some (.dat (zP C cs ds)),some (.dat (zP C cs es)),o7,o8,o9,o10,o11]
section
variable {P:Program}{w:World}{K:PySem.W.Frag}{mg:Str→Option Value}{base:Heap}{cs:Cs}
theorem gC {f fT C:Addr}{fd fdT:FuncData}(F:Fun K "law" "law" sy f fd)(nb:NbT mg)(GT:zo P w K mg base CX0 1 fT fdT ["_law_script"] (qU K))(mT:mg "_law_tape"=some (.ref fT))(kT:PySem.W.keepIn K (.ref fT)=true)(bT:Binds K fdT ["_law_script"] [])
  (CD:Cal P w K mg base "_law_draw" 1 xp) (CBa:Cal P w K mg base "_law_base" 2 oA) (CRo:Cal P w K mg base "_law_row" 5 ju) (CRu:Cal P w K mg base "_law_rule" 4 ur) (CBk:sH P w K mg base "Book" 9 [] (wU C cs)) (CB0:sH P w K mg base "Book" 9 [.non] (wU C cs)) (MR:yU P w K mg base C "rules" 3 (wz C cs)) (MT:yU P w K mg base C "tells_of" 2 (vz C cs)) (CLd:Cal P w K mg base "laid" 11 (qG C cs)) (CLL:Cal P w K mg base "_law_laid" 12 (oK C cs)) (CDu:Cal P w K mg base "_law_due" 3 (ji C cs)) (mB:mg "Book"=some (.ref C)) (cB:eI K C) (kB:PySem.W.kitOne K (.ref C) (.ref C)=some true):
  zo P w K mg base CX0 15 f fd ["_law_script"] (sR K):=by
 refine cD (k:=13) F di GT mT kT bT rfl rfl (Or.inr rfl) (Or.inl rfl) (fun cdv A' outer s H E hr=>?_)
 have nd:=di.nd
 and_intros
 refine⟨rfl,fun b b0 b1=>?_⟩
 refine xT 3 nd (tL CRo (hr.mono (by decide)) (by rfl) (su 1 rfl (zt (zp 2 rfl (zU ⟨b,rfl,b0,b1,fun ds rd ld=>⟨_,rfl,?_⟩⟩)))))
 refine sq 3 rfl ?_
 refine xT 4 nd (tL CRo (hr.mono (by decide)) (by rfl) (su 1 rfl (zt (zp 2 rfl (zU ⟨b,rfl,b0,b1,fun es0 re0 le0=>⟨_,rfl,?_⟩⟩)))))
 refine sq 4 rfl ?_
 refine vd (fun α=>∃es,zx es∧es.length≤24∧α=[none,some .tape,some (.dat (.int b)),some (.dat (.list ds)),some (.dat (.list es)),none,none,none,none,none,none,none]) ?_ ?_
 ·and_intros
  refine xR (fun _=>?_) (fun _=>?_)
  ·refine gj 4 ["_law_k","_law_base_here","_law_tape_here"] [none,some 2,some 1] (.one 0) (uB (by rfl) nb.range ?_)
   and_intros
   rename_i v h0 h1
   generalize hzz:(if 23+v-(ds.length:Int)<24 then 23+v-(ds.length:Int) else 24)=z
   have z1:z≤24:=by rw[←hzz];split<;>omega
   have z0:0≤z:=by rw[←hzz];split<;>omega
   refine⟨by omega,by omega,by rw[cT,yb];omega,?_⟩
   refine vc (fun i acc=>zx acc∧acc.length≤i) ⟨fun d hd=>by simp at hd,cU _⟩ (fun i d acc hd ⟨ra,la⟩=>⟨_,rfl,fun C s2 H2 fp=>?_⟩) (fun acc h=>?_)
   ·refine qK ?_
    rw[if_pos rfl]
    intro C s2 H2 fp
    and_intros
    refine⟨b0,b1,fun d rd=>⟨fun e he=>?_,by rw[cW];exact Nat.add_le_add_right la 1⟩⟩
    rcases ai.mp he with he|he
    ·exact ra e he
    ·rw[aA.mp he];exact rd
   ·rw[cT,yb] at h
    refine sq 4 rfl (ym (ym ⟨acc,h.1,by have:=h.2;omega,rfl⟩))
  ·and_intros
   exact⟨es0,re0,by omega,rfl⟩
 rintro α ⟨es,re,le,rfl⟩
 and_intros
 refine⟨ds,.inl rfl,rd.rules,by omega,?_⟩
 and_intros
 refine⟨es,.inl rfl,re.rules,le,?_⟩
 and_intros
 refine⟨ds,es,rfl,rd,re,by omega,le,?_⟩
 refine vd (fun α=>α=stL C cs b ds es (some (.dat (vQ C cs ds es))) none none none none) ?_ ?_
 ·and_intros
  refine⟨rd.rules,by omega,?_⟩
  refine⟨rd.nice (by omega),?_⟩
  and_intros
  refine⟨rd.nice (by omega),?_⟩
  and_intros
  refine lj (by simp[A.d]) ?_
  and_intros
  refine⟨re.rules,by omega,?_⟩
  refine⟨re.nice (by omega),?_⟩
  and_intros
  refine⟨re.nice (by omega),?_⟩
  and_intros
  refine xt (by simp[A.d]) ?_
  and_intros
  rfl
 rintro α rfl
 by_cases hl:ds.length+es.length≤24
 rotate_left
 ·have el:vQ C cs ds es=.none:=by unfold vQ;rw[if_neg hl]
  rw[el]
  and_intros
  refine tu (bY (by omega)) ?_
  and_intros
  rfl
 have el:vQ C cs ds es=zP C cs (ds++es):=by unfold vQ;rw[if_pos hl]
 rw[el]
 have ra:=rd.app re
 have ln:(ds++es).length≤24:=by rw[cW];exact hl
 refine vd (fun α=>α=stL C cs b ds es (some (.dat (zP C cs (ds++es)))) none none none none) ?_ ?_
 ·and_intros
  refine xt (bL (by omega)) ?_
  and_intros
  rfl
 rintro α rfl
 refine vd (fun α=>α=stL C cs b ds es (some (.dat (zP C cs (ds++es)))) none none none none) ?_ ?_
 ·refine wt (EvW.t (iY (lq (qx (jy (by rfl) nb.isinstance (by rfl) mB (zp 7 rfl ⟨C,_,true,rfl,cB,kB,⟨_,rfl,?_⟩⟩))))))
  refine lj rfl (lQ ?_)
  and_intros
  refine⟨ra.rules,by omega,?_⟩
  refine⟨ra.nice (by omega),?_⟩
  refine oB hr.gd hr.units (by rfl) nb.repr (EvL.d (wj (zp 3 rfl (zp 4 rfl ⟨ds,es,rfl,rfl,by omega,?_⟩))))
  refine⟨ra.nice (by omega),?_⟩
  and_intros
  refine xt (by simp[A.d]) ?_
  and_intros
  rfl
 rintro α rfl
 refine xT 8 nd ?_
 and_intros
 refine tW (.one 9) (wG ?_)
 and_intros
 have lc1:=tE (ds:=ds) (lo:=some (-3)) (hi:=none)
 have lc2:=tE (ds:=es) (lo:=none) (hi:=some 2)
 have lc3:=tE (ds:=es) (lo:=some (-1)) (hi:=none)
 refine⟨by omega,?_⟩
 and_intros
 refine⟨by rw[cW];omega,?_⟩
 obtain⟨us,hus⟩:∃us,us=L2.cutD ds (some (-3)) none++L2.cutD es none (some 2)++L2.cutD es (some (-1)) none:=⟨_,rfl⟩
 have ru:zx us:=fun d hd=>by
  rw[hus] at hd
  rcases ai.mp hd with hd|hd
  ·rcases ai.mp hd with hd|hd
   ·exact rd d (tX hd)
   ·exact re d (tX hd)
  ·exact re d (tX hd)
 have lu:us.length≤64:=by rw[hus,cW,cW];omega
 rw[←hus]
 refine⟨_,rfl,?_⟩
 refine yS (fun i α=>∃(o9:Option A) (zs:List Int),α=stL C cs b ds es (some (.dat (zP C cs (ds++es)))) (some (.own (zs.map .int))) o9 none none∧zs.length=3+4*i) ⟨none,[0,1000000,b],rfl,rfl⟩ ?_ ?_
 ·rintro i d α hd ⟨o9,zs,rfl,lz⟩
  obtain⟨u,i',j',v,hu,rfl,_,_,_,_⟩:=xZ (ru d (bV hd)).rule
  have hi:=(cR.mp hd).1
  refine⟨_,rfl,?_⟩
  refine ml 8 rfl ?_
  and_intros
  refine⟨by rw[cT,lz];show 3+4*i+4≤1000;omega,?_⟩
  refine ym ⟨some (.dat (.tuple [.str u,.int i',.int j',v])),zs++[(if i'-1 > 0 then i'-1 else 0),i',j',(if j'+1<1000000 then j'+1 else 1000000)],?_,by rw[cW,lz];show 3+4*i+4=_;omega⟩
  rw[za7]
  rfl
 rintro α ⟨o9,zs,rfl,lz⟩
 refine sq 8 rfl ?_
 refine tW (.one 10) (wG ?_)
 and_intros
 refine yS (fun i α=>∃(o9 o10 o11:Option A),α=stL C cs b ds es (some (.dat (zP C cs (ds++es)))) (some (.dat (.list (zs.map .int)))) o9 o10 o11) ⟨o9,none,none,rfl⟩ ?_ ?_
 ·rintro i d α hd ⟨o9,o10,o11,rfl⟩
  rw[bE,bG] at hd
  obtain⟨day,hday,rfl⟩:=hd
  refine⟨_,rfl,?_⟩
  refine tW (.one 11) (wG (EvL.d (wO (zt (xG (zt (xG (zt (xG (zt (xG (zt (xG (zt (xG (zt (xG (zU ⟨_,rfl,aB rfl,_,rfl,?_⟩))))))))))))))))))
  refine yS (fun i α=>∃(o9 o11:Option A),α=stL C cs b ds es (some (.dat (zP C cs (ds++es)))) (some (.dat (.list (zs.map .int)))) o9 (some (.dat (.int day))) o11) ⟨o9,o11,rfl⟩ ?_ ?_
  ·rintro k d α hd ⟨o9,o11,rfl⟩
   have hx:∃x:Str,d=.str x∧x∈words:=by
    have:=bV hd
    simp only[cY,bq,af] at this
    rcases this with rfl|rfl|rfl|rfl|rfl|rfl|rfl<;>exact⟨_,rfl,by simp[words]⟩
   obtain⟨x,rfl,hx⟩:=hx
   refine⟨_,rfl,?_⟩
   and_intros
   refine⟨ds++es,x,day,rfl,ra.rules,hx,?_⟩
   refine⟨vF ra x day hx,?_⟩
   and_intros
   refine⟨ds,es,x,day,rfl,rd,re,le,hx,?_⟩
   refine⟨vF ra x day hx,?_⟩
   and_intros
   refine xt (by simp[A.d]) ?_
   and_intros
   exact⟨_,_,rfl⟩
  ·rintro α ⟨o9,o11,rfl⟩
   and_intros
   exact⟨_,_,_,rfl⟩
 ·rintro α ⟨o9,o10,o11,rfl⟩
  and_intros
  have rn:zx []:=fun _ h=>by cases h
  refine EvN.d (sI CB0 (hr.mono (by decide)) (by rfl) ⟨[],.inr ⟨rfl,rfl⟩,rn.rules,by decide,?_⟩)
  and_intros
  refine⟨ds,[],rfl,rd,rn,by simp;omega,?_⟩
  rw[bQ]
  and_intros
  refine⟨rd.rules,by omega,?_⟩
  refine⟨rd.nice (by omega),?_⟩
  and_intros
  refine⟨rd.nice (by omega),?_⟩
  and_intros
  refine pN (bY rfl) ?_
  and_intros
  refine EvN.d (sI CB0 (hr.mono (by decide)) (by rfl) ⟨[],.inr ⟨rfl,rfl⟩,rn.rules,by decide,?_⟩)
  and_intros
  refine⟨[],es,rfl,rn,re,by simp;omega,?_⟩
  rw[List.nil_append]
  and_intros
  refine⟨re.rules,by omega,?_⟩
  refine⟨re.nice (by omega),?_⟩
  and_intros
  refine⟨re.nice (by omega),?_⟩
  and_intros
  refine pN (bY rfl) ?_
  and_intros
  refine⟨rd.rules,by omega,?_⟩
  refine⟨rd.nice (by omega),?_⟩
  and_intros
  refine⟨rd.nice (by omega),?_⟩
  and_intros
  refine pN (bY rfl) ?_
  and_intros
  refine⟨re.rules,by omega,?_⟩
  refine⟨re.nice (by omega),?_⟩
  and_intros
  refine⟨re.nice (by omega),?_⟩
  and_intros
  simp[A.d]
end
def FnF (K:PySem.W.Frag)(f:Addr)(nm ql:Str)(st:Stmt):Prop:=∃fd,Fun K nm ql st f fd
theorem mkF {K:PySem.W.Frag}{f:Addr}{nm ql:Str}{st:Stmt}{oc kV dc pm cd ct:Value}{od an:Option Addr}{sl:Array (Option Value)}(l:K.lookup f=some ⟨oc,od,.func (PySem.W.fnOf nm ql (zS st) (zr st) (za st) .none kV dc pm an cd ct),sl⟩)(c:PySem.W.codeIn K cd ql=true)(k:PySem.W.keepIn K (.ref f)=true):FnF K f nm ql st:=⟨_,lB l c k⟩
def FnG (K:PySem.W.Frag)(f:Addr)(nm:Str)(st:Stmt):Prop:=PySem.W.nsIn K mainGlobals nm=some (some (.ref f))∧FnF K f nm nm st
theorem mkG {K:PySem.W.Frag}{f:Addr}{nm:Str}{st:Stmt}{oc kV dc pm cd ct:Value}{od an:Option Addr}{sl:Array (Option Value)}(a:PySem.W.nsIn K mainGlobals nm=some (some (.ref f)))(l:K.lookup f=some ⟨oc,od,.func (PySem.W.fnOf nm nm (zS st) (zr st) (za st) .none kV dc pm an cd ct),sl⟩)(c:PySem.W.codeIn K cd nm=true)(k:PySem.W.keepIn K (.ref f)=true):FnG K f nm st:=⟨a,mkF l c k⟩
theorem FnF.get {K:PySem.W.Frag}{f:Addr}{nm ql:Str}{st:Stmt}(ps:List Str)(h:FnF K f nm ql st)(hb:∀(kV doc pm:Value) (an:Option Addr) (cdv ct:Value) (us:List Value),us.length=ps.length→bindArgs (PySem.W.fnOf nm ql (zS st) (zr st) (za st) .none kV doc pm an cdv ct) ⟨us,[]⟩=pure (ps.zip us)):∃fd,Fun K nm ql st f fd∧Binds K fd ps []:=by
 obtain⟨fd,F⟩:=h
 exact⟨fd,F,F.binds hb⟩
theorem FnG.get {K:PySem.W.Frag}{h0:Heap}{mg:Str→Option Value}{f:Addr}{nm:Str}{st:Stmt}(ps:List Str)(h:FnG K f nm st)(X:K.In h0)(G:h0.Ns mainGlobals mg)(hb:∀(kV doc pm:Value) (an:Option Addr) (cdv ct:Value) (us:List Value),us.length=ps.length→bindArgs (PySem.W.fnOf nm nm (zS st) (zr st) (za st) .none kV doc pm an cdv ct) ⟨us,[]⟩=pure (ps.zip us)):∃fd,mg nm=some (.ref f)∧Fun K nm nm st f fd∧Binds K fd ps []:=by
 obtain⟨a,fd,F⟩:=h
 exact⟨fd,bA X G a,F,F.binds hb⟩
theorem mkR {K:PySem.W.Frag}{C gi gt ge gw:Addr}(pg:PySem.W.plainGet K C Str.empty=true)(hd:PySem.W.hasDictIn K C=true)(po:PySem.W.plainOver K C=true)(sa:PySem.W.findIn K (.ref C) "__setattr__"=some (some (.builtin "object.__setattr__")))(n1:PySem.W.findIn K (.ref C) "first"=some none)(n2:PySem.W.findIn K (.ref C) "last"=some none)(n3:PySem.W.findIn K (.ref C) "worth"=some none)(mk:PySem.W.makesIn K C=true)(f1:PySem.W.findIn K (.ref C) "__init__"=some (some (.ref gi)))(i1:PySem.W.isFn K (.ref gi)=true)(kc:PySem.W.keepIn K (.ref C)=true)(f2:PySem.W.findIn K (.ref C) "told"=some (some (.ref gt)))(i2:PySem.W.isFn K (.ref gt)=true)(k2:PySem.W.keepIn K (.ref gt)=true)(f3:PySem.W.findIn K (.ref C) "tells"=some (some (.ref ge)))(i3:PySem.W.isFn K (.ref ge)=true)(k3:PySem.W.keepIn K (.ref ge)=true)(f4:PySem.W.findIn K (.ref C) "word"=some (some (.ref gw)))(i4:PySem.W.isFn K (.ref gw)=true)(k4:PySem.W.keepIn K (.ref gw)=true):yQ K C gi gt ge gw:=⟨⟨pg,hd,po,sa⟩,n1,n2,n3,⟨mk,f1,i1,kc⟩,⟨f2,i2,k2⟩,⟨f3,i3,k3⟩,⟨f4,i4,k4⟩⟩
theorem nR {K:PySem.W.Frag}{dT:Addr}{oc kV doc pm cdv ct:Value}{od an:Option Addr}{n:Nat}{sl:Array (Option Value)}(lk:K.lookup dT=some ⟨oc,od,.seq #[.none] n,sl⟩):
  Binds K (PySem.W.fnOf "__init__" "Book.__init__" (zS yk) (zr yk) (za yk) (.ref dT) kV doc pm an cdv ct) ["self","rules"] [.none]:=fun s us hk hl=>by
 match us,(show us.length=1 by rw[cW] at hl;simpa using hl) with
 |[u],_=>exact BindsTo.of_defaults (T:=dT) rfl (hk _ _ lk) rfl rfl rfl
theorem uM {K:PySem.W.Frag}{dT:Addr}{oc kV doc pm cdv ct:Value}{od an:Option Addr}{n:Nat}{sl:Array (Option Value)}(lk:K.lookup dT=some ⟨oc,od,.seq #[.none] n,sl⟩):
  Binds K (PySem.W.fnOf "__init__" "Book.__init__" (zS yk) (zr yk) (za yk) (.ref dT) kV doc pm an cdv ct) ["self","rules"] []:=fun s us hk hl=>by
 rw[bQ] at hl ⊢
 match us,hl with
 |[u,v],_=>exact BindsTo.of_defaults (T:=dT) rfl (hk _ _ lk) rfl rfl rfl
theorem jR {P:Str→Prop}(h1:P "price")(h2:P "come")(h3:P "go")(h4:P "least")(h5:P "most")(h6:P "deal")(h7:P "fee"):∀u∈words,P u:=by
 intro u hu
 simp only[words,cY,bq,af] at hu
 rcases hu with rfl|rfl|rfl|rfl|rfl|rfl|rfl<;>assumption
set_option maxHeartbeats 8000000 in
theorem us1 {α:Type}{p:List α→Prop}(h:∀a,p [a])(us:List α)(hl:us.length=1):p us:=by
 obtain⟨a,rfl⟩:=List.length_eq_one_iff.mp hl
 exact h a
theorem us2 {α:Type}{p:List α→Prop}(h:∀a b,p [a,b])(us:List α)(hl:us.length=2):p us:=by
 cases us with
 |nil=>cases hl
 |cons a us=>exact us1 (p:=fun us=>p (a::us)) (h a) us (Nat.succ.inj hl)
theorem us3 {α:Type}{p:List α→Prop}(h:∀a b c,p [a,b,c])(us:List α)(hl:us.length=3):p us:=by
 cases us with
 |nil=>cases hl
 |cons a us=>exact us2 (p:=fun us=>p (a::us)) (h a) us (Nat.succ.inj hl)
theorem us4 {α:Type}{p:List α→Prop}(h:∀a b c d,p [a,b,c,d])(us:List α)(hl:us.length=4):p us:=by
 cases us with
 |nil=>cases hl
 |cons a us=>exact us3 (p:=fun us=>p (a::us)) (h a) us (Nat.succ.inj hl)
theorem us5 {α:Type}{p:List α→Prop}(h:∀a b c d e,p [a,b,c,d,e])(us:List α)(hl:us.length=5):p us:=by
 cases us with
 |nil=>cases hl
 |cons a us=>exact us4 (p:=fun us=>p (a::us)) (h a) us (Nat.succ.inj hl)
set_option maxHeartbeats 0 in
theorem all_mk {l:PySem.W.OpenLaw}{w:World}{K:PySem.W.Frag}{h:Heap}{mg:Str→Option Value}{fa f1 f2 f3 f4 f5 f6 f7 f8 f9 f10 f11 f12 f13 f14 f15 f16 f17 f18 f19 f20 f21 f22 f23 f24 f25 g_init g_told g_tells g_wPrice g_wCome g_wGo g_wLeast g_wMost g_wDeal g_wFee CPrice CCome CGo CLeast CMost CDeal CFee CB dT g_binit g_brules g_btells dU CSt CX_TooMany CX_NoRule:Addr}(X:K.In h)(G:h.Ns mainGlobals mg)(hfa:mg "law"=some (.ref fa))
  {od25 an25 odB anB odT:Option Addr} {sl25 slB slT:Array (Option Value)} {oc25 kV25 dc25 pm25 ct25 cd25 ocB kVB dcB pmB ctB cdB ocT:Value} {tk1 tk2 tk3 tk4 tu1 tu2 tu3 tu4 tu5 tu6 tu7 tu8 tu9 tu10:Tok} {hu1 hu2 hu3 hu4 hu5 hu6 hu7:Int} {nT nU:Nat}
  (q1:FnG K f1 "is_whole" tf)
  (q2:FnG K f2 "is_whole_within" sE)
  (q3:FnG K f3 "is_pair" mI)
  (q4:FnG K f4 "is_day" fQ)
  (q5:FnG K f5 "is_pair_of_days" jr)
  (q6:FnG K f6 "is_stretch" vJ)
  (q7:FnG K f7 "is_coins" qQ)
  (q8:FnG K f8 "is_deal" si)
  (q9:FnG K f9 "is_worth" qS)
  (q10:FnG K f10 "is_rule" tY)
  (q11:FnG K f11 "made" jx)
  (q12:FnG K f12 "rule_of" uZ)
  (q13:FnG K f13 "usual" qA)
  (q14:FnG K f14 "kept_rules" sY)
  (q15:FnG K f15 "laid" rM)
  (q16:FnG K f16 "_law_tape" uW)
  (q17:FnG K f17 "_law_draw" lJ)
  (q18:FnG K f18 "_law_coins" sj)
  (q19:FnG K f19 "_law_worth" tT)
  (q20:FnG K f20 "_law_rule" qN)
  (q21:FnG K f21 "_law_base" qr)
  (q22:FnG K f22 "_law_row" kF)
  (q23:FnG K f23 "_law_laid" qB)
  (q24:FnG K f24 "_law_due" jm)
  (a25:PySem.W.nsIn K mainGlobals "law"=some (some (.ref f25)))
  (l25:K.lookup f25=some ⟨oc25,od25,.func (PySem.W.fnOf "law" "law" (zS sy) (zr sy) (za sy) .none kV25 dc25 pm25 an25 cd25 ct25),sl25⟩)
  (c25:PySem.W.codeIn K cd25 "law"=true)
  (k25:PySem.W.keepIn K (.ref f25)=true)
  (aCPrice:PySem.W.nsIn K mainGlobals "Price"=some (some (.ref CPrice)))
  (aCCome:PySem.W.nsIn K mainGlobals "Come"=some (some (.ref CCome)))
  (aCGo:PySem.W.nsIn K mainGlobals "Go"=some (some (.ref CGo)))
  (aCLeast:PySem.W.nsIn K mainGlobals "Least"=some (some (.ref CLeast)))
  (aCMost:PySem.W.nsIn K mainGlobals "Most"=some (some (.ref CMost)))
  (aCDeal:PySem.W.nsIn K mainGlobals "Deal"=some (some (.ref CDeal)))
  (aCFee:PySem.W.nsIn K mainGlobals "Fee"=some (some (.ref CFee)))
  (RPrice:yQ K CPrice g_init g_told g_tells g_wPrice)
  (RCome:yQ K CCome g_init g_told g_tells g_wCome)
  (RGo:yQ K CGo g_init g_told g_tells g_wGo)
  (RLeast:yQ K CLeast g_init g_told g_tells g_wLeast)
  (RMost:yQ K CMost g_init g_told g_tells g_wMost)
  (RDeal:yQ K CDeal g_init g_told g_tells g_wDeal)
  (RFee:yQ K CFee g_init g_told g_tells g_wFee)
  (q_init:FnF K g_init "__init__" "Rule.__init__" pT)
  (q_told:FnF K g_told "told" "Rule.told" kK)
  (q_tells:FnF K g_tells "tells" "Rule.tells" qI)
  (q_wPrice:FnF K g_wPrice "word" "Price.word" sv)
  (q_wCome:FnF K g_wCome "word" "Come.word" qY)
  (q_wGo:FnF K g_wGo "word" "Go.word" fw)
  (q_wLeast:FnF K g_wLeast "word" "Least.word" tU)
  (q_wMost:FnF K g_wMost "word" "Most.word" rX)
  (q_wDeal:FnF K g_wDeal "word" "Deal.word" rT)
  (q_wFee:FnF K g_wFee "word" "Fee.word" lg)
  (aCB:PySem.W.nsIn K mainGlobals "Book"=some (some (.ref CB)))
  (fi_binit:PySem.W.findIn K (.ref CB) "__init__"=some (some (.ref g_binit)))
  (is_binit:PySem.W.isFn K (.ref g_binit)=true)
  (l_binit:K.lookup g_binit=some ⟨ocB,odB,.func (PySem.W.fnOf "__init__" "Book.__init__" (zS yk) (zr yk) (za yk) (.ref dT) kVB dcB pmB anB cdB ctB),slB⟩)
  (c_binit:PySem.W.codeIn K cdB "Book.__init__"=true)
  (k_binit:PySem.W.keepIn K (.ref g_binit)=true)
  (lT:K.lookup dT=some ⟨ocT,odT,.seq #[.none] nT,slT⟩)
  (fi_brules:PySem.W.findIn K (.ref CB) "rules"=some (some (.ref g_brules)))
  (is_brules:PySem.W.isFn K (.ref g_brules)=true)
  (q_brules:FnF K g_brules "rules" "Book.rules" xS)
  (fi_btells:PySem.W.findIn K (.ref CB) "tells_of"=some (some (.ref g_btells)))
  (is_btells:PySem.W.isFn K (.ref g_btells)=true)
  (q_btells:FnF K g_btells "tells_of" "Book.tells_of" tH)
  (pgB:PySem.W.plainGet K CB Str.empty=true)
  (hdB:PySem.W.hasDictIn K CB=true)
  (poB:PySem.W.plainOver K CB=true)
  (saB:PySem.W.findIn K (.ref CB) "__setattr__"=some (some (.builtin "object.__setattr__")))
  (mkB:PySem.W.makesIn K CB=true)
  (kcB:PySem.W.keepIn K (.ref CB)=true)
  (noB:PySem.W.findIn K (.ref CB) "kept"=some none)
  (z1:PySem.W.nsIn K mainGlobals "abs"=some none)
  (z2:PySem.W.nsIn K mainGlobals "list"=some none)
  (z3:PySem.W.nsIn K mainGlobals "len"=some none)
  (z4:PySem.W.nsIn K mainGlobals "range"=some none)
  (z5:PySem.W.nsIn K mainGlobals "min"=some none)
  (z6:PySem.W.nsIn K mainGlobals "max"=some none)
  (z7:PySem.W.nsIn K mainGlobals "sorted"=some none)
  (z8:PySem.W.nsIn K mainGlobals "isinstance"=some none)
  (z9:PySem.W.nsIn K mainGlobals "int"=some none)
  (z10:PySem.W.nsIn K mainGlobals "bool"=some none)
  (z11:PySem.W.nsIn K mainGlobals "str"=some none)
  (z12:PySem.W.nsIn K mainGlobals "tuple"=some none)
  (z13:PySem.W.nsIn K mainGlobals "all"=some none)
  (z14:PySem.W.nsIn K mainGlobals "any"=some none)
  (z15:PySem.W.nsIn K mainGlobals "repr"=some none)
  (z16:PySem.W.nsIn K mainGlobals "zip"=some none)
  (z17:PySem.W.nsIn K mainGlobals "enumerate"=some none)
  (z18:PySem.W.nsIn K mainGlobals "reversed"=some none)
  (z19:PySem.W.nsIn K mainGlobals "sum"=some none)
  (gi1:PySem.W.nsIn K mainGlobals "LAST_DAY"=some (some (.int 1000000 tk1)))
  (gi2:PySem.W.nsIn K mainGlobals "MOST_NIGHTS"=some (some (.int 14 tk2)))
  (gi3:PySem.W.nsIn K mainGlobals "MOST_COINS"=some (some (.int 1000000000000 tk3)))
  (gi4:PySem.W.nsIn K mainGlobals "MOST_RULES"=some (some (.int 24 tk4)))
  (aU:PySem.W.nsIn K mainGlobals "USUAL"=some (some (.ref dU)))
  (lU:K.lookup dU=some ⟨.type "dict",none,.dict #[⟨hu1,.str "price" tu1,.none⟩,⟨hu2,.str "come" tu2,.bool true⟩,⟨hu3,.str "go" tu3,.bool true⟩,⟨hu4,.str "least" tu4,.int 1 tu8⟩,⟨hu5,.str "most" tu5,.int 14 tu9⟩,⟨hu6,.str "deal" tu6,.none⟩,⟨hu7,.str "fee" tu7,.int 0 tu10⟩] nU,#[]⟩)
  (hh1:hu1=hashStr w "price")
  (hh2:hu2=hashStr w "come")
  (hh3:hu3=hashStr w "go")
  (hh4:hu4=hashStr w "least")
  (hh5:hu5=hashStr w "most")
  (hh6:hu6=hashStr w "deal")
  (hh7:hu7=hashStr w "fee")
  (haB:PySem.W.findIn K (.ref CB) "__class__"=some (some (.builtin "object.__class__")))
  (hnB:PySem.W.specialIn K (.builtin "object.__class__") "__get__"=some (some (.builtin "getset_descriptor.__get__")))
  (htB:PySem.W.takesIn K (.builtin "object.__class__")=some true)
  (hmB:PySem.W.mroIn K CB (.type "object")=some true)
  (kBB:PySem.W.kitOne K (.ref CB) (.ref CB)=some true)
  (aSt:PySem.W.nsIn K mainGlobals "StayError"=some (some (.ref CSt)))
  (aX_TooMany:PySem.W.nsIn K mainGlobals "TooMany"=some (some (.ref CX_TooMany)))
  (aX_NoRule:PySem.W.nsIn K mainGlobals "NoRule"=some (some (.ref CX_NoRule)))
  (eX_TooMany:rY K CX_TooMany CSt none=true)
  (kX_TooMany:PySem.W.keepIn K (.ref CX_TooMany)=true)
  (bX_TooMany_TooMany:jn K CX_TooMany CX_TooMany=true)
  (kt_TooMany_NoRule:PySem.W.kitOne K (.ref CX_TooMany) (.ref CX_NoRule)=some false):
  ∃fd:FuncData,(∀(s:Shared) (v:Value),BindsTo s fd ⟨[v],[]⟩ [("_law_script",v)])∧∀base:Heap,K.In base→base.Ns mainGlobals mg→zo l.prog w K mg base CX0 15 fa fd ["_law_script"] (sR K):=by
 have e:=hfa.symm.trans (bA X G a25)
 cases e
 have nb:NbT mg:=⟨bb X G z1,bb X G z2,bb X G z3,bb X G z4,bb X G z5,bb X G z6,bb X G z7,bb X G z8,bb X G z9,bb X G z10,bb X G z11,bb X G z12,bb X G z13,bb X G z14,bb X G z15,bb X G z16,bb X G z17,bb X G z18,bb X G z19⟩
 obtain⟨_,m_is_whole,F_is_whole,b_is_whole⟩:=q1.get ["thing"] X G fun _ _ _ _ _ _=>us1 fun _=>rfl
 obtain⟨_,m_is_whole_within,F_is_whole_within,b_is_whole_within⟩:=q2.get ["thing","lowest","highest"] X G fun _ _ _ _ _ _=>us3 fun _ _ _=>rfl
 obtain⟨_,m_is_pair,F_is_pair,b_is_pair⟩:=q3.get ["thing"] X G fun _ _ _ _ _ _=>us1 fun _=>rfl
 obtain⟨_,m_is_day,F_is_day,b_is_day⟩:=q4.get ["thing"] X G fun _ _ _ _ _ _=>us1 fun _=>rfl
 obtain⟨_,m_is_pair_of_days,F_is_pair_of_days,b_is_pair_of_days⟩:=q5.get ["thing"] X G fun _ _ _ _ _ _=>us1 fun _=>rfl
 obtain⟨_,m_is_stretch,F_is_stretch,b_is_stretch⟩:=q6.get ["thing"] X G fun _ _ _ _ _ _=>us1 fun _=>rfl
 obtain⟨_,m_is_coins,F_is_coins,b_is_coins⟩:=q7.get ["thing"] X G fun _ _ _ _ _ _=>us1 fun _=>rfl
 obtain⟨_,m_is_deal,F_is_deal,b_is_deal⟩:=q8.get ["thing"] X G fun _ _ _ _ _ _=>us1 fun _=>rfl
 obtain⟨_,m_is_worth,F_is_worth,b_is_worth⟩:=q9.get ["word","thing"] X G fun _ _ _ _ _ _=>us2 fun _ _=>rfl
 obtain⟨_,m_is_rule,F_is_rule,b_is_rule⟩:=q10.get ["thing"] X G fun _ _ _ _ _ _=>us1 fun _=>rfl
 obtain⟨_,m_made,F_made,b_made⟩:=q11.get ["word","first","last","worth"] X G fun _ _ _ _ _ _=>us4 fun _ _ _ _=>rfl
 obtain⟨_,m_rule_of,F_rule_of,b_rule_of⟩:=q12.get ["thing"] X G fun _ _ _ _ _ _=>us1 fun _=>rfl
 obtain⟨_,m_usual,F_usual,b_usual⟩:=q13.get ["word"] X G fun _ _ _ _ _ _=>us1 fun _=>rfl
 obtain⟨_,m_kept_rules,F_kept_rules,b_kept_rules⟩:=q14.get ["things"] X G fun _ _ _ _ _ _=>us1 fun _=>rfl
 obtain⟨_,m_laid,F_laid,b_laid⟩:=q15.get ["elder","newer"] X G fun _ _ _ _ _ _=>us2 fun _ _=>rfl
 obtain⟨_,m__law_tape,F__law_tape,b__law_tape⟩:=q16.get ["_law_script"] X G fun _ _ _ _ _ _=>us1 fun _=>rfl
 obtain⟨_,m__law_draw,F__law_draw,b__law_draw⟩:=q17.get ["_law_tape_here","_law_many"] X G fun _ _ _ _ _ _=>us2 fun _ _=>rfl
 obtain⟨_,m__law_coins,F__law_coins,b__law_coins⟩:=q18.get ["_law_tape_here"] X G fun _ _ _ _ _ _=>us1 fun _=>rfl
 obtain⟨_,m__law_worth,F__law_worth,b__law_worth⟩:=q19.get ["_law_tape_here","_law_word"] X G fun _ _ _ _ _ _=>us2 fun _ _=>rfl
 obtain⟨_,m__law_rule,F__law_rule,b__law_rule⟩:=q20.get ["_law_tape_here","_law_base_here"] X G fun _ _ _ _ _ _=>us2 fun _ _=>rfl
 obtain⟨_,m__law_base,F__law_base,b__law_base⟩:=q21.get ["_law_tape_here"] X G fun _ _ _ _ _ _=>us1 fun _=>rfl
 obtain⟨_,m__law_row,F__law_row,b__law_row⟩:=q22.get ["_law_tape_here","_law_base_here"] X G fun _ _ _ _ _ _=>us2 fun _ _=>rfl
 obtain⟨_,m__law_laid,F__law_laid,b__law_laid⟩:=q23.get ["_law_elder","_law_newer"] X G fun _ _ _ _ _ _=>us2 fun _ _=>rfl
 obtain⟨_,m__law_due,F__law_due,b__law_due⟩:=q24.get ["_law_elder","_law_newer","_law_others","_law_word","_law_day"] X G fun _ _ _ _ _ _=>us5 fun _ _ _ _ _=>rfl
 have F_law:=lB (st:=sy) l25 c25 k25
 have b_law:=F_law.binds (ps:=["_law_script"]) fun _ _ _ _ _ _=>us1 fun _=>rfl
 obtain⟨_,F_init,b_init⟩:=q_init.get ["self","first","last","worth"] fun _ _ _ _ _ _=>us4 fun _ _ _ _=>rfl
 obtain⟨_,F_told,b_told⟩:=q_told.get ["self"] fun _ _ _ _ _ _=>us1 fun _=>rfl
 obtain⟨_,F_tells,b_tells⟩:=q_tells.get ["self","day"] fun _ _ _ _ _ _=>us2 fun _ _=>rfl
 obtain⟨_,F_wPrice,b_wPrice⟩:=q_wPrice.get ["self"] fun _ _ _ _ _ _=>us1 fun _=>rfl
 obtain⟨_,F_wCome,b_wCome⟩:=q_wCome.get ["self"] fun _ _ _ _ _ _=>us1 fun _=>rfl
 obtain⟨_,F_wGo,b_wGo⟩:=q_wGo.get ["self"] fun _ _ _ _ _ _=>us1 fun _=>rfl
 obtain⟨_,F_wLeast,b_wLeast⟩:=q_wLeast.get ["self"] fun _ _ _ _ _ _=>us1 fun _=>rfl
 obtain⟨_,F_wMost,b_wMost⟩:=q_wMost.get ["self"] fun _ _ _ _ _ _=>us1 fun _=>rfl
 obtain⟨_,F_wDeal,b_wDeal⟩:=q_wDeal.get ["self"] fun _ _ _ _ _ _=>us1 fun _=>rfl
 obtain⟨_,F_wFee,b_wFee⟩:=q_wFee.get ["self"] fun _ _ _ _ _ _=>us1 fun _=>rfl
 obtain⟨_,F_brules,b_brules⟩:=q_brules.get ["self"] fun _ _ _ _ _ _=>us1 fun _=>rfl
 obtain⟨_,F_btells,b_btells⟩:=q_btells.get ["self","word","day"] fun _ _ _ _ _ _=>us3 fun _ _ _=>rfl
 have TD:rE mg f1 f2 f3 f4 f5:=⟨nb.isinstance,nb.int,nb.bool,nb.tuple,nb.len,⟨tk1,bA X G gi1⟩,⟨tk2,bA X G gi2⟩,m_is_whole,m_is_whole_within,m_is_pair,m_is_day,m_is_pair_of_days⟩
 have TR:qu mg f1 f2 f3 f4 f5 f6 f7 f8 f9 f10 f11 ⟨CPrice,CCome,CGo,CLeast,CMost,CDeal,CFee⟩:=⟨TD,⟨tk3,bA X G gi3⟩,m_is_stretch,m_is_coins,m_is_deal,m_is_worth,m_is_rule,m_made,bA X G aCPrice,bA X G aCCome,bA X G aCGo,bA X G aCLeast,bA X G aCMost,bA X G aCDeal,bA X G aCFee⟩
 have TT:ed mg:=⟨nb.abs,nb.list,nb.len⟩
 have A7:jc K ⟨CPrice,CCome,CGo,CLeast,CMost,CDeal,CFee⟩ g_init g_told g_tells g_wPrice g_wCome g_wGo g_wLeast g_wMost g_wDeal g_wFee:=⟨RPrice,RCome,RGo,RLeast,RMost,RDeal,RFee⟩
 refine⟨PySem.W.fnOf "law" "law" (zS sy) (zr sy) (za sy) .none kV25 dc25 pm25 an25 cd25 ct25,fun s v=>.of_eq rfl,fun base KX _=>?_⟩
 have G_in:=ni (P:=l.prog) (w:=w) (base:=base) F_is_whole_within TD F_is_whole b_is_whole
 have G_pair:=jF (P:=l.prog) (w:=w) (base:=base) F_is_pair TD
 have G_day:=gu F_is_day TD G_in F_is_whole_within.kp b_is_whole_within
 have G_days:=iu F_is_pair_of_days TD G_pair F_is_pair.kp b_is_pair G_day F_is_day.kp b_is_day
 have G_stretch:=qO F_is_stretch TD G_days F_is_pair_of_days.kp b_is_pair_of_days
 have G_coins:=je F_is_coins TR G_in F_is_whole_within.kp b_is_whole_within
 have G_deal:=nk F_is_deal TR G_in F_is_whole_within.kp b_is_whole_within G_pair F_is_pair.kp b_is_pair
 have G_worth:=lV F_is_worth TR G_in F_is_whole_within.kp b_is_whole_within G_coins F_is_coins.kp b_is_coins G_deal F_is_deal.kp b_is_deal
 have G_rule:=oX F_is_rule TR G_stretch F_is_stretch.kp b_is_stretch G_worth F_is_worth.kp b_is_worth
 have G_made:=jZ (P:=l.prog) (w:=w) (base:=base) F_made TR A7 F_init b_init
 have G_ruleOf:=oY F_rule_of TR G_rule F_is_rule.kp b_is_rule G_made F_made.kp b_made
 have CRO:Cal l.prog w K mg base "rule_of" 7 (wB ⟨CPrice,CCome,CGo,CLeast,CMost,CDeal,CFee⟩):=rR m_rule_of F_rule_of.kp b_rule_of G_ruleOf
 have CKe:Cal l.prog w K mg base "kept_rules" 8 (qC ⟨CPrice,CCome,CGo,CLeast,CMost,CDeal,CFee⟩):=jw F_kept_rules m_kept_rules b_kept_rules nb ⟨tk4,bA X G gi4⟩ CRO
 have cB:Cls K CB:=⟨pgB,hdB,poB,saB⟩
 have GBI:=ll (pP (st:=yk) l_binit c_binit k_binit) cB noB CKe
 have m_Book:mg "Book"=some (.ref CB):=bA X G aCB
 have MkB:Mk K CB g_binit:=⟨mkB,fi_binit,is_binit,kcB⟩
 have CBk:sH l.prog w K mg base "Book" 9 [] (wU CB ⟨CPrice,CCome,CGo,CLeast,CMost,CDeal,CFee⟩):=⟨CB,g_binit,_,_,_,m_Book,MkB,uM lT,.nil,GBI⟩
 have CBk0:sH l.prog w K mg base "Book" 9 [.non] (wU CB ⟨CPrice,CCome,CGo,CLeast,CMost,CDeal,CFee⟩):=⟨CB,g_binit,_,_,_,m_Book,MkB,nR lT,.cons rfl .nil,GBI⟩
 have OT:∀u∈words,yU l.prog w K mg base ((⟨CPrice,CCome,CGo,CLeast,CMost,CDeal,CFee⟩:Cs).of u) "told" 2 (ph ((⟨CPrice,CCome,CGo,CLeast,CMost,CDeal,CFee⟩:Cs).of u) u):=jR (by rw[xK];exact yt RPrice b_told (yZ F_told RPrice (uR F_wPrice) b_wPrice)) (by rw[wu];exact yt RCome b_told (yZ F_told RCome (rg F_wCome) b_wCome)) (by rw[rh];exact yt RGo b_told (yZ F_told RGo (km F_wGo) b_wGo)) (by rw[xQ];exact yt RLeast b_told (yZ F_told RLeast (uU F_wLeast) b_wLeast)) (by rw[wD];exact yt RMost b_told (yZ F_told RMost (rO F_wMost) b_wMost)) (by rw[wC];exact yt RDeal b_told (yZ F_told RDeal (rK F_wDeal) b_wDeal)) (by rw[uu];exact yt RFee b_told (yZ F_told RFee (pk F_wFee) b_wFee))
 have DU:pO K w dU tbU:=⟨_,nU,lU,.cons ⟨hh1,⟨_,rfl⟩,rfl⟩ (.cons ⟨hh2,⟨_,rfl⟩,rfl⟩ (.cons ⟨hh3,⟨_,rfl⟩,rfl⟩ (.cons ⟨hh4,⟨_,rfl⟩,⟨_,rfl⟩⟩ (.cons ⟨hh5,⟨_,rfl⟩,⟨_,rfl⟩⟩ (.cons ⟨hh6,⟨_,rfl⟩,rfl⟩ (.cons ⟨hh7,⟨_,rfl⟩,⟨_,rfl⟩⟩ (.nil))))))),by decide +kernel⟩
 have CU:Cal l.prog w K mg base "usual" 1 tM:=mj F_usual m_usual b_usual (bA X G aU) DU
 have OW:∀u∈words,yU l.prog w K mg base ((⟨CPrice,CCome,CGo,CLeast,CMost,CDeal,CFee⟩:Cs).of u) "word" 1 (rS ((⟨CPrice,CCome,CGo,CLeast,CMost,CDeal,CFee⟩:Cs).of u) u):=jR (by rw[xK];exact yr RPrice b_wPrice (uR F_wPrice)) (by rw[wu];exact yr RCome b_wCome (rg F_wCome)) (by rw[rh];exact yr RGo b_wGo (km F_wGo)) (by rw[xQ];exact yr RLeast b_wLeast (uU F_wLeast)) (by rw[wD];exact yr RMost b_wMost (rO F_wMost)) (by rw[wC];exact yr RDeal b_wDeal (rK F_wDeal)) (by rw[uu];exact yr RFee b_wFee (pk F_wFee))
 have ORT:∀u∈words,yU l.prog w K mg base ((⟨CPrice,CCome,CGo,CLeast,CMost,CDeal,CFee⟩:Cs).of u) "tells" 1 (vY ((⟨CPrice,CCome,CGo,CLeast,CMost,CDeal,CFee⟩:Cs).of u)):=jR (by rw[xK];exact ye RPrice b_tells (yF F_tells RPrice)) (by rw[wu];exact ye RCome b_tells (yF F_tells RCome)) (by rw[rh];exact ye RGo b_tells (yF F_tells RGo)) (by rw[xQ];exact ye RLeast b_tells (yF F_tells RLeast)) (by rw[wD];exact ye RMost b_tells (yF F_tells RMost)) (by rw[wC];exact ye RDeal b_tells (yF F_tells RDeal)) (by rw[uu];exact ye RFee b_tells (yF F_tells RFee))
 have OC:∀u∈words,Cls K ((⟨CPrice,CCome,CGo,CLeast,CMost,CDeal,CFee⟩:Cs).of u)∧yf K ((⟨CPrice,CCome,CGo,CLeast,CMost,CDeal,CFee⟩:Cs).of u) "worth":=jR (by rw[xK];exact⟨RPrice.cl,RPrice.nw⟩) (by rw[wu];exact⟨RCome.cl,RCome.nw⟩) (by rw[rh];exact⟨RGo.cl,RGo.nw⟩) (by rw[xQ];exact⟨RLeast.cl,RLeast.nw⟩) (by rw[wD];exact⟨RMost.cl,RMost.nw⟩) (by rw[wC];exact⟨RDeal.cl,RDeal.nw⟩) (by rw[uu];exact⟨RFee.cl,RFee.nw⟩)
 have MTe:yU l.prog w K mg base CB "tells_of" 2 (vz CB ⟨CPrice,CCome,CGo,CLeast,CMost,CDeal,CFee⟩):=⟨g_btells,_,_,cB,⟨fi_btells,is_btells,F_btells.kp⟩,b_btells,nP F_btells cB noB nb CU OW ORT OC⟩
 have MR:yU l.prog w K mg base CB "rules" 3 (wz CB ⟨CPrice,CCome,CGo,CLeast,CMost,CDeal,CFee⟩):=⟨g_brules,_,_,cB,⟨fi_brules,is_brules,F_brules.kp⟩,b_brules,nM F_brules cB noB b_brules OT⟩
 have m_StayError:mg "StayError"=some (.ref CSt):=bA X G aSt
 have mX_TooMany:mg "TooMany"=some (.ref CX_TooMany):=bA X G aX_TooMany
 have mX_NoRule:mg "NoRule"=some (.ref CX_NoRule):=bA X G aX_NoRule
 have XC_TooMany:=XC.of eX_TooMany
 have CD:Cal l.prog w K mg base "_law_draw" 1 xp:=jo m__law_draw F__law_draw.kp b__law_draw (iA F__law_draw TT)
 have CCo:=nJ F__law_coins m__law_coins b__law_coins CD
 have CW:=nE F__law_worth m__law_worth b__law_worth CD CCo
 have CLd:=mK F_laid m_laid b_laid CBk MR
 have XT0:fz K mg "TooMany" CX_TooMany:=⟨mX_TooMany,kX_TooMany,⟨_,XC_TooMany.ok⟩⟩
 have CKT:=nL F_kept_rules m_kept_rules b_kept_rules nb ⟨tk4,bA X G gi4⟩ CRO XT0
 have CKX:=qw (pP (st:=yk) l_binit c_binit k_binit) m_Book MkB (uM lT) CKT
 have CLT:=oU F_laid m_laid b_laid CKX MR
 have CLRu:=qg F__law_rule m__law_rule b__law_rule CD CW
 have CLBa:=nX F__law_base m__law_base b__law_base CD
 have CLRo:=kH F__law_row m__law_row b__law_row nb CD CLRu
 have CLL:=nA F__law_laid m__law_laid b__law_laid nb ⟨mX_TooMany,XB.of bX_TooMany_TooMany,⟨_,XC_TooMany⟩,⟨_,mX_NoRule,kt_TooMany_NoRule⟩⟩ CLd CLT
 have CDu:=jq F__law_due m__law_due b__law_due nb MTe
 exact gC F_law nb (ig F__law_tape TT) m__law_tape F__law_tape.kp b__law_tape CD CLBa CLRo CLRu CBk CBk0 MR MTe CLd CLL CDu m_Book ⟨cB,haB,hnB,htB,hmB⟩ kBB
theorem walk {l:PySem.W.OpenLaw}{q:Program}{loose:List Str}{XP:(Str→Option Value)→Heap→Prop}{YP:World→Heap→Prop}{d:DefRec}{K:Params→PySem.W.Frag}(hn:l.most=some 63)(hdf:d.params.defaults=[])
  (hY:∀(w:World) (h:Heap),YP w h→(K w.params).In h)
  (F:∀(w:World) (mg:Str→Option Value) (fa:Addr) (h:Heap),(K w.params).In h→h.Ns mainGlobals mg→mg d.name=some (.ref fa)→
   ∃fd:FuncData,(∀(s:Shared) (u:Value),BindsTo s fd ⟨[u],[]⟩ [("_law_script",u)])∧∀base:Heap,(K w.params).In base→base.Ns mainGlobals mg→zo l.prog w (K w.params) mg base CX0 15 fa fd ["_law_script"] (sR (K w.params))):
  PySem.W.WalkO q loose XP YP l.row.toRowW d [] (fun f vs=>PySem.call f vs):=
 L2.jX (n:=63) (k:=15) (x:="_law_script") (CX:=fun _=>CX0) (sp:=fun w=>sR (K w.params)) hn (by decide) hdf ⟨rfl,by decide,by decide,rfl⟩ hY F (fun _ _ a ns hl _ hS=>⟨a,ns,rfl,hS,hl,trivial,fun _=>rfl⟩) fun _ _ _ _ _ z=>z
end K12
def PySem.W.Fast.tw11645391613893143731 :Nat:=0
def PySem.W.Fast.tw16586339824422659784 :Nat:=0
def PySem.W.Fast.tw9032673215271022143 :Nat:=0
def PySem.W.Fast.tw10218569023918791348 :Nat:=0
def PySem.W.Fast.tw5510988340651745160 :Nat:=0
def PySem.W.Fast.tw9687414253682693800 :Nat:=0
def PySem.W.Fast.tw11482939625978428244 :Nat:=0
def PySem.W.Fast.tw6198083110388471208 :Nat:=0
def PySem.W.Fast.tw11035591690514786392 :Nat:=0
def PySem.W.Fast.tw16487824920239118959 :Nat:=0
def PySem.W.Fast.tw7881705968483036605 :Nat:=0
def PySem.W.Fast.tw5579509532623846027 :Nat:=0
def PySem.W.Fast.tw10951771816091820456 :Nat:=0
def PySem.W.Fast.tw215606592642752656 :Nat:=0
def PySem.W.Fast.tw4523146859051458111 :Nat:=0
def PySem.W.Fast.tw3861568990528612682 :Nat:=0
def PySem.W.Fast.tw11376177814224266563 :Nat:=0
def PySem.W.Fast.tw4159977048570329286 :Nat:=0
def PySem.W.Fast.tw12086440542012280391 :Nat:=0
def PySem.W.Fast.tw15243628184153570896 :Nat:=0
def PySem.W.Fast.tw3535337977992445403 :Nat:=0
def PySem.W.Fast.tw3479864153560153299 :Nat:=0
def PySem.W.Fast.tw8645975539880474445 :Nat:=0
def PySem.W.Fast.tw14452242790809292155 :Nat:=0
def PySem.W.Fast.tw16540682425985794585 :Nat:=0
def PySem.W.Fast.tw14232556711844070647 :Nat:=0
def PySem.W.Fast.tw3201359221695716685 :Nat:=0
def PySem.W.Fast.tw6205230599614365183 :Nat:=0
def PySem.W.Fast.tw6293262027106662808 :Nat:=0
def PySem.W.Fast.tw10150981170161832545 :Nat:=0
def PySem.W.Fast.tw7956464323870303588 :Nat:=0
def PySem.W.Fast.tw7478018127204413216 :Nat:=0
def PySem.W.Fast.tw9387045199863672196 :Nat:=0
def PySem.W.Fast.tw18059641361560263078 :Nat:=0
def PySem.W.Fast.tw682388526437552153 :Nat:=0
def PySem.W.Fast.tw3388295271982771485 :Nat:=0
def PySem.W.Fast.tw8235596491310029584 :Nat:=0
def PySem.W.Fast.tw8515374081497984646 :Nat:=0
def PySem.W.Fast.tw15956842302973866067 :Nat:=0
def PySem.W.Fast.tw11451301438014849669 :Nat:=0
def PySem.W.Fast.tw4493976111766271286 :Nat:=0
def PySem.W.Fast.tw365172372794572538 :Nat:=0
def PySem.W.Fast.tw13645404208546875884 :Nat:=0
def PySem.W.Fast.tw2284985691683107696 :Nat:=0
def PySem.W.Fast.tw7785291838027019552 :Nat:=0
def PySem.W.Fast.tw17666380691991024889 :Nat:=0
def PySem.W.Fast.tw2614700135279816025 :Nat:=0
def PySem.W.Fast.tw13004644055907164444 :Nat:=0
def PySem.W.Fast.tw7857398240856742505 :Nat:=0
def PySem.W.Fast.tw3881312431250946411 :Nat:=0
def PySem.W.Fast.tw11352881431886567745 :Nat:=0
def PySem.W.Fast.tw17509937278287758832 :Nat:=0
def PySem.W.Fast.tw12607181110680308290 :Nat:=0
def PySem.W.Fast.tw13917781856054026130 :Nat:=0
def PySem.W.Fast.tw2413333560418763235 :Nat:=0
def PySem.W.Fast.tw14503784359800070484 :Nat:=0
def PySem.W.Fast.tw14404373200064104209 :Nat:=0
def PySem.W.Fast.tw21750069077148928 :Nat:=0
def PySem.W.Fast.tw7192519665386432448 :Nat:=0
def PySem.W.Fast.tw16018827096667198309 :Nat:=0
def PySem.W.Fast.tw11299141866508007470 :Nat:=0
def PySem.W.Fast.tw16038533455428403019 :Nat:=0
def PySem.W.Fast.tw13527418441573733185 :Nat:=0
def PySem.W.Fast.tw6557440213080460716 :Nat:=0
def PySem.W.Fast.tw7229503953297140153 :Nat:=0
def PySem.W.Fast.tw3024557544361751596 :Nat:=0
def PySem.W.Fast.tw10956609517914367290 :Nat:=0
def PySem.W.Fast.tw16887811068547951762 :Nat:=0
def PySem.W.Fast.tw17034722199713742989 :Nat:=0
def PySem.W.Fast.tw2299729781529418383 :Nat:=0
def PySem.W.Fast.tw15492064803534303226 :Nat:=0
def PySem.W.Fast.tw6905827034359007868 :Nat:=0
def PySem.W.Fast.tw4477823242681484556 :Nat:=0
def PySem.W.Fast.tw10931152590756854420 :Nat:=0
def PySem.W.Fast.tw15866766622827035242 :Nat:=0
def PySem.W.Fast.tw16812979858907245820 :Nat:=0
def PySem.W.Fast.tw12875948458025498630 :Nat:=0
def PySem.W.Fast.tw6358546378956194407 :Nat:=0
def PySem.W.Fast.tw4291871329315617970 :Nat:=0
def PySem.W.Fast.tw12839945718833112801 :Nat:=0
def PySem.W.Fast.tw1215093171737155262 :Nat:=0
def PySem.W.Fast.tw16950331991021223263 :Nat:=0
def PySem.W.Fast.tw7531237249069517358 :Nat:=0
def PySem.W.Fast.tw14284159762774671569 :Nat:=0
def PySem.W.Fast.tw13204449999314910696 :Nat:=0
def PySem.W.Fast.tw4221702179155885250 :Nat:=0
def PySem.W.Fast.tw2978178424321943564 :Nat:=0
def PySem.W.Fast.tw8541943409616324340 :Nat:=0
def PySem.W.Fast.tw14268481814235287487 :Nat:=0
def PySem.W.Fast.tw8702404505175367396 :Nat:=0
def PySem.W.Fast.tw4789897318661610081 :Nat:=0
def PySem.W.Fast.tw1986725443535247820 :Nat:=0
def PySem.W.Fast.tw8916557080373800058 :Nat:=0
def PySem.W.Fast.tw18396147372371275566 :Nat:=0
def PySem.W.Fast.tw5447099709633653737 :Nat:=0
def PySem.W.Fast.tw14894494482547767342 :Nat:=0
def PySem.W.Fast.tw15303228193699627796 :Nat:=0
def PySem.W.Fast.tw442364988072876072 :Nat:=0
def PySem.W.Fast.tw6735309059014799305 :Nat:=0
def PySem.W.Fast.tw11080570208171854375 :Nat:=0
def PySem.W.Fast.tw3225255233290842058 :Nat:=0
def PySem.W.Fast.tw17402238344057272268 :Nat:=0
def PySem.W.Fast.tw984820833212301528 :Nat:=0
def PySem.W.Fast.tw14875186471952456469 :Nat:=0
def PySem.W.Fast.tw13757668035287126973 :Nat:=0
def PySem.W.Fast.tw13810834368709212617 :Nat:=0
def PySem.W.Fast.tw12792968165347309031 :Nat:=0
def PySem.W.Fast.tw14584461272755020519 :Nat:=0
def PySem.W.Fast.tw2432364472299438386 :Nat:=0
def PySem.W.Fast.tw3427661522732702733 :Nat:=0
def PySem.W.Fast.tw2689567916175705441 :Nat:=0
def PySem.W.Fast.tw14423563745615869976 :Nat:=0
def PySem.W.Fast.tw8309901540999410855 :Nat:=0
def PySem.W.Fast.tw3307783988587065201 :Nat:=0
def PySem.W.Fast.tw15928119290312288689 :Nat:=0
def PySem.W.Fast.tw3869700554474902701 :Nat:=0
def PySem.W.Fast.tw6942173828145947929 :Nat:=0
def PySem.W.Fast.tw16586633372121936836 :Nat:=0
def PySem.W.Fast.tw12196526118896833182 :Nat:=0
def PySem.W.Fast.tw3005858966229246569 :Nat:=0
def PySem.W.Fast.tw2770126942500071408 :Nat:=0
def PySem.W.Fast.tw4066349789111422094 :Nat:=0
def PySem.W.Fast.tw3724154420017266837 :Nat:=0
def PySem.W.Fast.tw8024914321734167786 :Nat:=0
def PySem.W.Fast.tw5377071562967437353 :Nat:=0
def PySem.W.Fast.tw5128566676139656385 :Nat:=0
def PySem.W.Fast.tw17552968858892720713 :Nat:=0
def PySem.W.Fast.tw2304643667557647681 :Nat:=0
def PySem.W.Fast.tw14256095173273368896 :Nat:=0
def PySem.W.Fast.tw17875512197292424742 :Nat:=0
def PySem.W.Fast.tw4453197397166191571 :Nat:=0
def PySem.W.Fast.tw5383843864484269456 :Nat:=0
def PySem.W.Fast.tw12266089126715777964 :Nat:=0
def PySem.W.Fast.tw6436059307266449822 :Nat:=0
def PySem.W.Fast.tw2594517203203327562 :Nat:=0
def PySem.W.Fast.tw6400684408048906639 :Nat:=0
def PySem.W.Fast.tw9927156568549183216 :Nat:=0
def PySem.W.Fast.tw16361065396585000263 :Nat:=0
def PySem.W.Fast.tw4266188769507586945 :Nat:=0
def PySem.W.Fast.tw13292648938509040073 :Nat:=0
def PySem.W.Fast.tw12819417542986603282 :Nat:=0
def PySem.W.Fast.tw9497296234601556914 :Nat:=0
def PySem.W.Fast.tw233463813138105760 :Nat:=0
def PySem.W.Fast.tw10423340498395926155 :Nat:=0
def PySem.W.Fast.tw3605071442720270956 :Nat:=0
def PySem.W.Fast.tw13879692937656467109 :Nat:=0
def PySem.W.Fast.tw10432044596534797369 :Nat:=0
def PySem.W.Fast.tw3272671357999672608 :Nat:=0
def PySem.W.Fast.tw4678975829877586920 :Nat:=0
def PySem.W.Fast.tw14791380348767203934 :Nat:=0
def PySem.W.Fast.tw2152365375554416731 :Nat:=0
def PySem.W.Fast.tw264283908439682369 :Nat:=0
def PySem.W.Fast.tw14402610884553004364 :Nat:=0
def PySem.W.Fast.tw3587282767932884711 :Nat:=0
def PySem.W.Fast.tw4996929535310580338 :Nat:=0
def PySem.W.Fast.tw10715499056717955074 :Nat:=0
def PySem.W.Fast.tw17607973390840005089 :Nat:=0
def PySem.W.Fast.tw3318076123073254043 :Nat:=0
def PySem.W.Fast.tw10996901185039866026 :Nat:=0
def PySem.W.Fast.tw15684793642624180380 :Nat:=0
def PySem.W.Fast.tw10480789911151969414 :Nat:=0
def PySem.W.Fast.tw12675694199229125600 :Nat:=0
def PySem.W.Fast.tw6147077229017901031 :Nat:=0
def PySem.W.Fast.tw4656152337026787199 :Nat:=0
def PySem.W.Fast.tw4265887237754859070 :Nat:=0
def PySem.W.Fast.tw8824625727257895297 :Nat:=0
def PySem.W.Fast.tw17554297440183730365 :Nat:=0
def PySem.W.Fast.tw10561049000302695356 :Nat:=0
def PySem.W.Fast.tw4284992922022278354 :Nat:=0
def PySem.W.Fast.tw54933856960360501 :Nat:=0
def PySem.W.Fast.tw4200811505878020591 :Nat:=0
def PySem.W.Fast.tw10004387823351395586 :Nat:=0
def PySem.W.Fast.tw15323704555247296218 :Nat:=0
def PySem.W.Fast.tw5609320149216713980 :Nat:=0
def PySem.W.Fast.tw10102976049720291537 :Nat:=0
def PySem.W.Fast.tw12824528729651652994 :Nat:=0
def PySem.W.Fast.tw12193506196341645754 :Nat:=0
def PySem.W.Fast.tw12223192741945562801 :Nat:=0
def PySem.W.Fast.tw11450469829642040162 :Nat:=0
def PySem.W.Fast.tw7188510021961543262 :Nat:=0
def PySem.W.Fast.tw1160919304553268513 :Nat:=0
def PySem.W.Fast.tw14308012200869400498 :Nat:=0
def PySem.W.Fast.tw16242677002600448915 :Nat:=0
open PySem PySem.W PyProof.Rows
set_option maxRecDepth 100000 in
set_option maxHeartbeats 0 in
theorem PySem.Challenge.cw_stayprice_k12_laid_over_holds : PySem.Challenge.rw_stayprice_k12_laid_over.Holds := by
 w_on;o_law;k_head;(case hw=>w_witness2)
 k_fill
 refine K12.walk (l:=PySem.Challenge.rw_stayprice_k12_laid_over) rfl rfl (fun w h Y=>PySem.W.kIn_of Y) ?hF
 case hF=>
  intro w mg fa h KX G hmg
  refine' K12.all_mk KX G hmg (K12.mkG ?_ ?_ ?_ ?_) (K12.mkG ?_ ?_ ?_ ?_) (K12.mkG ?_ ?_ ?_ ?_) (K12.mkG ?_ ?_ ?_ ?_) (K12.mkG ?_ ?_ ?_ ?_) (K12.mkG ?_ ?_ ?_ ?_) (K12.mkG ?_ ?_ ?_ ?_) (K12.mkG ?_ ?_ ?_ ?_) (K12.mkG ?_ ?_ ?_ ?_) (K12.mkG ?_ ?_ ?_ ?_) (K12.mkG ?_ ?_ ?_ ?_) (K12.mkG ?_ ?_ ?_ ?_) (K12.mkG ?_ ?_ ?_ ?_) (K12.mkG ?_ ?_ ?_ ?_) (K12.mkG ?_ ?_ ?_ ?_) (K12.mkG ?_ ?_ ?_ ?_) (K12.mkG ?_ ?_ ?_ ?_) (K12.mkG ?_ ?_ ?_ ?_) (K12.mkG ?_ ?_ ?_ ?_) (K12.mkG ?_ ?_ ?_ ?_) (K12.mkG ?_ ?_ ?_ ?_) (K12.mkG ?_ ?_ ?_ ?_) (K12.mkG ?_ ?_ ?_ ?_) (K12.mkG ?_ ?_ ?_ ?_) ?_ ?_ ?_ ?_ ?_ ?_ ?_ ?_ ?_ ?_ ?_ (K12.mkR ?_ ?_ ?_ ?_ ?_ ?_ ?_ ?_ ?_ ?_ ?_ ?_ ?_ ?_ ?_ ?_ ?_ ?_ ?_ ?_) (K12.mkR ?_ ?_ ?_ ?_ ?_ ?_ ?_ ?_ ?_ ?_ ?_ ?_ ?_ ?_ ?_ ?_ ?_ ?_ ?_ ?_) (K12.mkR ?_ ?_ ?_ ?_ ?_ ?_ ?_ ?_ ?_ ?_ ?_ ?_ ?_ ?_ ?_ ?_ ?_ ?_ ?_ ?_) (K12.mkR ?_ ?_ ?_ ?_ ?_ ?_ ?_ ?_ ?_ ?_ ?_ ?_ ?_ ?_ ?_ ?_ ?_ ?_ ?_ ?_) (K12.mkR ?_ ?_ ?_ ?_ ?_ ?_ ?_ ?_ ?_ ?_ ?_ ?_ ?_ ?_ ?_ ?_ ?_ ?_ ?_ ?_) (K12.mkR ?_ ?_ ?_ ?_ ?_ ?_ ?_ ?_ ?_ ?_ ?_ ?_ ?_ ?_ ?_ ?_ ?_ ?_ ?_ ?_) (K12.mkR ?_ ?_ ?_ ?_ ?_ ?_ ?_ ?_ ?_ ?_ ?_ ?_ ?_ ?_ ?_ ?_ ?_ ?_ ?_ ?_) (K12.mkF ?_ ?_ ?_) (K12.mkF ?_ ?_ ?_) (K12.mkF ?_ ?_ ?_) (K12.mkF ?_ ?_ ?_) (K12.mkF ?_ ?_ ?_) (K12.mkF ?_ ?_ ?_) (K12.mkF ?_ ?_ ?_) (K12.mkF ?_ ?_ ?_) (K12.mkF ?_ ?_ ?_) (K12.mkF ?_ ?_ ?_) ?_ ?_ ?_ ?_ ?_ ?_ ?_ ?_ ?_ (K12.mkF ?_ ?_ ?_) ?_ ?_ (K12.mkF ?_ ?_ ?_) ?_ ?_ ?_ ?_ ?_ ?_ ?_ ?_ ?_ ?_ ?_ ?_ ?_ ?_ ?_ ?_ ?_ ?_ ?_ ?_ ?_ ?_ ?_ ?_ ?_ ?_ ?_ ?_ ?_ ?_ ?_ ?_ ?_ ?_ ?_ ?_ ?_ ?_ ?_ ?_ ?_ ?_ ?_ ?_ ?_ ?_ ?_ ?_ ?_ ?_ ?_
  all_goals try (show _=_;first|k_is|kernel_rfl)
