import PyProof.Rows.All
import Wide.All
import OpenK.AllK
import Wide.FinOn
import Lean
import PyProof.EqAt
import PyProof.EqKinds
import PyProof.TupleCall
import PyProof.AttrMissHeap
import PyProof.DictRoadsH
import KE.KDictOf
import PyProof.P3In
import PyProof.TupleKey
import PySem.Challenge.RW_stayprice_k76_rooms_dealt
set_option Elab.async false
set_option linter.all false
set_option maxRecDepth 100000
def eA := @_root_.PySem.wpAny_bind
def eB := @_root_.PySem.wpAny_pure
def eD := @_root_.List.length_map
def eE := @_root_.PySem.Heap.get?_push_of_some
def eF := @_root_.PyProof.Rows.wpS_bind
def eG := @_root_.Nat.le_refl
def eH := @_root_.List.mem_cons_self
def eJ := @_root_.List.mem_cons
def eK := @_root_.List.mem_cons_of_mem
def eL := @_root_.List.getElem?_eq_getElem
def eM := @_root_.PySem.Heap.lt_size
def eN := @_root_.PyProof.Rows.wpS_pure
def eO := @_root_.Nat.ne_of_lt
def eP := @_root_.List.size_toArray
def eQ := @_root_.PySem.Heap.get?_push_size
def eR := @_root_.List.mem_append_right
def eS := @_root_.List.getElem?_eq_some_iff
def eU := @_root_.List.append_assoc
def eV := @_root_.List.pairwise_append
def eW := @_root_.List.length_append
def eX := @_root_.List.take_append_drop
def eY := @_root_.Array.length_toList
def eZ := @_root_.decide_eq_false
def da := @_root_.List.mem_append_left
def de := @_root_.PySem.W.mg_none_of
def df := @_root_.List.length_cons
def dg := @_root_.List.mem_append
def dh := @_root_.List.getD_eq_getElem?_getD
def di := @_root_.Nat.lt_of_lt_of_le
def dn := @_root_.Bool.false_ne_true
def dq := @_root_.List.not_mem_nil
def du := @_root_.Array.toList_append
def dw := @_root_.getElem?_pos
def dy := @_root_.List.getElem?_map
def dz := @_root_.Option.some.inj
def dA := @_root_.List.length_set
def dB := @_root_.Option.map_eq_some_iff
def dC := @_root_.Nat.lt_succ_of_lt
def dD := @_root_.PySem.wpAny_ite_split
def dE := @_root_.List.drop_eq_getElem_cons
def dF := @_root_.PySem.wpAny_holding
def dG := @_root_.List.map_cons
def dH := @_root_.List.mem_singleton
def dI := @_root_.List.Perm.append_left
def dJ := @_root_.PySem.wpAny_setState_of
def dM := @_root_.Nat.zero_le
def dN := @_root_.List.length_take
def dO := @_root_.PySem.wpAny_mono
def dR := @_root_.Array.getElem?_eq_getElem
def dS := @_root_.PySem.Around.under_plainId
def dU := @_root_.PySem.Heap.get?_update_other
def dW := @_root_.decide_eq_true
def dX := @_root_.PySem.F.called_set
def dY := @_root_.PyProof.Rows.wpS_forRange
def dZ := @_root_.Nat.le_trans
def cb := @_root_.List.getElem?_set_ne
def cc := @_root_.List.mem_of_mem_drop
def cf := @_root_.PySem.codeAny_builtin
def cj := @_root_.List.mem_of_mem_take
def ck := @_root_.PySem.sizeLine_eq
def cm := @_root_.PySem.W.kia_one
def cp := @_root_.or_false
def cq := @_root_.PySem.wpAny_newObj_type
def cu := @_root_.PySem.mem_of_lookup
def cv := @_root_.PySem.Heap.SameBut.update
def cx := @_root_.List.getElem?_zip_eq_some
def cy := @_root_.Classical.byContradiction
def cz := @_root_.PySem.Heap.get?_update_self
def cA := @_root_.List.perm_append_comm
def cB := @_root_.Nat.le_of_lt
def cC := @_root_.List.length_drop
def cD := @_root_.Nat.lt_or_ge
def cE := @_root_.List.mem_of_getElem?
def cF := @_root_.PyProof.Rows.F.plain_set_update_loop
def cG := @_root_.PyProof.Rows.callWith_type1
def cH := @_root_.Array.Perm.refl
def cI := @_root_.List.getElem_of_mem
def cJ := @_root_.List.getElem?_set_self
def cK := @_root_.Int.le_refl
def cL := @_root_.Int.le_trans
def cM := @_root_.PySem.wpAny_call_entry
def cN := @_root_.List.take_length
def cO := @_root_.List.mem_range
def cP := @_root_.Array.getElem?_toList
def cQ := @_root_.List.getElem?_append_left
def cR := @_root_.List.pairwise_iff_getElem
def cS := @_root_.List.append_nil
def cT := @_root_.PySem.wpAny_rule
def cU := @_root_.PyProof.Rows.wpS_mono
def cV := @_root_.List.take_sublist
def cW := @_root_.Int.toNat_natCast
def cX := @_root_.List.drop_sublist
def cY := @_root_.Array.toList_push
def cZ := @_root_.List.pairwise_map
def ba := @_root_.PySem.plainId_quiet
def bf := @_root_.List.getElem?_replicate
def bg := @_root_.List.length_eq_zero_iff
def bh := @_root_.List.lookup_cons
def bj := @_root_.Nat.lt_succ_self
def bo := @_root_.List.drop_length
def bp := @_root_.List.getElem_mem
def bq := @_root_.PySem.wpAny_askSetting
def br := @_root_.PySem.F.plain_max_loop
def bu := @_root_.PySem.wpAny_of_eq
def bw := @_root_.List.Perm.append_right
def bx := @_root_.Bool.false_eq_true
def bz := @_root_.List.pairwise_cons
def bA := @_root_.PySem.wpAny_setField_rec
def bB := @_root_.List.mem_map
def bC := @_root_.List.mem_filter
def bD := @_root_.List.nodup_cons
def bE := @_root_.Nat.le_of_ble_eq_true
def bF := @_root_.List.nil_append
def bG := @_root_.Nat.lt_irrefl
def bH := @_root_.List.getElem?_append_right
def bI := @_root_.Array.toList_setIfInBounds
def bJ := @_root_.Nat.mod_lt
def bK := @_root_.List.extract_eq_take_drop
def bL := @_root_.PyProof.Rows.wpS_modify
def bM := @_root_.Array.toList_reverse
def bN := @_root_.Nat.le_succ
def bO := @_root_.Ne.symm
def bP := @_root_.Nat.ne_of_gt
def bQ := @_root_.List.filterMap_cons
def bR := @_root_.PySem.wpAny_setEntries_of
def bS := @_root_.PySem.F.plainAttrs_list
def bT := @_root_.PyProof.Rows.F.entry_set_update_loop
def bU := @_root_.PySem.wpAny_callSpecial?_slot
def bV := @_root_.List.mem_filterMap
def bW := @_root_.List.find?_cons
def bX := @_root_.Nat.min_eq_left
def bY := @_root_.Int.emod_lt_of_pos
def bZ := @_root_.of_decide_eq_false
def aa := @_root_.List.take_of_length_le
def ae := @_root_.PySem.codeAny_mono
def af := @_root_.PySem.Heap.size_push
def ag := @_root_.List.all_eq_true
def ah := @_root_.Bool.and_eq_true
def ai := @_root_.PySem.intKind_is
def aj := @_root_.Array.toList_extract
def ak := @_root_.List.mem_iff_getElem
def ao := @_root_.Array.perm_iff_toList_perm
def aq := @_root_.List.toList_toArray
def aw := @_root_.List.reverse_append
def ax := @_root_.PySem.wpAny_passesOwn
def ay := @_root_.PySem.wpAny_updateSeq
def az := @_root_.Int.emod_nonneg
def aA := @_root_.PySem.wpAny_Call_Name_kw
def aB := @_root_.Int.le_of_lt
def aC := @_root_.Nat.zero_add
def aD := @_root_.PySem.SetTable.toList_insertAt
def aE := @_root_.List.map_filterMap
def aF := @_root_.List.getElem_append_left
def aG := @_root_.Nat.pow_succ
def aH := @_root_.List.length_zipIdx
def aI := @_root_.if_true
def aJ := @_root_.PySem.wpAny_seqItems
def aK := @_root_.PySem.wpAny_tryCatch
def aM := @_root_.List.pairwise_singleton
def aN := @_root_.PySem.wpAny_pyIter_list
def aO := @_root_.List.take_add_one
def aP := @_root_.PySem.wpAny_storeSet_of
def aQ := @_root_.PySem.fits_of_scanBound
def aR := @_root_.PySem.Heap.get?_push_ne
def aS := @_root_.List.pairwise_lt_range
def aT := @_root_.PySem.wpAny_attempt
def aU := @_root_.PySem.wpAny_forIn_list
def aV := @_root_.if_false
def aW := @_root_.List.getElem_set_self
def aX := @_root_.Bool.eq_iff_iff
def aY := @_root_.PySem.wpAny_loadPart'
def aZ := @_root_.Nat.le_of_eq
def za0 := @_root_.Nat.not_lt_zero
def za1 := @_root_.List.mem_erase_of_ne
def za2 := @_root_.List.map_append
def za3 := @_root_.List.take_take
def za4 := @_root_.Nat.lt_of_le_of_lt
namespace L2
open PySem PySem.Spec PyProof.Rows
abbrev Key :=Sum Int Str
def uu :Key→Value→Bool
 |.inl k,v=>Value.isInt k v
 |.inr x,v=>Value.isStrOf x v
def fK (w:World):Key→Int
 |.inl k=>hashInt k
 |.inr x=>hashStr w x
theorem zz :∀{k:Key} {v:Value},uu k v=true→(∃i t,k=Sum.inl i∧v=Value.int i t)∨(∃x t,k=Sum.inr x∧v=Value.str x t)
 |.inl i,v,h=>by
  obtain⟨t,e⟩:=Value.isInt_shape (k:=i) (v:=v) h
  exact .inl ⟨i,t,rfl,e⟩
 |.inr x,v,h=>by
  obtain⟨t,e⟩:=Value.isStrOf_shape (x:=x) (v:=v) h
  exact .inr ⟨x,t,rfl,e⟩
theorem oz (i:Int)(t:Tok):uu (.inl i) (.int i t)=true:=by simp[uu,Value.isInt]
theorem oo (x:Str)(t:Tok):uu (.inr x) (.str x t)=true:=by simp[uu,Value.isStrOf]
theorem iX (a b:Int):decide ((Sum.inl a:Key)=Sum.inl b)=(a == b):=by
 by_cases e:a=b
 ·subst e;simp
 ·have h:¬(Sum.inl a:Key)=Sum.inl b:=fun q=>e (Sum.inl.inj q)
  rw[eZ h]
  exact (beq_eq_false_iff_ne.mpr e).symm
theorem jU (a b:Str):decide ((Sum.inr a:Key)=Sum.inr b)=decide (a=b):=by
 by_cases e:a=b
 ·subst e;simp
 ·have h:¬(Sum.inr a:Key)=Sum.inr b:=fun q=>e (Sum.inr.inj q)
  rw[eZ h,eZ e]
theorem gg (a:Int)(b:Str):decide ((Sum.inl a:Key)=Sum.inr b)=false:=eZ (fun q=>nomatch q)
theorem jG (a:Str)(b:Int):decide ((Sum.inr a:Key)=Sum.inl b)=false:=eZ (fun q=>nomatch q)
def zW (prog:Program)(w:World):PySem.KeyKind prog w Key where
 is:=uu
 hash:=fK w
 inj:=fun v a b ha hb=>by
  rcases zz ha with ⟨i,t,rfl,rfl⟩|⟨x,t,rfl,rfl⟩
  ·rcases zz hb with ⟨j,u,rfl,e⟩|⟨y,u,rfl,e⟩
   ·injection e with e1 _;rw[e1]
   ·exact nomatch e
  ·rcases zz hb with ⟨j,u,rfl,e⟩|⟨y,u,rfl,e⟩
   ·exact nomatch e
   ·injection e with e1 _;rw[e1]
 byValue:=fun k v h=>by
  rcases zz h with ⟨i,t,rfl,rfl⟩|⟨x,t,rfl,rfl⟩<;>rfl
 pyHash:=fun hv h=>by
  rcases zz hv with ⟨i,t,rfl,rfl⟩|⟨x,t,rfl,rfl⟩
  ·exact wpAny_pyHash_int h
  ·exact wpAny_pyHash_str h
 eqBool:=fun hu hv h=>by
  rcases zz hu with ⟨i,t,rfl,rfl⟩|⟨x,t,rfl,rfl⟩
  ·rcases zz hv with ⟨j,u,rfl,rfl⟩|⟨y,u,rfl,rfl⟩
   ·rw[iX] at h;exact wpAny_eqBool_int h
   ·rw[gg] at h;exact SeqAt.EqAt.int_str i t y u _ _ _ _ h
  ·rcases zz hv with ⟨j,u,rfl,rfl⟩|⟨y,u,rfl,rfl⟩
   ·rw[jG] at h;exact SeqAt.EqAt.str_int x t j u _ _ _ _ h
   ·rw[jU] at h;exact wpAny_eqBool_str h
 «strs»:=fun k x t v h=>by
  rcases zz h with ⟨i,u,rfl,e⟩|⟨y,u,rfl,e⟩
  ·exact nomatch e
  ·injection e with e1 _
   subst e1
   cases v<;>rfl
theorem sD (prog:Program)(w:World)(i:Int)(t:Tok):(zW prog w).is (.inl i) (.int i t)=true:=oz i t
theorem sf (prog:Program)(w:World)(x:Str)(t:Tok):(zW prog w).is (.inr x) (.str x t)=true:=oo x t
inductive V where
 |non|bl (b:Bool)|int (i:Int)|str (x:Str)|byt (b:Array UInt8)|flt (b:UInt64)|ref (a:Addr)|ty (n:String)
 deriving DecidableEq
def RelV :V→Value→Prop
 |.non,u=>u=Value.none
 |.bl b,u=>u=Value.bool b
 |.int i,u=>∃t,u=Value.int i t
 |.str x,u=>∃t,u=Value.str x t
 |.byt b,u=>∃t,u=Value.bytes b t
 |.flt b,u=>∃t,u=Value.float b t
 |.ref a,u=>u=Value.ref a
 |.ty n,u=>u=Value.type n
abbrev Vals :List V→List Value→Prop:=Paired RelV
theorem Vals.length {xs:List V}{us:List Value}(r:Vals xs us):xs.length=us.length:=Paired.length r
theorem Vals.get :∀{xs:List V} {us:List Value} {i:Nat} {x:V},Vals xs us→xs[i]?=some x→∃u,us[i]?=some u∧RelV x u
 |_,_,_,_,.nil,e=>by simp at e
 |_,_,0,_,.cons r _,e=>by simp at e;subst e;exact⟨_,rfl,r⟩
 |_,_,i+1,x,.cons _ t,e=>by
  obtain⟨u,h1,h2⟩:=Vals.get (i:=i) (x:=x) t (by simpa using e)
  exact⟨u,by simpa using h1,h2⟩
theorem Vals.set {x:V}{u:Value}(r:RelV x u):∀{xs:List V} {us:List Value} (i:Nat),Vals xs us→Vals (xs.set i x) (us.set i u)
 |_,_,_,.nil=>.nil
 |_,_,0,.cons _ t=>.cons r t
 |_,_,i+1,.cons q t=>.cons q (Vals.set r i t)
theorem Vals.append :∀{xs ys:List V} {us ws:List Value},Vals xs us→Vals ys ws→Vals (xs++ys) (us++ws)
 |_,_,_,_,.nil,s=>s
 |_,_,_,_,.cons r t,s=>.cons r (Vals.append t s)
theorem Vals.take :∀{xs:List V} {us:List Value} (n:Nat),Vals xs us→Vals (xs.take n) (us.take n)
 |_,_,0,_=>.nil
 |_,_,_+1,.nil=>.nil
 |_,_,n+1,.cons r t=>.cons r (Vals.take n t)
theorem Vals.drop :∀{xs:List V} {us:List Value} (n:Nat),Vals xs us→Vals (xs.drop n) (us.drop n)
 |_,_,0,r=>r
 |_,_,_+1,.nil=>.nil
 |_,_,n+1,.cons _ t=>Vals.drop n t
def uF :Option V→Option Value→Prop
 |some v,some u=>RelV v u
 |none,none=>True
 |_,_=>False
def KV {κ:Type}:List (κ×V)→List (κ×Value)→Prop:=Paired fun (p:κ×V) (q:κ×Value)=>p.1=q.1∧RelV p.2 q.2
def kV :Key→V
 |.inl i=>.int i
 |.inr x=>.str x
inductive HO where
  |lst (xs:List V)
  |tup (xs:List V)
  |dK (kvs:List (Key×V))|dT (kvs:List (List Key×V))
  |set (S:Int→Bool) (n:Nat)
  |ins (C dx:Addr) (fs:List (Str×V))
  |own (x:Addr)
  |xd (fs:List (Str×V))
  |met (f x:Addr)
  |rng (lo hi:Int)
  |frz (o:Obj) (u:HO)
  |tbl (ps:Array Value)
  |ext (φ:Heap→Prop)
abbrev Hp :=Addr→Option HO
def upd (H:Hp)(a:Addr)(o:HO):Hp:=fun b=>if b=a then some o else H b
theorem zh {H:Hp}{a:Addr}{o:HO}:upd H a o a=some o:=by unfold upd;rw[if_pos rfl]
theorem ze {H:Hp}{a b:Addr}{o:HO}(h:b≠a):upd H a o b=H b:=by unfold upd;rw[if_neg h]
theorem zf {H:Hp}{a b:Addr}{o:HO}(h:H a=some o)(h':H b=none):a≠b:=by
 intro e;subst e;rw[h] at h';cases h'
section
variable (P:Program)(w:World)
def zw (H:Hp)(h:Heap)(a:Addr):HO→Prop
 |.lst xs=>xs.length≤sizeLine∧∃(its:List Value) (n:Nat),Vals xs its∧h.get? a=some {cls:=.type "list",data:=.seq its.toArray n}
 |.tup xs=>xs.length≤sizeLine∧∃its:List Value,Vals xs its∧IsTup h a its.toArray
 |.dK kvs=>kvs.length≤sizeLine∧(a == sysModules)=false∧∃vs,KV kvs vs∧h.DictOf (zW P w) a vs
 |.dT kvs=>kvs.length≤sizeLine∧(a == sysModules)=false∧∃xs:List (List Key×Addr×Value),
   Paired (fun (p:List Key×V) (q:List Key×Addr×Value)=>p.1=q.1∧H q.2.1=some (.tup (p.1.map kV))∧RelV p.2 q.2.2) kvs xs∧
   ∃o es ep,h.get? a=some o∧o.ExactDict∧o.data=.dict es ep∧es.toList=xs.map (entryOfKey (tupleKind (zW P w)))∧(xs.map (·.1)).Nodup
 |.set S n=>h.SetOf (intKind P w) a S n
 |.ins C dx fs=>H dx=some (.own a)∧fs.length≤1000∧dx≠a∧h.get? a=some (PySem.W.instObj C dx)∧
   ∃mA,h.Ns1 dx mA∧(∀f,uF (fs.lookup f) (mA f))∧PySem.Within mA (fs.map (·.1))
 |.own _=>∃o,h.get? a=some o
 |.xd fs=>∃mA,h.Ns1 a mA∧∀f,uF (fs.lookup f) (mA f)
 |.rng lo hi=>∃t u v,h.get? a=some {cls:=.type "range",data:=.fields #[.int lo t,.int hi u,.int 1 v]}
 |.frz o u=>h.get? a=some o∧zw H h a u
 |.tbl ps=>h.get? a=some {cls:=.none,data:=.fields ps}
 |.met f x=>h.get? a=some (PySem.W.methodObj (.ref f) (.ref x))
 |.ext φ=>φ h∧(∃o,h.get? a=some o)∧∀h1 h2:Heap,φ h1→(∀o,h1.get? a=some o→h2.get? a=some o)→φ h2
def HOk (H:Hp)(h:Heap):Prop:=∀a o,H a=some o→zw P w H h a o
end
section
variable {P:Program}{w:World}{H H':Hp}{h h':Heap}{a:Addr}{o:HO}
theorem zw.lt (x:zw P w H h a o):a<h.objs.size:=by
 cases o with
 |lst xs=>obtain⟨_,_,_,_,e⟩:=x;exact eM e
 |tup xs=>obtain⟨_,_,_,p⟩:=x;exact p.lt
 |dK kvs=>obtain⟨_,_,_,_,o,_,_,e,_⟩:=x;exact eM e
 |dT kvs=>obtain⟨_,_,_,_,o,_,_,e,_⟩:=x;exact eM e
 |set S n=>obtain⟨o,_,_,_,e,_⟩:=x;exact eM e
 |ins C dx fs=>obtain⟨_,_,_,e,_⟩:=x;exact eM e
 |own y=>obtain⟨_,e⟩:=x;exact eM e
 |xd fs=>obtain⟨_,⟨_,_,_,e,_⟩,_⟩:=x;exact eM e
 |rng lo hi=>obtain⟨_,_,_,e⟩:=x;exact eM e
 |frz ob u=>obtain⟨e,_⟩:=x;exact eM e
 |tbl ps=>exact eM (show h.get? a=some _ from x)
 |met f y=>exact eM (show h.get? a=some _ from x)
 |ext φ=>obtain⟨_,⟨_,e⟩,_⟩:=x;exact eM e
theorem Paired.mapP {α β:Type}{F G:α→β→Prop}:∀{l₁:List α} {l₂:List β},Paired F l₁ l₂→(∀a b,F a b→G a b)→Paired G l₁ l₂
 |_,_,.nil,_=>.nil
 |_,_,.cons r t,f=>.cons (f _ _ r) (Paired.mapP t f)
theorem zw.stay (x:zw P w H h a o)(k:∀b u,(b=a∨H b=some (.own a))→h.get? b=some u→h'.get? b=some u)
  (ho:∀b,H b=some (.own a)→H' b=some (.own a)) (ht:∀b xs,H b=some (.tup xs)→H' b=some (.tup xs)):zw P w H' h' a o:=by
 induction o with
 |lst xs=>obtain⟨z,its,n,r,e⟩:=x;exact⟨z,its,n,r,k _ _ (.inl rfl) e⟩
 |tup xs=>obtain⟨z,its,r,ob,e,c⟩:=x;exact⟨z,its,r,ob,k _ _ (.inl rfl) e,c⟩
 |dK kvs=>obtain⟨z,y,vs,r,ob,es,ep,e,c⟩:=x;exact⟨z,y,vs,r,ob,es,ep,k _ _ (.inl rfl) e,c⟩
 |dT kvs=>
  obtain⟨z,y,xs,r,ob,es,ep,e,c⟩:=x
  exact⟨z,y,xs,Paired.mapP r fun p q z=>⟨z.1,ht _ _ z.2.1,z.2.2⟩,ob,es,ep,k _ _ (.inl rfl) e,c⟩
 |set S n=>obtain⟨ob,es,ep,t,e,c⟩:=x;exact⟨ob,es,ep,t,k _ _ (.inl rfl) e,c⟩
 |ins C dx fs=>
  obtain⟨d,z,ne,e,mA,⟨od,es,ep,e2,c⟩,r⟩:=x
  exact⟨ho _ d,z,ne,k _ _ (.inl rfl) e,mA,⟨od,es,ep,k _ _ (.inr d) e2,c⟩,r⟩
 |own y=>obtain⟨ob,e⟩:=x;exact⟨ob,k _ _ (.inl rfl) e⟩
 |xd fs=>obtain⟨mA,⟨od,es,ep,e,c⟩,r⟩:=x;exact⟨mA,⟨od,es,ep,k _ _ (.inl rfl) e,c⟩,r⟩
 |rng lo hi=>obtain⟨t,u,v,e⟩:=x;exact⟨t,u,v,k _ _ (.inl rfl) e⟩
 |frz ob u ih=>obtain⟨e,q⟩:=x;exact⟨k _ _ (.inl rfl) e,ih q⟩
 |tbl ps=>
  have e:h.get? a=some {cls:=.none,data:=.fields ps}:=x
  show h'.get? a=some {cls:=.none,data:=.fields ps}
  exact k a _ (.inl rfl) e
 |met f y=>
  have e:h.get? a=some (PySem.W.methodObj (.ref f) (.ref y)):=x
  show h'.get? a=some (PySem.W.methodObj (.ref f) (.ref y))
  exact k a _ (.inl rfl) e
 |ext φ=>obtain⟨p,⟨o,e⟩,st⟩:=x;exact⟨st _ _ p fun o q=>k _ _ (.inl rfl) q,⟨o,k _ _ (.inl rfl) e⟩,st⟩
theorem HOk.lt (x:HOk P w H h)(e:H a=some o):a<h.objs.size:=(x a o e).lt
theorem HOk.fresh (x:HOk P w H h)(e:h.objs.size≤a):H a=none:=by
 cases q:H a with
 |none=>rfl
 |some u=>exact absurd (di (x.lt q) e) (bG _)
theorem HOk.kept (x:HOk P w H h)(k:∀b u,h.get? b=some u→h'.get? b=some u):HOk P w H h':=fun a o e=>
 (x a o e).stay (fun b u _ q=>k b u q) (fun _ q=>q) fun _ _ q=>q
theorem HOk.laid (x:HOk P w H h)(k:∀b u,h.get? b=some u→h'.get? b=some u)(hp:h.objs.size≤a)(new:zw P w (upd H a o) h' a o):HOk P w (upd H a o) h':=fun b u e=>by
 have hn:=x.fresh hp
 by_cases hb:b=a
 ·subst hb;rw[zh] at e;cases e;exact new
 ·rw[ze hb] at e
  exact (x b u e).stay (fun c v _ q=>k c v q) (fun c q=>by rw[ze (zf q hn)];exact q) fun c xs q=>by rw[ze (zf q hn)];exact q
end
def Rd (H:Hp)(a:Addr)(u:HO):Prop:=H a=some u∨∃o,H a=some (.frz o u)
theorem Rd.ok {P:Program}{w:World}{H:Hp}{h:Heap}{a:Addr}{u:HO}(r:Rd H a u)(x:HOk P w H h):zw P w H h a u:=by
 rcases r with r|⟨o,r⟩
 ·exact x a u r
 ·obtain⟨_,q⟩:=x a _ r
  exact q
def Mut :Option HO→Prop
 |some (.lst _)=>True
 |some (.dK _)=>True
 |some (.dT _)=>True
 |some (.set _ _)=>True
 |some (.ins _ _ _)=>True
 |some (.ext _)=>True
 |_=>False
section
variable {P:Program}{w:World}{H:Hp}{h h':Heap}{x e:Addr}{o':HO}
theorem HOk.write (ok:HOk P w H h)(mu:Mut (H x))(he:e=x∨H e=some (.own x))(k:∀b u,b≠e→h.get? b=some u→h'.get? b=some u)(heo:∃u,h'.get? e=some u)
  (new:zw P w (upd H x o') h' x o'):HOk P w (upd H x o') h':=fun b u q=>by
 have nown:∀c y,H c=some (.own y)→c≠x:=fun c y r z=>by subst z;rw[r] at mu;exact mu
 have ntup:∀c xs,H c=some (.tup xs)→c≠x:=fun c xs r z=>by subst z;rw[r] at mu;exact mu
 by_cases hb:b=x
 ·subst hb;rw[zh] at q;cases q;exact new
 ·rw[ze hb] at q
  by_cases hbe:b=e
  ·have q':H b=some (.own x):=by
    rcases he with z|z
    ·exact absurd (hbe.trans z) hb
    ·rw[hbe];exact z
   rw[q] at q';cases q'
   obtain⟨v,hv⟩:=heo
   exact⟨v,by rw[hbe];exact hv⟩
  ·refine (ok b u q).stay (fun c v hc r=>k c v ?_ r) (fun c r=>by rw[ze (nown c b r)];exact r) fun c xs r=>by rw[ze (ntup c xs r)];exact r
   rcases hc with rfl|hc
   ·exact hbe
   ·rintro rfl
    rcases he with z|z
    ·exact nown c b hc z
    ·rw[hc] at z;cases z;exact hb rfl
end
structure Un (fs ex:List Addr)(H H':Hp)(h h':Heap):Prop where
 keep:∀b o,h.get? b=some o→H b=none→b∉fs→b∉ex→h'.get? b=some o
 slot:∀b o,h.get? b=some o→H b=none→b∈fs→b∉ex→∃sl,h'.get? b=some {o with slots:=sl}
 free:∀b o,h.get? b=some o→H b=none→b∉ex→H' b=none
 there:∀b o,h.get? b=some o→b∉ex→∃o',h'.get? b=some o'
 tups:∀b xs,H b=some (.tup xs)→H' b=some (.tup xs)
 frzs:∀b o u,H b=some (.frz o u)→H' b=some (.frz o u)
 tbls:∀b ps,H b=some (.tbl ps)→∃more,H' b=some (.tbl (ps++more))
section
variable {fs fs' ex ex':List Addr}{H H1 H2:Hp}{h h1 h2 h':Heap}{a x e:Addr}{o:HO}
theorem Un.any (u:Un fs ex H H1 h h1){b:Addr}{ob:Obj}(q:h.get? b=some ob)(n:H b=none)(hx:b∉ex):∃sl,h1.get? b=some {ob with slots:=sl}:=by
 by_cases hb:b∈fs
 ·exact u.slot b ob q n hb hx
 ·exact⟨ob.slots,u.keep b ob q n hb hx⟩
theorem Un.kept (k:∀b u,h.get? b=some u→h'.get? b=some u):Un fs ex H H h h':=
 ⟨fun b ob q _ _ _=>k b ob q,fun b ob q _ _ _=>⟨ob.slots,k b ob q⟩,fun _ _ _ n _=>n,fun b ob q _=>⟨ob,k b ob q⟩,fun _ _ q=>q,fun _ _ _ q=>q,fun _ ps q=>⟨#[],by rw[q];simp⟩⟩
theorem Un.refl :Un fs ex H H h h:=Un.kept fun _ _ q=>q
theorem Un.laid (k:∀b u,h.get? b=some u→h'.get? b=some u)(hp:h.objs.size≤a)(hn:H a=none):Un fs ex H (upd H a o) h h' where
 keep:=fun b u q _ _ _=>k b u q
 slot:=fun b u q _ _ _=>⟨u.slots,k b u q⟩
 free:=fun b u q n _=>by rw[ze (eO (di (eM q) hp))];exact n
 there:=fun b u q _=>⟨u,k b u q⟩
 tups:=fun b xs q=>by rw[ze (zf q hn)];exact q
 frzs:=fun b u xs q=>by rw[ze (zf q hn)];exact q
 tbls:=fun b ps q=>⟨#[],by rw[ze (zf q hn),q];simp⟩
theorem Un.write (mu:Mut (H x))(he:e=x∨H e=some (.own x))(k:∀b u,b≠e→h.get? b=some u→h'.get? b=some u)(heo:∃u,h'.get? e=some u):Un fs ex H (upd H x o) h h':=by
 have hx:∀b,H b=none→b≠x:=fun b n z=>by subst z;rw[n] at mu;exact mu
 have hb:∀b,H b=none→b≠e:=fun b n z=>by
  subst z
  rcases he with r|r
  ·exact hx b n r
  ·rw[n] at r;cases r
 have hm:∀b u,H b=some u→¬Mut (some u)→b≠x:=fun b u q nm z=>by subst z;rw[q] at mu;exact nm mu
 refine⟨fun b u q n _ _=>k b u (hb b n) q,fun b u q n _ _=>⟨u.slots,k b u (hb b n) q⟩,fun b u q n _=>by rw[ze (hx b n)];exact n,fun b u q _=>?_,
  fun b xs q=>by rw[ze (hm b _ q fun z=>z)];exact q,fun b u xs q=>by rw[ze (hm b _ q fun z=>z)];exact q,fun b ps q=>⟨#[],by rw[ze (hm b _ q fun z=>z),q];simp⟩⟩
 by_cases hbe:b=e
 ·subst hbe;exact heo
 ·exact⟨u,k b u hbe q⟩
end
def trk (h:Heap)(H:Hp):List Addr:=(List.range h.objs.size).filter fun a=>(H a).isSome
def tq (h:Heap)(H:Hp):Heap:=PySem.W.hideAll h (trk h H)
theorem pQ (h:Heap)(H:Hp):(tq h H).objs.size=h.objs.size:=PySem.W.hideAll_size _ _
theorem nO {h:Heap}{H:Hp}{b:Addr}{o:Obj}(e:h.get? b=some o)(n:H b=none):(tq h H).get? b=some o:=
 PySem.W.hideAll_get _ e fun hm=>by
  have q:(H b).isSome=true:=(bC.mp hm).2
  rw[n] at q;simp at q
theorem lL {h:Heap}{H:Hp}{b:Addr}{o:Obj}(e:(tq h H).get? b=some o):h.get? b=some o∧H b=none:=by
 have e':h.get? b=some o:=PySem.W.of_hideAll (trk h H) e
 refine⟨e',?_⟩
 cases q:H b with
 |none=>rfl
 |some x=>
  have hm:b∈trk h H:=bC.mpr ⟨cO.mpr (eM e'),by simp[q]⟩
  have z:(tq h H).get? b=none:=PySem.W.hideAll_none (trk h H) hm
  rw[z] at e;cases e
structure Mod (K:PySem.W.Frag)(mg:Str→Option Value)(base:Heap):Prop where
 kin:K.In base
 glob:base.Ns mainGlobals mg
 blt:∃mb,base.Ns builtinsNs mb∧∀x:Str,x≠"__name__"→mb x=bootBuiltins x
 nolimit:base.NoLimit
structure Cx where
 prog:Program
 w:World
 K:PySem.W.Frag
 mg:Str→Option Value
 base:Heap
 A:Around
 N:List Str
 s₀:Shared
 H₀:Hp
 env:Env
 outer:List Env
 stack:List Env
 ex:List Addr
 fn:Str→Bool
 calm:Bool
 pn:List (Addr×Obj)
 xe:Value→Shared→Prop
def frs (l:List Env):List Addr:=l.filterMap (·.frame)
abbrev Cx.fs (X:Cx):List Addr:=frs X.outer
def Vis (sc:Scope)(x:Str):Prop:=sc.names.lookup x=some .local∨sc.names.lookup x=some .cell∨sc.names.lookup x=some .free
def Loc (sc:Scope)(x:Str):Prop:=sc.names.lookup x=some .local∨sc.names.lookup x=some .cell
def Look (env:Env)(h:Heap)(m:Str→Option Value)(x:Str)(u:Value):Prop:=
 (env.kindOf x=some .local∧m x=some u)∨((env.kindOf x=some .cell∨env.kindOf x=some .free)∧∃c,env.cells.lookup x=some c∧h.IsCell c (some u))
structure Cx.Ok (X:Cx):Prop where
 mod:Mod X.K X.mg X.base
 kind:X.env.scope.kind=.function
 glob:X.env.globals=mainGlobals
 blt:X.env.builtins=builtinsNs
 above:X.s₀.heap.objs.size≤X.env.locals
 inj:∀x y c,X.env.cells.lookup x=some c→X.env.cells.lookup y=some c→x=y
 has:∀x,(X.env.kindOf x=some .cell∨X.env.kindOf x=some .free)→∃c,X.env.cells.lookup x=some c
 cab:∀x c,X.fn x=true→X.env.cells.lookup x=some c→X.s₀.heap.objs.size≤c
 hd:X.calm=true→X.A.handled=none
 frames:X.A.frames=some X.stack
 stk:X.stack=X.outer∨(X.stack=X.env::X.outer∧X.env.frame=some X.env.locals)
 exf:∀b∈X.ex,b≠X.env.locals∧∀x c,X.env.cells.lookup x=some c→c≠b
 bs:∀b o,X.base.get? b=some o→X.s₀.heap.get? b=some o∧X.H₀ b=none
 bsz:X.base.objs.size≤X.s₀.heap.objs.size
 noex:∀b o,X.base.get? b=some o→b∉X.ex
 exfs:∀b∈X.ex,b∉X.fs
 funs:X.s₀.heap.FunFrames X.base X.outer
 frf:∀b∈X.fs,X.H₀ b=none
structure Inv (X:Cx)(pins:List (Addr×Obj))(σ:List (Option V))(H:Hp)(s:Shared):Prop where
 ok:X.Ok
 os:s.os=X.s₀.os
 bare:AllBare s.gens
 base:Un X.fs X.ex X.H₀ H X.s₀.heap s.heap
 loc:∃m,s.heap.Ns X.env.locals m∧∀(i:Nat) (x:Str) (v:V),X.N[i]?=some x→σ[i]?=some (some v)→Vis X.env.scope x→∃u,RelV v u∧Look X.env s.heap m x u
 cell:∀x c,X.env.cells.lookup x=some c→∃v,s.heap.IsCell c v
 free:H X.env.locals=none
 freeC:∀x c,X.env.cells.lookup x=some c→H c=none
 pin:∀p∈X.pn++pins,s.heap.get? p.1=some p.2∧H p.1=none∧p.1≠X.env.locals∧p.1∉X.fs∧∀v,p.2.data≠.cell v
 hok:HOk X.prog X.w H s.heap
 len:σ.length=X.N.length
section
variable {X:Cx}{pins:List (Addr×Obj)}{σ:List (Option V)}{H H':Hp}{s:Shared}{h':Heap}
theorem Cx.Ok.nofr (ok:X.Ok){b:Addr}{o:Obj}(e:X.base.get? b=some o):b∉X.fs:=fun hb=>by
 have:=(ok.funs.mem hb).1
 rw[e] at this;cases this
theorem Inv.bs (I:Inv X pins σ H s):∀b o,X.base.get? b=some o→s.heap.get? b=some o∧H b=none:=fun b o e=>
 ⟨I.base.keep b o (I.ok.bs b o e).1 (I.ok.bs b o e).2 (I.ok.nofr e) (I.ok.noex b o e),I.base.free b o (I.ok.bs b o e).1 (I.ok.bs b o e).2 (I.ok.noex b o e)⟩
theorem Inv.bk (I:Inv X pins σ H s):∀b o,X.base.get? b=some o→s.heap.get? b=some o:=fun b o e=>(I.bs b o e).1
theorem Inv.mod (I:Inv X pins σ H s):Mod X.K X.mg X.base:=I.ok.mod
theorem Inv.kIn (I:Inv X pins σ H s):X.K.In s.heap:=I.ok.mod.kin.keeps I.bk
theorem Inv.lt (I:Inv X pins σ H s):X.env.locals<s.heap.objs.size:=let ⟨_,hn,_⟩:=I.loc;hn.lt
theorem Inv.sz (I:Inv X pins σ H s):X.s₀.heap.objs.size≤s.heap.objs.size:=dZ I.ok.above (cB I.lt)
theorem Inv.nofs (I:Inv X pins σ H s){a:Addr}(h:s.heap.objs.size≤a):a∉X.fs:=fun hb=>by
 obtain⟨_,o,ho,_⟩:=I.ok.funs.mem hb
 exact absurd (di (eM ho) (dZ I.sz h)) (bG _)
theorem Inv.cne (I:Inv X pins σ H s):∀x c,X.env.cells.lookup x=some c→c≠X.env.locals:=fun x c e z=>by
 obtain⟨v,o,ho,hd⟩:=I.cell x c e
 obtain⟨m,⟨o',es,ep,ho',hd',_⟩,_⟩:=I.loc
 rw[z,ho'] at ho;cases ho;rw[hd'] at hd;cases hd
theorem Inv.funs (I:Inv X pins σ H s):s.heap.FunFrames X.base X.outer:=by
 have all:∀(l:List Env),(∀b∈frs l,b∈X.fs)→X.s₀.heap.FunFrames X.base l→s.heap.FunFrames X.base l:=by
  intro l
  induction l with
  |nil=>intro _ _;trivial
  |cons env r ih=>
   intro hs hl
   obtain⟨hk,⟨L,o,hf,hn,ho,hd⟩,hr⟩:=hl
   have hL:L∈X.fs:=hs L (by unfold frs;rw[bQ,hf];exact eH)
   obtain⟨sl,e⟩:=I.base.slot L o ho (I.ok.frf L hL) hL fun z=>I.ok.exfs L z hL
   exact⟨hk,⟨L,_,hf,hn,e,hd⟩,ih (fun b hb=>hs b (by unfold frs;rw[bQ,hf];exact eK _ hb)) hr⟩
 exact all X.outer (fun _ hb=>hb) I.ok.funs
theorem Inv.stack (I:Inv X pins σ H s):s.heap.FunFrames X.base X.stack:=by
 rcases I.ok.stk with e|⟨e,hf⟩
 ·rw[e];exact I.funs
 ·rw[e]
  obtain⟨m,hn,_⟩:=I.loc
  refine .cons (by rw[I.ok.kind];decide) hf hn ?_ I.funs
  exact Heap.get?_none_of_le (dZ I.ok.bsz I.ok.above)
theorem Inv.stkSub (I:Inv X pins σ H s):∀b∈frs X.stack,b∈X.env.locals::X.fs:=fun b hb=>by
 rcases I.ok.stk with e|⟨e,hf⟩
 ·rw[e] at hb;exact eK _ hb
 ·rw[e] at hb
  unfold frs at hb
  rw[bQ,hf] at hb
  exact hb
theorem Inv.stkFree (I:Inv X pins σ H s):∀b∈frs X.stack,H b=none:=fun b hb=>by
 rcases eJ.mp (I.stkSub b hb) with e|hb
 ·rw[e];exact I.free
 ·obtain⟨_,o,ho,_⟩:=I.ok.funs.mem hb
  exact I.base.free b o ho (I.ok.frf b hb) fun z=>I.ok.exfs b z hb
theorem Inv.step {g':Array GenState}{t':Nat}{d':Drawn}{ch:List Addr}(I:Inv X pins σ H s)
  (hch:∀b∈ch,(b∈X.ex∨X.s₀.heap.objs.size≤b)∧b≠X.env.locals∧(∀x c,X.env.cells.lookup x=some c→c≠b)∧∀p∈X.pn++pins,p.1≠b)
  (keep:∀b o,b≠X.env.locals→b∉X.fs→b∉ch→s.heap.get? b=some o→H b=none→h'.get? b=some o)
  (slot:∀b o,b≠X.env.locals→b∈X.fs→b∉ch→s.heap.get? b=some o→H b=none→∃sl,h'.get? b=some {o with slots:=sl}) (free:∀b o,b∉ch→s.heap.get? b=some o→H b=none→H' b=none)
  (there:∀b o,b∉ch→s.heap.get? b=some o→∃o',h'.get? b=some o')
  (tups:∀b xs,H b=some (.tup xs)→H' b=some (.tup xs)) (frzs:∀b o u,H b=some (.frz o u)→H' b=some (.frz o u)) (tbls:∀b ps,H b=some (.tbl ps)→∃more,H' b=some (.tbl (ps++more)))
  (ns:∀m,s.heap.Ns X.env.locals m→h'.Ns X.env.locals m) (hok:HOk X.prog X.w H' h') (hg:AllBare g'):
  Inv X pins σ H' {s with heap:=h',gens:=g',drawn:=d',toks:=t'}:=by
 have neL:∀b o,X.s₀.heap.get? b=some o→b≠X.env.locals:=fun b o e=>eO (di (eM e) I.ok.above)
 have neC:∀b o,X.s₀.heap.get? b=some o→b∉X.ex→b∉ch:=fun b o e hx hb=>by
  rcases (hch b hb).1 with z|z
  ·exact hx z
  ·exact absurd (di (eM e) z) (bG _)
 have cellK:∀x c,X.env.cells.lookup x=some c→∀v,s.heap.IsCell c v→h'.IsCell c v:=fun x c e v ⟨o,ho,hd⟩=>by
  have nch:c∉ch:=fun z=>(hch c z).2.2.1 x c e rfl
  by_cases hc:c∈X.fs
  ·obtain⟨sl,q⟩:=slot c o (I.cne x c e) hc nch ho (I.freeC x c e)
   exact⟨_,q,hd⟩
  ·exact⟨o,keep c o (I.cne x c e) hc nch ho (I.freeC x c e),hd⟩
 refine⟨I.ok,I.os,hg,⟨fun b o e n hb hx=>?_,fun b o e n hb hx=>?_,fun b o e n hx=>?_,fun b o e hx=>?_,fun b xs e=>tups b xs (I.base.tups b xs e),fun b o xs e=>frzs b o xs (I.base.frzs b o xs e),fun b ps e=>?_⟩,?_,fun x c e=>?_,?_,fun x c e=>?_,fun p hp=>?_,hok,I.len⟩
 ·exact keep b o (neL b o e) hb (neC b o e hx) (I.base.keep b o e n hb hx) (I.base.free b o e n hx)
 ·obtain⟨sl,e1⟩:=I.base.slot b o e n hb hx
  obtain⟨sl',e2⟩:=slot b _ (neL b o e) hb (neC b o e hx) e1 (I.base.free b o e n hx)
  exact⟨sl',e2⟩
 ·obtain⟨o',e1⟩:=I.base.there b o e hx
  exact free b o' (neC b o e hx) e1 (I.base.free b o e n hx)
 ·obtain⟨o',e1⟩:=I.base.there b o e hx
  exact there b o' (neC b o e hx) e1
 ·obtain⟨m1,e1⟩:=I.base.tbls b ps e
  obtain⟨m2,e2⟩:=tbls b _ e1
  exact⟨m1++m2,by rw[e2,Array.append_assoc]⟩
 ·obtain⟨m,hn,hl⟩:=I.loc
  refine⟨m,ns m hn,fun i x v e1 e2 e3=>?_⟩
  obtain⟨u,r,l⟩:=hl i x v e1 e2 e3
  refine⟨u,r,?_⟩
  rcases l with l|⟨k,c,e,z⟩
  ·exact .inl l
  ·exact .inr ⟨k,c,e,cellK x c e _ z⟩
 ·obtain⟨v,z⟩:=I.cell x c e
  exact⟨v,cellK x c e v z⟩
 ·obtain⟨m,⟨o,_,_,ho,_⟩,_⟩:=I.loc
  exact free _ o (fun z=>(hch _ z).2.1 rfl) ho I.free
 ·obtain⟨v,o,ho,hd⟩:=I.cell x c e
  exact free c o (fun z=>(hch c z).2.2.1 x c e rfl) ho (I.freeC x c e)
 ·obtain⟨e,n,ne,nf,d⟩:=I.pin p hp
  have nch:p.1∉ch:=fun z=>(hch p.1 z).2.2.2 p hp rfl
  exact⟨keep p.1 p.2 ne nf nch e n,free p.1 p.2 nch e n,ne,nf,d⟩
theorem Inv.un {t':Nat}(I:Inv X pins σ H s)(u:Un X.fs [] H H' s.heap h')(hok:HOk X.prog X.w H' h'):Inv X pins σ H' {s with heap:=h',toks:=t'}:=by
 obtain⟨m,⟨o,es,ep,ho,r⟩,_⟩:=id I.loc
 obtain⟨sl,hL⟩:=u.any ho I.free (by simp)
 exact I.step (g':=s.gens) (d':=s.drawn) (ch:=[]) (fun _ z=>nomatch z) (fun b o _ hb _ e n=>u.keep b o e n hb (by simp)) (fun b o _ hb _ e n=>u.slot b o e n hb (by simp)) (fun b o _ e n=>u.free b o e n (by simp)) (fun b o _ e=>u.there b o e (by simp)) u.tups u.frzs u.tbls (fun m' hm=>by
  obtain⟨o',es',ep',ho',r'⟩:=hm
  rw[ho] at ho';cases ho'
  exact⟨_,es',ep',hL,r'⟩) hok I.bare
theorem Inv.call {g':Array GenState}{t':Nat}{d':Drawn}{ch:List Addr}(I:Inv X pins σ H s)(u:Un (frs X.stack) ch H H' s.heap h')(hok:HOk X.prog X.w H' h')(hg:AllBare g')
  (hch:∀b∈ch,(b∈X.ex∨X.s₀.heap.objs.size≤b)∧b≠X.env.locals∧(∀x c,X.env.cells.lookup x=some c→c≠b)∧∀p∈X.pn++pins,p.1≠b):
  Inv X pins σ H' {s with heap:=h',gens:=g',drawn:=d',toks:=t'}:=by
 obtain⟨m,⟨o,es,ep,ho,r⟩,_⟩:=id I.loc
 obtain⟨sl,hL⟩:=u.any ho I.free fun z=>(hch _ z).2.1 rfl
 exact I.step (ch:=ch) hch (fun b o hL hb hc e n=>u.keep b o e n (fun z=>(eJ.mp (I.stkSub b z)).elim hL hb) hc) (fun b o _ _ hc e n=>u.any e n hc) (fun b o hc e n=>u.free b o e n hc) (fun b o hc e=>u.there b o e hc) u.tups u.frzs u.tbls (fun m' hm=>by
  obtain⟨o',es',ep',ho',r'⟩:=hm
  rw[ho] at ho';cases ho'
  exact⟨_,es',ep',hL,r'⟩) hok hg
theorem Inv.turned {t':Nat}{it:Addr}(I:Inv X pins σ H s)(k:∀b o,b≠it→s.heap.get? b=some o→h'.get? b=some o)(hn:H it=none)(hL:it≠X.env.locals)
  (h1:it∈X.ex∨X.s₀.heap.objs.size≤it) (h2:∀x c,X.env.cells.lookup x=some c→c≠it) (h3:∀p∈X.pn++pins,p.1≠it):Inv X pins σ H {s with heap:=h',toks:=t'}:=by
 have nit:∀b u,H b=some u→b≠it:=fun b u e z=>by rw[z,hn] at e;cases e
 refine I.step (g':=s.gens) (d':=s.drawn) (ch:=[it]) (fun b hb=>?_) (fun b o _ _ hc e _=>k b o (fun z=>hc (by simp[z])) e) (fun b o _ _ hc e _=>⟨o.slots,k b o (fun z=>hc (by simp[z])) e⟩) (fun _ _ _ _ n=>n)
  (fun b o hc e=>⟨o,k b o (fun z=>hc (by simp[z])) e⟩) (fun _ _ e=>e) (fun _ _ _ e=>e) (fun b ps e=>⟨#[],by rw[e];simp⟩) (fun m hm=>?_) (fun b u e=>?_) I.bare
 ·have e:b=it:=by simpa using hb
  subst e
  exact⟨h1,hL,h2,h3⟩
 ·obtain⟨o,es,ep,ho,r⟩:=hm
  exact⟨o,es,ep,k _ o (bO hL) ho,r⟩
 ·refine (I.hok b u e).stay (fun c v hc q=>k c v ?_ q) (fun _ q=>q) fun _ _ q=>q
  rcases hc with z|z
  ·rw[z];exact nit b u e
  ·exact nit c _ z
theorem Inv.tok (I:Inv X pins σ H s)(t:Nat):Inv X pins σ H {s with toks:=t}:=I.un (h':=s.heap) (t':=t) Un.refl I.hok
theorem Inv.kept {t':Nat}(I:Inv X pins σ H s)(k:∀b u,s.heap.get? b=some u→h'.get? b=some u):Inv X pins σ H {s with heap:=h',toks:=t'}:=I.un (Un.kept k) (I.hok.kept k)
theorem Inv.laid {a:Addr}{o:HO}{t':Nat}(I:Inv X pins σ H s)(k:∀b u,s.heap.get? b=some u→h'.get? b=some u)(hp:s.heap.objs.size≤a)(new:zw X.prog X.w (upd H a o) h' a o):
  Inv X pins σ (upd H a o) {s with heap:=h',toks:=t'}:=I.un (Un.laid k hp (I.hok.fresh hp)) (I.hok.laid k hp new)
theorem Inv.write {x e:Addr}{o:HO}{t':Nat}(I:Inv X pins σ H s)(mu:Mut (H x))(he:e=x∨H e=some (.own x))(k:∀b u,b≠e→s.heap.get? b=some u→h'.get? b=some u)(heo:∃u,h'.get? e=some u)
  (new:zw X.prog X.w (upd H x o) h' x o):Inv X pins σ (upd H x o) {s with heap:=h',toks:=t'}:=I.un (Un.write mu he k heo) (I.hok.write mu he k heo new)
theorem Inv.pins_of {pins':List (Addr×Obj)}(I:Inv X pins σ H s)(h:∀p∈pins',s.heap.get? p.1=some p.2∧H p.1=none∧p.1≠X.env.locals∧p.1∉X.fs∧∀v,p.2.data≠.cell v):Inv X pins' σ H s:=
 ⟨I.ok,I.os,I.bare,I.base,I.loc,I.cell,I.free,I.freeC,fun p hp=>(dg.mp hp).elim (fun z=>I.pin p (da _ z)) (h p),I.hok,I.len⟩
theorem tH {N:List Str}(hN:N.Nodup){i j:Nat}{x:Str}(a:N[i]?=some x)(b:N[j]?=some x):i=j:=by
 obtain⟨h1,e1⟩:=eS.mp a
 obtain⟨h2,e2⟩:=eS.mp b
 exact (List.getElem_inj hN).mp (e1.trans e2.symm)
theorem vY {M:Model}{A:Around}{E:Value→Shared→Prop}{i:Nat}{x:Str}{v:V}{u:Value}{Q:Unit→Shared→Prop}(I:Inv X pins σ H s)(hN:X.N.Nodup)(hi:X.N[i]?=some x)(hx:Loc X.env.scope x)(r:RelV v u)
  (h:∀s',Inv X pins (σ.set i (some v)) H s'→(∃a,Heap.SameBut a s.heap s'.heap∧(a=X.env.locals∨X.env.cells.lookup x=some a))→Q () s') (hf:X.fn x=true∨X.env.scope.names.lookup x=some .local:=by first|exact .inl rfl|exact .inr rfl|assumption):wpAny M A (storeName X.env x u) Q E s:=by
 obtain⟨m,hn,hl⟩:=id I.loc
 have hcls:(X.env.scope.kind == .class||(X.env.scope.kind == .module&&X.env.locals != X.env.globals))=false:=by rw[I.ok.kind];rfl
 have hiσ:i<σ.length:=by rw[I.len];exact (eS.mp hi).1
 have cne:=I.cne
 have tracked:∀{a:Addr} {h':Heap},(∃o,s.heap.get? a=some o∧H a=none)→Heap.SameBut a s.heap h'→HOk X.prog X.w H h':=fun {a h'} ha hs b ob e=>by
  obtain⟨_,_,hfree⟩:=ha
  refine (I.hok b ob e).stay (fun c w' hc q=>(hs.2 c ?_).trans q) (fun _ q=>q) fun _ _ q=>q
  rintro rfl
  rcases hc with rfl|hc
  ·rw[hfree] at e;cases e
  ·rw[hfree] at hc;cases hc
 rcases hx with hk|hk
 ·refine wpAny_storeName_local hk hn (fun h' hn' hs=>?_) hcls
  obtain⟨oL,_,_,hoL,_⟩:=id hn
  refine h _ ⟨I.ok,I.os,I.bare,⟨fun b o e n hb hx=>?_,fun b o e n hb hx=>?_,I.base.free,fun b o e hx=>?_,I.base.tups,I.base.frzs,I.base.tbls⟩,⟨_,hn',fun j y v' e1 e2 e3=>?_⟩,fun y c e=>?_,I.free,I.freeC,fun p hp=>?_,tracked ⟨oL,hoL,I.free⟩ hs,by simpa using I.len⟩ ⟨_,hs,.inl rfl⟩
  ·exact (hs.2 b (eO (di (eM e) I.ok.above))).trans (I.base.keep b o e n hb hx)
  ·obtain⟨sl,e1⟩:=I.base.slot b o e n hb hx
   exact⟨sl,(hs.2 b (eO (di (eM e) I.ok.above))).trans e1⟩
  ·obtain⟨o',e1⟩:=I.base.there b o e hx
   exact⟨o',(hs.2 b (eO (di (eM e) I.ok.above))).trans e1⟩
  ·by_cases hj:j=i
   ·subst hj
    rw[hi] at e1;cases e1
    rw[cJ hiσ] at e2
    cases e2
    exact⟨u,r,.inl ⟨hk,by simp⟩⟩
   ·rw[cb (bO hj)] at e2
    obtain⟨u',r',q⟩:=hl j y v' e1 e2 e3
    refine⟨u',r',?_⟩
    rcases q with ⟨k,e⟩|⟨k,c,e,z⟩
    ·refine .inl ⟨k,?_⟩
     have:y≠x:=fun e=>hj (tH hN e1 (e▸hi))
     simp[this,e]
    ·exact .inr ⟨k,c,e,z.sameBut hs (cne y c e)⟩
  ·obtain⟨w',z⟩:=I.cell y c e
   exact⟨w',z.sameBut hs (cne y c e)⟩
  ·obtain⟨e,n,ne,nf,d⟩:=I.pin p hp
   exact⟨(hs.2 p.1 ne).trans e,n,ne,nf,d⟩
 ·have hfn:X.fn x=true:=by
   rcases hf with z|z
   ·exact z
   ·rw[z] at hk;cases hk
  obtain⟨c,hc⟩:=I.ok.has x (.inl hk)
  obtain⟨w',z⟩:=I.cell x c hc
  refine wpAny_storeName_cell I.ok.kind hk hc z (fun h' hc' hs=>?_)
  obtain⟨oc,hoc,hocd⟩:=id z
  refine h {s with heap:=h'} ⟨I.ok,I.os,I.bare,⟨fun b o e n hb hx=>?_,fun b o e n hb hx=>?_,I.base.free,fun b o e hx=>?_,I.base.tups,I.base.frzs,I.base.tbls⟩,⟨m,hn.sameBut hs (bO (cne x c hc)),fun j y v' e1 e2 e3=>?_⟩,fun y c' e=>?_,I.free,I.freeC,fun p hp=>?_,tracked ⟨oc,hoc,I.freeC x c hc⟩ hs,by simpa using I.len⟩ ⟨c,hs,.inr hc⟩
  ·exact (hs.2 b (eO (di (eM e) (I.ok.cab x c hfn hc)))).trans (I.base.keep b o e n hb hx)
  ·obtain⟨sl,e1⟩:=I.base.slot b o e n hb hx
   exact⟨sl,(hs.2 b (eO (di (eM e) (I.ok.cab x c hfn hc)))).trans e1⟩
  ·obtain⟨o',e1⟩:=I.base.there b o e hx
   exact⟨o',(hs.2 b (eO (di (eM e) (I.ok.cab x c hfn hc)))).trans e1⟩
  ·by_cases hj:j=i
   ·subst hj
    rw[hi] at e1;cases e1
    rw[cJ hiσ] at e2
    cases e2
    exact⟨u,r,.inr ⟨.inl hk,c,hc,hc'⟩⟩
   ·rw[cb (bO hj)] at e2
    obtain⟨u',r',q⟩:=hl j y v' e1 e2 e3
    refine⟨u',r',?_⟩
    rcases q with q|⟨k,c',e,z'⟩
    ·exact .inl q
    ·refine .inr ⟨k,c',e,z'.sameBut hs ?_⟩
     rintro rfl
     exact hj (tH hN e1 (I.ok.inj _ _ _ e hc▸hi))
  ·by_cases hcc:c'=c
   ·subst hcc;exact⟨_,hc'⟩
   ·obtain⟨w2,z2⟩:=I.cell y c' e
    exact⟨w2,z2.sameBut hs hcc⟩
  ·obtain⟨e,n,ne,nf,d⟩:=I.pin p hp
   refine⟨(hs.2 p.1 ?_).trans e,n,ne,nf,d⟩
   intro q
   rw[q,hoc] at e
   have q':oc=p.2:=dz e
   exact d w' (by rw[←q'];exact hocd)
theorem tS {M:Model}{A:Around}{E:Value→Shared→Prop}{i:Nat}{x:Str}{v:V}{u:Value}{Q:Unit→Shared→Prop}(I:Inv X pins σ H s)(hN:X.N.Nodup)(hi:X.N[i]?=some x)(hx:Loc X.env.scope x)(r:RelV v u)
  (h:∀s',Inv X pins (σ.set i (some v)) H s'→Q () s') (hf:X.fn x=true∨X.env.scope.names.lookup x=some .local:=by first|exact .inl rfl|exact .inr rfl|assumption):wpAny M A (storeName X.env x u) Q E s:=
 vY I hN hi hx r (fun s' I' _=>h s' I') hf
theorem Inv.call' {s':Shared}{ch:List Addr}(I:Inv X pins σ H s)(ho:s'.os=s.os)(u:Un (frs X.stack) ch H H' s.heap s'.heap)(hok:HOk X.prog X.w H' s'.heap)(hg:AllBare s'.gens)
  (hch:∀b∈ch,(b∈X.ex∨X.s₀.heap.objs.size≤b)∧b≠X.env.locals∧(∀x c,X.env.cells.lookup x=some c→c≠b)∧∀p∈X.pn++pins,p.1≠b):Inv X pins σ H' s':=by
 obtain⟨h',g',d',t',o'⟩:=s'
 have e:o'=s.os:=ho
 subst e
 exact I.call (g':=g') (t':=t') (d':=d') u hok hg hch
end
abbrev XK :=Value→Option Addr→Hp→Prop
abbrev St :=List (Option V)
abbrev VK :=V→Hp→Prop
abbrev TE :=St→Hp→VK→Prop
abbrev TT :=St→Hp→(Bool→Hp→Prop)→Prop
abbrev TA :=St→Hp→(List V→Hp→Prop)→Prop
structure Ends where
 nx:St→Hp→Prop
 rt:VK
 bk:St→Hp→Prop:=fun _ _=>False
 ct:St→Hp→Prop:=fun _ _=>False
abbrev TS :=Ends→St→Hp→Prop
def EP (X:Cx)(pins:List (Addr×Obj))(σ:St)(Q:VK)(u:Value)(s':Shared):Prop:=∃v H',Inv X pins σ H' s'∧RelV v u∧Q v H'
def TP (X:Cx)(pins:List (Addr×Obj))(σ:St)(Q:Bool→Hp→Prop)(b:Bool)(s':Shared):Prop:=∃H',Inv X pins σ H' s'∧Q b H'
def AP (X:Cx)(pins:List (Addr×Obj))(σ:St)(Q:List V→Hp→Prop)(us:List Value)(s':Shared):Prop:=∃vs H',Inv X pins σ H' s'∧Vals vs us∧Q vs H'
def SP (X:Cx)(pins:List (Addr×Obj))(D:Ends)(f:Flow)(s':Shared):Prop:=
 match f with
 |.next=>∃σ' H',Inv X pins σ' H' s'∧D.nx σ' H'
 |.brk=>∃σ' H',Inv X pins σ' H' s'∧D.bk σ' H'
 |.cont=>∃σ' H',Inv X pins σ' H' s'∧D.ct σ' H'
 |.ret u=>∃v σ' H',Inv X pins σ' H' s'∧RelV v u∧D.rt v H'
def PE (X:Cx)(e:Expr)(t:TE):Prop:=
 ∀(pins:List (Addr×Obj)) (s:Shared) (σ:St) (H:Hp) (Q:VK),Inv X pins σ H s→t σ H Q→wpAny (model X.prog X.w) X.A (eval e X.env) (EP X pins σ Q) X.xe s
def PT (X:Cx)(e:Expr)(t:TT):Prop:=
 ∀(pins:List (Addr×Obj)) (s:Shared) (σ:St) (H:Hp) (Q:Bool→Hp→Prop),Inv X pins σ H s→t σ H Q→wpAny (model X.prog X.w) X.A (isTrue e X.env (eval e X.env)) (TP X pins σ Q) X.xe s
def PW (X:Cx)(e:Expr)(t:TT):Prop:=
 ∀(whole:Sem Value) (pins:List (Addr×Obj)) (s:Shared) (σ:St) (H:Hp) (Q:Bool→Hp→Prop),Inv X pins σ H s→t σ H Q→wpAny (model X.prog X.w) X.A (isTrue e X.env whole) (TP X pins σ Q) X.xe s
theorem PW.pt {X:Cx}{e:Expr}{t:TT}(h:PW X e t):PT X e t:=h _
def PA (X:Cx)(es:List Expr)(t:TA):Prop:=
 ∀(pos:Pos) (pins:List (Addr×Obj)) (s:Shared) (σ:St) (H:Hp) (Q:List V→Hp→Prop),Inv X pins σ H s→t σ H Q→wpAny (model X.prog X.w) X.A (spliced (backTo pos (starEach es X.env))) (AP X pins σ Q) X.xe s
def PS (X:Cx)(st:Stmt)(t:TS):Prop:=
 ∀(pins:List (Addr×Obj)) (s:Shared) (σ:St) (H:Hp) (D:Ends),Inv X pins σ H s→t D σ H→wpAny (model X.prog X.w) X.A (exec st X.env) (SP X pins D) X.xe s
def PSs (X:Cx)(st:List Stmt)(t:TS):Prop:=
 ∀(pins:List (Addr×Obj)) (s:Shared) (σ:St) (H:Hp) (D:Ends),Inv X pins σ H s→t D σ H→wpAny (model X.prog X.w) X.A (execs st X.env) (SP X pins D) X.xe s
theorem thn {α:Type}{t:Sem α}{Q Q':α→Shared→Prop}{M:Model}{A:Around}{E:Value→Shared→Prop}{s:Shared}(h:wpAny M A t Q E s)(hQ:∀a s,Q a s→Q' a s):wpAny M A t Q' E s:=dO h hQ fun _ _ x=>x
section
variable {X:Cx}
theorem bin {a b:Expr}{ta tb:TE}(ha:PE X a ta)(hb:PE X b tb){pins:List (Addr×Obj)}{s:Shared}{σ:St}{H:Hp}{R:V→V→Hp→Prop}(I:Inv X pins σ H s)(h:ta σ H fun x H1=>tb σ H1 fun y H2=>R x y H2)
  {α:Type} {Q:α→Shared→Prop} {f:Value→Value→Sem α}
  (hf:∀v u s2 x y H2,Inv X pins σ H2 s2→RelV x v→RelV y u→R x y H2→wpAny (model X.prog X.w) X.A (f v u) Q X.xe s2):
  wpAny (model X.prog X.w) X.A (eval a X.env) (fun v s₁=>wpAny (model X.prog X.w) X.A (eval b X.env) (fun u s₂=>wpAny (model X.prog X.w) X.A (f v u) Q X.xe s₂) X.xe s₁) X.xe s:=by
 refine thn (ha pins s σ H _ I h) fun v s1 ⟨x,H1,I1,r1,q1⟩=>?_
 refine thn (hb pins s1 σ H1 _ I1 q1) fun u s2 ⟨y,H2,I2,r2,q2⟩=>?_
 exact hf v u s2 x y H2 I2 r1 r2 q2
def iW (i:Nat):TE:=fun σ H Q=>∃v,σ[i]?=some (some v)∧Q v H
def tC (v:V):TE:=fun _ H Q=>Q v H
theorem yH {i:Nat}{x:Str}{pos:Pos}(hN:X.N[i]?=some x)(hv:Vis X.env.scope x)(hd:(x == ("__debug__":Str))=false:=by decide)(hcd:(x == ("__classdict__":Str))=false:=by decide):PE X (.Name x pos) (iW i):=by
 intro pins s σ H Q I h
 obtain⟨v,e,h⟩:=h
 obtain⟨m,hn,hl⟩:=I.loc
 obtain⟨u,r,l⟩:=hl i x v hN e hv
 have fin:EP X pins σ Q u s:=⟨v,H,I,r,h⟩
 rcases l with ⟨hk,hm⟩|⟨hk,c,hc,hcell⟩
 ·exact wpAny_Name (wpAny_loadName_local I.ok.kind hk hn hm fin) hd
 ·rcases hk with hk|hk
  ·exact wpAny_Name (wpAny_loadName_cell I.ok.kind hk hc hcell fin) hd
  ·exact wpAny_Name (wpAny_loadName_free I.ok.kind hk hc hcell fin hcd) hd
theorem zC {i j pos}:PE X (.Constant (.int i) j pos) (tC (.int i)):=fun _ _ _ H _ I h=>wpAny_Constant_int ⟨.int i,H,I.tok _,⟨_,rfl⟩,h⟩
def Gl (X:Cx)(x:Str):Prop:=X.env.kindOf x=some .globalImplicit
theorem lH {E:Value→Shared→Prop}{pins:List (Addr×Obj)}{s:Shared}{σ:St}{H:Hp}{x:Str}{u:Value}{pos:Pos}{Q:Value→Shared→Prop}(I:Inv X pins σ H s)(hg:Gl X x)(hm:X.mg x=some u)(h:Q u s)
  (hd:(x == ("__debug__":Str))=false:=by decide):wpAny (model X.prog X.w) X.A (eval (.Name x pos) X.env) Q E s:=
 Calls.Name_function_global I.ok.kind hg (Calls.loadGlobal_global (by rw[I.ok.glob];exact I.mod.glob.keeps I.bk) hm h) hd
theorem yU {E:Value→Shared→Prop}{pins:List (Addr×Obj)}{s:Shared}{σ:St}{H:Hp}{x:Str}{u:Value}{pos:Pos}{Q:Value→Shared→Prop}(I:Inv X pins σ H s)(hg:Gl X x)(hm:X.mg x=none)(hv:bootBuiltins x=some u)(h:Q u s)
  (hn:x≠"__name__":=by decide) (hd:(x == ("__debug__":Str))=false:=by decide):wpAny (model X.prog X.w) X.A (eval (.Name x pos) X.env) Q E s:=by
 obtain⟨mb,h1,h2⟩:=I.mod.blt
 exact Calls.Name_function_global I.ok.kind hg (Calls.loadGlobal_builtin (by rw[I.ok.glob];exact I.mod.glob.keeps I.bk) hm (by rw[I.ok.blt];exact h1.keeps I.bk) ((h2 x hn).trans hv) h) hd
theorem jh {x:Str}{v:V}{u:Value}{pos:Pos}(hg:Gl X x)(hm:X.mg x=none)(hv:bootBuiltins x=some u)(r:RelV v u)(hn:x≠"__name__":=by decide)(hd:(x == ("__debug__":Str))=false:=by decide):PE X (.Name x pos) (tC v):=
 fun _ _ _ H _ I h=>yU I hg hm hv ⟨v,H,I,r,h⟩ hn hd
variable {a b:Expr}{ta tb:TE}{pos:Pos}
variable {tA tB':TT}{rest:List Expr}
def ez (t u:TT):TT:=fun σ H Q=>t σ H fun c H1=>if c=true then u σ H1 Q else Q false H1
def tOr (t u:TT):TT:=fun σ H Q=>t σ H fun c H1=>if c=true then Q true H1 else u σ H1 Q
def fU (t:TT):TT:=fun σ H Q=>t σ H fun c H1=>Q (!c) H1
theorem kh (ha:PT X a tA):PW X (.BoolOp .And [a] pos) tA:=by
 intro wh pins s σ H Q I h
 refine isTrue_and (thn (ha pins s σ H Q I h) fun c s1 e=>?_)
 cases c with
 |true=>exact isTrue_and_nil e
 |false=>exact e
theorem iU (ha:PT X a tA):PW X (.BoolOp .Or [a] pos) tA:=by
 intro wh pins s σ H Q I h
 refine isTrue_or (thn (ha pins s σ H Q I h) fun c s1 e=>?_)
 cases c with
 |false=>exact isTrue_or_nil e
 |true=>exact e
theorem gn (ha:PT X a tA)(hb:PW X (.BoolOp .And (b::rest) pos) tB'):PW X (.BoolOp .And (a::b::rest) pos) (ez tA tB'):=by
 intro wh pins s σ H Q I h
 refine isTrue_and (thn (ha pins s σ H _ I h) fun c s1 ⟨H1,I1,q1⟩=>?_)
 cases c with
 |true=>exact hb wh pins s1 σ H1 Q I1 q1
 |false=>exact⟨H1,I1,q1⟩
theorem gO (ha:PT X a tA)(hb:PW X (.BoolOp .Or (b::rest) pos) tB'):PW X (.BoolOp .Or (a::b::rest) pos) (tOr tA tB'):=by
 intro wh pins s σ H Q I h
 refine isTrue_or (thn (ha pins s σ H _ I h) fun c s1 ⟨H1,I1,q1⟩=>?_)
 cases c with
 |true=>exact⟨H1,I1,q1⟩
 |false=>exact hb wh pins s1 σ H1 Q I1 q1
theorem il (ha:PT X a tA):PT X (.UnaryOp .Not a pos) (fU tA):=by
 intro pins s σ H Q I h
 exact isTrue_not (ha pins s σ H (fun c H1=>Q (!c) H1) I h)
end
def SqL (K:PySem.W.Frag)(H:Hp)(a:Addr)(xs:List V):Prop:=
 Rd H a (.lst xs)∨
  ∃(o:Obj) (its:Array Value) (n:Nat),K.lookup a=some o∧o.cls=.type "list"∧o.dict=none∧o.data=.seq its n∧its.size≤sizeLine∧Vals xs its.toList
def SqT (K:PySem.W.Frag)(H:Hp)(a:Addr)(xs:List V):Prop:=
 Rd H a (.tup xs)∨
  ∃(o:Obj) (its:Array Value) (n:Nat),K.lookup a=some o∧o.cls=.type "tuple"∧o.data=.seq its n∧its.size≤sizeLine∧Vals xs its.toList
def fO :Value→Option V
 |.none=>some .non
 |.bool b=>some (.bl b)
 |.int i _=>some (.int i)
 |.str x _=>some (.str x)
 |.bytes b _=>some (.byt b)
 |.float b _=>some (.flt b)
 |.ref a=>some (.ref a)
 |.type n=>some (.ty n)
 |_=>none
theorem RelV.abs {x:V}{u:Value}(r:RelV x u):fO u=some x:=by
 cases x with
 |non=>cases r;rfl
 |bl _=>cases r;rfl
 |int _=>obtain⟨t,rfl⟩:=r;rfl
 |str _=>obtain⟨t,rfl⟩:=r;rfl
 |byt _=>obtain⟨t,rfl⟩:=r;rfl
 |flt _=>obtain⟨t,rfl⟩:=r;rfl
 |ref _=>cases r;rfl
 |ty _=>cases r;rfl
theorem RelV.inj {x y:V}{u:Value}(r:RelV x u)(q:RelV y u):x=y:=dz (r.abs.symm.trans q.abs)
theorem Vals.inj :∀{xs ys:List V} {us:List Value},Vals xs us→Vals ys us→xs=ys
 |_,_,_,.nil,.nil=>rfl
 |_,_,_,.cons r t,.cons r' t'=>by rw[r.inj r',Vals.inj t t']
section
variable {X:Cx}{pins:List (Addr×Obj)}{σ:St}{H:Hp}{s:Shared}{a:Addr}{xs ys:List V}
theorem SqL.of {K:PySem.W.Frag}(h:H a=some (.lst xs)):SqL K H a xs:=.inl (.inl h)
theorem SqT.of {K:PySem.W.Frag}(h:H a=some (.tup xs)):SqT K H a xs:=.inl (.inl h)
theorem Inv.list (I:Inv X pins σ H s)(h:SqL X.K H a xs):∃its:List Value,Vals xs its∧PlainL s.heap a its.toArray∧xs.length≤sizeLine:=by
 rcases h with h|⟨o,its,n,hk,hc,hd,hs,hz,r⟩
 ·obtain⟨z,its,n,r,e⟩:=h.ok I.hok
  exact⟨its,r,⟨_,n,e,rfl,rfl,rfl⟩,z⟩
 ·refine⟨its.toList,r,⟨o,n,I.kIn a o hk,hc,hd,by simpa using hs⟩,?_⟩
  have e:=r.length
  simp only[eY] at e
  omega
theorem Inv.tuple (I:Inv X pins σ H s)(h:SqT X.K H a xs):∃its:List Value,Vals xs its∧IsTup s.heap a its.toArray∧xs.length≤sizeLine:=by
 rcases h with h|⟨o,its,n,hk,hc,hs,hz,r⟩
 ·obtain⟨z,its,r,p⟩:=h.ok I.hok
  exact⟨its,r,p,z⟩
 ·refine⟨its.toList,r,⟨o,I.kIn a o hk,hc,n,by simpa using hs⟩,?_⟩
  have e:=r.length
  simp only[eY] at e
  omega
theorem Inv.list_inj (I:Inv X pins σ H s)(h:SqL X.K H a xs)(h':SqL X.K H a ys):xs=ys:=by
 obtain⟨its,r,⟨o,n,e,_,_,d⟩,_⟩:=I.list h
 obtain⟨its',r',⟨o',n',e',_,_,d'⟩,_⟩:=I.list h'
 rw[e] at e';cases e'
 rw[d] at d'
 injection d' with d1 _
 have:its=its':=by simpa using congrArg Array.toList d1
 subst this
 exact r.inj r'
end
abbrev Cx.wish (X:Cx)(E:Value→Shared→Prop):Cx:={X with xe:=E}
abbrev Cx.nox (X:Cx):Cx:=X.wish fun _ _=>False
theorem Cx.Ok.wish {X:Cx}(ok:X.Ok)(E:Value→Shared→Prop):(X.wish E).Ok:=
 ⟨ok.mod,ok.kind,ok.glob,ok.blt,ok.above,ok.inj,ok.has,ok.cab,ok.hd,ok.frames,ok.stk,ok.exf,ok.bs,ok.bsz,ok.noex,ok.exfs,ok.funs,ok.frf⟩
theorem Cx.Ok.unwish {X:Cx}{E:Value→Shared→Prop}(ok:(X.wish E).Ok):X.Ok:=
 ⟨ok.mod,ok.kind,ok.glob,ok.blt,ok.above,ok.inj,ok.has,ok.cab,ok.hd,ok.frames,ok.stk,ok.exf,ok.bs,ok.bsz,ok.noex,ok.exfs,ok.funs,ok.frf⟩
section
variable {X:Cx}{pins:List (Addr×Obj)}{σ:St}{H:Hp}{s:Shared}{E:Value→Shared→Prop}
theorem Inv.wish (I:Inv X pins σ H s)(E:Value→Shared→Prop):Inv (X.wish E) pins σ H s:=⟨I.ok.wish E,I.os,I.bare,I.base,I.loc,I.cell,I.free,I.freeC,I.pin,I.hok,I.len⟩
theorem Inv.unwish (I:Inv (X.wish E) pins σ H s):Inv X pins σ H s:=⟨I.ok.unwish,I.os,I.bare,I.base,I.loc,I.cell,I.free,I.freeC,I.pin,I.hok,I.len⟩
theorem SP.unwish {D:Ends}{f:Flow}{s':Shared}(h:SP (X.wish E) pins D f s'):SP X pins D f s':=by
 cases f with
 |next=>obtain⟨σ',H',I,q⟩:=h;exact⟨σ',H',I.unwish,q⟩
 |brk=>obtain⟨σ',H',I,q⟩:=h;exact⟨σ',H',I.unwish,q⟩
 |cont=>obtain⟨σ',H',I,q⟩:=h;exact⟨σ',H',I.unwish,q⟩
 |ret u=>obtain⟨v,σ',H',I,r,q⟩:=h;exact⟨v,σ',H',I.unwish,r,q⟩
theorem PSs.nox {st:List Stmt}{t:TS}(h:PSs X.nox st t):PSs X st t:=fun pins s σ H D I hw=>
 dO (h pins s σ H D (I.wish _) hw) (fun _ _ q=>q.unwish) fun _ _ z=>False.elim z
end
section
variable {X:Cx}{st:Stmt}{rest:List Stmt}{t u:TS}{e:Expr}{te:TE}{pos:Pos}
def gC :TS:=fun D σ H=>D.nx σ H
def fz (t u:TS):TS:=fun D σ H=>t {D with nx:=u D} σ H
theorem rV :PSs X [] gC:=fun _ _ σ H _ I h=>wpAny_execs_nil ⟨σ,H,I,h⟩
theorem zu (h1:PS X st t)(h2:PSs X rest u):PSs X (st::rest) (fz t u):=by
 intro pins s σ H D I h
 refine wpAny_execs_cons (thn (h1 pins s σ H {D with nx:=u D} I h) fun f s1 q=>?_)
 cases f with
 |next=>
  obtain⟨σ',H',I',q⟩:=q
  exact h2 pins s1 σ' H' D I' q
 |ret v=>exact q
 |brk=>exact q
 |cont=>exact q
theorem qi (h1:PS X st t):PSs X [st] t:=by
 intro pins s σ H D I h
 refine wpAny_execs_cons (thn (h1 pins s σ H D I h) fun f s1 q=>?_)
 cases f with
 |next=>exact wpAny_execs_nil q
 |ret v=>exact q
 |brk=>exact q
 |cont=>exact q
theorem Inv.quiet {pins:List (Addr×Obj)}{σ:St}{H:Hp}{s:Shared}(I:Inv X pins σ H s):interactive X.env=false:=by simp[interactive,I.ok.kind]
def fE (te:TE):TS:=fun D σ H=>te σ H fun _ H1=>D.nx σ H1
theorem tE (he:PE X e te)(hs:swapsWith e none pos.line X.env=pure false:=by rfl):PS X (.Expr e pos) (fE te):=by
 intro pins s σ H D I h
 exact wpAny_Expr_any (thn (he pins s σ H _ I h) fun v s1 ⟨x,H1,I1,r1,q1⟩=>⟨σ,H1,I1,q1⟩) I.quiet hs
def fW (te:TE):TS:=fun D σ H=>te σ H D.rt
theorem wU (he:PE X e te):PS X (.Return (some e) pos) (fW te):=by
 intro pins s σ H D I h
 exact wpAny_Return_some (thn (he pins s σ H _ I h) fun v s1 ⟨x,H1,I1,r1,q1⟩=>⟨x,σ,H1,I1,r1,q1⟩)
def fX (c:TT)(t u:TS):TS:=fun D σ H=>c σ H fun b H1=>if b=true then t D σ H1 else u D σ H1
theorem jC {c:Expr}{a b:List Stmt}{tc:TT}(hc:PT X c tc)(ha:PSs X a t)(hb:PSs X b u):PS X (.If c a b pos) (fX tc t u):=by
 intro pins s σ H D I h
 refine wpAny_If (thn (hc pins s σ H _ I h) fun d s1 ⟨H1,I1,q1⟩=>?_)
 cases d with
 |true=>exact ha pins s1 σ H1 D I1 q1
 |false=>exact hb pins s1 σ H1 D I1 q1
end
abbrev TG :=V→St→Hp→(St→Hp→Prop)→Prop
abbrev TGs :=List V→St→Hp→(St→Hp→Prop)→Prop
def PG (X:Cx)(target:Expr)(t:TG):Prop:=
 ∀(pins:List (Addr×Obj)) (s:Shared) (σ:St) (H:Hp) (v:V) (u:Value) (Q:St→Hp→Prop),Inv X pins σ H s→RelV v u→t v σ H Q→
  wpAny (model X.prog X.w) X.A (assign target X.env u) (fun _ s'=>∃σ' H',Inv X pins σ' H' s'∧Q σ' H') X.xe s
def PGs (X:Cx)(ts:List Expr)(t:TGs):Prop:=
 ∀(pins:List (Addr×Obj)) (s:Shared) (σ:St) (H:Hp) (vs:List V) (us:List Value) (Q:St→Hp→Prop),Inv X pins σ H s→Vals vs us→t vs σ H Q→
  wpAny (model X.prog X.w) X.A (assignInOrder ((assignEach ts X.env).map (·.2)) us) (fun _ s'=>∃σ' H',Inv X pins σ' H' s'∧Q σ' H') X.xe s
abbrev iG :=V→V→V→Hp→(Hp→Prop)→Prop
def gM (X:Cx)(t:iG):Prop:=
 ∀(pins:List (Addr×Obj)) (s:Shared) (σ:St) (H:Hp) (o i v:V) (ov iv u:Value) (Q:Hp→Prop),Inv X pins σ H s→RelV o ov→RelV i iv→RelV v u→t o i v H Q→
  wpAny (model X.prog X.w) X.A (setItem ov iv u) (fun _ s'=>∃H',Inv X pins σ H' s'∧Q H') X.xe s
section
variable {X:Cx}{pos:Pos}
def wg (i:Nat):TG:=fun v σ H Q=>Q (σ.set i (some v)) H
theorem zG {i:Nat}{x:Str}(hN:X.N.Nodup)(hi:X.N[i]?=some x)(hx:Loc X.env.scope x)(hf:X.fn x=true∨X.env.scope.names.lookup x=some .local:=by first|exact .inl rfl|exact .inr rfl|assumption):PG X (.Name x pos) (wg i):=by
 intro pins s σ H v u Q I r h
 exact wpAny_assign_Name (tS I hN hi hx r (fun s' I'=>⟨_,H,I',h⟩) hf)
def kf :TGs:=fun vs σ H Q=>vs=[]∧Q σ H
def uw (t:TG)(u:TGs):TGs:=fun vs σ H Q=>∃v r,vs=v::r∧t v σ H fun σ' H'=>u r σ' H' Q
theorem xE :PGs X [] kf:=by
 intro pins s σ H vs us Q I r h
 obtain⟨e,h⟩:=h
 subst e
 cases r
 exact assignInOrder_nil ⟨σ,H,I,h⟩
theorem ym {e:Expr}{es:List Expr}{t:TG}{u:TGs}(h1:PG X e t)(h2:PGs X es u)
  (hs:(assignEach (e::es) X.env).map (·.2)=assign e X.env::(assignEach es X.env).map (·.2):=by rfl):PGs X (e::es) (uw t u):=by
 intro pins s σ H vs us Q I r h
 obtain⟨v,vr,e1,h⟩:=h
 subst e1
 cases r with
 |cons r rr=>
  rw[hs]
  refine assignInOrder_cons (thn (h1 pins s σ H _ _ _ I r h) fun _ s1 ⟨σ1,H1,I1,q1⟩=>?_)
  exact h2 pins s1 σ1 H1 _ _ Q I1 rr q1
def rD (K:PySem.W.Frag)(n:Nat)(t:TGs):TG:=fun v σ H Q=>∃a xs,v=.ref a∧SqT K H a xs∧xs.length=n∧t xs σ H Q
theorem ir {es:List Expr}{k:Nat}{t:TGs}{n:Nat}(hc:X.calm=true)(h:PGs X es t)
  (hn:(assignEach es X.env).length=n:=by rfl) (hst:(assignEach es X.env).findIdx? (·.1)=none:=by rfl):PG X (.Tuple es k pos) (rD X.K n t):=by
 intro pins s σ H v u Q I r hw
 obtain⟨a,xs,e1,hq,hl,hw⟩:=hw
 subst e1
 cases r
 obtain⟨its,rv,ht,hz⟩:=I.tuple hq
 refine assign_Tuple_tuple (I.ok.hd hc) ht (by simp[hn,←hl,rv.length]) hst fun h' hx=>?_
 have I1:Inv X pins σ H {s with heap:=h'}:=I.kept (t':=s.toks) fun b o e=>hx b o (eO (eM e)) e
 exact h pins _ σ H xs _ Q I1 (by simpa using rv) hw
def fi (to ti:TE)(t:iG):TG:=fun v σ H Q=>to σ H fun o H1=>ti σ H1 fun i H2=>t o i v H2 fun H3=>Q σ H3
theorem sU {o i:Expr}{to ti:TE}{t:iG}(ho:PE X o to)(hi:PE X i ti)(hs:gM X t)
  (ha:∀v,assign (.Subscript o i pos) X.env v=(do
   let ov ←holding [v] (eval o X.env)
   let iv ←holding [v,ov] (eval i X.env)
   standAt pos
   holding [v,ov,iv] (setItem ov iv v)
   release [v,ov,iv] []):=by intro _;rfl):PG X (.Subscript o i pos) (fi to ti t):=by
 intro pins s σ H v u Q I r h
 rw[ha]
 refine eA (dF (thn (ho pins s σ H _ I h) fun ov s1 ⟨x,H1,I1,r1,q1⟩=>?_))
 refine eA (dF (thn (hi pins s1 σ H1 _ I1 q1) fun iv s2 ⟨y,H2,I2,r2,q2⟩=>?_))
 refine eA (wpAny_standAt (eA (dF (thn (hs pins s2 σ H2 x y v ov iv u _ I2 r1 r2 r q2) fun _ s3 ⟨H3,I3,q3⟩=>?_))))
 exact wpAny_release ⟨σ,H3,I3,q3⟩
def iR (te:TE)(g:TG):TS:=fun D σ H=>te σ H fun x H1=>g x σ H1 D.nx
theorem rC {tg e:Expr}{te:TE}{g:TG}(he:PE X e te)(hg:PG X tg g)(hs:swapsWithSole [tg] e pos.line X.env=pure false:=by rfl)(hw:swappedStores [tg] e X.env=pure none:=by rfl)
  (h1:(assignEach [tg] X.env).map (·.2)=[assign tg X.env]:=by rfl):PS X (.Assign [tg] e pos) (iR te g):=by
 intro pins s σ H D I h
 refine wpAny_Assign_stores (thn (he pins s σ H _ I h) fun v s1 ⟨x,H1,I1,r1,q1⟩=>?_) hs hw
 rw[h1]
 exact thn (hg pins s1 σ H1 x v _ I1 r1 q1) fun _ s2 q=>q
theorem uR {i:Nat}{x:Str}{e:Expr}{te:TE}{pos':Pos}(hN:X.N.Nodup)(hi:X.N[i]?=some x)(hx:Loc X.env.scope x)(he:PE X e te)(hs:swapsWith e (some (.Name x pos')) pos.line X.env=pure false:=by rfl)(hf:X.fn x=true∨X.env.scope.names.lookup x=some .local:=by first|exact .inl rfl|exact .inr rfl|assumption):
  PS X (.Assign [.Name x pos'] e pos) (iR te (wg i)):=by
 intro pins s σ H D I h
 refine wpAny_Assign_Name (thn (he pins s σ H _ I h) fun v s1 ⟨y,H1,I1,r1,q1⟩=>?_) hs
 exact tS I1 hN hi hx r1 (fun s2 I2=>⟨_,H1,I2,q1⟩) hf
end
section
variable {X:Cx}{pos:Pos}
end
structure It where
 go:Nat→Hp→Prop
 yld:Nat→Hp→V→Hp→Prop
 stop:Nat→Hp→Prop
def xY (X:Cx)(pins:List (Addr×Obj))(H:Hp)(b:Addr):Prop:=
 H b=none∧b≠X.env.locals∧b∉X.fs∧(b∈X.ex∨X.s₀.heap.objs.size≤b)∧(∀x c,X.env.cells.lookup x=some c→c≠b)∧∀p∈X.pn++pins,p.1≠b
theorem Inv.fpOk {X:Cx}{pins:List (Addr×Obj)}{σ:St}{H H':Hp}{s:Shared}{b:Addr}(I:Inv X pins σ H s)(hb:s.heap.objs.size≤b)(hn:H' b=none):xY X pins H' b:=by
 refine⟨hn,bP (di I.lt hb),I.nofs hb,.inr (dZ I.sz hb),fun x c e z=>?_,fun p hp z=>?_⟩
 ·obtain⟨v,q⟩:=I.cell x c e
  exact absurd (di q.lt (by rw[z];exact hb)) (bG _)
 ·exact absurd (di (eM (I.pin p hp).1) (by rw[z];exact hb)) (bG _)
structure Turn (P:Program)(w:World)(K:PySem.W.Frag)(tg:Expr)(J:It)(fp:List Addr)(it:Addr)(tn:Nat→Heap→Prop):Prop where
 mem:it∈fp
 obj:∀i h,tn i h→∀b∈fp,∃o,h.get? b=some o∧∀v,o.data≠.cell v
 keep:∀i h h',tn i h→(∀b∈fp,∀o,h.get? b=some o→h'.get? b=some o)→tn i h'
 item:∀(X:Cx),X.prog=P→X.w=w→X.K=K→X.calm=true→∀(i:Nat) (pins:List (Addr×Obj)) (s:Shared) (σ:St) (H:Hp) (E:Value→Shared→Prop),Inv X pins σ H s→(∀b∈fp,xY X pins H b)→tn i s.heap→J.go i H→
  wpAny (model P w) X.A (pyNext (.ref it)) (fun r s1=>∃u,r=some u∧
   wpAny (model P w) X.A (letOwnedTupleGo tg (.ref it) u) (fun _ s2=>∃x H',Inv X pins σ H' s2∧RelV x u∧J.yld i H x H'∧tn (i+1) s2.heap∧∀b∈fp,H' b=none) E s1) E s
 done:∀(X:Cx),X.prog=P→X.w=w→X.K=K→X.calm=true→∀(i:Nat) (pins:List (Addr×Obj)) (s:Shared) (σ:St) (H:Hp) (E:Value→Shared→Prop),Inv X pins σ H s→(∀b∈fp,xY X pins H b)→tn i s.heap→J.stop i H→
  wpAny (model P w) X.A (pyNext (.ref it)) (fun r s1=>r=none∧Inv X pins σ H s1) E s
 self:∀(A:Around) (i:Nat) (s:Shared) (Q:Value→Shared→Prop) (E:Value→Shared→Prop),tn i s.heap→Q (.ref it) s→wpAny (model P w) A (pyIter (.ref it)) Q E s
abbrev TI :=St→Hp→(It→Hp→Prop)→Prop
def PIE (X:Cx)(pins:List (Addr×Obj))(σ:St)(tg:Expr)(R:It→Hp→Prop)(itv:Value)(s2:Shared):Prop:=
 ∃(it:Addr) (fp:List Addr) (tn:Nat→Heap→Prop) (J:It) (H':Hp),itv=.ref it∧Inv X pins σ H' s2∧Turn X.prog X.w X.K tg J fp it tn∧tn 0 s2.heap∧(∀b∈fp,xY X pins H' b)∧R J H'
def PI (X:Cx)(tg iter:Expr)(wi:TI):Prop:=
 ∀(pins:List (Addr×Obj)) (s:Shared) (σ:St) (H:Hp) (R:It→Hp→Prop),Inv X pins σ H s→wi σ H R→
  wpAny (model X.prog X.w) X.A (eval iter X.env) (fun v s1=>wpAny (model X.prog X.w) X.A (pyIter v) (PIE X pins σ tg R) X.xe s1) X.xe s
theorem jz {M:Model}{A:Around}{E:Value→Shared→Prop}{s:Shared}{tg:Expr}{it:Addr}{u:Value}{o:Obj}{n:String}{vs:Array Value}{Q:Unit→Shared→Prop}(ho:s.heap.get? it=some o)(hc:o.cls=.type n)(hd:o.data=.fields vs)
  (hn:["enumerate","zip","dict_itemiterator","dict_reverseitemiterator","odict_iterator","itertools.zip_longest","itertools.pairwise"].contains n=false) (hQ:Q () s):wpAny M A (letOwnedTupleGo tg (.ref it) u) Q E s:=by
 unfold letOwnedTupleGo
 cases tg<;>first
  |exact eB hQ
  |(cases u<;>first
    |exact eB hQ
    |(refine eA (wpAny_load ho ?_)
      rw[hc,hd]
      show wpAny M A (if (["enumerate","zip","dict_itemiterator","dict_reverseitemiterator","odict_iterator","itertools.zip_longest","itertools.pairwise"].contains n&&vs[0]? == some (rawInt _))=true then _ else _) Q E s
      rw[if_neg (by intro h;rw[hn,Bool.false_and] at h;cases h)]
      exact eB hQ))
def Itl (K:PySem.W.Frag)(a:Addr):It:=
 ⟨fun i H=>∃xs x,SqL K H a xs∧xs[i]?=some x,fun i H x H'=>H'=H∧∀xs,SqL K H a xs→xs[i]?=some x,fun i H=>∃xs,SqL K H a xs∧xs.length≤i⟩
def Itr (lo:Int)(n:Nat):It:=⟨fun i _=>i<n,fun i H x H'=>H'=H∧x=.int (lo+i),fun i _=>n≤i⟩
theorem pV {P:Program}{w:World}{K:PySem.W.Frag}{tg:Expr}(a it:Addr):Turn P w K tg (Itl K a) [it] it (fun i h=>h.IsListIter it a i) where
 mem:=by simp
 obj:=fun i h st b hb=>by
  have e:b=it:=by simpa using hb
  subst e
  obtain⟨o,e,c,d⟩:=st
  exact⟨o,e,fun v z=>by rw[d] at z;cases z⟩
 keep:=fun i h h' st k=>st.at fun o e=>k it (by simp) o e
 item:=by
  intro X hP hw hK hc i pins s σ H E I hf st hg
  subst hP hw hK
  obtain⟨xs,x,hq,hx⟩:=hg
  obtain⟨its,rv,p,hz⟩:=I.list hq
  obtain⟨u,hu,ru⟩:=rv.get hx
  obtain⟨f0,f1,f2,f3,f4,f5⟩:=hf it (by simp)
  refine wpAny_pyNext_list_item st p.isList (x:=u) (by simpa using hu) fun h' st' sb=>?_
  have I1:Inv X pins σ H {s with heap:=h'}:=I.turned (t':=s.toks) (fun b o hb e=>(sb.2 b hb).trans e) f0 f1 f3 f4 f5
  obtain⟨o,e,c,d⟩:=id st'
  exact⟨u,rfl,jz (s:={s with heap:=h'}) e c d (by decide) ⟨x,H,I1,ru,⟨rfl,fun ys hy=>by rw[I.list_inj hy hq];exact hx⟩,st',fun b hb=>(hf b hb).1⟩⟩
 done:=by
  intro X hP hw hK hc i pins s σ H E I hf st hg
  subst hP hw hK
  obtain⟨xs,hq,hx⟩:=hg
  obtain⟨its,rv,p,hz⟩:=I.list hq
  obtain⟨f0,f1,f2,f3,f4,f5⟩:=hf it (by simp)
  have hl:=rv.length
  exact wpAny_pyNext_list_end (I.ok.hd hc) st p.isList (by simp;omega) fun h' eb=>⟨rfl,I.turned (t':=s.toks) (fun b o hb e=>eb b o hb e) f0 f1 f3 f4 f5⟩
 self:=fun _ _ _ _ _ st h=>wpAny_pyIter_listiter st h
theorem rG {P:Program}{w:World}{K:PySem.W.Frag}{tg:Expr}(it:Addr)(lo:Int)(n:Nat):Turn P w K tg (Itr lo n) [it] it (fun i h=>IsRangeIter h it (lo+(i:Nat)*1) ((n:Int)-(i:Nat)) 1) where
 mem:=by simp
 obj:=fun i h st b hb=>by
  have e:b=it:=by simpa using hb
  subst e
  exact⟨_,st,fun v z=>by
   have z':Data.fields _=Data.cell v:=z
   cases z'⟩
 keep:=fun i h h' st k=>k it (by simp) _ st
 item:=by
  intro X hP hw hK hc i pins s σ H E I hf st hg
  subst hP hw hK
  obtain⟨f0,f1,f2,f3,f4,f5⟩:=hf it (by simp)
  have W:=Walks.range (prog:=X.prog) (w:=X.w) (I.ok.hd hc) it lo 1 n
  refine W.item i s _ _ hg st fun v h' tk hv st' kk=>?_
  obtain⟨t,rfl⟩:=hv
  have I1:Inv X pins σ H {s with heap:=h',toks:=tk}:=I.turned (fun b o hb e=>kk b o (by simpa using hb) e) f0 f1 f3 f4 f5
  refine⟨_,rfl,jz (s:={s with heap:=h',toks:=tk}) (n:="range_iterator") st' rfl rfl (by decide) ⟨.int (lo+i),H,I1,⟨t,?_⟩,⟨rfl,rfl⟩,st',fun b hb=>(hf b hb).1⟩⟩
  rw[Int.mul_one]
 done:=by
  intro X hP hw hK hc i pins s σ H E I hf st hg
  subst hP hw hK
  obtain⟨f0,f1,f2,f3,f4,f5⟩:=hf it (by simp)
  exact wpAny_pyNext_range_end (I.ok.hd hc) st (by have:n≤i:=hg;omega) fun h' eb=>⟨rfl,I.turned (t':=s.toks) (fun b o hb e=>eb b o hb e) f0 f1 f3 f4 f5⟩
 self:=fun _ _ _ _ _ st h=>wpAny_pyIter_rangeiter st h
section
variable {X:Cx}{tg:Expr}
def gS (K:PySem.W.Frag)(tl:TE):TI:=fun σ H R=>tl σ H fun x H1=>∃a,x=.ref a∧(∃xs,SqL K H1 a xs)∧R (Itl K a) H1
theorem qG {l:Expr}{tl:TE}(hl:PE X l tl):PI X tg l (gS X.K tl):=by
 intro pins s σ H R I h
 refine thn (hl pins s σ H _ I h) fun v s1 ⟨x,H1,I1,r1,q1⟩=>?_
 obtain⟨a,e,⟨xs,hq⟩,q⟩:=q1
 subst e
 cases r1
 obtain⟨its,rv,p,hz⟩:=I1.list hq
 refine aN p.isList ?_
 refine⟨s1.heap.objs.size,[s1.heap.objs.size],_,_,H1,rfl,I1.kept (t':=s1.toks) fun b o e=>eE _ e,pV a _,⟨_,eQ _ rfl,rfl,rfl⟩,fun b hb=>?_,q⟩
 have e:b=s1.heap.objs.size:=by simpa using hb
 subst e
 exact I1.fpOk (eG _) (I1.hok.fresh (eG _))
theorem sF {pins:List (Addr×Obj)}{σ:St}{H:Hp}{s:Shared}{R:It→Hp→Prop}{E:Value→Shared→Prop}{lo hi:Int}{t u v:Tok}{tk:Nat}(I:Inv X pins σ H s)(h1:-(2 ^ 62)≤lo)(h2:lo<2 ^ 62)(h3:-(2 ^ 62)≤hi)(h4:hi<2 ^ 62)
  (q:R (Itr lo (hi-lo).toNat) H):wpAny (model X.prog X.w) X.A (pyIter (.ref s.heap.objs.size)) (PIE X pins σ tg R) E {s with heap:=s.heap.push {cls:=.type "range",data:=.fields #[.int lo t,.int hi u,.int 1 v]},toks:=tk}:=by
 refine wpAny_pyIter_range (IsRange.new ..) (small_one h1 h2 h3 h4) ?_
 have I1:Inv X pins σ H {s with heap:=s.heap.push {cls:=.type "range",data:=.fields #[.int lo t,.int hi u,.int 1 v]},toks:=tk}:=I.kept fun b o e=>eE _ e
 refine⟨(s.heap.push {cls:=.type "range",data:=.fields #[.int lo t,.int hi u,.int 1 v]}).objs.size,[(s.heap.push {cls:=.type "range",data:=.fields #[.int lo t,.int hi u,.int 1 v]}).objs.size],_,_,H,rfl,
  I1.kept (t':=tk) fun b o e=>eE _ e,rG _ lo (hi-lo).toNat,?_,fun b hb=>?_,q⟩
 ·have e1:lo+((0:Nat):Int)*1=lo:=by simp
  have e2:(((hi-lo).toNat:Nat):Int)-((0:Nat):Int)=Builtin.Range.rangeSize lo hi 1:=by rw[rangeSize_one];split<;>omega
  show IsRangeIter _ _ (lo+((0:Nat):Int)*1) ((((hi-lo).toNat:Nat):Int)-((0:Nat):Int)) 1
  rw[e1,e2]
  exact eQ _ rfl
 ·have e:b=(s.heap.push {cls:=.type "range",data:=.fields #[.int lo t,.int hi u,.int 1 v]}).objs.size:=by simpa using hb
  subst e
  exact I1.fpOk (eG _) (I1.hok.fresh (eG _))
def fj (ta:TA):TI:=fun σ H R=>ta σ H fun vs H1=>∃j:Int,vs=[.int j]∧-(2 ^ 62)≤j∧j<2 ^ 62∧R (Itr 0 j.toNat) H1
def fm (ta:TA):TI:=fun σ H R=>ta σ H fun vs H1=>∃i j:Int,vs=[.int i,.int j]∧(-(2 ^ 62)≤i∧i<2 ^ 62∧-(2 ^ 62)≤j∧j<2 ^ 62)∧R (Itr i (j-i).toNat) H1
theorem oF {a:Expr}{ta:TA}{p pos:Pos}(hg:Gl X "range")(hm:X.mg "range"=none)(ha:PA X [a] ta)(hs:starEach [a] X.env=[(false,eval a X.env)]:=by rfl):PI X tg (.Call (.Name "range" p) [a] [] pos) (fj ta):=by
 intro pins s σ H R I h
 refine Call_ (yU I hg hm boot_range (cG (thn (ha pos pins s σ H _ I h) fun us s1 ⟨vs,H1,I1,r1,q1⟩=>?_) hs rfl))
 obtain⟨j,e,q1,q2,q⟩:=q1
 subst e
 cases r1 with
 |cons r rr=>
  cases rr
  obtain⟨t,rfl⟩:=r
  exact call_range_1 (sF I1 (by omega) (by omega) q1 q2 (by simpa using q))
theorem oK {a b:Expr}{ta:TA}{p pos:Pos}(hg:Gl X "range")(hm:X.mg "range"=none)(ha:PA X [a,b] ta)(hs:starEach [a,b] X.env=[(false,eval a X.env),(false,eval b X.env)]:=by rfl)(hs2:starEach [b] X.env=[(false,eval b X.env)]:=by rfl):
  PI X tg (.Call (.Name "range" p) [a,b] [] pos) (fm ta):=by
 intro pins s σ H R I h
 refine Call_ (yU I hg hm boot_range (cG (thn (ha pos pins s σ H _ I h) fun us s1 ⟨vs,H1,I1,r1,q1⟩=>?_) (by rw[hs,hs2]) (by rw[hs2];rfl)))
 obtain⟨i,j,e,⟨q1,q2,q3,q4⟩,q⟩:=q1
 subst e
 cases r1 with
 |cons r rr=>
  cases rr with
  |cons r' rr=>
   cases rr
   obtain⟨t,rfl⟩:=r
   obtain⟨t',rfl⟩:=r'
   exact call_range_2 (sF I1 q1 q2 q3 q4 q)
def fJ (wi:TI)(g:TG)(tb:TS):TS:=fun D σ H=>wi σ H fun J H1=>∃W:Nat→Nat→St→Hp→Prop,(∃m,W 0 m σ H1)∧∀i m σ H,W i m σ H→
 (J.stop i H∧D.nx σ H)∨(J.go i H∧∃N:St→Hp→Prop,(∀σ' H',N σ' H'→∃m',m'<m∧W (i+1) m' σ' H')∧∀x H',J.yld i H x H'→g x σ H' fun σ2 H2=>tb {D with nx:=N,ct:=N,bk:=D.nx} σ2 H2)
def wW (fp:List Addr)(h:Heap):List (Addr×Obj):=fp.filterMap fun b=>(h.get? b).map fun o=>(b,o)
theorem yF {fp:List Addr}{h:Heap}{b:Addr}{o:Obj}(hb:b∈fp)(e:h.get? b=some o):(b,o)∈wW fp h:=bV.mpr ⟨b,hb,by rw[e];rfl⟩
theorem pO {fp:List Addr}{h:Heap}{p:Addr×Obj}(hp:p∈wW fp h):p.1∈fp∧h.get? p.1=some p.2:=by
 obtain⟨b,hb,e⟩:=bV.mp hp
 cases q:h.get? b with
 |none=>rw[q] at e;cases e
 |some o=>
  rw[q] at e
  have e':(b,o)=p:=dz e
  subst e'
  exact⟨hb,q⟩
theorem Inv.pinned {pins:List (Addr×Obj)}{σ:St}{H:Hp}{s:Shared}{fp:List Addr}(I:Inv X pins σ H s)(hf:∀b∈fp,xY X pins H b)(ho:∀b∈fp,∃o,s.heap.get? b=some o∧∀v,o.data≠.cell v):Inv X (pins++wW fp s.heap) σ H s:=
 I.pins_of fun p hp=>(dg.mp hp).elim (fun z=>I.pin p (eR _ z)) fun z=>by
  obtain⟨hb,e⟩:=pO z
  obtain⟨f0,f1,f2,_⟩:=hf p.1 hb
  obtain⟨o,e',d⟩:=ho p.1 hb
  rw[e] at e';cases e'
  exact⟨e,f0,f1,f2,d⟩
theorem Inv.unpinned {pins pl:List (Addr×Obj)}{σ:St}{H:Hp}{s:Shared}(I:Inv X (pins++pl) σ H s):Inv X pins σ H s:=I.pins_of fun p hp=>I.pin p (eR _ (da _ hp))
theorem nj {iter:Expr}{body:List Stmt}{wi:TI}{g:TG}{tb:TS}{pos:Pos}(hp:PassesOwn (model X.prog X.w) X.A X.env X.xe)(hc:X.calm=true)(hi:PI X tg iter wi)(hg:PG X tg g)(hb:PSs X body tb)
  (hs:∀x,foldedSetIterable iter X.env x=pure x:=by intro _;rfl):PS X (.For tg iter body [] pos) (fJ wi g tb):=by
 intro pins s σ H D I h
 refine wpAny_For (thn (hi pins s σ H _ I h) fun v s1 h1=>thn h1 fun itv s2 h2=>?_) hs
 obtain⟨it,fp,tn,J,H2,e,I2,T,st2,f2,W,⟨m0,w0⟩,turn⟩:=h2
 subst e
 -- what stays true of the iterator's objects through the loop
 have stat:∀{H':Hp},(∀b∈fp,H' b=none)→∀b∈fp,xY X pins H' b:=fun hn b hb=>⟨hn b hb,(f2 b hb).2⟩
 refine codeAny_forLoop_any (fun n s'=>∃i σ' H',Inv X pins σ' H' s'∧tn i s'.heap∧(∀b∈fp,H' b=none)∧W i n σ' H') ?_ m0 ⟨0,σ,H2,I2,st2,fun b hb=>(f2 b hb).1,w0⟩
 rintro n s3 ⟨i,σ3,H3,I3,st3,fr3,w3⟩
 rcases turn i n σ3 H3 w3 with ⟨stop,qn⟩|⟨go,N,hN,step⟩
 ·refine ax hp (thn (T.done X rfl rfl rfl hc i pins s3 σ3 H3 X.xe I3 (stat fr3) st3 stop) fun r s4 ⟨hr,I4⟩=>?_)
  subst hr
  exact wpAny_execs_nil ⟨σ3,H3,I4,qn⟩
 ·refine ax hp (thn (T.item X rfl rfl rfl hc i pins s3 σ3 H3 X.xe I3 (stat fr3) st3 go) fun r s4 ⟨u,hr,h4⟩=>?_)
  subst hr
  refine ax hp (thn h4 fun _ s5 ⟨x,H5,I5,r5,y5,st5,fr5⟩=>?_)
  have I5':=I5.pinned (stat fr5) (T.obj _ _ st5)
  refine ax hp (thn (hg _ s5 σ3 H5 x u _ I5' r5 (step x H5 y5)) fun _ s6 ⟨σ6,H6,I6,q6⟩=>?_)
  refine ax hp (thn (hb _ s6 σ6 H6 _ I6 q6) fun f s7 q7=>?_)
  have again:∀{σ7:St} {H7:Hp},Inv X (pins++wW fp s5.heap) σ7 H7 s7→N σ7 H7→∃m,m<n∧∃i σ' H',Inv X pins σ' H' s7∧tn i s7.heap∧(∀b∈fp,H' b=none)∧W i m σ' H':=fun {σ7 H7} I7 n7=>by
   obtain⟨m',hm,w7⟩:=hN σ7 H7 n7
   refine⟨m',hm,i+1,σ7,H7,I7.unpinned,T.keep _ _ _ st5 fun b hb o e=>(I7.pin (b,o) (eR _ (eR _ (yF hb e)))).1,fun b hb=>?_,w7⟩
   obtain⟨o,e,d⟩:=T.obj _ _ st5 b hb
   exact (I7.pin (b,o) (eR _ (eR _ (yF hb e)))).2.1
  cases f with
  |next=>obtain⟨σ7,H7,I7,n7⟩:=q7;exact again I7 n7
  |cont=>obtain⟨σ7,H7,I7,n7⟩:=q7;exact again I7 n7
  |brk=>obtain⟨σ7,H7,I7,q7⟩:=q7;exact⟨σ7,H7,I7.unpinned,q7⟩
  |ret v=>obtain⟨x7,σ7,H7,I7,r7,q7⟩:=q7;exact⟨x7,σ7,H7,I7.unpinned,r7,q7⟩
end
abbrev R2 :=V→V→Hp→VK→Prop
def OpR (X:Cx)(f:Value→Value→Sem Value)(r:R2):Prop:=
 ∀(pins:List (Addr×Obj)) (s:Shared) (σ:St) (H:Hp) (x y:V) (v u:Value) (Q:VK),Inv X pins σ H s→RelV x v→RelV y u→r x y H Q→
  wpAny (model X.prog X.w) X.A (f v u) (EP X pins σ Q) X.xe s
def yj (X:Cx)(f:Value)(r:List V→Hp→VK→Prop):Prop:=
 ∀(pins:List (Addr×Obj)) (s:Shared) (σ:St) (H:Hp) (xs:List V) (us:List Value) (Q:VK),Inv X pins σ H s→Vals xs us→r xs H Q→
  wpAny (model X.prog X.w) X.A (call f us) (EP X pins σ Q) X.xe s
def fR (X:Cx)(r:V→Hp→(Bool→Hp→Prop)→Prop):Prop:=
 ∀(pins:List (Addr×Obj)) (s:Shared) (σ:St) (H:Hp) (x:V) (v:Value) (Q:Bool→Hp→Prop),Inv X pins σ H s→RelV x v→r x H Q→
  wpAny (model X.prog X.w) X.A (truthy v) (TP X pins σ Q) X.xe s
def tOp (r:R2)(ta tb:TE):TE:=fun σ H Q=>ta σ H fun x H1=>tb σ H1 fun y H2=>r x y H2 Q
def rI (C:Int→Int→Prop)(g:Int→Int→V):R2:=fun x y H Q=>∃i j,x=.int i∧y=.int j∧C i j∧Q (g i j) H
def rI0 (g:Int→Int→V):R2:=fun x y H Q=>∃i j,x=.int i∧y=.int j∧Q (g i j) H
section
variable {X:Cx}{a b c:Expr}{ta tb tc:TE}{pos:Pos}
theorem jV (ha:PE X a ta)(hb:PE X b tb){pins:List (Addr×Obj)}{s:Shared}{σ:St}{H:Hp}{R:V→V→Hp→Prop}(I:Inv X pins σ H s)
  (h:ta σ H fun x H1=>tb σ H1 fun y H2=>R x y H2) {Q:Value→Shared→Prop} {f:Value→Value→Sem Value}
  (hf:∀v u s2 x y H2,Inv X pins σ H2 s2→RelV x v→RelV y u→R x y H2→wpAny (model X.prog X.w) X.A (f v u) Q X.xe s2):
  wpAny (model X.prog X.w) X.A (eval a X.env) (fun v s₁=>wpAny (model X.prog X.w) X.A (eval b X.env) (fun u s₂=>wpAny (model X.prog X.w) X.A (f v u) Q X.xe s₂) X.xe s₁) X.xe s:=by
 refine thn (ha pins s σ H _ I h) fun v s1 ⟨x,H1,I1,r1,q1⟩=>?_
 refine thn (hb pins s1 σ H1 _ I1 q1) fun u s2 ⟨y,H2,I2,r2,q2⟩=>?_
 exact hf v u s2 x y H2 I2 r1 r2 q2
theorem ye {op:Operator}{r:R2}(ho:OpR X (binaryOp op) r)(ha:PE X a ta)(hb:PE X b tb):PE X (.BinOp a op b pos) (tOp r ta tb):=by
 intro pins s σ H Q I h
 exact wpAny_BinOp (jV ha hb I h fun v u s2 x y H2 I2 rx ry q=>ho pins s2 σ H2 x y v u Q I2 rx ry q)
theorem opI {f:Value→Value→Sem Value}{C:Int→Int→Prop}{g:Int→Int→Int}
  (rule:∀(i j:Int) (t u:Tok) (s:Shared) (Q:Value→Shared→Prop) (E:Value→Shared→Prop),C i j→Q (.int (g i j) s.toks) {s with toks:=s.toks+1}→wpAny (model X.prog X.w) X.A (f (.int i t) (.int j u)) Q E s):
  OpR X f (rI C fun i j=>.int (g i j)):=by
 intro pins s σ H x y v u Q I rx ry h
 obtain⟨i,j,rfl,rfl,hc,q⟩:=h
 obtain⟨t,rfl⟩:=rx
 obtain⟨t',rfl⟩:=ry
 exact rule i j t t' s _ _ hc ⟨.int (g i j),H,I.tok _,⟨_,rfl⟩,q⟩
theorem fB {f:Value→Value→Sem Value}{g:Int→Int→Int}
  (rule:∀(i j:Int) (t u:Tok) (s:Shared) (Q:Value→Shared→Prop) (E:Value→Shared→Prop),Q (.int (g i j) s.toks) {s with toks:=s.toks+1}→wpAny (model X.prog X.w) X.A (f (.int i t) (.int j u)) Q E s):
  OpR X f (rI0 fun i j=>.int (g i j)):=by
 intro pins s σ H x y v u Q I rx ry h
 obtain⟨i,j,rfl,rfl,q⟩:=h
 obtain⟨t,rfl⟩:=rx
 obtain⟨t',rfl⟩:=ry
 exact rule i j t t' s _ _ ⟨.int (g i j),H,I.tok _,⟨_,rfl⟩,q⟩
theorem iz {f:Value→Value→Sem Value}{g:Int→Int→Bool}
  (rule:∀(i j:Int) (t u:Tok) (s:Shared) (Q:Value→Shared→Prop) (E:Value→Shared→Prop),Q (.bool (g i j)) s→wpAny (model X.prog X.w) X.A (f (.int i t) (.int j u)) Q E s):
  OpR X f (rI0 fun i j=>.bl (g i j)):=by
 intro pins s σ H x y v u Q I rx ry h
 obtain⟨i,j,rfl,rfl,q⟩:=h
 obtain⟨t,rfl⟩:=rx
 obtain⟨t',rfl⟩:=ry
 exact rule i j t t' s _ _ ⟨.bl (g i j),H,I,rfl,q⟩
def iZ (i j:Int):Prop:=0≤j∧j≤1000000∧i.natAbs<2 ^ 64
def iJ (i j:Int):Prop:=(-(2 ^ 64)<i∧i<2 ^ 64)∨(-(2 ^ 64)<j∧j<2 ^ 64)
theorem iJ.ok {i j:Int}(h:iJ i j):IntMulOk i j:=by
 rcases h with ⟨h1,h2⟩|⟨h1,h2⟩
 ·exact .of_left (intBits_le_64 h1 h2)
 ·exact .of_right (intBits_le_64 h1 h2)
theorem tB :OpR X (binaryOp .Add) (rI0 fun i j=>.int (i+j)):=fB fun _ _ _ _ _ _ _ q=>add_int q
theorem ip :OpR X (binaryOp .Sub) (rI0 fun i j=>.int (i-j)):=fB fun _ _ _ _ _ _ _ q=>sub_int q
theorem rh :OpR X (binaryOp .Mult) (rI iJ fun i j=>.int (i*j)):=opI fun _ _ _ _ _ _ _ hc q=>mul_int q hc.ok
theorem vB :OpR X (binaryOp .Mod) (rI (fun _ j=>0<j) fun i j=>.int (i % j)):=opI fun i j _ _ _ _ _ hc q=>by
 have h1:(0:Int)<j:=hc
 exact mod_int' (by omega) (by rw[Int.fmod_eq_emod_of_nonneg i (by omega)];exact q)
theorem hU :OpR X (binaryOp .Pow) (rI iZ fun i j=>.int (i ^ j.toNat)):=opI fun _ _ _ _ _ _ _ hc q=>pow_int_small hc.1 hc.2.1 hc.2.2 q
end
def fv :V→V→Bool
 |.non,.non=>true|.non,.int _=>true|.int _,.non=>true|.non,.bl _=>true|.bl _,.non=>true|.non,.str _=>true|.str _,.non=>true
 |.int _,.int _=>true|.bl _,.bl _=>true|.str _,.str _=>true|.byt _,.byt _=>true
 |.int _,.str _=>true|.str _,.int _=>true|.bl _,.str _=>true|.str _,.bl _=>true
 |_,_=>false
def rEq :R2:=fun x y H Q=>fv x y=true∧Q (.bl (decide (x=y))) H
def rNe :R2:=fun x y H Q=>fv x y=true∧Q (.bl (!decide (x=y))) H
theorem qN {i j:Int}:decide (V.int i=V.int j)=(i == j):=by
 rw[aX]
 simp
theorem ll {i j:Bool}:decide (V.bl i=V.bl j)=(i == j):=by
 rw[aX]
 simp
theorem qj {i j:Str}:decide (V.str i=V.str j)=(i == j):=by
 rw[aX]
 simp
theorem qm {i j:Array UInt8}:decide (V.byt i=V.byt j)=(i.toList == j.toList):=by
 rw[aX]
 cases i
 cases j
 simp
section
variable {X:Cx}{a b c:Expr}{ta tb tc:TE}{pos:Pos}
theorem zo {pins:List (Addr×Obj)}{σ:St}{H:Hp}{s:Shared}{Q:VK}{k k':Bool}(I:Inv X pins σ H s)(q:Q (.bl k) H)(e:k=k'):EP X pins σ Q (.bool k') s:=by
 subst e
 exact⟨.bl k,H,I,rfl,q⟩
theorem gQ :OpR X (compareOp .Eq) rEq:=by
 intro pins s σ H x y v u Q I rx ry h
 obtain⟨hs,q⟩:=h
 cases x with
 |non=>
  cases rx
  cases y with
  |non=>cases ry;exact PySem.EqNone.eq_none_none (zo I q (by simp))
  |bl j=>cases ry;exact PySem.EqNone.eq_none_bool (zo I q (by simp))
  |int j=>obtain⟨t',rfl⟩:=ry;exact PySem.EqNone.eq_none_int (zo I q (by simp))
  |str j=>obtain⟨t',rfl⟩:=ry;exact PySem.EqNone.eq_none_str (zo I q (by simp))
  |_=>exact absurd (show false=true from hs) dn
 |bl i=>
  cases rx
  cases y with
  |non=>cases ry;exact PySem.EqNone.eq_bool_none (zo I q (by simp))
  |bl j=>cases ry;exact eq_bool (zo I q ll)
  |str j=>obtain⟨t',rfl⟩:=ry;exact PySem.EqMixed.eq_bool_str (zo I q (by simp))
  |_=>exact absurd (show false=true from hs) dn
 |int i=>
  obtain⟨t,rfl⟩:=rx
  cases y with
  |non=>cases ry;exact PySem.EqNone.eq_int_none (zo I q (by simp))
  |int j=>obtain⟨t',rfl⟩:=ry;exact eq_int (zo I q qN)
  |str j=>obtain⟨t',rfl⟩:=ry;exact PySem.EqMixed.eq_int_str (zo I q (by simp))
  |_=>exact absurd (show false=true from hs) dn
 |str i=>
  obtain⟨t,rfl⟩:=rx
  cases y with
  |non=>cases ry;exact PySem.EqNone.eq_str_none (zo I q (by simp))
  |bl j=>cases ry;exact PySem.EqMixed.eq_str_bool (zo I q (by simp))
  |int j=>obtain⟨t',rfl⟩:=ry;exact PySem.EqMixed.eq_str_int (zo I q (by simp))
  |str j=>obtain⟨t',rfl⟩:=ry;exact eq_str (zo I q qj)
  |_=>exact absurd (show false=true from hs) dn
 |byt i=>
  obtain⟨t,rfl⟩:=rx
  cases y with
  |byt j=>obtain⟨t',rfl⟩:=ry;exact PySem.W.eq_bytes (zo I q qm)
  |_=>exact absurd (show false=true from hs) dn
 |_=>cases y<;>exact absurd (show false=true from hs) dn
theorem gB :OpR X (compareOp .NotEq) rNe:=by
 intro pins s σ H x y v u Q I rx ry h
 obtain⟨hs,q⟩:=h
 cases x with
 |non=>
  cases rx
  cases y with
  |non=>cases ry;exact PySem.EqNone.ne_none_none (zo I q (by simp))
  |bl j=>cases ry;exact PySem.EqNone.ne_none_bool (zo I q (by simp))
  |int j=>obtain⟨t',rfl⟩:=ry;exact PySem.EqNone.ne_none_int (zo I q (by simp))
  |str j=>obtain⟨t',rfl⟩:=ry;exact PySem.EqNone.ne_none_str (zo I q (by simp))
  |_=>exact absurd (show false=true from hs) dn
 |bl i=>
  cases rx
  cases y with
  |non=>cases ry;exact PySem.EqNone.ne_bool_none (zo I q (by simp))
  |bl j=>cases ry;exact ne_bool (zo I q (congrArg not ll))
  |str j=>obtain⟨t',rfl⟩:=ry;exact PySem.EqMixed.ne_bool_str (zo I q (by simp))
  |_=>exact absurd (show false=true from hs) dn
 |int i=>
  obtain⟨t,rfl⟩:=rx
  cases y with
  |non=>cases ry;exact PySem.EqNone.ne_int_none (zo I q (by simp))
  |int j=>obtain⟨t',rfl⟩:=ry;exact ne_int (zo I q (congrArg not qN))
  |str j=>obtain⟨t',rfl⟩:=ry;exact PySem.EqMixed.ne_int_str (zo I q (by simp))
  |_=>exact absurd (show false=true from hs) dn
 |str i=>
  obtain⟨t,rfl⟩:=rx
  cases y with
  |non=>cases ry;exact PySem.EqNone.ne_str_none (zo I q (by simp))
  |bl j=>cases ry;exact PySem.EqMixed.ne_str_bool (zo I q (by simp))
  |int j=>obtain⟨t',rfl⟩:=ry;exact PySem.EqMixed.ne_str_int (zo I q (by simp))
  |str j=>obtain⟨t',rfl⟩:=ry;exact ne_str (zo I q (congrArg not qj))
  |_=>exact absurd (show false=true from hs) dn
 |byt i=>
  obtain⟨t,rfl⟩:=rx
  cases y with
  |byt j=>obtain⟨t',rfl⟩:=ry;exact PySem.W.ne_bytes (zo I q (congrArg not qm))
  |_=>exact absurd (show false=true from hs) dn
 |_=>cases y<;>exact absurd (show false=true from hs) dn
theorem gD :OpR X (compareOp .LtE) (rI0 fun i j=>.bl (decide (i≤j))):=iz fun _ _ _ _ _ _ _ q=>le_int q
theorem jy :OpR X (compareOp .Gt) (rI0 fun i j=>.bl (decide (j<i))):=iz fun _ _ _ _ _ _ _ q=>gt_int q
theorem fH :OpR X (compareOp .GtE) (rI0 fun i j=>.bl (decide (j≤i))):=iz fun _ _ _ _ _ _ _ q=>ge_int q
theorem xx (b:Expr){op:CmpOp}(h:op≠.In:=by decide)(h2:op≠.NotIn:=by decide):behindInMarks op b=false:=by
 have e1:(op == CmpOp.In)=false:=by cases op<;>first|rfl|exact absurd rfl h
 have e2:(op == CmpOp.NotIn)=false:=by cases op<;>first|rfl|exact absurd rfl h2
 cases b<;>simp[behindInMarks,e1,e2]
theorem lC {op:CmpOp}{r:R2}(ho:OpR X (compareOp op) r)(ha:PE X a ta)(hb:PE X b tb)(hm:behindInMarks op b=false):PE X (.Compare a [op] [b] pos) (tOp r ta tb):=by
 intro pins s σ H Q I h
 exact wpAny_Compare1 (jV ha hb I h fun v u s2 x y H2 I2 rx ry q=>ho pins s2 σ H2 x y v u Q I2 rx ry q) hm
def fu (t:TE):TT:=fun σ H Q=>t σ H fun x H'=>∃k,x=.bl k∧Q k H'
theorem qY {op:CmpOp}{r:R2}(ho:OpR X (compareOp op) r)(ha:PE X a ta)(hb:PE X b tb)(hm:behindInMarks op b=false):PT X (.Compare a [op] [b] pos) (fu (tOp r ta tb)):=by
 intro pins s σ H Q I h
 refine wpAny_isTrue_Compare1 (thn (ha pins s σ H _ I h) fun v s1 ⟨x,H1,I1,r1,q1⟩=>thn (hb pins s1 σ H1 _ I1 q1) fun u s2 ⟨y,H2,I2,r2,q2⟩=>
  thn (ho pins s2 σ H2 x y v u _ I2 r1 r2 q2) fun c s3 ⟨z,H3,I3,r3,k,e,q3⟩=>?_) hm
 subst e
 cases r3
 exact wpAny_truthy_bool ⟨H3,I3,q3⟩
def fy (K:PySem.W.Frag)(x:V)(H:Hp)(k:Bool):Prop:=
 match x with
 |.non=>k=false
 |.bl b=>k=b
 |.int i=>k=(i != 0)
 |.str y=>y.length≤sizeLine∧k=((y.length:Int) != 0)
 |.byt y=>y.size≤sizeLine∧k=((y.size:Int) != 0)
 |.ref p=>(∃xs,SqL K H p xs∧k=!xs.isEmpty)∨(∃xs,SqT K H p xs∧k=!xs.isEmpty)∨∃kvs,H p=some (.dK kvs)∧k=!kvs.isEmpty
 |_=>False
theorem sX {κ:Type}{kvs:List (κ×V)}{vs:List (κ×Value)}(r:KV kvs vs):(!vs.isEmpty)=!kvs.isEmpty:=by
 cases r<;>rfl
theorem vq {xs:List V}{its:List Value}(r:Vals xs its):(!its.toArray.isEmpty)=!xs.isEmpty:=by
 cases r<;>simp
theorem xX :(sizeLine:Nat)<2 ^ 63:=by rw[ck];decide
theorem iQ :fR X (fun x H Q=>∃k,fy X.K x H k∧Q k H):=by
 intro pins s σ H x v Q I rx h
 obtain⟨k,e,q⟩:=h
 have hl:=xX
 have hs:sizeLine=16777216:=ck
 cases x with
 |non=>
  cases rx
  have e':k=false:=e
  subst e'
  exact truthy_none ⟨H,I,q⟩
 |bl b=>
  cases rx
  have e':k=b:=e
  subst e'
  exact wpAny_truthy_bool ⟨H,I,q⟩
 |int i=>
  obtain⟨t,rfl⟩:=rx
  have e':k=(i != 0):=e
  subst e'
  exact PySem.P.truthy_int ⟨H,I,q⟩
 |str y=>
  obtain⟨t,rfl⟩:=rx
  obtain⟨hy,e'⟩:y.length≤sizeLine∧k=((y.length:Int) != 0):=e
  subst e'
  exact PySem.P.truthy_str (by omega) ⟨H,I.tok _,q⟩
 |byt y=>
  obtain⟨t,rfl⟩:=rx
  obtain⟨hy,e'⟩:y.size≤sizeLine∧k=((y.size:Int) != 0):=e
  subst e'
  exact PySem.W.truthy_bytes (by omega) ⟨H,I.tok _,q⟩
 |ref p=>
  cases rx
  have e':(∃xs,SqL X.K H p xs∧k=!xs.isEmpty)∨(∃xs,SqT X.K H p xs∧k=!xs.isEmpty)∨∃kvs,H p=some (.dK kvs)∧k=!kvs.isEmpty:=e
  rcases e' with ⟨xs,hx,e'⟩|⟨xs,hx,e'⟩|⟨kvs,hx,e'⟩
  ·subst e'
   obtain⟨its,r,pl,hz⟩:=I.list hx
   have hlen:=r.length
   exact wpAny_truthy_list pl.isList (by simp only[eP];omega) ⟨H,I.tok _,by rw[vq r];exact q⟩
  ·subst e'
   obtain⟨its,r,pl,hz⟩:=I.tuple hx
   have hlen:=r.length
   exact truthy_tuple pl (by simp only[eP];omega) ⟨H,I.tok _,by rw[vq r];exact q⟩
  ·subst e'
   obtain⟨hz,hS,vs,r,m⟩:kvs.length≤sizeLine∧(p == sysModules)=false∧∃vs,KV kvs vs∧s.heap.DictOf (zW X.prog X.w) p vs:=I.hok p _ hx
   have hlen:kvs.length=vs.length:=Paired.length r
   exact wpAny_truthy_dict hS m (by omega) ⟨H,I.tok _,by rw[sX r];exact q⟩
 |_=>exact (show False from e).elim
theorem nD (ha:PE X a ta)(he:∀whole,isTrue a X.env whole=(do let v ←whole;standAt a.pos;holding [v] (truthy v))):
  PT X a (fun σ H Q=>ta σ H fun x H'=>∃k,fy X.K x H' k∧Q k H'):=by
 intro pins s σ H Q I h
 exact isTrue_plain (thn (ha pins s σ H _ I h) fun v s1 ⟨x,H1,I1,r1,q1⟩=>iQ pins s1 σ H1 x v Q I1 r1 q1) (he _)
theorem vals1 {x:V}{us:List Value}(r:Vals [x] us):∃u,us=[u]∧RelV x u:=by
 cases r with
 |cons r1 r2=>cases r2;exact⟨_,rfl,r1⟩
theorem vals2 {x y:V}{us:List Value}(r:Vals [x,y] us):∃u w',us=[u,w']∧RelV x u∧RelV y w':=by
 cases r with
 |cons r1 r2=>
  cases r2 with
  |cons r3 r4=>cases r4;exact⟨_,_,rfl,r1,r3⟩
theorem pG (hc:X.calm=true):yj X (.builtin "min") (fun xs H Q=>∃i j,xs=[.int i,.int j]∧Q (.int (if j<i then j else i)) H):=by
 intro pins s σ H xs us Q I r h
 obtain⟨i,j,rfl,q⟩:=h
 obtain⟨u,w',rfl,⟨t,rfl⟩,⟨t',rfl⟩⟩:=vals2 r
 refine min_two_ints (I.ok.hd hc) fun h' tk k=>⟨_,H,I.kept k,?_,q⟩
 by_cases hj:j<i
 ·rw[if_pos hj,if_pos hj];exact⟨_,rfl⟩
 ·rw[if_neg hj,if_neg hj];exact⟨_,rfl⟩
end
structure jK (h:Heap)(x dx C:Addr)(mA:Str→Option Value):Prop where
 obj:h.get? x=some (PySem.W.instObj C dx)
 ns:h.Ns1 dx mA
 ne:dx≠x
theorem pq {h:Heap}{dx:Addr}{mA:Str→Option Value}(n:h.Ns1 dx mA):∃od,h.get? dx=some od∧∀name,PySem.W.lookIn name od=some (mA name):=by
 obtain⟨o,es,ep,ho,hd,hk,_,hm⟩:=n
 refine⟨o,ho,fun name=>?_⟩
 have e:=hm name
 unfold nsFind findBy at e
 rw[←Array.find?_toList] at e
 unfold PySem.W.lookIn
 rw[hd]
 dsimp only
 split
 ·rename_i y q
  rw[q] at e
  exact congrArg some e
 ·rename_i q
  rw[q] at e
  have a:es.toList.any (·.refKey)=false:=by
   rw[List.any_eq_false]
   intro y hy
   obtain⟨z,t,hkey⟩:=hk y (Array.mem_toList_iff.mp hy)
   simp[DictEntry.refKey,hkey]
  have a':¬es.toList.any (·.refKey)=true:=by rw[a];exact dn
  rw[if_neg a']
  exact congrArg some e
theorem jK.look {h:Heap}{x dx C:Addr}{mA:Str→Option Value}(I:jK h x dx C mA):∃od,PySem.W.InstAt h x (PySem.W.instObj C dx) C (some od)∧∀name,PySem.W.lookIn name od=some (mA name):=
 let ⟨od,ho,hl⟩:=pq I.ns
 ⟨od,⟨I.obj,rfl,rfl,ho⟩,hl⟩
section
variable {prog:Program}{w:World}{A:Around}{E:Value→Shared→Prop}{s:Shared}{K:PySem.W.Frag}{x dx C f:Addr}{mA:Str→Option Value}{name:Str}{v:Value}
end
theorem uF.some_of {v:V}{o:Option Value}(r:uF (some v) o):∃u,o=some u∧RelV v u:=by
 cases o with
 |none=>exact (show False from r).elim
 |some u=>exact⟨u,rfl,r⟩
section
variable {P:Program}{w:World}{H H':Hp}{h h':Heap}{a C dx:Addr}{fs fs':List (Str×V)}
theorem jk (hok:HOk P w H h)(e:H a=some (.ins C dx fs)):∃mA,jK h a dx C mA∧(∀f,uF (fs.lookup f) (mA f))∧PySem.Within mA (fs.map (·.1))∧fs.length≤1000∧H dx=some (.own a):=by
 obtain⟨d,z,ne,ob,mA,n,r,q⟩:=(show zw P w H h a (.ins C dx fs) from hok a _ e)
 exact⟨mA,⟨ob,n,ne⟩,r,q,z,d⟩
end
structure Cls (K:PySem.W.Frag)(C:Addr):Prop where
 pg:PySem.W.plainGet K C Str.empty=true
 hd:PySem.W.hasDictIn K C=true
 po:PySem.W.plainOver K C=true
 sa:PySem.W.findIn K (.ref C) "__setattr__"=some (some (.builtin "object.__setattr__"))
theorem Cls.get {K:PySem.W.Frag}{C:Addr}(c:Cls K C)(f:Str):PySem.W.plainGet K C f=true:=c.pg
section
variable {X:Cx}{pins:List (Addr×Obj)}{σ:St}{H:Hp}{s:Shared}{a C dx:Addr}{fs:List (Str×V)}{f:Str}{v:V}{A:Around}{E:Value→Shared→Prop}
end
section
variable {X:Cx}{o e value:Expr}{f:Str}{pos pos' tpos:Pos}{ta tv:TE}
end
section
variable {X:Cx}{pins:List (Addr×Obj)}{σ:St}{H:Hp}{s:Shared}{A:Around}{E:Value→Shared→Prop}{Q:Value→Shared→Prop}{c:Value}{b:Bool}
inductive xA (K:PySem.W.Frag)(H:Hp):V→Value→Prop where
 |non:xA K H .non (.type "NoneType")
 |bl (x:Bool):xA K H (.bl x) (.type "bool")
 |int (i:Int):xA K H (.int i) (.type "int")
 |str (x:Str):xA K H (.str x) (.type "str")
 |flt (x:UInt64):xA K H (.flt x) (.type "float")
 |lst {a:Addr} {xs:List V} (e:H a=some (.lst xs)):xA K H (.ref a) (.type "list")
 |frz {a:Addr} {o:Obj} {xs:List V} (e:H a=some (.frz o (.lst xs))):xA K H (.ref a) (.type "list")
 |tup {a:Addr} {xs:List V} (e:H a=some (.tup xs)):xA K H (.ref a) (.type "tuple")
 |dK {a:Addr} {kvs:List (Key×V)} (e:H a=some (.dK kvs)):xA K H (.ref a) (.type "dict")
 |dT {a:Addr} {kvs:List (List Key×V)} (e:H a=some (.dT kvs)):xA K H (.ref a) (.type "dict")
 |ins {a C dx:Addr} {fs:List (Str×V)} (e:H a=some (.ins C dx fs)) (cl:Cls K C) (ha:PySem.W.findIn K (.ref C) "__class__"=some (some (.builtin "object.__class__")))
   (hn:PySem.W.specialIn K (.builtin "object.__class__") "__get__"=some (some (.builtin "getset_descriptor.__get__"))) (htk:PySem.W.takesIn K (.builtin "object.__class__")=some true)
   (hm:PySem.W.mroIn K C (.type "object")=some true):xA K H (.ref a) (.ref C)
theorem pC {x:V}{u t:Value}(I:Inv X pins σ H s)(rx:RelV x u)(ty:xA X.K H x t)(e:PySem.W.kitOne X.K t c=some b)(h:∀tk,Q (.bool b) {s with toks:=tk}):
  wpAny (model X.prog X.w) A (call (.builtin "isinstance") [u,c]) Q E s:=by
 cases ty with
 |non=>cases (show u=Value.none from rx);exact cm PySem.W.kitx_none I.kIn True.intro e (fun z=>nomatch z) h
 |bl y=>cases (show u=Value.bool y from rx);exact cm PySem.W.kitx_bool I.kIn True.intro e (fun z=>nomatch z) h
 |int i=>obtain⟨t,q⟩:=(show ∃t,u=Value.int i t from rx);cases q;exact cm PySem.W.kitx_int I.kIn True.intro e (fun z=>nomatch z) h
 |str y=>obtain⟨t,q⟩:=(show ∃t,u=Value.str y t from rx);cases q;exact cm PySem.W.kitx_str I.kIn True.intro e (fun z=>nomatch z) h
 |flt y=>obtain⟨t,q⟩:=(show ∃t,u=Value.float y t from rx);cases q;exact cm PySem.W.kitx_float I.kIn True.intro e (fun z=>nomatch z) h
 |@lst a xs ea=>
  cases (show u=Value.ref a from rx)
  obtain⟨_,_,n,_,h1⟩:=(show zw X.prog X.w H s.heap a (.lst xs) from I.hok a _ ea)
  exact cm PySem.W.kitx_list I.kIn ⟨_,h1,rfl⟩ e (fun z=>nomatch z) h
 |@frz a ob xs ea=>
  cases (show u=Value.ref a from rx)
  obtain⟨_,_,_,n,_,h1⟩:=(show zw X.prog X.w H s.heap a (.frz ob (.lst xs)) from I.hok a _ ea)
  exact cm PySem.W.kitx_list I.kIn ⟨_,h1,rfl⟩ e (fun z=>nomatch z) h
 |@tup a xs ea=>
  cases (show u=Value.ref a from rx)
  obtain⟨_,_,_,p⟩:=(show zw X.prog X.w H s.heap a (.tup xs) from I.hok a _ ea)
  obtain⟨o,h1,h2,_⟩:=p
  exact cm PySem.W.kitx_tuple I.kIn ⟨o,h1,h2⟩ e (fun z=>nomatch z) h
 |@dK a kvs ea=>
  cases (show u=Value.ref a from rx)
  obtain⟨_,_,vs,_,p⟩:=(show zw X.prog X.w H s.heap a (.dK kvs) from I.hok a _ ea)
  obtain⟨o,es,ep,h1,h2,_⟩:=p
  exact cm PySem.W.kitx_dict I.kIn ⟨o,h1,h2.1⟩ e (fun z=>nomatch z) h
 |@dT a kvs ea=>
  cases (show u=Value.ref a from rx)
  obtain⟨_,_,xs,_,o,es,ep,h1,h2,_⟩:=(show zw X.prog X.w H s.heap a (.dT kvs) from I.hok a _ ea)
  exact cm PySem.W.kitx_dict I.kIn ⟨o,h1,h2.1⟩ e (fun z=>nomatch z) h
 |@ins a C dx fs ea cl ha hn htk hm=>
  cases (show u=Value.ref a from rx)
  obtain⟨mA,O,_⟩:=jk I.hok ea
  obtain⟨od,J,_⟩:=O.look
  exact cm (PySem.W.kitx_own (cl.get _) cl.hd ha hn htk hm) I.kIn J e (fun z=>nomatch z) h
end
structure zY (k:Nat)(A:Around):Prop where
 hd:A.handled=none
 dp:A.depth+3*k+5<recursionLimit
 un:A.units+16*k+200<cLine
 gd:A.guards=some []
theorem zY.mono {j k:Nat}{A:Around}(r:zY k A)(h:j≤k):zY j A:=⟨r.hd,by have:=r.dp;omega,by have:=r.un;omega,r.gd⟩
theorem zY.deeper {k:Nat}{A:Around}(r:zY (k+1) A)(env:Env):zY k (A.deeper env):=
 ⟨r.hd,by have:=r.dp;show A.depth+1+3*k+5<_;omega,by have:=r.un;show A.units+3+16*k+200<_;omega,r.gd⟩
theorem zY.depth {k:Nat}{A:Around}(r:zY k A):A.depth<recursionLimit:=by have:=r.dp;omega
theorem zY.units {k:Nat}{A:Around}(r:zY k A):A.units+64<cLine:=by have:=r.un;omega
def fY :TA:=fun _ H Q=>Q [] H
def gW (ta:TE)(tr:TA):TA:=fun σ H Q=>ta σ H fun x H1=>tr σ H1 fun xs H2=>Q (x::xs) H2
section
variable {X:Cx}{e:Expr}{es:List Expr}{te:TE}{t:TA}{pos:Pos}
theorem zD :PA X [] fY:=fun _ _ _ _ H Q I h=>Calls.spliced_nil ⟨[],H,I,.nil,h⟩
theorem zk (ha:PE X e te)(hr:PA X es t)(hs:starEach (e::es) X.env=(false,eval e X.env)::starEach es X.env:=by rfl):PA X (e::es) (gW te t):=by
 intro pos pins s σ H Q I h
 rw[hs]
 show wpAny _ _ (spliced ((false,eval e X.env)::backTo pos (starEach es X.env))) _ _ s
 refine Calls.spliced_cons (thn (ha pins s σ H _ I h) fun u s1 ⟨x,H1,I1,r1,q1⟩=>?_)
 exact thn (hr pos pins s1 σ H1 _ I1 q1) fun us s2 ⟨xs,H2,I2,r2,q2⟩=>⟨x::xs,H2,I2,.cons r1 r2,q2⟩
def et (t:TA):TE:=fun σ H Q=>t σ H fun xs H1=>xs.length≤sizeLine∧∀p,H1 p=none→Q (.ref p) (upd H1 p (.tup xs))
def fP (t:TA):TE:=fun σ H Q=>t σ H fun xs H1=>xs.length≤sizeLine∧∀p,H1 p=none→Q (.ref p) (upd H1 p (.lst xs))
theorem jP {x1}(h:PA X es t):PE X (.Tuple es x1 pos) (et t):=by
 intro pins s σ H Q I hq
 refine wpAny_Tuple_spliced (thn (h pos pins s σ H _ I hq) fun us s1 ⟨xs,H1,I1,r,z,q⟩=>⟨by rw[←r.length];exact z,?_⟩)
 have hf:H1 s1.heap.objs.size=none:=I1.hok.fresh (eG _)
 refine⟨.ref s1.heap.objs.size,upd H1 s1.heap.objs.size (.tup xs),I1.laid (t':=s1.toks) (fun b u e=>eE _ e) (eG _) ?_,rfl,q _ hf⟩
 exact⟨z,us,r,⟨_,eQ _ rfl,rfl,_,rfl⟩⟩
theorem mH (h:PA X es t):PE X (.List es pos) (fP t):=by
 intro pins s σ H Q I hq
 refine wpAny_List_spliced (thn (h pos pins s σ H _ I hq) fun us s1 ⟨xs,H1,I1,r,z,q⟩=>⟨by rw[←r.length];exact z,?_⟩)
 have hf:H1 s1.heap.objs.size=none:=I1.hok.fresh (eG _)
 refine⟨.ref s1.heap.objs.size,upd H1 s1.heap.objs.size (.lst xs),I1.laid (t':=s1.toks) (fun b u e=>eE _ e) (eG _) ?_,rfl,q _ hf⟩
 exact⟨z,us,0,r,eQ _ rfl⟩
end
abbrev Sp :=List V→Hp→VK→XK→Prop
abbrev CXT :=List Env→Hp→Shared→XK→Value→Shared→Prop
structure jm (P:Program)(w:World)(K:PySem.W.Frag)(mg:Str→Option Value)(base:Heap)(A:Around)(outer:List Env)(s:Shared)(H:Hp):Prop where
 frames:A.frames=some outer
 mod:Mod K mg base
 bs:∀b o,base.get? b=some o→s.heap.get? b=some o∧H b=none
 bsz:base.objs.size≤s.heap.objs.size
 funs:s.heap.FunFrames base outer
 frf:∀b∈frs outer,H b=none
 hok:HOk P w H s.heap
 bare:AllBare s.gens
def CE (outer:List Env)(P:Program)(w:World)(H:Hp)(s:Shared)(Q:VK)(u:Value)(s':Shared):Prop:=
 ∃v H',s'.os=s.os∧AllBare s'.gens∧Un (frs outer) [] H H' s.heap s'.heap∧HOk P w H' s'.heap∧RelV v u∧Q v H'
def CR (CX:CXT)(outer:List Env)(P:Program)(w:World)(H:Hp)(s:Shared)(Q:VK)(E:XK)(r:Result)(s':Shared):Prop:=
 match r with
 |.ok (.ret u)=>CE outer P w H s Q u s'
 |.ok _=>False
 |.error e=>CX outer H s E e s'
structure yB (P:Program)(w:World)(K:PySem.W.Frag)(mg:Str→Option Value)(base:Heap)(CX:CXT)(k:Nat)(f:Addr)(fd:FuncData)(ps:List Str)(sp:Sp):Prop where
 len:∀vs H Q E,sp vs H Q E→vs.length=ps.length
 run:∀(A:Around) (outer:List Env) (s:Shared) (H:Hp) (args:Args) (us:List Value) (vs:List V) (Q:VK) (E:XK),zY k A→jm P w K mg base A outer s H→BindsTo s fd args (ps.zip us)→Vals vs us→sp vs H Q E→
  codeAny (model P w) A (.call (.ref f) args) (CR CX outer P w H s Q E) s
theorem yB.imp {P:Program}{w:World}{K:PySem.W.Frag}{mg:Str→Option Value}{base:Heap}{CX:CXT}{k:Nat}{f:Addr}{fd:FuncData}{ps:List Str}{sp sp':Sp}(F:yB P w K mg base CX k f fd ps sp)
  (h:∀vs H Q E,sp' vs H Q E→sp vs H Q E):yB P w K mg base CX k f fd ps sp':=
 ⟨fun vs H Q E q=>F.len vs H Q E (h _ _ _ _ q),fun A outer s H args us vs Q E hr he hb hv hs=>F.run A outer s H args us vs Q E hr he hb hv (h _ _ _ _ hs)⟩
section
variable {X:Cx}{pins:List (Addr×Obj)}{σ:St}{H:Hp}{s s':Shared}
theorem Inv.env0 (I:Inv X pins σ H s):jm X.prog X.w X.K X.mg X.base X.A X.stack s H:=
 ⟨I.ok.frames,I.ok.mod,I.bs,dZ I.ok.bsz I.sz,I.stack,I.stkFree,I.hok,I.bare⟩
theorem Inv.after {Q:VK}{u:Value}(I:Inv X pins σ H s)(h:CE X.stack X.prog X.w H s Q u s'):EP X pins σ Q u s':=by
 obtain⟨v,H',os,bare,un,hok,r,q⟩:=h
 obtain⟨hh,g,d,t,os'⟩:=s'
 obtain rfl:os'=s.os:=os
 exact⟨v,H',I.call (h':=hh) (g':=g) (d':=d) (t':=t) (ch:=[]) un hok bare (fun b z=>absurd z (by simp)),r,q⟩
end
def fx (sp:Sp)(dvs:List V)(E:XK)(t:TA):TE:=fun σ H Q=>t σ H fun vs H1=>sp (vs++dvs) H1 Q E
def Binds (K:PySem.W.Frag)(fd:FuncData)(ps:List Str)(ds:List Value):Prop:=
 ∀(s:Shared) (us:List Value),K.In s.heap→(us++ds).length=ps.length→BindsTo s fd ⟨us,[]⟩ (ps.zip (us++ds))
theorem Binds.all {K:PySem.W.Frag}{fd:FuncData}{ps:List Str}(h:∀us:List Value,us.length=ps.length→bindArgs fd ⟨us,[]⟩=pure (ps.zip us)):Binds K fd ps []:=fun s us _ hl=>by
 rw[cS] at hl ⊢
 exact .of_eq (h us hl)
def Passes (CX:CXT)(X:Cx)(E:XK):Prop:=∀(pins:List (Addr×Obj)) (σ:St) (H:Hp) (s:Shared) (e:Value) (s':Shared),Inv X pins σ H s→CX X.stack H s E e s'→X.xe e s'
section
variable {X:Cx}{CX:CXT}{k:Nat}{f C:Addr}{fd:FuncData}{ps:List Str}{sp:Sp}{dvs:List V}{ds:List Value}{E:XK}{x m:Str}{p pos apos:Pos}{e o:Expr}{es:List Expr}{ta:TE}{t:TA}
theorem hZ {pins:List (Addr×Obj)}{σ:St}{H:Hp}{s:Shared}{Q:VK}{us:List Value}{vs:List V}(F:yB X.prog X.w X.K X.mg X.base CX k f fd ps sp)(hr:zY k X.A)(hb:Binds X.K fd ps ds)(hd:Vals dvs ds)(hx:Passes CX X E)
  (I:Inv X pins σ H s) (r:Vals vs us) (h:sp (vs++dvs) H Q E):wpAny (model X.prog X.w) X.A (call (.ref f) us) (EP X pins σ Q) X.xe s:=by
 have r2:Vals (vs++dvs) (us++ds):=r.append hd
 have hl:(us++ds).length=ps.length:=by rw[←r2.length];exact F.len _ _ _ _ h
 refine wpAny_call (ae (F.run X.A X.stack s H ⟨us,[]⟩ (us++ds) (vs++dvs) Q E hr I.env0 (hb s us I.kIn hl) r2 h) fun r s' hq=>?_)
 cases r with
 |error e=>exact hx pins σ H s e s' I hq
 |ok fl=>
  cases fl with
  |ret u=>exact I.after hq
  |next=>exact False.elim hq
  |brk=>exact False.elim hq
  |cont=>exact False.elim hq
theorem tu (F:yB X.prog X.w X.K X.mg X.base CX k f fd ps sp)(hr:zY k X.A)(hg:Gl X x)(hm:X.mg x=some (.ref f))(hk:PySem.W.keepIn X.K (.ref f)=true)(hb:Binds X.K fd ps ds)(hd:Vals dvs ds)(hx:Passes CX X E)
  (ha:PA X (e::es) t) (hdb:(x == ("__debug__":Str))=false:=by decide) (he:starEach (e::es) X.env=(false,eval e X.env)::starEach es X.env:=by rfl) (hpl:(backTo pos (starEach es X.env)).any (·.1)=false:=by rfl):
  PE X (.Call (.Name x p) (e::es) [] pos) (fx sp dvs E t):=by
 intro pins s σ H Q I h
 refine aA (lH I hg hm ?_ hdb)
 refine PySem.W.callWith_K (h₀:=X.base) I.ok.mod.kin hk (thn (ha pos pins s σ H _ I h) fun us s1 ⟨vs,H1,I1,r,q⟩=>⟨I1.kIn,?_⟩) he hpl
 exact hZ F hr hb hd hx I1 r q
end
section
variable {X:Cx}{CX:CXT}{k:Nat}{f C:Addr}{fd:FuncData}{ps ks:List Str}{sp:Sp}{E:XK}{x m:Str}{p pos apos kpos:Pos}{e o:Expr}{es:List Expr}{kws:List Keyword}{te ta:TE}{t tk:TA}{nm:Option Str}
variable {g:List Value→List Value→List Value}{gV:List V→List V→List V}
end
structure zH (N P:List Str)(sc:Scope):Prop where
 kind:sc.kind=.function
 co:sc.isCoroutine=false
 gen:sc.isGenerator=false
 nd:N.Nodup
 pre:N.take P.length=P
 par:∀x∈P,sc.names.lookup x=some .local∨sc.names.lookup x=some .cell
 nofree:∀y∈sc.names,y.2≠.free
theorem vS {kindOf:Str→Option NameKind}{x:Str}:∀{binds:List (Str×Value)} {m:Str→Option Value},(∀v,(x,v)∉binds)→bindL kindOf binds m x=m x
 |[],_,_=>rfl
 |(n,v)::r,m,h=>by
  unfold bindL
  rw[vS fun w hw=>h w (eK _ hw)]
  split
  ·have:x≠n:=by rintro rfl;exact h v eH
   simp[this]
  ·rfl
theorem ur {kindOf:Str→Option NameKind}{x:Str}:∀{binds:List (Str×Value)} {m:Str→Option Value},(∀v,(x,v)∉binds)→bindC kindOf binds m x=m x
 |[],_,_=>rfl
 |(n,v)::r,m,h=>by
  unfold bindC
  rw[ur fun w hw=>h w (eK _ hw)]
  split
  ·rfl
  ·have:x≠n:=by rintro rfl;exact h v eH
   simp[this]
theorem uo {kindOf:Str→Option NameKind}{x:Str}{v:Value}:∀{P:List Str} {vs:List Value} {i:Nat} {m:Str→Option Value},P.Nodup→P[i]?=some x→vs[i]?=some v→kindOf x=some .local→
  bindL kindOf (P.zip vs) m x=some v
 |[],_,_,_,_,h,_,_=>by simp at h
 |_::_,[],_,_,_,_,h,_=>by simp at h
 |p::P,w::vs,0,m,nd,h1,h2,hk=>by
  simp at h1 h2;subst h1;subst h2
  show bindL kindOf ((p,w)::P.zip vs) m p=_
  unfold bindL
  rw[vS fun v hv=>(bD.mp nd).1 (List.of_mem_zip hv).1,if_pos hk]
  simp
 |p::P,w::vs,i+1,m,nd,h1,h2,hk=>by
  show bindL kindOf ((p,w)::P.zip vs) m x=_
  unfold bindL
  exact uo (i:=i) (bD.mp nd).2 (by simpa using h1) (by simpa using h2) hk
theorem uh {kindOf:Str→Option NameKind}{x:Str}{v:Value}:∀{P:List Str} {vs:List Value} {i:Nat} {m:Str→Option Value},P.Nodup→P[i]?=some x→vs[i]?=some v→kindOf x≠some .local→
  bindC kindOf (P.zip vs) m x=some v
 |[],_,_,_,_,h,_,_=>by simp at h
 |_::_,[],_,_,_,_,h,_=>by simp at h
 |p::P,w::vs,0,m,nd,h1,h2,hk=>by
  simp at h1 h2;subst h1;subst h2
  show bindC kindOf ((p,w)::P.zip vs) m p=_
  unfold bindC
  rw[ur fun v hv=>(bD.mp nd).1 (List.of_mem_zip hv).1,if_neg hk]
  simp
 |p::P,w::vs,i+1,m,nd,h1,h2,hk=>by
  show bindC kindOf ((p,w)::P.zip vs) m x=_
  unfold bindC
  exact uh (i:=i) (bD.mp nd).2 (by simpa using h1) (by simpa using h2) hk
def start (N:List Str)(vs:List V):St:=vs.map some++List.replicate (N.length-vs.length) none
def uP (CX:CXT)(P:Program)(w:World)(K:PySem.W.Frag)(mg:Str→Option Value)(base:Heap)(N:List Str)(qual:Str)(scope:Scope)(f:Addr)(cd:Value)(A:Around)(outer:List Env)(s:Shared)(H:Hp)(E:XK):Cx where
 prog:=P
 w:=w
 K:=K
 mg:=mg
 base:=base
 A:=A.deeper (envOfC qual scope s.heap.objs.size f cd)
 N:=N
 s₀:=s
 H₀:=H
 env:=envOfC qual scope s.heap.objs.size f cd
 outer:=outer
 stack:=envOfC qual scope s.heap.objs.size f cd::outer
 ex:=[]
 calm:=true
 fn:=fun _=>true
 pn:=[]
 xe:=fun e s'=>wpAny (model P w) (A.deeper (envOfC qual scope s.heap.objs.size f cd)) (leaving (envOfC qual scope s.heap.objs.size f cd) e) (fun _ s''=>CX outer H s E e s'') (fun e' s''=>CX outer H s E e' s'') s'
theorem tW {sc:Scope}{n:Nat}{x:Str}(h:sc.names.lookup x=some .cell):∃c,(cellsFrom n sc.names []).lookup x=some c:=by
 have q:=PySem.W.cellsFrom_some sc.names n [] (.inl h)
 exact Option.isSome_iff_exists.mp q
theorem oB {CX:CXT}{P:Program}{w:World}{K:PySem.W.Frag}{mg:Str→Option Value}{base:Heap}{N ps:List Str}{qual:Str}{scope:Scope}{f:Addr}{cd:Value}{A:Around}{outer:List Env}{s s1:Shared}{H:Hp}{E:XK}{us:List Value}{vs:List V}
  (S:zH N ps scope) (hd:A.handled=none) (e0:jm P w K mg base A outer s H) (hl:vs.length=ps.length) (r:Vals vs us)
  (x:InCallC s s.heap.objs.size (bindL (envOfC qual scope s.heap.objs.size f cd).kindOf (ps.zip us) fun _=>none) (cellsFrom (s.heap.objs.size+1) scope.names []) (bindC (envOfC qual scope s.heap.objs.size f cd).kindOf (ps.zip us) fun _=>none) s1):
  Inv (uP CX P w K mg base N qual scope f cd A outer s H E) [] (start N vs) H s1:=by
 have hpl:ps.length≤N.length:=by have:=congrArg List.length S.pre;rw[dN] at this;omega
 obtain⟨h1,tk,rfl,hk⟩:=x.done
 have noA:∀b:Addr,b∉(uP CX P w K mg base N qual scope f cd A outer s H E).ex:=fun b z=>absurd (show b∈([]:List Addr) from z) (by simp)
 refine⟨⟨e0.mod,S.kind,rfl,rfl,eG _,fun y z c h1 h2=>?_,fun y hy=>?_,fun y c _ h=>?_,fun _=>hd,Around.frames_deeper e0.frames,.inr ⟨rfl,rfl⟩,fun b z=>absurd z (noA b),e0.bs,e0.bsz,fun b _ _=>noA b,fun b z=>absurd z (noA b),e0.funs,e0.frf⟩,
  rfl,e0.bare,Un.kept hk,⟨_,x.toInCall.ns,fun i y v h1 h2 h3=>?_⟩,fun y c h=>⟨_,x.cell y c h⟩,e0.hok.fresh (eG _),fun y c h=>?_,fun p hp=>absurd (show p∈([]:List (Addr×Obj)) from hp) (by simp),e0.hok.kept hk,?_⟩
 ·exact name_of_addr x.apart (cu h1) (cu h2)
 ·have hy:scope.names.lookup y=some .cell∨scope.names.lookup y=some .free:=hy
  rcases hy with hy|hy
  ·exact tW hy
  ·exact absurd rfl (S.nofree _ (cu hy))
 ·exact cB (x.above y c (cu h))
 ·have hi:i<vs.length:=by
   unfold start at h2
   by_cases hi:i<vs.length
   ·exact hi
   ·rw[bH (by simpa using hi)] at h2
    rw[bf] at h2
    split at h2<;>cases h2
  have ha:vs[i]?=some v:=by
   unfold start at h2
   rw[cQ (by simpa using hi),dy] at h2
   cases e:vs[i]? with
   |none=>rw[e] at h2;cases h2
   |some a=>rw[e] at h2;cases h2;rfl
  obtain⟨u,hu,rv⟩:=r.get ha
  have hp:ps[i]?=some y:=by
   rw[←S.pre,List.getElem?_take_of_lt (by omega)];exact h1
  have ndP:ps.Nodup:=by rw[←S.pre];exact S.nd.sublist (cV _ _)
  refine⟨u,rv,?_⟩
  rcases S.par y (cE hp) with k|k
  ·exact .inl ⟨k,uo ndP hp hu k⟩
  ·obtain⟨c,e⟩:=tW (n:=s.heap.objs.size+1) k
   refine .inr ⟨.inl k,c,e,?_⟩
   have q:=x.cell y c e
   rw[uh ndP hp hu (by show scope.names.lookup y≠_;rw[k];decide)] at q
   exact q
 ·exact e0.hok.fresh (cB (x.above y c (cu h)))
 ·unfold start
  show _=N.length
  rw[eW,eD,List.length_replicate]
  omega
theorem gL {CX:CXT}{P:Program}{w:World}{K:PySem.W.Frag}{mg:Str→Option Value}{base:Heap}{k:Nat}{f:Addr}{name qual:Str}{params:Arguments}{body:List Stmt}{scope:Scope}{dV kV doc pm cdv ct oc:Value}{an od:Option Addr}
  {osl:Array (Option Value)} {N ps:List Str} {sp:Sp} (lk:K.lookup f=some ⟨oc,od,.func (PySem.W.fnOf name qual params body scope dV kV doc pm an cdv ct),osl⟩) (hcd:PySem.W.codeIn K cdv qual=true) (S:zH N ps scope)
  (len:∀vs H Q E,sp vs H Q E→vs.length=ps.length)
  (hbody:∀(A:Around) (outer:List Env) (s:Shared) (H:Hp) (vs:List V) (Q:VK) (E:XK),zY k (A.deeper (envOfC qual scope s.heap.objs.size f cdv))→sp vs H Q E→
   ∃t,PSs (uP CX P w K mg base N qual scope f cdv A outer s H E) body t∧t {nx:=fun _ H'=>Q .non H',rt:=Q} (start N vs) H):
  yB P w K mg base CX (k+1) f (PySem.W.fnOf name qual params body scope dV kV doc pm an cdv ct) ps sp:=by
 refine⟨len,fun A outer s H args us vs Q E hr e0 hb r hsp=>?_⟩
 have hl:=len _ _ _ _ hsp
 have KX:K.In s.heap:=e0.mod.kin.keeps fun b o e=>(e0.bs b o e).1
 have lim:s.heap.NoLimit:=e0.mod.nolimit.keeps fun b o e=>(e0.bs b o e).1
 have hkind:∀y∈ps.zip us,scope.names.lookup y.1=some .local∨(scope.names.lookup y.1=some .cell∧((cellsFrom (s.heap.objs.size+1) scope.names []).lookup y.1).isSome=true):=fun⟨n,v⟩ hy=>by
  rcases S.par n (List.of_mem_zip hy).1 with q|q
  ·exact .inl q
  ·exact .inr ⟨q,PySem.W.cellsFrom_some _ _ _ (.inl q)⟩
 refine codeAny_call_function hr.depth (KX _ _ lk) rfl S.co S.gen rfl (PySem.W.codeRec_of KX hcd) (hb _ _ _ _ ?_)
 refine wpAny_newFunctionEnv_cells S.kind hkind fun env he s1 x=>?_
 subst he
 refine⟨lim.keeps x.toInCall.keep,codeAny_func ?_⟩
 obtain⟨t,ht,hq⟩:=hbody A outer s H vs Q E (hr.deeper _) hsp
 have I:Inv (uP CX P w K mg base N qual scope f cdv A outer s H E) [] (start N vs) H s1:=oB S hr.hd e0 hl r x
 refine dO (ht [] s1 (start N vs) H _ I hq) (fun fl s' hs=>?_) fun e s' hs=>hs
 have fin:∀{σ':St} {H':Hp} {v:V} {u:Value},Inv (uP CX P w K mg base N qual scope f cdv A outer s H E) [] σ' H' s'→RelV v u→Q v H'→CE outer P w H s Q u s':=
  fun {σ' H' v u} J rv q=>⟨v,H',J.os,J.bare,J.base,J.hok,rv,q⟩
 cases fl with
 |ret u=>
  obtain⟨v,σ',H',J,rv,q⟩:=hs
  exact fin J rv q
 |next=>
  obtain⟨σ',H',J,q⟩:=hs
  exact fin (v:=V.non) (u:=Value.none) J rfl q
 |brk=>
  obtain⟨_,_,_,q⟩:=hs
  exact False.elim q
 |cont=>
  obtain⟨_,_,_,q⟩:=hs
  exact False.elim q
section
variable {X:Cx}{x:Str}{p pos:Pos}{e:Expr}{es:List Expr}{t:TA}{id T:String}{r:List V→Hp→VK→Prop}
def tCB (r:List V→Hp→VK→Prop)(t:TA):TE:=fun σ H Q=>t σ H fun vs H1=>r vs H1 Q
theorem yO (hc:yj X (.builtin id) r)(hg:Gl X x)(hm:X.mg x=none)(hv:bootBuiltins x=some (.builtin id))(ha:PA X (e::es) t)(hn:x≠"__name__":=by decide)(hdb:(x == ("__debug__":Str))=false:=by decide)
  (he:starEach (e::es) X.env=(false,eval e X.env)::starEach es X.env:=by rfl) (hpl:(backTo pos (starEach es X.env)).any (·.1)=false:=by rfl):PE X (.Call (.Name x p) (e::es) [] pos) (tCB r t):=by
 intro pins s σ H Q I h
 refine aA (yU I hg hm hv ?_ hn hdb)
 exact PyProof.Rows.callWith_builtin1 (thn (ha pos pins s σ H _ I h) fun us s1 ⟨vs,H1,I1,r1,q1⟩=>hc pins s1 σ H1 vs us Q I1 r1 q1) he hpl
theorem yv (hc:yj X (.type T) r)(hg:Gl X x)(hm:X.mg x=none)(hv:bootBuiltins x=some (.type T))(ha:PA X (e::es) t)(hn:x≠"__name__":=by decide)(hdb:(x == ("__debug__":Str))=false:=by decide)
  (he:starEach (e::es) X.env=(false,eval e X.env)::starEach es X.env:=by rfl) (hpl:(backTo pos (starEach es X.env)).any (·.1)=false:=by rfl):PE X (.Call (.Name x p) (e::es) [] pos) (tCB r t):=by
 intro pins s σ H Q I h
 refine aA (yU I hg hm hv ?_ hn hdb)
 exact cG (thn (ha pos pins s σ H _ I h) fun us s1 ⟨vs,H1,I1,r1,q1⟩=>hc pins s1 σ H1 vs us Q I1 r1 q1) he hpl
end
end L2
namespace HT
open PySem PyProof.Rows
def lexLt :List Int→List Int→Bool
 |[],[]=>false
 |[],_::_=>true
 |_::_,[]=>false
 |x::xs,y::ys=>if x=y then lexLt xs ys else decide (x<y)
theorem rM (x y:Int)(xs ys:List Int):lexLt (x::xs) (y::ys)=if x=y then lexLt xs ys else decide (x<y):=rfl
theorem vL :lexLt [] []=false:=rfl
theorem vv (y:Int)(ys:List Int):lexLt [] (y::ys)=true:=rfl
theorem vp (x:Int)(xs:List Int):lexLt (x::xs) []=false:=rfl
theorem mG (A:Around)(s:Shared)(a:Int)(t:Tok)(c:Int)(u:Tok):∃e,SeqAt.EqAt A s (.int a t) (.int c u) e∧(e=true↔a=c):=
 ⟨(a == c),SeqAt.EqAt.int_int a t c u,by simp⟩
theorem nN (A:Around)(s:Shared)(a:Int)(t:Tok)(c:Int)(u:Tok)(prog:Program)(w:World)(E:Value→Shared→Prop)(Q:Value→Shared→Prop)(h:Q (.bool (decide (a<c))) s):
  wpAny (model prog w) A (richCompare .Lt (.int a t) (.int c u)) Q E s:=
 (PyProof.Rows.lt_int h:wpAny (model prog w) A (compareOp .Lt (.int a t) (.int c u)) Q E s)
section
open PySem.SeqAt
open PySem.AutoSeq1 (wpAny_loadPart')
open PySem.MeetsSeq PySem.MeetsSeq2 PySem.MeetsSeq3
theorem vH (l b:Addr)(items items2:Array Value)(n n2:Nat)(dd dd2:Option Addr)(sl sl2:Array (Option Value))(ns ms:List Int)(hi:IntsAre items.toList ns)(hj:IntsAre items2.toList ms):
  Meets (Builtin.«tuple.__lt__» ⟨[.ref l,.ref b],[]⟩)
   (fun _ R s=>s.heap.get? l=some {cls:=.type "tuple",dict:=dd,data:=.seq items n,slots:=sl}∧s.heap.get? b=some {cls:=.type "tuple",dict:=dd2,data:=.seq items2 n2,slots:=sl2}∧
    R (.ok (.ret (.bool (lexLt ns ms)))) s):=
 .of_wp fun prog w A R s h=>by
  obtain⟨hp,g,d,tk,os⟩:=s;obtain⟨hl,hb,h⟩:=h
  have f2:=AutoSeq1.sub_tuple_tuple
  have z1:items.size=ns.length:=by rw[←hi.length];simp
  have z2:items2.size=ms.length:=by rw[←hj.length];simp
  wp_walk using aY hl,aY hb,aU _ (fun rest b s'=>b.1=none∧s'=⟨hp,g,d,tk,os⟩∧∃(vs ws:List Value) (ns' ms':List Int),rest=vs.zip ws∧
   IntsAre vs ns'∧IntsAre ws ms'∧ns'.length+items2.size=ms'.length+items.size∧R (.ok (.ret (.bool (lexLt ns' ms')))) ⟨hp,g,d,tk,os⟩) _
  case turn=>
   rintro⟨y,x⟩ rest b s' ⟨hb',rfl,vs,ws,ns',ms',hz,hvi,hwi,hlen,hR⟩
   cases hvi with
   |nil=>rw[List.zip_nil_left] at hz;cases hz
   |cons a t hvi'=>
    cases hwi with
    |nil=>rw[List.zip_nil_right] at hz;cases hz
    |cons c u hwi'=>
     rw[List.zip_cons_cons] at hz
     injection hz with hyx hrest
     injection hyx with hy hx
     subst hy hx
     rw[rM] at hR
     simp only[df] at hlen
     obtain⟨e,he,hiff⟩:=mG A.in1 ⟨hp,g,d,tk,os⟩ a t c u
     refine eA (he prog w _ _ ?_)
     cases e with
     |true=>
      rw[if_pos (hiff.mp rfl)] at hR
      wp_walk
      exact⟨rfl,rfl,_,_,_,_,hrest,hvi',hwi',by omega,hR⟩
     |false=>
      rw[if_neg (fun q=>absurd (hiff.mpr q) dn)] at hR
      have hri:=nN A.in1 ⟨hp,g,d,tk,os⟩ a t c u prog w
      wp_walk using hri
      exact⟨_,rfl,by simpa using hR⟩
  case fin=>
   rintro⟨b1,b2⟩ s' ⟨hb',rfl,vs,ws,ns',ms',hz,hvi,hwi,hlen,hR⟩
   simp only at hb'
   subst hb'
   have hv:lexLt ns' ms'=decide (items.size<items2.size):=by
    cases hvi with
    |nil=>
     cases hwi with
     |nil=>
      simp only[List.length_nil] at hlen
      rw[vL]
      exact (eZ (by omega)).symm
     |cons c u hw=>
      simp only[List.length_nil,df] at hlen
      rw[vv]
      exact (dW (by omega)).symm
    |cons a t hv=>
     cases hwi with
     |nil=>
      simp only[List.length_nil,df] at hlen
      rw[vp]
      exact (eZ (by omega)).symm
     |cons c u hw=>
      rw[List.zip_cons_cons] at hz
      cases hz
   rw[hv] at hR
   wp_walk
   exact⟨_,rfl,by simpa[Builtin.Tuple.tupleCompareSizes] using hR⟩
  case h=>
   exact⟨rfl,rfl,items.toList,items2.toList,ns,ms,rfl,hi,hj,by omega,h⟩
end
section
variable {prog:Program}{w:World}{A:Around}{E:Value→Shared→Prop}{s:Shared}
theorem sR {l b:Addr}{items items2:Array Value}{ns ms:List Int}{Q:Value→Shared→Prop}(hl:IsTup s.heap l items)(hb:IsTup s.heap b items2)(hi:IntsAre items.toList ns)(hj:IntsAre items2.toList ms)
  (hu:A.units<cLine) (h:Q (.bool (lexLt ns ms)) s):wpAny (model prog w) A (compareOp .Lt (.ref l) (.ref b)) Q E s:=by
 obtain⟨⟨cls,dd,data,sl⟩,ho,hc,n,hd⟩:=id hl
 obtain⟨⟨cls2,dd2,data2,sl2⟩,ho2,hc2,n2,hd2⟩:=id hb
 simp only at hc hd hc2 hd2
 subst hc hd hc2 hd2
 exact richCompare_meets_room (op:=.Lt) ⟨_,ho,rfl⟩ ⟨_,ho2,rfl⟩ PySem.F.slot_tuple_lt PySem.F.entry_tuple_lt (PySem.F.args_tuple_lt_2 _ _) (vH l b items items2 n n2 dd dd2 sl sl2 ns ms hi hj)
  ⟨ho,ho2,show Value.bool (lexLt ns ms)≠Value.notImplemented∧Q (.bool (lexLt ns ms)) s from ⟨(fun x=>nomatch x),h⟩⟩ hu
def sIx (n d:Nat):Option Int→Nat
 |none=>d
 |some v=>if v<0 then (v+(n:Int)).toNat else min v.toNat n
theorem tX (n d:Nat):sIx n d none=d:=rfl
theorem qk (n d k:Nat):sIx n d (some (k:Int))=min k n:=by
 show (if (k:Int)<0 then ((k:Int)+(n:Int)).toNat else min (k:Int).toNat n)=min k n
 rw[if_neg (by omega),cW]
end
end HT
namespace L2
open PySem PySem.Spec PyProof.Rows
abbrev TO :=St→Hp→(Option Int→Hp→Prop)→Prop
def PO (X:Cx)(e:Option Expr)(t:TO):Prop:=
 ∀(pins:List (Addr×Obj)) (s:Shared) (σ:St) (H:Hp) (Q:Option Int→Hp→Prop),Inv X pins σ H s→t σ H Q→
  wpAny (model X.prog X.w) X.A (evalPart e X.env) (fun u s'=>∃o H',Inv X pins σ H' s'∧IsPart u o∧Q o H') X.xe s
def lA :TO:=fun _ H Q=>Q none H
def gF (t:TE):TO:=fun σ H Q=>t σ H fun x H1=>∃i,x=.int i∧Q (some i) H1
theorem intsAre_of {ns:List Int}:∀{us:List Value},Vals (ns.map V.int) us→IntsAre us ns:=by
 induction ns with
 |nil=>intro us r;rw[List.map_nil] at r;cases r;exact .nil
 |cons n ns ih=>
  intro us r
  rw[dG] at r
  cases r with
  |cons r1 r2=>
   obtain⟨t,e⟩:=r1
   subst e
   exact .cons n t (ih r2)
section
variable {X:Cx}{e:Expr}{te:TE}{lo hi:Option Expr}{tl th:TO}{pos p2:Pos}
theorem qO :PO X none lA:=by
 intro pins s σ H Q I h
 rw[evalPart_none]
 exact eB ⟨none,H,I,.none,h⟩
theorem qC (h:PE X e te):PO X (some e) (gF te):=by
 intro pins s σ H Q I hw
 rw[evalPart_some]
 refine thn (h pins s σ H _ I hw) fun u s1 ⟨x,H1,I1,r1,q1⟩=>?_
 obtain⟨i,rfl,q⟩:=q1
 obtain⟨t,rfl⟩:=r1
 exact⟨some i,H1,I1,.int i t,q⟩
def SlR (X:Cx)(r:V→Option Int→Option Int→Hp→VK→Prop):Prop:=
 ∀(pins:List (Addr×Obj)) (s:Shared) (σ:St) (H:Hp) (x:V) (v vl vu:Value) (lo hi:Option Int) (sl:Addr) (Q:VK),Inv X pins σ H s→RelV x v→s.heap.IsSliceOf sl vl vu .none→IsPart vl lo→IsPart vu hi→r x lo hi H Q→
  ∃T id,typeLookup (.type T) "__getitem__"=pure (some (.builtin id))∧s.TypeIs v T∧wpAny (model X.prog X.w) X.A (getItem v (.ref sl)) (EP X pins σ Q) X.xe s
def tSl (r:V→Option Int→Option Int→Hp→VK→Prop)(te:TE)(tl th:TO):TE:=fun σ H Q=>te σ H fun x H1=>tl σ H1 fun l H2=>th σ H2 fun u H3=>r x l u H3 Q
theorem tP {r:V→Option Int→Option Int→Hp→VK→Prop}(hr:SlR X r)(he:PE X e te)(hl:PO X lo tl)(hu:PO X hi th):PE X (.Subscript e (.Slice lo hi none p2) pos) (tSl r te tl th):=by
 intro pins s σ H Q I h
 refine Subscript_ (thn (he pins s σ H _ I h) fun v s1 ⟨x,H1,I1,r1,q1⟩=>?_)
 refine wpAny_Slice (thn (hl pins s1 σ H1 _ I1 q1) fun vl s2 ⟨l,H2,I2,pl,q2⟩=>thn (hu pins s2 σ H2 _ I2 q2) fun vu s3 ⟨u,H3,I3,pu,q3⟩=>?_)
 rw[evalPart_none]
 refine eB ?_
 have I4:Inv X pins σ H3 {s3 with heap:=s3.heap.push {cls:=.type "slice",data:=.fields #[vl,vu,.none]}}:=I3.kept (t':=s3.toks) fun b ob q=>eE _ q
 obtain⟨T,id,hT,ht,hg⟩:=hr pins {s3 with heap:=s3.heap.push {cls:=.type "slice",data:=.fields #[vl,vu,.none]}} σ H3 x v vl vu l u s3.heap.objs.size Q I4 r1 (Heap.IsSliceOf.new ..) pl pu q3
 show wpAny (model X.prog X.w) X.A (subscriptTail e (.Slice lo hi none p2) v (.ref s3.heap.objs.size)) (EP X pins σ Q) X.xe {s3 with heap:=s3.heap.push {cls:=.type "slice",data:=.fields #[vl,vu,.none]}}
 exact tail_any (ops:=[.ref s3.heap.objs.size,v]) ht hT hg (by with_unfolding_all rfl)
def tJ (xs:List V)(lo hi:Option Int):List V:=(xs.drop (HT.sIx xs.length 0 lo)).take (HT.sIx xs.length xs.length hi-HT.sIx xs.length 0 lo)
theorem sJ (xs:List V)(lo hi:Option Int):(tJ xs lo hi).length≤xs.length:=by
 unfold tJ
 rw[dN,cC]
 omega
end
def ixN (n:Nat)(i:Int):Option Nat:=if 0≤i then (if i<n then some i.toNat else none) else if -(n:Int)≤i then some (i+n).toNat else none
def atI {α:Type}(xs:List α)(i:Int):Option α:=(ixN xs.length i).bind fun j=>xs[j]?
theorem rW {n:Nat}{i:Int}{j:Nat}(h:ixN n i=some j):seqIndex? i n=some j∧j<n∧-(n:Int)≤i∧i<n:=by
 unfold ixN at h
 by_cases h0:0≤i
 ·rw[if_pos h0] at h
  by_cases h1:i<n
  ·rw[if_pos h1] at h
   have e:i.toNat=j:=dz h
   exact⟨by rw[seqIndex_of h0 h1,e],by omega,by omega,h1⟩
  ·rw[if_neg h1] at h;cases h
 ·rw[if_neg h0] at h
  by_cases h1:-(n:Int)≤i
  ·rw[if_pos h1] at h
   have e:(i+n).toNat=j:=dz h
   exact⟨by rw[seqIndex_neg (by omega) h1,e],by omega,h1,by omega⟩
  ·rw[if_neg h1] at h;cases h
theorem uN {α:Type}{xs:List α}{i:Int}{v:α}(h:atI xs i=some v):∃j,seqIndex? i xs.length=some j∧xs[j]?=some v∧j<xs.length∧-(xs.length:Int)≤i∧i<xs.length:=by
 unfold atI at h
 cases e:ixN xs.length i with
 |none=>rw[e] at h;cases h
 |some j=>
  rw[e] at h
  obtain⟨h1,h2,h3,h4⟩:=rW e
  exact⟨j,h1,h,h2,h3,h4⟩
theorem kH {α:Type}{xs:List α}{j:Nat}{v:α}(h:xs[j]?=some v):atI xs (j:Int)=some v:=by
 have hj:j<xs.length:=(eS.mp h).1
 have e:ixN xs.length (j:Int)=some j:=by
  unfold ixN
  rw[if_pos (by omega),if_pos (by omega)];simp
 unfold atI;rw[e];exact h
def rZ (b:Expr):Prop:=∀o i,subscripted b false o i=operate [o,i] (getItem o i)
def IxR (X:Cx)(r:R2):Prop:=
 ∀(value slice:Expr) (pins:List (Addr×Obj)) (s:Shared) (σ:St) (H:Hp) (x y:V) (v u:Value) (Q:VK),Inv X pins σ H s→RelV x v→RelV y u→r x y H Q→
  subscripted slice false v u=operate [v,u] (getItem v u)→wpAny (model X.prog X.w) X.A (subscriptTail value slice v u) (EP X pins σ Q) X.xe s
def MtR (X:Cx)(id:String)(r:V→List V→Hp→VK→Prop):Prop:=
 ∀(pins:List (Addr×Obj)) (s:Shared) (σ:St) (H:Hp) (x:V) (xs:List V) (v:Value) (us:List Value) (Q:VK),Inv X pins σ H s→RelV x v→Vals xs us→r x xs H Q→
  wpAny (model X.prog X.w) X.A (call (.builtin id) (v::us)) (EP X pins σ Q) X.xe s
section
variable {X:Cx}{a b:Expr}{ta tb:TE}{pos:Pos}
theorem IxR.or {r r':R2}(h:IxR X r)(h':IxR X r'):IxR X (fun x y H Q=>r x y H Q∨r' x y H Q):=by
 intro value slice pins s σ H x y v u Q I rx ry q hs
 rcases q with q|q
 ·exact h value slice pins s σ H x y v u Q I rx ry q hs
 ·exact h' value slice pins s σ H x y v u Q I rx ry q hs
theorem wu {r:R2}(hr:IxR X r)(ha:PE X a ta)(hb:PE X b tb)(hs:rZ b):PE X (.Subscript a b pos) (tOp r ta tb):=by
 intro pins s σ H Q I h
 exact Subscript_ (jV ha hb I h fun v u s2 x y H2 I2 rx ry q=>hr a b pins s2 σ H2 x y v u Q I2 rx ry q (hs _ _))
def gy (K:PySem.W.Frag):R2:=fun x y H Q=>∃p xs i v,x=.ref p∧y=.int i∧SqL K H p xs∧atI xs i=some v∧Q v H
def fF (K:PySem.W.Frag):R2:=fun x y H Q=>∃p xs i v,x=.ref p∧y=.int i∧SqT K H p xs∧atI xs i=some v∧Q v H
def gX :R2:=fun x y H Q=>∃z i c,x=.str z∧y=.int i∧z.length≤sizeLine∧atI z.cps.toList i=some c∧Q (.str ⟨#[c]⟩) H
theorem yq :IxR X (gy X.K):=by
 intro value slice pins s σ H x y v u Q I rx ry h hs
 obtain⟨p,xs,i,z,rfl,rfl,hq,he,q⟩:=h
 cases rx
 obtain⟨t,rfl⟩:=ry
 obtain⟨its,r,pl,hz⟩:=I.list hq
 obtain⟨j,h1,h2,h3,h4,h5⟩:=uN he
 obtain⟨w,ew,rw'⟩:=r.get h2
 have hl:=r.length
 have hn:=xX
 have fin:EP X pins σ Q w s:=⟨z,H,I,rw',q⟩
 by_cases h0:0≤i
 ·have hj:i.toNat=j:=by
   rw[seqIndex_of h0 h5] at h1
   exact dz h1
  exact item_listR pl.isList h0 (by omega) (by rw[hj];simpa using ew) fin hs
 ·have hj:(i+(its.toArray.size:Int)).toNat=j:=by
   rw[seqIndex_neg (by omega) h4] at h1
   rw[eP,←hl]
   exact dz h1
  exact subscriptTail_builtinR (x:=w) pl.isList.typeIs slot_list_getitem.lookup
   (wpAny_getItem_list_neg (Q:=fun r s'=>r=w∧EP X pins σ Q r s') pl.isList (by omega) (by rw[eP]<;>omega) (by omega) (by rw[hj];simpa using ew) ⟨rfl,fin⟩) hs
theorem jS :IxR X (fF X.K):=by
 intro value slice pins s σ H x y v u Q I rx ry h hs
 obtain⟨p,xs,i,z,rfl,rfl,hq,he,q⟩:=h
 cases rx
 obtain⟨t,rfl⟩:=ry
 obtain⟨its,r,pl,hz⟩:=I.tuple hq
 obtain⟨j,h1,h2,h3,h4,h5⟩:=uN he
 obtain⟨w,ew,rw'⟩:=r.get h2
 have hl:=r.length
 have hn:=xX
 have fin:EP X pins σ Q w s:=⟨z,H,I,rw',q⟩
 exact subscriptTail_builtinR (x:=w) pl.typeIs slot_tuple_getitem.lookup
  (getItem_tuple (j:=j) (Q:=fun r s'=>r=w∧EP X pins σ Q r s') pl (by omega) (by omega) (by rw[eP,←hl];exact h1) (by simpa using ew) ⟨rfl,fin⟩) hs
theorem iN :IxR X gX:=by
 intro value slice pins s σ H x y v u Q I rx ry h hs
 obtain⟨z,i,c,rfl,rfl,hz,he,q⟩:=h
 obtain⟨t,rfl⟩:=rx
 obtain⟨t',rfl⟩:=ry
 obtain⟨j,h1,h2,h3,h4,h5⟩:=uN he
 have hl:z.cps.toList.length=z.length:=by simp[Str.length]
 rw[hl] at h1 h4 h5
 have hn:=xX
 exact tail_any (typeIs_str s z t) slot_str_getitem.lookup (getItem_str (c:=c) (by
  have e1:decide (i < -(2 ^ 63:Int))=false:=eZ (by omega)
  have e2:decide (i≥2 ^ 63)=false:=eZ (by omega)
  rw[e1,e2,Bool.or_false]) (by rw[h1];simpa using h2) ⟨.str ⟨#[c]⟩,H,I.tok _,⟨_,rfl⟩,q⟩) hs
def rIx (K:PySem.W.Frag):R2:=fun x y H Q=>gy K x y H Q∨fF K x y H Q∨gX x y H Q
theorem iP :IxR X (rIx X.K):=yq.or (jS.or iN)
theorem rq (its:List Value)(n j:Nat)(u:Value):Obj.mapSeq (·.setIfInBounds j u) {cls:=.type "list",data:=.seq its.toArray n}={cls:=.type "list",data:=.seq (its.set j u).toArray n}:=by
 simp[Obj.mapSeq]
theorem Inv.lst {pins:List (Addr×Obj)}{σ:St}{H:Hp}{s:Shared}{p:Addr}{xs:List V}(I:Inv X pins σ H s)(h:H p=some (.lst xs)):
  ∃(its:List Value) (n:Nat),Vals xs its∧s.heap.get? p=some {cls:=.type "list",data:=.seq its.toArray n}∧xs.length≤sizeLine:=by
 obtain⟨z,its,n,r,e⟩:=I.hok p _ h
 exact⟨its,n,r,e,z⟩
theorem Inv.lstUpd {pins:List (Addr×Obj)}{σ:St}{H:Hp}{s:Shared}{p:Addr}{xs ys:List V}{its its':List Value}{n n':Nat}{f:Obj→Obj}(I:Inv X pins σ H s)(h:H p=some (.lst xs))
  (ho:s.heap.get? p=some {cls:=.type "list",data:=.seq its.toArray n}) (hf:f {cls:=.type "list",data:=.seq its.toArray n}={cls:=.type "list",data:=.seq its'.toArray n'}) (r:Vals ys its') (hz:ys.length≤sizeLine) (t:Nat):
  Inv X pins σ (upd H p (.lst ys)) {s with heap:=s.heap.update p f,toks:=t}:=by
 have e:(s.heap.update p f).get? p=some {cls:=.type "list",data:=.seq its'.toArray n'}:=by
  rw[cz f ho (by rw[hf]<;>rfl),hf]
 refine I.write (x:=p) (e:=p) (by rw[h];trivial) (.inl rfl) (fun b u hb q=>(dU _ _ (bO hb)).trans q) ⟨_,e⟩ ?_
 exact⟨hz,its',n',r,e⟩
def jv :V→V→V→Hp→(Hp→Prop)→Prop:=fun o i v H Q=>∃p xs k j,o=.ref p∧i=.int k∧H p=some (.lst xs)∧ixN xs.length k=some j∧Q (upd H p (.lst (xs.set j v)))
theorem set_list :gM X jv:=by
 intro pins s σ H o i v ov iv u Q I ro ri rv h
 obtain⟨p,xs,k,j,rfl,rfl,hp,hj,q⟩:=h
 cases ro
 obtain⟨t,rfl⟩:=ri
 obtain⟨its,n,r,ho,hz⟩:=I.lst hp
 obtain⟨h1,h2,h3,h4⟩:=rW hj
 have hl:=r.length
 have hn:=xX
 have I':Inv X pins σ (upd H p (.lst (xs.set j v))) {s with heap:=s.heap.update p (Obj.mapSeq (·.setIfInBounds j u))}:=
  I.lstUpd hp ho (rq its n j u) (r.set rv j) (by rw[dA];exact hz) s.toks
 by_cases h0:0≤k
 ·have hk:k.toNat=j:=by
   rw[seqIndex_of h0 h4] at h1
   exact dz h1
  exact PySem.W.ki_setAt ho h0 (by omega) (by rw[eP,←hl];exact h4) (by rw[hk];exact⟨_,I',q⟩)
 ·have hk:(k+(its.toArray.size:Int)).toNat=j:=by
   rw[seqIndex_neg (by omega) h3] at h1
   rw[eP,←hl]
   exact dz h1
  exact PySem.W.ki_setBack ho (by omega) (by rw[eP,←hl];exact h3) (by omega) (by rw[hk];exact⟨_,I',q⟩)
theorem tj (lo hi:Option Int)(n:Nat):(sliceBounds lo hi none n).1=((HT.sIx n 0 lo:Nat):Int)∧(sliceBounds lo hi none n).2.1=((HT.sIx n n hi:Nat):Int)∧(sliceBounds lo hi none n).2.2=1:=by
 refine⟨?_,?_,rfl⟩
 ·cases lo with
  |none=>simp[sliceBounds,HT.sIx]
  |some i=>
   simp only[sliceBounds,HT.sIx,Option.getD_none,show (1:Int) > 0 by decide,aI]
   by_cases h:i<0
   ·simp only[h,aI]<;>omega
   ·simp only[h,aV]<;>omega
 ·cases hi with
  |none=>simp[sliceBounds,HT.sIx]
  |some i=>
   simp only[sliceBounds,HT.sIx,Option.getD_none,show (1:Int) > 0 by decide,aI]
   by_cases h:i<0
   ·simp only[h,aI]<;>omega
   ·simp only[h,aV]<;>omega
theorem vG (its:List Value)(lo hi:Option Int):slicePick its.toArray lo hi none=((its.drop (HT.sIx its.length 0 lo)).take (HT.sIx its.length its.length hi-HT.sIx its.length 0 lo)).toArray:=by
 obtain⟨h1,h2,h3⟩:=tj lo hi its.toArray.size
 unfold slicePick
 rw[h1,h2,h3]
 simp only[sliceRange_one,pick_run,eP]<;>rfl
def fN (K:PySem.W.Frag):V→Option Int→Option Int→Hp→VK→Prop:=fun x lo hi H Q=>∃a xs,x=.ref a∧SqL K H a xs∧∀p,H p=none→Q (.ref p) (upd H p (.lst (tJ xs lo hi)))
theorem qu :SlR X (fN X.K):=by
 intro pins s σ H x v vl vu lo hi sl Q I rx hs pl pu h
 obtain⟨a,xs,rfl,hx,q⟩:=h
 cases rx
 obtain⟨its,r,ht,hz⟩:=I.list hx
 have hlen:=r.length
 refine⟨"list",_,slot_list_getitem.lookup,ht.isList.typeIs,?_⟩
 refine wpAny_getItem_list_slice ht.isList hs pl pu .none (by simp) ?_ (by rw[eP]<;>omega)
 rw[vG,←hlen]
 refine⟨.ref s.heap.objs.size,_,I.laid (t':=s.toks) (o:=.lst (tJ xs lo hi)) (fun b ob q=>eE _ q) (eG _) ?_,rfl,q _ (I.hok.fresh (eG _))⟩
 exact⟨dZ (sJ xs lo hi) hz,_,0,(r.drop (HT.sIx xs.length 0 lo)).take (HT.sIx xs.length xs.length hi-HT.sIx xs.length 0 lo),eQ _ rfl⟩
theorem uO :yj X (.builtin "len") (fun xs H Q=>∃p ys,xs=[.ref p]∧(SqL X.K H p ys∨SqT X.K H p ys)∧Q (.int ys.length) H):=by
 intro pins s σ H xs us Q I r h
 obtain⟨p,ys,rfl,hq,q⟩:=h
 obtain⟨u,rfl,rx⟩:=vals1 r
 cases rx
 have hn:=xX
 rcases hq with hq|hq
 ·obtain⟨its,r',pl,hz⟩:=I.list hq
  have hlen:=r'.length
  exact Calls.call_len_list pl.isList (by simp only[eP]<;>omega) ⟨.int ys.length,H,I.tok _,⟨s.toks+1,by rw[eP,hlen]⟩,q⟩
 ·obtain⟨its,r',pl,hz⟩:=I.tuple hq
  have hlen:=r'.length
  exact len_tuple pl (by simp only[eP]<;>omega) ⟨.int ys.length,H,I.tok _,⟨s.toks+1,by rw[eP,hlen]⟩,q⟩
theorem tf :yj X (.type "list") (fun xs H Q=>∃p ys,xs=[.ref p]∧(SqL X.K H p ys∨SqT X.K H p ys)∧∀l,H l=none→Q (.ref l) (upd H l (.lst ys))):=by
 intro pins s σ H xs us Q I r h
 obtain⟨p,ys,rfl,hq,q⟩:=h
 obtain⟨u,rfl,rx⟩:=vals1 r
 cases rx
 have fin:∀(its:List Value),Vals ys its→ys.length≤sizeLine→∀(h':Heap) (c':Nat),(∀b o',s.heap.get? b=some o'→h'.get? b=some o')→
   h'.get? s.heap.objs.size=some {cls:=.type "list",dict:=none,data:=.seq its.toArray c',slots:=#[]}→EP X pins σ Q (.ref s.heap.objs.size) {s with heap:=h'}:=fun its r' hz h' c' kp e=>
  ⟨.ref s.heap.objs.size,_,I.laid (t':=s.toks) kp (eG _) (show zw X.prog X.w _ h' _ (.lst ys) from ⟨hz,its,c',r',e⟩),rfl,q _ (I.hok.fresh (eG _))⟩
 rcases hq with hq|hq
 ·obtain⟨its,r',pl,hz⟩:=I.list hq
  have hlen:=r'.length
  obtain⟨o,ho,hc,n,hd⟩:=pl.isList
  exact call_list_seq p (.inl rfl) ho hc hd (fun h' c' kp e=>fin its r' hz h' c' kp e) (by simp only[eP]<;>omega)
 ·obtain⟨its,r',pl,hz⟩:=I.tuple hq
  have hlen:=r'.length
  obtain⟨o,ho,hc,n,hd⟩:=pl
  exact call_list_seq p (.inr rfl) ho hc hd (fun h' c' kp e=>fin its r' hz h' c' kp e) (by simp only[eP]<;>omega)
def tyV (K:PySem.W.Frag)(T:String)(x:V)(H:Hp):Prop:=match x with
 |.str _=>T="str"
 |.int _=>T="int"
 |.ref p=>(T="list"∧∃xs,SqL K H p xs)∨(T="tuple"∧∃o,K.lookup p=some o∧o.cls=.type "tuple"∧o.dict=none)∨
   (T="dict"∧((∃kvs,H p=some (.dK kvs))∨∃kvs,H p=some (.dT kvs)))∨(T="set"∧∃S n,H p=some (.set S n))
 |_=>False
theorem ij {pins:List (Addr×Obj)}{σ:St}{H:Hp}{s:Shared}{T:String}{x:V}{v:Value}(I:Inv X pins σ H s)(r:RelV x v)(ty:tyV X.K T x H):
  s.TypeIs v T∧∀a,v=.ref a→∃ob,s.heap.get? a=some ob∧ob.dict=none:=by
 cases x with
 |str z=>
  obtain⟨t,rfl⟩:=r
  cases (show T="str" from ty)
  exact⟨typeIs_str s z t,fun _ e=>nomatch e⟩
 |int i=>
  obtain⟨t,rfl⟩:=r
  cases (show T="int" from ty)
  exact⟨typeIs_int s i t,fun _ e=>nomatch e⟩
 |ref p=>
  cases r
  rcases ty with ⟨rfl,xs,hq⟩|⟨rfl,o,hk,hc,hd⟩|⟨rfl,hk⟩|⟨rfl,S,n,hk⟩
  ·obtain⟨its,_,pl,_⟩:=I.list hq
   refine⟨pl.isList.typeIs,fun a e=>?_⟩
   cases e
   obtain⟨o,n,e,c,hd,_⟩:=pl
   exact⟨o,e,hd⟩
  ·refine⟨⟨o,I.kIn p o hk,hc⟩,fun a e=>?_⟩
   cases e
   exact⟨o,I.kIn _ o hk,hd⟩
  ·have z:∃o,s.heap.get? p=some o∧o.ExactDict:=by
    rcases hk with ⟨kvs,hk⟩|⟨kvs,hk⟩
    ·obtain⟨_,_,_,_,o,_,_,e,ex,_⟩:=I.hok p _ hk
     exact⟨o,e,ex⟩
    ·obtain⟨_,_,_,_,o,_,_,e,ex,_⟩:=I.hok p _ hk
     exact⟨o,e,ex⟩
   obtain⟨o,e,ex⟩:=z
   refine⟨⟨o,e,ex.1⟩,fun a e2=>?_⟩
   cases e2
   exact⟨o,e,ex.2.1⟩
  ·obtain⟨o,_,_,_,e,ex,_⟩:=I.hok p _ hk
   refine⟨⟨o,e,ex.1⟩,fun a e2=>?_⟩
   cases e2
   exact⟨o,e,ex.2.1⟩
 |_=>exact False.elim ty
def tBM (K:PySem.W.Frag)(T:String)(r:V→List V→Hp→VK→Prop)(to:TE)(t:TA):TE:=fun σ H Q=>to σ H fun x H1=>tyV K T x H1∧t σ H1 fun xs H2=>r x xs H2 Q
variable {o e:Expr}{es:List Expr}{to:TE}{t:TA}{name:Str}{apos cpos:Pos}{T id:String}{r:V→List V→Hp→VK→Prop}
theorem qM (pa:PlainAttrs T)(slot:Slot T name id)(hty:typeOf (.builtin id)=pure (.type "method_descriptor"))(hm:MtR X id r)(ho:PE X o to)(ha:PA X (e::es) t)
  (hbase:attributeBase o name X.env (eval o X.env)=eval o X.env:=by rfl)
  (hfew:((backTo cpos (starEach (e::es) X.env)).all (fun x=>!x.1)&&(backToKw cpos (keywordEach [] X.env)).all (fun x=>x.1.isSome)
   &&decide ((e::es).length+([]:List Keyword).length+(if ([]:List Keyword).isEmpty then 0 else 1)<30))=true:=by rfl)
  (hline:(apos.endLine == cpos.line)=true:=by rfl) (hs:starEach (e::es) X.env=(false,eval e X.env)::starEach es X.env:=by rfl) (hplain:(backTo cpos (starEach es X.env)).any (·.1)=false:=by rfl):
  PE X (.Call (.Attribute o name apos) (e::es) [] cpos) (tBM X.K T r to t):=by
 intro pins s σ H Q I h
 refine wpAny_Call_method_late hbase hfew hline rfl (thn (ho pins s σ H _ I h) fun v s1 ⟨x,H1,I1,r1,ty,q1⟩=>?_)
 obtain⟨h1,h2⟩:=ij I1 r1 ty
 refine⟨T,id,pa,slot,hty,h1,h2,?_⟩
 have hA:=ha cpos pins s1 σ H1 _ I1 q1
 rw[hs] at hA ⊢
 refine Calls.callWith_builtin (by show (false||(backTo cpos (starEach es X.env)).any (·.1))=false;rw[hplain]<;>rfl) (Calls.evalArgs_plain ?_)
 exact thn hA fun us s2 ⟨vs,H2,I2,r2,q2⟩=>hm pins s2 σ H2 x vs v us Q I2 r1 r2 q2
/- xs.append(e),list.index on a module's tuple .. are MtR facts of 06m -/
end
def MtM (X:Cx)(id:String)(r:V→List V→Hp→VK→Prop):Prop:=
 ∀(pins:List (Addr×Obj)) (s:Shared) (σ:St) (H:Hp) (x:V) (xs:List V) (v:Value) (us:List Value) (Q:VK),Inv X pins σ H s→RelV x v→Vals xs us→r x xs H Q→
  wpAny (model X.prog X.w) X.A (call (.builtin id) (v::us)) (EP X pins σ Q) X.xe s
theorem Vals.one :∀{x:V} {us:List Value},Vals [x] us→∃u,us=[u]∧RelV x u
 |_,_,.cons r .nil=>⟨_,rfl,r⟩
theorem Vals.two :∀{x y:V} {us:List Value},Vals [x,y] us→∃u v,us=[u,v]∧RelV x u∧RelV y v
 |_,_,_,.cons r (.cons q .nil)=>⟨_,_,rfl,r,q⟩
section
variable {X:Cx}{pins:List (Addr×Obj)}{σ:St}{H:Hp}{s:Shared}{l b:Addr}{xs ys zs:List V}
theorem Inv.lset {its its':List Value}{n:Nat}{f:Array Value→Array Value}{t':Nat}(I:Inv X pins σ H s)(hH:H l=some (.lst xs))
  (e:s.heap.get? l=some {cls:=.type "list",data:=.seq its.toArray n}) (hf:f its.toArray=its'.toArray) (hv:Vals ys its') (hz:ys.length≤sizeLine):
  Inv X pins σ (upd H l (.lst ys)) {s with heap:=s.heap.update l (Obj.mapSeq f),toks:=t'}:=by
 have q:=PySem.IsL.update e f
 rw[hf] at q
 refine I.write (x:=l) (e:=l) (by rw[hH];exact trivial) (.inl rfl) (fun b' u hb hu=>(dU s.heap (Obj.mapSeq f) (bO hb)).trans hu) ⟨_,q⟩ ?_
 exact⟨hz,its',_,hv,q⟩
theorem Inv.lnew {its:List Value}{t':Nat}(I:Inv X pins σ H s)(hv:Vals ys its)(hz:ys.length≤sizeLine):
  Inv X pins σ (upd H s.heap.objs.size (.lst ys)) {s with heap:=s.heap.push {cls:=.type "list",data:=.seq its.toArray},toks:=t'}:=
 I.laid (fun _ _ q=>eE _ q) (eG _) ⟨hz,its,0,hv,eQ _ rfl⟩
theorem Inv.fresh (I:Inv X pins σ H s):H s.heap.objs.size=none:=I.hok.fresh (eG _)
theorem Inv.lstM (I:Inv X pins σ H s)(hH:H l=some (.lst xs)):xs.length≤sizeLine∧∃(its:List Value) (n:Nat),Vals xs its∧xs.length=its.length∧s.heap.get? l=some {cls:=.type "list",data:=.seq its.toArray n}:=by
 obtain⟨z,its,n,r,e⟩:=I.hok l _ hH
 exact⟨z,its,n,r,r.length,e⟩
theorem nS {n:Nat}(h:n≤sizeLine):Builtin.List.listTooLong n=false:=by
 unfold Builtin.List.listTooLong
 exact eZ (by omega)
end
section
variable {X:Cx}
def jc :V→List V→Hp→VK→Prop:=fun x vs H Q=>∃l xs y,x=.ref l∧vs=[y]∧H l=some (.lst xs)∧xs.length<sizeLine∧Q .non (upd H l (.lst (xs++[y])))
theorem ui :MtM X "list.append" jc:=by
 intro pins s σ H x vs v us Q I rx rv h
 obtain⟨l,xs,y,rfl,rfl,hH,hz,q⟩:=h
 cases rx
 obtain⟨u,rfl,ru⟩:=rv.one
 obtain⟨z,its,n,r,hl,e⟩:=I.lstM hH
 refine call_meets F.slot_list_append ⟨_,e,rfl⟩ F.entry_list_append (F.args_list_append_2 _ _) (PySem.list_append l its.toArray n u (by rw[eP];omega)) ⟨e,?_⟩
 refine⟨.non,_,I.lset (its':=its++[u]) hH e (by simp) (r.append (.cons ru .nil)) ?_,rfl,q⟩
 rw[eW,List.length_singleton]
 omega
def kM :V→List V→Hp→VK→Prop:=fun x vs H Q=>∃l b xs zs,x=.ref l∧vs=[.ref b]∧H l=some (.lst xs)∧H b=some (.lst zs)∧xs.length+zs.length≤sizeLine∧Q .non (upd H l (.lst (xs++zs)))
theorem oq :MtM X "list.extend" kM:=by
 intro pins s σ H x vs v us Q I rx rv h
 obtain⟨l,b,xs,zs,rfl,rfl,hH,hB,hz,q⟩:=h
 cases rx
 obtain⟨u,rfl,ru⟩:=rv.one
 cases ru
 obtain⟨z,its,n,r,hl,e⟩:=I.lstM hH
 obtain⟨z2,its2,n2,r2,hl2,e2⟩:=I.lstM hB
 have hsz:its.toArray.size+its2.toArray.size≤sizeLine:=by rw[eP,eP];omega
 have hlong:¬(!its.toArray.isEmpty&&Builtin.List.listTooLong (its.toArray.size+its2.toArray.size))=true:=by
  rw[nS hsz,Bool.and_false]
  exact dn
 refine call_meets F.slot_list_extend ⟨_,e,rfl⟩ F.entry_list_extend (F.args_list_extend_2 _ _)
  (AutoSeq1.list_extend_list_list_0 l its.toArray n b its2.toArray n2 hlong (by rw[eP];omega) (by omega)) ⟨e,e2,?_⟩
 refine⟨.non,_,I.lset (its':=its++its2) hH e (by simp) (r.append r2) ?_,rfl,q⟩
 rw[eW]
 omega
def fZ :R2:=fun x y H Q=>∃l b xs zs,x=.ref l∧y=.ref b∧H l=some (.lst xs)∧H b=some (.lst zs)∧xs.length+zs.length≤sizeLine∧∀p,H p=none→Q (.ref p) (upd H p (.lst (xs++zs)))
theorem mw :OpR X (binaryOp .Add) fZ:=by
 intro pins s σ H x y v u Q I rx ry h
 obtain⟨l,b,xs,zs,rfl,rfl,hH,hB,hz,q⟩:=h
 cases rx
 cases ry
 obtain⟨z,its,n,r,hl,e⟩:=I.lstM hH
 obtain⟨z2,its2,n2,r2,hl2,e2⟩:=I.lstM hB
 refine PySem.P.add_list e e2 ?_ (by rw[eP,eP];omega)
 have ea:its.toArray++its2.toArray=(its++its2).toArray:=by simp
 rw[ea]
 exact⟨.ref _,_,I.lnew (t':=s.toks) (r.append r2) (by rw[eW];omega),rfl,q _ I.fresh⟩
end
section
variable {prog:Program}{w:World}{A:Around}{E:Value→Shared→Prop}{s:Shared}
end
section
variable {X:Cx}
end
end L2
namespace Att
open PySem PySem.W PySem.Calls PyProof.Rows
theorem wz {P:Params}{h:Heap}:∀(ns:List Int) (vs:List Value),WellAll P h vs (ns.map WData.int)→IntsAre vs ns:=by
 intro ns
 induction ns with
 |nil=>
  intro vs w
  rw[List.map_nil] at w
  cases w
  exact .nil
 |cons n ns ih=>
  intro vs w
  rw[dG] at w
  cases w with
  |cons a b=>
   cases a
   exact .cons _ _ (ih _ b)
theorem pI {l:OpenLaw}{n:Nat}(hn:l.most=some n){P:Params}{h:Heap}{args:List WData}{vals:List Value}
  (hpre:l.row.toRowW.claim.pre args=true) (hwl:WellAll P h vals args):
  ∃a vs ns,vals=[Value.ref a]∧args=[WData.list (ns.map WData.int)]∧h.get? a=some {cls:=.type "list",data:=.seq vs.toArray}∧IntsAre vs ns∧ns.length≤n:=by
 have hsh:WShape.hasAll [] args [.list .int]=true:=(pre_splitW hpre).1
 have hc:l.pre.holds [] {args:=args}=true:=(pre_splitW hpre).2
 obtain⟨d,r,rfl,h1,h2⟩:=hasAllW_cons hsh
 obtain rfl:=hasAllW_nil h2
 obtain⟨xs,rfl,h3⟩:=hasW_list h1
 obtain⟨ns,rfl⟩:=items_int h3
 have hlen:ns.length≤n:=by
  unfold OpenLaw.pre at hc
  have h4:(WTm.not (.lt (.lit (.int (n:Int))) (.len (.arg 0)))).holds [] {args:=[.list (ns.map .int)]}=true:=by
   have h4:=(holds_andW hc).1
   rw[hn] at h4
   exact h4
  have h5:=condW_of h4 (w_not (w_lt w_lit (w_len_list (w_arg rfl))))
  rw[eD] at h5
  refine Nat.le_of_not_lt fun q=>?_
  have q':(n:Int)<((ns.length:Nat):Int):=by omega
  first
   |(rw[dW q'] at h5;exact absurd h5 (by decide))
   |(simp at h5;omega)
 cases hwl with
 |cons w1 w2=>
  cases w2
  cases w1 with
  |list ho hall=>exact⟨_,_,ns,rfl,rfl,ho,wz ns _ hall,hlen⟩
theorem pe (l:OpenLaw)(args:List WData):l.row.toRowW.claim.post args (.bool true) args=true:=
 postW_of (r:=l.row.toRowW) (X:=(true == true))
  (show WShape.has [] (.bool true) .bool=true by first|rfl|decide|simp[WShape.has,WShape.arms,WShape.armsAll])
  (show (WTm.eq .res (.lit (.bool true))).value [] {args:=args,res:=some (.bool true),after:=args}=some (.bool (true == true)) from w_eq_bool (w_res rfl) w_lit) rfl
theorem attach_call {l:OpenLaw}{n:Nat}{q:Program}{loose:List Str}{XP:(Str→Option Value)→Heap→Prop}{YP:World→Heap→Prop}{d:DefRec}
  (hn:l.most=some n) (hdf:d.params.defaults=[])
  (call:∀(w:World) (s₀ s₁:Shared) (mg mb:Str→Option Value) (fa:Addr) (o:Obj) (pm cd doc:Value) (a:Addr) (vs:List Value) (ns:List Int),
   Ground q loose [] XP w s₀ mg mb s₁.heap→YP w s₁.heap→
   s₁.heap.get? fa=some o→o.data=.func (docDef d.name d.params d.body d.scope pm cd doc)→s₁.heap.CodeRec cd d.name→mg d.name=some (.ref fa)→
   s₁.heap.get? a=some {cls:=.type "list",data:=.seq vs.toArray}→IntsAre vs ns→ns.length≤n→s₁.gens=#[]→
   codeAny (model l.prog w) callerA (.call (.ref fa) ⟨[.ref a],[]⟩) (fun r s'=>r=.ok (.ret (.bool true))∧OldK s₁.heap s'.heap∧s'.os=s₁.os∧AllBare s'.gens) s₁):
  WalkO q loose XP YP l.row.toRowW d [] (fun f vs=>PySem.call f vs):=by
 intro w s₀ s₁ mg mb G Y fa o pm cd doc dV kV ho hd hcd hD hmg hg args vals as hpre hlay hrd hwl hlo
 obtain rfl:dV=.none:=Dflts.none hD hdf
 obtain rfl:kV=.none:=Dflts.noKw hD
 obtain⟨a,vs,ns,rfl,rfl,hobj,hints,hlen⟩:=pI hn hpre hwl
 refine enter_call (ae (call w s₀ s₁ mg mb fa o pm cd doc a vs ns G Y ho (fd_plain hd) hcd hmg hobj hints hlen hg) fun r s' hq=>?_)
 obtain⟨rfl,h2,h3,h4⟩:=hq
 exact⟨.inl ⟨.bool true,.bool true,[],rfl,fun _=>rfl,.bool true,pe l _,fun _=>⟨List.Pairwise.nil,fun _ hm=>(nomatch hm)⟩⟩,h2,h3,h4⟩
section
variable {prog:Program}{w:World}{A:Around}{E:Value→Shared→Prop}{s:Shared}{K:Frag}
end
end Att
namespace L2
open PySem PySem.Spec PyProof.Rows
theorem ue :∀{vs:List Value} {ns:List Int},IntsAre vs ns→Vals (ns.map V.int) vs
 |_,_,.nil=>.nil
 |_,_,.cons n t h=>.cons ⟨t,rfl⟩ (ue h)
def iS (H:Hp):Prop:=∀b,H b=none∨∃o xs,H b=some (.frz o (.lst xs))
theorem ma {P:Program}{w:World}{K:PySem.W.Frag}{mg mb:Str→Option Value}{CX:CXT}{k:Nat}{fa a:Addr}{fd:FuncData}{x:Str}{sp:Sp}{s₁:Shared}{vs:List Value}{ns:List Int}
  (KX:K.In s₁.heap) (hns:s₁.heap.Ns mainGlobals mg) (hb:s₁.heap.Ns builtinsNs mb) (hbb:∀x:Str,x≠"__name__"→mb x=bootBuiltins x) (hlim:s₁.heap.NoLimit) (hg:s₁.gens=#[])
  (ha:s₁.heap.get? a=some {cls:=.type "list",data:=.seq vs.toArray}) (hi:IntsAre vs ns) (hl:ns.length≤sizeLine) (hr:zY k callerA)
  (F:∀base:Heap,K.In base→base.Ns mainGlobals mg→yB P w K mg base CX k fa fd [x] sp) (hbind:∀(s:Shared) (u:Value),BindsTo s fd ⟨[u],[]⟩ [(x,u)])
  (hsp:∀H:Hp,iS H→SqL K H a (ns.map V.int)→sp [.ref a] H (fun v _=>v=.bl true) fun _ _ _=>False)
  (hCX:∀H e s',CX [] H s₁ (fun _ _ _=>False) e s'→False):
  codeAny (model P w) callerA (.call (.ref fa) ⟨[.ref a],[]⟩) (fun r s'=>r=.ok (.ret (.bool true))∧OldK s₁.heap s'.heap∧s'.os=s₁.os∧AllBare s'.gens) s₁:=by
 have rv:=ue hi
 have lenV:=hi.length
 -- from an abstract heap in which nothing but the script may be tracked
 have core:∀H:Hp,iS H→SqL K H a (ns.map V.int)→HOk P w H s₁.heap→(∀b,H b≠none→b=a)→(H a≠none→K.lookup a=none)→
   codeAny (model P w) callerA (.call (.ref fa) ⟨[.ref a],[]⟩) (fun r s'=>r=.ok (.ret (.bool true))∧OldK s₁.heap s'.heap∧s'.os=s₁.os∧AllBare s'.gens) s₁:=by
  intro H hO hS hok hA hK
  have base_of:∀{b:Addr} {o:Obj},s₁.heap.get? b=some o→H b=none→(tq s₁.heap H).get? b=some o:=fun e n=>nO e n
  have noA:∀{b:Addr} {o:Obj} {es:Array DictEntry} {ep:Nat},s₁.heap.get? b=some o→o.data=.dict es ep→H b=none:=fun {b o es ep} e d=>by
   cases q:H b with
   |none=>rfl
   |some u=>
    have e':b=a:=hA b (by rw[q];simp)
    subst e'
    rw[ha] at e;cases e
    have d':Data.seq vs.toArray _=Data.dict es ep:=d
    cases d'
  have nsK:∀{b:Addr} {m:Str→Option Value},s₁.heap.Ns b m→(tq s₁.heap H).Ns b m:=fun {b m} ⟨o,es,ep,e,d,r⟩=>⟨o,es,ep,base_of e (noA e d),d,r⟩
  have hKb:K.In (tq s₁.heap H):=fun b o e=>base_of (KX b o e) (by
   cases q:H b with
   |none=>rfl
   |some u=>
    have e':b=a:=hA b (by rw[q];simp)
    subst e'
    rw[hK (by rw[q];simp)] at e;cases e)
  have hM:Mod K mg (tq s₁.heap H):=⟨hKb,nsK hns,⟨mb,nsK hb,hbb⟩,let ⟨mc,h1,h2⟩:=hlim;⟨mc,nsK h1,h2⟩⟩
  have e0:jm P w K mg (tq s₁.heap H) callerA [] s₁ H:=⟨rfl,hM,fun b o e=>lL e,aZ (pQ _ _),trivial,fun b hb=>absurd (show b∈([]:List Addr) from hb) (by simp),hok,.of_eq hg⟩
  refine ae ((F _ hKb (nsK hns)).run callerA [] s₁ H ⟨[.ref a],[]⟩ [.ref a] [.ref a] _ _ hr e0 (hbind s₁ (.ref a)) (.cons rfl .nil) (hsp H hO hS)) fun r s' h=>?_
  cases r with
  |error e=>exact (hCX H e s' h).elim
  |ok fl=>
   cases fl with
   |next=>exact False.elim h
   |brk=>exact False.elim h
   |cont=>exact False.elim h
   |ret u=>
    obtain⟨v,H',os,bare,un,hok',r',q⟩:=h
    have q':v=.bl true:=q
    subst q'
    obtain rfl:u=Value.bool true:=r'
    refine⟨rfl,OldK.of_keep fun b o e=>?_,os,bare⟩
    cases q:H b with
    |none=>exact un.keep b o e q (by intro z;exact absurd (show b∈([]:List Addr) from z) (by simp)) (by simp)
    |some u=>
     rcases hO b with z|⟨ob,xs,z⟩
     ·rw[q] at z;cases z
     ·have z2:=un.frzs b ob _ z
      obtain⟨e1,_⟩:=hok b _ z
      obtain⟨e2,_⟩:=hok' b _ z2
      rw[e] at e1;cases e1
      exact e2
 cases hk:K.lookup a with
 |some o=>
  -- the script is one of the module's own objects
  have e:=KX a o hk
  rw[ha] at e
  cases e
  refine core (fun _=>none) (fun _=>.inl rfl) (.inr ⟨_,vs.toArray,_,hk,rfl,rfl,rfl,by rw[eP,lenV];exact hl,by simpa using rv⟩) (fun b u z=>by have z':(none:Option HO)=some u:=z;cases z') (fun b z=>absurd rfl z) fun z=>absurd rfl z
 |none=>
  refine core (fun b=>if b=a then some (.frz {cls:=.type "list",data:=.seq vs.toArray} (.lst (ns.map V.int))) else none) (fun b=>?_) (.inl (.inr ⟨{cls:=.type "list",data:=.seq vs.toArray},if_pos rfl⟩)) (fun b u z=>?_) (fun b z=>?_) fun _=>hk
  ·by_cases hb:b=a
   ·exact .inr ⟨_,_,if_pos hb⟩
   ·exact .inl (if_neg hb)
  ·by_cases hb:b=a
   ·have z':=(if_pos hb).symm.trans z
    cases z'
    subst hb
    exact⟨ha,by rw[eD];exact hl,vs,_,rv,ha⟩
   ·have z':=(if_neg hb).symm.trans z
    cases z'
  ·by_cases hb:b=a
   ·exact hb
   ·exact absurd (if_neg hb) z
theorem ki {l:PySem.W.OpenLaw}{n k:Nat}{q:Program}{loose:List Str}{XP:(Str→Option Value)→Heap→Prop}{YP:World→Heap→Prop}{d:DefRec}{K:Params→PySem.W.Frag}{CX:World→CXT}{sp:World→Sp}{x:Str}
  (hn:l.most=some n) (hn2:n≤sizeLine) (hdf:d.params.defaults=[]) (hr:zY k callerA)
  (hY:∀(w:World) (h:Heap),YP w h→(K w.params).In h)
  (F:∀(w:World) (mg:Str→Option Value) (fa:Addr) (h:Heap),(K w.params).In h→h.Ns mainGlobals mg→mg d.name=some (.ref fa)→
   ∃fd:FuncData,(∀(s:Shared) (u:Value),BindsTo s fd ⟨[u],[]⟩ [(x,u)])∧
    ∀base:Heap,(K w.params).In base→base.Ns mainGlobals mg→yB l.prog w (K w.params) mg base (CX w) k fa fd [x] (sp w))
  (hsp:∀(w:World) (H:Hp) (a:Addr) (ns:List Int),ns.length≤n→iS H→SqL (K w.params) H a (ns.map V.int)→sp w [.ref a] H (fun v _=>v=.bl true) fun _ _ _=>False)
  (hCX:∀(w:World) (H:Hp) (s:Shared) (e:Value) (s':Shared),CX w [] H s (fun _ _ _=>False) e s'→False):
  PySem.W.WalkO q loose XP YP l.row.toRowW d [] (fun f vs=>PySem.call f vs):=by
 refine Att.attach_call hn hdf fun w s₀ s₁ mg mb fa o pm cd doc a vs ns G Y ho hd hcd hmg hobj hints hlen hg=>?_
 have KX:=hY w _ Y
 obtain⟨fd,hb,hF⟩:=F w mg fa _ KX G.T.g hmg
 exact ma KX G.T.g G.T.b G.T.builtins G.T.nolimit hg hobj hints (dZ hlen hn2) hr hF hb (fun H hO hS=>hsp w H a ns hlen hO hS) fun H e s'=>hCX w H s₁ e s'
def yf (s:Stmt):Arguments:=match s with
 |.FunctionDef _ a _ _ _ _ _ _ _ _=>a
 |_=>{posonlyargs:=[],args:=[],vararg:=none,kwonlyargs:=[],kw_defaults:=[],kwarg:=none,defaults:=[]}
def zL (s:Stmt):List Stmt:=match s with
 |.FunctionDef _ _ b _ _ _ _ _ _ _=>b
 |_=>[]
def zg (s:Stmt):Scope:=match s with
 |.FunctionDef _ _ _ _ _ _ sc _ _ _=>sc
 |_=>{kind:=.function,names:=[],isGenerator:=false,isCoroutine:=false}
abbrev CX0 :CXT:=fun _ _ _ _ _ _=>False
abbrev E0 :XK:=fun _ _ _=>False
theorem lj {X:Cx}:Passes CX0 X E0:=fun _ _ _ _ _ _ _ h=>h.elim
structure Fun (K:PySem.W.Frag)(x qual:Str)(st:Stmt)(f:Addr)(fd:FuncData):Prop where
 ex:∃(oc:Value) (od:Option Addr) (kV doc pm:Value) (an:Option Addr) (cdv ct:Value) (osl:Array (Option Value)),
  fd=PySem.W.fnOf x qual (yf st) (zL st) (zg st) .none kV doc pm an cdv ct∧K.lookup f=some ⟨oc,od,.func fd,osl⟩∧PySem.W.codeIn K cdv qual=true
 kp:PySem.W.keepIn K (.ref f)=true
section
variable {P:Program}{w:World}{K:PySem.W.Frag}{mg:Str→Option Value}{base:Heap}
theorem Fun.ok {x qual:Str}{st:Stmt}{f:Addr}{fd:FuncData}{N ps:List Str}{k:Nat}{sp:Sp}(F:Fun K x qual st f fd)(S:zH N ps (zg st))(len:∀vs H Q E,sp vs H Q E→vs.length=ps.length)
  (hbody:∀(cdv:Value) (A:Around) (outer:List Env) (s:Shared) (H:Hp) (vs:List V) (Q:VK) (E:XK),zY k (A.deeper (envOfC qual (zg st) s.heap.objs.size f cdv))→sp vs H Q E→
   ∃t,PSs (uP CX0 P w K mg base N qual (zg st) f cdv A outer s H E).nox (zL st) t∧t {nx:=fun _ H'=>Q .non H',rt:=Q} (start N vs) H):yB P w K mg base CX0 (k+1) f fd ps sp:=by
 obtain⟨oc,od,kV,doc,pm,an,cdv,ct,osl,rfl,lk,hcd⟩:=F.ex
 refine gL lk hcd S len fun A outer s H vs Q E hr hsp=>?_
 obtain⟨t,h,q⟩:=hbody cdv A outer s H vs Q E hr hsp
 exact⟨t,h.nox,q⟩
theorem Fun.binds {x qual:Str}{st:Stmt}{f:Addr}{fd:FuncData}{ps:List Str}(F:Fun K x qual st f fd)
  (h:∀(kV doc pm:Value) (an:Option Addr) (cdv ct:Value) (us:List Value),us.length=ps.length→bindArgs (PySem.W.fnOf x qual (yf st) (zL st) (zg st) .none kV doc pm an cdv ct) ⟨us,[]⟩=pure (ps.zip us)):Binds K fd ps []:=by
 obtain⟨oc,od,kV,doc,pm,an,cdv,ct,osl,rfl,lk,hcd⟩:=F.ex
 exact .all (h kV doc pm an cdv ct)
theorem nE {x qual:Str}{st:Stmt}{f:Addr}{oc:Value}{od an:Option Addr}{osl:Array (Option Value)}{kV doc pm cdv ct:Value}(l:K.lookup f=some ⟨oc,od,.func (PySem.W.fnOf x qual (yf st) (zL st) (zg st) .none kV doc pm an cdv ct),osl⟩)
  (c:PySem.W.codeIn K cdv qual=true) (k:PySem.W.keepIn K (.ref f)=true):Fun K x qual st f (PySem.W.fnOf x qual (yf st) (zL st) (zg st) .none kV doc pm an cdv ct):=⟨⟨oc,od,kV,doc,pm,an,cdv,ct,osl,rfl,l,c⟩,k⟩
end
theorem zO {n:Nat}(h:n≤1000):n<sizeLine:=za4 h (by decide)
section
variable {X:Cx}
theorem pv (i:Nat){x:Str}{pos:Pos}(hN:X.N[i]?=some x:=by rfl)(hv:Vis X.env.scope x:=by first|exact Or.inl rfl|exact Or.inr (Or.inl rfl)|exact Or.inr (Or.inr rfl))(hd:(x == ("__debug__":Str))=false:=by decide)
  (hcd:(x == ("__classdict__":Str))=false:=by decide):PE X (.Name x pos) (iW i):=yH hN hv hd hcd
end
theorem kU {A B:Prop}(h:B):if false=true then A else B:=by
 rw[if_neg dn]
 exact h
theorem kF {A B:Prop}(h:A):if true=true then A else B:=by
 rw[if_pos rfl]
 exact h
theorem fT {c A B:Prop}[Decidable c](h1:c→A)(h2:¬c→B):if c then A else B:=by
 by_cases h:c
 ·rw[if_pos h]
  exact h1 h
 ·rw[if_neg h]
  exact h2 h
def zi (H H':Hp):Prop:=∀b o,H b=some o→H' b=some o
theorem zi.refl (H:Hp):zi H H:=fun _ _ h=>h
theorem zi.trans {H H1 H2:Hp}(a:zi H H1)(b:zi H1 H2):zi H H2:=fun c o h=>b c o (a c o h)
def xv (cells:List (Str×Addr)):List (Str×NameKind)→List (Str×Addr)→List (Str×Addr)
 |[],acc=>acc
 |(n,k)::r,acc=>xv cells r (if k=.free then (n,(cells.lookup n).getD 0)::acc else acc)
theorem xl {env:Env}{scope:Scope}(h:∀y∈scope.names,y.2=.free→∃c,env.cells.lookup y.1=some c):
  closureFor scope env=pure (xv env.cells scope.names []):=by
 have key:∀(ns:List (Str×NameKind)) (acc:List (Str×Addr)),(∀y∈ns,y.2=.free→∃c,env.cells.lookup y.1=some c)→
   (forIn ns acc fun (x:Str×NameKind) (r:List (Str×Addr))=>(if (x.2 == NameKind.free)=true then (do let a ←cellOf env x.1;pure (ForInStep.yield ((x.1,a)::r))) else pure (ForInStep.yield r):Sem (ForInStep (List (Str×Addr)))))=pure (xv env.cells ns acc):=by
  intro ns
  induction ns with
  |nil=>intro acc _;rfl
  |cons y r ih=>
   intro acc hy
   obtain⟨n,k⟩:=y
   rw[List.forIn_cons]
   have hr:∀z∈r,z.2=.free→∃c,env.cells.lookup z.1=some c:=fun z hz=>hy z (eK _ hz)
   by_cases hk:k=.free
   ·subst hk
    obtain⟨c,hc⟩:=hy (n,.free) eH rfl
    have e1:cellOf env n=pure c:=by
     unfold cellOf
     rw[hc]
    have e2:((NameKind.free == NameKind.free)=true):=rfl
    simp only[e2,aI,e1,pure_bind]
    rw[ih _ hr]
    show _=pure (xv env.cells r (if NameKind.free=NameKind.free then (n,(env.cells.lookup n).getD 0)::acc else acc))
    rw[if_pos rfl,hc]
    rfl
   ·have e2:(k == NameKind.free)=false:=by simpa using hk
    simp only[e2,bx,aV,pure_bind]
    rw[ih _ hr]
    show _=pure (xv env.cells r (if k=NameKind.free then (n,(env.cells.lookup n).getD 0)::acc else acc))
    rw[if_neg hk]
 have q:=key scope.names [] h
 unfold closureFor
 simp only[] at q ⊢
 rw[show (forIn scope.names ([]:List (Str×Addr)) fun (x:Str×NameKind) (r:List (Str×Addr))=>_)=_ from q]
 rfl
theorem sE {cells:List (Str×Addr)}:∀(ns:List (Str×NameKind)) (acc:List (Str×Addr)),(∀y∈ns,y.2=.free→∃c,cells.lookup y.1=some c)→
  ∀x c,(x,c)∈xv cells ns acc→(x,c)∈acc∨((x,NameKind.free)∈ns∧cells.lookup x=some c)
 |[],acc,_,x,c,h=>.inl h
 |(n,k)::r,acc,hy,x,c,h=>by
  have hr:∀z∈r,z.2=.free→∃c,cells.lookup z.1=some c:=fun z hz=>hy z (eK _ hz)
  have h':(x,c)∈xv cells r (if k=.free then (n,(cells.lookup n).getD 0)::acc else acc):=h
  rcases sE r _ hr x c h' with q|⟨q1,q2⟩
  ·by_cases hk:k=.free
   ·rw[if_pos hk] at q
    rcases eJ.mp q with e|q
    ·obtain⟨c',hc⟩:=hy (n,k) eH hk
     have e1:x=n:=congrArg Prod.fst e
     have e2:c=(cells.lookup n).getD 0:=congrArg Prod.snd e
     have hc':cells.lookup n=some c':=hc
     rw[hc'] at e2
     have e3:c=c':=e2
     subst e1 e3 hk
     exact .inr ⟨eH,hc'⟩
    ·exact .inl q
   ·rw[if_neg hk] at q
    exact .inl q
  ·exact .inr ⟨eK _ q1,q2⟩
theorem sA {cells:List (Str×Addr)}:∀(ns:List (Str×NameKind)) (acc:List (Str×Addr)) (p:Str×Addr),p∈acc→p∈xv cells ns acc
 |[],_,_,h=>h
 |(n,k)::r,acc,p,h=>by
  show p∈xv cells r (if k=.free then (n,(cells.lookup n).getD 0)::acc else acc)
  refine sA r _ p ?_
  split
  ·exact eK _ h
  ·exact h
theorem sN {cells:List (Str×Addr)}:∀(ns:List (Str×NameKind)) (acc:List (Str×Addr)) (x:Str),(x,NameKind.free)∈ns→∃c,(x,c)∈xv cells ns acc
 |[],_,_,h=>by simp at h
 |(n,k)::r,acc,x,h=>by
  show ∃c,(x,c)∈xv cells r (if k=.free then (n,(cells.lookup n).getD 0)::acc else acc)
  rcases eJ.mp h with e|h
  ·have e1:x=n:=congrArg Prod.fst e
   have e2:NameKind.free=k:=congrArg Prod.snd e
   subst e1 e2
   rw[if_pos rfl]
   exact⟨_,sA r _ _ eH⟩
  ·exact sN r _ x h
theorem mem_lookup {x:Str}{c:Addr}:∀{l:List (Str×Addr)},(x,c)∈l→∃d,l.lookup x=some d
 |[],h=>by simp at h
 |(n,a)::r,h=>by
  rw[bh]
  cases e:x == n with
  |true=>exact⟨a,rfl⟩
  |false=>
   rcases eJ.mp h with q|q
   ·have e1:x=n:=congrArg Prod.fst q
    rw[e1] at e
    simp at e
   ·exact mem_lookup q
structure zF (XN:List Str)(xs:Scope)(N:List Str)(imp:List (Option Nat))(scope:Scope):Prop where
 kind:scope.kind=.function
 nd:N.Nodup
 nocell:∀y∈scope.names,y.2≠.cell
 locs:∀y∈scope.names,y.2=.local→scope.names.lookup y.1=some .local
 frees:∀y∈scope.names,y.2=.free→xs.names.lookup y.1=some .cell∨xs.names.lookup y.1=some .free
 len:imp.length=N.length
 impsB:((imp.zip N).all fun p=>match p.1 with|none=>true|some j=>XN[j]? == some p.2&&scope.names.lookup p.2 == some .free)=true
theorem zF.imps {XN N:List Str}{xs scope:Scope}{imp:List (Option Nat)}(S:zF XN xs N imp scope):∀(i j:Nat),imp[i]?=some (some j)→∃x,N[i]?=some x∧XN[j]?=some x∧scope.names.lookup x=some .free:=by
 intro i j h
 have hi:i<imp.length:=(eS.mp h).1
 have hn:i<N.length:=by rw[←S.len];exact hi
 have hx:N[i]?=some N[i]:=eL hn
 have hm:(some j,N[i])∈imp.zip N:=by
  have hz:(imp.zip N)[i]?=some (some j,N[i]):=by
   rw[cx]
   exact⟨h,hx⟩
  exact cE hz
 have q:=ag.mp S.impsB _ hm
 have q':(XN[j]? == some N[i]&&scope.names.lookup N[i]==some .free)=true:=q
 rw[ah] at q'
 exact⟨N[i],hx,eq_of_beq q'.1,eq_of_beq q'.2⟩
def yu (imp:List (Option Nat))(σ:St):St:=imp.map fun o=>o.bind fun j=>(σ[j]?).bind id
theorem pJ {imp:List (Option Nat)}{σ:St}{i:Nat}{v:V}(h:(yu imp σ)[i]?=some (some v)):∃j,imp[i]?=some (some j)∧σ[j]?=some (some v):=by
 unfold yu at h
 rw[dy] at h
 cases e:imp[i]? with
 |none=>rw[e] at h;cases h
 |some o=>
  rw[e] at h
  have h':(o.bind fun j=>(σ[j]?).bind id)=some v:=dz h
  cases o with
  |none=>cases h'
  |some j=>
   have h2:(σ[j]?).bind id=some v:=h'
   cases e2:σ[j]? with
   |none=>rw[e2] at h2;cases h2
   |some w=>
    rw[e2] at h2
    have h3:w=some v:=h2
    exact⟨j,rfl,by rw[e2,h3]⟩
def Cx.comp (X:Cx)(N:List Str)(scope:Scope)(C:Addr)(s2:Shared)(H2:Hp)(fp:List Addr):Cx where
 prog:=X.prog
 w:=X.w
 K:=X.K
 mg:=X.mg
 base:=X.base
 A:=X.A
 N:=N
 s₀:=s2
 H₀:=H2
 env:=compEnvC scope (xv X.env.cells scope.names []) C X.env
 outer:=X.stack
 stack:=X.stack
 ex:=fp
 fn:=fun _=>false
 calm:=X.calm
 pn:=[]
 xe:=fun _ _=>False
theorem xI {env:Env}:∀{names:List (Str×NameKind)} {x:Str},
  (names.map fun (n,k)=>if (k == NameKind.free&&env.scope.kind == .function&&env.kindOf n == some .cell) then (n,NameKind.cell) else (n,k)).lookup x=some .cell∨
  (names.map fun (n,k)=>if (k == NameKind.free&&env.scope.kind == .function&&env.kindOf n == some .cell) then (n,NameKind.cell) else (n,k)).lookup x=some .free→
  (∀y∈names,y.2≠.cell)→(x,NameKind.free)∈names
 |[],x,h,_=>by simp at h
 |(n,k)::r,x,h,hc=>by
  have ih:=@xI env r x
  rw[dG] at h
  dsimp only at h
  by_cases hx:x=n
  ·subst hx
   by_cases hk:k=.free
   ·subst hk;exact eH
   ·have hk':(k == NameKind.free)=false:=by simpa using hk
    simp only[hk',Bool.false_and,bx,aV,bh,beq_self_eq_true,aI] at h
    rcases h with h|h
    ·have e:k=.cell:=dz h
     exact absurd e (hc (x,k) eH)
    ·have e:k=.free:=dz h
     exact absurd e hk
  ·have hxn:(x == n)=false:=by simpa using hx
   have step:∀(b:Bool) (l:List (Str×NameKind)),List.lookup x ((if b=true then (n,NameKind.cell) else (n,k))::l)=l.lookup x:=fun b l=>by
    cases b<;>simp[bh,hxn]
   rw[step] at h
   exact eK _ (ih h fun y hy=>hc y (eK _ hy))
theorem wm {env:Env}:∀{names:List (Str×NameKind)} {x:Str},names.lookup x=some .free→
  (names.map fun (n,k)=>if (k == NameKind.free&&env.scope.kind == .function&&env.kindOf n == some .cell) then (n,NameKind.cell) else (n,k)).lookup x=some .cell∨
  (names.map fun (n,k)=>if (k == NameKind.free&&env.scope.kind == .function&&env.kindOf n == some .cell) then (n,NameKind.cell) else (n,k)).lookup x=some .free
 |[],x,h=>by simp at h
 |(n,k)::r,x,h=>by
  have ih:=@wm env r x
  rw[dG]
  dsimp only
  rw[bh] at h
  cases hx:x == n with
  |true=>
   rw[hx] at h
   have e:k=.free:=dz h
   subst e
   by_cases hb:(NameKind.free == NameKind.free&&env.scope.kind == .function&&env.kindOf n == some .cell)=true
   ·left;rw[if_pos hb];simp[bh,hx]
   ·right;rw[if_neg hb];simp[bh,hx]
  |false=>
   rw[hx] at h
   have step:∀(b:Bool) (l:List (Str×NameKind)),List.lookup x ((if b=true then (n,NameKind.cell) else (n,k))::l)=l.lookup x:=fun b l=>by
    cases b<;>simp[bh,hx]
   rw[step]
   exact ih h
section
variable {X:Cx}{pins:List (Addr×Obj)}{σ:St}{H2 H':Hp}{s2 s':Shared}{fp:List Addr}{N:List Str}{imp:List (Option Nat)}{scope:Scope}{C acc:Addr}
theorem xt (I:Inv X pins σ H2 s2)(S:zF X.N X.env.scope N imp scope):∀y∈scope.names,y.2=.free→∃c,X.env.cells.lookup y.1=some c:=fun y hy hk=>I.ok.has y.1 (S.frees y hy hk)
theorem yh (I:Inv X pins σ H2 s2)(S:zF X.N X.env.scope N imp scope){x:Str}{c:Addr}(h:(xv X.env.cells scope.names []).lookup x=some c):(x,NameKind.free)∈scope.names∧X.env.cells.lookup x=some c:=by
 rcases sE scope.names [] (xt I S) x c (cu h) with q|q
 ·exact absurd q (by simp)
 ·exact q
theorem xF (I:Inv X pins σ H2 s2)(S:zF X.N X.env.scope N imp scope){x:Str}(h:(x,NameKind.free)∈scope.names):∃c,(xv X.env.cells scope.names []).lookup x=some c:=by
 obtain⟨c,hc⟩:=sN (cells:=X.env.cells) scope.names [] x h
 exact mem_lookup hc
theorem nU {h1:Heap}{tk:Nat}{m:Str→Option Value}{n0:Nat}(I:Inv X pins σ H2 s2)(S:zF X.N X.env.scope N imp scope)(hf:∀b∈fp,xY X pins H2 b)(ho:∀b∈fp,∃o,s2.heap.get? b=some o)
  (hacc:acc=s2.heap.objs.size) (hC:C=s2.heap.objs.size+1) (old:∀b o,s2.heap.get? b=some o→h1.get? b=some o) (hn:h1.Ns C m)
  (hl:h1.get? acc=some {cls:=.type "list",data:=.seq ([]:List Value).toArray n0}):
  Inv (X.comp N scope C s2 H2 fp) [] (yu imp σ) (upd H2 acc (.lst [])) {s2 with heap:=h1,toks:=tk}:=by
 have fa:H2 acc=none:=I.hok.fresh (by rw[hacc];exact eG _)
 have cac:C≠acc:=by rw[hC,hacc];exact Nat.succ_ne_self _
 have clt:∀x c,X.env.cells.lookup x=some c→c<s2.heap.objs.size:=fun x c e=>by
  obtain⟨v,q⟩:=I.cell x c e
  exact q.lt
 refine⟨⟨I.ok.mod,S.kind,I.ok.glob,I.ok.blt,?above,?inj,?has,?cab,I.ok.hd,I.ok.frames,.inl rfl,?exf,fun b o e=>I.bs b o e,dZ I.ok.bsz I.sz,?noex,?exfs,I.stack,I.stkFree⟩,
  rfl,I.bare,Un.laid old (by rw[hacc];exact eG _) fa,⟨m,hn,?loc⟩,?cell,?free,?freeC,fun p hp=>absurd (show p∈([]:List (Addr×Obj)) from hp) (by simp),I.hok.laid old (by rw[hacc];exact eG _) ⟨dM _,[],n0,.nil,hl⟩,?len⟩
 case above=>show s2.heap.objs.size≤C;rw[hC];exact bN _
 case inj=>exact fun x y c h1 h2=>I.ok.inj x y c (yh I S h1).2 (yh I S h2).2
 case has=>exact fun x hx=>xF I S (xI (env:=X.env) hx S.nocell)
 case cab=>exact fun x c h _=>absurd h (by show ¬(false=true);simp)
 case exf=>
  intro b hb
  obtain⟨o,hob⟩:=ho b hb
  refine⟨?_,fun x c e=>(hf b hb).2.2.2.2.1 x c (yh I S e).2⟩
  show b≠C
  rw[hC]
  exact eO (dC (eM hob))
 case noex=>
  intro b o e hb
  rcases (hf b hb).2.2.2.1 with z|z
  ·exact I.ok.noex b o e z
  ·exact absurd (di (eM e) (dZ I.ok.bsz z)) (bG _)
 case exfs=>
  intro b hb hz
  rcases eJ.mp (I.stkSub b hz) with e|e
  ·exact (hf b hb).2.1 e
  ·exact (hf b hb).2.2.1 e
 case loc=>
  intro i x v e1 e2 e3
  obtain⟨j,q1,q2⟩:=pJ e2
  obtain⟨y,n1,n2,n3⟩:=S.imps i j q1
  have n1':(X.comp N scope C s2 H2 fp).N[i]?=some y:=n1
  rw[n1'] at e1
  have exy:y=x:=dz e1
  subst exy
  have hfr:=S.frees (y,.free) (cu n3) rfl
  obtain⟨mX,hnX,hlX⟩:=I.loc
  obtain⟨u,r,l⟩:=hlX j y v n2 q2 (.inr hfr)
  refine⟨u,r,?_⟩
  rcases l with ⟨k,_⟩|⟨k,c,e,z⟩
  ·have k':X.env.scope.names.lookup y=some .local:=k
   rcases hfr with z|z
   ·have z':X.env.scope.names.lookup y=some .cell:=z
    rw[k'] at z';cases z'
   ·have z':X.env.scope.names.lookup y=some .free:=z
    rw[k'] at z';cases z'
  ·obtain⟨d,hd⟩:=xF I S (cu n3)
   have hd2:=(yh I S hd).2
   rw[e] at hd2
   have edc:c=d:=dz hd2
   subst edc
   exact .inr ⟨wm (env:=X.env) n3,c,hd,z.keeps old⟩
 case cell=>
  intro x c e
  obtain⟨v,q⟩:=I.cell x c (yh I S e).2
  exact⟨v,q.keeps old⟩
 case free=>
  show upd H2 acc _ C=none
  rw[ze cac]
  exact I.hok.fresh (by rw[hC];exact bN _)
 case freeC=>
  intro x c e
  have e':=(yh I S e).2
  have hlt:=clt x c e'
  show upd H2 acc _ c=none
  rw[ze (by rw[hacc];exact eO hlt)]
  exact I.freeC x c e'
 case len=>
  show (yu imp σ).length=N.length
  unfold yu
  rw[eD]
  exact S.len
theorem pR {pl:List (Addr×Obj)}{τ:St}(I:Inv X pins σ H2 s2)(hf:∀b∈fp,xY X pins H2 b)(J:Inv (X.comp N scope C s2 H2 fp) pl τ H' s'):Inv X pins σ H' s':=
 I.call' (ch:=fp) J.os J.base J.hok J.bare fun b hb=>⟨(hf b hb).2.2.2.1,(hf b hb).2.1,(hf b hb).2.2.2.2.1,(hf b hb).2.2.2.2.2⟩
end
section
variable {prog:Program}{w:World}{A:Around}{R:Result→Shared→Prop}{s:Shared}
theorem uE {elt target iter:Expr}{ifs:List Expr}{scope:Scope}{pos:Pos}{it acc:Value}{env:Env}(I:Nat→Shared→Prop)
  (turn:∀n s,I n s→wpAny (model prog w) A (pyNext it) (fun r s1=>match r with
   |none=>R (.ok .next) s1
   |some v=>wpAny (model prog w) A (letOwnedTupleGo target it v) (fun _ s2=>wpAny (model prog w) A (assign target env v) (fun _ s3=>
     wpAny (model prog w) A (forIn ifs true fun c r=>if r=true then do let ok ←isTrue c env (eval c env);pure (ForInStep.yield ok) else pure (ForInStep.yield r)) (fun ok s4=>
      if ok=true then wpAny (model prog w) A (eval elt env) (fun x s5=>
       wpAny (model prog w) A (call (.builtin "list.append") [acc,x]) (fun _ s6=>∃m,m<n∧I m s6) (fun _ _=>False) s5) (fun _ _=>False) s4
      else ∃m,m<n∧I m s4) (fun _ _=>False) s3) (fun _ _=>False) s2) (fun _ _=>False) s1) (fun _ _=>False) s)
  (n:Nat) (h:I n s):codeAny (model prog w) A (.compLoop (.ListComp elt [⟨target,iter,ifs,0⟩] scope pos) 0 it acc env) R s:=by
 refine codeAny_loop rfl I (fun n s hI=>?_) n h
 show wpAny _ A ((compTurn (.ListComp elt [⟨target,iter,ifs,0⟩] scope pos) 0 it acc env).onRaise (fun x=>do noteFrame x env;theTreesLotGoes x)) _ _ s
 refine wpAny_noted ?_
 rw[compTurn_list]
 refine eA (wpAny_standAt (eA (dO (turn n s hI) (fun r s1 h1=>?_) fun _ _ h'=>False.elim h')))
 cases r with
 |none=>exact eB h1
 |some v=>
  refine eA (dO h1 (fun _ s2 h2=>?_) fun _ _ h'=>False.elim h')
  refine eA (dO h2 (fun _ s3 h3=>eA (dO h3 (fun ok s4 h4=>?_) fun _ _ h'=>False.elim h')) fun _ _ h'=>False.elim h')
  cases ok with
  |false=>exact eB ⟨rfl,h4⟩
  |true=>
   exact eA (eA (dO h4 (fun x s5 h5=>eA (dO h5 (fun _ s6 h6=>eB (eB ⟨rfl,h6⟩)) fun _ _ h'=>False.elim h')) fun _ _ h'=>False.elim h'))
end
def yN (Y:Cx)(ifs:List Expr)(t:TT):Prop:=
 ∀(pins:List (Addr×Obj)) (s:Shared) (σ:St) (H:Hp) (Q:Bool→Hp→Prop),Inv Y pins σ H s→t σ H Q→
  wpAny (model Y.prog Y.w) Y.A (forIn ifs true fun c r=>if r=true then do let ok ←isTrue c Y.env (eval c Y.env);pure (ForInStep.yield ok) else pure (ForInStep.yield r)) (TP Y pins σ Q) Y.xe s
def eh :TT:=fun _ H Q=>Q true H
theorem lM {Y:Cx}:yN Y [] eh:=fun _ _ _ H _ I h=>wpAny_tests_nil ⟨H,I,h⟩
theorem kX {Y:Cx}{c:Expr}{t:TT}(h:PT Y c t):yN Y [c] t:=fun pins s σ H Q I q=>wpAny_tests_one (h pins s σ H Q I q)
def qQ (J:It)(acc:Addr)(g:TG)(tt:TT)(te:TE)(τ0:St)(H0:Hp)(Q:VK):Prop:=
 ∃W:Nat→Nat→List V→St→Hp→Prop,(∃m,W 0 m [] τ0 H0)∧∀i m ys τ H2,W i m ys τ H2→
  (J.stop i H2∧Q (.ref acc) H2)∨(J.go i H2∧∃N:List V→St→Hp→Prop,(∀ys' τ' H',N ys' τ' H'→∃m',m'<m∧W (i+1) m' ys' τ' H')∧
   ∀x H3,J.yld i H2 x H3→g x τ H3 fun τ2 H4=>tt τ2 H4 fun c H5=>
    if c=true then te τ2 H5 fun y H6=>H6 acc=some (.lst ys)∧ys.length<sizeLine∧N (ys++[y]) τ2 (upd H6 acc (.lst (ys++[y]))) else N ys τ2 H5)
def nW (wi:TI)(imp:List (Option Nat))(g:TG)(tt:TT)(te:TE):TE:=fun σ H Q=>wi σ H fun J H1=>∀acc,H1 acc=none→qQ J acc g tt te (yu imp σ) (upd H1 acc (.lst [])) Q
section
variable {X:Cx}{pins:List (Addr×Obj)}{σ:St}{elt iter tg:Expr}{ifs:List Expr}{scope:Scope}{pos:Pos}{wi:TI}{g:TG}{tt:TT}{te:TE}{N:List Str}{imp:List (Option Nat)}
theorem wZ {H2:Hp}{s2:Shared}{it:Addr}{fp:List Addr}{tn:Nat→Heap→Prop}{J:It}{RR:Value→Addr→Result→Shared→Prop}{E:Value→Shared→Prop}{Q:VK}
  (hc:X.calm=true) (S:zF X.N X.env.scope N imp scope) (hg:∀C s2 H2 fp,PG (X.comp N scope C s2 H2 fp) tg g) (ht:∀C s2 H2 fp,yN (X.comp N scope C s2 H2 fp) ifs tt) (he:∀C s2 H2 fp,PE (X.comp N scope C s2 H2 fp) elt te)
  (I2:Inv X pins σ H2 s2) (T:Turn X.prog X.w X.K tg J fp it tn) (st2:tn 0 s2.heap) (f2:∀b∈fp,xY X pins H2 b)
  (hW:∀acc,H2 acc=none→qQ J acc g tt te (yu imp σ) (upd H2 acc (.lst [])) Q)
  (hRR:∀a C H' s' m,Inv X pins σ H' s'→s'.heap.Ns C m→xY X pins H' C→Q (.ref a) H'→RR (.ref a) C (.ok .next) s'):
  wpAny (model X.prog X.w) X.A (newList []) (fun acc s3=>wpAny (model X.prog X.w) X.A (newFunctionEnv scope X.env.globals (xv X.env.cells scope.names []) [] X.env.qual none .none (some X.env)) (fun cenv s4=>
   codeAny (model X.prog X.w) X.A (.compStart (.ListComp elt [⟨tg,iter,ifs,0⟩] scope pos) 0 (.ref it) acc {cenv with scope:=relabel scope X.env}) (RR acc cenv.locals) s4) E s3) E s2:=by
 refine cq (wpAny_newFunctionEnv S.nocell (by intro y hy;simp at hy) (fun h1 hns1 hsb1=>?_) S.kind)
 dsimp only at hns1 hsb1 ⊢
 generalize hHH:s2.heap.push {cls:=.type "list",dict:=none,data:=.seq ([]:List Value).toArray}=HH at hns1 hsb1 ⊢
 have hC:HH.objs.size=s2.heap.objs.size+1:=by rw[←hHH,af]
 have hDC:s2.heap.objs.size≠HH.objs.size:=by rw[hC];exact eO (bj _)
 have old:∀b o,s2.heap.get? b=some o→h1.get? b=some o:=fun b o e=>hsb1.extBut b o (by rw[hC];exact eO (dC (eM e))) (eE _ (hHH▸eE _ e))
 have hacc:h1.get? s2.heap.objs.size=some {cls:=.type "list",data:=.seq ([]:List Value).toArray}:=hsb1.extBut _ _ hDC (eE _ (hHH▸eQ _ rfl))
 obtain⟨W,⟨m0,w0⟩,turn⟩:=hW s2.heap.objs.size I2.fresh
 generalize hCC:HH.objs.size=C at hns1 hsb1 hC hDC ⊢
 have ho:∀b∈fp,∃o,s2.heap.get? b=some o:=fun b hb=>let ⟨o,e,_⟩:=T.obj 0 _ st2 b hb;⟨o,e⟩
 generalize hacc0:s2.heap.objs.size=acc at *
 have loop:∀s3:Shared,s3={s2 with heap:=h1,toks:=s2.toks+([]:List (Str×Value)).length}→
   codeAny (model X.prog X.w) X.A (.compLoop (.ListComp elt [⟨tg,iter,ifs,0⟩] scope pos) 0 (.ref it) (.ref acc) (X.comp N scope C s2 H2 fp).env) (RR (.ref acc) C) s3:=by
  rintro s3 rfl
  have I3:Inv (X.comp N scope C s2 H2 fp) [] (yu imp σ) (upd H2 acc (.lst [])) {s2 with heap:=h1,toks:=s2.toks+([]:List (Str×Value)).length}:=
   nU I2 S f2 ho hacc0.symm (by rw[hC,hacc0]) old hns1 hacc
  have fpn:∀b∈fp,upd H2 acc (.lst []) b=none:=fun b hb=>by
   obtain⟨o,e⟩:=ho b hb
   rw[ze (by rw[←hacc0];exact eO (eM e))]
   exact (f2 b hb).1
  have stat:∀{H':Hp},(∀b∈fp,H' b=none)→∀b∈fp,xY (X.comp N scope C s2 H2 fp) [] H' b:=fun hn b hb=>by
   obtain⟨e1,e2⟩:=I3.ok.exf b hb
   exact⟨hn b hb,e1,I3.ok.exfs b hb,.inl hb,e2,fun p hp=>absurd (show p∈([]:List (Addr×Obj)) from hp) (by simp)⟩
  refine uE (fun n s'=>∃i ys τ H',Inv (X.comp N scope C s2 H2 fp) [] τ H' s'∧tn i s'.heap∧(∀b∈fp,H' b=none)∧W i n ys τ H') ?_ m0
   ⟨0,[],_,_,I3,T.keep _ _ _ st2 fun b _ o e=>old b o e,fpn,w0⟩
  rintro n s4 ⟨i,ys,τ,H4,I4,st4,fr4,w4⟩
  rcases turn i n ys τ H4 w4 with ⟨stop,qn⟩|⟨go,NN,hN,step⟩
  ·refine dO (T.done (X.comp N scope C s2 H2 fp) rfl rfl rfl hc i [] s4 τ H4 (fun _ _=>False) I4 (stat fr4) st4 stop) (fun r s5 ⟨hr,I5⟩=>?_) fun _ _ z=>z
   subst hr
   obtain⟨m5,hn5,_⟩:=id I5.loc
   exact hRR acc C H4 s5 m5 (pR I2 f2 I5) hn5 (I2.fpOk (by rw[hC,hacc0];exact bN _) I5.free) qn
  ·refine dO (T.item (X.comp N scope C s2 H2 fp) rfl rfl rfl hc i [] s4 τ H4 (fun _ _=>False) I4 (stat fr4) st4 go) (fun r s5 ⟨u,hr,h5⟩=>?_) fun _ _ z=>z
   subst hr
   refine dO h5 (fun _ s6 ⟨x,H6,I6,r6,y6,st6,fr6⟩=>?_) fun _ _ z=>z
   have I6':=I6.pinned (stat fr6) (T.obj _ _ st6)
   refine dO (hg C s2 H2 fp _ s6 τ H6 x u _ I6' r6 (step x H6 y6)) (fun _ s7 ⟨τ7,H7,I7,q7⟩=>?_) fun _ _ z=>z
   refine dO (ht C s2 H2 fp _ s7 τ7 H7 _ I7 q7) (fun ok s8 ⟨H8,I8,q8⟩=>?_) fun _ _ z=>z
   have again:∀{ys9:List V} {H9:Hp} {s9:Shared},Inv (X.comp N scope C s2 H2 fp) ([]++wW fp s6.heap) τ7 H9 s9→NN ys9 τ7 H9→∃m,m<n∧∃i ys τ H',Inv (X.comp N scope C s2 H2 fp) [] τ H' s9∧tn i s9.heap∧(∀b∈fp,H' b=none)∧W i m ys τ H':=fun {ys9 H9 s9} I9 n9=>by
    obtain⟨m',hm,w9⟩:=hN ys9 τ7 H9 n9
    refine⟨m',hm,i+1,ys9,τ7,H9,I9.unpinned,T.keep _ _ _ st6 fun b hb o e=>(I9.pin (b,o) (eR _ (eR _ (yF hb e)))).1,fun b hb=>?_,w9⟩
    obtain⟨o,e,d⟩:=T.obj _ _ st6 b hb
    exact (I9.pin (b,o) (eR _ (eR _ (yF hb e)))).2.1
   cases ok with
   |false=>
    have q8':NN ys τ7 H8:=by
     have z:=q8
     rw[if_neg dn] at z
     exact z
    rw[if_neg dn]
    exact again I8 q8'
   |true=>
    rw[if_pos rfl] at q8 ⊢
    refine dO (he C s2 H2 fp _ s8 τ7 H8 _ I8 q8) (fun v s9 ⟨y,H9,I9,r9,a9,z9,q9⟩=>?_) fun _ _ z=>z
    refine dO (ui (X:=X.comp N scope C s2 H2 fp) _ s9 τ7 H9 (.ref acc) [y] (.ref acc) [v] (fun _ H10=>H10=upd H9 acc (.lst (ys++[y]))) I9 rfl (.cons r9 .nil) ⟨acc,ys,y,rfl,rfl,a9,z9,rfl⟩) (fun _ s10 ⟨_,H10,I10,_,e10⟩=>?_) fun _ _ z=>z
    subst e10
    exact again I10 q9
 exact codeAny_compStart_list (loop _ rfl) (T.self X.A 0 _ _ _ (T.keep _ _ _ st2 fun b _ o e=>old b o e) (loop _ rfl))
theorem gK (hc:X.calm=true)(S:zF X.N X.env.scope N imp scope)(hi:PI X tg iter wi)(hg:∀C s2 H2 fp,PG (X.comp N scope C s2 H2 fp) tg g)(ht:∀C s2 H2 fp,yN (X.comp N scope C s2 H2 fp) ifs tt)
  (he:∀C s2 H2 fp,PE (X.comp N scope C s2 H2 fp) elt te) (hs:∀x,foldedSetIterable iter X.env x=pure x:=by intro _;rfl):
  PE X (.ListComp elt [⟨tg,iter,ifs,0⟩] scope pos) (nW wi imp g tt te):=by
 intro pins s σ H Q I h
 rw[eval_ListComp]
 refine wpAny_comprehension_free (use:=none) rfl hs (xl (xt I S)) S.kind S.locs (thn (hi pins s σ H _ I h) fun v s1 h1=>thn h1 fun itv s2 h2=>?_)
 obtain⟨it,fp,tn,J,H2,e,I2,T,st2,f2,hW⟩:=h2
 subst e
 refine wZ (RR:=fun acc C=>compPost (model X.prog X.w) X.A X.xe none (EP X pins σ Q) acc C) hc S hg ht he I2 T st2 f2 hW fun a C H' s' m I' hn f q=>?_
 refine⟨m,hn,fun h' sb=>?_⟩
 obtain⟨g0,g1,g2,g3,g4,g5⟩:=f
 exact⟨.ref a,H',I'.turned (t':=s'.toks) (it:=C) (fun b o hb e=>(sb.2 b hb).trans e) g0 g1 g3 g4 g5,rfl,q⟩
theorem mD {i:Nat}{x:Str}{px:Pos}{spos:Pos}(hc:X.calm=true)(S:zF X.N X.env.scope N imp scope)(hi:PI X tg iter wi)(hg:∀C s2 H2 fp,PG (X.comp N scope C s2 H2 fp) tg g)(ht:∀C s2 H2 fp,yN (X.comp N scope C s2 H2 fp) ifs tt)
  (he:∀C s2 H2 fp,PE (X.comp N scope C s2 H2 fp) elt te) (hN:X.N.Nodup) (hx:X.N[i]?=some x) (hl:Loc X.env.scope x) (hsw:swapsWith (.ListComp elt [⟨tg,iter,ifs,0⟩] scope pos) (some (.Name x px)) spos.line X.env=pure true:=by rfl)
  (hf:X.fn x=true∨X.env.scope.names.lookup x=some .local:=by first|exact .inl rfl|exact .inr rfl|assumption) (hs:∀x,foldedSetIterable iter X.env x=pure x:=by intro _;rfl):
  PS X (.Assign [.Name x px] (.ListComp elt [⟨tg,iter,ifs,0⟩] scope pos) spos) (iR (nW wi imp g tt te) (wg i)):=by
 intro pins s σ H D I h
 rw[exec_Assign_Name_used _ _ _ _ hsw]
 refine eA (wpAny_standAt (eA ?_))
 show wpAny _ X.A (do let _ ←comprehension (.ListComp elt [⟨tg,iter,ifs,0⟩] scope pos) scope X.env _ (newList []) false (eval iter X.env) (some (assign (.Name x px) X.env))) _ _ s
 refine eA (dO (wpAny_comprehension_free (use:=some (assign (.Name x px) X.env)) (Q:=fun _ s'=>SP X pins D .next s') rfl hs (xl (xt I S)) S.kind S.locs (thn (hi pins s σ H _ I h) fun v s1 h1=>thn h1 fun itv s2 h2=>?_))
  (fun _ s' hq=>eB (eB hq)) fun _ _ e=>e)
 obtain⟨it,fp,tn,J,H2,e,I2,T,st2,f2,hW⟩:=h2
 subst e
 refine wZ (Q:=fun x H1=>wg i x σ H1 D.nx) (RR:=fun acc C=>compPost (model X.prog X.w) X.A X.xe (some (assign (.Name x px) X.env)) (fun _ s'=>SP X pins D .next s') acc C) hc S hg ht he I2 T st2 f2 hW fun a C H' s' m I' hn f q=>?_
 show wpAny _ X.A (assign (.Name x px) X.env (.ref a)) _ _ _
 obtain⟨g0,g1,g2,g3,g4,g5⟩:=f
 refine wpAny_assign_Name (vY I' hN hx hl (show RelV (.ref a) (.ref a) from rfl) (fun s4 I4 hch=>?_) hf)
 obtain⟨ad,sb,had⟩:=hch
 have hCa:C≠ad:=by
  rcases had with e|e
  ·rw[e];exact g1
  ·exact (g4 x ad e).symm
 refine⟨m,hn.sameBut sb hCa,fun h' sb2=>?_⟩
 exact⟨_,H',I4.turned (t':=s4.toks) (it:=C) (fun b o hb e=>(sb2.2 b hb).trans e) g0 g1 g3 g4 g5,q⟩
end
mutual
inductive DV (H:Hp):V→PyData→Prop where
 |non:DV H .non .none
 |bl (b:Bool):DV H (.bl b) (.bool b)
 |int (i:Int):DV H (.int i) (.int i)
 |str (x:Str):DV H (.str x) (.str x)
 |lst {a:Addr} {xs:List V} {ds:List PyData}:H a=some (.lst xs)→DVs H xs ds→DV H (.ref a) (.list ds)
 |tup {a:Addr} {xs:List V} {ds:List PyData}:H a=some (.tup xs)→DVs H xs ds→DV H (.ref a) (.tuple ds)
inductive DVs (H:Hp):List V→List PyData→Prop where
 |nil:DVs H [] []
 |cons {x:V} {xs:List V} {d:PyData} {ds:List PyData}:DV H x d→DVs H xs ds→DVs H (x::xs) (d::ds)
end
section
variable {X:Cx}{pins:List (Addr×Obj)}{σ:St}{H:Hp}{s:Shared}
mutual
theorem DV.reads (I:Inv X pins σ H s):∀{x:V} {d:PyData} {u:Value},DV H x d→RelV x u→∃as,Reads s.heap u d as
 |_,_,u,.non,r=>by cases (show u=Value.none from r);exact⟨_,.none⟩
 |_,_,u,.bl b,r=>by cases (show u=Value.bool b from r);exact⟨_,.bool b⟩
 |_,_,u,.int i,r=>by obtain⟨t,rfl⟩:=(show ∃t,u=Value.int i t from r);exact⟨_,.int i t⟩
 |_,_,u,.str x,r=>by obtain⟨t,rfl⟩:=(show ∃t,u=Value.str x t from r);exact⟨_,.str x t⟩
 |_,_,u,.lst (a:=a) hq hs,r=>by
  cases (show u=Value.ref a from r)
  obtain⟨its,rv,p,hz⟩:=I.list (SqL.of hq)
  obtain⟨o,ho,hc,n,hd⟩:=p.isList
  obtain⟨as,ra⟩:=DVs.reads I hs rv
  exact⟨_,.list ho hc hd (by simpa using ra)⟩
 |_,_,u,.tup (a:=a) hq hs,r=>by
  cases (show u=Value.ref a from r)
  obtain⟨its,rv,p,hz⟩:=I.tuple (SqT.of hq)
  obtain⟨o,ho,hc,n,hd⟩:=p
  obtain⟨as,ra⟩:=DVs.reads I hs rv
  exact⟨_,.tuple ho hc hd (by simpa using ra)⟩
theorem DVs.reads (I:Inv X pins σ H s):∀{xs:List V} {ds:List PyData} {us:List Value},DVs H xs ds→Vals xs us→∃as,ReadsAll s.heap us ds as
 |_,_,_,.nil,.nil=>⟨_,.nil⟩
 |_,_,_,.cons h hs,.cons r rs=>by
  obtain⟨as,ra⟩:=DV.reads I h r
  obtain⟨bs,rb⟩:=DVs.reads I hs rs
  exact⟨_,.cons ra rb⟩
end
end
mutual
theorem DV.same {H H':Hp}(e:zi H H'):∀{x:V} {d:PyData},DV H x d→DV H' x d
 |_,_,.non=>.non
 |_,_,.bl b=>.bl b
 |_,_,.int i=>.int i
 |_,_,.str x=>.str x
 |_,_,.lst hq hs=>.lst (e _ _ hq) (DVs.same e hs)
 |_,_,.tup hq hs=>.tup (e _ _ hq) (DVs.same e hs)
theorem DVs.same {H H':Hp}(e:zi H H'):∀{xs:List V} {ds:List PyData},DVs H xs ds→DVs H' xs ds
 |_,_,.nil=>.nil
 |_,_,.cons h hs=>.cons (DV.same e h) (DVs.same e hs)
end
def tyD :PyData→String
 |.none=>"NoneType"
 |.bool _=>"bool"
 |.int _=>"int"
 |.str _=>"str"
 |.list _=>"list"
 |.tuple _=>"tuple"
 |.dict _=>"dict"
theorem DV.ty {K:PySem.W.Frag}{H:Hp}{x:V}{d:PyData}(h:DV H x d):xA K H x (.type (tyD d)):=by
 cases h with
 |non=>exact .non
 |bl b=>exact .bl b
 |int i=>exact .int i
 |str x=>exact .str x
 |lst e _=>exact .lst e
 |tup e _=>exact .tup e
def isInt :PyData→Bool
 |.int _=>true
 |.bool _=>true
 |_=>false
def isBool :PyData→Bool
 |.bool _=>true
 |_=>false
def isStr :PyData→Bool
 |.str _=>true
 |_=>false
def isList :PyData→Bool
 |.list _=>true
 |_=>false
def lV :PyData→Bool
 |.tuple _=>true
 |_=>false
def kQ (T:String)(d:PyData):Option Bool:=
 if T="int" then some (isInt d) else if T="bool" then some (isBool d) else if T="str" then some (isStr d) else if T="list" then some (isList d) else if T="tuple" then some (lV d) else none
def gi (t T:String):Option Bool:=if (Value.type t == Value.type T)=true then some true else if PySem.W.kitMeta T=true then (fastBuiltinMro t).map (·.contains (Value.type T)) else none
theorem mP (K:PySem.W.Frag)(t T:String):PySem.W.kitOne K (.type t) (.type T)=gi t T:=rfl
theorem nz :(["NoneType","bool","int","str","list","tuple"].all fun t=>["int","bool","str","list","tuple"].all fun T=>
  gi t T == some (if T="int" then t == "int"||t == "bool" else t == T))=true:=by decide +kernel
theorem fw (K:PySem.W.Frag){H:Hp}{x:V}{d:PyData}(h:DV H x d){T:String}{b:Bool}(e:kQ T d=some b):PySem.W.kitOne K (.type (tyD d)) (.type T)=some b:=by
 rw[mP]
 have key:∀t∈["NoneType","bool","int","str","list","tuple"],∀T∈["int","bool","str","list","tuple"],gi t T=some (if T="int" then t == "int"||t == "bool" else t == T):=fun t ht T hT=>
  eq_of_beq (ag.mp (ag.mp nz t ht) T hT)
 have hd:tyD d∈["NoneType","bool","int","str","list","tuple"]:=by cases h<;>simp[tyD]
 unfold kQ at e
 split at e
 ·rename_i eT
  subst eT
  rw[key _ hd "int" (by decide)]
  cases e
  cases h<;>rfl
 ·split at e
  ·rename_i eT
   subst eT
   rw[key _ hd "bool" (by decide)]
   cases e
   cases h<;>rfl
  ·split at e
   ·rename_i eT
    subst eT
    rw[key _ hd "str" (by decide)]
    cases e
    cases h<;>rfl
   ·split at e
    ·rename_i eT
     subst eT
     rw[key _ hd "list" (by decide)]
     cases e
     cases h<;>rfl
    ·split at e
     ·rename_i eT
      subst eT
      rw[key _ hd "tuple" (by decide)]
      cases e
      cases h<;>rfl
     ·cases e
section
variable {X:Cx}
def fe :R2:=fun x y H Q=>∃d e,DV H x d∧DV H y e∧SeqAt.shaped d=true∧SeqAt.shaped e=true∧Q (.bl (PyData.eqv d e)) H
def gE :R2:=fun x y H Q=>∃d e,DV H x d∧DV H y e∧SeqAt.shaped d=true∧SeqAt.shaped e=true∧Q (.bl (!PyData.eqv d e)) H
theorem jT (hu:X.A.units+64<cLine):OpR X (compareOp .Eq) fe:=by
 intro pins s σ H x y v u Q I rx ry h
 obtain⟨d,e,hd,he,sd,se,q⟩:=h
 obtain⟨as,ra⟩:=hd.reads I rx
 obtain⟨bs,rb⟩:=he.reads I ry
 exact SeqAt.compareEq_shaped ra rb sd se hu ⟨.bl _,H,I,rfl,q⟩
theorem ic (hu:X.A.units+64<cLine):OpR X (compareOp .NotEq) gE:=by
 intro pins s σ H x y v u Q I rx ry h
 obtain⟨d,e,hd,he,sd,se,q⟩:=h
 obtain⟨as,ra⟩:=hd.reads I rx
 obtain⟨bs,rb⟩:=he.reads I ry
 exact SeqAt.compareNe_shaped ra rb sd se hu ⟨.bl _,H,I,rfl,q⟩
theorem mI :yj X (.builtin "isinstance") (fun xs H Q=>∃x T t b,xs=[x,.ty T]∧xA X.K H x t∧PySem.W.kitOne X.K t (.type T)=some b∧Q (.bl b) H):=by
 intro pins s σ H xs us Q I r h
 obtain⟨x,T,t,b,rfl,ty,e,q⟩:=h
 obtain⟨u,v,rfl,rx,ry⟩:=Vals.two r
 cases (show v=Value.type T from ry)
 exact pC I rx ty e fun tk=>⟨.bl b,H,I.tok tk,rfl,q⟩
theorem oa :yj X (.builtin "isinstance") (fun xs H Q=>∃x T d b,xs=[x,.ty T]∧DV H x d∧kQ T d=some b∧Q (.bl b) H):=by
 intro pins s σ H xs us Q I r h
 obtain⟨x,T,d,b,e,hd,ht,q⟩:=h
 exact mI pins s σ H xs us Q I r ⟨x,T,_,b,e,hd.ty,fw X.K hd ht,q⟩
def jw (i j:Int):Prop:=0<j∧j.natAbs.log2<9000
theorem vh :OpR X (binaryOp .FloorDiv) (rI jw fun i j=>.int (i / j)):=opI fun i j _ _ _ _ _ hc q=>by
 have h1:(0:Int)<j:=hc.1
 refine floordiv_int (Int.ne_of_gt h1) ?_ (.inl (PyProof.noPylong_of_log2 hc.2))
 rw[Int.fdiv_eq_ediv_of_nonneg _ (aB h1)]
 exact q
abbrev big :Int:=115792089237316195423570985008687907853269984665640564039457584007913129639936
theorem log2_small {j:Int}(h0:0<j)(h:j<big):j.natAbs.log2<9000:=by
 have hn:j.natAbs≠0:=by omega
 have h2:j.natAbs<2 ^ 256:=by
  have e:(2:Nat) ^ 256=115792089237316195423570985008687907853269984665640564039457584007913129639936:=by decide +kernel
  rw[e]
  unfold big at h
  omega
 have h3:j.natAbs.log2<256:=(Nat.log2_lt hn).mpr h2
 omega
def zx (lo:Int)(n:Nat):List Int:=(List.range n).map fun i=>lo+(i:Nat)
theorem zq (lo:Int)(n:Nat):(zx lo n).length=n:=by simp[zx]
theorem vm {lo:Int}{n i:Nat}(h:i<n):(zx lo n)[i]?=some (lo+(i:Nat)):=by simp[zx,h]
theorem vI {lo:Int}{n:Nat}{acc:Array Value}(h:ItemsOf (fun i v=>∃t,v=.int (lo+i*1) t) acc n):Vals ((zx lo n).map V.int) acc.toList:=by
 obtain⟨h1,h2⟩:=h
 have key:∀(xs:List V) (us:List Value),xs.length=us.length→(∀(i:Nat) (x:V) (u:Value),xs[i]?=some x→us[i]?=some u→RelV x u)→Vals xs us:=by
  intro xs
  induction xs with
  |nil=>intro us hl _;cases us with|nil=>exact .nil|cons _ _=>simp at hl
  |cons x xs ih=>
   intro us hl hr
   cases us with
   |nil=>simp at hl
   |cons u us=>exact .cons (hr 0 x u rfl rfl) (ih us (by simpa using hl) fun i x' u' e1 e2=>hr (i+1) x' u' (by simpa using e1) (by simpa using e2))
 refine key _ _ ?_ fun i x u e1 e2=>?_
 ·rw[eD,zq]
  simp[h1]
 ·rw[dy] at e1
  have hi:i<n:=by
   have:=(eS.mp e2).1
   simp[h1] at this
   exact this
  rw[vm hi] at e1
  have e1':V.int (lo+(i:Nat))=x:=dz e1
  subst e1'
  obtain⟨t,ht⟩:=h2 i u (by simpa using e2)
  refine⟨t,?_⟩
  rw[ht,Int.mul_one]
theorem vP (hc:X.calm=true):yj X (.type "list") (fun xs H Q=>∃(p:Addr) (lo hi:Int),xs=[.ref p]∧H p=some (.rng lo hi)∧(-(2 ^ 62)≤lo∧lo<2 ^ 62∧-(2 ^ 62)≤hi∧hi<2 ^ 62)∧(hi-lo).toNat≤sizeLine∧(hi-lo).toNat≤2 ^ 24∧
  ∀l,H l=none→Q (.ref l) (upd H l (.lst ((zx lo (hi-lo).toNat).map V.int)))):=by
 intro pins s σ H xs us Q I r h
 obtain⟨p,lo,hi,rfl,hp,⟨b1,b2,b3,b4⟩,hz,hz2,q⟩:=h
 obtain⟨u,rfl,rx⟩:=Vals.one r
 cases (show u=Value.ref p from rx)
 obtain⟨t,t',t'',e⟩:=(show zw X.prog X.w H s.heap p (.rng lo hi) from I.hok p _ hp)
 refine call_list_range (I.ok.hd hc) e (small_one b1 b2 b3 b4) (n:=(hi-lo).toNat) (by rw[rangeSize_one];split<;>omega) hz2 fun h' tk acc' c' hk hl hit=>?_
 refine⟨.ref s.heap.objs.size,_,I.laid (o:=.lst ((zx lo (hi-lo).toNat).map V.int)) (t':=tk) hk (eG _) ⟨by rw[eD,zq];exact hz,acc'.toList,c',vI hit,by simpa using hl⟩,rfl,q _ (I.hok.fresh (eG _))⟩
end
def nV (X:Cx)(body:List Stmt):TS:=fun D σ H=>∃t,PSs X body t∧t D σ H
theorem zA {X:Cx}{body:List Stmt}:PSs X body (nV X body):=fun pins s σ H D I ⟨t,p,q⟩=>p pins s σ H D I q
theorem wH {X:Cx}{st:Stmt}{rest:List Stmt}{D:Ends}{σ:St}{H:Hp}(M:St→Hp→Prop)(h1:∃t,PS X st t∧t {D with nx:=M} σ H)(h2:∀σ' H',M σ' H'→∃t,PSs X rest t∧t D σ' H'):
  ∃t,PSs X (st::rest) t∧t D σ H:=by
 obtain⟨t1,p1,q1⟩:=h1
 refine⟨fun D' σ' H'=>D'=D∧σ'=σ∧H'=H,?_,rfl,rfl,rfl⟩
 intro pins s σ' H' D' I h
 obtain⟨e1,e2,e3⟩:=h
 subst e1 e2 e3
 have step:PSs X (st::rest) (fz t1 fun D2 σ2 H2=>D2=D'∧M σ2 H2):=zu p1 fun pins s σ2 H2 D2 I2 ⟨e,m⟩=>by
  subst e
  obtain⟨t2,p2,q2⟩:=h2 σ2 H2 m
  exact p2 pins s σ2 H2 _ I2 q2
 refine step pins s _ _ _ I ?_
 show t1 {D' with nx:=fun σ2 H2=>D'=D'∧M σ2 H2} _ _
 have e:(fun (σ2:St) (H2:Hp)=>D'=D'∧M σ2 H2)=M:=by
  funext σ2 H2
  exact propext ⟨fun z=>z.2,fun z=>⟨rfl,z⟩⟩
 rw[e]
 exact q1
theorem oZ (ns:List Int)(lo hi:Option Int):∃ms:List Int,tJ (ns.map V.int) lo hi=ms.map V.int∧ms.length≤ns.length:=by
 refine⟨(ns.drop (HT.sIx (ns.map V.int).length 0 lo)).take (HT.sIx (ns.map V.int).length (ns.map V.int).length hi-HT.sIx (ns.map V.int).length 0 lo),?_,?_⟩
 ·unfold tJ
  rw[List.map_take,List.map_drop]
 ·rw[dN,cC]
  omega
def fb (bs:List Int):Prop:=∃x y:Int,bs=[x,y]∧0≤y∧y<4294967296
structure yb (H:Hp)(t b c:Addr):Prop where
 ex:∃(n:Int) (bs cs:List Int),(b=t∧c=t)∧H t=some (.lst (bs.map V.int))∧H b=some (.lst (bs.map V.int))∧H c=some (.lst (cs.map V.int))∧fb bs∧n=0
def jX (t b:Addr)(H H':Hp):Prop:=∀a,a≠t→a≠b→H' a=H a
def nu :Sp:=fun vs H Q _=>∃(t b c:Addr) (many:Int),vs=[.ref t,.int many]∧yb H t b c∧0<many∧many<big∧
 ∀(v:Int) (H':Hp),0≤v→v<many→yb H' t b c→jX t b H H'→Q (.int v) H'
theorem yb.free {H:Hp}{t b c l:Addr}(T:yb H t b c)(h:H l=none):l≠t∧l≠b∧l≠c:=by
 obtain⟨n,bs,cs,n1,e1,e2,e3,l1,l2⟩:=T.ex
 exact⟨(zf e1 h).symm,(zf e2 h).symm,(zf e3 h).symm⟩
theorem yb.off {H H':Hp}{t b c:Addr}(T:yb H t b c)(h:∀a,a=t∨a=b∨a=c→H' a=H a):yb H' t b c:=by
 obtain⟨n,bs,cs,n1,e1,e2,e3,l1,l2⟩:=T.ex
 exact⟨n,bs,cs,n1,by rw[h t (.inl rfl)];exact e1,by rw[h b (.inr (.inl rfl))];exact e2,by rw[h c (.inr (.inr rfl))];exact e3,l1,l2⟩
theorem mF {H:Hp}{t b c l:Addr}{o:HO}(T:yb H t b c)(h:l≠t∧l≠b∧l≠c):yb (upd H l o) t b c:=
 T.off fun a ha=>ze (ha.elim (fun e=>e▸h.1.symm) fun ha=>ha.elim (fun e=>e▸h.2.1.symm) fun e=>e▸h.2.2.symm)
theorem pH {H H':Hp}{t b c:Addr}(T:yb H t b c)(s:zi H H'):yb H' t b c:=by
 obtain⟨n,bs,cs,n1,e1,e2,e3,l1,l2⟩:=T.ex
 exact⟨n,bs,cs,n1,s _ _ e1,s _ _ e2,s _ _ e3,l1,l2⟩
theorem zt {H:Hp}{p:Addr}{o:HO}(h:H p=none):zi H (upd H p o):=fun b u e=>by rw[ze (zf e h)];exact e
theorem shaped_ints (ns:List Int):SeqAt.shaped (.list (ns.map PyData.int))=true∧SeqAt.shaped (.tuple (ns.map PyData.int))=true:=by
 have h1:PyData.canLayAll0 (ns.map PyData.int)=true:=by
  induction ns with
  |nil=>rfl
  |cons n r ih=>simp only[dG,PyData.canLayAll0,PyData.canLay0,ih,Bool.and_self]
 have h2:PyData.depthAll (ns.map PyData.int)=0:=by
  clear h1
  induction ns with
  |nil=>rfl
  |cons n r ih=>simp only[dG,PyData.depthAll,PyData.depth,ih,Nat.max_self]
 constructor<;>simp[SeqAt.shaped,PyData.canLay0,PyData.depth,h1,h2]
def xG (x:Addr):Prop:=False
def TabAt (H:Hp):Prop:=True
def Plain (H:Hp)(l:Addr):Prop:=True
theorem sL {H H':Hp}(T:TabAt H)(h:∀a o,(∀xs,o≠.lst xs)→H a=some o→H' a=some o):TabAt H':=trivial
theorem kC {H:Hp}{l:Addr}{o:HO}(T:TabAt H)(h:Plain H l):TabAt (upd H l o):=trivial
theorem uU {H:Hp}{x:Addr}(T:TabAt H)(h:xG x):∃o,H x=some o∧(∀ts,o≠.tup ts)∧∀xs,o≠.lst xs:=h.elim
theorem uA {H:Hp}{l:Addr}{xs:List V}(h:H l=some (.lst xs)):Plain H l:=trivial
theorem nI {H:Hp}{l:Addr}{xs:List (Key×V)}(h:H l=some (.dK xs)):Plain H l:=trivial
theorem xJ {H:Hp}{l:Addr}(T:TabAt H)(h:H l=none):¬xG l:=fun z=>by
 obtain⟨o,e,_⟩:=uU T z
 rw[h] at e;cases e
theorem kc {H H':Hp}{t b:Addr}{xs ys:List V}(T:TabAt H)(ht:H t=some (.lst xs))(hb:H b=some (.lst ys))(off:jX t b H H'):TabAt H':=sL T fun a o no e=>by
 have n1:a≠t:=fun z=>by rw[z,ht] at e;cases e;exact no _ rfl
 have n2:a≠b:=fun z=>by rw[z,hb] at e;cases e;exact no _ rfl
 rw[off a n1 n2];exact e
theorem gj {H H':Hp}(T:TabAt H)(h:zi H H'):TabAt H':=sL T fun a o _ e=>h a o e
def tO (K:PySem.W.Frag):Sp:=fun vs H Q _=>∃(a:Addr) (ns:List Int),vs=[.ref a]∧SqL K H a (ns.map V.int)∧ns.length≤63∧TabAt H∧∀H',Q (.bl true) H'
section
variable {X:Cx}
end
noncomputable def sub (p:Addr→Prop)(H:Hp):Hp:=fun a=>open Classical in if p a then H a else none
theorem zc {p:Addr→Prop}{H:Hp}{a:Addr}{o:HO}(h:sub p H a=some o):p a∧H a=some o:=by
 unfold sub at h
 split at h
 ·rename_i hp;exact⟨hp,h⟩
 ·cases h
theorem zB {p:Addr→Prop}{H:Hp}{a:Addr}{o:HO}(hp:p a)(h:H a=some o):sub p H a=some o:=by
 unfold sub
 rw[if_pos hp]
 exact h
theorem zj {p q:Addr→Prop}{H H':Hp}(h:∀a o,p a→H a=some o→q a∧H' a=some o):zi (sub p H) (sub q H'):=fun a o e=>by
 obtain⟨hp,he⟩:=zc e
 obtain⟨hq,he'⟩:=h a o hp he
 exact zB hq he'
theorem yT {p:Addr→Prop}{H:Hp}:zi (sub p H) H:=fun _ _ e=>(zc e).2
section
variable {X:Cx}{e:Expr}{es:List Expr}
def wX (X:Cx)(e:Expr):TE:=fun σ H Q=>∃t,PE X e t∧t σ H Q
theorem zd :PE X e (wX X e):=fun pins s σ H Q I ⟨t,p,q⟩=>p pins s σ H Q I q
def fo (X:Cx)(e:Expr):TT:=fun σ H Q=>∃t,PT X e t∧t σ H Q
theorem yD :PT X e (fo X e):=fun pins s σ H Q I ⟨t,p,q⟩=>p pins s σ H Q I q
def gH (X:Cx)(es:List Expr):TA:=fun σ H Q=>∃t,PA X es t∧t σ H Q
theorem yE :PA X es (gH X es):=fun pos pins s σ H Q I ⟨t,p,q⟩=>p pos pins s σ H Q I q
end
def oH :Key→PyData
 |.inl i=>.int i
 |.inr x=>.str x
def xcO (a C:Addr)(d:Option Addr):HO:=.ext fun h=>∃o vs,h.get? a=some o∧o.cls=.ref C∧o.dict=d∧o.data=.fields vs
mutual
inductive AV (H:Hp):V→PyData→Prop where
 |non:AV H .non .none
 |bl (b:Bool):AV H (.bl b) (.bool b)
 |int (i:Int):AV H (.int i) (.int i)
 |str (x:Str):AV H (.str x) (.str x)
 |lst {a:Addr} {xs:List V} {ds:List PyData}:H a=some (.lst xs)→AVs H xs ds→AV H (.ref a) (.list ds)
 |tup {a:Addr} {xs:List V} {ds:List PyData}:H a=some (.tup xs)→AVs H xs ds→AV H (.ref a) (.tuple ds)
 |ins {a C dx:Addr} {fs:List (Str×V)} {ds:List (PyData×PyData)}:H a=some (.ins C dx fs)→AVf H fs ds→AV H (.ref a) (.dict ((.int (C:Nat),.none)::ds))
 |dk {a:Addr} {o:Obj} {kvs:List (Key×V)} {ds:List (PyData×PyData)}:H a=some (.frz o (.dK kvs))→AVk H kvs ds→AV H (.ref a) (.dict ((.none,.none)::ds))
 |dt {a:Addr} {o:Obj} {kvs:List (List Key×V)} {ds:List (PyData×PyData)}:H a=some (.frz o (.dT kvs))→AVt H kvs ds→AV H (.ref a) (.dict ((.none,.bool true)::ds))
 |xc {a C dx:Addr} {fs:List (Str×V)} {ds:List (PyData×PyData)}:H a=some (xcO a C (some dx))→H dx=some (.xd fs)→AVf H fs ds→AV H (.ref a) (.dict ((.int (C:Nat),.bool true)::ds))
 |xn {a C:Addr}:H a=some (xcO a C none)→AV H (.ref a) (.dict [(.int (C:Nat),.bool false)])
inductive AVs (H:Hp):List V→List PyData→Prop where
 |nil:AVs H [] []
 |cons {x:V} {xs:List V} {d:PyData} {ds:List PyData}:AV H x d→AVs H xs ds→AVs H (x::xs) (d::ds)
inductive AVf (H:Hp):List (Str×V)→List (PyData×PyData)→Prop where
 |nil:AVf H [] []
 |cons {f:Str} {x:V} {fs:List (Str×V)} {d:PyData} {ds:List (PyData×PyData)}:AV H x d→AVf H fs ds→AVf H ((f,x)::fs) ((.str f,d)::ds)
inductive AVk (H:Hp):List (Key×V)→List (PyData×PyData)→Prop where
 |nil:AVk H [] []
 |cons {k:Key} {x:V} {fs:List (Key×V)} {d:PyData} {ds:List (PyData×PyData)}:AV H x d→AVk H fs ds→AVk H ((k,x)::fs) ((oH k,d)::ds)
inductive AVt (H:Hp):List (List Key×V)→List (PyData×PyData)→Prop where
 |nil:AVt H [] []
 |cons {k:List Key} {x:V} {fs:List (List Key×V)} {d:PyData} {ds:List (PyData×PyData)}:AV H x d→AVt H fs ds→AVt H ((k,x)::fs) ((.tuple (k.map oH),d)::ds)
end
mutual
theorem AV.same {H H':Hp}(e:zi H H'):∀{x:V} {d:PyData},AV H x d→AV H' x d
 |_,_,.non=>.non
 |_,_,.bl b=>.bl b
 |_,_,.int i=>.int i
 |_,_,.str x=>.str x
 |_,_,.lst hq hs=>.lst (e _ _ hq) (AVs.same e hs)
 |_,_,.tup hq hs=>.tup (e _ _ hq) (AVs.same e hs)
 |_,_,.ins hq hs=>.ins (e _ _ hq) (AVf.same e hs)
 |_,_,.dk hq hs=>.dk (e _ _ hq) (AVk.same e hs)
 |_,_,.dt hq hs=>.dt (e _ _ hq) (AVt.same e hs)
 |_,_,.xc hq hd hs=>.xc (e _ _ hq) (e _ _ hd) (AVf.same e hs)
 |_,_,.xn hq=>.xn (e _ _ hq)
theorem AVs.same {H H':Hp}(e:zi H H'):∀{xs:List V} {ds:List PyData},AVs H xs ds→AVs H' xs ds
 |_,_,.nil=>.nil
 |_,_,.cons h hs=>.cons (AV.same e h) (AVs.same e hs)
theorem AVf.same {H H':Hp}(e:zi H H'):∀{fs:List (Str×V)} {ds:List (PyData×PyData)},AVf H fs ds→AVf H' fs ds
 |_,_,.nil=>.nil
 |_,_,.cons h hs=>.cons (AV.same e h) (AVf.same e hs)
theorem AVk.same {H H':Hp}(e:zi H H'):∀{fs:List (Key×V)} {ds:List (PyData×PyData)},AVk H fs ds→AVk H' fs ds
 |_,_,.nil=>.nil
 |_,_,.cons h hs=>.cons (AV.same e h) (AVk.same e hs)
theorem AVt.same {H H':Hp}(e:zi H H'):∀{fs:List (List Key×V)} {ds:List (PyData×PyData)},AVt H fs ds→AVt H' fs ds
 |_,_,.nil=>.nil
 |_,_,.cons h hs=>.cons (AV.same e h) (AVt.same e hs)
end
mutual
theorem AV.dv {H:Hp}:∀{x:V} {d:PyData},AV H x d→d.hasDict=false→DV H x d
 |_,_,.non,_=>.non
 |_,_,.bl b,_=>.bl b
 |_,_,.int i,_=>.int i
 |_,_,.str x,_=>.str x
 |_,_,.lst hq hs,h=>.lst hq (AVs.dv hs (by simpa only[PyData.hasDict] using h))
 |_,_,.tup hq hs,h=>.tup hq (AVs.dv hs (by simpa only[PyData.hasDict] using h))
 |_,_,.ins hq hs,h=>by simp[PyData.hasDict] at h
 |_,_,.dk hq hs,h=>by simp[PyData.hasDict] at h
 |_,_,.dt hq hs,h=>by simp[PyData.hasDict] at h
 |_,_,.xc hq _ hs,h=>by simp[PyData.hasDict] at h
 |_,_,.xn hq,h=>by simp[PyData.hasDict] at h
theorem AVs.dv {H:Hp}:∀{xs:List V} {ds:List PyData},AVs H xs ds→PyData.hasDictAll ds=false→DVs H xs ds
 |_,_,.nil,_=>.nil
 |_,_,.cons h hs,e=>by
  simp only[PyData.hasDictAll,Bool.or_eq_false_iff] at e
  exact .cons (AV.dv h e.1) (AVs.dv hs e.2)
end
mutual
theorem DV.av {H:Hp}:∀{x:V} {d:PyData},DV H x d→AV H x d
 |_,_,.non=>.non
 |_,_,.bl b=>.bl b
 |_,_,.int i=>.int i
 |_,_,.str x=>.str x
 |_,_,.lst hq hs=>.lst hq (DVs.av hs)
 |_,_,.tup hq hs=>.tup hq (DVs.av hs)
theorem DVs.av {H:Hp}:∀{xs:List V} {ds:List PyData},DVs H xs ds→AVs H xs ds
 |_,_,.nil=>.nil
 |_,_,.cons h hs=>.cons (DV.av h) (DVs.av hs)
end
theorem AVs.length {H:Hp}:∀{xs:List V} {ds:List PyData},AVs H xs ds→xs.length=ds.length
 |_,_,.nil=>rfl
 |_,_,.cons _ hs=>by rw[df,df,AVs.length hs]
theorem AVs.append {H:Hp}:∀{xs ys:List V} {ds es:List PyData},AVs H xs ds→AVs H ys es→AVs H (xs++ys) (ds++es)
 |_,_,_,_,.nil,h=>h
 |_,_,_,_,.cons a r,h=>.cons a (AVs.append r h)
theorem AVs.get {H:Hp}:∀{xs:List V} {ds:List PyData} {i:Nat} {d:PyData},AVs H xs ds→ds[i]?=some d→∃x,xs[i]?=some x∧AV H x d
 |_,_,_,_,.nil,e=>by simp at e
 |_,_,0,_,.cons a _,e=>by simp at e;subst e;exact⟨_,rfl,a⟩
 |_,_,i+1,d,.cons _ r,e=>by
  obtain⟨x,h1,h2⟩:=AVs.get (i:=i) (d:=d) r (by simpa using e)
  exact⟨x,by simpa using h1,h2⟩
theorem AVs.take {H:Hp}:∀{xs:List V} {ds:List PyData} (n:Nat),AVs H xs ds→AVs H (xs.take n) (ds.take n)
 |_,_,0,_=>.nil
 |_,_,_+1,.nil=>.nil
 |_,_,n+1,.cons a r=>.cons a (AVs.take n r)
theorem AVs.drop {H:Hp}:∀{xs:List V} {ds:List PyData} (n:Nat),AVs H xs ds→AVs H (xs.drop n) (ds.drop n)
 |_,_,0,r=>r
 |_,_,_+1,.nil=>.nil
 |_,_,n+1,.cons _ r=>AVs.drop n r
theorem AVs.set {H:Hp}{x:V}{d:PyData}(a:AV H x d):∀{xs:List V} {ds:List PyData} (i:Nat),AVs H xs ds→AVs H (xs.set i x) (ds.set i d)
 |_,_,_,.nil=>.nil
 |_,_,0,.cons _ r=>.cons a r
 |_,_,i+1,.cons q r=>.cons q (AVs.set a i r)
theorem AVs.atI {H:Hp}{xs:List V}{ds:List PyData}{i:Int}{d:PyData}(h:AVs H xs ds)(e:atI ds i=some d):∃x,L2.atI xs i=some x∧AV H x d:=by
 unfold L2.atI at e ⊢
 rw[h.length]
 cases q:ixN ds.length i with
 |none=>rw[q] at e;cases e
 |some j=>
  rw[q] at e
  exact h.get (i:=j) e
def cutD (ds:List PyData)(lo hi:Option Int):List PyData:=(ds.drop (HT.sIx ds.length 0 lo)).take (HT.sIx ds.length ds.length hi-HT.sIx ds.length 0 lo)
theorem AVs.cut {H:Hp}{xs:List V}{ds:List PyData}(h:AVs H xs ds)(lo hi:Option Int):AVs H (tJ xs lo hi) (cutD ds lo hi):=by
 unfold tJ cutD
 rw[h.length]
 exact (h.drop _).take _
mutual
def noL :PyData→Bool
 |.list _=>false
 |.dict ((.none,_)::_)=>false
 |.dict kvs=>pD kvs
 |.tuple ds=>uX ds
 |_=>true
def uX :List PyData→Bool
 |[]=>true
 |d::r=>noL d&&uX r
def pD :List (PyData×PyData)→Bool
 |[]=>true
 |(_,d)::r=>noL d&&pD r
end
def Ob :HO→Prop
 |.lst _=>True
 |.dK _=>True
 |.frz _ _=>True
 |_=>False
mutual
theorem AV.noL {H H':Hp}(e:∀a o,¬Ob o→H a=some o→H' a=some o):∀{x:V} {d:PyData},AV H x d→noL d=true→AV H' x d
 |_,_,.non,_=>.non
 |_,_,.bl b,_=>.bl b
 |_,_,.int i,_=>.int i
 |_,_,.str x,_=>.str x
 |_,_,.lst _ _,h=>by simp[L2.noL] at h
 |_,_,.tup hq hs,h=>.tup (e _ _ (fun z=>z) hq) (AVs.noL e hs (by simpa only[L2.noL] using h))
 |_,_,.ins hq hs,h=>.ins (e _ _ (fun z=>z) hq) (AVf.noL e hs (by simpa[L2.noL,L2.pD] using h))
 |_,_,.dk _ _,h=>by simp[L2.noL] at h
 |_,_,.dt _ _,h=>by simp[L2.noL] at h
 |_,_,.xc hq hd hs,h=>.xc (e _ _ (fun z=>z) hq) (e _ _ (fun z=>z) hd) (AVf.noL e hs (by simpa[L2.noL,L2.pD] using h))
 |_,_,.xn hq,h=>.xn (e _ _ (fun z=>z) hq)
theorem AVs.noL {H H':Hp}(e:∀a o,¬Ob o→H a=some o→H' a=some o):∀{xs:List V} {ds:List PyData},AVs H xs ds→uX ds=true→AVs H' xs ds
 |_,_,.nil,_=>.nil
 |_,_,.cons h hs,q=>by
  simp only[L2.uX,ah] at q
  exact .cons (AV.noL e h q.1) (AVs.noL e hs q.2)
theorem AVf.noL {H H':Hp}(e:∀a o,¬Ob o→H a=some o→H' a=some o):∀{fs:List (Str×V)} {ds:List (PyData×PyData)},AVf H fs ds→pD ds=true→AVf H' fs ds
 |_,_,.nil,_=>.nil
 |_,_,.cons h hs,q=>by
  simp only[L2.pD,ah] at q
  exact .cons (AV.noL e h q.1) (AVf.noL e hs q.2)
end
structure Fr where
 H0:Hp
 O0:Addr→Prop
 tp:Option (Addr×Addr×Addr)
inductive A where
 |dat (d:PyData)
 |ow (c:PyData)
 |deep (d:PyData) (S:Addr→Prop)
 |tape
 |at (l:Addr)
 |exc (r:Fr) (q:PyData→Prop)
 |pin (l:Addr) (vs:List V) (ds:List PyData)
 |nst (l:Addr) (ls:List Addr) (dss:List (List PyData))
@[reducible] def A.own (ds:List PyData):A:=.ow (.list ds)
abbrev kT (ds:List (PyData×PyData)):PyData:=.dict ((.none,.none)::ds)
abbrev Ev :=List (Option A)
def xo (o:HO):Prop:=∀ts,o≠.tup ts
theorem yr {xs:List V}:xo (.lst xs):=fun _ z=>by cases z
theorem Ob.notup {o:HO}(h:Ob o):xo o:=fun ts z=>by subst z;exact h
def NT (F:Fr)(x:Addr):Prop:=(∀t b c,F.tp=some (t,b,c)→x≠t∧x≠b)∧¬xG x
def Kz (F:Fr)(H H':Hp):Prop:=∀x o,H x=some o→NT F x→H' x=some o
structure zv (F:Fr)(H:Hp):Prop where
 tab:TabAt H
 ot:∀x,xG x→F.O0 x
 all:∀t b c,F.tp=some (t,b,c)→yb H t b c∧F.O0 t∧F.O0 b∧F.O0 c
instance {F:Fr} {H:Hp}:CoeFun (zv F H) (fun _=>∀t b c,F.tp=some (t,b,c)→yb H t b c∧F.O0 t∧F.O0 b∧F.O0 c):=⟨zv.all⟩
theorem zv.to {F F':Fr}{H:Hp}(t:zv F H)(hp:F'.tp=F.tp)(ho:∀x,F.O0 x→F'.O0 x):zv F' H:=⟨t.tab,fun x h=>ho x (t.ot x h),fun a b c e=>by
 obtain⟨h1,h2,h3,h4⟩:=t a b c (hp▸e)
 exact⟨h1,ho _ h2,ho _ h3,ho _ h4⟩⟩
theorem zv.re {F F':Fr}{H H':Hp}(t:zv F H)(t':zv F' H')(hp:F'.tp=F.tp):zv F H':=⟨t'.tab,t.ot,fun a b c e=>⟨(t' a b c (hp▸e)).1,(t a b c e).2⟩⟩
theorem zv.upd {F:Fr}{H:Hp}{l:Addr}{o:HO}(t:zv F H)(h:∀a b c,F.tp=some (a,b,c)→l≠a∧l≠b∧l≠c)(hp:Plain H l):zv F (upd H l o):=⟨kC t.tab hp,t.ot,fun a b c e=>⟨mF (t a b c e).1 (h a b c e),(t a b c e).2⟩⟩
theorem zv.updO {F:Fr}{H:Hp}{l:Addr}{o:HO}(t:zv F H)(h:¬F.O0 l)(hp:Plain H l):zv F (L2.upd H l o):=t.upd (fun a b c e=>⟨fun z=>h (by rw[z];exact (t a b c e).2.1),fun z=>h (by rw[z];exact (t a b c e).2.2.1),fun z=>h (by rw[z];exact (t a b c e).2.2.2)⟩) hp
def foot (s:Option V):A→Addr→Prop
 |.ow _,x=>s=some (.ref x)
 |.deep _ S,x=>S x
 |.nst l ls _,x=>x∈l::ls
 |_,_=>False
def Ow (F:Fr)(α:Ev)(σ:St)(x:Addr):Prop:=F.O0 x∨∃(i:Nat) (a:A) (s:Option V),α[i]?=some (some a)∧σ[i]?=some s∧foot s a x
noncomputable abbrev Gz (F:Fr)(α:Ev)(σ:St)(H:Hp):Hp:=sub (fun x=>¬Ow F α σ x) H
noncomputable def rR (S:Addr→Prop)(G H:Hp):Hp:=fun x=>open Classical in if S x then H x else match G x with
 |some (.lst _)=>none
 |o=>o
theorem uk {S:Addr→Prop}{G G' H H':Hp}(h:zi G G')(hS:∀x o,S x→H x=some o→H' x=some o):zi (rR S G H) (rR S G' H'):=fun x o e=>by
 unfold rR at e ⊢
 by_cases z:S x
 ·rw[if_pos z] at e ⊢;exact hS x o z e
 ·rw[if_neg z] at e ⊢
  cases q:G x with
  |none=>rw[q] at e;cases e
  |some u=>
   rw[h _ _ q]
   rw[q] at e
   exact e
theorem oV {S:Addr→Prop}{G H:Hp}{x:Addr}{o:HO}(h:rR S G H x=some o):(S x∧H x=some o)∨(¬S x∧G x=some o):=by
 unfold rR at h
 by_cases z:S x
 ·rw[if_pos z] at h;exact .inl ⟨z,h⟩
 ·rw[if_neg z] at h
  split at h
  ·cases h
  ·exact .inr ⟨z,h⟩
inductive yc (G:Hp):HO→PyData→Prop where
 |lst {xs:List V} {ds:List PyData}:AVs G xs ds→yc G (.lst xs) (.list ds)
 |dk {kvs:List (Key×V)} {ds:List (PyData×PyData)}:AVk G kvs ds→yc G (.dK kvs) (kT ds)
theorem yc.ob {G:Hp}{o:HO}{c:PyData}(h:yc G o c):Ob o:=by cases h<;>trivial
theorem yc.same {G G':Hp}{o:HO}{c:PyData}(h:yc G o c)(s:zi G G'):yc G' o c:=by
 cases h with
 |lst h=>exact .lst (h.same s)
 |dk h=>exact .dk (h.same s)
theorem yc.av {G:Hp}{o:HO}{ds:List PyData}{l:Addr}(h:yc G o (.list ds))(e:G l=some o):AV G (.ref l) (.list ds):=by
 cases h with
 |lst h=>exact .lst e h
theorem yc.lst_inv {G:Hp}{o:HO}{ds:List PyData}(h:yc G o (.list ds)):∃xs,o=.lst xs∧AVs G xs ds:=by cases h;exact⟨_,rfl,by assumption⟩
theorem yc.plain {G H:Hp}{o:HO}{c:PyData}{l:Addr}(h:yc G o c)(e:H l=some o):Plain H l:=by
 cases h with
 |lst h=>exact uA e
 |dk h=>exact nI e
structure Lnk (r F:Fr)(H:Hp):Prop where
 tp:r.tp=F.tp
 o:∀x,r.O0 x→F.O0 x
 ok:zv r H
 k:Kz r r.H0 H
def yz (G H:Hp):List Addr→List (List PyData)→Prop
 |[],[]=>True
 |a::ls,ds::dss=>(∃xs,H a=some (.lst xs)∧AVs G xs ds)∧yz G H ls dss
 |_,_=>False
theorem yz.same {G G' H H':Hp}(g:zi G G'):∀{ls:List Addr} {dss:List (List PyData)},(∀a∈ls,∀o,H a=some o→H' a=some o)→yz G H ls dss→yz G' H' ls dss
 |[],[],_,_=>trivial
 |a::ls,ds::dss,h,⟨⟨xs,e,av⟩,r⟩=>⟨⟨xs,h a eH _ e,av.same g⟩,yz.same g (fun b hb=>h b (eK _ hb)) r⟩
 |[],_::_,_,z=>z.elim
 |_::_,[],_,z=>z.elim
theorem yz.obj {G H:Hp}:∀{ls:List Addr} {dss:List (List PyData)},yz G H ls dss→∀a∈ls,∃xs,H a=some (.lst xs)
 |[],_,_,_,h=>by cases h
 |b::ls,ds::dss,⟨⟨xs,e,_⟩,r⟩,a,h=>by
  rcases eJ.mp h with z|z
  ·exact⟨xs,z▸e⟩
  ·exact yz.obj r a z
 |_::_,[],z,_,_=>z.elim
theorem yz.avs {G H:Hp}{p:Addr→Prop}(g:zi G (sub p H)):∀{ls:List Addr} {dss:List (List PyData)},(∀a∈ls,p a)→yz G H ls dss→AVs (sub p H) (ls.map .ref) (dss.map .list)
 |[],[],_,_=>.nil
 |a::ls,ds::dss,h,⟨⟨xs,e,av⟩,r⟩=>.cons (.lst (zB (h a eH) e) (av.same g)) (yz.avs g (fun b hb=>h b (eK _ hb)) r)
 |[],_::_,_,z=>z.elim
 |_::_,[],_,z=>z.elim
def xw (G:Hp)(F:Fr)(H:Hp)(s:Option V):A→Prop
 |.dat d=>∃v,s=some v∧AV G v d
 |.ow c=>∃l o,s=some (.ref l)∧H l=some o∧yc G o c∧¬F.O0 l∧F.H0 l=none
 |.deep d S=>∃v,s=some v∧AV (rR S G H) v d∧∀x,S x→¬F.O0 x∧F.H0 x=none∧∃xs,H x=some (.lst xs)
 |.tape=>∃t b c,F.tp=some (t,b,c)∧s=some (.ref t)
 |.at l=>s=some (.ref l)
 |.exc r _=>Lnk r F H
 |.pin l vs ds=>s=some (.ref l)∧G l=some (.lst vs)∧AVs G vs ds
 |.nst l ls dss=>s=some (.ref l)∧H l=some (.lst (ls.map .ref))∧yz G H ls dss∧(l::ls).Nodup∧∀x∈l::ls,¬F.O0 x∧F.H0 x=none
structure M (F:Fr)(α:Ev)(σ:St)(H:Hp):Prop where
 len:α.length=σ.length
 ok:∀(i:Nat) (a:A) (s:Option V),α[i]?=some (some a)→σ[i]?=some s→xw (Gz F α σ H) F H s a
 dj:∀(i j:Nat) (a b:A) (s t:Option V) (x:Addr),α[i]?=some (some a)→α[j]?=some (some b)→σ[i]?=some s→σ[j]?=some t→foot s a x→foot t b x→i=j
 xd:∀(i:Nat) (r:Fr) (q:PyData→Prop),α[i]?=some (some (.exc r q))→∀(j:Nat) (a:A) (s:Option V) (x:Addr),α[j]?=some (some a)→σ[j]?=some s→foot s a x→r.H0 x=none
 tp:zv F H
 keep:Kz F F.H0 H
 oex:∀x,F.O0 x→∃o,H x=some o∧xo o
theorem M.at' {F:Fr}{α:Ev}{σ:St}{H:Hp}(m:M F α σ H){i:Nat}{a:Option A}(e:α[i]?=some a):∃s,σ[i]?=some s:=by
 have:i<σ.length:=by rw[←m.len];exact (eS.mp e).1
 exact⟨_,eL this⟩
theorem uS {G:Hp}{F:Fr}{H:Hp}{s:Option V}{a:A}{x:Addr}(h:xw G F H s a)(f:foot s a x):¬F.O0 x∧F.H0 x=none∧∃o,H x=some o∧Ob o:=by
 cases a with
 |ow c=>
  obtain⟨l,o,h1,h2,h3,h4,h5⟩:=h
  have f':s=some (.ref x):=f
  rw[f'] at h1;cases h1
  exact⟨h4,h5,o,h2,h3.ob⟩
 |deep d S=>
  obtain⟨v,h1,h2,h3⟩:=h
  obtain⟨z1,z2,xs,z3⟩:=h3 x f
  exact⟨z1,z2,_,z3,trivial⟩
 |dat d=>exact f.elim
 |tape=>exact f.elim
 |«at» l=>exact f.elim
 |exc r q=>exact f.elim
 |pin l vs ds=>exact f.elim
 |nst l ls dss=>
  obtain⟨h1,h2,h3,h4,h5⟩:=h
  have f':x∈l::ls:=f
  refine⟨(h5 x f').1,(h5 x f').2,?_⟩
  rcases eJ.mp f' with z|z
  ·exact⟨.lst (ls.map .ref),z▸h2,trivial⟩
  ·obtain⟨xs,e⟩:=h3.obj x z
   exact⟨.lst xs,e,trivial⟩
theorem Lnk.kz {r F:Fr}{H H':Hp}(l:Lnk r F H)(k:Kz F H H')(t:zv F H'):Lnk r F H':=⟨l.tp,l.o,l.ok.re t l.tp.symm,fun x o e n=>k x o (l.k x o e n) ⟨fun a b c z=>n.1 a b c (l.tp.trans z),n.2⟩⟩
theorem Lnk.none {r F:Fr}{H:Hp}(l:Lnk r F H){x:Addr}(h:H x=Option.none):r.H0 x=Option.none:=by
 cases q:r.H0 x with
 |none=>rfl
 |some o=>rw[l.k x o q ⟨fun a b c e=>⟨((l.ok a b c e).1.free h).1,((l.ok a b c e).1.free h).2.1⟩,xJ l.ok.tab h⟩] at h;cases h
def noX :A→Prop
 |.exc _ _=>False
 |_=>True
theorem xw.stay {G G':Hp}{F F':Fr}{H H':Hp}{s:Option V}{a:A}(h:xw G F H s a)(g:zi G G')(hf:∀x o,foot s a x→H x=some o→H' x=some o∧¬F'.O0 x∧F'.H0 x=none)(hp:F'.tp=F.tp)(hl:∀r q,a=.exc r q→Lnk r F H→Lnk r F' H'):xw G' F' H' s a:=by
 cases a with
 |dat d=>obtain⟨v,h1,h2⟩:=h;exact⟨v,h1,h2.same g⟩
 |ow c=>
  obtain⟨l,o,h1,h2,h3,h4,h5⟩:=h
  obtain⟨z1,z2,z3⟩:=hf l o h1 h2
  exact⟨l,o,h1,z1,h3.same g,z2,z3⟩
 |deep d S=>
  obtain⟨v,h1,h2,h3⟩:=h
  refine⟨v,h1,h2.same (uk g fun x o z e=>(hf x o z e).1),fun x z=>?_⟩
  obtain⟨_,_,xs,e⟩:=h3 x z
  obtain⟨z1,z2,z3⟩:=hf x _ z e
  exact⟨z2,z3,xs,z1⟩
 |tape=>obtain⟨t,b,c,e,z⟩:=h;exact⟨t,b,c,hp.trans e,z⟩
 |«at» l=>exact h
 |exc r q=>exact hl r q rfl h
 |pin l vs ds=>exact⟨h.1,g _ _ h.2.1,h.2.2.same g⟩
 |nst l ls dss=>
  obtain⟨h1,h2,h3,h4,h5⟩:=h
  refine⟨h1,(hf l _ eH h2).1,h3.same g fun a ha o e=>(hf a o (eK _ ha) e).1,h4,fun x hx=>?_⟩
  rcases eJ.mp hx with z|z
  ·exact (hf x _ hx (z▸h2)).2
  ·obtain⟨xs,e⟩:=h3.obj x z
   exact (hf x _ hx e).2
section
variable {F:Fr}{α:Ev}{σ:St}{H H' H'':Hp}
theorem M.dat (m:M F α σ H)(i:Nat)(d:PyData)(e:α[i]?=some (some (.dat d))):∃v,σ[i]?=some (some v)∧AV (Gz F α σ H) v d:=by
 obtain⟨s,hs⟩:=m.at' e
 obtain⟨v,rfl,h⟩:=m.ok i _ s e hs
 exact⟨v,hs,h⟩
theorem M.owc (m:M F α σ H)(i:Nat)(c:PyData)(e:α[i]?=some (some (.ow c))):∃l o,σ[i]?=some (some (.ref l))∧H l=some o∧yc (Gz F α σ H) o c∧¬F.O0 l∧F.H0 l=none:=by
 obtain⟨s,hs⟩:=m.at' e
 obtain⟨l,o,rfl,h⟩:=m.ok i _ s e hs
 exact⟨l,o,hs,h⟩
theorem M.own (m:M F α σ H)(i:Nat)(ds:List PyData)(e:α[i]?=some (some (.own ds))):∃l xs,σ[i]?=some (some (.ref l))∧H l=some (.lst xs)∧AVs (Gz F α σ H) xs ds∧¬F.O0 l∧F.H0 l=none:=by
 obtain⟨l,o,h1,h2,h3,h4⟩:=m.owc i _ e
 obtain⟨xs,rfl,h5⟩:=h3.lst_inv
 exact⟨l,xs,h1,h2,h5,h4⟩
theorem M.tvar (m:M F α σ H)(i:Nat)(e:α[i]?=some (some .tape)):∃t b c,F.tp=some (t,b,c)∧σ[i]?=some (some (.ref t)):=by
 obtain⟨s,hs⟩:=m.at' e
 obtain⟨t,b,c,h,rfl⟩:=m.ok i _ s e hs
 exact⟨t,b,c,h,hs⟩
theorem M.lnk (m:M F α σ H){i:Nat}{r:Fr}{q:PyData→Prop}(e:α[i]?=some (some (.exc r q))):Lnk r F H:=by
 obtain⟨s,hs⟩:=m.at' e
 exact m.ok i _ s e hs
theorem Kz.refl :Kz F H H:=fun _ _ e _=>e
theorem Kz.trans (h:Kz F H H')(k:Kz F H' H''):Kz F H H'':=fun x o e n=>k x o (h x o e n) n
theorem Kz.of_same (h:zi H H'):Kz F H H':=fun x o e _=>h x o e
theorem zv.same (t:zv F H)(h:zi H H'):zv F H':=⟨gj t.tab h,t.ot,fun a b c e=>⟨pH (t a b c e).1 h,(t a b c e).2⟩⟩
theorem zv.nt (t:zv F H){x:Addr}(h:¬F.O0 x):NT F x:=⟨fun a b c e=>⟨fun z=>h (z▸(t a b c e).2.1),fun z=>h (z▸(t a b c e).2.2.1)⟩,fun z=>h (t.ot x z)⟩
theorem ow0 {x:Addr}(h:¬Ow F α σ x):¬F.O0 x:=fun z=>h (.inl z)
theorem Kz.gz (k:Kz F H H')(t:zv F H):zi (Gz F α σ H) (Gz F α σ H'):=zj fun a o h e=>⟨h,k a o e (t.nt (ow0 h))⟩
theorem M.oex' (t:zv F H')(k:Kz F H H')(h:∀x,F.O0 x→∃o,H x=some o∧xo o):∀x,F.O0 x→∃o,H' x=some o∧xo o:=fun x hx=>by
 by_cases n:NT F x
 ·obtain⟨o,ho,hn⟩:=h x hx
  exact⟨o,k _ _ ho n,hn⟩
 ·by_cases z:xG x
  ·obtain⟨o,ho,hn,_⟩:=uU t.tab z
   exact⟨o,ho,hn⟩
  ·have:∃a b c,F.tp=some (a,b,c)∧¬(x≠a∧x≠b):=by
    refine cy fun q=>n ⟨fun a b c e=>?_,z⟩
    exact cy fun w=>q ⟨a,b,c,e,w⟩
   obtain⟨a,b,c,e,w⟩:=this
   obtain⟨n,bs,cs,_,e1,e2,e3,_⟩:=(t a b c e).1.ex
   by_cases xa:x=a
   ·exact⟨_,xa▸e1,yr⟩
   ·by_cases xb:x=b
    ·exact⟨_,xb▸e2,yr⟩
    ·exact absurd ⟨xa,xb⟩ w
theorem M.kz (m:M F α σ H)(k:Kz F H H')(t:zv F H'):M F α σ H' where
 len:=m.len
 ok:=fun i a s e1 e2=>(m.ok i a s e1 e2).stay (k.gz m.tp) (fun x o hf e=>by
  obtain⟨h1,h2,_⟩:=uS (m.ok i a s e1 e2) hf
  exact⟨k x o e (m.tp.nt h1),h1,h2⟩) rfl fun r _ _ l=>l.kz k t
 dj:=m.dj
 xd:=m.xd
 tp:=t
 keep:=m.keep.trans k
 oex:=M.oex' t k m.oex
theorem M.ft (m:M F α σ H){i:Nat}{a:A}{s:Option V}{x:Addr}(e1:α[i]?=some (some a))(e2:σ[i]?=some s)(f:foot s a x):¬F.O0 x∧F.H0 x=none∧∃o,H x=some o∧Ob o:=uS (m.ok i a s e1 e2) f
theorem M.owEx (m:M F α σ H){x:Addr}(h:Ow F α σ x):∃o,H x=some o∧xo o:=by
 rcases h with z|⟨i,a,s,e1,e2,f⟩
 ·exact m.oex x z
 ·obtain⟨_,_,o,ho,hb⟩:=m.ft e1 e2 f
  exact⟨o,ho,hb.notup⟩
theorem M.fresh (m:M F α σ H){l:Addr}(h:H l=none):¬Ow F α σ l:=fun z=>by
 obtain⟨o,ho,_⟩:=m.owEx z
 rw[h] at ho;cases ho
theorem M.fresh0 (m:M F α σ H){l:Addr}(h:H l=none):F.H0 l=none:=by
 cases q:F.H0 l with
 |none=>rfl
 |some o=>rw[m.keep l o q (m.tp.nt fun z=>m.fresh h (.inl z))] at h;cases h
theorem M.old (m:M F α σ H):zi (sub (fun x=>¬F.O0 x) F.H0) (Gz F α σ H):=fun a o e=>by
 obtain⟨h1,h2⟩:=zc e
 refine zB ?_ (m.keep a o h2 (m.tp.nt h1))
 rintro (z|⟨i,b,s,e1,e2,f⟩)
 ·exact h1 z
 ·obtain⟨_,z,_⟩:=m.ft e1 e2 f
  rw[h2] at z;cases z
noncomputable def Fr.up (F:Fr)(G:Hp):Fr:={F with H0:=fun x=>(F.H0 x).or (G x)}
theorem uM {G:Hp}{x:Addr}{o:HO}(h:F.H0 x=some o):(F.up G).H0 x=some o:=by show (F.H0 x).or (G x)=some o;rw[h];rfl
theorem qA {G:Hp}{x:Addr}(h:(F.up G).H0 x=none):F.H0 x=none:=by
 cases q:F.H0 x with
 |none=>rfl
 |some o=>rw[uM q] at h;cases h
theorem M.up (m:M F α σ H):M (F.up (Gz F α σ H)) α σ H where
 len:=m.len
 ok:=fun i a s e1 e2=>(m.ok i a s e1 e2).stay (fun _ _ e=>e) (fun x o hf e=>by
  obtain⟨h1,h2,_⟩:=m.ft e1 e2 hf
  refine⟨e,h1,?_⟩
  show (F.H0 x).or (Gz F α σ H x)=none
  rw[h2]
  show Gz F α σ H x=none
  cases q:Gz F α σ H x with
  |none=>rfl
  |some o=>exact absurd (.inr ⟨i,a,s,e1,e2,hf⟩) (zc q).1) rfl fun r _ _ l=>⟨l.tp,l.o,l.ok,l.k⟩
 dj:=m.dj
 xd:=m.xd
 tp:=m.tp.to rfl fun _ z=>z
 keep:=fun x o e n=>by
  have e':(F.H0 x).or (Gz F α σ H x)=some o:=e
  cases q:F.H0 x with
  |none=>rw[q,Option.none_or] at e';exact (zc e').2
  |some o'=>rw[q] at e';cases e';exact m.keep x _ q n
 oex:=m.oex
theorem M.down {G:Hp}(m:M (F.up G) α σ H):M F α σ H where
 len:=m.len
 ok:=fun i a s e1 e2=>(m.ok i a s e1 e2).stay (fun _ _ e=>e) (fun x o hf e=>by
  obtain⟨h1,h2,_⟩:=m.ft e1 e2 hf
  exact⟨e,h1,qA h2⟩) rfl fun r _ _ l=>⟨l.tp,l.o,l.ok,l.k⟩
 dj:=m.dj
 xd:=m.xd
 tp:=m.tp.to rfl fun _ z=>z
 keep:=fun x o e n=>m.keep x o (uM e) n
 oex:=m.oex
theorem M.upold {α0:Ev}{σ0:St}{H1:Hp}(m0:M F α0 σ0 H1)(m:M (F.up (Gz F α0 σ0 H1)) α σ H):zi (Gz F α0 σ0 H1) (Gz F α σ H):=fun a o e=>by
 obtain⟨h1,h2⟩:=zc e
 have e0:(F.up (Gz F α0 σ0 H1)).H0 a=some o:=by
  show (F.H0 a).or (Gz F α0 σ0 H1 a)=some o
  cases q:F.H0 a with
  |none=>exact e
  |some o'=>
   have:=m0.keep a o' q (m0.tp.nt (ow0 h1))
   rw[h2] at this;cases this;rfl
 exact m.old a o (zB (p:=fun x=>¬F.O0 x) (ow0 h1) e0)
end
def ya (F:Fr)(α:Ev)(σ:St)(H:Hp)(v:V)(H':Hp)(ds:List PyData):Prop:=
 ∃l xs,v=.ref l∧H l=none∧H' l=some (.lst xs)∧AVs (sub (fun x=>¬Ow F α σ x∧x≠l) H') xs ds
def nY (F:Fr)(α:Ev)(σ:St)(H:Hp)(v:V)(H':Hp)(c:PyData):Prop:=
 ∃l o,v=.ref l∧H l=none∧H' l=some o∧yc (sub (fun x=>¬Ow F α σ x∧x≠l) H') o c
theorem ya.c {F:Fr}{α:Ev}{σ:St}{H H':Hp}{v:V}{ds:List PyData}(h:ya F α σ H v H' ds):nY F α σ H v H' (.list ds):=by
 obtain⟨l,xs,h1,h2,h3,h4⟩:=h
 exact⟨l,_,h1,h2,h3,.lst h4⟩
theorem ya.av {F:Fr}{α:Ev}{σ:St}{H H':Hp}{v:V}{ds:List PyData}(m:M F α σ H)(h:ya F α σ H v H' ds):AV (Gz F α σ H') v (.list ds):=by
 obtain⟨l,xs,rfl,h1,h2,h3⟩:=h
 exact .lst (zB (m.fresh h1) h2) (h3.same (zj fun a o h e=>⟨h.1,e⟩))
section
variable (X:Cx)(α:Ev)
def EvD (e:Expr)(Q:PyData→Prop):Prop:=∀(F:Fr) (σ:St) (H:Hp) (R:VK),M F α σ H→(∀d v H',Q d→zv F H'→Kz F H H'→AV (Gz F α σ H') v d→R v H')→wX X e σ H R
def EvL (e:Expr)(Q:List PyData→Prop):Prop:=∀(F:Fr) (σ:St) (H:Hp) (R:VK),M F α σ H→(∀ds v H',Q ds→zv F H'→Kz F H H'→ya F α σ H v H' ds→R v H')→wX X e σ H R
def EvT (e:Expr)(Q:Bool→Prop):Prop:=∀(F:Fr) (σ:St) (H:Hp) (R:Bool→Hp→Prop),M F α σ H→(∀b H',Q b→zv F H'→Kz F H H'→R b H')→fo X e σ H R
def nM (F:Fr)(G:Hp)(v:V):A→Prop
 |.dat d=>AV G v d
 |.tape=>∃t b c,F.tp=some (t,b,c)∧v=.ref t
 |_=>False
inductive zK (F:Fr)(G:Hp):List V→List A→Prop where
 |nil:zK F G [] []
 |cons {v:V} {vs:List V} {a:A} {as:List A}:nM F G v a→zK F G vs as→zK F G (v::vs) (a::as)
def EvA (es:List Expr)(Q:List A→Prop):Prop:=∀(F:Fr) (σ:St) (H:Hp) (R:List V→Hp→Prop),M F α σ H→(∀as vs H',Q as→zv F H'→Kz F H H'→zK F (Gz F α σ H') vs as→R vs H')→gH X es σ H R
end
theorem nM.to {F F':Fr}{G G':Hp}(s:zi G G')(hp:F'.tp=F.tp){v:V}:∀{a:A},nM F G v a→nM F' G' v a
 |.dat _,h=>AV.same s h
 |.tape,⟨t,b,c,e,z⟩=>⟨t,b,c,hp.trans e,z⟩
 |.ow _,h=>h
 |.deep _ _,h=>h
 |.at _,h=>h
 |.exc _ _,h=>h
 |.pin _ _ _,h=>h
 |.nst _ _ _,h=>h
theorem zK.to {F F':Fr}{G G':Hp}(s:zi G G')(hp:F'.tp=F.tp):∀{vs:List V} {as:List A},zK F G vs as→zK F' G' vs as
 |_,_,.nil=>.nil
 |_,_,.cons h r=>.cons (h.to s hp) (zK.to s hp r)
theorem zK.length {F:Fr}{G:Hp}:∀{vs:List V} {as:List A},zK F G vs as→vs.length=as.length
 |_,_,.nil=>rfl
 |_,_,.cons _ r=>by rw[df,df,zK.length r]
def A.d :A→PyData
 |.dat d=>d
 |.ow c=>c
 |.deep d _=>d
 |.nst _ _ dss=>.list (dss.map .list)
 |_=>.none
def lS (F:Fr)(v:V)(H':Hp):A→Prop
 |.dat d=>AV (sub (fun x=>¬F.O0 x) H') v d
 |.ow c=>∃l xs ds,v=.ref l∧c=.list ds∧F.H0 l=none∧¬F.O0 l∧H' l=some (.lst xs)∧AVs (sub (fun x=>¬F.O0 x∧x≠l) H') xs ds
 |.deep d S=>AV (rR S (sub (fun x=>¬F.O0 x) H') H') v d∧∀x,S x→¬F.O0 x∧F.H0 x=none∧∃xs,H' x=some (.lst xs)
 |.nst l ls dss=>v=.ref l∧H' l=some (.lst (ls.map .ref))∧yz (sub (fun x=>¬F.O0 x∧x∉l::ls) H') H' ls dss∧(l::ls).Nodup∧∀x∈l::ls,¬F.O0 x∧F.H0 x=none
 |_=>False
def wt (F:Fr)(v:V)(H':Hp)(a:A):Prop:=zv F H'∧Kz F F.H0 H'∧lS F v H' a
def spA (φ:List A→(A→Prop)→Prop):Sp:=fun vs H Qc _=>∃(F:Fr) (as:List A) (Q:A→Prop),F.H0=H∧zv F H∧(∀x,F.O0 x→∃o,H x=some o∧xo o)∧zK F (sub (fun x=>¬F.O0 x) H) vs as∧φ as Q∧∀a v H',Q a→wt F v H' a→Qc v H'
theorem lS.to {F F':Fr}{v:V}{H':Hp}{a:A}(r:lS F v H' a)(ho:∀x,F'.O0 x→F.O0 x)(h0:∀x,F.H0 x=none→F'.H0 x=none):lS F' v H' a:=by
 have s:zi (sub (fun x=>¬F.O0 x) H') (sub (fun x=>¬F'.O0 x) H'):=zj fun a o h e=>⟨fun z=>h (ho _ z),e⟩
 cases a with
 |dat d=>exact AV.same s r
 |ow c=>
  obtain⟨l,xs,ds,h1,hc,h2,h3,h4,h5⟩:=r
  exact⟨l,xs,ds,h1,hc,h0 _ h2,fun z=>h3 (ho _ z),h4,h5.same (zj fun a o h e=>⟨⟨fun z=>h.1 (ho _ z),h.2⟩,e⟩)⟩
 |deep d S=>
  obtain⟨h1,h2⟩:=r
  refine⟨h1.same (uk s fun _ _ _ e=>e),fun x z=>?_⟩
  obtain⟨z1,z2,z3⟩:=h2 x z
  exact⟨fun w=>z1 (ho _ w),h0 _ z2,z3⟩
 |tape=>exact r
 |«at» _=>exact r
 |exc _ _=>exact r
 |pin _ _ _=>exact r
 |nst l ls dss=>
  obtain⟨h1,h2,h3,h4,h5⟩:=r
  exact⟨h1,h2,h3.same (zj fun a o h e=>⟨⟨fun z=>h.1 (ho _ z),h.2⟩,e⟩) (fun _ _ _ e=>e),h4,fun x hx=>⟨fun z=>(h5 x hx).1 (ho _ z),h0 _ (h5 x hx).2⟩⟩
structure zS where
 nx:Ev→Prop
 rt:A→Prop
 bk:Ev→Prop:=fun _=>False
 ct:Ev→Prop:=fun _=>False
structure vQ (F:Fr)(E:zS)(D:Ends):Prop where
 nx:∀α σ H,M F α σ H→E.nx α→D.nx σ H
 rt:∀a v H,wt F v H a→E.rt a→D.rt v H
 bk:∀α σ H,M F α σ H→E.bk α→D.bk σ H
 ct:∀α σ H,M F α σ H→E.ct α→D.ct σ H
def SvS (X:Cx)(α:Ev)(sts:List Stmt)(E:zS):Prop:=∀(F:Fr) (σ:St) (H:Hp) (D:Ends),M F α σ H→vQ F E D→nV X sts D σ H
theorem vQ.up {F:Fr}{G:Hp}{E:zS}{D:Ends}(e:vQ F E D):vQ (F.up G) E D where
 nx:=fun α σ H m q=>e.nx α σ H m.down q
 bk:=fun α σ H m q=>e.bk α σ H m.down q
 ct:=fun α σ H m q=>e.ct α σ H m.down q
 rt:=fun a v H r q=>e.rt a v H (by
  obtain⟨t,k,r⟩:=r
  exact⟨t.to rfl fun _ z=>z,fun x o e n=>k x o (uM e) n,r.to (fun _ z=>z) fun x z=>qA z⟩) q
section
variable {X:Cx}{α:Ev}{e a b c:Expr}{es:List Expr}{pos p q:Pos}{Q:PyData→Prop}
theorem EvL.d (h:EvL X α e (fun ds=>Q (.list ds))):EvD X α e Q:=fun F σ H R m k=>h F σ H R m fun ds v H' q t z f=>k _ v H' q t z (f.av m)
theorem EvD.imp {Q':PyData→Prop}(h:EvD X α e Q')(k:∀d,Q' d→Q d):EvD X α e Q:=fun F σ H R m r=>h F σ H R m fun d v H' q=>r d v H' (k d q)
theorem EvT.imp {Q Q':Bool→Prop}(h:EvT X α e Q')(k:∀d,Q' d→Q d):EvT X α e Q:=fun F σ H R m r=>h F σ H R m fun d H' q=>r d H' (k d q)
theorem zm (i:Nat){x:Str}{d:PyData}(hi:α[i]?=some (some (.dat d)))(q:Q d)(hN:X.N[i]?=some x:=by rfl)(hv:Vis X.env.scope x:=by first|exact Or.inl rfl|exact Or.inr (Or.inl rfl)|exact Or.inr (Or.inr rfl))
  (hd:(x == ("__debug__":Str))=false:=by decide) (hcd:(x == ("__classdict__":Str))=false:=by decide):EvD X α (.Name x pos) Q:=fun F σ H R m k=>by
 obtain⟨v,h1,h2⟩:=m.dat i d hi
 exact⟨_,yH hN hv hd hcd,v,h1,k d v H q m.tp Kz.refl h2⟩
theorem yI {i:Int}{j:Nat}(q:Q (.int i)):EvD X α (.Constant (.int i) j pos) Q:=fun F σ H R m k=>⟨_,zC,k _ _ H q m.tp Kz.refl (.int i)⟩
theorem sT {f:TE→TE→TE}(hf:PE X e (f (wX X a) (wX X b)))(hr:∀σ H R,f (wX X a) (wX X b) σ H R↔wX X a σ H (fun x H1=>wX X b σ H1 fun y H2=>f (tC x) (tC y) σ H2 R))
  (h:EvD X α a fun x=>EvD X α b fun y=>∀(F:Fr) (σ:St) (H:Hp) (vx vy:V) (R:VK),M F α σ H→AV (Gz F α σ H) vx x→AV (Gz F α σ H) vy y→(∀d v H',Q d→zv F H'→Kz F H H'→AV (Gz F α σ H') v d→R v H')→f (tC vx) (tC vy) σ H R):
  EvD X α e Q:=fun F σ H R m k=>by
 refine⟨_,hf,(hr σ H R).mpr ?_⟩
 refine h F σ H _ m fun x vx H1 q1 t1 k1 r1=>?_
 have m1:=m.kz k1 t1
 refine q1 F σ H1 _ m1 fun y vy H2 q2 t2 k2 r2=>?_
 exact q2 F σ H2 vx vy R (m1.kz k2 t2) (r1.same (k2.gz m1.tp)) r2 fun d v H' qd t3 k3 r3=>k d v H' qd t3 ((k1.trans k2).trans k3) r3
theorem AV.int_inv {H:Hp}{v:V}{i:Int}(h:AV H v (.int i)):v=.int i:=by cases h;rfl
theorem AV.bl_inv {H:Hp}{v:V}{i:Bool}(h:AV H v (.bool i)):v=.bl i:=by cases h;rfl
theorem AV.str_inv {H:Hp}{v:V}{i:Str}(h:AV H v (.str i)):v=.str i:=by cases h;rfl
theorem AV.tup_inv {H:Hp}{v:V}{ds:List PyData}(h:AV H v (.tuple ds)):∃a xs,v=.ref a∧H a=some (.tup xs)∧AVs H xs ds:=by cases h;exact⟨_,_,rfl,by assumption,by assumption⟩
theorem AV.lst_inv {H:Hp}{v:V}{ds:List PyData}(h:AV H v (.list ds)):∃a xs,v=.ref a∧H a=some (.lst xs)∧AVs H xs ds:=by cases h;exact⟨_,_,rfl,by assumption,by assumption⟩
theorem sV {op:Operator}{C:Int→Int→Prop}{g:Int→Int→V}{gd:Int→Int→PyData}(ho:OpR X (binaryOp op) (rI C g))(hg:∀H i j,AV H (g i j) (gd i j))
  (h:EvD X α a fun x=>EvD X α b fun y=>∃i j,x=.int i∧y=.int j∧C i j∧Q (gd i j)):EvD X α (.BinOp a op b pos) Q:=by
 refine sT (f:=tOp (rI C g)) (ye ho zd zd) (fun _ _ _=>Iff.rfl) (h.imp fun x h=>h.imp fun y ⟨i,j,e1,e2,hc,hq⟩=>?_)
 subst e1 e2
 intro F σ H vx vy R m rx ry k
 cases rx.int_inv;cases ry.int_inv
 exact⟨i,j,rfl,rfl,hc,k _ _ H hq m.tp Kz.refl (hg _ i j)⟩
theorem rS {op:Operator}{g:Int→Int→V}{gd:Int→Int→PyData}(ho:OpR X (binaryOp op) (rI0 g))(hg:∀H i j,AV H (g i j) (gd i j))
  (h:EvD X α a fun x=>EvD X α b fun y=>∃i j,x=.int i∧y=.int j∧Q (gd i j)):EvD X α (.BinOp a op b pos) Q:=by
 refine sT (f:=tOp (rI0 g)) (ye ho zd zd) (fun _ _ _=>Iff.rfl) (h.imp fun x h=>h.imp fun y ⟨i,j,e1,e2,hq⟩=>?_)
 subst e1 e2
 intro F σ H vx vy R m rx ry k
 cases rx.int_inv;cases ry.int_inv
 exact⟨i,j,rfl,rfl,k _ _ H hq m.tp Kz.refl (hg _ i j)⟩
theorem rz (h:EvD X α a fun x=>EvD X α b fun y=>∃i j,x=.int i∧y=.int j∧Q (.int (i+j))):EvD X α (.BinOp a .Add b pos) Q:=rS (gd:=fun i j=>.int (i+j)) tB (fun _ _ _=>.int _) h
theorem ni (h:EvD X α a fun x=>EvD X α b fun y=>∃i j,x=.int i∧y=.int j∧Q (.int (i-j))):EvD X α (.BinOp a .Sub b pos) Q:=rS (gd:=fun i j=>.int (i-j)) ip (fun _ _ _=>.int _) h
theorem iF (h:EvD X α a fun x=>EvD X α b fun y=>∃i j,x=.int i∧y=.int j∧iZ i j∧Q (.int (i ^ j.toNat))):EvD X α (.BinOp a .Pow b pos) Q:=sV (gd:=fun i j=>.int (i ^ j.toNat)) hU (fun _ _ _=>.int _) h
theorem mE (h:EvD X α a fun x=>EvD X α b fun y=>∃i j,x=.int i∧y=.int j∧0<j∧Q (.int (i % j))):EvD X α (.BinOp a .Mod b pos) Q:=sV (gd:=fun i j=>.int (i % j)) vB (fun _ _ _=>.int _) h
theorem kD (h:EvD X α a fun x=>EvD X α b fun y=>∃i j,x=.int i∧y=.int j∧jw i j∧Q (.int (i / j))):EvD X α (.BinOp a .FloorDiv b pos) Q:=sV (gd:=fun i j=>.int (i / j)) vh (fun _ _ _=>.int _) h
theorem wb {i j r:Int}{p1 p2:Pos}{n1 n2:Nat}(hc:iZ i j)(hr:i ^ j.toNat=r)(q:Q (.int r)):EvD X α (.BinOp (.Constant (.int i) n1 p1) .Pow (.Constant (.int j) n2 p2) pos) Q:=
 iF (yI (yI ⟨i,j,rfl,rfl,hc,hr▸q⟩))
def Cmp (r:R2)(x y:PyData)(k:Bool):Prop:=∀(p:Addr→Prop) (H:Hp) (vx vy:V) (R:VK),AV (sub p H) vx x→AV (sub p H) vy y→R (.bl k) H→r vx vy H R
theorem rk {op:CmpOp}{r:R2}{Q:Bool→Prop}(ho:OpR X (compareOp op) r)(hm:behindInMarks op b=false)(h:EvD X α a fun x=>EvD X α b fun y=>∃k,Cmp r x y k∧Q k):EvT X α (.Compare a [op] [b] pos) Q:=fun F σ H R m k=>by
 refine⟨_,qY ho zd zd hm,?_⟩
 refine h F σ H _ m fun x vx H1 q1 t1 k1 r1=>?_
 have m1:=m.kz k1 t1
 refine q1 F σ H1 _ m1 fun y vy H2 q2 t2 k2 r2=>?_
 obtain⟨b,hc,q⟩:=q2
 exact hc _ H2 vx vy _ (r1.same (k2.gz m1.tp)) r2 ⟨b,rfl,k b H2 q t2 (k1.trans k2)⟩
theorem lN {g:Int→Int→Bool}{i j:Int}:Cmp (rI0 fun i j=>.bl (g i j)) (.int i) (.int j) (g i j):=fun p H vx vy R rx ry h=>by
 cases rx.int_inv;cases ry.int_inv
 exact⟨i,j,rfl,rfl,h⟩
theorem uJ {op:CmpOp}{g:Int→Int→Bool}{Q:Bool→Prop}(ho:OpR X (compareOp op) (rI0 fun i j=>.bl (g i j)))(hm:behindInMarks op b=false)
  (h:EvD X α a fun x=>EvD X α b fun y=>∃i j,x=.int i∧y=.int j∧Q (g i j)):EvT X α (.Compare a [op] [b] pos) Q:=
 rk ho hm (h.imp fun x h=>h.imp fun y ⟨i,j,e1,e2,q⟩=>⟨_,by subst e1 e2;exact lN,q⟩)
theorem fh {Q:Bool→Prop}(h:EvD X α a fun x=>EvD X α b fun y=>∃i j,x=.int i∧y=.int j∧Q (decide (i≤j))):EvT X α (.Compare a [.LtE] [b] pos) Q:=uJ gD (xx _) h
theorem jq {Q:Bool→Prop}(h:EvD X α a fun x=>EvD X α b fun y=>∃i j,x=.int i∧y=.int j∧Q (decide (j<i))):EvT X α (.Compare a [.Gt] [b] pos) Q:=uJ jy (xx _) h
theorem jo {Q:Bool→Prop}(h:EvD X α a fun x=>EvD X α b fun y=>∃i j,x=.int i∧y=.int j∧Q (decide (j≤i))):EvT X α (.Compare a [.GtE] [b] pos) Q:=uJ fH (xx _) h
def fQ :PyData→Option Bool
 |.none=>some false
 |.bool b=>some b
 |.int i=>some (i != 0)
 |.list ds=>some (!ds.isEmpty)
 |.tuple ds=>some (!ds.isEmpty)
 |_=>none
theorem AVs.isEmpty {H:Hp}{xs:List V}{ds:List PyData}(h:AVs H xs ds):xs.isEmpty=ds.isEmpty:=by cases h<;>rfl
theorem nC {Q:Bool→Prop}(h:EvD X α e fun x=>∃k,fQ x=some k∧Q k)(he:∀whole,isTrue e X.env whole=(do let v ←whole;standAt e.pos;holding [v] (truthy v)):=by intro _;rfl):EvT X α e Q:=fun F σ H R m k=>by
 refine⟨_,nD zd he,?_⟩
 refine h F σ H _ m fun x vx H1 q1 t1 k1 r1=>?_
 obtain⟨b,hb,q⟩:=q1
 refine⟨b,?_,k b H1 q t1 k1⟩
 cases r1 with
 |non=>cases hb;rfl
 |bl z=>cases hb;rfl
 |int i=>cases hb;rfl
 |str s=>cases hb
 |lst h1 h2=>cases hb;exact .inl ⟨_,SqL.of (zc h1).2,by rw[h2.isEmpty]⟩
 |tup h1 h2=>cases hb;exact .inr (.inl ⟨_,SqT.of (zc h1).2,by rw[h2.isEmpty]⟩)
 |ins _ _=>cases hb
 |dk _ _=>cases hb
 |dt _ _=>cases hb
 |xc _ _ _=>cases hb
 |xn _=>cases hb
theorem gh {Q:Bool→Prop}(h:EvT X α a fun k=>Q (!k)):EvT X α (.UnaryOp .Not a pos) Q:=fun F σ H R m k=>by
 refine⟨_,il yD,?_⟩
 exact h F σ H _ m fun b H1 q1 t1 k1=>k _ H1 q1 t1 k1
def EvW (X:Cx)(α:Ev)(e:Expr)(Q:Bool→Prop):Prop:=∀(F:Fr) (σ:St) (H:Hp) (R:Bool→Hp→Prop),M F α σ H→(∀b H',Q b→zv F H'→Kz F H H'→R b H')→∃t,PW X e t∧t σ H R
def fL (X:Cx)(e:Expr):TT:=fun σ H Q=>∃t,PW X e t∧t σ H Q
theorem qF :PW X e (fL X e):=fun w pins s σ H Q I ⟨t,p,q⟩=>p w pins s σ H Q I q
theorem EvW.t {Q:Bool→Prop}(h:EvW X α e Q):EvT X α e Q:=fun F σ H R m k=>by
 obtain⟨t,p,q⟩:=h F σ H R m k
 exact⟨t,p.pt,q⟩
variable {rest:List Expr}
theorem kA {Q:Bool→Prop}(h:EvT X α a Q):EvW X α (.BoolOp .And [a] pos) Q:=fun F σ H R m k=>⟨_,kh yD,h F σ H R m k⟩
theorem gp {Q:Bool→Prop}(h:EvT X α a Q):EvW X α (.BoolOp .Or [a] pos) Q:=fun F σ H R m k=>⟨_,iU yD,h F σ H R m k⟩
theorem nG {Q:Bool→Prop}(h:EvT X α a fun k=>if k=true then EvW X α (.BoolOp .And (b::rest) pos) Q else Q false):EvW X α (.BoolOp .And (a::b::rest) pos) Q:=fun F σ H R m k=>by
 refine⟨_,gn yD qF,?_⟩
 refine h F σ H _ m fun c H1 q1 t1 k1=>?_
 cases c with
 |true=>exact kF ((by simpa using q1:EvW X α _ Q) F σ H1 R (m.kz k1 t1) fun b H2 q2 t2 k2=>k b H2 q2 t2 (k1.trans k2))
 |false=>exact kU (k _ H1 (by simpa using q1) t1 k1)
theorem jn {Q:Bool→Prop}(h:EvT X α a fun k=>if k=true then Q true else EvW X α (.BoolOp .Or (b::rest) pos) Q):EvW X α (.BoolOp .Or (a::b::rest) pos) Q:=fun F σ H R m k=>by
 refine⟨_,gO yD qF,?_⟩
 refine h F σ H _ m fun c H1 q1 t1 k1=>?_
 cases c with
 |false=>exact kU ((by simpa using q1:EvW X α _ Q) F σ H1 R (m.kz k1 t1) fun b H2 q2 t2 k2=>k b H2 q2 t2 (k1.trans k2))
 |true=>exact kF (k _ H1 (by simpa using q1) t1 k1)
def EvO (X:Cx)(α:Ev)(e:Option Expr)(Q:Option Int→Prop):Prop:=∀(F:Fr) (σ:St) (H:Hp) (R:Option Int→Hp→Prop),M F α σ H→(∀i H',Q i→zv F H'→Kz F H H'→R i H')→∃t,PO X e t∧t σ H R
def fV (X:Cx)(e:Option Expr):TO:=fun σ H Q=>∃t,PO X e t∧t σ H Q
theorem qg {e:Option Expr}:PO X e (fV X e):=fun pins s σ H Q I ⟨t,p,q⟩=>p pins s σ H Q I q
theorem rX {Q:Option Int→Prop}(q:Q none):EvO X α none Q:=fun F σ H R m k=>⟨_,qO,k _ H q m.tp Kz.refl⟩
theorem qc {Q:Option Int→Prop}(h:EvD X α a fun x=>∃i,x=.int i∧Q (some i)):EvO X α (some a) Q:=fun F σ H R m k=>by
 refine⟨_,qC zd,?_⟩
 refine h F σ H _ m fun x vx H1 q1 t1 k1 r1=>?_
 obtain⟨i,rfl,q⟩:=q1
 cases r1.int_inv
 exact⟨i,rfl,k _ H1 q t1 k1⟩
theorem M.lay {F:Fr}{σ:St}{H:Hp}{l:Addr}{xs:List V}{ds:List PyData}(m:M F α σ H)(hl:H l=none)(h:AVs (Gz F α σ H) xs ds):zv F (upd H l (.lst xs))∧Kz F H (upd H l (.lst xs))∧ya F α σ H (.ref l) (upd H l (.lst xs)) ds:=by
 refine⟨m.tp.same (zt hl),Kz.of_same (zt hl),l,xs,rfl,hl,zh,h.same (zj fun a o ha e=>?_)⟩
 have:=zf e hl
 exact⟨⟨ha,this⟩,by rw[ze this];exact e⟩
theorem ny {lo hi:Option Expr}{Q:List PyData→Prop}(h:EvD X α a fun x=>EvO X α lo fun l=>EvO X α hi fun u=>∃ds,x=.list ds∧Q (cutD ds l u)):EvL X α (.Subscript a (.Slice lo hi none p) pos) Q:=fun F σ H R m k=>by
 refine⟨_,tP qu zd qg qg,?_⟩
 refine h F σ H _ m fun x vx H1 q1 t1 k1 r1=>?_
 have m1:=m.kz k1 t1
 refine q1 F σ H1 _ m1 fun l H2 q2 t2 k2=>?_
 have m2:=m1.kz k2 t2
 refine q2 F σ H2 _ m2 fun u H3 q3 t3 k3=>?_
 have m3:=m2.kz k3 t3
 obtain⟨ds,rfl,q⟩:=q3
 obtain⟨a,xs,rfl,h1,h2⟩:=(r1.same ((k2.gz m1.tp).trans (k3.gz m2.tp))).lst_inv
 refine⟨a,xs,rfl,SqL.of (zc h1).2,fun p hp=>?_⟩
 obtain⟨g1,g2,g3⟩:=m3.lay hp (h2.cut l u)
 have kk:=(k1.trans k2).trans k3
 obtain⟨l',xs',e1,e2,e3,e4⟩:=g3
 refine k _ _ _ q g1 (kk.trans g2) ⟨l',xs',e1,?_,e3,e4⟩
 cases z:H l' with
 |none=>rfl
 |some o=>rw[kk l' o z (m.tp.nt (ow0 (m3.fresh e2)))] at e2;cases e2
theorem ya.back {F:Fr}{σ:St}{H H1 H':Hp}{v:V}{ds:List PyData}(m:M F α σ H)(k:Kz F H H1)(t1:zv F H1)(h:ya F α σ H1 v H' ds):ya F α σ H v H' ds:=by
 obtain⟨l',xs',e1,e2,e3,e4⟩:=h
 refine⟨l',xs',e1,?_,e3,e4⟩
 cases z:H l' with
 |none=>rfl
 |some o=>rw[k l' o z (m.tp.nt (ow0 ((m.kz k t1).fresh e2)))] at e2;cases e2
theorem yd {Q:List A→Prop}(q:Q []):EvA X α [] Q:=fun F σ H R m k=>⟨_,zD,k _ _ H q m.tp Kz.refl .nil⟩
theorem zI {Q:List A→Prop}(h:EvD X α e fun d=>EvA X α es fun as=>Q (.dat d::as))(hs:starEach (e::es) X.env=(false,eval e X.env)::starEach es X.env:=by rfl):EvA X α (e::es) Q:=fun F σ H R m k=>by
 refine⟨_,zk zd yE hs,?_⟩
 refine h F σ H _ m fun d v H1 q1 t1 k1 r1=>?_
 have m1:=m.kz k1 t1
 exact q1 F σ H1 _ m1 fun as vs H2 q2 t2 k2 r2=>k _ _ H2 q2 t2 (k1.trans k2) (.cons (r1.same (k2.gz m1.tp)) r2)
theorem wD {Q:List A→Prop}(i:Nat){x:Str}(hi:α[i]?=some (some .tape))(h:EvA X α es fun as=>Q (.tape::as))(hN:X.N[i]?=some x:=by rfl)(hv:Vis X.env.scope x:=by first|exact Or.inl rfl|exact Or.inr (Or.inl rfl)|exact Or.inr (Or.inr rfl))
  (hd:(x == ("__debug__":Str))=false:=by decide) (hcd:(x == ("__classdict__":Str))=false:=by decide) (hs:starEach (.Name x pos::es) X.env=(false,eval (.Name x pos) X.env)::starEach es X.env:=by rfl):EvA X α (.Name x pos::es) Q:=fun F σ H R m k=>by
 obtain⟨t,b,c,h1,h2⟩:=m.tvar i hi
 refine⟨_,zk (yH hN hv hd hcd) yE hs,.ref t,h2,?_⟩
 exact h F σ H _ m fun as vs H2 q2 t2 k2 r2=>k _ _ H2 q2 t2 k2 (.cons ⟨t,b,c,h1,rfl⟩ r2)
def datas :List A→Option (List PyData)
 |[]=>some []
 |.dat d::r=>(datas r).map (d::·)
 |_::_=>none
theorem zK.datas {F:Fr}{G:Hp}:∀{vs:List V} {as:List A} {ds:List PyData},zK F G vs as→L2.datas as=some ds→AVs G vs ds
 |_,_,ds,.nil,h=>by cases h;exact .nil
 |_,_,ds,.cons (a:=.dat d) (as:=as) h r,e=>by
  simp only[L2.datas,dB] at e
  obtain⟨es,e1,rfl⟩:=e
  exact .cons h (zK.datas r e1)
 |_,_,ds,.cons (a:=.ow _) h r,e=>by cases h
 |_,_,ds,.cons (a:=.deep _ _) h r,e=>by cases h
 |_,_,ds,.cons (a:=.exc _ _) h r,e=>by cases h
 |_,_,ds,.cons (a:=.pin _ _ _) h r,e=>by cases h
 |_,_,ds,.cons (a:=.nst _ _ _) h r,e=>by cases h
 |_,_,ds,.cons (a:=.tape) h r,e=>by cases e
 |_,_,ds,.cons (a:=.at _) h r,e=>by cases h
theorem gr {n:Nat}(h:EvA X α es fun as=>∃ds,datas as=some ds∧ds.length≤1000∧Q (.tuple ds)):EvD X α (.Tuple es n pos) Q:=fun F σ H R m k=>by
 refine⟨_,jP yE,?_⟩
 refine h F σ H _ m fun as vs H1 q1 t1 k1 r1=>?_
 obtain⟨ds,e,hl,q⟩:=q1
 have r:=r1.datas e
 have m1:=m.kz k1 t1
 refine⟨by rw[r.length];exact cB (zO hl),fun p hp=>?_⟩
 refine k _ _ _ q (t1.same (zt hp)) (k1.trans (Kz.of_same (zt hp))) (.tup (xs:=vs) (zB (m1.fresh hp) zh) (r.same (zj fun a o ha e=>⟨ha,by rw[ze (zf e hp)];exact e⟩)))
theorem xR {Q:List PyData→Prop}(h:EvA X α es fun as=>∃ds,datas as=some ds∧ds.length≤1000∧Q ds):EvL X α (.List es pos) Q:=fun F σ H R m k=>by
 refine⟨_,mH yE,?_⟩
 refine h F σ H _ m fun as vs H1 q1 t1 k1 r1=>?_
 obtain⟨ds,e,hl,q⟩:=q1
 have r:=r1.datas e
 have m1:=m.kz k1 t1
 refine⟨by rw[r.length];exact cB (zO hl),fun p hp=>?_⟩
 obtain⟨g1,g2,g3⟩:=m1.lay hp r
 exact k _ _ _ q g1 (k1.trans g2) (g3.back m k1 t1)
theorem yM {Q:List PyData→Prop}(h:EvD X α a fun x=>EvD X α b fun y=>∃ds es,x=.list ds∧y=.list es∧ds.length+es.length≤1000∧Q (ds++es)):EvL X α (.BinOp a .Add b pos) Q:=fun F σ H R m k=>by
 refine⟨_,ye mw zd zd,?_⟩
 refine h F σ H _ m fun x vx H1 q1 t1 k1 r1=>?_
 have m1:=m.kz k1 t1
 refine q1 F σ H1 _ m1 fun y vy H2 q2 t2 k2 r2=>?_
 have m2:=m1.kz k2 t2
 obtain⟨ds,es,rfl,rfl,hl,q⟩:=q2
 obtain⟨a,xs,rfl,h1,h2⟩:=(r1.same (k2.gz m1.tp)).lst_inv
 obtain⟨b,ys,rfl,h3,h4⟩:=r2.lst_inv
 refine⟨a,b,xs,ys,rfl,rfl,(zc h1).2,(zc h3).2,by rw[h2.length,h4.length];exact cB (zO hl),fun p hp=>?_⟩
 obtain⟨g1,g2,g3⟩:=m2.lay hp (h2.append h4)
 exact k _ _ _ q g1 ((k1.trans k2).trans g2) (g3.back m (k1.trans k2) t2)
theorem sr {id:String}{x:Str}{r:List V→Hp→VK→Prop}(hc:yj X (.builtin id) r)(hg:Gl X x)(hm:X.mg x=none)(hv:bootBuiltins x=some (.builtin id))
  (h:EvA X α (e::es) fun as=>∀(F:Fr) (σ:St) (H:Hp) (vs:List V) (R:VK),M F α σ H→zK F (Gz F α σ H) vs as→(∀d v H',Q d→zv F H'→Kz F H H'→AV (Gz F α σ H') v d→R v H')→r vs H R)
  (hn:x≠"__name__":=by decide) (hdb:(x == ("__debug__":Str))=false:=by decide) (he:starEach (e::es) X.env=(false,eval e X.env)::starEach es X.env:=by rfl) (hpl:(backTo pos (starEach es X.env)).any (·.1)=false:=by rfl):
  EvD X α (.Call (.Name x p) (e::es) [] pos) Q:=fun F σ H R m k=>by
 refine⟨_,yO hc hg hm hv yE hn hdb he hpl,?_⟩
 refine h F σ H _ m fun as vs H1 q1 t1 k1 r1=>?_
 exact q1 F σ H1 vs R (m.kz k1 t1) r1 fun d v H' qd t2 k2 r2=>k d v H' qd t2 (k1.trans k2) r2
end
section
variable {X:Cx}{α:Ev}{e a b c:Expr}{es:List Expr}{pos p q:Pos}{Q:PyData→Prop}
theorem zK.one {F:Fr}{G:Hp}{vs:List V}{d:PyData}(h:zK F G vs [.dat d]):∃v,vs=[v]∧AV G v d:=by
 cases h with|cons h r=>cases r;exact⟨_,rfl,h⟩
theorem zK.two {F:Fr}{G:Hp}{vs:List V}{d e:PyData}(h:zK F G vs [.dat d,.dat e]):∃v u,vs=[v,u]∧AV G v d∧AV G u e:=by
 cases h with|cons h r=>obtain⟨u,rfl,h2⟩:=r.one;exact⟨_,u,rfl,h,h2⟩
def fM :PyData→Option Int
 |.list ds=>some ds.length
 |.tuple ds=>some ds.length
 |_=>none
theorem uG (hg:Gl X "len")(hm:X.mg "len"=none)(h:EvD X α e fun x=>∃n,fM x=some n∧Q (.int n))(he:starEach [e] X.env=(false,eval e X.env)::starEach [] X.env:=by rfl):
  EvD X α (.Call (.Name "len" p) [e] [] pos) Q:=by
 refine sr uO hg hm PySem.boot_len (zI (h.imp fun x ⟨n,e1,q⟩=>yd ?_) he) (he:=he)
 intro F σ H vs R m rv k
 obtain⟨v,rfl,av⟩:=rv.one
 cases av with
 |lst h1 h2=>cases e1;rw[←h2.length] at q;exact⟨_,_,rfl,.inl (SqL.of (zc h1).2),k _ _ H q m.tp Kz.refl (.int _)⟩
 |tup h1 h2=>cases e1;rw[←h2.length] at q;exact⟨_,_,rfl,.inr (SqT.of (zc h1).2),k _ _ H q m.tp Kz.refl (.int _)⟩
 |_=>cases e1
theorem rK (hc:X.calm=true)(hg:Gl X "min")(hm:X.mg "min"=none)(h:EvD X α a fun x=>EvD X α b fun y=>∃i j,x=.int i∧y=.int j∧Q (.int (if j<i then j else i)))
  (he:starEach [a,b] X.env=(false,eval a X.env)::starEach [b] X.env:=by rfl) (he2:starEach [b] X.env=(false,eval b X.env)::starEach [] X.env:=by rfl) (hpl:(backTo pos (starEach [b] X.env)).any (·.1)=false:=by rfl):
  EvD X α (.Call (.Name "min" p) [a,b] [] pos) Q:=by
 refine sr (pG hc) hg hm boot_min (zI (h.imp fun x h=>zI (h.imp fun y ⟨i,j,e1,e2,q⟩=>yd ?_) he2) he) (he:=he) (hpl:=hpl)
 intro F σ H vs R m rv k
 subst e1 e2
 obtain⟨v,u,rfl,av,au⟩:=rv.two
 cases av.int_inv;cases au.int_inv
 exact⟨i,j,rfl,k _ _ H q m.tp Kz.refl (.int _)⟩
theorem wR {T:String}{x:Str}{p1:Pos}(hg:Gl X "isinstance")(hm:X.mg "isinstance"=none)(hgT:Gl X x)(hmT:X.mg x=none)(hT:bootBuiltins x=some (.type T))
  (h:EvD X α a fun x=>∃k,x.hasDict=false∧kQ T x=some k∧Q (.bool k)) (hnx:x≠"__name__":=by decide) (hdx:(x == ("__debug__":Str))=false:=by decide)
  (he:starEach [a,.Name x p1] X.env=(false,eval a X.env)::starEach [.Name x p1] X.env:=by rfl) (he2:starEach [.Name x p1] X.env=(false,eval (.Name x p1) X.env)::starEach [] X.env:=by rfl) (hpl:(backTo pos (starEach [.Name x p1] X.env)).any (·.1)=false:=by rfl):
  EvD X α (.Call (.Name "isinstance" p) [a,.Name x p1] [] pos) Q:=fun F σ H R m k=>by
 refine⟨_,yO oa hg hm boot_isinstance (zk zd (zk (jh hgT hmT hT (show RelV (.ty T) (.type T) from rfl) hnx hdx) zD he2) he) (he:=he) (hpl:=hpl),?_⟩
 refine h F σ H _ m fun x vx H1 q1 t1 k1 r1=>?_
 obtain⟨b,hd,e,q⟩:=q1
 exact⟨vx,T,x,b,rfl,(r1.dv hd).same yT,e,k _ _ H1 q t1 k1 (.bl b)⟩
def xO :PyData→Option (List PyData)
 |.list ds=>some ds
 |.tuple ds=>some ds
 |_=>none
theorem wC {Q:List PyData→Prop}(hg:Gl X "list")(hm:X.mg "list"=none)(h:EvD X α e fun x=>∃ds,xO x=some ds∧Q ds)(he:starEach [e] X.env=(false,eval e X.env)::starEach [] X.env:=by rfl):
  EvL X α (.Call (.Name "list" p) [e] [] pos) Q:=fun F σ H R m k=>by
 refine⟨_,yv tf hg hm boot_list (zk zd zD he) (he:=he),?_⟩
 refine h F σ H _ m fun x vx H1 q1 t1 k1 r1=>?_
 obtain⟨ds,e1,q⟩:=q1
 have m1:=m.kz k1 t1
 have fin:∀{xs:List V},AVs (Gz F α σ H1) xs ds→∀l,H1 l=none→R (.ref l) (upd H1 l (.lst xs)):=fun {xs} h2 l hl=>by
  obtain⟨g1,g2,g3⟩:=m1.lay hl h2
  exact k _ _ _ q g1 (k1.trans g2) (g3.back m k1 t1)
 cases r1 with
 |lst h1 h2=>cases e1;exact⟨_,_,rfl,.inl (SqL.of (zc h1).2),fin h2⟩
 |tup h1 h2=>cases e1;exact⟨_,_,rfl,.inr (SqT.of (zc h1).2),fin h2⟩
 |_=>cases e1
section
variable {k:Nat}{f:Addr}{fd:FuncData}{ps:List Str}{φ:List A→(A→Prop)→Prop}{x:Str}
theorem ve {F:Fr}{σ:St}{H:Hp}{vs:List V}{as:List A}{QA:A→Prop}{R:VK}(m:M F α σ H)(rv:zK F (Gz F α σ H) vs as)(hφ:φ as QA)
  (kk:∀a v H',QA a→wt ⟨H,Ow F α σ,F.tp⟩ v H' a→R v H') {E:XK}:spA φ (vs++[]) H R E:=by
 refine⟨⟨H,Ow F α σ,F.tp⟩,as,QA,rfl,?_,?_,?_,hφ,kk⟩
 ·exact m.tp.to rfl fun _ z=>.inl z
 ·exact fun y z=>m.owEx z
 ·rw[cS]
  exact zK.to (F:=F) (F':=⟨H,Ow F α σ,F.tp⟩) (fun _ _ e=>e) rfl rv
theorem wt.back {F:Fr}{σ:St}{H H':Hp}{v:V}{a:A}(m:M F α σ H)(h:wt ⟨H,Ow F α σ,F.tp⟩ v H' a):zv F H'∧Kz F H H'∧AV (Gz F α σ H') v a.d:=by
 obtain⟨t,kz,r⟩:=h
 refine⟨m.tp.re t rfl,kz,?_⟩
 cases a with
 |dat d=>exact r
 |ow c=>
  obtain⟨l,xs,ds,rfl,rfl,h1,h2,h3,h4⟩:=r
  exact .lst (zB h2 h3) (h4.same (zj fun a o h e=>⟨h.1,e⟩))
 |deep d S=>
  obtain⟨h1,h2⟩:=r
  refine h1.same fun x o e=>?_
  rcases oV e with ⟨z1,z2⟩|⟨_,z2⟩
  ·exact zB (h2 x z1).1 z2
  ·exact z2
 |tape=>exact r.elim
 |«at» _=>exact r.elim
 |exc _ _=>exact r.elim
 |pin _ _ _=>exact r.elim
 |nst l ls dss=>
  obtain⟨rfl,h2,h3,h4,h5⟩:=r
  exact .lst (zB (h5 l eH).1 h2) (h3.avs (zj fun a o h e=>⟨h.1,e⟩) fun a ha=>(h5 a (eK _ ha)).1)
theorem kg (G:yB X.prog X.w X.K X.mg X.base CX0 k f fd ps (spA φ))(hr:zY k X.A)(hg:Gl X x)(hm:X.mg x=some (.ref f))(hk:PySem.W.keepIn X.K (.ref f)=true)(hb:Binds X.K fd ps [])
  (h:EvA X α (e::es) fun as=>φ as fun a=>Q a.d) (hdb:(x == ("__debug__":Str))=false:=by decide) (he:starEach (e::es) X.env=(false,eval e X.env)::starEach es X.env:=by rfl) (hpl:(backTo pos (starEach es X.env)).any (·.1)=false:=by rfl):
  EvD X α (.Call (.Name x p) (e::es) [] pos) Q:=fun F σ H R m kk=>by
 refine⟨_,tu G hr hg hm hk hb .nil lj yE hdb he hpl,?_⟩
 refine h F σ H _ m fun as vs H1 q1 t1 k1 r1=>?_
 have m1:=m.kz k1 t1
 refine ve m1 r1 q1 fun a v H' qa ra=>?_
 obtain⟨g1,g2,g3⟩:=ra.back m1
 exact kk _ v H' qa g1 (k1.trans g2) g3
theorem lY {Q:List PyData→Prop}(G:yB X.prog X.w X.K X.mg X.base CX0 k f fd ps (spA φ))(hr:zY k X.A)(hg:Gl X x)(hm:X.mg x=some (.ref f))(hk:PySem.W.keepIn X.K (.ref f)=true)(hb:Binds X.K fd ps [])
  (h:EvA X α (e::es) fun as=>φ as fun a=>∃ds,a=.own ds∧Q ds) (hdb:(x == ("__debug__":Str))=false:=by decide) (he:starEach (e::es) X.env=(false,eval e X.env)::starEach es X.env:=by rfl) (hpl:(backTo pos (starEach es X.env)).any (·.1)=false:=by rfl):
  EvL X α (.Call (.Name x p) (e::es) [] pos) Q:=fun F σ H R m kk=>by
 refine⟨_,tu G hr hg hm hk hb .nil lj yE hdb he hpl,?_⟩
 refine h F σ H _ m fun as vs H1 q1 t1 k1 r1=>?_
 have m1:=m.kz k1 t1
 refine ve m1 r1 q1 fun a v H' qa ra=>?_
 obtain⟨ds,rfl,q⟩:=qa
 obtain⟨g1,g2,_⟩:=ra.back m1
 obtain⟨_,_,l,xs,ds',rfl,hc,h1,h2,h3,h4⟩:=ra
 cases hc
 exact kk ds _ H' q g1 (k1.trans g2) (ya.back m k1 t1 ⟨l,xs,rfl,h1,h3,h4⟩)
end
theorem rE {i j:Nat}{x:Option A}(h:i≠j):(α.set i x)[j]?=α[j]?:=cb h
theorem zE {i:Nat}{x:Option A}{j:Nat}{y:Option A}(h:(α.set i x)[j]?=some y):(i=j∧x=y)∨(i≠j∧α[j]?=some y):=by
 by_cases hij:i=j
 ·subst hij
  left
  have hl:i<α.length:=by
   have:=(eS.mp h).1
   rwa [dA] at this
  rw[cJ hl] at h
  exact⟨rfl,dz h⟩
 ·right
  rw[cb hij] at h
  exact⟨hij,h⟩
theorem M.put {F:Fr}{σ:St}{H:Hp}{i:Nat}{b:Option A}(m:M F α σ H)(hf:∀s c x,σ[i]?=some s→b=some c→foot s c x→∃a,α[i]?=some (some a)∧foot s a x)
  (hok:∀s c,i<α.length→σ[i]?=some s→b=some c→xw (Gz F (α.set i b) σ H) F H s c) (hx:∀c,b=some c→noX c:=by intro c z;cases z;trivial):zi (Gz F α σ H) (Gz F (α.set i b) σ H)∧M F (α.set i b) σ H:=by
 have gs:zi (Gz F α σ H) (Gz F (α.set i b) σ H):=zj fun a o h e=>⟨fun z=>h (by
  rcases z with z|⟨j,c,s,e1,e2,f⟩
  ·exact .inl z
  ·rcases zE e1 with ⟨rfl,z⟩|⟨hj,e1'⟩
   ·obtain⟨a',h1,h2⟩:=hf s c a e2 z f
    exact .inr ⟨i,a',s,h1,e2,h2⟩
   ·exact .inr ⟨j,c,s,e1',e2,f⟩),e⟩
 have old:∀{j:Nat} {c:A} {s:Option V} {x:Addr},(α.set i b)[j]?=some (some c)→σ[j]?=some s→foot s c x→∃a,α[j]?=some (some a)∧foot s a x:=fun {j c s x} e1 e2 f=>by
  rcases zE e1 with ⟨rfl,z⟩|⟨hj,e1'⟩
  ·exact hf s c x e2 z f
  ·exact⟨c,e1',f⟩
 refine⟨gs,by rw[dA];exact m.len,fun j c s e1 e2=>?_,fun j k c d s t x e1 e2 h1 h2 f1 f2=>?_,fun j r q e j' c s x e1 e2 f=>?_,m.tp,m.keep,m.oex⟩
 ·rcases zE e1 with ⟨rfl,z⟩|⟨hj,e1'⟩
  ·refine hok s c ?_ e2 z
   have:=(eS.mp e1).1
   rwa [dA] at this
  ·exact (m.ok j c s e1' e2).stay gs (fun x o f e=>⟨e,(m.ft e1' e2 f).1,(m.ft e1' e2 f).2.1⟩) rfl fun _ _ _ l=>l
 ·obtain⟨a',g1,g2⟩:=old e1 h1 f1
  obtain⟨b',g3,g4⟩:=old e2 h2 f2
  exact m.dj j k a' b' s t x g1 g3 h1 h2 g2 g4
 ·obtain⟨a',g1,g2⟩:=old e1 e2 f
  rcases zE e with ⟨rfl,z⟩|⟨_,e'⟩
  ·exact (hx _ z).elim
  ·exact m.xd j r q e' j' a' s x g1 e2 g2
theorem M.gave {F:Fr}{σ:St}{H:Hp}{i:Nat}{a:A}{s:Option V}{b:Option A}{x:Addr}(m:M F α σ H)(e1:α[i]?=some (some a))(e2:σ[i]?=some s)(f:foot s a x)(hb:∀c,b=some c→¬foot s c x):¬Ow F (α.set i b) σ x:=by
 rintro (z|⟨j,c,t,h1,h2,g⟩)
 ·exact (m.ft e1 e2 f).1 z
 ·rcases zE h1 with ⟨rfl,z⟩|⟨hj,h1'⟩
  ·rw[e2] at h2;cases h2;exact hb c z g
  ·exact hj (m.dj i j a c s t x e1 h1' e2 h2 f g)
theorem iL {F:Fr}{σ:St}{H:Hp}{i:Nat}{b:A}(hb:∀s x,¬foot s b x):zi (Gz F α σ H) (Gz F (α.set i (some b)) σ H):=zj fun a o h e=>⟨fun z=>h (by
 rcases z with z|⟨j,c,s,e1,e2,f⟩
 ·exact .inl z
 ·rcases zE e1 with ⟨rfl,z⟩|⟨hj,e1'⟩
  ·cases z;exact (hb _ _ f).elim
  ·exact .inr ⟨j,c,s,e1',e2,f⟩),e⟩
theorem M.frz {F:Fr}{σ:St}{H:Hp}{i:Nat}{ds:List PyData}(m:M F α σ H)(hi:α[i]?=some (some (.own ds))):M F (α.set i (some (.dat (.list ds)))) σ H:=
 (m.put (b:=some (.dat (.list ds))) (fun s c' x _ z f=>by cases z;exact f.elim) fun s c' _ e2 z=>by
  cases z
  obtain⟨l,o,h1,h2,h3,h4,h5⟩:=m.owc i _ hi
  rw[h1] at e2;cases e2
  exact⟨.ref l,rfl,(h3.same (iL (b:=.dat (.list ds)) fun _ _ f=>f)).av (zB (m.gave hi h1 rfl fun c z=>by cases z;exact id) h2)⟩).2
theorem mR {F:Fr}{σ:St}{H H':Hp}{i:Nat}{a:A}{b:Option A}(m:M F α σ H)(k:Kz F H H')(hi:α[i]?=some (some a))(x:Addr)(o:HO)(ho:¬Ob o)(h:Gz F (α.set i b) σ H' x=some o):Gz F α σ H' x=some o:=by
 obtain⟨h1,h2⟩:=zc h
 refine zB ?_ h2
 rintro (z|⟨j,c,s,e1,e2,f⟩)
 ·exact h1 (.inl z)
 ·by_cases hj:i=j
  ·subst hj
   obtain⟨g1,g2,o',g3,g4⟩:=m.ft e1 e2 f
   rw[k _ _ g3 (m.tp.nt g1)] at h2;cases h2;exact ho g4
  ·exact h1 (.inr ⟨j,c,s,by rw[rE hj];exact e1,e2,f⟩)
theorem rJ {Q:List PyData→Prop}{i:Nat}{a:A}{b:Option A}(hi:α[i]?=some (some a))(hm:∀F σ H,M F α σ H→M F (α.set i b) σ H)(h:EvL X (α.set i b) e fun d=>uX d=true∧Q d):EvL X α e Q:=fun F σ H R m k=>
 h F σ H R (hm F σ H m) fun d v H' q t kz r=>by
  obtain⟨l,xs,h1,h2,h3,h4⟩:=r
  refine k d v H' q.2 t kz ⟨l,xs,h1,h2,h3,h4.noL (fun a ys hno z=>?_) q.1⟩
  obtain⟨z1,z2⟩:=zc z
  obtain⟨w1,w2⟩:=zc (mR m kz hi a ys hno (zB z1.1 z2))
  exact zB ⟨w1,z1.2⟩ w2
theorem uQ (i:Nat){ds:List PyData}(hi:α[i]?=some (some (.own ds)))(h:EvD X (α.set i (some (.dat (.list ds)))) e fun d=>noL d=true∧Q d):EvD X α e Q:=fun F σ H R m k=>
 h F σ H R (m.frz hi) fun d v H' q t kz r=>k d v H' q.2 t kz (r.noL (mR m kz hi) q.1)
theorem rY {Q:Bool→Prop}(i:Nat){ds:List PyData}(hi:α[i]?=some (some (.own ds)))(h:EvT X (α.set i (some (.dat (.list ds)))) e Q):EvT X α e Q:=fun F σ H R m k=>h F σ H R (m.frz hi) k
theorem qK {Q:List PyData→Prop}(i:Nat){ds:List PyData}(hi:α[i]?=some (some (.own ds)))(h:EvL X (α.set i (some (.dat (.list ds)))) e fun d=>uX d=true∧Q d):EvL X α e Q:=rJ hi (fun _ _ _ m=>m.frz hi) h
def ItW (p:Addr→Prop)(J:It)(ds:List PyData)(G:Hp):Prop:=∀(i:Nat) (H2:Hp) (q:Addr→Prop),zi G (sub q H2)→
 (∀d,ds[i]?=some d→J.go i H2∧∀x H3,J.yld i H2 x H3→zi H2 H3∧((∀a o,H3 a=some o→H2 a=none→q a)→AV (sub q H3) x d))∧(ds.length≤i→J.stop i H2)
def kR (X:Cx)(tg e:Expr):TI:=fun σ H R=>∃t,PI X tg e t∧t σ H R
theorem wJ {tg e:Expr}:PI X tg e (kR X tg e):=fun pins s σ H R I ⟨t,p,q⟩=>p pins s σ H R I q
def EvI (X:Cx)(α:Ev)(tg e:Expr)(Q:List PyData→Prop):Prop:=∀(F:Fr) (σ:St) (H:Hp) (R:It→Hp→Prop),M F α σ H→
 (∀ds J H',Q ds→zv F H'→Kz F H H'→ItW (fun x=>¬Ow F α σ x) J ds (Gz F α σ H')→R J H')→kR X tg e σ H R
theorem xD {tg:Expr}{Q:List PyData→Prop}(h:EvD X α e fun x=>∃ds,x=.list ds∧Q ds):EvI X α tg e Q:=fun F σ H R m k=>by
 refine⟨_,qG zd,?_⟩
 refine h F σ H _ m fun x vx H1 q1 t1 k1 r1=>?_
 obtain⟨ds,rfl,q⟩:=q1
 obtain⟨a,xs,rfl,h1,h2⟩:=r1.lst_inv
 refine⟨a,rfl,⟨xs,SqL.of (zc h1).2⟩,k ds _ H1 q t1 k1 fun i H2 p s=>⟨fun d hd=>?_,fun hl=>?_⟩⟩
 ·obtain⟨x,hx,av⟩:=h2.get hd
  have ha:=SqL.of (K:=X.K) (zc (s _ _ h1)).2
  refine⟨⟨xs,x,ha,hx⟩,fun x' H3 y=>?_⟩
  obtain⟨e,y⟩:=y
  subst e
  have:=y xs ha
  rw[hx] at this;cases this
  exact⟨zi.refl _,fun _=>av.same s⟩
 ·exact⟨xs,SqL.of (zc (s _ _ h1)).2,by rw[h2.length];exact hl⟩
theorem uj {p:Addr→Prop}{lo:Int}{n:Nat}{G:Hp}:ItW p (Itr lo n) ((zx lo n).map .int) G:=fun i H2 q s=>⟨fun d hd=>by
  rw[dy,dB] at hd
  obtain⟨z,h1,rfl⟩:=hd
  have hi:i<n:=by
   have:=(eS.mp h1).1
   rwa [zq] at this
  rw[vm hi] at h1
  cases h1
  refine⟨hi,fun x H3 y=>?_⟩
  obtain⟨rfl,rfl⟩:=y
  exact⟨zi.refl _,fun _=>.int _⟩,fun hl=>by
  rw[eD,zq] at hl
  exact hl⟩
theorem oS {tg:Expr}{Q:List PyData→Prop}(hg:Gl X "range")(hm:X.mg "range"=none)(h:EvD X α a fun x=>∃j,x=.int j∧-(2 ^ 62)≤j∧j<2 ^ 62∧Q ((zx 0 j.toNat).map .int))(hs:starEach [a] X.env=[(false,eval a X.env)]:=by rfl):
  EvI X α tg (.Call (.Name "range" p) [a] [] pos) Q:=fun F σ H R m k=>by
 refine⟨_,oF hg hm (zk zd zD hs) hs,?_⟩
 refine h F σ H _ m fun x vx H1 q1 t1 k1 r1=>?_
 obtain⟨j,rfl,b1,b2,q⟩:=q1
 cases r1.int_inv
 exact⟨j,rfl,b1,b2,k _ _ H1 q t1 k1 uj⟩
theorem oN {tg:Expr}{Q:List PyData→Prop}(hg:Gl X "range")(hm:X.mg "range"=none)(h:EvD X α a fun x=>EvD X α b fun y=>∃i j,x=.int i∧y=.int j∧(-(2 ^ 62)≤i∧i<2 ^ 62∧-(2 ^ 62)≤j∧j<2 ^ 62)∧Q ((zx i (j-i).toNat).map .int))
  (hs:starEach [a,b] X.env=[(false,eval a X.env),(false,eval b X.env)]:=by rfl) (hs2:starEach [b] X.env=[(false,eval b X.env)]:=by rfl) (hs3:starEach [a,b] X.env=(false,eval a X.env)::starEach [b] X.env:=by rfl):
  EvI X α tg (.Call (.Name "range" p) [a,b] [] pos) Q:=fun F σ H R m k=>by
 refine⟨_,oK hg hm (zk zd (zk zd zD hs2) hs3) hs hs2,?_⟩
 refine h F σ H _ m fun x vx H1 q1 t1 k1 r1=>?_
 have m1:=m.kz k1 t1
 refine q1 F σ H1 _ m1 fun y vy H2 q2 t2 k2 r2=>?_
 obtain⟨i,j,rfl,rfl,bb,q⟩:=q2
 cases r1.int_inv;cases r2.int_inv
 exact⟨i,j,rfl,bb,k _ _ H2 q t2 (k1.trans k2) uj⟩
end
inductive Pat where
 |one (i:Nat)
 |many (is:List Nat)
 |nest (i:Nat) (is:List Nat)
 |tsen (is:List Nat) (i:Nat)
def zT :List Nat→List PyData→Ev→Option Ev
 |[],[],α=>some α
 |i::is,d::ds,α=>zT is ds (α.set i (some (.dat d)))
 |_,_,_=>none
def Pat.bind :Pat→PyData→Ev→Option Ev
 |.one i,d,α=>some (α.set i (some (.dat d)))
 |.many is,.tuple ds,α=>zT is ds α
 |.nest i is,.tuple [d,.tuple ds],α=>zT is ds (α.set i (some (.dat d)))
 |.tsen is i,.tuple [.tuple ds,d],α=>(zT is ds α).map fun β=>β.set i (some (.dat d))
 |_,_,_=>none
def gIs :List Nat→TGs
 |[]=>kf
 |i::is=>uw (wg i) (gIs is)
def tF (K:PySem.W.Frag):Pat→TG
 |.one i=>wg i
 |.many is=>rD K is.length (gIs is)
 |.nest i is=>rD K 2 (uw (wg i) (uw (rD K is.length (gIs is)) kf))
 |.tsen is i=>rD K 2 (uw (rD K is.length (gIs is)) (uw (wg i) kf))
def Pat.slots :Pat→List Nat
 |.one i=>[i]
 |.many is=>is
 |.nest i is=>i::is
 |.tsen is i=>is++[i]
def isFree (α:Ev)(i:Nat):Bool:=match α[i]? with
 |some none=>true
 |_=>false
def Pat.free (p:Pat)(α:Ev):Bool:=p.slots.all (isFree α)
section
variable {X:Cx}{α α':Ev}{F:Fr}{σ:St}{H:Hp}
theorem M.store {i:Nat}{v:V}{b:A}{H':Hp}(m:M F α σ H)(t:zv F H')(k:Kz F H H')(hn:∀x,foot (some v) b x→H x=none)(hok:xw (sub (fun x=>¬Ow F α σ x∧¬foot (some v) b x) H') F H' (some v) b)(hx:noX b:=by trivial):M F (α.set i (some b)) (σ.set i (some v)) H':=by
 have m':=m.kz k t
 have hs:∀{j:Nat} {c:A} {s:Option V},(α.set i (some b))[j]?=some (some c)→(σ.set i (some v))[j]?=some s→(i=j∧c=b∧s=some v)∨(i≠j∧α[j]?=some (some c)∧σ[j]?=some s):=fun {j c s} e1 e2=>by
  rcases zE e1 with ⟨rfl,z⟩|⟨hj,e1'⟩
  ·cases z
   have hl:i<σ.length:=by
    have:=(eS.mp e2).1
    rwa [dA] at this
   rw[cJ hl] at e2
   cases e2
   exact .inl ⟨rfl,rfl,rfl⟩
  ·rw[cb hj] at e2
   exact .inr ⟨hj,e1',e2⟩
 have ow:∀{y:Addr},Ow F (α.set i (some b)) (σ.set i (some v)) y→Ow F α σ y∨foot (some v) b y:=fun {y} h=>by
  rcases h with z|⟨j,c,s,e1,e2,f⟩
  ·exact .inl (.inl z)
  ·rcases hs e1 e2 with ⟨_,rfl,rfl⟩|⟨_,g1,g2⟩
   ·exact .inr f
   ·exact .inl (.inr ⟨j,c,s,g1,g2,f⟩)
 have g1:zi (sub (fun x=>¬Ow F α σ x∧¬foot (some v) b x) H') (Gz F (α.set i (some b)) (σ.set i (some v)) H'):=zj fun a o h e=>⟨fun z=>(ow z).elim h.1 h.2,e⟩
 have g0:zi (Gz F α σ H) (sub (fun x=>¬Ow F α σ x∧¬foot (some v) b x) H'):=zj fun a o h e=>⟨⟨h,fun z=>by rw[hn a z] at e;cases e⟩,k a o e (m.tp.nt (ow0 h))⟩
 refine⟨by rw[dA,dA];exact m.len,fun j c s e1 e2=>?_,fun j j' c d s s' x e1 e2 h1 h2 f1 f2=>?_,fun j r q e j' c s x e1 e2 f=>?_,t,m.keep.trans k,m'.oex⟩
 ·rcases hs e1 e2 with ⟨rfl,rfl,rfl⟩|⟨_,z1,z2⟩
  ·exact hok.stay g1 (fun x o f e=>by
    obtain⟨w1,w2,_⟩:=uS hok f
    exact⟨e,w1,w2⟩) rfl fun _ _ _ l=>l
  ·exact (m.ok j c s z1 z2).stay (g0.trans g1) (fun x o f e=>by
    obtain⟨w1,w2,_⟩:=m.ft z1 z2 f
    exact⟨k x o e (m.tp.nt w1),w1,w2⟩) rfl fun _ _ _ l=>l.kz k t
 ·have nn:∀{j:Nat} {c:A} {s:Option V},α[j]?=some (some c)→σ[j]?=some s→foot s c x→¬foot (some v) b x:=fun {j c s} z1 z2 f g=>by
   obtain⟨_,_,o,w,_⟩:=m.ft z1 z2 f
   rw[hn x g] at w;cases w
  rcases hs e1 h1 with ⟨rfl,rfl,rfl⟩|⟨_,z1,z2⟩
  ·rcases hs e2 h2 with ⟨rfl,_⟩|⟨_,w1,w2⟩
   ·rfl
   ·exact absurd f1 (nn w1 w2 f2)
  ·rcases hs e2 h2 with ⟨rfl,rfl,rfl⟩|⟨_,w1,w2⟩
   ·exact absurd f2 (nn z1 z2 f1)
   ·exact m.dj j j' c d s s' x z1 w1 z2 w2 f1 f2
 ·rcases zE e with ⟨rfl,z⟩|⟨_,e'⟩
  ·cases z;exact hx.elim
  ·rcases hs e1 e2 with ⟨rfl,rfl,rfl⟩|⟨_,z1,z2⟩
   ·exact (m.lnk e').none (hn x f)
   ·exact m.xd j r q e' j' c s x z1 z2 f
theorem M.set {i:Nat}{v:V}{d:PyData}(m:M F α σ H)(av:AV (Gz F α σ H) v d):M F (α.set i (some (.dat d))) (σ.set i (some v)) H:=
 m.store m.tp Kz.refl (fun x z=>z.elim) ⟨v,rfl,av.same (zj fun a o h e=>⟨⟨h,fun z=>z⟩,e⟩)⟩
theorem M.setC {i:Nat}{v:V}{c:PyData}{H':Hp}(m:M F α σ H)(t:zv F H')(k:Kz F H H')(fl:nY F α σ H v H' c):M F (α.set i (some (.ow c))) (σ.set i (some v)) H':=by
 obtain⟨l,o,rfl,h1,h2,h3⟩:=fl
 have nl:¬Ow F α σ l:=m.fresh h1
 refine m.store t k (fun x z=>?_) ⟨l,o,rfl,h2,h3.same (zj fun a o h e=>⟨⟨h.1,fun z=>h.2 (by cases z;rfl)⟩,e⟩),ow0 nl,m.fresh0 h1⟩
 have z':some (V.ref l)=some (.ref x):=z
 cases z';exact h1
theorem M.setOwn {i:Nat}{v:V}{ds:List PyData}{H':Hp}(m:M F α σ H)(t:zv F H')(k:Kz F H H')(fl:ya F α σ H v H' ds):M F (α.set i (some (.own ds))) (σ.set i (some v)) H':=m.setC t k fl.c
theorem M.wr {x:Addr}{o:HO}(m:M F α σ H)(hno:xo o)(ho:F.O0 x)(ht:∀t b c,F.tp=some (t,b,c)→x≠t∧x≠b∧x≠c)(h0:F.H0 x=none)(hpl:Plain H x)(hx:∀(i:Nat) r q,α[i]?=some (some (.exc r q))→r.H0 x=none):M F α σ (upd H x o):=by
 have gs:zi (Gz F α σ H) (Gz F α σ (upd H x o)):=zj fun a u h e=>⟨h,by rw[ze (fun z=>h (.inl (by rw[z];exact ho)))];exact e⟩
 refine⟨m.len,fun j c s e1 e2=>?_,m.dj,m.xd,m.tp.upd ht hpl,fun y u e n=>?_,fun y hy=>?_⟩
 ·have:=m.ok j c s e1 e2
  cases c with
  |exc r q=>
   have l:Lnk r F H:=this
   exact⟨l.tp,l.o,l.ok.upd (fun a b c e=>ht a b c (l.tp▸e)) hpl,fun y u e n=>by rw[ze (zf e (hx j r q e1))];exact l.k y u e n⟩
  |_=>exact this.stay gs (fun y u f e=>by
    obtain⟨w1,w2,_⟩:=m.ft e1 e2 f
    exact⟨by rw[ze (fun z=>w1 (by rw[z];exact ho))];exact e,w1,w2⟩) rfl fun _ _ z=>by cases z
 ·rw[ze (zf e h0)];exact m.keep y u e n
 ·by_cases z:y=x
  ·exact⟨o,by rw[z];exact zh,hno⟩
  ·obtain⟨u,hu,hn⟩:=m.oex y hy
   exact⟨u,by rw[ze z];exact hu,hn⟩
theorem M.forget {α0:Ev}(m:M F α σ H)(hl:α0.length=α.length)(le:∀(i:Nat) a,α0[i]?=some (some a)→α[i]?=some (some a)):M F α0 σ H:=by
 have ow:∀{y:Addr},Ow F α0 σ y→Ow F α σ y:=fun {y} h=>by
  rcases h with z|⟨j,c,s,e1,e2,f⟩
  ·exact .inl z
  ·exact .inr ⟨j,c,s,le _ _ e1,e2,f⟩
 have gs:zi (Gz F α σ H) (Gz F α0 σ H):=zj fun a o h e=>⟨fun z=>h (ow z),e⟩
 exact⟨hl.trans m.len,fun j c s e1 e2=>(m.ok j c s (le _ _ e1) e2).stay gs (fun x o f e=>⟨e,(m.ft (le _ _ e1) e2 f).1,(m.ft (le _ _ e1) e2 f).2.1⟩) rfl fun _ _ _ l=>l,fun j j' c d s s' x e1 e2=>m.dj j j' c d s s' x (le _ _ e1) (le _ _ e2),fun j r q e j' c s x e1=>m.xd j r q (le _ _ e) j' c s x (le _ _ e1),m.tp,m.keep,m.oex⟩
theorem xp {H:Hp}:∀{is:List Nat} {ds:List PyData} {α α':Ev} {σ:St} {xs:List V} {R:St→Hp→Prop},zT is ds α=some α'→M F α σ H→(∀G,zi (Gz F α σ H) G→AVs G xs ds)→(∀σ',M F α' σ' H→zi (Gz F α σ H) (Gz F α' σ' H)→R σ' H)→gIs is xs σ H R
 |[],[],α,α',σ,xs,R,e,m,av,k=>by
  cases e
  cases av _ (zi.refl _)
  exact⟨rfl,k σ m (zi.refl _)⟩
 |i::is,d::ds,α,α',σ,xs,R,e,m,av,k=>by
  cases h:av _ (zi.refl _) with
  |@cons x xs _ _ h1 h2=>
   refine⟨x,xs,rfl,?_⟩
   have gs:zi (Gz F α σ H) (Gz F (α.set i (some (.dat d))) (σ.set i (some x)) H):=zj fun a o h e=>⟨fun z=>h (by
    rcases z with z|⟨j,c,s,e1,e2,f⟩
    ·exact .inl z
    ·rcases zE e1 with ⟨_,z⟩|⟨hj,e1'⟩
     ·cases z;exact f.elim
     ·rw[cb hj] at e2
      exact .inr ⟨j,c,s,e1',e2,f⟩),e⟩
   exact xp (is:=is) (ds:=ds) e (m.set (i:=i) h1) (fun G s=>h2.same (gs.trans s)) fun σ' m' g'=>k σ' m' (gs.trans g')
 |[],_::_,_,_,_,_,_,e,_,_,_=>by cases e
 |_::_,[],_,_,_,_,_,e,_,_,_=>by cases e
theorem vX {H:Hp}{is:List Nat}{ds:List PyData}{α α':Ev}{σ:St}{xs:List V}{R:St→Hp→Prop}(e:zT is ds α=some α')(m:M F α σ H)(av:∀G,zi (Gz F α σ H) G→AVs G xs ds)(k:∀σ',M F α' σ' H→R σ' H):gIs is xs σ H R:=xp e m av fun σ' m' _=>k σ' m'
theorem Pat.tsen_inv {i:Nat}{is:List Nat}{d:PyData}(e:(Pat.tsen is i).bind d α=some α'):∃d0 ds β,d=.tuple [.tuple ds,d0]∧zT is ds α=some β∧α'=β.set i (some (.dat d0)):=by
 cases d with
 |tuple xs=>
  cases xs with
  |nil=>cases e
  |cons d1 r=>
   cases r with
   |nil=>cases d1<;>cases e
   |cons d0 r=>
    cases r with
    |nil=>
     cases d1 with
     |tuple ds=>
      obtain⟨β,h1,h2⟩:=dB.mp (show (zT is ds α).map _=some α' from e)
      exact⟨_,_,β,rfl,h1,h2.symm⟩
     |_=>cases e
    |cons _ _=>cases d1<;>cases e
 |_=>cases e
theorem wq {i:Nat}{d:PyData}:∀{is:List Nat} {ds:List PyData} {α β:Ev},zT is ds α=some β→zT (is++[i]) (ds++[d]) α=some (β.set i (some (.dat d)))
 |[],[],_,_,e=>by cases e;rfl
 |_::is,_::ds,_,_,e=>wq (is:=is) (ds:=ds) e
 |[],_::_,_,_,e=>by cases e
 |_::_,[],_,_,e=>by cases e
theorem Pat.nest_inv {i:Nat}{is:List Nat}{d:PyData}(e:(Pat.nest i is).bind d α=some α'):∃d0 ds,d=.tuple [d0,.tuple ds]∧zT is ds (α.set i (some (.dat d0)))=some α':=by
 cases d with
 |tuple xs=>
  cases xs with
  |nil=>cases e
  |cons d0 r=>
   cases r with
   |nil=>cases e
   |cons d1 r=>
    cases r with
    |nil=>
     cases d1 with
     |tuple ds=>exact⟨_,_,rfl,e⟩
     |_=>cases e
    |cons _ _=>cases d1<;>cases e
 |_=>cases e
theorem xN :∀{is:List Nat} {ds:List PyData} {α α':Ev},zT is ds α=some α'→ds.length=is.length:=by
 intro is
 induction is with
 |nil=>intro ds α α' h;cases ds with|nil=>rfl|cons _ _=>cases h
 |cons i is ih=>intro ds α α' h;cases ds with|nil=>cases h|cons d ds=>rw[df,df,ih h]
theorem uH {K:PySem.W.Frag}{pat:Pat}{d:PyData}{v:V}{R:St→Hp→Prop}(e:pat.bind d α=some α')(m:M F α σ H)(av:AV (Gz F α σ H) v d)(k:∀σ',M F α' σ' H→R σ' H):tF K pat v σ H R:=by
 cases pat with
 |one i=>cases e;exact k _ (m.set av)
 |many is=>
  cases d with
  |tuple ds=>
   obtain⟨a,xs,rfl,h1,h2⟩:=av.tup_inv
   exact⟨a,xs,rfl,SqT.of (zc h1).2,by rw[h2.length];exact xN e,vX e m (fun G s=>h2.same s) k⟩
  |_=>cases e
 |nest i is=>
  obtain⟨d0,ds,rfl,e⟩:=Pat.nest_inv e
  obtain⟨a,xs,rfl,h1,h2⟩:=av.tup_inv
  cases h2 with
  |@cons x0 r _ _ z1 z2=>
   cases z2 with
   |@cons x1 r _ _ z3 z4=>
    cases z4
    have m1:=m.set (i:=i) z1
    have gs:zi (Gz F α σ H) (Gz F (α.set i (some (.dat d0))) (σ.set i (some x0)) H):=zj fun a o h e=>⟨fun z=>h (by
     rcases z with z|⟨j,c,s,e1,e2,f⟩
     ·exact .inl z
     ·rcases zE e1 with ⟨_,z⟩|⟨hj,e1'⟩
      ·cases z;exact f.elim
      ·rw[cb hj] at e2
       exact .inr ⟨j,c,s,e1',e2,f⟩),e⟩
    obtain⟨b,ys,rfl,w1,w2⟩:=(z3.same gs).tup_inv
    exact⟨a,_,rfl,SqT.of (zc h1).2,rfl,_,_,rfl,_,_,rfl,⟨b,ys,rfl,SqT.of (zc w1).2,by rw[w2.length];exact xN e,vX e m1 (fun G s=>w2.same s) fun σ' m'=>⟨rfl,k σ' m'⟩⟩⟩
 |tsen is i=>
  obtain⟨d0,ds,β,rfl,e2,rfl⟩:=Pat.tsen_inv e
  obtain⟨a,xs,rfl,h1,h2⟩:=av.tup_inv
  cases h2 with
  |@cons x0 r _ _ z1 z2=>
   cases z2 with
   |@cons x1 r _ _ z3 z4=>
    cases z4
    obtain⟨b,ys,rfl,w1,w2⟩:=z1.tup_inv
    exact⟨a,_,rfl,SqT.of (zc h1).2,rfl,_,_,rfl,b,ys,rfl,SqT.of (zc w1).2,by rw[w2.length];exact xN e2,xp e2 m (fun G s=>w2.same s) fun σ' m' g=>⟨_,_,rfl,rfl,k _ (m'.set (z3.same g))⟩⟩
theorem vg :∀{is:List Nat} {ds:List PyData} {α α':Ev},zT is ds α=some α'→α'.length=α.length
 |[],[],_,_,e=>by cases e;rfl
 |i::is,d::ds,α,α',e=>by
  have:=vg (is:=is) (ds:=ds) e
  rwa [dA] at this
 |[],_::_,_,_,e=>by cases e
 |_::_,[],_,_,e=>by cases e
theorem vD :∀{is:List Nat} {ds:List PyData} {α α':Ev} {j:Nat},zT is ds α=some α'→j∉is→α'[j]?=α[j]?
 |[],[],_,_,_,e,_=>by cases e;rfl
 |i::is,d::ds,α,α',j,e,h=>by
  rw[vD (is:=is) (ds:=ds) e fun z=>h (eK _ z)]
  exact cb fun (z:i=j)=>h (by rw[←z];exact eH)
 |[],_::_,_,_,_,e,_=>by cases e
 |_::_,[],_,_,_,e,_=>by cases e
theorem vt :∀{is:List Nat} {ds:List PyData} {α α':Ev} {j:Nat} {a:A},zT is ds α=some α'→α'[j]?=some (some a)→(∀d,a≠.dat d)→α[j]?=some (some a)
 |[],[],_,_,_,_,e,h,_=>by cases e;exact h
 |i::is,d::ds,α,α',j,a,e,h,hn=>by
  rcases zE (vt (is:=is) (ds:=ds) e h hn) with ⟨_,z⟩|⟨_,z⟩
  ·cases z;exact absurd rfl (hn d)
  ·exact z
 |[],_::_,_,_,_,_,e,_,_=>by cases e
 |_::_,[],_,_,_,_,e,_,_=>by cases e
theorem Pat.is_ok {pat:Pat}{d:PyData}(e:pat.bind d α=some α'):∃is ds,pat.slots=is∧zT is ds α=some α':=by
 cases pat with
 |one i=>cases e;exact⟨_,[d],rfl,rfl⟩
 |many is=>
  cases d with
  |tuple ds=>exact⟨_,ds,rfl,e⟩
  |_=>cases e
 |nest i is=>
  obtain⟨d0,ds,rfl,e⟩:=Pat.nest_inv e
  exact⟨_,d0::ds,rfl,e⟩
 |tsen is i=>
  obtain⟨d0,ds,β,rfl,e2,rfl⟩:=Pat.tsen_inv e
  exact⟨_,ds++[d0],rfl,wq e2⟩
theorem Pat.back {pat:Pat}{d:PyData}(e:pat.bind d α=some α')(fr:pat.free α=true)(m:M F α' σ H):M F α σ H:=by
 obtain⟨is,ds,rfl,e⟩:=Pat.is_ok e
 refine m.forget (vg e).symm fun j a h=>?_
 by_cases hj:j∈pat.slots
 ·have:=ag.mp fr j hj
  unfold isFree at this
  rw[h] at this
  cases this
 ·rw[vD e hj];exact h
end
section
variable {X:Cx}{α:Ev}
def ji (X:Cx)(α:Ev)(ifs:List Expr)(Q:Bool→Prop):Prop:=∀(F:Fr) (σ:St) (H:Hp) (R:Bool→Hp→Prop),M F α σ H→(∀b H',Q b→zv F H'→Kz F H H'→R b H')→∃t,yN X ifs t∧t σ H R
def jE (X:Cx)(ifs:List Expr):TT:=fun σ H R=>∃t,yN X ifs t∧t σ H R
theorem qT {ifs:List Expr}:yN X ifs (jE X ifs):=fun pins s σ H Q I ⟨t,p,q⟩=>p pins s σ H Q I q
theorem jL {Q:Bool→Prop}(q:Q true):ji X α [] Q:=fun F σ H R m k=>⟨_,lM,k _ H q m.tp Kz.refl⟩
theorem jO {c:Expr}{Q:Bool→Prop}(h:EvT X α c Q):ji X α [c] Q:=fun F σ H R m k=>⟨_,kX yD,h F σ H R m k⟩
def seen :Option A→Option A
 |some (.dat d)=>some (.dat d)
 |some .tape=>some .tape
 |_=>none
def zU (imp:List (Option Nat))(α:Ev):Ev:=imp.map fun o=>o.bind fun j=>(α[j]?).bind seen
theorem tR {imp:List (Option Nat)}{i:Nat}{a:A}(h:(zU imp α)[i]?=some (some a)):∃j,imp[i]?=some (some j)∧α[j]?=some (some a)∧((∃d,a=.dat d)∨a=.tape):=by
 unfold zU at h
 rw[dy,dB] at h
 obtain⟨o,h1,h2⟩:=h
 cases o with
 |none=>cases h2
 |some j=>
  have h2':(α[j]?).bind seen=some a:=h2
  cases q:α[j]? with
  |none=>rw[q] at h2';cases h2'
  |some b=>
   rw[q] at h2'
   cases b with
   |none=>cases h2'
   |some b=>
    cases b with
    |dat d=>cases h2';exact⟨j,h1,q,.inl ⟨d,rfl⟩⟩
    |tape=>cases h2';exact⟨j,h1,q,.inr rfl⟩
    |_=>cases h2'
theorem tM {imp:List (Option Nat)}{σ:St}{i j:Nat}{v:V}(h1:imp[i]?=some (some j))(h2:σ[j]?=some (some v)):(yu imp σ)[i]?=some (some v):=by
 unfold yu
 rw[dy,h1]
 show some ((σ[j]?).bind id)=_
 rw[h2];rfl
def yt (Y:Addr→Shared→Hp→List Addr→Cx)(pat:Pat)(ifs:List Expr)(elt:Expr)(α0:Ev):List PyData→List PyData→(List PyData→Prop)→Prop
 |[],acc,Q=>Q acc
 |d::ds,acc,Q=>∃α1,pat.bind d α0=some α1∧∀C s2 H2 fp,ji (Y C s2 H2 fp) α1 ifs fun k=>if k=true then ∀C s2 H2 fp,EvD (Y C s2 H2 fp) α1 elt fun y=>yt Y pat ifs elt α0 ds (acc++[y]) Q else yt Y pat ifs elt α0 ds acc Q
def eC (Y:Addr→Shared→Hp→List Addr→Cx)(e:Expr):TE:=fun σ H Q=>∀C s2 H2 fp,wX (Y C s2 H2 fp) e σ H Q
def tsC (Y:Addr→Shared→Hp→List Addr→Cx)(ifs:List Expr):TT:=fun σ H Q=>∀C s2 H2 fp,jE (Y C s2 H2 fp) ifs σ H Q
theorem qJ {N:List Str}{imp:List (Option Nat)}{scope:Scope}{tg iter elt:Expr}{ifs:List Expr}{pat:Pat}{Q:List PyData→Prop}(hfree:pat.free (zU imp α)=true)
  (h:EvI X α tg iter fun ds=>ds.length≤1000∧yt (fun C s2 H2 fp=>X.comp N scope C s2 H2 fp) pat ifs elt (zU imp α) ds [] Q)
  (F:Fr) (σ:St) (H:Hp) (R:VK) (m:M F α σ H) (k:∀ds v H',Q ds→zv F H'→Kz F H H'→ya F α σ H v H' ds→R v H'):
  ∃Y:Addr→Shared→Hp→List Addr→Cx,Y=(fun C s2 H2 fp=>X.comp N scope C s2 H2 fp)∧nW (kR X tg iter) imp (tF X.K pat) (tsC Y ifs) (eC Y elt) σ H R:=by
 refine⟨_,rfl,?_⟩
 refine h F σ H _ m fun ds J H1 ⟨hl,q1⟩ t1 k1 itw acc hacc=>?_
 have m1:=m.kz k1 t1
 have nacc:¬Ow F α σ acc:=m1.fresh hacc
 let Fc:Fr:=⟨H1,fun x=>Ow F α σ x∨x=acc,F.tp⟩
 let Nd:Ev→Prop:=fun α1=>∀(j:Nat) a,α1[j]?=some (some a)→(∃d,a=.dat d)∨a=.tape
 have no0:Nd (zU imp α):=fun j a z=>by
  obtain⟨_,_,_,n⟩:=tR z
  exact n
 have owc:∀{α1:Ev} {τ:St} {x:Addr},Nd α1→(Ow Fc α1 τ x↔Fc.O0 x):=fun {α1 τ x} hh=>⟨fun z=>z.elim id fun⟨j,a,s,e1,e2,f⟩=>by
  rcases hh j a e1 with ⟨d,rfl⟩|rfl
  ·exact f.elim
  ·exact f.elim,.inl⟩
 have gz:∀{α1 α2:Ev} {τ1 τ2:St} {H:Hp},Nd α1→Nd α2→zi (Gz Fc α1 τ1 H) (Gz Fc α2 τ2 H):=fun h1 h2=>zj fun a o h e=>⟨fun z=>h ((owc h1).mpr ((owc h2).mp z)),e⟩
 have tpc:∀{H2:Hp},zv F H2→zv Fc H2:=fun t=>t.to rfl fun x z=>.inl (.inl z)
 have s01:zi H1 (upd H1 acc (.lst [])):=zt hacc
 have mc0:M Fc (zU imp α) (yu imp σ) (upd H1 acc (.lst [])):=by
  have g1:zi (Gz F α σ H1) (Gz Fc (zU imp α) (yu imp σ) (upd H1 acc (.lst []))):=fun a o e=>by
   obtain⟨z1,z2⟩:=zc e
   have na:a≠acc:=zf z2 hacc
   exact zB (fun z=>((owc no0).mp z).elim z1 na) (by rw[ze na];exact z2)
  refine⟨by unfold zU yu;rw[eD,eD],fun i a s e1 e2=>?_,fun i j a b s t x e1 e2 _ _ f=>?_,fun i r q e=>(by rcases no0 i _ e with ⟨d,w⟩|w<;>cases w),tpc (t1.same s01),fun x o e _=>s01 x o e,?_⟩
  ·obtain⟨j,w1,w2,w3⟩:=tR e1
   rcases w3 with ⟨d,rfl⟩|rfl
   ·obtain⟨v,g2,g3⟩:=m1.dat j d w2
    rw[tM w1 g2] at e2;cases e2
    exact⟨v,rfl,g3.same g1⟩
   ·obtain⟨t,b,c,g2,g3⟩:=m1.tvar j w2
    rw[tM w1 g3] at e2;cases e2
    exact⟨t,b,c,g2,rfl⟩
  ·rcases no0 i a e1 with ⟨d,rfl⟩|rfl
   ·exact f.elim
   ·exact f.elim
  ·rintro x (z|z)
   ·have:∃o,H1 x=some o∧xo o:=m1.owEx z
    obtain⟨o,ho,hn⟩:=this
    exact⟨o,s01 _ _ ho,hn⟩
   ·exact⟨_,by rw[z];exact zh,yr⟩
 refine⟨fun i n ys τ H2=>n=ds.length-i∧i≤ds.length∧∃ad:List PyData,M Fc (zU imp α) τ H2∧H2 acc=some (.lst ys)∧AVs (Gz Fc (zU imp α) τ H2) ys ad∧ad.length≤i∧yt (fun C s2 H2 fp=>X.comp N scope C s2 H2 fp) pat ifs elt (zU imp α) (ds.drop i) ad Q,
  ⟨ds.length,by simp,dM _,[],mc0,zh,.nil,eG _,q1⟩,?_⟩
 rintro i n ys τ H2 ⟨rfl,hi,ad,m2,ha,av,had,cw⟩
 have sG:zi (Gz F α σ H1) (Gz Fc (zU imp α) τ H2):=fun a o e=>by
  obtain⟨z1,z2⟩:=zc e
  exact m2.old a o (zB (p:=fun x=>¬Fc.O0 x) (fun z=>z.elim z1 (zf z2 hacc)) z2)
 obtain⟨w1,w2⟩:=itw i H2 _ sG
 by_cases hlt:i<ds.length
 ·have hd:ds[i]?=some ds[i]:=eL hlt
  have hdr:ds.drop i=ds[i]::ds.drop (i+1):=dE hlt
  rw[hdr] at cw
  obtain⟨α1,eb,body⟩:=cw
  obtain⟨go,yl⟩:=w1 _ hd
  have no1:Nd α1:=fun j a z=>by
   obtain⟨is,ds',_,e⟩:=Pat.is_ok eb
   by_cases hn:∀d,a≠.dat d
   ·exact no0 j a (vt e z hn)
   ·simp only[Classical.not_forall,Classical.not_not] at hn
    exact .inl hn
  refine .inr ⟨go,fun ys' τ' H'=>∃ad:List PyData,M Fc (zU imp α) τ' H'∧H' acc=some (.lst ys')∧AVs (Gz Fc (zU imp α) τ' H') ys' ad∧ad.length≤i+1∧yt (fun C s2 H2 fp=>X.comp N scope C s2 H2 fp) pat ifs elt (zU imp α) (ds.drop (i+1)) ad Q,
   fun ys' τ' H' ⟨ad',r1,r2,r3,r4,r5⟩=>⟨ds.length-(i+1),by omega,rfl,hlt,ad',r1,r2,r3,r4,r5⟩,fun x H3 y=>?_⟩
  obtain⟨s23,avx⟩:=yl x H3 y
  have m3:M Fc (zU imp α) τ H3:=m2.kz (Kz.of_same s23) (m2.tp.same s23)
  have avx':=avx fun a o _ e=>m2.fresh e
  refine uH eb m3 avx' fun τ1 m4 C s2 H2' fp=>?_
  refine body C s2 H2' fp Fc τ1 H3 _ m4 fun b H5 qb t5 k5=>?_
  have m5:=m4.kz k5 t5
  have av5:AVs (Gz Fc (zU imp α) τ1 H5) ys ad:=av.same ((Kz.of_same s23).gz m2.tp |>.trans ((gz (τ2:=τ1) no0 no1).trans ((k5.gz m4.tp).trans (gz no1 no0))))
  have accN:NT Fc acc:=⟨fun t b c e=>by
   have:=(t1 t b c e).1.free hacc
   exact⟨this.1,this.2.1⟩,xJ t1.tab hacc⟩
  have ha5:H5 acc=some (.lst ys):=k5 _ _ (s23 _ _ ha) accN
  cases b with
  |false=>
   have qb':yt (fun C s2 H2 fp=>X.comp N scope C s2 H2 fp) pat ifs elt (zU imp α) (ds.drop (i+1)) ad Q:=by simpa using qb
   exact kU ⟨ad,Pat.back eb hfree m5,ha5,av5,by omega,qb'⟩
  |true=>
   refine kF fun C s2 H2'' fp=>?_
   have qe:EvD (X.comp N scope C s2 H2'' fp) α1 elt fun y=>yt (fun C s2 H2 fp=>X.comp N scope C s2 H2 fp) pat ifs elt (zU imp α) (ds.drop (i+1)) (ad++[y]) Q:=by
    have z:=qb
    rw[if_pos rfl] at z
    exact z C s2 H2'' fp
   refine qe Fc τ1 H5 _ m5 fun y v H6 qy t6 k6 r6=>?_
   have m6:=m5.kz k6 t6
   have ha6:H6 acc=some (.lst ys):=k6 _ _ ha5 accN
   have hlen:ys.length≤i:=by rw[av.length];exact had
   have oacc:Fc.O0 acc:=.inr rfl
   have tacc:∀t b c,Fc.tp=some (t,b,c)→acc≠t∧acc≠b∧acc≠c:=fun t b c e=>(t1 t b c e).1.free hacc
   have m7:=(Pat.back eb hfree m6).wr (o:=.lst (ys++[v])) yr oacc tacc hacc (uA ha6) (fun i r q z=>by rcases no0 i _ z with ⟨d,w⟩|w<;>cases w)
   refine⟨ha6,zO (by omega),ad++[y],m7,zh,?_,by simp;omega,qy⟩
   have g67:zi (Gz Fc (zU imp α) τ1 H6) (Gz Fc (zU imp α) τ1 (upd H6 acc (.lst (ys++[v])))):=zj fun a o h e=>⟨h,by rw[ze (fun z=>h (.inl (by rw[z];exact oacc)))];exact e⟩
   exact ((av5.same ((gz (τ2:=τ1) no0 no1).trans ((k6.gz m5.tp).trans (gz no1 no0)))).append (.cons (r6.same (gz no1 no0)) .nil)).same g67
 ·have e:i=ds.length:=by omega
  subst e
  rw[bo] at cw
  refine .inl ⟨w2 (eG _),k ad _ H2 cw ?_ (k1.trans m2.keep) (ya.back m k1 t1 ⟨acc,ys,rfl,hacc,ha,av.same (zj fun a o h e=>⟨⟨fun z=>h (.inl (.inl z)),fun z=>h (.inl (.inr z))⟩,e⟩)⟩)⟩
  exact m.tp.re m2.tp rfl
theorem gY {N:List Str}{imp:List (Option Nat)}{scope:Scope}{tg iter elt:Expr}{ifs:List Expr}{pat:Pat}{Q:List PyData→Prop}{pos:Pos}(hc:X.calm=true)(S:zF X.N X.env.scope N imp scope)(hfree:pat.free (zU imp α)=true)
  (hg:∀C s2 H2 fp,PG (X.comp N scope C s2 H2 fp) tg (tF X.K pat))
  (h:EvI X α tg iter fun ds=>ds.length≤1000∧yt (fun C s2 H2 fp=>X.comp N scope C s2 H2 fp) pat ifs elt (zU imp α) ds [] Q) (hs:∀x,foldedSetIterable iter X.env x=pure x:=by intro _;rfl):
  EvL X α (.ListComp elt [⟨tg,iter,ifs,0⟩] scope pos) Q:=fun F σ H R m k=>by
 obtain⟨Y,rfl,h⟩:=qJ hfree h F σ H R m k
 exact⟨_,gK hc S wJ hg (fun C s2 H2 fp pins s σ H Q I h=>qT pins s σ H Q I (h C s2 H2 fp)) (fun C s2 H2 fp pins s σ H Q I h=>zd pins s σ H Q I (h C s2 H2 fp)) hs,h⟩
section
variable {E:zS}{rest body:List Stmt}{e c tg iter:Expr}{pos p:Pos}
theorem vQ.then {F:Fr}{D:Ends}(h:vQ F E D):vQ F {E with nx:=fun α'=>SvS X α' rest E} {D with nx:=nV X rest D}:=
 ⟨fun α' σ' H' m q=>q F σ' H' D m h,h.rt,h.bk,h.ct⟩
theorem zN (q:E.nx α):SvS X α [] E:=fun F σ H D m h=>⟨_,rV,h.nx _ _ _ m q⟩
theorem SvS.imp {sts:List Stmt}{E':zS}(h:SvS X α sts E')(hn:∀α,E'.nx α→E.nx α)(hr:∀a,E'.rt a→E.rt a)(hb:∀α,E'.bk α→E.bk α)(hc:∀α,E'.ct α→E.ct α):SvS X α sts E:=fun F σ H D m r=>
 h F σ H D m ⟨fun α σ H m q=>r.nx α σ H m (hn _ q),fun a v H m q=>r.rt a v H m (hr _ q),fun α σ H m q=>r.bk α σ H m (hb _ q),fun α σ H m q=>r.ct α σ H m (hc _ q)⟩
theorem yJ (i:Nat){x:Str}{pos':Pos}(hN:X.N.Nodup)(h:EvD X α e fun d=>SvS X (α.set i (some (.dat d))) rest E)(hi:X.N[i]?=some x:=by rfl)(hx:Loc X.env.scope x:=by first|exact Or.inl rfl|exact Or.inr rfl)
  (hs:swapsWith e (some (.Name x pos')) pos.line X.env=pure false:=by rfl) (hf:X.fn x=true∨X.env.scope.names.lookup x=some .local:=by first|exact .inl rfl|exact .inr rfl|assumption):SvS X α (.Assign [.Name x pos'] e pos::rest) E:=fun F σ H D m r=>by
 refine⟨_,zu (uR hN hi hx zd hs hf) zA,?_⟩
 exact h F σ H _ m fun d v H1 q1 t1 k1 r1=>q1 F _ H1 D ((m.kz k1 t1).set r1) r
theorem yg (i:Nat){x:Str}{pos':Pos}(hN:X.N.Nodup)(h:EvL X α e fun ds=>SvS X (α.set i (some (.own ds))) rest E)(hi:X.N[i]?=some x:=by rfl)(hx:Loc X.env.scope x:=by first|exact Or.inl rfl|exact Or.inr rfl)
  (hs:swapsWith e (some (.Name x pos')) pos.line X.env=pure false:=by rfl) (hf:X.fn x=true∨X.env.scope.names.lookup x=some .local:=by first|exact .inl rfl|exact .inr rfl|assumption):SvS X α (.Assign [.Name x pos'] e pos::rest) E:=fun F σ H D m r=>by
 refine⟨_,zu (uR hN hi hx zd hs hf) zA,?_⟩
 exact h F σ H _ m fun d v H1 q1 t1 k1 r1=>q1 F _ H1 D (m.setOwn t1 k1 r1) r
theorem gZ (i:Nat){x:Str}{pos' cpos:Pos}{N:List Str}{imp:List (Option Nat)}{scope:Scope}{elt:Expr}{ifs:List Expr}{pat:Pat}(hN:X.N.Nodup)(hc:X.calm=true)(S:zF X.N X.env.scope N imp scope)(hfree:pat.free (zU imp α)=true)
  (hg:∀C s2 H2 fp,PG (X.comp N scope C s2 H2 fp) tg (tF X.K pat))
  (h:EvI X α tg iter fun ds=>ds.length≤1000∧yt (fun C s2 H2 fp=>X.comp N scope C s2 H2 fp) pat ifs elt (zU imp α) ds [] fun ds=>SvS X (α.set i (some (.own ds))) rest E)
  (hi:X.N[i]?=some x:=by rfl) (hx:Loc X.env.scope x:=by first|exact Or.inl rfl|exact Or.inr rfl) (hsw:swapsWith (.ListComp elt [⟨tg,iter,ifs,0⟩] scope cpos) (some (.Name x pos')) pos.line X.env=pure true:=by rfl)
  (hf:X.fn x=true∨X.env.scope.names.lookup x=some .local:=by first|exact .inl rfl|exact .inr rfl|assumption) (hs:∀x,foldedSetIterable iter X.env x=pure x:=by intro _;rfl):
  SvS X α (.Assign [.Name x pos'] (.ListComp elt [⟨tg,iter,ifs,0⟩] scope cpos) pos::rest) E:=fun F σ H D m r=>by
 obtain⟨Y,rfl,h⟩:=qJ hfree h F σ H (fun v H'=>nV X rest D (σ.set i (some v)) H') m fun ds v H' q t k fl=>q F _ H' D (m.setOwn t k fl) r
 exact⟨_,zu (mD hc S wJ hg (fun C s2 H2 fp pins s σ H Q I h=>qT pins s σ H Q I (h C s2 H2 fp)) (fun C s2 H2 fp pins s σ H Q I h=>zd pins s σ H Q I (h C s2 H2 fp)) hN hi hx hsw hf hs) zA,h⟩
theorem wt.dat {F:Fr}{σ:St}{H:Hp}{v:V}{d:PyData}(m:M F α σ H)(r:AV (Gz F α σ H) v d):wt F v H (.dat d):=
 ⟨m.tp,m.keep,r.same (zj fun a o h e=>⟨ow0 h,e⟩)⟩
theorem mZ (h:EvD X α e fun d=>E.rt (.dat d)):SvS X α (.Return (some e) pos::rest) E:=fun F σ H D m r=>by
 refine⟨_,zu (wU zd) zA,?_⟩
 exact h F σ H _ m fun d v H1 q1 t1 k1 r1=>r.rt _ _ _ (wt.dat (m.kz k1 t1) r1) q1
theorem qE (h:EvL X α e fun ds=>E.rt (.own ds)):SvS X α (.Return (some e) pos::rest) E:=fun F σ H D m r=>by
 refine⟨_,zu (wU zd) zA,?_⟩
 refine h F σ H _ m fun d v H1 q1 t1 k1 r1=>r.rt _ _ _ ?_ q1
 obtain⟨l,xs,h1,h2,h3,h4⟩:=r1
 exact⟨t1,m.keep.trans k1,l,xs,_,h1,rfl,m.fresh0 h2,ow0 (m.fresh h2),h3,h4.same (zj fun a o h e=>⟨⟨ow0 h.1,h.2⟩,e⟩)⟩
theorem uT (i:Nat){x:Str}{ds:List PyData}(hi:α[i]?=some (some (.own ds)))(q:E.rt (.own ds))(hN:X.N[i]?=some x:=by rfl)(hv:Vis X.env.scope x:=by first|exact Or.inl rfl|exact Or.inr (Or.inl rfl)|exact Or.inr (Or.inr rfl))
  (hd:(x == ("__debug__":Str))=false:=by decide) (hcd:(x == ("__classdict__":Str))=false:=by decide):SvS X α (.Return (some (.Name x p)) pos::rest) E:=fun F σ H D m r=>by
 obtain⟨l,xs,h1,h2,h3,h4,h5⟩:=m.own i ds hi
 refine⟨_,zu (wU (yH hN hv hd hcd)) zA,.ref l,h1,r.rt (.own ds) _ _ ⟨m.tp,m.keep,l,xs,_,rfl,rfl,h5,h4,h2,h3.same (zj fun a o h e=>⟨⟨ow0 h,fun z=>h (by rw[z];exact .inr ⟨i,_,_,hi,h1,rfl⟩)⟩,e⟩)⟩ q⟩
theorem vo {a b:List Stmt}(h:EvT X α c fun k=>SvS X α (if k=true then a else b) {E with nx:=fun α'=>SvS X α' rest E}):SvS X α (.If c a b pos::rest) E:=fun F σ H D m r=>by
 refine⟨_,zu (jC yD zA zA) zA,?_⟩
 refine h F σ H _ m fun k H1 q1 t1 k1=>?_
 cases k with
 |true=>exact kF ((by simpa using q1:SvS X α a _) F σ H1 _ (m.kz k1 t1) r.then)
 |false=>exact kU ((by simpa using q1:SvS X α b _) F σ H1 _ (m.kz k1 t1) r.then)
theorem vF (i:Nat){ds:List PyData}{sts:List Stmt}(hi:α[i]?=some (some (.own ds)))(h:SvS X (α.set i (some (.dat (.list ds)))) sts E):SvS X α sts E:=fun F σ H D m r=>h F σ H D (m.frz hi) r
theorem M.wrC {F:Fr}{σ:St}{H:Hp}{i:Nat}{c c':PyData}{l:Addr}{o':HO}(m:M F α σ H)(hi:α[i]?=some (some (.ow c)))(hl:σ[i]?=some (some (.ref l)))(av:yc (Gz F α σ H) o' c'):
  M F (α.set i (some (.ow c'))) σ (upd H l o'):=by
 obtain⟨l',o,h1,h2,h3,h4,h5⟩:=m.owc i c hi
 rw[hl] at h1;cases h1
 have hs:∀{j:Nat} {a:A} {s:Option V},(α.set i (some (.ow c')))[j]?=some (some a)→σ[j]?=some s→(i=j∧a=.ow c'∧s=some (.ref l))∨(i≠j∧α[j]?=some (some a)):=fun {j a s} e1 e2=>by
  rcases zE e1 with ⟨rfl,z⟩|⟨hj,e1'⟩
  ·cases z;rw[hl] at e2;cases e2;exact .inl ⟨rfl,rfl,rfl⟩
  ·exact .inr ⟨hj,e1'⟩
 have oww:∀{y:Addr},Ow F (α.set i (some (.ow c'))) σ y→Ow F α σ y:=fun {y} h=>by
  rcases h with z|⟨j,a,s,e1,e2,f⟩
  ·exact .inl z
  ·rcases hs e1 e2 with ⟨rfl,rfl,rfl⟩|⟨hj,e1'⟩
   ·exact .inr ⟨i,_,_,hi,hl,f⟩
   ·exact .inr ⟨j,a,s,e1',e2,f⟩
 have ol:Ow F α σ l:=.inr ⟨i,_,_,hi,hl,rfl⟩
 have gs:zi (Gz F α σ H) (Gz F (α.set i (some (.ow c'))) σ (upd H l o')):=zj fun a o h e=>⟨fun z=>h (oww z),by rw[ze (fun z=>h (by rw[z];exact ol))];exact e⟩
 refine⟨by rw[dA];exact m.len,fun j a s e1 e2=>?_,fun j j' a b s t x e1 e2 q1 q2 f1 f2=>?_,fun j r q e j' a s x e1 e2 f=>?_,m.tp.updO h4 (h3.plain h2),fun y o e n=>?_,fun y hy=>?_⟩
 ·rcases hs e1 e2 with ⟨rfl,rfl,rfl⟩|⟨hj,e1'⟩
  ·exact⟨l,o',rfl,zh,av.same gs,h4,h5⟩
  ·refine (m.ok j a s e1' e2).stay gs (fun y u f e=>?_) rfl fun r q ea k=>⟨k.tp,k.o,k.ok.updO (fun z=>h4 (k.o _ z)) (h3.plain h2),fun y u e n=>?_⟩
   ·obtain⟨w1,w2,_⟩:=m.ft e1' e2 f
    refine⟨?_,w1,w2⟩
    rw[ze fun z=>hj (m.dj i j _ a _ s l hi e1' hl e2 rfl (by rw[←z];exact f))]
    exact e
   ·rw[ze (zf e (m.xd j r q (by rw[←ea];exact e1') i _ _ l hi hl rfl))];exact k.k y u e n
 ·rcases hs e1 q1 with ⟨rfl,rfl,rfl⟩|⟨hj,e1'⟩
  ·rcases hs e2 q2 with ⟨rfl,_⟩|⟨hj',e2'⟩
   ·rfl
   ·exact m.dj i j' _ b _ t x hi e2' hl q2 f1 f2
  ·rcases hs e2 q2 with ⟨rfl,rfl,rfl⟩|⟨hj',e2'⟩
   ·exact m.dj j i a _ s _ x e1' hi q1 hl f1 f2
   ·exact m.dj j j' a b s t x e1' e2' q1 q2 f1 f2
 ·rcases zE e with ⟨_,z⟩|⟨_,e'⟩
  ·cases z
  ·rcases hs e1 e2 with ⟨rfl,rfl,rfl⟩|⟨_,e1'⟩
   ·exact m.xd j r q e' i _ _ x hi hl f
   ·exact m.xd j r q e' j' a s x e1' e2 f
 ·rw[ze (zf e h5)];exact m.keep y o e n
 ·rw[ze (fun z=>h4 (by rw[←z];exact hy))];exact m.oex y hy
theorem M.wrOwn {F:Fr}{σ:St}{H:Hp}{i:Nat}{ds es:List PyData}{l:Addr}{ys:List V}(m:M F α σ H)(hi:α[i]?=some (some (.own ds)))(hl:σ[i]?=some (some (.ref l)))(av:AVs (Gz F α σ H) ys es):
  M F (α.set i (some (.own es))) σ (upd H l (.lst ys)):=m.wrC hi hl (.lst av)
theorem uC (i:Nat){x:Str}{ds:List PyData}{p1 p2 p3:Pos}(hi:α[i]?=some (some (.own ds)))(h:EvD X α e fun d=>ds.length<1000∧SvS X (α.set i (some (.own (ds++[d])))) rest E)
  (hN:X.N[i]?=some x:=by rfl) (hv:Vis X.env.scope x:=by first|exact Or.inl rfl|exact Or.inr (Or.inl rfl)|exact Or.inr (Or.inr rfl)) (hd:(x == ("__debug__":Str))=false:=by decide) (hcd:(x == ("__classdict__":Str))=false:=by decide)
  (hbase:attributeBase (.Name x p1) "append" X.env (eval (.Name x p1) X.env)=eval (.Name x p1) X.env:=by rfl) (hs:starEach [e] X.env=(false,eval e X.env)::starEach [] X.env:=by rfl)
  (hpl:((((backTo p3 (starEach [e] X.env)).all fun x=>!x.fst)&&(backToKw p3 (keywordEach [] X.env)).all fun x=>x.fst.isSome)&&decide (([e].length+([]:List Keyword).length+if ([]:List Keyword).isEmpty=true then 0 else 1)<30))=true:=by rfl)
  (hline:(p2.endLine == p3.line)=true:=by rfl) (hsw:swapsWith (.Call (.Attribute (.Name x p1) "append" p2) [e] [] p3) none pos.line X.env=pure false:=by rfl):SvS X α (.Expr (.Call (.Attribute (.Name x p1) "append" p2) [e] [] p3) pos::rest) E:=fun F σ H D m r=>by
 obtain⟨l,xs,h1,h2,h3,h4,h5⟩:=m.own i ds hi
 refine⟨_,zu (tE (qM bS PySem.F.slot_list_append PySem.F.type_list_append ui (yH hN hv hd hcd) (zk zd zD hs) hbase hpl hline hs) hsw) zA,?_⟩
 refine⟨.ref l,h1,.inl ⟨rfl,_,SqL.of h2⟩,?_⟩
 refine h F σ H _ m fun d v H1 q1 t1 k1 r1=>?_
 have m1:=m.kz k1 t1
 refine⟨l,xs,v,rfl,rfl,k1 _ _ h2 (m.tp.nt h4),by rw[h3.length];exact zO (cB q1.1),?_⟩
 exact q1.2 F σ _ D (m1.wrOwn hi h1 ((h3.same (k1.gz m.tp)).append (.cons r1 .nil))) r
theorem pM (i:Nat){x:Str}{ds:List PyData}{p1 p2 p3:Pos}(hi:α[i]?=some (some (.own ds)))(h:EvD X α e fun d=>∃es,d=.list es∧ds.length+es.length≤1000∧SvS X (α.set i (some (.own (ds++es)))) rest E)
  (hN:X.N[i]?=some x:=by rfl) (hv:Vis X.env.scope x:=by first|exact Or.inl rfl|exact Or.inr (Or.inl rfl)|exact Or.inr (Or.inr rfl)) (hd:(x == ("__debug__":Str))=false:=by decide) (hcd:(x == ("__classdict__":Str))=false:=by decide)
  (hbase:attributeBase (.Name x p1) "extend" X.env (eval (.Name x p1) X.env)=eval (.Name x p1) X.env:=by rfl) (hs:starEach [e] X.env=(false,eval e X.env)::starEach [] X.env:=by rfl)
  (hpl:((((backTo p3 (starEach [e] X.env)).all fun x=>!x.fst)&&(backToKw p3 (keywordEach [] X.env)).all fun x=>x.fst.isSome)&&decide (([e].length+([]:List Keyword).length+if ([]:List Keyword).isEmpty=true then 0 else 1)<30))=true:=by rfl)
  (hline:(p2.endLine == p3.line)=true:=by rfl) (hsw:swapsWith (.Call (.Attribute (.Name x p1) "extend" p2) [e] [] p3) none pos.line X.env=pure false:=by rfl):SvS X α (.Expr (.Call (.Attribute (.Name x p1) "extend" p2) [e] [] p3) pos::rest) E:=fun F σ H D m r=>by
 obtain⟨l,xs,h1,h2,h3,h4,h5⟩:=m.own i ds hi
 refine⟨_,zu (tE (qM bS PySem.F.slot_list_extend PySem.F.type_list_extend oq (yH hN hv hd hcd) (zk zd zD hs) hbase hpl hline hs) hsw) zA,?_⟩
 refine⟨.ref l,h1,.inl ⟨rfl,_,SqL.of h2⟩,?_⟩
 refine h F σ H _ m fun d v H1 q1 t1 k1 r1=>?_
 have m1:=m.kz k1 t1
 obtain⟨es,rfl,hl,q⟩:=q1
 obtain⟨b,ys,rfl,g1,g2⟩:=r1.lst_inv
 refine⟨l,b,xs,ys,rfl,rfl,k1 _ _ h2 (m.tp.nt h4),(zc g1).2,by rw[h3.length,g2.length];exact cB (zO hl),?_⟩
 exact q F σ _ D (m1.wrOwn hi h1 ((h3.same (k1.gz m.tp)).append g2)) r
theorem iY (i:Nat){x:Str}{ix:Expr}{ds:List PyData}{p1 p2:Pos}(hi:α[i]?=some (some (.own ds)))(h:EvD X α e fun d=>EvD X α ix fun y=>∃k j,y=.int k∧ixN ds.length k=some j∧SvS X (α.set i (some (.own (ds.set j d)))) rest E)
  (hN:X.N[i]?=some x:=by rfl) (hv:Vis X.env.scope x:=by first|exact Or.inl rfl|exact Or.inr (Or.inl rfl)|exact Or.inr (Or.inr rfl)) (hd:(x == ("__debug__":Str))=false:=by decide) (hcd:(x == ("__classdict__":Str))=false:=by decide)
  (hs:swapsWithSole [.Subscript (.Name x p1) ix p2] e pos.line X.env=pure false:=by rfl) (hw:swappedStores [.Subscript (.Name x p1) ix p2] e X.env=pure none:=by rfl)
  (ha:(assignEach [.Subscript (.Name x p1) ix p2] X.env).map (·.2)=[assign (.Subscript (.Name x p1) ix p2) X.env]:=by rfl) (hps:PG X (.Subscript (.Name x p1) ix p2) (fi (iW i) (wX X ix) jv):=by exact sU (yH rfl (by first|exact Or.inl rfl|exact Or.inr (Or.inl rfl)|exact Or.inr (Or.inr rfl))) zd set_list):
  SvS X α (.Assign [.Subscript (.Name x p1) ix p2] e pos::rest) E:=fun F σ H D m r=>by
 obtain⟨l,xs,h1,h2,h3,h4,h5⟩:=m.own i ds hi
 refine⟨_,zu (rC zd hps hs hw ha) zA,?_⟩
 refine h F σ H _ m fun d v H1 q1 t1 k1 r1=>?_
 have m1:=m.kz k1 t1
 refine⟨.ref l,h1,?_⟩
 refine q1 F σ H1 _ m1 fun y vy H2 q2 t2 k2 r2=>?_
 have m2:=m1.kz k2 t2
 obtain⟨k,j,rfl,hj,q⟩:=q2
 cases r2.int_inv
 refine⟨l,xs,k,j,rfl,rfl,k2 _ _ (k1 _ _ h2 (m.tp.nt h4)) (m.tp.nt h4),by rw[h3.length];exact hj,?_⟩
 exact q F σ _ D (m2.wrOwn hi h1 (((h3.same (k1.gz m.tp)).same (k2.gz m1.tp)).set (r1.same (k2.gz m1.tp)) j)) r
def yK (X:Cx)(pat:Pat)(body rest:List Stmt)(E:zS):List PyData→Ev→Prop
 |[],α=>SvS X α rest E
 |d::ds,α=>∃α1,pat.bind d α=some α1∧SvS X α1 body {nx:=yK X pat body rest E ds,ct:=yK X pat body rest E ds,bk:=fun α'=>SvS X α' rest E,rt:=E.rt}
theorem jQ {pat:Pat}(hp:PassesOwn (model X.prog X.w) X.A X.env X.xe)(hc:X.calm=true)(hg:PG X tg (tF X.K pat))(h:EvI X α tg iter fun ds=>yK X pat body rest E ds α)
  (hs:∀x,foldedSetIterable iter X.env x=pure x:=by intro _;rfl):SvS X α (.For tg iter body [] pos::rest) E:=fun F σ H D m r=>by
 refine⟨_,zu (nj hp hc wJ hg zA hs) zA,?_⟩
 refine h F σ H _ m fun ds J H1 q1 t1 k1 itw=>?_
 have m1:=m.kz k1 t1
 have mu:=m1.up
 have ru:vQ (F.up (Gz F α σ H1)) E D:=r.up
 refine⟨fun i n σ' H'=>n=ds.length-i∧i≤ds.length∧∃α',M (F.up (Gz F α σ H1)) α' σ' H'∧yK X pat body rest E (ds.drop i) α',⟨ds.length,by simp,dM _,α,mu,q1⟩,?_⟩
 rintro i n σ' H' ⟨rfl,hi,α',m',lw⟩
 obtain⟨w1,w2⟩:=itw i H' _ (m1.upold m')
 by_cases hlt:i<ds.length
 ·have hd:ds[i]?=some ds[i]:=eL hlt
  rw[dE hlt] at lw
  obtain⟨α1,eb,body⟩:=lw
  obtain⟨go,yl⟩:=w1 _ hd
  refine .inr ⟨go,fun σ'' H''=>∃α',M (F.up (Gz F α σ H1)) α' σ'' H''∧yK X pat _ rest E (ds.drop (i+1)) α',fun σ'' H'' ⟨α'',r1,r2⟩=>⟨ds.length-(i+1),by omega,rfl,hlt,α'',r1,r2⟩,fun x H3 y=>?_⟩
  obtain⟨s23,avx⟩:=yl x H3 y
  have m3:=m'.kz (Kz.of_same s23) (m'.tp.same s23)
  refine uH eb m3 (avx fun a o _ e=>m'.fresh e) fun σ1 m4=>?_
  exact body _ σ1 H3 _ m4 ⟨fun α2 σ2 H2 m2 q=>⟨α2,m2,q⟩,ru.rt,fun α2 σ2 H2 m2 q=>q _ σ2 H2 D m2 ru,fun α2 σ2 H2 m2 q=>⟨α2,m2,q⟩⟩
 ·have e:i=ds.length:=by omega
  subst e
  rw[bo] at lw
  exact .inl ⟨w2 (eG _),lw _ σ' H' D m' ru⟩
theorem yQ {pat:Pat}{ds:List PyData}(P:Nat→Ev→Prop)(h0:P 0 α)(hs:∀i d α,ds[i]?=some d→P i α→∃α1,pat.bind d α=some α1∧SvS X α1 body {nx:=P (i+1),ct:=P (i+1),bk:=fun α'=>SvS X α' rest E,rt:=E.rt})
  (hd:∀α,P ds.length α→SvS X α rest E):yK X pat body rest E ds α:=by
 have key:∀n i α,n=ds.length-i→i≤ds.length→P i α→yK X pat body rest E (ds.drop i) α:=by
  intro n
  induction n with
  |zero=>
   intro i α hn hi p
   have e:i=ds.length:=by omega
   subst e
   rw[bo]
   exact hd α p
  |succ n ih=>
   intro i α hn hi p
   have hlt:i<ds.length:=by omega
   rw[dE hlt]
   obtain⟨α1,e,b⟩:=hs i ds[i] α (eL hlt) p
   exact⟨α1,e,b.imp (fun α p=>ih (i+1) α (by omega) hlt p) (fun _ z=>z) (fun _ z=>z) (fun α p=>ih (i+1) α (by omega) hlt p)⟩
 exact key _ 0 α rfl (dM _) h0
end
end
section
variable {P:Program}{w:World}{K:PySem.W.Frag}{mg:Str→Option Value}{base:Heap}
theorem M.start {F:Fr}{N:List Str}{vs:List V}{as:List A}{H:Hp}(e:F.H0=H)(t:zv F H)(o:∀x,F.O0 x→∃u,H x=some u∧xo u)(rv:zK F (sub (fun x=>¬F.O0 x) H) vs as):
  M F (as.map some++List.replicate (N.length-as.length) none) (L2.start N vs) H:=by
 have hl:=rv.length
 have g:∀{i:Nat} {a:A},(as.map some++List.replicate (N.length-as.length) none)[i]?=some (some a)→as[i]?=some a:=fun {i a} h=>by
  rcases cD i as.length with z|z
  ·rw[cQ (by rw[eD];exact z),dy,dB] at h
   obtain⟨b,h1,h2⟩:=h
   cases h2;exact h1
  ·rw[bH (by rw[eD];exact z),bf] at h
   split at h<;>cases h
 have at':∀{vs:List V} {as:List A} {i:Nat} {a:A},zK F (sub (fun x=>¬F.O0 x) H) vs as→as[i]?=some a→∃v,vs[i]?=some v∧nM F (sub (fun x=>¬F.O0 x) H) v a:=by
  intro vs as i a h
  induction h generalizing i with
  |nil=>intro e;simp at e
  |cons h r ih=>
   intro e
   cases i with
   |zero=>simp at e;subst e;exact⟨_,rfl,h⟩
   |succ i=>obtain⟨v,h1,h2⟩:=ih (by simpa using e);exact⟨v,by simpa using h1,h2⟩
 have gv:∀{i:Nat} {v:V},vs[i]?=some v→(L2.start N vs)[i]?=some (some v):=fun {i v} h=>by
  have hi:i<vs.length:=(eS.mp h).1
  unfold L2.start
  rw[cQ (by rw[eD];exact hi),dy,h];rfl
 have no:∀(i:Nat) a,(as.map some++List.replicate (N.length-as.length) none)[i]?=some (some a)→(∃d,a=.dat d)∨a=.tape:=fun i a z=>by
  obtain⟨v,_,h⟩:=at' rv (g z)
  cases a with
  |dat d=>exact .inl ⟨d,rfl⟩
  |tape=>exact .inr rfl
  |_=>exact h.elim
 have gs:zi (sub (fun x=>¬F.O0 x) H) (Gz F (as.map some++List.replicate (N.length-as.length) none) (L2.start N vs) H):=zj fun a o h e=>⟨fun z=>z.elim h fun⟨i,b,s,e1,_,f⟩=>by
  rcases no i b e1 with ⟨d,rfl⟩|rfl
  ·exact f.elim
  ·exact f.elim,e⟩
 refine⟨by unfold L2.start;simp[hl],fun i a s e1 e2=>?_,fun i j a b s t x e1 _ _ _ f=>?_,fun i r q z=>(by rcases no i _ z with ⟨d,w⟩|w<;>cases w),t,fun x o' h _=>by rw[←e];exact h,o⟩
 ·obtain⟨v,h1,h2⟩:=at' rv (g e1)
  rw[gv h1] at e2;cases e2
  rcases no i a e1 with ⟨d,rfl⟩|rfl
  ·exact⟨v,rfl,AV.same gs h2⟩
  ·obtain⟨t',b,c,h3,rfl⟩:=h2
   exact⟨t',b,c,h3,rfl⟩
 ·rcases no i a e1 with ⟨d,rfl⟩|rfl
  ·exact f.elim
  ·exact f.elim
theorem fnA {x qual:Str}{st:Stmt}{f:Addr}{fd:FuncData}{N ps:List Str}{k:Nat}{φ:List A→(A→Prop)→Prop}(G:Fun K x qual st f fd)(S:zH N ps (zg st))(hlen:∀as Q,φ as Q→as.length=ps.length)
  (hbody:∀(cdv:Value) (A':Around) (outer:List Env) (s:Shared) (H:Hp) (E:XK) (as:List A) (Q:A→Prop),zY k (A'.deeper (envOfC qual (zg st) s.heap.objs.size f cdv))→φ as Q→
   SvS (uP CX0 P w K mg base N qual (zg st) f cdv A' outer s H E).nox (as.map some++List.replicate (N.length-as.length) none) (zL st) {nx:=fun _=>Q (.dat .none),rt:=Q}):yB P w K mg base CX0 (k+1) f fd ps (spA φ):=by
 refine G.ok S (fun vs H Q E h=>?_) (fun cdv A' outer s H vs Qc E hr h=>?_)
 ·obtain⟨F,as,Q',_,_,_,rv,hφ,_⟩:=h
  rw[rv.length,hlen as _ hφ]
 ·obtain⟨F,as,Q',e,t,o,rv,hφ,kk⟩:=h
  refine hbody cdv A' outer s H E as Q' hr hφ F _ H _ (M.start e t o rv) ⟨fun α σ H' m q=>?_,fun a v H' r q=>kk a v H' q r,fun _ _ _ _ z=>z.elim,fun _ _ _ _ z=>z.elim⟩
  exact kk _ _ _ q ⟨m.tp,m.keep,.non⟩
end
section
variable {X:Cx}{pins:List (Addr×Obj)}{σ:St}{H:Hp}{s:Shared}{h':Heap}
theorem Inv.turnL {t':Nat}{ch:List Addr}(I:Inv X pins σ H s)(k:∀b o,b∉ch→s.heap.get? b=some o→h'.get? b=some o)(hf:∀b∈ch,xY X pins H b):Inv X pins σ H {s with heap:=h',toks:=t'}:=by
 have nit:∀b u,H b=some u→b∉ch:=fun b u e z=>by rw[(hf b z).1] at e;cases e
 refine I.step (g':=s.gens) (d':=s.drawn) (ch:=ch) (fun b hb=>?_) (fun b o _ _ hc e _=>k b o hc e) (fun b o _ _ hc e _=>⟨o.slots,k b o hc e⟩) (fun _ _ _ _ n=>n)
  (fun b o hc e=>⟨o,k b o hc e⟩) (fun _ _ e=>e) (fun _ _ _ e=>e) (fun b ps e=>⟨#[],by rw[e];simp⟩) (fun m hm=>?_) (fun b u e=>?_) I.bare
 ·obtain⟨_,f1,_,f3,f4,f5⟩:=hf b hb
  exact⟨f3,f1,f4,f5⟩
 ·obtain⟨o,es,ep,ho,r⟩:=hm
  exact⟨o,es,ep,k _ o (fun z=>(hf _ z).2.1 rfl) ho,r⟩
 ·refine (I.hok b u e).stay (fun c v hc q=>k c v ?_ q) (fun _ q=>q) fun _ _ q=>q
  rcases hc with z|z
  ·rw[z];exact nit b u e
  ·exact nit c _ z
theorem Inv.turnLay {t':Nat}{ch:List Addr}{T:Addr}{o:HO}(I:Inv X pins σ H s)(k:∀b o,b∉ch→s.heap.get? b=some o→h'.get? b=some o)(hf:∀b∈ch,xY X pins H b)(hT:s.heap.objs.size≤T)(new:zw X.prog X.w (upd H T o) h' T o):
  Inv X pins σ (upd H T o) {s with heap:=h',toks:=t'}:=by
 have nit:∀b u,H b=some u→b∉ch:=fun b u e z=>by rw[(hf b z).1] at e;cases e
 have hn:H T=none:=I.hok.fresh hT
 have lt:∀{b:Addr} {u:Obj},s.heap.get? b=some u→b≠T:=fun e=>eO (di (eM e) hT)
 refine I.step (g':=s.gens) (d':=s.drawn) (ch:=ch) (fun b hb=>?_) (fun b o _ _ hc e _=>k b o hc e) (fun b o _ _ hc e _=>⟨o.slots,k b o hc e⟩) (fun b u _ e n=>by rw[ze (lt e)];exact n)
  (fun b o hc e=>⟨o,k b o hc e⟩) (fun b xs e=>by rw[ze (zf e hn)];exact e) (fun b u xs e=>by rw[ze (zf e hn)];exact e) (fun b ps e=>⟨#[],by rw[ze (zf e hn),e];simp⟩) (fun m hm=>?_) (fun b u e=>?_) I.bare
 ·obtain⟨_,f1,_,f3,f4,f5⟩:=hf b hb
  exact⟨f3,f1,f4,f5⟩
 ·obtain⟨o,es,ep,ho,r⟩:=hm
  exact⟨o,es,ep,k _ o (fun z=>(hf _ z).2.1 rfl) ho,r⟩
 ·by_cases hb:b=T
  ·subst hb;rw[zh] at e;cases e;exact new
  ·rw[ze hb] at e
   refine (I.hok b u e).stay (fun c v hc q=>k c v ?_ q) (fun c q=>by rw[ze (zf q hn)];exact q) fun c xs q=>by rw[ze (zf q hn)];exact q
   rcases hc with z|z
   ·rw[z];exact nit b u e
   ·exact nit c _ z
end
theorem xH {a b:Nat}(h:a<b):(a:Addr)≠b:=eO h
theorem nP {a b:Nat}(h:b<a):(a:Addr)≠b:=bP h
theorem om (n l1 l2:Nat)(h1:l1<n)(h2:l2<n):ZipApart (n+4) (n+2) (n+3) n (n+1) l1 l2 where
 TIz:=xH (a:=n+2) (b:=n+4) (by omega)
 TOz:=xH (a:=n+3) (b:=n+4) (by omega)
 i1z:=xH (a:=n) (b:=n+4) (by omega)
 i2z:=xH (a:=n+1) (b:=n+4) (by omega)
 TITO:=xH (a:=n+2) (b:=n+3) (by omega)
 TIi1:=nP (a:=n+2) (b:=n) (by omega)
 TIi2:=nP (a:=n+2) (b:=n+1) (by omega)
 TOi1:=nP (a:=n+3) (b:=n) (by omega)
 TOi2:=nP (a:=n+3) (b:=n+1) (by omega)
 i12:=xH (a:=n) (b:=n+1) (by omega)
 l1z:=xH (a:=l1) (b:=n+4) (by omega)
 l1TO:=xH (a:=l1) (b:=n+3) (by omega)
 l1i1:=xH (a:=l1) (b:=n) (by omega)
 l1i2:=xH (a:=l1) (b:=n+1) (by omega)
 l2z:=xH (a:=l2) (b:=n+4) (by omega)
 l2TO:=xH (a:=l2) (b:=n+3) (by omega)
 l2i1:=xH (a:=l2) (b:=n) (by omega)
 l2i2:=xH (a:=l2) (b:=n+1) (by omega)
def Itz (K:PySem.W.Frag)(l1 l2:Addr):It:=
 ⟨fun i H=>∃xs ys x y,SqL K H l1 xs∧SqL K H l2 ys∧xs[i]?=some x∧ys[i]?=some y,
  fun i H v H'=>∃T x y,v=.ref T∧H T=none∧H'=upd H T (.tup [x,y])∧(∀xs,SqL K H l1 xs→xs[i]?=some x)∧∀ys,SqL K H l2 ys→ys[i]?=some y,
  fun i H=>∃xs ys,SqL K H l1 xs∧SqL K H l2 ys∧(xs.length≤i∨ys.length≤i)⟩
def Ite (K:PySem.W.Frag)(l:Addr):It:=
 ⟨fun i H=>∃xs x,SqL K H l xs∧xs[i]?=some x,
  fun i H v H'=>∃T x,v=.ref T∧H T=none∧H'=upd H T (.tup [.int i,x])∧∀xs,SqL K H l xs→xs[i]?=some x,
  fun i H=>∃xs,SqL K H l xs∧xs.length≤i⟩
theorem nR {P:Program}{w:World}{K:PySem.W.Frag}{elts:List Expr}{kk:Nat}{pos:Pos}{z TI TO i1 i2 l1 l2:Addr}(D:ZipApart z TI TO i1 i2 l1 l2):
  Turn P w K (.Tuple elts kk pos) (Itz K l1 l2) [z,TI,TO,i1,i2] z (fun i h=>IsZip h z TI TO .none∧IsPair h TI (.ref i1) (.ref i2)∧(∃a b,IsPair h TO a b)∧h.IsListIter i1 l1 i∧h.IsListIter i2 l2 i) where
 mem:=by simp
 obj:=fun i h st b hb=>by
  obtain⟨h1,h2,⟨a,c,h3⟩,⟨o1,e1,_,d1⟩,⟨o2,e2,_,d2⟩⟩:=st
  simp only[eJ,dq,cp] at hb
  rcases hb with rfl|rfl|rfl|rfl|rfl
  ·exact⟨_,h1,fun v z=>by cases (show Data.fields _=Data.cell v from z)⟩
  ·exact⟨_,h2,fun v z=>by cases (show Data.seq _ _=Data.cell v from z)⟩
  ·exact⟨_,h3,fun v z=>by cases (show Data.seq _ _=Data.cell v from z)⟩
  ·exact⟨o1,e1,fun v z=>by rw[d1] at z;cases z⟩
  ·exact⟨o2,e2,fun v z=>by rw[d2] at z;cases z⟩
 keep:=fun i h h' st k=>by
  obtain⟨h1,h2,⟨a,c,h3⟩,h4,h5⟩:=st
  exact⟨k z (by simp) _ h1,k TI (by simp) _ h2,⟨a,c,k TO (by simp) _ h3⟩,h4.at fun o e=>k i1 (by simp) o e,h5.at fun o e=>k i2 (by simp) o e⟩
 item:=by
  intro X hP hw hK hc i pins s σ H E I hf st hg
  subst hP hw hK
  obtain⟨xs,ys,x,y,hq1,hq2,hx,hy⟩:=hg
  obtain⟨its1,rv1,p1,hz1⟩:=I.list hq1
  obtain⟨its2,rv2,p2,hz2⟩:=I.list hq2
  obtain⟨u,hu,ru⟩:=rv1.get hx
  obtain⟨v,hv,rv⟩:=rv2.get hy
  obtain⟨h1,h2,⟨a,c,h3⟩,h4,h5⟩:=st
  refine wpAny_pyNext_zip_item D h1 h2 h3 h4 h5 p1.isList p2.isList (x:=u) (y:=v) (by simpa using hu) (by simpa using hv) fun h' a1 a2 a3 a4 a5 a6 hk=>⟨_,rfl,?_⟩
  refine wpAny_letOwnedTupleGo_zip (s:={s with heap:=h'}) a1 fun h'' b1 b2=>?_
  have hTz:s.heap.objs.size≠z:=bP (eM h1)
  have hk2:∀b o,b∉[z,TI,TO,i1,i2]→s.heap.get? b=some o→h''.get? b=some o:=fun b o hb e=>by
   simp only[eJ,dq,cp,not_or] at hb
   exact b2.extBut _ _ hb.1 (hk b o hb.1 hb.2.2.1 hb.2.2.2.1 hb.2.2.2.2 e)
  have gT:h''.get? s.heap.objs.size=some {cls:=.type "tuple",data:=.seq #[u,v]}:=b2.extBut _ _ hTz a5
  have J:=I.turnLay (t':=s.toks) (T:=s.heap.objs.size) (o:=.tup [x,y]) hk2 hf (eG _) ⟨by show 2≤sizeLine;decide,[u,v],.cons ru (.cons rv .nil),_,gT,rfl,0,rfl⟩
  refine⟨.ref s.heap.objs.size,_,J,rfl,⟨_,x,y,rfl,I.hok.fresh (eG _),rfl,fun zs hz=>by rw[I.list_inj hz hq1];exact hx,fun zs hz=>by rw[I.list_inj hz hq2];exact hy⟩,⟨b1,b2.extBut _ _ D.TIz (hk _ _ D.TIz D.TITO D.TIi1 D.TIi2 h2),⟨u,v,b2.extBut _ _ D.TOz a2⟩,a3.extBut b2.extBut D.i1z,a4.extBut b2.extBut D.i2z⟩,fun b hb=>?_⟩
  rw[ze]
  ·exact (hf b hb).1
  ·obtain⟨o,e,_⟩:=(show ∃o,s.heap.get? b=some o∧True from by
    simp only[eJ,dq,cp] at hb
    obtain⟨o1,e1,_⟩:=h4
    obtain⟨o2,e2,_⟩:=h5
    rcases hb with rfl|rfl|rfl|rfl|rfl
    ·exact⟨_,h1,trivial⟩
    ·exact⟨_,h2,trivial⟩
    ·exact⟨_,h3,trivial⟩
    ·exact⟨_,e1,trivial⟩
    ·exact⟨_,e2,trivial⟩)
   exact eO (eM e)
 done:=by
  intro X hP hw hK hc i pins s σ H E I hf st hg
  subst hP hw hK
  obtain⟨xs,ys,hq1,hq2,hl⟩:=hg
  obtain⟨its1,rv1,p1,hz1⟩:=I.list hq1
  obtain⟨its2,rv2,p2,hz2⟩:=I.list hq2
  obtain⟨h1,h2,⟨a,c,h3⟩,h4,h5⟩:=st
  have e1:=rv1.length
  have e2:=rv2.length
  refine wpAny_pyNext_zip_end (I.ok.hd hc) D h1 h2 h3 h4 h5 p1.isList p2.isList (hl.imp (fun z=>by simp;omega) fun z=>by simp;omega) fun h' hk=>⟨rfl,?_⟩
  exact I.turnL (t':=s.toks) (ch:=[z,TI,TO,i1,i2]) (fun b o hb e=>by
   simp only[eJ,dq,cp,not_or] at hb
   exact hk b o hb.1 hb.2.2.1 hb.2.2.2.1 hb.2.2.2.2 e) hf
 self:=fun A i s Q E st h=>wpAny_pyIter_zip st.1 h
theorem oh {P:Program}{w:World}{K:PySem.W.Frag}{elts:List Expr}{kk:Nat}{pos:Pos}{e it l:Addr}(hne:e≠it):
  Turn P w K (.Tuple elts kk pos) (Ite K l) [e,it] e (fun i h=>(∃old,IsEnum h e it i old)∧h.IsListIter it l i) where
 mem:=by simp
 obj:=fun i h st b hb=>by
  obtain⟨⟨old,h1⟩,⟨o1,e1,_,d1⟩⟩:=st
  simp only[eJ,dq,cp] at hb
  rcases hb with rfl|rfl
  ·exact⟨_,h1,fun v z=>by cases (show Data.fields _=Data.cell v from z)⟩
  ·exact⟨o1,e1,fun v z=>by rw[d1] at z;cases z⟩
 keep:=fun i h h' st k=>by
  obtain⟨⟨old,h1⟩,h4⟩:=st
  exact⟨⟨old,k e (by simp) _ h1⟩,h4.at fun o q=>k it (by simp) o q⟩
 item:=by
  intro X hP hw hK hc i pins s σ H E I hf st hg
  subst hP hw hK
  obtain⟨xs,x,hq1,hx⟩:=hg
  obtain⟨its1,rv1,p1,hz1⟩:=I.list hq1
  obtain⟨u,hu,ru⟩:=rv1.get hx
  obtain⟨⟨old,h1⟩,h4⟩:=st
  refine wpAny_pyNext_enum_item h1 h4 p1.isList (x:=u) (by simpa using hu) hne fun h' a1 a3 a5 a6 hk=>⟨_,rfl,?_⟩
  refine wpAny_letOwnedTupleGo_enum (s:={s with heap:=h',toks:=s.toks+1}) a1 fun h'' b1 b2=>?_
  have hTz:s.heap.objs.size≠e:=bP (eM h1)
  have hk2:∀b o,b∉[e,it]→s.heap.get? b=some o→h''.get? b=some o:=fun b o hb q=>by
   simp only[eJ,dq,cp,not_or] at hb
   exact b2.extBut _ _ hb.1 (hk b o hb.1 hb.2 q)
  have gT:h''.get? s.heap.objs.size=some {cls:=.type "tuple",data:=.seq #[.int i s.toks,u]}:=b2.extBut _ _ hTz a5
  have J:=I.turnLay (t':=s.toks+1) (T:=s.heap.objs.size) (o:=.tup [.int i,x]) hk2 hf (eG _) ⟨by show 2≤sizeLine;decide,[.int i s.toks,u],.cons ⟨_,rfl⟩ (.cons ru .nil),_,gT,rfl,0,rfl⟩
  refine⟨.ref s.heap.objs.size,_,J,rfl,⟨_,x,rfl,I.hok.fresh (eG _),rfl,fun zs hz=>by rw[I.list_inj hz hq1];exact hx⟩,⟨⟨u,by simpa using b1⟩,a3.extBut b2.extBut hne.symm⟩,fun b hb=>?_⟩
  rw[ze]
  ·exact (hf b hb).1
  ·obtain⟨o,q,_⟩:=(show ∃o,s.heap.get? b=some o∧True from by
    simp only[eJ,dq,cp] at hb
    obtain⟨o1,e1,_⟩:=h4
    rcases hb with rfl|rfl
    ·exact⟨_,h1,trivial⟩
    ·exact⟨_,e1,trivial⟩)
   exact eO (eM q)
 done:=by
  intro X hP hw hK hc i pins s σ H E I hf st hg
  subst hP hw hK
  obtain⟨xs,hq1,hl⟩:=hg
  obtain⟨its1,rv1,p1,hz1⟩:=I.list hq1
  obtain⟨⟨old,h1⟩,h4⟩:=st
  have e1:=rv1.length
  refine wpAny_pyNext_enum_end (I.ok.hd hc) h1 h4 p1.isList (by simp;omega) fun h' hk=>⟨rfl,?_⟩
  exact I.turnL (t':=s.toks) (ch:=[e,it]) (fun b o hb q=>by
   simp only[eJ,dq,cp,not_or] at hb
   exact hk b o hb.2 q) hf
 self:=fun A i s Q E st h=>by
  obtain⟨⟨old,h1⟩,h4⟩:=st
  exact wpAny_pyIter_enum h1 h
section
variable {X:Cx}{α:Ev}{elts:List Expr}{kk:Nat}{tp p pos:Pos}{a b:Expr}
def eu (K:PySem.W.Frag)(ta:TA):TI:=fun σ H R=>ta σ H fun vs H1=>∃l1 l2,vs=[.ref l1,.ref l2]∧(∃xs,SqL K H1 l1 xs)∧(∃ys,SqL K H1 l2 ys)∧R (Itz K l1 l2) H1
theorem iD {ta:TA}(hg:Gl X "zip")(hm:X.mg "zip"=none)(ha:PA X [a,b] ta)(hs:starEach [a,b] X.env=[(false,eval a X.env),(false,eval b X.env)]:=by rfl)(hs2:starEach [b] X.env=[(false,eval b X.env)]:=by rfl):
  PI X (.Tuple elts kk tp) (.Call (.Name "zip" p) [a,b] [] pos) (eu X.K ta):=by
 intro pins s σ H R I h
 refine Call_ (yU I hg hm boot_zip (cG (thn (ha pos pins s σ H _ I h) fun us s1 ⟨vs,H1,I1,r1,q1⟩=>?_) (by rw[hs,hs2]) (by rw[hs2];rfl)))
 obtain⟨l1,l2,e,⟨xs,hq1⟩,⟨ys,hq2⟩,q⟩:=q1
 subst e
 obtain⟨u,v,rfl,ru,rv⟩:=Vals.two r1
 cases (show u=Value.ref l1 from ru)
 cases (show v=Value.ref l2 from rv)
 obtain⟨its1,rv1,p1,hz1⟩:=I1.list hq1
 obtain⟨its2,rv2,p2,hz2⟩:=I1.list hq2
 refine call_zip_2 p1.isList p2.isList fun h' z1 z2 z3 z4 z5 z6 hk=>?_
 refine wpAny_pyIter_zip (s:={s1 with heap:=h'}) z1 ?_
 have lt1:l1<s1.heap.objs.size:=by obtain⟨o,e,_⟩:=p1.isList;exact eM e
 have lt2:l2<s1.heap.objs.size:=by obtain⟨o,e,_⟩:=p2.isList;exact eM e
 have fr:∀n,H1 (s1.heap.objs.size+n)=none:=fun n=>I1.hok.fresh (Nat.le_add_right _ _)
 have D:ZipApart (s1.heap.objs.size+4) (s1.heap.objs.size+2) (s1.heap.objs.size+3) s1.heap.objs.size (s1.heap.objs.size+1) l1 l2:=om _ _ _ lt1 lt2
 refine⟨_,_,_,_,H1,rfl,I1.kept (t':=s1.toks) fun b o e=>hk b o e,nR D,⟨z1,z2,⟨_,_,z3⟩,z4,z5⟩,fun b hb=>?_,q⟩
 simp only[eJ,dq,cp] at hb
 have hb':s1.heap.objs.size≤b:=by
  have key:∀n b:Nat,n=s1.heap.objs.size→(b=n+4∨b=n+2∨b=n+3∨b=n∨b=n+1)→n≤b:=fun n b _ h=>by omega
  exact key _ _ rfl (by rcases hb with z|z|z|z|z<;>simp[z])
 exact I1.fpOk hb' (I1.hok.fresh hb')
def gx (K:PySem.W.Frag)(ta:TA):TI:=fun σ H R=>ta σ H fun vs H1=>∃l,vs=[.ref l]∧(∃xs,SqL K H1 l xs)∧R (Ite K l) H1
theorem lW {ta:TA}(hg:Gl X "enumerate")(hm:X.mg "enumerate"=none)(ha:PA X [a] ta)(hs:starEach [a] X.env=[(false,eval a X.env)]:=by rfl):
  PI X (.Tuple elts kk tp) (.Call (.Name "enumerate" p) [a] [] pos) (gx X.K ta):=by
 intro pins s σ H R I h
 refine Call_ (yU I hg hm boot_enumerate (cG (thn (ha pos pins s σ H _ I h) fun us s1 ⟨vs,H1,I1,r1,q1⟩=>?_) hs rfl))
 obtain⟨l1,e,⟨xs,hq1⟩,q⟩:=q1
 subst e
 obtain⟨u,rfl,ru⟩:=Vals.one r1
 cases (show u=Value.ref l1 from ru)
 obtain⟨its1,rv1,p1,hz1⟩:=I1.list hq1
 refine call_enumerate_list p1.isList fun h' z1 z4 z6 hk=>?_
 refine wpAny_pyIter_enum (s:={s1 with heap:=h'}) z1 ?_
 refine⟨_,_,_,_,H1,rfl,I1.kept (t':=s1.toks) fun b o e=>hk b o e,oh (nP (a:=s1.heap.objs.size+1) (b:=s1.heap.objs.size) (bj _)),⟨⟨_,z1⟩,z4⟩,fun b hb=>?_,q⟩
 simp only[eJ,dq,cp] at hb
 have hb':s1.heap.objs.size≤b:=by
  have key:∀n b:Nat,n=s1.heap.objs.size→(b=n+1∨b=n)→n≤b:=fun n b _ h=>by omega
  exact key _ _ rfl hb
 exact I1.fpOk hb' (I1.hok.fresh hb')
def mh (ds es:List PyData):List PyData:=List.zipWith (fun d e=>.tuple [d,e]) ds es
theorem iw {Q:List PyData→Prop}(hg:Gl X "zip")(hm:X.mg "zip"=none)(h:EvD X α a fun x=>EvD X α b fun y=>∃ds es,x=.list ds∧y=.list es∧Q (mh ds es))
  (hs:starEach [a,b] X.env=[(false,eval a X.env),(false,eval b X.env)]:=by rfl) (hs2:starEach [b] X.env=[(false,eval b X.env)]:=by rfl) (hs3:starEach [a,b] X.env=(false,eval a X.env)::starEach [b] X.env:=by rfl):
  EvI X α (.Tuple elts kk tp) (.Call (.Name "zip" p) [a,b] [] pos) Q:=fun F σ H R m k=>by
 refine⟨_,iD hg hm (zk zd (zk zd zD hs2) hs3) hs hs2,?_⟩
 refine h F σ H _ m fun x vx H1 q1 t1 k1 r1=>?_
 have m1:=m.kz k1 t1
 refine q1 F σ H1 _ m1 fun y vy H2 q2 t2 k2 r2=>?_
 obtain⟨ds,es,rfl,rfl,q⟩:=q2
 obtain⟨l1,xs,rfl,g1,g2⟩:=(r1.same (k2.gz m1.tp)).lst_inv
 obtain⟨l2,ys,rfl,g3,g4⟩:=r2.lst_inv
 refine⟨l1,l2,rfl,⟨xs,SqL.of (zc g1).2⟩,⟨ys,SqL.of (zc g3).2⟩,k _ _ H2 q t2 (k1.trans k2) fun i H3 p s=>⟨fun d hd=>?_,fun hl=>?_⟩⟩
 ·have s1:=SqL.of (K:=X.K) (zc (s _ _ g1)).2
  have s2:=SqL.of (K:=X.K) (zc (s _ _ g3)).2
  unfold mh at hd
  rw[List.getElem?_zipWith] at hd
  cases e1:ds[i]? with
  |none=>rw[e1] at hd;cases hd
  |some d1=>
   cases e2:es[i]? with
   |none=>rw[e1,e2] at hd;cases hd
   |some d2=>
    rw[e1,e2] at hd
    cases hd
    obtain⟨x1,hx1,av1⟩:=g2.get e1
    obtain⟨x2,hx2,av2⟩:=g4.get e2
    refine⟨⟨xs,ys,x1,x2,s1,s2,hx1,hx2⟩,fun v H4 y=>?_⟩
    obtain⟨T,x,y,rfl,hT,rfl,hx,hy⟩:=y
    have hx:=hx _ s1
    have hy:=hy _ s2
    rw[hx1] at hx;cases hx
    rw[hx2] at hy;cases hy
    refine⟨zt hT,fun fr=>?_⟩
    have gs:zi (Gz F α σ H2) (sub p (upd H3 T (.tup [x1,x2]))):=fun a o e=>by
     obtain⟨z1,z2⟩:=zc (s a o e)
     exact zB z1 (by rw[ze (zf z2 hT)];exact z2)
    exact .tup (zB (fr T _ zh hT) zh) (.cons (av1.same gs) (.cons (av2.same gs) .nil))
 ·refine⟨xs,ys,SqL.of (zc (s _ _ g1)).2,SqL.of (zc (s _ _ g3)).2,?_⟩
  unfold mh at hl
  rw[List.length_zipWith,←g2.length,←g4.length] at hl
  omega
def xm (n:Nat):List PyData→List PyData
 |[]=>[]
 |d::ds=>.tuple [.int n,d]::xm (n+1) ds
theorem uv :∀{ds:List PyData} {n i:Nat} {d:PyData},(xm n ds)[i]?=some d→∃e,ds[i]?=some e∧d=.tuple [.int ((n+i:Nat):Int),e]
 |[],n,i,d,h=>by simp[xm] at h
 |e::ds,n,0,d,h=>by simp[xm] at h;exact⟨e,rfl,by simp[←h]⟩
 |e::ds,n,i+1,d,h=>by
  simp only[xm,List.getElem?_cons_succ] at h
  obtain⟨e',h1,h2⟩:=uv h
  exact⟨e',by simpa using h1,by rw[h2,Nat.add_assoc,Nat.add_comm 1 i]⟩
theorem um :∀(ds:List PyData) (n:Nat),(xm n ds).length=ds.length
 |[],_=>rfl
 |_::ds,n=>by simp[xm,um ds (n+1)]
theorem qw {Q:List PyData→Prop}(hg:Gl X "enumerate")(hm:X.mg "enumerate"=none)(h:EvD X α a fun x=>∃ds,x=.list ds∧Q (xm 0 ds))(hs:starEach [a] X.env=[(false,eval a X.env)]:=by rfl):
  EvI X α (.Tuple elts kk tp) (.Call (.Name "enumerate" p) [a] [] pos) Q:=fun F σ H R m k=>by
 refine⟨_,lW hg hm (zk zd zD hs) hs,?_⟩
 refine h F σ H _ m fun x vx H1 q1 t1 k1 r1=>?_
 obtain⟨ds,rfl,q⟩:=q1
 obtain⟨l1,xs,rfl,g1,g2⟩:=r1.lst_inv
 refine⟨l1,rfl,⟨xs,SqL.of (zc g1).2⟩,k _ _ H1 q t1 k1 fun i H3 p s=>⟨fun d hd=>?_,fun hl=>?_⟩⟩
 ·have s1:=SqL.of (K:=X.K) (zc (s _ _ g1)).2
  obtain⟨e,he,rfl⟩:=uv hd
  obtain⟨x1,hx1,av1⟩:=g2.get he
  refine⟨⟨xs,x1,s1,hx1⟩,fun v H4 y=>?_⟩
  obtain⟨T,x,rfl,hT,rfl,hx⟩:=y
  have hx:=hx _ s1
  rw[hx1] at hx;cases hx
  refine⟨zt hT,fun fr=>?_⟩
  have gs:zi (Gz F α σ H1) (sub p (upd H3 T (.tup [.int i,x1]))):=fun a o e=>by
   obtain⟨z1,z2⟩:=zc (s a o e)
   exact zB z1 (by rw[ze (zf z2 hT)];exact z2)
  refine .tup (zB (fr T _ zh hT) zh) (.cons ?_ (.cons (av1.same gs) .nil))
  rw[aC]
  exact .int _
 ·refine⟨xs,SqL.of (zc (s _ _ g1)).2,?_⟩
  rw[um,←g2.length] at hl
  exact hl
end
structure Cal (P:Program)(w:World)(K:PySem.W.Frag)(mg:Str→Option Value)(base:Heap)(x:Str)(k:Nat)(φ:List A→(A→Prop)→Prop):Prop where
 ex:∃f fd ps,mg x=some (.ref f)∧PySem.W.keepIn K (.ref f)=true∧Binds K fd ps []∧yB P w K mg base CX0 k f fd ps (spA φ)
section
variable {X:Cx}{α:Ev}{e a b:Expr}{es:List Expr}{pos p:Pos}{Q:PyData→Prop}{k:Nat}{φ:List A→(A→Prop)→Prop}{x:Str}
theorem wa (C:Cal X.prog X.w X.K X.mg X.base x k φ)(hr:zY k X.A)(hg:Gl X x)(h:EvA X α (e::es) fun as=>φ as fun a=>Q a.d)
  (hdb:(x == ("__debug__":Str))=false:=by decide) (he:starEach (e::es) X.env=(false,eval e X.env)::starEach es X.env:=by rfl) (hpl:(backTo pos (starEach es X.env)).any (·.1)=false:=by rfl):EvD X α (.Call (.Name x p) (e::es) [] pos) Q:=by
 obtain⟨f,fd,ps,h1,h2,h3,h4⟩:=C.ex
 exact kg h4 hr hg h1 h2 h3 h hdb he hpl
theorem nF {Q:List PyData→Prop}(C:Cal X.prog X.w X.K X.mg X.base x k φ)(hr:zY k X.A)(hg:Gl X x)(h:EvA X α (e::es) fun as=>φ as fun a=>∃ds,a=.own ds∧Q ds)
  (hdb:(x == ("__debug__":Str))=false:=by decide) (he:starEach (e::es) X.env=(false,eval e X.env)::starEach es X.env:=by rfl) (hpl:(backTo pos (starEach es X.env)).any (·.1)=false:=by rfl):EvL X α (.Call (.Name x p) (e::es) [] pos) Q:=by
 obtain⟨f,fd,ps,h1,h2,h3,h4⟩:=C.ex
 exact lY h4 hr hg h1 h2 h3 h hdb he hpl
end
section
variable {P:Program}{w:World}{K:PySem.W.Frag}{mg:Str→Option Value}{base:Heap}
theorem rH {x qual:Str}{st:Stmt}{f:Addr}{fd:FuncData}{N ps:List Str}{k:Nat}{φ:List A→(A→Prop)→Prop}(G:Fun K x qual st f fd)(hm:mg x=some (.ref f))(hb:Binds K fd ps [])(S:zH N ps (zg st))(hlen:∀as Q,φ as Q→as.length=ps.length)
  (hbody:∀(cdv:Value) (A':Around) (outer:List Env) (s:Shared) (H:Hp) (E:XK) (as:List A) (Q:A→Prop),zY k (A'.deeper (envOfC qual (zg st) s.heap.objs.size f cdv))→φ as Q→
   SvS (uP CX0 P w K mg base N qual (zg st) f cdv A' outer s H E).nox (as.map some++List.replicate (N.length-as.length) none) (zL st) {nx:=fun _=>Q (.dat .none),rt:=Q}):Cal P w K mg base x (k+1) φ:=
 ⟨f,fd,ps,hm,G.kp,hb,fnA G S hlen hbody⟩
def wc :List A→(A→Prop)→Prop:=fun as Q=>∃n:Int,as=[.tape,.dat (.int n)]∧0<n∧n<big∧∀v,0≤v→v<n→Q (.dat (.int v))
end
section
variable {Y:Addr→Shared→Hp→List Addr→Cx}{pat:Pat}{ifs:List Expr}{elt:Expr}{α0:Ev}
end
theorem gU {ds:List PyData}{v:Int}(h0:0≤v)(h1:v<ds.length):∃d,d∈ds∧atI ds v=some d:=by
 obtain⟨j,rfl⟩:=Int.eq_ofNat_of_zero_le h0
 have hj:j<ds.length:=by omega
 exact⟨ds[j],bp hj,kH (eL hj)⟩
theorem rN (st:Stmt)(env:Env):execs [st] env=exec st env:=by
 rw[PySem.execs_cons]
 have:(fun f:Flow=>(match f with|.next=>execs [] env|f=>pure f:Sem Flow))=pure:=by
  funext f
  cases f<;>rfl
 exact (congrArg (fun g=>exec st env >>= g) this).trans (bind_pure _)
section
variable {X:Cx}{α:Ev}{e a b c:Expr}{es rest:List Expr}{pos p:Pos}{Q:PyData→Prop}{E:zS}{st:Stmt}{sts sts':List Stmt}
theorem vc (P:Ev→Prop)(h1:SvS X α [st] {E with nx:=P})(h2:∀α',P α'→SvS X α' sts E):SvS X α (st::sts) E:=fun F σ H D m r=>by
 refine wH (fun σ' H'=>∃α',M F α' σ' H'∧P α') ?_ ?_
 ·obtain⟨t,p,q⟩:=h1 F σ H {D with nx:=fun σ' H'=>∃α',M F α' σ' H'∧P α'} m ⟨fun α' σ' H' m' z=>⟨α',m',z⟩,r.rt,r.bk,r.ct⟩
  exact⟨t,fun pins s σ H D I h=>(by
   have:=p pins s σ H D I h
   rw[rN] at this
   exact this),q⟩
 ·rintro σ' H' ⟨α',m',z⟩
  exact h2 α' z F σ' H' D m' r
theorem jW {c:Prop}[Decidable c]{a b:List Stmt}(h1:c→SvS X α a E)(h2:¬c→SvS X α b E):SvS X α (if decide c=true then a else b) E:=by
 by_cases h:c
 ·rw[dW h];exact h1 h
 ·rw[eZ h];exact h2 h
theorem qz {k:Bool}{a b:List Stmt}(h1:k=true→SvS X α a E)(h2:k=false→SvS X α b E):SvS X α (if k=true then a else b) E:=by
 cases k with
 |true=>exact h1 rfl
 |false=>exact h2 rfl
theorem lE {i j:Int}:Cmp rEq (.int i) (.int j) (decide (i=j)):=fun p H vx vy R rx ry h=>by
 cases rx.int_inv;cases ry.int_inv
 refine⟨rfl,?_⟩
 rw[show decide (V.int i=V.int j)=decide (i=j) by simp]
 exact h
theorem lQ {i j:Int}:Cmp rNe (.int i) (.int j) (!decide (i=j)):=fun p H vx vy R rx ry h=>by
 cases rx.int_inv;cases ry.int_inv
 refine⟨rfl,?_⟩
 rw[show decide (V.int i=V.int j)=decide (i=j) by simp]
 exact h
theorem ie {op:CmpOp}{r:R2}(ho:OpR X (compareOp op) r)(hm:behindInMarks op b=false)(h:EvD X α a fun x=>EvD X α b fun y=>∃k,Cmp r x y k∧Q (.bool k)):EvD X α (.Compare a [op] [b] pos) Q:=fun F σ H R m k=>by
 refine⟨_,lC ho zd zd hm,?_⟩
 refine h F σ H _ m fun x vx H1 q1 t1 k1 r1=>?_
 have m1:=m.kz k1 t1
 refine q1 F σ H1 _ m1 fun y vy H2 q2 t2 k2 r2=>?_
 obtain⟨b,hc,q⟩:=q2
 exact hc _ H2 vx vy _ (r1.same (k2.gz m1.tp)) r2 (k _ _ H2 q t2 (k1.trans k2) (.bl b))
end
structure NbT (mg:Str→Option Value):Prop where
 abs:mg "abs"=none
 list:mg "list"=none
 len:mg "len"=none
 range:mg "range"=none
 min:mg "min"=none
 max:mg "max"=none
 sorted:mg "sorted"=none
 isinstance:mg "isinstance"=none
 int:mg "int"=none
 bool:mg "bool"=none
 str:mg "str"=none
 tuple:mg "tuple"=none
 all:mg "all"=none
 any:mg "any"=none
 repr:mg "repr"=none
 zip:mg "zip"=none
 enumerate:mg "enumerate"=none
 reversed:mg "reversed"=none
 sum:mg "sum"=none
theorem yP {X:Cx}{K:PySem.W.Frag}{es:List Expr}{k:Nat}{t:TGs}{n:Nat}{pos:Pos}(hK:X.K=K)(hc:X.calm=true)(h:PGs X es t)
  (hn:(assignEach es X.env).length=n:=by rfl) (hst:(assignEach es X.env).findIdx? (·.1)=none:=by rfl):PG X (.Tuple es k pos) (rD K n t):=by
 subst hK
 exact ir hc h hn hst
end L2
namespace SortA
open PySem PySem.W PyProof.Rows
def run {α:Type}(lt:Nat→Nat→Bool):KasT α→α
 |.ret a=>a
 |.ask i j k=>run lt (k (lt i j))
theorem run_bind {α β:Type}(lt:Nat→Nat→Bool)(f:α→KasT β):∀t:KasT α,run lt (t.bind f)=run lt (f (run lt t))
 |.ret _=>rfl
 |.ask i j k=>run_bind lt f (k (lt i j))
structure Ord (lt:Nat→Nat→Bool):Prop where
 irr:∀a,lt a a=false
 tr:∀a b c,lt b a=false→lt c b=false→lt c a=false
 asy:∀a b,lt a b=true→lt b a=false
abbrev g (p:Array Nat)(i:Nat):Nat:=p.getD i 0
def Up (lt:Nat→Nat→Bool)(p:Array Nat)(m:Nat):Prop:=∀i j,i≤j→j<m→lt (g p j) (g p i)=false
def Down (lt:Nat→Nat→Bool)(p:Array Nat)(m:Nat):Prop:=∀i j,i≤j→j<m→lt (g p i) (g p j)=false
theorem oW {p q:Array Nat}{i j:Nat}(h:p[i]?=q[j]?):g p i=g q j:=by
 unfold g
 rw[Array.getD_eq_getD_getElem?,Array.getD_eq_getD_getElem?,h]
variable {lt:Nat→Nat→Bool}
theorem Up.succ (O:Ord lt){p:Array Nat}{m:Nat}(h:Up lt p m)(hm:0<m)(e:lt (g p m) (g p (m-1))=false):Up lt p (m+1):=fun i j hij hj=>by
 by_cases e1:j<m
 ·exact h i j hij e1
 ·have ej:j=m:=by omega
  subst ej
  by_cases e2:i=j
  ·subst e2;exact O.irr _
  ·exact O.tr _ _ _ (h i (j-1) (by omega) (by omega)) e
theorem Down.succ (O:Ord lt){p:Array Nat}{m:Nat}(h:Down lt p m)(hm:0<m)(e:lt (g p (m-1)) (g p m)=false):Down lt p (m+1):=fun i j hij hj=>by
 by_cases e1:j<m
 ·exact h i j hij e1
 ·have ej:j=m:=by omega
  subst ej
  by_cases e2:i=j
  ·subst e2;exact O.irr _
  ·exact O.tr _ _ _ e (h i (j-1) (by omega) (by omega))
theorem hJ (O:Ord lt)(p:Array Nat):Up lt p 1:=fun i j hij hj=>by
 have e1:i=0:=by omega
 have e2:j=0:=by omega
 rw[e1,e2];exact O.irr _
theorem xT (O:Ord lt)(p:Array Nat):∀(f n:Nat),0<n→Up lt p n→n≤run lt (kas_asc p f n)∧run lt (kas_asc p f n)≤n+f∧Up lt p (run lt (kas_asc p f n))∧
  (run lt (kas_asc p f n)<n+f→lt (g p (run lt (kas_asc p f n))) (g p (run lt (kas_asc p f n)-1))=true)
 |0,n,_,h=>⟨eG _,eG _,h,fun z=>absurd z (bG _)⟩
 |f+1,n,hn,h=>by
  show n≤run lt ((fun c=>if c=true then KasT.ret n else kas_asc p f (n+1)) (lt (p.getD n 0) (p.getD (n-1) 0)))∧_
  cases e:lt (p.getD n 0) (p.getD (n-1) 0) with
  |true=>
   have er:run lt (kas_asc p (f+1) n)=n:=by
    show run lt ((fun c=>if c=true then KasT.ret n else kas_asc p f (n+1)) (lt (p.getD n 0) (p.getD (n-1) 0)))=n
    rw[e];rfl
   rw[er]
   exact⟨eG _,by omega,h,fun _=>e⟩
  |false=>
   have er:run lt (kas_asc p (f+1) n)=run lt (kas_asc p f (n+1)):=by
    show run lt ((fun c=>if c=true then KasT.ret n else kas_asc p f (n+1)) (lt (p.getD n 0) (p.getD (n-1) 0)))=_
    rw[e];rfl
   rw[er]
   obtain⟨a,b,c,d⟩:=xT O p f (n+1) (by omega) (h.succ O hn e)
   exact⟨by show n≤run lt (kas_asc p f (n+1));omega,by omega,c,fun z=>d (by omega)⟩
theorem wx {p:Array Nat}{i j:Nat}(hj:j≤p.size)(k:Nat):g (kas_rev p i j) k=if i≤k∧k<j then g p (i+j-1-k) else g p k:=by
 have h:=getElem?_mirror_all (xs:=p) (i:=i) hj k
 split
 ·rename_i c
  rw[if_pos c] at h
  exact oW h
 ·rename_i c
  rw[if_neg c] at h
  exact oW h
theorem yi (p:Array Nat)(i j:Nat):(kas_rev p i j).size=p.size:=mirror_size _ _ _ _
theorem zV (p:Array Nat)(i j:Nat):(kas_rev p i j).Perm p:=mirror_perm _ _ _ _
def Eqv (lt:Nat→Nat→Bool)(a b:Nat):Prop:=lt a b=false∧lt b a=false
theorem Down.eqv (O:Ord lt){p q:Array Nat}{n:Nat}(h:Down lt p n)(e:∀k,k<n→Eqv lt (g q k) (g p k)):Down lt q n:=fun i j hij hj=>
 O.tr _ _ _ (O.tr _ _ _ (e j hj).2 (h i j hij hj)) (e i (by omega)).1
def Last (lt:Nat→Nat→Bool)(p:Array Nat)(n q:Nat):Prop:=∀a b,n≤a+(q+1)→a<n→n≤b+(q+1)→b<n→lt (g p a) (g p b)=false
theorem rev_last (O:Ord lt){p:Array Nat}{n q:Nat}(hn:n≤p.size)(hq:q<n)(L:Last lt p n q):∀k,k<n→Eqv lt (g (kas_rev p (n-(q+1)) n) k) (g p k):=fun k hk=>by
 rw[wx hn]
 split
 ·rename_i c
  exact⟨L _ _ (by omega) (by omega) (by omega) hk,L _ _ (by omega) hk (by omega) (by omega)⟩
 ·exact⟨O.irr _,O.irr _⟩
theorem wG (O:Ord lt):∀(f:Nat) (p:Array Nat) (n q:Nat),q<n→n+f≤p.size→Down lt p n→Last lt p n q→
  ∃p' m q',run lt (kas_desc f p n q)=(p',m,q')∧n≤m∧m≤n+f∧p'.size=p.size∧p'.Perm p∧q'<m∧Down lt p' m∧Last lt p' m q'
 |0,p,n,q,hq,hs,h,L=>⟨p,n,q,rfl,eG _,eG _,rfl,cH _,hq,h,L⟩
 |f+1,p,n,q,hq,hs,h,L=>by
  cases e:lt (p.getD n 0) (p.getD (n-1) 0) with
  |true=>
   by_cases hq0:q > 0
   ·have er:run lt (kas_desc (f+1) p n q)=run lt (kas_desc f (kas_rev p (n-(q+1)) n) (n+1) 0):=by
     show run lt ((fun c=>if c=true then (if q > 0 then kas_desc f (kas_rev p (n-(q+1)) n) (n+1) 0 else kas_desc f p (n+1) 0)
      else .ask (p.getD (n-1) 0) (p.getD n 0) fun d=>if d=true then .ret (p,n,q) else kas_desc f p (n+1) (q+1)) (lt (p.getD n 0) (p.getD (n-1) 0)))=_
     rw[e]
     show run lt (if q > 0 then _ else _)=_
     rw[if_pos hq0]
    have ev:=rev_last O (by omega:n≤p.size) hq L
    have h1:=h.eqv O ev
    have hn:g (kas_rev p (n-(q+1)) n) n=g p n:=by rw[wx (by omega),if_neg (by omega)]
    have h2:Down lt (kas_rev p (n-(q+1)) n) (n+1):=h1.succ O (by omega) (by
     rw[hn]
     exact O.tr _ _ _ (O.asy _ _ e) (ev (n-1) (by omega)).1)
    obtain⟨p',m,q',a,b,c,d1,d2,d3,d4,d5⟩:=wG O f (kas_rev p (n-(q+1)) n) (n+1) 0 (by omega) (by rw[yi];omega) h2 (fun a b h1 h2 h3 h4=>by
     have e1:a=n:=by omega
     have e2:b=n:=by omega
     rw[e1,e2];exact O.irr _)
    exact⟨p',m,q',er.trans a,by omega,by omega,by rw[d1,yi],d2.trans (zV _ _ _),d3,d4,d5⟩
   ·have er:run lt (kas_desc (f+1) p n q)=run lt (kas_desc f p (n+1) 0):=by
     show run lt ((fun c=>if c=true then (if q > 0 then kas_desc f (kas_rev p (n-(q+1)) n) (n+1) 0 else kas_desc f p (n+1) 0)
      else .ask (p.getD (n-1) 0) (p.getD n 0) fun d=>if d=true then .ret (p,n,q) else kas_desc f p (n+1) (q+1)) (lt (p.getD n 0) (p.getD (n-1) 0)))=_
     rw[e]
     show run lt (if q > 0 then _ else _)=_
     rw[if_neg hq0]
    obtain⟨p',m,q',a,b,c,d1,d2,d3,d4,d5⟩:=wG O f p (n+1) 0 (by omega) (by omega) (h.succ O (by omega) (O.asy _ _ e)) (fun a b h1 h2 h3 h4=>by
     have e1:a=n:=by omega
     have e2:b=n:=by omega
     rw[e1,e2];exact O.irr _)
    exact⟨p',m,q',er.trans a,by omega,by omega,d1,d2,d3,d4,d5⟩
  |false=>
   cases e2:lt (p.getD (n-1) 0) (p.getD n 0) with
   |true=>
    have er:run lt (kas_desc (f+1) p n q)=(p,n,q):=by
     show run lt ((fun c=>if c=true then (if q > 0 then kas_desc f (kas_rev p (n-(q+1)) n) (n+1) 0 else kas_desc f p (n+1) 0)
      else .ask (p.getD (n-1) 0) (p.getD n 0) fun d=>if d=true then .ret (p,n,q) else kas_desc f p (n+1) (q+1)) (lt (p.getD n 0) (p.getD (n-1) 0)))=_
     rw[e]
     show run lt ((fun d=>if d=true then KasT.ret (p,n,q) else kas_desc f p (n+1) (q+1)) (lt (p.getD (n-1) 0) (p.getD n 0)))=_
     rw[e2];rfl
    exact⟨p,n,q,er,eG _,by omega,rfl,cH _,hq,h,L⟩
   |false=>
    have er:run lt (kas_desc (f+1) p n q)=run lt (kas_desc f p (n+1) (q+1)):=by
     show run lt ((fun c=>if c=true then (if q > 0 then kas_desc f (kas_rev p (n-(q+1)) n) (n+1) 0 else kas_desc f p (n+1) 0)
      else .ask (p.getD (n-1) 0) (p.getD n 0) fun d=>if d=true then .ret (p,n,q) else kas_desc f p (n+1) (q+1)) (lt (p.getD n 0) (p.getD (n-1) 0)))=_
     rw[e]
     show run lt ((fun d=>if d=true then KasT.ret (p,n,q) else kas_desc f p (n+1) (q+1)) (lt (p.getD (n-1) 0) (p.getD n 0)))=_
     rw[e2];rfl
    have Ln:Last lt p (n+1) (q+1):=fun a b h1 h2 h3 h4=>by
     have two:∀a,n+1≤a+(q+1+1)→a<n+1→Eqv lt (g p a) (g p (n-1)):=fun a x1 x2=>by
      by_cases ea:a=n
      ·rw[ea];exact⟨e,e2⟩
      ·exact⟨L a (n-1) (by omega) (by omega) (by omega) (by omega),L (n-1) a (by omega) (by omega) (by omega) (by omega)⟩
     exact O.tr _ _ _ (two b h3 h4).2 (two a h1 h2).1
    obtain⟨p',m,q',a,b,c,d1,d2,d3,d4,d5⟩:=wG O f p (n+1) (q+1) (by omega) (by omega) (h.succ O (by omega) e2) Ln
    exact⟨p',m,q',er.trans a,by omega,by omega,d1,d2,d3,d4,d5⟩
theorem iA {p:Array Nat}{n:Nat}(hn:n≤p.size)(h:Down lt p n):Up lt (kas_rev p 0 n) n:=fun i j hij hj=>by
 rw[wx hn,wx hn,if_pos (by omega),if_pos (by omega)]
 exact h _ _ (by omega) (by omega)
theorem sI (O:Ord lt){p:Array Nat}{n nrem:Nat}(h0:0<n)(hn:n≤nrem)(hs:nrem≤p.size)(h:Down lt p n):
  ∃p' m,run lt (kas_tail3 n nrem p)=(m,p')∧1≤m∧m≤nrem∧p'.size=p.size∧p'.Perm p∧Up lt p' m:=by
 obtain⟨a,b,c,_⟩:=xT O (kas_rev p 0 n) (nrem-n) n h0 (iA (by omega) h)
 refine⟨kas_rev p 0 n,run lt (kas_asc (kas_rev p 0 n) (nrem-n) n),?_,by omega,by omega,yi _ _ _,zV _ _ _,c⟩
 unfold kas_tail3
 rw[run_bind]
 rfl
theorem wj (O:Ord lt){p:Array Nat}{n nrem:Nat}(h0:0<n)(hn:n+1≤nrem)(hs:nrem≤p.size)(h:Down lt p (n+1)):
  ∃p' m,run lt (kas_descPart n nrem p)=(m,p')∧1≤m∧m≤nrem∧p'.size=p.size∧p'.Perm p∧Up lt p' m:=by
 obtain⟨p1,m1,q1,e,a1,a2,a3,a4,a5,a6,a7⟩:=wG O (nrem-(n+1)) p (n+1) 0 (by omega) (by omega) h (fun a b h1 h2 h3 h4=>by
  have e1:a=n:=by omega
  have e2:b=n:=by omega
  rw[e1,e2];exact O.irr _)
 unfold kas_descPart
 rw[run_bind,e]
 dsimp only
 split
 ·obtain⟨p',m,b1,b2,b3,b4,b5,b6⟩:=sI O (p:=kas_rev p1 (m1-(q1+1)) m1) (n:=m1) (nrem:=nrem) (by omega) (by omega) (by rw[yi];omega) (a6.eqv O (rev_last O (by omega) a5 a7))
  exact⟨p',m,b1,b2,b3,by rw[b4,yi,a3],(b5.trans (zV _ _ _)).trans a4,b6⟩
 ·obtain⟨p',m,b1,b2,b3,b4,b5,b6⟩:=sI O (p:=p1) (n:=m1) (nrem:=nrem) (by omega) (by omega) (by omega) a6
  exact⟨p',m,b1,b2,b3,by rw[b4,a3],b5.trans a4,b6⟩
theorem nA (O:Ord lt){p:Array Nat}{nrem:Nat}(h0:0<nrem)(hs:nrem≤p.size):
  ∃p' m,run lt (kas_count nrem p)=(m,p')∧1≤m∧m≤nrem∧p'.size=p.size∧p'.Perm p∧Up lt p' m:=by
 obtain⟨a,b,c,d⟩:=xT O p (nrem-1) 1 (by omega) (hJ O p)
 unfold kas_count
 rw[run_bind]
 generalize run lt (kas_asc p (nrem-1) 1)=n at a b c d
 by_cases en:n=nrem
 ·rw[if_pos (by rw[en];simp)]
  exact⟨p,n,rfl,a,by omega,rfl,cH _,c⟩
 ·rw[if_neg (by simpa using en)]
  have hd:=d (by omega)
  by_cases h1:n > 1
  ·rw[if_pos h1]
   cases e:lt (p.getD 0 0) (p.getD (n-1) 0) with
   |true=>
    refine⟨p,n,?_,a,by omega,rfl,cH _,c⟩
    show run lt ((fun c=>if c=true then KasT.ret (n,p) else kas_descPart n nrem (kas_rev p 0 n)) (lt (p.getD 0 0) (p.getD (n-1) 0)))=_
    rw[e];rfl
   |false=>
    have all:∀k,k<n→Eqv lt (g p k) (g p 0):=fun k hk=>⟨c 0 k (by omega) hk,O.tr _ _ _ (c k (n-1) (by omega) (by omega)) e⟩
    have hD:Down lt (kas_rev p 0 n) (n+1):=by
     have h2:Down lt (kas_rev p 0 n) n:=fun i j hij hj=>by
      rw[wx (by omega),wx (by omega),if_pos (by omega),if_pos (by omega)]
      exact O.tr _ _ _ (all _ (by omega)).2 (all _ (by omega)).1
     refine h2.succ O (by omega) ?_
     rw[wx (by omega),wx (by omega),if_pos (by omega),if_neg (by omega)]
     have e0:lt (g p (n-1)) (g p n)=false:=O.asy _ _ hd
     exact O.tr _ _ _ e0 (O.tr _ _ _ (all (n-1) (by omega)).2 (all _ (by omega)).1)
    obtain⟨p',m,b1,b2,b3,b4,b5,b6⟩:=wj O (p:=kas_rev p 0 n) (n:=n) (nrem:=nrem) (by omega) (by omega) (by rw[yi];omega) hD
    refine⟨p',m,?_,b2,b3,by rw[b4,yi],b5.trans (zV _ _ _),b6⟩
    rw[←b1]
    show run lt ((fun c=>if c=true then KasT.ret (n,p) else kas_descPart n nrem (kas_rev p 0 n)) (lt (p.getD 0 0) (p.getD (n-1) 0)))=_
    rw[e];rfl
  ·rw[if_neg h1]
   have e1:n=1:=by omega
   subst e1
   refine wj O (by omega) (by omega) hs ?_
   have d1:Down lt p 1:=fun i j hij hj=>by
    have e1:i=0:=by omega
    have e2:j=0:=by omega
    rw[e1,e2];exact O.irr _
   exact d1.succ O (by omega) (O.asy _ _ hd)
theorem vj (O:Ord lt){p:Array Nat}{k:Nat}(U:Up lt p k):∀(f l r:Nat),r≤l+f→l≤r→r≤k→(∀i,i<l→lt (g p k) (g p i)=false)→(∀i,r≤i→i<k→lt (g p k) (g p i)=true)→
  run lt (kas_place p k f l r)≤k∧(∀i,i<run lt (kas_place p k f l r)→lt (g p k) (g p i)=false)∧(∀i,run lt (kas_place p k f l r)≤i→i<k→lt (g p k) (g p i)=true)
 |0,l,r,h1,h2,h3,ha,hb=>by
  show l≤k∧_
  exact⟨by omega,ha,fun i x y=>hb i (by have:l≤i:=x;omega) y⟩
 |f+1,l,r,h1,h2,h3,ha,hb=>by
  by_cases hlr:l≥r
  ·have er:run lt (kas_place p k (f+1) l r)=l:=by
    show run lt (if l≥r then _ else _)=_
    rw[if_pos hlr];rfl
   rw[er]
   exact⟨by omega,ha,fun i x y=>hb i (by omega) y⟩
  ·cases e:lt (p.getD k 0) (p.getD ((l+r) / 2) 0) with
   |true=>
    have er:run lt (kas_place p k (f+1) l r)=run lt (kas_place p k f l ((l+r) / 2)):=by
     show run lt (if l≥r then _ else _)=_
     rw[if_neg hlr]
     show run lt ((fun c=>if c=true then kas_place p k f l ((l+r) / 2) else kas_place p k f ((l+r) / 2+1) r) (lt (p.getD k 0) (p.getD ((l+r) / 2) 0)))=_
     rw[e];rfl
    rw[er]
    refine vj O U f l ((l+r) / 2) (by omega) (by omega) (by omega) ha fun i x y=>?_
    cases e3:lt (g p k) (g p i) with
    |true=>rfl
    |false=>
     have e4:lt (g p k) (g p ((l+r) / 2))=false:=O.tr _ _ _ (U ((l+r) / 2) i x y) e3
     have e5:lt (g p k) (g p ((l+r) / 2))=true:=e
     rw[e4] at e5;cases e5
   |false=>
    have er:run lt (kas_place p k (f+1) l r)=run lt (kas_place p k f ((l+r) / 2+1) r):=by
     show run lt (if l≥r then _ else _)=_
     rw[if_neg hlr]
     show run lt ((fun c=>if c=true then kas_place p k f l ((l+r) / 2) else kas_place p k f ((l+r) / 2+1) r) (lt (p.getD k 0) (p.getD ((l+r) / 2) 0)))=_
     rw[e];rfl
    rw[er]
    exact vj O U f ((l+r) / 2+1) r (by omega) (by omega) h3 (fun i hi=>O.tr _ _ _ (U i ((l+r) / 2) (by omega) (by omega)) e) hb
theorem oJ (O:Ord lt){p:Array Nat}{k l:Nat}(hk:k<p.size)(hl:l≤k)(U:Up lt p k)(ha:∀i,i<l→lt (g p k) (g p i)=false)(hb:∀i,l≤i→i<k→lt (g p k) (g p i)=true):Up lt (bubble p k (k-l)) (k+1):=by
 have gb:∀i,g (bubble p k (k-l)) i=if i=l then g p k else if l<i∧i≤k then g p (i-1) else g p i:=fun i=>by
  have h:=getElem?_bubble hk (k-l) (by omega) i
  have el:k-(k-l)=l:=by omega
  rw[el] at h
  by_cases c:i=l
  ·rw[if_pos c] at h ⊢;exact oW h
  ·rw[if_neg c] at h ⊢
   by_cases c2:l<i∧i≤k
   ·rw[if_pos c2] at h ⊢;exact oW h
   ·rw[if_neg c2] at h ⊢;exact oW h
 intro i j hij hj
 have gl:g (bubble p k (k-l)) l=g p k:=by rw[gb,if_pos rfl]
 have gm:∀i,l<i→i≤k→g (bubble p k (k-l)) i=g p (i-1):=fun i x y=>by rw[gb,if_neg (by omega),if_pos ⟨x,y⟩]
 have gs:∀i,i<l→g (bubble p k (k-l)) i=g p i:=fun i x=>by rw[gb,if_neg (by omega),if_neg (by omega)]
 rcases Nat.lt_trichotomy i l with hi|hi|hi
 ·rw[gs i hi]
  rcases Nat.lt_trichotomy j l with h|h|h
  ·rw[gs j h];exact U _ _ (by omega) (by omega)
  ·rw[h,gl];exact ha i hi
  ·rw[gm j h (by omega)];exact U _ _ (by omega) (by omega)
 ·rw[hi,gl]
  rcases Nat.lt_trichotomy j l with h|h|h
  ·omega
  ·rw[h,gl];exact O.irr _
  ·rw[gm j h (by omega)];exact O.asy _ _ (hb (j-1) (by omega) (by omega))
 ·rw[gm i hi (by omega),gm j (by omega) (by omega)]
  exact U _ _ (by omega) (by omega)
theorem nZ (O:Ord lt):∀(f:Nat) (p:Array Nat) (k:Nat),0<k→k+f≤p.size→Up lt p k→(run lt (kas_bin f p k)).size=p.size∧(run lt (kas_bin f p k)).Perm p∧Up lt (run lt (kas_bin f p k)) (k+f)
 |0,p,k,_,_,U=>⟨rfl,cH _,U⟩
 |f+1,p,k,hk,hs,U=>by
  obtain⟨a,b,c⟩:=vj O U k 0 k (by omega) (by omega) (by omega) (fun i hi=>by omega) (fun i x y=>by omega)
  have er:run lt (kas_bin (f+1) p k)=run lt (kas_bin f (bubble p k (k-run lt (kas_place p k k 0 k))) (k+1)):=by
   show run lt ((kas_place p k k 0 k).bind _)=_
   rw[run_bind]
  rw[er]
  obtain⟨x,y,z⟩:=nZ O f (bubble p k (k-run lt (kas_place p k k 0 k))) (k+1) (by omega) (by rw[bubble_size];omega) (oJ O (by omega) a U b c)
  have e:k+(f+1)=k+1+f:=by omega
  rw[e]
  exact⟨by rw[x,bubble_size],y.trans (bubble_perm _ _ _),z⟩
theorem lF (O:Ord lt){n:Nat}(h:0<n):(run lt (kas_sort n)).size=n∧(run lt (kas_sort n)).Perm (List.range n).toArray∧Up lt (run lt (kas_sort n)) n:=by
 obtain⟨p,m,e,a,b,c,d,u⟩:=nA O (p:=(List.range n).toArray) (nrem:=n) h (by simp)
 unfold kas_sort
 rw[run_bind,e]
 dsimp only
 have hs:p.size=n:=by rw[c];simp
 by_cases hm:m<n
 ·rw[if_pos hm]
  have em:max m 1=m:=by omega
  rw[em]
  obtain⟨x,y,z⟩:=nZ O (n-m) p m (by omega) (by omega) u
  refine⟨by rw[x,hs],y.trans d,?_⟩
  have e:m+(n-m)=n:=by omega
  rw[e] at z
  exact z
 ·rw[if_neg hm]
  have e:m=n:=by omega
  subst e
  exact⟨hs,d,u⟩
end SortA
namespace SortA
open PySem PySem.W PyProof.Rows
def yp {α:Type}(n:Nat)(P:α→Prop):KasT α→Prop
 |.ret a=>P a
 |.ask i j k=>i<n∧j<n∧∀b,yp n P (k b)
theorem yp.bind {α β:Type}{n:Nat}{P:α→Prop}{P':β→Prop}{f:α→KasT β}(h2:∀a,P a→yp n P' (f a)):∀t:KasT α,yp n P t→yp n P' (t.bind f)
 |.ret a,h=>h2 a h
 |.ask i j k,⟨a,b,c⟩=>⟨a,b,fun x=>yp.bind h2 (k x) (c x)⟩
def Bd (n:Nat)(p:Array Nat):Prop:=∀x∈p,x<n
theorem Bd.get {n:Nat}{p:Array Nat}(h:Bd n p)(hn:0<n)(i:Nat):p.getD i 0<n:=by
 by_cases hi:i<p.size
 ·have e:p.getD i 0=p[i]:=by simp[Array.getD,hi]
  rw[e];exact h _ (Array.getElem_mem hi)
 ·have e:p.getD i 0=0:=by simp[Array.getD,hi]
  rw[e];exact hn
theorem Bd.perm {n:Nat}{p q:Array Nat}(h:Bd n p)(e:q.Perm p):Bd n q:=fun x hx=>h x (e.mem_iff.mp hx)
theorem vn {n:Nat}{p:Array Nat}(B:Bd n p)(hn:0<n):∀f k,yp n (fun _=>True) (kas_asc p f k)
 |0,_=>trivial
 |f+1,k=>⟨B.get hn _,B.get hn _,fun b=>by
  cases b with
  |true=>exact trivial
  |false=>exact vn B hn f (k+1)⟩
theorem yX {n:Nat}(hn:0<n):∀f (p:Array Nat) k q,Bd n p→yp n (fun r:Array Nat×Nat×Nat=>Bd n r.1) (kas_desc f p k q)
 |0,_,_,_,B=>B
 |f+1,p,k,q,B=>⟨B.get hn _,B.get hn _,fun b=>by
  cases b with
  |true=>
   show yp n _ (if q > 0 then _ else _)
   split
   ·exact yX hn f _ _ _ (B.perm (zV _ _ _))
   ·exact yX hn f _ _ _ B
  |false=>
   refine⟨B.get hn _,B.get hn _,fun b=>?_⟩
   cases b with
   |true=>exact B
   |false=>exact yX hn f _ _ _ B⟩
theorem wM {n:Nat}{p:Array Nat}(B:Bd n p)(hn:0<n)(m r:Nat):yp n (fun r:Nat×Array Nat=>Bd n r.2) (kas_tail3 m r p):=by
 unfold kas_tail3
 refine yp.bind (P:=fun _=>True) (fun a _=>?_) _ (vn (B.perm (zV _ _ _)) hn _ _)
 exact B.perm (zV _ _ _)
theorem xk {n:Nat}{p:Array Nat}(B:Bd n p)(hn:0<n)(m r:Nat):yp n (fun r:Nat×Array Nat=>Bd n r.2) (kas_descPart m r p):=
 yp.bind (fun a ha=>by
  split
  ·exact wM (Bd.perm ha (zV _ _ _)) hn _ _
  ·exact wM ha hn _ _) _ (yX hn _ _ _ _ B)
theorem sQ {n:Nat}{p:Array Nat}(B:Bd n p)(hn:0<n)(r:Nat):yp n (fun r:Nat×Array Nat=>Bd n r.2) (kas_count r p):=
 yp.bind (fun a _=>by
  split
  ·exact B
  ·split
   ·refine⟨B.get hn _,B.get hn _,fun b=>?_⟩
    cases b with
    |true=>exact B
    |false=>exact xk (B.perm (zV _ _ _)) hn _ _
   ·exact xk B hn _ _) _ (vn B hn _ _)
theorem xq {n:Nat}{p:Array Nat}(B:Bd n p)(hn:0<n)(k:Nat):∀f l r,yp n (fun _=>True) (kas_place p k f l r)
 |0,_,_=>trivial
 |f+1,l,r=>by
  show yp n _ (if l≥r then _ else _)
  split
  ·exact trivial
  ·refine⟨B.get hn _,B.get hn _,fun b=>?_⟩
   cases b with
   |true=>exact xq B hn k f _ _
   |false=>exact xq B hn k f _ _
theorem sk {n:Nat}(hn:0<n):∀f (p:Array Nat) k,Bd n p→yp n (fun _=>True) (kas_bin f p k)
 |0,_,_,_=>trivial
 |f+1,p,k,B=>yp.bind (fun l _=>sk hn f _ _ (B.perm (bubble_perm _ _ _))) _ (xq B hn k _ _ _)
theorem oy {n:Nat}(hn:0<n):yp n (fun _=>True) (kas_sort n):=
 yp.bind (fun a ha=>by
  split
  ·exact sk hn _ _ _ ha
  ·exact trivial) _ (sQ (fun x hx=>by simpa using hx) hn n)
theorem wp_run {α:Type}{n:Nat}{P:α→Prop}{cmp:Nat→Nat→(Bool→Shared→Prop)→Shared→Prop}{lt:Nat→Nat→Bool}{Q:α→Shared→Prop}{s:Shared}(hc:∀i j C,i<n→j<n→C (lt i j) s→cmp i j C s):
  ∀t:KasT α,yp n P t→Q (run lt t) s→t.kasWp cmp Q s
 |.ret _,_,h=>h
 |.ask i j k,⟨a,b,c⟩,h=>hc i j _ a b (wp_run hc (k (lt i j)) (c _) h)
def at2 (ps:List (Int×Int))(i:Nat):Int×Int:=ps.getD i (0,0)
end SortA
namespace L2
open PySem PySem.Spec PySem.Calls PySem.W PyProof.Rows SortA
section
variable {prog:Program}{w:World}{A:Around}{E:Value→Shared→Prop}{s:Shared}
def Prs (h:Heap):List Value→List (Int×Int)→Prop
 |[],[]=>True
 |v::vs,p::ps=>(∃a o t u n,v=.ref a∧h.get? a=some o∧o.cls=.type "tuple"∧o.data=.seq #[.int p.1 t,.int p.2 u] n)∧Prs h vs ps
 |_,_=>False
theorem Prs.len {h:Heap}:∀{vs:List Value} {ps:List (Int×Int)},Prs h vs ps→vs.length=ps.length
 |[],[],_=>rfl
 |[],_::_,h=>h.elim
 |_::_,[],h=>h.elim
 |_::_,_::_,⟨_,h⟩=>by simp[Prs.len h]
theorem Prs.at {h:Heap}:∀{vs:List Value} {ps:List (Int×Int)} (i:Nat),Prs h vs ps→i<ps.length→∃a o t u n,vs.getD i Value.none=.ref a∧h.get? a=some o∧o.cls=.type "tuple"∧o.data=.seq #[.int (at2 ps i).1 t,.int (at2 ps i).2 u] n
 |[],[],_,_,hi=>by simp at hi
 |[],_::_,_,h,_=>h.elim
 |_::_,[],_,h,_=>h.elim
 |_::_,_::_,0,⟨x,_⟩,_=>x
 |_::_,_::_,i+1,⟨_,r⟩,hi=>by
  obtain⟨a,o,t,u,n,e,q⟩:=Prs.at i r (by simpa using hi)
  exact⟨a,o,t,u,n,by simpa using e,q⟩
end
inductive PrV (H:Hp):List V→List (Int×Int)→Prop where
 |nil:PrV H [] []
 |cons {a:Addr} {xs:List V} {p:Int×Int} {ps:List (Int×Int)}:H a=some (.tup [.int p.1,.int p.2])→PrV H xs ps→PrV H (.ref a::xs) (p::ps)
section
variable {X:Cx}{pins:List (Addr×Obj)}{σ:St}{H H':Hp}{s:Shared}
theorem PrV.keep {xs:List V}{ps:List (Int×Int)}(k:∀a p q,H a=some (.tup [.int p,.int q])→H' a=some (.tup [.int p,.int q]))(h:PrV H xs ps):PrV H' xs ps:=by
 induction h with
 |nil=>exact .nil
 |cons e _ ih=>exact .cons (k _ _ _ e) ih
theorem PrV.prs (I:Inv X pins σ H s):∀{xs:List V} {ps:List (Int×Int)} {us:List Value},PrV H xs ps→Vals xs us→Prs s.heap us ps:=by
 intro xs ps us h
 induction h generalizing us with
 |nil=>intro r;cases r;exact trivial
 |@cons a xs p ps e _ ih=>
  intro r
  cases r with
  |cons r rr=>
   cases (show _=Value.ref a from r)
   obtain⟨_,its,vi,o,ho,hc,n,hd⟩:=(show zw X.prog X.w H s.heap a (.tup [.int p.1,.int p.2]) from I.hok a _ e)
   obtain⟨u,v,rfl,⟨t,rfl⟩,⟨t',rfl⟩⟩:=Vals.two vi
   exact⟨⟨a,o,t,t',n,rfl,ho,hc,hd⟩,ih rr⟩
theorem mV {xs:List V}{us:List Value}(r:Vals xs us):∀i x,xs[i]?=some x→RelV x (us.getD i Value.none):=by
 induction r with
 |nil=>intro i x h;simp at h
 |cons e _ ih=>
  intro i x h
  cases i with
  |zero=>have h':=dz (by simpa using h);subst h';exact e
  |succ i=>exact ih i x (by simpa using h)
end
end L2
namespace Days
abbrev Sp2 :=Int×Int
end Days
namespace L2
open PySem PySem.Spec PyProof.Rows Days
def dP (p:Sp2):PyData:=.tuple [.int p.1,.int p.2]
theorem qB {H:Hp}:∀{ps:List Sp2} {xs:List V},AVs H xs (ps.map dP)→PrV H xs ps
 |[],_,.nil=>.nil
 |p::ps,_,.cons h r=>by
  obtain⟨a,ys,rfl,h1,h2⟩:=AV.tup_inv (ds:=[.int p.1,.int p.2]) h
  cases h2 with
  |cons g1 h2=>
   cases h2 with
   |cons g2 h2=>
    cases h2
    cases g1.int_inv;cases g2.int_inv
    exact .cons h1 (qB r)
theorem xQ (ps:List Sp2):(PyData.list (ps.map dP)).hasDict=false:=by
 have:PyData.hasDictAll (ps.map dP)=false:=by
  induction ps with
  |nil=>rfl
  |cons p ps ih=>simp only[dG,PyData.hasDictAll,ih,Bool.or_false];rfl
 simp only[PyData.hasDict,this]
theorem xZ (ps:List Sp2):SeqAt.shaped (.list (ps.map dP))=true:=by
 have h1:PyData.canLayAll0 (ps.map dP)=true:=by
  induction ps with
  |nil=>rfl
  |cons p ps ih=>simp only[dG,PyData.canLayAll0,ih,Bool.and_true];rfl
 have h2:PyData.depthAll (ps.map dP)≤1:=by
  clear h1
  induction ps with
  |nil=>exact dM _
  |cons p ps ih=>
   simp only[dG,PyData.depthAll]
   have:(dP p).depth=1:=rfl
   omega
 simp[SeqAt.shaped,PyData.canLay0,PyData.depth,h1]
 omega
section
variable {X:Cx}{α:Ev}{e a b c tg:Expr}{pos p:Pos}{Q:PyData→Prop}{E:zS}{sts:List Stmt}
end
section
variable {X:Cx}{α:Ev}{tg:Expr}{pos p:Pos}{E:zS}{sts body:List Stmt}
end
section
variable {X:Cx}
end
section
variable {X:Cx}{α:Ev}{o e:Expr}{es:List Expr}{pos apos p:Pos}{Q:PyData→Prop}{C:Addr}{f m:Str}
end
section
variable {P:Program}{w:World}{K:PySem.W.Frag}{mg:Str→Option Value}{base:Heap}
end
section
variable {X:Cx}{α:Ev}{e e':Expr}{pos:Pos}{E:zS}{sts:List Stmt}
def xi {α:Type}(l:List α)(x:Int)(y:α):List α:=l.take (if x<0 then (x+(l.length:Int)).toNat else min x.toNat l.length)++y::l.drop (if x<0 then (x+(l.length:Int)).toNat else min x.toNat l.length)
theorem su {α:Type}(l:List α)(x:Int)(y:α):(xi l x y).length=l.length+1:=by
 unfold xi
 rw[eW,df,dN,cC]
 omega
theorem Vals.ins {xs:List V}{us:List Value}{y:V}{u:Value}(r:Vals xs us)(ry:RelV y u)(i:Int):Vals (xi xs i y) (xi us i u):=by
 unfold xi
 rw[r.length]
 exact (r.take _).append (.cons ry (r.drop _))
theorem AVs.ins {H:Hp}{xs:List V}{ds:List PyData}{y:V}{d:PyData}(r:AVs H xs ds)(ry:AV H y d)(i:Int):AVs H (xi xs i y) (xi ds i d):=by
 unfold xi
 rw[r.length]
 exact (r.take _).append (.cons ry (r.drop _))
theorem kK (l:List Value)(k:Nat)(y:Value):(l.toArray.extract 0 k).push y++l.toArray.extract k=(l.take k++y::l.drop k).toArray:=by
 apply Array.toList_inj.mp
 simp
 exact aa (by simp)
def lB :V→List V→Hp→VK→Prop:=fun x vs H Q=>∃l xs i y,x=.ref l∧vs=[.int i,y]∧H l=some (.lst xs)∧-(2 ^ 63)≤i∧i<2 ^ 63∧xs.length<sizeLine∧Q .non (upd H l (.lst (xi xs i y)))
theorem pf :MtM X "list.insert" lB:=by
 intro pins s σ H x vs v us Q I rx rv h
 obtain⟨l,xs,i,y,rfl,rfl,hH,h1,h2,hz,q⟩:=h
 cases rx
 obtain⟨u,u2,rfl,ru,ru2⟩:=rv.two
 obtain⟨t,rfl⟩:=ru
 obtain⟨z,its,n,r,hl,e⟩:=I.lstM hH
 refine call_meets F.slot_list_insert ⟨_,e,rfl⟩ F.entry_list_insert (F.args_list_insert_3 _ _ _)
  (PySem.AutoSeq1.list_insert_list_int_val_1 l its.toArray n i t u2 (by
   have:=fitsIndex_both h1 h2
   simp[this]) (by rw[eP];omega)) ⟨e,?_⟩
 refine⟨.non,_,I.lset (its':=xi its i u2) hH e ?_ (r.ins ru2 i) (by rw[su];omega),rfl,q⟩
 show (its.toArray.extract 0 (if i<0 then (i+(its.toArray.size:Int)).toNat else min i.toNat its.toArray.size)).push u2++its.toArray.extract (if i<0 then (i+(its.toArray.size:Int)).toNat else min i.toNat its.toArray.size)=(xi its i u2).toArray
 rw[kK,eP]
 rfl
theorem pU (i:Nat){x:Str}{ds:List PyData}{p1 p2 p3:Pos}(hi:α[i]?=some (some (.own ds)))(h:EvD X α e fun k=>EvD X α e' fun d=>∃j,k=.int j∧-(2 ^ 63)≤j∧j<2 ^ 63∧ds.length<1000∧SvS X (α.set i (some (.own (xi ds j d)))) sts E)
  (hN:X.N[i]?=some x:=by rfl) (hv:Vis X.env.scope x:=by first|exact Or.inl rfl|exact Or.inr (Or.inl rfl)|exact Or.inr (Or.inr rfl)) (hd:(x == ("__debug__":Str))=false:=by decide) (hcd:(x == ("__classdict__":Str))=false:=by decide)
  (hbase:attributeBase (.Name x p1) "insert" X.env (eval (.Name x p1) X.env)=eval (.Name x p1) X.env:=by rfl) (hs:starEach [e,e'] X.env=(false,eval e X.env)::starEach [e'] X.env:=by rfl) (hs2:starEach [e'] X.env=(false,eval e' X.env)::starEach [] X.env:=by rfl)
  (hpl:((((backTo p3 (starEach [e,e'] X.env)).all fun x=>!x.fst)&&(backToKw p3 (keywordEach [] X.env)).all fun x=>x.fst.isSome)&&decide (([e,e'].length+([]:List Keyword).length+if ([]:List Keyword).isEmpty=true then 0 else 1)<30))=true:=by rfl)
  (hline:(p2.endLine == p3.line)=true:=by rfl) (hpl2:(backTo p3 (starEach [e'] X.env)).any (·.1)=false:=by rfl) (hsw:swapsWith (.Call (.Attribute (.Name x p1) "insert" p2) [e,e'] [] p3) none pos.line X.env=pure false:=by rfl):SvS X α (.Expr (.Call (.Attribute (.Name x p1) "insert" p2) [e,e'] [] p3) pos::sts) E:=fun F σ H D m r=>by
 obtain⟨l,xs,h1,h2,h3,h4,h5⟩:=m.own i ds hi
 refine⟨_,zu (tE (qM bS PySem.F.slot_list_insert PySem.F.type_list_insert pf (yH hN hv hd hcd) (zk zd (zk zd zD hs2) hs) hbase hpl hline hs hpl2) hsw) zA,?_⟩
 refine⟨.ref l,h1,.inl ⟨rfl,_,SqL.of h2⟩,?_⟩
 refine h F σ H _ m fun k vk H1 q1 t1 k1 r1=>?_
 have m1:=m.kz k1 t1
 refine q1 F σ H1 _ m1 fun d v H2 q2 t2 k2 r2=>?_
 have m2:=m1.kz k2 t2
 obtain⟨j,rfl,b1,b2,hl,q⟩:=q2
 cases r1.int_inv
 refine⟨l,xs,j,v,rfl,rfl,k2 _ _ (k1 _ _ h2 (m.tp.nt h4)) (m.tp.nt h4),b1,b2,by rw[h3.length];exact zO (cB hl),?_⟩
 exact q F σ _ D (m2.wrOwn hi h1 ((((h3.same (k1.gz m.tp)).same (k2.gz m1.tp))).ins r2 j)) r
end
section
variable {X:Cx}{α:Ev}{tg:Expr}{p pos:Pos}{a:Expr}
end
section
variable {X:Cx}{α:Ev}{p pos:Pos}{a:Expr}{g:Str}{Q:PyData→Prop}
end
section
variable {X:Cx}{α:Ev}{p pos:Pos}{a b:Expr}{g:Str}{Q:PyData→Prop}
end
section
variable {X:Cx}{α:Ev}{p pos:Pos}{a b:Expr}{Q:PyData→Prop}
end
section
variable {X:Cx}{α:Ev}{a e:Expr}{pos p2 p3 p4:Pos}{n1:Nat}{te:TE}
end
section
variable {X:Cx}{pins:List (Addr×Obj)}{σ:St}{H:Hp}{s:Shared}
end
section
variable {X:Cx}{α:Ev}{p q pos:Pos}{a b:Expr}
theorem wO {G:Hp}:∀ns:List Int,AVs G (ns.map V.int) (ns.map .int)
 |[]=>.nil
 |n::ns=>.cons (.int n) (wO ns)
end
section
variable {X:Cx}{α:Ev}{p pos:Pos}{a b:Expr}{Q:PyData→Prop}
end
open PySem.W SortA
section
variable {P:Program}{w:World}{K:PySem.W.Frag}{mg:Str→Option Value}{base:Heap}
end
section
variable {X:Cx}{α:Ev}{Q:PyData→Prop}{a b:Expr}{pos:Pos}
end
open PySem (IsZip)
section
variable {prog:Program}{w:World}{A:Around}{E:Value→Shared→Prop}{s:Shared}
end
section
variable {X:Cx}{pins:List (Addr×Obj)}{σ:St}{H:Hp}{s:Shared}
end
section
variable {prog:Program}{w:World}{A:Around}{E:Value→Shared→Prop}{s:Shared}
end
section
variable {X:Cx}{pins:List (Addr×Obj)}{σ:St}{H:Hp}{s:Shared}
end
section
variable {X:Cx}{pins:List (Addr×Obj)}{σ:St}{H:Hp}{s:Shared}
variable {a b c:Expr}{p p0 pos pos2:Pos}
end
section
variable {X:Cx}{α:Ev}{a b c:Expr}{p p0 pos pos2:Pos}
end
section
variable {κ:Type}[DecidableEq κ]
def vK (kvs:List (κ×V))(k:κ):Option V:=(kvs.find? fun kv=>decide (kv.1=k)).map (·.2)
theorem wL {p:κ×V}{r:List (κ×V)}{k:κ}(e:p.1=k):vK (p::r) k=some p.2:=by simp[vK,bW,e]
theorem wQ {p:κ×V}{r:List (κ×V)}{k:κ}(e:¬p.1=k):vK (p::r) k=vK r k:=by simp[vK,bW,e]
theorem KV.val {kvs:List (κ×V)}{vs:List (κ×Value)}(r:KV kvs vs)(k:κ):uF (vK kvs k) (valueAt vs k):=by
 unfold KV at r
 induction r with
 |nil=>exact True.intro
 |@cons p q ps qs h t ih=>
  obtain⟨h1,h2⟩:=h
  by_cases e:p.1=k
  ·have e':q.1=k:=h1.symm.trans e
   have b:valueAt (q::qs) k=some q.2:=by simp[valueAt,bW,e']
   rw[wL e,b];exact h2
  ·have e':¬q.1=k:=fun z=>e (h1.trans z)
   have b:valueAt (q::qs) k=valueAt qs k:=by simp[valueAt,bW,e']
   rw[wQ e,b];exact ih
end
theorem jF {P:Program}{w:World}{k:Key}{u:Value}(r:RelV (kV k) u):(zW P w).is k u=true:=by
 cases k with
 |inl i=>obtain⟨t,e⟩:=(show ∃t,u=Value.int i t from r);subst e;exact sD P w i t
 |inr x=>obtain⟨t,e⟩:=(show ∃t,u=Value.str x t from r);subst e;exact sf P w x t
theorem vV {P:Program}{w:World}:∀{ks:List Key} {us:List Value},Vals (ks.map kV) us→ItemsAre (zW P w) ks us
 |[],_,r=>by rw[List.map_nil] at r;cases r;exact .nil
 |k::ks,_,r=>by
  rw[dG] at r
  cases r with
  |cons h t=>exact .cons (jF h) (vV t)
abbrev KT (H:Hp):List (List Key×V)→List (List Key×Addr×Value)→Prop:=Paired fun p q=>p.1=q.1∧H q.2.1=some (.tup (p.1.map kV))∧RelV p.2 q.2.2
theorem KT.val {H:Hp}{kvs:List (List Key×V)}{xs:List (List Key×Addr×Value)}(r:KT H kvs xs)(k:List Key):uF (vK kvs k) ((atKey xs k).map (·.2)):=by
 induction r with
 |nil=>exact True.intro
 |@cons p q ps qs h t ih=>
  obtain⟨h1,_,h2⟩:=h
  by_cases e:p.1=k
  ·have e':q.1=k:=h1.symm.trans e
   have b:atKey (q::qs) k=some q.2:=by simp[atKey,bW,e']
   rw[wL e,b];exact h2
  ·have e':¬q.1=k:=fun z=>e (h1.trans z)
   have b:atKey (q::qs) k=atKey qs k:=by simp[atKey,bW,e']
   rw[wQ e,b];exact ih
section
variable {P:Program}{w:World}{H:Hp}{h:Heap}{a:Addr}
theorem ju {u:HO}(ok:HOk P w H h)(e:Rd H a u):zw P w H h a u:=e.ok ok
theorem js {kvs:List (Key×V)}(ok:HOk P w H h)(e:Rd H a (.dK kvs)):kvs.length≤sizeLine∧(a == sysModules)=false∧∃vs,KV kvs vs∧h.DictOf (zW P w) a vs:=
 show zw P w H h a (.dK kvs) from ju ok e
theorem nT {ks:List Key}(ok:HOk P w H h)(e:H a=some (.tup (ks.map kV))):(tupleKind (zW P w)).is h ks a:=by
 obtain⟨_,its,r,o,h1,h2,n,h3⟩:=(show zw P w H h a (.tup (ks.map kV)) from ok a _ e)
 exact⟨o,its.toArray,n,h1,h2,h3,by simpa using vV r⟩
theorem jt {kvs:List (List Key×V)}(ok:HOk P w H h)(e:Rd H a (.dT kvs)):kvs.length≤sizeLine∧(a == sysModules)=false∧
  ∃xs,KT H kvs xs∧h.DictOfH (tupleKind (zW P w)) a xs:=by
 obtain⟨z,y,xs,r,o,es,ep,h1,h2,h3,h4,h5⟩:=(show zw P w H h a (.dT kvs) from ju ok e)
 refine⟨z,y,xs,r,o,es,ep,h1,h2,h3,h4,fun x hx=>?_,h5⟩
 have all:∀{l:List (List Key×V)} {m:List (List Key×Addr×Value)},KT H l m→∀x∈m,(tupleKind (zW P w)).is h x.1 x.2.1:=by
  intro l m q
  induction q with
  |nil=>intro x hx;exact nomatch hx
  |@cons p q ps qs hq t ih=>
   intro x hx
   rcases eJ.mp hx with e|hx
   ·subst e
    exact nT ok (by rw[←hq.1];exact hq.2.1)
   ·exact ih x hx
 exact all r x hx
end
def hV (H:Hp)(a:Addr)(y:V)(r:Option V):Prop:=
 (∃kvs k,Rd H a (.dK kvs)∧y=kV k∧r=vK kvs k)∨∃kvs k b,Rd H a (.dT kvs)∧y=.ref b∧H b=some (.tup (k.map kV))∧r=vK kvs k
section
variable {X:Cx}{pins:List (Addr×Obj)}{σ:St}{H:Hp}{s:Shared}{a:Addr}{y v:V}{u r:Value}{o:Option V}{A:Around}{E:Value→Shared→Prop}
theorem ou {Q:Value→Shared→Prop}(hu:A.units+1<cLine)(I:Inv X pins σ H s)(g:hV H a y (some v))(ry:RelV y u)(h:∀w' s',Inv X pins σ H s'→RelV v w'→Q w' s'):
  wpAny (model X.prog X.w) A (getItem (.ref a) u) Q E s:=by
 rcases g with ⟨kvs,k,e,ey,l⟩|⟨kvs,k,b,e,ey,eb,l⟩
 ·subst ey
  obtain⟨z,hd,vs,rel,dd⟩:=js I.hok e
  obtain⟨w',hw,rw'⟩:=uF.some_of (v:=v) (o:=valueAt vs k) (by rw[l];exact rel.val k)
  exact wpAny_getItem_of (jF ry) dd.mapOf hw (h w' _ (I.tok _) rw')
 ·subst ey
  cases (show u=Value.ref b from ry)
  obtain⟨z,hd,xs,rel,dd⟩:=jt I.hok e
  obtain⟨w',hw,rw'⟩:=uF.some_of (v:=v) (o:=(atKey xs k).map (·.2)) (by rw[l];exact rel.val k)
  obtain⟨p,hp,hp2⟩:=dB.mp hw
  refine wpAny_getItem_heap (tupleKind_room_in1 hu) (nT I.hok eb) dd hp ?_
  rw[hp2]
  exact h w' _ (I.tok _) rw'
end
section
variable {X:Cx}{pins:List (Addr×Obj)}{σ:St}{H:Hp}{s:Shared}{a:Addr}{kvs:List (Key×V)}{k:Key}{u:Value}{A:Around}{E:Value→Shared→Prop}
end
theorem tT {X:Cx}{pins:List (Addr×Obj)}{σ:St}{H:Hp}{s:Shared}{a:Addr}{y:V}{o:Option V}(I:Inv X pins σ H s)(g:hV H a y o):s.TypeIs (.ref a) "dict":=by
 rcases g with ⟨kvs,k,e,_,_⟩|⟨kvs,k,b,e,_,_,_⟩
 ·obtain⟨_,_,vs,_,dd⟩:=js I.hok e
  exact dd.typeIs
 ·obtain⟨_,_,xs,_,dd⟩:=jt I.hok e
  exact dd.typeIs
section
variable {X:Cx}{o i e value:Expr}{pos pos' tpos:Pos}{td ty tv:TE}
end
section
variable {X:Cx}{pos:Pos}
end
section
variable {X:Cx}{pins:List (Addr×Obj)}{σ:St}{H:Hp}{s:Shared}{a:Addr}{y d:V}{u r:Value}{o:Option V}{A:Around}{E:Value→Shared→Prop}
end
section
variable {X:Cx}{o e f:Expr}{apos cpos:Pos}{td ty tx:TE}
end
section
variable {X:Cx}{pins:List (Addr×Obj)}{σ:St}{H:Hp}{s:Shared}{a:Addr}{kvs:List (Key×V)}{A:Around}{E:Value→Shared→Prop}
end
section
variable {X:Cx}{pins:List (Addr×Obj)}{σ:St}{H:Hp}{s:Shared}{a:Addr}{y:V}{u:Value}{A:Around}{E:Value→Shared→Prop}
end
def kEq :PyData→Key→Bool
 |.int i,.inl j=>decide (i=j)
 |.str x,.inr y=>decide (x=y)
 |_,_=>false
theorem mM (k j:Key):kEq (oH k) j=decide (k=j):=by
 cases k<;>cases j<;>simp[kEq,oH]
def kJ :List (PyData×PyData)→Key→Option PyData
 |[],_=>none
 |(p,d)::r,k=>if kEq p k=true then some d else kJ r k
theorem AVk.get {H:Hp}:∀{kvs:List (Key×V)} {ds:List (PyData×PyData)} {k:Key} {d:PyData},AVk H kvs ds→kJ ds k=some d→∃v,vK kvs k=some v∧AV H v d
 |_,_,k,d,.nil,e=>by cases e
 |_,_,k,d,.cons (k:=j) h r,e=>by
  unfold kJ at e
  rw[mM] at e
  by_cases z:j=k
  ·rw[dW z,if_pos rfl] at e
   cases e
   exact⟨_,wL z,h⟩
  ·rw[eZ z,if_neg (by decide)] at e
   rw[wQ z]
   exact AVk.get r e
theorem lU {H:Hp}{v:V}{k:Key}(h:AV H v (oH k)):v=kV k:=by
 cases k with
 |inl i=>exact h.int_inv
 |inr x=>exact h.str_inv
theorem AV.dk_inv {H:Hp}{v:V}{ds:List (PyData×PyData)}(h:AV H v (kT ds)):∃a o kvs,v=.ref a∧H a=some (.frz o (.dK kvs))∧AVk H kvs ds:=by
 generalize e:kT ds=d at h
 cases h with
 |dk h1 h2=>cases e;exact⟨_,_,_,rfl,h1,h2⟩
 |_=>cases e
section
variable {X:Cx}{pins:List (Addr×Obj)}{σ:St}{H:Hp}{s:Shared}{l:Addr}{kvs:List (Key×V)}
end
section
variable {X:Cx}{e:Expr}{sts:List Stmt}
end
section
variable {X:Cx}{α:Ev}{e a b:Expr}{pos p:Pos}{Q:PyData→Prop}
end
section
variable {X:Cx}{α:Ev}{e a b:Expr}{pos p:Pos}{Q:PyData→Prop}
end
section
variable {X:Cx}{tg:Expr}
end
section
variable {X:Cx}{α:Ev}{e a b tg:Expr}{pos p:Pos}{Q:List PyData→Prop}
end
mutual
def ltD :PyData→PyData→Option Bool
 |.int a,.int b=>some (decide (a<b))
 |.str a,.str b=>some (decide (a.cps.toList<b.cps.toList))
 |.tuple xs,.tuple ys=>gR xs ys
 |_,_=>none
def gR :List PyData→List PyData→Option Bool
 |[],[]=>some false
 |[],_::_=>some true
 |_::_,[]=>some false
 |x::xs,y::ys=>if PyData.eqv x y=true then gR xs ys else ltD x y
end
section
open PySem.SeqAt
open PySem.AutoSeq1 (wpAny_loadPart')
open PySem.MeetsSeq PySem.MeetsSeq2 PySem.MeetsSeq3
end
section
variable {prog:Program}{w:World}{A:Around}{R:Result→Shared→Prop}{it:Addr}{fp wr:List Addr}{m:Nat}{P:Nat→Value→Prop}{St:Nat→Heap→Prop}
end
section
variable {prog:Program}{w:World}{A:Around}{E:Value→Shared→Prop}{s:Shared}
end
section
variable {X:Cx}{α:Ev}{e:Expr}{pos p:Pos}{Q:PyData→Prop}
def uY :List Int→Int
 |[]=>0
 |z::zs=>zs.foldl (fun b x=>if b<x then x else b) z
theorem pB (d:Int)(ds:List Int)(x:Int):uY (d::(ds++[x]))=if uY (d::ds)<x then x else uY (d::ds):=by
 show List.foldl _ d (ds++[x])=_
 rw[List.foldl_append]
 rfl
def rj (zs:List Int)(i j:Nat):Bool:=decide (zs.getD i 0 > zs.getD j 0)
theorem lX {zs:List Int}{i j:Nat}{x y:Int}(h1:zs[i]?=some x)(h2:zs[j]?=some y):rj zs i j=decide (y<x):=by
 unfold rj
 rw[dh,dh,h1,h2]
 rfl
theorem mK (zs:List Int):∀k,k<zs.length→zs[argBest (rj zs) k]?=some (uY (zs.take (k+1))):=by
 intro k
 induction k with
 |zero=>
  intro h
  cases zs with
  |nil=>simp at h
  |cons d ds=>simp[argBest,uY]
 |succ k ih=>
  intro h
  have ih':=ih (by omega)
  cases zs with
  |nil=>simp at h
  |cons d ds=>
   have hx:(d::ds)[k+1]?=some (d::ds)[k+1]:=eL h
   have tk:(d::ds).take (k+1+1)=d::(ds.take k++[(d::ds)[k+1]]):=by
    have hk:k<ds.length:=by simpa using h
    rw[List.take_succ_cons,aO,eL hk]
    rfl
   have tk':(d::ds).take (k+1)=d::ds.take k:=List.take_succ_cons
   rw[tk,pB,←tk']
   have e:rj (d::ds) (k+1) (argBest (rj (d::ds)) k)=decide (uY ((d::ds).take (k+1))<(d::ds)[k+1]):=lX hx ih'
   simp only[argBest]
   rw[e]
   by_cases z:uY ((d::ds).take (k+1))<(d::ds)[k+1]
   ·rw[dW z,if_pos rfl,if_pos z];exact hx
   ·rw[eZ z,if_neg (by decide),if_neg z];exact ih'
theorem AVs.intsV {H:Hp}:∀{xs:List V} {zs:List Int},AVs H xs (zs.map .int)→xs=zs.map V.int
 |_,[],.nil=>rfl
 |_,z::zs,.cons h r=>by rw[h.int_inv,AVs.intsV r];rfl
end
section
variable {prog:Program}{w:World}{A:Around}{E:Value→Shared→Prop}{s:Shared}{it l:Addr}{items:Array Value}
end
section
variable {X:Cx}{α:Ev}{a e c:Expr}{p p0 pos pos2:Pos}{Q:List PyData→Prop}
end
def pN (Q:PyData→Prop):List PyData→Prop
 |[]=>True
 |d::r=>Q d∧pN Q r
theorem pN.mem {Q:PyData→Prop}:∀{ds:List PyData},pN Q ds→∀d∈ds,Q d
 |[],_,d,h=>by cases h
 |x::r,h,d,hd=>by
  rcases eJ.mp hd with rfl|hd
  ·exact h.1
  ·exact pN.mem h.2 d hd
theorem nQ {x:PyData}{ds:List PyData}{v:Int}{Q:PyData→Prop}(P:PyData→Prop)(hx:xO x=some ds)(h0:0≤v)(h1:v<ds.length)(h:pN P ds)(k:∀d,P d→Q d):∃ds i d,xO x=some ds∧PyData.int v=.int i∧atI ds i=some d∧Q d:=by
 obtain⟨d,hd,e⟩:=gU h0 h1
 exact⟨ds,v,d,hx,rfl,e,k d (h.mem d hd)⟩
section
variable {X:Cx}{α:Ev}{e a b:Expr}{pos p:Pos}{E:zS}{rest:List Stmt}
end
def gJ :R2:=fun x y H R=>rEq x y H R∨fe x y H R
def ff :R2:=fun x y H R=>rNe x y H R∨gE x y H R
theorem lq {X:Cx}(hu:X.A.units+64<cLine):OpR X (compareOp .Eq) gJ:=fun pins s σ H x y v u Q I rx ry h=>h.elim (fun h=>gQ _ _ _ _ _ _ _ _ _ I rx ry h) fun h=>jT hu _ _ _ _ _ _ _ _ _ I rx ry h
theorem jY {X:Cx}(hu:X.A.units+64<cLine):OpR X (compareOp .NotEq) ff:=fun pins s σ H x y v u Q I rx ry h=>h.elim (fun h=>gB _ _ _ _ _ _ _ _ _ I rx ry h) fun h=>ic hu _ _ _ _ _ _ _ _ _ I rx ry h
def pK (x y:PyData)(Q:Bool→Prop):Prop:=∃k,Cmp gJ x y k∧Cmp ff x y (!k)∧Q k
theorem jl {i j:Int}{Q:Bool→Prop}(h:Q (decide (i=j))):pK (.int i) (.int j) Q:=⟨_,fun p H vx vy R rx ry z=>.inl (lE p H vx vy R rx ry z),fun p H vx vy R rx ry z=>.inl (lQ p H vx vy R rx ry z),h⟩
theorem eqk {x y:PyData}{Q:Bool→Prop}(s1:SeqAt.shaped x=true)(s2:SeqAt.shaped y=true)(d1:x.hasDict=false)(d2:y.hasDict=false)(h:Q (PyData.eqv x y)):pK x y Q:=
 ⟨_,fun p H vx vy R rx ry z=>.inr ⟨x,y,(rx.dv d1).same yT,(ry.dv d2).same yT,s1,s2,z⟩,fun p H vx vy R rx ry z=>.inr ⟨x,y,(rx.dv d1).same yT,(ry.dv d2).same yT,s1,s2,z⟩,h⟩
section
variable {X:Cx}{α:Ev}{a b:Expr}{pos:Pos}{Q:PyData→Prop}{T:Bool→Prop}
theorem mq (hu:X.A.units+64<cLine)(h:EvD X α a fun x=>EvD X α b fun y=>pK x y fun k=>Q (.bool k)):EvD X α (.Compare a [.Eq] [b] pos) Q:=ie (lq hu) (xx _) (h.imp fun x h=>h.imp fun y ⟨k,e,_,q⟩=>⟨k,e,q⟩)
theorem jN (hu:X.A.units+64<cLine)(h:EvD X α a fun x=>EvD X α b fun y=>pK x y T):EvT X α (.Compare a [.Eq] [b] pos) T:=rk (lq hu) (xx _) (h.imp fun x h=>h.imp fun y ⟨k,e,_,q⟩=>⟨k,e,q⟩)
theorem rf (hu:X.A.units+64<cLine)(h:EvD X α a fun x=>EvD X α b fun y=>pK x y fun k=>T (!k)):EvT X α (.Compare a [.NotEq] [b] pos) T:=rk (jY hu) (xx _) (h.imp fun x h=>h.imp fun y ⟨k,_,e,q⟩=>⟨!k,e,q⟩)
theorem jA {k:Bool}{p q:Prop}(e:k=true)(h:p):if k=true then p else q:=by rw[if_pos e];exact h
theorem jB {k:Bool}{p q:Prop}(e:k=false)(h:q):if k=true then p else q:=by rw[if_neg (by rw[e];decide)];exact h
variable {E:zS}{s t:List Stmt}
theorem qD {k:Bool}(e:k=true)(h:SvS X α s E):SvS X α (if k=true then s else t) E:=by rw[if_pos e];exact h
theorem xg {k:Bool}(e:k=false)(h:SvS X α t E):SvS X α (if k=true then s else t) E:=by rw[if_neg (by rw[e];decide)];exact h
end
section
variable {X:Cx}{α:Ev}{a b:Expr}{pos:Pos}{Q:PyData→Prop}{T:Bool→Prop}
def fG :R2:=fun x y H Q=>∃a v,x=.ref a∧hV H a y (some v)∧Q v H
theorem jg (hu:X.A.units+1<cLine):IxR X fG:=fun value slice pins s σ H x y v u Q I rx ry h hs=>by
 obtain⟨a,z,rfl,g,q⟩:=h
 cases rx
 exact tail_any (tT I g) PySem.F.slot_dict_getitem.lookup (ou hu I g ry fun w' s' I' r'=>⟨z,H,I',r',q⟩) hs
def lT (x y:PyData)(Q:PyData→Prop):Prop:=(∃ds i d,xO x=some ds∧y=.int i∧atI ds i=some d∧Q d)∨∃ds k d,x=kT ds∧y=oH k∧kJ ds k=some d∧Q d
theorem ixk {x y:PyData}{ds:List PyData}{i:Int}{d:PyData}(h1:xO x=some ds)(h2:y=.int i)(h3:atI ds i=some d)(h:Q d):lT x y Q:=.inl ⟨ds,i,d,h1,h2,h3,h⟩
theorem qX {x:PyData}{ds:List PyData}{v:Int}(P:PyData→Prop)(hx:xO x=some ds)(h0:0≤v)(h1:v<ds.length)(h:pN P ds)(k:∀d,P d→Q d):lT x (.int v) Q:=.inl (nQ P hx h0 h1 h k)
theorem iO (hu:X.A.units+1<cLine)(hs:rZ b)(h:EvD X α a fun x=>EvD X α b fun y=>lT x y Q):EvD X α (.Subscript a b pos) Q:=by
 refine sT (f:=tOp (fun x y H Q=>rIx X.K x y H Q∨fG x y H Q)) (wu (iP.or (jg hu)) zd zd hs) (fun _ _ _=>Iff.rfl) (h.imp fun x h=>h.imp fun y h=>?_)
 intro F σ H vx vy R m rx ry k
 rcases h with ⟨ds,i,d,e1,rfl,hat,hq⟩|⟨ds,kk,d,rfl,rfl,hv,hq⟩
 ·cases ry.int_inv
  cases x with
  |list ds'=>
   cases e1
   obtain⟨a,xs,rfl,h1,h2⟩:=rx.lst_inv
   obtain⟨v,hv,av⟩:=h2.atI hat
   exact .inl (.inl ⟨a,xs,i,v,rfl,rfl,SqL.of (zc h1).2,hv,k d v H hq m.tp Kz.refl av⟩)
  |tuple ds'=>
   cases e1
   obtain⟨a,xs,rfl,h1,h2⟩:=rx.tup_inv
   obtain⟨v,hv,av⟩:=h2.atI hat
   exact .inl (.inr (.inl ⟨a,xs,i,v,rfl,rfl,SqT.of (zc h1).2,hv,k d v H hq m.tp Kz.refl av⟩))
  |_=>cases e1
 ·obtain⟨a,o,kvs,rfl,g1,g2⟩:=rx.dk_inv
  obtain⟨v,w1,w2⟩:=g2.get hv
  cases lU ry
  exact .inr ⟨a,v,rfl,.inl ⟨kvs,kk,.inr ⟨o,(zc g1).2⟩,rfl,w1.symm⟩,k d v H hq m.tp Kz.refl w2⟩
end
theorem zY.one {k:Nat}{A:Around}(h:zY k A):A.units+1<cLine:=by have:=h.units;omega
section
variable {X:Cx}{α:Ev}{E:zS}{rest body:List Stmt}{e c tg iter:Expr}{pos p:Pos}
theorem wB (pat:Pat)(h:EvI X α tg iter fun ds=>yK X pat body rest E ds α)(hN:X.N.Nodup:=by assumption)(hp:PassesOwn (model X.prog X.w) X.A X.env X.xe:=by exact PassesOwn.never)(hc:X.calm=true:=by rfl)
  (hg:PG X tg (tF X.K pat):=by first|exact zG (by assumption) rfl (Or.inl rfl)|exact zG (by assumption) rfl (Or.inr rfl)|exact yP rfl rfl (by repeat (first|exact xE|refine ym (by first|exact zG (by assumption) rfl (Or.inl rfl)|exact zG (by assumption) rfl (Or.inr rfl)) ?_)))
  (hs:∀x,foldedSetIterable iter X.env x=pure x:=by intro _;rfl):SvS X α (.For tg iter body [] pos::rest) E:=jQ hp hc hg h hs
def freeOk (xs:Scope)(y:Str×NameKind):Bool:=match y.2 with
 |.free=>match xs.names.lookup y.1 with
  |some .cell=>true
  |some .free=>true
  |_=>false
 |_=>true
theorem sH {xs scope:Scope}(h:scope.names.all (freeOk xs)=true):∀y∈scope.names,y.2=.free→xs.names.lookup y.1=some .cell∨xs.names.lookup y.1=some .free:=fun y hy e=>by
 have:=ag.mp h y hy
 unfold freeOk at this
 rw[e] at this
 cases z:xs.names.lookup y.1 with
 |none=>rw[z] at this;cases this
 |some k=>
  rw[z] at this
  cases k<;>first|exact .inl rfl|exact .inr rfl|cases this
theorem vf (N:List Str)(imp:List (Option Nat))(pat:Pat){scope:Scope}{elt:Expr}{ifs:List Expr}{Q:List PyData→Prop}(h:EvI X α tg iter fun ds=>ds.length≤1000∧yt (fun C s2 H2 fp=>X.comp N scope C s2 H2 fp) pat ifs elt (zU imp α) ds [] Q)
  (nd:N.Nodup:=by decide +kernel) (h1:scope.kind=.function:=by rfl) (h2:∀y∈scope.names,y.2≠.cell:=by decide +kernel) (h3:∀y∈scope.names,y.2=.local→scope.names.lookup y.1=some .local:=by decide +kernel) (h4:scope.names.all (freeOk X.env.scope)=true:=by rfl) (h5:imp.length=N.length:=by rfl)
  (h6:((imp.zip N).all fun p=>match p.1 with|none=>true|some j=>X.N[j]? == some p.2&&scope.names.lookup p.2 == some .free)=true:=by rfl) (hfree:pat.free (zU imp α)=true:=by rfl)
  (hg:∀C s2 H2 fp,N.Nodup→PG (X.comp N scope C s2 H2 fp) tg (tF X.K pat):=by intro _ _ _ _ hnd;first|exact zG hnd rfl (Or.inl rfl)|exact yP rfl rfl (by repeat (first|exact xE|refine ym (zG hnd rfl (Or.inl rfl)) ?_)))
  (hc:X.calm=true:=by rfl) (hs:∀x,foldedSetIterable iter X.env x=pure x:=by intro _;rfl):EvL X α (.ListComp elt [⟨tg,iter,ifs,0⟩] scope pos) Q:=gY hc ⟨h1,nd,h2,h3,sH h4,h5,h6⟩ hfree (fun C s2 H2 fp=>hg C s2 H2 fp nd) h hs
theorem jI (i:Nat)(N:List Str)(imp:List (Option Nat))(pat:Pat){x:Str}{pos' cpos:Pos}{scope:Scope}{elt:Expr}{ifs:List Expr}(h:EvI X α tg iter fun ds=>ds.length≤1000∧yt (fun C s2 H2 fp=>X.comp N scope C s2 H2 fp) pat ifs elt (zU imp α) ds [] fun ds=>SvS X (α.set i (some (.own ds))) rest E)
  (hN:X.N.Nodup:=by assumption)
  (nd:N.Nodup:=by decide +kernel) (h1:scope.kind=.function:=by rfl) (h2:∀y∈scope.names,y.2≠.cell:=by decide +kernel) (h3:∀y∈scope.names,y.2=.local→scope.names.lookup y.1=some .local:=by decide +kernel) (h4:scope.names.all (freeOk X.env.scope)=true:=by rfl) (h5:imp.length=N.length:=by rfl)
  (h6:((imp.zip N).all fun p=>match p.1 with|none=>true|some j=>X.N[j]? == some p.2&&scope.names.lookup p.2 == some .free)=true:=by rfl) (hfree:pat.free (zU imp α)=true:=by rfl)
  (hg:∀C s2 H2 fp,N.Nodup→PG (X.comp N scope C s2 H2 fp) tg (tF X.K pat):=by intro _ _ _ _ hnd;first|exact zG hnd rfl (Or.inl rfl)|exact yP rfl rfl (by repeat (first|exact xE|refine ym (zG hnd rfl (Or.inl rfl)) ?_)))
  (hc:X.calm=true:=by rfl)
  (hi:X.N[i]?=some x:=by rfl) (hx:Loc X.env.scope x:=by first|exact Or.inl rfl|exact Or.inr rfl) (hsw:swapsWith (.ListComp elt [⟨tg,iter,ifs,0⟩] scope cpos) (some (.Name x pos')) pos.line X.env=pure true:=by rfl)
  (hf:X.fn x=true∨X.env.scope.names.lookup x=some .local:=by first|exact .inl rfl|exact .inr rfl|assumption) (hs:∀x,foldedSetIterable iter X.env x=pure x:=by intro _;rfl):
  SvS X α (.Assign [.Name x pos'] (.ListComp elt [⟨tg,iter,ifs,0⟩] scope cpos) pos::rest) E:=gZ i hN hc ⟨h1,nd,h2,h3,sH h4,h5,h6⟩ hfree (fun C s2 H2 fp=>hg C s2 H2 fp nd) h hi hx hsw hf hs
end
section
variable {Y:Addr→Shared→Hp→List Addr→Cx}{pat:Pat}{ifs:List Expr}{elt:Expr}{α0:Ev}{ι:Type}{g f:ι→PyData}{l:List ι}{acc:List PyData}{Q:List PyData→Prop}
theorem tK (p:ι→Bool)(f:ι→PyData)(hs:∀x∈l,∃α1,pat.bind (g x) α0=some α1∧(∀C s2 H2 fp (Q:Bool→Prop),Q (p x)→ji (Y C s2 H2 fp) α1 ifs Q)∧(p x=true→∀C s2 H2 fp (Q:PyData→Prop),Q (f x)→EvD (Y C s2 H2 fp) α1 elt Q))
  (hd:Q (acc++(l.filter p).map f)):yt Y pat ifs elt α0 (l.map g) acc Q:=by
 induction l generalizing acc with
 |nil=>
  show Q acc
  simpa using hd
 |cons d ds ih=>
  obtain⟨α1,e,h1,h2⟩:=hs d eH
  refine⟨α1,e,fun C s2 H2 fp=>h1 C s2 H2 fp _ ?_⟩
  have ih':=fun acc=>ih (acc:=acc) fun d hd=>hs d (eK _ hd)
  cases hp:p d with
  |true=>
   rw[if_pos rfl]
   refine fun C s2 H2 fp=>h2 hp C s2 H2 fp _ (ih' _ ?_)
   simpa[List.filter_cons,hp] using hd
  |false=>
   rw[if_neg (by decide)]
   refine ih' _ ?_
   simpa[List.filter_cons,hp] using hd
theorem yA (f:ι→PyData)(hs:∀x∈l,∃α1,pat.bind (g x) α0=some α1∧∀C s2 H2 fp (Q:PyData→Prop),Q (f x)→EvD (Y C s2 H2 fp) α1 elt Q)(hd:Q (acc++l.map f)):yt Y pat [] elt α0 (l.map g) acc Q:=
 tK (fun _=>true) f (fun x hx=>by
  obtain⟨α1,h1,h2⟩:=hs x hx
  exact⟨α1,h1,fun _ _ _ _ _ k=>jL k,fun _=>h2⟩) (by rw[List.filter_eq_self.mpr fun _ _=>rfl];exact hd)
end
section
variable {co:Co}{N:Nat}
end
section
variable {co:Co}{N:Nat}
end
section
variable {X:Cx}{α:Ev}{a b e:Expr}{pos p:Pos}{Q:PyData→Prop}
end
section
variable {X:Cx}{α:Ev}{a b c e:Expr}{pos p:Pos}{Q:PyData→Prop}{T:Bool→Prop}
end
section
variable {X:Cx}{α:Ev}{a b c e:Expr}{pos p p2 pos2:Pos}{Q:PyData→Prop}{T:Bool→Prop}
theorem uI {us:List Value}{ns:List Int}(h:IntsAre us ns):Vals (ns.map V.int) us:=by
 induction h with
 |nil=>exact .nil
 |cons n t _ ih=>exact .cons ⟨t,rfl⟩ ih
end
section
variable {X:Cx}{α:Ev}{a b c d e:Expr}{pos p:Pos}{ta tb tc td:TE}{T:Bool→Prop}
end
section
variable {X:Cx}{α:Ev}{a b c d e:Expr}{pos p:Pos}{T:Bool→Prop}
end
abbrev fq (X:Cx)(P:Program)(w:World)(K:PySem.W.Frag)(mg:Str→Option Value)(base:Heap):Prop:=X.prog=P∧X.w=w∧X.K=K∧X.mg=mg∧X.base=base
section
variable {X:Cx}{α:Ev}{e o:Expr}{es:List Expr}{pos p apos:Pos}{Q:PyData→Prop}{k:Nat}{φ:List A→(A→Prop)→Prop}{x m:Str}{C:Addr}{pl:Sem Bool}{P:Program}{w:World}{K:PySem.W.Frag}{mg:Str→Option Value}{base:Heap}
theorem kW (D:Cal P w K mg base x k φ)(hX:fq X P w K mg base)(hr:zY k X.A)(hg:Gl X x)(h:EvA X α (e::es) fun as=>φ as fun a=>Q a.d)
  (hdb:(x == ("__debug__":Str))=false:=by decide) (he:starEach (e::es) X.env=(false,eval e X.env)::starEach es X.env:=by rfl) (hpl:(backTo pos (starEach es X.env)).any (·.1)=false:=by rfl):EvD X α (.Call (.Name x p) (e::es) [] pos) Q:=by
 obtain⟨rfl,rfl,rfl,rfl,rfl⟩:=hX
 exact wa D hr hg h hdb he hpl
end
section
variable {X:Cx}{α:Ev}{pos:Pos}{Q:PyData→Prop}
end
section
variable {X:Cx}{α:Ev}{e ix:Expr}{pos:Pos}{rest:List Stmt}{E:zS}
end
section
variable {X:Cx}{tg:Expr}
variable {α:Ev}{a b c:Expr}{p pos:Pos}
end
section
variable {prog:Program}{w:World}{K:Type}[DecidableEq K](knd:KeyKind prog w K)
variable {knd}
end
section
variable {X:Cx}
end
section
variable {X:Cx}{α:Ev}{e a b:Expr}{p pos:Pos}{Q:PyData→Prop}
end
section
variable {M:Model}{A:Around}{E:Value→Shared→Prop}{s:Shared}
end
section
variable {P:Program}{w:World}{H H0:Hp}{h h' h0:Heap}{fs fs' ts:List Addr}{e:Addr}
end
section
variable {X:Cx}{pins:List (Addr×Obj)}{σ:St}{H H':Hp}{s s':Shared}{a:Addr}
end
section
variable {X:Cx}{E':Value→Shared→Prop}
end
section
variable {P:Program}{w:World}{K:PySem.W.Frag}{mg:Str→Option Value}{base:Heap}
end
section
variable {prog:Program}{w:World}{A:Around}{E:Value→Shared→Prop}{h:Heap}{g:Array GenState}{d:Drawn}{t:Nat}{os:OsState}
variable {nm q:Str}{C N:Addr}{bs bm bmB:List Value}{hdct:Bool}{sn:List Str}{sub:List Value}{ab:Bool}{col:Option Bool}{dd:Option Addr}{k0 k1 k2 k3 k5:Option Value}{B Bn newId nid initId inN:String}{bmN:List Value}
end
open Builtin Builtin.ObjectAttr
section
variable {prog:Program}{w:World}{A:Around}{E:Value→Shared→Prop}{h:Heap}{g:Array GenState}{d:Drawn}{t:Nat}{os:OsState}{K:Frag}{C S e t0:Addr}{dx:Option Addr}{init:Option Value}
end
section
variable {prog:Program}{w:World}{A:Around}{E:Value→Shared→Prop}{h:Heap}{g:Array GenState}{d:Drawn}{t:Nat}{os:OsState}{K:Frag}{C S e t0:Addr}{init:Option Value}
end
section
variable {X:Cx}{pins:List (Addr×Obj)}{σ:St}{H:Hp}{s:Shared}{a C:Addr}{d:Option Addr}{pos:Pos}
end
section
variable {prog:Program}{w:World}{A:Around}{E:Value→Shared→Prop}{h:Heap}{g:Array GenState}{d:Drawn}{t:Nat}{os:OsState}
variable {nm q:Str}{C N:Addr}{bs bm bmB:List Value}{hdct:Bool}{sn:List Str}{sub:List Value}{ab:Bool}{col:Option Bool}{dd:Option Addr}{k0 k1 k2 k3 k5:Option Value}{B Bn newId nid initId inN:String}{bmN:List Value}
end
section
variable {X:Cx}{pins:List (Addr×Obj)}{σ:St}{H:Hp}{s:Shared}{k:Nat}{f C S:Addr}{fd:FuncData}{ps:List Str}{sp:Sp}{x:Str}{p pos:Pos}{e:Expr}{es:List Expr}{t:TA}
end
section
variable {X:Cx}{pins:List (Addr×Obj)}{σ:St}{H:Hp}{s:Shared}{a:Addr}{D:Ends}{f:Flow}
end
section
variable {X:Cx}{body suite:List Stmt}{b0:Stmt}{x n:Str}{np hpos pos:Pos}{B:Addr}
end
section
variable {G:Hp}{v:V}{C:Addr}{ds:List (PyData×PyData)}
end
section
variable {F:Fr}{α αh:Ev}{σ:St}{H:Hp}
end
section
variable {F:Fr}{α αh:Ev}{σ:St}{H:Hp}
end
section
variable {P:Program}{w:World}{K:PySem.W.Frag}{mg:Str→Option Value}{base:Heap}
end
section
variable {X:Cx}{α αh:Ev}{r:Fr}{q q0:PyData→Prop}{j k:Nat}{x fl:Str}{C:Addr}{e:Expr}{es:List Expr}{p pos pos':Pos}{rest:List Stmt}{E:zS}
variable {φ:List A→(A→Prop)→(PyData→Prop)→Prop}{Q:PyData→Prop}
end
section
variable {P:Program}{w:World}{K:PySem.W.Frag}{mg:Str→Option Value}{base:Heap}
end
section
variable {X:Cx}{α αh:Ev}{q:PyData→Prop}{i j:Nat}{x n:Str}{B:Addr}{body suite rest:List Stmt}{b0:Stmt}{np hpos pos:Pos}{E:zS}
end
section
variable {X:Cx}{α:Ev}{p p1 pos:Pos}{a:Expr}{Q:PyData→Prop}{C S:Addr}{init:Option Value}
end
section
variable {X:Cx}{α:Ev}{pos:Pos}{o:Expr}{f:Str}{Q:PyData→Prop}{C S:Addr}{init:Option Value}
end
section
variable {P:Program}{w:World}{K:PySem.W.Frag}{mg:Str→Option Value}{base:Heap}
end
section
variable {X:Cx}{α αh:Ev}{r:Fr}{q q0:PyData→Prop}{j k:Nat}{x fl:Str}{C:Addr}{e:Expr}{es:List Expr}{p pos pos':Pos}{rest:List Stmt}{E:zS}
end
section
variable {P:Program}{w:World}{K:PySem.W.Frag}{mg:Str→Option Value}{base:Heap}
end
section
variable {P:Program}{w:World}{K:PySem.W.Frag}{mg:Str→Option Value}{base:Heap}
end
section
variable {X:Cx}{α αh:Ev}{r:Fr}{q q0:PyData→Prop}{j k:Nat}{x fl:Str}{C:Addr}{e:Expr}{es:List Expr}{p pos pos':Pos}{rest:List Stmt}{E:zS}{Q:PyData→Prop}{φ:List A→(PyData→Prop)→Prop}
end
section
variable {F:Fr}{α α':Ev}{σ σ':St}{H H':Hp}{l:Addr}
end
section
variable {X:Cx}{α:Ev}{E:zS}{sts rest body:List Stmt}{tg iter:Expr}{pos:Pos}
theorem iq {pat:Pat}{F:Fr}{σ:St}{H:Hp}{D:Ends}(hp:PassesOwn (model X.prog X.w) X.A X.env X.xe)(hc:X.calm=true)(hg:PG X tg (tF X.K pat))(m:M F α σ H)(r:vQ F E D)
  (h:∀R:It→Hp→Prop,(∀ds J H',yK X pat body rest E ds α→zv F H'→Kz F H H'→ItW (fun x=>¬Ow F α σ x) J ds (Gz F α σ H')→R J H')→kR X tg iter σ H R)
  (hs:∀x,foldedSetIterable iter X.env x=pure x):nV X (.For tg iter body [] pos::rest) D σ H:=by
 refine⟨_,zu (nj hp hc wJ hg zA hs) zA,?_⟩
 refine h _ fun ds J H1 q1 t1 k1 itw=>?_
 have m1:=m.kz k1 t1
 have mu:=m1.up
 have ru:vQ (F.up (Gz F α σ H1)) E D:=r.up
 refine⟨fun i n σ' H'=>n=ds.length-i∧i≤ds.length∧∃α',M (F.up (Gz F α σ H1)) α' σ' H'∧yK X pat body rest E (ds.drop i) α',⟨ds.length,by simp,dM _,α,mu,q1⟩,?_⟩
 rintro i n σ' H' ⟨rfl,hi,α',m',lw⟩
 obtain⟨w1,w2⟩:=itw i H' _ (m1.upold m')
 by_cases hlt:i<ds.length
 ·have hd:ds[i]?=some ds[i]:=eL hlt
  rw[dE hlt] at lw
  obtain⟨α1,eb,body⟩:=lw
  obtain⟨go,yl⟩:=w1 _ hd
  refine .inr ⟨go,fun σ'' H''=>∃α',M (F.up (Gz F α σ H1)) α' σ'' H''∧yK X pat _ rest E (ds.drop (i+1)) α',fun σ'' H'' ⟨α'',r1,r2⟩=>⟨ds.length-(i+1),by omega,rfl,hlt,α'',r1,r2⟩,fun x H3 y=>?_⟩
  obtain⟨s23,avx⟩:=yl x H3 y
  have m3:=m'.kz (Kz.of_same s23) (m'.tp.same s23)
  refine uH eb m3 (avx fun a o _ e=>m'.fresh e) fun σ1 m4=>?_
  exact body _ σ1 H3 _ m4 ⟨fun α2 σ2 H2 m2 q=>⟨α2,m2,q⟩,ru.rt,fun α2 σ2 H2 m2 q=>q _ σ2 H2 D m2 ru,fun α2 σ2 H2 m2 q=>⟨α2,m2,q⟩⟩
 ·have e:i=ds.length:=by omega
  subst e
  rw[bo] at lw
  exact .inl ⟨w2 (eG _),lw _ σ' H' D m' ru⟩
end
section
variable {P:Program}{w:World}{K:PySem.W.Frag}{mg:Str→Option Value}{base:Heap}
def fr0 (H:Hp):Fr:=⟨H,xG,none⟩
theorem M.zero {H:Hp}{σ:St}{n:Nat}(tb:TabAt H)(hl:n=σ.length):M (fr0 H) (List.replicate n none) σ H:=by
 have no:∀(i:Nat) a,(List.replicate n (none:Option A))[i]?≠some (some a):=fun i a z=>by
  rw[bf] at z
  split at z<;>cases z
 exact⟨by rw[List.length_replicate];exact hl,fun i a s e=>absurd e (no i _),fun i j a b s t l e=>absurd e (no i _),fun i r q e=>absurd e (no i _),⟨tb,fun _ h=>h,fun t b c e=>by (cases e)⟩,fun _ _ e _=>e,fun x hx=>by
  obtain⟨o,ho,hn,_⟩:=uU tb hx
  exact⟨o,ho,hn⟩⟩
theorem SqL.same {H H':Hp}{a:Addr}{xs:List V}(h:SqL K H a xs)(s:zi H H'):SqL K H' a xs:=by
 rcases h with (h|⟨o,h⟩)|h
 ·exact .inl (.inl (s _ _ h))
 ·exact .inl (.inr ⟨o,s _ _ h⟩)
 ·exact .inr h
theorem fS {st:Stmt}{f:Addr}{fd:FuncData}{N':List Str}{k:Nat}{x:Str}{pt:Pos}{p0 p1 p2 p3 p4 p5 p6 p7:Pos}{n0 n1:Nat}{kk:Int}{body rest:List Stmt}{j:Nat}(G:Fun K "law" "law" st f fd)(S:zH ("_law_script"::N') ["_law_script"] (zg st))
  (hb:zL st=.For (.Name x pt) (.BinOp (.List [.Constant (.int 0) n0 p0] p1) .Add (.Subscript (.Name "_law_script" p2) (.Slice none (some (.Constant (.int kk) n1 p3)) none p4) p5) p6) body [] p7::rest)
  (hv:Vis (zg st) "_law_script") (hj:(("_law_script":Str)::N')[j]?=some x) (hx:Loc (zg st) x)
  (hbody:∀(cdv:Value) (A':Around) (outer:List Env) (s:Shared) (H:Hp) (E:XK) (zs:List Int),zY k (A'.deeper (envOfC "law" (zg st) s.heap.objs.size f cdv))→zs.length≤64→
   yK (uP CX0 P w K mg base ("_law_script"::N') "law" (zg st) f cdv A' outer s H E).nox (.one j) body rest {nx:=fun _=>False,rt:=fun a=>a=.dat (.bool true)} (zs.map .int) (List.replicate (N'.length+1) none)):
  yB P w K mg base CX0 (k+1) f fd ["_law_script"] (tO K):=by
 refine G.ok S (fun vs H Q E h=>?_) (fun cdv A' outer s H vs Qc E hr h=>?_)
 ·obtain⟨a,ns,rfl,_⟩:=h
  rfl
 ·obtain⟨a,ns,rfl,hS,hn,tb,kq⟩:=h
  rw[hb]
  have mz:M (fr0 H) (List.replicate (N'.length+1) none) (L2.start ("_law_script"::N') [.ref a]) H:=M.zero tb (by unfold L2.start;simp)
  have no3:∀{l3:Addr},¬xG l3→¬Ow (fr0 H) (List.replicate (N'.length+1) none) (L2.start ("_law_script"::N') [.ref a]) l3:=fun {l3} hn=>by
   rintro (z|⟨i,ds,s,e1,e2,_⟩)
   ·exact hn z
   ·rw[bf] at e1
    split at e1<;>cases e1
  refine iq (E:={nx:=fun _=>False,rt:=fun a=>a=.dat (.bool true)}) (pat:=.one j) PassesOwn.never rfl (zG (i:=j) S.nd hj hx) mz ⟨fun _ _ _ _ z=>z.elim,fun z v H' r e=>?_,fun _ _ _ _ z=>z.elim,fun _ _ _ _ z=>z.elim⟩ (fun R hR=>?_) (fun _=>rfl)
  ·cases e
   obtain⟨_,_,r⟩:=r
   rw[AV.bl_inv r]
   exact kq H'
  ·refine⟨_,qG (ye mw (mH (zk zC zD)) (tP qu (yH (i:=0) rfl hv) qO (qC zC))),?_⟩
   obtain⟨ms,em,lm⟩:=oZ ns none (some kk)
   refine⟨(by show 1≤sizeLine;decide),fun l1 hl1=>⟨_,rfl,kk,rfl,a,ns.map V.int,rfl,SqL.same hS (zt hl1),fun l2 hl2=>?_⟩⟩
   rw[em] at *
   have n12:l1≠l2:=fun z=>by rw[←z,zh] at hl2;cases hl2
   have hl2':H l2=none:=by rw[ze n12.symm] at hl2;exact hl2
   refine⟨l1,l2,[.int 0],ms.map V.int,rfl,rfl,by rw[ze n12];exact zh,zh,by rw[eD];exact cB (zO (by simp;omega)),fun l3 hl3=>?_⟩
   have e3:([V.int 0]++ms.map V.int)=((0::ms).map V.int):=rfl
   rw[e3]
   have s3:zi H (upd (upd (upd H l1 (.lst [.int 0])) l2 (.lst (ms.map V.int))) l3 (.lst ((0::ms).map V.int))):=((zt hl1).trans (zt hl2)).trans (zt hl3)
   have hl3':H l3=none:=by
    have n13:l3≠l2:=fun z=>by rw[z,zh] at hl3;cases hl3
    have n11:l3≠l1:=fun z=>by rw[z,ze n12,zh] at hl3;cases hl3
    rw[ze n13,ze n11] at hl3;exact hl3
   refine⟨l3,rfl,⟨_,SqL.of zh⟩,hR ((0::ms).map .int) _ _ (hbody cdv A' outer s H E (0::ms) hr (by simp;omega)) (mz.tp.same s3) (Kz.of_same s3) fun i H2 p' sm=>⟨fun d hd=>?_,fun hl=>?_⟩⟩
   ·have ha:=SqL.of (K:=K) (zc (sm l3 _ (zB (no3 (xJ tb hl3')) zh))).2
    obtain⟨v,hx,av⟩:=(wO (G:=H) (0::ms)).get hd
    refine⟨⟨_,v,ha,hx⟩,fun x' H3 y=>?_⟩
    obtain⟨e,y⟩:=y
    subst e
    have:=y _ ha
    rw[hx] at this;cases this
    rw[dy,dB] at hd hx
    obtain⟨z1,q1,rfl⟩:=hd
    obtain⟨z2,q2,rfl⟩:=hx
    rw[q1] at q2;cases q2
    exact⟨zi.refl _,fun _=>.int _⟩
   ·exact⟨_,SqL.of (zc (sm l3 _ (zB (no3 (xJ tb hl3')) zh))).2,by rw[eD] at hl ⊢;exact hl⟩
end
section
variable {X:Cx}{α:Ev}{p pos ap:Pos}{a b c:Expr}{Q:PyData→Prop}
end
section
variable {X:Cx}{α:Ev}{E:zS}{rest:List Stmt}{tg iter:Expr}{pos:Pos}
end
end L2
namespace SetW
open PySem PyProof.Rows
abbrev Up (xs:Array Nat):Prop:=xs.toList.Pairwise (·<·)
def Ris (t:SetTable):Prop:=t.plain=true→Up t.place
theorem Up.lt {xs:Array Nat}(h:Up xs){i j:Nat}(hij:i<j)(hj:j<xs.size):xs[i]'(Nat.lt_trans hij hj)<xs[j]:=by
 have:=cR.mp h i j (by simpa using Nat.lt_trans hij hj) (by simpa using hj) hij
 simpa using this
theorem vC {xs:Array Nat}(h:Up xs)(j:Nat):∀f lo up,up-lo≤f→lo≤up→up≤xs.size→(∀i (hi:i<xs.size),i<lo→xs[i]<j)→(∀i (hi:i<xs.size),up≤i→j≤xs[i])→
  SetTable.below.go xs j f lo up≤xs.size∧(∀i (hi:i<xs.size),i<SetTable.below.go xs j f lo up→xs[i]<j)∧(∀i (hi:i<xs.size),SetTable.below.go xs j f lo up≤i→j≤xs[i])
 |0,lo,up,hf,hle,hs,h1,h2=>by
  have e:lo=up:=by omega
  subst e
  exact⟨hs,h1,h2⟩
 |f+1,lo,up,hf,hle,hs,h1,h2=>by
  unfold SetTable.below.go
  by_cases hlt:lo<up
  ·rw[if_pos hlt]
   have hm:(lo+up) / 2<xs.size:=by omega
   have eg:xs.getD ((lo+up) / 2) j=xs[(lo+up) / 2]:=by simp[Array.getD,hm]
   dsimp only
   rw[eg]
   by_cases hc:xs[(lo+up) / 2]<j
   ·rw[if_pos hc]
    refine vC h j f ((lo+up) / 2+1) up (by omega) (by omega) hs (fun i hi' hl=>?_) h2
    rcases cD i ((lo+up) / 2) with z|z
    ·exact Nat.lt_trans (h.lt z hm) hc
    ·have e:i=(lo+up) / 2:=by omega
     subst e
     exact hc
   ·rw[if_neg hc]
    refine vC h j f lo ((lo+up) / 2) (by omega) (by omega) (by omega) h1 (fun i hi' hl=>?_)
    rcases cD ((lo+up) / 2) i with z|z
    ·have:=h.lt z hi'
     omega
    ·have e:i=(lo+up) / 2:=by omega
     subst e
     omega
  ·rw[if_neg hlt]
   have e:lo=up:=by omega
   subst e
   exact⟨hs,h1,h2⟩
theorem yS {xs:Array Nat}(h:Up xs)(j:Nat):SetTable.below xs j≤xs.size∧(∀i (hi:i<xs.size),i<SetTable.below xs j→xs[i]<j)∧(∀i (hi:i<xs.size),SetTable.below xs j≤i→j≤xs[i]):=
 vC h j xs.size 0 xs.size (by omega) (dM _) (eG _) (fun i _ z=>absurd z (za0 _)) (fun i hi z=>absurd hi (by omega))
theorem vR {xs:Array Nat}(h:Up xs){i:Nat}(hi:i<xs.size):SetTable.below xs xs[i]=i:=by
 obtain⟨a,b,c⟩:=yS h xs[i]
 rcases cD i (SetTable.below xs xs[i]) with z|z
 ·have:=b i hi z
  omega
 ·rcases cD (SetTable.below xs xs[i]) i with y|y
  ·have h1:=c _ (by omega) (eG _)
   have h2:=h.lt y hi
   omega
  ·omega
theorem sY {xs:Array Nat}(h:Up xs){i:Nat}(hi:i<xs.size):SetTable.below xs (xs[i]+1)=i+1:=by
 obtain⟨a,b,c⟩:=yS h (xs[i]+1)
 rcases cD i (SetTable.below xs (xs[i]+1)) with z|z
 ·rcases cD (i+1) (SetTable.below xs (xs[i]+1)) with y|y
  ·have h1:=b (i+1) (by omega) y
   have h2:=h.lt (bj i) (show i+1<xs.size by omega)
   have e:xs[i.succ]'(by omega)=xs[i+1]'(by omega):=rfl
   omega
  ·omega
 ·have:=c i hi z
  omega
theorem sZ {xs:Array Nat}(h:Up xs):SetTable.below xs 0=0:=by
 obtain⟨a,b,c⟩:=yS h 0
 rcases cD 0 (SetTable.below xs 0) with z|z
 ·have:=b 0 (by omega) z
  omega
 ·omega
def Off (t:SetTable)(j:Nat):Prop:=t.place[SetTable.below t.place j]?≠some j
theorem Off.notin {t:SetTable}{j:Nat}(h:Off t j)(u:Up t.place):j∉t.place.toList:=fun z=>by
 obtain⟨i,hi,e⟩:=cI z
 have hi':i<t.place.size:=by simpa using hi
 have e':t.place[i]=j:=by simpa using e
 have:=vR u hi'
 rw[e'] at this
 exact h (by rw[this,dR hi',e'])
theorem sj {t:SetTable}{j:Nat}(h:∀i,t.slot j≠.live i):Off t j:=fun z=>by
 refine h (SetTable.below t.place j) ?_
 unfold SetTable.slot
 simp only[z,beq_self_eq_true,aI]
theorem xP {t:SetTable}{ha:Nat→Int}{hh:Int}:∀f (p:SetTable.Probe) {j:Nat} {d:Option Nat},(∀x,p.dummy=some x→Off t x)→SetTable.probe.go t ha hh f p=some (.empty j d)→Off t j∧∀x,d=some x→Off t x
 |0,p,j,d,_,e=>by cases e
 |f+1,p,j,d,h,e=>by
  unfold SetTable.probe.go at e
  split at e
  ·rename_i hs
   cases e
   exact⟨sj (fun i z=>by rw[hs] at z;cases z),h⟩
  ·rename_i hs
   refine xP f _ (fun x hx=>?_) e
   have:∀q:SetTable.Probe,(t.advance q).dummy=q.dummy:=fun q=>by unfold SetTable.advance;split<;>rfl
   rw[this] at hx
   cases hx
   exact sj fun i z=>by rw[hs] at z;cases z
  ·rename_i i hs
   have:∀q:SetTable.Probe,(t.advance q).dummy=q.dummy:=fun q=>by unfold SetTable.advance;split<;>rfl
   split at e
   ·cases e
   ·exact xP f _ (fun x hx=>by rw[this] at hx;exact h x hx) e
theorem oT {t:SetTable}{h:Int}{j:Nat}{b:Bool}(e:t.freeSlot h=some (j,b)):Off t j:=by
 unfold SetTable.freeSlot at e
 split at e
 ·rename_i j' d hp
  cases e
  obtain⟨h1,h2⟩:=xP _ _ (fun x hx=>by unfold SetTable.probeStart at hx;cases hx) hp
  cases d with
  |none=>exact h1
  |some x=>exact h2 x rfl
 ·cases e
theorem vW {xs:Array Nat}{j:Nat}(h:Up xs)(hj:j∉xs.toList):Up (SetTable.insertAt xs (SetTable.below xs j) j):=by
 obtain⟨a,b,c⟩:=yS h j
 have e1:∀y∈xs.toList.take (SetTable.below xs j),y<j:=fun y hy=>by
  obtain⟨i,hi,e⟩:=cI hy
  rw[dN] at hi
  rw[List.getElem_take] at e
  have:=b i (by simp at hi;omega) (by omega)
  simp at e
  omega
 have e2:∀y∈xs.toList.drop (SetTable.below xs j),j<y:=fun y hy=>by
  have hne:y≠j:=fun z=>hj (z▸cc hy)
  obtain⟨i,hi,e⟩:=cI hy
  rw[cC] at hi
  rw[List.getElem_drop] at e
  have hi':i<xs.size-SetTable.below xs j:=by simpa using hi
  have:=c (SetTable.below xs j+i) (by omega) (by omega)
  simp at e
  omega
 unfold Up
 rw[aD,eV]
 refine⟨h.sublist (cV _ _),bz.mpr ⟨e2,h.sublist (cX _ _)⟩,fun y hy z hz=>?_⟩
 rcases eJ.mp hz with rfl|hz
 ·exact e1 y hy
 ·exact Nat.lt_trans (e1 y hy) (e2 z hz)
theorem kl {t:SetTable}(es:Array (Int×Value))(h:Int)(x:Value)(r:Ris t):Ris (layNew t es h x).2.1∧(layNew t es h x).2.1.led=t.led:=by
 unfold layNew
 split
 ·rename_i j b hf
  have ho:=oT hf
  dsimp only
  unfold SetTable.orStandIn
  split
  ·refine⟨fun hp=>?_,rfl⟩
   exact vW (r hp) (ho.notin (r hp))
  ·exact⟨fun hp=>Bool.noConfusion (show false=true from hp),rfl⟩
 ·exact⟨fun hp=>Bool.noConfusion (show false=true from hp),rfl⟩
theorem pX {t:SetTable}(es:Array (Int×Value))(n:Nat):Ris (relayAll t es n).2.1∧(relayAll t es n).2.1.led=t.led:=by
 unfold relayAll
 split
 ·rename_i t' order hr
  unfold SetTable.relaid SetTable.laid at hr
  cases ho:SetTable.layClean (SetTable.sizeAbove n-1) (es.map (·.1)) with
  |none=>rw[ho] at hr;cases hr
  |some owner=>
   rw[ho] at hr
   cases hr
   dsimp only
   split
   ·refine⟨fun _=>?_,rfl⟩
    show (List.toArray _).toList.Pairwise (·<·)
    rw[aq]
    have key:∀(l:List Nat),l.Pairwise (·<·)→((l.filterMap fun j=>(owner.getD j none).map fun y=>(j,y)).map (·.1)).Pairwise (·<·):=by
     intro l hl
     rw[aE]
     refine List.Pairwise.sublist ?_ hl
     have:∀l:List Nat,(l.filterMap fun j=>Option.map (fun x:Nat×Nat=>x.1) ((owner.getD j none).map fun y=>(j,y))).Sublist l:=by
      intro l
      induction l with
      |nil=>exact .slnil
      |cons a l ih=>
       rw[bQ]
       cases owner.getD a none with
       |none=>exact ih.cons _
       |some y=>exact ih.cons_cons _
     exact this l
    exact key _ aS
   ·exact⟨fun hp=>Bool.noConfusion (show false=true from hp),rfl⟩
 ·exact⟨fun hp=>Bool.noConfusion (show false=true from hp),rfl⟩
section
variable {prog:Program}{w:World}{A:Around}{E:Value→Shared→Prop}{s:Shared}
structure WkO (prog:Program)(w:World)(o:Obj)(S:Int→Bool)(n:Nat)(b:Bool)(es:Array (Int×Value))(ep:Nat)(t:SetTable):Prop where
 ex:o.ExactSet
 dt:o.data=.set es ep t
 el:ElemsOf (intKind prog w) es.toList
 mem:∀k,S k=true↔∃e∈es.toList,(intKind prog w).is k e.2=true
 sb:es.size<scanBound
 fit:t.fits es.size=true
 sz:es.size=n
 led:t.led=b
 ris:Ris t
def Wk (prog:Program)(w:World)(h:Heap)(a:Addr)(S:Int→Bool)(n:Nat)(b:Bool):Prop:=∃o es ep t,h.get? a=some o∧WkO prog w o S n b es ep t
theorem Wk.keep {h h':Heap}{a:Addr}{S:Int→Bool}{n:Nat}{b:Bool}(k:∀o,h.get? a=some o→h'.get? a=some o)(x:Wk prog w h a S n b):Wk prog w h' a S n b:=by
 obtain⟨o,es,ep,t,ho,r⟩:=x
 exact⟨o,es,ep,t,k o ho,r⟩
theorem Wk.congr {h:Heap}{a:Addr}{S S':Int→Bool}{n n':Nat}{b:Bool}(x:Wk prog w h a S n b)(e:∀k,S k=S' k)(en:n=n'):Wk prog w h a S' n' b:=by
 have:S=S':=funext e
 subst this en
 exact x
theorem WkO.put {h:Heap}{a:Addr}{o:Obj}{S S':Int→Bool}{n:Nat}{b b':Bool}{es es':Array (Int×Value)}{ep:Nat}{t t':SetTable}(ho:h.get? a=some o)(x:WkO prog w o S n b es ep t)
  (el:ElemsOf (intKind prog w) es'.toList) (mem:∀k,S' k=true↔∃e∈es'.toList,(intKind prog w).is k e.2=true) (sb:es'.size<scanBound) (fit:t'.fits es'.size=true) (led:t'.led=b') (ris:Ris t'):
  ∃o',(h.update a (Obj.putSet es' t')).get? a=some o'∧WkO prog w o' S' es'.size b' es' (ep+1) t':=by
 refine⟨{o with data:=.set es' (ep+1) t'},?_,x.ex,rfl,el,mem,sb,fit,rfl,led,ris⟩
 have:=cz (Obj.putSet es' t') ho (by rw[putSet_of es' t' x.dt];rfl)
 rwa [putSet_of es' t' x.dt] at this
theorem qS {g:Bool→Sem Unit}(hg:∀(d:Bool) (s₁:Shared) (Q':Unit→Shared→Prop),Q' () s₁→wpAny (model prog w) A (g d) Q' E s₁){a:Addr}{o:Obj}{S S':Int→Bool}{n:Nat}{b:Bool}{es es1:Array (Int×Value)}{ep:Nat}{t t2:SetTable}
  (ho:s.heap.get? a=some o) (x:WkO prog w o S n b es ep t) (el:ElemsOf (intKind prog w) es1.toList) (mem:∀k,S' k=true↔∃e∈es1.toList,(intKind prog w).is k e.2=true) (sb:es1.size<scanBound) (fit:t2.fits es1.size=true) (led:t2.led=b) (ris:Ris t2)
  {wd:Bool} {R:Option Bool→Shared→Prop} (h:∀h',Heap.SameBut a s.heap h'→Wk prog w h' a S' es1.size b→R (some true) {s with heap:=h'}):
  wpAny (model prog w) A (storeSet a es1 t2 >>= fun _=>if (!wd&&t2.tooFull)=true then (g (relayAll t2 es1 (SetTable.grown es1.size)).2.2 >>= fun _=>storeSet a (relayAll t2 es1 (SetTable.grown es1.size)).1 (relayAll t2 es1 (SetTable.grown es1.size)).2.1 >>= fun _=>pure (some true)) else pure (some true)) R E s:=by
 refine eA (aP ho x.dt ?_ (aQ sb))
 obtain⟨o1,ho1,x1⟩:=x.put ho el mem sb fit led ris
 have same:=cv s.heap a (Obj.putSet es1 t2)
 split
 ·obtain⟨rr,rl⟩:=pX (t:=t2) es1 (SetTable.grown es1.size)
  have pm:=relayAll_perm t2 es1 (SetTable.grown es1.size)
  have ft:=relayAll_fits t2 es1 (SetTable.grown es1.size)
  generalize relayAll t2 es1 (SetTable.grown es1.size)=Z at rr rl pm ft
  obtain⟨es2,t3,gv⟩:=Z
  dsimp only at rr rl pm ft ⊢
  have sz:es2.size=es1.size:=by rw[←eY,pm.length_eq,eY]
  refine eA (hg _ _ _ (eA (aP ho1 x1.dt ?_ (aQ (by omega)))))
  obtain⟨o2,ho2,x2⟩:=x1.put (es':=es2) (t':=t3) ho1 (el.perm pm) (fun k=>(mem k).trans ⟨fun⟨e,he,q⟩=>⟨e,pm.mem_iff.mpr he,q⟩,fun⟨e,he,q⟩=>⟨e,pm.mem_iff.mp he,q⟩⟩) (by omega) ft (rl.trans led) rr
  rw[sz] at x2
  exact eB (h _ (same.trans (cv _ a _)) ⟨o2,es2,_,t3,ho2,x2⟩)
 ·exact eB (h _ same ⟨o1,es1,_,t2,ho1,x1⟩)
theorem jM {a:Addr}{S:Int→Bool}{n:Nat}{b:Bool}{k:Int}{tk:Tok}{Q:Bool→Shared→Prop}(x:Wk prog w s.heap a S n b)(hroom:n+1<scanBound)
  (h:∀h',Heap.SameBut a s.heap h'→Wk prog w h' a (fun j=>S j||decide (j=k)) (if S k then n else n+1) b→∀r,Q r {s with heap:=h'}):
  wpAny (model prog w) A (setAddHashed a (.int k tk) ((intKind prog w).hash k)) Q E s:=by
 obtain⟨o,es,ep,t,ho,x⟩:=x
 have hkey:(intKind prog w).is k (.int k tk)=true:=ai _ _ _ _
 have hsc:(Value.int k tk).scannable=true:=rfl
 unfold setAddHashed setAddHashedIn
 refine dF (eA (dJ ho x.dt x.fit ?_))
 dsimp only
 rw[byScan_of hsc x.sb x.el,if_pos rfl]
 unfold setAddByScan
 refine eA (eA (cT (eA (wpAny_setScan_of hkey ho x.dt x.fit x.el ?_))))
 cases hr:List.findIdx? (fun e=>(intKind prog w).is k e.2) es.toList with
 |some j=>
  obtain⟨hj,hpj,_⟩:=List.findIdx?_eq_some_iff_getElem.mp hr
  have hSk:S k=true:=(x.mem k).mpr ⟨_,bp hj,hpj⟩
  refine eB (eB ?_)
  have q:=h s.heap (Heap.SameBut.refl a s.heap) ⟨o,es,ep,t,ho,x.ex,x.dt,x.el,fun k'=>by
   rw[Bool.or_eq_true,decide_eq_true_eq,←x.mem k']
   exact⟨fun z=>z.elim id fun e=>e▸hSk,.inl⟩,x.sb,x.fit,by rw[hSk];exact x.sz,x.led,x.ris⟩
  cases s
  exact q _
 |none=>
  have hSk:S k=false:=by
   cases hk:S k with
   |false=>rfl
   |true=>
    obtain⟨e,he,hp⟩:=(x.mem k).mp hk
    have:=List.findIdx?_eq_none_iff.mp hr e he
    rw[hp] at this;cases this
  obtain⟨nr,nl⟩:=kl es ((intKind prog w).hash k) (.int k tk) x.ris
  have pm:=layNew_perm t es ((intKind prog w).hash k) (.int k tk)
  have ft:=layNew_fits t es ((intKind prog w).hash k) (.int k tk)
  dsimp only
  generalize layNew t es ((intKind prog w).hash k) (.int k tk)=L at nr nl pm ft
  obtain⟨es1,t1,wd,gv⟩:=L
  dsimp only at nr nl pm ft ⊢
  rw[cY] at pm
  have sz1:es1.size=n+1:=by rw[←eY,pm.length_eq,eW,eY,x.sz];rfl
  have el1:ElemsOf (intKind prog w) es1.toList:=(x.el.push hkey hsc).perm pm
  have mem1:∀j,(S j||decide (j=k))=true↔∃e∈es1.toList,(intKind prog w).is j e.2=true:=mem_push_iff hkey x.mem pm
  have fin:∀h',Heap.SameBut a s.heap h'→Wk prog w h' a (fun j=>S j||decide (j=k)) es1.size b→∀r,Q r {s with heap:=h'}:=fun h' sb y=>by
   have:=h h' sb
   rw[hSk] at this
   exact this (y.congr (fun _=>rfl) sz1)
  refine eA ?_
  have gw:∀(d:Bool) (s₁:Shared) (Q':Unit→Shared→Prop),Q' () s₁→wpAny (model prog w) A (match d with|true=>rule "set.scan.the-table-gave-way"|false=>pure ()) Q' E s₁:=fun d s₁ Q' hq=>by
   cases d
   ·exact eB hq
   ·exact cT hq
  refine gw _ _ _ ?_
  have sb1:es1.size<scanBound:=by omega
  split
  ·rw[show hashByValue 8 (Value.int k tk)=pure true from rfl]
   refine eA (eB ?_)
   simp only[aI]
   refine qS ?_ ho x el1 mem1 sb1 ft (nl.trans x.led) nr fun h' sb y=>eB (fin h' sb y _)
   intro d s₁ Q' hq
   cases d<;>first|exact eB hq|exact cT hq
  ·refine eA (eB ?_)
   simp only[aI]
   refine qS ?_ ho x el1 mem1 sb1 ft (nl.trans x.led) nr fun h' sb y=>eB (fin h' sb y _)
   intro d s₁ Q' hq
   cases d<;>first|exact eB hq|exact cT hq
end
def zZ (w:World):Bool:=!w.params.followText "set-order"
abbrev yk (w:World):Obj:={cls:=.type "set",dict:=none,data:=.set #[] 0 (.fresh 0 0 (zZ w))}
theorem jf {prog:Program}{w:World}:WkO prog w (yk w) (fun _=>false) 0 (zZ w) #[] 0 (.fresh 0 0 (zZ w)):=
 ⟨⟨rfl,rfl,rfl⟩,rfl,fun e he=>by simp at he,fun k=>by simp,by decide,by rfl,rfl,rfl,fun _=>.nil⟩
section
variable {prog:Program}{w:World}{A:Around}{E:Value→Shared→Prop}{s:Shared}
theorem mL (v:Value){Q₁:Value→Shared→Prop}(h:Q₁ (.ref s.heap.objs.size) {s with heap:=s.heap.push (yk w)}):codeAny (model prog w) A (.call (.builtin "set.__new__") ⟨[.type "set",v],[]⟩) (wants Q₁ E) s:=by
 refine codeAny_of_tree ?_
 show wpAny _ A.in1 (checkBuiltinCall "set.__new__" ⟨[.type "set",v],[]⟩ >>= fun _=>again (.builtin "set.__new__" ⟨[.type "set",v],[]⟩)) _ _ s
 refine eA (bu (F.newCall_set_1 v) (eB ⟨ba F.plain_set_new _,cf F.entry_set_new ?_⟩))
 rw[dS F.plain_set_new _]
 unfold Builtin.«set.__new__» Builtin.Frozenset.newClass
 have hsub:=sub_set_self
 obtain⟨hp,g,d,tk,os⟩:=s
 dsimp only
 wp_walk
 refine bq (eB ?_)
 simp only[newObj]
 exact eA (wpAny_alloc (eB (eB h)))
end
section
variable {prog:Program}{w:World}{A:Around}{R:Result→Shared→Prop}{I:Addr}{fp wr:List Addr}{G:Array GenState→Array GenState→Prop}{n:Nat}{P:Nat→Value→Prop}{St:Nat→Shared→Prop}{b:Bool}
theorem kI (W:WalksS prog w A.in1 I fp wr G n P St)(S:Addr)(hSf:S∉fp)(val:Nat→Int)(hval:∀i v,P i v→∃t,v=.int (val i) t)(hb:n+1<scanBound):
  ∀(k i:Nat) (s:Shared),n-i=k→i≤n→St i s→Wk prog w s.heap S (fun j=>(firstMet val i).any (· == j)) (firstMet val i).length b→
   (∀s',Moved (S::wr) G s s'→Wk prog w s'.heap S (fun j=>(firstMet val n).any (· == j)) (firstMet val n).length b→R (.ok (.ret .none)) s')→
   codeAny (model prog w) A (.builtin "set.update.loop" ⟨[.ref S,.ref I],[]⟩) R s:=by
 have hSw:S∉wr:=fun h=>hSf (W.sub _ h)
 have hsub:∀c∈wr,c∈S::wr:=fun c hc=>eK _ hc
 intro k
 induction k with
 |zero=>
  intro i s hk hi hst x hR
  have e:i=n:=by omega
  subst e
  refine cf bT ?_
  rw[dS cF _]
  exact eA (W.done s _ _ hst fun s' hm=>eB (hR s' (hm.mono hsub) (x.keep fun o ho=>hm.heap S _ hSw ho)))
 |succ k ih=>
  intro i s hk hi hst x hR
  have hlt:i<n:=by omega
  refine cf bT ?_
  rw[dS cF _]
  refine eA (W.item i s _ _ hlt hst fun v s' hP hst' hm=>?_)
  obtain⟨t,rfl⟩:=hval i v hP
  have x1:Wk prog w s'.heap S (fun j=>(firstMet val i).any (· == j)) (firstMet val i).length b:=x.keep fun o ho=>hm.heap S _ hSw ho
  show wpAny _ A.in1 (holding [Value.int (val i) t] (setAdd S (.int (val i) t)) >>= _) _ _ s'
  refine eA (dF ?_)
  unfold setAdd
  refine dF (eA ((intKind prog w).pyHash (k:=val i) (ai _ _ _ _) ?_))
  have room:(firstMet val i).length+1<scanBound:=by have:=firstMet_length_le val i;omega
  refine jM (s:={s' with toks:=s'.toks+1}) x1 room fun h' hsb x2 r=>?_
  have x3:Wk prog w h' S (fun j=>(firstMet val (i+1)).any (· == j)) (firstMet val (i+1)).length b:=x2.congr (fun j=>by rw[firstMet_succ,step_any]) (by rw[firstMet_succ,step_length])
  refine eB ⟨ba cF _,ih (i+1) _ (by omega) hlt (W.frame _ s' _ _ hst' (bN _) fun c hc o e=>?_) x3 fun s'' hm'' x4=>?_⟩
  ·rw[hsb.2 c fun z=>hSf (by rw[←z];exact hc)];exact e
  ·refine hR s'' (Moved.trans W.gtrans ((hm.mono hsub).then_heap (bN _) fun c o hc e=>?_) hm'') x4
   rw[hsb.2 c fun z=>hc (by rw[z];exact eH)];exact e
end
section
variable {prog:Program}{w:World}{A:Around}{E:Value→Shared→Prop}{s:Shared}
set_option maxHeartbeats 3200000 in
theorem iK {l:Addr}{its:Array Value}{ns:List Int}{Q:Value→Shared→Prop}(hh:A.handled=none)(hl:s.heap.IsList l its)(hi:IntsAre its.toList ns)(hb:its.size+1<scanBound)
  (h:∀(h':Heap) (tk:Nat),Wk prog w h' s.heap.objs.size (fun j=>(firstMet (fun i=>ns.getD i 0) its.size).any (· == j)) (firstMet (fun i=>ns.getD i 0) its.size).length (zZ w)→
   (∀c o,c<s.heap.objs.size→s.heap.get? c=some o→h'.get? c=some o)→Q (.ref s.heap.objs.size) {s with heap:=h',toks:=tk}):wpAny (model prog w) A (call (.type "set") [.ref l]) Q E s:=by
 obtain⟨c,tl,hmro⟩:=dX.mro
 have hmade:=dX.made
 have hsub:=dX.sub
 refine wpAny_call (codeAny_of_tree ?_)
 show wpAny _ _ (callAny (.type "set") _) _ _ _
 refine eB ⟨Code.quiet_builtin _ (by decide +kernel),cf F.entry_type_call ?_⟩
 rw[Around.under_plain (weight_type_call_type "set" [.ref l] []) rfl]
 have h1:=dX.notType
 have h2:=dX.canCreate
 have hct:=F.typeCall_set_1 (.ref l)
 repeat (any_goals (first|assumption|wp_step))
 refine ae (mL (.ref l) (E:=E) (Q₁:=fun ob s₁=>ob=.ref s.heap.objs.size∧s₁={s with heap:=s.heap.push (yk w)}) ⟨rfl,rfl⟩) fun r s₁ hr=>?_
 cases r with
 |error e=>exact hr
 |ok fl=>
  cases fl with
  |ret ob=>
   obtain⟨rfl,rfl⟩:=hr
   have hS:(s.heap.push (yk w)).get? s.heap.objs.size=some (yk w):=eQ _ rfl
   have hT:Shared.TypeIs {s with heap:=s.heap.push (yk w)} (.ref s.heap.objs.size) "set":=⟨_,hS,rfl⟩
   have hli:=dX.init.lookup
   have hbi:=dX.init.bind (.ref s.heap.objs.size)
   repeat (any_goals (first|assumption|wp_step))
   refine ae (codeAny_call_builtin (R:=wants (fun r s₂=>r=.none∧∃h' tk,s₂={s with heap:=h',toks:=tk}∧Wk prog w h' s.heap.objs.size (fun j=>(firstMet (fun i=>ns.getD i 0) its.size).any (· == j)) (firstMet (fun i=>ns.getD i 0) its.size).length (zZ w)∧
     (∀c o,c<s.heap.objs.size→s.heap.get? c=some o→h'.get? c=some o)) E) dX.init.plain F.entry_set_init (check_set_init_1 hT ?_)) fun r₂ s₂ hr₂=>?_
   ·obtain⟨ol,hol,hcl,nl,hdl⟩:=hl
    obtain⟨ocls,odict,odata,oslots⟩:=ol
    simp only at hcl hdl
    subst hcl hdl
    have hol':(s.heap.push (yk w)).get? l=some {cls:=.type "list",dict:=odict,data:=.seq its nl,slots:=oslots}:=eE _ hol
    have hsls:=F.sub_list_set
    have hslf:=F.sub_list_frozenset
    have hne:(Value.type "list" == Value.type "dict")=false:=by decide
    have hl1:(s.heap.push (yk w)).IsList l its:=⟨_,hol',rfl,nl,rfl⟩
    unfold Builtin.«set.__init__» noKeywords Builtin.Frozenset.updateFrom
    generalize hPI:pyIter=PI
    wp_walk
    subst hPI
    refine aN hl1 (eA (wpAny_runValue ?_))
    have hlS:l<s.heap.objs.size:=eM hol
    have sz:(s.heap.push (yk w)).objs.size=s.heap.objs.size+1:=af _ _
    have hneI:l≠(s.heap.push (yk w)).objs.size:=by rw[sz];exact eO (dC hlS)
    have hSf:s.heap.objs.size∉[(s.heap.push (yk w)).objs.size,l]:=by
     rw[sz]
     simp only[eJ,dq,cp,not_or]
     exact⟨eO (bj _),bP hlS⟩
    refine kI ((Walks.list (by simp[hh]) _ l hneI its).toS) s.heap.objs.size hSf (fun i=>ns.getD i 0) (fun i v hv=>IntsAre.int_at hi i v (by rw[cP];exact hv)) hb (its.size-0) 0 _ (by omega) (dM _)
     ⟨⟨_,eQ _ rfl,rfl,rfl⟩,hl1.push _⟩ ⟨yk w,_,_,_,eE _ hS,jf⟩ fun s' hm x=>?_
    obtain⟨h',g',d',tk',os'⟩:=s'
    have eg:g'=s.gens:=hm.gens
    have ed:d'=s.drawn:=hm.drawn
    have eo:os'=s.os:=hm.os
    subst eg ed eo
    refine eB (eB ⟨rfl,h',tk',rfl,x,fun c o hc e=>?_⟩)
    refine hm.heap c o ?_ (eE _ (eE _ e))
    rw[sz]
    simp only[eJ,dq,cp,not_or]
    exact⟨eO hc,eO (dC hc)⟩
   ·cases r₂ with
    |error e=>exact hr₂
    |ok fl₂=>
     cases fl₂ with
     |ret r=>
      obtain⟨rfl,h',tk,rfl,x,hk⟩:=hr₂
      repeat (any_goals (first|assumption|wp_step))
      exact h _ _ x hk
     |_=>exact hr₂.elim
  |_=>exact hr.elim
end
theorem xr {α:Type}:∀(l:List α) (i:Nat) (x:α),l[i]?=some x→(x::l.eraseIdx i).Perm l
 |[],i,x,h=>by simp at h
 |a::l,0,x,h=>by simp at h;subst h;exact .refl _
 |a::l,i+1,x,h=>by
  have h':l[i]?=some x:=by simpa using h
  exact (List.Perm.swap a x (l.eraseIdx i)).trans ((xr l i x h').cons a)
theorem rU {α:Type}(next:Nat→Nat):∀(f k:Nat) (left:List α) (out:Array α),left.length=f→(pickOrder.go next f k left out).toList.Perm (out.toList++left)
 |0,k,left,out,e=>by
  rw[bg.mp e,cS]
  exact .refl _
 |f+1,k,left,out,e=>by
  unfold pickOrder.go
  have hl:next k % left.length<left.length:=bJ _ (by omega)
  rw[eL hl]
  dsimp only
  refine (rU next f (k+1) _ _ (by rw[List.length_eraseIdx];split<;>omega)).trans ?_
  rw[cY,eU]
  exact dI _ (xr left _ _ (eL hl))
theorem xS {α:Type}(next:Nat→Nat)(xs:Array α):(pickOrder next xs).toList.Perm xs.toList:=by
 have:=rU next xs.size 0 xs.toList #[] (by simp)
 simpa[pickOrder] using this
section
variable {prog:Program}{w:World}{A:Around}{E:Value→Shared→Prop}
theorem pP {M:Model}{src:Source}{n:Nat}{s:Shared}{Q:Nat→Shared→Prop}(hn:n≠0)(h:∀i d,i<n→Q i {s with drawn:=d}):wpAny M A (choose src n) Q E s:=fun _ _ _=>⟨hn,h _ _ (bJ _ (Nat.pos_of_ne_zero hn))⟩
theorem qx {α:Type}:∀(n:Nat) (xs:List α) {s:Shared} {Q:List α→Shared→Prop},xs.length=n→(∀ys d,ys.Perm xs→Q ys {s with drawn:=d})→wpAny (model prog w) A (drawOrder n xs) Q E s
 |0,xs,s,Q,e,h=>by
  rw[bg.mp e] at h
  cases s
  exact eB (h [] _ (.refl _))
 |n+1,[],s,Q,e,h=>by cases e
 |n+1,x::xs,s,Q,e,h=>by
  unfold drawOrder
  refine eA (pP (by simp) fun i d0 hl=>?_)
  rw[eL hl]
  dsimp only
  refine eA (qx n _ (by rw[List.length_eraseIdx,if_pos hl];simp at e ⊢;omega) fun ys d hy=>eB ?_)
  exact h _ d ((hy.cons _).trans (xr _ _ _ (eL hl)))
end
theorem zM :Slot "set_iterator" "__next__" "set_iterator.__next__":=
 .of (owner:="set_iterator") (n:="__next__") (by rw[typeLookup_type,builtinLookup_eq_fast];kernel_rfl) (by decide +kernel) (by decide +kernel) (by decide +kernel) (by first|exact .inl (by decide +kernel)|exact .inr (by decide +kernel)) (by rw[isSubtype_type];kernel_rfl)
theorem yZ :entryFor table "set_iterator.__next__"=some Builtin.«set_iterator.__next__»:=entryFor_of_fast (by kernel_rfl)
theorem xy (a:Value):argsOk "set_iterator.__next__" ⟨[a],[]⟩:=by unfold argsOk;kernel_rfl
theorem oA :entryFor table "set.__iter__"=some Builtin.«frozenset.__iter__»:=entryFor_alias (id':="frozenset.__iter__") (by kernel_rfl) rfl (by decide +kernel) (by kernel_rfl)
abbrev itO (f:Value)(i:Nat)(a:Addr)(n ep:Nat):Obj:={cls:=.type "set_iterator",data:=.fields #[f,.int i 0,.ref a,.int n 0,.int ep 0]}
section
variable {prog:Program}{w:World}{A:Around}{E:Value→Shared→Prop}{s:Shared}{I a:Addr}{i n ep:Nat}{o:Obj}{es:Array (Int×Value)}{S:Int→Bool}{m:Nat}{b:Bool}{t:SetTable}{Q:Option Value→Shared→Prop}
theorem kO {sl sl':Nat}{v:Value}(ho:s.heap.get? I=some (itO (.int sl 0) i a n ep))(hoa:s.heap.get? a=some o)(x:WkO prog w o S m b es ep t)(hn:es.size=n)
  (hN:∀(A':Around) (E:Value→Shared→Prop) (Q':Option (Value×Nat)→Shared→Prop),Q' (some (v,sl')) s→wpAny (model prog w) A' (setNext a sl i ep) Q' E s)
  (hQ:∀h',h'.get? I=some (itO (.int sl' 0) (i+1) a n ep)→Heap.SameBut I s.heap h'→Q (some v) {s with heap:=h'}):wpAny (model prog w) A (pyNext (.ref I)) Q E s:=by
 have hT:s.TypeIs (.ref I) "set_iterator":=⟨_,ho,rfl⟩
 unfold pyNext
 refine eA (aT (bU (name:=Str.ofString "__next__") hT zM (cM zM hT yZ ?_ (xy _))))
 unfold Builtin.«set_iterator.__next__»
 refine eA (bu (a:=(Value.ref I,([]:List Value))) (by rfl) (eA (wpAny_fieldsOf ho rfl ?_)))
 refine eA (bR hoa x.dt x.fit ?_)
 rw[hn]
 refine dD (fun z=>absurd z (by simp)) (fun _=>?_)
 refine eA (hN _ _ _ ?_)
 refine eA (bA ho (by simp) fun h1 e1 s1=>?_)
 refine eA (bA e1 (by simp) fun h2 e2 s2=>?_)
 exact eB ⟨v,rfl,eB (hQ h2 e2 (s1.trans s2))⟩
theorem iC {sl:Nat}(hh:A.handled=none)(ho:s.heap.get? I=some (itO (.int sl 0) i a n ep))(hoa:s.heap.get? a=some o)(x:WkO prog w o S m b es ep t)(hn:es.size=n)
  (hN:∀(A':Around) (E:Value→Shared→Prop) (Q':Option (Value×Nat)→Shared→Prop),Q' none s→wpAny (model prog w) A' (setNext a sl i ep) Q' E s)
  (hQ:∀h',Heap.ExtBut I s.heap h'→Q none {s with heap:=h'}):wpAny (model prog w) A (pyNext (.ref I)) Q E s:=by
 have hT:s.TypeIs (.ref I) "set_iterator":=⟨_,ho,rfl⟩
 unfold pyNext
 refine eA (aT (bU (name:=Str.ofString "__next__") hT zM (cM zM hT yZ ?_ (xy _))))
 unfold Builtin.«set_iterator.__next__»
 refine eA (bu (a:=(Value.ref I,([]:List Value))) (by rfl) (eA (wpAny_fieldsOf ho rfl ?_)))
 refine eA (bR hoa x.dt x.fit ?_)
 rw[hn]
 refine dD (fun z=>absurd z (by simp)) (fun _=>?_)
 refine eA (hN _ _ _ ?_)
 refine eA (bA ho (by simp) fun h1 e1 s1=>?_)
 refine eA ?_
 simp only[newExc,newTuple]
 refine eA (cq ?_ (by size_fits))
 refine eA (m:=firstArgMember _ _) (bu (a:=Value.none) (by first|rfl|(simp only[firstArgMember];rfl)) ?_)
 refine cq ?_ (by size_fits)
 simp only[raiseNew]
 refine eA (wpAny_handled ?_)
 rw[show A.in1.handled=none from hh]
 refine eA (eB (wpAny_throw ?_))
 refine eA (wpAny_isInstance (T:="StopIteration") (b:=true) ⟨_,eQ _ rfl,rfl⟩ isSubtype_stop ?_)
 exact eB (hQ _ ((s1.extBut.push _).push _))
theorem mf {tp:Addr}{ot:Obj}{places:Array Value}{c:Nat}{k:Nat}{u:Tok}{e:Int×Value}(ho:s.heap.get? I=some (itO (.ref tp) i a n ep))(hot:s.heap.get? tp=some ot)(hdt:ot.data=.seq places c)(hoa:s.heap.get? a=some o)(x:WkO prog w o S m b es ep t)(hn:es.size=n)
  (hp:places[i]?=some (.int k u)) (he:es[k]?=some e)
  (hQ:∀h',h'.get? I=some (itO (.ref tp) (i+1) a n ep)→Heap.SameBut I s.heap h'→Q (some e.2) {s with heap:=h'}):wpAny (model prog w) A (pyNext (.ref I)) Q E s:=by
 have hT:s.TypeIs (.ref I) "set_iterator":=⟨_,ho,rfl⟩
 unfold pyNext
 refine eA (aT (bU (name:=Str.ofString "__next__") hT zM (cM zM hT yZ ?_ (xy _))))
 unfold Builtin.«set_iterator.__next__»
 refine eA (bu (a:=(Value.ref I,([]:List Value))) (by rfl) (eA (wpAny_fieldsOf ho rfl ?_)))
 refine eA (bR hoa x.dt x.fit ?_)
 rw[hn]
 refine dD (fun z=>absurd z (by simp)) (fun _=>?_)
 refine eA (aJ hot hdt ?_)
 dsimp only
 rw[cW,hp]
 dsimp only
 unfold setNextDrawn
 refine eA (eA (dJ hoa x.dt x.fit ?_))
 dsimp only
 rw[cW,cW]
 refine dD (fun z=>absurd z (by simp)) (fun _=>?_)
 rw[he]
 refine eB ?_
 refine eA (bA ho (by simp) fun h2 e2 s2=>?_)
 exact eB ⟨e.2,rfl,eB (hQ h2 e2 s2)⟩
theorem lR {tp:Addr}{ot:Obj}{places:Array Value}{c:Nat}(hh:A.handled=none)(ho:s.heap.get? I=some (itO (.ref tp) i a n ep))(hot:s.heap.get? tp=some ot)(hdt:ot.data=.seq places c)(hoa:s.heap.get? a=some o)(x:WkO prog w o S m b es ep t)(hn:es.size=n)
  (hp:places[i]?=none) (hQ:∀h',Heap.ExtBut I s.heap h'→Q none {s with heap:=h'}):wpAny (model prog w) A (pyNext (.ref I)) Q E s:=by
 have hT:s.TypeIs (.ref I) "set_iterator":=⟨_,ho,rfl⟩
 unfold pyNext
 refine eA (aT (bU (name:=Str.ofString "__next__") hT zM (cM zM hT yZ ?_ (xy _))))
 unfold Builtin.«set_iterator.__next__»
 refine eA (bu (a:=(Value.ref I,([]:List Value))) (by rfl) (eA (wpAny_fieldsOf ho rfl ?_)))
 refine eA (bR hoa x.dt x.fit ?_)
 rw[hn]
 refine dD (fun z=>absurd z (by simp)) (fun _=>?_)
 refine eA (aJ hot hdt ?_)
 dsimp only
 rw[cW,hp]
 refine eA (bA ho (by simp) fun h0 e0 s0=>?_)
 refine eA (bA e0 (by simp) fun h1 e1 s1=>?_)
 refine eA ?_
 simp only[newExc,newTuple]
 refine eA (cq ?_ (by size_fits))
 refine eA (m:=firstArgMember _ _) (bu (a:=Value.none) (by first|rfl|(simp only[firstArgMember];rfl)) ?_)
 refine cq ?_ (by size_fits)
 simp only[raiseNew]
 refine eA (wpAny_handled ?_)
 rw[show A.in1.handled=none from hh]
 refine eA (eB (wpAny_throw ?_))
 refine eA (wpAny_isInstance (T:="StopIteration") (b:=true) ⟨_,eQ _ rfl,rfl⟩ isSubtype_stop ?_)
 exact eB (hQ _ (((s0.trans s1).extBut.push _).push _))
theorem rA (hoa:s.heap.get? a=some o)(x:WkO prog w o S m b es ep t)(hl:zZ w=true)(hb:b=true)(hp:(!t.plain&&decide (es.size > 1))=false)(hi:i<es.size)(A':Around)(E:Value→Shared→Prop)(Q':Option (Value×Nat)→Shared→Prop){sl:Nat}(hs:SetTable.below t.place sl=i)
  (q:∀(hi':i<t.place.size),Q' (some (es[i].2,t.place[i]+1)) s):wpAny (model prog w) A' (setNext a sl i ep) Q' E s:=by
 have ht:w.params.followText "set-order"=false:=by simpa[zZ] using hl
 have hpl:t.place.size=es.size:=by
  have:=x.fit
  simp only[SetTable.fits,ah,beq_iff_eq] at this
  exact this.1
 unfold setNext
 refine eA (dJ hoa x.dt x.fit ?_)
 dsimp only
 unfold setsByText
 refine eA (eA (bq (eB ?_)))
 refine dD (fun z=>absurd z (by show ¬(w.params.followText "set-order"=true);rw[ht];decide)) (fun _=>?_)
 have hb2:t.led=true:=x.led.trans hb
 refine dD (fun z=>absurd (show (!t.plain&&decide (es.size > 1))=true from z) (by rw[hp];decide)) (fun _=>?_)
 refine eA ((?_:wpAny (model prog w) A' (if (!t.led&&!es.isEmpty)=true then unsupported "set:maker-not-led" else pure ()) _ E s))
 rw[hb2]
 refine eB ?_
 rw[hs,dR hi,dR (show i<t.place.size by omega)]
 exact eB (q (by omega))
theorem og (hoa:s.heap.get? a=some o)(x:WkO prog w o S m b es ep t)(hl:zZ w=true)(hb:b=true)(hp:(!t.plain&&decide (es.size > 1))=false)(A':Around)(E:Value→Shared→Prop)(Q':Option (Value×Nat)→Shared→Prop){sl:Nat}(hs:SetTable.below t.place sl=es.size)
  (q:Q' none s):wpAny (model prog w) A' (setNext a sl i ep) Q' E s:=by
 have ht:w.params.followText "set-order"=false:=by simpa[zZ] using hl
 unfold setNext
 refine eA (dJ hoa x.dt x.fit ?_)
 dsimp only
 unfold setsByText
 refine eA (eA (bq (eB ?_)))
 refine dD (fun z=>absurd z (by show ¬(w.params.followText "set-order"=true);rw[ht];decide)) (fun _=>?_)
 have hb2:t.led=true:=x.led.trans hb
 refine dD (fun z=>absurd (show (!t.plain&&decide (es.size > 1))=true from z) (by rw[hp];decide)) (fun _=>?_)
 refine eA ((?_:wpAny (model prog w) A' (if (!t.led&&!es.isEmpty)=true then unsupported "set:maker-not-led" else pure ()) _ E s))
 rw[hb2]
 refine eB ?_
 rw[hs,Array.getElem?_eq_none (eG _)]
 exact eB q
theorem uq (hoa:s.heap.get? a=some o)(x:WkO prog w o S m b es ep t)(hl:zZ w=false)(A':Around)(E:Value→Shared→Prop)(Q':Option (Value×Nat)→Shared→Prop){sl:Nat}
  (q:Q' (((pickOrder (w.params.setOrder a ep) es)[i]?).map fun e=>(e.2,sl)) s):wpAny (model prog w) A' (setNext a sl i ep) Q' E s:=by
 have ht:w.params.followText "set-order"=true:=by simpa[zZ] using hl
 unfold setNext
 refine eA (dJ hoa x.dt x.fit ?_)
 dsimp only
 unfold setsByText
 refine eA (eA (bq (eB ?_)))
 refine dD (fun _=>?_) (fun z=>absurd ht z)
 refine dD (fun z=>absurd z (by simp)) (fun _=>?_)
 unfold setWalk
 refine eA (eA (dJ hoa x.dt x.fit ?_))
 dsimp only
 unfold setsByText
 refine eA (eA (bq (eB ?_)))
 refine dD (fun _=>?_) (fun z=>absurd ht z)
 exact eA (bq (eB (eB q)))
end
theorem tN :Slot "set_iterator" "__iter__" "set_iterator.__iter__":=
 .of (owner:="set_iterator") (n:="__iter__") (by rw[typeLookup_type,builtinLookup_eq_fast];kernel_rfl) (by decide +kernel) (by decide +kernel) (by decide +kernel) (by first|exact .inl (by decide +kernel)|exact .inr (by decide +kernel)) (by rw[isSubtype_type];kernel_rfl)
theorem pS :entryFor table "set_iterator.__iter__"=some Builtin.«dict_keyiterator.__iter__»:=entryFor_alias (id':="dict_keyiterator.__iter__") (by kernel_rfl) rfl (by decide +kernel) (by kernel_rfl)
theorem nK (a:Value):argsOk "set_iterator.__iter__" ⟨[a],[]⟩:=by unfold argsOk;kernel_rfl
section
variable {prog:Program}{w:World}{A:Around}{I a:Addr}{n ep:Nat}{o:Obj}{es:Array (Int×Value)}{S:Int→Bool}{m:Nat}{b:Bool}{t:SetTable}{ord:List Value}
theorem qI {E:Value→Shared→Prop}{s:Shared}{f:Value}{i:Nat}{Q:Value→Shared→Prop}(ho:s.heap.get? I=some (itO f i a n ep))(q:Q (.ref I) s):wpAny (model prog w) A (pyIter (.ref I)) Q E s:=by
 have hT:s.TypeIs (.ref I) "set_iterator":=⟨_,ho,rfl⟩
 refine wpAny_pyIter_slot hT tN (cM tN hT pS ?_ (nK _))
 show wpAny _ _ (ret (.ref I)) _ _ s
 exact eB ⟨_,rfl,"set_iterator",_,hT,zM.lookup,q⟩
theorem jr (hh:A.handled=none)(hne:a≠I)(x:WkO prog w o S m b es ep t)(hn:es.size=n)(hl:ord.length=n)(stp:Nat→Nat)
  (hN:∀(i:Nat) (s:Shared) (A':Around) (E:Value→Shared→Prop) (Q':Option (Value×Nat)→Shared→Prop),s.heap.get? a=some o→(hi:i<ord.length)→Q' (some (ord[i],stp (i+1))) s→wpAny (model prog w) A' (setNext a (stp i) i ep) Q' E s)
  (hE:∀(s:Shared) (A':Around) (E:Value→Shared→Prop) (Q':Option (Value×Nat)→Shared→Prop),s.heap.get? a=some o→Q' none s→wpAny (model prog w) A' (setNext a (stp n) n ep) Q' E s):
  Walks prog w A I [I,a] [I] n (fun i v=>ord[i]?=some v) (fun i h=>h.get? I=some (itO (.int (stp i) 0) i a n ep)∧h.get? a=some o) where
 sub:=fun c hc=>by simp at hc;simp[hc]
 frame:=fun i h h' st k=>⟨k I (by simp) _ st.1,k a (by simp) _ st.2⟩
 item:=fun i s Q E hi st hQ=>kO st.1 st.2 x hn (fun A' E Q' q=>hN i s A' E Q' st.2 (by omega) q) fun h' e sb=>by
  cases s
  exact hQ _ h' _ (eL (by omega)) ⟨e,by rw[sb.2 a hne];exact st.2⟩ fun c u hc e=>by rw[sb.2 c fun z=>hc (by simp[z])];exact e
 done:=fun s Q E st hQ=>iC hh st.1 st.2 x hn (fun A' E Q' q=>hE s A' E Q' st.2 q) fun h' e=>by
  cases s
  exact hQ h' _ fun c u hc e'=>e c u (fun z=>hc (by simp[z])) e'
 self:=fun i s Q E st q=>qI st.1 q
theorem gN {tp:Addr}{ot:Obj}{ks:List Nat}{c:Nat}(hh:A.handled=none)(hne:a≠I)(htp:tp≠I)(x:WkO prog w o S m b es ep t)(hn:es.size=n)(hl:ks.length=n)(hk:∀k∈ks,k<n)(hdt:ot.data=.seq (ks.map fun k=>Value.int (k:Nat) 0).toArray c):
  Walks prog w A I [I,a,tp] [I] n (fun i v=>(ks.map fun k=>(es.getD k (0,.none)).2)[i]?=some v) (fun i h=>h.get? I=some (itO (.ref tp) i a n ep)∧h.get? a=some o∧h.get? tp=some ot) where
 sub:=fun c hc=>by simp at hc;simp[hc]
 frame:=fun i h h' st k=>⟨k I (by simp) _ st.1,k a (by simp) _ st.2.1,k tp (by simp) _ st.2.2⟩
 item:=fun i s Q E hi st hQ=>by
  have hi':i<ks.length:=by omega
  have hki:ks[i]<es.size:=by rw[hn];exact hk _ (bp hi')
  refine mf (k:=ks[i]) (u:=0) (e:=es[ks[i]]) st.1 st.2.2 hdt st.2.1 x hn (by simp[hi']) (dR hki) fun h' e sb=>?_
  cases s
  refine hQ _ h' _ ?_ ⟨e,by rw[sb.2 a hne];exact st.2.1,by rw[sb.2 tp htp];exact st.2.2⟩ fun c u hc e=>by rw[sb.2 c fun z=>hc (by simp[z])];exact e
  rw[dy,eL hi']
  simp[Array.getD,hki]
 done:=fun s Q E st hQ=>lR hh st.1 st.2.2 hdt st.2.1 x hn (by simp[hl]) fun h' e=>by
  cases s
  exact hQ h' _ fun c u hc e'=>e c u (fun z=>hc (by simp[z])) e'
 self:=fun i s Q E st q=>qI st.1 q
def oO (t:SetTable):Nat→Nat
 |0=>0
 |i+1=>t.place.getD i 0+1
def Wkd (prog:Program)(w:World)(h:Heap)(I a:Addr)(N n:Nat)(ord:List Value):Prop:=∀A:Around,A.handled=none→∃fp St,Walks prog w A I fp [I] n (fun i v=>ord[i]?=some v) St∧St 0 h∧(∀c∈fp,c=a∨N≤c)∧I∈fp
theorem kL {E:Value→Shared→Prop}{s:Shared}{Q:Value→Shared→Prop}(hoa:s.heap.get? a=some o)(x:WkO prog w o S m (zZ w) es ep t)
  (h:∀(I:Addr) (h':Heap) d (ord:List Value),(∀c u,s.heap.get? c=some u→h'.get? c=some u)→s.heap.objs.size≤I→ord.Perm (es.toList.map (·.2))→Wkd prog w h' I a s.heap.objs.size es.size ord→Q (.ref I) {s with heap:=h',drawn:=d}):wpAny (model prog w) A (pyIter (.ref a)) Q E s:=by
 have hT:s.TypeIs (.ref a) "set":=⟨_,hoa,x.ex.1⟩
 have alt:a<s.heap.objs.size:=eM hoa
 refine wpAny_pyIter_slot hT F.slot_set_iter (cM F.slot_set_iter hT oA ?_ (F.args_set_iter_1 _))
 unfold Builtin.«frozenset.__iter__»
 refine eA (bu (a:=a) (by rfl) ?_)
 refine eA ?_
 unfold Builtin.Frozenset.sizeOf
 refine eA (bR hoa x.dt x.fit (eB ?_))
 refine eA ?_
 unfold setDrawn
 refine eA (dJ hoa x.dt x.fit ?_)
 dsimp only
 unfold setsByText
 refine eA (eA (bq (eB (eB ?_))))
 have sz:es.size≤sizeLine:=aQ x.sb
 refine dD (fun hd=>?_) (fun hd=>?_)
 ·refine eA (qx _ _ (by simp) fun ks d pk=>?_)
  have lk:ks.length=es.size:=by rw[pk.length_eq,List.length_range]
  refine eA (wpAny_newTuple ?_ (by rw[eD];omega))
  generalize hI:(s.heap.push {cls:=.type "tuple",data:=.seq (ks.map fun (i:Nat)=>rawInt i).toArray}).objs.size=I
  have eI:I=s.heap.objs.size+1:=by rw[←hI];exact af _ _
  have k1:∀c u,s.heap.get? c=some u→(s.heap.push {cls:=.type "tuple",data:=.seq (ks.map fun (i:Nat)=>rawInt i).toArray}).get? c=some u:=fun c u e=>eE _ e
  refine eA (wpAny_setEpoch_of (k1 _ _ hoa) x.dt x.fit ?_)
  refine eA (cq (eB ⟨_,rfl,"set_iterator",_,⟨_,eQ _ rfl,rfl⟩,zM.lookup,?_⟩))
  dsimp only
  rw[hI]
  have k2:∀c u,s.heap.get? c=some u→((s.heap.push {cls:=.type "tuple",data:=.seq (ks.map fun (i:Nat)=>rawInt i).toArray}).push (itO (.ref s.heap.objs.size) 0 a es.size ep)).get? c=some u:=fun c u e=>eE _ (k1 c u e)
  refine h I _ d (ks.map fun k=>(es.getD k (0,.none)).2) k2 (by rw[eI];exact bN _) ?_ (fun A hh=>⟨_,_,gN (tp:=s.heap.objs.size) hh (by rw[eI];exact eO (dC alt)) (by rw[eI];exact eO (bj _)) x rfl lk (fun k hk=>cO.mp (pk.mem_iff.mp hk)) rfl,⟨by rw[←hI];exact eQ _ rfl,k2 _ _ hoa,eE _ (eQ _ rfl)⟩,fun c hc=>?_,by simp⟩)
  ·have e:es.toList.map (·.2)=(List.range es.size).map fun k=>(es.getD k (0,.none)).2:=by
    refine List.ext_getElem (by simp) fun i h1 h2=>?_
    have:i<es.size:=by simpa using h1
    simp[Array.getD,this]
   rw[e]
   exact pk.map _
  ·simp only[eJ,dq,cp] at hc
   rcases hc with rfl|rfl|rfl
   ·rw[eI];exact .inr (bN _)
   ·exact .inl rfl
   ·exact .inr (eG _)
 ·refine eA (eB (eA (wpAny_setEpoch_of hoa x.dt x.fit ?_)))
  refine eA (cq (eB ⟨_,rfl,"set_iterator",_,⟨_,eQ _ rfl,rfl⟩,zM.lookup,?_⟩))
  have k2:∀c u,s.heap.get? c=some u→(s.heap.push (itO (.int (0:Nat) 0) 0 a es.size ep)).get? c=some u:=fun c u e=>eE _ e
  have fpl:∀c∈[s.heap.objs.size,a],c=a∨s.heap.objs.size≤c:=fun c hc=>by
   simp only[eJ,dq,cp] at hc
   rcases hc with rfl|rfl
   ·exact .inr (eG _)
   ·exact .inl rfl
  cases hw:zZ w with
  |false=>
   have q:=h s.heap.objs.size _ s.drawn ((pickOrder (w.params.setOrder a ep) es).toList.map (·.2)) k2 (eG _) ((xS _ _).map _) (fun A hh=>⟨_,_,jr hh (eO alt) x rfl (by rw[eD,(xS _ es).length_eq];simp) (fun _=>0) (fun i s A' E Q' e hi q=>uq e x hw A' E Q' ?_) (fun s A' E Q' e q=>uq e x hw A' E Q' ?_),⟨eQ _ rfl,k2 _ _ hoa⟩,fpl,by simp⟩)
   ·exact q
   ·have hi':i<(pickOrder (w.params.setOrder a ep) es).size:=by simpa using hi
    rw[dR hi']
    simpa using q
   ·rw[Array.getElem?_eq_none (by
     have:=(xS (w.params.setOrder a ep) es).length_eq
     simp at this
     omega)]
    exact q
  |true=>
   have ht:w.params.followText "set-order"=false:=by simpa[zZ] using hw
   have hx:¬((!w.params.followText "set-order"&&(!t.plain&&decide (es.size > 1)))=true):=hd
   rw[ht] at hx
   have hx':(!t.plain&&decide (es.size > 1))=false:=by simpa using hx
   have hpl:t.place.size=es.size:=by
    have:=x.fit
    simp only[SetTable.fits,ah,beq_iff_eq] at this
    exact this.1
   have up:Up t.place:=by
    cases hp:t.plain with
    |true=>exact x.ris hp
    |false=>
     rw[hp] at hx'
     have:es.size≤1:=by simpa using hx'
     unfold Up
     have h1:t.place.toList.length≤1:=by simp;omega
     match hL:t.place.toList,h1 with
     |[],_=>exact .nil
     |[y],_=>exact aM _ _
   have st:∀i (hi:i≤es.size),SetTable.below t.place (oO t i)=i:=fun i hi=>by
    cases i with
    |zero=>exact sZ up
    |succ i=>
     have hi':i<t.place.size:=by omega
     have e:oO t (i+1)=t.place[i]+1:=by simp[oO,Array.getD,hi']
     rw[e]
     exact sY up hi'
   have q:=h s.heap.objs.size _ s.drawn (es.toList.map (·.2)) k2 (eG _) (.refl _) (fun A hh=>⟨_,_,jr hh (eO alt) x rfl (by simp) (oO t) (fun i s A' E Q' e hi q=>rA e x hw hw hx' (by simpa using hi) A' E Q' (st i (by simp at hi;omega)) fun hi'=>?_) (fun s A' E Q' e q=>og e x hw hw hx' A' E Q' (st _ (eG _)) q),⟨eQ _ rfl,k2 _ _ hoa⟩,fpl,by simp⟩)
   ·exact q
   ·have e:oO t (i+1)=t.place[i]+1:=by simp[oO,Array.getD,hi']
    rw[e] at q
    simpa using q
end
section
variable {prog:Program}{w:World}{A:Around}{E:Value→Shared→Prop}{s:Shared}{a:Addr}{ep:Nat}{o:Obj}{es:Array (Int×Value)}{S:Int→Bool}{m:Nat}{t:SetTable}
theorem mx {Q:Bool→Shared→Prop}(hT:s.TypeIs (.ref a) "set")(h:Q false s):wpAny (model prog w) A (Builtin.List.listLengthHint (.ref a)) Q E s:=by
 unfold Builtin.List.listLengthHint
 refine eA (wpAny_specialOf hT F.slot_set_len.lookup ?_)
 generalize hid:("set.__len__":String)=id0
 wp_delta
 rw[show splitId id0=some ("set","__len__") from by subst hid;decide +kernel]
 subst hid
 refine eA (wpAny_isInstance (T:="set") (b:=true) hT (by rw[isSubtype_type];kernel_rfl) ?_)
 refine dD (fun q=>absurd q (by decide)) fun _=>?_
 refine dD (fun _=>?_) fun q=>absurd (by decide +kernel) q
 refine eA (wpAny_typeOf hT ?_)
 exact eB h
theorem sC {Q:List Value→Shared→Prop}(hh:A.handled=none)(hoa:s.heap.get? a=some o)(x:WkO prog w o S m (zZ w) es ep t)
  (h:∀(h':Heap) d (tk:Nat) (ord:List Value),s.heap.objs.size<h'.objs.size→(∀c u,s.heap.get? c=some u→h'.get? c=some u)→ord.Perm (es.toList.map (·.2))→Q ord {s with heap:=h',drawn:=d,toks:=tk}):wpAny (model prog w) A (collect (.ref a)) Q E s:=by
 have alt:a<s.heap.objs.size:=eM hoa
 unfold collect
 refine eA (wpAny_runValue (cf F.entry_proto_collect ?_))
 rw[dS F.plain_proto_collect _]
 show wpAny _ A.in1 (newList [] >>= fun l=>again (.builtin "list.__iadd__" ⟨[l,.ref a],[]⟩)) _ _ s
 refine eA (cq ?_)
 refine eB ⟨ba F.plain_list_iadd _,cf F.entry_list_iadd ?_⟩
 rw[dS F.plain_list_iadd _]
 show wpAny _ A.in1 (Builtin.List.listExtendWith (.ref s.heap.objs.size) (.ref a) (.ref s.heap.objs.size)) _ _ _
 generalize hS:s.heap.objs.size=L
 have k1:∀c u,s.heap.get? c=some u→(s.heap.push {cls:=.type "list",data:=.seq ([]:List Value).toArray}).get? c=some u:=fun c u e=>eE _ e
 have hL1:(s.heap.push {cls:=.type "list",data:=.seq ([]:List Value).toArray}).get? L=some {cls:=.type "list",data:=.seq ([]:List Value).toArray}:=by rw[←hS];exact eQ _ rfl
 have sz1:(s.heap.push {cls:=.type "list",data:=.seq ([]:List Value).toArray}).objs.size=L+1:=by rw[←hS];exact af _ _
 generalize hp1:s.heap.push {cls:=.type "list",data:=.seq ([]:List Value).toArray}=h1 at k1 hL1 sz1
 have aL:a≠L:=by rw[←hS];exact eO alt
 unfold Builtin.List.listExtendWith
 refine eA (wpAny_typeOf (T:="set") ⟨_,k1 _ _ hoa,x.ex.1⟩ ?_)
 have b1:Builtin.List.listSameRef (.ref L) (.ref a)=false:=by simp[Builtin.List.listSameRef,bO aL]
 refine dD (fun z=>absurd z (by rw[b1];decide)) fun _=>?_
 refine eA (kL (k1 _ _ hoa) x fun I h2 d ord k2 hI pm wk=>?_)
 refine eA (dF (mx ⟨_,k2 _ _ (k1 _ _ hoa),x.ex.1⟩ ?_))
 refine dD (fun _=>?_) fun q=>absurd (by decide +kernel) q
 refine eA (cT ?_)
 refine eA ?_
 show wpAny _ A.in1 (updateSeq L (·.push .none) >>= fun _=>updateSeq L (·.pop)) _ _ _
 have hL2:=k2 _ _ hL1
 refine eA (ay hL2 rfl ?_)
 have hL3:=cz (Obj.mapSeq (·.push Value.none)) hL2 rfl
 refine ay hL3 rfl ?_
 have hL4:=cz (Obj.mapSeq (·.pop)) hL3 rfl
 have oth:∀c u,c≠L→h2.get? c=some u→((h2.update L (Obj.mapSeq (·.push Value.none))).update L (Obj.mapSeq (·.pop))).get? c=some u:=fun c u hc e=>(dU _ _ (bO hc)).trans ((dU _ _ (bO hc)).trans e)
 obtain⟨fp,St,W,w0,wf,wI⟩:=wk A.in1 (by simp[hh])
 have hSf:L∉fp:=fun z=>by
  rcases wf L z with e|e
  ·exact aL e.symm
  ·have e':h1.objs.size≤L:=e
   rw[sz1] at e'
   exact absurd e' (Nat.not_succ_le_self _)
 refine eB ⟨ba F.plain_extend_loop _,codeAny_extend_loopS W.toS (aQ x.sb) _ hSf _ es.size 0 _ _ _ rfl (dM _) (W.frame 0 _ _ w0 fun c hc u e=>oth c u (fun z=>hSf (z▸hc)) e) hL4 (ItemsOf.nil _) fun s' acc c' hm hS' hacc=>?_⟩
 show wpAny _ A (load L >>= _) _ _ s'
 refine eA (wpAny_load hS' ?_)
 have lo:ord.length=es.size:=by rw[pm.length_eq];simp
 have ea:acc.toList=ord:=by
  refine List.ext_getElem? fun i=>?_
  rcases cD i es.size with hi|hi
  ·have h1:i<acc.size:=by rw[hacc.1];exact hi
   have:=hacc.2 i acc[i] (dR h1)
   rw[this]
   simp[h1]
  ·rw[List.getElem?_eq_none (by simp[hacc.1];exact hi),List.getElem?_eq_none (by omega)]
 have cl:∀{c:Addr} {u:Obj},s.heap.get? c=some u→c<L:=fun e=>by rw[←hS];exact eM e
 have q:=h s'.heap s'.drawn s'.toks ord (by rw[hS];exact eM hS') (fun c u e=>hm.heap c u (fun z=>?_) (oth c u (eO (cl e)) (k2 _ _ (k1 _ _ e)))) pm
 ·refine eB ?_
  show Q acc.toList s'
  rw[ea]
  obtain⟨hp,g,dr,tk,os⟩:=s'
  have eg:g=s.gens:=hm.gens
  have eo:os=s.os:=hm.os
  subst eg eo
  exact q
 ·simp only[eJ,dq,cp] at z
  rcases z with z|z
  ·exact eO (cl e) z
  ·have h1':h1.objs.size≤I:=hI
   rw[sz1] at h1'
   have:=cl e
   rw[z] at this
   exact absurd (di (dC this) h1') (bG _)
theorem tQ :∀{F ms:List Int},F.Nodup→(∀k∈F,k∈ms)→ms.length=F.length→ms.Perm F
 |[],ms,_,_,e=>by rw[bg.mp e]
 |k::F,ms,nd,sb,e=>by
  have hk:=sb k eH
  have p1:=List.perm_cons_erase hk
  obtain⟨n1,n2⟩:=bD.mp nd
  have p2:=tQ (ms:=ms.erase k) n2 (fun j hj=>(za1 (fun z:j=k=>n1 (z▸hj))).mpr (sb j (eK _ hj))) (by
   have:=p1.length_eq
   simp only[df] at this e
   omega)
  exact p1.trans (p2.cons k)
theorem xh (val:Nat→Int):∀n,(firstMet val n).Nodup
 |0=>.nil
 |n+1=>by
  rw[firstMet_succ]
  unfold step_dedup
  split
  ·exact xh val n
  ·rename_i h
   rw[List.nodup_append]
   refine⟨xh val n,by simp,fun x hx y hy e=>?_⟩
   rw[dH.mp hy] at e
   exact h (List.any_eq_true.mpr ⟨x,hx,by simp[e]⟩)
theorem qh :∀(l:List (Int×Value)),(∀e∈l,∃k,(intKind prog w).is k e.2=true)→∃ms:List Int,IntsAre (l.map (·.2)) ms∧∀k,k∈ms↔∃e∈l,(intKind prog w).is k e.2=true
 |[],_=>⟨[],.nil,fun k=>by simp⟩
 |e::l,h=>by
  obtain⟨ms,h1,h2⟩:=qh l fun x hx=>h x (eK _ hx)
  obtain⟨k,hk⟩:=h e eH
  obtain⟨t,ht⟩:=Value.isInt_shape hk
  refine⟨k::ms,?_,fun j=>?_⟩
  ·rw[dG,ht]
   exact .cons k t h1
  ·rw[eJ,h2]
   constructor
   ·rintro (rfl|⟨x,hx,q⟩)
    ·exact⟨e,eH,hk⟩
    ·exact⟨x,eK _ hx,q⟩
   ·rintro⟨x,hx,q⟩
    rcases eJ.mp hx with rfl|hx
    ·exact .inl ((intKind prog w).inj _ _ _ q hk)
    ·exact .inr ⟨x,hx,q⟩
theorem oC :∀{vs us:List Value} {ms:List Int},us.Perm vs→IntsAre vs ms→∃ns,IntsAre us ns∧ns.Perm ms:=by
 intro vs us ms p
 induction p generalizing ms with
 |nil=>intro h;exact⟨ms,h,.refl _⟩
 |cons x p ih=>
  intro h
  cases h with
  |cons k t h=>
   obtain⟨ns,h1,h2⟩:=ih h
   exact⟨k::ns,.cons k t h1,h2.cons k⟩
 |swap x y l=>
  intro h
  cases h with
  |cons k t h=>
   cases h with
   |cons k' t' h=>exact⟨k'::k::_,.cons k' t' (.cons k t h),.swap k k' _⟩
 |trans p1 p2 ih1 ih2=>
  intro h
  obtain⟨ns,h1,h2⟩:=ih2 h
  obtain⟨ns',h3,h4⟩:=ih1 h1
  exact⟨ns',h3,h4.trans h2⟩
end
end SetW
namespace L2
open PySem PySem.Spec PyProof.Rows SetW
section
variable {X:Cx}{α:Ev}{e:Expr}{pos p p2 pos2:Pos}
abbrev xj (zs:List Int):List Int:=firstMet (fun i=>zs.getD i 0) zs.length
theorem Inv.drw {pins:List (Addr×Obj)}{σ:List (Option V)}{H:Hp}{s:Shared}(I:Inv X pins σ H s)(d:Drawn):Inv X pins σ H {s with drawn:=d}:=⟨I.ok,I.os,I.bare,I.base,I.loc,I.cell,I.free,I.freeC,I.pin,I.hok,I.len⟩
def SW (P:Program)(w:World)(o:Obj)(zs:List Int):Prop:=∃es ep t,WkO P w o (fun k=>(xj zs).any (· == k)) (xj zs).length (zZ w) es ep t
theorem oI (hc:X.calm=true):yj X (.type "set") (fun xs H Q=>∃(l:Addr) (zs:List Int),xs=[.ref l]∧H l=some (.lst (zs.map V.int))∧zs.length<1000∧∀(l':Addr) (o:Obj),H l'=none→SW X.prog X.w o zs→Q (.ref l') (upd H l' (.frz o (.set (fun k=>(xj zs).any (· == k)) (xj zs).length)))):=by
 intro pins s σ H xs us Q I r h
 obtain⟨l,zs,rfl,hl,h64,q⟩:=h
 obtain⟨u,rfl,rx⟩:=vals1 r
 cases rx
 obtain⟨its,rv,pl,hz⟩:=I.list (SqL.of hl)
 have l1:=rv.length
 rw[eD] at l1
 have sz:its.toArray.size=zs.length:=by simp[l1]
 refine iK (its:=its.toArray) (ns:=zs) (I.ok.hd hc) pl.isList (by simpa using intsAre_of rv) (by rw[sz];unfold scanBound;omega) fun h' tk hS hk=>?_
 rw[sz] at hS
 obtain⟨o,es,ep,t,ho,x⟩:=hS
 exact⟨.ref s.heap.objs.size,_,I.laid (o:=.frz o (.set _ _)) (t':=tk) (fun b u e=>hk b u (eM e) e) (eG _) ⟨ho,o,es,ep,t,ho,x.ex,x.dt,x.el,x.mem,x.sb,x.fit,x.sz⟩,rfl,q _ o (I.hok.fresh (eG _)) ⟨es,ep,t,x⟩⟩
theorem kY {zs:List Int}{k:Int}:k∈xj zs↔k∈zs:=by
 have h1:k∈xj zs↔(xj zs).any (· == k)=true:=by simp
 rw[h1,firstMet_any]
 simp only[List.any_eq_true,bB,cO,beq_iff_eq]
 constructor
 ·rintro⟨x,⟨i,hi,rfl⟩,rfl⟩
  rw[dh,eL hi]
  exact bp hi
 ·intro hk
  obtain⟨i,hi,e⟩:=cI hk
  exact⟨k,⟨i,hi,by rw[dh,eL hi];exact e⟩,rfl⟩
end
section
variable {X:Cx}{tg:Expr}
end
section
variable {X:Cx}{α:Ev}{e1 e2 e3 e4 e5 b:Expr}{pos p p1 p2 p3 p4 p5:Pos}{n1 n2 n3 n4 n5:Nat}{k1 k2 k3 k4 k5:Str}{Q:PyData→Prop}
end
end L2
namespace Tim
open PySem PyProof.Rows
def gal :Bool→Keyed→Array Keyed→Nat→Nat→Nat→StateT SortSt Sem (Option Nat):=sortPriv% PySem.Builtin.gallop
abbrev bey (left:Bool)(key:Keyed)(arr:Array Keyed)(base i:Nat):StateT SortSt Sem (Option Bool):=do
 let x ←elem' arr (base+i)
 if left then lt' x key else return (←lt' key x).map (!·)
structure GB (a₀:Array Keyed)(st:SortSt):Prop where
 perm:(arrOf st).Perm a₀
 kind:kindOf st=oneType'
 failed:failedOf st=none
section
variable {prog:Program}{w:World}{A:Around}{E:Value→Shared→Prop}{s:Shared}
theorem rT {st:SortSt}{x y:Keyed}{a b:Int}{t u:Tok}{Q:Option Bool→SortSt→Prop}(hk:kindOf st=oneType')(hx:x.1=.int a t)(hy:y.1=.int b u)(h:Q (some (decide (a<b))) st):wpS (model prog w) A E s (lt' x y) Q st:=by
 rw[lt'_eq]
 refine eF (wpS_get ?_)
 rw[hk,keyLt'_oneType,hx,hy]
 exact eF (wpS_lift (aT (oneLt_int ⟨rfl,eN h⟩)))
theorem zr {st:SortSt}{xs:Array Keyed}{i:Nat}{p:Keyed}{Q:Keyed→SortSt→Prop}(h:xs[i]?=some p)(q:Q p st):wpS (model prog w) A E s (elem' xs i) Q st:=by
 rw[elem'_eq,h]
 exact eN q
theorem zQ {xs:Array Keyed}(h:IntKeys xs){i:Nat}(hi:i<xs.size):∃t,xs[i].1=.int (K xs i) t:=by
 obtain⟨n,t,e⟩:=h xs[i] (by simp)
 refine⟨t,?_⟩
 have:K xs i=n:=by
  unfold K
  rw[dw xs i hi]
  show numOf xs[i].1=n
  rw[e];rfl
 rw[e,this]
def wy (left:Bool)(key:Int)(arr:Array Keyed)(base i:Nat):Bool:=if left then decide (K arr (base+i)<key) else !decide (key<K arr (base+i))
theorem jR {st:SortSt}{left:Bool}{key:Keyed}{kz:Int}{kt:Tok}{arr:Array Keyed}{base i:Nat}{Q:Option Bool→SortSt→Prop}(hk:kindOf st=oneType')(hkey:key.1=.int kz kt)(ia:IntKeys arr)(hi:base+i<arr.size)(h:Q (some (wy left kz arr base i)) st):
  wpS (model prog w) A E s (bey left key arr base i) Q st:=by
 obtain⟨t,e⟩:=zQ ia hi
 refine eF (zr (dw arr _ hi) ?_)
 cases left with
 |true=>exact rT hk e hkey h
 |false=>exact eF (rT hk hkey e (eN h))
structure Cut (p:Nat→Bool)(n r:Nat):Prop where
 le:r≤n
 lo:∀i,i<r→p i=true
 hi:∀i,r≤i→i<n→p i=false
abbrev TS :=Option (Option Nat)×Nat×Nat
theorem uB {st:SortSt}{p:Nat→Bool}{b:Nat→StateT SortSt Sem (Option Bool)}{n:Nat}{Q:Option Nat→SortSt→Prop}(B:∀{i:Nat} {Q:Option Bool→SortSt→Prop},i<n→Q (some (p i)) st→wpS (model prog w) A E s (b i) Q st)(mono:∀i j,i≤j→j<n→p j=true→p i=true)(h:∀r,Cut p n r→Q (some r) st)
  {f:Nat→TS→StateT SortSt Sem (ForInStep TS)} {F:TS→StateT SortSt Sem (Option Nat)} (f1:∀x lo hi,lo≥hi→f x (none,lo,hi)=pure (.done (none,lo,hi)))
  (f2:∀x lo hi,¬lo≥hi→∃g,f x (none,lo,hi)=b (lo+(hi-lo) / 2) >>= g∧g (some true)=pure (.yield (none,lo+(hi-lo) / 2+1,hi))∧g (some false)=pure (.yield (none,lo,lo+(hi-lo) / 2))) (hF:∀r,F (none,r,r)=pure (some r))
  {lo hi:Nat} (h1:lo≤hi) (h2:hi≤n) (h3:∀i,i<lo→p i=true) (h4:∀i,hi≤i→i<n→p i=false):wpS (model prog w) A E s (forIn [0:n] ((none,lo,hi):TS) f >>= F) Q st:=by
 refine eF (cU (dY (I:=fun x c st'=>st'=st∧∃lo hi,c=(none,lo,hi)∧lo≤hi∧hi≤n∧hi-lo≤n-x∧(∀i,i<lo→p i=true)∧∀i,hi≤i→i<n→p i=false)
  (Q:=fun c st'=>st'=st∧∃r,c=(none,r,r)∧Cut p n r) ?_ ?_ ⟨rfl,lo,hi,rfl,h1,h2,by omega,h3,h4⟩) ?_)
 ·rintro x c st' _ hx ⟨rfl,lo,hi,rfl,h1,h2,h5,h3,h4⟩
  by_cases hge:lo≥hi
  ·rw[f1 x lo hi hge]
   have e:lo=hi:=by omega
   subst e
   exact eN ⟨rfl,lo,rfl,h2,h3,h4⟩
  ·obtain⟨g,e,g1,g2⟩:=f2 x lo hi hge
   rw[e]
   refine eF (B (by omega) ?_)
   cases z:p (lo+(hi-lo) / 2) with
   |true=>
    rw[g1]
    exact eN ⟨rfl,_,_,rfl,by omega,h2,by omega,fun i hi'=>mono i _ (by omega) (by omega) z,h4⟩
   |false=>
    rw[g2]
    refine eN ⟨rfl,_,_,rfl,by omega,by omega,by omega,h3,fun i h6 h7=>?_⟩
    cases y:p i with
    |false=>rfl
    |true=>rw[mono _ i h6 h7 y] at z;cases z
 ·rintro c st' ⟨rfl,lo,hi,rfl,h1,h2,h5,h3,h4⟩
  have e:lo=hi:=by omega
  subst e
  exact⟨rfl,lo,rfl,h2,h3,h4⟩
 ·rintro c st' ⟨rfl,r,rfl,ct⟩
  rw[hF]
  exact eN (h r ct)
theorem xK {st:SortSt}{left:Bool}{key:Keyed}{kz:Int}{kt:Tok}{arr:Array Keyed}{base n hint:Nat}{Q:Option Nat→SortSt→Prop}(hk:kindOf st=oneType')(hkey:key.1=.int kz kt)(ia:IntKeys arr)(hb:base+n≤arr.size)(hn:hint<n)
  (mono:∀i j,i≤j→j<n→wy left kz arr base j=true→wy left kz arr base i=true) (h:∀r,Cut (wy left kz arr base) n r→Q (some r) st):wpS (model prog w) A E s (gal left key arr base n hint) Q st:=by
 generalize hp:wy left kz arr base=p at mono h
 have B:∀{i:Nat} {Q:Option Bool→SortSt→Prop},i<n→Q (some (p i)) st→wpS (model prog w) A E s (bey left key arr base i) Q st:=fun {i Q} hi q=>jR hk hkey ia (by omega) (by rw[hp];exact q)
 refine eF (B hn ?_)
 dsimp only
 cases z0:p hint with
 |true=>
  rw[if_pos rfl]
  refine eF (cU (dY (I:=fun x c st'=>st'=st∧∃la of,c=(none,la,of)∧la<of∧x+1≤of∧hint+la<n∧p (hint+la)=true)
   (Q:=fun c st'=>st'=st∧∃la of,c=(none,la,of)∧la<of∧hint+la<n∧p (hint+la)=true∧(of≥n-hint∨p (hint+of)=false)) ?_ ?_ ⟨rfl,0,1,rfl,by omega,by omega,by omega,z0⟩) ?_)
  ·rintro x c st' _ hx ⟨rfl,la,of,rfl,h1,h2,h3,h4⟩
   dsimp only
   by_cases hge:of≥n-hint
   ·rw[if_pos hge]
    exact eN ⟨rfl,la,of,rfl,h1,h3,h4,.inl hge⟩
   ·rw[if_neg hge]
    refine eF (B (by omega) ?_)
    cases z:p (hint+of) with
    |true=>exact eN ⟨rfl,of,2*of+1,rfl,by omega,by omega,by omega,z⟩
    |false=>exact eN ⟨rfl,la,of,rfl,h1,h3,h4,.inr z⟩
  ·rintro c st' ⟨rfl,la,of,rfl,h1,h2,h3,h4⟩
   exact⟨rfl,la,of,rfl,h1,h3,h4,.inl (by omega)⟩
  ·rintro c st' ⟨rfl,la,of,rfl,h1,h3,h4,h5⟩
   refine uB B mono h (fun x lo hi z=>if_pos z) (fun x lo hi z=>⟨_,if_neg z,rfl,rfl⟩) (fun _=>rfl) (lo:=hint+la+1) (hi:=hint+min of (n-hint)) (by omega) (by omega) (fun i hi=>mono i _ (by omega) h3 h4) (fun i h6 h7=>?_)
   rcases h5 with h5|h5
   ·omega
   ·cases y:p i with
    |false=>rfl
    |true=>rw[mono _ i (by omega) h7 y] at h5;cases h5
 |false=>
  rw[if_neg (by decide)]
  refine eF (cU (dY (I:=fun x c st'=>st'=st∧∃la of,c=(none,la,of)∧la<of∧x+1≤of∧la≤hint∧p (hint-la)=false)
   (Q:=fun c st'=>st'=st∧∃la of,c=(none,la,of)∧la<of∧la≤hint∧p (hint-la)=false∧(of≥hint+1∨p (hint-of)=true)) ?_ ?_ ⟨rfl,0,1,rfl,by omega,by omega,by omega,z0⟩) ?_)
  ·rintro x c st' _ hx ⟨rfl,la,of,rfl,h1,h2,h3,h4⟩
   dsimp only
   by_cases hge:of≥hint+1
   ·rw[if_pos hge]
    exact eN ⟨rfl,la,of,rfl,h1,h3,h4,.inl hge⟩
   ·rw[if_neg hge]
    refine eF (B (by omega) ?_)
    cases z:p (hint-of) with
    |true=>exact eN ⟨rfl,la,of,rfl,h1,h3,h4,.inr z⟩
    |false=>exact eN ⟨rfl,of,2*of+1,rfl,by omega,by omega,by omega,z⟩
  ·rintro c st' ⟨rfl,la,of,rfl,h1,h2,h3,h4⟩
   exact⟨rfl,la,of,rfl,h1,h3,h4,.inl (by omega)⟩
  ·rintro c st' ⟨rfl,la,of,rfl,h1,h3,h4,h5⟩
   refine uB B mono h (fun x lo hi z=>if_pos z) (fun x lo hi z=>⟨_,if_neg z,rfl,rfl⟩) (fun _=>rfl) (lo:=hint+1-min of (hint+1)) (hi:=hint-la) (by omega) (by omega) (fun i hi=>?_) (fun i h6 h7=>?_)
   ·rcases h5 with h5|h5
    ·omega
    ·exact mono i _ (by omega) (by omega) h5
   ·cases y:p i with
    |false=>rfl
    |true=>rw[mono _ i (by omega) h7 y] at h4;cases h4
end
def mlo :Array Keyed→Array Keyed→StateT SortSt Sem (Array Keyed):=sortPriv% PySem.Builtin.mergeLo
abbrev ky (p:Keyed):Int:=numOf p.1
abbrev Up (l:List Keyed):Prop:=l.Pairwise fun x y=>ky x≤ky y
structure Good (a b r:List Keyed):Prop where
 pm:r.Perm (a++b)
 up:Up r
structure MI (a b L:List Keyed)(i j:Nat):Prop where
 ia:i≤a.length
 jb:j≤b.length
 pm:L.Perm (a.take i++b.take j)
 up:Up L
 le:∀x∈L,∀y∈a.drop i++b.drop j,ky x≤ky y
section
variable {a b L:List Keyed}{i j k:Nat}
theorem MI.doneB (h:MI a b L i j)(ua:Up a)(e:j=b.length):Good a b (L++a.drop i++b.drop j):=by
 subst e
 have e1:b.drop b.length=[]:=bo
 rw[e1,cS]
 have pm:=h.pm
 rw[cN] at pm
 refine⟨?_,eV.mpr ⟨h.up,ua.sublist (cX _ _),fun x hx y hy=>h.le x hx y (da _ hy)⟩⟩
 refine (pm.append_right _).trans ?_
 have:(a.take i++b++a.drop i).Perm (a.take i++a.drop i++b):=by
  rw[eU,eU]
  exact dI _ cA
 rwa [eX] at this
theorem MI.doneA (h:MI a b L i j)(ub:Up b)(e:i=a.length):Good a b (L++a.drop i++b.drop j):=by
 subst e
 have e1:a.drop a.length=[]:=bo
 rw[e1,cS]
 have pm:=h.pm
 rw[cN] at pm
 refine⟨?_,eV.mpr ⟨h.up,ub.sublist (cX _ _),fun x hx y hy=>h.le x hx y (eR _ hy)⟩⟩
 refine (pm.append_right _).trans ?_
 rw[eU,eX]
theorem MI.last (h:MI a b L i j)(ub:Up b)(e:i+1=a.length)(hl:∀y∈b,∀x∈a.drop i,ky y≤ky x):Good a b (L++b.drop j++a.drop i):=by
 have ha:a.drop i=[a[i]]:=by
  rw[dE (by omega),List.drop_of_length_le (by omega)]
 refine⟨?_,?_⟩
 ·refine ((h.pm.append_right _).append_right _).trans ?_
  have:(a.take i++b.take j++b.drop j++a.drop i).Perm (a.take i++a.drop i++b):=by
   rw[eU (a.take i) (b.take j),eX,eU,eU]
   exact dI _ cA
  rwa [eX] at this
 ·refine eV.mpr ⟨eV.mpr ⟨h.up,ub.sublist (cX _ _),fun x hx y hy=>h.le x hx y (eR _ hy)⟩,by rw[ha];exact aM _ _,fun x hx y hy=>?_⟩
  rcases dg.mp hx with hx|hx
  ·exact h.le x hx y (da _ hy)
  ·exact hl x (cc hx) y hy
theorem MI.appA (h:MI a b L i j)(ua:Up a)(hk:i+k≤a.length)(hc:∀x∈(a.drop i).take k,∀y∈b.drop j,ky x≤ky y):MI a b (L++(a.drop i).take k) (i+k) j:=by
 have sp:a.drop i=(a.drop i).take k++a.drop (i+k):=by rw[←List.drop_drop,eX]
 have ud:Up (a.drop i):=ua.sublist (cX _ _)
 rw[sp] at ud
 obtain⟨u1,u2,u3⟩:=eV.mp ud
 refine⟨hk,h.jb,?_,eV.mpr ⟨h.up,u1,fun x hx y hy=>h.le x hx y (da _ (cj hy))⟩,fun x hx y hy=>?_⟩
 ·refine (h.pm.append_right _).trans ?_
  have:a.take (i+k)=a.take i++(a.drop i).take k:=by rw[List.take_add]
  rw[this,eU,eU]
  exact dI _ cA
 ·rcases dg.mp hx with hx|hx
  ·refine h.le x hx y ?_
   rcases dg.mp hy with hy|hy
   ·rw[sp];exact da _ (eR _ hy)
   ·exact eR _ hy
  ·rcases dg.mp hy with hy|hy
   ·exact u3 x hx y hy
   ·exact hc x hx y hy
theorem MI.appB (h:MI a b L i j)(ub:Up b)(hk:j+k≤b.length)(hc:∀x∈(b.drop j).take k,∀y∈a.drop i,ky x≤ky y):MI a b (L++(b.drop j).take k) i (j+k):=by
 have sp:b.drop j=(b.drop j).take k++b.drop (j+k):=by rw[←List.drop_drop,eX]
 have ud:Up (b.drop j):=ub.sublist (cX _ _)
 rw[sp] at ud
 obtain⟨u1,u2,u3⟩:=eV.mp ud
 refine⟨h.ia,hk,?_,eV.mpr ⟨h.up,u1,fun x hx y hy=>h.le x hx y (eR _ (cj hy))⟩,fun x hx y hy=>?_⟩
 ·refine (h.pm.append_right _).trans ?_
  have:b.take (j+k)=b.take j++(b.drop j).take k:=by rw[List.take_add]
  rw[this,eU]
 ·rcases dg.mp hx with hx|hx
  ·refine h.le x hx y ?_
   rcases dg.mp hy with hy|hy
   ·exact da _ hy
   ·rw[sp];exact eR _ (eR _ hy)
  ·rcases dg.mp hy with hy|hy
   ·exact hc x hx y hy
   ·exact u3 x hx y hy
theorem take1 (l:List Keyed){i:Nat}(h:i<l.length):(l.drop i).take 1=[l[i]]:=by
 rw[dE h];rfl
end
abbrev MA (a b out:Array Keyed)(i j:Nat):Prop:=MI a.toList b.toList out.toList i j
section
variable {a b out:Array Keyed}{i j k:Nat}
theorem yY (a:Array Keyed)(i:Nat):(a.extract i).toList=a.toList.drop i:=by
 rw[aj,bK,aa (by simp)]
theorem nv (a:Array Keyed)(i k:Nat):(a.extract i (i+k)).toList=(a.toList.drop i).take k:=by
 rw[aj,bK,Nat.add_sub_cancel_left]
theorem MA.extA (h:MA a b out i j)(ua:Up a.toList)(hk:i+k≤a.size)(hc:∀x∈(a.toList.drop i).take k,∀y∈b.toList.drop j,ky x≤ky y):MA a b (out++a.extract i (i+k)) (i+k) j:=by
 have:=h.appA ua (by simpa using hk) hc
 unfold MA
 rwa [du,nv]
theorem MA.extB (h:MA a b out i j)(ub:Up b.toList)(hk:j+k≤b.size)(hc:∀x∈(b.toList.drop j).take k,∀y∈a.toList.drop i,ky x≤ky y):MA a b (out++b.extract j (j+k)) i (j+k):=by
 have:=h.appB ub (by simpa using hk) hc
 unfold MA
 rwa [du,nv]
theorem MA.pushA (h:MA a b out i j)(ua:Up a.toList)(hi:i<a.size)(hc:∀y∈b.toList.drop j,ky a[i]≤ky y):MA a b (out.push a[i]) (i+1) j:=by
 have e:(a.toList.drop i).take 1=[a[i]]:=by rw[take1 _ (by simpa using hi)];simp
 have:=h.appA (k:=1) ua (by simp;omega) (by rw[e];intro x hx;rw[dH.mp hx];exact hc)
 unfold MA
 rwa [e,←cY] at this
theorem MA.pushB (h:MA a b out i j)(ub:Up b.toList)(hj:j<b.size)(hc:∀y∈a.toList.drop i,ky b[j]≤ky y):MA a b (out.push b[j]) i (j+1):=by
 have e:(b.toList.drop j).take 1=[b[j]]:=by rw[take1 _ (by simpa using hj)];simp
 have:=h.appB (k:=1) ub (by simp;omega) (by rw[e];intro x hx;rw[dH.mp hx];exact hc)
 unfold MA
 rwa [e,←cY] at this
theorem MA.finB (h:MA a b out i j)(ua:Up a.toList)(e:(j == b.size)=true):Good a.toList b.toList (out++a.extract i++b.extract j).toList:=by
 rw[du,du,yY,yY]
 exact h.doneB ua (by simpa using e)
theorem MA.finA (h:MA a b out i j)(ub:Up b.toList)(e:(i == a.size)=true):Good a.toList b.toList (out++a.extract i++b.extract j).toList:=by
 rw[du,du,yY,yY]
 exact h.doneA ub (by simpa using e)
theorem MA.finL (h:MA a b out i j)(ub:Up b.toList)(e:(i+1 == a.size)=true)(na:0<a.size)(hl:∀y∈b.toList,ky y≤ky a[a.size-1]):Good a.toList b.toList (out++b.extract j++a.extract i).toList:=by
 rw[du,du,yY,yY]
 have e':i+1=a.size:=by simpa using e
 refine h.last ub (by simpa using e') fun y hy x hx=>?_
 have ha:a.toList.drop i=[a[a.size-1]]:=by
  rw[dE (by simp;omega),List.drop_of_length_le (by simp;omega)]
  have:i=a.size-1:=by omega
  subst this
  simp
 rw[ha] at hx
 rw[dH.mp hx]
 exact hl y hy
theorem lK {l:List Keyed}(u:Up l){i:Nat}(hi:i<l.length):∀y∈l.drop i,ky l[i]≤ky y:=fun y hy=>by
 have:=u.sublist (cX i l)
 rw[dE hi] at this hy
 rcases eJ.mp hy with rfl|hy
 ·exact cK _
 ·exact (bz.mp this).1 y hy
theorem yW {a:Array Keyed}(u:Up a.toList){i:Nat}(hi:i<a.size):∀y∈a.toList.drop i,ky a[i]≤ky y:=by
 have:=lK u (i:=i) (by simpa using hi)
 simpa using this
theorem yL {a:Array Keyed}{i:Nat}(hi:i<a.size):K a i=ky a[i]:=by unfold K;rw[dw a i hi]
theorem wN {a:Array Keyed}(u:Up a.toList){i j:Nat}(hij:i≤j)(hj:j<a.size):K a i≤K a j:=by
 rw[yL (show i<a.size by omega),yL hj]
 have:=yW u (show i<a.size by omega) a[j] (by
  rw[ak]
  exact⟨j-i,by simp;omega,by simp[show i+(j-i)=j by omega]⟩)
 exact this
theorem yx {a:Array Keyed}{left:Bool}{kz:Int}{base n:Nat}(up:∀i j,base≤i→i≤j→j<base+n→K a i≤K a j):∀i j,i≤j→j<n→wy left kz a base j=true→wy left kz a base i=true:=fun i j hij hj h=>by
 have:=up (base+i) (base+j) (by omega) (by omega) (by omega)
 unfold wy at h ⊢
 cases left with
 |true=>simp at h ⊢;omega
 |false=>simp at h ⊢;omega
theorem xU {a:Array Keyed}{left:Bool}{kz:Int}{base n k:Nat}(c:Cut (wy left kz a base) n k){i:Nat}(h1:base≤i)(h2:i<base+k):K a i≤kz:=by
 have:=c.lo (i-base) (by omega)
 unfold wy at this
 rw[show base+(i-base)=i by omega] at this
 cases left with
 |true=>simp at this;omega
 |false=>simp at this;omega
theorem we {a:Array Keyed}{left:Bool}{kz:Int}{base n k:Nat}(c:Cut (wy left kz a base) n k){i:Nat}(h1:base+k≤i)(h2:i<base+n):kz≤K a i:=by
 have:=c.hi (i-base) (by omega) (by omega)
 unfold wy at this
 rw[show base+(i-base)=i by omega] at this
 cases left with
 |true=>simp at this;omega
 |false=>simp at this;omega
theorem xC {a:Array Keyed}{P:Int→Prop}{i k:Nat}(h:∀t,i≤t→t<i+k→t<a.size→P (K a t)):∀x∈(a.toList.drop i).take k,P (ky x):=fun x hx=>by
 obtain⟨t,ht,rfl⟩:=ak.mp hx
 simp at ht
 have:=h (i+t) (by omega) (by omega) (by omega)
 rw[yL (show i+t<a.size by omega)] at this
 simpa using this
theorem sh {a:Array Keyed}{P:Int→Prop}{i:Nat}(h:∀t,i≤t→t<a.size→P (K a t)):∀x∈a.toList.drop i,P (ky x):=fun x hx=>by
 obtain⟨t,ht,rfl⟩:=ak.mp hx
 simp at ht
 have:=h (i+t) (by omega) (by omega)
 rw[yL (show i+t<a.size by omega)] at this
 simpa using this
end
section
variable {prog:Program}{w:World}{A:Around}{E:Value→Shared→Prop}{s:Shared}{a₀:Array Keyed}
abbrev SG (st:SortSt)(g:Nat):SortSt:=SortSt.mk' (kindOf st) (arrOf st) (pendingOf st) g (failedOf st)
theorem share {β:Type}{X Y:Nat→StateT SortSt Sem β}{Q:β→SortSt→Prop}{st:SortSt}{P:Nat→Prop}(hb:∀m,P m→wpS (model prog w) A E s (Y m) Q st)(ha:∀m,P (m-1)→wpS (model prog w) A E s (X m) Q st)(h:∀m,P m)(m:Nat):wpS (model prog w) A E s (if m > 1 then X m else Y m) Q st:=by
 split
 ·exact ha m (h _)
 ·exact hb m (h m)
theorem uL {β:Type}{c:Prop}[Decidable c]{X Y:Array Keyed→Nat→StateT SortSt Sem β}{Q:β→SortSt→Prop}{st:SortSt}{P R0:Array Keyed→Nat→Prop}(R:Array Keyed→Nat→Prop)(hY:∀o n,P o n→wpS (model prog w) A E s (Y o n) Q st)(hr:∀o n,R0 o n→¬c→R o n)(key:∀o n,R o n→P o n)(hX:∀o n,R0 o n→c→(∀o n,R o n→P o n)→wpS (model prog w) A E s (X o n) Q st):∀o n,R0 o n→wpS (model prog w) A E s (if c then X o n else Y o n) Q st:=by
 intro o n r0
 split
 ·rename_i h;exact hX o n r0 h key
 ·rename_i h;exact hY o n (key o n (hr o n r0 h))
theorem gk {st:SortSt}{a b:Array Keyed}{Q:Array Keyed→SortSt→Prop}(hk:kindOf st=oneType')(ia:IntKeys a)(ib:IntKeys b)(ua:Up a.toList)(ub:Up b.toList)(na:0<a.size)(nb:0<b.size)
  (h1:∀x∈a.toList,ky b[0]≤ky x) (h2:∀y∈b.toList,ky y≤ky a[a.size-1])
  (h:∀r g,Good a.toList b.toList r.toList→Q r (SG st g)):wpS (model prog w) A E s (mlo a b) Q st:=by
 have m0:MA a b #[b[0]] 0 1:=by
  have:MA a b #[] 0 0:=⟨dM _,dM _,by simp,.nil,fun x hx=>by simp at hx⟩
  have:=this.pushB ub nb (fun y hy=>h1 y (by simpa using hy))
  simpa using this
 refine eF (wpS_lift (cT ⟨rfl,?_⟩))
 refine eF (zr (dw b 0 nb) ?_)
 dsimp only
 by_cases c1:(1 == b.size)=true
 ·rw[if_pos c1]
  exact eN (h _ (gallopOf st) (m0.finB ua c1))
 rw[if_neg c1]
 by_cases c2:(0+1 == a.size)=true
 ·rw[if_pos c2]
  exact eN (h _ (gallopOf st) (m0.finL ub c2 na h2))
 rw[if_neg c2]
 refine eF (wpS_get ?_)
 have c1':1<b.size:=by
  have:¬1=b.size:=by simpa using c1
  omega
 have c2':0+1<a.size:=by
  have:¬0+1=a.size:=by simpa using c2
  omega
 refine eF (cU (dY (I:=fun x c st'=>(∃g,st'=SG st g)∧∃out i j mg,c=(none,out,i,j,mg)∧MA a b out i j∧i+1<a.size∧j<b.size∧x+1≤i+j)
  (Q:=fun c st'=>(∃g,st'=SG st g)∧∃r,c.1=some r∧Good a.toList b.toList r.toList) ?_ ?_ ⟨⟨_,rfl⟩,_,0,1,_,rfl,m0,c2',c1',by omega⟩) ?_)
 ·rintro x c st' _ hx ⟨⟨g,rfl⟩,out,i,j,mg,rfl,m,hi,hj,hxi⟩
  dsimp only
  refine eF (cU (dY (I:=fun x c st'=>st'=SG st g∧∃out' i' j' ac bc,c=(none,out',i',j',ac,bc)∧MA a b out' i' j'∧i'+1<a.size∧j'<b.size∧i+j+x≤i'+j')
   (Q:=fun c st'=>st'=SG st g∧((∃r,c.1=some r∧Good a.toList b.toList r.toList)∨∃out' i' j' ac bc,c=(none,out',i',j',ac,bc)∧MA a b out' i' j'∧i'+1<a.size∧j'<b.size∧i+j+1≤i'+j')) ?_ ?_ ⟨rfl,out,i,j,0,0,rfl,m,hi,hj,by omega⟩) ?_)
  ·rintro x c st' _ hx ⟨rfl,out,i',j',ac,bc,rfl,m,hi,hj,hs⟩
   dsimp only
   obtain⟨t1,e1⟩:=zQ ib hj
   obtain⟨t2,e2⟩:=zQ ia (show i'<a.size by omega)
   have k1:=yL hj
   have k2:=yL (show i'<a.size by omega)
   refine eF (zr (dw b j' hj) (eF (zr (dw a i' (by omega)) (eF (rT hk e1 e2 ?_)))))
   by_cases hw:K b j'<K a i'
   ·rw[dW hw]
    dsimp only
    rw[if_pos rfl]
    refine eF (zr (dw b j' hj) ?_)
    have m':=m.pushB ub hj fun y hy=>by have:=yW ua (show i'<a.size by omega) y hy;omega
    by_cases d1:(j'+1 == b.size)=true
    ·rw[if_pos d1]
     exact eN ⟨rfl,.inl ⟨_,rfl,m'.finB ua d1⟩⟩
    ·rw[if_neg d1]
     have d1':j'+1<b.size:=by
                      have:¬j'+1=b.size:=by simpa using d1
                      omega
     by_cases d2:bc+1≥mg
     ·rw[if_pos d2]
      exact eN ⟨rfl,.inr ⟨_,_,_,_,_,rfl,m',hi,d1',by omega⟩⟩
     ·rw[if_neg d2]
      exact eN ⟨rfl,_,_,_,_,_,rfl,m',hi,d1',by omega⟩
   ·rw[eZ hw]
    dsimp only
    rw[if_neg (by decide)]
    refine eF (zr (dw a i' (by omega)) ?_)
    have m':=m.pushA ua (show i'<a.size by omega) fun y hy=>by have:=yW ub hj y hy;omega
    by_cases d1:(i'+1+1 == a.size)=true
    ·rw[if_pos d1]
     exact eN ⟨rfl,.inl ⟨_,rfl,m'.finL ub d1 na h2⟩⟩
    ·rw[if_neg d1]
     have d1':i'+1+1<a.size:=by
                        have:¬i'+1+1=a.size:=by simpa using d1
                        omega
     by_cases d2:ac+1≥mg
     ·rw[if_pos d2]
      exact eN ⟨rfl,.inr ⟨_,_,_,_,_,rfl,m',d1',hj,by omega⟩⟩
     ·rw[if_neg d2]
      exact eN ⟨rfl,_,_,_,_,_,rfl,m',d1',hj,by omega⟩
  ·rintro c st' ⟨rfl,out,i',j',ac,bc,rfl,m,hi,hj,hs⟩
   exact⟨rfl,.inr ⟨_,_,_,_,_,rfl,m,hi,hj,by omega⟩⟩
  rintro c st' ⟨rfl,hc⟩
  rcases hc with ⟨r,hr,gd⟩|⟨out,i',j',ac,bc,rfl,m,hi,hj,hs⟩
  ·rw[hr]
   exact eN ⟨⟨g,rfl⟩,r,rfl,gd⟩
  dsimp only
  refine eF (wpS_lift (cT ⟨rfl,?_⟩))
  clear m0
  refine eF (cU (dY (I:=fun _ c st'=>(∃g,st'=SG st g)∧∃out' i' j' mg ac bc,c=(none,out',i',j',mg,ac,bc)∧MA a b out' i' j'∧i'+1<a.size∧j'<b.size∧i+j+1≤i'+j')
   (Q:=fun c st'=>(∃g,st'=SG st g)∧((∃r,c.1=some r∧Good a.toList b.toList r.toList)∨∃out' i' j' mg ac bc,c=(none,out',i',j',mg,ac,bc)∧MA a b out' i' j'∧i'+1<a.size∧j'<b.size∧i+j+1≤i'+j')) ?_ ?_ ⟨⟨g,rfl⟩,out,i',j',mg+1,ac,bc,rfl,m,hi,hj,hs⟩) ?_)
  ·clear m hi hj hs
   rintro y c st' _ hy ⟨⟨g,rfl⟩,out,i',j',mg,ac,bc,rfl,m,hi,hj,hs⟩
   dsimp only
   obtain⟨t1,e1⟩:=zQ ib hj
   have kk1:=yL hj
   revert mg
   refine share (fun _ z=>z) (fun _ z=>z) fun mg=>?_
   refine eF (bL ?_)
   refine eF (zr (dw b j' hj) ?_)
   refine eF (xK hk e1 ia (by omega) (by omega) (yx fun p q _ h6 h7=>wN ua h6 (by omega)) fun k1 ct1=>?_)
   have le1:=ct1.le
   have hb1:∀y∈a.toList.drop (i'+k1),ky b[j']≤ky y:=sh (P:=fun z=>ky b[j']≤z) fun t h6 h7=>by rw[←kk1];exact we ct1 h6 (by omega)
   have ht1:∀x∈(a.toList.drop i').take k1,ky x≤ky b[j']:=xC (P:=fun z=>z≤ky b[j']) fun t h6 h7 _=>by rw[←kk1];exact xU ct1 h6 h7
   dsimp only
   have H0:MA a b out i' j'∧i'+1<a.size∧i'+k1≤a.size∧(∀y∈a.toList.drop (i'+k1),ky b[j']≤ky y)∧(∀x∈(a.toList.drop i').take k1,ky x≤ky b[j'])∧i+j+1≤i'+j':=⟨m,hi,by omega,hb1,ht1,hs⟩
   clear m hi hs hb1 ht1 ct1 le1
   revert out i' H0
   refine uL (fun o n=>MA a b o n j'∧n+1<a.size∧(∀y∈a.toList.drop n,ky b[j']≤ky y)∧i+j+1≤n+j') (fun _ _ z=>z) ?_ ?_ ?_
   ·rintro out i' ⟨m,hi,_,hb1,_,hs⟩ z
    have hk1':k1=0:=by omega
    subst hk1'
    exact⟨m,hi,hb1,hs⟩
   ·rintro out1 i1 ⟨m1,d4',hb1,hs1⟩
    have m2:=m1.pushB ub hj hb1
    refine eF (zr (dw b j' hj) ?_)
    by_cases d1:(j'+1 == b.size)=true
    ·rw[if_pos d1]
     exact eN ⟨⟨_,rfl⟩,.inl ⟨_,rfl,m2.finB ua d1⟩⟩
    rw[if_neg d1]
    have d1':j'+1<b.size:=by
     have:¬j'+1=b.size:=by simpa using d1
     omega
    have hi1':i1<a.size:=by omega
    obtain⟨t2,e2⟩:=zQ ia hi1'
    refine eF (zr (dw a i1 hi1') ?_)
    refine eF (xK hk e2 ib (by omega) (by omega) (yx fun p q _ h6 h7=>wN ub h6 (by omega)) fun k2 ct2=>?_)
    have le2:=ct2.le
    have kk2:=yL hi1'
    have H1:MA a b (out1.push b[j']) i1 (j'+1)∧j'+1<b.size∧j'+1+k2≤b.size∧(∀y∈b.toList.drop (j'+1+k2),ky a[i1]≤ky y)∧(∀x∈(b.toList.drop (j'+1)).take k2,ky x≤ky a[i1])∧i+j+1≤i1+(j'+1):=
     ⟨m2,d1',by omega,sh (P:=fun z=>ky a[i1]≤z) fun t h6 h7=>by rw[←kk2];exact we ct2 h6 (by omega),xC (P:=fun z=>z≤ky a[i1]) fun t h6 h7 _=>by rw[←kk2];exact xU ct2 h6 h7,by omega⟩
    dsimp only
    clear ct2 le2 m2 d1' d1 m1 hb1 hs1
    generalize out1.push b[j']=out2 at H1 ⊢
    generalize j'+1=j1 at H1 ⊢
    revert out2 j1 H1
    refine uL (fun o n=>MA a b o i1 n∧n<b.size∧(∀y∈b.toList.drop n,ky a[i1]≤ky y)∧i+j+1≤i1+n) (fun _ _ z=>z) ?_ ?_ ?_
    ·rintro out2 j1 ⟨m2,d1',_,hb2,_,hs2⟩ z
     have hk2':k2=0:=by omega
     subst hk2'
     exact⟨m2,d1',hb2,hs2⟩
    ·rintro out3 j3 ⟨m3,d2',hb2,hs3⟩
     have m4:=m3.pushA ua hi1' hb2
     refine eF (zr (dw a i1 hi1') ?_)
     by_cases d3:(i1+1+1 == a.size)=true
     ·rw[if_pos d3]
      exact eN ⟨⟨_,rfl⟩,.inl ⟨_,rfl,m4.finL ub d3 na h2⟩⟩
     rw[if_neg d3]
     have d3':i1+1+1<a.size:=by
      have:¬i1+1+1=a.size:=by simpa using d3
      omega
     have hs4:i+j+1≤i1+1+j3:=by omega
     split
     ·exact eN ⟨⟨_,rfl⟩,.inr ⟨_,_,_,_,_,_,rfl,m4,d3',d2',hs4⟩⟩
     ·exact eN ⟨⟨_,rfl⟩,_,_,_,_,_,_,rfl,m4,d3',d2',hs4⟩
    ·rintro out2 j1 ⟨m2,d1',lk,hb2,ht2,hs2⟩ hk2 key
     have m3:=m2.extB ub (k:=k2) lk fun x hx y hy=>cL (ht2 x hx) (yW ua hi1' y hy)
     by_cases d2:(j1+k2 == b.size)=true
     ·rw[if_pos d2]
      exact eN ⟨⟨_,rfl⟩,.inl ⟨_,rfl,m3.finB ua d2⟩⟩
     rw[if_neg d2]
     have d2':j1+k2<b.size:=by
      have:¬j1+k2=b.size:=by simpa using d2
      omega
     exact key _ _ ⟨m3,d2',hb2,by omega⟩
   ·rintro out i' ⟨m,hi,lk,hb1,ht1,hs⟩ hk1 key
    have m1:=m.extA ua (k:=k1) lk fun x hx y hy=>cL (ht1 x hx) (yW ub hj y hy)
    by_cases d4:(i'+k1+1 == a.size)=true
    ·rw[if_pos d4]
     exact eN ⟨⟨_,rfl⟩,.inl ⟨_,rfl,m1.finL ub d4 na h2⟩⟩
    rw[if_neg d4]
    by_cases d5:(i'+k1 == a.size)=true
    ·rw[if_pos d5]
     exact eN ⟨⟨_,rfl⟩,.inl ⟨_,rfl,m1.finA ub d5⟩⟩
    rw[if_neg d5]
    have d4':i'+k1+1<a.size:=by
     have:¬i'+k1+1=a.size:=by simpa using d4
     have:¬i'+k1=a.size:=by simpa using d5
     omega
    exact key _ _ ⟨m1,d4',hb1,by omega⟩
  ·rintro c st' ⟨⟨g,rfl⟩,out',i',j',mg,ac,bc,rfl,m,hi,hj,hs⟩
   exact⟨⟨g,rfl⟩,.inr ⟨_,_,_,_,_,_,rfl,m,hi,hj,hs⟩⟩
  ·rintro c st' ⟨⟨g,rfl⟩,hc⟩
   rcases hc with ⟨r,hr,gd⟩|⟨out,i',j',mg,ac,bc,rfl,m,hi,hj,hs⟩
   ·rw[hr]
    exact eN ⟨⟨g,rfl⟩,r,rfl,gd⟩
   ·dsimp only
    refine eF (bL ?_)
    exact eN ⟨⟨_,rfl⟩,_,_,_,_,rfl,m,hi,hj,by omega⟩
 ·rintro c st' ⟨_,out,i,j,mg,rfl,m,hi,hj,hxi⟩
  omega
 ·rintro c st' ⟨⟨g,rfl⟩,r,hr,gd⟩
  rw[hr]
  exact eN (h r g gd)
end
def mhi :Array Keyed→Array Keyed→StateT SortSt Sem (Array Keyed):=sortPriv% PySem.Builtin.mergeHi
structure MJ (a b L:List Keyed)(n m:Nat):Prop where
 na:n≤a.length
 mb:m≤b.length
 pm:L.Perm (a.drop n++b.drop m)
 up:Up L
 le:∀x∈a.take n++b.take m,∀y∈L,ky x≤ky y
section
variable {a b L:List Keyed}{n m k:Nat}
theorem MJ.doneA (h:MJ a b L 0 m)(ub:Up b):Good a b (b.take m++L):=by
 refine⟨?_,eV.mpr ⟨ub.sublist (cV _ _),h.up,fun x hx y hy=>h.le x (eR _ hx) y hy⟩⟩
 refine (dI _ h.pm).trans ?_
 have:(b.take m++(a++b.drop m)).Perm (a++(b.take m++b.drop m)):=by
  rw[←eU,←eU]
  exact bw _ cA
 rwa [eX] at this
theorem MJ.doneB (h:MJ a b L n 0)(ua:Up a):Good a b (a.take n++L):=by
 refine⟨?_,eV.mpr ⟨ua.sublist (cV _ _),h.up,fun x hx y hy=>h.le x (da _ hx) y hy⟩⟩
 refine (dI _ h.pm).trans ?_
 rw[←eU,eX]
 exact List.Perm.refl _
theorem MJ.first (h:MJ a b L n 1)(ua:Up a)(hb:0<b.length)(hl:∀x∈a,ky b[0]≤ky x):Good a b (b.take 1++a.take n++L):=by
 have e:b.take 1=[b[0]]:=by
  match b,hb with
  |y::ys,_=>rfl
 refine⟨?_,?_⟩
 ·refine (dI _ h.pm).trans ?_
  have:(b.take 1++a.take n++(a.drop n++b.drop 1)).Perm (a.take n++a.drop n++(b.take 1++b.drop 1)):=by
   rw[eU (a.take n)]
   rw[←eU (a.drop n)]
   refine (bw _ cA).trans ?_
   rw[eU]
   refine dI _ ?_
   rw[←eU]
   exact bw _ cA
  rwa [eX,eX] at this
 ·refine eV.mpr ⟨eV.mpr ⟨by rw[e];exact aM _ _,ua.sublist (cV _ _),fun x hx y hy=>?_⟩,h.up,fun x hx y hy=>?_⟩
  ·rw[e] at hx
   rw[dH.mp hx]
   exact hl y (cj hy)
  ·refine h.le x ?_ y hy
   rcases dg.mp hx with hx|hx
   ·exact eR _ hx
   ·exact da _ hx
theorem MJ.preA (h:MJ a b L n m)(ua:Up a)(hk:k≤n)(hc:∀x∈(a.take n).drop k,∀y∈b.take m,ky y≤ky x):MJ a b ((a.take n).drop k++L) k m:=by
 have ek:(a.take n).take k=a.take k:=by rw[za3,bX hk]
 have sp:a.take n=a.take k++(a.take n).drop k:=by rw[←ek,eX]
 have ud:Up (a.take n):=ua.sublist (cV _ _)
 have ud':=ud
 rw[sp] at ud'
 obtain⟨u1,u2,u3⟩:=eV.mp ud'
 refine⟨dZ hk h.na,h.mb,?_,eV.mpr ⟨u2,h.up,fun x hx y hy=>h.le x (da _ (cc hx)) y hy⟩,fun x hx y hy=>?_⟩
 ·refine (dI _ h.pm).trans ?_
  have:a.drop k=(a.take n).drop k++a.drop n:=by
   conv=>lhs;rw[←eX n a]
   rw[List.drop_append_of_le_length (by have:=h.na;rw[dN];omega)]
  rw[this,eU]
 ·rcases dg.mp hy with hy|hy
  ·rcases dg.mp hx with hx|hx
   ·exact u3 x hx y hy
   ·exact hc y hy x hx
  ·refine h.le x ?_ y hy
   rcases dg.mp hx with hx|hx
   ·rw[sp];exact da _ (da _ hx)
   ·exact eR _ hx
theorem MJ.preB (h:MJ a b L n m)(ub:Up b)(hk:k≤m)(hc:∀x∈(b.take m).drop k,∀y∈a.take n,ky y≤ky x):MJ a b ((b.take m).drop k++L) n k:=by
 have ek:(b.take m).take k=b.take k:=by rw[za3,bX hk]
 have sp:b.take m=b.take k++(b.take m).drop k:=by rw[←ek,eX]
 have ud':Up (b.take m):=ub.sublist (cV _ _)
 rw[sp] at ud'
 obtain⟨u1,u2,u3⟩:=eV.mp ud'
 refine⟨h.na,dZ hk h.mb,?_,eV.mpr ⟨u2,h.up,fun x hx y hy=>h.le x (eR _ (cc hx)) y hy⟩,fun x hx y hy=>?_⟩
 ·refine (dI _ h.pm).trans ?_
  have:b.drop k=(b.take m).drop k++b.drop m:=by
   conv=>lhs;rw[←eX m b]
   rw[List.drop_append_of_le_length (by have:=h.mb;rw[dN];omega)]
  rw[this,←eU,←eU]
  exact bw _ cA
 ·rcases dg.mp hy with hy|hy
  ·rcases dg.mp hx with hx|hx
   ·exact hc y hy x hx
   ·exact u3 x hx y hy
  ·refine h.le x ?_ y hy
   rcases dg.mp hx with hx|hx
   ·exact da _ hx
   ·rw[sp];exact eR _ (da _ hx)
end
abbrev MB (a b out:Array Keyed)(n m:Nat):Prop:=MJ a.toList b.toList out.toList.reverse n m
section
variable {a b out:Array Keyed}{n m k:Nat}
theorem ug (a:Array Keyed)(n:Nat):(a.extract 0 n).toList=a.toList.take n:=by
 rw[aj,bK];simp
theorem xf (a:Array Keyed)(k n:Nat):(a.extract k n).toList=(a.toList.take n).drop k:=by
 rw[aj,bK,List.drop_take]
theorem MB.extA (h:MB a b out n m)(ua:Up a.toList)(hk:k≤n)(hc:∀x∈(a.toList.take n).drop k,∀y∈b.toList.take m,ky y≤ky x):MB a b (out++(a.extract k n).reverse) k m:=by
 have:=h.preA ua hk hc
 unfold MB
 rwa [du,bM,aw,List.reverse_reverse,xf]
theorem MB.extB (h:MB a b out n m)(ub:Up b.toList)(hk:k≤m)(hc:∀x∈(b.toList.take m).drop k,∀y∈a.toList.take n,ky y≤ky x):MB a b (out++(b.extract k m).reverse) n k:=by
 have:=h.preB ub hk hc
 unfold MB
 rwa [du,bM,aw,List.reverse_reverse,xf]
theorem uD {a:Array Keyed}{n:Nat}(h:n-1<a.size)(h0:0<n):(a.toList.take n).drop (n-1)=[a[n-1]]:=by
 have:n-(n-1)=1:=by omega
 rw[List.drop_take,this,take1 _ (by simpa using h)]
 simp
theorem MB.pushA (h:MB a b out n m)(ua:Up a.toList)(h0:0<n)(hn:n-1<a.size)(hc:∀y∈b.toList.take m,ky y≤ky a[n-1]):MB a b (out.push a[n-1]) (n-1) m:=by
 have e:=uD hn h0
 have:=h.preA (k:=n-1) ua (by omega) (by rw[e];intro x hx;rw[dH.mp hx];exact hc)
 unfold MB
 rw[e] at this
 rwa [cY,aw]
theorem MB.pushB (h:MB a b out n m)(ub:Up b.toList)(h0:0<m)(hm:m-1<b.size)(hc:∀y∈a.toList.take n,ky y≤ky b[m-1]):MB a b (out.push b[m-1]) n (m-1):=by
 have e:=uD hm h0
 have:=h.preB (k:=m-1) ub (by omega) (by rw[e];intro x hx;rw[dH.mp hx];exact hc)
 unfold MB
 rw[e] at this
 rwa [cY,aw]
theorem MB.finA (h:MB a b out n m)(ub:Up b.toList)(e:(n == 0)=true):Good a.toList b.toList (a.extract 0 n++b.extract 0 m++out.reverse).toList:=by
 have e':n=0:=by simpa using e
 subst e'
 rw[du,du,ug,ug,bM]
 exact h.doneA ub
theorem MB.finB (h:MB a b out n m)(ua:Up a.toList)(e:(m == 0)=true):Good a.toList b.toList (a.extract 0 n++b.extract 0 m++out.reverse).toList:=by
 have e':m=0:=by simpa using e
 subst e'
 rw[du,du,ug,ug,bM,List.take_zero,cS]
 exact h.doneB ua
theorem MB.finF (h:MB a b out n m)(ua:Up a.toList)(e:(m == 1)=true)(hb:0<b.size)(hl:∀x∈a.toList,ky b[0]≤ky x):Good a.toList b.toList (b.extract 0 m++a.extract 0 n++out.reverse).toList:=by
 have e':m=1:=by simpa using e
 subst e'
 rw[du,du,ug,ug,bM]
 exact h.first ua (by simpa using hb) (by simpa using hl)
theorem xV {a:Array Keyed}{P:Int→Prop}{n:Nat}(h:∀t,t<n→t<a.size→P (K a t)):∀x∈a.toList.take n,P (ky x):=fun x hx=>by
 have:=xC (a:=a) (P:=P) (i:=0) (k:=n) (fun t _ h1 h2=>h t (by omega) h2) x
 exact this (by simpa using hx)
theorem qP {a:Array Keyed}{P:Int→Prop}{k n:Nat}(h:∀t,k≤t→t<n→t<a.size→P (K a t)):∀x∈(a.toList.take n).drop k,P (ky x):=fun x hx=>by
 rw[List.drop_take] at hx
 exact xC (a:=a) (P:=P) (i:=k) (k:=n-k) (fun t h0 h1 h2=>h t h0 (by omega) h2) x hx
theorem xB {a:Array Keyed}(u:Up a.toList){n:Nat}(hn:n-1<a.size):∀y∈a.toList.take n,ky y≤ky a[n-1]:=by
 rw[←yL hn]
 exact xV (P:=fun z=>z≤K a (n-1)) fun t h1 h2=>wN u (by omega) hn
end
section
variable {prog:Program}{w:World}{A:Around}{E:Value→Shared→Prop}{s:Shared}{a₀:Array Keyed}
theorem iM {st:SortSt}{a b:Array Keyed}{Q:Array Keyed→SortSt→Prop}(hk:kindOf st=oneType')(ia:IntKeys a)(ib:IntKeys b)(ua:Up a.toList)(ub:Up b.toList)(na:0<a.size)(nb:0<b.size)
  (h1:∀x∈a.toList,ky b[0]≤ky x) (h2:∀y∈b.toList,ky y≤ky a[a.size-1])
  (h:∀r g,Good a.toList b.toList r.toList→Q r (SG st g)):wpS (model prog w) A E s (mhi a b) Q st:=by
 have m0:MB a b #[a[a.size-1]] (a.size-1) b.size:=by
  have:MB a b #[] a.size b.size:=⟨by simp,by simp,by simp,.nil,fun x hx y hy=>by simp at hy⟩
  have:=this.pushA ua na (by omega) (fun y hy=>h2 y (cj hy))
  simpa using this
 refine eF (wpS_lift (cT ⟨rfl,?_⟩))
 refine eF (zr (dw a (a.size-1) (by omega)) ?_)
 dsimp only
 by_cases c1:(a.size-1 == 0)=true
 ·rw[if_pos c1]
  exact eN (h _ (gallopOf st) (m0.finA ub c1))
 rw[if_neg c1]
 by_cases c2:(b.size == 1)=true
 ·rw[if_pos c2]
  exact eN (h _ (gallopOf st) (m0.finF ua c2 nb h1))
 rw[if_neg c2]
 refine eF (wpS_get ?_)
 have c1':0<a.size-1:=by
  have:¬a.size-1=0:=by simpa using c1
  omega
 have c2':1<b.size:=by
  have:¬b.size=1:=by simpa using c2
  omega
 refine eF (cU (dY (I:=fun x c st'=>(∃g,st'=SG st g)∧∃out n m mg,c=(none,n,m,out,mg)∧MB a b out n m∧0<n∧1<m∧n<a.size∧m≤b.size∧x+1+n+m≤a.size+b.size)
  (Q:=fun c st'=>(∃g,st'=SG st g)∧∃r,c.1=some r∧Good a.toList b.toList r.toList) ?_ ?_ ⟨⟨_,rfl⟩,_,_,_,_,rfl,m0,c1',c2',by omega,by omega,by omega⟩) ?_)
 ·clear m0
  rintro x c st' _ hx ⟨⟨g,rfl⟩,out,n,m,mg,rfl,m0,hn,hm,hn',hm',hxi⟩
  dsimp only
  refine eF (cU (dY (I:=fun x c st'=>st'=SG st g∧∃out' n' m' ac bc,c=(none,n',m',out',ac,bc)∧MB a b out' n' m'∧0<n'∧1<m'∧n'<a.size∧m'≤b.size∧x+n'+m'≤n+m)
   (Q:=fun c st'=>st'=SG st g∧((∃r,c.1=some r∧Good a.toList b.toList r.toList)∨∃out' n' m' ac bc,c=(none,n',m',out',ac,bc)∧MB a b out' n' m'∧0<n'∧1<m'∧n'<a.size∧m'≤b.size∧1+n'+m'≤n+m)) ?_ ?_ ⟨rfl,out,n,m,0,0,rfl,m0,hn,hm,hn',hm',by omega⟩) ?_)
  ·clear m0 hn' hm' hn hm
   rintro x c st' _ hx ⟨rfl,out,n',m',ac,bc,rfl,m0,hn,hm,hna,hmb,hs⟩
   dsimp only
   have hj:m'-1<b.size:=by omega
   have hi:n'-1<a.size:=by omega
   obtain⟨t1,e1⟩:=zQ ib hj
   obtain⟨t2,e2⟩:=zQ ia hi
   have k1:=yL hj
   have k2:=yL hi
   refine eF (zr (dw b _ hj) (eF (zr (dw a _ hi) (eF (rT hk e1 e2 ?_)))))
   by_cases hw:K b (m'-1)<K a (n'-1)
   ·rw[dW hw]
    dsimp only
    rw[if_pos rfl]
    refine eF (zr (dw a _ hi) ?_)
    have m1:=m0.pushA ua hn hi fun y hy=>by have:=xB ub hj y hy;omega
    by_cases d1:(n'-1 == 0)=true
    ·rw[if_pos d1]
     exact eN ⟨rfl,.inl ⟨_,rfl,m1.finA ub d1⟩⟩
    ·rw[if_neg d1]
     have d1':0<n'-1:=by
                   have:¬n'-1=0:=by simpa using d1
                   omega
     by_cases d2:ac+1≥mg
     ·rw[if_pos d2]
      exact eN ⟨rfl,.inr ⟨_,_,_,_,_,rfl,m1,d1',hm,by omega,hmb,by omega⟩⟩
     ·rw[if_neg d2]
      exact eN ⟨rfl,_,_,_,_,_,rfl,m1,d1',hm,by omega,hmb,by omega⟩
   ·rw[eZ hw]
    dsimp only
    rw[if_neg (by decide)]
    refine eF (zr (dw b _ hj) ?_)
    have m1:=m0.pushB ub (by omega) hj fun y hy=>by have:=xB ua hi y hy;omega
    by_cases d1:(m'-1 == 1)=true
    ·rw[if_pos d1]
     exact eN ⟨rfl,.inl ⟨_,rfl,m1.finF ua d1 nb h1⟩⟩
    ·rw[if_neg d1]
     have d1':1<m'-1:=by
                   have:¬m'-1=1:=by simpa using d1
                   omega
     by_cases d2:bc+1≥mg
     ·rw[if_pos d2]
      exact eN ⟨rfl,.inr ⟨_,_,_,_,_,rfl,m1,hn,d1',by omega,by omega,by omega⟩⟩
     ·rw[if_neg d2]
      exact eN ⟨rfl,_,_,_,_,_,rfl,m1,hn,d1',by omega,by omega,by omega⟩
  ·rintro c st' ⟨rfl,out,n',m',ac,bc,rfl,m0,hn,hm,hna,hmb,hs⟩
   exact⟨rfl,.inr ⟨_,_,_,_,_,rfl,m0,hn,hm,hna,hmb,by omega⟩⟩
  rintro c st' ⟨rfl,hc⟩
  rcases hc with ⟨r,hr,gd⟩|⟨out,n',m',ac,bc,rfl,m0,hn,hm,hna,hmb,hs⟩
  ·rw[hr]
   exact eN ⟨⟨g,rfl⟩,r,rfl,gd⟩
  dsimp only
  refine eF (wpS_lift (cT ⟨rfl,?_⟩))
  refine eF (cU (dY (I:=fun _ c st'=>(∃g,st'=SG st g)∧∃out' n' m' mg ac bc,c=(none,n',m',out',mg,ac,bc)∧MB a b out' n' m'∧0<n'∧1<m'∧n'<a.size∧m'≤b.size∧1+n'+m'≤n+m)
   (Q:=fun c st'=>(∃g,st'=SG st g)∧((∃r,c.1=some r∧Good a.toList b.toList r.toList)∨∃out' n' m' mg ac bc,c=(none,n',m',out',mg,ac,bc)∧MB a b out' n' m'∧0<n'∧1<m'∧n'<a.size∧m'≤b.size∧1+n'+m'≤n+m)) ?_ ?_ ⟨⟨g,rfl⟩,out,n',m',mg+1,ac,bc,rfl,m0,hn,hm,hna,hmb,hs⟩) ?_)
  ·clear m0 hn hm hna hmb hs hn' hm'
   rintro y c st' _ hy ⟨⟨g,rfl⟩,out,n',m',mg,ac,bc,rfl,m0,hn,hm,hna,hmb,hs⟩
   dsimp only
   have hm':m'-1<b.size:=by omega
   obtain⟨t1,e1⟩:=zQ ib hm'
   have kk1:=yL hm'
   revert mg
   refine share (fun _ z=>z) (fun _ z=>z) fun mg=>?_
   refine eF (bL ?_)
   refine eF (zr (dw b (m'-1) hm') ?_)
   refine eF (xK hk e1 ia (by omega) (by omega) (yx fun p q _ h6 h7=>wN ua h6 (by omega)) fun k1 ct1=>?_)
   have le1:=ct1.le
   dsimp only
   generalize hac:n'-k1=ac1
   have H0:MB a b out n' m'∧0<n'∧n'<a.size∧(k1≤n'∧n'-k1=ac1)∧(∀y∈a.toList.take k1,ky y≤ky b[m'-1])∧(∀x∈(a.toList.take n').drop k1,ky b[m'-1]≤ky x)∧1+n'+m'≤n+m:=
    ⟨m0,hn,hna,⟨le1,hac⟩,xV (P:=fun z=>z≤ky b[m'-1]) fun t h6 h7=>by rw[←kk1];exact xU ct1 (by omega) (by omega),qP (P:=fun z=>ky b[m'-1]≤z) fun t h6 h7 _=>by rw[←kk1];exact we ct1 (by omega) (by omega),hs⟩
   clear m0 hn hna hs ct1 le1 hac
   revert out n' H0
   refine uL (fun o n1=>MB a b o n1 m'∧0<n1∧n1<a.size∧(∀y∈a.toList.take n1,ky y≤ky b[m'-1])∧1+n1+m'≤n+m) (fun _ _ z=>z) ?_ ?_ ?_
   ·rintro out n' ⟨m0,hn,hna,⟨le1,hac⟩,hb1,_,hs⟩ z
    have hk1':k1=n':=by omega
    subst hk1'
    exact⟨m0,hn,hna,hb1,hs⟩
   ·rintro out1 n1 ⟨m1,hn,hna,hb1,hs⟩
    have m2:=m1.pushB ub (by omega) hm' hb1
    refine eF (zr (dw b (m'-1) hm') ?_)
    by_cases d1:(m'-1 == 1)=true
    ·rw[if_pos d1]
     exact eN ⟨⟨_,rfl⟩,.inl ⟨_,rfl,m2.finF ua d1 nb h1⟩⟩
    rw[if_neg d1]
    have d1':1<m'-1:=by
     have:¬m'-1=1:=by simpa using d1
     omega
    have hn1':n1-1<a.size:=by omega
    obtain⟨t2,e2⟩:=zQ ia hn1'
    refine eF (zr (dw a (n1-1) hn1') ?_)
    refine eF (xK hk e2 ib (by omega) (by omega) (yx fun p q _ h6 h7=>wN ub h6 (by omega)) fun k2 ct2=>?_)
    have le2:=ct2.le
    have kk2:=yL hn1'
    dsimp only
    generalize hbc:m'-1-k2=bc1
    have H1:MB a b (out1.push b[m'-1]) n1 (m'-1)∧1<m'-1∧m'-1≤b.size∧(k2≤m'-1∧m'-1-k2=bc1)∧(∀y∈b.toList.take k2,ky y≤ky a[n1-1])∧(∀x∈(b.toList.take (m'-1)).drop k2,ky a[n1-1]≤ky x)∧1+n1+(m'-1)≤n+m:=
     ⟨m2,d1',by omega,⟨le2,hbc⟩,xV (P:=fun z=>z≤ky a[n1-1]) fun t h6 h7=>by rw[←kk2];exact xU ct2 (by omega) (by omega),qP (P:=fun z=>ky a[n1-1]≤z) fun t h6 h7 _=>by rw[←kk2];exact we ct2 (by omega) (by omega),by omega⟩
    clear ct2 le2 m2 d1' d1 m1 hb1 hs hbc
    generalize out1.push b[m'-1]=out2 at H1 ⊢
    generalize m'-1=m2 at H1 ⊢
    revert out2 m2 H1
    refine uL (fun o n2=>MB a b o n1 n2∧1<n2∧n2≤b.size∧(∀y∈b.toList.take n2,ky y≤ky a[n1-1])∧1+n1+n2≤n+m) (fun _ _ z=>z) ?_ ?_ ?_
    ·rintro out2 m2 ⟨mm,d1',lb,⟨le2,hbc⟩,hb2,_,hs⟩ z
     have hk2':k2=m2:=by omega
     subst hk2'
     exact⟨mm,d1',lb,hb2,hs⟩
    ·rintro out3 m3 ⟨mm,d2',lb,hb2,hs⟩
     have m4:=mm.pushA ua (by omega) hn1' hb2
     refine eF (zr (dw a (n1-1) hn1') ?_)
     by_cases d3:(n1-1 == 0)=true
     ·rw[if_pos d3]
      exact eN ⟨⟨_,rfl⟩,.inl ⟨_,rfl,m4.finA ub d3⟩⟩
     rw[if_neg d3]
     have d3':0<n1-1:=by
      have:¬n1-1=0:=by simpa using d3
      omega
     have hs4:1+(n1-1)+m3≤n+m:=by omega
     split
     ·exact eN ⟨⟨_,rfl⟩,.inr ⟨_,_,_,_,_,_,rfl,m4,d3',d2',by omega,lb,hs4⟩⟩
     ·exact eN ⟨⟨_,rfl⟩,_,_,_,_,_,_,rfl,m4,d3',d2',by omega,lb,hs4⟩
    ·rintro out2 m2 ⟨mm,d1',lb,⟨le2,hbc⟩,hb2,ht2,hs⟩ hk2 key
     have m3:=mm.extB ub (k:=k2) le2 fun x hx y hy=>cL (xB ua hn1' y hy) (ht2 x hx)
     by_cases d2:(k2 == 1)=true
     ·rw[if_pos d2]
      exact eN ⟨⟨_,rfl⟩,.inl ⟨_,rfl,m3.finF ua d2 nb h1⟩⟩
     rw[if_neg d2]
     by_cases d5:(k2 == 0)=true
     ·rw[if_pos d5]
      exact eN ⟨⟨_,rfl⟩,.inl ⟨_,rfl,m3.finB ua d5⟩⟩
     rw[if_neg d5]
     have d2':1<k2:=by
      have:¬k2=1:=by simpa using d2
      have:¬k2=0:=by simpa using d5
      omega
     exact key _ _ ⟨m3,d2',by omega,hb2,by omega⟩
   ·rintro out n' ⟨m0,hn,hna,⟨le1,hac⟩,hb1,ht1,hs⟩ hk1 key
    have m1:=m0.extA ua (k:=k1) le1 fun x hx y hy=>cL (xB ub hm' y hy) (ht1 x hx)
    by_cases d4:(k1 == 0)=true
    ·rw[if_pos d4]
     exact eN ⟨⟨_,rfl⟩,.inl ⟨_,rfl,m1.finA ub d4⟩⟩
    rw[if_neg d4]
    have d4':0<k1:=by
     have:¬k1=0:=by simpa using d4
     omega
    exact key _ _ ⟨m1,d4',by omega,hb1,by omega⟩
  ·rintro c st' ⟨⟨g,rfl⟩,out',n',m',mg,ac,bc,rfl,m0,r⟩
   exact⟨⟨g,rfl⟩,.inr ⟨_,_,_,_,_,_,rfl,m0,r⟩⟩
  ·rintro c st' ⟨⟨g,rfl⟩,hc⟩
   rcases hc with ⟨r,hr,gd⟩|⟨out,n',m',mg,ac,bc,rfl,m0,hn,hm,hna,hmb,hs⟩
   ·rw[hr]
    exact eN ⟨⟨g,rfl⟩,r,rfl,gd⟩
   ·dsimp only
    refine eF (bL ?_)
    exact eN ⟨⟨_,rfl⟩,_,_,_,_,rfl,m0,hn,hm,hna,hmb,by omega⟩
 ·rintro c st' ⟨_,out,n,m,mg,rfl,m0,hn,hm,_,_,hxi⟩
  omega
 ·rintro c st' ⟨⟨g,rfl⟩,r,hr,gd⟩
  rw[hr]
  exact eN (h r g gd)
end
def zy (xs:Array Keyed)(l u:Nat):Prop:=∀i j,l≤i→i≤j→j<u→K xs i≤K xs j
theorem kG {M:Model}{A:Around}{E:Value→Shared→Prop}{s:Shared}{σ:Type}{x:σ}{Q:PUnit→σ→Prop}{st:σ}(h:Q ⟨⟩ x):wpS M A E s (set x:StateT σ Sem PUnit) Q st:=by
 unfold wpS;rw[StateT.run_set];exact eB ⟨rfl,h⟩
theorem jx (o:Nat):∀(M:List Keyed) (k:Nat) (P Z S:List Keyed) (arr:Array Keyed),arr.toList=P++Z++S→P.length=o+k→Z.length=M.length→
  ((M.zipIdx k).foldl (fun a (pj:Keyed×Nat)=>a.setIfInBounds (o+pj.2) pj.1) arr).toList=P++M++S
 |[],k,P,Z,S,arr,h,_,hz=>by
  have:Z=[]:=bg.mp hz
  subst this
  exact h
 |p::M,k,P,[],S,arr,h,hp,hz=>by cases hz
 |p::M,k,P,z::Z,S,arr,h,hp,hz=>by
  rw[List.zipIdx_cons,List.foldl_cons]
  have:=jx o M (k+1) (P++[p]) Z S (arr.setIfInBounds (o+k) p) (by
   rw[bI,h,←hp]
   simp) (by simp;omega) (by simpa using hz)
  rw[this]
  simp
theorem xu {xs ys:Array Keyed}(h:IntKeys ys)(hs:∀p∈xs.toList,p∈ys.toList):IntKeys xs:=fun p hp=>h p (hs p hp)
theorem rL (xs:Array Keyed)(P M S:List Keyed)(e:xs.toList=P++M++S){t:Nat}(h:t<M.length):K xs (P.length+t)=ky M[t]:=by
 have hl:P.length+t<xs.size:=by
  have:=congrArg List.length e
  simp at this;omega
 rw[yL hl]
 have:xs[P.length+t]=xs.toList[P.length+t]'(by simpa using hl):=by simp
 rw[this]
 simp only[e]
 rw[aF (by simp;omega),List.getElem_append_right (by omega)]
 simp
theorem gA {xs ys:Array Keyed}{P M Z S:List Keyed}(e:xs.toList=P++M++S)(f:ys.toList=P++Z++S)(hz:M.length=Z.length){t:Nat}(h:t<P.length∨P.length+M.length≤t):K xs t=K ys t:=by
 refine K_congr ?_
 rw[←cP,←cP,e,f]
 rcases h with h|h
 ·rw[eU,eU,cQ h,cQ h]
 ·rw[bH (by simp;omega),bH (by simp;omega)]
  simp only[eW,hz]
section
variable {prog:Program}{w:World}{A:Around}{E:Value→Shared→Prop}{s:Shared}
theorem mO {xs:Array Keyed}{l u:Nat}(h:zy xs l u)(hu:u≤xs.size):Up (xs.extract l u).toList:=by
 refine cR.mpr fun i j hi hj hij=>?_
 simp at hi hj
 have:=h (l+i) (l+j) (by omega) (by omega) (by omega)
 rw[yL (show l+i<xs.size by omega),yL (show l+j<xs.size by omega)] at this
 simpa using this
theorem ext_mem {xs:Array Keyed}{l u:Nat}(hu:u≤xs.size){e:Keyed}(h:e∈(xs.extract l u).toList):∃t,l≤t∧t<u∧ky e=K xs t:=by
 obtain⟨t,ht,rfl⟩:=ak.mp h
 simp at ht
 refine⟨l+t,by omega,by omega,?_⟩
 rw[yL (show l+t<xs.size by omega)]
 simp
theorem lg {xs:Array Keyed}{l u t:Nat}(hu:u≤xs.size)(h:t<(xs.extract l u).size):ky (xs.extract l u)[t]=K xs (l+t):=by
 have h':l+t<xs.size:=by simp at h;omega
 rw[yL h']
 simp
theorem rO {st:SortSt}{i sa na pw sb nb pw2:Nat}{Q:Bool→SortSt→Prop}(hk:kindOf st=oneType')(hf:failedOf st=none)(ik:IntKeys (arrOf st))
  (e1:(pendingOf st)[i]?=some (sa,na,pw)) (e2:(pendingOf st)[i+1]?=some (sb,nb,pw2)) (hab:sa+na=sb) (na0:0<na) (nb0:0<nb) (hsz:sb+nb≤(arrOf st).size)
  (hA:zy (arrOf st) sa sb) (hB:zy (arrOf st) sb (sb+nb))
  (h:∀arr' g,arr'.Perm (arrOf st)→(∀t,t<sa∨sb+nb≤t→K arr' t=K (arrOf st) t)→zy arr' sa (sb+nb)→
   Q true (SortSt.mk' (kindOf st) arr' (((pendingOf st).setIfInBounds i (sa,na+nb,pw)).eraseIdxIfInBounds (i+1)) g (failedOf st))):
  wpS (model prog w) A E s (mergeAt' i) Q st:=by
 refine eF (wpS_get ?_)
 rw[show (pendingOf st)[i]?=some (sa,na,pw) from e1]
 rw[show (pendingOf st)[i+1]?=some (sb,nb,pw2) from e2]
 dsimp only
 refine eF (kG ?_)
 have hk':∀p,kindOf (setPending st p)=oneType':=fun _=>hk
 have hsb:sb<(arrOf st).size:=by omega
 obtain⟨t1,f1⟩:=zQ ik hsb
 refine eF (zr (dw (arrOf st) sb hsb) ?_)
 refine eF (xK (hk' _) f1 ik (show sa+na≤(arrOf st).size by omega) na0 (yx fun p q h5 h6 h7=>hA p q h5 h6 (by omega)) fun k ct=>?_)
 have lek:=ct.le
 dsimp only
 have lowA:∀t,sa≤t→t<sa+k→∀q,sb≤q→q<sb+nb→K (arrOf st) t≤K (arrOf st) q:=fun t h3 h4 q h5 h6=>cL (xU ct h3 h4) (hB sb q (by omega) h5 h6)
 have highA:∀t,sa+k≤t→t<sb→K (arrOf st) sb≤K (arrOf st) t:=fun t h3 h4=>we ct h3 (by omega)
 by_cases z1:(na-k == 0)=true
 ·rw[if_pos z1]
  have z1':na-k=0:=by simpa using z1
  refine eN (h (arrOf st) (gallopOf st) (cH _) (fun _ _=>rfl) fun p q h3 h4 h5=>?_)
  by_cases c1:q<sb
  ·exact hA p q h3 h4 c1
  ·by_cases c2:p<sb
   ·exact lowA p h3 (by omega) q (by omega) h5
   ·exact hB p q (by omega) h4 h5
 rw[if_neg z1]
 have z1':k<na:=by
  have:¬na-k=0:=by simpa using z1
  omega
 have hxl:sa+k+(na-k)-1<(arrOf st).size:=by omega
 obtain⟨t2,f2⟩:=zQ ik hxl
 refine eF (zr (dw (arrOf st) _ hxl) ?_)
 refine eF (xK (hk' _) f2 ik (show sb+nb≤(arrOf st).size by omega) (by omega) (yx fun p q h5 h6 h7=>hB p q h5 h6 (by omega)) fun n2 ct2=>?_)
 have len2:=ct2.le
 have exl:sa+k+(na-k)-1=sb-1:=by omega
 rw[exl] at ct2
 dsimp only
 have lowB:∀t,sb≤t→t<sb+n2→K (arrOf st) t≤K (arrOf st) (sb-1):=fun t h3 h4=>xU ct2 h3 h4
 have highB:∀q,sb+n2≤q→q<sb+nb→∀t,sa≤t→t<sb→K (arrOf st) t≤K (arrOf st) q:=fun q h5 h6 t h3 h4=>cL (hA t (sb-1) h3 (by omega) (by omega)) (we ct2 h5 h6)
 by_cases z2:(n2 == 0)=true
 ·rw[if_pos z2]
  have z2':n2=0:=by simpa using z2
  refine eN (h (arrOf st) (gallopOf st) (cH _) (fun _ _=>rfl) fun p q h3 h4 h5=>?_)
  by_cases c1:q<sb
  ·exact hA p q h3 h4 c1
  ·by_cases c2:p<sb
   ·exact highB q (by omega) h5 p h3 c2
   ·exact hB p q (by omega) h4 h5
 rw[if_neg z2]
 have z2':0<n2:=by
  have:¬n2=0:=by simpa using z2
  omega
 have ix:IntKeys ((arrOf st).extract (sa+k) sb):=xu ik fun p hp=>by
  rw[xf] at hp
  exact cj (cc hp)
 have iy:IntKeys ((arrOf st).extract sb (sb+n2)):=xu ik fun p hp=>by
  rw[xf] at hp
  exact cj (cc hp)
 have ux:Up ((arrOf st).extract (sa+k) sb).toList:=mO (fun p q h3 h4 h5=>hA p q (by omega) h4 h5) (by omega)
 have uy:Up ((arrOf st).extract sb (sb+n2)).toList:=mO (fun p q h3 h4 h5=>hB p q h3 h4 (by omega)) (by omega)
 have sx:((arrOf st).extract (sa+k) sb).size=na-k:=by simp;omega
 have sy:((arrOf st).extract sb (sb+n2)).size=n2:=by simp;omega
 have px:0<((arrOf st).extract (sa+k) sb).size:=by omega
 have py:0<((arrOf st).extract sb (sb+n2)).size:=by omega
 have q1:∀e∈((arrOf st).extract (sa+k) sb).toList,ky (((arrOf st).extract sb (sb+n2))[0]'(by omega))≤ky e:=fun e he=>by
  obtain⟨t,h3,h4,h5⟩:=ext_mem (by omega) he
  rw[h5,lg (by omega)]
  exact highA t h3 h4
 have q2:∀e∈((arrOf st).extract sb (sb+n2)).toList,ky e≤ky (((arrOf st).extract (sa+k) sb)[((arrOf st).extract (sa+k) sb).size-1]'(by omega)):=fun e he=>by
  obtain⟨t,h3,h4,h5⟩:=ext_mem (by omega) he
  rw[h5,lg (by omega),sx,show sa+k+(na-k-1)=sb-1 by omega]
  exact lowB t h3 h4
 have fin:∀{st':SortSt} (r:Array Keyed) (g:Nat),Good ((arrOf st).extract (sa+k) sb).toList ((arrOf st).extract sb (sb+n2)).toList r.toList→
   ∃arr':Array Keyed,(r.toList.zipIdx.foldl (fun a (pj:Keyed×Nat)=>a.setIfInBounds (sa+k+pj.2) pj.1) (arrOf st))=arr'∧arr'.Perm (arrOf st)∧(∀t,t<sa∨sb+nb≤t→K arr' t=K (arrOf st) t)∧zy arr' sa (sb+nb):=fun {st'} r g gd=>by
  refine⟨_,rfl,?_⟩
  have lr:r.toList.length=na-k+n2:=by
   rw[gd.pm.length_eq,eW,eY,eY,sx,sy]
  have sp:(arrOf st).toList=(arrOf st).toList.take (sa+k)++(((arrOf st).extract (sa+k) sb).toList++((arrOf st).extract sb (sb+n2)).toList)++(arrOf st).toList.drop (sb+n2):=by
   rw[xf,xf]
   have a1:(arrOf st).toList.take (sa+k)++((arrOf st).toList.take sb).drop (sa+k)=(arrOf st).toList.take sb:=by
    have:=eX (sa+k) ((arrOf st).toList.take sb)
    rwa [za3,bX (by omega)] at this
   have a2:(arrOf st).toList.take sb++((arrOf st).toList.take (sb+n2)).drop sb=(arrOf st).toList.take (sb+n2):=by
    have:=eX sb ((arrOf st).toList.take (sb+n2))
    rwa [za3,bX (by omega)] at this
   rw[←eU,a1,a2,eX]
  have lP:((arrOf st).toList.take (sa+k)).length=sa+k:=by simp;omega
  have lZ:(((arrOf st).extract (sa+k) sb).toList++((arrOf st).extract sb (sb+n2)).toList).length=r.toList.length:=by rw[gd.pm.length_eq]
  have wr:=jx (sa+k) r.toList 0 _ _ _ (arrOf st) sp (by rw[lP];rfl) lZ
  generalize r.toList.zipIdx.foldl (fun a (pj:Keyed×Nat)=>a.setIfInBounds (sa+k+pj.2) pj.1) (arrOf st)=arr' at wr
  have ko:∀t,t<sa+k∨sb+n2≤t→K arr' t=K (arrOf st) t:=fun t ht=>gA wr sp lZ.symm (by rw[lP];omega)
  have km:∀t,sa+k≤t→t<sb+n2→∃q,sa+k≤q∧q<sb+n2∧K arr' t=K (arrOf st) q:=fun t h3 h4=>by
   have:=rL arr' _ _ _ wr (t:=t-(sa+k)) (by omega)
   rw[lP,show sa+k+(t-(sa+k))=t by omega] at this
   have hm:=gd.pm.mem_iff.mp (bp (show t-(sa+k)<r.toList.length by omega))
   rcases dg.mp hm with hm|hm
   ·obtain⟨q,h5,h6,h7⟩:=ext_mem (by omega) hm
    exact⟨q,h5,by omega,by rw[this];exact h7⟩
   ·obtain⟨q,h5,h6,h7⟩:=ext_mem (by omega) hm
    exact⟨q,by omega,h6,by rw[this];exact h7⟩
  refine⟨?_,fun t ht=>ko t (by omega),fun p q h3 h4 h5=>?_⟩
  ·rw[ao,wr]
   refine List.Perm.trans ?_ (List.Perm.of_eq sp.symm)
   exact bw _ (dI _ gd.pm)
  ·by_cases c1:q<sa+k
   ·rw[ko p (by omega),ko q (by omega)]
    exact hA p q h3 h4 (by omega)
   by_cases c2:sb+n2≤p
   ·rw[ko p (by omega),ko q (by omega)]
    exact hB p q (by omega) h4 h5
   by_cases c3:p<sa+k
   ·rw[ko p (by omega)]
    have g1:∀t,sa+k≤t→t<sb+nb→K (arrOf st) p≤K (arrOf st) t:=fun t h6 h7=>by
     by_cases c4:t<sb
     ·exact hA p t h3 (by omega) c4
     ·exact lowA p h3 c3 t (by omega) h7
    by_cases c5:sb+n2≤q
    ·rw[ko q (by omega)]
     exact g1 q (by omega) h5
    ·obtain⟨t,h6,h7,h8⟩:=km q (by omega) (by omega)
     rw[h8]
     exact g1 t h6 (by omega)
   ·by_cases c5:sb+n2≤q
    ·rw[ko q (by omega)]
     obtain⟨t,h6,h7,h8⟩:=km p (by omega) (by omega)
     rw[h8]
     by_cases c4:t<sb
     ·exact highB q c5 h5 t (by omega) c4
     ·exact hB t q (by omega) (by omega) h5
    ·have r1:=rL arr' _ _ _ wr (t:=p-(sa+k)) (by omega)
     have r2:=rL arr' _ _ _ wr (t:=q-(sa+k)) (by omega)
     rw[lP,show sa+k+(p-(sa+k))=p by omega] at r1
     rw[lP,show sa+k+(q-(sa+k))=q by omega] at r2
     rw[r1,r2]
     by_cases c6:p=q
     ·subst c6;exact cK _
     ·exact cR.mp gd.up _ _ _ _ (by omega)
 split
 ·refine eF (gk (hk' _) ix iy ux uy px py q1 q2 fun r g gd=>?_)
  obtain⟨arr',e3,g1,g2,g3⟩:=fin (st':=st) r g gd
  refine eF (bL (eF (wpS_get (eN ?_))))
  have:=h arr' g g1 g2 g3
  subst e3
  have e4:(failedOf st).isNone=true:=by rw[hf];rfl
  rw[←e4] at this
  exact this
 ·refine eF (iM (hk' _) ix iy ux uy px py q1 q2 fun r g gd=>?_)
  obtain⟨arr',e3,g1,g2,g3⟩:=fin (st':=st) r g gd
  refine eF (bL (eF (wpS_get (eN ?_))))
  have:=h arr' g g1 g2 g3
  subst e3
  have e4:(failedOf st).isNone=true:=by rw[hf];rfl
  rw[←e4] at this
  exact this
end
def yV (xs:Array Keyed)(l u:Nat):Prop:=∀i j,l≤i→i≤j→j<u→K xs j≤K xs i
structure zi (lo:Nat)(xs ys:Array Keyed):Prop where
 perm:xs.Perm ys
 low:∀t,t<lo→K xs t=K ys t
theorem zi.refl (lo:Nat)(xs:Array Keyed):zi lo xs xs:=⟨cH _,fun _ _=>rfl⟩
theorem zi.trans {lo:Nat}{xs ys zs:Array Keyed}(h:zi lo xs ys)(g:zi lo ys zs):zi lo xs zs:=⟨h.perm.trans g.perm,fun t ht=>(h.low t ht).trans (g.low t ht)⟩
theorem zi.mirror {lo i j:Nat}{xs:Array Keyed}(hi:lo≤i)(hj:j≤xs.size):zi lo (PyProof.Rows.mirror xs i j ((j-i) / 2)) xs:=⟨mirror_perm _ _ _ _,fun t ht=>by rw[K_mirror hj,if_neg (by omega)]⟩
theorem zP {xs ys:Array Keyed}(h:IntKeys ys)(hp:xs.Perm ys):IntKeys xs:=xu h fun p=>(ao.mp hp).mem_iff.mp
theorem zy.more {xs:Array Keyed}{lo n:Nat}(h:zy xs lo (lo+n))(h1:1≤n)(hn:¬K xs (lo+n)<K xs (lo+n-1)):zy xs lo (lo+(n+1)):=fun i j h3 h4 h5=>by
 by_cases c:j<lo+n
 ·exact h i j h3 h4 c
 ·have:j=lo+n:=by omega
  subst this
  by_cases c2:i=lo+n
  ·subst c2;exact cK _
  ·exact cL (h i (lo+n-1) h3 (by omega) (by omega)) (Int.not_lt.mp hn)
theorem yV.more {xs:Array Keyed}{lo n:Nat}(h:yV xs lo (lo+n))(h1:1≤n)(hn:K xs (lo+n)≤K xs (lo+n-1)):yV xs lo (lo+(n+1)):=fun i j h3 h4 h5=>by
 by_cases c:j<lo+n
 ·exact h i j h3 h4 c
 ·have:j=lo+n:=by omega
  subst this
  by_cases c2:i=lo+n
  ·subst c2;exact cK _
  ·exact cL hn (h i (lo+n-1) h3 (by omega) (by omega))
theorem yV.flip {xs:Array Keyed}{lo n:Nat}(h:yV xs lo (lo+n))(hn:lo+n≤xs.size):zy (PyProof.Rows.mirror xs lo (lo+n) ((lo+n-lo) / 2)) lo (lo+n):=fun i j h3 h4 h5=>by
 rw[K_mirror hn,K_mirror hn,if_pos (by omega),if_pos (by omega)]
 exact h _ _ (by omega) (by omega) (by omega)
section
variable {prog:Program}{w:World}{A:Around}{E:Value→Shared→Prop}{s:Shared}
theorem ltK {st:SortSt}{i j:Nat}{Q:Option Bool→SortSt→Prop}(hk:kindOf st=oneType')(ik:IntKeys (arrOf st))(hi:i<(arrOf st).size)(hj:j<(arrOf st).size)
  (h:Q (some (decide (K (arrOf st) i<K (arrOf st) j))) st):wpS (model prog w) A E s (ltAt' i j) Q st:=by
 obtain⟨t,e1⟩:=zQ ik hi
 obtain⟨u,e2⟩:=zQ ik hj
 have f1:(arrOf st)[i]?=some (.int (K (arrOf st) i) t,(arrOf st)[i].2):=by rw[dw (arrOf st) i hi,←e1]
 have f2:(arrOf st)[j]?=some (.int (K (arrOf st) j) u,(arrOf st)[j].2):=by rw[dw (arrOf st) j hj,←e2]
 exact wpS_ltAt hk f1 f2 h
theorem xT {st:SortSt}{lo a nrem:Nat}{Q:AscSt→SortSt→Prop}{f:Nat→AscSt→StateT SortSt Sem (ForInStep AscSt)}(hf:∀x n,∃g,f x (none,n)=ltAt' (lo+n) (lo+n-1) >>= g∧g (some true)=pure (.done (none,n))∧g (some false)=pure (.yield (none,n+1)))
  (hk:kindOf st=oneType') (ik:IntKeys (arrOf st)) (hn:lo+nrem≤(arrOf st).size) (ha:1≤a) (han:a≤nrem) (hs:zy (arrOf st) lo (lo+a))
  (h:∀n,a≤n→n≤nrem→zy (arrOf st) lo (lo+n)→(n=nrem∨K (arrOf st) (lo+n)<K (arrOf st) (lo+n-1))→Q (none,n) st):wpS (model prog w) A E s (forIn [a:nrem] ((none,a):AscSt) f) Q st:=by
 refine dY (I:=fun x c st'=>st'=st∧c=(none,x)∧zy (arrOf st) lo (lo+x)) ?_ ?_ ⟨rfl,rfl,hs⟩
 ·rintro x c st' hax hxn ⟨rfl,rfl,hs'⟩
  obtain⟨g,e,g1,g2⟩:=hf x x
  rw[e]
  refine eF (ltK hk ik (by omega) (by omega) ?_)
  by_cases hl:K (arrOf st') (lo+x)<K (arrOf st') (lo+x-1)
  ·rw[dW hl,g1]
   exact eN (h x hax (by omega) hs' (.inr hl))
  ·rw[eZ hl,g2]
   exact eN ⟨rfl,rfl,hs'.more (by omega) hl⟩
 ·rintro c st' ⟨rfl,rfl,hs'⟩
  rw[show max a nrem=nrem by omega] at hs' ⊢
  exact h nrem han (eG _) hs' (.inl rfl)
theorem oX {β:Type}{c:Prop}[Decidable c]{X Y:StateT SortSt Sem β}{Q:β→SortSt→Prop}{st:SortSt}(R:Array Keyed→Prop)(hr:¬c→R (arrOf st))(key:∀arr,R arr→wpS (model prog w) A E s Y Q (setArr st arr))(hX:c→(∀arr,R arr→wpS (model prog w) A E s Y Q (setArr st arr))→wpS (model prog w) A E s X Q st):wpS (model prog w) A E s (if c then X else Y) Q st:=by
 split
 ·rename_i h;exact hX h key
 ·rename_i h;exact key _ (hr h)
theorem tL {st:SortSt}{lo nrem:Nat}{Q:Option Nat→SortSt→Prop}(hk:kindOf st=oneType')(ik:IntKeys (arrOf st))(h1:1≤nrem)(hn:lo+nrem≤(arrOf st).size)
  (h:∀m arr,1≤m→m≤nrem→zi lo arr (arrOf st)→zy arr lo (lo+m)→Q (some m) (setArr st arr)):wpS (model prog w) A E s (countRun' lo nrem) Q st:=by
 refine eF (xT (fun x n=>⟨_,rfl,rfl,rfl⟩) hk ik hn (eG 1) h1 (fun i j h3 h4 h5=>by
                                                       have:i=j:=by omega
                                                       subst this;exact cK _) fun n hn1 hn2 hsn hor=>?_)
 dsimp only
 by_cases hnn:(n == nrem)=true
 ·rw[if_pos hnn]
  exact eN (h n (arrOf st) hn1 hn2 (zi.refl _ _) hsn)
 rw[if_neg hnn]
 have hnn':¬n=nrem:=by simpa using hnn
 have hlt:=hor.resolve_left hnn'
 refine oX (fun arr1=>zi lo arr1 (arrOf st)∧yV arr1 lo (lo+(n+1))) (fun hgt=>?_) (fun arr1 z=>?_) (fun hgt key=>?_)
 ·have e:n=1:=by omega
  exact⟨zi.refl lo (arrOf st),yV.more (fun i j h3 h4 h5=>by
   have:i=j:=by omega
   subst this
   exact cK _) (by omega) (aB hlt)⟩
 ·obtain⟨sm1,hd1⟩:=z
  refine eF (wpS_lift (cT ⟨rfl,?_⟩))
  refine eF (cU (dY (I:=fun x c st'=>∃arr neq,st'=setArr st arr∧c=(none,x,neq)∧zi lo arr (arrOf st)∧yV arr lo (lo+x)∧neq+1≤x∧∀i,lo+x-(neq+1)≤i→i<lo+x→K arr i=K arr (lo+x-1))
   (Q:=fun c st'=>∃arr m neq,st'=setArr st arr∧c=(none,m,neq)∧zi lo arr (arrOf st)∧n+1≤m∧m≤nrem∧yV arr lo (lo+m)∧neq+1≤m∧∀i,lo+m-(neq+1)≤i→i<lo+m→K arr i=K arr (lo+m-1)) ?_ ?_ ⟨arr1,0,rfl,rfl,sm1,hd1,by omega,fun i h3 h4=>by congr 1;omega⟩) ?_)
  ·rintro x c st' hax hxn ⟨arr,neq,rfl,rfl,sm,hd,hq,he⟩
   dsimp only
   have sz:=sm.perm.size_eq
   have ik':=zP ik sm.perm
   refine eF (ltK (st:=setArr st arr) hk ik' (show _<arr.size by omega) (show _<arr.size by omega) ?_)
   by_cases hl:K arr (lo+x)<K arr (lo+x-1)
   ·rw[show decide (K (arrOf (setArr st arr)) (lo+x)<K (arrOf (setArr st arr)) (lo+x-1))=true from dW hl]
    dsimp only
    rw[if_pos rfl]
    by_cases hz:neq > 0
    ·rw[if_pos hz]
     refine eF (wpS_reverse ?_)
     have ke:=K_mirror_equal (show lo+x≤arr.size by omega) he
     refine eN ⟨_,0,rfl,rfl,(zi.mirror (by omega) (show lo+x≤arr.size by omega)).trans sm,?_,by omega,fun i h3 h4=>by congr 1;omega⟩
     intro i j h3 h4 h5
     show K (mirror arr _ _ _) j≤K (mirror arr _ _ _) i
     rw[ke,ke]
     exact hd.more (by omega) (aB hl) i j h3 h4 h5
    ·rw[if_neg hz]
     exact eN ⟨_,0,rfl,rfl,sm,hd.more (by omega) (aB hl),by omega,fun i h3 h4=>by congr 1;omega⟩
   ·rw[show decide (K (arrOf (setArr st arr)) (lo+x)<K (arrOf (setArr st arr)) (lo+x-1))=false from eZ hl]
    dsimp only
    rw[if_neg (by decide)]
    refine eF (ltK (st:=setArr st arr) hk ik' (show _<arr.size by omega) (show _<arr.size by omega) ?_)
    by_cases hg:K arr (lo+x-1)<K arr (lo+x)
    ·rw[show decide (K (arrOf (setArr st arr)) (lo+x-1)<K (arrOf (setArr st arr)) (lo+x))=true from dW hg]
     exact eN ⟨arr,x,neq,rfl,rfl,sm,hax,by omega,hd,hq,he⟩
    ·rw[show decide (K (arrOf (setArr st arr)) (lo+x-1)<K (arrOf (setArr st arr)) (lo+x))=false from eZ hg]
     refine eN ⟨arr,neq+1,rfl,rfl,sm,hd.more (by omega) (by omega),by omega,fun i h3 h4=>?_⟩
     rw[show lo+(x+1)-1=lo+x by omega]
     by_cases c:i=lo+x
     ·subst c;rfl
     ·rw[he i (by omega) (by omega)];omega
  ·rintro c st' ⟨arr,neq,rfl,rfl,sm,hd,hq,he⟩
   rw[show max (n+1) nrem=nrem by omega] at hd hq he ⊢
   exact⟨arr,nrem,neq,rfl,rfl,sm,by omega,eG _,hd,hq,he⟩
  ·rintro c st' ⟨arr,m,neq,rfl,rfl,sm2,hm1,hm2,hs2,hq,he⟩
   dsimp only
   have sz:=sm2.perm.size_eq
   refine oX (st:=setArr st arr) (fun arr'=>zi lo arr' (arrOf st)∧yV arr' lo (lo+m)) (fun _=>⟨sm2,hs2⟩) (fun arr' z=>?_) (fun hz key=>?_)
   ·obtain⟨sm2,hs2⟩:=z
    have sz':=sm2.perm.size_eq
    refine eF (wpS_reverse ?_)
    have sm3:=(zi.mirror (lo:=lo) (i:=lo) (j:=lo+m) (xs:=arr') (eG _) (by omega)).trans sm2
    have sz3:=sm3.perm.size_eq
    refine eF (xT (st:=setArr st _) (fun x n=>⟨_,rfl,rfl,rfl⟩) hk (zP ik sm3.perm) (dZ hn (aZ sz3.symm)) (by omega) hm2 (hs2.flip (by omega)) fun n2 h3 h4 h5 _=>?_)
    exact eN (h n2 _ (by omega) h4 sm3 h5)
   ·refine eF (wpS_reverse ?_)
    have ke:=K_mirror_equal (show lo+m≤arr.size by omega) he
    refine key _ ⟨(zi.mirror (lo:=lo) (i:=lo+m-(neq+1)) (j:=lo+m) (xs:=arr) (by omega) (by omega)).trans sm2,fun i j h3 h4 h5=>?_⟩
    show K (mirror arr _ _ _) j≤K (mirror arr _ _ _) i
    rw[ke,ke]
    exact hs2 i j h3 h4 h5
 ·refine eF (ltK hk ik (by omega) (by omega) ?_)
  by_cases hrose:K (arrOf st) lo<K (arrOf st) (lo+n-1)
  ·rw[dW hrose]
   exact eN (h n (arrOf st) hn1 hn2 (zi.refl _ _) hsn)
  ·rw[eZ hrose]
   dsimp only
   rw[if_neg (by decide)]
   have hall:∀k,lo≤k→k<lo+n→K (arrOf st) k=K (arrOf st) (lo+n-1):=fun k h3 h4=>by
    have a1:=hsn lo k (by omega) h3 h4
    have a2:=hsn k (lo+n-1) h3 (by omega) (by omega)
    omega
   refine eF (wpS_reverse ?_)
   have ke:=K_mirror_equal (show lo+n≤(arrOf st).size by omega) hall
   refine key _ ⟨zi.mirror (lo:=lo) (i:=lo) (j:=lo+n) (xs:=arrOf st) (eG _) (by omega),yV.more (fun i j h3 h4 h5=>?_) (by omega) ?_⟩
   ·rw[ke,ke,hall i (by omega) (by omega),hall j (by omega) (by omega)];exact cK _
   ·rw[ke,ke];exact aB hlt
theorem zi.bubble {lo src d:Nat}{xs:Array Keyed}(hs:src<xs.size)(hd:lo+d≤src):zi lo (PyProof.Rows.bubble xs src d) xs:=⟨bubble_perm _ _ _,fun t ht=>by rw[K_bubble hs (by omega),if_neg (by omega),if_neg (by omega)]⟩
theorem vM {st:SortSt}{lo n ok:Nat}{Q:Bool→SortSt→Prop}(hk:kindOf st=oneType')(ik:IntKeys (arrOf st))(hn:lo+n≤(arrOf st).size)(hok:ok≤n)(hs:zy (arrOf st) lo (lo+ok))
  (h:∀arr,zi lo arr (arrOf st)→zy arr lo (lo+n)→Q true (setArr st arr)):wpS (model prog w) A E s (binarySort' lo n ok) Q st:=by
 refine eF (cU (dY (I:=fun k c st'=>c=(none,())∧∃arr,st'=setArr st arr∧zi lo arr (arrOf st)∧zy arr lo (lo+min k n))
  (Q:=fun c st'=>c=(none,())∧∃arr,st'=setArr st arr∧zi lo arr (arrOf st)∧zy arr lo (lo+n)) ?_ ?_ ⟨rfl,arrOf st,rfl,zi.refl _ _,fun i j h3 h4 h5=>?_⟩) ?_)
 ·rintro k c st' hak hkn ⟨rfl,arr,rfl,sm,hs'⟩
  rw[show min k n=k by omega] at hs'
  have sz:=sm.perm.size_eq
  have ik':=zP ik sm.perm
  refine eF (cU (dY (I:=fun x c st''=>st''=setArr st arr∧∃l r,c=(none,l,r)∧l≤r∧r≤k∧r-l≤k-x∧
    (∀i,lo≤i→i<lo+l→K arr i≤K arr (lo+k))∧(∀i,lo+r≤i→i<lo+k→K arr (lo+k)<K arr i))
   (Q:=fun c st''=>st''=setArr st arr∧∃l r,c=(none,l,r)∧l≤k∧
    (∀i,lo≤i→i<lo+l→K arr i≤K arr (lo+k))∧(∀i,lo+l≤i→i<lo+k→K arr (lo+k)<K arr i)) ?_ ?_ ⟨rfl,0,k,rfl,by omega,by omega,by omega,fun i h3 h4=>by omega,fun i h3 h4=>by omega⟩) ?_)
  ·rintro x c st'' _ hxk ⟨rfl,l,r,rfl,hlr,hrk,hm,hlo,hhi⟩
   dsimp only
   by_cases hge:l≥r
   ·rw[if_pos hge]
    have:l=r:=by omega
    subst this
    exact eN ⟨rfl,l,l,rfl,hrk,hlo,hhi⟩
   ·rw[if_neg hge]
    refine eF (ltK (st:=setArr st arr) hk ik' (show _<arr.size by omega) (show _<arr.size by omega) ?_)
    by_cases hl:K arr (lo+k)<K arr (lo+(l+r) / 2)
    ·rw[show decide (K (arrOf (setArr st arr)) (lo+k)<K (arrOf (setArr st arr)) (lo+(l+r) / 2))=true from dW hl]
     exact eN ⟨rfl,l,(l+r) / 2,rfl,by omega,by omega,by omega,hlo,fun i h1 h2=>Int.lt_of_lt_of_le hl (hs' _ _ (by omega) h1 h2)⟩
    ·rw[show decide (K (arrOf (setArr st arr)) (lo+k)<K (arrOf (setArr st arr)) (lo+(l+r) / 2))=false from eZ hl]
     exact eN ⟨rfl,(l+r) / 2+1,r,rfl,by omega,by omega,by omega,fun i h1 h2=>cL (hs' i (lo+(l+r) / 2) h1 (by omega) (by omega)) (Int.not_lt.mp hl),hhi⟩
  ·rintro c st'' ⟨rfl,l,r,rfl,hlr,hrk,hm,hlo,hhi⟩
   have:l=r:=by omega
   subst this
   exact⟨rfl,l,l,rfl,hrk,hlo,hhi⟩
  ·rintro c st'' ⟨rfl,l,r,rfl,hlk,hlo,hhi⟩
   dsimp only
   have hks:lo+k<arr.size:=by omega
   refine eF (bL (eN ⟨rfl,bubble arr (lo+k) (lo+k-(lo+l)),rfl,(zi.bubble hks (by omega)).trans sm,fun i j h3 h4 h5=>?_⟩))
   rw[show min (k+1) n=k+1 by omega] at h5
   rw[K_bubble hks (by omega),K_bubble hks (by omega),show lo+k-(lo+k-(lo+l))=lo+l by omega]
   repeat' split
   all_goals first
    |(exfalso;omega)
    |exact cK _
    |exact hlo _ (by omega) (by omega)
    |exact aB (hhi _ (by omega) (by omega))
    |exact hs' _ _ (by omega) (by omega) (by omega)
 ·rintro c st' ⟨hc,arr,rfl,sm,hs'⟩
  rw[show min (max (max ok 1) n) n=n by omega] at hs'
  exact⟨hc,arr,rfl,sm,hs'⟩
 ·by_cases h1:ok=0
  ·have:i=j:=by omega
   subst this;exact cK _
  ·exact hs i j h3 h4 (by omega)
 ·rintro c st' ⟨rfl,arr,rfl,sm,hs'⟩
  exact eN (h arr sm hs')
end
abbrev uV :=Nat×Nat×Nat
def Runs (xs:Array Keyed):List uV→Nat→Nat→Prop
 |[],l,u=>l=u
 |r::L,l,u=>r.1=l∧0<r.2.1∧zy xs l (l+r.2.1)∧Runs xs L (l+r.2.1) u
theorem Runs.le {xs:Array Keyed}:∀{L:List uV} {l u:Nat},Runs xs L l u→l+L.length≤u
 |[],l,u,h=>aZ h
 |r::L,l,u,⟨_,h0,_,h⟩=>by
  have:=Runs.le h
  simp;omega
theorem yR {xs:Array Keyed}:∀{L R:List uV} {l u:Nat},Runs xs (L++R) l u↔∃m,Runs xs L l m∧Runs xs R m u
 |[],R,l,u=>⟨fun h=>⟨l,rfl,h⟩,fun⟨m,h1,h2⟩=>by cases h1;exact h2⟩
 |r::L,R,l,u=>⟨fun⟨a,b,c,h⟩=>by
   obtain⟨m,h1,h2⟩:=yR.mp h
   exact⟨m,⟨a,b,c,h1⟩,h2⟩,fun⟨m,⟨a,b,c,h1⟩,h2⟩=>⟨a,b,c,yR.mpr ⟨m,h1,h2⟩⟩⟩
theorem Runs.congr {xs ys:Array Keyed}:∀{L:List uV} {l u:Nat},Runs xs L l u→(∀t,l≤t→t<u→K ys t=K xs t)→Runs ys L l u
 |[],l,u,h,_=>h
 |r::L,l,u,⟨a,b,c,h⟩,e=>by
  have:=Runs.le h
  refine⟨a,b,fun i j h3 h4 h5=>?_,Runs.congr h fun t h3 h4=>e t (by omega) h4⟩
  rw[e i h3 (by omega),e j (by omega) (by omega)]
  exact c i j h3 h4 h5
theorem Runs.pow {xs:Array Keyed}{pw:Nat}:∀{L:List uV} {l u:Nat} (k:Nat),Runs xs L l u→Runs xs (L.modify k fun r=>(r.1,r.2.1,pw)) l u
 |[],l,u,k,h=>by simpa using h
 |r::L,l,u,0,⟨a,b,c,h⟩=>by simp;exact⟨a,b,c,h⟩
 |r::L,l,u,k+1,⟨a,b,c,h⟩=>by simp;exact⟨a,b,c,Runs.pow k h⟩
theorem Runs.all {xs:Array Keyed}:∀{L:List uV} {u:Nat},Runs xs L 0 u→L.length≤1→zy xs 0 u
 |[],u,h,_=>fun i j _ _ h5=>by cases h;omega
 |[r],u,⟨_,_,c,h⟩,_=>by cases h;simpa using c
 |_::_::_,_,_,h=>by simp at h
theorem lh (c:Prop)[Decidable c](a:Nat):(if c then a-1 else a)≤a:=by split<;>omega
theorem merged (P R:List uV)(x y z:uV)(p:Array uV)(h:p.toList=P++x::y::R):((p.setIfInBounds P.length z).eraseIdxIfInBounds (P.length+1)).toList=P++z::R:=by
 have e1:(p.setIfInBounds P.length z).toList=P++z::y::R:=by rw[bI,h];simp
 have hl:P.length+1<(p.setIfInBounds P.length z).size:=by
  have:=congrArg List.length e1
  simp at this ⊢;omega
 rw[Array.eraseIdxIfInBounds,dif_pos hl,Array.toList_eraseIdx,e1]
 rw[List.eraseIdx_append_of_length_le (by omega)]
 simp
section
variable {prog:Program}{w:World}{A:Around}{E:Value→Shared→Prop}{s:Shared}{a₀:Array Keyed}
theorem wY {st:SortSt}{i u:Nat}{Q:Bool→SortSt→Prop}(ik:IntKeys a₀)(gb:GB a₀ st)(hr:Runs (arrOf st) (pendingOf st).toList 0 u)(hu:u≤a₀.size)(hi:i+1<(pendingOf st).size)
  (h:∀st',GB a₀ st'→Runs (arrOf st') (pendingOf st').toList 0 u→(pendingOf st').size+1=(pendingOf st).size→(∀t,u≤t→K (arrOf st') t=K (arrOf st) t)→Q true st'):wpS (model prog w) A E s (mergeAt' i) Q st:=by
 have hl:i+1<(pendingOf st).toList.length:=by simpa using hi
 have sp:(pendingOf st).toList=(pendingOf st).toList.take i++(pendingOf st).toList[i]::(pendingOf st).toList[i+1]::(pendingOf st).toList.drop (i+2):=by
  rw[←dE hl,←dE (by omega),eX]
 rcases hx:(pendingOf st).toList[i] with ⟨sa,na,pw⟩
 rcases hy:(pendingOf st).toList[i+1] with ⟨sb,nb,pw2⟩
 rw[hx,hy] at sp
 have e1:(pendingOf st)[i]?=some (sa,na,pw):=by rw[←cP,eL (by omega),hx]
 have e2:(pendingOf st)[i+1]?=some (sb,nb,pw2):=by rw[←cP,eL hl,hy]
 have lP:((pendingOf st).toList.take i).length=i:=by rw[dN];omega
 generalize (pendingOf st).toList.take i=P at sp lP
 generalize (pendingOf st).toList.drop (i+2)=R at sp
 rw[sp] at hr
 obtain⟨m,hp,⟨f1,na0,hA,f2,nb0,hB,hR⟩⟩:=yR.mp hr
 dsimp only at f1 f2 na0 nb0 hA hB hR
 subst f1
 have:=Runs.le hR
 have:=Runs.le hp
 have sz:=gb.perm.size_eq
 refine rO gb.kind gb.failed (zP ik gb.perm) e1 e2 f2.symm na0 nb0 (by omega) (by rw[f2];exact hA) (by rw[f2];exact hB) fun arr' g g1 g2 g3=>?_
 have mm:=merged P R _ _ (sa,na+nb,pw) (pendingOf st) sp
 rw[lP] at mm
 refine h _ ⟨g1.trans gb.perm,gb.kind,gb.failed⟩ ?_ ?_ fun t ht=>g2 t (by omega)
 ·show Runs arr' (((pendingOf st).setIfInBounds i (sa,na+nb,pw)).eraseIdxIfInBounds (i+1)).toList 0 u
  rw[mm]
  refine yR.mpr ⟨sa,hp.congr fun t h3 h4=>g2 t (by omega),rfl,by show 0<na+nb;omega,?_,?_⟩
  ·show zy arr' sa (sa+(na+nb))
   rw[←Nat.add_assoc,←f2]
   exact g3
  ·show Runs arr' R (sa+(na+nb)) u
   rw[←Nat.add_assoc]
   exact hR.congr fun t h3 h4=>g2 t (by omega)
 ·show (((pendingOf st).setIfInBounds i (sa,na+nb,pw)).eraseIdxIfInBounds (i+1)).size+1=_
  have q1:=congrArg List.length mm
  have q2:=congrArg List.length sp
  simp only[eY,eW,df] at q1 q2
  omega
structure Mid (a₀:Array Keyed)(lo n:Nat)(st:SortSt):Prop where
 gb:GB a₀ st
 rn:Runs (arrOf st) (pendingOf st).toList 0 lo
 so:zy (arrOf st) lo (lo+n)
theorem Mid.put {lo n:Nat}{st:SortSt}(h:Mid a₀ lo n st)(n0:0<n):GB a₀ (setPending st ((pendingOf st).push (lo,n,0)))∧Runs (arrOf st) ((pendingOf st).push (lo,n,0)).toList 0 (lo+n):=by
 refine⟨⟨h.gb.perm,h.gb.kind,h.gb.failed⟩,?_⟩
 rw[cY]
 exact yR.mpr ⟨lo,h.rn,rfl,n0,h.so,rfl⟩
theorem Mid.pow {lo n k pw:Nat}{st:SortSt}(h:Mid a₀ lo n st):Mid a₀ lo n (setPending st ((pendingOf st).modify k fun x=>(x.fst,x.2.fst,pw))):=by
 refine⟨⟨h.gb.perm,h.gb.kind,h.gb.failed⟩,?_,h.so⟩
 show Runs (arrOf st) ((pendingOf st).modify k _).toList 0 lo
 rw[Array.toList_modify]
 exact h.rn.pow k
theorem iI {β:Type}{mr:Nat}{X Y:Nat→StateT SortSt Sem β}{Q:β→SortSt→Prop}{st:SortSt}{R0:Nat→Prop}(R:Nat→Array Keyed→Prop)(hr:∀n,R0 n→¬n<mr→R n (arrOf st))(key:∀n arr,R n arr→wpS (model prog w) A E s (Y n) Q (setArr st arr))(hX:∀n,R0 n→n<mr→(∀n arr,R n arr→wpS (model prog w) A E s (Y n) Q (setArr st arr))→wpS (model prog w) A E s (X n) Q st):∀n,R0 n→wpS (model prog w) A E s (if n<mr then X n else Y n) Q st:=by
 intro n r0
 split
 ·rename_i h;exact hX n r0 h key
 ·rename_i h;exact key _ _ (hr n r0 h)
theorem si {st:SortSt}{Q:Unit→SortSt→Prop}(ik:IntKeys a₀)(hB:SBase a₀ st)
  (h:∀st',(arrOf st').Perm a₀→failedOf st'=none→SortedTo (arrOf st') a₀.size→Q () st'):wpS (model prog w) A E s sortRuns' Q st:=by
 rw[sortRuns'_eq]
 refine eF (wpS_get ?_)
 dsimp only
 rw[hB.size]
 generalize hmr:minRun' a₀.size a₀.size 0=mr
 refine eF (cU (dY (I:=fun x c st'=>∃lo,c=(none,lo)∧GB a₀ st'∧Runs (arrOf st') (pendingOf st').toList 0 lo∧lo≤a₀.size∧x≤lo)
  (Q:=fun c st'=>c=(none,a₀.size)∧GB a₀ st'∧Runs (arrOf st') (pendingOf st').toList 0 a₀.size) ?_ ?_ ⟨0,rfl,⟨hB.perm,hB.kind,hB.failed⟩,by rw[hB.pend];rfl,by omega,by omega⟩) ?_)
 ·rintro x c st' _ hx ⟨lo,rfl,gb,hr,hl,hxl⟩
  dsimp only
  by_cases hge:lo≥a₀.size
  ·rw[if_pos hge]
   have:lo=a₀.size:=by omega
   subst this
   exact eN ⟨rfl,gb,hr⟩
  rw[if_neg hge]
  have sz:=gb.perm.size_eq
  refine eF (tL gb.kind (zP ik gb.perm) (by omega) (show lo+(a₀.size-lo)≤(arrOf st').size by omega) fun m arr m1 m2 sm so=>?_)
  dsimp only
  have sz1:=sm.perm.size_eq
  have gb1:GB a₀ (setArr st' arr):=⟨sm.perm.trans gb.perm,gb.kind,gb.failed⟩
  have rn1:Runs arr (pendingOf st').toList 0 lo:=hr.congr fun t _ h4=>sm.low t h4
  have H0:0<m∧m≤a₀.size-lo∧zy arr lo (lo+m):=⟨m1,m2,so⟩
  clear m1 m2 so
  revert m H0
  refine iI (st:=setArr st' arr) (fun n ar=>Mid a₀ lo n (setArr st' ar)∧0<n∧n≤a₀.size-lo) ?_ ?_ ?_
  ·rintro m ⟨m1,m2,so⟩ _
   exact⟨⟨gb1,rn1,so⟩,m1,m2⟩
  ·rintro n ar ⟨md,n0,nl⟩
   refine eF (wpS_get ?_)
   split
   ·refine eF (cU (dY (I:=fun _ c st''=>c=(none,())∧Mid a₀ lo n st'') (Q:=fun c st''=>c=(none,())∧Mid a₀ lo n st'') ?_ ?_ ⟨rfl,md⟩) ?_)
    ·rintro y c st'' _ _ ⟨rfl,md⟩
     refine eF (wpS_get ?_)
     split
     ·rename_i heq
      have hp1:(pendingOf st'').size > 1:=by
       by_cases c:(pendingOf st'').size > 1
       ·exact c
       ·have e:(if (pendingOf st'').size > 1 then (pendingOf st'')[(pendingOf st'').size-2]? else none)=none:=if_neg c
        exact absurd (e.symm.trans heq) (by simp)
      split
      ·exact eN ⟨rfl,md⟩
      ·refine eF (wY ik md.gb md.rn (by omega) (show (pendingOf st'').size-2+1<(pendingOf st'').size by omega) fun st3 gb3 hr3 _ hk3=>?_)
       refine eN ⟨rfl,gb3,hr3,fun i j h3 h4 h5=>?_⟩
       rw[hk3 i h3,hk3 j (by omega)]
       exact md.so i j h3 h4 h5
     ·exact eN ⟨rfl,md⟩
    ·rintro c st'' q
     exact q
    ·rintro c st'' ⟨rfl,md⟩
     dsimp only
     refine eF (bL (eF (bL (eN ?_))))
     have:=fun pw=>(md.pow (k:=(pendingOf st'').size-1) (pw:=pw)).put n0
     exact⟨_,rfl,(this _).1,(this _).2,by omega,by omega⟩
   ·refine eF (bL (eN ?_))
    have:=md.put n0
    exact⟨_,rfl,this.1,this.2,by omega,by omega⟩
  ·rintro m ⟨m1,m2,so⟩ hmm key
   refine eF (wpS_lift (cT ⟨rfl,?_⟩))
   refine eF (vM (st:=setArr st' arr) gb1.kind (zP ik gb1.perm) (show lo+min (a₀.size-lo) mr≤arr.size by omega) (by omega) so fun arr2 sm2 so2=>?_)
   rw[if_neg (by decide)]
   exact key _ arr2 ⟨⟨⟨sm2.perm.trans gb1.perm,gb.kind,gb.failed⟩,rn1.congr fun t _ h4=>sm2.low t h4,so2⟩,by omega,by omega⟩
 ·rintro c st' ⟨lo,rfl,gb,hr,hl,hxl⟩
  have:lo=a₀.size:=by omega
  subst this
  exact⟨rfl,gb,hr⟩
 ·rintro c st' ⟨rfl,gb,hr⟩
  dsimp only
  refine eF (cU (dY (I:=fun x c st'=>c=(none,())∧GB a₀ st'∧Runs (arrOf st') (pendingOf st').toList 0 a₀.size∧(pendingOf st').size≤a₀.size-x)
   (Q:=fun c st'=>c=(none,())∧GB a₀ st'∧Runs (arrOf st') (pendingOf st').toList 0 a₀.size∧(pendingOf st').size≤1) ?_ ?_ ⟨rfl,gb,hr,by have:=hr.le;simpa using this⟩) ?_)
  ·rintro x c st' _ hx ⟨rfl,gb,hr,hsz⟩
   refine eF (wpS_get ?_)
   by_cases hp:(pendingOf st').size≤1
   ·rw[if_pos hp]
    exact eN ⟨rfl,gb,hr,hp⟩
   ·rw[if_neg hp]
    refine eF (wY ik gb hr (eG _) ?_ fun st3 gb3 hr3 hs3 _=>?_)
    ·exact za4 (Nat.succ_le_succ (lh _ _)) (show (pendingOf st').size-2+1<(pendingOf st').size by omega)
    ·exact eN ⟨rfl,gb3,hr3,by omega⟩
  ·rintro c st' ⟨rfl,gb,hr,hsz⟩
   exact⟨rfl,gb,hr,by omega⟩
  ·rintro c st' ⟨rfl,gb,hr,hsz⟩
   dsimp only
   exact eN (h st' gb.perm gb.failed fun i j h3 h4=>hr.all (by simpa using hsz) i j (dM _) h3 h4)
end
open PyProof
section
variable {prog:Program}{w:World}{A:Around}{E:Value→Shared→Prop}{s:Shared}
theorem tree_ok {a:Addr}{vs:List Value}{ns:List Int}{n:Nat}{P:Fin→Shared→Prop}(ho:s.heap.get? a=some (seqObj "list" vs.toArray n))(hI:IntsAre vs ns)(hl:vs.length≤1000)
  (h:∀(out:Array Value) (ns':List Int),IntsAre out.toList ns'→ns'.Perm ns→ns'.Pairwise (·≤·)→P (.done (.ret .none)) {s with heap:=sortedHeap s.heap a vs out}):wpAny (model prog w) A (Builtin.«list.sort» ⟨[.ref a],[]⟩) P E s:=by
 by_cases h64:vs.length<64
 ·exact list_sort_tree ho hI h64 h
 have ha:a<s.heap.objs.size:=eM ho
 obtain⟨e1,ho1⟩:∃e1,(s.heap.update a (Obj.mapSeq fun _=>#[])).get? a=some (seqObj "list" #[] e1):=⟨_,get?_update_seq ho (fun _=>#[])⟩
 have ho6:(((s.heap.update a (Obj.mapSeq fun _=>#[])).push (seqObj "tuple" vs.toArray 0)).push (seqObj "list" #[] 0)).get? a=some (seqObj "list" #[] e1):=by
  have n1:a≠(s.heap.update a (Obj.mapSeq fun _=>#[])).objs.size:=by rw[Heap.size_update];exact eO ha
  have n2:a≠((s.heap.update a (Obj.mapSeq fun _=>#[])).push (seqObj "tuple" vs.toArray 0)).objs.size:=by rw[size_push',Heap.size_update];exact eO (dC ha)
  rw[aR _ _ _ n2,aR _ _ _ n1,ho1]
 have hsz:¬vs.toArray.size<2:=by simp;omega
 obtain⟨v₁,v₂,rest,rfl⟩:∃v₁ v₂ rest,vs=v₁::v₂::rest:=by
  match vs,h64 with
  |v₁::v₂::rest,_=>exact⟨v₁,v₂,rest,rfl⟩
  |[],h=>simp at h
  |[_],h=>simp at h
 rw[list_sort_plain]
 have hv:(v₁::v₂::rest).toArray.size≤sizeLine:=by rw[ck,eP];omega
 refine eA (listItems_at ho rfl ?_)
 refine eA (listUpdate_at ho rfl ?_)
 refine eA (seqEpoch_at ho1 rfl ?_)
 refine eA (wpAny_newTuple ?_)
 refine eA (wpAny_newList ?_)
 refine dF ?_
 dsimp only
 rw[if_neg hsz,if_neg hsz,keyKind_ints hI]
 refine eA (eB (eA (dO (si (a₀:=pairsOf (v₁::v₂::rest)) (Q:=fun _ st'=>(arrOf st').Perm (pairsOf (v₁::v₂::rest))∧failedOf st'=none∧SortedTo (arrOf st') (pairsOf (v₁::v₂::rest)).size)
  hI.intKeys ⟨cH _,rfl,rfl,rfl⟩ fun st' a1 a2 a3=>⟨a1,a2,a3⟩) ?_ fun _ _ e=>e)))
 rintro⟨⟨⟩,st'⟩ s' ⟨rfl,hp,hf,hs⟩
 obtain⟨ns',h1,h2,h3⟩:=sorted_out hI hp hs
 refine eA (seqEpoch_at ho6 rfl (eA (listUpdate_at ho6 rfl ?_ (hsz2:=by refine dZ (aZ ((Array.size_map ..).trans (hp.size_eq.trans (pairsOf_size _)))) ?_;rw[ck];omega))))
 rw[hf]
 simp only[bne_self_eq_false,bx,aV]
 exact eB (h _ ns' h1 h2 h3)
end
end Tim
namespace SetW
open PySem PyProof.Rows
section
variable {prog:Program}{w:World}{A:Around}{E:Value→Shared→Prop}{s:Shared}{a:Addr}{ep:Nat}{o:Obj}{es:Array (Int×Value)}{S:Int→Bool}{m:Nat}{t:SetTable}
theorem sg {F:List Int}{Q:Value→Shared→Prop}(hh:A.handled=none)(hoa:s.heap.get? a=some o)(x:WkO prog w o S m (zZ w) es ep t)(hF:F.Nodup)(hS:∀k,S k=F.any (· == k))(hm:m=F.length)(h64:F.length≤1000)
  (h:∀(h':Heap) d (tk:Nat) (L:Addr) (out:Array Value) (c:Nat) (ns:List Int),s.heap.objs.size≤L→(∀c u,s.heap.get? c=some u→h'.get? c=some u)→h'.get? L=some (seqObj "list" out c)→IntsAre out.toList ns→ns.Perm F→ns.Pairwise (·≤·)→Q (.ref L) {s with heap:=h',drawn:=d,toks:=tk}):
  wpAny (model prog w) A (call (.builtin "sorted") [.ref a]) Q E s:=by
 obtain⟨ms,im,mm⟩:=qh (prog:=prog) (w:=w) es.toList x.el.keys
 have lm:ms.length=es.size:=by have:=IntsAre.length im;simp at this;omega
 have pF:ms.Perm F:=tQ hF (fun k hk=>(mm k).mpr ((x.mem k).mp (by rw[hS];exact List.any_eq_true.mpr ⟨k,hk,by simp⟩))) (by rw[lm,x.sz,hm])
 refine Calls.call_function_entry kind_sorted plain_sorted entry_sorted (args_sorted1 _) ?_
 unfold Builtin.«sorted»
 refine eA (m:=checkCount "sorted" 1 1 _) (eB ?_)
 refine eA (sC (by simp[hh]) hoa x fun h1 d tk ord sz k1 po=>?_)
 obtain⟨ns0,i0,p0⟩:=oC po im
 have l0:ord.length≤1000:=by
  have:=po.length_eq
  have:=pF.length_eq
  simp at *
  omega
 refine eA (wpAny_newList ?_)
 have hoL:(h1.push (seqObj "list" ord.toArray 0)).get? h1.objs.size=some (seqObj "list" ord.toArray 0):=eQ _ rfl
 refine eA (dF (cM slot_list_sort ⟨_,hoL,rfl⟩ entry_list_sort (Tim.tree_ok hoL i0 l0 fun out ns' a1 a2 a3=>⟨_,rfl,?_⟩) (args_list_sort _)))
 obtain⟨e,he⟩:=sortedHeap_at (out:=out) hoL
 refine eB ⟨_,rfl,h _ d tk h1.objs.size out e ns' (cB sz) (fun c u hc=>?_) he a1 (a2.trans (p0.trans pF)) a3⟩
 have h2:=k1 c u hc
 have hlt:=eM h2
 rw[sortedHeap_old (eO hlt) (by rw[size_push'];exact dC hlt)]
 exact eE _ h2
end
end SetW
namespace L2
open PySem PySem.Spec PyProof.Rows SetW
section
variable {X:Cx}{α:Ev}{e:Expr}{pos p p2 pos2:Pos}
theorem vJ (hc:X.calm=true):yj X (.builtin "sorted") (fun xs H Q=>∃(l:Addr) (o:Obj) (u:HO) (zs:List Int),xs=[.ref l]∧H l=some (.frz o u)∧SW X.prog X.w o zs∧zs.length≤1000∧∀(l':Addr) (ys:List Int),H l'=none→ys.Perm (xj zs)→ys.Pairwise (·≤·)→Q (.ref l') (upd H l' (.lst (ys.map V.int)))):=by
 intro pins s σ H xs us Q I r h
 obtain⟨l,o,u,zs,rfl,hl,⟨es,ep,t,x⟩,h64,q⟩:=h
 obtain⟨v,rfl,rx⟩:=vals1 r
 cases rx
 have ho:s.heap.get? l=some o:=(show s.heap.get? l=some o∧_ from I.hok l _ hl).1
 have lm:(xj zs).length≤zs.length:=firstMet_length_le _ _
 refine sg (F:=xj zs) (I.ok.hd hc) ho x (xh _ _) (fun _=>rfl) rfl (by omega) fun h' d tk L out c ns sz kp hL a1 a2 a3=>?_
 have I':=I.laid (a:=L) (o:=.lst (ns.map V.int)) (t':=tk) kp sz ⟨by rw[eD,a2.length_eq,ck];omega,out.toList,c,uI a1,by simpa using hL⟩
 exact⟨.ref L,_,I'.drw d,rfl,q _ ns (I.hok.fresh sz) a2 a3⟩
theorem wo {Q:List PyData→Prop}(hc:X.calm=true)(hgs:Gl X "sorted")(hms:X.mg "sorted"=none)(hg:Gl X "set")(hm:X.mg "set"=none)(h:EvD X α e fun x=>∃zs:List Int,x=.list (zs.map .int)∧zs.length<1000∧∀ys:List Int,(∀k,k∈ys↔k∈zs)→ys.Pairwise (·<·)→ys.length≤zs.length→Q (ys.map .int))
  (he:starEach [e] X.env=(false,eval e X.env)::starEach [] X.env:=by rfl) (he2:starEach [.Call (.Name "set" p) [e] [] pos] X.env=(false,eval (.Call (.Name "set" p) [e] [] pos) X.env)::starEach [] X.env:=by rfl):
  EvL X α (.Call (.Name "sorted" p2) [.Call (.Name "set" p) [e] [] pos] [] pos2) Q:=fun F σ H R m k=>by
 refine⟨_,yO (vJ hc) hgs hms boot_sorted (zk (yv (oI hc) hg hm PyProof.Rows.boot_set (zk zd zD he) (he:=he)) zD he2) (he:=he2),?_⟩
 refine h F σ H _ m fun x vx H1 q1 t1 k1 r1=>?_
 obtain⟨zs,rfl,h64,q⟩:=q1
 have m1:=m.kz k1 t1
 obtain⟨l,xs,rfl,h1,h2⟩:=r1.lst_inv
 have h3:=(zc h1).2
 rw[h2.intsV] at h3
 refine⟨l,zs,rfl,h3,by omega,fun l' o hl' sw=>?_⟩
 have t2:=t1.same (zt (o:=.frz o (.set (fun k=>(xj zs).any (· == k)) (xj zs).length)) hl')
 have k2:=k1.trans (Kz.of_same (F:=F) (zt (o:=.frz o (.set (fun k=>(xj zs).any (· == k)) (xj zs).length)) hl'))
 have m2:=m.kz k2 t2
 refine⟨l',o,_,zs,rfl,zh,sw,by omega,fun l2 ys hl2 pm pw=>?_⟩
 have ly:ys.length≤zs.length:=by rw[pm.length_eq];exact firstMet_length_le _ _
 have nd:ys.Nodup:=pm.nodup_iff.mpr (xh _ _)
 have pl:ys.Pairwise (·<·):=by
  have:=pw.and nd
  exact this.imp fun {a b} z=>by omega
 have av:AVs (Gz F α σ (upd H1 l' (.frz o (.set (fun k=>(xj zs).any (· == k)) (xj zs).length)))) (ys.map V.int) (ys.map .int):=by
  clear pm pw nd pl ly
  induction ys with
  |nil=>exact .nil
  |cons y ys ih=>exact .cons (.int y) ih
 obtain⟨g1,g2,g3⟩:=m2.lay hl2 av
 exact k _ _ _ (q ys (fun j=>pm.mem_iff.trans kY) pl ly) g1 (k2.trans g2) (g3.back m k2 t2)
end
section
variable {X:Cx}{α:Ev}{a b:Expr}{pos:Pos}
end
section
variable {X:Cx}{α:Ev}{e:Expr}{kk:Nat}{p pos:Pos}{rest:List Stmt}{E:zS}
end
end L2
namespace SortA
open PySem PySem.W PyProof.Rows
end SortA
namespace L2
open PySem PySem.Spec PySem.Calls PySem.W PyProof.Rows SortA
section
variable {prog:Program}{w:World}{A:Around}{E:Value→Shared→Prop}{s:Shared}
end
section
variable {X:Cx}{pins:List (Addr×Obj)}{σ:St}{H H':Hp}{s:Shared}
end
section
variable {X:Cx}{α:Ev}{e:Expr}{p pos:Pos}
end
end L2
namespace SortA
open PySem PySem.W PyProof.Rows
def lxQ (p q:(Int×Int)×Int):Bool:=decide (p.1.1<q.1.1∨(p.1.1=q.1.1∧(p.1.2<q.1.2∨(p.1.2=q.1.2∧p.2<q.2))))
def zX (ps:List ((Int×Int)×Int))(i:Nat):(Int×Int)×Int:=ps.getD i ((0,0),0)
theorem kd (ps:List ((Int×Int)×Int)):Ord fun i j=>lxQ (zX ps i) (zX ps j) where
 irr:=fun a=>by simp[lxQ]
 tr:=fun a b c=>by
  unfold lxQ
  generalize zX ps a=x;generalize zX ps b=y;generalize zX ps c=z
  simp only[decide_eq_false_iff_not]
  omega
 asy:=fun a b=>by
  unfold lxQ
  generalize zX ps a=x;generalize zX ps b=y
  simp only[decide_eq_false_iff_not,decide_eq_true_eq]
  omega
theorem tV (ps:List ((Int×Int)×Int))(h:0<ps.length):∃ix:List Nat,run (fun i j=>lxQ (zX ps i) (zX ps j)) (kas_sort ps.length)=ix.toArray∧ix.length=ps.length∧(∀i∈ix,i<ps.length)∧(ix.map (zX ps)).Perm ps∧(ix.map (zX ps)).Pairwise (fun p q=>lxQ q p=false):=by
 obtain⟨a,b,c⟩:=lF (kd ps) h
 generalize run (fun i j=>lxQ (zX ps i) (zX ps j)) (kas_sort ps.length)=r at a b c
 have e:(List.range ps.length).map (zX ps)=ps:=by
  apply List.ext_getElem
  ·simp
  ·intro i h1 h2
   simp[zX,h2]
 have pl:r.toList.Perm (List.range ps.length):=by
  have:=ao.mp b
  simpa using this
 refine⟨r.toList,by simp,by simpa using a,fun i hi=>by simpa using pl.mem_iff.mp hi,?_,?_⟩
 ·have:=pl.map (zX ps)
  rw[e] at this
  exact this
 ·rw[cZ,cR]
  intro i j hi hj hij
  have h1:j<r.size:=by simpa using hj
  have:=c i j (by omega) (by rw[←a];exact h1)
  have ei:g r i=r.toList[i]:=by
   have:i<r.size:=by omega
   simp[g,Array.getD,this]
  have ej:g r j=r.toList[j]:=by simp[g,Array.getD,h1]
  rw[ei,ej] at this
  exact this
end SortA
namespace L2
open PySem PySem.Spec PySem.Calls PySem.W PyProof.Rows SortA
section
variable {prog:Program}{w:World}{A:Around}{E:Value→Shared→Prop}{s:Shared}
def PrQ (h:Heap)(v:Value)(p:(Int×Int)×Int):Prop:=∃a o b u n ob t1 t2 m,v=.ref a∧h.get? a=some o∧o.cls=.type "tuple"∧o.data=.seq #[.ref b,.int p.2 u] n∧h.get? b=some ob∧ob.cls=.type "tuple"∧ob.data=.seq #[.int p.1.1 t1,.int p.1.2 t2] m
theorem PrQ.keep {h h':Heap}{v:Value}{p:(Int×Int)×Int}(k:∀b o,h.get? b=some o→o.cls=.type "tuple"→h'.get? b=some o)(x:PrQ h v p):PrQ h' v p:=by
 obtain⟨a,o,b,u,n,ob,t1,t2,m,e,h1,h2,h3,h4,h5,h6⟩:=x
 exact⟨a,o,b,u,n,_,t1,t2,m,e,k _ _ h1 h2,h2,h3,k _ _ h4 h5,h5,h6⟩
def yG (h:Heap):List Value→List ((Int×Int)×Int)→Prop
 |[],[]=>True
 |v::vs,p::ps=>PrQ h v p∧yG h vs ps
 |_,_=>False
theorem yG.len {h:Heap}:∀{vs:List Value} {ps:List ((Int×Int)×Int)},yG h vs ps→vs.length=ps.length
 |[],[],_=>rfl
 |[],_::_,h=>h.elim
 |_::_,[],h=>h.elim
 |_::_,_::_,⟨_,h⟩=>by simp[yG.len h]
theorem yG.keep {h h':Heap}(k:∀b o,h.get? b=some o→o.cls=.type "tuple"→h'.get? b=some o):∀{vs:List Value} {ps:List ((Int×Int)×Int)},yG h vs ps→yG h' vs ps
 |[],[],_=>trivial
 |[],_::_,h=>h.elim
 |_::_,[],h=>h.elim
 |_::_,_::_,⟨x,r⟩=>⟨x.keep k,yG.keep k r⟩
theorem yG.at {h:Heap}:∀{vs:List Value} {ps:List ((Int×Int)×Int)} (i:Nat),yG h vs ps→i<ps.length→PrQ h (vs.getD i Value.none) (zX ps i)
 |[],[],_,_,hi=>by simp at hi
 |[],_::_,_,h,_=>h.elim
 |_::_,[],_,h,_=>h.elim
 |_::_,_::_,0,⟨x,_⟩,_=>x
 |_::_,_::_,i+1,⟨_,r⟩,hi=>by simpa[zX] using yG.at i r (by simpa using hi)
theorem yG.tups {h:Heap}:∀{vs:List Value} {ps:List ((Int×Int)×Int)},yG h vs ps→∃fs:List Value,KatTups h vs fs∧fs.length=ps.length∧∀v∈fs,∃b ob,v=.ref b∧h.get? b=some ob∧ob.cls=.type "tuple"
 |[],[],_=>⟨[],trivial,rfl,fun _ h=>by simp at h⟩
 |[],_::_,h=>h.elim
 |_::_,[],h=>h.elim
 |_::_,p::_,⟨⟨a,o,b,u,n,ob,t1,t2,m,e,ho,hc,hd,h4,h5,_⟩,r⟩=>by
  obtain⟨fs,x,y,z⟩:=yG.tups r
  subst e
  refine⟨.ref b::fs,KatTups.cons ho hc hd (by simp) x,by simp[y],fun v hv=>?_⟩
  rcases eJ.mp hv with rfl|hv
  ·exact⟨b,ob,rfl,h4,h5⟩
  ·exact z v hv
theorem pZ {v v':Value}{p q:(Int×Int)×Int}{Q:Bool→Shared→Prop}(hu:A.units+2<cLine)(ha:PrQ s.heap v p)(hb:PrQ s.heap v' q)
  (h:Q (lxQ p q) s):wpAny (model prog w) A (keyLt' (tuples' false) v v') Q E s:=by
 obtain⟨a,o,b,u,n,ob,t1,t2,m,rfl,h1,h2,h3,h4,h5,h6⟩:=ha
 obtain⟨a',o',b',u',n',ob',t1',t2',m',rfl,g1,g2,g3,g4,g5,g6⟩:=hb
 have ka:IsTupleKey (intKind prog w) s.heap [p.1.1,p.1.2] b:=⟨_,_,m,h4,h5,h6,.cons (ai _ _ _ _) (.cons (ai _ _ _ _) .nil)⟩
 have kb:IsTupleKey (intKind prog w) s.heap [q.1.1,q.1.2] b':=⟨_,_,m',g4,g5,g6,.cons (ai _ _ _ _) (.cons (ai _ _ _ _) .nil)⟩
 refine kat_lt h1 h3 g1 g3 (kat_cons (wpAny_eqBool_tuple (by omega) ka kb ?_))
 by_cases e0:p.1=q.1
 ·have e3:decide ([p.1.1,p.1.2]=[q.1.1,q.1.2])=true:=by simp[e0]
  rw[e3]
  refine kat_yes (kat_cons (wpAny_eqBool_int ?_))
  have e1:p.1.1=q.1.1:=by rw[e0]
  have e2:p.1.2=q.1.2:=by rw[e0]
  by_cases e:p.2=q.2
  ·have e4:(p.2 == q.2)=true:=by simp[e]
   rw[e4]
   refine kat_yes (kat_nil ?_)
   have:lxQ p q=false:=by simp[lxQ,e,e1,e2]
   rw[this] at h
   simpa using h
  ·have e4:(p.2 == q.2)=false:=by simp[e]
   rw[e4]
   refine kat_no (kat_one _ _ (wpAny_lt_int ?_))
   have:lxQ p q=decide (p.2<q.2):=by simp[lxQ,e1,e2]
   rw[this] at h
   exact h
 ·have e3:decide ([p.1.1,p.1.2]=[q.1.1,q.1.2])=false:=eZ fun z=>by
   injection z with z1 z2
   injection z2 with z2 _
   exact e0 (Prod.ext z1 z2)
  rw[e3]
  have hx:lxQ p q=HT.lexLt [p.1.1,p.1.2] [q.1.1,q.1.2]:=by
   have hn:¬(p.1.1=q.1.1∧p.1.2=q.1.2):=fun z=>e0 (Prod.ext z.1 z.2)
   unfold lxQ HT.lexLt HT.lexLt
   by_cases z:p.1.1=q.1.1
   ·have z2:p.1.2≠q.1.2:=fun y=>hn ⟨z,y⟩
    rw[if_pos z,if_neg z2]
    simp[z,z2]
   ·rw[if_neg z]
    simp[z]
  rw[hx] at h
  refine kat_no (kat_one _ _ ?_)
  exact HT.sR ⟨_,h4,h5,m,h6⟩ ⟨_,g4,g5,m',g6⟩ (.cons _ _ (.cons _ _ .nil)) (.cons _ _ (.cons _ _ .nil)) (by omega) h
theorem sP {vs:List Value}{ps:List ((Int×Int)×Int)}(hu:A.units+2<cLine)(h2:2≤vs.length)(P:yG s.heap vs ps){R:Array Nat→Shared→Prop}(hr:∀ix:List Nat,ix.length=ps.length→(∀i∈ix,i<ps.length)→(ix.map (zX ps)).Perm ps→(ix.map (zX ps)).Pairwise (fun p q=>lxQ q p=false)→R ix.toArray s):
  wpAny (model prog w) A (keyKind' vs.toArray) (fun κ s'=>(kas_sort vs.length).kasWp (kas_ask prog w A κ vs) R s') (fun _ _=>False) s:=by
 obtain⟨fs,t,hl,hi⟩:=P.tups
 have hlen:=P.len
 refine kat_kind (T:=.type "tuple") t (by omega) (fun v hv=>?_) (by decide) ?_
 ·obtain⟨c,ob,rfl,h1,h2⟩:=hi v hv
  have:=(show Looks (model prog w) s.heap (typeOf (.ref c)) ob.cls from (Looks.ld h1).andThen .now)
  rw[h2] at this
  exact this
 ·have e:(Value.type "tuple" != Value.type "tuple")=false:=by decide
  rw[e]
  obtain⟨ix,e1,e2,e3,e4,e5⟩:=tV ps (by omega)
  rw[hlen]
  refine wp_run (n:=ps.length) (P:=fun _=>True) (lt:=fun i j=>lxQ (zX ps i) (zX ps j)) (fun i j C hi hj hC=>?_) _ (oy (by omega)) ?_
  ·unfold kas_ask
   exact pZ hu (P.at i hi) (P.at j hj) hC
  ·rw[e1];exact hr ix e2 e3 e4 e5
def oD (vs:List Value)(ps:List ((Int×Int)×Int))(out:List Value):Prop:=
 ∃ix:List Nat,out=ix.map (fun i=>vs.getD i Value.none)∧ix.length=ps.length∧(∀i∈ix,i<ps.length)∧(ix.map (zX ps)).Perm ps∧(ix.map (zX ps)).Pairwise (fun p q=>lxQ q p=false)
theorem xM (hu:A.units+2<cLine){a:Addr}{vs:List Value}{ps:List ((Int×Int)×Int)}{n:Nat}{Pf:PySem.Fin→Shared→Prop}(ho:s.heap.get? a=some (seqObj "list" vs.toArray n))(h64:vs.length<64)(P:yG s.heap vs ps)
  (h:∀out h' c,oD vs ps out→(∀b o,b≠a→s.heap.get? b=some o→h'.get? b=some o)→h'.get? a=some (seqObj "list" out.toArray c)→Pf (.done (.ret .none)) {s with heap:=h'}):
  wpAny (model prog w) A (Builtin.«list.sort» ⟨[.ref a],[]⟩) Pf E s:=by
 have ha:a<s.heap.objs.size:=eM ho
 have s1:=cv s.heap a (Obj.mapSeq fun _=>(#[]:Array Value))
 obtain⟨e1,ho1⟩:∃e1,(s.heap.update a (Obj.mapSeq fun _=>(#[]:Array Value))).get? a=some (seqObj "list" #[] e1):=⟨_,get?_update_seq ho fun _=>#[]⟩
 generalize hh1:s.heap.update a (Obj.mapSeq fun _=>(#[]:Array Value))=h1 at s1 ho1
 have k1:∀b o,b≠a→s.heap.get? b=some o→((h1.push (seqObj "tuple" vs.toArray 0)).push (seqObj "list" #[] 0)).get? b=some o:=fun b o hb e=>
  eE _ (eE _ ((s1.2 b hb).trans e))
 have ho2:((h1.push (seqObj "tuple" vs.toArray 0)).push (seqObj "list" #[] 0)).get? a=some (seqObj "list" #[] e1):=eE _ (eE _ ho1)
 have P2:yG ((h1.push (seqObj "tuple" vs.toArray 0)).push (seqObj "list" #[] 0)) vs ps:=P.keep fun b o e hc=>by
  refine k1 b o (fun q=>?_) e
  rw[q,ho] at e
  cases e
  simp at hc
 have fin:∀(out:List Value),oD vs ps out→∀{s':Shared},s'={s with heap:=(h1.push (seqObj "tuple" vs.toArray 0)).push (seqObj "list" #[] 0)}→
   ∀c h',h'.get? a=some (seqObj "list" out.toArray c)→Heap.SameBut a s'.heap h'→Pf (.done (.ret .none)) {s' with heap:=h'}:=fun out so s' es c h' e sb=>by
  subst es
  exact h out h' c so (fun b o hb e=>(sb.2 b hb).trans (k1 b o hb e)) e
 rw[list_sort_plain]
 refine eA (listItems_at ho rfl ?_)
 refine eA (listUpdate_at ho rfl ?_ (by rw[eP,ck];omega) (dM _))
 rw[hh1]
 refine eA (seqEpoch_at ho1 rfl ?_)
 refine eA (wpAny_newTuple ?_ (by show vs.length≤_;rw[ck];omega))
 refine eA (wpAny_newList ?_ (dM _))
 refine dF ?_
 show wpAny (model prog w) A _ Pf E {s with heap:=(h1.push (seqObj "tuple" vs.toArray 0)).push (seqObj "list" #[] 0)}
 dsimp only
 have hlen:=P.len
 by_cases hn2:vs.toArray.size<2
 ·rw[if_pos hn2,if_pos hn2]
  have hv:vs.length<2:=by simpa using hn2
  refine eA (eB ?_)
  refine eA (eB ?_)
  dsimp only
  have so:oD vs ps vs:=by
   match vs,ps,hv,hlen with
   |[],[],_,_=>exact⟨[],rfl,rfl,fun _ h=>by simp at h,.refl _,.nil⟩
   |[v],[p],_,_=>exact⟨[0],rfl,rfl,fun i h=>by simp at h;subst h;simp,.refl _,by simp⟩
   |_::_::_,_,hv,_=>simp only[df] at hv;omega
  have hout:(arrOf (SortSt.mk' general' (vs.toArray.zip vs.toArray) #[] 7 none)).map (·.2)=vs.toArray:=by
   show (vs.toArray.zip vs.toArray).map (·.2)=vs.toArray
   apply Array.toList_inj.mp
   rw[Array.toList_map,Array.toList_zip]
   exact List.map_snd_zip (eG _)
  have hf:failedOf (SortSt.mk' general' (vs.toArray.zip vs.toArray) #[] 7 none)=none:=rfl
  rw[hout]
  have s2:=cv ((h1.push (seqObj "tuple" vs.toArray 0)).push (seqObj "list" #[] 0)) a (Obj.mapSeq fun _=>vs.toArray)
  obtain⟨c2,hc2⟩:∃c2,(((h1.push (seqObj "tuple" vs.toArray 0)).push (seqObj "list" #[] 0)).update a (Obj.mapSeq fun _=>vs.toArray)).get? a=some (seqObj "list" vs.toArray c2):=⟨_,get?_update_seq ho2 fun _=>vs.toArray⟩
  refine eA (seqEpoch_at ho2 rfl ?_)
  refine eA (listUpdate_at ho2 rfl ?_ (dM _) (by rw[eP,ck];omega))
  simp only[bne_self_eq_false,bx,aV]
  exact eB (fin vs so rfl c2 _ hc2 s2)
 ·rw[if_neg hn2,if_neg hn2]
  have h2:2≤vs.length:=by simp at hn2;omega
  have ask:=sP (prog:=prog) (w:=w) (A:=A) (s:={s with heap:=(h1.push (seqObj "tuple" vs.toArray 0)).push (seqObj "list" #[] 0)}) hu h2 P2
   (R:=fun p s''=>oD vs ps (p.toList.map fun i=>vs.getD i Value.none)∧s''={s with heap:=(h1.push (seqObj "tuple" vs.toArray 0)).push (seqObj "list" #[] 0)}) (fun ix a b c d=>⟨⟨ix,by simp,a,b,c,d⟩,rfl⟩)
  refine eA (dO ask (fun κ s0 hk=>?_) fun _ _ x=>x.elim)
  refine eA (dO (kat_run (Q:=fun st' s'=>∃p:Array Nat,p.size=vs.length∧arrOf st'=p.map (kas_item (vs.toArray.zip vs.toArray))∧failedOf st'=none∧oD vs ps (p.toList.map fun i=>vs.getD i Value.none)∧s'={s with heap:=(h1.push (seqObj "tuple" vs.toArray 0)).push (seqObj "list" #[] 0)})
   rfl h2 h64 (fun p' st' s' a1 a2 a3 a4=>⟨p',a1,a2,a3,a4⟩) hk) ?_ fun _ _ e=>e)
  rintro⟨⟨⟩,st'⟩ s' ⟨p,hp,har,hf,so,es⟩
  dsimp only
  have hout:=kat_snds rfl har
  have hsz:(List.toArray (p.toList.map fun i=>vs.getD i Value.none)).size=vs.length:=by rw[eP,eD,eY,hp]
  rw[hout]
  have ho3:s'.heap.get? a=some (seqObj "list" #[] e1):=by rw[es];exact ho2
  have s2:=cv s'.heap a (Obj.mapSeq fun _=>List.toArray (p.toList.map fun i=>vs.getD i Value.none))
  obtain⟨c2,hc2⟩:∃c2,(s'.heap.update a (Obj.mapSeq fun _=>List.toArray (p.toList.map fun i=>vs.getD i Value.none))).get? a=some (seqObj "list" (List.toArray (p.toList.map fun i=>vs.getD i Value.none)) c2):=⟨_,get?_update_seq ho3 fun _=>List.toArray (p.toList.map fun i=>vs.getD i Value.none)⟩
  refine eA (seqEpoch_at ho3 rfl ?_)
  refine eA (listUpdate_at ho3 rfl ?_ (dM _) (dZ (aZ hsz) (by rw[ck];omega)))
  rw[hf]
  simp only[bne_self_eq_false,bx,aV]
  exact eB (fin _ so es c2 _ hc2 s2)
theorem vO (hu:A.units+8<cLine){l:Addr}{vs:List Value}{ps:List ((Int×Int)×Int)}{Q:Value→Shared→Prop}(hl:s.heap.IsList l vs.toArray)(h64:vs.length<64)(P:yG s.heap vs ps)
  (h:∀D out h' c,s.heap.objs.size≤D→oD vs ps out→(∀b o,s.heap.get? b=some o→h'.get? b=some o)→h'.get? D=some (seqObj "list" out.toArray c)→Q (.ref D) {s with heap:=h'}):
  wpAny (model prog w) A (call (.builtin "sorted") [.ref l]) Q E s:=by
 refine Calls.call_function_entry kind_sorted plain_sorted entry_sorted (args_sorted1 _) ?_
 unfold Builtin.«sorted»
 refine eA (m:=checkCount "sorted" 1 1 _) (eB ?_)
 refine eA (collect_list hl ?_ (by rw[ck];omega))
 refine eA (wpAny_newList ?_ (by rw[ck];omega))
 have hsz:((s.heap.push (seqObj "list" #[] 0)).update s.heap.objs.size (Obj.mapSeq (·++vs.toArray))).objs.size=s.heap.objs.size+1:=by
  rw[Heap.size_update,size_push']
 have hoL:(((s.heap.push (seqObj "list" #[] 0)).update s.heap.objs.size (Obj.mapSeq (·++vs.toArray))).push (seqObj "list" vs.toArray 0)).get? (s.heap.objs.size+1)=some (seqObj "list" vs.toArray 0):=by
  rw[←hsz];exact eQ _ rfl
 have keep:∀b o,s.heap.get? b=some o→(((s.heap.push (seqObj "list" #[] 0)).update s.heap.objs.size (Obj.mapSeq (·++vs.toArray))).push (seqObj "list" vs.toArray 0)).get? b=some o:=fun b o q=>by
  have hlt:b<s.heap.objs.size:=eM q
  rw[aR _ _ _ (by rw[hsz];exact eO (dC hlt)),Heap.get?_update_ne _ _ _ _ (eO hlt),aR _ _ _ (eO hlt)]
  exact q
 show wpAny _ _ _ _ _ {s with heap:=((s.heap.push (seqObj "list" #[] 0)).update s.heap.objs.size (Obj.mapSeq (·++vs.toArray))).push (seqObj "list" vs.toArray 0)}
 rw[hsz]
 refine eA (dF (cM slot_list_sort ⟨_,hoL,rfl⟩ entry_list_sort ?body (args_list_sort _)))
 case body=>
  refine xM (by show A.units+1+1+2<cLine;omega) (s:={s with heap:=((s.heap.push (seqObj "list" #[] 0)).update s.heap.objs.size (Obj.mapSeq (·++vs.toArray))).push (seqObj "list" vs.toArray 0)})
   hoL h64 (P.keep fun b o e _=>keep b o e) fun out h' c so k e=>?_
  exact⟨_,rfl,eB ⟨_,rfl,h _ out h' c (bN _) so (fun b o q=>k b o (eO (dC (eM q))) (keep b o q)) e⟩⟩
end
inductive yw (H:Hp):List V→List ((Int×Int)×Int)→Prop where
 |nil:yw H [] []
 |cons {a b:Addr} {xs:List V} {p:(Int×Int)×Int} {ps:List ((Int×Int)×Int)}:H a=some (.tup [.ref b,.int p.2])→H b=some (.tup [.int p.1.1,.int p.1.2])→yw H xs ps→yw H (.ref a::xs) (p::ps)
section
variable {X:Cx}{pins:List (Addr×Obj)}{σ:St}{H H':Hp}{s:Shared}
theorem yw.len {xs:List V}{ps:List ((Int×Int)×Int)}(h:yw H xs ps):xs.length=ps.length:=by
 induction h with
 |nil=>rfl
 |cons _ _ _ ih=>simp[ih]
theorem yw.keep {xs:List V}{ps:List ((Int×Int)×Int)}(k:∀a ts,H a=some (.tup ts)→H' a=some (.tup ts))(h:yw H xs ps):yw H' xs ps:=by
 induction h with
 |nil=>exact .nil
 |cons e e2 _ ih=>exact .cons (k _ _ e) (k _ _ e2) ih
theorem yw.prs (I:Inv X pins σ H s):∀{xs:List V} {ps:List ((Int×Int)×Int)} {us:List Value},yw H xs ps→Vals xs us→yG s.heap us ps:=by
 intro xs ps us h
 induction h generalizing us with
 |nil=>intro r;cases r;exact trivial
 |@cons a b xs p ps e eb _ ih=>
  intro r
  cases r with
  |cons r rr=>
   cases (show _=Value.ref a from r)
   obtain⟨_,its,vi,o,ho,hc,n,hd⟩:=(show zw X.prog X.w H s.heap a (.tup [.ref b,.int p.2]) from I.hok a _ e)
   obtain⟨_,itb,vb,pb⟩:=(show zw X.prog X.w H s.heap b (.tup [.int p.1.1,.int p.1.2]) from I.hok b _ eb)
   cases vi with
   |cons r1 vi=>
    cases vi with
    |cons r2 vi=>
     cases vi
     cases (show _=Value.ref b from r1)
     obtain⟨t,rfl⟩:=r2
     cases vb with
     |cons q1 vb=>
      cases vb with
      |cons q2 vb=>
       cases vb
       obtain⟨t1,rfl⟩:=q1
       obtain⟨t2,rfl⟩:=q2
       obtain⟨ob,hb,hbc,m,hbd⟩:=pb
       exact⟨⟨a,o,b,t,n,ob,t1,t2,m,rfl,ho,hc,hd,hb,hbc,hbd⟩,ih rr⟩
theorem yw.at {xs:List V}{ps:List ((Int×Int)×Int)}(h:yw H xs ps):∀i,i<ps.length→∃a b,xs[i]?=some (.ref a)∧H a=some (.tup [.ref b,.int (zX ps i).2])∧H b=some (.tup [.int (zX ps i).1.1,.int (zX ps i).1.2]):=by
 induction h with
 |nil=>intro i hi;simp at hi
 |@cons a b xs p ps e e2 _ ih=>
  intro i hi
  cases i with
  |zero=>exact⟨a,b,rfl,e,e2⟩
  |succ i=>
   obtain⟨c,d,e1,e2⟩:=ih i (by simpa using hi)
   exact⟨c,d,by simpa using e1,e2⟩
theorem va {xs:List V}{us:List Value}{ps:List ((Int×Int)×Int)}(h:yw H xs ps)(r:Vals xs us):∀ix:List Nat,(∀i∈ix,i<ps.length)→∃ys,Vals ys (ix.map fun i=>us.getD i Value.none)∧∀G:Hp,yw G xs ps→yw G ys (ix.map (zX ps))
 |[],_=>⟨[],.nil,fun _ _=>.nil⟩
 |i::ix,hi=>by
  obtain⟨ys,a,b⟩:=va h r ix fun j hj=>hi j (.tail _ hj)
  obtain⟨c,_,e1,_⟩:=h.at i (hi i (.head _))
  refine⟨.ref c::ys,.cons (mV r i _ e1) a,fun G hG=>?_⟩
  obtain⟨c',d',e1',e2',e3'⟩:=hG.at i (hi i (.head _))
  rw[e1] at e1'
  cases e1'
  exact .cons e2' e3' (b G hG)
def uc (ps:List ((Int×Int)×Int)):Prop:=ps.Pairwise fun p q=>lxQ q p=false
theorem vN (hu:X.A.units+8<cLine):yj X (.builtin "sorted") (fun xs H Q=>∃(l:Addr) (ys:List V) (ps:List ((Int×Int)×Int)),xs=[.ref l]∧H l=some (.lst ys)∧yw H ys ps∧ps.length<64∧
  ∀l' zs qs,H l'=none→(∀G,yw G ys ps→yw G zs qs)→qs.Perm ps→uc qs→Q (.ref l') (upd H l' (.lst zs))):=by
 intro pins s σ H xs us Q I r h
 obtain⟨l,ys,ps,rfl,hl,hp,h64,q⟩:=h
 obtain⟨u,rfl,rx⟩:=Vals.one r
 cases (show u=Value.ref l from rx)
 obtain⟨hz,its,n,vi,e⟩:=(show zw X.prog X.w H s.heap l (.lst ys) from I.hok l _ hl)
 have P:=hp.prs I vi
 have hlen:=P.len
 refine vO hu (vs:=its) (ps:=ps) ⟨_,e,rfl,n,rfl⟩ (by omega) P fun D out h' c hD so k e'=>?_
 obtain⟨ix,eo,e2,e3,e4,e5⟩:=so
 obtain⟨zs,vz,pz⟩:=va hp vi ix e3
 have hn:H D=none:=I.hok.fresh hD
 refine⟨.ref D,_,I.laid (o:=.lst zs) (t':=s.toks) k hD ⟨?_,out,c,by rw[eo];exact vz,e'⟩,rfl,q D zs _ hn pz e4 e5⟩
 rw[(pz _ hp).len,eD,e2,ck]
 omega
end
def dQ (p:(Int×Int)×Int):PyData:=.tuple [.tuple [.int p.1.1,.int p.1.2],.int p.2]
theorem mT {H:Hp}{xs:List V}{ps:List ((Int×Int)×Int)}(h:yw H xs ps):AVs H xs (ps.map dQ):=by
 induction h with
 |nil=>exact .nil
 |cons e e2 _ ih=>exact .cons (.tup e (.cons (.tup e2 (.cons (.int _) (.cons (.int _) .nil))) (.cons (.int _) .nil))) ih
theorem wK {H:Hp}:∀{ps:List ((Int×Int)×Int)} {xs:List V},AVs H xs (ps.map dQ)→yw H xs ps
 |[],_,.nil=>.nil
 |p::ps,_,.cons h r=>by
  obtain⟨a,ys,rfl,h1,h2⟩:=AV.tup_inv (ds:=[.tuple [.int p.1.1,.int p.1.2],.int p.2]) h
  cases h2 with
  |cons g1 h2=>
   cases h2 with
   |cons g2 h2=>
    cases h2
    obtain⟨b,zs,rfl,h3,h4⟩:=g1.tup_inv
    cases h4 with
    |cons g3 h4=>
     cases h4 with
     |cons g4 h4=>
      cases h4
      cases g2.int_inv;cases g3.int_inv;cases g4.int_inv
      exact .cons h1 h3 (wK r)
section
variable {X:Cx}{α:Ev}{e:Expr}{p pos:Pos}
theorem rF {Q:List PyData→Prop}(hu:X.A.units+64<cLine)(hg:Gl X "sorted")(hm:X.mg "sorted"=none)(h:EvD X α e fun x=>∃ps:List ((Int×Int)×Int),x=.list (ps.map dQ)∧ps.length<64∧∀qs:List ((Int×Int)×Int),qs.Perm ps→uc qs→Q (qs.map dQ))(he:starEach [e] X.env=(false,eval e X.env)::starEach [] X.env:=by rfl):
  EvL X α (.Call (.Name "sorted" p) [e] [] pos) Q:=fun F σ H R m k=>by
 refine⟨_,yO (vN (by omega)) hg hm boot_sorted (zk zd zD he) (he:=he),?_⟩
 refine h F σ H _ m fun x vx H1 q1 t1 k1 r1=>?_
 obtain⟨ps,rfl,h64,q⟩:=q1
 have m1:=m.kz k1 t1
 obtain⟨l,xs,rfl,h1,h2⟩:=r1.lst_inv
 have h3:=(zc h1).2
 refine⟨l,xs,ps,rfl,h3,(wK h2).keep fun a ts e=>(zc e).2,h64,fun l' zs qs hl' pz pm rs=>?_⟩
 obtain⟨g1,g2,g3⟩:=m1.lay hl' (mT (pz _ (wK h2)))
 exact k _ _ _ (q qs pm rs) g1 (k1.trans g2) (g3.back m k1 t1)
end
end L2
namespace SetW
open PySem PyProof.Rows
def it5 :Nat→Nat→Nat
 |0,x=>x
 |n+1,x=>it5 n (5*x+1)
theorem wA :∀n x,it5 n x=it5 n 0+(4*it5 n 0+1)*x
 |0,x=>by simp[it5]
 |n+1,x=>by
  show it5 n (5*x+1)=it5 n (5*0+1)+(4*it5 n (5*0+1)+1)*x
  rw[wA n (5*x+1),wA n (5*0+1)]
  grind
theorem tm :∀m n x,it5 (m+n) x=it5 n (it5 m x)
 |0,n,x=>by rw[aC];rfl
 |m+1,n,x=>by
  rw[show m+1+n=(m+n)+1 by omega]
  exact tm m n (5*x+1)
theorem qp :∀k,∃q,it5 (2 ^ k) 0=2 ^ k*(2*q+1)
 |0=>⟨0,by simp[it5]⟩
 |k+1=>by
  obtain⟨q,h⟩:=qp k
  rw[show 2 ^ (k+1)=2 ^ k+2 ^ k by rw[aG];omega,tm,wA _ (it5 (2 ^ k) 0),h]
  refine⟨q+2 ^ k*(2*q+1)*(2*q+1),?_⟩
  grind
theorem je (k x:Nat):∃c,it5 (2 ^ k) x=x+2 ^ k*(2*c+1):=by
 obtain⟨q,h⟩:=qp k
 rw[wA,h]
 refine⟨q+4*q*x+2*x,?_⟩
 grind
theorem qV :∀k x e,∃m,m<2 ^ k∧it5 m x % 2 ^ k=e % 2 ^ k
 |0,x,e=>⟨0,by simp,by simp[Nat.mod_one]⟩
 |k+1,x,e=>by
  obtain⟨m,hm,h⟩:=qV k x e
  have hp:2 ^ (k+1)=2 ^ k*2:=aG ..
  have hz:0<2 ^ k:=Nat.two_pow_pos k
  have key:∀a b:Nat,a % 2 ^ k=b % 2 ^ k→a % 2 ^ (k+1)=b % 2 ^ (k+1)∨∀c,(a+2 ^ k*(2*c+1)) % 2 ^ (k+1)=b % 2 ^ (k+1):=by
   intro a b hab
   rw[hp]
   have ha:=Nat.mod_mul (a:=2 ^ k) (b:=2) (x:=a)
   have hb:=Nat.mod_mul (a:=2 ^ k) (b:=2) (x:=b)
   by_cases e2:a / 2 ^ k % 2=b / 2 ^ k % 2
   ·left;rw[ha,hb,hab,e2]
   ·right
    intro c
    have h3:=Nat.mod_mul (a:=2 ^ k) (b:=2) (x:=a+2 ^ k*(2*c+1))
    rw[h3,hb,Nat.add_mul_mod_self_left,Nat.add_mul_div_left _ _ hz,hab]
    congr 2
    omega
  rcases key _ _ h with z|z
  ·exact⟨m,by rw[hp];omega,z⟩
  ·obtain⟨c,hc⟩:=je k (it5 m x)
   refine⟨m+2 ^ k,by rw[hp];omega,?_⟩
   rw[tm,hc]
   exact z c
theorem tw (M:Nat):∀n x,it5 n (x % M) % M=it5 n x % M
 |0,x=>by simp[it5]
 |n+1,x=>by
  show it5 n (5*(x % M)+1) % M=it5 n (5*x+1) % M
  rw[←tw M n (5*(x % M)+1),←tw M n (5*x+1)]
  congr 2
  rw[Nat.add_mod,Nat.mul_mod,Nat.mod_mod,←Nat.mul_mod,←Nat.add_mod]
def lp (mask:Nat):Nat→Nat→Nat→Nat×Nat
 |0,i,q=>(i,q)
 |r+1,i,q=>lp mask r (SetTable.leap mask i q).1 (SetTable.leap mask i q).2
theorem mN (mask:Nat):∀m n i q,lp mask (m+n) i q=lp mask n (lp mask m i q).1 (lp mask m i q).2
 |0,n,i,q=>by rw[aC];rfl
 |m+1,n,i,q=>by
  rw[show m+1+n=(m+n)+1 by omega]
  exact mN mask m n _ _
theorem gI (mask:Nat):∀r i q,(lp mask r i q).2=q / 32 ^ r
 |0,i,q=>by simp[lp]
 |r+1,i,q=>by
  show (lp mask r _ _).2=_
  rw[gI mask r,aG,Nat.mul_comm,←Nat.div_div_eq_div_mul]
  rfl
theorem jD (mask:Nat):∀r i q,i≤mask→(lp mask r i q).1≤mask
 |0,i,q,h=>h
 |r+1,i,q,_=>jD mask r _ _ (by
  show (i*5+1+q / 32) % (mask+1)≤mask
  have:=bJ (i*5+1+q / 32) (show 0<mask+1 by omega)
  omega)
theorem qq (mask:Nat):∀r i,i≤mask→(lp mask r i 0).1=it5 r i % (mask+1)
 |0,i,h=>by
  show i=i % (mask+1)
  rw[Nat.mod_eq_of_lt (by omega)]
 |r+1,i,h=>by
  show (lp mask r ((i*5+1+0 / 32) % (mask+1)) (0 / 32)).1=it5 r (5*i+1) % (mask+1)
  rw[Nat.zero_div,qq mask r _ (by have:=bJ (i*5+1+0) (show 0<mask+1 by omega);omega),tw]
  congr 2
  omega
theorem mY {mask k i q e:Nat}(hk:mask+1=2 ^ k)(hi:i≤mask)(hq:q<2 ^ 64)(he:e≤mask):∃r,r<mask+14∧(lp mask r i q).1=e:=by
 have h0:(lp mask 13 i q).2=0:=by
  rw[gI]
  exact Nat.div_eq_of_lt (di hq (by decide))
 have h1:=jD mask 13 i q hi
 obtain⟨m,hm,h⟩:=qV k (lp mask 13 i q).1 e
 refine⟨13+m,by omega,?_⟩
 rw[mN,h0,qq mask m _ h1,hk,h,←hk,Nat.mod_eq_of_lt (by omega)]
section
variable {t:SetTable}
def adv (t:SetTable):Nat→SetTable.Probe→SetTable.Probe
 |0,p=>p
 |n+1,p=>adv t n (t.advance p)
theorem tG :∀m n p,adv t (m+n) p=adv t n (adv t m p)
 |0,n,p=>by rw[aC];rfl
 |m+1,n,p=>by
  rw[show m+1+n=(m+n)+1 by omega]
  exact tG m n (t.advance p)
theorem vU (p:SetTable.Probe):(t.advance p).dummy=p.dummy:=by unfold SetTable.advance;split<;>rfl
def rs (t:SetTable)(i q:Nat):SetTable.Probe:={j:=i,more:=SetTable.runEnd t.mask i-i,i:=i,perturb:=q,dummy:=none}
theorem qL :∀(c j i q:Nat),adv t (c+1) ⟨j,c,i,q,none⟩=rs t (SetTable.leap t.mask i q).1 (SetTable.leap t.mask i q).2
 |0,j,i,q=>rfl
 |c+1,j,i,q=>by
  have:=qL c (j+1) i q
  exact this
theorem iT (mask i:Nat):SetTable.runEnd mask i-i≤9:=by unfold SetTable.runEnd;split<;>omega
theorem nL :∀(r i q:Nat),∃m,m≤10*r∧adv t m (rs t i q)=rs t (lp t.mask r i q).1 (lp t.mask r i q).2
 |0,i,q=>⟨0,eG _,rfl⟩
 |r+1,i,q=>by
  obtain⟨m,hm,h⟩:=nL r (SetTable.leap t.mask i q).1 (SetTable.leap t.mask i q).2
  refine⟨(SetTable.runEnd t.mask i-i+1)+m,by have:=iT t.mask i;omega,?_⟩
  rw[tG,show rs t i q=⟨i,SetTable.runEnd t.mask i-i,i,q,none⟩ from rfl,qL]
  exact h
def Jn (t:SetTable)(p:SetTable.Probe):Prop:=p.j+p.more≤t.mask
theorem mQ {mask i:Nat}(h:i≤mask):i+(SetTable.runEnd mask i-i)≤mask:=by unfold SetTable.runEnd;split<;>omega
theorem Jn.rs {i q:Nat}(h:i≤t.mask):Jn t (rs t i q):=mQ h
theorem Jn.adv {p:SetTable.Probe}(h:Jn t p):Jn t (t.advance p):=by
 unfold SetTable.advance
 split
 ·show p.j+1+(p.more-1)≤t.mask
  unfold Jn at h
  omega
 ·refine mQ ?_
  show (p.i*5+1+p.perturb / 32) % (t.mask+1)≤t.mask
  have:=bJ (p.i*5+1+p.perturb / 32) (show 0<t.mask+1 by omega)
  omega
theorem oM {j:Nat}(hd:t.dummies=#[]):t.slot j=.empty∨∃i,t.slot j=.live i:=by
 unfold SetTable.slot
 dsimp only
 split
 ·exact .inr ⟨_,rfl⟩
 ·rw[hd];exact .inl rfl
theorem qZ {j:Nat}(hd:t.dummies=#[])(h:j∉t.place.toList):t.slot j=.empty:=by
 unfold SetTable.slot
 dsimp only
 rw[hd]
 split
 ·rename_i z
  exact absurd (by simpa using Array.mem_of_getElem? (eq_of_beq z)) h
 ·rfl
theorem oj {j i:Nat}(h:t.slot j=.live i):t.place[i]?=some j:=by
 unfold SetTable.slot at h
 dsimp only at h
 split at h
 ·rename_i z
  cases h
  exact eq_of_beq z
 ·split at h<;>cases h
theorem vw {ha:Nat→Int}{hh:Int}(hd:t.dummies=#[]):∀(m f:Nat) (p:SetTable.Probe),m<f→t.slot (adv t m p).j=.empty→p.dummy=none→Jn t p→
  (∃j,SetTable.probe.go t ha hh f p=some (.empty j none)∧t.slot j=.empty∧j≤t.mask)∨(∃k i,k<m∧SetTable.probe.go t ha hh f p=some (.candidate (adv t k p).j i (adv t (k+1) p))∧t.slot (adv t k p).j=.live i∧ha i=hh)
 |m,0,p,hm,_,_,_=>absurd hm (za0 _)
 |m,f+1,p,hm,he,hn,hj=>by
  unfold SetTable.probe.go
  rcases oM (t:=t) (j:=p.j) hd with z|⟨i,z⟩
  ·refine .inl ⟨p.j,?_,z,by unfold Jn at hj;omega⟩
   rw[z,hn]
  ·rw[z]
   dsimp only
   cases m with
   |zero=>rw[show (adv t 0 p).j=p.j from rfl,z] at he;cases he
   |succ m=>
    split
    ·rename_i e
     exact .inr ⟨0,i,Nat.succ_pos _,rfl,z,eq_of_beq e⟩
    ·rcases vw hd m f (t.advance p) (by omega) he ((vU p).trans hn) hj.adv with y|⟨k,i',hk,e,y⟩
     ·exact .inl y
     ·exact .inr ⟨k+1,i',by omega,e,y⟩
theorem vE :∀m (p:SetTable.Probe),(adv t m p).dummy=p.dummy
 |0,p=>rfl
 |m+1,p=>(vE m (t.advance p)).trans (vU p)
theorem Jn.advs :∀m {p:SetTable.Probe},Jn t p→Jn t (SetW.adv t m p)
 |0,p,h=>h
 |m+1,p,h=>Jn.advs m h.adv
theorem sub_len :∀(F l:List Nat),F.Nodup→(∀x∈F,x∈l)→F.length≤l.length
 |[],l,_,_=>dM _
 |x::F,l,hn,hs=>by
  have hx:x∈l:=hs x eH
  rw[bD] at hn
  have:=sub_len F (l.erase x) hn.2 fun y hy=>(za1 (fun (e:y=x)=>hn.1 (e▸hy))).mpr (hs y (eK _ hy))
  rw[List.length_erase_of_mem hx] at this
  have hl:0<l.length:=List.length_pos_of_mem hx
  rw[df]
  omega
theorem lx {l:List Nat}{mask:Nat}(h:l.length≤mask):∃e,e≤mask∧e∉l:=by
 refine cy fun z=>?_
 have:∀x∈List.range (mask+1),x∈l:=fun x hx=>cy fun y=>z ⟨x,by have:=cO.mp hx;omega,y⟩
 have:=sub_len _ l List.nodup_range this
 rw[List.length_range] at this
 omega
theorem lu (h:Int):t.probeStart h=rs t (SetTable.bits h % (t.mask+1)) (SetTable.bits h):=rfl
theorem qW (h:Int):SetTable.bits h<2 ^ 64:=by
 unfold SetTable.bits
 have h1:=az h (show (2 ^ 64:Int)≠0 by decide)
 have h2:=bY h (show (0:Int)<2 ^ 64 by decide)
 have:((2:Int) ^ 64)=((2 ^ 64:Nat):Int):=by decide
 omega
theorem tU {k:Nat}(hk:t.mask+1=2 ^ k)(hd:t.dummies=#[])(hn:t.place.size≤t.mask)(h:Int):∃m,m<10*SetTable.turns t.mask∧t.slot (adv t m (t.probeStart h)).j=.empty:=by
 obtain⟨e,he,hf⟩:=lx (l:=t.place.toList) (mask:=t.mask) (by simpa using hn)
 obtain⟨r,hr,er⟩:=mY (i:=SetTable.bits h % (t.mask+1)) hk (by have:=bJ (SetTable.bits h) (show 0<t.mask+1 by omega);omega) (qW h) he
 obtain⟨m,hm,em⟩:=nL (t:=t) r (SetTable.bits h % (t.mask+1)) (SetTable.bits h)
 refine⟨m,by unfold SetTable.turns;omega,?_⟩
 rw[lu,em,er]
 exact qZ hd hf
end
theorem sq {mask:Nat}{owner:Array (Option Nat)}:∀(r f i q:Nat),r<f→i≤mask→owner.getD (lp mask r i q).1 (some 0)=none→∃j,SetTable.layClean.free mask owner f i q=some j∧owner.getD j (some 0)=none
 |r,0,i,q,h,_,_=>absurd h (za0 _)
 |r,f+1,i,q,h,hi,e=>by
  unfold SetTable.layClean.free
  cases hf:(List.range (SetTable.runEnd mask i+1-i)).find? fun k=>(owner.getD (i+k) (some 0)).isNone with
  |some k=>
   refine⟨i+k,rfl,?_⟩
   have:=List.find?_some hf
   simpa using this
  |none=>
   dsimp only
   cases r with
   |zero=>
    have:=List.find?_eq_none.mp hf 0 (cO.mpr (by unfold SetTable.runEnd;split<;>omega))
    rw[Nat.add_zero,show owner.getD i (some 0)=none from e] at this
    exact absurd rfl this
   |succ r=>
    refine sq r f _ _ (by omega) ?_ e
    show (i*5+1+q / 32) % (mask+1)≤mask
    have:=bJ (i*5+1+q / 32) (show 0<mask+1 by omega)
    omega
structure Laid (mask m:Nat)(owner:Array (Option Nat)):Prop where
 sz:owner.size=mask+1
 cn:owner.toList.countP Option.isSome=m
 lt:∀x,some x∈owner.toList→x<m
theorem Laid.step {mask k m:Nat}{owner:Array (Option Nat)}(L:Laid mask m owner)(hk:mask+1=2 ^ k)(hm:m≤mask)(h:Int):∃j,SetTable.layClean.free mask owner (SetTable.turns mask) (SetTable.bits h % (mask+1)) (SetTable.bits h)=some j∧Laid mask (m+1) (owner.setIfInBounds j (some m)):=by
 have hl:owner.toList.length=mask+1:=by rw[eY,L.sz]
 have hex:∃e,e≤mask∧owner.getD e (some 0)=none:=by
  refine cy fun z=>?_
  have:owner.toList.countP Option.isSome=owner.toList.length:=List.countP_eq_length.mpr fun a ha=>by
   obtain⟨i,hi,rfl⟩:=cI ha
   cases q:owner.toList[i] with
   |some _=>rfl
   |none=>
    refine absurd ⟨i,by omega,?_⟩ z
    have hi':i<owner.size:=by rw[L.sz];omega
    simp only[Array.getElem_toList] at q
    simp[Array.getD,hi',q]
  rw[L.cn,hl] at this
  omega
 obtain⟨e,he,hf⟩:=hex
 obtain⟨r,hr,er⟩:=mY (i:=SetTable.bits h % (mask+1)) hk (by have:=bJ (SetTable.bits h) (show 0<mask+1 by omega);omega) (qW h) he
 obtain⟨j,hj,hn⟩:=sq (owner:=owner) r (SetTable.turns mask) (SetTable.bits h % (mask+1)) (SetTable.bits h) (by unfold SetTable.turns;omega) (Nat.le_of_lt_succ (bJ (SetTable.bits h) (Nat.succ_pos mask))) (by rw[er];exact hf)
 refine⟨j,hj,?_⟩
 have hjs:j<owner.size:=by
  refine cy fun z=>?_
  simp[Array.getD,z] at hn
 have hjn:owner.toList[j]'(by simpa using hjs)=none:=by
  simp[Array.getD,hjs] at hn
  simpa using hn
 refine⟨by rw[Array.size_setIfInBounds,L.sz],?_,fun x hx=>?_⟩
 ·rw[bI,List.countP_set (by simpa using hjs),hjn,L.cn]
  simp
 ·rw[bI] at hx
  rcases List.mem_or_eq_of_mem_set hx with z|z
  ·have:=L.lt x z;omega
  ·cases z;omega
theorem tY {mask k:Nat}(hk:mask+1=2 ^ k):∀(hs:List Int) (m:Nat) (owner:Array (Option Nat)),Laid mask m owner→m+hs.length≤mask+1→∃ow,hs.foldl (fun (acc:Option (Array (Option Nat)×Nat)) h=>do
  let (owner,k) ←acc
  let j ←SetTable.layClean.free mask owner (SetTable.turns mask) (SetTable.bits h % (mask+1)) (SetTable.bits h)
  pure (owner.setIfInBounds j (some k),k+1)) (some (owner,m))=some (ow,m+hs.length)∧Laid mask (m+hs.length) ow
 |[],m,owner,L,_=>⟨owner,rfl,L⟩
 |h::hs,m,owner,L,hl=>by
  rw[df] at hl
  obtain⟨j,hj,L'⟩:=L.step hk (by omega) h
  obtain⟨ow,e,L2⟩:=tY hk hs (m+1) _ L' (by omega)
  refine⟨ow,?_,by rw[df,show m+(hs.length+1)=m+1+hs.length by omega];exact L2⟩
  rw[List.foldl_cons,df,show m+(hs.length+1)=m+1+hs.length by omega,←e]
  congr 1
  show (SetTable.layClean.free mask owner (SetTable.turns mask) (SetTable.bits h % (mask+1)) (SetTable.bits h)).bind _=_
  rw[hj]
  rfl
theorem mj {mask k:Nat}(hk:mask+1=2 ^ k)(hs:Array Int)(hl:hs.size≤mask+1):∃ow,SetTable.layClean mask hs=some ow∧Laid mask hs.size ow:=by
 obtain⟨ow,e,L⟩:=tY hk hs.toList 0 (Array.replicate (mask+1) none) ⟨by simp,by simp[List.countP_replicate],fun x hx=>by simp at hx⟩ (by simpa using hl)
 rw[aC,eY] at e L
 refine⟨ow,?_,L⟩
 unfold SetTable.layClean
 rw[←Array.foldl_toList,e]
 rfl
theorem kx {mask k fg mv:Nat}{ld pl:Bool}(hk:mask+1=2 ^ k)(hs:Array Int)(hl:hs.size≤mask+1):∃t ord,SetTable.laid mask fg mv ld pl hs=some (t,ord)∧t.mask=mask∧t.dummies=#[]∧t.led=ld∧Up t.place∧t.place.size=hs.size∧(∀j∈t.place.toList,j≤mask)∧ord.size=hs.size∧∀x∈ord.toList,x<hs.size:=by
 obtain⟨ow,e,L⟩:=mj hk hs hl
 have len:((List.range (mask+1)).filterMap fun j=>(ow.getD j none).map fun y=>(j,y)).length=hs.size:=by
  rw[List.length_filterMap_eq_countP,←L.cn]
  have:ow.toList=(List.range (mask+1)).map fun j=>ow.getD j none:=by
   apply List.ext_getElem
   ·simp[L.sz]
   ·intro i h1 h2
    have:i<ow.size:=by simpa using h1
    simp[Array.getD,this]
  rw[this,List.countP_map]
  congr 1
  funext j
  simp
 refine⟨_,_,by unfold SetTable.laid;rw[e];rfl,rfl,rfl,rfl,?_,?_,?_,?_,?_⟩
 ·show (List.toArray _).toList.Pairwise (·<·)
  rw[aq,aE]
  refine List.Pairwise.sublist ?_ (aS (n:=mask+1))
  have:∀l:List Nat,(l.filterMap fun j=>Option.map (fun x:Nat×Nat=>x.1) ((ow.getD j none).map fun y=>(j,y))).Sublist l:=by
   intro l
   induction l with
   |nil=>exact .slnil
   |cons a l ih=>
    rw[bQ]
    cases ow.getD a none with
    |none=>exact ih.cons _
    |some y=>exact ih.cons_cons _
  exact this _
 ·rw[eP,eD];exact len
 ·intro j hj
  rw[aq,aE] at hj
  obtain⟨a,ha,e2⟩:=bV.mp hj
  have:=cO.mp ha
  cases q:ow.getD a none with
  |none=>rw[q] at e2;cases e2
  |some y=>rw[q] at e2;cases e2;show a≤mask;omega
 ·rw[eP,eD];exact len
 ·intro x hx
  rw[aq,aE] at hx
  obtain⟨a,ha,e2⟩:=bV.mp hx
  have ha':a<ow.size:=by rw[L.sz];exact cO.mp ha
  cases q:ow.getD a none with
  |none=>rw[q] at e2;cases e2
  |some y=>
   rw[q] at e2;cases e2
   refine L.lt _ ?_
   rw[←q]
   simp[Array.getD,ha']
section
variable {prog:Program}{w:World}{A:Around}{E:Value→Shared→Prop}{s:Shared}
abbrev TK (prog:Program)(w:World)(h:Heap)(k:List Int)(a:Addr):Prop:=IsTupleKey (intKind prog w) h k a
structure TkO (prog:Program)(w:World)(h:Heap)(o:Obj)(ks:List (List Int))(n:Nat)(es:Array (Int×Value))(ep:Nat)(t:SetTable):Prop where
 ex:o.ExactSet
 dt:o.data=.set es ep t
 el:∀e∈es.toList,∃k a,k∈ks∧e.2=.ref a∧TK prog w h k a
 sz:es.size=n
 pw:∃k,t.mask+1=2 ^ k
 m7:7≤t.mask
 mb:t.mask≤8000
 dm:t.dummies=#[]
 up:Up t.place
 ps:t.place.size=n
 pm:∀j∈t.place.toList,j≤t.mask
def Tk (prog:Program)(w:World)(h:Heap)(a:Addr)(ks:List (List Int))(n:Nat):Prop:=∃o es ep t,h.get? a=some o∧TkO prog w h o ks n es ep t∧n*5<t.mask*3
theorem TkO.fit {h:Heap}{o:Obj}{ks:List (List Int)}{n:Nat}{es:Array (Int×Value)}{ep:Nat}{t:SetTable}(x:TkO prog w h o ks n es ep t)(hn:n≤t.mask):t.fits es.size=true:=by
 simp[SetTable.fits,SetTable.fill,x.dm,x.ps,x.sz,hn]
theorem TK.ne {h:Heap}{o:Obj}{k:List Int}{a b:Addr}(x:TK prog w h k b)(ho:h.get? a=some o)(hc:o.cls=.type "set"):b≠a:=by
 rintro rfl
 obtain⟨o',_,_,ho',hc',_⟩:=x
 rw[ho] at ho'
 cases ho'
 rw[hc] at hc'
 exact absurd hc' (by decide)
theorem TK.keep {h h':Heap}{k:List Int}{b:Addr}(x:TK prog w h k b)(e:∀o,h.get? b=some o→h'.get? b=some o):TK prog w h' k b:=by
 obtain⟨o,its,n,ho,r⟩:=x
 exact⟨o,its,n,e o ho,r⟩
theorem uz :∀{k:List Int} {vs:List Value},ItemsAre (intKind prog w) k vs→∀v∈vs,∃i t,v=.int i t:=by
 intro k vs h
 induction h with
 |nil=>intro v hv;simp at hv
 |@cons k v ks vs h1 _ ih=>
  intro u hu
  rcases eJ.mp hu with rfl|hu
  ·have h2:Value.isInt k u=true:=h1
   cases u<;>first|exact⟨_,_,rfl⟩|(simp[Value.isInt] at h2)
  ·exact ih u hu
theorem tZ {a:Addr}{o:Obj}{its:Array Value}{n:Nat}{M:Model}{Q:Option (Array Value)→Shared→Prop}(ho:s.heap.get? a=some o)(hd:o.data=.seq its n)(h:Q (some its) s):wpAny M A (seqItems? (.ref a)) Q E s:=by
 unfold seqItems?
 refine eA (wpAny_load ho ?_)
 rw[hd]
 exact eB h
theorem mU {k:List Int}{a:Addr}{Q:Bool→Shared→Prop}(x:TK prog w s.heap k a)(h:Q false s):wpAny (model prog w) A (ofAClassStatement 8 (.ref a)) Q E s:=by
 have hT:=x.typeIs
 obtain⟨o,its,n,ho,hc,hd,hi⟩:=x
 unfold ofAClassStatement
 refine eA (wpAny_typeOf hT ?_)
 dsimp only
 rw[if_pos (by decide)]
 refine eA (eB ?_)
 rw[if_neg (by decide)]
 refine eA (tZ ho hd ?_)
 dsimp only
 refine eA ?_
 show wpAny _ _ (forIn its _ _) _ _ s
 rw[←Array.forIn_toList]
 refine aU _ (fun rest r s'=>r.1=none∧s'=s∧∀v∈rest,∃i t,v=Value.int i t) _ ?_ ?_ _ _ ⟨rfl,rfl,uz hi⟩
 ·rintro v rest r s' ⟨hr,rfl,hall⟩
  obtain⟨i,t,rfl⟩:=hall v eH
  refine eA (eB ?_)
  rw[if_neg (by decide)]
  exact eB ⟨rfl,rfl,fun u hu=>hall u (eK _ hu)⟩
 ·rintro⟨r1,r2⟩ s' ⟨hr,rfl,_⟩
  simp only at hr
  subst hr
  exact eB h
theorem kN {k:List Int}{b:Addr}(x:TK prog w s.heap k b):∀{ys:List Value} {Q:Bool→Shared→Prop},(∀y∈ys,∃k a,y=.ref a∧TK prog w s.heap k a)→Q false s→wpAny (model prog w) A (searchCouldBeSeen (.ref b) ys) Q E s:=by
 intro ys Q hy h
 unfold searchCouldBeSeen
 refine eA ?_
 refine aU _ (fun rest r s'=>r.1=none∧s'=s∧∀y∈rest,∃k a,y=Value.ref a∧TK prog w s.heap k a) _ ?_ ?_ _ _ ⟨rfl,rfl,hy⟩
 ·rintro v rest r s' ⟨hr,rfl,hall⟩
  obtain⟨k',a,rfl,x'⟩:=hall v eH
  have hall':∀y∈rest,∃k a,y=Value.ref a∧TK prog w s'.heap k a:=fun u hu=>hall u (eK _ hu)
  dsimp only
  split
  ·exact eB ⟨rfl,rfl,hall'⟩
  ·refine eA (wpAny_eqIsQuiet_tuple x ?_)
   rw[if_neg (by decide)]
   refine eA (wpAny_eqIsQuiet_tuple x' ?_)
   rw[if_neg (by decide)]
   refine eA (mU x ?_)
   rw[if_neg (by decide)]
   refine eA (mU x' ?_)
   rw[if_neg (by decide)]
   exact eB ⟨rfl,rfl,hall'⟩
 ·rintro⟨r1,r2⟩ s' ⟨hr,rfl,_⟩
  simp only at hr
  subst hr
  exact eB h
theorem jH {k:List Int}{a:Addr}{Q:Bool→Shared→Prop}(x:TK prog w s.heap k a)(h:∀r,Q r s):wpAny (model prog w) A (hashByValue 8 (.ref a)) Q E s:=by
 have hT:=x.typeIs
 obtain⟨o,its,n,ho,hc,hd,hi⟩:=x
 unfold hashByValue
 refine eA (wpAny_specialOf hT F.slot_tuple_hash.lookup ?_)
 dsimp only
 refine eA (tZ ho hd ?_)
 refine eA ?_
 show wpAny _ _ (forIn its _ _) _ _ s
 rw[←Array.forIn_toList]
 refine aU _ (fun rest r s'=>r.1=none∧s'=s∧∀v∈rest,∃i t,v=Value.int i t) _ ?_ ?_ _ _ ⟨rfl,rfl,uz hi⟩
 ·rintro v rest r s' ⟨hr,rfl,hall⟩
  obtain⟨i,t,rfl⟩:=hall v eH
  refine eA (eB ?_)
  rw[if_neg (by decide)]
  exact eB ⟨rfl,rfl,fun u hu=>hall u (eK _ hu)⟩
 ·rintro⟨r1,r2⟩ s' ⟨hr,rfl,_⟩
  simp only at hr
  subst hr
  exact eB (h _)
end
theorem oR {t:SetTable}{ha:Nat→Int}{hh:Int}{m:Nat}{p:SetTable.Probe}(hd:t.dummies=#[])(hm:m<10*SetTable.turns t.mask)(he:t.slot (adv t m p).j=.empty)(hn:p.dummy=none)(hj:Jn t p)(z:∀met,t.probe ha hh p=some met→False):False:=by
 unfold SetTable.probe at z
 rcases vw (ha:=ha) (hh:=hh) hd m _ p hm he hn hj with ⟨j,e,_⟩|⟨k,i,_,e,_⟩<;>exact z _ e
theorem oG {t:SetTable}{ha:Nat→Int}{hh:Int}{m:Nat}{p:SetTable.Probe}{met:SetTable.Met}(hd:t.dummies=#[])(hm:m<10*SetTable.turns t.mask)(he:t.slot (adv t m p).j=.empty)(hn:p.dummy=none)(hj:Jn t p)(z:t.probe ha hh p=some met):
  (∃j,met=.empty j none∧t.slot j=.empty∧j≤t.mask)∨(∃k i,k<m∧met=.candidate (adv t k p).j i (adv t (k+1) p)∧t.slot (adv t k p).j=.live i):=by
 unfold SetTable.probe at z
 rcases vw (ha:=ha) (hh:=hh) hd m _ p hm he hn hj with ⟨j,e,r⟩|⟨k,i,hk,e,r,_⟩<;>rw[z] at e<;>cases e
 ·exact .inl ⟨j,rfl,r⟩
 ·exact .inr ⟨k,i,hk,rfl,r⟩
section
variable {prog:Program}{w:World}{A:Around}{E:Value→Shared→Prop}{s:Shared}{a b:Addr}{o:Obj}{k:List Int}{ks:List (List Int)}{n:Nat}{es:Array (Int×Value)}{ep:Nat}{t:SetTable}{hh:Int}
theorem lJ (x:TkO prog w s.heap o ks n es ep t):t.gaveWay=false:=by
 obtain⟨q,hq⟩:=x.pw
 have h7:=x.m7
 cases q with
 |zero=>simp at hq;omega
 |succ q=>
  unfold SetTable.gaveWay
  rw[aG] at hq
  simp
  omega
theorem gu (ho:s.heap.get? a=some o)(x:TkO prog w s.heap o ks n es ep t)(hle:n≤t.mask)(xb:TK prog w s.heap k b)(hk:k∉ks)(hu:A.units<cLine){Q:SetFound→Shared→Prop}(h:∀j,t.slot j=.empty→j≤t.mask→Q (.free j false) s):
  ∀(f m:Nat) (st:Option SetTable.Probe),m<f→m<10*SetTable.turns t.mask→t.slot (adv t m (st.getD (t.probeStart hh))).j=.empty→(st.getD (t.probeStart hh)).dummy=none→Jn t (st.getD (t.probeStart hh))→wpAny (model prog w) A (setSearchFrom a (.ref b) hh true f st) Q E s
 |0,m,st,hm,_,_,_,_=>absurd hm (za0 _)
 |f+1,m,st,hm,hm2,he,hn,hj=>by
  have hf:=x.fit hle
  unfold setSearchFrom
  refine eA (dJ ho x.dt hf ?_)
  dsimp only
  rw[lJ x,if_neg (by decide)]
  refine eA (eB ?_)
  split
  ·rename_i met hp
   rcases oG x.dm hm2 he hn hj hp with ⟨j,rfl,e,hl⟩|⟨q,i,hq,rfl,e⟩
   ·exact eB (h j e hl)
   ·dsimp only
    have hi:=oj e
    have hi':i<es.size:=by
     have:=(Array.getElem?_eq_some_iff.mp hi).1
     rw[x.sz,←x.ps]
     exact this
    obtain⟨k',c,hk',ec,xc⟩:=x.el es[i] (by simp)
    have hget:es[i]?=some (es[i].1,.ref c):=by rw[dR hi',←ec]
    have go:wpAny (model prog w) A (setSearchFrom a (.ref b) hh true f (some (adv t (q+1) (st.getD (t.probeStart hh))))) Q E s:=by
     refine gu ho x hle xb hk hu h f (m-(q+1)) _ (by omega) (by omega) ?_ ?_ ?_
     ·show t.slot (adv t (m-(q+1)) (adv t (q+1) (st.getD (t.probeStart hh)))).j=.empty
      rw[←tG,show q+1+(m-(q+1))=m by omega]
      exact he
     ·exact (vE _ _).trans hn
     ·exact hj.advs _
    have ne:decide (k'=k)=false:=eZ fun z=>hk (z▸hk')
    have sm:t.sameMemory t.moves t.mask=some true:=by unfold SetTable.sameMemory;rw[if_pos (by simp)]
    rw[hget]
    cases t.led
    ·rw[if_pos (by decide)]
     refine eA (kN xb (fun y hy=>?_) ?_)
     ·obtain⟨e,he,rfl⟩:=bB.mp hy
      rw[Array.toList_filter] at he
      obtain⟨k2,a2,_,e2,x2⟩:=x.el e (bC.mp he).1
      exact⟨k2,a2,e2,x2⟩
     ·rw[if_neg (by decide)]
      dsimp only
      refine eA (dF (wpAny_eqBool_tuple hu xc xb ?_))
      rw[ne]
      refine eA (dJ ho x.dt hf ?_)
      dsimp only
      rw[if_neg (by decide),sm]
      dsimp only
      rw[if_pos rfl,e]
      dsimp only
      rw[hget]
      dsimp only
      refine eA (wpAny_isSame_ref_self (eA (eB ?_)))
      exact go
    ·rw[if_neg (by decide)]
     dsimp only
     refine eA (dF (wpAny_eqBool_tuple hu xc xb ?_))
     rw[ne]
     refine eA (dJ ho x.dt hf ?_)
     dsimp only
     rw[if_neg (by decide),sm]
     dsimp only
     rw[if_pos rfl,e]
     dsimp only
     rw[hget]
     dsimp only
     refine eA (wpAny_isSame_ref_self (eA (eB ?_)))
     exact go
  ·rename_i hp
   exact (oR x.dm hm2 he hn hj hp).elim
theorem sM (n:Nat):∀f size k,size=2 ^ k→3≤k→∃k',SetTable.sizeAbove.go n f size=2 ^ k'∧3≤k'∧(n<size*2 ^ f→n<SetTable.sizeAbove.go n f size)∧(SetTable.sizeAbove.go n f size≤size∨SetTable.sizeAbove.go n f size≤2*n)
 |0,size,k,e,hk=>⟨k,e,hk,by intro h;show n<size;simpa using h,.inl (eG _)⟩
 |f+1,size,k,e,hk=>by
  unfold SetTable.sizeAbove.go
  split
  ·obtain⟨k',h1,h2,h3,h4⟩:=sM n f (size*2) (k+1) (by rw[e,aG]) (by omega)
   exact⟨k',h1,h2,fun h=>h3 (by rw[aG] at h;rw[Nat.mul_assoc,Nat.mul_comm 2];exact h),.inr (by omega)⟩
  ·exact⟨k,e,hk,fun _=>by omega,.inl (eG _)⟩
theorem nq {n:Nat}(h:n≤4000):∃k,SetTable.sizeAbove n=2 ^ k∧3≤k∧n<SetTable.sizeAbove n∧SetTable.sizeAbove n≤8000:=by
 obtain⟨k,h1,h2,h3,h4⟩:=sM n 64 8 3 rfl (eG _)
 refine⟨k,h1,h2,h3 (za4 h (by decide)),?_⟩
 show SetTable.sizeAbove.go n 64 8≤_
 omega
theorem ef {k:Nat}(h:3≤k):8≤2 ^ k:=Nat.pow_le_pow_right (n:=2) (by decide) h
theorem TkO.put {h:Heap}{ks':List (List Int)}{n':Nat}{es':Array (Int×Value)}{t':SetTable}(ho:h.get? a=some o)(x:TkO prog w h o ks n es ep t)
  (el:∀e∈es'.toList,∃k a,k∈ks'∧e.2=.ref a∧TK prog w h k a) (sz:es'.size=n') (pw:∃k,t'.mask+1=2 ^ k) (m7:7≤t'.mask) (mb:t'.mask≤8000) (dm:t'.dummies=#[]) (up:Up t'.place) (ps:t'.place.size=n') (pm:∀j∈t'.place.toList,j≤t'.mask):
  ∃o',(h.update a (Obj.putSet es' t')).get? a=some o'∧TkO prog w (h.update a (Obj.putSet es' t')) o' ks' n' es' (ep+1) t':=by
 refine⟨{o with data:=.set es' (ep+1) t'},?_,x.ex,rfl,fun e he=>?_,sz,pw,m7,mb,dm,up,ps,pm⟩
 ·have:=cz (Obj.putSet es' t') ho (by rw[putSet_of es' t' x.dt];rfl)
  rwa [putSet_of es' t' x.dt] at this
 ·obtain⟨k,c,hk,ec,xc⟩:=el e he
  refine⟨k,c,hk,ec,xc.keep fun o2 e2=>?_⟩
  rw[(cv h a (Obj.putSet es' t')).2 c (xc.ne ho x.ex.1)]
  exact e2
theorem mB {Q:Unit→Shared→Prop}{u:Nat}(ho:s.heap.get? a=some o)(x:TkO prog w s.heap o ks n es ep t)(hle:n≤t.mask)(hn:n≤1000)(hu:u=SetTable.grown n)
  (h:∀h',Heap.SameBut a s.heap h'→Tk prog w h' a ks n→Q () {s with heap:=h'}):wpAny (model prog w) A (setRelay a u) Q E s:=by
 have hg:SetTable.grown n=n*4:=by unfold SetTable.grown;rw[if_neg (by omega)]
 obtain⟨q,e1,e2,e3,e4⟩:=nq (n:=u) (by rw[hu,hg];omega)
 have h8:=ef e2
 unfold setRelay
 refine eA (dJ ho x.dt (x.fit hle) ?_)
 dsimp only
 rw[if_neg (by rw[ck];omega)]
 obtain⟨t',ord,l1,l2,l3,l4,l5,l6,l7,l8,l9⟩:=kx (mask:=SetTable.sizeAbove u-1) (k:=q) (fg:=t.finger) (mv:=t.movedTo (SetTable.sizeAbove u-1)) (ld:=t.led) (pl:=t.plain) (by omega) (es.map (·.1)) (by rw[Array.size_map,x.sz];omega)
 have rl:t.relaid (es.map (·.1)) u=some (t',ord):=l1
 rw[rl]
 rw[Array.size_map,x.sz] at l6 l8 l9
 have hes:(ord.filterMap (es[·]?)).size=n:=by
  rw[←eY,Array.toList_filterMap,List.length_filterMap_eq_countP,List.countP_eq_length.mpr,eY,l8]
  intro y hy
  have:=l9 y hy
  rw[dR (by rw[x.sz];exact this)]
  rfl
 refine eA ?_
 show wpAny (model prog w) A (if ((ord.filterMap (es[·]?)).size != es.size)=true then _ else _) _ _ _
 rw[hes,x.sz,if_neg (by simp)]
 refine eA (eB (eB ?_))
 dsimp only
 refine aP ho x.dt ?_ (by rw[hes,ck];omega)
 have el:∀e∈(ord.filterMap (es[·]?)).toList,∃k a,k∈ks∧e.2=.ref a∧TK prog w s.heap k a:=fun e he=>by
  rw[Array.toList_filterMap] at he
  obtain⟨y,_,e⟩:=bV.mp he
  exact x.el _ (by simpa using Array.mem_of_getElem? e)
 obtain⟨o',ho',x'⟩:=x.put (ks':=ks) (n':=n) (t':=t') ho el hes ⟨q,by rw[l2];omega⟩ (by rw[l2];omega) (by rw[l2];omega) l3 l5 l6 (by rw[l2];exact l7)
 exact h _ (cv _ _ _) ⟨o',_,_,t',ho',x',by rw[l2];omega⟩
theorem kj {Q:Bool→Shared→Prop}(x:Tk prog w s.heap a ks n)(xb:TK prog w s.heap k b)(hk:k∉ks)(hu:A.units<cLine)(hN:n<1000)
  (h:∀h' r,Heap.SameBut a s.heap h'→Tk prog w h' a (k::ks) (n+1)→Q r {s with heap:=h'}):wpAny (model prog w) A (setAddHashed a (.ref b) hh) Q E s:=by
 obtain⟨o,es,ep,t,ho,x,hf⟩:=x
 have h7:=x.m7
 have hle:n≤t.mask:=by omega
 obtain⟨q,hq⟩:=x.pw
 obtain⟨m,hm,he⟩:=tU hq x.dm (by rw[x.ps];exact hle) hh
 unfold setAddHashed setAddHashedIn
 refine dF (eA (dJ ho x.dt (x.fit hle) ?_))
 dsimp only
 rw[if_neg (by simp[byScan,Value.scannable])]
 unfold setSearch
 refine eA (gu (hh:=hh) ho x hle xb hk hu (fun j hj hjm=>?_) 100000 m none ?_ hm he rfl (Jn.rs ?_))
 ·dsimp only
  have hjn:j∉t.place.toList:=fun z=>by
   obtain⟨i,hi,e⟩:=cI z
   have hi':i<t.place.size:=by simpa using hi
   have e':t.place[i]=j:=by simpa using e
   have:=vR x.up hi'
   rw[e'] at this
   unfold SetTable.slot at hj
   simp[this,hi',e'] at hj
  have stp:∀t1:SetTable,t1.mask=t.mask→t1.dummies=#[]→t1.place=SetTable.insertAt t.place (SetTable.below t.place j) j→wpAny (model prog w) A (storeSet a (SetTable.insertAt es (SetTable.below t.place j) (hh,Value.ref b)) t1 >>= fun _=>if (!false&&t1.tooFull)=true then setRelay a (SetTable.grown (es.size+1)) >>= fun _=>pure true else pure true) Q E s:=by
   intro t1 g1 g2 g3
   have zl:(SetTable.insertAt es (SetTable.below t.place j) (hh,Value.ref b)).toList=es.toList.take (SetTable.below t.place j)++(hh,Value.ref b)::es.toList.drop (SetTable.below t.place j):=aD ..
   have zp:t1.place.toList=t.place.toList.take (SetTable.below t.place j)++j::t.place.toList.drop (SetTable.below t.place j):=by rw[g3];exact aD ..
   have bl:=(yS x.up j).1
   have sz1:(SetTable.insertAt es (SetTable.below t.place j) (hh,Value.ref b)).size=n+1:=by
    rw[←eY,zl,eW,df,dN,cC,eY,x.sz]
    rw[x.ps] at bl
    omega
   have ps1:t1.place.size=n+1:=by
    rw[←eY,zp,eW,df,dN,cC,eY,x.ps]
    rw[x.ps] at bl
    omega
   refine eA (aP ho x.dt ?_ (by rw[sz1,ck];omega))
   have el:∀e∈(SetTable.insertAt es (SetTable.below t.place j) (hh,Value.ref b)).toList,∃k' a,k'∈k::ks∧e.2=.ref a∧TK prog w s.heap k' a:=fun e he=>by
    rw[zl] at he
    rcases dg.mp he with z|z
    ·obtain⟨k',c,h1,h2⟩:=x.el e (cj z)
     exact⟨k',c,eK _ h1,h2⟩
    ·rcases eJ.mp z with rfl|z
     ·exact⟨k,b,eH,rfl,xb⟩
     ·obtain⟨k',c,h1,h2⟩:=x.el e (cc z)
      exact⟨k',c,eK _ h1,h2⟩
   obtain⟨o',ho',x'⟩:=x.put (ks':=k::ks) (n':=n+1) (t':=t1) ho el sz1 ⟨q,by rw[g1];exact hq⟩ (by rw[g1];exact h7) (by rw[g1];exact x.mb) g2 (by rw[g3];exact vW x.up hjn) ps1 (fun y hy=>by
    rw[zp] at hy
    rw[g1]
    rcases dg.mp hy with z|z
    ·exact x.pm y (cj z)
    ·rcases eJ.mp z with rfl|z
     ·exact hjm
     ·exact x.pm y (cc z))
   have same:=cv s.heap a (Obj.putSet (SetTable.insertAt es (SetTable.below t.place j) (hh,Value.ref b)) t1)
   have hle1:n+1≤t1.mask:=by rw[g1];omega
   split
   ·refine eA (mB ho' x' hle1 (by omega) (by rw[x.sz]) fun h' sb y=>eB (h h' true (same.trans sb) y))
   ·rename_i nf
    refine eB (h _ true same ⟨o',_,_,t1,ho',x',?_⟩)
    have:t1.tooFull=false:=by simpa using nf
    unfold SetTable.tooFull SetTable.fill at this
    rw[ps1,g2] at this
    simp at this
    omega
  refine eA (dJ ho x.dt (x.fit hle) ?_)
  dsimp only
  have pd:(t.put j).1.dummies=#[]:=by
   unfold SetTable.put
   dsimp only
   rw[x.dm]
   rfl
  split
  ·refine eA (jH xb fun r=>?_)
   cases r
   ·exact stp _ rfl pd rfl
   ·exact stp _ rfl pd rfl
  ·exact eA (eB (stp _ rfl pd rfl))
 ·have:SetTable.turns t.mask=t.mask+15:=rfl
  have:=x.mb
  omega
 ·have:=bJ (SetTable.bits hh) (show 0<t.mask+1 by omega)
  omega
end
theorem jj {prog:Program}{w:World}{h:Heap}:TkO prog w h (yk w) [] 0 #[] 0 (.fresh 0 0 (zZ w)):=
 ⟨⟨rfl,rfl,rfl⟩,rfl,fun e he=>by simp at he,rfl,⟨3,rfl⟩,eG _,by show 7≤8000;decide,rfl,.nil,rfl,fun j hj=>by simp[SetTable.fresh] at hj⟩
def kS (ks:List (List Int)):Nat→List (List Int)
 |0=>[]
 |i+1=>ks.getD i []::kS ks i
theorem nJ {ks:List (List Int)}(nd:ks.Nodup){j:Nat}(hj:j<ks.length):∀i,i≤j→ks.getD j []∉kS ks i
 |0,_=>by simp[kS]
 |i+1,h=>fun z=>by
  rcases eJ.mp z with z|z
  ·rw[dh,dh,eL hj,eL (by omega)] at z
   have:=(List.getElem_inj nd).mp z
   omega
  ·exact nJ nd hj i (by omega) z
section
variable {prog:Program}{w:World}{A:Around}{R:Result→Shared→Prop}{I:Addr}{fp wr:List Addr}{G:Array GenState→Array GenState→Prop}{n:Nat}{P:Nat→Value→Prop}{St:Nat→Shared→Prop}
theorem Tk.keep {h h':Heap}{a:Addr}{ks:List (List Int)}{n:Nat}(x:Tk prog w h a ks n)(k:∀c o,c=a∨o.cls=.type "tuple"→h.get? c=some o→h'.get? c=some o):Tk prog w h' a ks n:=by
 obtain⟨o,es,ep,t,ho,x,hf⟩:=x
 exact⟨o,es,ep,t,k a o (.inl rfl) ho,⟨x.ex,x.dt,fun e he=>by
  obtain⟨k',c,h1,h2,o2,its,m,h3,h4,h5⟩:=x.el e he
  exact⟨k',c,h1,h2,o2,its,m,k c o2 (.inr h4) h3,h4,h5⟩,x.sz,x.pw,x.m7,x.mb,x.dm,x.up,x.ps,x.pm⟩,hf⟩
theorem mC (W:WalksS prog w A.in1 I fp wr G n P St)(S:Addr)(hSf:S∉fp){h0:Heap}(ks:List (List Int))(hl:ks.length=n)(nd:ks.Nodup)(hn:n≤1000)(hu:A.in1.units<cLine)
  (hval:∀i v,P i v→∃b,v=.ref b∧TK prog w h0 (ks.getD i []) b) (hw:∀c o,h0.get? c=some o→c∉S::wr) (hwt:∀(s:Shared) i c o,St i s→o.cls=.type "tuple"→s.heap.get? c=some o→c∉wr):
  ∀(k i:Nat) (s:Shared),n-i=k→i≤n→St i s→(∀c o,h0.get? c=some o→s.heap.get? c=some o)→Tk prog w s.heap S (kS ks i) i→
   (∀s',Moved (S::wr) G s s'→Tk prog w s'.heap S (kS ks n) n→R (.ok (.ret .none)) s')→
   codeAny (model prog w) A (.builtin "set.update.loop" ⟨[.ref S,.ref I],[]⟩) R s:=by
 have hSw:S∉wr:=fun h=>hSf (W.sub _ h)
 have hsub:∀c∈wr,c∈S::wr:=fun c hc=>eK _ hc
 intro k
 induction k with
 |zero=>
  intro i s hk hi hst h0s x hR
  have e:i=n:=by omega
  subst e
  refine cf bT ?_
  rw[dS cF _]
  refine eA (W.done s _ _ hst fun s' hm=>eB (hR s' (hm.mono hsub) (x.keep fun c o hc ho=>hm.heap c _ ?_ ho)))
  rcases hc with rfl|hc
  ·exact hSw
  ·exact hwt s _ c o hst hc ho
 |succ k ih=>
  intro i s hk hi hst h0s x hR
  have hlt:i<n:=by omega
  refine cf bT ?_
  rw[dS cF _]
  refine eA (W.item i s _ _ hlt hst fun v s' hP hst' hm=>?_)
  obtain⟨b,rfl,xb⟩:=hval i v hP
  have x1:Tk prog w s'.heap S (kS ks i) i:=x.keep fun c o hc ho=>hm.heap c _ (by
   rcases hc with rfl|hc
   ·exact hSw
   ·exact hwt s _ c o hst hc ho) ho
  have h0s':∀c o,h0.get? c=some o→s'.heap.get? c=some o:=fun c o e=>hm.heap c o (fun z=>hw c o e (hsub c z)) (h0s c o e)
  have xb1:TK prog w s'.heap (ks.getD i []) b:=xb.keep fun o e=>h0s' b o e
  show wpAny _ A.in1 (holding [Value.ref b] (setAdd S (.ref b)) >>= _) _ _ s'
  refine eA (dF ?_)
  unfold setAdd
  refine dF (eA (wpAny_pyHash_tuple hu xb1 ?_))
  refine kj (s:={s' with toks:=s'.toks+((ks.getD i []).length+1)}) x1 xb1 (nJ nd (by omega) i (eG _)) hu (by omega) fun h' r hsb x2=>?_
  refine eB ⟨ba cF _,ih (i+1) _ (by omega) hlt (W.frame _ s' _ _ hst' (Nat.le_add_right _ _) fun c hc o e=>?_) (fun c o e=>?_) x2 fun s'' hm'' x4=>?_⟩
  ·rw[hsb.2 c fun z=>hSf (by rw[←z];exact hc)];exact e
  ·show h'.get? c=some o
   rw[hsb.2 c fun z=>hw c o e (by rw[z];exact eH)]
   exact h0s' c o e
  ·refine hR s'' (Moved.trans W.gtrans ((hm.mono hsub).then_heap (Nat.le_add_right _ _) fun c o hc e=>?_) hm'') x4
   rw[hsb.2 c fun z=>hc (by rw[z];exact eH)];exact e
end
section
variable {prog:Program}{w:World}{A:Around}{E:Value→Shared→Prop}{s:Shared}
set_option maxHeartbeats 3200000 in
theorem lD {l:Addr}{its:Array Value}{ks:List (List Int)}{Q:Value→Shared→Prop}(hh:A.handled=none)(hu:A.units+8<cLine)(hl:s.heap.IsList l its)(nd:ks.Nodup)(hlen:ks.length=its.size)(hn:its.size≤1000)(hi:∀i v,its[i]?=some v→∃b,v=.ref b∧TK prog w s.heap (ks.getD i []) b)
  (h:∀(h':Heap) (tk:Nat),Tk prog w h' s.heap.objs.size (kS ks its.size) its.size→
   (∀c o,c<s.heap.objs.size→s.heap.get? c=some o→h'.get? c=some o)→Q (.ref s.heap.objs.size) {s with heap:=h',toks:=tk}):wpAny (model prog w) A (call (.type "set") [.ref l]) Q E s:=by
 obtain⟨c,tl,hmro⟩:=dX.mro
 have hmade:=dX.made
 have hsub:=dX.sub
 refine wpAny_call (codeAny_of_tree ?_)
 show wpAny _ _ (callAny (.type "set") _) _ _ _
 refine eB ⟨Code.quiet_builtin _ (by decide +kernel),cf F.entry_type_call ?_⟩
 rw[Around.under_plain (weight_type_call_type "set" [.ref l] []) rfl]
 have h1:=dX.notType
 have h2:=dX.canCreate
 have hct:=F.typeCall_set_1 (.ref l)
 repeat (any_goals (first|assumption|wp_step))
 refine ae (mL (.ref l) (E:=E) (Q₁:=fun ob s₁=>ob=.ref s.heap.objs.size∧s₁={s with heap:=s.heap.push (yk w)}) ⟨rfl,rfl⟩) fun r s₁ hr=>?_
 cases r with
 |error e=>exact hr
 |ok fl=>
  cases fl with
  |ret ob=>
   obtain⟨rfl,rfl⟩:=hr
   have hS:(s.heap.push (yk w)).get? s.heap.objs.size=some (yk w):=eQ _ rfl
   have hT:Shared.TypeIs {s with heap:=s.heap.push (yk w)} (.ref s.heap.objs.size) "set":=⟨_,hS,rfl⟩
   have hli:=dX.init.lookup
   have hbi:=dX.init.bind (.ref s.heap.objs.size)
   repeat (any_goals (first|assumption|wp_step))
   refine ae (codeAny_call_builtin (R:=wants (fun r s₂=>r=.none∧∃h' tk,s₂={s with heap:=h',toks:=tk}∧Tk prog w h' s.heap.objs.size (kS ks its.size) its.size∧
     (∀c o,c<s.heap.objs.size→s.heap.get? c=some o→h'.get? c=some o)) E) dX.init.plain F.entry_set_init (check_set_init_1 hT ?_)) fun r₂ s₂ hr₂=>?_
   ·obtain⟨ol,hol,hcl,nl,hdl⟩:=hl
    obtain⟨ocls,odict,odata,oslots⟩:=ol
    simp only at hcl hdl
    subst hcl hdl
    have hol':(s.heap.push (yk w)).get? l=some {cls:=.type "list",dict:=odict,data:=.seq its nl,slots:=oslots}:=eE _ hol
    have hsls:=F.sub_list_set
    have hslf:=F.sub_list_frozenset
    have hne:(Value.type "list" == Value.type "dict")=false:=by decide
    have hl1:(s.heap.push (yk w)).IsList l its:=⟨_,hol',rfl,nl,rfl⟩
    unfold Builtin.«set.__init__» noKeywords Builtin.Frozenset.updateFrom
    generalize hPI:pyIter=PI
    wp_walk
    subst hPI
    refine aN hl1 (eA (wpAny_runValue ?_))
    have hlS:l<s.heap.objs.size:=eM hol
    have sz:(s.heap.push (yk w)).objs.size=s.heap.objs.size+1:=af _ _
    have hneI:l≠(s.heap.push (yk w)).objs.size:=by rw[sz];exact eO (dC hlS)
    have hSf:s.heap.objs.size∉[(s.heap.push (yk w)).objs.size,l]:=by
     rw[sz]
     simp only[eJ,dq,cp,not_or]
     exact⟨eO (bj _),bP hlS⟩
    have lt0:∀c o,s.heap.get? c=some o→c<s.heap.objs.size:=fun c o e=>eM e
    refine mC ((Walks.list (by simp[hh]) _ l hneI its).toS) s.heap.objs.size hSf (h0:=s.heap) ks hlen nd hn (by show A.units+1+1+1<cLine;omega) hi (fun c o e=>?_) (fun s2 i c o hst ht e=>?_) (its.size-0) 0 _ (by omega) (dM _)
     ⟨⟨_,eQ _ rfl,rfl,rfl⟩,hl1.push _⟩ (fun c o e=>eE _ (eE _ e)) ⟨yk w,_,_,_,eE _ hS,jj,by show 0*5<7*3;decide⟩ fun s' hm x=>?_
    ·have:=lt0 c o e
     rw[sz]
     simp only[eJ,dq,cp,not_or]
     exact⟨eO this,eO (dC this)⟩
    ·intro z
     simp only[eJ,dq,cp] at z
     obtain⟨⟨o',ho',hc',_⟩,_⟩:=hst
     rw[z,ho'] at e
     cases e
     rw[hc'] at ht
     exact absurd ht (by decide)
    obtain⟨h',g',d',tk',os'⟩:=s'
    have eg:g'=s.gens:=hm.gens
    have ed:d'=s.drawn:=hm.drawn
    have eo:os'=s.os:=hm.os
    subst eg ed eo
    refine eB (eB ⟨rfl,h',tk',rfl,x,fun c o hc e=>?_⟩)
    refine hm.heap c o ?_ (eE _ (eE _ e))
    rw[sz]
    simp only[eJ,dq,cp,not_or]
    exact⟨eO hc,eO (dC hc)⟩
   ·cases r₂ with
    |error e=>exact hr₂
    |ok fl₂=>
     cases fl₂ with
     |ret r=>
      obtain⟨rfl,h',tk,rfl,x,hk⟩:=hr₂
      repeat (any_goals (first|assumption|wp_step))
      exact h _ _ x hk
     |_=>exact hr₂.elim
  |_=>exact hr.elim
end
end SetW
namespace L2
open PySem PySem.Spec PyProof.Rows SetW SortA
section
variable {X:Cx}{α:Ev}{e:Expr}{pos p p2 pos2:Pos}{Q:PyData→Prop}
def tsO (l:Addr)(n:Nat):HO:=.ext fun h=>∃o es ep t,h.get? l=some o∧o.ExactSet∧o.data=.set es ep t∧t.fits es.size=true∧es.size=n
theorem jZ {P:Program}{w:World}{h:Heap}{vs:List Value}{ps:List (Int×Int)}(x:Prs h vs ps){i:Nat}{v:Value}(e:vs[i]?=some v):∃b,v=.ref b∧TK P w h ((ps.map fun p=>[p.1,p.2]).getD i []) b:=by
 have hi:i<ps.length:=by rw[←x.len];exact (eS.mp e).1
 obtain⟨a,o,t,u,n,ea,ho,hc,hd⟩:=x.at i hi
 rw[dh,e] at ea
 refine⟨a,ea,o,_,n,ho,hc,hd,?_⟩
 have:(ps.map fun p=>[p.1,p.2]).getD i []=[(at2 ps i).1,(at2 ps i).2]:=by
  rw[dh,dy,eL hi]
  simp[at2,hi]
 rw[this]
 exact .cons (ai _ _ _ _) (.cons (ai _ _ _ _) .nil)
theorem oe (hc:X.calm=true)(hu:X.A.units+8<cLine):yj X (.type "set") (fun xs H Q=>∃(l:Addr) (ys:List V) (ps:List (Int×Int)),xs=[.ref l]∧H l=some (.lst ys)∧PrV H ys ps∧ps.Nodup∧ps.length≤1000∧∀(l':Addr),H l'=none→Q (.ref l') (upd H l' (tsO l' ps.length))):=by
 intro pins s σ H xs us Q I r h
 obtain⟨l,ys,ps,rfl,hl,hp,nd,h64,q⟩:=h
 obtain⟨u,rfl,rx⟩:=vals1 r
 cases rx
 obtain⟨hz,its,n,vi,e⟩:=(show zw X.prog X.w H s.heap l (.lst ys) from I.hok l _ hl)
 have P:=hp.prs I vi
 have sz:its.toArray.size=ps.length:=by simp[P.len]
 have nk:(ps.map fun p:Int×Int=>[p.1,p.2]).Nodup:=by
  unfold List.Nodup at nd ⊢
  rw[cZ]
  refine nd.imp fun {a b} hab z=>hab ?_
  injection z with z1 z2
  injection z2 with z2 _
  exact Prod.ext z1 z2
 refine lD (its:=its.toArray) (ks:=ps.map fun p:Int×Int=>[p.1,p.2]) (I.ok.hd hc) hu ⟨_,e,rfl,n,rfl⟩ nk (by rw[eD,sz]) (by rw[sz];exact h64) (fun i v ev=>jZ P (by simpa using ev)) fun h' tk x hk=>?_
 obtain⟨o,es,ep,t,ho,x,hf⟩:=x
 have le:its.toArray.size≤t.mask:=by have:=x.m7;omega
 rw[sz] at x le
 exact⟨.ref s.heap.objs.size,_,I.laid (o:=tsO s.heap.objs.size ps.length) (t':=tk) (fun b u e=>hk b u (eM e) e) (eG _) ⟨⟨o,es,ep,t,ho,x.ex,x.dt,x.fit le,x.sz⟩,⟨o,ho⟩,fun h1 h2 ⟨o,es,ep,t,ho,r⟩ k=>⟨o,es,ep,t,k o ho,r⟩⟩,rfl,q _ (I.hok.fresh (eG _))⟩
theorem pA :yj X (.builtin "len") (fun xs H Q=>∃(l:Addr) (n:Nat),xs=[.ref l]∧n≤1000∧H l=some (tsO l n)∧Q (.int n) H):=by
 intro pins s σ H xs us Q I r h
 obtain⟨l,n,rfl,hn,hl,q⟩:=h
 obtain⟨u,rfl,rx⟩:=vals1 r
 cases rx
 obtain⟨⟨o,es,ep,t,ho,h1,h2,h3,h4⟩,_⟩:=(show zw X.prog X.w H s.heap l (tsO l n) from I.hok l _ hl)
 exact call_len_set ho h1 h2 h3 (by omega) ⟨.int n,H,I.tok _,⟨_,by rw[h4]⟩,q⟩
theorem rB (hc:X.calm=true)(hu:X.A.units+64<cLine)(hgl:Gl X "len")(hml:X.mg "len"=none)(hg:Gl X "set")(hm:X.mg "set"=none)(h:EvD X α e fun x=>∃ps:List (Int×Int),x=.list (ps.map dP)∧ps.Nodup∧ps.length≤1000∧Q (.int ps.length))(he:starEach [e] X.env=(false,eval e X.env)::starEach [] X.env:=by rfl)
  (he2:starEach [.Call (.Name "set" p) [e] [] pos] X.env=(false,eval (.Call (.Name "set" p) [e] [] pos) X.env)::starEach [] X.env:=by rfl):
  EvD X α (.Call (.Name "len" p2) [.Call (.Name "set" p) [e] [] pos] [] pos2) Q:=fun F σ H R m k=>by
 refine⟨_,yO pA hgl hml PySem.boot_len (zk (yv (oe hc (by omega)) hg hm PyProof.Rows.boot_set (zk zd zD he) (he:=he)) zD he2) (he:=he2),?_⟩
 refine h F σ H _ m fun x vx H1 q1 t1 k1 r1=>?_
 obtain⟨ps,rfl,nd,h64,q⟩:=q1
 have m1:=m.kz k1 t1
 obtain⟨l,xs,rfl,h1,h2⟩:=r1.lst_inv
 have h3:=(zc h1).2
 refine⟨l,xs,ps,rfl,h3,(qB h2).keep fun a p q e=>(zc e).2,nd,h64,fun l' hl'=>?_⟩
 refine⟨l',_,rfl,h64,zh,k _ _ _ q (t1.same (zt hl')) (k1.trans (Kz.of_same (zt hl'))) (.int _)⟩
end
end L2
namespace MaxD
open PySem PyProof.Rows
section
variable {prog:Program}{w:World}{A:Around}{R:Result→Shared→Prop}{I:Addr}{fp wr:List Addr}{n:Nat}{P:Nat→Value→Prop}{St:Nat→Heap→Prop}{kw:List (Str×Value)}
theorem qr :(toString "max"++toString ".loop":String)="max.loop":=by decide
theorem turns (W:Walks prog w A.in1 I fp wr n P St)(bt:Nat→Nat→Bool)(hcmp:CmpOf prog w A.in1 .Gt P bt)(S:Addr)(hSf:S∉fp):
  ∀(k j:Nat) (s:Shared) (vb:Value) (c:Nat),n-(j+1)=k→j+1≤n→St (j+1) s.heap→P (argBest bt j) vb→s.heap.get? S=some {cls:=.type "list",dict:=none,data:=.seq #[vb,vb] c,slots:=#[]}→
  (∀v h' tk,P (argBest bt (n-1)) v→(∀b o,b∉wr→b≠S→s.heap.get? b=some o→h'.get? b=some o)→R (.ok (.ret v)) {s with heap:=h',toks:=tk})→codeAny (model prog w) A (.builtin "max.loop" ⟨[.ref I,.none,.ref S],kw⟩) R s:=by
 have hSw:S∉wr:=fun h=>hSf (W.sub _ h)
 intro k
 induction k with
 |zero=>
  intro j s vb c hk hj st pb gs hR
  have e:j+1=n:=by omega
  refine cf F.entry_max_loop ?_
  rw[dS br _]
  refine eA (aJ gs rfl ?_)
  refine eA (aK (W.done s _ _ (e▸st) fun h' tk kk=>?_))
  refine eA (ay (kk S _ hSw gs) rfl (eA (wpAny_letGo (eB ?_))))
  exact hR vb _ tk (by rw[←e];exact pb) fun b o h1 h2 e=>(dU _ _ (bO h2)).trans (kk b o h1 e)
 |succ k ih=>
  intro j s vb c hk hj st pb gs hR
  have hlt:j+1<n:=by omega
  refine cf F.entry_max_loop ?_
  rw[dS br _]
  refine eA (aJ gs rfl ?_)
  refine eA (aK (W.item (j+1) s _ _ hlt st fun v h' tk hP st' kk=>?_))
  have gs':=kk S _ hSw gs
  refine eA (eB ?_)
  refine eA (aK (dF (eA (hcmp (j+1) (argBest bt j) v vb _ _ _ hP pb ?_))))
  refine eA (dF (wpAny_truthy_bool (eA (wpAny_letGo (eB ?_)))))
  cases hb:bt (j+1) (argBest bt j) with
  |true=>
   rw[if_pos rfl]
   refine eA (ay gs' rfl (eA (wpAny_letGo ?_)))
   rw[qr]
   refine eB ⟨ba br _,ih (j+1) _ v _ (by omega) hlt (W.frame _ _ _ st' fun b hbf o e=>(dU _ _ (fun h:S=b=>hSf (by rw[h];exact hbf))).trans e) (by simp only[argBest,hb,aI];exact hP) (cz _ gs' rfl) fun v' h2 t2 p2 k2=>?_⟩
   exact hR v' h2 t2 p2 fun b o h1 h3 e=>k2 b o h1 h3 ((dU _ _ (bO h3)).trans (kk b o h1 e))
  |false=>
   rw[if_neg (by decide)]
   refine eA (wpAny_letGo ?_)
   rw[qr]
   refine eB ⟨ba br _,ih (j+1) _ vb c (by omega) hlt st' (by simp only[argBest,hb,bx,aV];exact pb) gs' fun v' h2 t2 p2 k2=>?_⟩
   exact hR v' h2 t2 p2 fun b o h1 h3 e=>k2 b o h1 h3 (kk b o h1 e)
end
section
variable {prog:Program}{w:World}{A:Around}{E:Value→Shared→Prop}{s:Shared}
theorem pE (a d:Value):argsOk "max" ⟨[a],[("default",d)]⟩:=by unfold argsOk;kernel_rfl
theorem max_call {l:Addr}{its:Array Value}{d:Value}{zs:List Int}{Q:Value→Shared→Prop}(hh:A.handled=none)(hl:s.heap.IsList l its)(hi:IntsAre its.toList zs)
  (h:∀v h' tk,(zs=[]∧v=d∨zs≠[]∧∃t,v=.int (zs.getD (argBest (L2.rj zs) (zs.length-1)) 0) t)→(∀b o,s.heap.get? b=some o→h'.get? b=some o)→Q v {s with heap:=h',toks:=tk}):
  wpAny (model prog w) A (call (.builtin "max") [.ref l] [("default",d)]) Q E s:=by
 have hlt:l<s.heap.objs.size:=by obtain⟨_,e,_⟩:=hl;exact eM e
 refine wpAny_call (codeAny_call_builtin F.plain_max F.entry_max ?_)
 refine bu (pE _ _) ?_
 have hlen:its.size=zs.length:=by rw[←eY];exact IntsAre.length hi
 have val:∀i v,its[i]?=some v→∃t,v=Value.int (zs.getD i 0) t:=fun i v hv=>IntsAre.int_at hi i v (by rw[cP];exact hv)
 refine eA (bu (show Builtin.Builtins.bindParams "max" ["key","default"] 0 ⟨[],[("default",d)]⟩=pure [none,some d] from rfl) ?_)
 refine eA (eB (eA (aN hl (eA (cq ?_)))))
 rw[qr]
 have sz:(s.heap.push {cls:=.type "list_iterator",data:=.fields #[.ref l,.int 0 0]}).objs.size=s.heap.objs.size+1:=af _ _
 have hne:l≠s.heap.objs.size:=eO hlt
 have W:=Walks.list (prog:=prog) (w:=w) (A:=A.in1) (by simp[hh]) s.heap.objs.size l hne its
 have hSf:s.heap.objs.size+1∉[s.heap.objs.size,l]:=by
  simp only[eJ,dq,cp,not_or]
  exact⟨bP (bj _),bP (dC hlt)⟩
 have hSw:s.heap.objs.size+1∉[s.heap.objs.size]:=fun z=>hSf (eJ.mpr (.inl (dH.mp z)))
 refine eB ⟨ba br _,?_⟩
 rw[sz]
 have hI:(s.heap.push {cls:=.type "list_iterator",data:=.fields #[.ref l,.int 0 0]}).get? s.heap.objs.size=some {cls:=.type "list_iterator",data:=.fields #[.ref l,.int 0 0]}:=eQ _ rfl
 have hS:((s.heap.push {cls:=.type "list_iterator",data:=.fields #[.ref l,.int 0 0]}).push {cls:=.type "list",data:=.seq #[] 0}).get? (s.heap.objs.size+1)=some {cls:=.type "list",data:=.seq #[] 0}:=by rw[←sz];exact eQ _ rfl
 have kp:∀b o,s.heap.get? b=some o→((s.heap.push {cls:=.type "list_iterator",data:=.fields #[.ref l,.int 0 0]}).push {cls:=.type "list",data:=.seq #[] 0}).get? b=some o:=fun b o e=>eE _ (eE _ e)
 have nw:∀b o,s.heap.get? b=some o→b∉[s.heap.objs.size]∧b≠s.heap.objs.size+1:=fun b o e=>by
  have:=eM e
  exact⟨fun z=>eO this (dH.mp z),eO (dC this)⟩
 have st0:Heap.IsListIter ((s.heap.push {cls:=.type "list_iterator",data:=.fields #[.ref l,.int 0 0]}).push {cls:=.type "list",data:=.seq #[] 0}) s.heap.objs.size l 0∧Heap.IsList ((s.heap.push {cls:=.type "list_iterator",data:=.fields #[.ref l,.int 0 0]}).push {cls:=.type "list",data:=.seq #[] 0}) l its:=⟨⟨_,eE _ hI,rfl,rfl⟩,(hl.push _).push _⟩
 generalize (s.heap.push {cls:=.type "list_iterator",data:=.fields #[.ref l,.int 0 0]}).push {cls:=.type "list",data:=.seq #[] 0}=h2 at hS kp st0 ⊢
 refine cf F.entry_max_loop ?_
 rw[dS br _]
 refine eA (aJ hS rfl ?_)
 by_cases h0:its.size=0
 ·have z0:zs=[]:=bg.mp (by omega)
  refine eA (aK (W.done {s with heap:=h2} _ _ (by rw[h0];exact st0) fun h' tk kk=>?_))
  refine eA (cT (eB ?_))
  exact h d h' tk (.inl ⟨z0,rfl⟩) fun b o e=>kk b o (nw b o e).1 (kp b o e)
 ·have zn:zs≠[]:=fun z=>h0 (by rw[hlen,z];rfl)
  refine eA (aK (W.item 0 {s with heap:=h2} _ _ (by omega) st0 fun v h' tk hP st' kk=>?_))
  have hS':=kk _ _ hSw hS
  refine eA (eB (eA (ay hS' rfl ?_)))
  rw[qr]
  refine eB ⟨ba br _,turns W (L2.rj zs) (CmpOf.ints_gt (fun i=>zs.getD i 0) val) (s.heap.objs.size+1) hSf _ 0 _ v _ rfl (by omega) (W.frame _ _ _ st' fun b hbf o e=>(dU _ _ (fun z:s.heap.objs.size+1=b=>hSf (by rw[z];exact hbf))).trans e) hP (cz _ hS' rfl) fun v' h3 t3 p3 k3=>?_⟩
  obtain⟨t,rfl⟩:=val _ _ p3
  rw[hlen]
  refine h _ h3 t3 (.inr ⟨zn,t,rfl⟩) fun b o e=>?_
  exact k3 b o (nw b o e).1 (nw b o e).2 ((dU _ _ (bO (nw b o e).2)).trans (kk b o (nw b o e).1 (kp b o e)))
end
end MaxD
namespace L2
open PySem PySem.Spec PySem.W PyProof.Rows
section
variable {X:Cx}{α:Ev}{Q:PyData→Prop}{a b:Expr}{pos:Pos}
theorem oi :MtM X "list.count" (fun x xs H Q=>∃(l:Addr) (bs:List Int) (k:Int),x=.ref l∧xs=[.int k]∧SqL X.K H l (bs.map V.int)∧Q (.int ((bs.count k:Nat):Int)) H):=by
 intro pins s σ H x xs v us Q I rx rv h
 obtain⟨l,bs,k,rfl,rfl,hS,q⟩:=h
 cases rx
 obtain⟨u,rfl,ru⟩:=rv.one
 obtain⟨t,rfl⟩:=ru
 obtain⟨its,r,p,hz⟩:=I.list hS
 exact count_list_ints p.isList (intsAre_of r) ⟨.int _,H,I.tok _,⟨_,rfl⟩,q⟩
theorem ph {apos:Pos}(h:EvD X α a fun x=>∃bs:List Int,x=.list (bs.map .int)∧EvD X α b fun y=>∃k:Int,y=.int k∧Q (.int ((bs.count k:Nat):Int)))
  (hbase:attributeBase a "count" X.env (eval a X.env)=eval a X.env:=by rfl) (hs:starEach [b] X.env=(false,eval b X.env)::starEach [] X.env:=by rfl)
  (hpl:((((backTo pos (starEach [b] X.env)).all fun x=>!x.fst)&&(backToKw pos (keywordEach [] X.env)).all fun x=>x.fst.isSome)&&decide (([b].length+([]:List Keyword).length+if ([]:List Keyword).isEmpty=true then 0 else 1)<30))=true:=by rfl)
  (hline:(apos.endLine == pos.line)=true:=by rfl):EvD X α (.Call (.Attribute a "count" apos) [b] [] pos) Q:=fun F σ H R m k=>by
 refine⟨_,qM bS PySem.F.slot_list_count PySem.F.type_list_count oi zd (zk zd zD hs) hbase hpl hline hs,?_⟩
 refine h F σ H _ m fun x vx H1 q1 t1 k1 r1=>?_
 obtain⟨bs,rfl,q1⟩:=q1
 obtain⟨l,xs,rfl,g1,g2⟩:=r1.lst_inv
 refine⟨.inl ⟨rfl,_,SqL.of (zc g1).2⟩,?_⟩
 have m1:=m.kz k1 t1
 refine q1 F σ H1 _ m1 fun y vy H2 q2 t2 k2 r2=>?_
 obtain⟨kk,rfl,q⟩:=q2
 cases r2.int_inv
 rw[g2.intsV] at g1
 exact⟨l,bs,kk,rfl,rfl,SqL.of (zc (k2.gz m1.tp _ _ g1)).2,k _ _ H2 q t2 (k1.trans k2) (.int _)⟩
def mxD (k:Int)(zs:List Int):Int:=if zs=[] then k else uY zs
variable {e:Expr}{p p2 kpos:Pos}{k:Int}{j:Nat}
theorem lO {ta:TE}(hc:X.calm=true)(hg:Gl X "max")(hm:X.mg "max"=none)(ha:PE X e ta)(he:starEach [e] X.env=(false,eval e X.env)::starEach [] X.env:=by rfl)(he2:backTo pos (starEach [e] X.env)=(false,eval e X.env)::backTo pos (starEach [] X.env):=by rfl)(hpl:((backTo pos (starEach [e] X.env)).any fun x=>x.1)=false:=by rfl):
  PE X (.Call (.Name "max" p) [e] [⟨some "default",.Constant (.int k) j p2,kpos⟩] pos) (fun σ H Q=>ta σ H fun v H1=>∃l zs,v=.ref l∧SqL X.K H1 l (zs.map V.int)∧Q (.int (mxD k zs)) H1):=by
 intro pins s σ H Q I h
 refine aA (yU I hg hm boot_max ?_)
 let Pd:V→Hp→Prop:=fun v H1=>∃l zs,v=.ref l∧SqL X.K H1 l (zs.map V.int)∧Q (.int (mxD k zs)) H1
 refine callWith_kw (thn (zk ha zD he pos pins s σ H (fun vs H1=>match vs with|[v]=>Pd v H1|_=>False) I h) fun us s1 ⟨vs,H1,I1,r1,q1⟩=>?_) he2 hpl
 match vs,r1,q1 with
 |[v],r1,q1=>
  obtain⟨u,rfl,ru⟩:=vals1 r1
  obtain⟨l,zs,rfl,hS,q⟩:=(show Pd v H1 from q1)
  cases ru
  show wpAny _ _ (evalAll ((eval (.Constant (.int k) j p2) X.env >>= fun v=>standAt pos >>= fun _=>pure v)::[])) _ _ s1
  refine wpAny_evalAll_cons (eA (thn (zC (X:=X) (i:=k) (j:=j) (pos:=p2) pins s1 σ H1 (fun v H2=>v=.int k∧H2=H1) I1 ⟨rfl,rfl⟩) fun d s2 ⟨vd,H2,I2,rd,e1,e2⟩=>eA (wpAny_standAt (eB (wpAny_evalAll_nil ?_)))))
  subst e1 e2
  obtain⟨td,rfl⟩:=rd
  show wpAny _ _ (call (.builtin "max") [.ref l] [("default",.int k td)]) _ _ s2
  obtain⟨its,r,ht,hz⟩:=I2.list hS
  refine MaxD.max_call (I2.ok.hd hc) ht.isList (by simpa using intsAre_of r) fun v h' tk hv kk=>?_
  refine⟨.int (mxD k zs),H2,I2.kept (t':=tk) (fun b o e=>kk b o e),?_,q⟩
  unfold mxD
  rcases hv with ⟨z,rfl⟩|⟨z,t,rfl⟩
  ·rw[if_pos z];exact⟨_,rfl⟩
  ·rw[if_neg z]
   refine⟨t,?_⟩
   have h0:0<zs.length:=List.length_pos_iff.mpr z
   have hb:=mK zs (zs.length-1) (by omega)
   rw[show zs.length-1+1=zs.length by omega,cN] at hb
   rw[dh,hb];rfl
 |[],_,q1=>exact q1.elim
 |_::_::_,_,q1=>exact q1.elim
theorem kn (hc:X.calm=true)(hg:Gl X "max")(hm:X.mg "max"=none)(h:EvD X α e fun x=>∃zs:List Int,x=.list (zs.map .int)∧Q (.int (mxD k zs)))(he:starEach [e] X.env=(false,eval e X.env)::starEach [] X.env:=by rfl)(he2:backTo pos (starEach [e] X.env)=(false,eval e X.env)::backTo pos (starEach [] X.env):=by rfl)(hpl:((backTo pos (starEach [e] X.env)).any fun x=>x.1)=false:=by rfl):
  EvD X α (.Call (.Name "max" p) [e] [⟨some "default",.Constant (.int k) j p2,kpos⟩] pos) Q:=fun F σ H R m kk=>by
 refine⟨_,lO hc hg hm zd he he2 hpl,?_⟩
 refine h F σ H _ m fun x vx H1 q1 t1 k1 r1=>?_
 obtain⟨zs,rfl,q⟩:=q1
 obtain⟨l,xs,rfl,h1,h2⟩:=r1.lst_inv
 rw[h2.intsV] at h1
 exact⟨l,zs,rfl,SqL.of (zc h1).2,kk _ _ H1 q t1 k1 (.int _)⟩
end
end L2
set_option maxHeartbeats 4000000
namespace K76
open PySem PySem.Spec PyProof.Rows L2
def top (i:Nat):Stmt:=PySem.Challenge.pw_stayprice_k76_rooms_dealt.main.body.getD i (.Pass ⟨0,0,0,0⟩)
abbrev mi :Stmt:=top 6
abbrev rQ :Stmt:=top 5
def qt :List A→(A→Prop)→Prop:=fun as Q=>∃c:Int,as=[.dat (.int c)]∧∀x y:Int,0≤y→y<4294967296→Q (.own [.int x,.int y])
section
variable {P:Program}{w:World}{K:PySem.W.Frag}{mg:Str→Option Value}{base:Heap}
theorem rg :zH ["_law_row","_law_base","_law_found","_law_number"] ["_law_row","_law_base"] (zg mi):=⟨rfl,rfl,rfl,by decide +kernel,rfl,by decide +kernel,by decide +kernel⟩
theorem kB {f:Addr}{fd:FuncData}(F:Fun K "_law_take" "_law_take" mi f fd):yB P w K mg base CX0 1 f fd ["_law_row","_law_base"] nu:=by
 refine F.ok rg (fun vs H Q E h=>?_) (fun cdv A outer s H vs Q E hr h=>?_)
 ·obtain⟨t,b,c,many,rfl,_⟩:=h
  rfl
 ·obtain⟨t,b,c,many,rfl,⟨n,bs,cs,⟨eb,ec⟩,ht,hb,hc,⟨x,y,rfl,y0,y1⟩,hn⟩,hm0,hm1,k⟩:=h
  rw[eb,ec] at k
  have hlog:many.natAbs.log2<9000:=log2_small hm0 hm1
  have ht:H t=some (.lst [.int x,.int y]):=ht
  refine wH (fun σ H3=>σ=[some (.ref t),some (.int many),none,none]∧H=H3)
   ⟨_,jC (qY jy (wu yq (pv 0) zC (fun _ _=>rfl)) zC (xx _))
    (zu (uR (i:=2) rg.nd rfl (Or.inl rfl) (ye vB (wu yq (pv 0) zC (fun _ _=>rfl)) (pv 1)))
    (zu (rC (ye vh (wu yq (pv 0) zC (fun _ _=>rfl)) (pv 1)) (sU (pv 0) zC set_list))
    (qi (wU (pv 2))))) rV,?_⟩ ?_
  ·refine⟨_,rfl,t,_,0,_,rfl,rfl,SqL.of ht,rfl,_,_,rfl,rfl,_,rfl,?_⟩
   refine fT (fun _=>?_) (fun _=>⟨rfl,rfl⟩)
   refine⟨_,rfl,t,_,0,_,rfl,rfl,SqL.of ht,rfl,_,rfl,_,_,rfl,rfl,hm0,?_⟩
   refine⟨_,rfl,t,_,0,_,rfl,rfl,SqL.of ht,rfl,_,rfl,_,_,rfl,rfl,⟨hm0,hlog⟩,?_⟩
   refine⟨_,rfl,t,_,0,0,rfl,rfl,ht,rfl,_,rfl,?_⟩
   refine k _ _ (az _ (Int.ne_of_gt hm0)) (bY _ hm0) ⟨0,[x / many,y],[x / many,y],⟨rfl,rfl⟩,zh,zh,zh,⟨_,_,rfl,y0,y1⟩,rfl⟩ fun a h1 h2=>by rw[ze h1]
  rintro σ H3 ⟨rfl,rfl⟩
  refine wH (fun σ H1=>∃z:Int,0≤z∧z<2147483647∧σ=[some (.ref t),some (.int many),none,none]∧H1=upd H t (.lst [.int x,.int z]))
   ⟨_,rC (ye vB (ye tB (ye rh (wu yq (pv 0) zC (fun _ _=>rfl)) zC) zC) zC) (sU (pv 0) zC set_list),?_⟩ ?_
  ·refine⟨_,rfl,t,_,1,_,rfl,rfl,SqL.of ht,rfl,_,_,rfl,rfl,.inl ⟨by omega,by omega⟩,_,_,rfl,rfl,_,_,rfl,rfl,(by show (0:Int)<2147483647;decide),?_⟩
   exact⟨_,rfl,t,_,1,1,rfl,rfl,ht,rfl,_,az _ (by decide),bY _ (by decide),rfl,rfl⟩
  rintro σ H1 ⟨z,z0,z1,rfl,hH1⟩
  have ht1:H1 t=some (.lst [.int x,.int z]):=by rw[hH1];exact zh
  have off:jX t t H H1:=fun a h1 _=>by rw[hH1,ze h1]
  clear hH1
  refine wH (fun σ H2=>∃u:Int,σ=[some (.ref t),some (.int many),none,some (.int u)]∧H1=H2)
   ⟨_,uR (i:=3) rg.nd rfl (Or.inl rfl) (ye vB (ye tB (ye tB (ye rh (wu yq (pv 0) zC (fun _ _=>rfl)) (wu yq (pv 0) zC (fun _ _=>rfl))) (ye rh zC (wu yq (pv 0) zC (fun _ _=>rfl)))) zC) zC),?_⟩ ?_
  ·exact⟨_,rfl,t,_,1,_,rfl,rfl,SqL.of ht1,rfl,_,rfl,t,_,1,_,rfl,rfl,SqL.of ht1,rfl,_,_,rfl,rfl,.inl ⟨by omega,by omega⟩,_,rfl,t,_,1,_,rfl,rfl,SqL.of ht1,rfl,_,_,rfl,rfl,.inl ⟨by decide,by decide⟩,_,_,rfl,rfl,_,_,rfl,rfl,_,_,rfl,rfl,(by show (0:Int)<2147483629;decide),_,rfl,rfl⟩
  rintro σ H2 ⟨u,rfl,rfl⟩
  refine⟨_,qi (wU (ye vB (ye vh (pv 3) zC) (pv 1))),?_⟩
  refine⟨_,rfl,_,_,rfl,rfl,⟨by decide,by decide +kernel⟩,_,rfl,_,_,rfl,rfl,hm0,?_⟩
  exact k _ _ (az _ (Int.ne_of_gt hm0)) (bY _ hm0) ⟨0,[x,z],[x,z],⟨rfl,rfl⟩,ht1,ht1,ht1,⟨_,_,rfl,z0,by omega⟩,rfl⟩ off
theorem nH {f:Addr}{fd:FuncData}(hm:mg "_law_take"=some (.ref f))(hk:PySem.W.keepIn K (.ref f)=true)(hb:Binds K fd ["_law_row","_law_base"] [])(G:yB P w K mg base CX0 1 f fd ["_law_row","_law_base"] nu):Cal P w K mg base "_law_take" 1 wc:=by
 refine⟨f,fd,_,hm,hk,hb,G.imp fun vs H Q E h=>?_⟩
 obtain⟨F,as,Q',rfl,t,o,rv,⟨n,rfl,h0,h1,hq⟩,kk⟩:=h
 cases rv with
 |cons a1 r=>
  obtain⟨ta,b,c,e,rfl⟩:=a1
  obtain⟨v,rfl,av⟩:=r.one
  cases av.int_inv
  refine⟨ta,b,c,n,rfl,(t ta b c e).1,h0,h1,fun z H' z0 z1 TA off=>kk _ _ _ (hq z z0 z1) ⟨⟨(by
   obtain⟨_,_,_,_,e1,e2,_⟩:=(t ta b c e).1.ex
   exact kc t.tab e1 e2 off),t.ot,fun t' b' c' e'=>?_⟩,fun y u hy n=>?_,.int z⟩⟩
  ·rw[e] at e';cases e'
   exact⟨TA,(t ta b c e).2⟩
  ·rw[off y (n.1 _ _ _ e).1 (n.1 _ _ _ e).2];exact hy
theorem ja :zH ["_law_cell"] ["_law_cell"] (zg rQ):=⟨rfl,rfl,rfl,by decide +kernel,rfl,by decide +kernel,by decide +kernel⟩
theorem oQ {f:Addr}{fd:FuncData}(F:Fun K "_law_begin" "_law_begin" rQ f fd)(hm:mg "_law_begin"=some (.ref f))(hb:Binds K fd ["_law_cell"] []):Cal P w K mg base "_law_begin" 1 qt:=by
 refine rH F hm hb ja (fun as Q h=>?_) (fun cdv A' outer s H E as Q hr h=>?_)
 ·obtain⟨c,rfl,_⟩:=h
  rfl
 ·obtain⟨c,rfl,q⟩:=h
  refine vo (jo (zm 0 rfl (wb (r:=1000000000000000000) ⟨by decide,by decide,by decide⟩ (by decide) ⟨_,_,rfl,rfl,?_⟩)))
  refine jW (fun _=>?_) (fun _=>zN ?_)
  ·exact qE (xR (zI (ni (zm 0 rfl (wb (r:=1000000000000000000) ⟨by decide,by decide,by decide⟩ (by decide) ⟨_,_,rfl,rfl,zI (yI (yd ⟨_,rfl,bE rfl,q _ _ (by decide) (by decide)⟩))⟩)))))
  ·refine qE (xR (zI (yI (zI (rz (mE (zm 0 rfl (yI ⟨_,_,rfl,rfl,by decide,yI ⟨_,_,rfl,rfl,yd ⟨_,rfl,bE rfl,?_⟩⟩⟩))))))))
   have h1:=az c (show (2147483629:Int)≠0 by decide)
   have h2:=bY c (show (0:Int)<2147483629 by decide)
   exact q _ _ (by omega) (by omega)
end
open SortA
theorem vA {ι:Type}[DecidableEq ι]:∀(F l:List ι),F.Nodup→(∀x∈F,x∈l)→F.length≤l.length
 |[],l,_,_=>dM _
 |x::F,l,hn,hs=>by
  have hx:x∈l:=hs x eH
  rw[bD] at hn
  have:=vA F (l.erase x) hn.2 fun y hy=>(za1 (fun (e:y=x)=>hn.1 (e▸hy))).mpr (hs y (eK _ hy))
  rw[List.length_erase_of_mem hx] at this
  have hl:0<l.length:=List.length_pos_of_mem hx
  rw[df]
  omega
def ffr (E:List Int)(c:Int):Nat:=E.findIdx fun e=>decide (e≤c)
def stE (E:List Int)(c g:Int):List Int:=E.take (ffr E c)++[g]++E.drop (ffr E c+1)
abbrev Q3 :Type:=(Int×Int)×Int
def yC :List Q3→List Int×List Int→List Int×List Int
 |[],s=>s
 |q::qs,s=>yC qs (s.1.set q.2.toNat (ffr s.2 q.1.1),stE s.2 q.1.1 q.1.2)
theorem kZ {E:List Int}{c g:Int}(h:ffr E c<E.length):stE E c g=E.set (ffr E c) g:=by
 unfold stE
 rw[List.set_eq_take_append_cons_drop,if_pos h,eU]
 rfl
theorem lI {E:List Int}{c g:Int}(h:ffr E c=E.length):stE E c g=E++[g]:=by
 unfold stE
 rw[h,cN,List.drop_eq_nil_of_le (bN _),cS]
theorem iE (E:List Int)(c:Int):ffr E c≤E.length:=List.findIdx_le_length
theorem jJ {E:List Int}{c:Int}(h:ffr E c<E.length):E[ffr E c]≤c:=by
 have:=List.findIdx_getElem (p:=fun e=>decide (e≤c)) (w:=h)
 exact of_decide_eq_true this
theorem kr {E:List Int}{c:Int}(h:ffr E c=E.length):∀e∈E,c<e:=fun e he=>by
 have:=List.findIdx_eq_length.mp h e he
 simp at this
 omega
def rm (R:List Int)(p:Q3):Int:=R.getD p.2.toNat 0
structure Dn (n:Nat)(done:List Q3)(R E:List Int):Prop where
 len:R.length=n
 el:E.length≤done.length
 r:∀p∈done,∃k:Nat,∃h:k<E.length,rm R p=k∧p.1.2≤E[k]
 ap:done.Pairwise fun p q=>rm R p=rm R q→p.1.2≤q.1.1
 ex:∀(k:Nat) (h:k<E.length),∃p∈done,rm R p=k∧p.1.2=E[k]
 full:E.length=0∨∃d:Int,∀k:Nat,k<E.length→∃p∈done,rm R p=k∧p.1.1≤d∧d<p.1.2
theorem gc {R:List Int}{p q:Q3}{v:Int}(h:p.2.toNat≠q.2.toNat):rm (R.set q.2.toNat v) p=rm R p:=by
 unfold rm
 rw[dh,dh,cb (bO h)]
theorem kE {R:List Int}{q:Q3}{v:Int}(h:q.2.toNat<R.length):rm (R.set q.2.toNat v) q=v:=by
 unfold rm
 rw[dh,cJ h]
 rfl
theorem Dn.step {n:Nat}{done:List Q3}{R E:List Int}(D:Dn n done R E)(q:Q3)(hq:q.1.1<q.1.2)(hn:q.2.toNat<n)(hd:∀p∈done,p.2.toNat≠q.2.toNat∧p.1.1≤q.1.1):Dn n (done++[q]) (R.set q.2.toNat (ffr E q.1.1)) (stE E q.1.1 q.1.2):=by
 have old:∀p∈done,rm (R.set q.2.toNat (ffr E q.1.1)) p=rm R p:=fun p hp=>gc (hd p hp).1
 have own:rm (R.set q.2.toNat ((ffr E q.1.1:Nat):Int)) q=(ffr E q.1.1:Nat):=kE (by rw[D.len];exact hn)
 have ap0:done.Pairwise fun p q'=>rm (R.set q.2.toNat ((ffr E q.1.1:Nat):Int)) p=rm (R.set q.2.toNat ((ffr E q.1.1:Nat):Int)) q'→p.1.2≤q'.1.1:=D.ap.imp_of_mem fun {a b} ha hb h=>by
  rw[old a ha,old b hb]
  exact h
 rcases cD (ffr E q.1.1) E.length with h|h
 ·have e:=jJ h
  rw[kZ h]
  generalize ffr E q.1.1=r at *
  refine⟨by rw[dA];exact D.len,by rw[dA,eW];have:=D.el;omega,fun p hp=>?_,?_,fun k hk=>?_,?_⟩
  ·rcases dg.mp hp with z|z
   ·obtain⟨k,hk,e1,e2⟩:=D.r p z
    refine⟨k,by rw[dA];exact hk,by rw[old p z];exact e1,?_⟩
    by_cases w:r=k
    ·subst w
     rw[aW]
     omega
    ·rw[List.getElem_set_ne w]
     exact e2
   ·rw[dH.mp z]
    exact⟨r,by rw[dA];exact h,own,by rw[aW];exact cK _⟩
  ·rw[eV]
   refine⟨ap0,by simp,fun p hp q' hq'=>?_⟩
   rw[dH.mp hq',own,old p hp]
   intro z
   obtain⟨k,hk,e1,e2⟩:=D.r p hp
   rw[e1] at z
   have z':k=r:=by omega
   subst z'
   omega
  ·rw[dA] at hk
   by_cases w:r=k
   ·subst w
    exact⟨q,by simp,own,by rw[aW]⟩
   ·obtain⟨p,hp,e1,e2⟩:=D.ex k hk
    exact⟨p,da _ hp,by rw[old p hp];exact e1,by rw[List.getElem_set_ne w];exact e2⟩
  ·rw[dA]
   rcases D.full with z|⟨d,hd⟩
   ·exact .inl z
   ·refine .inr ⟨d,fun k hk=>?_⟩
    obtain⟨p,hp,e1,e2⟩:=hd k hk
    exact⟨p,da _ hp,by rw[old p hp];exact e1,e2⟩
 ·have h:=Nat.le_antisymm (iE E q.1.1) h
  have e:=kr h
  rw[lI h]
  rw[h] at own old ap0 ⊢
  refine⟨by rw[dA];exact D.len,by rw[eW,eW];have:=D.el;simpa using this,fun p hp=>?_,?_,fun k hk=>?_,?_⟩
  ·rcases dg.mp hp with z|z
   ·obtain⟨k,hk,e1,e2⟩:=D.r p z
    refine⟨k,by rw[eW];omega,by rw[old p z];exact e1,?_⟩
    rw[aF hk]
    exact e2
   ·rw[dH.mp z]
    exact⟨E.length,by simp,own,by simp⟩
  ·rw[eV]
   refine⟨ap0,by simp,fun p hp q' hq'=>?_⟩
   rw[dH.mp hq',own,old p hp]
   intro z
   obtain⟨k,hk,e1,e2⟩:=D.r p hp
   rw[e1] at z
   omega
  ·rw[eW] at hk
   rcases cD k E.length with w|w
   ·obtain⟨p,hp,e1,e2⟩:=D.ex k w
    exact⟨p,da _ hp,by rw[old p hp];exact e1,by rw[aF w];exact e2⟩
   ·have w:k=E.length:=by simp at hk;omega
    subst w
    exact⟨q,by simp,own,by simp⟩
  ·refine .inr ⟨q.1.1,fun k hk=>?_⟩
   rw[eW] at hk
   rcases cD k E.length with w|w
   ·obtain⟨p,hp,e1,e2⟩:=D.ex k w
    refine⟨p,da _ hp,by rw[old p hp];exact e1,(hd p hp).2,?_⟩
    rw[e2]
    exact e _ (bp w)
   ·have w:k=E.length:=by simp at hk;omega
    subst w
    exact⟨q,by simp,own,cK _,hq⟩
theorem Dn.all {n:Nat}:∀(qs:List Q3) {done:List Q3} {R E:List Int},Dn n done R E→(∀q∈qs,q.1.1<q.1.2∧q.2.toNat<n)→((done++qs).Pairwise fun p q=>p.2.toNat≠q.2.toNat∧p.1.1≤q.1.1)→Dn n (done++qs) (yC qs (R,E)).1 (yC qs (R,E)).2
 |[],done,R,E,D,_,_=>by rw[cS];exact D
 |q::qs,done,R,E,D,h,pw=>by
  have h1:=h q eH
  have e:done++q::qs=(done++[q])++qs:=by rw[eU];rfl
  rw[e] at pw ⊢
  have pw':=(eV.mp pw).1
  have:=(eV.mp pw').2.2
  exact Dn.all qs (D.step q h1.1 h1.2 fun p hp=>this p hp q (by simp)) (fun q' hq'=>h q' (eK _ hq')) pw
def plQ (ss:List (Int×Int)):List Q3:=ss.zipIdx.map fun p=>(p.1,((p.2:Nat):Int))
def sO (ss:List (Int×Int)):Prop:=∀s∈ss,0≤s.1∧s.1<s.2∧s.2≤s.1+14∧s.2≤1000000
theorem wF {ss:List (Int×Int)}{q:Q3}:q∈plQ ss↔∃i:Nat,ss[i]?=some q.1∧q.2=i:=by
 unfold plQ
 rw[bB]
 constructor
 ·rintro⟨⟨s,i⟩,hm,rfl⟩
  exact⟨i,List.mk_mem_zipIdx_iff_getElem?.mp hm,rfl⟩
 ·rintro⟨i,h1,h2⟩
  exact⟨(q.1,i),List.mk_mem_zipIdx_iff_getElem?.mpr h1,by rw[←h2]⟩
theorem iV (ss:List (Int×Int)):(plQ ss).Pairwise fun p q=>p.2.toNat≠q.2.toNat:=by
 unfold plQ
 rw[cZ]
 have:∀(l:List (Int×Int)) (k:Nat),(l.zipIdx k).Pairwise fun a b=>(((a.2:Nat):Int)).toNat≠(((b.2:Nat):Int)).toNat:=by
  intro l
  induction l with
  |nil=>intro k;exact .nil
  |cons a l ih=>
   intro k
   rw[List.zipIdx_cons]
   refine .cons (fun b hb=>?_) (ih (k+1))
   have:=(List.mem_zipIdx hb).1
   show (k:Int).toNat≠_
   omega
 exact this ss 0
structure Rms (ss:List (Int×Int))(R:List Int)(m:Nat):Prop where
 len:R.length=ss.length
 ml:m≤ss.length
 lt:∀r∈R,0≤r∧r<m
 ap:∀i j:Nat,i<j→∀s t:Int×Int,ss[i]?=some s→ss[j]?=some t→R[i]?=R[j]?→s.2≤t.1∨t.2≤s.1
 ex:∀k:Nat,k<m→(k:Int)∈R
 full:m=0∨∃d:Int,∀k:Nat,k<m→∃(i:Nat) (s:Int×Int),ss[i]?=some s∧R[i]?=some (k:Int)∧s.1≤d∧d<s.2
def zJ (ss:List (Int×Int))(qs:List Q3):List Int:=(yC qs (List.replicate ss.length 0,[])).1
theorem iH {ss:List (Int×Int)}{qs:List Q3}(ok:sO ss)(pm:qs.Perm (plQ ss))(rs:uc qs):∃m,Rms ss (zJ ss qs) m:=by
 have ge:∀q∈qs,q.1.1<q.1.2∧q.2.toNat<ss.length:=fun q hq=>by
  obtain⟨i,h1,h2⟩:=wF.mp (pm.mem_iff.mp hq)
  have hi:=(eS.mp h1).1
  exact⟨(ok q.1 (cE h1)).2.1,by omega⟩
 have pl:qs.Pairwise fun p q=>p.2.toNat≠q.2.toNat:=(List.Perm.pairwise_iff (fun h=>bO h) pm).mpr (iV ss)
 have pw:qs.Pairwise fun p q=>p.2.toNat≠q.2.toNat∧p.1.1≤q.1.1:=by
  refine (pl.and rs).imp fun {a b} ⟨h1,h2⟩=>⟨h1,?_⟩
  unfold lxQ at h2
  have:=bZ h2
  omega
 have D:=Dn.all (n:=ss.length) qs (done:=[]) (R:=List.replicate ss.length 0) (E:=[]) ⟨by simp,by simp,fun p hp=>by simp at hp,.nil,fun k hk=>by simp at hk,.inl rfl⟩ ge pw
 rw[bF] at D
 have e1:(yC qs (List.replicate ss.length 0,[])).1=zJ ss qs:=rfl
 rw[e1] at D
 generalize (yC qs (List.replicate ss.length 0,[])).2=E at D
 have hq:∀(i:Nat) (s:Int×Int),ss[i]?=some s→(s,(i:Int))∈qs:=fun i s h=>pm.mem_iff.mpr (wF.mpr ⟨i,h,rfl⟩)
 have rmi:∀(i:Nat) (s:Int×Int),ss[i]?=some s→(zJ ss qs)[i]?=some (rm (zJ ss qs) (s,(i:Int))):=fun i s h=>by
  have hi:i<(zJ ss qs).length:=by rw[D.len];exact (eS.mp h).1
  unfold rm
  rw[dh]
  show (zJ ss qs)[i]?=some ((zJ ss qs)[((i:Nat):Int).toNat]?.getD 0)
  rw[cW,eL hi]
  rfl
 have bk:∀p∈qs,∃i:Nat,ss[i]?=some p.1∧(zJ ss qs)[i]?=some (rm (zJ ss qs) p):=fun p hp=>by
  obtain⟨i,h1,h2⟩:=wF.mp (pm.mem_iff.mp hp)
  refine⟨i,h1,?_⟩
  rw[rmi i _ h1,←h2]
 refine⟨E.length,D.len,?_,fun r hr=>?_,fun i j hij s t h1 h2 h3=>?_,fun k hk=>?_,?_⟩
 ·have:=D.el
  rw[pm.length_eq] at this
  unfold plQ at this
  simpa using this
 ·obtain⟨i,hi,rfl⟩:=cI hr
  have hi':i<ss.length:=by rw[←D.len];exact hi
  have hs:ss[i]?=some ss[i]:=eL hi'
  obtain⟨k,hk,e,_⟩:=D.r _ (hq i _ hs)
  have:=rmi i _ hs
  rw[eL hi,e] at this
  injection this with this
  rw[this]
  omega
 ·rw[rmi i s h1,rmi j t h2] at h3
  injection h3 with h3
  have ne:(s,(i:Int))≠(t,(j:Int)):=fun z=>by
   injection z with _ z
   omega
  have key:∀(l:List Q3),(l.Pairwise fun p q=>rm (zJ ss qs) p=rm (zJ ss qs) q→p.1.2≤q.1.1)→∀a∈l,∀b∈l,a≠b→rm (zJ ss qs) a=rm (zJ ss qs) b→a.1.2≤b.1.1∨b.1.2≤a.1.1:=by
   intro l hl
   induction hl with
   |nil=>intro a ha;simp at ha
   |@cons x l hx _ ih=>
    intro a ha b hb hab e
    rcases eJ.mp ha with za|za
    ·rcases eJ.mp hb with zb|zb
     ·exact absurd (za.trans zb.symm) hab
     ·exact .inl (by rw[za] at e ⊢;exact hx b zb e)
    ·rcases eJ.mp hb with zb|zb
     ·exact .inr (by rw[zb] at e ⊢;exact hx a za e.symm)
     ·exact ih a za b zb hab e
  exact key qs D.ap _ (hq i s h1) _ (hq j t h2) ne h3
 ·obtain⟨p,hp,e,_⟩:=D.ex k hk
  obtain⟨i,_,h2⟩:=bk p hp
  rw[e] at h2
  exact cE h2
 ·rcases D.full with z|⟨d,hd⟩
  ·exact .inl z
  ·refine .inr ⟨d,fun k hk=>?_⟩
   obtain⟨p,hp,e,h1,h2⟩:=hd k hk
   obtain⟨i,g1,g2⟩:=bk p hp
   rw[e] at g2
   exact⟨i,p.1,g1,g2,h1,h2⟩
theorem uf :∀{ps qs:List Q3},uc ps→uc qs→ps.Perm qs→ps=qs
 |[],qs,_,_,pm=>(List.Perm.nil_eq pm).symm▸rfl
 |p::ps,[],_,_,pm=>absurd pm.length_eq (by simp)
 |p::ps,q::qs,h1,h2,pm=>by
  have a1:=bz.mp h1
  have a2:=bz.mp h2
  have e:p=q:=by
   rcases eJ.mp (pm.mem_iff.mp (eH (a:=p))) with z|z
   ·exact z
   ·rcases eJ.mp (pm.mem_iff.mpr (eH (a:=q))) with y|y
    ·exact y.symm
    ·have b1:=bZ (a1.1 q y)
     have b2:=bZ (a2.1 p z)
     refine Prod.ext (Prod.ext ?_ ?_) ?_<;>omega
  subst e
  rw[uf a1.2 a2.2 (List.perm_cons _ |>.mp pm)]
end K76
set_option compiler.extract_closed false
set_option hygiene false in
local macro_rules
 |`(tactic| exists $f,$a)=>`(tactic| first|refine $f 0 $a ?_|refine $f 1 $a ?_|refine $f 2 $a ?_|refine $f 3 $a ?_|refine $f 4 $a ?_|refine $f 5 $a ?_|refine $f 6 $a ?_|refine $f 7 $a ?_|refine $f 8 $a ?_|refine $f 9 $a ?_|refine $f 10 $a ?_|refine $f 11 $a ?_|refine $f 12 $a ?_|refine $f 13 $a ?_|refine $f 14 $a ?_|refine $f 15 $a ?_|refine $f 16 $a ?_|refine $f 17 $a ?_)
set_option hygiene false in
local macro_rules
 |`(tactic| and_intros)=>`(tactic| repeat (first
  |((with_reducible show EvD _ _ _ _);first
   |((with_reducible show EvD _ _ (.Name _ _) _);exists zm,rfl)
   |((with_reducible show EvD _ _ (.Constant _ _ _) _);first|with_reducible refine yI ?_|with_reducible refine ev_str ?_|with_reducible refine ev_bl ?_|with_reducible refine ev_non ?_)
   |((with_reducible show EvD _ _ (.BinOp (.Constant (.int 10) _ _) .Pow (.Constant (.int 6) _ _) _) _);refine wb (r:=1000000) ⟨by decide,by decide,by decide⟩ (by decide) ?_)
   |((with_reducible show EvD _ _ (.BinOp (.Constant (.int 10) _ _) .Pow (.Constant (.int 12) _ _) _) _);refine wb (r:=1000000000000) ⟨by decide,by decide,by decide⟩ (by decide) ?_)
   |((with_reducible show EvD _ _ (.BinOp (.Constant (.int 10) _ _) .Pow (.Constant (.int 9) _ _) _) _);refine wb (r:=1000000000) ⟨by decide,by decide,by decide⟩ (by decide) ?_)
   |((with_reducible show EvD _ _ (.BinOp (.Constant (.int 10) _ _) .Pow (.Constant (.int 11) _ _) _) _);refine wb (r:=100000000000) ⟨by decide,by decide,by decide⟩ (by decide) ?_)
   |((with_reducible show EvD _ _ (.BinOp _ .Add (.List _ _) _) _);refine EvL.d (yM ?_))
   |((with_reducible show EvD _ _ (.BinOp (.List _ _) .Add _ _) _);refine EvL.d (yM ?_))
   |((with_reducible show EvD _ _ (.BinOp (.Subscript _ (.Slice _ _ none _) _) .Add _ _) _);refine EvL.d (yM ?_))
   |((with_reducible show EvD _ _ (.BinOp _ .Add (.Subscript _ (.Slice _ _ none _) _) _) _);refine EvL.d (yM ?_))
   |((with_reducible show EvD _ _ (.BinOp (.Call (.Attribute _ "rules" _) _ _ _) .Add _ _) _);refine EvL.d (yM ?_))
   |with_reducible refine rz ?_
   |with_reducible refine ni ?_
   |with_reducible refine mE ?_
   |with_reducible refine kD ?_
   |with_reducible refine ev_mul ?_
   |with_reducible refine ev_shl ?_
   |with_reducible refine ev_neg ?_
   |with_reducible refine ev_not ?_
   |with_reducible refine gr ?_
   |((with_reducible show EvD _ _ (.Subscript _ (.Slice _ _ none _) _) _);refine EvL.d (ny ?_))
   |((with_reducible show EvD _ _ (.Subscript _ _ _) _);refine iO hr.one (fun _ _=>rfl) ?_)
   |((with_reducible show EvD _ _ (.List _ _) _);refine EvL.d (xR ?_))
   |((with_reducible show EvD _ _ (.Call (.Name "len" _) [.Call (.Name "set" _) _ _ _] _ _) _);refine ev_lenSet rfl (by rfl) nb.len (by rfl) (by assumption) ?_)
   |((with_reducible show EvD _ _ (.Call (.Name "len" _) _ _ _) _);refine uG (by rfl) nb.len ?_)
   |((with_reducible show EvD _ _ (.Call (.Name "min" _) [_,_] _ _) _);refine rK rfl (by rfl) nb.min ?_)
   |((with_reducible show EvD _ _ (.Call (.Name "max" _) [_,_] _ _) _);refine ev_max rfl (by rfl) nb.max ?_)
   |((with_reducible show EvD _ _ (.Call (.Name "list" _) _ _ _) _);refine EvL.d (wC (by rfl) nb.list ?_))
   |((with_reducible show EvD _ _ (.Call (.Name "repr" _) _ _ _) _);refine ev_repr hr.gd hr.units (by rfl) nb.repr ?_)
   |((with_reducible show EvD _ _ (.Call (.Name "min" _) [_] _ _) _);refine ev_minI rfl hr.few (by rfl) nb.min ?_)
   |((with_reducible show EvD _ _ (.Call (.Name "isinstance" _) _ _ _) _);first|refine wR (by rfl) nb.isinstance (by rfl) nb.int boot_int ?_|refine wR (by rfl) nb.isinstance (by rfl) nb.bool boot_bool ?_|refine wR (by rfl) nb.isinstance (by rfl) nb.str boot_str ?_|refine wR (by rfl) nb.isinstance (by rfl) nb.list boot_list ?_|refine wR (by rfl) nb.isinstance (by rfl) nb.tuple boot_tuple ?_)
   |((with_reducible show EvD _ _ (.Call (.Name "int" _) _ _ _) _);refine ev_intB (by rfl) nb.int ?_)
   |((with_reducible show EvD _ _ (.Call (.Name _ _) _ _ _) _);first|refine kW (by with_reducible assumption) (by exact⟨rfl,rfl,rfl,rfl,rfl⟩) (hr.mono (by decide)) (by rfl) ?_|refine EvN.d (en_makeR (by with_reducible assumption) (by exact⟨rfl,rfl,rfl,rfl,rfl⟩) (hr.mono (by decide)) (by rfl) ?_))
   |((with_reducible show EvD _ _ (.Call (.Attribute _ _ _) (_::_) _ _) _);refine ev_methR (by with_reducible assumption) (by exact⟨rfl,rfl,rfl,rfl,rfl⟩) (hr.mono (by decide)) ?_)
   |((with_reducible show EvD _ _ (.Call (.Attribute _ _ _) [] _ _) _);refine ev_meth0R (by with_reducible assumption) (by exact⟨rfl,rfl,rfl,rfl,rfl⟩) (hr.mono (by decide)) ?_)
   |((with_reducible show EvD _ _ (.Compare _ [_] _ _) _);first|with_reducible refine ev_lt ?_|with_reducible refine ev_le ?_|with_reducible refine ev_gt ?_|with_reducible refine ev_ge ?_|with_reducible refine ev_isN ?_|with_reducible refine ev_notN ?_|((with_reducible show EvD _ _ (.Compare _ [.Eq] _ _) _);refine mq hr.units ?_)|((with_reducible show EvD _ _ (.Compare _ [.NotEq] _ _) _);refine ev_nek hr.units ?_)|((with_reducible show EvD _ _ (.Compare _ [.In] _ _) _);refine ev_ink hr.one ?_)|((with_reducible show EvD _ _ (.Compare _ [.NotIn] _ _) _);refine ev_nink hr.one ?_)|((with_reducible show EvD _ _ (.Compare _ [.Is] [.Constant (.bool _) _ _] _) _);refine ev_isB ?_))
   |((with_reducible show EvD _ _ (.Compare _ [_,_] _ _) _);first|refine ev_lelt ?_|refine ev_ltle ?_|refine ev_lele' ?_)
   |((with_reducible show EvD _ _ (.BoolOp _ _ _) _);first|with_reducible refine ev_and ?_|with_reducible refine ev_or ?_|with_reducible refine ev_one ?_)
   |with_reducible refine ev_ifx ?_)
  |((with_reducible show EvA _ _ _ _);first
   |with_reducible refine yd ?_
   |((with_reducible show EvA _ _ (.Name "_law_row" _::_) _);exists wD,rfl)
   |refine zI ?_)
  |((with_reducible show EvT _ _ _ _);first
   |((with_reducible show EvT _ _ (.Compare _ [_] _ _) _);first|with_reducible refine et_lt ?_|with_reducible refine fh ?_|with_reducible refine jq ?_|with_reducible refine jo ?_|with_reducible refine et_isN ?_|with_reducible refine et_notN ?_|((with_reducible show EvT _ _ (.Compare _ [.Eq] _ _) _);refine jN hr.units ?_)|((with_reducible show EvT _ _ (.Compare _ [.NotEq] _ _) _);refine rf hr.units ?_)|((with_reducible show EvT _ _ (.Compare _ [.In] _ _) _);refine et_ink hr.one ?_)|((with_reducible show EvT _ _ (.Compare _ [.NotIn] _ _) _);refine et_nink hr.one ?_)|((with_reducible show EvT _ _ (.Compare _ [.Is] [.Constant (.bool _) _ _] _) _);refine et_isB ?_)|((with_reducible show EvT _ _ (.Compare _ [.IsNot] [.Constant (.bool _) _ _] _) _);refine et_isntB ?_))
   |((with_reducible show EvT _ _ (.Compare _ [_,_] _ _) _);first|refine et_lelt ?_|refine et_ltle ?_|refine et_lele' ?_)
   |with_reducible refine gh ?_
   |((with_reducible show EvT _ _ (.BoolOp _ _ _) _);with_reducible refine EvW.t ?_)
   |refine nC ?_)
  |((with_reducible show EvL _ _ _ _);first
   |with_reducible refine xR ?_
   |((with_reducible show EvL _ _ (.Call (.Name "list" _) _ _ _) _);refine wC (by rfl) nb.list ?_)
   |((with_reducible show EvL _ _ (.Call (.Name _ _) _ _ _) _);refine el_calR (by with_reducible assumption) (by exact⟨rfl,rfl,rfl,rfl,rfl⟩) (hr.mono (by decide)) (by rfl) ?_)
   |((with_reducible show EvL _ _ (.Call (.Attribute _ _ _) [] _ _) _);refine el_meth0R (by with_reducible assumption) (by exact⟨rfl,rfl,rfl,rfl,rfl⟩) (hr.mono (by decide)) ?_)
   |((with_reducible show EvL _ _ (.Subscript _ (.Slice _ _ none _) _) _);refine ny ?_)
   |((with_reducible show EvL _ _ (.BinOp _ .Add _ _) _);refine yM ?_))
  |((with_reducible show EvW _ _ _ _);first
   |with_reducible refine nG ?_
   |with_reducible refine jn ?_
   |with_reducible refine kA ?_
   |with_reducible refine gp ?_)
  |((with_reducible show EvO _ _ _ _);first
   |with_reducible refine rX ?_
   |with_reducible refine qc ?_)
  |((with_reducible show lT _ _ _);first
   |refine ixk rfl rfl rfl ?_
   |refine ixk_0 ?_
   |refine ixk_1 ?_)
  |((with_reducible show InOk _ _ _ _);first
   |refine ink rfl rfl ?_
   |refine ink_hind ?_
   |refine inkT rfl rfl ?_)
  |((with_reducible show pK _ _ _);first
   |with_reducible refine jl ?_
   |with_reducible refine eqk_str ?_
   |with_reducible refine eqk_bool ?_
   |refine eqk rfl rfl rfl rfl ?_)
  |((with_reducible show SvS _ _ _ _);first
   |((with_reducible show SvS _ (List.set _ _ _) _ _);dsimp only[List.set])
   |((with_reducible show SvS _ _ (zL _) _);show SvS _ _ (_::_) _)
   |((with_reducible show SvS _ _ (.Assign [.Name _ _] (.List [] _) _::_) _);exists yg,nd)
   |((with_reducible show SvS _ _ (.Assign [.Name _ _] _ _::_) _);exists yJ,nd)
   |((with_reducible show SvS _ _ (.Expr (.Call (.Attribute _ "append" _) _ _ _) _::_) _);exists uC,rfl)
   |((with_reducible show SvS _ _ (.Return (some (.Name _ _)) _::_) _);exists uT,rfl)
   |with_reducible refine mZ ?_
   |with_reducible refine sv_cont ?_
   |with_reducible refine sv_pass ?_
   |with_reducible refine vo ?_
   |with_reducible refine zN ?_
   |((with_reducible refine qD ?hk ?_);case hk=>first|rfl|decide +kernel)
   |((with_reducible refine xg ?hk ?_);case hk=>first|rfl|decide +kernel))
  |((with_reducible show wc _ _);refine⟨_,rfl,by first|decide|omega,by first|decide|(show _<big;unfold big;omega),fun _ _ _=>?_⟩)
  |((with_reducible refine jA ?hk ?_);case hk=>first|rfl|decide +kernel)
  |((with_reducible refine jB ?hk ?_);case hk=>first|rfl|decide +kernel)
  |refine⟨_,_,rfl,rfl,?_⟩
  |refine⟨_,_,_,rfl,rfl,rfl,?_⟩
  |refine⟨_,rfl,bE rfl,?_⟩
  |refine⟨_,rfl,rfl,?_⟩
  |refine⟨_,rfl,?_⟩))
namespace K76
open PySem PySem.Spec PyProof.Rows L2 SortA
abbrev nc :Stmt:=top 1
abbrev rp :Stmt:=top 2
def nX :List A→(A→Prop)→Prop:=fun as Q=>∃(E:List Int) (c:Int),as=[.dat (.list (E.map .int)),.dat (.int c)]∧E.length≤1000∧Q (.dat (.int (ffr E c:Nat)))
def qR :List A→(A→Prop)→Prop:=fun as Q=>∃ss:List (Int×Int),as=[.dat (.list (ss.map dP))]∧sO ss∧ss.length≤40∧∀qs,qs.Perm (plQ ss)→uc qs→Q (.own ((zJ ss qs).map .int))
theorem xW {ι:Type}(g:ι→PyData):∀(l:List ι) (n:Nat),xm n (l.map g)=(l.zipIdx n).map fun p=>.tuple [.int (p.2:Nat),g p.1]
 |[],n=>rfl
 |x::l,n=>by
  rw[dG,List.zipIdx_cons,dG]
  show _::xm (n+1) (l.map g)=_
  rw[xW g l (n+1)]
theorem vZ (q:Q3):∀(qs:List Q3) (s:List Int×List Int),yC (qs++[q]) s=((yC qs s).1.set q.2.toNat (ffr (yC qs s).2 q.1.1),stE (yC qs s).2 q.1.1 q.1.2)
 |[],s=>rfl
 |p::qs,s=>vZ q qs _
theorem qv (E:List Int)(c g:Int):(stE E c g).length≤E.length+1:=by
 unfold stE
 rw[eW,eW,dN,cC,List.length_singleton]
 omega
theorem tI :∀(qs:List Q3) (s:List Int×List Int),(yC qs s).1.length=s.1.length∧(yC qs s).2.length≤s.2.length+qs.length
 |[],s=>⟨rfl,eG _⟩
 |q::qs,s=>by
  obtain⟨h1,h2⟩:=tI qs (s.1.set q.2.toNat (ffr s.2 q.1.1),stE s.2 q.1.1 q.1.2)
  have:=qv s.2 q.1.1 q.1.2
  refine⟨h1.trans (dA ..),?_⟩
  rw[df]
  show (yC qs _).2.length≤_
  have h3:(yC qs (s.1.set q.2.toNat (ffr s.2 q.1.1),stE s.2 q.1.1 q.1.2)).2.length≤(stE s.2 q.1.1 q.1.2).length+qs.length:=h2
  omega
theorem iu {ds:List PyData}{r:Nat}:L2.cutD ds none (some (r:Int))=ds.take r:=by
 unfold L2.cutD
 rw[HT.qk,HT.tX,List.drop_zero,Nat.sub_zero]
 rcases Nat.le_total r ds.length with h|h
 ·rw[bX h]
 ·rw[Nat.min_eq_right h,cN,aa h]
theorem mS (ds:List PyData)(n:Nat):L2.cutD ds (some ((n:Nat):Int)) none=ds.drop n:=by
 unfold L2.cutD
 rw[HT.qk,HT.tX]
 rcases Nat.le_total n ds.length with h|h
 ·rw[bX h,aa (by rw[cC];exact eG _)]
 ·rw[Nat.min_eq_right h,bo,List.take_nil,List.drop_eq_nil_of_le h]
theorem sv (l:List Int):L2.uX (l.map .int)=true:=by
 induction l with
 |nil=>rfl
 |cons a l ih=>rw[dG,L2.uX,ih];rfl
section
variable {P:Program}{w:World}{K:PySem.W.Frag}{mg:Str→Option Value}{base:Heap}
theorem fC :zH ["ends","day","room","end"] ["ends","day"] (zg nc):=⟨rfl,rfl,rfl,by decide +kernel,rfl,by decide +kernel,by decide +kernel⟩
theorem nB {f:Addr}{fd:FuncData}(F:Fun K "first_free" "first_free" nc f fd)(hm:mg "first_free"=some (.ref f))(hb:Binds K fd ["ends","day"] [])(nb:NbT mg):Cal P w K mg base "first_free" 1 nX:=by
 refine rH F hm hb fC (fun as Q h=>?_) (fun cdv A' outer s H Ex as Q hr h=>?_)
 ·obtain⟨_,_,rfl,_⟩:=h
  rfl
 ·obtain⟨E,c,rfl,le,q⟩:=h
  have nd:=fC.nd
  refine wB (.many [2,3]) (qw (by rfl) nb.enumerate (zm 0 rfl ⟨_,rfl,?_⟩))
  rw[xW]
  refine yQ (fun i α=>∃o2 o3:Option A,α=[some (.dat (.list (E.map .int))),some (.dat (.int c)),o2,o3]∧∀e∈E.take i,c<e) ⟨none,none,rfl,fun e he=>by simp at he⟩ ?_ ?_
  ·rintro i x α hx ⟨o2,o3,rfl,hi0⟩
   rw[dy,dB] at hx
   obtain⟨⟨e,j⟩,hu,rfl⟩:=hx
   rw[List.getElem?_zipIdx,dB] at hu
   obtain⟨e',hu,ej⟩:=hu
   cases ej
   rw[aC]
   refine⟨_,rfl,?_⟩
   and_intros
   have hi:=(eS.mp hu)
   have hil:=hi.1
   refine qz (fun h=>?_) (fun h=>?_)
   ·and_intros
    have:ffr E c=i:=(List.findIdx_eq hi.1).mpr ⟨by rw[hi.2];exact h,fun j hj=>by
     have hjl:j<E.length:=by omega
     have:=hi0 E[j] (List.mem_take_iff_getElem.mpr ⟨j,by omega,rfl⟩)
     exact eZ (by omega)⟩
    rw[←this]
    exact q
   ·and_intros
    refine⟨_,_,rfl,fun e he=>?_⟩
    rw[aO,hu] at he
    rcases dg.mp he with z|z
    ·exact hi0 e z
    ·simp at z
     have:=bZ h
     omega
  ·rintro α ⟨o2,o3,rfl,hi0⟩
   rw[eD,aH,cN] at hi0
   and_intros
   rw[eD]
   have:ffr E c=E.length:=List.findIdx_eq_length.mpr fun e he=>eZ (by have:=hi0 e he;omega)
   rw[←this]
   exact q
theorem gG :zH ["stays","rooms","ends","stay","place","room"] ["stays"] (zg rp):=⟨rfl,rfl,rfl,by decide +kernel,rfl,by decide +kernel,by decide +kernel⟩
theorem pW {f:Addr}{fd:FuncData}(F:Fun K "dealt" "dealt" rp f fd)(hm:mg "dealt"=some (.ref f))(hb:Binds K fd ["stays"] [])(nb:NbT mg)(CF:Cal P w K mg base "first_free" 1 nX):Cal P w K mg base "dealt" 2 qR:=by
 refine rH F hm hb gG (fun as Q h=>?_) (fun cdv A' outer s H Ex as Q hr h=>?_)
 ·obtain⟨_,rfl,_⟩:=h
  rfl
 ·obtain⟨ss,rfl,ok,le,q⟩:=h
  have nd:=gG.nd
  refine jI 1 ["stay"] [none] (.one 0) (xD (zm 0 rfl ⟨_,rfl,?_⟩))
  refine⟨by rw[eD];omega,?_⟩
  refine yA (fun _=>.int 0) (fun d hd=>⟨_,rfl,fun _ _ _ _ _ k=>?_⟩) ?_
  ·and_intros
   exact k
  rw[bF,show ss.map (fun _=>PyData.int 0)=(List.replicate ss.length (0:Int)).map .int by rw[List.map_const',List.map_replicate]]
  refine yg 2 nd (xR (yd ⟨_,rfl,bE rfl,?_⟩))
  refine wB (.many [3,4]) (xD (EvL.d (rF hr.units (by rfl) nb.sorted (EvL.d (vf ["place","stay"] [none,none] (.many [0,1]) (qw (by rfl) nb.enumerate (zm 0 rfl ⟨_,rfl,?_⟩)))))))
  rw[xW]
  refine⟨by rw[eD,aH];omega,?_⟩
  refine yA (fun p=>dQ (p.1,((p.2:Nat):Int))) (fun d hd=>⟨_,rfl,fun _ _ _ _ _ k=>?_⟩) ?_
  ·and_intros
   exact k
  rw[bF]
  refine⟨plQ ss,by unfold plQ;rw[List.map_map]<;>rfl,by unfold plQ;rw[eD,aH];omega,fun qs pm rs=>⟨_,rfl,?_⟩⟩
  have qn:qs.length=ss.length:=by rw[pm.length_eq];unfold plQ;rw[eD,aH]
  refine yQ (fun i α=>∃o3 o4 o5:Option A,α=[some (.dat (.list (ss.map dP))),some (.own ((yC (qs.take i) (List.replicate ss.length 0,[])).1.map .int)),some (.own ((yC (qs.take i) (List.replicate ss.length 0,[])).2.map .int)),o3,o4,o5]) ⟨none,none,none,rfl⟩ ?_ ?_
  ·rintro i x α hx ⟨o3,o4,o5,rfl⟩
   rw[dy,dB] at hx
   obtain⟨p,hu,rfl⟩:=hx
   have ex:qs.take (i+1)=qs.take i++[p]:=by rw[aO,hu];rfl
   rw[ex,vZ]
   have dl:=tI (qs.take i) (List.replicate ss.length 0,[])
   have ti:(qs.take i).length≤40:=by rw[dN];omega
   obtain⟨d1,d2⟩:=dl
   have d1:(yC (qs.take i) (List.replicate ss.length 0,[])).1.length=ss.length:=d1.trans (by simp)
   have d2:(yC (qs.take i) (List.replicate ss.length 0,[])).2.length≤40:=dZ d2 (by simpa using ti)
   generalize yC (qs.take i) (List.replicate ss.length 0,[])=S at d1 d2 ⊢
   obtain⟨R,E⟩:=S
   have d1:R.length=ss.length:=d1
   have d2:E.length≤40:=d2
   obtain⟨j,g1,g2⟩:=wF.mp (pm.mem_iff.mp (cE hu))
   have hj:=(eS.mp g1).1
   refine⟨_,rfl,?_⟩
   refine yJ 5 nd (uQ 2 rfl (wa CF (hr.mono (by decide)) (by rfl) (zI (zm 2 rfl (zI ?_)))))
   and_intros
   refine⟨E,p.1.1,rfl,by omega,rfl,?_⟩
   refine iY 1 rfl (zm 5 rfl (zm 4 rfl ⟨_,p.2.toNat,rfl,?_,?_⟩))
   ·unfold ixN
    rw[if_pos (by omega),eD,if_pos (by omega)]
   show SvS _ [some (.dat (.list (ss.map dP))),some (.own ((R.map PyData.int).set p.2.toNat (.int (ffr E p.1.1:Nat)))),some (.own (E.map .int)),some (.dat (.tuple [.int p.1.1,.int p.1.2])),some (.dat (.int p.2)),some (.dat (.int (ffr E p.1.1:Nat)))] _ _
   rw[show (R.map PyData.int).set p.2.toNat (.int (ffr E p.1.1:Nat))=(R.set p.2.toNat (ffr E p.1.1:Nat)).map .int by rw[List.map_set]]
   have hl:=qv E p.1.1 p.1.2
   have e1:(E.map PyData.int).take (ffr E p.1.1)++[.int p.1.2]++(E.map PyData.int).drop (ffr E p.1.1+1)=(stE E p.1.1 p.1.2).map .int:=by
    unfold stE
    rw[za2,za2,List.map_take,List.map_drop]
    rfl
   have l1:((E.map PyData.int).take (ffr E p.1.1)).length≤40:=by rw[dN,eD];omega
   have l2:((E.map PyData.int).drop (ffr E p.1.1+1)).length≤40:=by rw[cC,eD];omega
   refine yg 2 nd (qK 2 rfl (yM (EvL.d (yM (EvL.d (ny (zm 2 rfl (rX (qc ?_)))))))))
   and_intros
   rw[iu]
   refine⟨by show _+1≤1000;omega,?_⟩
   and_intros
   rw[show ((ffr E p.1.1:Nat):Int)+1=((ffr E p.1.1+1:Nat):Int) from rfl,mS]
   refine⟨by rw[eW];show _+1+_≤1000;omega,?_⟩
   show uX ((E.map PyData.int).take (ffr E p.1.1)++[.int p.1.2]++(E.map PyData.int).drop (ffr E p.1.1+1))=true∧SvS _ [some (.dat (.list (ss.map dP))),some (.own ((R.set p.2.toNat (ffr E p.1.1:Nat)).map .int)),some (.own ((E.map PyData.int).take (ffr E p.1.1)++[.int p.1.2]++(E.map PyData.int).drop (ffr E p.1.1+1))),_,_,_] _ _
   rw[e1]
   exact⟨sv _,zN ⟨_,_,_,rfl⟩⟩
  ·rintro α ⟨o3,o4,o5,rfl⟩
   rw[eD,cN]
   exact uT 1 rfl (q qs pm rs)
end
abbrev nh :Stmt:=top 7
abbrev sW :Stmt:=top 8
abbrev uZ :Stmt:=top 9
structure S1 (s:Int×Int):Prop where
 c0:0≤s.1
 cg:s.1<s.2
 g14:s.2≤s.1+14
 g1:s.2≤1000000
def oY :List A→(A→Prop)→Prop:=fun as Q=>as=[.tape]∧∀y:Int,0≤y→y≤999989→Q (.dat (.int y))
def qf :List A→(A→Prop)→Prop:=fun as Q=>∃y:Int,as=[.tape,.dat (.int y)]∧0≤y∧y≤999999∧∀s,S1 s→Q (.dat (dP s))
def qH :List A→(A→Prop)→Prop:=fun as Q=>as=[.tape]∧∀ss,sO ss→ss.length≤40→Q (.own (ss.map dP))
theorem gf {ss:List (Int×Int)}{s:Int×Int}(ok:sO ss)(h:S1 s)(j:Int):∃ss',xi (ss.map dP) j (dP s)=ss'.map dP∧sO ss'∧ss'.length=ss.length+1:=by
 refine⟨xi ss j s,?_,fun t ht=>?_,su ..⟩
 ·unfold xi
  rw[za2,dG,List.map_take,List.map_drop,eD]
 ·unfold xi at ht
  rcases dg.mp ht with z|z
  ·exact ok t (cj z)
  ·rcases eJ.mp z with rfl|z
   ·exact⟨h.c0,h.cg,h.g14,h.g1⟩
   ·exact ok t (cc z)
section
variable {P:Program}{w:World}{K:PySem.W.Frag}{mg:Str→Option Value}{base:Heap}
theorem fc :zH ["_law_row"] ["_law_row"] (zg nh):=⟨rfl,rfl,rfl,by decide +kernel,rfl,by decide +kernel,by decide +kernel⟩
theorem mn {f:Addr}{fd:FuncData}(F:Fun K "_law_day" "_law_day" nh f fd)(hm:mg "_law_day"=some (.ref f))(hb:Binds K fd ["_law_row"] [])(CD:Cal P w K mg base "_law_take" 1 wc):Cal P w K mg base "_law_day" 2 oY:=by
 refine rH F hm hb fc (fun as Q h=>?_) (fun cdv A' outer s H E as Q hr h=>?_)
 ·obtain⟨rfl,_⟩:=h
  rfl
 ·obtain⟨rfl,q⟩:=h
  have nd:=fc.nd
  and_intros
  rename_i v1 h1 g1 v2 h2 g2 v3 h3 g3 v4 h4 g4
  refine qX (fun d=>∃y:Int,d=.int y∧0≤y∧y≤999989) rfl h4 g4 ⟨⟨_,rfl,by decide,by decide⟩,⟨_,rfl,h1,by omega⟩,⟨_,rfl,by decide,by decide⟩,⟨_,rfl,by omega,by omega⟩,⟨_,rfl,h3,by omega⟩,trivial⟩ (fun d ⟨yy,e,yy0,yy1⟩=>?_)
  subst e
  exact q yy yy0 yy1
theorem gP :zH ["_law_row","_law_day_here","_law_come","_law_nights"] ["_law_row","_law_day_here"] (zg sW):=⟨rfl,rfl,rfl,by decide +kernel,rfl,by decide +kernel,by decide +kernel⟩
theorem pY {f:Addr}{fd:FuncData}(F:Fun K "_law_stay" "_law_stay" sW f fd)(hm:mg "_law_stay"=some (.ref f))(hb:Binds K fd ["_law_row","_law_day_here"] [])(nb:NbT mg)(CD:Cal P w K mg base "_law_take" 1 wc):Cal P w K mg base "_law_stay" 2 qf:=by
 refine rH F hm hb gP (fun as Q h=>?_) (fun cdv A' outer s H E as Q hr h=>?_)
 ·obtain⟨y,rfl,_⟩:=h
  rfl
 ·obtain⟨y,rfl,y0,y1,q⟩:=h
  have nd:=gP.nd
  refine vc (fun α=>∃c:Int,0≤c∧c≤999999∧α=[some .tape,some (.dat (.int y)),some (.dat (.int c)),none]) ?_ ?_
  ·refine yJ 2 nd (rK rfl (by rfl) nb.min ?_)
   and_intros
   rename_i v1 h1 g1
   refine⟨_,?_,?_,rfl⟩
   ·split<;>omega
   ·split<;>omega
  rintro α ⟨c,c0,c1,rfl⟩
  refine vc (fun α=>∃k:Int,1≤k∧k≤14∧α=[some .tape,some (.dat (.int y)),some (.dat (.int c)),some (.dat (.int k))]) ?_ ?_
  ·refine yJ 3 nd ?_
   and_intros
   rename_i v1 h1 g1 v2 h2 g2 v3 h3 g3
   refine⟨⟨by decide,by decide +kernel⟩,?_⟩
   refine qX (fun d=>∃y:Int,d=.int y∧0≤y∧y≤13) rfl (by omega) (by show v3 / 2<3;omega) ⟨⟨_,rfl,h1,by omega⟩,⟨_,rfl,h2,by omega⟩,⟨_,rfl,by decide,by decide⟩,trivial⟩ (fun d ⟨yy,e,yy0,yy1⟩=>?_)
   subst e
   and_intros
   exact⟨_,by omega,by omega,rfl⟩
  rintro α ⟨k,k0,k1,rfl⟩
  and_intros
  have key:∀g:Int,(c<g∧g≤c+14∧g≤1000000)→Q (.dat (.tuple [.int c,.int g])):=fun g h=>q (c,g) ⟨c0,h.1,h.2.1,h.2.2⟩
  exact key _ (by split<;>omega)
abbrev nSt :List Str:=["_law_row","_law_day_here","_law_found","_law_k","_law_stay_here","_law_other"]
theorem fD :zH nSt ["_law_row"] (zg uZ):=⟨rfl,rfl,rfl,by decide +kernel,rfl,by decide +kernel,by decide +kernel⟩
theorem sS {f:Addr}{fd:FuncData}(F:Fun K "_law_stays" "_law_stays" uZ f fd)(hm:mg "_law_stays"=some (.ref f))(hb:Binds K fd ["_law_row"] [])(nb:NbT mg)(CD:Cal P w K mg base "_law_take" 1 wc)(CY:Cal P w K mg base "_law_day" 2 oY)(CS:Cal P w K mg base "_law_stay" 2 qf):Cal P w K mg base "_law_stays" 3 qH:=by
 refine rH F hm hb fD (fun as Q h=>?_) (fun cdv A' outer s H E as Q hr h=>?_)
 ·obtain⟨rfl,_⟩:=h
  rfl
 ·obtain⟨rfl,q⟩:=h
  have nd:=fD.nd
  have hbig:(1000:Int)<big:=by decide
  refine yJ 1 nd (wa CY (hr.mono (by decide)) (by rfl) (wD 0 rfl (yd ⟨rfl,fun y y0 y1=>?_⟩)))
  refine yg 2 nd (xR (yd ⟨_,rfl,bE rfl,?_⟩))
  refine wB (.one 3) (oS (by rfl) nb.range ?_)
  and_intros
  rename_i v1 h1 g1 v2 h2 g2 v3 h3 g3
  refine qX (fun d=>∃y:Int,d=.int y∧0≤y∧y≤40) rfl h3 g3 ⟨⟨_,rfl,h1,by omega⟩,⟨_,rfl,h2,by omega⟩,trivial⟩ (fun d ⟨n,e,n0,n1⟩=>?_)
  subst e
  refine⟨n,rfl,by omega,by omega,?_⟩
  refine yQ (fun i α=>∃(ss:List (Int×Int)) (o3 o4 o5:Option A),sO ss∧ss.length≤i∧α=[some .tape,some (.dat (.int y)),some (.own (ss.map dP)),o3,o4,o5]) ⟨[],none,none,none,fun s hs=>by simp at hs,dM _,rfl⟩ ?_ ?_
  ·rintro i d α hd ⟨ss,o3,o4,o5,ok,le,rfl⟩
   have hi:=(eS.mp hd).1
   rw[eD,zq] at hi
   refine⟨_,rfl,?_⟩
   refine yJ 4 nd (wa CS (hr.mono (by decide)) (by rfl) (wD 0 rfl (zI (rK rfl (by rfl) nb.min ?_))))
   and_intros
   rename_i v4 h4 g4
   refine⟨by split<;>omega,by split<;>omega,fun s0 k0=>?_⟩
   refine vc (fun α=>∃(s:Int×Int) (o5:Option A),S1 s∧α=[some .tape,some (.dat (.int y)),some (.own (ss.map dP)),some (.dat d),some (.dat (dP s)),o5]) ?_ ?_
   ·refine vo (EvT.imp (Q':=fun c=>c=true→0<ss.length) ?_ fun c hc=>?_)
    ·refine rY 2 rfl (EvW.t (nG ?_))
     and_intros
     refine eqk (xZ ss) (by decide +kernel) (xQ ss) (by decide +kernel) ?_
     cases ss with
     |nil=>exact jB (by decide +kernel) (fun z=>by cases z)
     |cons s r=>
      refine jA (by rfl) ?_
      and_intros
      exact fun _=>Nat.succ_pos _
    cases c with
    |false=>exact xg rfl (zN (zN ⟨s0,_,k0,rfl⟩))
    |true=>
    have pos:=hc rfl
    refine qD rfl ?_
    refine vc (fun α=>∃t:Int×Int,S1 t∧α=[some .tape,some (.dat (.int y)),some (.own (ss.map dP)),some (.dat d),some (.dat (dP s0)),some (.dat (dP t))]) ?_ ?_
    ·refine yJ 5 nd (uQ 2 rfl ?_)
     and_intros
     refine⟨by rw[eD];omega,by rw[eD];omega,fun v v0 v1=>?_⟩
     rw[eD] at v1
     have hv:v.toNat<ss.length:=by omega
     refine ixk rfl rfl (show L2.atI (ss.map dP) v=some (dP ss[v.toNat]) from ?_) ⟨rfl,zN ⟨ss[v.toNat],?_,rfl⟩⟩
     ·unfold L2.atI ixN
      rw[if_pos v0,eD,if_pos (by omega)]
      show (ss.map dP)[v.toNat]?=_
      rw[dy,eL hv]
      rfl
     ·obtain⟨k1,k2,k3,k4⟩:=ok _ (bp hv)
      exact⟨k1,k2,k3,k4⟩
    rintro α ⟨t,kt,rfl⟩
    refine vc (fun α=>∃u:Int×Int,(u=t∨u.1=t.2∧t.2<u.2∧u.2≤t.2+14)∧α=[some .tape,some (.dat (.int y)),some (.own (ss.map dP)),some (.dat d),some (.dat (dP u)),some (.dat (dP t))]) ?_ ?_
    ·refine yJ 4 nd ?_
     and_intros
     rename_i v5 h5 g5 v6 h6 g6
     refine qX (fun z=>∃u:Int×Int,z=dP u∧(u=t∨u.1=t.2∧t.2<u.2∧u.2≤t.2+14)) rfl h6 g6 ⟨⟨t,rfl,.inl rfl⟩,⟨(t.2,t.2+1+v5),rfl,.inr ⟨rfl,?_,?_⟩⟩,trivial⟩ (fun z ⟨u,e,hu⟩=>?_)
     ·show t.2<t.2+1+v5
      omega
     ·show t.2+1+v5≤t.2+14
      omega
     subst e
     exact zN ⟨u,hu,rfl⟩
    rintro α ⟨u,hu,rfl⟩
    and_intros
    obtain⟨k1,k2,k3,k4⟩:=kt
    refine qz (fun z=>?_) (fun z=>?_)
    ·and_intros
     exact⟨t,_,⟨k1,k2,k3,k4⟩,rfl⟩
    ·have z:=bZ z
     refine zN (zN (zN ⟨u,_,?_,rfl⟩))
     rcases hu with rfl|⟨h1,h2,h3⟩
     ·exact⟨k1,k2,k3,k4⟩
     ·exact⟨by omega,by omega,by omega,by omega⟩
   rintro α ⟨u,o5,ku,rfl⟩
   refine pU 2 rfl (wa CD (hr.mono (by decide)) (by rfl) (wD 0 rfl (zI (uQ 2 rfl (rz (uG (by rfl) nb.len (zm 2 rfl ⟨_,rfl,yI ⟨_,_,rfl,rfl,rfl,yd ⟨_,rfl,by omega,by rw[eD];omega,fun k k0 k1=>zm 4 rfl ⟨k,rfl,by omega,?_,by rw[eD];omega,zN ?_⟩⟩⟩⟩)))))))
   ·rw[eD] at k1;omega
   obtain⟨ss',e1,e2,e3⟩:=gf ok ku k
   rw[e1]
   exact⟨ss',_,_,_,e2,by omega,rfl⟩
  ·rintro α ⟨ss,o3,o4,o5,ok,le,rfl⟩
   rw[eD,zq] at le
   exact uT 2 rfl (q ss ok (by omega))
end
def ntP (p:(Int×Int)×Int):List (Int×Int):=(zx p.1.1 (p.1.2-p.1.1).toNat).map fun d=>(d,p.2)
def nts (ss:List (Int×Int))(R:List Int):List (Int×Int):=(ss.zip R).flatMap ntP
theorem wV {lo z:Int}{n:Nat}:z∈zx lo n↔lo≤z∧z<lo+n:=by
 unfold zx
 rw[bB]
 constructor
 ·rintro⟨i,hi,rfl⟩
  have:=cO.mp hi
  omega
 ·rintro⟨h1,h2⟩
  exact⟨(z-lo).toNat,cO.mpr (by omega),by omega⟩
theorem oU (lo:Int)(n:Nat):(zx lo n).Pairwise (·<·):=by
 unfold zx
 rw[cZ]
 exact (aS (n:=n)).imp fun {a b} h=>by omega
theorem mW (lo:Int)(n:Nat):(zx lo n).Nodup:=(oU lo n).imp fun {a b} h e=>by omega
theorem uK {p:(Int×Int)×Int}{x:Int×Int}:x∈ntP p↔p.1.1≤x.1∧x.1<p.1.2∧x.2=p.2:=by
 unfold ntP
 rw[bB]
 constructor
 ·rintro⟨d,hd,rfl⟩
  have:=wV.mp hd
  exact⟨this.1,by show d<p.1.2;omega,rfl⟩
 ·rintro⟨h1,h2,h3⟩
  exact⟨x.1,wV.mpr (by omega),by rw[←h3]⟩
theorem qo {ss:List (Int×Int)}{R:List Int}{x:Int×Int}:x∈nts ss R↔∃(i:Nat) (s:Int×Int),ss[i]?=some s∧R[i]?=some x.2∧s.1≤x.1∧x.1<s.2:=by
 unfold nts
 rw[List.mem_flatMap]
 constructor
 ·rintro⟨p,hp,hx⟩
  obtain⟨i,hi⟩:=List.mem_iff_getElem?.mp hp
  obtain⟨a1,a2⟩:=cx.mp hi
  obtain⟨h1,h2,h3⟩:=uK.mp hx
  exact⟨i,p.1,a1,by rw[h3];exact a2,h1,h2⟩
 ·rintro⟨i,s,h1,h2,h3,h4⟩
  exact⟨(s,x.2),List.mem_iff_getElem?.mpr ⟨i,cx.mpr ⟨h1,h2⟩⟩,uK.mpr ⟨h3,h4,rfl⟩⟩
section
variable {ss:List (Int×Int)}{R:List Int}{m:Nat}
theorem vT (h:Rms ss R m):(nts ss R).Nodup:=by
 unfold nts List.Nodup
 rw[List.pairwise_flatMap]
 refine⟨fun p _=>?_,?_⟩
 ·unfold ntP
  rw[cZ]
  exact (oU _ _).imp fun {a b} z e=>by
   injection e with e _
   omega
 ·rw[cR]
  intro i j hi hj hij x hx y hy e
  subst e
  have a1:=cx.mp (eL hi)
  have a2:=cx.mp (eL hj)
  obtain⟨b1,b2,b3⟩:=uK.mp hx
  obtain⟨c1,c2,c3⟩:=uK.mp hy
  have:=h.ap i j hij _ _ a1.1 a2.1 (by rw[a1.2,a2.2,←b3,←c3])
  omega
def yo (ss:List (Int×Int))(R:List Int):List Int:=(nts ss R).map (·.1)
theorem ng (d:Int):(yo ss R).count d=((nts ss R).filter fun x=>x.1 == d).length:=by
 unfold yo
 rw[List.count_eq_countP,List.countP_map,List.countP_eq_length_filter]
 rfl
theorem mJ (h:Rms ss R m)(d:Int):(yo ss R).count d≤m:=by
 rw[ng]
 have nd:(((nts ss R).filter fun x=>x.1 == d).map (·.2)).Nodup:=by
  unfold List.Nodup
  rw[cZ]
  refine ((vT h).sublist List.filter_sublist).imp_of_mem fun {a b} ha hb hab e=>hab ?_
  have e1:=(bC.mp ha).2
  have e2:=(bC.mp hb).2
  exact Prod.ext ((eq_of_beq e1).trans (eq_of_beq e2).symm) e
 have:=vA _ (zx 0 m) nd fun r hr=>by
  obtain⟨x,hx,rfl⟩:=bB.mp hr
  obtain⟨i,s,_,h2,_⟩:=qo.mp (bC.mp hx).1
  have:=h.lt _ (cE h2)
  exact wV.mpr (by omega)
 rwa [eD,zq] at this
theorem iB (h:Rms ss R m)(m0:0<m):∃d,(yo ss R).count d=m:=by
 rcases h.full with z|⟨d,hd⟩
 ·omega
 ·refine⟨d,Nat.le_antisymm (mJ h d) ?_⟩
  rw[ng]
  have nd:((zx 0 m).map fun r=>(d,r)).Nodup:=by
   unfold List.Nodup
   rw[cZ]
   exact (mW 0 m).imp fun {a b} z e=>z (by injection e)
  have:=vA _ ((nts ss R).filter fun x=>x.1 == d) nd fun x hx=>by
   obtain⟨r,hr,rfl⟩:=bB.mp hx
   have hr:=wV.mp hr
   obtain⟨i,s,h1,h2,h3,h4⟩:=hd r.toNat (by omega)
   rw[show ((r.toNat:Nat):Int)=r by omega] at h2
   exact bC.mpr ⟨qo.mpr ⟨i,s,h1,h2,h3,h4⟩,by simp⟩
  rwa [eD,zq] at this
theorem fold_max :∀(l:List Int) (b:Int),(l.foldl (fun b x=>if b<x then x else b) b=b∨l.foldl (fun b x=>if b<x then x else b) b∈l)∧b≤l.foldl (fun b x=>if b<x then x else b) b∧∀x∈l,x≤l.foldl (fun b x=>if b<x then x else b) b
 |[],b=>⟨.inl rfl,cK _,fun x hx=>by simp at hx⟩
 |y::l,b=>by
  rw[List.foldl_cons]
  obtain⟨h1,h2,h3⟩:=fold_max l (if b<y then y else b)
  refine⟨?_,?_,fun x hx=>?_⟩
  ·rcases h1 with z|z
   ·rw[z]
    split
    ·exact .inr eH
    ·exact .inl rfl
   ·exact .inr (eK _ z)
  ·refine cL ?_ h2
   split<;>omega
  ·rcases eJ.mp hx with rfl|hx
   ·refine cL ?_ h2
    split<;>omega
   ·exact h3 x hx
theorem gq {l:List Int}{M:Int}(h1:∀x∈l,x≤M)(h2:M∈l):uY l=M:=by
 cases l with
 |nil=>simp at h2
 |cons z zs=>
  obtain⟨a1,a2,a3⟩:=fold_max zs z
  show List.foldl _ z zs=M
  have:List.foldl (fun b x=>if b<x then x else b) z zs≤M:=by
   rcases a1 with e|e
   ·rw[e];exact h1 z eH
   ·exact h1 _ (eK _ e)
  rcases eJ.mp h2 with rfl|e
  ·omega
  ·have:=a3 M e
   omega
theorem kP (h:Rms ss R m){ys:List Int}(hy:∀k,k∈ys↔k∈yo ss R):mxD 0 (ys.map fun d=>(((yo ss R).count d:Nat):Int))=m:=by
 unfold mxD
 rcases Nat.eq_zero_or_pos m with z|z
 ·have rn:R=[]:=by
   cases R with
   |nil=>rfl
   |cons r R=>have:=h.lt r eH;omega
  have yn:ys=[]:=by
   cases ys with
   |nil=>rfl
   |cons y ys=>
    have:=(hy y).mp eH
    unfold yo nts at this
    rw[rn,List.zip_nil_right] at this
    simp at this
  rw[yn,z]
  rfl
 ·obtain⟨d,hd⟩:=iB h z
  have hm:d∈yo ss R:=List.count_pos_iff.mp (by omega)
  have hm2:((m:Nat):Int)∈ys.map fun d=>(((yo ss R).count d:Nat):Int):=bB.mpr ⟨d,(hy d).mpr hm,by rw[hd]⟩
  rw[if_neg fun e=>by rw[e] at hm2;simp at hm2]
  refine gq (fun x hx=>?_) hm2
  obtain⟨y,_,rfl⟩:=bB.mp hx
  have:=mJ h y
  omega
theorem me :∀{xs ys:List Int},xs.Pairwise (·<·)→ys.Pairwise (·<·)→(∀k,k∈xs↔k∈ys)→xs=ys
 |[],[],_,_,_=>rfl
 |[],y::ys,_,_,h=>absurd ((h y).mpr eH) (by simp)
 |x::xs,[],_,_,h=>absurd ((h x).mp eH) (by simp)
 |x::xs,y::ys,h1,h2,h=>by
  have a1:=bz.mp h1
  have a2:=bz.mp h2
  have e:x=y:=by
   rcases eJ.mp ((h x).mp eH) with z|z
   ·exact z
   ·rcases eJ.mp ((h y).mpr eH) with w|w
    ·exact w.symm
    ·have:=a2.1 x z
     have:=a1.1 y w
     omega
  subst e
  rw[me a1.2 a2.2 fun k=>⟨fun hk=>?_,fun hk=>?_⟩]
  ·rcases eJ.mp ((h k).mp (eK _ hk)) with z|z
   ·have:=a1.1 k hk;omega
   ·exact z
  ·rcases eJ.mp ((h k).mpr (eK _ hk)) with z|z
   ·have:=a2.1 k hk;omega
   ·exact z
theorem oP (h:Rms ss R m){ys:List Int}(hy:∀k,k∈ys↔k∈R)(pw:ys.Pairwise (·<·)):ys=zx 0 m:=me pw (oU 0 m) fun k=>by
 rw[hy,wV]
 constructor
 ·intro hk
  have:=h.lt k hk
  omega
 ·intro hk
  have:=h.ex k.toNat (by omega)
  rwa [show ((k.toNat:Nat):Int)=k by omega] at this
theorem jd (ok:sO ss)(le:ss.length≤40):(nts ss R).length≤560:=by
 have key:∀(ss:List (Int×Int)) (R:List Int),(∀s∈ss,s.2≤s.1+14)→(nts ss R).length≤14*ss.length:=by
  intro ss
  induction ss with
  |nil=>intro R _;simp[nts]
  |cons s ss ih=>
   intro R hs
   cases R with
   |nil=>simp[nts]
   |cons r R=>
    have:=ih R fun t ht=>hs t (eK _ ht)
    have h1:=hs s eH
    have e:nts (s::ss) (r::R)=ntP (s,r)++nts ss R:=rfl
    have l1:(ntP (s,r)).length≤14:=by
     unfold ntP
     rw[eD,zq]
     show (s.2-s.1).toNat≤14
     omega
    rw[e,eW,df]
    omega
 have:=key ss R fun s hs=>(ok s hs).2.2.1
 omega
end
abbrev rP :Stmt:=top 10
def qU :List A→(A→Prop)→Prop:=fun as Q=>∃(ss:List (Int×Int)) (R:List Int) (m:Nat),as=[.dat (.list (ss.map dP)),.dat (.list (R.map .int))]∧sO ss∧ss.length≤40∧Rms ss R m∧Q (.dat (.bool true))
section
variable {X:Cx}{α:Ev}{a:Expr}{p p0 q pos:Pos}
theorem tD :yj X (.type "range") (fun xs H Q=>∃j:Int,xs=[.int j]∧∀p,H p=none→Q (.ref p) (upd H p (.rng 0 j))):=by
 intro pins s σ H xs us Q I r h
 obtain⟨j,rfl,q⟩:=h
 obtain⟨u,rfl,t,rfl⟩:=Vals.one r
 refine call_range_1 ⟨.ref s.heap.objs.size,_,I.laid (o:=.rng 0 j) (fun b u e=>eE _ e) (eG _) ⟨_,_,_,eQ _ rfl⟩,rfl,q _ (I.hok.fresh (eG _))⟩
theorem ox {Q:List PyData→Prop}(hc:X.calm=true)(hg:Gl X "list")(hm:X.mg "list"=none)(hg2:Gl X "range")(hm2:X.mg "range"=none)(h:EvD X α a fun x=>∃j,x=.int j∧-(2 ^ 62)≤j∧j<2 ^ 62∧j.toNat≤1000∧Q ((zx 0 j.toNat).map .int))
  (he:starEach [.Call (.Name "range" q) [a] [] p] X.env=(false,eval (.Call (.Name "range" q) [a] [] p) X.env)::starEach [] X.env:=by rfl) (he2:starEach [a] X.env=(false,eval a X.env)::starEach [] X.env:=by rfl):EvL X α (.Call (.Name "list" p0) [.Call (.Name "range" q) [a] [] p] [] pos) Q:=fun F σ H R m k=>by
 refine⟨_,yv (vP hc) hg hm boot_list (zk (yv tD hg2 hm2 boot_range (zk zd zD he2) (he:=he2)) zD he) (he:=he),?_⟩
 refine h F σ H _ m fun x vx H1 q1 t1 k1 r1=>?_
 have m1:=m.kz k1 t1
 obtain⟨j,rfl,b3,b4,hz,q⟩:=q1
 cases r1.int_inv
 refine⟨j,rfl,fun r hr=>?_⟩
 have e0:(j-0).toNat=j.toNat:=by omega
 refine⟨r,0,j,rfl,zh,⟨by decide,by decide,b3,b4⟩,cB (zO (by omega)),by omega,fun l hl=>?_⟩
 rw[e0]
 have nlr:l≠r:=fun z=>by rw[z,zh] at hl;cases hl
 have hl':H1 l=none:=by rw[ze nlr] at hl;exact hl
 have s1:zi H1 (upd (upd H1 r (.rng 0 j)) l (.lst ((zx 0 j.toNat).map V.int))):=(zt hr).trans (zt hl)
 refine k _ _ _ q (t1.same s1) (k1.trans (Kz.of_same s1)) ⟨l,_,rfl,?_,zh,wO _⟩
 cases z:H l with
 |none=>rfl
 |some o=>rw[k1 l o z (m.tp.nt (ow0 (m1.fresh hl')))] at hl';cases hl'
end
section
variable {P:Program}{w:World}{K:PySem.W.Frag}{mg:Str→Option Value}{base:Heap}
abbrev nRi :List Str:=["_law_stays_here","_law_found","_law_nights","_law_come","_law_go","_law_room","_law_days","_law_most"]
theorem fI :zH nRi ["_law_stays_here","_law_found"] (zg rP):=⟨rfl,rfl,rfl,by decide +kernel,rfl,by decide +kernel,by decide +kernel⟩
theorem zR (l:List Int):SeqAt.shaped (.list (l.map PyData.int))=true∧(PyData.list (l.map .int)).hasDict=false:=by
 have h2:PyData.hasDictAll (l.map PyData.int)=false:=by
  induction l with
  |nil=>rfl
  |cons p l ih=>simp only[dG,PyData.hasDictAll,ih];rfl
 exact⟨(shaped_ints l).1,by simp only[PyData.hasDict,h2]⟩
theorem fk (l:List Int):PyData.canLay0 (.list (l.map PyData.int))=true:=by
 have h1:PyData.canLayAll0 (l.map PyData.int)=true:=by
  induction l with
  |nil=>rfl
  |cons p l ih=>simp only[dG,PyData.canLayAll0,ih,Bool.and_true];rfl
 simp[PyData.canLay0,h1]
theorem my :∀(ss:List (Int×Int)) (R:List Int),mh (ss.map dP) (R.map .int)=(ss.zip R).map dQ
 |[],_=>rfl
 |_::_,[]=>rfl
 |s::ss,r::R=>by
  show _::mh (ss.map dP) (R.map .int)=_
  rw[my ss R]
  rfl
theorem oE {f:Addr}{fd:FuncData}(F:Fun K "_law_right" "_law_right" rP f fd)(hm:mg "_law_right"=some (.ref f))(hb:Binds K fd ["_law_stays_here","_law_found"] [])(nb:NbT mg)(ns:mg "set"=none):Cal P w K mg base "_law_right" 1 qU:=by
 refine rH F hm hb fI (fun as Q h=>?_) (fun cdv A' outer s H E as Q hr h=>?_)
 ·obtain⟨_,_,_,rfl,_⟩:=h
  rfl
 ·obtain⟨ss,R,m,rfl,ok,le,rr,q⟩:=h
  have nd:=fI.nd
  have rl:=rr.len
  and_intros
  refine⟨true,(zR R).2,rfl,?_⟩
  and_intros
  refine xg (by rw[eD,eD,rl,dW rfl];rfl) (zN ?_)
  refine vo (jq (uG (by rfl) nb.len (EvL.d (vf ["_law_room"] [none] (.one 0) (xD (zm 1 rfl ⟨_,rfl,?_⟩))))))
  refine⟨by rw[eD];omega,?_⟩
  refine tK (fun _=>false) (fun _=>.none) (fun r hr'=>⟨_,rfl,fun _ _ _ _ _ k=>jO ?_,fun z=>by cases z⟩) ?_
  ·and_intros
   exact k
  rw[bF,show R.filter (fun _=>false)=[] by simp]
  and_intros
  refine wB (.tsen [3,4] 5) (iw (by rfl) nb.zip (zm 0 rfl (zm 1 rfl ⟨_,_,rfl,rfl,?_⟩))) (hg:=yP rfl rfl (ym (yP rfl rfl (ym (by first|exact zG nd rfl (Or.inl rfl)|exact zG nd rfl (Or.inr rfl)) (ym (by first|exact zG nd rfl (Or.inl rfl)|exact zG nd rfl (Or.inr rfl)) xE))) (ym (by first|exact zG nd rfl (Or.inl rfl)|exact zG nd rfl (Or.inr rfl)) xE)))
  rw[my]
  have ln:=jd (R:=R) ok le
  have pre:∀i,(((ss.zip R).take i).flatMap ntP).length≤560:=fun i=>by
   have e:nts ss R=((ss.zip R).take i).flatMap ntP++((ss.zip R).drop i).flatMap ntP:=by
    rw[←List.flatMap_append,eX]
    rfl
   rw[e,eW] at ln
   omega
  refine yQ (fun i α=>∃o3 o4 o5:Option A,α=[some (.dat (.list (ss.map dP))),some (.dat (.list (R.map .int))),some (.own ((((ss.zip R).take i).flatMap ntP).map dP)),o3,o4,o5,none,none]) ⟨none,none,none,rfl⟩ ?_ ?_
  ·rintro i x α hx ⟨o3,o4,o5,rfl⟩
   rw[dy,dB] at hx
   obtain⟨⟨⟨c,g⟩,r⟩,hu,rfl⟩:=hx
   obtain⟨c0,cg,g14,g1⟩:=ok (c,g) (cE (cx.mp hu).1)
   have c0:0≤c:=c0
   have cg:c<g:=cg
   have g14:g≤c+14:=g14
   have g1:g≤1000000:=g1
   have pn:=pre (i+1)
   have ex:((ss.zip R).take (i+1)).flatMap ntP=((ss.zip R).take i).flatMap ntP++ntP ((c,g),r):=by
    rw[aO,hu,List.flatMap_append]
    simp
   rw[ex,eW] at pn
   rw[ex]
   refine⟨_,rfl,?_⟩
   show SvS _ [some (.dat (.list (ss.map dP))),some (.dat (.list (R.map .int))),some (.own ((((ss.zip R).take i).flatMap ntP).map dP)),some (.dat (.int c)),some (.dat (.int g)),some (.dat (.int r)),none,none] _ _
   refine pM 2 rfl (EvL.d (vf ["_law_night","_law_room"] [none,some 5] (.one 0) (oN (by rfl) nb.range ?_)))
   and_intros
   refine⟨⟨by omega,by omega,by omega,by omega⟩,by rw[eD,zq];omega,?_⟩
   refine yA (fun z=>dP (z,r)) (fun z hz=>⟨_,rfl,fun _ _ _ _ _ k=>?_⟩) ?_
   ·and_intros
    exact k
   rw[bF,show (zx c (g-c).toNat).map (fun z=>dP (z,r))=(ntP ((c,g),r)).map dP by unfold ntP;rw[List.map_map]<;>rfl]
   refine⟨_,rfl,by rw[eD,eD];omega,zN ?_⟩
   rw[za2]
   exact⟨_,_,_,rfl⟩
  ·rintro α ⟨o3,o4,o5,rfl⟩
   rw[eD,cN]
   show SvS _ [_,_,some (.own ((nts ss R).map dP)),_,_,_,_,_] _ _
   refine vF 2 rfl ?_
   refine vo (rf hr.units (rB rfl hr.units (by rfl) nb.len (by rfl) ns (zm 2 rfl ⟨_,rfl,vT rr,by omega,uG (by rfl) nb.len (zm 2 rfl ⟨_,rfl,?_⟩)⟩)))
   rw[eD]
   and_intros
   refine xg (by rw[dW rfl];rfl) (zN ?_)
   refine yg 6 nd (vf ["_law_night","_law_room"] [none,none] (.many [0,1]) (xD (zm 2 rfl ⟨_,rfl,?_⟩)))
   refine⟨by rw[eD];omega,?_⟩
   refine yA (fun x=>.int x.1) (fun z hz=>⟨_,rfl,fun _ _ _ _ _ k=>?_⟩) ?_
   ·and_intros
    exact k
   rw[bF,show (nts ss R).map (fun x=>PyData.int x.1)=(yo ss R).map .int by unfold yo;rw[List.map_map]<;>rfl]
   refine vF 6 rfl ?_
   have ld:(yo ss R).length≤560:=by unfold yo;rw[eD];exact ln
   refine yJ 7 nd (kn rfl (by rfl) nb.max (EvL.d (vf ["_law_night","_law_days"] [none,some 6] (.one 0) (xD (EvL.d (wo rfl (by rfl) nb.sorted (by rfl) ns (zm 6 rfl ⟨_,rfl,by omega,fun ys hy _ yl=>⟨_,rfl,by rw[eD];omega,?_⟩⟩)))))))
   refine yA (fun d=>.int (((yo ss R).count d:Nat):Int)) (fun z hz=>⟨_,rfl,fun _ _ _ _ _ k=>ph (zm 1 rfl ⟨_,rfl,zm 0 rfl ⟨_,rfl,k⟩⟩)⟩) ?_
   refine⟨ys.map fun d=>(((yo ss R).count d:Nat):Int),by rw[bF,List.map_map]<;>rfl,?_⟩
   rw[kP rr hy]
   have ml:=rr.ml
   refine mZ (mq hr.units (EvL.d (wo rfl (by rfl) nb.sorted (by rfl) ns (zm 1 rfl ⟨_,rfl,by omega,fun zs hz pz _=>EvL.d (ox rfl (by rfl) nb.list (by rfl) nb.range (zm 7 rfl ⟨_,rfl,by omega,by omega,by omega,?_⟩))⟩))))
   rw[oP rr hz pz,cW]
   refine eqk (zR _).1 (zR _).1 (zR _).2 (zR _).2 ?_
   rw[SeqAt.eqv_refl _ (fk _)]
   exact q
end
section
variable {X:Cx}{α:Ev}{e:Expr}{pos p:Pos}{k:Nat}{φ:List A→(A→Prop)→Prop}{x:Str}
theorem pT {Q:List PyData→Prop}(C:Cal X.prog X.w X.K X.mg X.base x k φ)(hr:zY k X.A)(hg:Gl X x)(h:EvL X α e fun ds=>∃a b:Int,ds=[.int a,.int b]∧0≤b∧b<4294967296∧φ [.tape] fun a=>∃ds,a=.own ds∧Q ds)
  (hdb:(x == ("__debug__":Str))=false:=by decide) (he:starEach [e] X.env=(false,eval e X.env)::starEach [] X.env:=by rfl) (hpl:(backTo pos (starEach [] X.env)).any (·.1)=false:=by rfl):EvL X α (.Call (.Name x p) [e] [] pos) Q:=fun F σ H R m kk=>by
 obtain⟨f,fd,ps,c1,c2,c3,c4⟩:=C.ex
 refine⟨_,tu c4 hr hg c1 c2 c3 .nil lj (zk zd zD he) hdb he hpl,?_⟩
 refine h F σ H _ m fun ds v H1 q1 t1 k1 fr=>?_
 obtain⟨a,b,rfl,b0,b1,hφ⟩:=q1
 have m1:=m.kz k1 t1
 obtain⟨l,xs,rfl,f1,f2,f3⟩:=fr
 have ex:xs=[.int a,.int b]:=by
  cases f3 with
  |cons a r=>
   cases r with
   |cons b r=>
    cases r
    rw[a.int_inv,b.int_inv]
 subst ex
 have nl:¬Ow F α σ l:=m.fresh f1
 have nt:¬xG l:=fun z=>nl (.inl (m.tp.ot l z))
 refine⟨⟨H1,fun z=>Ow F α σ z∨z=l,some (l,l,l)⟩,[.tape],_,rfl,⟨t1.tab,fun z hz=>.inl (.inl (t1.ot z hz)),fun t b' c e=>?_⟩,fun z hz=>?_,.cons ⟨l,l,l,rfl,rfl⟩ .nil,hφ,fun r v H' qa ra=>?_⟩
 ·cases e
  exact⟨⟨0,[a,b],[a,b],⟨rfl,rfl⟩,f2,f2,f2,⟨_,_,rfl,b0,b1⟩,rfl⟩,.inr rfl,.inr rfl,.inr rfl⟩
 ·rcases hz with z|z
  ·exact m1.owEx z
  ·rw[z];exact⟨_,f2,yr⟩
 ·obtain⟨ds,rfl,q⟩:=qa
  obtain⟨r1,r2,l',xs',ds',rfl,hc,h1,h2,h3,h4⟩:=ra
  cases hc
  have kz:∀z o,H1 z=some o→z≠l→¬xG z→H' z=some o:=fun z o e z1 z2=>r2 z o e ⟨fun t b' c e'=>by
   cases e'
   exact⟨z1,z1⟩,z2⟩
  have kz':Kz F H H':=fun z o e n=>kz z o (k1 z o e n) (zf e f1) n.2
  have hn:H l'=none:=by
   cases w:H l' with
   |none=>rfl
   |some o=>
    have:=k1 l' o w (m.tp.nt fun z=>h2 (.inl (.inl z)))
    have h1:H1 l'=none:=h1
    rw[h1] at this
    cases this
  refine kk ds _ H' q ⟨r1.tab,t1.ot,fun t b' c e'=>?_⟩ kz' ⟨l',xs',rfl,hn,h3,h4.same (zj fun z o g e=>⟨⟨fun w=>g.1 (.inl w),g.2⟩,e⟩)⟩
  obtain⟨w1,w2,w3,w4⟩:=t1 t b' c e'
  refine⟨?_,w2,w3,w4⟩
  obtain⟨n,bs,cs,⟨rfl,rfl⟩,e1,e2,e3,l1,l2⟩:=w1.ex
  have:=kz _ _ e1 (fun z=>nl (.inl (by rw[←z];exact w2))) (fun z=>z.elim)
  exact⟨n,bs,bs,⟨rfl,rfl⟩,this,this,this,l1,l2⟩
end
abbrev uW :Stmt:=top 11
section
variable {P:Program}{w:World}{K:PySem.W.Frag}{mg:Str→Option Value}{base:Heap}
abbrev nLa :List Str:=["_law_script","_law_cell","_law_stays_here","_law_handed","_law_found","_law_kept"]
theorem fA :zH nLa ["_law_script"] (zg uW):=⟨rfl,rfl,rfl,by decide +kernel,rfl,by decide +kernel,by decide +kernel⟩
theorem pL {X:Cx}{α α0:Ev}{E:zS}{sts:List Stmt}(hl:α0.length=α.length)(le:∀(i:Nat) a,α0[i]?=some (some a)→α[i]?=some (some a))(h:SvS X α0 sts E):SvS X α sts E:=fun F σ H D m r=>h F σ H D (m.forget hl le) r
theorem lG {α:Ev}{n:Nat}{a:A}(hl:α.length=n+2):∀(i:Nat) b,((none:Option A)::some a::List.replicate n none)[i]?=some (some b)→(α.set 1 (some a))[i]?=some (some b):=by
 intro i b h
 rcases i with _|_|i
 ·cases h
 ·rw[cJ (by omega)];exact h
 ·simp only[List.getElem?_cons_succ,bf] at h
  split at h<;>cases h
theorem ee (l:List (Int×Int)):PyData.canLay0 (.list (l.map dP))=true:=by
 have h1:PyData.canLayAll0 (l.map dP)=true:=by
  induction l with
  |nil=>rfl
  |cons p l ih=>simp only[dG,PyData.canLayAll0,ih,Bool.and_true];rfl
 simp[PyData.canLay0,h1]
set_option maxHeartbeats 8000000 in
theorem ig {f:Addr}{fd:FuncData}(F:Fun K "law" "law" uW f fd)(nb:NbT mg)(CB:Cal P w K mg base "_law_begin" 1 qt)(CS:Cal P w K mg base "_law_stays" 3 qH)(CDe:Cal P w K mg base "dealt" 2 qR)(CR:Cal P w K mg base "_law_right" 1 qU):yB P w K mg base CX0 4 f fd ["_law_script"] (tO K):=by
 refine fS (k:=3) (j:=1) F fA rfl (Or.inl rfl) rfl (Or.inl rfl) (fun cdv A' outer s H E zs hr lz=>?_)
 have nd:=fA.nd
 refine yQ (fun i α=>α.length=6) (by simp) ?_ ?_
 ·intro i d α hd hl
  rw[dy,dB] at hd
  obtain⟨z,hz,rfl⟩:=hd
  refine⟨_,rfl,?_⟩
  refine pL (α0:=none::some (.dat (.int z))::List.replicate 4 none) (by rw[dA,hl];rfl) (lG hl) ?_
  refine yg 2 nd (pT CS (hr.mono (by decide)) (by rfl) (nF CB (hr.mono (by decide)) (by rfl) (zI (zm 1 rfl (yd ⟨z,rfl,fun x y y0 y1=>⟨_,rfl,x,y,rfl,y0,y1,rfl,fun ss ok le=>⟨_,rfl,?_⟩⟩⟩)))))
  refine vF 2 rfl ?_
  refine yg 3 nd (wC (by rfl) nb.list (zm 2 rfl ⟨_,rfl,?_⟩))
  refine vF 3 rfl ?_
  refine yg 4 nd (nF CDe (hr.mono (by decide)) (by rfl) (zI (zm 3 rfl (yd ⟨ss,rfl,ok,le,fun qs pm rs=>⟨_,rfl,?_⟩⟩))))
  obtain⟨m,rr⟩:=iH ok pm rs
  show SvS _ [none,some (.dat (.int z)),some (.dat (.list (ss.map dP))),some (.dat (.list (ss.map dP))),some (.own ((zJ ss qs).map .int)),none] _ _
  refine vo (rY 4 rfl (EvW.t (jn ?_)))
  and_intros
  refine⟨ss,zJ ss qs,m,rfl,ok,le,rr,?_⟩
  and_intros
  refine eqk (xZ ss) (xZ ss) (xQ ss) (xQ ss) ?_
  refine xg (by rw[SeqAt.eqv_refl _ (ee ss)];rfl) (zN ?_)
  have rl:=rr.len
  refine yg 5 nd (qK 4 rfl (wC (by rfl) nb.list (zm 4 rfl ⟨_,rfl,sv _,?_⟩)))
  refine vF 5 rfl ?_
  refine uC 4 rfl (yI ⟨by rw[eD];omega,?_⟩)
  refine vo (rf hr.units (wa CDe (hr.mono (by decide)) (by rfl) (zI (zm 3 rfl (yd ⟨ss,rfl,ok,le,fun qs' pm' rs'=>?_⟩)))))
  have e:qs'=qs:=uf rs' rs (pm'.trans pm.symm)
  subst e
  refine zm 5 rfl (eqk (zR _).1 (zR _).1 (zR _).2 (zR _).2 ?_)
  refine xg (by show (!PyData.eqv (.list ((zJ ss qs').map .int)) (.list ((zJ ss qs').map .int)))=false;rw[SeqAt.eqv_refl _ (fk _)];rfl) (zN (zN ?_))
  rfl
 ·intro α _
  and_intros
  refine⟨[],rfl,fun s hs=>by simp at hs,by decide,fun qs pm rs=>?_⟩
  have e:qs=[]:=List.Perm.eq_nil pm
  subst e
  and_intros
  rfl
end
def FnF (K:PySem.W.Frag)(f:Addr)(nm ql:Str)(st:Stmt):Prop:=∃fd,Fun K nm ql st f fd
theorem mkF {K:PySem.W.Frag}{f:Addr}{nm ql:Str}{st:Stmt}{oc kV dc pm cd ct:Value}{od an:Option Addr}{sl:Array (Option Value)}(l:K.lookup f=some ⟨oc,od,.func (PySem.W.fnOf nm ql (yf st) (zL st) (zg st) .none kV dc pm an cd ct),sl⟩)(c:PySem.W.codeIn K cd ql=true)(k:PySem.W.keepIn K (.ref f)=true):FnF K f nm ql st:=⟨_,nE l c k⟩
def FnG (K:PySem.W.Frag)(f:Addr)(nm:Str)(st:Stmt):Prop:=PySem.W.nsIn K mainGlobals nm=some (some (.ref f))∧FnF K f nm nm st
theorem mkG {K:PySem.W.Frag}{f:Addr}{nm:Str}{st:Stmt}{oc kV dc pm cd ct:Value}{od an:Option Addr}{sl:Array (Option Value)}(a:PySem.W.nsIn K mainGlobals nm=some (some (.ref f)))(l:K.lookup f=some ⟨oc,od,.func (PySem.W.fnOf nm nm (yf st) (zL st) (zg st) .none kV dc pm an cd ct),sl⟩)(c:PySem.W.codeIn K cd nm=true)(k:PySem.W.keepIn K (.ref f)=true):FnG K f nm st:=⟨a,mkF l c k⟩
theorem FnG.get {K:PySem.W.Frag}{h0:Heap}{mg:Str→Option Value}{f:Addr}{nm:Str}{st:Stmt}(ps:List Str)(h:FnG K f nm st)(X:K.In h0)(G:h0.Ns mainGlobals mg)(hb:∀(kV doc pm:Value) (an:Option Addr) (cdv ct:Value) (us:List Value),us.length=ps.length→bindArgs (PySem.W.fnOf nm nm (yf st) (zL st) (zg st) .none kV doc pm an cdv ct) ⟨us,[]⟩=pure (ps.zip us)):∃fd,mg nm=some (.ref f)∧Fun K nm nm st f fd∧Binds K fd ps []:=by
 obtain⟨a,fd,F⟩:=h
 exact⟨fd,PySem.W.mg_of X G a,F,F.binds hb⟩
set_option maxHeartbeats 8000000 in
theorem all_mk {l:PySem.W.OpenLaw}{w:World}{K:PySem.W.Frag}{h:Heap}{mg:Str→Option Value}{fa f1 f2 f3 f4 f5 f6 f7 f8 f9:Addr}(X:K.In h)(G:h.Ns mainGlobals mg)(hfa:mg "law"=some (.ref fa))
  {od an:Option Addr} {sl:Array (Option Value)} {oc kV dc pm ct cd:Value}
  (q1:FnG K f1 "first_free" nc)
  (q2:FnG K f2 "dealt" rp)
  (q3:FnG K f3 "_law_begin" rQ)
  (q4:FnG K f4 "_law_take" mi)
  (q5:FnG K f5 "_law_day" nh)
  (q6:FnG K f6 "_law_stay" sW)
  (q7:FnG K f7 "_law_stays" uZ)
  (q8:FnG K f8 "_law_right" rP)
  (a9:PySem.W.nsIn K mainGlobals "law"=some (some (.ref f9)))
  (l9:K.lookup f9=some ⟨oc,od,.func (PySem.W.fnOf "law" "law" (yf uW) (zL uW) (zg uW) .none kV dc pm an cd ct),sl⟩)
  (c9:PySem.W.codeIn K cd "law"=true)
  (k9:PySem.W.keepIn K (.ref f9)=true)
  (z1:PySem.W.nsIn K mainGlobals "abs"=some none)
  (z2:PySem.W.nsIn K mainGlobals "list"=some none)
  (z3:PySem.W.nsIn K mainGlobals "len"=some none)
  (z4:PySem.W.nsIn K mainGlobals "range"=some none)
  (z5:PySem.W.nsIn K mainGlobals "min"=some none)
  (z6:PySem.W.nsIn K mainGlobals "max"=some none)
  (z7:PySem.W.nsIn K mainGlobals "sorted"=some none)
  (z8:PySem.W.nsIn K mainGlobals "isinstance"=some none)
  (z9:PySem.W.nsIn K mainGlobals "int"=some none)
  (z10:PySem.W.nsIn K mainGlobals "bool"=some none)
  (z11:PySem.W.nsIn K mainGlobals "str"=some none)
  (z12:PySem.W.nsIn K mainGlobals "tuple"=some none)
  (z13:PySem.W.nsIn K mainGlobals "all"=some none)
  (z14:PySem.W.nsIn K mainGlobals "any"=some none)
  (z15:PySem.W.nsIn K mainGlobals "repr"=some none)
  (z16:PySem.W.nsIn K mainGlobals "zip"=some none)
  (z17:PySem.W.nsIn K mainGlobals "enumerate"=some none)
  (z18:PySem.W.nsIn K mainGlobals "reversed"=some none)
  (z19:PySem.W.nsIn K mainGlobals "sum"=some none)
  (z20:PySem.W.nsIn K mainGlobals "set"=some none):
  ∃fd:FuncData,(∀(s:Shared) (v:Value),BindsTo s fd ⟨[v],[]⟩ [("_law_script",v)])∧∀base:Heap,K.In base→base.Ns mainGlobals mg→yB l.prog w K mg base CX0 4 fa fd ["_law_script"] (tO K):=by
 have e:=hfa.symm.trans (PySem.W.mg_of X G a9)
 cases e
 have nb:NbT mg:=⟨de X G z1,de X G z2,de X G z3,de X G z4,de X G z5,de X G z6,de X G z7,de X G z8,de X G z9,de X G z10,de X G z11,de X G z12,de X G z13,de X G z14,de X G z15,de X G z16,de X G z17,de X G z18,de X G z19⟩
 have n_set:mg "set"=none:=de X G z20
 obtain⟨_,m_first_free,F_first_free,b_first_free⟩:=q1.get ["ends","day"] X G fun _ _ _ _ _ _ us hl=>match us,hl with|[_,_],_=>rfl
 obtain⟨_,m_dealt,F_dealt,b_dealt⟩:=q2.get ["stays"] X G fun _ _ _ _ _ _ us hl=>match us,hl with|[_],_=>rfl
 obtain⟨_,m__law_begin,F__law_begin,b__law_begin⟩:=q3.get ["_law_cell"] X G fun _ _ _ _ _ _ us hl=>match us,hl with|[_],_=>rfl
 obtain⟨_,m__law_take,F__law_take,b__law_take⟩:=q4.get ["_law_row","_law_base"] X G fun _ _ _ _ _ _ us hl=>match us,hl with|[_,_],_=>rfl
 obtain⟨_,m__law_day,F__law_day,b__law_day⟩:=q5.get ["_law_row"] X G fun _ _ _ _ _ _ us hl=>match us,hl with|[_],_=>rfl
 obtain⟨_,m__law_stay,F__law_stay,b__law_stay⟩:=q6.get ["_law_row","_law_day_here"] X G fun _ _ _ _ _ _ us hl=>match us,hl with|[_,_],_=>rfl
 obtain⟨_,m__law_stays,F__law_stays,b__law_stays⟩:=q7.get ["_law_row"] X G fun _ _ _ _ _ _ us hl=>match us,hl with|[_],_=>rfl
 obtain⟨_,m__law_right,F__law_right,b__law_right⟩:=q8.get ["_law_stays_here","_law_found"] X G fun _ _ _ _ _ _ us hl=>match us,hl with|[_,_],_=>rfl
 have F_law:=nE (st:=uW) l9 c9 k9
 refine⟨PySem.W.fnOf "law" "law" (yf uW) (zL uW) (zg uW) .none kV dc pm an cd ct,fun s v=>.of_eq rfl,fun base KX _=>?_⟩
 have CB:=oQ (P:=l.prog) (w:=w) (base:=base) F__law_begin m__law_begin b__law_begin
 have CD:Cal l.prog w K mg base "_law_take" 1 wc:=nH m__law_take F__law_take.kp b__law_take (kB F__law_take)
 have CY:=mn F__law_day m__law_day b__law_day CD
 have CSt:=pY F__law_stay m__law_stay b__law_stay nb CD
 have CSs:=sS F__law_stays m__law_stays b__law_stays nb CD CY CSt
 have CF:=nB (P:=l.prog) (w:=w) (base:=base) F_first_free m_first_free b_first_free nb
 have CDe:=pW F_dealt m_dealt b_dealt nb CF
 have CR:=oE (P:=l.prog) (w:=w) (base:=base) F__law_right m__law_right b__law_right nb n_set
 exact ig F_law nb CB CSs CDe CR
theorem walk {l:PySem.W.OpenLaw}{q:Program}{loose:List Str}{XP:(Str→Option Value)→Heap→Prop}{YP:World→Heap→Prop}{d:DefRec}{K:Params→PySem.W.Frag}(hn:l.most=some 63)(hdf:d.params.defaults=[])
  (hY:∀(w:World) (h:Heap),YP w h→(K w.params).In h)
  (F:∀(w:World) (mg:Str→Option Value) (fa:Addr) (h:Heap),(K w.params).In h→h.Ns mainGlobals mg→mg d.name=some (.ref fa)→
   ∃fd:FuncData,(∀(s:Shared) (u:Value),BindsTo s fd ⟨[u],[]⟩ [("_law_script",u)])∧∀base:Heap,(K w.params).In base→base.Ns mainGlobals mg→yB l.prog w (K w.params) mg base CX0 4 fa fd ["_law_script"] (tO (K w.params))):
  PySem.W.WalkO q loose XP YP l.row.toRowW d [] (fun f vs=>PySem.call f vs):=
 L2.ki (n:=63) (k:=4) (x:="_law_script") (CX:=fun _=>CX0) (sp:=fun w=>tO (K w.params)) hn (by decide) hdf ⟨rfl,by decide,by decide,rfl⟩ hY F (fun _ _ a ns hl _ hS=>⟨a,ns,rfl,hS,hl,trivial,fun _=>rfl⟩) fun _ _ _ _ _ z=>z
end K76
def PySem.W.Fast.tw6132265009820440261 :Nat:=0
def PySem.W.Fast.tw15895974095810137950 :Nat:=0
def PySem.W.Fast.tw9788486196978856552 :Nat:=0
def PySem.W.Fast.tw7290350305798068138 :Nat:=0
def PySem.W.Fast.tw6978926786692375277 :Nat:=0
def PySem.W.Fast.tw13582850251077593446 :Nat:=0
def PySem.W.Fast.tw12376230254049625696 :Nat:=0
def PySem.W.Fast.tw15882168609930629591 :Nat:=0
def PySem.W.Fast.tw10637028146435817531 :Nat:=0
def PySem.W.Fast.tw18130368444667093148 :Nat:=0
def PySem.W.Fast.tw10067204883887987557 :Nat:=0
def PySem.W.Fast.tw16112626995147130543 :Nat:=0
def PySem.W.Fast.tw18329692673544306225 :Nat:=0
def PySem.W.Fast.tw17929714188074050358 :Nat:=0
def PySem.W.Fast.tw6866727471339809464 :Nat:=0
def PySem.W.Fast.tw6472743613873771472 :Nat:=0
def PySem.W.Fast.tw4757988712389764241 :Nat:=0
def PySem.W.Fast.tw15905520279246417781 :Nat:=0
def PySem.W.Fast.tw14724255586632790080 :Nat:=0
def PySem.W.Fast.tw13595684708544330584 :Nat:=0
def PySem.W.Fast.tw14011341256878140548 :Nat:=0
def PySem.W.Fast.tw17958147711532750297 :Nat:=0
def PySem.W.Fast.tw17637258070804107997 :Nat:=0
def PySem.W.Fast.tw1775894438423320178 :Nat:=0
def PySem.W.Fast.tw9545590316704250271 :Nat:=0
def PySem.W.Fast.tw12334651433714381942 :Nat:=0
def PySem.W.Fast.tw1988879500979737008 :Nat:=0
def PySem.W.Fast.tw6509944069965414480 :Nat:=0
def PySem.W.Fast.tw13492684853299144091 :Nat:=0
def PySem.W.Fast.tw16981143385633164136 :Nat:=0
def PySem.W.Fast.tw7211479646578634875 :Nat:=0
def PySem.W.Fast.tw9489757080274949727 :Nat:=0
def PySem.W.Fast.tw7967804541697943217 :Nat:=0
def PySem.W.Fast.tw3097901558823867177 :Nat:=0
def PySem.W.Fast.tw12482469973027178220 :Nat:=0
open PySem PySem.W PyProof.Rows
set_option maxRecDepth 100000 in
set_option maxHeartbeats 0 in
theorem PySem.Challenge.cw_stayprice_k76_rooms_dealt_holds : PySem.Challenge.rw_stayprice_k76_rooms_dealt.Holds := by
 w_on;o_law;k_head;(case hw=>w_witness2)
 k_fill
 refine K76.walk (l:=PySem.Challenge.rw_stayprice_k76_rooms_dealt) rfl rfl (fun w h Y=>PySem.W.kIn_of Y) ?hF
 case hF=>
  intro w mg fa h KX G hmg
  refine' K76.all_mk KX G hmg (K76.mkG ?_ ?_ ?_ ?_) (K76.mkG ?_ ?_ ?_ ?_) (K76.mkG ?_ ?_ ?_ ?_) (K76.mkG ?_ ?_ ?_ ?_) (K76.mkG ?_ ?_ ?_ ?_) (K76.mkG ?_ ?_ ?_ ?_) (K76.mkG ?_ ?_ ?_ ?_) (K76.mkG ?_ ?_ ?_ ?_) ?_ ?_ ?_ ?_ ?_ ?_ ?_ ?_ ?_ ?_ ?_ ?_ ?_ ?_ ?_ ?_ ?_ ?_ ?_ ?_ ?_ ?_ ?_ ?_
  all_goals try (show _=_;first|k_is|kernel_rfl)
