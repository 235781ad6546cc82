import PyProof.Rows.All
import Wide.All
import OpenK.AllK
import Wide.FinOn
import Lean
import PyProof.EqAt
import PyProof.EqKinds
import PyProof.TupleCall
import PyProof.AttrMissHeap
import PyProof.DictRoadsH
import KE.KDictOf
import PyProof.P3In
import PyProof.StrLoop
import PyProof.StrWalks
import PyProof.StrCalls2
import KE.KIntText
import PyProof.IsRules
import PyProof.ZipIter
import PyProof.TupleIter
import PyProof.WalksMore
import PyProof.StrBlockH
import PyProof.SliceStr2
import PyProof.Rows.StrInSeq3
import PySem.Challenge.RW_stayprice_k81_a_fresh_inn
open PySem renaming PyData->Aa,Addr->Ab,Value->Ac,starEach->Ad,Shared->Af,FuncData->Ag,Program->Ah,Expr->Ai,mainGlobals->Aj,World->Ak,wpAny->Al,model->Am,Stmt->An,Heap->Ao,Around->Ap,Scope->Aq,Env->Ar
open PySem.W renaming Frag->Ae
set_option maxHeartbeats 0
set_option linter.all false
set_option Elab.async false
def zH7:=@Nat.le_of_ble_eq_true
def zH8:=@List.length_map
def zH9:=@List.getElem?_eq_some_iff
def zI0:=@PySem.wpAny_bind
def zI1:=@List.length_append
def zI2:=@PySem.Heap.get?_push_of_some
def zI3:=@Nat.le_refl
def zI4:=@List.getElem?_set_ne
def zI5:=@List.getElem?_eq_getElem
def zI6:=@List.mem_cons_of_mem
def zI7:=@List.length_cons
def zI8:=@List.mem_cons
def zI9:=@PySem.Heap.lt_size
def zJ0:=@Bool.false_ne_true
def zJ1:=@Nat.le_trans
def zJ2:=@List.getElem?_append_right
def zJ3:=@PySem.wpAny_pure
def zJ4:=@List.getElem?_append_left
def zJ5:=@List.append_nil
def zJ6:=@Nat.lt_of_lt_of_le
def zJ7:=@List.not_mem_nil
def zJ8:=@List.getElem?_map
def zJ9:=@List.getElem?_set_self
def zK0:=@List.length_set
def zK1:=@PySem.Heap.get?_update_other
def zK2:=@List.mem_cons_self
def zK3:=@PySem.wpAny_mono
def zK4:=@List.size_toArray
def zK5:=@PySem.W.mg_none_of
def zK6:=@Nat.zero_le
def zK7:=@Nat.le_of_eq
def zK8:=@Nat.ne_of_lt
def zK9:=@List.mem_append_right
def zL0:=@Bool.and_eq_true
def zL1:=@List.lookup_cons
def zL2:=@Option.some.inj
def zL3:=@Option.map_eq_some_iff
def zL4:=@PySem.W.mg_of
def zL5:=@List.length_replicate
def zL6:=@PySem.Heap.get?_push_size
def zL7:=@List.map_cons
def zL8:=@List.length_take
def zL9:=@Bool.eq_false_iff
def zM0:=@List.mem_singleton
def zM1:=@Nat.sub_self
def zM2:=@PySem.strLen_append
def zM3:=@List.getElem?_replicate
def zM4:=@or_false
def zM5:=@Nat.le_of_lt
def zM6:=@List.mem_of_getElem?
def zM7:=@List.drop_eq_getElem_cons
def zM8:=@decide_eq_false
def zM9:=@List.mem_append
def zN0:=@List.length_singleton
def zN1:=@List.append_assoc
def zN2:=@PySem.F.plainAttrs_list
def zN3:=@Int.eq_ofNat_of_zero_le
def zN4:=@Nat.lt_of_le_of_lt
def zN5:=@PySem.W.kia_one
def zN6:=@List.map_append
def zN7:=@decide_eq_true_eq
def zN8:=@PySem.Heap.get?_update_self
def zN9:=@List.set_append_right
def zO0:=@PySem.wpAny_Call_Name_kw
def zO1:=@PySem.W.callWith_K
def zO2:=@Ne.symm
def zO3:=@PySem.F.excBase_ValueError
def zO4:=@PySem.sizeLine_eq
def zO5:=@PySem.wpAny_loadPart_at
def zO6:=@beq_eq_false_iff_ne
def zO7:=@PySem.mem_of_lookup
def zO8:=@List.replicate_succ
def zO9:=@Nat.le_add_right
def zP0:=@Nat.lt_succ_self
def zP1:=@PySem.wpAny_call
def zP2:=@PyProof.Rows.callWith_type1
def zP3:=@beq_iff_eq
def zP4:=@List.all_eq_true
def zP5:=@List.drop_length
def zP6:=@PySem.W.methodCall_KW
def zP7:=@Nat.le_succ
def zP8:=@List.mem_append_left
def zP9:=@PySem.codeAny_mono
def zQ0:=@PyProof.Rows.boot_isinstance
def zQ1:=@PySem.PassesOwn.never
def zQ2:=@List.flatten_cons
def zQ3:=@PySem.wpAny_holding
def zQ4:=@Bool.true_and
def zQ5:=@Bool.false_and
def zQ6:=@List.length_drop
def zQ7:=@Nat.le_of_not_lt
def zQ8:=@decide_eq_true
def zQ9:=@PySem.Obj.data_mapFields
def zR0:=@PySem.Obj.isFreed_of_fields
def zR1:=@Array.getElem?_eq_some_iff
def zR2:=@PySem.wpAny_truthy_bool
def zR3:=@List.getElem?_of_mem
def zR4:=@List.cons_append
def zR5:=@Option.bind_some
def zR6:=@PySem.F.slot_list_index
def zR7:=@decide_eq_false_iff_not
def zR8:=@Nat.lt_irrefl
def zR9:=@Nat.le_antisymm
def zS0:=@Bool.or_eq_true
def zS1:=@List.find?_cons
def zS2:=@List.take_add_one
def zS3:=@Classical.not_forall
def zS4:=@PySem.codeAny_call_builtin
def zS5:=@List.replicate_succ'
def zS6:=@PySem.wpAny_standAt
def zS7:=@Array.length_toList
def zS8:=@PySem.wpAny_execs_nil
def zS9:=@PySem.wpAny_passesOwn
def zT0:=@Classical.byContradiction
def zT1:=@PySem.F.plain_extend_loop
def zT2:=@Nat.ne_of_gt
def zT3:=@List.getElem?_take_of_lt
def zT4:=@PySem.F.slot_list_append
def zT5:=@PySem.F.type_list_append
def zT6:=@PySem.Code.quiet_builtin
def zT7:=@Int.emod_lt_of_pos
def zT8:=@List.mem_map
def zT9:=@PySem.call_meets
def zU0:=@PyProof.Rows.joinParts_cons
def zU1:=@PySem.SeqAt.eqv_refl
def zU2:=@List.getElem?_cons_succ
def zU3:=@Int.toNat_natCast
def zU4:=@Nat.lt_succ_of_lt
def zU5:=@Classical.not_not
def zU6:=@List.take_of_length_le
def zU7:=@PySem.wpAny_field
def zU8:=@List.take_length
def zU9:=@List.mem_iff_getElem?
def zV0:=@Bool.eq_iff_iff
def zV1:=@List.nodup_cons
def zV2:=@List.map_nil
def zV3:=@Int.not_le
def zV4:=@Bool.or_eq_false_iff
def zV5:=@Nat.lt_or_ge
def zV6:=@List.length_nil
def zV7:=@PySem.Txt.slice_le
def zV8:=@Int.emod_nonneg
def zV9:=@Nat.mul_le_mul_right
def zW0:=@List.mem_of_mem_take
def zW1:=@Nat.min_eq_left
def zW2:=@List.filterMap_cons
def zW3:=@PySem.W.plainGet_of
def zW4:=@Nat.add_le_add_left
def zW5:=@Int.natCast_nonneg
def zW6:=@Bool.false_eq_true
def zW7:=@List.all_cons
def zW8:=@List.any_cons
def zW9:=@Bool.false_or
section
variable {a b c d e f g A B C D E F G H I J K L:Nat}{p q r s t u v w P Q R S T U V W:Int}
def om0 (h:a<b):b-(a+1)<b-a:=by lia
def om5 (h:0=a-b)(i:b<=a):b=a:=by lia
def om6 (h:a+1=b-c):c<b:=by omega
def om7 (h:a+b=c-d):a=c-(d+b):=by omega
def om9 (h:(a:Int)<(b:Int)):a<b:=by omega
def zF4 :min a b+(b-a+c)=b+c:=by lia
def zG9 (h:a+64<b):a+1<b:=(Nat.lt_trans (Nat.add_lt_add_left (by decide) a) h)
def zF7 (h:a<64):a<=16777216:=(zM5 (Nat.lt_trans h (by decide:(64:Nat)<(16777216:Nat))))
def zG1 :p+q=q+p:=by lia
def zz6 (h:a<=b)(i:c<=b):max a c<=b:=by lia
def zn1 (h:a<=7):a+1<=8:=(zN4 h (by decide:(7:Nat)<(8:Nat)))
def zl6 (h:a+b<=c)(i:d<=e+b)(j:e<=a):d<=c:=by lia
def zC1 (h:a<=b):(a:Int)-(b:Int)<=0:=by lia
def zl2 (h:a+3*(b+c)+d<e):a+c+3*b+d<e:=by lia
def zC5 (h:a+16*(b+c)+200<d):a+c+16*b+200<d:=by lia
def zy8 (h:a=b)(i:b<=c):a+(c-a)=c:=by lia
def dY (h:a<2^63)(i:p<(b:Int))(j:b<=a):p<2^63:=by lia
def bL (h:(-(a:Int))<=p)(i:a<=b)(j:b<2^63):(-(2^63))<=p:=by lia
def zm4 (h:p<0):max 0 (min (p+q) q)=(((p+q).toNat:Nat):Int):=by lia
def zl5 :max 0 (min p (a:Int))=((min p.toNat a:Nat):Int):=by lia
def zm5 (h:a<2^63)(i:b=c)(j:b<=a):(c:Int)<2^63:=by lia
def zy1 (h:a+b<=c)(i:a=d)(j:b=e):d+e<=c:=by lia
def zA7 (h:a<=1000):a<=16777216:=(zM5 (zN4 h (by decide:(1000:Nat)<(16777216:Nat))))
def zn7 (h:a=b)(i:a<=100):b<=16777216:=(zM5 (zN4 (zK7 h.symm) (zN4 i (by decide:(100:Nat)<(16777216:Nat)))))
end
set_option maxRecDepth 100000
namespace L2
open PySem PySem.Spec PyProof.Rows
abbrev Key :=Sum Int Str
def qP :Key->Ac->Bool
 |.inl k,v=>Value.isInt k v
 |.inr x,v=>Value.isStrOf x v
def zH2 (w:Ak):Key->Int
 |.inl k=>hashInt k
 |.inr x=>hashStr w x
theorem yu :∀{k:Key}{v:Ac},qP k v=true->(∃i t,k=Sum.inl i/\v=Value.int i t)\/(∃x t,k=Sum.inr x/\v=Value.str x t)
 |.inl i,v,h=>by
  obtain⟨t,e⟩:=Value.isInt_shape h;exact .inl ⟨i,t,rfl,e⟩
 |.inr x,v,h=>by
  obtain⟨t,e⟩:=Value.isStrOf_shape h;exact .inr ⟨x,t,rfl,e⟩
def fY (i:Int)(t:Tok):qP (.inl i) (.int i t)=true:=by simp[qP,Value.isInt]
def eg (x:Str)(t:Tok):qP (.inr x) (.str x t)=true:=by simp[qP,Value.isStrOf]
def zp4 (a b:Int):decide ((Sum.inl a:Key)=Sum.inl b)=(a == b):=by
 by_cases e:a=b
 .subst e;simp
 .have h:¬(Sum.inl a:Key)=Sum.inl b:=λq=>e (Sum.inl.inj q);rw[zM8 h];exact(zO6.mpr e).symm
def zt8 (a b:Str):decide ((Sum.inr a:Key)=Sum.inr b)=decide (a=b):=by
 by_cases e:a=b
 .subst e;simp
 .have h:¬(Sum.inr a:Key)=Sum.inr b:=λq=>e (Sum.inr.inj q);rw[zM8 h,zM8 e]
def zx2 (a:Int)(b:Str):decide ((Sum.inl a:Key)=Sum.inr b)=false:=zM8 (λq=>nomatch q)
def zr2 (a:Str)(b:Int):decide ((Sum.inr a:Key)=Sum.inl b)=false:=zM8 (λq=>nomatch q)
def xf (prog:Ah)(w:Ak):PySem.KeyKind prog w Key where
 is:=qP
 hash:=zH2 w
 inj:=λv a b ha f=>by
  rcases yu ha with⟨i,t,rfl,rfl⟩|⟨x,t,rfl,rfl⟩
  .rcases yu f with⟨j,u,rfl,e⟩|⟨y,u,rfl,e⟩
   .injection e with c _;rw[c]
   .exact nomatch e
  .rcases yu f with⟨j,u,rfl,e⟩|⟨y,u,rfl,e⟩
   .exact nomatch e
   .injection e with c _;rw[c]
 byValue:=λk v h=>by
  rcases yu h with⟨i,t,rfl,rfl⟩|⟨x,t,rfl,rfl⟩<;>rfl
 pyHash:=λd h=>by
  rcases yu d with⟨i,t,rfl,rfl⟩|⟨x,t,rfl,rfl⟩
  .exact wpAny_pyHash_int h
  .exact wpAny_pyHash_str h
 eqBool:=λg d h=>by
  rcases yu g with⟨i,t,rfl,rfl⟩|⟨x,t,rfl,rfl⟩
  .rcases yu d with⟨j,u,rfl,rfl⟩|⟨y,u,rfl,rfl⟩
   .rw[zp4]at h;exact wpAny_eqBool_int h
   .rw[zx2]at h;exact SeqAt.EqAt.int_str i t y u _ _ _ _ h
  .rcases yu d with⟨j,u,rfl,rfl⟩|⟨y,u,rfl,rfl⟩
   .rw[zr2]at h;exact SeqAt.EqAt.str_int x t j u _ _ _ _ h
   .rw[zt8]at h;exact wpAny_eqBool_str h
 «strs»:=λk x t v h=>by
  rcases yu h with⟨i,u,rfl,e⟩|⟨y,u,rfl,e⟩
  .exact nomatch e
  .injection e with c _;subst c;cases v<;>rfl
def lg (prog:Ah)(w:Ak)(i:Int)(t:Tok):(xf prog w).is (.inl i) (.int i t)=true:=fY i t
def nN (prog:Ah)(w:Ak)(x:Str)(t:Tok):(xf prog w).is (.inr x) (.str x t)=true:=eg x t
inductive V where
 |non|bl (b:Bool)|int (i:Int)|str (x:Str)|byt (b:Array UInt8)|flt (b:UInt64)|ref (a:Ab)|ty (n:String)
 deriving DecidableEq
def RelV :V->Ac->Prop
 |.non,u=>u=Value.none
 |.bl b,u=>u=Value.bool b
 |.int i,u=>∃t,u=Value.int i t
 |.str x,u=>∃t,u=Value.str x t
 |.byt b,u=>∃t,u=Value.bytes b t
 |.flt b,u=>∃t,u=Value.float b t
 |.ref a,u=>u=Value.ref a
 |.ty n,u=>u=Value.type n
abbrev Vals :List V->List Ac->Prop:=Paired RelV
theorem Vals.length {xs:List V}{us:List Ac}(r:Vals xs us):xs.length=us.length:=Paired.length r
theorem Vals.get :∀{xs:List V}{us:List Ac}{i:Nat}{x:V},Vals xs us->xs[i]?=some x->∃u,us[i]?=some u/\RelV x u
 |_,_,_,_,.nil,e=>by simp at e
 |_,_,0,_,.cons r _,e=>by simp at e;subst e;exact⟨_,rfl,r⟩
 |_,_,i+1,x,.cons _ t,e=>by
  obtain⟨u,b,a⟩:=Vals.get t (by simpa using e);exact⟨u,by simpa using b,a⟩
theorem Vals.set {x:V}{u:Ac}(r:RelV x u):∀{xs:List V}{us:List Ac} (i:Nat),Vals xs us->Vals (xs.set i x) (us.set i u)
 |_,_,_,.nil=>.nil
 |_,_,0,.cons _ t=>.cons r t
 |_,_,i+1,.cons q t=>.cons q (Vals.set r i t)
theorem Vals.append {xs a:List V}{us ws:List Ac}(h:Vals xs us)(s:Vals a ws):Vals (xs++a) (us++ws):=by
 induction h with
 |nil=>exact s
 |cons r _ b=>exact .cons r b
theorem Vals.take :∀{xs:List V}{us:List Ac} (n:Nat),Vals xs us->Vals (xs.take n) (us.take n)
 |_,_,0,_=>.nil
 |_,_,_+1,.nil=>.nil
 |_,_,n+1,.cons r t=>.cons r (Vals.take n t)
theorem Vals.drop :∀{xs:List V}{us:List Ac} (n:Nat),Vals xs us->Vals (xs.drop n) (us.drop n)
 |_,_,0,r=>r
 |_,_,_+1,.nil=>.nil
 |_,_,n+1,.cons _ t=>Vals.drop n t
def vZ :Option V->Option Ac->Prop
 |some v,some u=>RelV v u
 |none,none=>True
 |_,_=>False
def KV {a:Type}:List (a×V)->List (a×Ac)->Prop:=Paired λ(p:a×V) (q:a×Ac)=>p.1=q.1/\RelV p.2 q.2
def kV :Key->V
 |.inl i=>.int i
 |.inr x=>.str x
inductive HO where
  |lst (xs:List V)
  |tup (xs:List V)
  |dK (kvs:List (Key×V))|dT (kvs:List (List Key×V))
  |set (S:Int->Bool) (n:Nat)
  |ins (C dx:Ab) (fs:List (Str×V))
  |own (x:Ab)
  |xd (fs:List (Str×V))
  |met (f x:Ab)
  |rng (lo hi:Int)
  |frz (o:Obj) (u:HO)
  |tbl (ps:Array Ac)
  |ext (φ:Ao->Prop)
abbrev Hp :=Ab->Option HO
def upd (H:Hp)(a:Ab)(o:HO):Hp:=λb=>if b=a then some o else H b
def zk {H:Hp}{a:Ab}{o:HO}:upd H a o a=some o:=by unfold upd;rw[if_pos rfl]
def zm {H:Hp}{a b:Ab}{o:HO}(h:b≠a):upd H a o b=H b:=by unfold upd;rw[if_neg h]
def ue {H:Hp}{a:Ab}{o u:HO}:upd (upd H a o) a u=upd H a u:=by funext b;unfold upd;split<;>rfl
def zq {H:Hp}{a b:Ab}{o:HO}(h:H a=some o)(h':H b=none):a≠b:=by intro e;subst e;rw[h]at h';cases h'
section
variable (P:Ah)(w:Ak)
def xx (H:Hp)(h:Ao)(a:Ab):HO->Prop
 |.lst xs=>xs.length<=sizeLine/\∃(b:List Ac) (n:Nat),Vals xs b/\h.get? a=some {cls:=.type "list",data:=.seq b.toArray n}
 |.tup xs=>xs.length<=sizeLine/\∃b:List Ac,Vals xs b/\IsTup h a b.toArray
 |.dK kvs=>kvs.length<=sizeLine/\(a == sysModules)=false/\∃vs,KV kvs vs/\h.DictOf (xf P w) a vs
 |.dT kvs=>kvs.length<=sizeLine/\(a == sysModules)=false/\∃xs:List (List Key×Ab×Ac),
   Paired (λ(p:List Key×V) (q:List Key×Ab×Ac)=>p.1=q.1/\H q.2.1=some (.tup (p.1.map kV))/\RelV p.2 q.2.2) kvs xs/\
   ∃o c g,h.get? a=some o/\o.ExactDict/\o.data=.dict c g/\c.toList=xs.map (entryOfKey (tupleKind (xf P w)))/\(xs.map (·.1)).Nodup
 |.set S n=>h.SetOf (intKind P w) a S n
 |.ins C dx fs=>H dx=some (.own a)/\fs.length<=1000/\dx≠a/\h.get? a=some (PySem.W.instObj C dx)/\
   ∃mA,h.Ns1 dx mA/\(∀f,vZ (fs.lookup f) (mA f))/\PySem.Within mA (fs.map (·.1))
 |.own _=>∃o,h.get? a=some o
 |.xd fs=>∃mA,h.Ns1 a mA/\∀f,vZ (fs.lookup f) (mA f)
 |.rng lo hi=>∃t u v,h.get? a=some {cls:=.type "range",data:=.fields #[.int lo t,.int hi u,.int 1 v]}
 |.frz o u=>h.get? a=some o/\xx H h a u
 |.tbl ps=>h.get? a=some {cls:=.none,data:=.fields ps}
 |.met f x=>h.get? a=some (PySem.W.methodObj (.ref f) (.ref x))
 |.ext φ=>φ h/\(∃o,h.get? a=some o)/\∀e d:Ao,φ e->(∀o,e.get? a=some o->d.get? a=some o)->φ d
def HOk (H:Hp)(h:Ao):Prop:=∀a o,H a=some o->xx P w H h a o
end
section
variable {P:Ah}{w:Ak}{H H':Hp}{h h':Ao}{a:Ab}{o:HO}
theorem xx.lt (x:xx P w H h a o):a<h.objs.size:=by
 cases o with
 |lst xs=>obtain⟨_,_,_,_,e⟩:=x;exact zI9 e
 |tup xs=>obtain⟨_,_,_,p⟩:=x;exact p.lt
 |dK kvs=>obtain⟨_,_,_,_,o,_,_,e,_⟩:=x;exact zI9 e
 |dT kvs=>obtain⟨_,_,_,_,o,_,_,e,_⟩:=x;exact zI9 e
 |set S n=>obtain⟨o,_,_,_,e,_⟩:=x;exact zI9 e
 |ins C dx fs=>obtain⟨_,_,_,e,_⟩:=x;exact zI9 e
 |own y=>obtain⟨_,e⟩:=x;exact zI9 e
 |xd fs=>obtain⟨_,⟨_,_,_,e,_⟩,_⟩:=x;exact zI9 e
 |rng lo hi=>obtain⟨_,_,_,e⟩:=x;exact zI9 e
 |frz ob u=>obtain⟨e,_⟩:=x;exact zI9 e
 |tbl ps=>exact zI9 (x)
 |met f y=>exact zI9 (x)
 |ext φ=>obtain⟨_,⟨_,e⟩,_⟩:=x;exact zI9 e
theorem Paired.mapP {L β:Type}{F G:L->β->Prop}{c:List L}{d:List β}(h:Paired F c d)(f:∀a b,F a b->G a b):Paired G c d:=by
 induction h with
 |nil=>exact .nil
 |cons r _ e=>exact .cons (f _ _ r) e
theorem xx.stay (x:xx P w H h a o)(k:∀b u,(b=a\/H b=some (.own a))->h.get? b=some u->h'.get? b=some u)
  (m:∀b,H b=some (.own a)->H' b=some (.own a)) (ht:∀b xs,H b=some (.tup xs)->H' b=some (.tup xs)):xx P w H' h' a o:=by
 induction o with
 |lst xs=>obtain⟨z,j,n,r,e⟩:=x;exact⟨z,j,n,r,k _ _ (.inl rfl) e⟩
 |tup xs=>obtain⟨z,j,r,ob,e,c⟩:=x;exact⟨z,j,r,ob,k _ _ (.inl rfl) e,c⟩
 |dK kvs=>obtain⟨z,y,vs,r,ob,g,i,e,c⟩:=x;exact⟨z,y,vs,r,ob,g,i,k _ _ (.inl rfl) e,c⟩
 |dT kvs=>
  obtain⟨z,y,xs,r,ob,g,i,e,c⟩:=x;exact⟨z,y,xs,Paired.mapP r λp q z=>⟨z.1,ht _ _ z.2.1,z.2.2⟩,ob,g,i,k _ _ (.inl rfl) e,c⟩
 |set S n=>obtain⟨ob,g,i,t,e,c⟩:=x;exact⟨ob,g,i,t,k _ _ (.inl rfl) e,c⟩
 |ins C dx fs=>
  obtain⟨d,z,ne,e,mA,⟨od,g,i,l,c⟩,r⟩:=x;exact⟨m _ d,z,ne,k _ _ (.inl rfl) e,mA,⟨od,g,i,k _ _ (.inr d) l,c⟩,r⟩
 |own y=>obtain⟨ob,e⟩:=x;exact⟨ob,k _ _ (.inl rfl) e⟩
 |xd fs=>obtain⟨mA,⟨od,g,i,e,c⟩,r⟩:=x;exact⟨mA,⟨od,g,i,k _ _ (.inl rfl) e,c⟩,r⟩
 |rng lo hi=>obtain⟨t,u,v,e⟩:=x;exact⟨t,u,v,k _ _ (.inl rfl) e⟩
 |frz ob u s=>obtain⟨e,q⟩:=x;exact⟨k _ _ (.inl rfl) e,s q⟩
 |tbl ps=>
  exact k a _ (.inl rfl) x
 |met f y=>
  exact k a _ (.inl rfl) x
 |ext φ=>obtain⟨p,⟨o,e⟩,st⟩:=x;exact⟨st _ _ p λo q=>k _ _ (.inl rfl) q,⟨o,k _ _ (.inl rfl) e⟩,st⟩
theorem HOk.lt (x:HOk P w H h)(e:H a=some o):a<h.objs.size:=(x a o e).lt
theorem HOk.fresh (x:HOk P w H h)(e:h.objs.size<=a):H a=none:=by
 cases q:H a with
 |none=>rfl
 |some u=>exact absurd (zJ6 (x.lt q) e) (zR8 _)
def HOk.kept (x:HOk P w H h)(k:∀b u,h.get? b=some u->h'.get? b=some u):HOk P w H h':=λa o e=>
 (x a o e).stay (λb u _ q=>k b u q) (λ_ q=>q) λ_ _ q=>q
def HOk.laid (x:HOk P w H h)(k:∀b u,h.get? b=some u->h'.get? b=some u)(hp:h.objs.size<=a)(new:xx P w (upd H a o) h' a o):HOk P w (upd H a o) h':=λb u e=>by
 have hn:=x.fresh hp;by_cases d:b=a
 .subst d;rw[zk]at e;cases e;exact new
 .rw[zm d]at e;exact(x b u e).stay (λc v _ q=>k c v q) (λc q=>by rw[zm (zq q hn)];exact q) λc xs q=>by rw[zm (zq q hn)];exact q
end
def Rd (H:Hp)(a:Ab)(u:HO):Prop:=H a=some u\/∃o,H a=some (.frz o u)
def Rd.ok {P:Ah}{w:Ak}{H:Hp}{h:Ao}{a:Ab}{u:HO}(r:Rd H a u)(x:HOk P w H h):xx P w H h a u:=by
 rcases r with r|⟨o,r⟩
 .exact x a u r
 .obtain⟨_,q⟩:=x a _ r;exact q
def Mut :Option HO->Prop
 |some (.lst _)=>True
 |some (.dK _)=>True
 |some (.dT _)=>True
 |some (.set _ _)=>True
 |some (.ins _ _ _)=>True
 |some (.ext _)=>True
 |_=>False
section
variable {P:Ah}{w:Ak}{H:Hp}{h h':Ao}{x e:Ab}{o':HO}
def HOk.write (ok:HOk P w H h)(g:Mut (H x))(he:e=x\/H e=some (.own x))(k:∀b u,b≠e->h.get? b=some u->h'.get? b=some u)(l:∃u,h'.get? e=some u)
  (new:xx P w (upd H x o') h' x o'):HOk P w (upd H x o') h':=λb u q=>by
 have d:∀c y,H c=some (.own y)->c≠x:=λc y r z=>by subst z;rw[r]at g;exact g
 have f:∀c xs,H c=some (.tup xs)->c≠x:=λc xs r z=>by subst z;rw[r]at g;exact g
 by_cases j:b=x
 .subst j;rw[zk]at q;cases q;exact new
 .rw[zm j]at q;by_cases a:b=e
  .have m:H b=some (.own x):=by
    rcases he with z|z
    .exact absurd (a.trans z) j
    .rw[a];exact z
   rw[q]at m;cases m;obtain⟨v,n⟩:=l;exact⟨v,by rw[a];exact n⟩
  .refine(ok b u q).stay (λc v i r=>k c v ?_ r) (λc r=>by rw[zm (d c b r)];exact r) λc xs r=>by rw[zm (f c xs r)];exact r
   rcases i with rfl|i
   .exact a
   .rintro rfl;rcases he with z|z
    .exact d c b i z
    .rw[i]at z;cases z;exact j rfl
end
structure Un (fs ex:List Ab)(H H':Hp)(h h':Ao):Prop where
 keep:∀b o,h.get? b=some o->H b=none->b∉fs->b∉ex->h'.get? b=some o
 slot:∀b o,h.get? b=some o->H b=none->b∈fs->b∉ex->∃sl,h'.get? b=some {o with slots:=sl}
 free:∀b o,h.get? b=some o->H b=none->b∉ex->H' b=none
 there:∀b o,h.get? b=some o->b∉ex->∃o',h'.get? b=some o'
 tups:∀b xs,H b=some (.tup xs)->H' b=some (.tup xs)
 frzs:∀b o u,H b=some (.frz o u)->H' b=some (.frz o u)
 tbls:∀b ps,H b=some (.tbl ps)->∃more,H' b=some (.tbl (ps++more))
section
variable {fs fs' ex ex':List Ab}{H H1 H2:Hp}{h h1 h2 h':Ao}{a x e:Ab}{o:HO}
def Un.any (u:Un fs ex H H1 h h1){b:Ab}{ob:Obj}(q:h.get? b=some ob)(n:H b=none)(c:b∉ex):∃sl,h1.get? b=some {ob with slots:=sl}:=by
 by_cases d:b∈fs
 .exact u.slot b ob q n d c
 .exact⟨ob.slots,u.keep b ob q n d c⟩
def Un.kept (k:∀b u,h.get? b=some u->h'.get? b=some u):Un fs ex H H h h':=
 ⟨λb ob q _ _ _=>k b ob q,λb ob q _ _ _=>⟨ob.slots,k b ob q⟩,λ_ _ _ n _=>n,λb ob q _=>⟨ob,k b ob q⟩,λ_ _ q=>q,λ_ _ _ q=>q,λ_ ps q=>⟨#[],by rw[q];simp⟩⟩
def Un.refl :Un fs ex H H h h:=Un.kept λ_ _ q=>q
def Un.laid (k:∀b u,h.get? b=some u->h'.get? b=some u)(hp:h.objs.size<=a)(hn:H a=none):Un fs ex H (upd H a o) h h' where
 keep:=λb u q _ _ _=>k b u q
 slot:=λb u q _ _ _=>⟨u.slots,k b u q⟩
 free:=λb u q n _=>by rw[zm (zK8 (zJ6 (zI9 q) hp))];exact n
 there:=λb u q _=>⟨u,k b u q⟩
 tups:=λb xs q=>by rw[zm (zq q hn)];exact q
 frzs:=λb u xs q=>by rw[zm (zq q hn)];exact q
 tbls:=λb ps q=>⟨#[],by rw[zm (zq q hn),q];simp⟩
def Un.write (d:Mut (H x))(he:e=x\/H e=some (.own x))(k:∀b u,b≠e->h.get? b=some u->h'.get? b=some u)(f:∃u,h'.get? e=some u):Un fs ex H (upd H x o) h h':=by
 have g:∀b,H b=none->b≠x:=λb n z=>by subst z;rw[n]at d;exact d
 have i:∀b,H b=none->b≠e:=λb n z=>by
  subst z;rcases he with r|r
  .exact g b n r
  .rw[n]at r;cases r
 have hm:∀b u,H b=some u->¬Mut (some u)->b≠x:=λb u q nm z=>by subst z;rw[q]at d;exact nm d
 refine⟨λb u q n _ _=>k b u (i b n) q,λb u q n _ _=>⟨u.slots,k b u (i b n) q⟩,λb u q n _=>by rw[zm (g b n)];exact n,λb u q _=>?_,
  λb xs q=>by rw[zm (hm b _ q λz=>z)];exact q,λb u xs q=>by rw[zm (hm b _ q λz=>z)];exact q,λb ps q=>⟨#[],by rw[zm (hm b _ q λz=>z),q];simp⟩⟩
 by_cases c:b=e
 .subst c;exact f
 .exact⟨u,k b u c q⟩
end
def trk (h:Ao)(H:Hp):List Ab:=(List.range h.objs.size).filter λa=>(H a).isSome
def pG (h:Ao)(H:Hp):Ao:=PySem.W.hideAll h (trk h H)
def dC (h:Ao)(H:Hp):(pG h H).objs.size=h.objs.size:=PySem.W.hideAll_size _ _
def zc0 {h:Ao}{H:Hp}{b:Ab}{o:Obj}(e:h.get? b=some o)(n:H b=none):(pG h H).get? b=some o:=
 PySem.W.hideAll_get _ e λhm=>by
  have q:=(List.mem_filter.mp hm).2;rw[n]at q;simp at q
theorem zk5 {h:Ao}{H:Hp}{b:Ab}{o:Obj}(e:(pG h H).get? b=some o):h.get? b=some o/\H b=none:=by
 have a:=PySem.W.of_hideAll (trk h H) e;refine⟨a,?_⟩;cases q:H b with
 |none=>rfl
 |some x=>
  have hm:b∈trk h H:=List.mem_filter.mpr ⟨List.mem_range.mpr (zI9 a),by simp[q]⟩;have z:(pG h H).get? b=none:=PySem.W.hideAll_none (trk h H) hm;rw[z]at e;cases e
structure Mod (K:Ae)(mg:Str->Option Ac)(base:Ao):Prop where
 kin:K.In base
 glob:base.Ns Aj mg
 blt:∃mb,base.Ns builtinsNs mb/\∀x:Str,x≠"__name__"->mb x=bootBuiltins x
 nolimit:base.NoLimit
structure Cx where
 prog:Ah
 w:Ak
 K:Ae
 mg:Str->Option Ac
 base:Ao
 A:Ap
 N:List Str
 s₀:Af
 H₀:Hp
 env:Ar
 outer:List Ar
 stack:List Ar
 ex:List Ab
 fn:Str->Bool
 calm:Bool
 pn:List (Ab×Obj)
 xe:Ac->Af->Prop
def frs (l:List Ar):List Ab:=l.filterMap (·.frame)
abbrev Cx.fs (X:Cx):List Ab:=frs X.outer
def Vis (sc:Aq)(x:Str):Prop:=sc.names.lookup x=some .local\/sc.names.lookup x=some .cell\/sc.names.lookup x=some .free
def Loc (sc:Aq)(x:Str):Prop:=sc.names.lookup x=some .local\/sc.names.lookup x=some .cell
def Look (env:Ar)(h:Ao)(m:Str->Option Ac)(x:Str)(u:Ac):Prop:=
 (env.kindOf x=some .local/\m x=some u)\/((env.kindOf x=some .cell\/env.kindOf x=some .free)/\∃c,env.cells.lookup x=some c/\h.IsCell c (some u))
structure Cx.Ok (X:Cx):Prop where
 mod:Mod X.K X.mg X.base
 kind:X.env.scope.kind=.function
 glob:X.env.globals=Aj
 blt:X.env.builtins=builtinsNs
 above:X.s₀.heap.objs.size<=X.env.locals
 inj:∀x y c,X.env.cells.lookup x=some c->X.env.cells.lookup y=some c->x=y
 has:∀x,(X.env.kindOf x=some .cell\/X.env.kindOf x=some .free)->∃c,X.env.cells.lookup x=some c
 cab:∀x c,X.fn x=true->X.env.cells.lookup x=some c->X.s₀.heap.objs.size<=c
 hd:X.calm=true->X.A.handled=none
 frames:X.A.frames=some X.stack
 stk:X.stack=X.outer\/(X.stack=X.env::X.outer/\X.env.frame=some X.env.locals)
 exf:∀b∈X.ex,b≠X.env.locals/\∀x c,X.env.cells.lookup x=some c->c≠b
 bs:∀b o,X.base.get? b=some o->X.s₀.heap.get? b=some o/\X.H₀ b=none
 bsz:X.base.objs.size<=X.s₀.heap.objs.size
 noex:∀b o,X.base.get? b=some o->b∉X.ex
 exfs:∀b∈X.ex,b∉X.fs
 funs:X.s₀.heap.FunFrames X.base X.outer
 frf:∀b∈X.fs,X.H₀ b=none
structure Inv (X:Cx)(pins:List (Ab×Obj))(σ:List (Option V))(H:Hp)(s:Af):Prop where
 ok:X.Ok
 os:s.os=X.s₀.os
 bare:AllBare s.gens
 base:Un X.fs X.ex X.H₀ H X.s₀.heap s.heap
 loc:∃m,s.heap.Ns X.env.locals m/\∀(i:Nat) (x:Str) (v:V),X.N[i]?=some x->σ[i]?=some (some v)->Vis X.env.scope x->∃u,RelV v u/\Look X.env s.heap m x u
 cell:∀x c,X.env.cells.lookup x=some c->∃v,s.heap.IsCell c v
 free:H X.env.locals=none
 freeC:∀x c,X.env.cells.lookup x=some c->H c=none
 pin:∀p∈X.pn++pins,s.heap.get? p.1=some p.2/\H p.1=none/\p.1≠X.env.locals/\p.1∉X.fs/\∀v,p.2.data≠.cell v
 hok:HOk X.prog X.w H s.heap
 len:σ.length=X.N.length
section
variable {X:Cx}{pins:List (Ab×Obj)}{σ:List (Option V)}{H H':Hp}{s:Af}{h':Ao}
def Cx.Ok.nofr (ok:X.Ok){b:Ab}{o:Obj}(e:X.base.get? b=some o):b∉X.fs:=λa=>by
 have:=(ok.funs.mem a).1;rw[e]at this;cases this
theorem Inv.bs (I:Inv X pins σ H s):∀b o,X.base.get? b=some o->s.heap.get? b=some o/\H b=none:=λb o e=>
 ⟨I.base.keep b o (I.ok.bs b o e).1 (I.ok.bs b o e).2 (I.ok.nofr e) (I.ok.noex b o e),I.base.free b o (I.ok.bs b o e).1 (I.ok.bs b o e).2 (I.ok.noex b o e)⟩
def Inv.bk (I:Inv X pins σ H s):∀b o,X.base.get? b=some o->s.heap.get? b=some o:=λb o e=>(I.bs b o e).1
theorem Inv.mod (I:Inv X pins σ H s):Mod X.K X.mg X.base:=I.ok.mod
def Inv.kIn (I:Inv X pins σ H s):X.K.In s.heap:=I.ok.mod.kin.keeps I.bk
theorem Inv.lt (I:Inv X pins σ H s):X.env.locals<s.heap.objs.size:=let⟨_,hn,_⟩:=I.loc;hn.lt
def Inv.sz (I:Inv X pins σ H s):X.s₀.heap.objs.size<=s.heap.objs.size:=zJ1 I.ok.above (zM5 I.lt)
def Inv.nofs (I:Inv X pins σ H s){a:Ab}(h:s.heap.objs.size<=a):a∉X.fs:=λc=>by
 obtain⟨_,o,b,_⟩:=I.ok.funs.mem c;exact absurd (zJ6 (zI9 b) (zJ1 I.sz h)) (zR8 _)
def Inv.cne (I:Inv X pins σ H s):∀x c,X.env.cells.lookup x=some c->c≠X.env.locals:=λx c e z=>by
 obtain⟨v,o,d,hd⟩:=I.cell x c e;obtain⟨m,⟨o',f,g,a,b,_⟩,_⟩:=I.loc;rw[z,a]at d;cases d;rw[b]at hd;cases hd
theorem Inv.funs (I:Inv X pins σ H s):s.heap.FunFrames X.base X.outer:=by
 have all:∀l,(∀b∈frs l,b∈X.fs)->X.s₀.heap.FunFrames X.base l->s.heap.FunFrames X.base l:=by
  intro l
  induction l with
  |nil=>intro _ _;trivial
  |cons env r g=>
   intro d h;obtain⟨hk,⟨L,o,hf,hn,f,hd⟩,hr⟩:=h;have c:=d L (by unfold frs;rw[zW2,hf];exact zK2);obtain⟨sl,e⟩:=I.base.slot L o f (I.ok.frf L c) c λz=>I.ok.exfs L z c;exact⟨hk,⟨L,_,hf,hn,e,hd⟩,g (λb a=>d b (by unfold frs;rw[zW2,hf];exact zI6 _ a)) hr⟩
 exact all X.outer (λ_ a=>a) I.ok.funs
theorem Inv.stack (I:Inv X pins σ H s):s.heap.FunFrames X.base X.stack:=by
 rcases I.ok.stk with e|⟨e,hf⟩
 .rw[e];exact I.funs
 .rw[e];obtain⟨m,hn,_⟩:=I.loc;refine .cons (by rw[I.ok.kind];decide) hf hn ?_ I.funs;exact Heap.get?_none_of_le (zJ1 I.ok.bsz I.ok.above)
def Inv.stkSub (I:Inv X pins σ H s):∀b∈frs X.stack,b∈X.env.locals::X.fs:=λb a=>by
 rcases I.ok.stk with e|⟨e,hf⟩
 .rw[e]at a;exact zI6 _ a
 .rw[e]at a;unfold frs at a;rw[zW2,hf]at a;exact a
def Inv.stkFree (I:Inv X pins σ H s):∀b∈frs X.stack,H b=none:=λb a=>by
 rcases zI8.mp (I.stkSub b a)with e|a
 .rw[e];exact I.free
 .obtain⟨_,o,c,_⟩:=I.ok.funs.mem a;exact I.base.free b o c (I.ok.frf b a) λz=>I.ok.exfs b z a
def Inv.step {g':Array GenState}{t':Nat}{d':Drawn}{ch:List Ab}(I:Inv X pins σ H s)
  (g:∀b∈ch,(b∈X.ex\/X.s₀.heap.objs.size<=b)/\b≠X.env.locals/\(∀x c,X.env.cells.lookup x=some c->c≠b)/\∀p∈X.pn++pins,p.1≠b)
  (keep:∀b o,b≠X.env.locals->b∉X.fs->b∉ch->s.heap.get? b=some o->H b=none->h'.get? b=some o)
  (slot:∀b o,b≠X.env.locals->b∈X.fs->b∉ch->s.heap.get? b=some o->H b=none->∃sl,h'.get? b=some {o with slots:=sl}) (free:∀b o,b∉ch->s.heap.get? b=some o->H b=none->H' b=none)
  (there:∀b o,b∉ch->s.heap.get? b=some o->∃o',h'.get? b=some o')
  (tups:∀b xs,H b=some (.tup xs)->H' b=some (.tup xs)) (frzs:∀b o u,H b=some (.frz o u)->H' b=some (.frz o u)) (tbls:∀b ps,H b=some (.tbl ps)->∃more,H' b=some (.tbl (ps++more)))
  (ns:∀m,s.heap.Ns X.env.locals m->h'.Ns X.env.locals m) (hok:HOk X.prog X.w H' h') (J:AllBare g'):
  Inv X pins σ H' {s with heap:=h',gens:=g',drawn:=d',toks:=t'}:=by
 have A:∀b o,X.s₀.heap.get? b=some o->b≠X.env.locals:=λb o e=>zK8 (zJ6 (zI9 e) I.ok.above);have h:∀b o,X.s₀.heap.get? b=some o->b∉X.ex->b∉ch:=λb o e a t=>by
  rcases(g b t).1 with z|z
  .exact a z
  .exact absurd (zJ6 (zI9 e) z) (zR8 _)
 have cellK:∀x c,X.env.cells.lookup x=some c->∀v,s.heap.IsCell c v->h'.IsCell c v:=λx c e v C=>by
  obtain⟨o,y,hd⟩:=C;have f:c∉ch:=λz=>(g c z).2.2.1 x c e rfl;by_cases E:c∈X.fs
  .obtain⟨sl,q⟩:=slot c o (I.cne x c e) E f y (I.freeC x c e);exact⟨_,q,hd⟩
  .exact⟨o,keep c o (I.cne x c e) E f y (I.freeC x c e),hd⟩
 refine⟨I.ok,I.os,J,⟨λb o e n t a=>?_,λb o e n t a=>?_,λb o e n a=>?_,λb o e a=>?_,λb xs e=>tups b xs (I.base.tups b xs e),λb o xs e=>frzs b o xs (I.base.frzs b o xs e),λb ps e=>?_⟩,?_,λx c e=>?_,?_,λx c e=>?_,λp hp=>?_,hok,I.len⟩
 .exact keep b o (A b o e) t (h b o e a) (I.base.keep b o e n t a) (I.base.free b o e n a)
 .obtain⟨sl,j⟩:=I.base.slot b o e n t a;obtain⟨D,B⟩:=slot b _ (A b o e) t (h b o e a) j (I.base.free b o e n a);exact⟨D,B⟩
 .obtain⟨o',j⟩:=I.base.there b o e a;exact free b o' (h b o e a) j (I.base.free b o e n a)
 .obtain⟨o',j⟩:=I.base.there b o e a;exact there b o' (h b o e a) j
 .obtain⟨m1,j⟩:=I.base.tbls b ps e;obtain⟨m2,B⟩:=tbls b _ j;exact⟨m1++m2,by rw[B,Array.append_assoc]⟩
 .obtain⟨m,hn,F⟩:=I.loc;refine⟨m,ns m hn,λi x v j B G=>?_⟩;obtain⟨u,r,l⟩:=F i x v j B G;refine⟨u,r,?_⟩;rcases l with l|⟨k,c,e,z⟩
  .exact .inl l
  .exact .inr ⟨k,c,e,cellK x c e _ z⟩
 .obtain⟨v,z⟩:=I.cell x c e;exact⟨v,cellK x c e v z⟩
 .obtain⟨m,⟨o,_,_,y,_⟩,_⟩:=I.loc;exact free _ o (λz=>(g _ z).2.1 rfl) y I.free
 .obtain⟨v,o,y,hd⟩:=I.cell x c e;exact free c o (λz=>(g c z).2.2.1 x c e rfl) y (I.freeC x c e)
 .obtain⟨e,n,ne,nf,d⟩:=I.pin p hp;have f:p.1∉ch:=λz=>(g p.1 z).2.2.2 p hp rfl;exact⟨keep p.1 p.2 ne nf f e n,free p.1 p.2 f e n,ne,nf,d⟩
def Inv.un {t':Nat}(I:Inv X pins σ H s)(u:Un X.fs [] H H' s.heap h')(hok:HOk X.prog X.w H' h'):Inv X pins σ H' {s with heap:=h',toks:=t'}:=by
 obtain⟨m,⟨o,k,l,g,r⟩,_⟩:=id I.loc;obtain⟨sl,i⟩:=u.any g I.free (by simp);exact I.step (ch:=[]) (λ_ z=>nomatch z) (λb o _ d _ e n=>u.keep b o e n d (by simp)) (λb o _ d _ e n=>u.slot b o e n d (by simp)) (λb o _ e n=>u.free b o e n (by simp)) (λb o _ e=>u.there b o e (by simp)) u.tups u.frzs u.tbls (λj hm=>by
  obtain⟨o',c,f,a,h⟩:=hm;rw[g]at a;cases a;exact⟨_,c,f,i,h⟩) hok I.bare
def Inv.call {g':Array GenState}{t':Nat}{d':Drawn}{ch:List Ab}(I:Inv X pins σ H s)(u:Un (frs X.stack) ch H H' s.heap h')(hok:HOk X.prog X.w H' h')(q:AllBare g')
  (f:∀b∈ch,(b∈X.ex\/X.s₀.heap.objs.size<=b)/\b≠X.env.locals/\(∀x c,X.env.cells.lookup x=some c->c≠b)/\∀p∈X.pn++pins,p.1≠b):
  Inv X pins σ H' {s with heap:=h',gens:=g',drawn:=d',toks:=t'}:=by
 obtain⟨m,⟨o,v,y,j,r⟩,_⟩:=id I.loc;obtain⟨sl,h⟩:=u.any j I.free λz=>(f _ z).2.1 rfl;exact I.step f (λb o h l a e n=>u.keep b o e n (λz=>(zI8.mp (I.stkSub b z)).elim h l) a) (λb o _ _ a e n=>u.any e n a) (λb o a e n=>u.free b o e n a) (λb o a e=>u.there b o e a) u.tups u.frzs u.tbls (λt hm=>by
  obtain⟨o',g,i,d,k⟩:=hm;rw[j]at d;cases d;exact⟨_,g,i,h,k⟩) hok q
def Inv.turned {t':Nat}{it:Ab}(I:Inv X pins σ H s)(k:∀b o,b≠it->s.heap.get? b=some o->h'.get? b=some o)(hn:H it=none)(f:it≠X.env.locals)
  (h:it∈X.ex\/X.s₀.heap.objs.size<=it) (g:∀x c,X.env.cells.lookup x=some c->c≠it) (i:∀p∈X.pn++pins,p.1≠it):Inv X pins σ H {s with heap:=h',toks:=t'}:=by
 have d:∀b u,H b=some u->b≠it:=λb u e z=>by rw[z,hn]at e;cases e
 refine I.step (ch:=[it]) (λb j=>?_) (λb o _ _ a e _=>k b o (λz=>a (by simp[z])) e) (λb o _ _ a e _=>⟨o.slots,k b o (λz=>a (by simp[z])) e⟩) (λ_ _ _ _ n=>n)
  (λb o a e=>⟨o,k b o (λz=>a (by simp[z])) e⟩) (λ_ _ e=>e) (λ_ _ _ e=>e) (λb ps e=>⟨#[],by rw[e];simp⟩) (λm hm=>?_) (λb u e=>?_) I.bare
 .have e:b=it:=by simpa using j
  subst e;exact⟨h,f,g,i⟩
 .obtain⟨o,l,w,t,r⟩:=hm;exact⟨o,l,w,k _ o (zO2 f) t,r⟩
 .refine(I.hok b u e).stay (λc v a q=>k c v ?_ q) (λ_ q=>q) λ_ _ q=>q;rcases a with z|z
  .rw[z];exact d b u e
  .exact d c _ z
def Inv.tok (I:Inv X pins σ H s)(t:Nat):Inv X pins σ H {s with toks:=t}:=I.un Un.refl I.hok
theorem Inv.kept {t':Nat}(I:Inv X pins σ H s)(k:∀b u,s.heap.get? b=some u->h'.get? b=some u):Inv X pins σ H {s with heap:=h',toks:=t'}:=I.un (Un.kept k) (I.hok.kept k)
theorem Inv.laid {a:Ab}{o:HO}{t':Nat}(I:Inv X pins σ H s)(k:∀b u,s.heap.get? b=some u->h'.get? b=some u)(hp:s.heap.objs.size<=a)(new:xx X.prog X.w (upd H a o) h' a o):
  Inv X pins σ (upd H a o) {s with heap:=h',toks:=t'}:=I.un (Un.laid k hp (I.hok.fresh hp)) (I.hok.laid k hp new)
theorem Inv.write {x e:Ab}{o:HO}{t':Nat}(I:Inv X pins σ H s)(c:Mut (H x))(he:e=x\/H e=some (.own x))(k:∀b u,b≠e->s.heap.get? b=some u->h'.get? b=some u)(a:∃u,h'.get? e=some u)
  (new:xx X.prog X.w (upd H x o) h' x o):Inv X pins σ (upd H x o) {s with heap:=h',toks:=t'}:=I.un (Un.write c he k a) (I.hok.write c he k a new)
def Inv.pins_of {a:List (Ab×Obj)}(I:Inv X pins σ H s)(h:∀p∈a,s.heap.get? p.1=some p.2/\H p.1=none/\p.1≠X.env.locals/\p.1∉X.fs/\∀v,p.2.data≠.cell v):Inv X a σ H s:=
 ⟨I.ok,I.os,I.bare,I.base,I.loc,I.cell,I.free,I.freeC,λp hp=>(zM9.mp hp).elim (λz=>I.pin p (zP8 _ z)) (h p),I.hok,I.len⟩
def rY {N:List Str}(e:N.Nodup){i j:Nat}{x:Str}(a:N[i]?=some x)(b:N[j]?=some x):i=j:=by
 obtain⟨g,d⟩:=zH9.mp a;obtain⟨f,c⟩:=zH9.mp b;exact(List.getElem_inj e).mp (d.trans c.symm)
def pz {M:Model}{A:Ap}{E:Ac->Af->Prop}{i:Nat}{x:Str}{v:V}{u:Ac}{Q:Unit->Af->Prop}(I:Inv X pins σ H s)(hN:X.N.Nodup)(hi:X.N[i]?=some x)(t:Loc X.env.scope x)(r:RelV v u)
  (h:∀s',Inv X pins (σ.set i (some v)) H s'->(∃a,Heap.SameBut a s.heap s'.heap/\(a=X.env.locals\/X.env.cells.lookup x=some a))->Q () s') (hf:X.fn x=true\/X.env.scope.names.lookup x=some .local:=by first|exact .inl rfl|exact .inr rfl|assumption):Al M A (storeName X.env x u) Q E s:=by
 obtain⟨m,hn,hl⟩:=id I.loc;have O:(X.env.scope.kind == .class||(X.env.scope.kind == .module&&X.env.locals != X.env.globals))=false:=by rw[I.ok.kind];rfl
 have D:i<σ.length:=by rw[I.len];exact(zH9.mp hi).1
 have cne:=I.cne;have tracked:∀{a:Ab} {h':Ao},(∃o,s.heap.get? a=some o/\H a=none)->Heap.SameBut a s.heap h'->HOk X.prog X.w H h':=λ{a h'} ha f b ob e=>by
  obtain⟨_,_,B⟩:=ha;refine(I.hok b ob e).stay (λc S l q=>(f.2 c ?_).trans q) (λ_ q=>q) λ_ _ q=>q;rintro rfl;rcases l with rfl|l
  .rw[B]at e;cases e
  .rw[B]at l;cases l
 rcases t with hk|hk
 .refine wpAny_storeName_local hk hn (λh' a0 f=>?_) O;obtain⟨oL,_,_,U,_⟩:=id hn;refine h _ ⟨I.ok,I.os,I.bare,⟨λb o e n F t=>?_,λb o e n F t=>?_,I.base.free,λb o e t=>?_,I.base.tups,I.base.frzs,I.base.tbls⟩,⟨_,a0,λj y Z g C e3=>?_⟩,λy c e=>?_,I.free,I.freeC,λp hp=>?_,tracked ⟨oL,U,I.free⟩ f,by simpa using I.len⟩ ⟨_,f,.inl rfl⟩
  .exact(f.2 b (zK8 (zJ6 (zI9 e) I.ok.above))).trans (I.base.keep b o e n F t)
  .obtain⟨sl,g⟩:=I.base.slot b o e n F t;exact⟨sl,(f.2 b (zK8 (zJ6 (zI9 e) I.ok.above))).trans g⟩
  .obtain⟨o',g⟩:=I.base.there b o e t;exact⟨o',(f.2 b (zK8 (zJ6 (zI9 e) I.ok.above))).trans g⟩
  .by_cases G:j=i
   .subst G;rw[hi]at g;cases g;rw[zJ9 D]at C;cases C;exact⟨u,r,.inl ⟨hk,by simp⟩⟩
   .rw[zI4 (zO2 G)]at C;obtain⟨Y,W,q⟩:=hl j y Z g C e3;refine⟨Y,W,?_⟩;rcases q with⟨k,e⟩|⟨k,c,e,z⟩
    .refine .inl ⟨k,?_⟩;have:y≠x:=λe=>G (rY hN g (e▸hi));simp[this,e]
    .exact .inr ⟨k,c,e,z.sameBut f (cne y c e)⟩
  .obtain⟨S,z⟩:=I.cell y c e;exact⟨S,z.sameBut f (cne y c e)⟩
  .obtain⟨e,n,ne,nf,d⟩:=I.pin p hp;exact⟨(f.2 p.1 ne).trans e,n,ne,nf,d⟩
 .have J:X.fn x=true:=by
   rcases hf with z|z
   .exact z
   .rw[z]at hk;cases hk
  obtain⟨c,l⟩:=I.ok.has x (.inl hk);obtain⟨S,z⟩:=I.cell x c l;refine wpAny_storeName_cell I.ok.kind hk l z (λh' L f=>?_);obtain⟨oc,K,R⟩:=id z;refine h {s with heap:=h'} ⟨I.ok,I.os,I.bare,⟨λb o e n F t=>?_,λb o e n F t=>?_,I.base.free,λb o e t=>?_,I.base.tups,I.base.frzs,I.base.tbls⟩,⟨m,hn.sameBut f (zO2 (cne x c l)),λj y Z g C e3=>?_⟩,λy T e=>?_,I.free,I.freeC,λp hp=>?_,tracked ⟨oc,K,I.freeC x c l⟩ f,by simpa using I.len⟩ ⟨c,f,.inr l⟩
  .exact(f.2 b (zK8 (zJ6 (zI9 e) (I.ok.cab x c J l)))).trans (I.base.keep b o e n F t)
  .obtain⟨sl,g⟩:=I.base.slot b o e n F t;exact⟨sl,(f.2 b (zK8 (zJ6 (zI9 e) (I.ok.cab x c J l)))).trans g⟩
  .obtain⟨o',g⟩:=I.base.there b o e t;exact⟨o',(f.2 b (zK8 (zJ6 (zI9 e) (I.ok.cab x c J l)))).trans g⟩
  .by_cases G:j=i
   .subst G;rw[hi]at g;cases g;rw[zJ9 D]at C;cases C;exact⟨u,r,.inr ⟨.inl hk,c,l,L⟩⟩
   .rw[zI4 (zO2 G)]at C;obtain⟨Y,W,q⟩:=hl j y Z g C e3;refine⟨Y,W,?_⟩;rcases q with q|⟨k,T,e,z'⟩
    .exact .inl q
    .refine .inr ⟨k,T,e,z'.sameBut f ?_⟩;rintro rfl;exact G (rY hN g (I.ok.inj _ _ _ e l▸hi))
  .by_cases P:T=c
   .subst P;exact⟨_,L⟩
   .obtain⟨w2,z2⟩:=I.cell y T e;exact⟨w2,z2.sameBut f P⟩
  .obtain⟨e,n,ne,nf,d⟩:=I.pin p hp;refine⟨(f.2 p.1 ?_).trans e,n,ne,nf,d⟩;intro q;rw[q,K]at e;exact d S (by rw[<-(zL2 e)];exact R)
def rX {M:Model}{A:Ap}{E:Ac->Af->Prop}{i:Nat}{x:Str}{v:V}{u:Ac}{Q:Unit->Af->Prop}(I:Inv X pins σ H s)(c:X.N.Nodup)(hi:X.N[i]?=some x)(b:Loc X.env.scope x)(r:RelV v u)
  (h:∀s',Inv X pins (σ.set i (some v)) H s'->Q () s') (hf:X.fn x=true\/X.env.scope.names.lookup x=some .local:=by first|exact .inl rfl|exact .inr rfl|assumption):Al M A (storeName X.env x u) Q E s:=
 pz I c hi b r (λs' a _=>h s' a) hf
def Inv.call' {s':Af}{ch:List Ab}(I:Inv X pins σ H s)(d:s'.os=s.os)(u:Un (frs X.stack) ch H H' s.heap s'.heap)(hok:HOk X.prog X.w H' s'.heap)(f:AllBare s'.gens)
  (a:∀b∈ch,(b∈X.ex\/X.s₀.heap.objs.size<=b)/\b≠X.env.locals/\(∀x c,X.env.cells.lookup x=some c->c≠b)/\∀p∈X.pn++pins,p.1≠b):Inv X pins σ H' s':=by
 obtain⟨h',g',d',t',o'⟩:=s';have e:=d;subst e;exact I.call u hok f a
end
abbrev XK :=Ac->Option Ab->Hp->Prop
abbrev St :=List (Option V)
abbrev VK :=V->Hp->Prop
abbrev TE :=St->Hp->VK->Prop
abbrev TT :=St->Hp->(Bool->Hp->Prop)->Prop
abbrev TA :=St->Hp->(List V->Hp->Prop)->Prop
structure Ends where
 nx:St->Hp->Prop
 rt:VK
 bk:St->Hp->Prop:=λ_ _=>False
 ct:St->Hp->Prop:=λ_ _=>False
abbrev TS :=Ends->St->Hp->Prop
def EP (X:Cx)(pins:List (Ab×Obj))(σ:St)(Q:VK)(u:Ac)(s':Af):Prop:=∃v H',Inv X pins σ H' s'/\RelV v u/\Q v H'
def TP (X:Cx)(pins:List (Ab×Obj))(σ:St)(Q:Bool->Hp->Prop)(b:Bool)(s':Af):Prop:=∃H',Inv X pins σ H' s'/\Q b H'
def AP (X:Cx)(pins:List (Ab×Obj))(σ:St)(Q:List V->Hp->Prop)(us:List Ac)(s':Af):Prop:=∃vs H',Inv X pins σ H' s'/\Vals vs us/\Q vs H'
def SP (X:Cx)(pins:List (Ab×Obj))(D:Ends)(f:Flow)(s':Af):Prop:=
 match f with
 |.next=>∃a H',Inv X pins a H' s'/\D.nx a H'
 |.brk=>∃a H',Inv X pins a H' s'/\D.bk a H'
 |.cont=>∃a H',Inv X pins a H' s'/\D.ct a H'
 |.ret u=>∃v a H',Inv X pins a H' s'/\RelV v u/\D.rt v H'
def PE (X:Cx)(e:Ai)(t:TE):Prop:=
 ∀(pins:List (Ab×Obj)) (s:Af) (σ:St) (H:Hp) (Q:VK),Inv X pins σ H s->t σ H Q->Al (Am X.prog X.w) X.A (eval e X.env) (EP X pins σ Q) X.xe s
def PT (X:Cx)(e:Ai)(t:TT):Prop:=
 ∀(pins:List (Ab×Obj)) (s:Af) (σ:St) (H:Hp) (Q:Bool->Hp->Prop),Inv X pins σ H s->t σ H Q->Al (Am X.prog X.w) X.A (isTrue e X.env (eval e X.env)) (TP X pins σ Q) X.xe s
def PW (X:Cx)(e:Ai)(t:TT):Prop:=
 ∀(whole:Sem Ac) (pins:List (Ab×Obj)) (s:Af) (σ:St) (H:Hp) (Q:Bool->Hp->Prop),Inv X pins σ H s->t σ H Q->Al (Am X.prog X.w) X.A (isTrue e X.env whole) (TP X pins σ Q) X.xe s
def PW.pt {X:Cx}{e:Ai}{t:TT}(h:PW X e t):PT X e t:=h _
def PA (X:Cx)(a:List Ai)(t:TA):Prop:=
 ∀(pos:Pos) (pins:List (Ab×Obj)) (s:Af) (σ:St) (H:Hp) (Q:List V->Hp->Prop),Inv X pins σ H s->t σ H Q->Al (Am X.prog X.w) X.A (spliced (backTo pos (Ad a X.env))) (AP X pins σ Q) X.xe s
def PS (X:Cx)(st:An)(t:TS):Prop:=
 ∀(pins:List (Ab×Obj)) (s:Af) (σ:St) (H:Hp) (D:Ends),Inv X pins σ H s->t D σ H->Al (Am X.prog X.w) X.A (exec st X.env) (SP X pins D) X.xe s
def PSs (X:Cx)(st:List An)(t:TS):Prop:=
 ∀(pins:List (Ab×Obj)) (s:Af) (σ:St) (H:Hp) (D:Ends),Inv X pins σ H s->t D σ H->Al (Am X.prog X.w) X.A (execs st X.env) (SP X pins D) X.xe s
def thn {L:Type}{t:Sem L}{Q Q':L->Af->Prop}{M:Model}{A:Ap}{E:Ac->Af->Prop}{s:Af}(h:Al M A t Q E s)(b:∀a s,Q a s->Q' a s):Al M A t Q' E s:=zK3 h b λ_ _ x=>x
section
variable {X:Cx}
def zC4 (i:Nat):TE:=λσ H Q=>∃v,σ[i]?=some (some v)/\Q v H
def tC (v:V):TE:=λ_ H Q=>Q v H
def zT {i:Nat}{x:Str}{pos:Pos}(g:X.N[i]?=some x)(f:Vis X.env.scope x)(hd:(x == ("__debug__":Str))=false:=by decide)(b:(x == ("__classdict__":Str))=false:=by decide):PE X (.Name x pos) (zC4 i):=by
 intro pins s σ H Q I h;obtain⟨v,e,h⟩:=h;obtain⟨m,hn,j⟩:=I.loc;obtain⟨u,r,l⟩:=j i x v g e f;have fin:EP X pins σ Q u s:=⟨v,H,I,r,h⟩;rcases l with⟨hk,hm⟩|⟨hk,c,d,a⟩
 .exact wpAny_Name (wpAny_loadName_local I.ok.kind hk hn hm fin) hd
 .rcases hk with hk|hk
  .exact wpAny_Name (wpAny_loadName_cell I.ok.kind hk d a fin) hd
  .exact wpAny_Name (wpAny_loadName_free I.ok.kind hk d a fin b) hd
def zN {i j pos}:PE X (.Constant (.int i) j pos) (tC (.int i)):=λ_ _ _ H _ I h=>wpAny_Constant_int ⟨.int i,H,I.tok _,⟨_,rfl⟩,h⟩
def zx5 {b j pos}:PE X (.Constant (.bool b) j pos) (tC (.bl b)):=λ_ _ _ H _ I h=>Constant_bool ⟨.bl b,H,I,rfl,h⟩
def rk {j pos}:PE X (.Constant .none j pos) (tC .non):=λ_ _ _ H _ I h=>Constant_none ⟨.non,H,I,rfl,h⟩
def yi {x j pos}:PE X (.Constant (.str x) j pos) (tC (.str x)):=λ_ _ _ H _ I h=>Calls.Constant_str ⟨.str x,H,I.tok _,⟨_,rfl⟩,h⟩
def Gl (X:Cx)(x:Str):Prop:=X.env.kindOf x=some .globalImplicit
def xu {E:Ac->Af->Prop}{pins:List (Ab×Obj)}{s:Af}{σ:St}{H:Hp}{x:Str}{u:Ac}{pos:Pos}{Q:Ac->Af->Prop}(I:Inv X pins σ H s)(a:Gl X x)(hm:X.mg x=some u)(h:Q u s)
  (hd:(x == ("__debug__":Str))=false:=by decide):Al (Am X.prog X.w) X.A (eval (.Name x pos) X.env) Q E s:=
 Calls.Name_function_global I.ok.kind a (Calls.loadGlobal_global (by rw[I.ok.glob];exact I.mod.glob.keeps I.bk) hm h) hd
def uA {E:Ac->Af->Prop}{pins:List (Ab×Obj)}{s:Af}{σ:St}{H:Hp}{x:Str}{u:Ac}{pos:Pos}{Q:Ac->Af->Prop}(I:Inv X pins σ H s)(d:Gl X x)(hm:X.mg x=none)(c:bootBuiltins x=some u)(h:Q u s)
  (hn:x≠"__name__":=by decide) (hd:(x == ("__debug__":Str))=false:=by decide):Al (Am X.prog X.w) X.A (eval (.Name x pos) X.env) Q E s:=by
 obtain⟨mb,b,a⟩:=I.mod.blt;exact Calls.Name_function_global I.ok.kind d (Calls.loadGlobal_builtin (by rw[I.ok.glob];exact I.mod.glob.keeps I.bk) hm (by rw[I.ok.blt];exact b.keeps I.bk) ((a x hn).trans c) h) hd
def uf {x:Str}{v:V}{u:Ac}{pos:Pos}(a:Gl X x)(hm:X.mg x=some u)(r:RelV v u)(hd:(x == ("__debug__":Str))=false:=by decide):PE X (.Name x pos) (tC v):=
 λ_ _ _ H _ I h=>xu I a hm ⟨v,H,I,r,h⟩ hd
def vd {x:Str}{v:V}{u:Ac}{pos:Pos}(b:Gl X x)(hm:X.mg x=none)(a:bootBuiltins x=some u)(r:RelV v u)(hn:x≠"__name__":=by decide)(hd:(x == ("__debug__":Str))=false:=by decide):PE X (.Name x pos) (tC v):=
 λ_ _ _ H _ I h=>uA I b hm a ⟨v,H,I,r,h⟩ hn hd
variable {a b:Ai}{ta tb:TE}{pos:Pos}
def tB (t:TE):TT:=λσ H Q=>t σ H λx H1=>∃c,x=.bl c/\Q c H1
def iw {e:Ai}{t:TE}(h:PE X e t)(he:∀whole,isTrue e X.env whole=(do let v <-whole;standAt e.pos;holding [v] (truthy v)):=by intro _;rfl):PT X e (tB t):=by
 intro pins s σ H Q I hw;refine isTrue_plain (thn (h pins s σ H _ I hw) λv s1 c=>?_) (he _);obtain⟨x,H1,i,f,g⟩:=c;obtain⟨d,rfl,q⟩:=g;cases f;exact zR2 ⟨H1,i,q⟩
variable {tA tB':TT}{rest:List Ai}
def zH5 (t u:TT):TT:=λσ H Q=>t σ H λc H1=>if c=true then u σ H1 Q else Q false H1
def tOr (t u:TT):TT:=λσ H Q=>t σ H λc H1=>if c=true then Q true H1 else u σ H1 Q
def zE6 (t:TT):TT:=λσ H Q=>t σ H λc H1=>Q (!c) H1
theorem zj1 (ha:PT X a tA):PW X (.BoolOp .And [a] pos) tA:=by
 intro d pins s σ H Q I h;refine isTrue_and (thn (ha pins s σ H Q I h) λc s1 e=>?_);cases c with
 |true=>exact isTrue_and_nil e
 |false=>exact e
theorem jN (ha:PT X a tA):PW X (.BoolOp .Or [a] pos) tA:=by
 intro d pins s σ H Q I h;refine isTrue_or (thn (ha pins s σ H Q I h) λc s1 e=>?_);cases c with
 |false=>exact isTrue_or_nil e
 |true=>exact e
theorem zp1 (ha:PT X a tA)(g:PW X (.BoolOp .And (b::rest) pos) tB'):PW X (.BoolOp .And (a::b::rest) pos) (zH5 tA tB'):=by
 intro i pins s σ H Q I h;refine isTrue_and (thn (ha pins s σ H _ I h) λc s1 d=>?_);obtain⟨H1,f,e⟩:=d;cases c with
 |true=>exact g i pins s1 σ H1 Q f e
 |false=>exact⟨H1,f,e⟩
theorem bh (ha:PT X a tA)(g:PW X (.BoolOp .Or (b::rest) pos) tB'):PW X (.BoolOp .Or (a::b::rest) pos) (tOr tA tB'):=by
 intro i pins s σ H Q I h;refine isTrue_or (thn (ha pins s σ H _ I h) λc s1 d=>?_);obtain⟨H1,f,e⟩:=d;cases c with
 |true=>exact⟨H1,f,e⟩
 |false=>exact g i pins s1 σ H1 Q f e
def iA (ha:PT X a tA):PT X (.UnaryOp .Not a pos) (zE6 tA):=by
 intro pins s σ H Q I h;exact isTrue_not (ha pins s σ H (λc H1=>Q (!c) H1) I h)
def zz3 (ta tb:TE):TE:=λσ H Q=>ta σ H λx H1=>∃c,x=.bl c/\if c=true then tb σ H1 Q else Q (.bl false) H1
def zH3 (ta tb:TE):TE:=λσ H Q=>ta σ H λx H1=>∃c,x=.bl c/\if c=true then Q (.bl true) H1 else tb σ H1 Q
def zz7 (ta:TE):TE:=λσ H Q=>ta σ H λx H1=>∃c,x=.bl c/\Q (.bl (!c)) H1
def xR {op}{t:TE}(h:PE X a t):PE X (.BoolOp op [a] pos) t:=λpins s σ H Q I hw=>BoolOp_one (h pins s σ H Q I hw)
theorem xq (ha:PE X a ta)(i:PE X (.BoolOp .And (b::rest) pos) tb):PE X (.BoolOp .And (a::b::rest) pos) (zz3 ta tb):=by
 intro pins s σ H Q I h;refine BoolOp_and (thn (ha pins s σ H _ I h) λv s1 d=>?_);obtain⟨x,H1,f,g,e⟩:=d;obtain⟨c,rfl,e⟩:=e;cases g;refine zR2 ?_;cases c with
 |true=>exact i pins s1 σ H1 Q f e
 |false=>exact⟨.bl false,H1,f,rfl,e⟩
theorem zn0 (ha:PE X a ta)(i:PE X (.BoolOp .Or (b::rest) pos) tb):PE X (.BoolOp .Or (a::b::rest) pos) (zH3 ta tb):=by
 intro pins s σ H Q I h;refine BoolOp_or (thn (ha pins s σ H _ I h) λv s1 d=>?_);obtain⟨x,H1,f,g,e⟩:=d;obtain⟨c,rfl,e⟩:=e;cases g;refine zR2 ?_;cases c with
 |false=>exact i pins s1 σ H1 Q f e
 |true=>exact⟨.bl true,H1,f,rfl,e⟩
def bX (ha:PE X a ta):PE X (.UnaryOp .Not a pos) (zz7 ta):=by
 intro pins s σ H Q I h;refine UnaryOp_ (thn (ha pins s σ H _ I h) λv s1 d=>?_);obtain⟨x,H1,g,f,e⟩:=d;obtain⟨c,rfl,e⟩:=e;cases f;exact not_of (zR2 ⟨.bl (!c),H1,g,rfl,e⟩)
def tIf (t:TT)(ta tb:TE):TE:=λσ H Q=>t σ H λc H1=>if c=true then ta σ H1 Q else tb σ H1 Q
theorem cj {c:Ai}(i:PT X c tA)(ha:PE X a ta)(j:PE X b tb):PE X (.IfExp c a b pos) (tIf tA ta tb):=by
 intro pins s σ H Q I h;refine wpAny_IfExp (thn (i pins s σ H _ I h) λd s1 e=>?_);obtain⟨H1,g,f⟩:=e;cases d with
 |true=>exact ha pins s1 σ H1 Q g f
 |false=>exact j pins s1 σ H1 Q g f
end
def SqL (K:Ae)(H:Hp)(a:Ab)(xs:List V):Prop:=
 Rd H a (.lst xs)\/
  ∃(o:Obj) (b:Array Ac) (n:Nat),K.lookup a=some o/\o.cls=.type "list"/\o.dict=none/\o.data=.seq b n/\b.size<=sizeLine/\Vals xs b.toList
def SqT (K:Ae)(H:Hp)(a:Ab)(xs:List V):Prop:=
 Rd H a (.tup xs)\/
  ∃(o:Obj) (b:Array Ac) (n:Nat),K.lookup a=some o/\o.cls=.type "tuple"/\o.data=.seq b n/\b.size<=sizeLine/\Vals xs b.toList
def zE4 :Ac->Option V
 |.none=>some .non
 |.bool b=>some (.bl b)
 |.int i _=>some (.int i)
 |.str x _=>some (.str x)
 |.bytes b _=>some (.byt b)
 |.float b _=>some (.flt b)
 |.ref a=>some (.ref a)
 |.type n=>some (.ty n)
 |_=>none
theorem RelV.abs {x:V}{u:Ac}(r:RelV x u):zE4 u=some x:=by
 cases x with
 |non=>cases r;rfl
 |bl _=>cases r;rfl
 |int _=>obtain⟨t,rfl⟩:=r;rfl
 |str _=>obtain⟨t,rfl⟩:=r;rfl
 |byt _=>obtain⟨t,rfl⟩:=r;rfl
 |flt _=>obtain⟨t,rfl⟩:=r;rfl
 |ref _=>cases r;rfl
 |ty _=>cases r;rfl
def RelV.inj {x y:V}{u:Ac}(r:RelV x u)(q:RelV y u):x=y:=zL2 (r.abs.symm.trans q.abs)
theorem Vals.inj {xs a:List V}{us:List Ac}(h:Vals xs us)(k:Vals a us):xs=a:=by
 induction h generalizing a with
 |nil=>cases k;rfl
 |cons r _ b=>cases k with
  |cons c t'=>rw[r.inj c,b t']
section
variable {X:Cx}{pins:List (Ab×Obj)}{σ:St}{H:Hp}{s:Af}{a:Ab}{xs ys:List V}
def SqL.of {K:Ae}(h:H a=some (.lst xs)):SqL K H a xs:=.inl (.inl h)
def SqT.of {K:Ae}(h:H a=some (.tup xs)):SqT K H a xs:=.inl (.inl h)
def Inv.list (I:Inv X pins σ H s)(h:SqL X.K H a xs):∃b:List Ac,Vals xs b/\PlainL s.heap a b.toArray/\xs.length<=sizeLine:=by
 rcases h with h|⟨o,b,n,hk,f,hd,d,c,r⟩
 .obtain⟨z,b,n,r,e⟩:=h.ok I.hok;exact⟨b,r,⟨_,n,e,rfl,rfl,rfl⟩,z⟩
 .refine⟨b.toList,r,⟨o,n,I.kIn a o hk,f,hd,by simpa using d⟩,?_⟩;have e:=r.length;simp only[zS7]at e;exact zJ1 (zK7 e) c
def Inv.tuple (I:Inv X pins σ H s)(h:SqT X.K H a xs):∃b:List Ac,Vals xs b/\IsTup s.heap a b.toArray/\xs.length<=sizeLine:=by
 rcases h with h|⟨o,b,n,hk,f,d,c,r⟩
 .obtain⟨z,b,r,p⟩:=h.ok I.hok;exact⟨b,r,p,z⟩
 .refine⟨b.toList,r,⟨o,I.kIn a o hk,f,n,by simpa using d⟩,?_⟩;have e:=r.length;simp only[zS7]at e;exact zJ1 (zK7 e) c
def Inv.list_inj (I:Inv X pins σ H s)(h:SqL X.K H a xs)(h':SqL X.K H a ys):xs=ys:=by
 obtain⟨b,r,⟨o,n,e,_,_,d⟩,_⟩:=I.list h;obtain⟨its',f,⟨o',i,c,_,_,d'⟩,_⟩:=I.list h';rw[e]at c;cases c;rw[d]at d';injection d' with g _;have:b=its':=by simpa using congrArg Array.toList g
 subst this;exact r.inj f
def Inv.tuple_inj (I:Inv X pins σ H s)(h:SqT X.K H a xs)(h':SqT X.K H a ys):xs=ys:=by
 obtain⟨b,r,⟨o,e,_,n,d⟩,_⟩:=I.tuple h;obtain⟨its',f,⟨o',c,_,i,d'⟩,_⟩:=I.tuple h';rw[e]at c;cases c;rw[d]at d';injection d' with g _;have:b=its':=by simpa using congrArg Array.toList g
 subst this;exact r.inj f
end
abbrev Cx.wish (X:Cx)(E:Ac->Af->Prop):Cx:={X with xe:=E}
abbrev Cx.nox (X:Cx):Cx:=X.wish λ_ _=>False
theorem Cx.Ok.wish {X:Cx}(ok:X.Ok)(E:Ac->Af->Prop):(X.wish E).Ok:=
 ⟨ok.mod,ok.kind,ok.glob,ok.blt,ok.above,ok.inj,ok.has,ok.cab,ok.hd,ok.frames,ok.stk,ok.exf,ok.bs,ok.bsz,ok.noex,ok.exfs,ok.funs,ok.frf⟩
def Cx.Ok.unwish {X:Cx}{E:Ac->Af->Prop}(ok:(X.wish E).Ok):X.Ok:=
 ⟨ok.mod,ok.kind,ok.glob,ok.blt,ok.above,ok.inj,ok.has,ok.cab,ok.hd,ok.frames,ok.stk,ok.exf,ok.bs,ok.bsz,ok.noex,ok.exfs,ok.funs,ok.frf⟩
section
variable {X:Cx}{pins:List (Ab×Obj)}{σ:St}{H:Hp}{s:Af}{E:Ac->Af->Prop}
theorem Inv.wish (I:Inv X pins σ H s)(E:Ac->Af->Prop):Inv (X.wish E) pins σ H s:=⟨I.ok.wish E,I.os,I.bare,I.base,I.loc,I.cell,I.free,I.freeC,I.pin,I.hok,I.len⟩
theorem Inv.unwish (I:Inv (X.wish E) pins σ H s):Inv X pins σ H s:=⟨I.ok.unwish,I.os,I.bare,I.base,I.loc,I.cell,I.free,I.freeC,I.pin,I.hok,I.len⟩
theorem SP.unwish {D:Ends}{f:Flow}{s':Af}(h:SP (X.wish E) pins D f s'):SP X pins D f s':=by
 cases f with
 |next=>obtain⟨a,H',I,q⟩:=h;exact⟨a,H',I.unwish,q⟩
 |brk=>obtain⟨a,H',I,q⟩:=h;exact⟨a,H',I.unwish,q⟩
 |cont=>obtain⟨a,H',I,q⟩:=h;exact⟨a,H',I.unwish,q⟩
 |ret u=>obtain⟨v,a,H',I,r,q⟩:=h;exact⟨v,a,H',I.unwish,r,q⟩
theorem PSs.nox {st:List An}{t:TS}(h:PSs X.nox st t):PSs X st t:=λpins s σ H D I hw=>
 zK3 (h pins s σ H D (I.wish _) hw) (λ_ _ q=>q.unwish) λ_ _ z=>False.elim z
end
section
variable {X:Cx}{st:An}{rest:List An}{t u:TS}{e:Ai}{te:TE}{pos:Pos}
def zA8 :TS:=λD σ H=>D.nx σ H
def zD8 (t u:TS):TS:=λD σ H=>t {D with nx:=u D} σ H
def yT :PSs X [] zA8:=λ_ _ σ H _ I h=>zS8 ⟨σ,H,I,h⟩
theorem zv (d:PS X st t)(b:PSs X rest u):PSs X (st::rest) (zD8 t u):=by
 intro pins s σ H D I h;refine wpAny_execs_cons (thn (d pins s σ H {D with nx:=u D} I h) λf s1 q=>?_);cases f with
 |next=>
  obtain⟨a,H',c,q⟩:=q;exact b pins s1 a H' D c q
 |ret v=>exact q
 |brk=>exact q
 |cont=>exact q
theorem zI (a:PS X st t):PSs X [st] t:=by
 intro pins s σ H D I h;refine wpAny_execs_cons (thn (a pins s σ H D I h) λf s1 q=>?_);cases f with
 |next=>exact zS8 q
 |ret v=>exact q
 |brk=>exact q
 |cont=>exact q
def Inv.quiet {pins:List (Ab×Obj)}{σ:St}{H:Hp}{s:Af}(I:Inv X pins σ H s):interactive X.env=false:=by simp[interactive,I.ok.kind]
def zD1 (te:TE):TS:=λD σ H=>te σ H λ_ H1=>D.nx σ H1
def xU (he:PE X e te)(c:swapsWith e none pos.line X.env=pure false:=by rfl):PS X (.Expr e pos) (zD1 te):=by
 intro pins s σ H D I h;exact wpAny_Expr_any (thn (he pins s σ H _ I h) λv s1 a=>by obtain⟨x,H1,b,f,d⟩:=a;exact⟨σ,H1,b,d⟩) I.quiet c
def zE0 (te:TE):TS:=λD σ H=>te σ H D.rt
def zP (he:PE X e te):PS X (.Return (some e) pos) (zE0 te):=by
 intro pins s σ H D I h;exact wpAny_Return_some (thn (he pins s σ H _ I h) λv s1 a=>by obtain⟨x,H1,c,b,d⟩:=a;exact⟨x,σ,H1,c,b,d⟩)
def zH4 (c:TT)(t u:TS):TS:=λD σ H=>c σ H λb H1=>if b=true then t D σ H1 else u D σ H1
theorem wo {c:Ai}{a b:List An}{g:TT}(k:PT X c g)(ha:PSs X a t)(l:PSs X b u):PS X (.If c a b pos) (zH4 g t u):=by
 intro pins s σ H D I h;refine wpAny_If (thn (k pins s σ H _ I h) λd s1 f=>?_);obtain⟨H1,j,i⟩:=f;cases d with
 |true=>exact ha pins s1 σ H1 D j i
 |false=>exact l pins s1 σ H1 D j i
end
abbrev TG :=V->St->Hp->(St->Hp->Prop)->Prop
abbrev TGs :=List V->St->Hp->(St->Hp->Prop)->Prop
def PG (X:Cx)(target:Ai)(t:TG):Prop:=
 ∀(pins:List (Ab×Obj)) (s:Af) (σ:St) (H:Hp) (v:V) (u:Ac) (Q:St->Hp->Prop),Inv X pins σ H s->RelV v u->t v σ H Q->
  Al (Am X.prog X.w) X.A (assign target X.env u) (λ_ s'=>∃a H',Inv X pins a H' s'/\Q a H') X.xe s
def PGs (X:Cx)(ts:List Ai)(t:TGs):Prop:=
 ∀(pins:List (Ab×Obj)) (s:Af) (σ:St) (H:Hp) (vs:List V) (us:List Ac) (Q:St->Hp->Prop),Inv X pins σ H s->Vals vs us->t vs σ H Q->
  Al (Am X.prog X.w) X.A (assignInOrder ((assignEach ts X.env).map (·.2)) us) (λ_ s'=>∃a H',Inv X pins a H' s'/\Q a H') X.xe s
abbrev zv4 :=V->V->V->Hp->(Hp->Prop)->Prop
def zA9 (X:Cx)(t:zv4):Prop:=
 ∀(pins:List (Ab×Obj)) (s:Af) (σ:St) (H:Hp) (o i v:V) (a b u:Ac) (Q:Hp->Prop),Inv X pins σ H s->RelV o a->RelV i b->RelV v u->t o i v H Q->
  Al (Am X.prog X.w) X.A (setItem a b u) (λ_ s'=>∃H',Inv X pins σ H' s'/\Q H') X.xe s
section
variable {X:Cx}{pos:Pos}
def ph (i:Nat):TG:=λv σ H Q=>Q (σ.set i (some v)) H
def zQ {i:Nat}{x:Str}(b:X.N.Nodup)(hi:X.N[i]?=some x)(c:Loc X.env.scope x)(hf:X.fn x=true\/X.env.scope.names.lookup x=some .local:=by first|exact .inl rfl|exact .inr rfl|assumption):PG X (.Name x pos) (ph i):=by
 intro pins s σ H v u Q I r h;exact wpAny_assign_Name (rX I b hi c r (λs' a=>⟨_,H,a,h⟩) hf)
def zv7 :TGs:=λvs σ H Q=>vs=[]/\Q σ H
def gu (t:TG)(u:TGs):TGs:=λvs σ H Q=>∃v r,vs=v::r/\t v σ H λa H'=>u r a H' Q
def yY :PGs X [] zv7:=by
 intro pins s σ H vs us Q I r h;obtain⟨e,h⟩:=h;subst e;cases r;exact assignInOrder_nil ⟨σ,H,I,h⟩
theorem yo {e:Ai}{b:List Ai}{t:TG}{u:TGs}(f:PG X e t)(d:PGs X b u)
  (i:(assignEach (e::b) X.env).map (·.2)=assign e X.env::(assignEach b X.env).map (·.2):=by rfl):PGs X (e::b) (gu t u):=by
 intro pins s σ H vs us Q I r h;obtain⟨v,m,j,h⟩:=h;subst j;cases r with
 |cons r g=>
  rw[i];refine assignInOrder_cons (thn (f pins s σ H _ _ _ I r h) λ_ s1 a=>?_);obtain⟨c,H1,l,k⟩:=a;exact d pins s1 c H1 _ _ Q l g k
def bV (K:Ae)(n:Nat)(t:TGs):TG:=λv σ H Q=>∃a xs,v=.ref a/\SqT K H a xs/\xs.length=n/\t xs σ H Q
def zt4 {c:List Ai}{k:Nat}{t:TGs}{n:Nat}(j:X.calm=true)(h:PGs X c t)
  (hn:(assignEach c X.env).length=n:=by rfl) (d:(assignEach c X.env).findIdx? (·.1)=none:=by rfl):PG X (.Tuple c k pos) (bV X.K n t):=by
 intro pins s σ H v u Q I r hw;obtain⟨a,xs,m,g,p,hw⟩:=hw;subst m;cases r;obtain⟨i,f,ht,q⟩:=I.tuple g;refine assign_Tuple_tuple (I.ok.hd j) ht (by simp[hn,<-p,f.length]) d λh' l=>?_;exact h pins _ σ H xs _ Q (I.kept λb o e=>l b o (zK8 (zI9 e)) e) (by simpa using f) hw
def zD9 (to ti:TE)(t:zv4):TG:=λv σ H Q=>to σ H λo H1=>ti σ H1 λi b=>t o i v b λa=>Q σ a
def aq {o i:Ai}{to ti:TE}{t:zv4}(j:PE X o to)(hi:PE X i ti)(k:zA9 X t)
  (ha:∀v,assign (.Subscript o i pos) X.env v=(do
   let a <-holding [v] (eval o X.env)
   let d <-holding [v,a] (eval i X.env)
   standAt pos
   holding [v,a,d] (setItem a d v)
   release [v,a,d] []):=by intro _;rfl):PG X (.Subscript o i pos) (zD9 to ti t):=by
 intro pins s σ H v u Q I r h;rw[ha];refine zI0 (zQ3 (thn (j pins s σ H _ I h) λa s1 e=>?_));obtain⟨x,H1,A,f,m⟩:=e;refine zI0 (zQ3 (thn (hi pins s1 σ H1 _ A m) λd s2 c=>?_));obtain⟨y,p,g,w,z⟩:=c;refine zI0 (zS6 (zI0 (zQ3 (thn (k pins s2 σ p x y v a d u _ g f w r z) λ_ s3 b=>?_))));obtain⟨l,n,q⟩:=b;exact wpAny_release ⟨σ,l,n,q⟩
def zo7 (a:TE)(g:TG):TS:=λD σ H=>a σ H λx H1=>g x σ H1 D.nx
def kn {tg e:Ai}{b:TE}{g:TG}(he:PE X e b)(i:PG X tg g)(f:swapsWithSole [tg] e pos.line X.env=pure false:=by rfl)(hw:swappedStores [tg] e X.env=pure none:=by rfl)
  (d:(assignEach [tg] X.env).map (·.2)=[assign tg X.env]:=by rfl):PS X (.Assign [tg] e pos) (zo7 b g):=by
 intro pins s σ H D I h;refine wpAny_Assign_stores (thn (he pins s σ H _ I h) λv s1 a=>?_) f hw;obtain⟨x,H1,k,c,j⟩:=a;rw[d];exact thn (i pins s1 σ H1 x v _ k c j) λ_ s2 q=>q
def uz {i:Nat}{x:Str}{e:Ai}{b:TE}{pos':Pos}(j:X.N.Nodup)(hi:X.N[i]?=some x)(f:Loc X.env.scope x)(he:PE X e b)(g:swapsWith e (some (.Name x pos')) pos.line X.env=pure false:=by rfl)(hf:X.fn x=true\/X.env.scope.names.lookup x=some .local:=by first|exact .inl rfl|exact .inr rfl|assumption):
  PS X (.Assign [.Name x pos'] e pos) (zo7 b (ph i)):=by
 intro pins s σ H D I h;refine wpAny_Assign_Name (thn (he pins s σ H _ I h) λv s1 a=>?_) g;obtain⟨y,H1,l,c,k⟩:=a;exact rX l j hi f c (λs2 d=>⟨_,H1,d,k⟩) hf
end
section
variable {X:Cx}{pos:Pos}
end
structure It where
 go:Nat->Hp->Prop
 yld:Nat->Hp->V->Hp->Prop
 stop:Nat->Hp->Prop
def uu (X:Cx)(pins:List (Ab×Obj))(H:Hp)(b:Ab):Prop:=
 H b=none/\b≠X.env.locals/\b∉X.fs/\(b∈X.ex\/X.s₀.heap.objs.size<=b)/\(∀x c,X.env.cells.lookup x=some c->c≠b)/\∀p∈X.pn++pins,p.1≠b
def Inv.fpOk {X:Cx}{pins:List (Ab×Obj)}{σ:St}{H H':Hp}{s:Af}{b:Ab}(I:Inv X pins σ H s)(a:s.heap.objs.size<=b)(hn:H' b=none):uu X pins H' b:=by
 refine⟨hn,zT2 (zJ6 I.lt a),I.nofs a,.inr (zJ1 I.sz a),λx c e z=>?_,λp hp z=>?_⟩
 .obtain⟨v,q⟩:=I.cell x c e;exact absurd (zJ6 q.lt (by rw[z];exact a)) (zR8 _)
 .exact absurd (zJ6 (zI9 (I.pin p hp).1) (by rw[z];exact a)) (zR8 _)
structure Turn (P:Ah)(w:Ak)(K:Ae)(tg:Ai)(J:It)(fp:List Ab)(it:Ab)(tn:Nat->Ao->Prop):Prop where
 mem:it∈fp
 obj:∀i h,tn i h->∀b∈fp,∃o,h.get? b=some o/\∀v,o.data≠.cell v
 keep:∀i h h',tn i h->(∀b∈fp,∀o,h.get? b=some o->h'.get? b=some o)->tn i h'
 item:∀(X:Cx),X.prog=P->X.w=w->X.K=K->X.calm=true->∀(i:Nat) (pins:List (Ab×Obj)) (s:Af) (σ:St) (H:Hp) (E:Ac->Af->Prop),Inv X pins σ H s->(∀b∈fp,uu X pins H b)->tn i s.heap->J.go i H->
  Al (Am P w) X.A (pyNext (.ref it)) (λr s1=>∃u,r=some u/\
   Al (Am P w) X.A (letOwnedTupleGo tg (.ref it) u) (λ_ s2=>∃x H',Inv X pins σ H' s2/\RelV x u/\J.yld i H x H'/\tn (i+1) s2.heap/\∀b∈fp,H' b=none) E s1) E s
 done:∀(X:Cx),X.prog=P->X.w=w->X.K=K->X.calm=true->∀(i:Nat) (pins:List (Ab×Obj)) (s:Af) (σ:St) (H:Hp) (E:Ac->Af->Prop),Inv X pins σ H s->(∀b∈fp,uu X pins H b)->tn i s.heap->J.stop i H->
  Al (Am P w) X.A (pyNext (.ref it)) (λr s1=>r=none/\Inv X pins σ H s1) E s
 self:∀(A:Ap) (i:Nat) (s:Af) (Q:Ac->Af->Prop) (E:Ac->Af->Prop),tn i s.heap->Q (.ref it) s->Al (Am P w) A (pyIter (.ref it)) Q E s
abbrev TI :=St->Hp->(It->Hp->Prop)->Prop
def PIE (X:Cx)(pins:List (Ab×Obj))(σ:St)(tg:Ai)(R:It->Hp->Prop)(a:Ac)(s2:Af):Prop:=
 ∃(it:Ab) (fp:List Ab) (tn:Nat->Ao->Prop) (J:It) (H':Hp),a=.ref it/\Inv X pins σ H' s2/\Turn X.prog X.w X.K tg J fp it tn/\tn 0 s2.heap/\(∀b∈fp,uu X pins H' b)/\R J H'
def PI (X:Cx)(tg iter:Ai)(a:TI):Prop:=
 ∀(pins:List (Ab×Obj)) (s:Af) (σ:St) (H:Hp) (R:It->Hp->Prop),Inv X pins σ H s->a σ H R->
  Al (Am X.prog X.w) X.A (eval iter X.env) (λv s1=>Al (Am X.prog X.w) X.A (pyIter v) (PIE X pins σ tg R) X.xe s1) X.xe s
def gj {M:Model}{A:Ap}{E:Ac->Af->Prop}{s:Af}{tg:Ai}{it:Ab}{u:Ac}{o:Obj}{n:String}{vs:Array Ac}{Q:Unit->Af->Prop}(b:s.heap.get? it=some o)(c:o.cls=.type n)(hd:o.data=.fields vs)
  (hn:["enumerate","zip","dict_itemiterator","dict_reverseitemiterator","odict_iterator","itertools.zip_longest","itertools.pairwise"].contains n=false) (a:Q () s):Al M A (letOwnedTupleGo tg (.ref it) u) Q E s:=by
 unfold letOwnedTupleGo;cases tg<;>first
  |exact zJ3 a
  |(cases u<;>first
    |exact zJ3 a
    |(refine zI0 (wpAny_load b ?_)
      rw[c,hd];show Al M A (if(["enumerate","zip","dict_itemiterator","dict_reverseitemiterator","odict_iterator","itertools.zip_longest","itertools.pairwise"].contains n&&vs[0]? == some (rawInt _))=true then _ else _) Q E s;rw[if_neg (by intro h;rw[hn,zQ5]at h;cases h)];exact zJ3 a))
def Itl (K:Ae)(a:Ab):It:=
 ⟨λi H=>∃xs x,SqL K H a xs/\xs[i]?=some x,λi H x H'=>H'=H/\∀xs,SqL K H a xs->xs[i]?=some x,λi H=>∃xs,SqL K H a xs/\xs.length<=i⟩
def Itt (K:Ae)(a:Ab):It:=
 ⟨λi H=>∃xs x,SqT K H a xs/\xs[i]?=some x,λi H x H'=>H'=H/\∀xs,SqT K H a xs->xs[i]?=some x,λi H=>∃xs,SqT K H a xs/\xs.length<=i⟩
def Itr (lo:Int)(n:Nat):It:=⟨λi _=>i<n,λi H x H'=>H'=H/\x=.int (lo+i),λi _=>n<=i⟩
def fA {P:Ah}{w:Ak}{K:Ae}{tg:Ai}(a it:Ab):Turn P w K tg (Itl K a) [it] it (λi h=>h.IsListIter it a i) where
 mem:=by simp
 obj:=λi h st b f=>by
  have e:b=it:=by simpa using f
  subst e;obtain⟨o,e,c,d⟩:=st;exact⟨o,e,λv z=>by rw[d]at z;cases z⟩
 keep:=λi h h' st k=>st.at λo e=>k it (by simp) o e
 item:=by
  intro X y hw m B i pins s σ H E I hf st A;subst y hw m;obtain⟨xs,x,l,j⟩:=A;obtain⟨r,n,p,F⟩:=I.list l;obtain⟨u,C,L⟩:=n.get j;obtain⟨f0,f1,f2,t,f4,q⟩:=hf it (by simp);refine wpAny_pyNext_list_item st p.isList (by simpa using C) λh' g G=>?_;obtain⟨o,e,c,d⟩:=id g;exact⟨u,rfl,gj e c d (by decide) ⟨x,H,(I.turned (λb o f e=>(G.2 b f).trans e) f0 f1 t f4 q),L,⟨rfl,λM J=>by rw[I.list_inj J l];exact j⟩,g,λb f=>(hf b f).1⟩⟩
 done:=by
  intro X y hw m B i pins s σ H E I hf st A;subst y hw m;obtain⟨xs,l,j⟩:=A;obtain⟨r,n,p,F⟩:=I.list l;obtain⟨f0,f1,f2,t,f4,q⟩:=hf it (by simp);exact wpAny_pyNext_list_end (I.ok.hd B) st p.isList (by simp;exact zJ1 (zK7 n.length.symm) j) λh' D=>⟨rfl,I.turned (λb o f e=>D b o f e) f0 f1 t f4 q⟩
 self:=λ_ _ _ _ _ st h=>wpAny_pyIter_listiter st h
def jD {P:Ah}{w:Ak}{K:Ae}{tg:Ai}(a it:Ab):Turn P w K tg (Itt K a) [it] it (λi h=>h.IsTupleIter it a i) where
 mem:=by simp
 obj:=λi h st b f=>by
  have e:b=it:=by simpa using f
  subst e;obtain⟨o,e,c,d⟩:=st;exact⟨o,e,λv z=>by rw[d]at z;cases z⟩
 keep:=λi h h' st k=>st.at λo e=>k it (by simp) o e
 item:=by
  intro X y hw m B i pins s σ H E I hf st A;subst y hw m;obtain⟨xs,x,l,j⟩:=A;obtain⟨r,n,p,F⟩:=I.tuple l;obtain⟨u,C,L⟩:=n.get j;obtain⟨f0,f1,f2,t,f4,q⟩:=hf it (by simp);refine wpAny_pyNext_tuple_item st (p) (by simpa using C) λh' g G=>?_;obtain⟨o,e,c,d⟩:=id g;exact⟨u,rfl,gj e c d (by decide) ⟨x,H,(I.turned (λb o f e=>(G.2 b f).trans e) f0 f1 t f4 q),L,⟨rfl,λM J=>by rw[I.tuple_inj J l];exact j⟩,g,λb f=>(hf b f).1⟩⟩
 done:=by
  intro X y hw m B i pins s σ H E I hf st A;subst y hw m;obtain⟨xs,l,j⟩:=A;obtain⟨r,n,p,F⟩:=I.tuple l;obtain⟨f0,f1,f2,t,f4,q⟩:=hf it (by simp);exact wpAny_pyNext_tuple_end (I.ok.hd B) st (p) (by simp;exact zJ1 (zK7 n.length.symm) j) λh' D=>⟨rfl,I.turned (λb o f e=>D b o f e) f0 f1 t f4 q⟩
 self:=λ_ _ _ _ _ st h=>wpAny_pyIter_tupleiter st h
def jq {P:Ah}{w:Ak}{K:Ae}{tg:Ai}(it:Ab)(lo:Int)(n:Nat):Turn P w K tg (Itr lo n) [it] it (λi h=>IsRangeIter h it (lo+(i:Nat)*1) ((n:Int)-(i:Nat)) 1) where
 mem:=by simp
 obj:=λi h st b a=>by
  have e:b=it:=by simpa using a
  subst e;exact⟨_,st,λv z=>by
   have x:=z;cases x⟩
 keep:=λi h h' st k=>k it (by simp) _ st
 item:=by
  intro X l hw d j i pins s σ H E I hf st m;subst l hw d;obtain⟨f0,f1,f2,g,f4,f⟩:=hf it (by simp);refine(Walks.range (I.ok.hd j) it lo 1 n).item i s _ _ m st λv h' q r c p=>?_;obtain⟨t,rfl⟩:=r;have y:Inv X pins σ H {s with heap:=h',toks:=q}:=I.turned (λb o a e=>p b o (by simpa using a) e) f0 f1 g f4 f;refine⟨_,rfl,gj c rfl rfl (by decide) ⟨.int (lo+i),H,y,⟨t,?_⟩,⟨rfl,rfl⟩,c,λb a=>(hf b a).1⟩⟩;rw[Int.mul_one]
 done:=by
  intro X l hw d j i pins s σ H E I hf st m;subst l hw d;obtain⟨f0,f1,f2,g,f4,f⟩:=hf it (by simp);exact wpAny_pyNext_range_end (I.ok.hd j) st (by have:n<=i:=m;exact zC1 this) λh' u=>⟨rfl,I.turned (λb o a e=>u b o a e) f0 f1 g f4 f⟩
 self:=λ_ _ _ _ _ st h=>wpAny_pyIter_rangeiter st h
section
variable {X:Cx}{tg:Ai}
def zB5 (K:Ae)(tl:TE):TI:=λσ H R=>tl σ H λx H1=>∃a,x=.ref a/\(∃xs,SqL K H1 a xs)/\R (Itl K a) H1
def zH1 (K:Ae)(tl:TE):TI:=λσ H R=>tl σ H λx H1=>∃a,x=.ref a/\(∃xs,SqT K H1 a xs)/\R (Itt K a) H1
def oa {l:Ai}{tl:TE}(j:PE X l tl):PI X tg l (zB5 X.K tl):=by
 intro pins s σ H R I h;refine thn (j pins s σ H _ I h) λv s1 c=>?_;obtain⟨x,H1,d,f,m⟩:=c;obtain⟨a,e,⟨xs,g⟩,q⟩:=m;subst e;cases f;obtain⟨i,n,p,r⟩:=d.list g;refine wpAny_pyIter_list p.isList ⟨s1.heap.objs.size,[s1.heap.objs.size],_,_,H1,rfl,d.kept λb o e=>zI2 _ e,fA a _,⟨_,zL6 _ rfl,rfl,rfl⟩,λb k=>?_,q⟩;have e:b=s1.heap.objs.size:=by simpa using k
 subst e;exact d.fpOk (zI3 _) (d.hok.fresh (zI3 _))
def zp5 {l:Ai}{tl:TE}(j:PE X l tl):PI X tg l (zH1 X.K tl):=by
 intro pins s σ H R I h;refine thn (j pins s σ H _ I h) λv s1 c=>?_;obtain⟨x,H1,d,f,m⟩:=c;obtain⟨a,e,⟨xs,g⟩,q⟩:=m;subst e;cases f;obtain⟨i,n,p,r⟩:=d.tuple g;refine wpAny_pyIter_tuple (p) ⟨s1.heap.objs.size,[s1.heap.objs.size],_,_,H1,rfl,d.kept λb o e=>zI2 _ e,jD a _,⟨_,zL6 _ rfl,rfl,rfl⟩,λb k=>?_,q⟩;have e:b=s1.heap.objs.size:=by simpa using k
 subst e;exact d.fpOk (zI3 _) (d.hok.fresh (zI3 _))
def cF {pins:List (Ab×Obj)}{σ:St}{H:Hp}{s:Af}{R:It->Hp->Prop}{E:Ac->Af->Prop}{lo hi:Int}{t u v:Tok}{c:Nat}(I:Inv X pins σ H s)(f:-(2 ^ 62)<=lo)(d:lo<2 ^ 62)(g:-(2 ^ 62)<=hi)(j:hi<2 ^ 62)
  (q:R (Itr lo (hi-lo).toNat) H):Al (Am X.prog X.w) X.A (pyIter (.ref s.heap.objs.size)) (PIE X pins σ tg R) E {s with heap:=s.heap.push {cls:=.type "range",data:=.fields #[.int lo t,.int hi u,.int 1 v]},toks:=c}:=by
 refine wpAny_pyIter_range (IsRange.new ..) (small_one f d g j) ?_;have a:Inv X pins σ H {s with heap:=s.heap.push {cls:=.type "range",data:=.fields #[.int lo t,.int hi u,.int 1 v]},toks:=c}:=I.kept λb o e=>zI2 _ e;refine⟨(s.heap.push {cls:=.type "range",data:=.fields #[.int lo t,.int hi u,.int 1 v]}).objs.size,[(s.heap.push {cls:=.type "range",data:=.fields #[.int lo t,.int hi u,.int 1 v]}).objs.size],_,_,H,rfl,
  a.kept λb o e=>zI2 _ e,jq _ lo (hi-lo).toNat,?_,λb h=>?_,q⟩
 .have k:lo+((0:Nat):Int)*1=lo:=by simp
  have i:(((hi-lo).toNat:Nat):Int)-((0:Nat):Int)=Builtin.Range.rangeSize lo hi 1:=by rw[rangeSize_one];split<;>lia
  rw[k,i];exact zL6 _ rfl
 .have e:b=(s.heap.push {cls:=.type "range",data:=.fields #[.int lo t,.int hi u,.int 1 v]}).objs.size:=by simpa using h
  subst e;exact a.fpOk (zI3 _) (a.hok.fresh (zI3 _))
def zy6 (a:TA):TI:=λσ H R=>a σ H λvs H1=>∃j:Int,vs=[.int j]/\-(2 ^ 62)<=j/\j<2 ^ 62/\R (Itr 0 j.toNat) H1
theorem eh {a:Ai}{d:TA}{p pos:Pos}(k:Gl X "range")(hm:X.mg "range"=none)(ha:PA X [a] d)(i:Ad [a] X.env=[(false,eval a X.env)]:=by rfl):PI X tg (.Call (.Name "range" p) [a] [] pos) (zy6 d):=by
 intro pins s σ H R I h;refine Call_ (uA I k hm boot_range (zP2 (thn (ha pos pins s σ H _ I h) λus s1 b=>?_) i rfl));obtain⟨vs,H1,m,f,c⟩:=b;obtain⟨j,e,c,l,q⟩:=c;subst e;cases f with
 |cons r g=>
  cases g;obtain⟨t,rfl⟩:=r;exact call_range_1 (cF m (by decide) (by decide) c l (by simpa using q))
def zF6 (e:TI)(g:TG)(c:TS):TS:=λD σ H=>e σ H λJ H1=>∃W:Nat->Nat->St->Hp->Prop,(∃m,W 0 m σ H1)/\∀i m σ H,W i m σ H->
 (J.stop i H/\D.nx σ H)\/(J.go i H/\∃N:St->Hp->Prop,(∀a H',N a H'->∃b,b<m/\W (i+1) b a H')/\∀x H',J.yld i H x H'->g x σ H' λσ2 d=>c {D with nx:=N,ct:=N,bk:=D.nx} σ2 d)
def tG (fp:List Ab)(h:Ao):List (Ab×Obj):=fp.filterMap λb=>(h.get? b).map λo=>(b,o)
def xm {fp:List Ab}{h:Ao}{b:Ab}{o:Obj}(a:b∈fp)(e:h.get? b=some o):(b,o)∈tG fp h:=List.mem_filterMap.mpr ⟨b,a,by rw[e];rfl⟩
theorem du {fp:List Ab}{h:Ao}{p:Ab×Obj}(hp:p∈tG fp h):p.1∈fp/\h.get? p.1=some p.2:=by
 obtain⟨b,c,e⟩:=List.mem_filterMap.mp hp;cases q:h.get? b with
 |none=>rw[q]at e;cases e
 |some o=>
  rw[q]at e;have a:=zL2 e;subst a;exact⟨c,q⟩
def Inv.pinned {pins:List (Ab×Obj)}{σ:St}{H:Hp}{s:Af}{fp:List Ab}(I:Inv X pins σ H s)(hf:∀b∈fp,uu X pins H b)(f:∀b∈fp,∃o,s.heap.get? b=some o/\∀v,o.data≠.cell v):Inv X (pins++tG fp s.heap) σ H s:=
 I.pins_of λp hp=>(zM9.mp hp).elim (λz=>I.pin p (zK9 _ z)) λz=>by
  obtain⟨c,e⟩:=du z;obtain⟨f0,f1,f2,_⟩:=hf p.1 c;obtain⟨o,a,d⟩:=f p.1 c;rw[e]at a;cases a;exact⟨e,f0,f1,f2,d⟩
def Inv.unpinned {pins pl:List (Ab×Obj)}{σ:St}{H:Hp}{s:Af}(I:Inv X (pins++pl) σ H s):Inv X pins σ H s:=I.pins_of λp hp=>I.pin p (zK9 _ (zP8 _ hp))
def jh {iter:Ai}{body:List An}{Y:TI}{g:TG}{U:TS}{pos:Pos}(hp:PassesOwn (Am X.prog X.w) X.A X.env X.xe)(S:X.calm=true)(hi:PI X tg iter Y)(hg:PG X tg g)(q:PSs X body U)
  (hs:∀x,foldedSetIterable iter X.env x=pure x:=by intro _;rfl):PS X (.For tg iter body [] pos) (zF6 Y g U):=by
 intro pins s σ H D I h;refine wpAny_For (thn (hi pins s σ H _ I h) λv s1 h1=>thn h1 λa0 s2 h2=>?_) hs;obtain⟨it,fp,tn,J,H2,e,I2,T,Q,f2,W,⟨m0,w0⟩,turn⟩:=h2;subst e
 -- what stays true of the iterator's objects through the loop
 have c:∀{H':Hp},(∀b∈fp,H' b=none)->∀b∈fp,uu X pins H' b:=λhn b q=>⟨hn b q,(f2 b q).2⟩;refine codeAny_forLoop_any (λn s'=>∃i j H',Inv X pins j H' s'/\tn i s'.heap/\(∀b∈fp,H' b=none)/\W i n j H') ?_ m0 ⟨0,σ,H2,I2,Q,λb q=>(f2 b q).1,w0⟩;rintro n s3 ⟨i,k,L,R,F,K,w3⟩;rcases turn i n k L w3 with⟨stop,qn⟩|⟨go,N,hN,step⟩
 .refine zS9 hp (thn (T.done X rfl rfl rfl S i pins s3 k L X.xe R (c K) F stop) λr s4 E=>?_);obtain⟨hr,I4⟩:=E;subst hr;exact zS8 ⟨k,L,I4,qn⟩
 .refine zS9 hp (thn (T.item X rfl rfl rfl S i pins s3 k L X.xe R (c K) F go) λr s4 z=>?_);obtain⟨u,hr,h4⟩:=z;subst hr;refine zS9 hp (thn h4 λ_ s5 C=>?_);obtain⟨x,V,I5,r5,y5,y,M⟩:=C;refine zS9 hp (thn (hg _ s5 k V x u _ (I5.pinned (c M) (T.obj _ _ y)) r5 (step x V y5)) λ_ s6 B=>?_);obtain⟨O,H6,I6,q6⟩:=B;refine zS9 hp (thn (q _ s6 O H6 _ I6 q6) λf P t=>?_);have again:∀{a:St} {p:Hp},Inv X (pins++tG fp s5.heap) a p P->N a p->∃m,m<n/\∃i j H',Inv X pins j H' P/\tn i P.heap/\(∀b∈fp,H' b=none)/\W i m j H':=λ{a p} l G=>by
   obtain⟨m',hm,w7⟩:=hN a p G;refine⟨m',hm,i+1,a,p,l.unpinned,T.keep _ _ _ y λb q o e=>(l.pin (b,o) (zK9 _ (zK9 _ (xm q e)))).1,λb q=>?_,w7⟩;obtain⟨o,e,d⟩:=T.obj _ _ y b q;exact(l.pin (b,o) (zK9 _ (zK9 _ (xm q e)))).2.1
  cases f with
  |next=>obtain⟨a,p,l,G⟩:=t;exact again l G
  |cont=>obtain⟨a,p,l,G⟩:=t;exact again l G
  |brk=>obtain⟨a,p,l,t⟩:=t;exact⟨a,p,l.unpinned,t⟩
  |ret v=>obtain⟨x7,a,p,l,Z,t⟩:=t;exact⟨x7,a,p,l.unpinned,Z,t⟩
end
abbrev R2 :=V->V->Hp->VK->Prop
def OpR (X:Cx)(f:Ac->Ac->Sem Ac)(r:R2):Prop:=
 ∀(pins:List (Ab×Obj)) (s:Af) (σ:St) (H:Hp) (x y:V) (v u:Ac) (Q:VK),Inv X pins σ H s->RelV x v->RelV y u->r x y H Q->
  Al (Am X.prog X.w) X.A (f v u) (EP X pins σ Q) X.xe s
def UnR (X:Cx)(f:Ac->Sem Ac)(r:V->Hp->VK->Prop):Prop:=
 ∀(pins:List (Ab×Obj)) (s:Af) (σ:St) (H:Hp) (x:V) (v:Ac) (Q:VK),Inv X pins σ H s->RelV x v->r x H Q->
  Al (Am X.prog X.w) X.A (f v) (EP X pins σ Q) X.xe s
def wO (X:Cx)(f:Ac)(r:List V->Hp->VK->Prop):Prop:=
 ∀(pins:List (Ab×Obj)) (s:Af) (σ:St) (H:Hp) (xs:List V) (us:List Ac) (Q:VK),Inv X pins σ H s->Vals xs us->r xs H Q->
  Al (Am X.prog X.w) X.A (call f us) (EP X pins σ Q) X.xe s
def tOp (r:R2)(a b:TE):TE:=λσ H Q=>a σ H λx H1=>b σ H1 λy c=>r x y c Q
def tUn (r:V->Hp->VK->Prop)(a:TE):TE:=λσ H Q=>a σ H λx H1=>r x H1 Q
def rI (C:Int->Int->Prop)(g:Int->Int->V):R2:=λx y H Q=>∃i j,x=.int i/\y=.int j/\C i j/\Q (g i j) H
def rI0 (g:Int->Int->V):R2:=λx y H Q=>∃i j,x=.int i/\y=.int j/\Q (g i j) H
def rU (g:Int->V):V->Hp->VK->Prop:=λx H Q=>∃i,x=.int i/\Q (g i) H
section
variable {X:Cx}{a b c:Ai}{ta tb tc:TE}{pos:Pos}
def zo8 (ha:PE X a ta)(k:PE X b tb){pins:List (Ab×Obj)}{s:Af}{σ:St}{H:Hp}{R:V->V->Hp->Prop}(I:Inv X pins σ H s)
  (h:ta σ H λx H1=>tb σ H1 λy d=>R x y d) {Q:Ac->Af->Prop} {f:Ac->Ac->Sem Ac}
  (hf:∀v u s2 x y d,Inv X pins σ d s2->RelV x v->RelV y u->R x y d->Al (Am X.prog X.w) X.A (f v u) Q X.xe s2):
  Al (Am X.prog X.w) X.A (eval a X.env) (λv s₁=>Al (Am X.prog X.w) X.A (eval b X.env) (λu s₂=>Al (Am X.prog X.w) X.A (f v u) Q X.xe s₂) X.xe s₁) X.xe s:=by
 refine thn (ha pins s σ H _ I h) λv s1 e=>?_;obtain⟨x,H1,o,i,n⟩:=e;refine thn (k pins s1 σ H1 _ o n) λu s2 g=>?_;obtain⟨y,d,j,l,m⟩:=g;exact hf v u s2 x y d j i l m
def xA {op:Operator}{r:R2}(g:OpR X (binaryOp op) r)(ha:PE X a ta)(f:PE X b tb):PE X (.BinOp a op b pos) (tOp r ta tb):=by
 intro pins s σ H Q I h;exact wpAny_BinOp (zo8 ha f I h λv u s2 x y e d i j q=>g pins s2 σ e x y v u Q d i j q)
def zy3 {op:UnaryOp}{r:V->Hp->VK->Prop}(f:UnR X (unaryOp op) r)(ha:PE X a ta):PE X (.UnaryOp op a pos) (tUn r ta):=by
 intro pins s σ H Q I h;exact UnaryOp_ (thn (ha pins s σ H _ I h) λv s1 d=>by obtain⟨x,H1,i,e,g⟩:=d;exact f pins s1 σ H1 x v Q i e g)
def opI {f:Ac->Ac->Sem Ac}{C:Int->Int->Prop}{g:Int->Int->Int}
  (rule:∀(i j:Int) (t u:Tok) (s:Af) (Q:Ac->Af->Prop) (E:Ac->Af->Prop),C i j->Q (.int (g i j) s.toks) {s with toks:=s.toks+1}->Al (Am X.prog X.w) X.A (f (.int i t) (.int j u)) Q E s):
  OpR X f (rI C λi j=>.int (g i j)):=by
 intro pins s σ H x y v u Q I e k h;obtain⟨i,j,rfl,rfl,d,q⟩:=h;obtain⟨t,rfl⟩:=e;obtain⟨t',rfl⟩:=k;exact rule i j t t' s _ _ d ⟨.int (g i j),H,I.tok _,⟨_,rfl⟩,q⟩
def zx6 {f:Ac->Ac->Sem Ac}{g:Int->Int->Int}
  (rule:∀(i j:Int) (t u:Tok) (s:Af) (Q:Ac->Af->Prop) (E:Ac->Af->Prop),Q (.int (g i j) s.toks) {s with toks:=s.toks+1}->Al (Am X.prog X.w) X.A (f (.int i t) (.int j u)) Q E s):
  OpR X f (rI0 λi j=>.int (g i j)):=by
 intro pins s σ H x y v u Q I d e h;obtain⟨i,j,rfl,rfl,q⟩:=h;obtain⟨t,rfl⟩:=d;obtain⟨t',rfl⟩:=e;exact rule i j t t' s _ _ ⟨.int (g i j),H,I.tok _,⟨_,rfl⟩,q⟩
def zh6 {f:Ac->Ac->Sem Ac}{g:Int->Int->Bool}
  (rule:∀(i j:Int) (t u:Tok) (s:Af) (Q:Ac->Af->Prop) (E:Ac->Af->Prop),Q (.bool (g i j)) s->Al (Am X.prog X.w) X.A (f (.int i t) (.int j u)) Q E s):
  OpR X f (rI0 λi j=>.bl (g i j)):=by
 intro pins s σ H x y v u Q I d e h;obtain⟨i,j,rfl,rfl,q⟩:=h;obtain⟨t,rfl⟩:=d;obtain⟨t',rfl⟩:=e;exact rule i j t t' s _ _ ⟨.bl (g i j),H,I,rfl,q⟩
def zo6 (i j:Int):Prop:=0<=j/\j<=1000000/\i.natAbs<2 ^ 64
def zi5 (i j:Int):Prop:=(-(2 ^ 64)<i/\i<2 ^ 64)\/(-(2 ^ 64)<j/\j<2 ^ 64)
def zi5.ok {i j:Int}(h:zi5 i j):IntMulOk i j:=by
 rcases h with⟨e,d⟩|⟨e,d⟩
 .exact .of_left (intBits_le_64 e d)
 .exact .of_right (intBits_le_64 e d)
def oR :OpR X (binaryOp .Add) (rI0 λi j=>.int (i+j)):=zx6 λ_ _ _ _ _ _ _ q=>add_int q
def bu :OpR X (binaryOp .Sub) (rI0 λi j=>.int (i-j)):=zx6 λ_ _ _ _ _ _ _ q=>sub_int q
def pO :OpR X (binaryOp .Mult) (rI zi5 λi j=>.int (i*j)):=opI λ_ _ _ _ _ _ _ d q=>mul_int q d.ok
def qc :OpR X (binaryOp .Mod) (rI (λ_ j=>0<j) λi j=>.int (i % j)):=opI λi j _ _ _ _ _ d q=>by exact mod_int' (Int.ne_of_gt d) (by rw[Int.fmod_eq_emod_of_nonneg i (Int.le_of_lt d)];exact q)
def zr6 :OpR X (binaryOp .Pow) (rI zo6 λi j=>.int (i ^ j.toNat)):=opI λ_ _ _ _ _ _ _ d q=>pow_int_small d.1 d.2.1 d.2.2 q
def unI {f:Ac->Sem Ac}{g:Int->Int}
  (rule:∀(i:Int) (t:Tok) (s:Af) (Q:Ac->Af->Prop) (E:Ac->Af->Prop),Q (.int (g i) s.toks) {s with toks:=s.toks+1}->Al (Am X.prog X.w) X.A (f (.int i t)) Q E s):
  UnR X f (rU λi=>.int (g i)):=by
 intro pins s σ H x v Q I d h;obtain⟨i,rfl,q⟩:=h;obtain⟨t,rfl⟩:=d;exact rule i t s _ _ ⟨.int (g i),H,I.tok _,⟨_,rfl⟩,q⟩
def zv8 :UnR X (unaryOp .USub) (rU λi=>.int (-i)):=unI λ_ _ _ _ _ q=>neg_int q
end
def zD0 :V->V->Bool
 |.non,.non=>true|.non,.int _=>true|.int _,.non=>true|.non,.bl _=>true|.bl _,.non=>true|.non,.str _=>true|.str _,.non=>true
 |.int _,.int _=>true|.bl _,.bl _=>true|.str _,.str _=>true|.byt _,.byt _=>true
 |.int _,.str _=>true|.str _,.int _=>true|.bl _,.str _=>true|.str _,.bl _=>true
 |_,_=>false
def rEq :R2:=λx y H Q=>zD0 x y=true/\Q (.bl (decide (x=y))) H
def rNe :R2:=λx y H Q=>zD0 x y=true/\Q (.bl (!decide (x=y))) H
def fj {i j:Int}:decide (V.int i=V.int j)=(i == j):=by
 rw[zV0];simp
def zc4 {i j:Bool}:decide (V.bl i=V.bl j)=(i == j):=by
 rw[zV0];simp
def fc {i j:Str}:decide (V.str i=V.str j)=(i == j):=by
 rw[zV0];simp
def gR {i j:Array UInt8}:decide (V.byt i=V.byt j)=(i.toList == j.toList):=by
 rw[zV0];cases i;cases j;simp
section
variable {X:Cx}{a b c:Ai}{ta tb tc:TE}{pos:Pos}
def ye {pins:List (Ab×Obj)}{σ:St}{H:Hp}{s:Af}{Q:VK}{k d:Bool}(I:Inv X pins σ H s)(q:Q (.bl k) H)(e:k=d):EP X pins σ Q (.bool d) s:=by
 subst e;exact⟨.bl k,H,I,rfl,q⟩
theorem vz :OpR X (compareOp .Eq) rEq:=by
 intro pins s σ H x y v u Q I f d h;obtain⟨e,q⟩:=h;cases x with
 |non=>
  cases f;cases y with
  |non=>cases d;exact PySem.EqNone.eq_none_none (ye I q (by simp))
  |bl j=>cases d;exact PySem.EqNone.eq_none_bool (ye I q (by simp))
  |int j=>obtain⟨t',rfl⟩:=d;exact PySem.EqNone.eq_none_int (ye I q (by simp))
  |str j=>obtain⟨t',rfl⟩:=d;exact PySem.EqNone.eq_none_str (ye I q (by simp))
  |_=>exact absurd (e) zJ0
 |bl i=>
  cases f;cases y with
  |non=>cases d;exact PySem.EqNone.eq_bool_none (ye I q (by simp))
  |bl j=>cases d;exact eq_bool (ye I q zc4)
  |str j=>obtain⟨t',rfl⟩:=d;exact PySem.EqMixed.eq_bool_str (ye I q (by simp))
  |_=>exact absurd (e) zJ0
 |int i=>
  obtain⟨t,rfl⟩:=f;cases y with
  |non=>cases d;exact PySem.EqNone.eq_int_none (ye I q (by simp))
  |int j=>obtain⟨t',rfl⟩:=d;exact eq_int (ye I q fj)
  |str j=>obtain⟨t',rfl⟩:=d;exact PySem.EqMixed.eq_int_str (ye I q (by simp))
  |_=>exact absurd (e) zJ0
 |str i=>
  obtain⟨t,rfl⟩:=f;cases y with
  |non=>cases d;exact PySem.EqNone.eq_str_none (ye I q (by simp))
  |bl j=>cases d;exact PySem.EqMixed.eq_str_bool (ye I q (by simp))
  |int j=>obtain⟨t',rfl⟩:=d;exact PySem.EqMixed.eq_str_int (ye I q (by simp))
  |str j=>obtain⟨t',rfl⟩:=d;exact eq_str (ye I q fc)
  |_=>exact absurd (e) zJ0
 |byt i=>
  obtain⟨t,rfl⟩:=f;cases y with
  |byt j=>obtain⟨t',rfl⟩:=d;exact PySem.W.eq_bytes (ye I q gR)
  |_=>exact absurd (e) zJ0
 |_=>cases y<;>exact absurd (e) zJ0
theorem zC8 :OpR X (compareOp .NotEq) rNe:=by
 intro pins s σ H x y v u Q I f d h;obtain⟨e,q⟩:=h;cases x with
 |non=>
  cases f;cases y with
  |non=>cases d;exact PySem.EqNone.ne_none_none (ye I q (by simp))
  |bl j=>cases d;exact PySem.EqNone.ne_none_bool (ye I q (by simp))
  |int j=>obtain⟨t',rfl⟩:=d;exact PySem.EqNone.ne_none_int (ye I q (by simp))
  |str j=>obtain⟨t',rfl⟩:=d;exact PySem.EqNone.ne_none_str (ye I q (by simp))
  |_=>exact absurd (e) zJ0
 |bl i=>
  cases f;cases y with
  |non=>cases d;exact PySem.EqNone.ne_bool_none (ye I q (by simp))
  |bl j=>cases d;exact ne_bool (ye I q (congrArg not zc4))
  |str j=>obtain⟨t',rfl⟩:=d;exact PySem.EqMixed.ne_bool_str (ye I q (by simp))
  |_=>exact absurd (e) zJ0
 |int i=>
  obtain⟨t,rfl⟩:=f;cases y with
  |non=>cases d;exact PySem.EqNone.ne_int_none (ye I q (by simp))
  |int j=>obtain⟨t',rfl⟩:=d;exact ne_int (ye I q (congrArg not fj))
  |str j=>obtain⟨t',rfl⟩:=d;exact PySem.EqMixed.ne_int_str (ye I q (by simp))
  |_=>exact absurd (e) zJ0
 |str i=>
  obtain⟨t,rfl⟩:=f;cases y with
  |non=>cases d;exact PySem.EqNone.ne_str_none (ye I q (by simp))
  |bl j=>cases d;exact PySem.EqMixed.ne_str_bool (ye I q (by simp))
  |int j=>obtain⟨t',rfl⟩:=d;exact PySem.EqMixed.ne_str_int (ye I q (by simp))
  |str j=>obtain⟨t',rfl⟩:=d;exact ne_str (ye I q (congrArg not fc))
  |_=>exact absurd (e) zJ0
 |byt i=>
  obtain⟨t,rfl⟩:=f;cases y with
  |byt j=>obtain⟨t',rfl⟩:=d;exact PySem.W.ne_bytes (ye I q (congrArg not gR))
  |_=>exact absurd (e) zJ0
 |_=>cases y<;>exact absurd (e) zJ0
def zD2 :OpR X (compareOp .Lt) (rI0 λi j=>.bl (decide (i<j))):=zh6 λ_ _ _ _ _ _ _ q=>lt_int q
def zc5 :OpR X (compareOp .LtE) (rI0 λi j=>.bl (decide (i<=j))):=zh6 λ_ _ _ _ _ _ _ q=>le_int q
def zl7 :OpR X (compareOp .Gt) (rI0 λi j=>.bl (decide (j<i))):=zh6 λ_ _ _ _ _ _ _ q=>gt_int q
def zB2 :OpR X (compareOp .GtE) (rI0 λi j=>.bl (decide (j<=i))):=zh6 λ_ _ _ _ _ _ _ q=>ge_int q
def ko :OpR X (compareOp .Is) (λx y H Q=>y=.non/\Q (.bl (decide (x=.non))) H):=by
 intro pins s σ H x y v u Q I d e h;obtain⟨rfl,q⟩:=h;cases e;refine is_none_gen (ye I q ?_);cases x<;>first
  |(cases d;rfl)
  |(obtain⟨t,rfl⟩:=d;rfl)
def yc (b:Ai){op:CmpOp}(h:op≠.In:=by decide)(d:op≠.NotIn:=by decide):behindInMarks op b=false:=by
 have f:(op == CmpOp.In)=false:=by cases op<;>first|rfl|exact absurd rfl h
 have e:(op == CmpOp.NotIn)=false:=by cases op<;>first|rfl|exact absurd rfl d
 cases b<;>simp[behindInMarks,f,e]
def wG {op:CmpOp}{r:R2}(g:OpR X (compareOp op) r)(ha:PE X a ta)(f:PE X b tb)(hm:behindInMarks op b=false):PE X (.Compare a [op] [b] pos) (tOp r ta tb):=by
 intro pins s σ H Q I h;exact wpAny_Compare1 (zo8 ha f I h λv u s2 x y e d i j q=>g pins s2 σ e x y v u Q d i j q) hm
def zy7 (t:TE):TT:=λσ H Q=>t σ H λx H'=>∃k,x=.bl k/\Q k H'
def yH {op:CmpOp}{r:R2}(m:OpR X (compareOp op) r)(ha:PE X a ta)(j:PE X b tb)(hm:behindInMarks op b=false):PT X (.Compare a [op] [b] pos) (zy7 (tOp r ta tb)):=by
 intro pins s σ H Q I h;refine wpAny_isTrue_Compare1 (thn (ha pins s σ H _ I h) λv s1 ⟨x,H1,w,d,q⟩=>thn (j pins s1 σ H1 _ w q) λu s2 ⟨y,i,f,o,p⟩=>
  thn (m pins s2 σ i x y v u _ f d o p) λc s3 ⟨z,n,g,t,k,e,l⟩=>?_) hm
 subst e;cases t;exact zR2 ⟨n,g,l⟩
def zo1 (r e:R2)(ta tb tc:TE):TE:=λσ H Q=>ta σ H λx H1=>tb σ H1 λy g=>r x y g λz d=>∃k,z=.bl k/\
 (if k=true then tc σ d λf h=>e y f h Q else Q (.bl false) d)
theorem za6 {op f:CmpOp}{r i:R2}(A:OpR X (compareOp op) r)(g:OpR X (compareOp f) i)(ha:PE X a ta)(G:PE X b tb)(E:PE X c tc)
  (hm:lastMarks [op,f] [b,c]=false:=by with_unfolding_all rfl):PE X (.Compare a [op,f] [b,c] pos) (zo1 r i ta tb tc):=by
 intro pins s σ H Q I h;refine Compare_chain (thn (ha pins s σ H _ I h) λv s1 ⟨x,H1,M,o,B⟩=>chain_link (thn (G pins s1 σ H1 _ M B) λu s2 ⟨y,F,q,n,J⟩=>
  thn (A pins s2 σ F x y v u _ q o n J) λd s3 ⟨z,j,l,C,k,e,m⟩=>?_)) hm
 subst e;cases C;refine zR2 ?_;cases k with
 |false=>exact ite_ff ⟨.bl false,j,l,rfl,m⟩
 |true=>exact ite_tt (chain_last (thn (E pins s3 σ j _ l m) λt s4 ⟨K,L,p,D,w⟩=>g pins s4 σ L y K u t Q p n D w))
def qx :(sizeLine:Nat)<2 ^ 63:=by rw[zO4];decide
def jL :OpR X (binaryOp .Add) (λx y H Q=>∃i j,x=.str i/\y=.str j/\i.length+j.length<=sizeLine/\Q (.str (i++j)) H):=by
 intro pins s σ H x y v u Q I e f h;obtain⟨i,j,rfl,rfl,d,q⟩:=h;obtain⟨t,rfl⟩:=e;obtain⟨t',rfl⟩:=f;exact add_str (λt' g=>⟨.str (i++j),H,I.tok _,⟨_,rfl⟩,q⟩) d
theorem vals1 {x:V}{us:List Ac}(r:Vals [x] us):∃u,us=[u]/\RelV x u:=by
 cases r with
 |cons d e=>cases e;exact⟨_,rfl,d⟩
theorem vals2 {x y:V}{us:List Ac}(r:Vals [x,y] us):∃u d,us=[u,d]/\RelV x u/\RelV y d:=by
 cases r with
 |cons e f=>
  cases f with
  |cons g h=>cases h;exact⟨_,_,rfl,e,g⟩
def eZ (e:X.calm=true):wO X (.builtin "max") (λxs H Q=>∃i j,xs=[.int i,.int j]/\Q (.int (if j > i then j else i)) H):=by
 intro pins s σ H xs us Q I r h;obtain⟨i,j,rfl,q⟩:=h;obtain⟨u,g,rfl,⟨t,rfl⟩,⟨t',rfl⟩⟩:=vals2 r;refine max_two_ints (I.ok.hd e) λh' f k=>⟨_,H,I.kept k,?_,q⟩;by_cases d:j > i
 .rw[if_pos d,if_pos d];exact⟨_,rfl⟩
 .rw[if_neg d,if_neg d];exact⟨_,rfl⟩
def dI (e:X.calm=true):wO X (.builtin "min") (λxs H Q=>∃i j,xs=[.int i,.int j]/\Q (.int (if j<i then j else i)) H):=by
 intro pins s σ H xs us Q I r h;obtain⟨i,j,rfl,q⟩:=h;obtain⟨u,g,rfl,⟨t,rfl⟩,⟨t',rfl⟩⟩:=vals2 r;refine min_two_ints (I.ok.hd e) λh' f k=>⟨_,H,I.kept k,?_,q⟩;by_cases d:j<i
 .rw[if_pos d,if_pos d];exact⟨_,rfl⟩
 .rw[if_neg d,if_neg d];exact⟨_,rfl⟩
def dH :wO X (.type "int") (λxs H Q=>(∃i,xs=[.int i]/\Q (.int i) H)\/∃k,xs=[.bl k]/\Q (.int (if k then 1 else 0)) H):=by
 intro pins s σ H xs us Q I r h;rcases h with⟨i,rfl,q⟩|⟨k,rfl,q⟩
 .obtain⟨u,rfl,t,rfl⟩:=vals1 r;exact call_int_int ⟨.int i,H,I,⟨_,rfl⟩,q⟩
 .obtain⟨u,rfl,d⟩:=vals1 r;cases d;exact call_int_bool ⟨.int (if k then 1 else 0),H,I.tok _,⟨_,rfl⟩,q⟩
end
structure kF (h:Ao)(x dx C:Ab)(mA:Str->Option Ac):Prop where
 obj:h.get? x=some (PySem.W.instObj C dx)
 ns:h.Ns1 dx mA
 ne:dx≠x
def qW {h:Ao}{dx:Ab}{mA:Str->Option Ac}(n:h.Ns1 dx mA):∃od,h.get? dx=some od/\∀name,PySem.W.lookIn name od=some (mA name):=by
 obtain⟨o,c,i,g,hd,hk,_,hm⟩:=n;refine⟨o,g,λname=>?_⟩;have e:=hm name;unfold nsFind findBy at e;rw[<-Array.find?_toList]at e;unfold PySem.W.lookIn;rw[hd];dsimp only;split
 .rename_i y q;rw[q]at e;exact congrArg some e
 .rename_i q;rw[q]at e;have a:c.toList.any (·.refKey)=false:=by
   rw[List.any_eq_false];intro y f;obtain⟨z,t,b⟩:=hk y (Array.mem_toList_iff.mp f);simp[DictEntry.refKey,b]
  have d:¬c.toList.any (·.refKey)=true:=by rw[a];exact zJ0
  rw[if_neg d];exact congrArg some e
def kF.look {h:Ao}{x dx C:Ab}{mA:Str->Option Ac}(I:kF h x dx C mA):∃od,PySem.W.InstAt h x (PySem.W.instObj C dx) C (some od)/\∀name,PySem.W.lookIn name od=some (mA name):=
 let⟨od,ho,hl⟩:=qW I.ns
 ⟨od,⟨I.obj,rfl,rfl,ho⟩,hl⟩
section
variable {prog:Ah}{w:Ak}{A:Ap}{E:Ac->Af->Prop}{s:Af}{K:Ae}{x dx C f:Ab}{mA:Str->Option Ac}{name:Str}{v:Ac}
def get_map {expr:Bool}{Q:Ac->Af->Prop}(X:K.In s.heap)(I:kF s.heap x dx C mA)(c:PySem.W.plainGet K C name=true)(b:PySem.W.hasDictIn K C=true)
  (ha:PySem.W.findIn K (.ref C) name=some none) (d:mA name=some v) (a:PySem.W.handedIn v=true) (h:Q v {s with toks:=s.toks+1}):
  Al (Am prog w) A (getAttr (.ref x) name expr) Q E s:=by
 obtain⟨od,J,e⟩:=I.look;exact PySem.W.get_value X J (zW3 c).1 (PySem.W.findObj_own b ha rfl (by rw[e,d])) a h
def bf {pl:Sem Bool}{Q:Ac×List Ac->Af->Prop}(X:K.In s.heap)(I:kF s.heap x dx C mA)(a:PySem.W.plainGet K C name=true)
  (hf:PySem.W.findIn K (.ref C) name=some (some (.ref f))) (ht:PySem.W.isFn K (.ref f)=true) (b:mA name=none) (h:Q (.ref f,[.ref x]) s):
  Al (Am prog w) A (getMethod (.ref x) name pl) Q E s:=by
 obtain⟨od,J,c⟩:=I.look;exact PySem.W.method_fn X J (zW3 a).1 (zW3 a).2 hf (zP3.mp ht) (by show(PySem.W.lookIn name od).map (·.isSome)=some false;rw[c,b];rfl) h
def zh4 {ns:List Str}{Q:Unit->Af->Prop}(X:K.In s.heap)(I:kF s.heap x dx C mA)
  (m:PySem.W.findIn K (.ref C) "__setattr__"=some (some (.builtin "object.__setattr__"))) (hp:PySem.W.plainOver K C=true) (ht:PySem.W.takerIn K C name=some none) (l:PySem.W.hasDictIn K C=true)
  (hw:PySem.Within mA ns) (i:ns.length<=sizeLine)
  (h:∀h',kF h' x dx C (λy=>if y=name then some v else mA y)->Heap.SameBut dx s.heap h'->Q () {s with heap:=h',toks:=s.toks+2}):
  Al (Am prog w) A (setAttr (.ref x) name v) Q E s:=by
 obtain⟨od,J,q⟩:=I.look;refine PySem.W.set_plain X J m (PySem.W.osa_open X J hp ht λb=>?_);obtain⟨cd,k,d⟩:=PySem.W.any_some l;refine zI0 (zJ3 (zI0 (zI0 (wpAny_loadPart I.obj (zI0 (PySem.W.Looks.here (PySem.W.looks_clsIn X k) ?_))))));rw[d];refine zJ3 (zI0 (zJ3 (zI0 (wpAny_nsSet1 I.ns λh' a c=>?_))));obtain⟨p,n,o,g,e,j⟩:=a.count (PySem.Within.cons name v hw);refine zI0 (wpAny_lookBehind g (by rw[e];exact pastItsLine_dict (zJ1 j (by rw[zI7];exact Nat.add_le_add i (zI3 _)))) ?_);exact zJ3 (h _ ⟨(c.2 _ (zO2 I.ne)).trans I.obj,a,I.ne⟩ c)
def rM {R:Result->Af->Prop}{vs:List Ac}{kw:List (Str×Ac)}(X:K.In s.heap)(hm:PySem.W.makesIn K C=true)
  (hi:PySem.W.findIn K (.ref C) "__init__"=some (some (.ref f))) (hf:PySem.W.typeIn K (.ref f)=some (.type "function"))
  (h:codeAny (Am prog w) (A.under (.builtin "type.__call__" ⟨.ref C::vs,kw⟩)) (.call (.ref f) ⟨.ref (s.heap.objs.size+1)::vs,kw⟩) (PySem.W.InitBack (s.heap.objs.size+1) R)
   {s with heap:=(s.heap.push PySem.W.emptyDict).push (PySem.W.instObj C s.heap.objs.size)}):
  codeAny (Am prog w) A (.call (.ref C) ⟨vs,kw⟩) R s:=by
 obtain⟨a,g,d,t,os⟩:=s;exact PySem.W.make_core (PySem.W.makes_of X hm) (PySem.W.looks_findIn X hi) (λself=>PySem.W.bind_fn X self hf) (.inl rfl) h
end
def xl (f:Str)(v:V):List (Str×V)->List (Str×V)
 |[]=>[(f,v)]
 |(g,x)::r=>if g=f then(g,v)::r else(g,x)::xl f v r
theorem yn (f g:Str)(v:V):∀fs:List (Str×V),(xl f v fs).lookup g=if g=f then some v else fs.lookup g
 |[]=>by
  show List.lookup g [(f,v)]=_;by_cases h:g=f
  .have a:(g == f)=true:=zP3.mpr h;simp only[List.lookup,a,if_pos h]
  .have a:=zO6.mpr h;simp only[List.lookup,a,if_neg h]
 |(k,x)::r=>by
  rw[show xl f v ((k,x)::r)=(if k=f then(k,v)::r else(k,x)::xl f v r)from rfl];by_cases hk:k=f
  .rw[if_pos hk];by_cases h:g=k
   .have a:=zP3.mpr h;simp only[List.lookup,a,if_pos (h.trans hk)]
   .have a:=zO6.mpr h;simp only[List.lookup,a,if_neg (λe:g=f=>h (e.trans hk.symm))]
  .rw[if_neg hk];by_cases h:g=k
   .have a:=zP3.mpr h;simp only[List.lookup,a,if_neg (λe:g=f=>hk (h.symm.trans e))]
   .have a:=zO6.mpr h;simp only[List.lookup,a];exact(yn f g v r)
theorem tI (f:Str)(v:V):∀fs:List (Str×V),f∈(xl f v fs).map (·.1)/\∀g,g∈fs.map (·.1)->g∈(xl f v fs).map (·.1)
 |[]=>⟨by simp[xl],λg h=>by simp at h⟩
 |(k,x)::r=>by
  obtain⟨i1,i2⟩:=tI f v r;rw[show xl f v ((k,x)::r)=(if k=f then(k,v)::r else(k,x)::xl f v r)from rfl];by_cases hk:k=f
  .rw[if_pos hk];subst hk;exact⟨by simp,λg h=>by simpa using h⟩
  .rw[if_neg hk];refine⟨?_,λg h=>?_⟩
   .rw[zL7];exact zI6 _ i1
   .rw[zL7]at h ⊢;rcases zI8.mp h with e|e
    .exact zI8.mpr (.inl e)
    .exact zI6 _ (i2 g e)
theorem su (f:Str)(v:V):∀fs:List (Str×V),(xl f v fs).length<=fs.length+1
 |[]=>by simp[xl]
 |(k,x)::r=>by
  have a:=su f v r;rw[show xl f v ((k,x)::r)=(if k=f then(k,v)::r else(k,x)::xl f v r)from rfl];by_cases hk:k=f
  .rw[if_pos hk,zI7,zI7];exact zO9 _ _
  .rw[if_neg hk,zI7,zI7];exact Nat.add_le_add a (zI3 _)
theorem vZ.some_of {v:V}{o:Option Ac}(r:vZ (some v) o):∃u,o=some u/\RelV v u:=by
 cases o with
 |none=>exact(r).elim
 |some u=>exact⟨u,rfl,r⟩
theorem vZ.none_of {o:Option Ac}(r:vZ none o):o=none:=by
 cases o with
 |none=>rfl
 |some u=>exact(r).elim
theorem pA {v:V}{u:Ac}(r:RelV v u):PySem.W.handedIn u=true:=by
 cases v with
 |non=>cases(r);rfl
 |bl b=>cases(r);rfl
 |int i=>obtain⟨t,e⟩:=(r);cases e;rfl
 |str x=>obtain⟨t,e⟩:=(r);cases e;rfl
 |byt b=>obtain⟨t,e⟩:=(r);cases e;rfl
 |flt b=>obtain⟨t,e⟩:=(r);cases e;rfl
 |ref a=>cases(r);rfl
 |ty n=>cases(r);rfl
section
variable {P:Ah}{w:Ak}{H H':Hp}{h h':Ao}{a C dx:Ab}{fs fs':List (Str×V)}
def sO (hok:HOk P w H h)(e:H a=some (.ins C dx fs)):∃mA,kF h a dx C mA/\(∀f,vZ (fs.lookup f) (mA f))/\PySem.Within mA (fs.map (·.1))/\fs.length<=1000/\H dx=some (.own a):=by
 obtain⟨d,z,ne,ob,mA,n,r,q⟩:=(hok a _ e);exact⟨mA,⟨ob,n,ne⟩,r,q,z,d⟩
end
structure Cls (K:Ae)(C:Ab):Prop where
 pg:PySem.W.plainGet K C Str.empty=true
 hd:PySem.W.hasDictIn K C=true
 po:PySem.W.plainOver K C=true
 sa:PySem.W.findIn K (.ref C) "__setattr__"=some (some (.builtin "object.__setattr__"))
def Cls.get {K:Ae}{C:Ab}(c:Cls K C)(f:Str):PySem.W.plainGet K C f=true:=c.pg
def yh (K:Ae)(C:Ab)(f:Str):Prop:=PySem.W.findIn K (.ref C) f=some none
def yh.taker {K:Ae}{C:Ab}{f:Str}(n:yh K C f):PySem.W.takerIn K C f=some none:=by
 unfold PySem.W.takerIn;rw[show PySem.W.findIn K (.ref C) f=some none from n];rfl
structure Meth (K:Ae)(C:Ab)(m:Str)(f:Ab):Prop where
 at_:PySem.W.findIn K (.ref C) m=some (some (.ref f))
 fn:PySem.W.isFn K (.ref f)=true
 kp:PySem.W.keepIn K (.ref f)=true
section
variable {X:Cx}{pins:List (Ab×Obj)}{σ:St}{H:Hp}{s:Af}{a C dx:Ab}{fs:List (Str×V)}{f:Str}{v:V}{A:Ap}{E:Ac->Af->Prop}
def js {b:Bool}{Q:Ac->Af->Prop}(I:Inv X pins σ H s)(e:H a=some (.ins C dx fs))(c:Cls X.K C)(n:yh X.K C f)(l:fs.lookup f=some v)
  (h:∀u s',Inv X pins σ H s'->RelV v u->Q u s'):Al (Am X.prog X.w) A (getAttr (.ref a) f b) Q E s:=by
 obtain⟨mA,O,r,_,_,_⟩:=sO I.hok e;obtain⟨u,g,d⟩:=vZ.some_of (by rw[<-l];exact r f);exact get_map I.kIn O (c.get f) c.hd n g (pA d) (h u _ (I.tok _) d)
def wB {m:Str}{g:Ab}{pl:Sem Bool}{Q:Ac×List Ac->Af->Prop}(I:Inv X pins σ H s)(e:H a=some (.ins C dx fs))(c:Cls X.K C)(k:Meth X.K C m g)(l:fs.lookup m=none)
  (h:Q (.ref g,[.ref a]) s):Al (Am X.prog X.w) A (getMethod (.ref a) m pl) Q E s:=by
 obtain⟨mA,O,r,_,_,_⟩:=sO I.hok e;have hn:=vZ.none_of (by rw[<-l];exact r m);exact bf I.kIn O (c.get m) k.at_ k.fn hn h
def jR {y:V}{u:Ac}{Q:Unit->Af->Prop}(I:Inv X pins σ H s)(e:H a=some (.ins C dx fs))(c:Cls X.K C)(n:yh X.K C f)(x:fs.length<1000)(p:RelV y u)
  (h:∀s',Inv X pins σ (upd H a (.ins C dx (xl f y fs))) s'->Q () s'):Al (Am X.prog X.w) A (setAttr (.ref a) f u) Q E s:=by
 obtain⟨mA,O,r,i,_,j⟩:=sO I.hok e;have l:(fs.map (·.1)).length<=sizeLine:=by rw[zH8,zO4];lia
 refine zh4 I.kIn O c.sa c.po n.taker c.hd i l λh' d t=>h _ ?_;have hd:∃o,h'.get? dx=some o:=let⟨o,_,_,e',_⟩:=d.ns;⟨o,e'⟩;refine I.write (by rw[e];exact True.intro) (.inr j) (λb q k z=>(t.2 b k).trans z) hd ?_;refine⟨by rw[zm O.ne];exact j,?_,O.ne,d.obj,_,d.ns,λg=>?_,λg m=>?_⟩
 .have:=su f y fs;exact zJ1 this x
 .rw[yn];by_cases q:g=f
  .rw[if_pos q,if_pos q];exact p
  .rw[if_neg q,if_neg q];exact r g
 .by_cases q:g=f
  .rw[q];exact(tI f y fs).1
  .refine(tI f y fs).2 g (i g λz=>m ?_);show(if g=f then some u else mA g)=none;rw[if_neg q];exact z
def Inv.made (I:Inv X pins σ H s):Inv X pins σ (upd (upd H s.heap.objs.size (.own (s.heap.objs.size+1))) (s.heap.objs.size+1) (.ins C s.heap.objs.size []))
  {s with heap:=(s.heap.push PySem.W.emptyDict).push (PySem.W.instObj C s.heap.objs.size)}:=by
 have c:(s.heap.push PySem.W.emptyDict).get? s.heap.objs.size=some PySem.W.emptyDict:=zL6 s.heap rfl;have d:((s.heap.push PySem.W.emptyDict).push (PySem.W.instObj C s.heap.objs.size)).get? (s.heap.objs.size+1)=some (PySem.W.instObj C s.heap.objs.size):=by
  have:=zL6 (s.heap.push PySem.W.emptyDict) (o:=PySem.W.instObj C s.heap.objs.size) rfl
  rwa [Heap.size_push]at this
 have g:(s.heap.push PySem.W.emptyDict).Ns s.heap.objs.size (λ_=>none):=⟨PySem.W.emptyDict,#[],_,c,rfl,(λe he=>absurd he (by simp)),λ_=>rfl⟩;refine(I.laid (o:=.own (s.heap.objs.size+1)) (t':=s.toks) (λb u q=>zI2 _ q) (zI3 _) ⟨_,c⟩).laid (λb u q=>zI2 _ q) (zK7 (Heap.size_push _ _)) ?_;have ne:s.heap.objs.size≠s.heap.objs.size+1:=zK8 (zP0 _);refine⟨by rw[zm ne,zk],zK6 _,ne,d,λ_=>none,(Heap.Ns1.of_empty g).at λo q=>zI2 _ q,λ_=>True.intro,λy h=>absurd rfl h⟩
def gc {prog:Ah}{w:Ak}{env:Ar}{e:Ai}{f:Str}{pos:Pos}{s:Af}{Q:Ac->Af->Prop}(b:attributeBase e f env (eval e env)=eval e env)
  (h:Al (Am prog w) A (eval e env) (λo s₁=>Al (Am prog w) A (getAttr o f true) Q E s₁) E s):Al (Am prog w) A (eval (.Attribute e f pos) env) Q E s:=
 Attribute_any_ h (by rw[arm_eval_Attribute,b])
end
def zG4 (K:Ae)(b:TE)(f:Str):TE:=λσ H Q=>b σ H λx H1=>∃a C dx fs v,x=.ref a/\H1 a=some (.ins C dx fs)/\Cls K C/\yh K C f/\fs.lookup f=some v/\Q v H1
def zH0 (K:Ae)(c d:TE)(f:Str):TS:=λD σ H=>d σ H λy H1=>c σ H1 λx b=>∃a C dx fs,x=.ref a/\b a=some (.ins C dx fs)/\Cls K C/\yh K C f/\fs.length<1000/\
 D.nx σ (upd b a (.ins C dx (xl f y fs)))
section
variable {X:Cx}{o e value:Ai}{f:Str}{pos pos' tpos:Pos}{ta tv:TE}
def vI (he:PE X e ta)(i:attributeBase e f X.env (eval e X.env)=eval e X.env):PE X (.Attribute e f pos) (zG4 X.K ta f):=by
 intro pins s σ H Q I h;refine gc i (thn (he pins s σ H _ I h) λu s1 b=>?_);obtain⟨x,H1,m,k,a,C,dx,fs,v,ex,d,c,n,l,q⟩:=b;subst ex;obtain rfl:u=Value.ref a:=k;exact js m d c n l λp s2 g j=>⟨v,H1,g,j,q⟩
def vo (ha:PE X o ta)(i:PE X value tv)(j:swapsWith value (some (.Attribute o f pos')) pos.line X.env=pure false):PS X (.Assign [.Attribute o f pos'] value pos) (zH0 X.K ta tv f):=by
 intro pins s σ H D I h;refine plainObj_wpAny_Assign_Attribute (thn (i pins s σ H _ I h) λu s1 ⟨y,H1,t,p,q⟩=>thn (ha pins s1 σ H1 _ t q) λk s2 ⟨x,v,d,m,a,C,dx,fs,ex,b,c,n,l,r⟩=>?_) j;subst ex;obtain rfl:k=Value.ref a:=m;exact jR d b c n l p λs3 g=>⟨σ,_,g,r⟩
def zn3 {pl:Sem Bool}{m:Str}{apos:Pos}{args:List Ai}{pins:List (Ab×Obj)}{s:Af}{σ:St}{H:Hp}{Q:Ac->Af->Prop}{d:TE}(he:PE X e d)(I:Inv X pins σ H s)
  (h:d σ H λx H1=>∃a C dx fs g,x=.ref a/\H1 a=some (.ins C dx fs)/\Cls X.K C/\Meth X.K C m g/\fs.lookup m=none/\
   ∀s1,Inv X pins σ H1 s1->Al (Am X.prog X.w) X.A (callWith pos (.ref g) [.ref a] (backTo pos (Ad args X.env)) (backToKw pos (keywordEach [] X.env))) Q X.xe s1)
  (ht:eval (.Call (.Attribute e m apos) args [] pos) X.env=(do
   let ov <-eval e X.env
   standAt apos.atName
   let(f,first) <-holding [ov] (getMethod ov m pl)
   callWith pos f first (backTo pos (Ad args X.env)) (backToKw pos (keywordEach [] X.env)))):
  Al (Am X.prog X.w) X.A (eval (.Call (.Attribute e m apos) args [] pos) X.env) Q X.xe s:=by
 refine zP6 (thn (he pins s σ H _ I h) λu s1 b=>?_) ht;obtain⟨x,H1,i,n,a,C,dx,fs,g,ex,j,c,k,l,q⟩:=b;subst ex;obtain rfl:u=Value.ref a:=n;exact wB i j c k l (q s1 i)
end
section
variable {X:Cx}{pins:List (Ab×Obj)}{σ:St}{H:Hp}{s:Af}{A:Ap}{E:Ac->Af->Prop}{Q:Ac->Af->Prop}{c:Ac}{b:Bool}
inductive uV (K:Ae)(H:Hp):V->Ac->Prop where
 |non:uV K H .non (.type "NoneType")
 |bl (x:Bool):uV K H (.bl x) (.type "bool")
 |int (i:Int):uV K H (.int i) (.type "int")
 |str (x:Str):uV K H (.str x) (.type "str")
 |flt (x:UInt64):uV K H (.flt x) (.type "float")
 |lst {a:Ab}{xs:List V} (e:H a=some (.lst xs)):uV K H (.ref a) (.type "list")
 |frz {a:Ab}{o:Obj}{xs:List V} (e:H a=some (.frz o (.lst xs))):uV K H (.ref a) (.type "list")
 |tup {a:Ab}{xs:List V} (e:H a=some (.tup xs)):uV K H (.ref a) (.type "tuple")
 |dK {a:Ab}{kvs:List (Key×V)} (e:H a=some (.dK kvs)):uV K H (.ref a) (.type "dict")
 |dT {a:Ab}{kvs:List (List Key×V)} (e:H a=some (.dT kvs)):uV K H (.ref a) (.type "dict")
 |ins {a C dx:Ab}{fs:List (Str×V)} (e:H a=some (.ins C dx fs)) (cl:Cls K C) (ha:PySem.W.findIn K (.ref C) "__class__"=some (some (.builtin "object.__class__")))
   (hn:PySem.W.specialIn K (.builtin "object.__class__") "__get__"=some (some (.builtin "getset_descriptor.__get__"))) (htk:PySem.W.takesIn K (.builtin "object.__class__")=some true)
   (hm:PySem.W.mroIn K C (.type "object")=some true):uV K H (.ref a) (.ref C)
theorem fF {x:V}{u t:Ac}(I:Inv X pins σ H s)(d:RelV x u)(ty:uV X.K H x t)(e:PySem.W.kitOne X.K t c=some b)(h:∀j,Q (.bool b) {s with toks:=j}):
  Al (Am X.prog X.w) A (call (.builtin "isinstance") [u,c]) Q E s:=by
 cases ty with
 |non=>cases(d);exact zN5 PySem.W.kitx_none I.kIn True.intro e (λz=>nomatch z) h
 |bl y=>cases(d);exact zN5 PySem.W.kitx_bool I.kIn True.intro e (λz=>nomatch z) h
 |int i=>obtain⟨t,q⟩:=(d);cases q;exact zN5 PySem.W.kitx_int I.kIn True.intro e (λz=>nomatch z) h
 |str y=>obtain⟨t,q⟩:=(d);cases q;exact zN5 PySem.W.kitx_str I.kIn True.intro e (λz=>nomatch z) h
 |flt y=>obtain⟨t,q⟩:=(d);cases q;exact zN5 PySem.W.kitx_float I.kIn True.intro e (λz=>nomatch z) h
 |@lst a xs ea=>
  cases(d);obtain⟨_,_,n,_,f⟩:=(I.hok a _ ea);exact zN5 PySem.W.kitx_list I.kIn ⟨_,f,rfl⟩ e (λz=>nomatch z) h
 |@frz a ob xs ea=>
  cases(d);obtain⟨_,_,_,n,_,f⟩:=(I.hok a _ ea);exact zN5 PySem.W.kitx_list I.kIn ⟨_,f,rfl⟩ e (λz=>nomatch z) h
 |@tup a xs ea=>
  cases(d);obtain⟨_,_,_,p⟩:=(I.hok a _ ea);obtain⟨o,f,g,_⟩:=p;exact zN5 PySem.W.kitx_tuple I.kIn ⟨o,f,g⟩ e (λz=>nomatch z) h
 |@dK a kvs ea=>
  cases(d);obtain⟨_,_,vs,_,p⟩:=(I.hok a _ ea);obtain⟨o,k,l,f,g,_⟩:=p;exact zN5 PySem.W.kitx_dict I.kIn ⟨o,f,g.1⟩ e (λz=>nomatch z) h
 |@dT a kvs ea=>
  cases(d);obtain⟨_,_,xs,_,o,k,l,f,g,_⟩:=(I.hok a _ ea);exact zN5 PySem.W.kitx_dict I.kIn ⟨o,f,g.1⟩ e (λz=>nomatch z) h
 |@ins a C dx fs ea cl ha hn htk hm=>
  cases(d);obtain⟨mA,O,_⟩:=sO I.hok ea;obtain⟨od,J,_⟩:=O.look;exact zN5 (PySem.W.kitx_own (cl.get _) cl.hd ha hn htk hm) I.kIn J e (λz=>nomatch z) h
end
structure zO (k:Nat)(A:Ap):Prop where
 hd:A.handled=none
 dp:A.depth+3*k+5<recursionLimit
 un:A.units+16*k+200<cLine
 gd:A.guards=some []
def zO.mono {j k:Nat}{A:Ap}(r:zO k A)(h:j<=k):zO j A:=⟨r.hd,by have:=r.dp;lia,by have:=r.un;lia,r.gd⟩
theorem zO.deeper {k:Nat}{A:Ap}(r:zO (k+1) A)(env:Ar):zO k (A.deeper env):=
 ⟨r.hd,by have:=r.dp;show A.depth+1+3*k+5<_;exact zl2 this,by have:=r.un;show A.units+3+16*k+200<_;lia,r.gd⟩
def jG {A:Ap}{C:Ab}{us:List Ac}{kw:List (Str×Ac)}:(A.under (.builtin "type.__call__" ⟨.ref C::us,kw⟩)).depth=A.depth+1:=by
 first|rfl|simp[Around.under,Code.weight,Code.isCreation,Code.isGuard,Code.isCaller,Code.frames,Code.isFrame,guardIds]
def jf {A:Ap}{C:Ab}{us:List Ac}{kw:List (Str×Ac)}:(A.under (.builtin "type.__call__" ⟨.ref C::us,kw⟩)).units=A.units+1:=by
 first|rfl|simp[Around.under,Code.cUnits,Code.frames,Code.isFrame]
def lh {A:Ap}{C:Ab}{us:List Ac}{kw:List (Str×Ac)}:(A.under (.builtin "type.__call__" ⟨.ref C::us,kw⟩)).guards=A.guards:=by
 first|rfl|simp[Around.under,Code.guards,Code.isGuard,guardIds,pushGuards]
def zO.make {k:Nat}{A:Ap}(r:zO (k+1) A)(C:Ab)(us:List Ac)(kw:List (Str×Ac)):zO k (A.under (.builtin "type.__call__" ⟨.ref C::us,kw⟩)):=
 ⟨r.hd,by have:=r.dp;rw[jG];exact zl2 this,by have:=r.un;rw[jf];exact zC5 this,(lh).trans r.gd⟩
theorem zO.depth {k:Nat}{A:Ap}(r:zO k A):A.depth<recursionLimit:=by have:=r.dp;exact zN4 (zO9 _ _) (zN4 (zO9 _ _) this)
theorem zO.units {k:Nat}{A:Ap}(r:zO k A):A.units+64<cLine:=by have:=r.un;lia
def zx9 :TA:=λ_ H Q=>Q [] H
def zC9 (a:TE)(b:TA):TA:=λσ H Q=>a σ H λx H1=>b σ H1 λxs c=>Q (x::xs) c
section
variable {X:Cx}{e:Ai}{es:List Ai}{te:TE}{t:TA}{pos:Pos}
def zy :PA X [] zx9:=λ_ _ _ _ H Q I h=>Calls.spliced_nil ⟨[],H,I,.nil,h⟩
def zh (ha:PE X e te)(hr:PA X es t)(g:Ad (e::es) X.env=(false,eval e X.env)::Ad es X.env:=by rfl):PA X (e::es) (zC9 te t):=by
 intro pos pins s σ H Q I h;rw[g];refine Calls.spliced_cons (thn (ha pins s σ H _ I h) λu s1 b=>?_);obtain⟨x,H1,l,c,k⟩:=b;exact thn (hr pos pins s1 σ H1 _ l k) λus s2 a=>by obtain⟨xs,f,d,i,j⟩:=a;exact⟨x::xs,f,d,.cons c i,j⟩
def zF5 (t:TA):TE:=λσ H Q=>t σ H λxs H1=>xs.length<=sizeLine/\∀p,H1 p=none->Q (.ref p) (upd H1 p (.tup xs))
def zF0 (t:TA):TE:=λσ H Q=>t σ H λxs H1=>xs.length<=sizeLine/\∀p,H1 p=none->Q (.ref p) (upd H1 p (.lst xs))
def tP {x1}(h:PA X es t):PE X (.Tuple es x1 pos) (zF5 t):=by
 intro pins s σ H Q I c;refine wpAny_Tuple_spliced (thn (h pos pins s σ H _ I c) λus s1 ⟨xs,H1,a,r,z,q⟩=>⟨by rw[<-r.length];exact z,?_⟩);refine⟨.ref s1.heap.objs.size,upd H1 s1.heap.objs.size (.tup xs),a.laid (λb u e=>zI2 _ e) (zI3 _) ?_,rfl,q _ (a.hok.fresh (zI3 _))⟩;exact⟨z,us,r,⟨_,zL6 _ rfl,rfl,_,rfl⟩⟩
def oB (h:PA X es t):PE X (.List es pos) (zF0 t):=by
 intro pins s σ H Q I c;refine wpAny_List_spliced (thn (h pos pins s σ H _ I c) λus s1 ⟨xs,H1,a,r,z,q⟩=>⟨by rw[<-r.length];exact z,?_⟩);refine⟨.ref s1.heap.objs.size,upd H1 s1.heap.objs.size (.lst xs),a.laid (λb u e=>zI2 _ e) (zI3 _) ?_,rfl,q _ (a.hok.fresh (zI3 _))⟩;exact⟨z,us,0,r,zL6 _ rfl⟩
end
abbrev Sp :=List V->Hp->VK->XK->Prop
abbrev CXT :=List Ar->Hp->Af->XK->Ac->Af->Prop
structure iq (P:Ah)(w:Ak)(K:Ae)(mg:Str->Option Ac)(base:Ao)(A:Ap)(outer:List Ar)(s:Af)(H:Hp):Prop where
 frames:A.frames=some outer
 mod:Mod K mg base
 bs:∀b o,base.get? b=some o->s.heap.get? b=some o/\H b=none
 bsz:base.objs.size<=s.heap.objs.size
 funs:s.heap.FunFrames base outer
 frf:∀b∈frs outer,H b=none
 hok:HOk P w H s.heap
 bare:AllBare s.gens
def CE (outer:List Ar)(P:Ah)(w:Ak)(H:Hp)(s:Af)(Q:VK)(u:Ac)(s':Af):Prop:=
 ∃v H',s'.os=s.os/\AllBare s'.gens/\Un (frs outer) [] H H' s.heap s'.heap/\HOk P w H' s'.heap/\RelV v u/\Q v H'
def CR (CX:CXT)(outer:List Ar)(P:Ah)(w:Ak)(H:Hp)(s:Af)(Q:VK)(E:XK)(r:Result)(s':Af):Prop:=
 match r with
 |.ok (.ret u)=>CE outer P w H s Q u s'
 |.ok _=>False
 |.error e=>CX outer H s E e s'
structure zG (P:Ah)(w:Ak)(K:Ae)(mg:Str->Option Ac)(base:Ao)(CX:CXT)(k:Nat)(f:Ab)(fd:Ag)(ps:List Str)(sp:Sp):Prop where
 len:∀vs H Q E,sp vs H Q E->vs.length=ps.length
 run:∀(A:Ap) (outer:List Ar) (s:Af) (H:Hp) (args:Args) (us:List Ac) (vs:List V) (Q:VK) (E:XK),zO k A->iq P w K mg base A outer s H->BindsTo s fd args (ps.zip us)->Vals vs us->sp vs H Q E->
  codeAny (Am P w) A (.call (.ref f) args) (CR CX outer P w H s Q E) s
def zG.imp {P:Ah}{w:Ak}{K:Ae}{mg:Str->Option Ac}{base:Ao}{CX:CXT}{k:Nat}{f:Ab}{fd:Ag}{ps:List Str}{sp a:Sp}(F:zG P w K mg base CX k f fd ps sp)
  (h:∀vs H Q E,a vs H Q E->sp vs H Q E):zG P w K mg base CX k f fd ps a:=
 ⟨λvs H Q E q=>F.len vs H Q E (h _ _ _ _ q),λA outer s H args us vs Q E hr he b c d=>F.run A outer s H args us vs Q E hr he b c (h _ _ _ _ d)⟩
def iq.make {P:Ah}{w:Ak}{K:Ae}{mg:Str->Option Ac}{base:Ao}{A:Ap}{outer:List Ar}{s:Af}{H:Hp}(e:iq P w K mg base A outer s H)(C:Ab)(us:List Ac)(kw:List (Str×Ac)):
  iq P w K mg base (A.under (.builtin "type.__call__" ⟨.ref C::us,kw⟩)) outer s H:=⟨by first|exact e.frames|(simpa[Around.under,Code.envs,Code.isFrame,pushEnvs]using e.frames),e.mod,e.bs,e.bsz,e.funs,e.frf,e.hok,e.bare⟩
section
variable {X:Cx}{pins:List (Ab×Obj)}{σ:St}{H:Hp}{s s':Af}
def Inv.env0 (I:Inv X pins σ H s):iq X.prog X.w X.K X.mg X.base X.A X.stack s H:=
 ⟨I.ok.frames,I.ok.mod,I.bs,zJ1 I.ok.bsz I.sz,I.stack,I.stkFree,I.hok,I.bare⟩
def Inv.after {Q:VK}{u:Ac}(I:Inv X pins σ H s)(h:CE X.stack X.prog X.w H s Q u s'):EP X pins σ Q u s':=by
 obtain⟨v,H',os,bare,un,hok,r,q⟩:=h;obtain⟨c,g,d,t,a⟩:=s';obtain rfl:a=s.os:=os;exact⟨v,H',I.call un hok bare (λb z=>absurd z (by simp)),r,q⟩
end
def zA0 (sp:Sp)(dvs:List V)(E:XK)(t:TA):TE:=λσ H Q=>t σ H λvs H1=>sp (vs++dvs) H1 Q E
def zm2 (C:Ab)(m:Str)(sp:Sp)(dvs:List V)(E:XK)(b:TE)(t:TA):TE:=λσ H Q=>b σ H λx H1=>∃a dx fs,x=.ref a/\H1 a=some (.ins C dx fs)/\fs.lookup m=none/\
 t σ H1 λvs c=>sp (x::(vs++dvs)) c Q E
def zD6 (C:Ab)(sp:Sp)(dvs:List V)(E:XK)(t:TA):TE:=λσ H Q=>t σ H λvs H1=>∀x dx,H1 x=none->H1 dx=none->dx≠x->
 sp (.ref x::(vs++dvs)) (upd (upd H1 dx (.own x)) x (.ins C dx [])) (λv a=>v=.non/\Q (.ref x) a) E
def Binds (K:Ae)(fd:Ag)(ps:List Str)(ds:List Ac):Prop:=
 ∀(s:Af) (us:List Ac),K.In s.heap->(us++ds).length=ps.length->BindsTo s fd ⟨us,[]⟩ (ps.zip (us++ds))
def Binds.all {K:Ae}{fd:Ag}{ps:List Str}(h:∀us:List Ac,us.length=ps.length->bindArgs fd ⟨us,[]⟩=pure (ps.zip us)):Binds K fd ps []:=λs us _ a=>by
 rw[zJ5]at a ⊢;exact .of_eq (h us a)
def Passes (CX:CXT)(X:Cx)(E:XK):Prop:=∀(pins:List (Ab×Obj)) (σ:St) (H:Hp) (s:Af) (e:Ac) (s':Af),Inv X pins σ H s->CX X.stack H s E e s'->X.xe e s'
section
variable {X:Cx}{CX:CXT}{k:Nat}{f C:Ab}{fd:Ag}{ps:List Str}{sp:Sp}{dvs:List V}{ds:List Ac}{E:XK}{x m:Str}{p pos apos:Pos}{e o:Ai}{es:List Ai}{ta:TE}{t:TA}
theorem ik {pins:List (Ab×Obj)}{σ:St}{H:Hp}{s:Af}{Q:VK}{us:List Ac}{vs:List V}(F:zG X.prog X.w X.K X.mg X.base CX k f fd ps sp)(hr:zO k X.A)(d:Binds X.K fd ps ds)(hd:Vals dvs ds)(c:Passes CX X E)
  (I:Inv X pins σ H s) (r:Vals vs us) (h:sp (vs++dvs) H Q E):Al (Am X.prog X.w) X.A (call (.ref f) us) (EP X pins σ Q) X.xe s:=by
 have b:=r.append hd;have g:(us++ds).length=ps.length:=by rw[<-b.length];exact F.len _ _ _ _ h
 refine zP1 (zP9 (F.run X.A X.stack s H ⟨us,[]⟩ (us++ds) (vs++dvs) Q E hr I.env0 (d s us I.kIn g) b h) λr s' a=>?_);cases r with
 |error e=>exact c pins σ H s e s' I a
 |ok fl=>
  cases fl with
  |ret u=>exact I.after a
  |next=>exact False.elim a
  |brk=>exact False.elim a
  |cont=>exact False.elim a
def yb (F:zG X.prog X.w X.K X.mg X.base CX k f fd ps sp)(hr:zO k X.A)(i:Gl X x)(hm:X.mg x=some (.ref f))(hk:PySem.W.keepIn X.K (.ref f)=true)(g:Binds X.K fd ps ds)(hd:Vals dvs ds)(d:Passes CX X E)
  (ha:PA X (e::es) t) (b:(x == ("__debug__":Str))=false:=by decide) (he:Ad (e::es) X.env=(false,eval e X.env)::Ad es X.env:=by rfl) (hpl:(backTo pos (Ad es X.env)).any (·.1)=false:=by rfl):
  PE X (.Call (.Name x p) (e::es) [] pos) (zA0 sp dvs E t):=by
 intro pins s σ H Q I h;refine zO0 (xu I i hm (zO1 I.ok.mod.kin hk (thn (ha pos pins s σ H _ I h) λus s1 a=>?_) he hpl) b);obtain⟨vs,H1,c,r,q⟩:=a;exact⟨c.kIn,ik F hr g hd d c r q⟩
def uR {pl:Sem Bool}(he:PE X o ta)(c:Cls X.K C)(hm:Meth X.K C m f)(F:zG X.prog X.w X.K X.mg X.base CX k f fd ps sp)(hr:zO k X.A)(z:Binds X.K fd ps ds)(hd:Vals dvs ds)(v:Passes CX X E)(ha:PA X (e::es) t)
  (g:Ad (e::es) X.env=(false,eval e X.env)::Ad es X.env:=by rfl) (hpl:(backTo pos (Ad es X.env)).any (·.1)=false:=by rfl)
  (ht:eval (.Call (.Attribute o m apos) (e::es) [] pos) X.env=(do
   let ov <-eval o X.env
   standAt apos.atName
   let(f,first) <-holding [ov] (getMethod ov m pl)
   callWith pos f first (backTo pos (Ad (e::es) X.env)) (backToKw pos (keywordEach [] X.env))):=by rfl):
  PE X (.Call (.Attribute o m apos) (e::es) [] pos) (zm2 C m sp dvs E ta t):=by
 intro pins s σ H Q I h;refine zP6 (thn (he pins s σ H _ I h) λu s1 d=>?_) ht;obtain⟨x,H1,j,y,a,dx,fs,ex,n,l,q⟩:=d;subst ex;obtain rfl:u=Value.ref a:=y;refine wB j n c hm l ?_;refine zO1 I.ok.mod.kin hm.kp (thn (ha pos pins s1 σ H1 _ j q) λus s2 b=>?_) g hpl;obtain⟨vs,D,i,r,B⟩:=b;exact⟨i.kIn,ik (vs:=.ref a::vs) F hr z hd v i (.cons rfl r) B⟩
def uQ {pl:Sem Bool}(he:PE X o ta)(c:Cls X.K C)(hm:Meth X.K C m f)(F:zG X.prog X.w X.K X.mg X.base CX k f fd ps sp)(hr:zO k X.A)(j:Binds X.K fd ps ds)(hd:Vals dvs ds)(i:Passes CX X E)
  (ht:eval (.Call (.Attribute o m apos) [] [] pos) X.env=(do
   let ov <-eval o X.env
   standAt apos.atName
   let(f,first) <-holding [ov] (getMethod ov m pl)
   callWith pos f first (backTo pos (Ad [] X.env)) (backToKw pos (keywordEach [] X.env))):=by rfl):
  PE X (.Call (.Attribute o m apos) [] [] pos) (zm2 C m sp dvs E ta zx9):=by
 intro pins s σ H Q I h;refine zP6 (thn (he pins s σ H _ I h) λu s1 b=>?_) ht;obtain⟨x,H1,d,n,a,dx,fs,ex,g,l,q⟩:=b;subst ex;obtain rfl:u=Value.ref a:=n;refine wB d g c hm l ?_;exact PySem.W.callWith_K0 d.kIn hm.kp (ik (vs:=[.ref a]) F hr j hd i d (.cons rfl .nil) q)
structure Mk (K:Ae)(C f:Ab):Prop where
 makes:PySem.W.makesIn K C=true
 init:PySem.W.findIn K (.ref C) "__init__"=some (some (.ref f))
 fn:PySem.W.isFn K (.ref f)=true
 kp:PySem.W.keepIn K (.ref C)=true
theorem me {pins:List (Ab×Obj)}{σ:St}{H:Hp}{s:Af}{Q:VK}{us:List Ac}{vs:List V}(M:Mk X.K C f)(F:zG X.prog X.w X.K X.mg X.base CX k f fd ps sp)(hr:zO (k+1) X.A)(q:Binds X.K fd ps ds)(hd:Vals dvs ds)
  (g:Passes CX X E) (I:Inv X pins σ H s) (r:Vals vs us)
  (h:∀x dx,H x=none->H dx=none->dx≠x->sp (.ref x::(vs++dvs)) (upd (upd H dx (.own x)) x (.ins C dx [])) (λv n=>v=.non/\Q (.ref x) n) E):
  Al (Am X.prog X.w) X.A (call (.ref C) us) (EP X pins σ Q) X.xe s:=by
 have c:=h (s.heap.objs.size+1) s.heap.objs.size (I.hok.fresh (zP7 _)) (I.hok.fresh (zI3 _)) (zK8 (zP0 _));have b:=Inv.made (C:=C) I;have d:Vals (V.ref (s.heap.objs.size+1)::(vs++dvs)) (Value.ref (s.heap.objs.size+1)::(us++ds)):=.cons rfl (r.append hd);have i:(Value.ref (s.heap.objs.size+1)::us++ds).length=ps.length:=by
  have e:=d.length;rw[F.len _ _ _ _ c]at e;exact e.symm
 refine zP1 (rM I.kIn M.makes M.init (zP3.mp M.fn) (zP9 (F.run _ X.stack _ _ ⟨Value.ref (s.heap.objs.size+1)::us,[]⟩ (Value.ref (s.heap.objs.size+1)::(us++ds)) _ _ E (hr.make C us [])
  (b.env0.make C us []) (q _ (Value.ref (s.heap.objs.size+1)::us) b.kIn i) d c) λr s' a=>?_))
 cases r with
 |error e=>exact g pins σ _ _ e s' b a
 |ok fl=>
  cases fl with
  |ret u=>
   obtain⟨v,H',l,j,ev,y⟩:=b.after a;subst ev;exact⟨j,⟨V.ref (s.heap.objs.size+1),H',l,rfl,y⟩⟩
  |next=>exact False.elim a
  |brk=>exact False.elim a
  |cont=>exact False.elim a
def xJ (M:Mk X.K C f)(F:zG X.prog X.w X.K X.mg X.base CX k f fd ps sp)(hr:zO (k+1) X.A)(i:Gl X x)(hm:X.mg x=some (.ref C))(g:Binds X.K fd ps ds)(hd:Vals dvs ds)(d:Passes CX X E)
  (ha:PA X (e::es) t) (b:(x == ("__debug__":Str))=false:=by decide) (he:Ad (e::es) X.env=(false,eval e X.env)::Ad es X.env:=by rfl) (hpl:(backTo pos (Ad es X.env)).any (·.1)=false:=by rfl):
  PE X (.Call (.Name x p) (e::es) [] pos) (zD6 C sp dvs E t):=by
 intro pins s σ H Q I h;refine zO0 (xu I i hm (zO1 I.ok.mod.kin M.kp (thn (ha pos pins s σ H _ I h) λus s1 a=>?_) he hpl) b);obtain⟨vs,H1,c,r,q⟩:=a;exact⟨c.kIn,me M F hr g hd d c r q⟩
end
section
variable {X:Cx}{CX:CXT}{k:Nat}{f C:Ab}{fd:Ag}{ps ks:List Str}{sp:Sp}{E:XK}{x m:Str}{p pos apos kpos:Pos}{e o:Ai}{es:List Ai}{kws:List Keyword}{te ta:TE}{t tk:TA}{nm:Option Str}
variable {g:List Ac->List Ac->List Ac}{gV:List V->List V->List V}
end
structure zo (N P:List Str)(sc:Aq):Prop where
 kind:sc.kind=.function
 co:sc.isCoroutine=false
 gen:sc.isGenerator=false
 nd:N.Nodup
 pre:N.take P.length=P
 par:∀x∈P,sc.names.lookup x=some .local\/sc.names.lookup x=some .cell
 nofree:∀y∈sc.names,y.2≠.free
theorem pd {kindOf:Str->Option NameKind}{x:Str}:∀{binds:List (Str×Ac)}{m:Str->Option Ac},(∀v,(x,v)∉binds)->bindL kindOf binds m x=m x
 |[],_,_=>rfl
 |(n,v)::r,m,h=>by
  unfold bindL;rw[pd λw hw=>h w (zI6 _ hw)];split
  .have:x≠n:=by rintro rfl;exact h v zK2
   simp[this]
  .rfl
theorem qO {kindOf:Str->Option NameKind}{x:Str}:∀{binds:List (Str×Ac)}{m:Str->Option Ac},(∀v,(x,v)∉binds)->bindC kindOf binds m x=m x
 |[],_,_=>rfl
 |(n,v)::r,m,h=>by
  unfold bindC;rw[qO λw hw=>h w (zI6 _ hw)];split
  .rfl
  .have:x≠n:=by rintro rfl;exact h v zK2
   simp[this]
theorem pD {kindOf:Str->Option NameKind}{x:Str}{v:Ac}:∀{P:List Str}{vs:List Ac}{i:Nat}{m:Str->Option Ac},P.Nodup->P[i]?=some x->vs[i]?=some v->kindOf x=some .local->
  bindL kindOf (P.zip vs) m x=some v
 |[],_,_,_,_,h,_,_=>by simp at h
 |_::_,[],_,_,_,_,h,_=>by simp at h
 |p::P,w::vs,0,m,nd,b,a,hk=>by
  simp at b a;subst b;subst a;show bindL kindOf ((p,w)::P.zip vs) m p=_;unfold bindL;rw[pd λv c=>(zV1.mp nd).1 (List.of_mem_zip c).1,if_pos hk];simp
 |p::P,w::vs,i+1,m,nd,b,a,hk=>by
  show bindL kindOf ((p,w)::P.zip vs) m x=_;unfold bindL;exact pD (i:=i) (zV1.mp nd).2 (by simpa using b) (by simpa using a) hk
theorem pB {kindOf:Str->Option NameKind}{x:Str}{v:Ac}:∀{P:List Str}{vs:List Ac}{i:Nat}{m:Str->Option Ac},P.Nodup->P[i]?=some x->vs[i]?=some v->kindOf x≠some .local->
  bindC kindOf (P.zip vs) m x=some v
 |[],_,_,_,_,h,_,_=>by simp at h
 |_::_,[],_,_,_,_,h,_=>by simp at h
 |p::P,w::vs,0,m,nd,b,a,hk=>by
  simp at b a;subst b;subst a;show bindC kindOf ((p,w)::P.zip vs) m p=_;unfold bindC;rw[qO λv c=>(zV1.mp nd).1 (List.of_mem_zip c).1,if_neg hk];simp
 |p::P,w::vs,i+1,m,nd,b,a,hk=>by
  show bindC kindOf ((p,w)::P.zip vs) m x=_;unfold bindC;exact pB (i:=i) (zV1.mp nd).2 (by simpa using b) (by simpa using a) hk
def start (N:List Str)(vs:List V):St:=vs.map some++List.replicate (N.length-vs.length) none
def xi (CX:CXT)(P:Ah)(w:Ak)(K:Ae)(mg:Str->Option Ac)(base:Ao)(N:List Str)(qual:Str)(scope:Aq)(f:Ab)(cd:Ac)(A:Ap)(outer:List Ar)(s:Af)(H:Hp)(E:XK):Cx where
 prog:=P
 w:=w
 K:=K
 mg:=mg
 base:=base
 A:=A.deeper (envOfC qual scope s.heap.objs.size f cd)
 N:=N
 s₀:=s
 H₀:=H
 env:=envOfC qual scope s.heap.objs.size f cd
 outer:=outer
 stack:=envOfC qual scope s.heap.objs.size f cd::outer
 ex:=[]
 calm:=true
 fn:=λ_=>true
 pn:=[]
 xe:=λe s'=>Al (Am P w) (A.deeper (envOfC qual scope s.heap.objs.size f cd)) (leaving (envOfC qual scope s.heap.objs.size f cd) e) (λ_ a=>CX outer H s E e a) (λb a=>CX outer H s E b a) s'
def my {sc:Aq}{n:Nat}{x:Str}(h:sc.names.lookup x=some .cell):∃c,(cellsFrom n sc.names []).lookup x=some c:=Option.isSome_iff_exists.mp (PySem.W.cellsFrom_some sc.names n [] (.inl h))
def dr {CX:CXT}{P:Ah}{w:Ak}{K:Ae}{mg:Str->Option Ac}{base:Ao}{N ps:List Str}{qual:Str}{scope:Aq}{f:Ab}{cd:Ac}{A:Ap}{outer:List Ar}{s s1:Af}{H:Hp}{E:XK}{us:List Ac}{vs:List V}
  (S:zo N ps scope) (hd:A.handled=none) (g:iq P w K mg base A outer s H) (t:vs.length=ps.length) (r:Vals vs us)
  (x:InCallC s s.heap.objs.size (bindL (envOfC qual scope s.heap.objs.size f cd).kindOf (ps.zip us) λ_=>none) (cellsFrom (s.heap.objs.size+1) scope.names []) (bindC (envOfC qual scope s.heap.objs.size f cd).kindOf (ps.zip us) λ_=>none) s1):
  Inv (xi CX P w K mg base N qual scope f cd A outer s H E) [] (start N vs) H s1:=by
 have hpl:ps.length<=N.length:=by have:=congrArg List.length S.pre;rw[zL8]at this;exact zJ1 (zK7 this.symm) (Nat.min_le_right _ _)
 obtain⟨n,C,rfl,hk⟩:=x.done;have j:∀b:Ab,b∉(xi CX P w K mg base N qual scope f cd A outer s H E).ex:=λb z=>absurd (show b∈([]:List Ab)from z) (by simp);refine⟨⟨g.mod,S.kind,rfl,rfl,zI3 _,λy z c n d=>?_,λy l=>?_,λy c _ h=>?_,λ_=>hd,Around.frames_deeper g.frames,.inr ⟨rfl,rfl⟩,λb z=>absurd z (j b),g.bs,g.bsz,λb _ _=>j b,λb z=>absurd z (j b),g.funs,g.frf⟩,
  rfl,g.bare,Un.kept hk,⟨_,x.toInCall.ns,λi y v n d D=>?_⟩,λy c h=>⟨_,x.cell y c h⟩,g.hok.fresh (zI3 _),λy c h=>?_,λp hp=>absurd (show p∈([]:List (Ab×Obj))from hp) (by simp),g.hok.kept hk,?_⟩
 .exact name_of_addr x.apart (zO7 n) (zO7 d)
 .have l:=l;rcases l with l|l
  .exact my l
  .exact absurd rfl (S.nofree _ (zO7 l))
 .exact zM5 (x.above y c (zO7 h))
 .have hi:i<vs.length:=by
   unfold start at d;by_cases hi:i<vs.length
   .exact hi
   .rw[zJ2 (by simpa using hi)]at d;rw[zM3]at d;split at d<;>cases d
  have ha:vs[i]?=some v:=by
   unfold start at d;rw[zJ4 (by simpa using hi),zJ8]at d;cases e:vs[i]? with
   |none=>rw[e]at d;cases d
   |some a=>rw[e]at d;cases d;rfl
  obtain⟨u,o,B⟩:=r.get ha;have hp:ps[i]?=some y:=by rw[<-S.pre,zT3 (zJ6 hi (zK7 t))];exact n
  have m:ps.Nodup:=by rw[<-S.pre];exact S.nd.sublist (List.take_sublist _ _)
  refine⟨u,B,?_⟩;rcases S.par y (zM6 hp)with k|k
  .exact .inl ⟨k,pD m hp o k⟩
  .obtain⟨c,e⟩:=my k;refine .inr ⟨.inl k,c,e,?_⟩;have q:=x.cell y c e;rw[pB m hp o (by show scope.names.lookup y≠_;rw[k];decide)]at q;exact q
 .exact g.hok.fresh (zM5 (x.above y c (zO7 h)))
 .unfold start;rw[zI1,zH8,zL5];exact zy8 t hpl
theorem iN {CX:CXT}{P:Ah}{w:Ak}{K:Ae}{mg:Str->Option Ac}{base:Ao}{k:Nat}{f:Ab}{name qual:Str}{params:Arguments}{body:List An}{scope:Aq}{dV kV doc pm cdv ct oc:Ac}{an od:Option Ab}
  {osl:Array (Option Ac)} {N ps:List Str} {sp:Sp} (C:K.lookup f=some ⟨oc,od,.func (PySem.W.fnOf name qual params body scope dV kV doc pm an cdv ct),osl⟩) (m:PySem.W.codeIn K cdv qual=true) (S:zo N ps scope)
  (len:∀vs H Q E,sp vs H Q E->vs.length=ps.length)
  (c:∀(A:Ap) (outer:List Ar) (s:Af) (H:Hp) (vs:List V) (Q:VK) (E:XK),zO k (A.deeper (envOfC qual scope s.heap.objs.size f cdv))->sp vs H Q E->
   ∃t,PSs (xi CX P w K mg base N qual scope f cdv A outer s H E) body t/\t {nx:=λ_ H'=>Q .non H',rt:=Q} (start N vs) H):
  zG P w K mg base CX (k+1) f (PySem.W.fnOf name qual params body scope dV kV doc pm an cdv ct) ps sp:=by
 refine⟨len,λA outer s H args us vs Q E hr h B r j=>?_⟩;have KX:=h.mod.kin.keeps λb o e=>(h.bs b o e).1;have d:∀y∈ps.zip us,scope.names.lookup y.1=some .local\/(scope.names.lookup y.1=some .cell/\((cellsFrom (s.heap.objs.size+1) scope.names []).lookup y.1).isSome=true):=λi z=>by
  obtain⟨n,v⟩:=i;rcases S.par n (List.of_mem_zip z).1 with q|q
  .exact .inl q
  .exact .inr ⟨q,PySem.W.cellsFrom_some _ _ _ (.inl q)⟩
 refine codeAny_call_function hr.depth (KX _ _ C) rfl S.co S.gen rfl (PySem.W.codeRec_of KX m) (B _ _ _ _ (wpAny_newFunctionEnv_cells S.kind d λenv he s1 x=>?_));subst he;refine⟨(h.mod.nolimit.keeps λb o e=>(h.bs b o e).1).keeps x.toInCall.keep,codeAny_func ?_⟩;obtain⟨t,ht,p⟩:=c A outer s H vs Q E (hr.deeper _) j;have I:Inv (xi CX P w K mg base N qual scope f cdv A outer s H E) [] (start N vs) H s1:=dr S hr.hd h (len _ _ _ _ j) r x;refine zK3 (ht [] s1 (start N vs) H _ I p) (λfl s' g=>?_) λe s' g=>g;have fin:∀{a:St} {H':Hp} {v:V} {u:Ac},Inv (xi CX P w K mg base N qual scope f cdv A outer s H E) [] a H' s'->RelV v u->Q v H'->CE outer P w H s Q u s':=
  λ{a H' v u} J l q=>⟨v,H',J.os,J.bare,J.base,J.hok,l,q⟩
 cases fl with
 |ret u=>
  obtain⟨v,a,H',J,l,q⟩:=g;exact fin J l q
 |next=>
  obtain⟨a,H',J,q⟩:=g;exact fin (v:=V.non) J rfl q
 |brk=>
  obtain⟨_,_,_,q⟩:=g;exact False.elim q
 |cont=>
  obtain⟨_,_,_,q⟩:=g;exact False.elim q
section
variable {X:Cx}{x:Str}{p pos:Pos}{e:Ai}{es:List Ai}{t:TA}{id T:String}{r:List V->Hp->VK->Prop}
def tCB (r:List V->Hp->VK->Prop)(t:TA):TE:=λσ H Q=>t σ H λvs H1=>r vs H1 Q
def yK (d:wO X (.builtin id) r)(g:Gl X x)(hm:X.mg x=none)(f:bootBuiltins x=some (.builtin id))(ha:PA X (e::es) t)(hn:x≠"__name__":=by decide)(b:(x == ("__debug__":Str))=false:=by decide)
  (he:Ad (e::es) X.env=(false,eval e X.env)::Ad es X.env:=by rfl) (hpl:(backTo pos (Ad es X.env)).any (·.1)=false:=by rfl):PE X (.Call (.Name x p) (e::es) [] pos) (tCB r t):=by
 intro pins s σ H Q I h;refine zO0 (uA I g hm f ?_ hn b);exact PyProof.Rows.callWith_builtin1 (thn (ha pos pins s σ H _ I h) λus s1 a=>by obtain⟨vs,H1,j,c,i⟩:=a;exact d pins s1 σ H1 vs us Q j c i) he hpl
def qS (d:wO X (.type T) r)(g:Gl X x)(hm:X.mg x=none)(f:bootBuiltins x=some (.type T))(ha:PA X (e::es) t)(hn:x≠"__name__":=by decide)(b:(x == ("__debug__":Str))=false:=by decide)
  (he:Ad (e::es) X.env=(false,eval e X.env)::Ad es X.env:=by rfl) (hpl:(backTo pos (Ad es X.env)).any (·.1)=false:=by rfl):PE X (.Call (.Name x p) (e::es) [] pos) (tCB r t):=by
 intro pins s σ H Q I h;refine zO0 (uA I g hm f ?_ hn b);exact zP2 (thn (ha pos pins s σ H _ I h) λus s1 a=>by obtain⟨vs,H1,j,c,i⟩:=a;exact d pins s1 σ H1 vs us Q j c i) he hpl
end
end L2
namespace HT
open PySem PyProof.Rows
section
open PySem.SeqAt
open PySem.AutoSeq1 (wpAny_loadPart')
open PySem.MeetsSeq PySem.MeetsSeq2 PySem.MeetsSeq3
end
section
variable {prog:Ah}{w:Ak}{A:Ap}{E:Ac->Af->Prop}{s:Af}
def sIx (n d:Nat):Option Int->Nat
 |none=>d
 |some v=>if v<0 then(v+(n:Int)).toNat else min v.toNat n
def rm (n d:Nat):sIx n d none=d:=rfl
def pK (n d k:Nat):sIx n d (some (k:Int))=min k n:=by
 show(if(k:Int)<0 then((k:Int)+n).toNat else min (k:Int).toNat n)=min k n;rw[if_neg (Int.not_lt.2 (zW5 _)),zU3]
end
end HT
namespace L2
open PySem PySem.Spec PyProof.Rows
abbrev TO :=St->Hp->(Option Int->Hp->Prop)->Prop
def PO (X:Cx)(e:Option Ai)(t:TO):Prop:=
 ∀(pins:List (Ab×Obj)) (s:Af) (σ:St) (H:Hp) (Q:Option Int->Hp->Prop),Inv X pins σ H s->t σ H Q->
  Al (Am X.prog X.w) X.A (evalPart e X.env) (λu s'=>∃o H',Inv X pins σ H' s'/\IsPart u o/\Q o H') X.xe s
def zj7 :TO:=λ_ H Q=>Q none H
def zD7 (t:TE):TO:=λσ H Q=>t σ H λx H1=>∃i,x=.int i/\Q (some i) H1
theorem intsAre_of {ns:List Int}:∀{us:List Ac},Vals (ns.map V.int) us->IntsAre us ns:=by
 induction ns with
 |nil=>intro us r;rw[zV2]at r;cases r;exact .nil
 |cons n ns b=>
  intro us r;rw[zL7]at r;cases r with
  |cons a c=>
   obtain⟨t,e⟩:=a;subst e;exact .cons n t (b c)
section
variable {X:Cx}{e:Ai}{te:TE}{lo hi:Option Ai}{tl th:TO}{pos p2:Pos}
def gP :PO X none zj7:=by
 intro pins s σ H Q I h;rw[evalPart_none];exact zJ3 ⟨none,H,I,.none,h⟩
def gZ (h:PE X e te):PO X (some e) (zD7 te):=by
 intro pins s σ H Q I hw;rw[evalPart_some];refine thn (h pins s σ H _ I hw) λu s1 a=>?_;obtain⟨x,H1,d,b,c⟩:=a;obtain⟨i,rfl,q⟩:=c;obtain⟨t,rfl⟩:=b;exact⟨some i,H1,d,.int i t,q⟩
def SlR (X:Cx)(r:V->Option Int->Option Int->Hp->VK->Prop):Prop:=
 ∀(pins:List (Ab×Obj)) (s:Af) (σ:St) (H:Hp) (x:V) (v a b:Ac) (lo hi:Option Int) (sl:Ab) (Q:VK),Inv X pins σ H s->RelV x v->s.heap.IsSliceOf sl a b .none->IsPart a lo->IsPart b hi->r x lo hi H Q->
  ∃T id,typeLookup (.type T) "__getitem__"=pure (some (.builtin id))/\s.TypeIs v T/\Al (Am X.prog X.w) X.A (getItem v (.ref sl)) (EP X pins σ Q) X.xe s
def tSl (r:V->Option Int->Option Int->Hp->VK->Prop)(te:TE)(tl th:TO):TE:=λσ H Q=>te σ H λx H1=>tl σ H1 λl b=>th σ b λu a=>r x l u a Q
def rA {r:V->Option Int->Option Int->Hp->VK->Prop}(hr:SlR X r)(he:PE X e te)(m:PO X lo tl)(i:PO X hi th):PE X (.Subscript e (.Slice lo hi none p2) pos) (tSl r te tl th):=by
 intro pins s σ H Q I h;refine Subscript_ (thn (he pins s σ H _ I h) λv s1 ⟨x,H1,z,g,k⟩=>wpAny_Slice (thn (m pins s1 σ H1 _ z k) λa s2 ⟨l,p,j,pl,y⟩=>thn (i pins s2 σ p _ j y) λc s3 ⟨u,d,o,pu,t⟩=>?_));rw[evalPart_none];refine zJ3 ?_;have f:Inv X pins σ d {s3 with heap:=s3.heap.push {cls:=.type "slice",data:=.fields #[a,c,.none]}}:=o.kept λb ob q=>zI2 _ q;obtain⟨T,id,n,ht,w⟩:=hr pins {s3 with heap:=s3.heap.push {cls:=.type "slice",data:=.fields #[a,c,.none]}} σ d x v a c l u s3.heap.objs.size Q f g (Heap.IsSliceOf.new ..) pl pu t;exact tail_any ht n w (by with_unfolding_all rfl)
def kN (xs:List V)(lo hi:Option Int):List V:=(xs.drop (HT.sIx xs.length 0 lo)).take (HT.sIx xs.length xs.length hi-HT.sIx xs.length 0 lo)
def nS (xs:List V)(lo hi:Option Int):(kN xs lo hi).length<=xs.length:=by
 unfold kN;rw[zL8,zQ6];exact zJ1 (Nat.min_le_right _ _) (Nat.sub_le _ _)
end
def ixN (n:Nat)(i:Int):Option Nat:=if 0<=i then(if i<n then some i.toNat else none)else if -(n:Int)<=i then some (i+n).toNat else none
def atI {L:Type}(xs:List L)(i:Int):Option L:=(ixN xs.length i).bind λj=>xs[j]?
def gJ {n:Nat}{i:Int}{j:Nat}(h:ixN n i=some j):seqIndex? i n=some j/\j<n/\-(n:Int)<=i/\i<n:=by
 unfold ixN at h;by_cases h0:0<=i
 .rw[if_pos h0]at h;by_cases a:i<n
  .rw[if_pos a]at h;exact⟨by rw[seqIndex_of h0 a,(zL2 h)],by lia,by lia,a⟩
  .rw[if_neg a]at h;cases h
 .rw[if_neg h0]at h;by_cases a:-(n:Int)<=i
  .rw[if_pos a]at h;exact⟨by rw[seqIndex_neg (zV3.1 h0) a,(zL2 h)],by lia,a,(Int.lt_of_lt_of_le (zV3.1 h0) (zW5 _))⟩
  .rw[if_neg a]at h;cases h
theorem oN {L:Type}{xs:List L}{i:Int}{v:L}(h:atI xs i=some v):∃j,seqIndex? i xs.length=some j/\xs[j]?=some v/\j<xs.length/\-(xs.length:Int)<=i/\i<xs.length:=by
 unfold atI at h;cases e:ixN xs.length i with
 |none=>rw[e]at h;cases h
 |some j=>
  rw[e]at h;obtain⟨c,a,d,b⟩:=gJ e;exact⟨j,c,h,a,d,b⟩
def sN {L:Type}{xs:List L}{j:Nat}{v:L}(h:xs[j]?=some v):atI xs (j:Int)=some v:=by
 have e:ixN xs.length j=some j:=by
  unfold ixN;rw[if_pos (zW5 _),if_pos (Int.ofNat_lt.2 ((zH9.mp h).1))];simp
 unfold atI;rw[e];exact h
def sY (b:Ai):Prop:=∀o i,subscripted b false o i=operate [o,i] (getItem o i)
def IxR (X:Cx)(r:R2):Prop:=
 ∀(value slice:Ai) (pins:List (Ab×Obj)) (s:Af) (σ:St) (H:Hp) (x y:V) (v u:Ac) (Q:VK),Inv X pins σ H s->RelV x v->RelV y u->r x y H Q->
  subscripted slice false v u=operate [v,u] (getItem v u)->Al (Am X.prog X.w) X.A (subscriptTail value slice v u) (EP X pins σ Q) X.xe s
def MtR (X:Cx)(id:String)(r:V->List V->Hp->VK->Prop):Prop:=
 ∀(pins:List (Ab×Obj)) (s:Af) (σ:St) (H:Hp) (x:V) (xs:List V) (v:Ac) (us:List Ac) (Q:VK),Inv X pins σ H s->RelV x v->Vals xs us->r x xs H Q->
  Al (Am X.prog X.w) X.A (call (.builtin id) (v::us)) (EP X pins σ Q) X.xe s
section
variable {X:Cx}{a b:Ai}{ta tb:TE}{pos:Pos}
def IxR.or {r c:R2}(h:IxR X r)(h':IxR X c):IxR X (λx y H Q=>r x y H Q\/c x y H Q):=by
 intro value slice pins s σ H x y v u Q I e f q d;rcases q with q|q
 .exact h value slice pins s σ H x y v u Q I e f q d
 .exact h' value slice pins s σ H x y v u Q I e f q d
def yJ {r:R2}(hr:IxR X r)(ha:PE X a ta)(e:PE X b tb)(f:sY b):PE X (.Subscript a b pos) (tOp r ta tb):=by
 intro pins s σ H Q I h;exact Subscript_ (zo8 ha e I h λv u s2 x y d c g i q=>hr a b pins s2 σ d x y v u Q c g i q (f _ _))
def zr9 (K:Ae):R2:=λx y H Q=>∃p xs i v,x=.ref p/\y=.int i/\SqL K H p xs/\atI xs i=some v/\Q v H
def zB4 (K:Ae):R2:=λx y H Q=>∃p xs i v,x=.ref p/\y=.int i/\SqT K H p xs/\atI xs i=some v/\Q v H
def zx7 :R2:=λx y H Q=>∃z i c,x=.str z/\y=.int i/\z.length<=sizeLine/\atI z.cps.toList i=some c/\Q (.str ⟨#[c]⟩) H
def xX :IxR X (zr9 X.K):=by
 intro value slice pins s σ H x y v u Q I o D h l;obtain⟨p,xs,i,z,rfl,rfl,C,he,q⟩:=h;cases o;obtain⟨t,rfl⟩:=D;obtain⟨e,r,pl,k⟩:=I.list C;obtain⟨j,c,B,E,g,n⟩:=oN he;obtain⟨w,m,d⟩:=r.get B;have A:=r.length;have hn:=qx;have fin:EP X pins σ Q w s:=⟨z,H,I,d,q⟩;by_cases h0:0<=i
 .have f:i.toNat=j:=by
   rw[seqIndex_of h0 n]at c;exact zL2 c
  exact item_listR pl.isList h0 (dY hn n k) (by rw[f];simpa using m) fin l
 .have f:(i+(e.toArray.size:Int)).toNat=j:=by
   rw[seqIndex_neg (zV3.1 h0) g]at c;rw[zK4,<-A];exact zL2 c
  exact subscriptTail_builtinR pl.isList.typeIs slot_list_getitem.lookup
   (wpAny_getItem_list_neg pl.isList (zV3.1 h0) (by rw[zK4]<;>lia) (bL g k hn) (by rw[f];simpa using m) ⟨rfl,fin⟩) l
def yV :IxR X (zB4 X.K):=by
 intro value slice pins s σ H x y v u Q I g B h f;obtain⟨p,xs,i,z,rfl,rfl,l,he,q⟩:=h;cases g;obtain⟨t,rfl⟩:=B;obtain⟨m,r,pl,d⟩:=I.tuple l;obtain⟨j,n,k,C,e,A⟩:=oN he;obtain⟨w,o,c⟩:=r.get k;have hn:=qx;have fin:EP X pins σ Q w s:=⟨z,H,I,c,q⟩;exact subscriptTail_builtinR pl.typeIs slot_tuple_getitem.lookup
  (getItem_tuple pl (bL e d hn) (dY hn A d) (by rw[zK4,<-r.length];exact n) (by simpa using o) ⟨rfl,fin⟩) f
def aD :IxR X zx7:=by
 intro value slice pins s σ H x y v u Q I n o h k;obtain⟨z,i,c,rfl,rfl,w,he,q⟩:=h;obtain⟨t,rfl⟩:=n;obtain⟨t',rfl⟩:=o;obtain⟨j,d,e,r,g,l⟩:=oN he;have p:z.cps.toList.length=z.length:=by simp[Str.length]
 rw[p]at d g l;have hn:=qx;exact tail_any (typeIs_str s z t) slot_str_getitem.lookup (getItem_str (by
  have m:decide (i < -(2 ^ 63:Int))=false:=zM8 (by lia);have f:decide (i≥2 ^ 63)=false:=zM8 (by lia);rw[m,f,Bool.or_false]) (by rw[d];simpa using e) ⟨.str ⟨#[c]⟩,H,I.tok _,⟨_,rfl⟩,q⟩) k
def rIx (K:Ae):R2:=λx y H Q=>zr9 K x y H Q\/zB4 K x y H Q\/zx7 x y H Q
def zw8 :IxR X (rIx X.K):=xX.or (yV.or aD)
def jm (c:List Ac)(n j:Nat)(u:Ac):Obj.mapSeq (·.setIfInBounds j u) {cls:=.type "list",data:=.seq c.toArray n}={cls:=.type "list",data:=.seq (c.set j u).toArray n}:=by simp[Obj.mapSeq]
theorem Inv.lst {pins:List (Ab×Obj)}{σ:St}{H:Hp}{s:Af}{p:Ab}{xs:List V}(I:Inv X pins σ H s)(h:H p=some (.lst xs)):
  ∃(c:List Ac) (n:Nat),Vals xs c/\s.heap.get? p=some {cls:=.type "list",data:=.seq c.toArray n}/\xs.length<=sizeLine:=by
 obtain⟨z,c,n,r,e⟩:=I.hok p _ h;exact⟨c,n,r,e,z⟩
def Inv.lstUpd {pins:List (Ab×Obj)}{σ:St}{H:Hp}{s:Af}{p:Ab}{xs d:List V}{c its':List Ac}{n g:Nat}{f:Obj->Obj}(I:Inv X pins σ H s)(h:H p=some (.lst xs))
  (j:s.heap.get? p=some {cls:=.type "list",data:=.seq c.toArray n}) (hf:f {cls:=.type "list",data:=.seq c.toArray n}={cls:=.type "list",data:=.seq its'.toArray g}) (r:Vals d its') (k:d.length<=sizeLine) (t:Nat):
  Inv X pins σ (upd H p (.lst d)) {s with heap:=s.heap.update p f,toks:=t}:=by
 have e:(s.heap.update p f).get? p=some {cls:=.type "list",data:=.seq its'.toArray g}:=by rw[zN8 f j (by rw[hf]<;>rfl),hf]
 refine I.write (by rw[h];trivial) (.inl rfl) (λb u i q=>(zK1 _ _ (zO2 i)).trans q) ⟨_,e⟩ ?_;exact⟨k,its',g,r,e⟩
def zz5 :V->V->V->Hp->(Hp->Prop)->Prop:=λo i v H Q=>∃p xs k j,o=.ref p/\i=.int k/\H p=some (.lst xs)/\ixN xs.length k=some j/\Q (upd H p (.lst (xs.set j v)))
def set_list :zA9 X zz5:=by
 intro pins s σ H o i v D C u Q I y x z h;obtain⟨p,xs,k,j,rfl,rfl,hp,A,q⟩:=h;cases y;obtain⟨t,rfl⟩:=x;obtain⟨c,n,r,f,g⟩:=I.lst hp;obtain⟨d,B,m,e⟩:=gJ A;have l:=r.length;have hn:=qx;have w:Inv X pins σ (upd H p (.lst (xs.set j v))) {s with heap:=s.heap.update p (Obj.mapSeq (·.setIfInBounds j u))}:=
  I.lstUpd hp f (jm c n j u) (r.set z j) (by rw[zK0];exact g) s.toks
 by_cases h0:0<=k
 .have hk:k.toNat=j:=by
   rw[seqIndex_of h0 e]at d;exact zL2 d
  exact PySem.W.ki_setAt f h0 (dY hn e g) (by rw[zK4,<-l];exact e) (by rw[hk];exact⟨_,w,q⟩)
 .have hk:(k+(c.toArray.size:Int)).toNat=j:=by
   rw[seqIndex_neg (zV3.1 h0) m]at d;rw[zK4,<-l];exact zL2 d
  exact PySem.W.ki_setBack f (zV3.1 h0) (by rw[zK4,<-l];exact m) (bL m g hn) (by rw[hk];exact⟨_,w,q⟩)
def nc (lo hi:Option Int)(n:Nat):(sliceBounds lo hi none n).1=((HT.sIx n 0 lo:Nat):Int)/\(sliceBounds lo hi none n).2.1=((HT.sIx n n hi:Nat):Int)/\(sliceBounds lo hi none n).2.2=1:=by
 refine⟨?_,?_,rfl⟩
 .cases lo with
  |none=>simp[sliceBounds,HT.sIx]
  |some i=>
   simp only[sliceBounds,HT.sIx,Option.getD_none,show 1 > 0 by decide,if_true];by_cases h:i<0
   .simp only[h,if_true]<;>exact zm4 h
   .simp only[h,if_false]<;>exact zl5
 .cases hi with
  |none=>simp[sliceBounds,HT.sIx]
  |some i=>
   simp only[sliceBounds,HT.sIx,Option.getD_none,show 1 > 0 by decide,if_true];by_cases h:i<0
   .simp only[h,if_true]<;>exact zm4 h
   .simp only[h,if_false]<;>exact zl5
def qI (c:List Ac)(lo hi:Option Int):slicePick c.toArray lo hi none=((c.drop (HT.sIx c.length 0 lo)).take (HT.sIx c.length c.length hi-HT.sIx c.length 0 lo)).toArray:=by
 obtain⟨f,d,e⟩:=nc lo hi c.toArray.size;unfold slicePick;rw[f,d,e];simp only[sliceRange_one,pick_run,zK4]<;>rfl
def zG5 (K:Ae):V->Option Int->Option Int->Hp->VK->Prop:=λx lo hi H Q=>∃a xs,x=.ref a/\SqL K H a xs/\∀p,H p=none->Q (.ref p) (upd H p (.lst (kN xs lo hi)))
def iJ :SlR X (zG5 X.K):=by
 intro pins s σ H x v j i lo hi sl Q I g f pl pu h;obtain⟨a,xs,rfl,e,q⟩:=h;cases g;obtain⟨d,r,ht,c⟩:=I.list e;have hlen:=r.length;refine⟨"list",_,slot_list_getitem.lookup,ht.isList.typeIs,?_⟩;refine wpAny_getItem_list_slice ht.isList f pl pu .none (by simp) ?_ (by rw[zK4]<;>exact zJ1 (zK7 hlen.symm) c);rw[qI,<-hlen];refine⟨.ref s.heap.objs.size,_,I.laid (λb ob q=>zI2 _ q) (zI3 _) ?_,rfl,q _ (I.hok.fresh (zI3 _))⟩;exact⟨zJ1 (nS xs lo hi) c,_,0,(r.drop (HT.sIx xs.length 0 lo)).take (HT.sIx xs.length xs.length hi-HT.sIx xs.length 0 lo),zL6 _ rfl⟩
def uw :V->Bool
 |.non=>true
 |.bl _=>true
 |.int _=>true
 |.str _=>true
 |_=>false
def eqV :V->V->Bool
 |.non,.non=>true
 |.bl a,.bl b=>a == b
 |.bl a,.int b=>(if a then 1 else 0)==b
 |.int a,.bl b=>a == (if b then 1 else 0)
 |.int a,.int b=>a == b
 |.str a,.str b=>a == b
 |_,_=>false
theorem zw0 {A:Ap}{s:Af}{y x:V}{u v:Ac}(e:RelV y u)(c:RelV x v)(f:uw y=true)(d:uw x=true):SeqAt.EqAt A s u v (eqV y x):=by
 cases y with
 |non=>
  cases e;cases x with
  |non=>cases c;exact SeqAt.EqAt.same _
  |bl b=>cases c;exact SeqAt.EqAt.none_bool b
  |int b=>obtain⟨t,rfl⟩:=c;exact SeqAt.EqAt.none_int b t
  |str b=>obtain⟨t,rfl⟩:=c;exact SeqAt.EqAt.none_str b t
  |_=>exact absurd (d) zJ0
 |bl a=>
  cases e;cases x with
  |non=>cases c;exact SeqAt.EqAt.bool_none a
  |bl b=>cases c;exact SeqAt.EqAt.bool_bool a b
  |int b=>obtain⟨t,rfl⟩:=c;exact SeqAt.EqAt.bool_int a b t
  |str b=>obtain⟨t,rfl⟩:=c;exact SeqAt.EqAt.bool_str a b t
  |_=>exact absurd (d) zJ0
 |int a=>
  obtain⟨t',rfl⟩:=e;cases x with
  |non=>cases c;exact SeqAt.EqAt.int_none a t'
  |bl b=>cases c;exact SeqAt.EqAt.int_bool a t' b
  |int b=>obtain⟨t,rfl⟩:=c;exact SeqAt.EqAt.int_int a t' b t
  |str b=>obtain⟨t,rfl⟩:=c;exact SeqAt.EqAt.int_str a t' b t
  |_=>exact absurd (d) zJ0
 |str a=>
  obtain⟨t',rfl⟩:=e;cases x with
  |non=>cases c;exact SeqAt.EqAt.str_none a t'
  |bl b=>cases c;exact SeqAt.EqAt.str_bool a t' b
  |int b=>obtain⟨t,rfl⟩:=c;exact SeqAt.EqAt.str_int a t' b t
  |str b=>obtain⟨t,rfl⟩:=c;exact SeqAt.EqAt.str_str a t' b t
  |_=>exact absurd (d) zJ0
 |_=>exact absurd (f) zJ0
def eqU (x:V)(u:Ac):Bool:=match u with
 |.none=>eqV .non x
 |.bool b=>eqV (.bl b) x
 |.int i _=>eqV (.int i) x
 |.str z _=>eqV (.str z) x
 |_=>false
theorem zb9 {x y:V}{u:Ac}(r:RelV y u)(f:uw y=true):eqU x u=eqV y x:=by
 cases y with
 |non=>cases r;rfl
 |bl b=>cases r;rfl
 |int i=>obtain⟨t,rfl⟩:=r;rfl
 |str z=>obtain⟨t,rfl⟩:=r;rfl
 |_=>exact absurd (f) zJ0
theorem sQ {x:V}{xs:List V}{us:List Ac}(h:Vals xs us)(f:xs.all uw=true):us.any (eqU x)=xs.any λy=>eqV y x:=by
 induction h with
 |nil=>rfl
 |cons r _ c=>
  rw[zW7,zL0]at f;rw[zW8,zW8,zb9 r f.1,c f.2]
theorem vQ {A:Ap}{s:Af}{x:V}{v:Ac}(e:RelV x v)(d:uw x=true):∀{xs:List V}{us:List Ac},Vals xs us->xs.all uw=true->∀u∈us,SeqAt.EqAt A s u v (eqU x u)
 |_,_,.nil,_=>λu c=>by cases c
 |y::xs,u::us,.cons r t,f=>λg c=>by
  rw[zW7,zL0]at f;rcases zI8.mp c with rfl|c
  .rw[zb9 r f.1];exact zw0 r e f.1 d
  .exact vQ e d t f.2 g c
def inV (x:V)(xs:List V):Bool:=xs.any λy=>eqV y x
def rIn (K:Ae)(neg:Bool):R2:=λx y H Q=>∃p xs,y=.ref p/\(SqL K H p xs\/SqT K H p xs)/\uw x=true/\xs.all uw=true/\Q (.bl (if neg then !inV x xs else inV x xs)) H
def eO :OpR X (compareOp .In) (rIn X.K false):=by
 intro pins s σ H x y v u Q I f i h;obtain⟨p,xs,rfl,d,e,fs,q⟩:=h;cases i;rcases d with d|d
 .obtain⟨c,r,pl,g⟩:=I.list d;refine SeqAt.in_listAt (eqU x) pl.isList (λw hw=>vQ f e r fs w (by simpa using hw)) ⟨.bl _,H,I,rfl,?_⟩;rw[show c.toArray.any (eqU x)=c.any (eqU x) by simp,sQ r fs];exact q
 .obtain⟨c,r,pl,g⟩:=I.tuple d;refine SeqAt.in_tupleAt (eqU x) pl (λw hw=>vQ f e r fs w (by simpa using hw)) ⟨.bl _,H,I,rfl,?_⟩;rw[show c.toArray.any (eqU x)=c.any (eqU x) by simp,sQ r fs];exact q
def oG :OpR X (compareOp .NotIn) (rIn X.K true):=by
 intro pins s σ H x y v u Q I f i h;obtain⟨p,xs,rfl,d,e,fs,q⟩:=h;cases i;rcases d with d|d
 .obtain⟨c,r,pl,g⟩:=I.list d;refine SeqAt.notIn_listAt (eqU x) pl.isList (λw hw=>vQ f e r fs w (by simpa using hw)) ⟨.bl _,H,I,rfl,?_⟩;rw[show c.toArray.any (eqU x)=c.any (eqU x) by simp,sQ r fs];exact q
 .obtain⟨c,r,pl,g⟩:=I.tuple d;refine SeqAt.notIn_tupleAt (eqU x) pl (λw hw=>vQ f e r fs w (by simpa using hw)) ⟨.bl _,H,I,rfl,?_⟩;rw[show c.toArray.any (eqU x)=c.any (eqU x) by simp,sQ r fs];exact q
def vw :wO X (.builtin "len") (λxs H Q=>∃p c,xs=[.ref p]/\(SqL X.K H p c\/SqT X.K H p c)/\Q (.int c.length) H):=by
 intro pins s σ H xs us Q I r h;obtain⟨p,c,rfl,d,q⟩:=h;obtain⟨u,rfl,i⟩:=vals1 r;cases i;have hn:=qx;rcases d with d|d
 .obtain⟨e,f,pl,g⟩:=I.list d;have hlen:=f.length;exact Calls.call_len_list pl.isList (by simp only[zK4]<;>exact zm5 hn hlen g) ⟨.int c.length,H,I.tok _,⟨s.toks+1,by rw[zK4,hlen]⟩,q⟩
 .obtain⟨e,f,pl,g⟩:=I.tuple d;have hlen:=f.length;exact len_tuple pl (by simp only[zK4]<;>exact zm5 hn hlen g) ⟨.int c.length,H,I.tok _,⟨s.toks+1,by rw[zK4,hlen]⟩,q⟩
def pH :wO X (.type "list") (λxs H Q=>∃p d,xs=[.ref p]/\(SqL X.K H p d\/SqT X.K H p d)/\∀l,H l=none->Q (.ref l) (upd H l (.lst d))):=by
 intro pins s σ H xs us Q I r h;obtain⟨p,d,rfl,j,q⟩:=h;obtain⟨u,rfl,t⟩:=vals1 r;cases t;have fin:∀c,Vals d c->d.length<=sizeLine->∀h' i,(∀b o',s.heap.get? b=some o'->h'.get? b=some o')->
   h'.get? s.heap.objs.size=some {cls:=.type "list",dict:=none,data:=.seq c.toArray i,slots:=#[]}->EP X pins σ Q (.ref s.heap.objs.size) {s with heap:=h'}:=λc f g h' i kp e=>
  ⟨.ref s.heap.objs.size,_,I.laid kp (zI3 _) (show xx X.prog X.w _ h' _ (.lst d)from⟨g,c,i,f,e⟩),rfl,q _ (I.hok.fresh (zI3 _))⟩
 rcases j with j|j
 .obtain⟨c,f,pl,g⟩:=I.list j;obtain⟨o,m,k,n,hd⟩:=pl.isList;exact call_list_seq p (.inl rfl) m k hd (λh' i kp e=>fin c f g h' i kp e) (by simp only[zK4]<;>exact zJ1 (zK7 f.length.symm) g)
 .obtain⟨c,f,pl,g⟩:=I.tuple j;obtain⟨o,m,k,n,hd⟩:=pl;exact call_list_seq p (.inr rfl) m k hd (λh' i kp e=>fin c f g h' i kp e) (by simp only[zK4]<;>exact zJ1 (zK7 f.length.symm) g)
def tyV (K:Ae)(T:String)(x:V)(H:Hp):Prop:=match x with
 |.str _=>T="str"
 |.int _=>T="int"
 |.ref p=>(T="list"/\∃xs,SqL K H p xs)\/(T="tuple"/\∃o,K.lookup p=some o/\o.cls=.type "tuple"/\o.dict=none)\/
   (T="dict"/\((∃kvs,H p=some (.dK kvs))\/∃kvs,H p=some (.dT kvs)))\/(T="set"/\∃S n,H p=some (.set S n))
 |_=>False
theorem zb6 {pins:List (Ab×Obj)}{σ:St}{H:Hp}{s:Af}{T:String}{x:V}{v:Ac}(I:Inv X pins σ H s)(r:RelV x v)(ty:tyV X.K T x H):
  s.TypeIs v T/\∀a,v=.ref a->∃ob,s.heap.get? a=some ob/\ob.dict=none:=by
 cases x with
 |str z=>
  obtain⟨t,rfl⟩:=r;cases(ty);exact⟨typeIs_str s z t,λ_ e=>nomatch e⟩
 |int i=>
  obtain⟨t,rfl⟩:=r;cases(ty);exact⟨typeIs_int s i t,λ_ e=>nomatch e⟩
 |ref p=>
  cases r;rcases ty with⟨rfl,xs,g⟩|⟨rfl,o,hk,h,hd⟩|⟨rfl,hk⟩|⟨rfl,S,n,hk⟩
  .obtain⟨f,_,pl,_⟩:=I.list g;refine⟨pl.isList.typeIs,λa e=>?_⟩;cases e;obtain⟨o,n,e,c,hd,_⟩:=pl;exact⟨o,e,hd⟩
  .refine⟨⟨o,I.kIn p o hk,h⟩,λa e=>?_⟩;cases e;exact⟨o,I.kIn _ o hk,hd⟩
  .have z:∃o,s.heap.get? p=some o/\o.ExactDict:=by
    rcases hk with⟨kvs,hk⟩|⟨kvs,hk⟩
    .obtain⟨_,_,_,_,o,_,_,e,ex,_⟩:=I.hok p _ hk;exact⟨o,e,ex⟩
    .obtain⟨_,_,_,_,o,_,_,e,ex,_⟩:=I.hok p _ hk;exact⟨o,e,ex⟩
   obtain⟨o,e,ex⟩:=z;refine⟨⟨o,e,ex.1⟩,λa d=>?_⟩;cases d;exact⟨o,e,ex.2.1⟩
  .obtain⟨o,_,_,_,e,ex,_⟩:=I.hok p _ hk;refine⟨⟨o,e,ex.1⟩,λa d=>?_⟩;cases d;exact⟨o,e,ex.2.1⟩
 |_=>exact False.elim ty
def zE3 (K:Ae)(T:String)(r:V->List V->Hp->VK->Prop)(to:TE):TE:=λσ H Q=>to σ H λx H1=>tyV K T x H1/\r x [] H1 Q
def tBM (K:Ae)(T:String)(r:V->List V->Hp->VK->Prop)(to:TE)(t:TA):TE:=λσ H Q=>to σ H λx H1=>tyV K T x H1/\t σ H1 λxs c=>r x xs c Q
variable {o e:Ai}{es:List Ai}{to:TE}{t:TA}{name:Str}{apos cpos:Pos}{T id:String}{r:V->List V->Hp->VK->Prop}
def zt5 (pa:PlainAttrs T)(slot:Slot T name id)(g:typeOf (.builtin id)=pure (.type "method_descriptor"))(hm:MtR X id r)(m:PE X o to)
  (c:attributeBase o name X.env (eval o X.env)=eval o X.env:=by rfl) (d:(apos.endLine == cpos.line)=true:=by rfl):PE X (.Call (.Attribute o name apos) [] [] cpos) (zE3 X.K T r to):=by
 intro pins s σ H Q I h;refine wpAny_Call_method0_late c d (thn (m pins s σ H _ I h) λv s1 f=>?_);obtain⟨x,H1,j,i,ty,n⟩:=f;obtain⟨l,k⟩:=zb6 j i ty;exact⟨T,id,pa,slot,g,l,k,Calls.callWith_builtin rfl (PySem.evalArgs_none (hm pins s1 σ H1 x [] v [] Q j i .nil n))⟩
def sr (pa:PlainAttrs T)(slot:Slot T name id)(k:typeOf (.builtin id)=pure (.type "method_descriptor"))(hm:MtR X id r)(q:PE X o to)(ha:PA X (e::es) t)
  (f:attributeBase o name X.env (eval o X.env)=eval o X.env:=by rfl)
  (i:((backTo cpos (Ad (e::es) X.env)).all (λx=>!x.1)&&(backToKw cpos (keywordEach [] X.env)).all (λx=>x.1.isSome)
   &&decide ((e::es).length+([]:List Keyword).length+(if([]:List Keyword).isEmpty then 0 else 1)<30))=true:=by rfl)
  (d:(apos.endLine == cpos.line)=true:=by rfl) (u:Ad (e::es) X.env=(false,eval e X.env)::Ad es X.env:=by rfl) (c:(backTo cpos (Ad es X.env)).any (·.1)=false:=by rfl):
  PE X (.Call (.Attribute o name apos) (e::es) [] cpos) (tBM X.K T r to t):=by
 intro pins s σ H Q I h;refine wpAny_Call_method_late f i d rfl (thn (q pins s σ H _ I h) λv s1 j=>?_);obtain⟨x,H1,n,l,ty,w⟩:=j;obtain⟨z,y⟩:=zb6 n l ty;refine⟨T,id,pa,slot,k,z,y,?_⟩;have m:=ha cpos pins s1 σ H1 _ n w;rw[u]at m ⊢;refine Calls.callWith_builtin (by show(false||(backTo cpos (Ad es X.env)).any (·.1))=false;rw[c]<;>rfl) (Calls.evalArgs_plain ?_);exact thn m λus s2 g=>by obtain⟨vs,A,p,B,C⟩:=g;exact hm pins s2 σ A x vs v us Q p l B C
/- xs.append(e),list.index on a module's tuple .. are MtR facts of 06m -/
end
def MtM (X:Cx)(id:String)(r:V->List V->Hp->VK->Prop):Prop:=
 ∀(pins:List (Ab×Obj)) (s:Af) (σ:St) (H:Hp) (x:V) (xs:List V) (v:Ac) (us:List Ac) (Q:VK),Inv X pins σ H s->RelV x v->Vals xs us->r x xs H Q->
  Al (Am X.prog X.w) X.A (call (.builtin id) (v::us)) (EP X pins σ Q) X.xe s
theorem Vals.one {x:V}{us:List Ac}(h:Vals [x] us):∃u,us=[u]/\RelV x u:=by
 cases h with
 |cons r q=>cases q;exact⟨_,rfl,r⟩
theorem Vals.two {x y:V}{us:List Ac}(h:Vals [x,y] us):∃u v,us=[u,v]/\RelV x u/\RelV y v:=by
 cases h with
 |cons r q=>
  cases q with
  |cons q z=>cases z;exact⟨_,_,rfl,r,q⟩
theorem Vals.zero :∀{us:List Ac},Vals [] us->us=[]
 |_,.nil=>rfl
theorem Vals.dropLast {xs:List V}{us:List Ac}(h:Vals xs us):Vals xs.dropLast us.dropLast:=by
 induction h with
 |nil=>exact .nil
 |cons r t a=>
  cases t with
  |nil=>exact .nil
  |cons q t'=>exact .cons r a
theorem Vals.rep {xs:List V}{us:List Ac}(h:Vals xs us):∀k:Nat,Vals (List.replicate k xs).flatten (List.replicate k us).flatten
 |0=>.nil
 |k+1=>by
  rw[zO8,zO8,zQ2,zQ2];exact Vals.append h (Vals.rep h k)
theorem jZ {L:Type}(l:List L):l.eraseIdx (l.length-1)=l.dropLast:=by
 induction l with
 |nil=>rfl
 |cons a r c=>
  cases r with
  |nil=>rfl
  |cons b r=>
   have e:(a::b::r).length-1=((b::r).length-1)+1:=by
    have f:(a::b::r).length=r.length+2:=rfl;have d:(b::r).length=r.length+1:=rfl
    lia
   rw[e,List.eraseIdx_cons_succ,c]
   all_goals rfl
theorem foldl_rep (a:List Ac):∀(k:Nat) (acc:List Ac),
  List.foldl (λd b=>d++b) acc.toArray (List.replicate k a.toArray)=(acc++(List.replicate k a).flatten).toArray
 |0,acc=>by simp
 |k+1,acc=>by
  have e:acc.toArray++a.toArray=(acc++a).toArray:=by simp
  have c:(acc++a)++(List.replicate k a).flatten=acc++(List.replicate (k+1) a).flatten:=by rw[zO8,zQ2,zN1]
  rw[<-c,<-foldl_rep a k (acc++a),<-e,zO8,List.foldl_cons]
section
variable {X:Cx}{pins:List (Ab×Obj)}{σ:St}{H:Hp}{s:Af}{l b:Ab}{xs ys zs:List V}
def Inv.lset {a its':List Ac}{n:Nat}{f:Array Ac->Array Ac}{t':Nat}(I:Inv X pins σ H s)(g:H l=some (.lst xs))
  (e:s.heap.get? l=some {cls:=.type "list",data:=.seq a.toArray n}) (hf:f a.toArray=its'.toArray) (i:Vals ys its') (d:ys.length<=sizeLine):
  Inv X pins σ (upd H l (.lst ys)) {s with heap:=s.heap.update l (Obj.mapSeq f),toks:=t'}:=by
 have q:=PySem.IsL.update e f;rw[hf]at q;refine I.write (by rw[g];trivial) (.inl rfl) (λj u h c=>(zK1 s.heap (Obj.mapSeq f) (zO2 h)).trans c) ⟨_,q⟩ ?_;exact⟨d,its',_,i,q⟩
def Inv.lnew {a:List Ac}{t':Nat}(I:Inv X pins σ H s)(c:Vals ys a)(d:ys.length<=sizeLine):
  Inv X pins σ (upd H s.heap.objs.size (.lst ys)) {s with heap:=s.heap.push {cls:=.type "list",data:=.seq a.toArray},toks:=t'}:=
 I.laid (λ_ _ q=>zI2 _ q) (zI3 _) ⟨d,a,0,c,zL6 _ rfl⟩
theorem Inv.fresh (I:Inv X pins σ H s):H s.heap.objs.size=none:=I.hok.fresh (zI3 _)
def Inv.lstM (I:Inv X pins σ H s)(c:H l=some (.lst xs)):xs.length<=sizeLine/\∃(a:List Ac) (n:Nat),Vals xs a/\xs.length=a.length/\s.heap.get? l=some {cls:=.type "list",data:=.seq a.toArray n}:=by
 obtain⟨z,a,n,r,e⟩:=I.hok l _ c;exact⟨z,a,n,r,r.length,e⟩
def ak {n:Nat}(h:n<=sizeLine):Builtin.List.listTooLong n=false:=by
 unfold Builtin.List.listTooLong;exact zM8 (Nat.not_lt_of_le h)
end
section
variable {X:Cx}
def ze7 :V->List V->Hp->VK->Prop:=λx vs H Q=>∃l xs y,x=.ref l/\vs=[y]/\H l=some (.lst xs)/\xs.length<sizeLine/\Q .non (upd H l (.lst (xs++[y])))
def wW :MtM X "list.append" ze7:=by
 intro pins s σ H x vs v us Q I f i h;obtain⟨l,xs,y,rfl,rfl,c,b,q⟩:=h;cases f;obtain⟨u,rfl,d⟩:=i.one;obtain⟨z,a,n,r,g,e⟩:=I.lstM c;refine zT9 F.slot_list_append ⟨_,e,rfl⟩ F.entry_list_append (F.args_list_append_2 _ _) (PySem.list_append l a.toArray n u (by rw[zK4];exact zM5 (zN4 (zK7 g.symm) b))) ⟨e,?_⟩;refine⟨.non,_,I.lset c e (by simp) (r.append (.cons d .nil)) ?_,rfl,q⟩;rw[zI1,zN0];exact b
def zG3 :V->List V->Hp->VK->Prop:=λx vs H Q=>∃l xs y,x=.ref l/\vs=[]/\H l=some (.lst xs)/\xs[xs.length-1]?=some y/\Q y (upd H l (.lst xs.dropLast))
def zx4 :MtM X "list.pop" zG3:=by
 intro pins s σ H x vs v us Q I k m h;obtain⟨l,xs,y,rfl,rfl,d,i,q⟩:=h;cases k;have c:=m.zero;subst c;obtain⟨z,a,n,r,f,e⟩:=I.lstM d;obtain⟨u,g,j⟩:=r.get i;have b:a.toArray[a.toArray.size-1]?=some u:=by
  show a.toArray[a.length-1]?=some u;rw[<-Array.getElem?_toList,<-f];exact g
 refine zT9 F.slot_list_pop ⟨_,e,rfl⟩ F.entry_list_pop (F.args_list_pop_1 _) (MeetsSeq.list_pop_last l a.toArray n u b (by rw[zK4];exact zJ1 (zK7 f.symm) z)) ⟨e,?_⟩;refine⟨y,_,I.lset (its':=a.dropLast) d e ?_ r.dropLast ?_,j,q⟩
 .show a.toArray.eraseIdxIfInBounds (a.toArray.size-1)=a.dropLast.toArray;rw[zK4,List.eraseIdxIfInBounds_toArray,jZ]
 .rw[List.length_dropLast];exact zJ1 (Nat.sub_le _ _) z
def zG7 :R2:=λx y H Q=>∃l b xs zs,x=.ref l/\y=.ref b/\H l=some (.lst xs)/\H b=some (.lst zs)/\xs.length+zs.length<=sizeLine/\∀p,H p=none->Q (.ref p) (upd H p (.lst (xs++zs)))
def aA :OpR X (binaryOp .Add) zG7:=by
 intro pins s σ H x y v u Q I m p h;obtain⟨l,b,xs,zs,rfl,rfl,k,i,f,q⟩:=h;cases m;cases p;obtain⟨z,c,n,r,t,e⟩:=I.lstM k;obtain⟨z2,a,n2,o,d,j⟩:=I.lstM i;refine PySem.P.add_list e j ?_ (by rw[zK4,zK4];exact zy1 f t d);have g:c.toArray++a.toArray=(c++a).toArray:=by simp
 rw[g];exact⟨.ref _,_,I.lnew (r.append o) (by rw[zI1];exact f),rfl,q _ I.fresh⟩
def zE2 :R2:=λx y H Q=>∃l k xs,x=.ref l/\y=.int k/\H l=some (.lst xs)/\-(2 ^ 63)<=k/\k<2 ^ 63/\xs.length*k.toNat<=sizeLine/\
 ∀p,H p=none->Q (.ref p) (upd H p (.lst (List.replicate k.toNat xs).flatten))
theorem len_rep {L:Type}(xs:List L)(k:Nat):(List.replicate k xs).flatten.length=k*xs.length:=by
 induction k with
 |zero=>simp
 |succ k a=>rw[zO8,zQ2,zI1,a,Nat.succ_mul,Nat.add_comm]
def zo2 :OpR X (binaryOp .Mult) zE2:=by
 intro pins s σ H x y v u Q I p D h;obtain⟨l,k,xs,rfl,rfl,C,B,A,o,q⟩:=h;cases p;obtain⟨t,rfl⟩:=D;obtain⟨z,b,n,r,w,e⟩:=I.lstM C;have hlen:b.toArray.size*k.toNat<=sizeLine:=by rw[zK4,<-w];exact o
 have g:¬b.toArray.size*k.toNat > (2 ^ 63-1) / 8:=by
  have:(sizeLine:Nat)<=(2 ^ 63-1) / 8:=by decide
  exact Nat.not_lt_of_le (zJ1 hlen this)
 have d:¬(!Builtin.List.listFitsIndex k)=true:=by
  rw[fitsIndex_both B A];exact zJ0
 have c:¬Builtin.List.listTooLong (b.toArray.size*k.toNat)=true:=by
  rw[ak hlen];exact zJ0
 have f:List.foldl (λj i=>j++i) #[] (List.replicate (if b.toArray.isEmpty=true then 0 else k.toNat) b.toArray)=(List.replicate k.toNat b).flatten.toArray:=by
  have f0:∀m:Nat,List.foldl (λj i=>j++i) #[] (List.replicate m b.toArray)=(List.replicate m b).flatten.toArray:=λm=>by
   have:=foldl_rep b m [];rw[List.nil_append]at this;exact this
  rw[f0];cases b with
  |nil=>simp
  |cons a E=>rw[if_neg (by simp)]
 refine wpAny_binaryOp_repeat_ref (T:="list") (U:="int") (by decide) ⟨_,e,rfl⟩ (λs'=>typeIs_int s' k t) noFill_list_mul F.fills_int_mul F.slot_int_rmul repeat_list F.slot_int_index.lookup
  (zT9 F.slot_int_rmul (typeIs_int s k t) F.entry_int_rmul (F.args_int_rmul_2 _ _) (int___rmul___int_list k t l b.toArray n)
   ⟨e,rfl,⟨_,e,rfl⟩,zT9 F.slot_list_mul ⟨_,e,rfl⟩ F.entry_list_mul (F.args_list_mul_2 _ _) (AutoListH.list___mul___list_int_3 l b.toArray n k t d g c) ⟨e,?_⟩⟩)
 rw[f];exact⟨.ref _,_,I.lnew (t':=s.toks) (r.rep k.toNat) (by rw[len_rep,Nat.mul_comm];exact o),rfl,q _ I.fresh⟩
end
section
variable {prog:Ah}{w:Ak}{A:Ap}{E:Ac->Af->Prop}{s:Af}
end
section
variable {X:Cx}
end
end L2
namespace Att
open PySem PySem.W PySem.Calls PyProof.Rows
theorem sD {P:Params}{h:Ao}:∀(ns:List Int) (vs:List Ac),WellAll P h vs (ns.map WData.int)->IntsAre vs ns:=by
 intro ns
 induction ns with
 |nil=>
  intro vs w;rw[zV2]at w;cases w;exact .nil
 |cons n ns c=>
  intro vs w;rw[zL7]at w;cases w with
  |cons a b=>
   cases a;exact .cons _ _ (c _ b)
theorem eN {l:OpenLaw}{n:Nat}(hn:l.most=some n){P:Params}{h:Ao}{args:List WData}{vals:List Ac}
  (b:l.row.toRowW.claim.pre args=true) (g:WellAll P h vals args):
  ∃a vs ns,vals=[Value.ref a]/\args=[WData.list (ns.map WData.int)]/\h.get? a=some {cls:=.type "list",data:=.seq vs.toArray}/\IntsAre vs ns/\ns.length<=n:=by
 have i:l.pre.holds [] {args:=args}=true:=(pre_splitW b).2;obtain⟨d,r,rfl,k,j⟩:=hasAllW_cons ((pre_splitW b).1);obtain rfl:=hasAllW_nil j;obtain⟨xs,rfl,m⟩:=hasW_list k;obtain⟨ns,rfl⟩:=items_int m;have hlen:ns.length<=n:=by
  unfold OpenLaw.pre at i;have e:(WTm.not (.lt (.lit (.int n)) (.len (.arg 0)))).holds [] {args:=[.list (ns.map .int)]}=true:=by
   have e:=(holds_andW i).1;rw[hn]at e;exact e
  have f:=condW_of e (w_not (w_lt w_lit (w_len_list (w_arg rfl))));rw[zH8]at f;refine zQ7 λq=>?_
  first
   |(rw[zQ8 ((Int.ofNat_lt.2 q))]at f;exact absurd f (by decide))
   |(simp at f;omega)
 cases g with
 |cons w1 w2=>
  cases w2;cases w1 with
  |list o c=>exact⟨_,_,ns,rfl,rfl,o,sD ns _ c,hlen⟩
def dz (l:OpenLaw)(args:List WData):l.row.toRowW.claim.post args (.bool true) args=true:=
 postW_of
  (show WShape.has [] (.bool true) .bool=true by first|rfl|decide|simp[WShape.has,WShape.arms,WShape.armsAll])
  (w_eq_bool (w_res rfl) w_lit) rfl
def attach_call {l:OpenLaw}{n:Nat}{q:Ah}{loose:List Str}{s:(Str->Option Ac)->Ao->Prop}{m:Ak->Ao->Prop}{d:DefRec}
  (hn:l.most=some n) (h:d.params.defaults=[])
  (call:∀(w:Ak) (s₀ s₁:Af) (mg mb:Str->Option Ac) (b:Ab) (o:Obj) (pm cd doc:Ac) (a:Ab) (vs:List Ac) (ns:List Int),
   Ground q loose [] s w s₀ mg mb s₁.heap->m w s₁.heap->
   s₁.heap.get? b=some o->o.data=.func (docDef d.name d.params d.body d.scope pm cd doc)->s₁.heap.CodeRec cd d.name->mg d.name=some (.ref b)->
   s₁.heap.get? a=some {cls:=.type "list",data:=.seq vs.toArray}->IntsAre vs ns->ns.length<=n->s₁.gens=#[]->
   codeAny (Am l.prog w) callerA (.call (.ref b) ⟨[.ref a],[]⟩) (λr s'=>r=.ok (.ret (.bool true))/\OldK s₁.heap s'.heap/\s'.os=s₁.os/\AllBare s'.gens) s₁):
  WalkO q loose s m l.row.toRowW d [] (λf vs=>PySem.call f vs):=by
 intro w s₀ s₁ mg mb G Y b o pm cd doc dV kV u hd g p j B args vals as c k z i t;obtain rfl:dV=.none:=Dflts.none p h;obtain rfl:kV=.none:=Dflts.noKw p;obtain⟨a,vs,ns,rfl,rfl,e,hints,hlen⟩:=eN hn c i;refine enter_call (zP9 (call w s₀ s₁ mg mb b o pm cd doc a vs ns G Y u (fd_plain hd) g j e hints hlen B) λr s' y=>?_);obtain⟨rfl,x,A,v⟩:=y;exact⟨.inl ⟨.bool true,.bool true,[],rfl,λ_=>rfl,.bool true,dz l _,λ_=>⟨List.Pairwise.nil,λ_ hm=>(nomatch hm)⟩⟩,x,A,v⟩
section
variable {prog:Ah}{w:Ak}{A:Ap}{E:Ac->Af->Prop}{s:Af}{K:Frag}
end
end Att
namespace L2
open PySem PySem.Spec PyProof.Rows
theorem dA {vs:List Ac}{ns:List Int}(h:IntsAre vs ns):Vals (ns.map V.int) vs:=by
 induction h with
 |nil=>exact .nil
 |cons n t _ a=>exact .cons ⟨t,rfl⟩ a
def zr0 (H:Hp):Prop:=∀b,H b=none\/∃o xs,H b=some (.frz o (.lst xs))
theorem aZ {P:Ah}{w:Ak}{K:Ae}{mg mb:Str->Option Ac}{CX:CXT}{k:Nat}{I a:Ab}{fd:Ag}{x:Str}{sp:Sp}{s₁:Af}{vs:List Ac}{ns:List Int}
  (KX:K.In s₁.heap) (A:s₁.heap.Ns Aj mg) (f:s₁.heap.Ns builtinsNs mb) (E:∀x:Str,x≠"__name__"->mb x=bootBuiltins x) (B:s₁.heap.NoLimit) (Y:s₁.gens=#[])
  (ha:s₁.heap.get? a=some {cls:=.type "list",data:=.seq vs.toArray}) (hi:IntsAre vs ns) (N:ns.length<=sizeLine) (hr:zO k callerA)
  (F:∀base:Ao,K.In base->base.Ns Aj mg->zG P w K mg base CX k I fd [x] sp) (i:∀(s:Af) (u:Ac),BindsTo s fd ⟨[u],[]⟩ [(x,u)])
  (L:∀H:Hp,zr0 H->SqL K H a (ns.map V.int)->sp [.ref a] H (λv _=>v=.bl true) λ_ _ _=>False)
  (G:∀H e s',CX [] H s₁ (λ_ _ _=>False) e s'->False):
  codeAny (Am P w) callerA (.call (.ref I) ⟨[.ref a],[]⟩) (λr s'=>r=.ok (.ret (.bool true))/\OldK s₁.heap s'.heap/\s'.os=s₁.os/\AllBare s'.gens) s₁:=by
 have Q:=dA hi;have j:=hi.length
 -- from an abstract heap in which nothing but the script may be tracked
 have core:∀H:Hp,zr0 H->SqL K H a (ns.map V.int)->HOk P w H s₁.heap->(∀b,H b≠none->b=a)->(H a≠none->K.lookup a=none)->
   codeAny (Am P w) callerA (.call (.ref I) ⟨[.ref a],[]⟩) (λr s'=>r=.ok (.ret (.bool true))/\OldK s₁.heap s'.heap/\s'.os=s₁.os/\AllBare s'.gens) s₁:=by
  intro H R Z hok O X;have c:∀{b:Ab} {o:Obj},s₁.heap.get? b=some o->H b=none->(pG s₁.heap H).get? b=some o:=λe n=>zc0 e n;have J:∀{b:Ab} {o:Obj} {p:Array DictEntry} {C:Nat},s₁.heap.get? b=some o->o.data=.dict p C->H b=none:=λ{b o p C} e d=>by
   cases q:H b with
   |none=>rfl
   |some u=>
    have M:b=a:=O b (by rw[q];simp);subst M;rw[ha]at e;cases e;have d':Data.seq vs.toArray _=Data.dict p C:=d;cases d'
  have g:∀{b:Ab} {m:Str->Option Ac},s₁.heap.Ns b m->(pG s₁.heap H).Ns b m:=λ{b m} y=>by obtain⟨o,p,C,e,d,r⟩:=y;exact⟨o,p,C,c e (J e d),d,r⟩
  have l:K.In (pG s₁.heap H):=λb o e=>c (KX b o e) (by
   cases q:H b with
   |none=>rfl
   |some u=>
    have M:b=a:=O b (by rw[q];simp);subst M;rw[X (by rw[q];simp)]at e;cases e)
  have U:Mod K mg (pG s₁.heap H):=⟨l,g A,⟨mb,g f,E⟩,let⟨mc,h1,h2⟩:=B;⟨mc,g h1,h2⟩⟩;have T:iq P w K mg (pG s₁.heap H) callerA [] s₁ H:=⟨rfl,U,λb o e=>zk5 e,zK7 (dC _ _),trivial,λb f=>absurd (show b∈([]:List Ab)from f) (by simp),hok,.of_eq Y⟩;refine zP9 ((F _ l (g A)).run callerA [] s₁ H ⟨[.ref a],[]⟩ [.ref a] [.ref a] _ _ hr T (i s₁ (.ref a)) (.cons rfl .nil) (L H R Z)) λr s' h=>?_;cases r with
  |error e=>exact(G H e s' h).elim
  |ok fl=>
   cases fl with
   |next=>exact False.elim h
   |brk=>exact False.elim h
   |cont=>exact False.elim h
   |ret u=>
    obtain⟨v,H',os,bare,un,t,r',q⟩:=h;have q':v=.bl true:=q;subst q';obtain rfl:u=Value.bool true:=r';refine⟨rfl,OldK.of_keep λb o e=>?_,os,bare⟩;cases q:H b with
    |none=>exact un.keep b o e q (by intro z;exact absurd (show b∈([]:List Ab)from z) (by simp)) (by simp)
    |some u=>
     rcases R b with z|⟨ob,xs,z⟩
     .rw[q]at z;cases z
     .have z2:=un.frzs b ob _ z;obtain⟨S,_⟩:=hok b _ z;obtain⟨e2,_⟩:=t b _ z2;rw[e]at S;cases S;exact e2
 cases hk:K.lookup a with
 |some o=>
  -- the script is one of the module's own objects
  have e:=KX a o hk;rw[ha]at e;cases e;refine core (λ_=>none) (λ_=>.inl rfl) (.inr ⟨_,vs.toArray,_,hk,rfl,rfl,rfl,by rw[zK4,j];exact N,by simpa using Q⟩) (λb u z=>by have D:(none:Option HO)=some u:=z;cases D) (λb z=>absurd rfl z) λz=>absurd rfl z
 |none=>
  refine core (λb=>if b=a then some (.frz {cls:=.type "list",data:=.seq vs.toArray} (.lst (ns.map V.int)))else none) (λb=>?_) (.inl (.inr ⟨{cls:=.type "list",data:=.seq vs.toArray},if_pos rfl⟩)) (λb u z=>?_) (λb z=>?_) λ_=>hk
  .by_cases f:b=a
   .exact .inr ⟨_,_,if_pos f⟩
   .exact .inl (if_neg f)
  .by_cases f:b=a
   .have D:=(if_pos f).symm.trans z;cases D;subst f;exact⟨ha,by rw[zH8];exact N,vs,_,Q,ha⟩
   .have D:=(if_neg f).symm.trans z;cases D
  .by_cases f:b=a
   .exact f
   .exact absurd (if_neg f) z
def zf5 {l:PySem.W.OpenLaw}{n k:Nat}{q:Ah}{loose:List Str}{I:(Str->Option Ac)->Ao->Prop}{y:Ak->Ao->Prop}{d:DefRec}{K:Params->Ae}{CX:Ak->CXT}{sp:Ak->Sp}{x:Str}
  (hn:l.most=some n) (j:n<=sizeLine) (r:d.params.defaults=[]) (hr:zO k callerA)
  (D:∀(w:Ak) (h:Ao),y w h->(K w.params).In h)
  (F:∀(w:Ak) (mg:Str->Option Ac) (i:Ab) (h:Ao),(K w.params).In h->h.Ns Aj mg->mg d.name=some (.ref i)->
   ∃fd:Ag,(∀(s:Af) (u:Ac),BindsTo s fd ⟨[u],[]⟩ [(x,u)])/\
    ∀base:Ao,(K w.params).In base->base.Ns Aj mg->zG l.prog w (K w.params) mg base (CX w) k i fd [x] (sp w))
  (p:∀(w:Ak) (H:Hp) (a:Ab) (ns:List Int),ns.length<=n->zr0 H->SqL (K w.params) H a (ns.map V.int)->sp w [.ref a] H (λv _=>v=.bl true) λ_ _ _=>False)
  (m:∀(w:Ak) (H:Hp) (s:Af) (e:Ac) (s':Af),CX w [] H s (λ_ _ _=>False) e s'->False):
  PySem.W.WalkO q loose I y l.row.toRowW d [] (λf vs=>PySem.call f vs):=by
 refine Att.attach_call hn r λw s₀ s₁ mg mb i o pm cd doc a vs ns G Y J hd A t c hints hlen E=>?_;have KX:=D w _ Y;obtain⟨fd,C,hF⟩:=F w mg i _ KX G.T.g t;exact aZ KX G.T.g G.T.b G.T.builtins G.T.nolimit E c hints (zJ1 hlen j) hr hF C (λH B z=>p w H a ns hlen B z) λH e s'=>m w H s₁ e s'
def inClass (s:An)(j:Nat):An:=match s with
 |.ClassDef _ _ _ body _ _ _ _ _ _ _=>body.getD j (.Pass ⟨0,0,0,0⟩)
 |_=>.Pass ⟨0,0,0,0⟩
def yB (s:An):Arguments:=match s with
 |.FunctionDef _ a _ _ _ _ _ _ _ _=>a
 |_=>{posonlyargs:=[],args:=[],vararg:=none,kwonlyargs:=[],kw_defaults:=[],kwarg:=none,defaults:=[]}
def zJ (s:An):List An:=match s with
 |.FunctionDef _ _ b _ _ _ _ _ _ _=>b
 |_=>[]
def zd (s:An):Aq:=match s with
 |.FunctionDef _ _ _ _ _ _ sc _ _ _=>sc
 |_=>{kind:=.function,names:=[],isGenerator:=false,isCoroutine:=false}
abbrev CX0 :CXT:=λ_ _ _ _ _ _=>False
abbrev E0 :XK:=λ_ _ _=>False
def zX {X:Cx}:Passes CX0 X E0:=λ_ _ _ _ _ _ _ h=>h.elim
structure Fun (K:Ae)(x qual:Str)(st:An)(f:Ab)(fd:Ag):Prop where
 ex:∃(oc:Ac) (od:Option Ab) (kV doc pm:Ac) (an:Option Ab) (cdv ct:Ac) (osl:Array (Option Ac)),
  fd=PySem.W.fnOf x qual (yB st) (zJ st) (zd st) .none kV doc pm an cdv ct/\K.lookup f=some ⟨oc,od,.func fd,osl⟩/\PySem.W.codeIn K cdv qual=true
 kp:PySem.W.keepIn K (.ref f)=true
section
variable {P:Ah}{w:Ak}{K:Ae}{mg:Str->Option Ac}{base:Ao}
def Fun.ok {x qual:Str}{st:An}{f:Ab}{fd:Ag}{N ps:List Str}{k:Nat}{sp:Sp}(F:Fun K x qual st f fd)(S:zo N ps (zd st))(len:∀vs H Q E,sp vs H Q E->vs.length=ps.length)
  (a:∀(cdv:Ac) (A:Ap) (outer:List Ar) (s:Af) (H:Hp) (vs:List V) (Q:VK) (E:XK),zO k (A.deeper (envOfC qual (zd st) s.heap.objs.size f cdv))->sp vs H Q E->
   ∃t,PSs (xi CX0 P w K mg base N qual (zd st) f cdv A outer s H E).nox (zJ st) t/\t {nx:=λ_ H'=>Q .non H',rt:=Q} (start N vs) H):zG P w K mg base CX0 (k+1) f fd ps sp:=by
 obtain⟨oc,od,kV,doc,pm,an,cdv,ct,osl,rfl,d,c⟩:=F.ex;refine iN d c S len λA outer s H vs Q E hr b=>?_;obtain⟨t,h,q⟩:=a cdv A outer s H vs Q E hr b;exact⟨t,h.nox,q⟩
def Fun.binds {x qual:Str}{st:An}{f:Ab}{fd:Ag}{ps:List Str}(F:Fun K x qual st f fd)
  (h:∀(kV doc pm:Ac) (an:Option Ab) (cdv ct:Ac) (us:List Ac),us.length=ps.length->bindArgs (PySem.W.fnOf x qual (yB st) (zJ st) (zd st) .none kV doc pm an cdv ct) ⟨us,[]⟩=pure (ps.zip us)):Binds K fd ps []:=by
 obtain⟨oc,od,kV,doc,pm,an,cdv,ct,osl,rfl,b,a⟩:=F.ex;exact .all (h kV doc pm an cdv ct)
def za8 {x qual:Str}{st:An}{f:Ab}{oc:Ac}{od an:Option Ab}{osl:Array (Option Ac)}{kV doc pm cdv ct:Ac}(l:K.lookup f=some ⟨oc,od,.func (PySem.W.fnOf x qual (yB st) (zJ st) (zd st) .none kV doc pm an cdv ct),osl⟩)
  (c:PySem.W.codeIn K cdv qual=true) (k:PySem.W.keepIn K (.ref f)=true):Fun K x qual st f (PySem.W.fnOf x qual (yB st) (zJ st) (zd st) .none kV doc pm an cdv ct):=⟨⟨oc,od,kV,doc,pm,an,cdv,ct,osl,rfl,l,c⟩,k⟩
end
def yx {n:Nat}(h:n<=1000):n<sizeLine:=zN4 h (by decide)
section
variable {X:Cx}
def pv (i:Nat){x:Str}{pos:Pos}(c:X.N[i]?=some x:=by rfl)(b:Vis X.env.scope x:=by first|exact Or.inl rfl|exact Or.inr (Or.inl rfl)|exact Or.inr (Or.inr rfl))(hd:(x == ("__debug__":Str))=false:=by decide)
  (a:(x == ("__classdict__":Str))=false:=by decide):PE X (.Name x pos) (zC4 i):=zT c b hd a
end
def vR {A B:Prop}(h:B):if false=true then A else B:=by
 rw[if_neg zJ0];exact h
def uv {A B:Prop}(h:A):if true=true then A else B:=by
 rw[if_pos rfl];exact h
def yX {c A B:Prop}[Decidable c](b:c->A)(a:¬c->B):if c then A else B:=by
 by_cases h:c
 .rw[if_pos h];exact b h
 .rw[if_neg h];exact a h
def zu (H H':Hp):Prop:=∀b o,H b=some o->H' b=some o
def zu.refl (H:Hp):zu H H:=λ_ _ h=>h
def zu.trans {H H1 d:Hp}(a:zu H H1)(b:zu H1 d):zu H d:=λc o h=>b c o (a c o h)
theorem zu.free {H H':Hp}(e:zu H H'){l:Ab}(h:H' l=Option.none):H l=Option.none:=by
 cases q:H l with
 |none=>rfl
 |some o=>
  rw[e l o q]at h;cases h
def vL (cells:List (Str×Ab)):List (Str×NameKind)->List (Str×Ab)->List (Str×Ab)
 |[],acc=>acc
 |(n,k)::r,acc=>vL cells r (if k=.free then(n,(cells.lookup n).getD 0)::acc else acc)
def uy {env:Ar}{scope:Aq}(h:∀y∈scope.names,y.2=.free->∃c,env.cells.lookup y.1=some c):
  closureFor scope env=pure (vL env.cells scope.names []):=by
 have key:∀ns acc,(∀y∈ns,y.2=.free->∃c,env.cells.lookup y.1=some c)->
   (forIn ns acc λx r=>(if(x.2 == NameKind.free)=true then(do let a <-cellOf env x.1;pure (ForInStep.yield ((x.1,a)::r)))else pure (ForInStep.yield r):Sem (ForInStep (List (Str×Ab)))))=pure (vL env.cells ns acc):=by
  intro ns
  induction ns with
  |nil=>intro acc _;rfl
  |cons y r f=>
   intro acc e;obtain⟨n,k⟩:=y;rw[List.forIn_cons];have hr:∀z∈r,z.2=.free->∃c,env.cells.lookup z.1=some c:=λz g=>e z (zI6 _ g);by_cases hk:k=.free
   .subst hk;obtain⟨c,d⟩:=e (n,.free) zK2 rfl;have i:cellOf env n=pure c:=by
     unfold cellOf;rw[d]
    have b:((NameKind.free == NameKind.free)=true):=rfl;simp only[b,if_true,i,pure_bind];rw[f _ hr];show _=pure (vL env.cells r (if NameKind.free=NameKind.free then(n,(env.cells.lookup n).getD 0)::acc else acc));rw[if_pos rfl,d];rfl
   .have b:(k == NameKind.free)=false:=by simpa using hk
    simp only[b,zW6,if_false,pure_bind];rw[f _ hr];show _=pure (vL env.cells r (if k=NameKind.free then(n,(env.cells.lookup n).getD 0)::acc else acc));rw[if_neg hk]
 have q:=key scope.names [] h;unfold closureFor;simp only[]at q ⊢;rw[show(forIn scope.names ([]:List (Str×Ab)) λx r=>_)=_ from q];rfl
theorem nP {cells:List (Str×Ab)}:∀(ns:List (Str×NameKind)) (acc:List (Str×Ab)),(∀y∈ns,y.2=.free->∃c,cells.lookup y.1=some c)->
  ∀x c,(x,c)∈vL cells ns acc->(x,c)∈acc\/((x,NameKind.free)∈ns/\cells.lookup x=some c)
 |[],acc,_,x,c,h=>.inl h
 |(n,k)::r,acc,hy,x,c,h=>by
  have hr:∀z∈r,z.2=.free->∃c,cells.lookup z.1=some c:=λz g=>hy z (zI6 _ g);have h':=h;rcases nP r _ hr x c h' with q|⟨l,j⟩
  .by_cases hk:k=.free
   .rw[if_pos hk]at q;rcases zI8.mp q with e|q
    .obtain⟨m,d⟩:=hy (n,k) zK2 hk;have i:=congrArg Prod.fst e;have b:=congrArg Prod.snd e;have a:=d;rw[a]at b;have f:=b;subst i f hk;exact .inr ⟨zK2,a⟩
    .exact .inl q
   .rw[if_neg hk]at q;exact .inl q
  .exact .inr ⟨zI6 _ l,j⟩
theorem mC {cells:List (Str×Ab)}:∀(ns:List (Str×NameKind)) (acc:List (Str×Ab)) (p:Str×Ab),p∈acc->p∈vL cells ns acc
 |[],_,_,h=>h
 |(n,k)::r,acc,p,h=>by
  show p∈vL cells r (if k=.free then(n,(cells.lookup n).getD 0)::acc else acc);refine mC r _ p ?_;split
  .exact zI6 _ h
  .exact h
theorem lQ {cells:List (Str×Ab)}:∀(ns:List (Str×NameKind)) (acc:List (Str×Ab)) (x:Str),(x,NameKind.free)∈ns->∃c,(x,c)∈vL cells ns acc
 |[],_,_,h=>by simp at h
 |(n,k)::r,acc,x,h=>by
  show ∃c,(x,c)∈vL cells r (if k=.free then(n,(cells.lookup n).getD 0)::acc else acc);rcases zI8.mp h with e|h
  .have b:x=n:=congrArg Prod.fst e;have a:=congrArg Prod.snd e;subst b a;rw[if_pos rfl];exact⟨_,mC r _ _ zK2⟩
  .exact lQ r _ x h
theorem mem_lookup {x:Str}{c:Ab}:∀{l:List (Str×Ab)},(x,c)∈l->∃d,l.lookup x=some d
 |[],h=>by simp at h
 |(n,a)::r,h=>by
  rw[zL1];cases e:x == n with
  |true=>exact⟨a,rfl⟩
  |false=>
   rcases zI8.mp h with q|q
   .have b:x=n:=congrArg Prod.fst q;rw[b]at e;simp at e
   .exact mem_lookup q
structure yk (XN:List Str)(xs:Aq)(N:List Str)(imp:List (Option Nat))(scope:Aq):Prop where
 kind:scope.kind=.function
 nd:N.Nodup
 nocell:∀y∈scope.names,y.2≠.cell
 locs:∀y∈scope.names,y.2=.local->scope.names.lookup y.1=some .local
 frees:∀y∈scope.names,y.2=.free->xs.names.lookup y.1=some .cell\/xs.names.lookup y.1=some .free
 len:imp.length=N.length
 impsB:((imp.zip N).all λp=>match p.1 with|none=>true|some j=>XN[j]? == some p.2&&scope.names.lookup p.2 == some .free)=true
def yk.imps {XN N:List Str}{xs scope:Aq}{imp:List (Option Nat)}(S:yk XN xs N imp scope):∀(i j:Nat),imp[i]?=some (some j)->∃x,N[i]?=some x/\XN[j]?=some x/\scope.names.lookup x=some .free:=by
 intro i j h;have hn:i<N.length:=by rw[<-S.len];exact((zH9.mp h).1)
 have b:=zI5 hn;have hm:(some j,N[i])∈imp.zip N:=by
  have c:(imp.zip N)[i]?=some (some j,N[i]):=by
   rw[List.getElem?_zip_eq_some];exact⟨h,b⟩
  exact zM6 c
 have a:=(zP4.mp S.impsB _ hm);rw[zL0]at a;exact⟨N[i],b,eq_of_beq a.1,eq_of_beq a.2⟩
def yN (imp:List (Option Nat))(σ:St):St:=imp.map λo=>o.bind λj=>(σ[j]?).bind id
theorem eS {imp:List (Option Nat)}{σ:St}{i:Nat}{v:V}(h:(yN imp σ)[i]?=some (some v)):∃j,imp[i]?=some (some j)/\σ[j]?=some (some v):=by
 unfold yN at h;rw[zJ8]at h;cases e:imp[i]? with
 |none=>rw[e]at h;cases h
 |some o=>
  rw[e]at h;have h':=zL2 h;cases o with
  |none=>cases h'
  |some j=>
   have a:(σ[j]?).bind id=some v:=h';cases e2:σ[j]? with
   |none=>rw[e2]at a;cases a
   |some w=>
    rw[e2]at a;have b:w=some v:=a;exact⟨j,rfl,by rw[e2,b]⟩
def Cx.comp (X:Cx)(N:List Str)(scope:Aq)(C:Ab)(s2:Af)(a:Hp)(fp:List Ab):Cx where
 prog:=X.prog
 w:=X.w
 K:=X.K
 mg:=X.mg
 base:=X.base
 A:=X.A
 N:=N
 s₀:=s2
 H₀:=a
 env:=compEnvC scope (vL X.env.cells scope.names []) C X.env
 outer:=X.stack
 stack:=X.stack
 ex:=fp
 fn:=λ_=>false
 calm:=X.calm
 pn:=[]
 xe:=λ_ _=>False
theorem tq {env:Ar}:∀{names:List (Str×NameKind)}{x:Str},
  (names.map λ(n,k)=>if(k == NameKind.free&&env.scope.kind == .function&&env.kindOf n == some .cell)then(n,NameKind.cell)else(n,k)).lookup x=some .cell\/
  (names.map λ(n,k)=>if(k == NameKind.free&&env.scope.kind == .function&&env.kindOf n == some .cell)then(n,NameKind.cell)else(n,k)).lookup x=some .free->
  (∀y∈names,y.2≠.cell)->(x,NameKind.free)∈names
 |[],x,h,_=>by simp at h
 |(n,k)::r,x,h,hc=>by
  have g:=@tq env r x;rw[zL7]at h;dsimp only at h;by_cases d:x=n
  .subst d;by_cases hk:k=.free
   .subst hk;exact zK2
   .have c:(k == NameKind.free)=false:=by simpa using hk
    simp only[c,zQ5,zW6,if_false,zL1,beq_self_eq_true,if_true]at h;rcases h with h|h
    .have e:=zL2 h;exact absurd e (hc (x,k) zK2)
    .have e:=zL2 h;exact absurd e hk
  .have a:(x == n)=false:=by simpa using d
   have step:∀b l,List.lookup x ((if b=true then(n,NameKind.cell)else(n,k))::l)=l.lookup x:=λb l=>by
    cases b<;>simp[zL1,a]
   rw[step]at h;exact zI6 _ (g h λy f=>hc y (zI6 _ f))
theorem sk {env:Ar}:∀{names:List (Str×NameKind)}{x:Str},names.lookup x=some .free->
  (names.map λ(n,k)=>if(k == NameKind.free&&env.scope.kind == .function&&env.kindOf n == some .cell)then(n,NameKind.cell)else(n,k)).lookup x=some .cell\/
  (names.map λ(n,k)=>if(k == NameKind.free&&env.scope.kind == .function&&env.kindOf n == some .cell)then(n,NameKind.cell)else(n,k)).lookup x=some .free
 |[],x,h=>by simp at h
 |(n,k)::r,x,h=>by
  have c:=@sk env r x;rw[zL7];dsimp only;rw[zL1]at h;cases hx:x == n with
  |true=>
   rw[hx]at h;have e:=zL2 h;subst e;by_cases a:(NameKind.free == NameKind.free&&env.scope.kind == .function&&env.kindOf n == some .cell)=true
   .left;rw[if_pos a];simp[zL1,hx]
   .right;rw[if_neg a];simp[zL1,hx]
  |false=>
   rw[hx]at h;have step:∀b l,List.lookup x ((if b=true then(n,NameKind.cell)else(n,k))::l)=l.lookup x:=λb l=>by
    cases b<;>simp[zL1,hx]
   rw[step];exact c h
section
variable {X:Cx}{pins:List (Ab×Obj)}{σ:St}{H2 H':Hp}{s2 s':Af}{fp:List Ab}{N:List Str}{imp:List (Option Nat)}{scope:Aq}{C acc:Ab}
def uM (I:Inv X pins σ H2 s2)(S:yk X.N X.env.scope N imp scope):∀y∈scope.names,y.2=.free->∃c,X.env.cells.lookup y.1=some c:=λy a hk=>I.ok.has y.1 (S.frees y a hk)
def wc (I:Inv X pins σ H2 s2)(S:yk X.N X.env.scope N imp scope){x:Str}{c:Ab}(h:(vL X.env.cells scope.names []).lookup x=some c):(x,NameKind.free)∈scope.names/\X.env.cells.lookup x=some c:=by
 rcases nP scope.names [] (uM I S) x c (zO7 h)with q|q
 .exact absurd q (by simp)
 .exact q
def uZ (I:Inv X pins σ H2 s2)(S:yk X.N X.env.scope N imp scope){x:Str}(h:(x,NameKind.free)∈scope.names):∃c,(vL X.env.cells scope.names []).lookup x=some c:=by
 obtain⟨c,a⟩:=lQ scope.names [] x h;exact mem_lookup a
def lK {g:Ao}{P:Nat}{m:Str->Option Ac}{J:Nat}(I:Inv X pins σ H2 s2)(S:yk X.N X.env.scope N imp scope)(hf:∀b∈fp,uu X pins H2 b)(R:∀b∈fp,∃o,s2.heap.get? b=some o)
  (a:acc=s2.heap.objs.size) (t:C=s2.heap.objs.size+1) (old:∀b o,s2.heap.get? b=some o->g.get? b=some o) (hn:g.Ns C m)
  (V:g.get? acc=some {cls:=.type "list",data:=.seq ([]:List Ac).toArray J}):
  Inv (X.comp N scope C s2 H2 fp) [] (yN imp σ) (upd H2 acc (.lst [])) {s2 with heap:=g,toks:=P}:=by
 have M:H2 acc=none:=I.hok.fresh (by rw[a];exact zI3 _);have G:C≠acc:=by rw[t,a];exact Nat.succ_ne_self _
 have A:∀x c,X.env.cells.lookup x=some c->c<s2.heap.objs.size:=λx c e=>by
  obtain⟨v,q⟩:=I.cell x c e;exact q.lt
 refine⟨⟨I.ok.mod,S.kind,I.ok.glob,I.ok.blt,?above,?inj,?has,?cab,I.ok.hd,I.ok.frames,.inl rfl,?exf,λb o e=>I.bs b o e,zJ1 I.ok.bsz I.sz,?noex,?exfs,I.stack,I.stkFree⟩,
  rfl,I.bare,Un.laid old (by rw[a];exact zI3 _) M,⟨m,hn,?loc⟩,?cell,?free,?freeC,λp hp=>absurd (show p∈([]:List (Ab×Obj))from hp) (by simp),I.hok.laid old (by rw[a];exact zI3 _) ⟨zK6 _,[],J,.nil,V⟩,?len⟩
 case above=>show s2.heap.objs.size<=C;rw[t];exact zP7 _
 case inj=>exact λx y c g W=>I.ok.inj x y c (wc I S g).2 (wc I S W).2
 case has=>exact λx O=>uZ I S (tq O S.nocell)
 case cab=>exact λx c h _=>absurd h (by show ¬(false=true);simp)
 case exf=>
  intro b f;obtain⟨o,w⟩:=R b f;refine⟨?_,λx c e=>(hf b f).2.2.2.2.1 x c (wc I S e).2⟩;rw[t];exact zK8 (zU4 (zI9 w))
 case noex=>
  intro b o e f;rcases(hf b f).2.2.2.1 with z|z
  .exact I.ok.noex b o e z
  .exact absurd (zJ6 (zI9 e) (zJ1 I.ok.bsz z)) (zR8 _)
 case exfs=>
  intro b f T;rcases zI8.mp (I.stkSub b T)with e|e
  .exact(hf b f).2.1 e
  .exact(hf b f).2.2.1 e
 case loc=>
  intro i x v L Q e3;obtain⟨j,U,Z⟩:=eS Q;obtain⟨y,n1,n2,n3⟩:=S.imps i j U;have F:(X.comp N scope C s2 H2 fp).N[i]?=some y:=n1;rw[F]at L;have D:=zL2 L;subst D;have n:=S.frees (y,.free) (zO7 n3) rfl;obtain⟨mX,Y,E⟩:=I.loc;obtain⟨u,r,l⟩:=E j y v n2 Z (.inr n);refine⟨u,r,?_⟩;rcases l with⟨k,_⟩|⟨k,c,e,z⟩
  .have H:X.env.scope.names.lookup y=some .local:=k;rcases n with z|z
   .have s:=z;rw[H]at s;cases s
   .have s:=z;rw[H]at s;cases s
  .obtain⟨d,hd⟩:=uZ I S (zO7 n3);have hd2:=(wc I S hd).2;rw[e]at hd2;have B:=zL2 hd2;subst B;exact .inr ⟨sk n3,c,hd,z.keeps old⟩
 case cell=>
  intro x c e;obtain⟨v,q⟩:=I.cell x c (wc I S e).2;exact⟨v,q.keeps old⟩
 case free=>
  show upd H2 acc _ C=none;rw[zm G];exact I.hok.fresh (by rw[t];exact zP7 _)
 case freeC=>
  intro x c e;have K:=(wc I S e).2;rw[zm (by rw[a];exact zK8 (A x c K))];exact I.freeC x c K
 case len=>
  unfold yN;rw[zH8];exact S.len
def tN {pl:List (Ab×Obj)}{c:St}(I:Inv X pins σ H2 s2)(hf:∀b∈fp,uu X pins H2 b)(J:Inv (X.comp N scope C s2 H2 fp) pl c H' s'):Inv X pins σ H' s':=
 I.call' J.os J.base J.hok J.bare λb a=>⟨(hf b a).2.2.2.1,(hf b a).2.1,(hf b a).2.2.2.2.1,(hf b a).2.2.2.2.2⟩
end
section
variable {prog:Ah}{w:Ak}{A:Ap}{R:Result->Af->Prop}{s:Af}
theorem nJ {elt target iter:Ai}{ifs:List Ai}{scope:Aq}{pos:Pos}{it acc:Ac}{env:Ar}(I:Nat->Af->Prop)
  (turn:∀n s,I n s->Al (Am prog w) A (pyNext it) (λr s1=>match r with
   |none=>R (.ok .next) s1
   |some v=>Al (Am prog w) A (letOwnedTupleGo target it v) (λ_ s2=>Al (Am prog w) A (assign target env v) (λ_ s3=>
     Al (Am prog w) A (forIn ifs true λc r=>if r=true then do let ok <-isTrue c env (eval c env);pure (ForInStep.yield ok)else pure (ForInStep.yield r)) (λok s4=>
      if ok=true then Al (Am prog w) A (eval elt env) (λx s5=>
       Al (Am prog w) A (call (.builtin "list.append") [acc,x]) (λ_ d=>∃m,m<n/\I m d) (λ_ _=>False) s5) (λ_ _=>False) s4
      else ∃m,m<n/\I m s4) (λ_ _=>False) s3) (λ_ _=>False) s2) (λ_ _=>False) s1) (λ_ _=>False) s)
  (n:Nat) (h:I n s):codeAny (Am prog w) A (.compLoop (.ListComp elt [⟨target,iter,ifs,0⟩] scope pos) 0 it acc env) R s:=by
 refine codeAny_loop rfl I (λn s e=>?_) n h;show Al _ A ((compTurn (.ListComp elt [⟨target,iter,ifs,0⟩] scope pos) 0 it acc env).onRaise (λx=>do noteFrame x env;theTreesLotGoes x)) _ _ s;refine wpAny_noted ?_;rw[compTurn_list];refine zI0 (zS6 (zI0 (zK3 (turn n s e) (λr s1 b=>?_) λ_ _ h'=>False.elim h')));cases r with
 |none=>exact zJ3 b
 |some v=>
  refine zI0 (zK3 b (λ_ s2 f=>zI0 (zK3 f (λ_ s3 i=>zI0 (zK3 i (λok s4 a=>?_) λ_ _ h'=>False.elim h')) λ_ _ h'=>False.elim h')) λ_ _ h'=>False.elim h');cases ok with
  |false=>exact zJ3 ⟨rfl,a⟩
  |true=>
   exact zI0 (zI0 (zK3 a (λx s5 j=>zI0 (zK3 j (λ_ d g=>zJ3 (zJ3 ⟨rfl,g⟩)) λ_ _ h'=>False.elim h')) λ_ _ h'=>False.elim h'))
end
def vn (Y:Cx)(ifs:List Ai)(t:TT):Prop:=
 ∀(pins:List (Ab×Obj)) (s:Af) (σ:St) (H:Hp) (Q:Bool->Hp->Prop),Inv Y pins σ H s->t σ H Q->
  Al (Am Y.prog Y.w) Y.A (forIn ifs true λc r=>if r=true then do let ok <-isTrue c Y.env (eval c Y.env);pure (ForInStep.yield ok)else pure (ForInStep.yield r)) (TP Y pins σ Q) Y.xe s
def aW :TT:=λ_ H Q=>Q true H
def sP {Y:Cx}:vn Y [] aW:=λ_ _ _ H _ I h=>wpAny_tests_nil ⟨H,I,h⟩
def zg7 {Y:Cx}{c:Ai}{t:TT}(h:PT Y c t):vn Y [c] t:=λpins s σ H Q I q=>wpAny_tests_one (h pins s σ H Q I q)
def gb (J:It)(acc:Ab)(g:TG)(tt:TT)(o:TE)(f:St)(H0:Hp)(Q:VK):Prop:=
 ∃W:Nat->Nat->List V->St->Hp->Prop,(∃m,W 0 m [] f H0)/\∀i m a h d,W i m a h d->
  (J.stop i d/\Q (.ref acc) d)\/(J.go i d/\∃N:List V->St->Hp->Prop,(∀e b H',N e b H'->∃j,j<m/\W (i+1) j e b H')/\
   ∀x n,J.yld i d x n->g x h n λτ2 p=>tt τ2 p λc k=>
    if c=true then o τ2 k λy l=>l acc=some (.lst a)/\a.length<sizeLine/\N (a++[y]) τ2 (upd l acc (.lst (a++[y])))else N a τ2 k)
def rF (a:TI)(imp:List (Option Nat))(g:TG)(tt:TT)(b:TE):TE:=λσ H Q=>a σ H λJ H1=>∀acc,H1 acc=none->gb J acc g tt b (yN imp σ) (upd H1 acc (.lst [])) Q
section
variable {X:Cx}{pins:List (Ab×Obj)}{σ:St}{elt iter tg:Ai}{ifs:List Ai}{scope:Aq}{pos:Pos}{wi:TI}{g:TG}{tt:TT}{te:TE}{N:List Str}{imp:List (Option Nat)}
def rN {c:Hp}{s2:Af}{it:Ab}{fp:List Ab}{tn:Nat->Ao->Prop}{J:It}{RR:Ac->Ab->Result->Af->Prop}{E:Ac->Af->Prop}{Q:VK}
  (hc:X.calm=true) (S:yk X.N X.env.scope N imp scope) (hg:∀C s2 c fp,PG (X.comp N scope C s2 c fp) tg g) (ht:∀C s2 c fp,vn (X.comp N scope C s2 c fp) ifs tt) (he:∀C s2 c fp,PE (X.comp N scope C s2 c fp) elt te)
  (I2:Inv X pins σ c s2) (T:Turn X.prog X.w X.K tg J fp it tn) (H:tn 0 s2.heap) (f2:∀b∈fp,uu X pins c b)
  (hW:∀acc,c acc=none->gb J acc g tt te (yN imp σ) (upd c acc (.lst [])) Q)
  (a0:∀a C H' s' m,Inv X pins σ H' s'->s'.heap.Ns C m->uu X pins H' C->Q (.ref a) H'->RR (.ref a) C (.ok .next) s'):
  Al (Am X.prog X.w) X.A (newList []) (λacc s3=>Al (Am X.prog X.w) X.A (newFunctionEnv scope X.env.globals (vL X.env.cells scope.names []) [] X.env.qual none .none (some X.env)) (λD s4=>
   codeAny (Am X.prog X.w) X.A (.compStart (.ListComp elt [⟨tg,iter,ifs,0⟩] scope pos) 0 (.ref it) acc {D with scope:=relabel scope X.env}) (RR acc D.locals) s4) E s3) E s2:=by
 refine wpAny_newObj_type (wpAny_newFunctionEnv S.nocell (by intro y hy;simp at hy) (λh1 k j=>?_) S.kind);dsimp only at k j ⊢;generalize I:s2.heap.push {cls:=.type "list",dict:=none,data:=.seq ([]:List Ac).toArray}=HH at k j ⊢;have O:HH.objs.size=s2.heap.objs.size+1:=by rw[<-I,Heap.size_push]
 have U:s2.heap.objs.size≠HH.objs.size:=by rw[O];exact zK8 (zP0 _)
 have old:∀b o,s2.heap.get? b=some o->h1.get? b=some o:=λb o e=>j.extBut b o (by rw[O];exact zK8 (zU4 (zI9 e))) (zI2 _ (I▸zI2 _ e));have P:=j.extBut _ _ U (zI2 _ (I▸zL6 _ rfl));obtain⟨W,⟨m0,w0⟩,turn⟩:=hW s2.heap.objs.size I2.fresh;generalize b5:HH.objs.size=C at k j O U ⊢;have ho:∀b∈fp,∃o,s2.heap.get? b=some o:=λb l=>let⟨o,e,_⟩:=T.obj 0 _ H b l;⟨o,e⟩;generalize f:s2.heap.objs.size=acc at *;have loop:∀s3:Af,s3={s2 with heap:=h1,toks:=s2.toks+([]:List (Str×Ac)).length}->
   codeAny (Am X.prog X.w) X.A (.compLoop (.ListComp elt [⟨tg,iter,ifs,0⟩] scope pos) 0 (.ref it) (.ref acc) (X.comp N scope C s2 c fp).env) (RR (.ref acc) C) s3:=by
  rintro s3 rfl;have I3:Inv (X.comp N scope C s2 c fp) [] (yN imp σ) (upd c acc (.lst [])) {s2 with heap:=h1,toks:=s2.toks+([]:List (Str×Ac)).length}:=
   lK I2 S f2 ho f.symm (by rw[O,f]) old k P
  have a8:∀b∈fp,upd c acc (.lst []) b=none:=λb l=>by
   obtain⟨o,e⟩:=ho b l;rw[zm (by rw[<-f];exact zK8 (zI9 e))];exact(f2 b l).1
  have q:∀{H':Hp},(∀b∈fp,H' b=none)->∀b∈fp,uu (X.comp N scope C s2 c fp) [] H' b:=λhn b l=>by
   obtain⟨e1,e2⟩:=I3.ok.exf b l;exact⟨hn b l,e1,I3.ok.exfs b l,.inl l,e2,λp hp=>absurd (show p∈([]:List (Ab×Obj))from hp) (by simp)⟩
  refine nJ (λn s'=>∃i B s H',Inv (X.comp N scope C s2 c fp) [] s H' s'/\tn i s'.heap/\(∀b∈fp,H' b=none)/\W i n B s H') ?_ m0
   ⟨0,[],_,_,I3,T.keep _ _ _ H λb _ o e=>old b o e,a8,w0⟩
  rintro n s4 ⟨i,B,s,H4,I4,R,M,w4⟩;rcases turn i n B s H4 w4 with⟨stop,qn⟩|⟨go,NN,hN,step⟩
  .refine zK3 (T.done (X.comp N scope C s2 c fp) rfl rfl rfl hc i [] s4 s H4 (λ_ _=>False) I4 (q M) R stop) (λr s5 a7=>?_) λ_ _ z=>z;obtain⟨hr,I5⟩:=a7;subst hr;obtain⟨m5,b4,_⟩:=id I5.loc;exact a0 acc C H4 s5 m5 (tN I2 f2 I5) b4 (I2.fpOk (by rw[O,f];exact zP7 _) I5.free) qn
  .refine zK3 (T.item (X.comp N scope C s2 c fp) rfl rfl rfl hc i [] s4 s H4 (λ_ _=>False) I4 (q M) R go) (λr s5 b2=>?_) λ_ _ z=>z;obtain⟨u,hr,h5⟩:=b2;subst hr;refine zK3 h5 (λ_ s6 b3=>?_) λ_ _ z=>z;obtain⟨x,H6,I6,r6,y6,G,a6⟩:=b3;refine zK3 (hg C s2 c fp _ s6 s H6 x u _ (I6.pinned (q a6) (T.obj _ _ G)) r6 (step x H6 y6)) (λ_ s7 b0=>?_) λ_ _ z=>z;obtain⟨h,H7,I7,q7⟩:=b0;refine zK3 (ht C s2 c fp _ s7 h H7 _ I7 q7) (λok s8 a5=>?_) λ_ _ z=>z;obtain⟨H8,I8,q8⟩:=a5;have again:∀{t:List V} {F:Hp} {L:Af},Inv (X.comp N scope C s2 c fp) ([]++tG fp s6.heap) h F L->NN t h F->∃m,m<n/\∃i B s H',Inv (X.comp N scope C s2 c fp) [] s H' L/\tn i L.heap/\(∀b∈fp,H' b=none)/\W i m B s H':=λ{t F L} Z n9=>by
    obtain⟨m',hm,w9⟩:=hN t h F n9;refine⟨m',hm,i+1,t,h,F,Z.unpinned,T.keep _ _ _ G λb l o e=>(Z.pin (b,o) (zK9 _ (zK9 _ (xm l e)))).1,λb l=>?_,w9⟩;obtain⟨o,e,d⟩:=T.obj _ _ G b l;exact(Z.pin (b,o) (zK9 _ (zK9 _ (xm l e)))).2.1
   cases ok with
   |false=>
    have a4:NN B h H8:=by
     have z:=q8;rw[if_neg zJ0]at z;exact z
    rw[if_neg zJ0];exact again I8 a4
   |true=>
    rw[if_pos rfl]at q8 ⊢;refine zK3 (he C s2 c fp _ s8 h H8 _ I8 q8) (λv L a1=>?_) λ_ _ z=>z;obtain⟨y,F,Z,r9,a9,z9,q9⟩:=a1;refine zK3 (wW (X:=X.comp N scope C s2 c fp) _ L h F (.ref acc) [y] (.ref acc) [v] (λ_ Y=>Y=upd F acc (.lst (B++[y]))) Z rfl (.cons r9 .nil) ⟨acc,B,y,rfl,rfl,a9,z9,rfl⟩) (λ_ b6 a3=>?_) λ_ _ z=>z;obtain⟨_,Y,a2,_,b1⟩:=a3;subst b1;exact again a2 q9
 exact codeAny_compStart_list (loop _ rfl) (T.self X.A 0 _ _ _ (T.keep _ _ _ H λb _ o e=>old b o e) (loop _ rfl))
def ax (z:X.calm=true)(S:yk X.N X.env.scope N imp scope)(hi:PI X tg iter wi)(B:∀C s2 c fp,PG (X.comp N scope C s2 c fp) tg g)(ht:∀C s2 c fp,vn (X.comp N scope C s2 c fp) ifs tt)
  (he:∀C s2 c fp,PE (X.comp N scope C s2 c fp) elt te) (n:∀x,foldedSetIterable iter X.env x=pure x:=by intro _;rfl):
  PE X (.ListComp elt [⟨tg,iter,ifs,0⟩] scope pos) (rF wi imp g tt te):=by
 intro pins s σ H Q I h;rw[eval_ListComp];refine wpAny_comprehension_free rfl n (uy (uM I S)) S.kind S.locs (thn (hi pins s σ H _ I h) λv s1 w=>thn w λj s2 t=>?_);obtain⟨it,fp,tn,J,c,e,i,T,d,f2,y⟩:=t;subst e;refine rN z S B ht he i T d f2 y λa C H' s' m u hn f q=>⟨m,hn,λh' r=>?_⟩;obtain⟨k,g1,g2,g3,p,l⟩:=f;exact⟨.ref a,H',u.turned (λb o A e=>(r.2 b A).trans e) k g1 g3 p l,rfl,q⟩
def rV {i:Nat}{x:Str}{t:Pos}{c:Pos}(U:X.calm=true)(S:yk X.N X.env.scope N imp scope)(hi:PI X tg iter wi)(W:∀C s2 d fp,PG (X.comp N scope C s2 d fp) tg g)(ht:∀C s2 d fp,vn (X.comp N scope C s2 d fp) ifs tt)
  (he:∀C s2 d fp,PE (X.comp N scope C s2 d fp) elt te) (G:X.N.Nodup) (z:X.N[i]?=some x) (L:Loc X.env.scope x) (p:swapsWith (.ListComp elt [⟨tg,iter,ifs,0⟩] scope pos) (some (.Name x t)) c.line X.env=pure true:=by rfl)
  (hf:X.fn x=true\/X.env.scope.names.lookup x=some .local:=by first|exact .inl rfl|exact .inr rfl|assumption) (F:∀x,foldedSetIterable iter X.env x=pure x:=by intro _;rfl):
  PS X (.Assign [.Name x t] (.ListComp elt [⟨tg,iter,ifs,0⟩] scope pos) c) (zo7 (rF wi imp g tt te) (ph i)):=by
 intro pins s σ H D I h;rw[exec_Assign_Name_used _ _ _ _ p];refine zI0 (zS6 (zI0 ?_));refine zI0 (zK3 (wpAny_comprehension_free rfl F (uy (uM I S)) S.kind S.locs (thn (hi pins s σ H _ I h) λv s1 Q=>thn Q λA s2 M=>?_))
  (λ_ s' O=>zJ3 (zJ3 O)) λ_ _ e=>e)
 obtain⟨it,fp,tn,J,d,e,y,T,r,f2,R⟩:=M;subst e;refine rN U S W ht he y T r f2 R λa C H' s' m P hn f q=>?_;obtain⟨B,g1,g2,g3,u,E⟩:=f;refine wpAny_assign_Name (pz P G z L (show RelV (.ref a) (.ref a)from rfl) (λs4 w l=>?_) hf);obtain⟨ad,K,k⟩:=l;have j:C≠ad:=by
  rcases k with e|e
  .rw[e];exact g1
  .exact(u x ad e).symm
 exact⟨m,hn.sameBut K j,λh' n=>⟨_,H',w.turned (λb o V e=>(n.2 b V).trans e) B g1 g3 u E,q⟩⟩
end
mutual
inductive DV (H:Hp):V->Aa->Prop where
 |non:DV H .non .none
 |bl (b:Bool):DV H (.bl b) (.bool b)
 |int (i:Int):DV H (.int i) (.int i)
 |str (x:Str):DV H (.str x) (.str x)
 |lst {a:Ab}{xs:List V}{ds:List Aa}:H a=some (.lst xs)->DVs H xs ds->DV H (.ref a) (.list ds)
 |tup {a:Ab}{xs:List V}{ds:List Aa}:H a=some (.tup xs)->DVs H xs ds->DV H (.ref a) (.tuple ds)
inductive DVs (H:Hp):List V->List Aa->Prop where
 |nil:DVs H [] []
 |cons {x:V}{xs:List V}{d:Aa}{ds:List Aa}:DV H x d->DVs H xs ds->DVs H (x::xs) (d::ds)
end
def zr5 {H:Hp}{m1:V->Aa->Prop}{m2:List V->List Aa->Prop}(l:m1 .non .none)(m:∀b,m1 (.bl b) (.bool b))(f:∀i,m1 (.int i) (.int i))(e:∀x,m1 (.str x) (.str x))
  (o:∀{a:Ab} {xs:List V} {ds:List Aa},H a=some (.lst xs)->m2 xs ds->m1 (.ref a) (.list ds)) (n:∀{a:Ab} {xs:List V} {ds:List Aa},H a=some (.tup xs)->m2 xs ds->m1 (.ref a) (.tuple ds)) (n2:m2 [] []) (k2:∀{x:V} {xs:List V} {d:Aa} {ds:List Aa},m1 x d->m2 xs ds->m2 (x::xs) (d::ds)):
  (∀x d,DV H x d->m1 x d)/\∀xs ds,DVs H xs ds->m2 xs ds:=by
 let k:=λx d (_:DV H x d)=>m1 x d
 let M2:=λx d (_:DVs H x d)=>m2 x d
 have j:=λ{a} {xs} {ds} (q:H a=some (.lst xs)) (_:DVs H xs ds) (z:m2 xs ds)=>o q z;have g:=λ{a} {xs} {ds} (q:H a=some (.tup xs)) (_:DVs H xs ds) (z:m2 xs ds)=>n q z;have c:=λ{x} {xs} {d} {ds} (_:DV H x d) (_:DVs H xs ds) (y:m1 x d) (z:m2 xs ds)=>k2 y z;exact⟨λ_ _ h=>@DV.rec H k M2 l m f e j g n2 c _ _ h,λ_ _ h=>@DVs.rec H k M2 l m f e j g n2 c _ _ h⟩
def DVs.ind {H:Hp}{motive:(xs:List V)->(ds:List Aa)->DVs H xs ds->Prop}(nil:motive [] [] .nil)(cons:∀{x:V}{xs:List V}{d:Aa}{ds:List Aa} (a:DV H x d) (r:DVs H xs ds),motive xs ds r->motive (x::xs) (d::ds) (.cons a r)){xs:List V}{ds:List Aa}(h:DVs H xs ds):motive xs ds h:=
 ((zr5 (m2:=λxs ds=>∃h:DVs H xs ds,motive xs ds h) .non .bl .int .str (λq z=>.lst q z.1) (λq z=>.tup q z.1) ⟨.nil,nil⟩ (λa z=>⟨.cons a z.1,cons a z.1 z.2⟩)).2 _ _ h).2
section
variable {X:Cx}{pins:List (Ab×Obj)}{σ:St}{H:Hp}{s:Af}
def ze3 (I:Inv X pins σ H s):(∀x d,DV H x d->∀u,RelV x u->∃as,Reads s.heap u d as)/\∀xs ds,DVs H xs ds->∀us,Vals xs us->∃as,ReadsAll s.heap us ds as:=by
 refine zr5 ?_ ?_ ?_ ?_ ?_ ?_ ?_ ?_
 .intro u r;cases(r);exact⟨_,.none⟩
 .intro b u r;cases(r);exact⟨_,.bool b⟩
 .intro i u r;obtain⟨t,rfl⟩:=(r);exact⟨_,.int i t⟩
 .intro x u r;obtain⟨t,rfl⟩:=(r);exact⟨_,.str x t⟩
 .intro a xs ds f e u r;cases(r);obtain⟨g,l,p,q⟩:=I.list (SqL.of f);obtain⟨o,k,j,n,hd⟩:=p.isList;obtain⟨as,c⟩:=e _ l;exact⟨_,.list k j hd (by simpa using c)⟩
 .intro a xs ds f e u r;cases(r);obtain⟨g,l,p,q⟩:=I.tuple (SqT.of f);obtain⟨o,k,j,n,hd⟩:=p;obtain⟨as,c⟩:=e _ l;exact⟨_,.tuple k j hd (by simpa using c)⟩
 .intro us r;cases r;exact⟨_,.nil⟩
 .intro x xs d ds h e us r;cases r with
  |cons r rs=>
   obtain⟨as,c⟩:=h _ r;obtain⟨bs,m⟩:=e _ rs;exact⟨_,.cons c m⟩
def DV.reads (I:Inv X pins σ H s){x:V}{d:Aa}{u:Ac}(h:DV H x d)(r:RelV x u):∃as,Reads s.heap u d as:=(ze3 I).1 _ _ h _ r
end
def zu5 {H H':Hp}(e:zu H H'):(∀x d,DV H x d->DV H' x d)/\∀xs ds,DVs H xs ds->DVs H' xs ds:=zr5 .non .bl .int .str (λq=>.lst (e _ _ q)) (λq=>.tup (e _ _ q)) .nil .cons
def DV.same {H H':Hp}(e:zu H H'){x:V}{d:Aa}(h:DV H x d):DV H' x d:=(zu5 e).1 _ _ h
theorem DVs.length {H:Hp}{xs:List V}{ds:List Aa}(h:DVs H xs ds):xs.length=ds.length:=h.ind (motive:=λxs ds _=>xs.length=ds.length) rfl λ_ _ z=>congrArg (·+1) z
def tyD :Aa->String
 |.none=>"NoneType"
 |.bool _=>"bool"
 |.int _=>"int"
 |.str _=>"str"
 |.list _=>"list"
 |.tuple _=>"tuple"
 |.dict _=>"dict"
theorem DV.ty {K:Ae}{H:Hp}{x:V}{d:Aa}(h:DV H x d):uV K H x (.type (tyD d)):=by
 cases h with
 |non=>exact .non
 |bl b=>exact .bl b
 |int i=>exact .int i
 |str x=>exact .str x
 |lst e _=>exact .lst e
 |tup e _=>exact .tup e
def isInt :Aa->Bool
 |.int _=>true
 |.bool _=>true
 |_=>false
def isBool :Aa->Bool
 |.bool _=>true
 |_=>false
def isStr :Aa->Bool
 |.str _=>true
 |_=>false
def isList :Aa->Bool
 |.list _=>true
 |_=>false
def gH :Aa->Bool
 |.tuple _=>true
 |_=>false
def qH (T:String)(d:Aa):Option Bool:=
 if T="int" then some (isInt d)else if T="bool" then some (isBool d)else if T="str" then some (isStr d)else if T="list" then some (isList d)else if T="tuple" then some (gH d)else none
def zp0 (t T:String):Option Bool:=if(Value.type t == Value.type T)=true then some true else if PySem.W.kitMeta T=true then(fastBuiltinMro t).map (·.contains (Value.type T))else none
def cy (K:Ae)(t T:String):PySem.W.kitOne K (.type t) (.type T)=zp0 t T:=rfl
def cC :(["NoneType","bool","int","str","list","tuple"].all λt=>["int","bool","str","list","tuple"].all λT=>
  zp0 t T == some (if T="int" then t == "int"||t == "bool" else t == T))=true:=by decide +kernel
def zB1 (K:Ae){H:Hp}{x:V}{d:Aa}(h:DV H x d){T:String}{b:Bool}(e:qH T d=some b):PySem.W.kitOne K (.type (tyD d)) (.type T)=some b:=by
 rw[cy];have key:∀t∈["NoneType","bool","int","str","list","tuple"],∀T∈["int","bool","str","list","tuple"],zp0 t T=some (if T="int" then t == "int"||t == "bool" else t == T):=λt ht T c=>
  eq_of_beq (zP4.mp (zP4.mp cC t ht) T c)
 have hd:tyD d∈["NoneType","bool","int","str","list","tuple"]:=by cases h<;>simp[tyD]
 unfold qH at e;split at e
 .rename_i a;subst a;rw[key _ hd "int" (by decide)];cases e;cases h<;>rfl
 .split at e
  .rename_i a;subst a;rw[key _ hd "bool" (by decide)];cases e;cases h<;>rfl
  .split at e
   .rename_i a;subst a;rw[key _ hd "str" (by decide)];cases e;cases h<;>rfl
   .split at e
    .rename_i a;subst a;rw[key _ hd "list" (by decide)];cases e;cases h<;>rfl
    .split at e
     .rename_i a;subst a;rw[key _ hd "tuple" (by decide)];cases e;cases h<;>rfl
     .cases e
section
variable {X:Cx}
def zy5 :R2:=λx y H Q=>∃d e,DV H x d/\DV H y e/\SeqAt.shaped d=true/\SeqAt.shaped e=true/\Q (.bl (PyData.eqv d e)) H
def zy9 :R2:=λx y H Q=>∃d e,DV H x d/\DV H y e/\SeqAt.shaped d=true/\SeqAt.shaped e=true/\Q (.bl (!PyData.eqv d e)) H
def vm (a:X.A.units+64<cLine):OpR X (compareOp .Eq) zy5:=by
 intro pins s σ H x y v u Q I i j h;obtain⟨d,e,hd,he,f,g,q⟩:=h;obtain⟨as,b⟩:=hd.reads I i;obtain⟨bs,c⟩:=he.reads I j;exact SeqAt.compareEq_shaped b c f g a ⟨.bl _,H,I,rfl,q⟩
def zs2 (a:X.A.units+64<cLine):OpR X (compareOp .NotEq) zy9:=by
 intro pins s σ H x y v u Q I i j h;obtain⟨d,e,hd,he,f,g,q⟩:=h;obtain⟨as,b⟩:=hd.reads I i;obtain⟨bs,c⟩:=he.reads I j;exact SeqAt.compareNe_shaped b c f g a ⟨.bl _,H,I,rfl,q⟩
def cP :wO X (.builtin "isinstance") (λxs H Q=>∃x T t b,xs=[x,.ty T]/\uV X.K H x t/\PySem.W.kitOne X.K t (.type T)=some b/\Q (.bl b) H):=by
 intro pins s σ H xs us Q I r h;obtain⟨x,T,t,b,rfl,ty,e,q⟩:=h;obtain⟨u,v,rfl,c,d⟩:=Vals.two r;cases(d);exact fF I c ty e λa=>⟨.bl b,H,I.tok a,rfl,q⟩
def we :wO X (.builtin "isinstance") (λxs H Q=>∃x T d b,xs=[x,.ty T]/\DV H x d/\qH T d=some b/\Q (.bl b) H):=by
 intro pins s σ H xs us Q I r h;obtain⟨x,T,d,b,e,hd,ht,q⟩:=h;exact cP pins s σ H xs us Q I r ⟨x,T,_,b,e,hd.ty,zB1 X.K hd ht,q⟩
def zn8 (i j:Int):Prop:=0<j/\j.natAbs.log2<9000
def rH :OpR X (binaryOp .FloorDiv) (rI zn8 λi j=>.int (i / j)):=opI λi j _ _ _ _ _ a q=>by
 have b:=a.1;refine floordiv_int (Int.ne_of_gt b) ?_ (.inl (PyProof.noPylong_of_log2 a.2));rw[Int.fdiv_eq_ediv_of_nonneg _ (Int.le_of_lt b)];exact q
abbrev big :Int:=115792089237316195423570985008687907853269984665640564039457584007913129639936
def log2_small {j:Int}(h0:0<j)(h:j<big):j.natAbs.log2<9000:=by
 have hn:j.natAbs≠0:=by lia
 have a:j.natAbs<2 ^ 256:=by
  have e:2 ^ 256=115792089237316195423570985008687907853269984665640564039457584007913129639936:=by decide +kernel
  rw[e];unfold big at h
  lia
 have b:=(Nat.log2_lt hn).mpr a
 lia
def tF (lo:Int)(n:Nat):List Int:=(List.range n).map λi=>lo+(i:Nat)
def yv (lo:Int)(n:Nat):(tF lo n).length=n:=by simp[tF]
def rR {lo:Int}{n i:Nat}(h:i<n):(tF lo n)[i]?=some (lo+(i:Nat)):=by simp[tF,h]
end
def uU (X:Cx)(body:List An):TS:=λD σ H=>∃t,PSs X body t/\t D σ H
def zC {X:Cx}{body:List An}:PSs X body (uU X body):=λpins s σ H D I ⟨t,p,q⟩=>p pins s σ H D I q
def yC {X:Cx}{st:An}{rest:List An}{D:Ends}{σ:St}{H:Hp}(M:St->Hp->Prop)(n:∃t,PS X st t/\t {D with nx:=M} σ H)(l:∀a H',M a H'->∃t,PSs X rest t/\t D a H'):
  ∃t,PSs X (st::rest) t/\t D σ H:=by
 obtain⟨t1,g,k⟩:=n;refine⟨λc a H'=>c=D/\a=σ/\H'=H,?_,rfl,rfl,rfl⟩;intro pins s a H' c I h;obtain⟨p,i,o⟩:=h;subst p i o;have step:PSs X (st::rest) (zD8 t1 λd σ2 b=>d=c/\M σ2 b):=zv g λpins s σ2 b d f ⟨e,m⟩=>by
  subst e;obtain⟨r,j,q⟩:=l σ2 b m;exact j pins s σ2 b _ f q
 refine step pins s _ _ _ I ?_;show t1 {c with nx:=λσ2 b=>c=c/\M σ2 b} _ _;have e:(λ(σ2:St) (b:Hp)=>c=c/\M σ2 b)=M:=by
  funext σ2 b
  exact propext ⟨λz=>z.2,λz=>⟨rfl,z⟩⟩
 rw[e];exact k
def aH (ns:List Int)(lo hi:Option Int):∃ms:List Int,kN (ns.map V.int) lo hi=ms.map V.int/\ms.length<=ns.length:=by
 refine⟨(ns.drop (HT.sIx (ns.map V.int).length 0 lo)).take (HT.sIx (ns.map V.int).length (ns.map V.int).length hi-HT.sIx (ns.map V.int).length 0 lo),?_,?_⟩
 .unfold kN;rw[List.map_take,List.map_drop]
 .rw[zL8,zQ6];omega
def zC7 (bs:List Int):Prop:=∃x y:Int,bs=[x,y]/\0<=y/\y<4294967296
structure xG (H:Hp)(t b c:Ab):Prop where
 ex:∃(n:Int) (bs cs:List Int),(b=t/\c=t)/\H t=some (.lst (bs.map V.int))/\H b=some (.lst (bs.map V.int))/\H c=some (.lst (cs.map V.int))/\zC7 bs/\n=0
def zs1 (t b:Ab)(H H':Hp):Prop:=∀a,a≠t->a≠b->H' a=H a
def zb4 :Sp:=λvs H Q _=>∃(t b c:Ab) (many:Int),vs=[.ref t,.int many]/\xG H t b c/\0<many/\many<big/\
 ∀(v:Int) (H':Hp),0<=v->v<many->xG H' t b c->zs1 t b H H'->Q (.int v) H'
def xG.free {H:Hp}{t b c l:Ab}(T:xG H t b c)(h:H l=none):l≠t/\l≠b/\l≠c:=by
 obtain⟨n,bs,cs,n1,d,a,e,l1,l2⟩:=T.ex;exact⟨(zq d h).symm,(zq a h).symm,(zq e h).symm⟩
def xG.off {H H':Hp}{t b c:Ab}(T:xG H t b c)(h:∀a,a=t\/a=b\/a=c->H' a=H a):xG H' t b c:=by
 obtain⟨n,bs,cs,n1,e,d,f,l1,l2⟩:=T.ex;exact⟨n,bs,cs,n1,by rw[h t (.inl rfl)];exact e,by rw[h b (.inr (.inl rfl))];exact d,by rw[h c (.inr (.inr rfl))];exact f,l1,l2⟩
def cv {H:Hp}{t b c l:Ab}{o:HO}(T:xG H t b c)(h:l≠t/\l≠b/\l≠c):xG (upd H l o) t b c:=
 T.off λa ha=>zm (ha.elim (λe=>e▸h.1.symm) λha=>ha.elim (λe=>e▸h.2.1.symm) λe=>e▸h.2.2.symm)
def dR {H H':Hp}{t b c:Ab}(T:xG H t b c)(s:zu H H'):xG H' t b c:=by
 obtain⟨n,bs,cs,n1,d,a,e,l1,l2⟩:=T.ex;exact⟨n,bs,cs,n1,s _ _ d,s _ _ a,s _ _ e,l1,l2⟩
def zV {H:Hp}{p:Ab}{o:HO}(h:H p=none):zu H (upd H p o):=λb u e=>by rw[zm (zq e h)];exact e
def sx (x:Ab):Prop:=False
def TabAt (H:Hp):Prop:=True
def Plain (H:Hp)(l:Ab):Prop:=True
def mP {H H':Hp}(T:TabAt H)(h:∀a o,(∀xs,o≠.lst xs)->H a=some o->H' a=some o):TabAt H':=trivial
def zk1 {H:Hp}{l:Ab}{o:HO}(T:TabAt H)(h:Plain H l):TabAt (upd H l o):=trivial
def sT {H:Hp}{x:Ab}(T:TabAt H)(h:sx x):∃o,H x=some o/\(∀ts,o≠.tup ts)/\∀xs,o≠.lst xs:=h.elim
def xp {H:Hp}{l:Ab}{xs:List V}(h:H l=some (.lst xs)):Plain H l:=trivial
def bB {H:Hp}{l:Ab}{xs:List (Key×V)}(h:H l=some (.dK xs)):Plain H l:=trivial
def wZ {H:Hp}{l C dx:Ab}{fs:List (Str×V)}(h:H l=some (.ins C dx fs)):Plain H l:=trivial
def wy {H:Hp}{l:Ab}(T:TabAt H)(h:H l=none):¬sx l:=λz=>by
 obtain⟨o,e,_⟩:=sT T z;rw[h]at e;cases e
def zg3 {H H':Hp}{t b:Ab}{xs c:List V}(T:TabAt H)(ht:H t=some (.lst xs))(d:H b=some (.lst c))(off:zs1 t b H H'):TabAt H':=mP T λa o no e=>by
 have n1:a≠t:=λz=>by rw[z,ht]at e;cases e;exact no _ rfl
 have n2:a≠b:=λz=>by rw[z,d]at e;cases e;exact no _ rfl
 rw[off a n1 n2];exact e
def zx1 {H H':Hp}(T:TabAt H)(h:zu H H'):TabAt H':=mP T λa o _ e=>h a o e
def lH (K:Ae):Sp:=λvs H Q _=>∃(a:Ab) (ns:List Int),vs=[.ref a]/\SqL K H a (ns.map V.int)/\ns.length<=63/\TabAt H/\∀H',Q (.bl true) H'
def zf3 (d:Aa):qH "int" d=some (isInt d):=by unfold qH;rw[if_pos rfl]
def rW (d:Aa):qH "bool" d=some (isBool d):=by unfold qH;rw[if_neg (by decide),if_pos rfl]
def pF (d:Aa):qH "tuple" d=some (gH d):=by unfold qH;rw[if_neg (by decide),if_neg (by decide),if_neg (by decide),if_neg (by decide),if_pos rfl]
structure yE (n:Nat)(d:Aa):Prop where
 shw:d.showable=true
 nod:d.hasDict=false
 dep:d.depth<=8
 len:d.shown.length<=n
 lay:d.canLay0=true
def yE.mono {m n:Nat}{d:Aa}(h:yE m d)(e:m<=n):yE n d:=⟨h.shw,h.nod,h.dep,zJ1 h.len e,h.lay⟩
theorem sy :∀(ts:List Str) (k:Nat) (acc:Str),(textFrom k acc ts).length<=acc.length+piled ts
 |[],_,acc=>by rw[piled_nil];exact zI3 _
 |t::r,k,acc=>by
  have h:=sy r (k+1) (acc++(if k > 0 then ", " else "":String)++t);rw[piled_cons];have a:(Str.ofString (if k > 0 then ", " else "":String)).length<=2:=by
   split
   .exact zK7 rfl
   .exact zK6 _
  have c:=zM2 (acc++Str.ofString (if k > 0 then ", " else "":String)) t;have b:=zM2 acc (Str.ofString (if k > 0 then ", " else "":String));show(textFrom (k+1) (acc++Str.ofString (if k > 0 then ", " else "":String)++t) r).length<=_
  lia
def lX (ts:List Str):(listText ts).length<=piled ts+2:=by
 unfold listText;rw[zM2];have h:=sy ts 0 (Str.ofString "[");have b:(Str.ofString "[").length=1:=rfl;have a:(Str.ofString "]").length=1:=rfl
 lia
theorem pY (ts:List Str):(tupleText ts).length<=piled ts+3:=by
 cases ts with
 |nil=>decide +kernel
 |cons t r=>
  have h:=join_length_add (t::r) (by simp);unfold tupleText;rw[zM2,zM2];have b:(Str.ofString "(").length=1:=rfl;have a:(Str.ofString (if(t::r).length == 1 then ",)" else ")":String)).length<=2:=by
   split
   .exact zK7 rfl
   .exact zM5 (show 1<2 by decide)
  lia
theorem vT {n:Nat}:∀(ds:List Aa),(∀d∈ds,yE n d)->piled (PyData.shownAll ds)<=ds.length*(n+2)
 |[],_=>zK6 _
 |d::r,h=>by
  have b:=(h d zK2).len;have a:=vT r λe he=>h e (zI6 _ he);show piled (d.shown::PyData.shownAll r)<=_;rw[piled_cons,zI7,Nat.succ_mul]
  lia
structure yF (n:Nat)(ds:List Aa):Prop where
 all:∀d∈ds,yE n d
 dep:∀d∈ds,d.depth<=7
theorem yF.parts {n:Nat}:∀{ds:List Aa},yF n ds->PyData.showableAll ds=true/\PyData.hasDictAll ds=false/\PyData.depthAll ds<=7/\PyData.canLayAll0 ds=true
 |[],_=>⟨rfl,rfl,zK6 _,rfl⟩
 |d::r,h=>by
  obtain⟨a,b,c,e⟩:=yF.parts ⟨λx f=>h.all x (zI6 _ f),λx f=>h.dep x (zI6 _ f)⟩;have hd:=h.all d zK2;refine⟨?_,?_,?_,?_⟩
  .simp only[PyData.showableAll,hd.shw,a,Bool.and_self]
  .simp only[PyData.hasDictAll,hd.nod,b,Bool.or_self]
  .simp only[PyData.depthAll];exact zz6 (h.dep d zK2) c
  .simp only[PyData.canLayAll0,hd.lay,e,Bool.and_self]
theorem yE.list {n m:Nat}{ds:List Aa}(h:yF n ds)(e:ds.length*(n+2)+2<=m):yE m (.list ds):=by
 obtain⟨a,b,c,f⟩:=h.parts;refine⟨by simp only[PyData.showable,a],by simp only[PyData.hasDict,b],by simp only[PyData.depth];exact zn1 c,?_,by simp only[PyData.canLay0,f]⟩;exact zl6 e (lX (PyData.shownAll ds)) (vT ds h.all)
theorem yE.tuple {n m:Nat}{ds:List Aa}(h:yF n ds)(e:ds.length*(n+2)+3<=m):yE m (.tuple ds):=by
 obtain⟨a,b,c,f⟩:=h.parts;refine⟨by simp only[PyData.showable,a],by simp only[PyData.hasDict,b],by simp only[PyData.depth];exact zn1 c,?_,by simp only[PyData.canLay0,f]⟩;exact zl6 e (pY (PyData.shownAll ds)) (vT ds h.all)
def bY {i:Int}(h0:-big<i)(b:i<big):i.natAbs.log2<1920:=by
 by_cases hn:i.natAbs=0
 .rw[hn];decide
 .have a:i.natAbs<2 ^ 256:=by
   have e:2 ^ 256=115792089237316195423570985008687907853269984665640564039457584007913129639936:=by decide +kernel
   rw[e];unfold big at h0 b
   lia
  have c:=(Nat.log2_lt hn).mpr a
  lia
theorem yE.int {i:Int}(h0:-big<i)(b:i<big):yE 2000 (.int i):=by
 have a:=bY h0 b;refine⟨by simp only[PyData.showable,zN7];exact a,rfl,zK6 _,?_,rfl⟩;have:=int_text_len_1921 a;show(Str.ofString (toString i)).length<=2000
 lia
theorem yE.none :yE 2000 .none:=⟨rfl,rfl,zK6 _,by decide +kernel,rfl⟩
theorem yE.bool (b:Bool):yE 2000 (.bool b):=⟨rfl,rfl,zK6 _,by cases b<;>decide +kernel,rfl⟩
theorem yE.shaped {n:Nat}{d:Aa}(h:yE n d):SeqAt.shaped d=true:=by
 unfold SeqAt.shaped;rw[h.lay,zQ4,zN7];have:=h.dep
 lia
section
variable {X:Cx}
end
def kr :Aa->Bool
 |.int _=>true
 |_=>false
def yz (lo hi:Int):Aa->Bool
 |.int i=>decide (lo<=i)&&decide (i<=hi)
 |_=>false
def pairD :Aa->Bool
 |.tuple ds=>decide ((ds.length:Int)=2)
 |_=>false
abbrev tf :Aa->Bool:=yz 0 1000000
def rf :Aa->Bool
 |.tuple [a,b]=>tf a&&tf b
 |_=>false
def oH :Aa->Option Int
 |.tuple [.int a,.int b]=>if tf (.int a)&&tf (.int b)then some (b-a)else none
 |_=>none
def yO (d:Aa):Bool:=match oH d with
 |some k=>decide (0<=k)
 |none=>false
def de (d:Aa):kr d=(isInt d&&!isBool d):=by cases d<;>rfl
theorem si {d:Aa}(h:pairD d=true):∃a b,d=.tuple [a,b]:=by
 cases d with
 |tuple ds=>
  have h':(ds.length:Int)=2:=of_decide_eq_true h
  match ds,h' with
  |[a,b],_=>exact⟨a,b,rfl⟩
  |[],z=>simp at z
  |[_],z=>simp at z
  |_::_::_::_,z=>simp at z;lia
 |_=>cases h
def rS (d:Aa):rf d=(oH d).isSome:=by
 unfold rf oH;split
 .rename_i a b;cases a with
  |int i=>
   cases b with
   |int j=>
    show(tf (.int i)&&tf (.int j))=_;cases e:(tf (.int i)&&tf (.int j))<;>simp[e]
   |_=>simp[yz]
  |_=>simp[yz]
 .rename_i h;split
  .rename_i a b;exact absurd rfl (h (.int a) (.int b))
  .rfl
def jy {d:Aa}(h:rf d=true):∃a b:Int,d=.tuple [.int a,.int b]/\oH d=some (b-a):=by
 rw[rS]at h;unfold oH at h ⊢;split at h
 .rename_i a b;split at h
  .rename_i c;exact⟨a,b,rfl,by simp[c]⟩
  .cases h
 .cases h
def xg (g:Aa->Bool):Sp:=λvs H Q _=>∃x d,vs=[x]/\DV H x d/\Q (.bl (g d)) H
def vM :Sp:=λvs H Q _=>∃x d lo hi,vs=[x,.int lo,.int hi]/\DV H x d/\Q (.bl (yz lo hi d)) H
def zi7 {n:Nat}:decide (V.int (n:Int)=V.int 2)=decide ((n:Int)=2):=by simp
noncomputable def sub (p:Ab->Prop)(H:Hp):Hp:=λa=>open Classical in if p a then H a else none
def zg {p:Ab->Prop}{H:Hp}{a:Ab}{o:HO}(h:sub p H a=some o):p a/\H a=some o:=by
 unfold sub at h;split at h
 .rename_i hp;exact⟨hp,h⟩
 .cases h
def zw {p:Ab->Prop}{H:Hp}{a:Ab}{o:HO}(hp:p a)(h:H a=some o):sub p H a=some o:=by
 unfold sub;rw[if_pos hp];exact h
def zj {p q:Ab->Prop}{H H':Hp}(h:∀a o,p a->H a=some o->q a/\H' a=some o):zu (sub p H) (sub q H'):=λa o e=>by
 obtain⟨hp,he⟩:=zg e;obtain⟨c,b⟩:=h a o hp he;exact zw c b
def wM {p:Ab->Prop}{H:Hp}:zu (sub p H) H:=λ_ _ e=>(zg e).2
def yF.snoc {n:Nat}{ds:List Aa}{d:Aa}(h:yF n ds)(hd:yE n d)(hp:d.depth<=7):yF n (ds++[d]):=
 ⟨λe he=>(zM9.mp he).elim (h.all e) λz=>by rw[zM0.mp z];exact hd,λe he=>(zM9.mp he).elim (h.dep e) λz=>by rw[zM0.mp z];exact hp⟩
def yF.nil {n:Nat}:yF n []:=⟨λd hd=>by simp at hd,λd hd=>by simp at hd⟩
def yF.two {n:Nat}{d e:Aa}(hd:yE n d)(he:yE n e)(b:d.depth<=7)(a:e.depth<=7):yF n [d,e]:=(yF.nil.snoc hd b).snoc he a
section
variable {X:Cx}{e:Ai}{es:List Ai}
def uq (X:Cx)(e:Ai):TE:=λσ H Q=>∃t,PE X e t/\t σ H Q
def zi :PE X e (uq X e):=λpins s σ H Q I a=>by obtain⟨t,p,q⟩:=a;exact p pins s σ H Q I q
def zw5 (X:Cx)(e:Ai):TT:=λσ H Q=>∃t,PT X e t/\t σ H Q
def xB :PT X e (zw5 X e):=λpins s σ H Q I a=>by obtain⟨t,p,q⟩:=a;exact p pins s σ H Q I q
def zg0 (X:Cx)(es:List Ai):TA:=λσ H Q=>∃t,PA X es t/\t σ H Q
def zY :PA X es (zg0 X es):=λpos pins s σ H Q I a=>by obtain⟨t,p,q⟩:=a;exact p pos pins s σ H Q I q
end
def qB :Key->Aa
 |.inl i=>.int i
 |.inr x=>.str x
def xcO (a C:Ab)(d:Option Ab):HO:=.ext λh=>∃o vs,h.get? a=some o/\o.cls=.ref C/\o.dict=d/\o.data=.fields vs
mutual
inductive AV (H:Hp):V->Aa->Prop where
 |non:AV H .non .none
 |bl (b:Bool):AV H (.bl b) (.bool b)
 |int (i:Int):AV H (.int i) (.int i)
 |str (x:Str):AV H (.str x) (.str x)
 |lst {a:Ab}{xs:List V}{ds:List Aa}:H a=some (.lst xs)->AVs H xs ds->AV H (.ref a) (.list ds)
 |tup {a:Ab}{xs:List V}{ds:List Aa}:H a=some (.tup xs)->AVs H xs ds->AV H (.ref a) (.tuple ds)
 |ins {a C dx:Ab}{fs:List (Str×V)}{ds:List (Aa×Aa)}:H a=some (.ins C dx fs)->AVf H fs ds->AV H (.ref a) (.dict ((.int (C:Nat),.none)::ds))
 |dk {a:Ab}{o:Obj}{kvs:List (Key×V)}{ds:List (Aa×Aa)}:H a=some (.frz o (.dK kvs))->AVk H kvs ds->AV H (.ref a) (.dict ((.none,.none)::ds))
 |dt {a:Ab}{o:Obj}{kvs:List (List Key×V)}{ds:List (Aa×Aa)}:H a=some (.frz o (.dT kvs))->AVt H kvs ds->AV H (.ref a) (.dict ((.none,.bool true)::ds))
 |xc {a C dx:Ab}{fs:List (Str×V)}{ds:List (Aa×Aa)}:H a=some (xcO a C (some dx))->H dx=some (.xd fs)->AVf H fs ds->AV H (.ref a) (.dict ((.int (C:Nat),.bool true)::ds))
 |xn {a C:Ab}:H a=some (xcO a C none)->AV H (.ref a) (.dict [(.int (C:Nat),.bool false)])
inductive AVs (H:Hp):List V->List Aa->Prop where
 |nil:AVs H [] []
 |cons {x:V}{xs:List V}{d:Aa}{ds:List Aa}:AV H x d->AVs H xs ds->AVs H (x::xs) (d::ds)
inductive AVf (H:Hp):List (Str×V)->List (Aa×Aa)->Prop where
 |nil:AVf H [] []
 |cons {f:Str}{x:V}{fs:List (Str×V)}{d:Aa}{ds:List (Aa×Aa)}:AV H x d->AVf H fs ds->AVf H ((f,x)::fs) ((.str f,d)::ds)
inductive AVk (H:Hp):List (Key×V)->List (Aa×Aa)->Prop where
 |nil:AVk H [] []
 |cons {k:Key}{x:V}{fs:List (Key×V)}{d:Aa}{ds:List (Aa×Aa)}:AV H x d->AVk H fs ds->AVk H ((k,x)::fs) ((qB k,d)::ds)
inductive AVt (H:Hp):List (List Key×V)->List (Aa×Aa)->Prop where
 |nil:AVt H [] []
 |cons {k:List Key}{x:V}{fs:List (List Key×V)}{d:Aa}{ds:List (Aa×Aa)}:AV H x d->AVt H fs ds->AVt H ((k,x)::fs) ((.tuple (k.map qB),d)::ds)
end
def dN {H:Hp}{m1:V->Aa->Prop}{m2:List V->List Aa->Prop}{m3:List (Str×V)->List (Aa×Aa)->Prop}{m4:List (Key×V)->List (Aa×Aa)->Prop}{m5:List (List Key×V)->List (Aa×Aa)->Prop}
  (s:m1 .non .none) (t:∀b,m1 (.bl b) (.bool b)) (w:∀i,m1 (.int i) (.int i)) (j:∀x,m1 (.str x) (.str x))
  (L:∀{a xs ds},H a=some (.lst xs)->m2 xs ds->m1 (.ref a) (.list ds)) (K:∀{a xs ds},H a=some (.tup xs)->m2 xs ds->m1 (.ref a) (.tuple ds))
  (J:∀{a C dx fs ds},H a=some (.ins C dx fs)->m3 fs ds->m1 (.ref a) (.dict ((.int (C:Nat),.none)::ds))) (N:∀{a o kvs ds},H a=some (.frz o (.dK kvs))->m4 kvs ds->m1 (.ref a) (.dict ((.none,.none)::ds)))
  (M:∀{a o kvs ds},H a=some (.frz o (.dT kvs))->m5 kvs ds->m1 (.ref a) (.dict ((.none,.bool true)::ds))) (G:∀{a C dx fs ds},H a=some (xcO a C (some dx))->H dx=some (.xd fs)->m3 fs ds->m1 (.ref a) (.dict ((.int (C:Nat),.bool true)::ds)))
  (c:∀{a C},H a=some (xcO a C none)->m1 (.ref a) (.dict [(.int (C:Nat),.bool false)]))
  (n2:m2 [] []) (k2:∀{x xs d ds},m1 x d->m2 xs ds->m2 (x::xs) (d::ds)) (n3:m3 [] []) (k3:∀{f x fs d ds},m1 x d->m3 fs ds->m3 ((f,x)::fs) ((.str f,d)::ds))
  (n4:m4 [] []) (I:∀{k x fs d ds},m1 x d->m4 fs ds->m4 ((k,x)::fs) ((qB k,d)::ds)) (n5:m5 [] []) (k5:∀{k x fs d ds},m1 x d->m5 fs ds->m5 ((k,x)::fs) ((.tuple (k.map qB),d)::ds)):
  (∀x d,AV H x d->m1 x d)/\(∀x d,AVs H x d->m2 x d)/\(∀x d,AVf H x d->m3 x d)/\(∀x d,AVk H x d->m4 x d)/\∀x d,AVt H x d->m5 x d:=by
 have p:=λ{a} {xs} {ds} (q:H a=some (.lst xs)) (_:AVs H xs ds) (z:m2 xs ds)=>L q z;have A:=λ{a} {xs} {ds} (q:H a=some (.tup xs)) (_:AVs H xs ds) (z:m2 xs ds)=>K q z;have u:=λ{a C dx} {fs} {ds} (q:H a=some (.ins C dx fs)) (_:AVf H fs ds) (z:m3 fs ds)=>J q z;have r:=λ{a o} {fs} {ds} (q:H a=some (.frz o (.dK fs))) (_:AVk H fs ds) (z:m4 fs ds)=>N q z;have B:=λ{a o} {fs} {ds} (q:H a=some (.frz o (.dT fs))) (_:AVt H fs ds) (z:m5 fs ds)=>M q z;have e:=λ{a C dx} {fs} {ds} (q:H a=some (xcO a C (some dx))) (O:H dx=some (.xd fs)) (_:AVf H fs ds) (z:m3 fs ds)=>G q O z;have g:=λ{x} {xs} {d} {ds} (_:AV H x d) (_:AVs H xs ds) (y:m1 x d) (z:m2 xs ds)=>k2 y z;have l:=λ{f} {x} {fs} {d} {ds} (_:AV H x d) (_:AVf H fs ds) (y:m1 x d) (z:m3 fs ds)=>k3 (f:=f) y z;have v:=λ{k} {x} {fs} {d} {ds} (_:AV H x d) (_:AVk H fs ds) (y:m1 x d) (z:m4 fs ds)=>I (k:=k) y z;have m:=λ{k} {x} {fs} {d} {ds} (_:AV H x d) (_:AVt H fs ds) (y:m1 x d) (z:m5 fs ds)=>k5 (k:=k) y z
 let E:=λx d (_:AV H x d)=>m1 x d
 let M2:=λx d (_:AVs H x d)=>m2 x d
 let F:=λx d (_:AVf H x d)=>m3 x d
 let D:=λx d (_:AVk H x d)=>m4 x d
 let n:=λx d (_:AVt H x d)=>m5 x d
 exact⟨λ_ _ h=>@AV.rec H E M2 F D n s t w j p A u r B e c n2 g n3 l n4 v n5 m _ _ h,λ_ _ h=>@AVs.rec H E M2 F D n s t w j p A u r B e c n2 g n3 l n4 v n5 m _ _ h,λ_ _ h=>@AVf.rec H E M2 F D n s t w j p A u r B e c n2 g n3 l n4 v n5 m _ _ h,λ_ _ h=>@AVk.rec H E M2 F D n s t w j p A u r B e c n2 g n3 l n4 v n5 m _ _ h,λ_ _ h=>@AVt.rec H E M2 F D n s t w j p A u r B e c n2 g n3 l n4 v n5 m _ _ h⟩
def AVs.ind {H:Hp}{motive:(xs:List V)->(ds:List Aa)->AVs H xs ds->Prop}(nil:motive [] [] .nil)(cons:∀{x:V}{xs:List V}{d:Aa}{ds:List Aa} (a:AV H x d) (r:AVs H xs ds),motive xs ds r->motive (x::xs) (d::ds) (.cons a r)){xs:List V}{ds:List Aa}(h:AVs H xs ds):motive xs ds h:=
 ((dN (m2:=λxs ds=>∃h:AVs H xs ds,motive xs ds h) .non .bl .int .str (λq z=>.lst q z.1) (λq z=>.tup q z.1) .ins .dk .dt .xc .xn ⟨.nil,nil⟩ (λa z=>⟨.cons a z.1,cons a z.1 z.2⟩) .nil .cons .nil .cons .nil .cons).2.1 _ _ h).2
def AVf.ind {H:Hp}{motive:(xs:List (Str×V))->(ds:List (Aa×Aa))->AVf H xs ds->Prop}(nil:motive [] [] .nil)(cons:∀{f:Str}{x:V}{fs:List (Str×V)}{d:Aa}{ds:List (Aa×Aa)} (a:AV H x d) (r:AVf H fs ds),motive fs ds r->motive ((f,x)::fs) ((.str f,d)::ds) (.cons a r)){xs:List (Str×V)}{ds:List (Aa×Aa)}(h:AVf H xs ds):motive xs ds h:=
 ((dN (m3:=λxs ds=>∃h:AVf H xs ds,motive xs ds h) .non .bl .int .str .lst .tup (λq z=>.ins q z.1) .dk .dt (λq s z=>.xc q s z.1) .xn .nil .cons ⟨.nil,nil⟩ (λa z=>⟨.cons a z.1,cons a z.1 z.2⟩) .nil .cons .nil .cons).2.2.1 _ _ h).2
def AVk.ind {H:Hp}{motive:(xs:List (Key×V))->(ds:List (Aa×Aa))->AVk H xs ds->Prop}(nil:motive [] [] .nil)(cons:∀{k:Key}{x:V}{fs:List (Key×V)}{d:Aa}{ds:List (Aa×Aa)} (a:AV H x d) (r:AVk H fs ds),motive fs ds r->motive ((k,x)::fs) ((qB k,d)::ds) (.cons a r)){xs:List (Key×V)}{ds:List (Aa×Aa)}(h:AVk H xs ds):motive xs ds h:=
 ((dN (m4:=λxs ds=>∃h:AVk H xs ds,motive xs ds h) .non .bl .int .str .lst .tup .ins (λq z=>.dk q z.1) .dt .xc .xn .nil .cons .nil .cons ⟨.nil,nil⟩ (λa z=>⟨.cons a z.1,cons a z.1 z.2⟩) .nil .cons).2.2.2.1 _ _ h).2
def gS {H H':Hp}(e:zu H H'):(∀x d,AV H x d->AV H' x d)/\(∀x d,AVs H x d->AVs H' x d)/\(∀x d,AVf H x d->AVf H' x d)/\(∀x d,AVk H x d->AVk H' x d)/\∀x d,AVt H x d->AVt H' x d:=by refine dN .non .bl .int .str (λa b=>.lst (e _ _ a) b) (λa b=>.tup (e _ _ a) b) (λa b=>.ins (e _ _ a) b) (λa b=>.dk (e _ _ a) b) (λa b=>.dt (e _ _ a) b) (λa hd b=>.xc (e _ _ a) (e _ _ hd) b) (λa=>.xn (e _ _ a)) .nil .cons .nil .cons .nil .cons .nil .cons
def AV.same {H H':Hp}(e:zu H H'){x:V}{d:Aa}(h:AV H x d):AV H' x d:=(gS e).1 _ _ h
def AVs.same {H H':Hp}(e:zu H H'){xs:List V}{ds:List Aa}(h:AVs H xs ds):AVs H' xs ds:=(gS e).2.1 _ _ h
def AVf.same {H H':Hp}(e:zu H H'){fs:List (Str×V)}{ds:List (Aa×Aa)}(h:AVf H fs ds):AVf H' fs ds:=(gS e).2.2.1 _ _ h
def AVk.same {H H':Hp}(e:zu H H'){fs:List (Key×V)}{ds:List (Aa×Aa)}(h:AVk H fs ds):AVk H' fs ds:=(gS e).2.2.2.1 _ _ h
def dv5 {H:Hp}:(∀x d,AV H x d->d.hasDict=false->DV H x d)/\(∀x d,AVs H x d->PyData.hasDictAll d=false->DVs H x d):=by
 have r:=dN (m1:=λx d=>d.hasDict=false->DV H x d) (m2:=λx d=>PyData.hasDictAll d=false->DVs H x d) (m3:=λ_ _=>True) (m4:=λ_ _=>True) (m5:=λ_ _=>True) (λ_=>.non) (λb _=>.bl b) (λi _=>.int i) (λx _=>.str x) (λc a h=>.lst c (a (by simpa only[PyData.hasDict]using h))) (λc a h=>.tup c (a (by simpa only[PyData.hasDict]using h))) (λ_ _ h=>by simp[PyData.hasDict]at h) (λ_ _ h=>by simp[PyData.hasDict]at h) (λ_ _ h=>by simp[PyData.hasDict]at h) (λ_ _ _ h=>by simp[PyData.hasDict]at h) (λ_ h=>by simp[PyData.hasDict]at h) (λ_=>.nil)
  (λh a e=>by
   simp only[PyData.hasDictAll,zV4]at e;exact .cons (h e.1) (a e.2)) trivial (λ_ _=>trivial) trivial (λ_ _=>trivial) trivial (λ_ _=>trivial)
 exact⟨r.1,r.2.1⟩
def AV.dv {H:Hp}{x:V}{d:Aa}(h:AV H x d)(e:d.hasDict=false):DV H x d:=dv5.1 _ _ h e
theorem AVs.length {H:Hp}{xs:List V}{ds:List Aa}(h:AVs H xs ds):xs.length=ds.length:=h.ind (motive:=λxs ds _=>xs.length=ds.length) rfl λ_ _ z=>congrArg (·+1) z
def AVs.append {H:Hp}{xs c:List V}{ds b:List Aa}(h:AVs H xs ds)(k:AVs H c b):AVs H (xs++c) (ds++b):=h.ind (motive:=λxs ds _=>AVs H (xs++c) (ds++b)) k λa _ z=>.cons a z
theorem AVs.get {H:Hp}{xs:List V}{ds:List Aa}{i:Nat}{d:Aa}(h:AVs H xs ds)(e:ds[i]?=some d):∃x,xs[i]?=some x/\AV H x d:=by
 induction h using AVs.ind generalizing i with
 |nil=>simp at e
 |cons a _ b=>
  cases i with
  |zero=>exact⟨_,rfl,zL2 e▸a⟩
  |succ i=>exact b e
def AVs.get' {H:Hp}{xs:List V}{ds:List Aa}{i:Nat}{x:V}(h:AVs H xs ds)(e:xs[i]?=some x):∃d,ds[i]?=some d/\AV H x d:=by
 have hi:i<ds.length:=by rw[<-h.length];exact(zH9.mp e).1
 obtain⟨y,a,b⟩:=h.get (zI5 hi);rw[e]at a;cases a;exact⟨_,zI5 hi,b⟩
theorem AVs.take {H:Hp}{xs:List V}{ds:List Aa}(n:Nat)(h:AVs H xs ds):AVs H (xs.take n) (ds.take n):=by
 induction h using AVs.ind generalizing n with
 |nil=>cases n<;>exact .nil
 |cons a _ b=>
  cases n with
  |zero=>exact .nil
  |succ n=>exact .cons a (b n)
theorem AVs.drop {H:Hp}{xs:List V}{ds:List Aa}(n:Nat)(h:AVs H xs ds):AVs H (xs.drop n) (ds.drop n):=by
 induction h using AVs.ind generalizing n with
 |nil=>cases n<;>exact .nil
 |cons a r b=>
  cases n with
  |zero=>exact .cons a r
  |succ n=>exact b n
theorem AVs.atI {H:Hp}{xs:List V}{ds:List Aa}{i:Int}{d:Aa}(h:AVs H xs ds)(e:atI ds i=some d):∃x,L2.atI xs i=some x/\AV H x d:=by
 unfold L2.atI at e ⊢;rw[h.length];cases q:ixN ds.length i with
 |none=>rw[q]at e;cases e
 |some j=>
  rw[q]at e;exact h.get e
def cutD (ds:List Aa)(lo hi:Option Int):List Aa:=(ds.drop (HT.sIx ds.length 0 lo)).take (HT.sIx ds.length ds.length hi-HT.sIx ds.length 0 lo)
def AVs.cut {H:Hp}{xs:List V}{ds:List Aa}(h:AVs H xs ds)(lo hi:Option Int):AVs H (kN xs lo hi) (cutD ds lo hi):=by
 unfold kN cutD;rw[h.length];exact(h.drop _).take _
mutual
def noL :Aa->Bool
 |.list _=>false
 |.dict ((.none,_)::_)=>false
 |.dict kvs=>rg kvs
 |.tuple ds=>noLs ds
 |_=>true
def noLs :List Aa->Bool
 |[]=>true
 |d::r=>noL d&&noLs r
def rg :List (Aa×Aa)->Bool
 |[]=>true
 |(_,d)::r=>noL d&&rg r
end
def Ob :HO->Prop
 |.lst _=>True
 |.dK _=>True
 |.frz _ _=>True
 |_=>False
def zy2 {H H':Hp}(e:∀a o,¬Ob o->H a=some o->H' a=some o):(∀x d,AV H x d->noL d=true->AV H' x d)/\(∀x d,AVs H x d->noLs d=true->AVs H' x d)/\(∀x d,AVf H x d->rg d=true->AVf H' x d)/\(∀x d,AVk H x d->rg d=true->AVk H' x d):=by
 have r:=dN (m1:=λx d=>noL d=true->AV H' x d) (m2:=λx d=>noLs d=true->AVs H' x d) (m3:=λx d=>rg d=true->AVf H' x d) (m4:=λx d=>rg d=true->AVk H' x d) (m5:=λ_ _=>True) (λ_=>.non) (λb _=>.bl b) (λi _=>.int i) (λx _=>.str x) (λ_ _ h=>by simp[L2.noL]at h) (λf c h=>.tup (e _ _ (λz=>z) f) (c (by simpa only[L2.noL]using h))) (λf c h=>.ins (e _ _ (λz=>z) f) (c (by simpa[L2.noL,L2.rg]using h))) (λ_ _ h=>by simp[L2.noL]at h) (λ_ _ h=>by simp[L2.noL]at h) (λf hd c h=>.xc (e _ _ (λz=>z) f) (e _ _ (λz=>z) hd) (c (by simpa[L2.noL,L2.rg]using h))) (λf _=>.xn (e _ _ (λz=>z) f)) (λ_=>.nil)
  (λh c q=>by
   simp only[L2.noLs,zL0]at q;exact .cons (h q.1) (c q.2)) (λ_=>.nil)
  (λh c q=>by
   simp only[L2.rg,zL0]at q;exact .cons (h q.1) (c q.2)) (λ_=>.nil)
  (λh c q=>by
   simp only[L2.rg,zL0]at q;exact .cons (h q.1) (c q.2)) trivial (λ_ _=>trivial)
 exact⟨r.1,r.2.1,r.2.2.1,r.2.2.2.1⟩
theorem AV.noL {H H':Hp}(e:∀a o,¬Ob o->H a=some o->H' a=some o){x:V}{d:Aa}(h:AV H x d)(q:L2.noL d=true):AV H' x d:=(zy2 e).1 _ _ h q
def AVs.noL {H H':Hp}(e:∀a o,¬Ob o->H a=some o->H' a=some o){xs:List V}{ds:List Aa}(h:AVs H xs ds)(q:noLs ds=true):AVs H' xs ds:=(zy2 e).2.1 _ _ h q
structure Fr where
 H0:Hp
 O0:Ab->Prop
 tp:Option (Ab×Ab×Ab)
structure zD where
 a:Ab
 lp:Ab
 C:Ab
 dx:Ab
 nm:Str
 fs:List (Str×V)
 kvs:List (Aa×Aa)
 xs:List V
 past:List Aa
 pl:Bool
def zD.tl (s:zD):List (Str×V):=if s.pl then [(s.nm,.ref s.lp)]else []
structure xt (G H:Hp)(s:zD):Prop where
 ob:H s.a=some (.ins s.C s.dx (s.fs++s.tl))
 fl:AVf G s.fs s.kvs
 ls:s.pl=true->H s.lp=some (.lst s.xs)
 av:AVs G s.xs s.past
 ne:s.pl=true->s.a≠s.lp
 eq:s.pl=false->s.lp=s.a
theorem xt.same {G b H H':Hp}{s:zD}(h:xt G H s)(g:zu G b)(c:∀x o,x=s.a\/x=s.lp->H x=some o->H' x=some o):xt b H' s:=⟨c _ _ (.inl rfl) h.ob,h.fl.same g,λz=>c _ _ (.inr rfl) (h.ls z),h.av.same g,h.ne,h.eq⟩
def xt.obj {G H:Hp}{s:zD}(h:xt G H s){x:Ab}(b:x=s.a\/x=s.lp):∃o,H x=some o/\∀ts,o≠.tup ts:=by
 rcases b with rfl|rfl
 .exact⟨_,h.ob,λ_ z=>by cases z⟩
 .cases z:s.pl with
  |true=>exact⟨_,h.ls z,λ_ z=>by cases z⟩
  |false=>rw[h.eq z];exact⟨_,h.ob,λ_ z=>by cases z⟩
inductive A where
 |dat (d:Aa)
 |ow (c:Aa)
 |deep (d:Aa) (S:Ab->Prop)
 |tape
 |at(l:Ab)
 |exc (r:Fr) (q:Aa->Prop)
 |pin (l:Ab) (vs:List V) (ds:List Aa)
 |nst (l:Ab) (ls:List Ab) (dss:List (List Aa))
 |inn (s:zD)
 |res (d:Aa) (s:zD)
@[reducible] def A.own (ds:List Aa):A:=.ow (.list ds)
abbrev mi (ds:List (Aa×Aa)):Aa:=.dict ((.none,.none)::ds)
abbrev Ev :=List (Option A)
def yU (o:HO):Prop:=∀ts,o≠.tup ts
def yg {xs:List V}:yU (.lst xs):=λ_ z=>by cases z
def Ob.notup {o:HO}(h:Ob o):yU o:=λts z=>by subst z;exact h
def NT (F:Fr)(x:Ab):Prop:=(∀t b c,F.tp=some (t,b,c)->x≠t/\x≠b)/\¬sx x
def Kz (F:Fr)(H H':Hp):Prop:=∀x o,H x=some o->NT F x->H' x=some o
structure zH (F:Fr)(H:Hp):Prop where
 tab:TabAt H
 ot:∀x,sx x->F.O0 x
 all:∀t b c,F.tp=some (t,b,c)->xG H t b c/\F.O0 t/\F.O0 b/\F.O0 c
instance {F:Fr} {H:Hp}:CoeFun (zH F H) (λ_=>∀t b c,F.tp=some (t,b,c)->xG H t b c/\F.O0 t/\F.O0 b/\F.O0 c):=⟨zH.all⟩
def zH.to {F F':Fr}{H:Hp}(t:zH F H)(hp:F'.tp=F.tp)(d:∀x,F.O0 x->F'.O0 x):zH F' H:=⟨t.tab,λx h=>d x (t.ot x h),λa b c e=>by
 obtain⟨i,f,j,g⟩:=t a b c (hp▸e);exact⟨i,d _ f,d _ j,d _ g⟩⟩
def zH.re {F F':Fr}{H H':Hp}(t:zH F H)(t':zH F' H')(hp:F'.tp=F.tp):zH F H':=⟨t'.tab,t.ot,λa b c e=>⟨(t' a b c (hp▸e)).1,(t a b c e).2⟩⟩
theorem zH.upd {F:Fr}{H:Hp}{l:Ab}{o:HO}(t:zH F H)(h:∀a b c,F.tp=some (a,b,c)->l≠a/\l≠b/\l≠c)(hp:Plain H l):zH F (upd H l o):=⟨zk1 t.tab hp,t.ot,λa b c e=>⟨cv (t a b c e).1 (h a b c e),(t a b c e).2⟩⟩
def zH.updO {F:Fr}{H:Hp}{l:Ab}{o:HO}(t:zH F H)(h:¬F.O0 l)(hp:Plain H l):zH F (L2.upd H l o):=t.upd (λa b c e=>⟨λz=>h (by rw[z];exact(t a b c e).2.1),λz=>h (by rw[z];exact(t a b c e).2.2.1),λz=>h (by rw[z];exact(t a b c e).2.2.2)⟩) hp
def foot (s:Option V):A->Ab->Prop
 |.ow _,x=>s=some (.ref x)
 |.deep _ S,x=>S x
 |.nst l ls _,x=>x∈l::ls
 |.inn s,x=>x=s.a\/x=s.lp
 |_,_=>False
def noI :A->Prop
 |.inn _=>False
 |_=>True
def Ow (F:Fr)(L:Ev)(σ:St)(x:Ab):Prop:=F.O0 x\/∃(i:Nat) (a:A) (s:Option V),L[i]?=some (some a)/\σ[i]?=some s/\foot s a x
noncomputable abbrev Gz (F:Fr)(L:Ev)(σ:St)(H:Hp):Hp:=sub (λx=>¬Ow F L σ x) H
noncomputable def ur (S:Ab->Prop)(G H:Hp):Hp:=λx=>open Classical in if S x then H x else match G x with
 |some (.lst _)=>none
 |o=>o
def wU {S:Ab->Prop}{G a H H':Hp}(h:zu G a)(b:∀x o,S x->H x=some o->H' x=some o):zu (ur S G H) (ur S a H'):=λx o e=>by
 unfold ur at e ⊢;by_cases z:S x
 .rw[if_pos z]at e ⊢;exact b x o z e
 .rw[if_neg z]at e ⊢;cases q:G x with
  |none=>rw[q]at e;cases e
  |some u=>
   rw[h _ _ q];rw[q]at e;exact e
def mQ {S:Ab->Prop}{G H:Hp}{x:Ab}{xs:List V}(h:ur S G H x=some (.lst xs)):S x/\H x=some (.lst xs):=by
 unfold ur at h;by_cases z:S x
 .rw[if_pos z]at h;exact⟨z,h⟩
 .rw[if_neg z]at h;split at h
  .cases h
  .rename_i hn;exact absurd h (hn _)
def vY {S:Ab->Prop}{G H:Hp}{x:Ab}{o:HO}(h:ur S G H x=some o):(S x/\H x=some o)\/(¬S x/\G x=some o):=by
 unfold ur at h;by_cases z:S x
 .rw[if_pos z]at h;exact .inl ⟨z,h⟩
 .rw[if_neg z]at h;split at h
  .cases h
  .exact .inr ⟨z,h⟩
inductive xK (G:Hp):HO->Aa->Prop where
 |lst {xs:List V}{ds:List Aa}:AVs G xs ds->xK G (.lst xs) (.list ds)
 |dk {kvs:List (Key×V)}{ds:List (Aa×Aa)}:AVk G kvs ds->xK G (.dK kvs) (mi ds)
def xK.ob {G:Hp}{o:HO}{c:Aa}(h:xK G o c):Ob o:=by cases h<;>trivial
theorem xK.same {G a:Hp}{o:HO}{c:Aa}(h:xK G o c)(s:zu G a):xK a o c:=by
 cases h with
 |lst h=>exact .lst (h.same s)
 |dk h=>exact .dk (h.same s)
theorem xK.av {G:Hp}{o:HO}{ds:List Aa}{l:Ab}(h:xK G o (.list ds))(e:G l=some o):AV G (.ref l) (.list ds):=by
 cases h with
 |lst h=>exact .lst e h
def xK.lst_inv {G:Hp}{o:HO}{ds:List Aa}(h:xK G o (.list ds)):∃xs,o=.lst xs/\AVs G xs ds:=by cases h;exact⟨_,rfl,by assumption⟩
theorem xK.plain {G H:Hp}{o:HO}{c:Aa}{l:Ab}(h:xK G o c)(e:H l=some o):Plain H l:=by
 cases h with
 |lst h=>exact xp e
 |dk h=>exact bB e
structure Lnk (r F:Fr)(H:Hp):Prop where
 tp:r.tp=F.tp
 o:∀x,r.O0 x->F.O0 x
 ok:zH r H
 k:Kz r r.H0 H
def wQ (G H:Hp):List Ab->List (List Aa)->Prop
 |[],[]=>True
 |a::ls,ds::dss=>(∃xs,H a=some (.lst xs)/\AVs G xs ds)/\wQ G H ls dss
 |_,_=>False
theorem wQ.same {G c H H':Hp}(g:zu G c):∀{ls:List Ab}{dss:List (List Aa)},(∀a∈ls,∀o,H a=some o->H' a=some o)->wQ G H ls dss->wQ c H' ls dss
 |[],[],_,_=>trivial
 |a::ls,ds::dss,h,⟨⟨xs,e,av⟩,r⟩=>⟨⟨xs,h a zK2 _ e,av.same g⟩,wQ.same g (λb d=>h b (zI6 _ d)) r⟩
 |[],_::_,_,z=>z.elim
 |_::_,[],_,z=>z.elim
theorem wQ.obj {G H:Hp}:∀{ls:List Ab}{dss:List (List Aa)},wQ G H ls dss->∀a∈ls,∃xs,H a=some (.lst xs)
 |[],_,_,_,h=>by cases h
 |b::ls,ds::dss,⟨⟨xs,e,_⟩,r⟩,a,h=>by
  rcases zI8.mp h with z|z
  .exact⟨xs,z▸e⟩
  .exact wQ.obj r a z
 |_::_,[],z,_,_=>z.elim
theorem wQ.avs {G H:Hp}{p:Ab->Prop}(g:zu G (sub p H)):∀{ls:List Ab}{dss:List (List Aa)},(∀a∈ls,p a)->wQ G H ls dss->AVs (sub p H) (ls.map .ref) (dss.map .list)
 |[],[],_,_=>.nil
 |a::ls,ds::dss,h,⟨⟨xs,e,av⟩,r⟩=>.cons (.lst (zw (h a zK2) e) (av.same g)) (wQ.avs g (λb c=>h b (zI6 _ c)) r)
 |[],_::_,_,z=>z.elim
 |_::_,[],_,z=>z.elim
def wt (G:Hp)(F:Fr)(H:Hp)(s:Option V):A->Prop
 |.dat d=>∃v,s=some v/\AV G v d
 |.ow c=>∃l o,s=some (.ref l)/\H l=some o/\xK G o c/\¬F.O0 l/\F.H0 l=none
 |.deep d S=>∃v,s=some v/\AV (ur S G H) v d/\∀x,S x->¬F.O0 x/\F.H0 x=none/\∃xs,H x=some (.lst xs)
 |.tape=>∃t b c,F.tp=some (t,b,c)/\s=some (.ref t)
 |.at l=>s=some (.ref l)
 |.exc r _=>Lnk r F H
 |.pin l vs ds=>s=some (.ref l)/\G l=some (.lst vs)/\AVs G vs ds
 |.nst l ls dss=>s=some (.ref l)/\H l=some (.lst (ls.map .ref))/\wQ G H ls dss/\(l::ls).Nodup/\∀x∈l::ls,¬F.O0 x/\F.H0 x=none
 |.inn u=>s=some (.ref u.a)/\xt G H u/\∀x,x=u.a\/x=u.lp->¬F.O0 x/\F.H0 x=none
 |.res _ _=>False
structure M (F:Fr)(L:Ev)(σ:St)(H:Hp):Prop where
 len:L.length=σ.length
 ok:∀(i:Nat) (a:A) (s:Option V),L[i]?=some (some a)->σ[i]?=some s->wt (Gz F L σ H) F H s a
 dj:∀(i j:Nat) (a b:A) (s t:Option V) (x:Ab),L[i]?=some (some a)->L[j]?=some (some b)->σ[i]?=some s->σ[j]?=some t->foot s a x->foot t b x->i=j
 xd:∀(i:Nat) (r:Fr) (q:Aa->Prop),L[i]?=some (some (.exc r q))->∀(j:Nat) (a:A) (s:Option V) (x:Ab),L[j]?=some (some a)->σ[j]?=some s->foot s a x->r.H0 x=none
 tp:zH F H
 keep:Kz F F.H0 H
 oex:∀x,F.O0 x->∃o,H x=some o/\yU o
def M.at' {F:Fr}{L:Ev}{σ:St}{H:Hp}(m:M F L σ H){i:Nat}{a:Option A}(e:L[i]?=some a):∃s,σ[i]?=some s:=by
 have:i<σ.length:=by rw[<-m.len];exact(zH9.mp e).1
 exact⟨_,zI5 this⟩
theorem sM {G:Hp}{F:Fr}{H:Hp}{s:Option V}{a:A}{x:Ab}(h:wt G F H s a)(f:foot s a x):¬F.O0 x/\F.H0 x=none/\∃o,H x=some o/\yU o/\(noI a->Ob o):=by
 cases a with
 |ow c=>
  obtain⟨l,o,i,g,b,m,j⟩:=h;rw[f]at i;cases i;exact⟨m,j,o,g,b.ob.notup,λ_=>b.ob⟩
 |deep d S=>
  obtain⟨v,i,g,b⟩:=h;obtain⟨p,z2,xs,z3⟩:=b x f;exact⟨p,z2,_,z3,yg,λ_=>trivial⟩
 |dat d=>exact f.elim
 |tape=>exact f.elim
 |«at» l=>exact f.elim
 |exc r q=>exact f.elim
 |pin l vs ds=>exact f.elim
 |nst l ls dss=>
  obtain⟨i,g,b,m,j⟩:=h;have k:=f;refine⟨(j x k).1,(j x k).2,?_⟩;rcases zI8.mp k with z|z
  .exact⟨.lst (ls.map .ref),z▸g,yg,λ_=>trivial⟩
  .obtain⟨xs,e⟩:=b.obj x z;exact⟨.lst xs,e,yg,λ_=>trivial⟩
 |inn u=>
  obtain⟨i,g,b⟩:=h;obtain⟨o,e,n⟩:=g.obj f;exact⟨(b x f).1,(b x f).2,o,e,n,λz=>z.elim⟩
 |res d u=>exact h.elim
def Lnk.kz {r F:Fr}{H H':Hp}(l:Lnk r F H)(k:Kz F H H')(t:zH F H'):Lnk r F H':=⟨l.tp,l.o,l.ok.re t l.tp.symm,λx o e n=>k x o (l.k x o e n) ⟨λa b c z=>n.1 a b c (l.tp.trans z),n.2⟩⟩
theorem Lnk.none {r F:Fr}{H:Hp}(l:Lnk r F H){x:Ab}(h:H x=Option.none):r.H0 x=Option.none:=by
 cases q:r.H0 x with
 |none=>rfl
 |some o=>rw[l.k x o q ⟨λa b c e=>⟨((l.ok a b c e).1.free h).1,((l.ok a b c e).1.free h).2.1⟩,wy l.ok.tab h⟩]at h;cases h
def noX :A->Prop
 |.exc _ _=>False
 |_=>True
theorem wt.stay {G p:Hp}{F F':Fr}{H H':Hp}{s:Option V}{a:A}(h:wt G F H s a)(g:zu G p)(hf:∀x o,foot s a x->H x=some o->H' x=some o/\¬F'.O0 x/\F'.H0 x=none)(hp:F'.tp=F.tp)(w:∀r q,a=.exc r q->Lnk r F H->Lnk r F' H'):wt p F' H' s a:=by
 cases a with
 |dat d=>obtain⟨v,i,f⟩:=h;exact⟨v,i,f.same g⟩
 |ow c=>
  obtain⟨l,o,i,f,k,n,y⟩:=h;obtain⟨m,z2,z3⟩:=hf l o i f;exact⟨l,o,i,m,k.same g,z2,z3⟩
 |deep d S=>
  obtain⟨v,i,f,k⟩:=h;refine⟨v,i,f.same (wU g λx o z e=>(hf x o z e).1),λx z=>?_⟩;obtain⟨_,_,xs,e⟩:=k x z;obtain⟨m,z2,z3⟩:=hf x _ z e;exact⟨z2,z3,xs,m⟩
 |tape=>obtain⟨t,b,c,e,z⟩:=h;exact⟨t,b,c,hp.trans e,z⟩
 |«at» l=>exact h
 |exc r q=>exact w r q rfl h
 |pin l vs ds=>exact⟨h.1,g _ _ h.2.1,h.2.2.same g⟩
 |nst l ls dss=>
  obtain⟨i,f,k,n,y⟩:=h;refine⟨i,(hf l _ zK2 f).1,k.same g λa ha o e=>(hf a o (zI6 _ ha) e).1,n,λx j=>?_⟩;rcases zI8.mp j with z|z
  .exact(hf x _ j (z▸f)).2
  .obtain⟨xs,e⟩:=k.obj x z;exact(hf x _ j e).2
 |inn u=>
  obtain⟨i,f,k⟩:=h;refine⟨i,f.same g λx o j e=>(hf x o j e).1,λx j=>?_⟩;obtain⟨o,e,_⟩:=f.obj j;exact(hf x o j e).2
 |res d u=>exact h.elim
section
variable {F:Fr}{L:Ev}{σ:St}{H H' H'':Hp}
theorem M.dat (m:M F L σ H)(i:Nat)(d:Aa)(e:L[i]?=some (some (.dat d))):∃v,σ[i]?=some (some v)/\AV (Gz F L σ H) v d:=by
 obtain⟨s,a⟩:=m.at' e;obtain⟨v,rfl,h⟩:=m.ok i _ s e a;exact⟨v,a,h⟩
def M.owc (m:M F L σ H)(i:Nat)(c:Aa)(e:L[i]?=some (some (.ow c))):∃l o,σ[i]?=some (some (.ref l))/\H l=some o/\xK (Gz F L σ H) o c/\¬F.O0 l/\F.H0 l=none:=by
 obtain⟨s,a⟩:=m.at' e;obtain⟨l,o,rfl,h⟩:=m.ok i _ s e a;exact⟨l,o,a,h⟩
theorem M.own (m:M F L σ H)(i:Nat)(ds:List Aa)(e:L[i]?=some (some (.own ds))):∃l xs,σ[i]?=some (some (.ref l))/\H l=some (.lst xs)/\AVs (Gz F L σ H) xs ds/\¬F.O0 l/\F.H0 l=none:=by
 obtain⟨l,o,d,a,f,b⟩:=m.owc i _ e;obtain⟨xs,rfl,c⟩:=f.lst_inv;exact⟨l,xs,d,a,c,b⟩
theorem M.deep (m:M F L σ H)(i:Nat)(d:Aa)(S:Ab->Prop)(e:L[i]?=some (some (.deep d S))):∃v,σ[i]?=some (some v)/\AV (ur S (Gz F L σ H) H) v d/\∀x,S x->¬F.O0 x/\F.H0 x=none/\∃xs,H x=some (.lst xs):=by
 obtain⟨s,a⟩:=m.at' e;obtain⟨v,rfl,h⟩:=m.ok i _ s e a;exact⟨v,a,h⟩
def M.tvar (m:M F L σ H)(i:Nat)(e:L[i]?=some (some .tape)):∃t b c,F.tp=some (t,b,c)/\σ[i]?=some (some (.ref t)):=by
 obtain⟨s,a⟩:=m.at' e;obtain⟨t,b,c,h,rfl⟩:=m.ok i _ s e a;exact⟨t,b,c,h,a⟩
def M.atv (m:M F L σ H)(i:Nat)(l:Ab)(e:L[i]?=some (some (.at l))):σ[i]?=some (some (.ref l)):=by
 obtain⟨s,a⟩:=m.at' e;have:s=some (.ref l):=m.ok i _ s e a;rw[a,this]
def M.lnk (m:M F L σ H){i:Nat}{r:Fr}{q:Aa->Prop}(e:L[i]?=some (some (.exc r q))):Lnk r F H:=by
 obtain⟨s,a⟩:=m.at' e;exact m.ok i _ s e a
def Kz.refl :Kz F H H:=λ_ _ e _=>e
def Kz.trans (h:Kz F H H')(k:Kz F H' H''):Kz F H H'':=λx o e n=>k x o (h x o e n) n
def Kz.of_same (h:zu H H'):Kz F H H':=λx o e _=>h x o e
def zH.same (t:zH F H)(h:zu H H'):zH F H':=⟨zx1 t.tab h,t.ot,λa b c e=>⟨dR (t a b c e).1 h,(t a b c e).2⟩⟩
def zH.nt (t:zH F H){x:Ab}(h:¬F.O0 x):NT F x:=⟨λa b c e=>⟨λz=>h (z▸(t a b c e).2.1),λz=>h (z▸(t a b c e).2.2.1)⟩,λz=>h (t.ot x z)⟩
def ow0 {x:Ab}(h:¬Ow F L σ x):¬F.O0 x:=λz=>h (.inl z)
def Kz.gz (k:Kz F H H')(t:zH F H):zu (Gz F L σ H) (Gz F L σ H'):=zj λa o h e=>⟨h,k a o e (t.nt (ow0 h))⟩
def M.oex' (t:zH F H')(k:Kz F H H')(h:∀x,F.O0 x->∃o,H x=some o/\yU o):∀x,F.O0 x->∃o,H' x=some o/\yU o:=λx i=>by
 by_cases n:NT F x
 .obtain⟨o,d,hn⟩:=h x i;exact⟨o,k _ _ d n,hn⟩
 .by_cases z:sx x
  .obtain⟨o,d,hn,_⟩:=sT t.tab z;exact⟨o,d,hn⟩
  .have:∃a b c,F.tp=some (a,b,c)/\¬(x≠a/\x≠b):=by exact zT0 λq=>n ⟨λa b c e=>(zT0 λw=>q ⟨a,b,c,e,w⟩),z⟩
   obtain⟨a,b,c,e,w⟩:=this;obtain⟨n,bs,cs,_,l,j,m,_⟩:=(t a b c e).1.ex;by_cases g:x=a
   .exact⟨_,g▸l,yg⟩
   .by_cases f:x=b
    .exact⟨_,f▸j,yg⟩
    .exact absurd ⟨g,f⟩ w
theorem M.kz (m:M F L σ H)(k:Kz F H H')(t:zH F H'):M F L σ H' where
 len:=m.len
 ok:=λi a s c b=>(m.ok i a s c b).stay (k.gz m.tp) (λx o hf e=>by
  obtain⟨d,f,_⟩:=sM (m.ok i a s c b) hf;exact⟨k x o e (m.tp.nt d),d,f⟩) rfl λr _ _ l=>l.kz k t
 dj:=m.dj
 xd:=m.xd
 tp:=t
 keep:=m.keep.trans k
 oex:=M.oex' t k m.oex
def M.ft (m:M F L σ H){i:Nat}{a:A}{s:Option V}{x:Ab}(c:L[i]?=some (some a))(b:σ[i]?=some s)(f:foot s a x):¬F.O0 x/\F.H0 x=none/\∃o,H x=some o/\yU o/\(noI a->Ob o):=sM (m.ok i a s c b) f
def M.owEx (m:M F L σ H){x:Ab}(h:Ow F L σ x):∃o,H x=some o/\yU o:=by
 rcases h with z|⟨i,a,s,d,b,f⟩
 .exact m.oex x z
 .obtain⟨_,_,o,c,e⟩:=m.ft d b f;exact⟨o,c,e.1⟩
def M.fresh (m:M F L σ H){l:Ab}(h:H l=none):¬Ow F L σ l:=λz=>by
 obtain⟨o,a,_⟩:=m.owEx z;rw[h]at a;cases a
theorem M.fresh0 (m:M F L σ H){l:Ab}(h:H l=none):F.H0 l=none:=by
 cases q:F.H0 l with
 |none=>rfl
 |some o=>rw[m.keep l o q (m.tp.nt λz=>m.fresh h (.inl z))]at h;cases h
def M.old (m:M F L σ H):zu (sub (λx=>¬F.O0 x) F.H0) (Gz F L σ H):=λa o e=>by
 obtain⟨d,c⟩:=zg e;refine zw ?_ (m.keep a o c (m.tp.nt d));rintro(z|⟨i,b,s,h,g,f⟩)
 .exact d z
 .obtain⟨_,z,_⟩:=m.ft h g f;rw[c]at z;cases z
noncomputable def Fr.up (F:Fr)(G:Hp):Fr:={F with H0:=λx=>(F.H0 x).or (G x)}
def oS {G:Hp}{x:Ab}{o:HO}(h:F.H0 x=some o):(F.up G).H0 x=some o:=by show(F.H0 x).or (G x)=some o;rw[h];rfl
theorem iD {G:Hp}{x:Ab}(h:(F.up G).H0 x=none):F.H0 x=none:=by
 cases q:F.H0 x with
 |none=>rfl
 |some o=>rw[oS q]at h;cases h
theorem M.up (m:M F L σ H):M (F.up (Gz F L σ H)) L σ H where
 len:=m.len
 ok:=λi a s d c=>(m.ok i a s d c).stay (λ_ _ e=>e) (λx o hf e=>by
  obtain⟨g,f,_⟩:=m.ft d c hf;refine⟨e,g,?_⟩;show(F.H0 x).or (Gz F L σ H x)=none;rw[f];cases q:Gz F L σ H x with
  |none=>rfl
  |some o=>exact absurd (.inr ⟨i,a,s,d,c,hf⟩) (zg q).1) rfl λr _ _ l=>⟨l.tp,l.o,l.ok,l.k⟩
 dj:=m.dj
 xd:=m.xd
 tp:=m.tp.to rfl λ_ z=>z
 keep:=λx o e n=>by
  have b:(F.H0 x).or (Gz F L σ H x)=some o:=e;cases q:F.H0 x with
  |none=>rw[q,Option.none_or]at b;exact(zg b).2
  |some o'=>rw[q]at b;cases b;exact m.keep x _ q n
 oex:=m.oex
def M.down {G:Hp}(m:M (F.up G) L σ H):M F L σ H where
 len:=m.len
 ok:=λi a s c b=>(m.ok i a s c b).stay (λ_ _ e=>e) (λx o hf e=>by
  obtain⟨f,d,_⟩:=m.ft c b hf;exact⟨e,f,iD d⟩) rfl λr _ _ l=>⟨l.tp,l.o,l.ok,l.k⟩
 dj:=m.dj
 xd:=m.xd
 tp:=m.tp.to rfl λ_ z=>z
 keep:=λx o e n=>m.keep x o (oS e) n
 oex:=m.oex
def M.upold {α0:Ev}{b:St}{H1:Hp}(m0:M F α0 b H1)(m:M (F.up (Gz F α0 b H1)) L σ H):zu (Gz F α0 b H1) (Gz F L σ H):=λa o e=>by
 obtain⟨c,d⟩:=zg e;have f:(F.up (Gz F α0 b H1)).H0 a=some o:=by
  show(F.H0 a).or (Gz F α0 b H1 a)=some o;cases q:F.H0 a with
  |none=>exact e
  |some o'=>
   have:=m0.keep a o' q (m0.tp.nt (ow0 c));rw[d]at this;cases this;rfl
 exact m.old a o (zw (ow0 c) f)
end
def yQ (F:Fr)(L:Ev)(σ:St)(H:Hp)(v:V)(H':Hp)(ds:List Aa):Prop:=
 ∃l xs,v=.ref l/\H l=none/\H' l=some (.lst xs)/\AVs (sub (λx=>¬Ow F L σ x/\x≠l) H') xs ds
def aL (F:Fr)(L:Ev)(σ:St)(H:Hp)(v:V)(H':Hp)(c:Aa):Prop:=
 ∃l o,v=.ref l/\H l=none/\H' l=some o/\xK (sub (λx=>¬Ow F L σ x/\x≠l) H') o c
def yQ.c {F:Fr}{L:Ev}{σ:St}{H H':Hp}{v:V}{ds:List Aa}(h:yQ F L σ H v H' ds):aL F L σ H v H' (.list ds):=by
 obtain⟨l,xs,d,a,e,b⟩:=h;exact⟨l,_,d,a,e,.lst b⟩
def yQ.av {F:Fr}{L:Ev}{σ:St}{H H':Hp}{v:V}{ds:List Aa}(m:M F L σ H)(h:yQ F L σ H v H' ds):AV (Gz F L σ H') v (.list ds):=by
 obtain⟨l,xs,rfl,c,b,d⟩:=h;exact .lst (zw (m.fresh c) b) (d.same (zj λa o h e=>⟨h.1,e⟩))
section
variable (X:Cx)(L:Ev)
def EvD (e:Ai)(Q:Aa->Prop):Prop:=∀(F:Fr) (σ:St) (H:Hp) (R:VK),M F L σ H->(∀d v H',Q d->zH F H'->Kz F H H'->AV (Gz F L σ H') v d->R v H')->uq X e σ H R
def EvL (e:Ai)(Q:List Aa->Prop):Prop:=∀(F:Fr) (σ:St) (H:Hp) (R:VK),M F L σ H->(∀ds v H',Q ds->zH F H'->Kz F H H'->yQ F L σ H v H' ds->R v H')->uq X e σ H R
def EvT (e:Ai)(Q:Bool->Prop):Prop:=∀(F:Fr) (σ:St) (H:Hp) (R:Bool->Hp->Prop),M F L σ H->(∀b H',Q b->zH F H'->Kz F H H'->R b H')->zw5 X e σ H R
def qE (F:Fr)(G:Hp)(v:V):A->Prop
 |.dat d=>AV G v d
 |.tape=>∃t b c,F.tp=some (t,b,c)/\v=.ref t
 |_=>False
inductive zS (F:Fr)(G:Hp):List V->List A->Prop where
 |nil:zS F G [] []
 |cons {v:V}{vs:List V}{a:A}{as:List A}:qE F G v a->zS F G vs as->zS F G (v::vs) (a::as)
def EvA (a:List Ai)(Q:List A->Prop):Prop:=∀(F:Fr) (σ:St) (H:Hp) (R:List V->Hp->Prop),M F L σ H->(∀as vs H',Q as->zH F H'->Kz F H H'->zS F (Gz F L σ H') vs as->R vs H')->zg0 X a σ H R
end
theorem qE.to {F F':Fr}{G d:Hp}(s:zu G d)(hp:F'.tp=F.tp){v:V}:∀{a:A},qE F G v a->qE F' d v a
 |.dat _,h=>AV.same s h
 |.tape,⟨t,b,c,e,z⟩=>⟨t,b,c,hp.trans e,z⟩
 |.ow _,h=>h
 |.deep _ _,h=>h
 |.at _,h=>h
 |.exc _ _,h=>h
 |.pin _ _ _,h=>h
 |.nst _ _ _,h=>h
 |.inn _,h=>h
 |.res _ _,h=>h
theorem zS.to {F F':Fr}{G a:Hp}(s:zu G a)(hp:F'.tp=F.tp){vs:List V}{as:List A}(h:zS F G vs as):zS F' a vs as:=by
 induction h with
 |nil=>exact .nil
 |cons h _ b=>exact .cons (h.to s hp) b
def zS.same {F:Fr}{G a:Hp}(s:zu G a){vs:List V}{as:List A}(h:zS F G vs as):zS F a vs as:=h.to s rfl
theorem zS.length {F:Fr}{G:Hp}:∀{vs:List V}{as:List A},zS F G vs as->vs.length=as.length
 |_,_,.nil=>rfl
 |_,_,.cons _ r=>by rw[zI7,zI7,zS.length r]
def A.d :A->Aa
 |.dat d=>d
 |.ow c=>c
 |.deep d _=>d
 |.nst _ _ dss=>.list (dss.map .list)
 |.res d _=>d
 |_=>.none
def cV (F:Fr)(v:V)(H':Hp):A->Prop
 |.dat d=>AV (sub (λx=>¬F.O0 x) H') v d
 |.ow c=>∃l xs ds,v=.ref l/\c=.list ds/\F.H0 l=none/\¬F.O0 l/\H' l=some (.lst xs)/\AVs (sub (λx=>¬F.O0 x/\x≠l) H') xs ds
 |.deep d S=>AV (ur S (sub (λx=>¬F.O0 x) H') H') v d/\∀x,S x->¬F.O0 x/\F.H0 x=none/\∃xs,H' x=some (.lst xs)
 |.nst l ls dss=>v=.ref l/\H' l=some (.lst (ls.map .ref))/\wQ (sub (λx=>¬F.O0 x/\x∉l::ls) H') H' ls dss/\(l::ls).Nodup/\∀x∈l::ls,¬F.O0 x/\F.H0 x=none
 |.res d u=>AV (sub (λx=>¬F.O0 x/\x≠u.a/\x≠u.lp) H') v d/\xt (sub (λx=>¬F.O0 x/\x≠u.a/\x≠u.lp) H') H' u/\∀x,x=u.a\/x=u.lp->¬F.O0 x/\F.H0 x=none
 |_=>False
def yf (F:Fr)(v:V)(H':Hp)(a:A):Prop:=zH F H'/\Kz F F.H0 H'/\cV F v H' a
def spA (φ:List A->(A->Prop)->Prop):Sp:=λvs H b _=>∃(F:Fr) (as:List A) (Q:A->Prop),F.H0=H/\zH F H/\(∀x,F.O0 x->∃o,H x=some o/\yU o)/\zS F (sub (λx=>¬F.O0 x) H) vs as/\φ as Q/\∀a v H',Q a->yf F v H' a->b v H'
theorem cV.to {F F':Fr}{v:V}{H':Hp}{a:A}(r:cV F v H' a)(b:∀x,F'.O0 x->F.O0 x)(h0:∀x,F.H0 x=none->F'.H0 x=none):cV F' v H' a:=by
 have s:zu (sub (λx=>¬F.O0 x) H') (sub (λx=>¬F'.O0 x) H'):=zj λa o h e=>⟨λz=>h (b _ z),e⟩;cases a with
 |dat d=>exact AV.same s r
 |ow c=>
  obtain⟨l,xs,ds,i,p,f,j,n,m⟩:=r;exact⟨l,xs,ds,i,p,h0 _ f,λz=>j (b _ z),n,m.same (zj λa o h e=>⟨⟨λz=>h.1 (b _ z),h.2⟩,e⟩)⟩
 |deep d S=>
  obtain⟨i,f⟩:=r;refine⟨i.same (wU s λ_ _ _ e=>e),λx z=>?_⟩;obtain⟨q,z2,z3⟩:=f x z;exact⟨λw=>q (b _ w),h0 _ z2,z3⟩
 |tape=>exact r
 |«at» _=>exact r
 |exc _ _=>exact r
 |pin _ _ _=>exact r
 |nst l ls dss=>
  obtain⟨i,f,j,n,m⟩:=r;exact⟨i,f,j.same (zj λa o h e=>⟨⟨λz=>h.1 (b _ z),h.2⟩,e⟩) (λ_ _ _ e=>e),n,λx k=>⟨λz=>(m x k).1 (b _ z),h0 _ (m x k).2⟩⟩
 |inn _=>exact r
 |res d u=>
  obtain⟨i,f,j⟩:=r;have g:zu (sub (λx=>¬F.O0 x/\x≠u.a/\x≠u.lp) H') (sub (λx=>¬F'.O0 x/\x≠u.a/\x≠u.lp) H'):=zj λa o h e=>⟨⟨λz=>h.1 (b _ z),h.2⟩,e⟩;exact⟨i.same g,f.same g (λ_ _ _ e=>e),λx k=>⟨λz=>(j x k).1 (b _ z),h0 _ (j x k).2⟩⟩
structure yj where
 nx:Ev->Prop
 rt:A->Prop
 bk:Ev->Prop:=λ_=>False
 ct:Ev->Prop:=λ_=>False
structure sE (F:Fr)(E:yj)(D:Ends):Prop where
 nx:∀L σ H,M F L σ H->E.nx L->D.nx σ H
 rt:∀a v H,yf F v H a->E.rt a->D.rt v H
 bk:∀L σ H,M F L σ H->E.bk L->D.bk σ H
 ct:∀L σ H,M F L σ H->E.ct L->D.ct σ H
def SvS (X:Cx)(L:Ev)(a:List An)(E:yj):Prop:=∀(F:Fr) (σ:St) (H:Hp) (D:Ends),M F L σ H->sE F E D->uU X a D σ H
theorem sE.up {F:Fr}{G:Hp}{E:yj}{D:Ends}(e:sE F E D):sE (F.up G) E D where
 nx:=λL σ H m q=>e.nx L σ H m.down q
 bk:=λL σ H m q=>e.bk L σ H m.down q
 ct:=λL σ H m q=>e.ct L σ H m.down q
 rt:=λa v H r q=>e.rt a v H (by
  obtain⟨t,k,r⟩:=r;exact⟨t.to rfl λ_ z=>z,λx o e n=>k x o (oS e) n,r.to (λ_ z=>z) λx z=>iD z⟩) q
section
variable {X:Cx}{L:Ev}{e a b c:Ai}{es:List Ai}{pos p q:Pos}{Q:Aa->Prop}
def EvL.d (h:EvL X L e (λds=>Q (.list ds))):EvD X L e Q:=λF σ H R m k=>h F σ H R m λds v H' q t z f=>k _ v H' q t z (f.av m)
def EvD.imp {Q':Aa->Prop}(h:EvD X L e Q')(k:∀d,Q' d->Q d):EvD X L e Q:=λF σ H R m r=>h F σ H R m λd v H' q=>r d v H' (k d q)
def zc (i:Nat){x:Str}{d:Aa}(hi:L[i]?=some (some (.dat d)))(q:Q d)(j:X.N[i]?=some x:=by rfl)(l:Vis X.env.scope x:=by first|exact Or.inl rfl|exact Or.inr (Or.inl rfl)|exact Or.inr (Or.inr rfl))
  (hd:(x == ("__debug__":Str))=false:=by decide) (f:(x == ("__classdict__":Str))=false:=by decide):EvD X L (.Name x pos) Q:=λF σ H R m k=>by
 obtain⟨v,h,g⟩:=m.dat i d hi;exact⟨_,zT j l hd f,v,h,k d v H q m.tp Kz.refl g⟩
def zf {i:Int}{j:Nat}(q:Q (.int i)):EvD X L (.Constant (.int i) j pos) Q:=λF σ H R m k=>⟨_,zN,k _ _ H q m.tp Kz.refl (.int i)⟩
def pE {i:Bool}{j:Nat}(q:Q (.bool i)):EvD X L (.Constant (.bool i) j pos) Q:=λF σ H R m k=>⟨_,zx5,k _ _ H q m.tp Kz.refl (.bl i)⟩
def yD {j:Nat}(q:Q .none):EvD X L (.Constant .none j pos) Q:=λF σ H R m k=>⟨_,rk,k _ _ H q m.tp Kz.refl .non⟩
def zt {x:Str}{j:Nat}(q:Q (.str x)):EvD X L (.Constant (.str x) j pos) Q:=λF σ H R m k=>⟨_,yi,k _ _ H q m.tp Kz.refl (.str x)⟩
def qf {x:Str}{i:Int}(d:Gl X x)(hm:∃t,X.mg x=some (.int i t))(q:Q (.int i))(hd:(x == ("__debug__":Str))=false:=by decide):EvD X L (.Name x pos) Q:=λF σ H R m k=>by
 obtain⟨t,hm⟩:=hm;exact⟨_,uf d hm (show RelV (.int i) (.int i t)from⟨t,rfl⟩) hd,k _ _ H q m.tp Kz.refl (.int i)⟩
def qv {f:TE->TE->TE}(hf:PE X e (f (uq X a) (uq X b)))(hr:∀σ H R,f (uq X a) (uq X b) σ H R↔uq X a σ H (λx H1=>uq X b σ H1 λy j=>f (tC x) (tC y) σ j R))
  (h:EvD X L a λx=>EvD X L b λy=>∀(F:Fr) (σ:St) (H:Hp) (i g:V) (R:VK),M F L σ H->AV (Gz F L σ H) i x->AV (Gz F L σ H) g y->(∀d v H',Q d->zH F H'->Kz F H H'->AV (Gz F L σ H') v d->R v H')->f (tC i) (tC g) σ H R):
  EvD X L e Q:=λF σ H R m k=>by
 refine⟨_,hf,(hr σ H R).mpr ?_⟩;refine h F σ H _ m λx i H1 t t1 k1 l=>?_;have m1:=m.kz k1 t1;exact t F σ H1 _ m1 λy g j s n k2 o=>s F σ j i g R (m1.kz k2 n) (l.same (k2.gz m1.tp)) o λd v H' r t3 k3 u=>k d v H' r t3 ((k1.trans k2).trans k3) u
def AV.int_inv {H:Hp}{v:V}{i:Int}(h:AV H v (.int i)):v=.int i:=by cases h;rfl
def AV.bl_inv {H:Hp}{v:V}{i:Bool}(h:AV H v (.bool i)):v=.bl i:=by cases h;rfl
def AV.str_inv {H:Hp}{v:V}{i:Str}(h:AV H v (.str i)):v=.str i:=by cases h;rfl
def AV.tup_inv {H:Hp}{v:V}{ds:List Aa}(h:AV H v (.tuple ds)):∃a xs,v=.ref a/\H a=some (.tup xs)/\AVs H xs ds:=by cases h;exact⟨_,_,rfl,by assumption,by assumption⟩
def AV.lst_inv {H:Hp}{v:V}{ds:List Aa}(h:AV H v (.list ds)):∃a xs,v=.ref a/\H a=some (.lst xs)/\AVs H xs ds:=by cases h;exact⟨_,_,rfl,by assumption,by assumption⟩
def AV.non_inv {H:Hp}{v:V}(h:AV H v .none):v=.non:=by cases h;rfl
def AV.isnon {H:Hp}{v:V}{d:Aa}(h:AV H v d):decide (v=.non)=(match d with|.none=>true|_=>false):=by cases h<;>simp
def oP {op:Operator}{C:Int->Int->Prop}{g:Int->Int->V}{gd:Int->Int->Aa}(o:OpR X (binaryOp op) (rI C g))(r:∀H i j,AV H (g i j) (gd i j))
  (h:EvD X L a λx=>EvD X L b λy=>∃i j,x=.int i/\y=.int j/\C i j/\Q (gd i j)):EvD X L (.BinOp a op b pos) Q:=by
 refine qv (xA o zi zi) (λ_ _ _=>Iff.rfl) (h.imp λx h=>h.imp λy d=>?_);obtain⟨i,j,s,n,l,f⟩:=d;subst s n;intro F σ H w v R m t u k;cases t.int_inv;cases u.int_inv;exact⟨i,j,rfl,rfl,l,k _ _ H f m.tp Kz.refl (r _ i j)⟩
def gX {op:Operator}{g:Int->Int->V}{gd:Int->Int->Aa}(n:OpR X (binaryOp op) (rI0 g))(o:∀H i j,AV H (g i j) (gd i j))
  (h:EvD X L a λx=>EvD X L b λy=>∃i j,x=.int i/\y=.int j/\Q (gd i j)):EvD X L (.BinOp a op b pos) Q:=by
 refine qv (xA n zi zi) (λ_ _ _=>Iff.rfl) (h.imp λx h=>h.imp λy d=>?_);obtain⟨i,j,r,l,f⟩:=d;subst r l;intro F σ H v u R m s t k;cases s.int_inv;cases t.int_inv;exact⟨i,j,rfl,rfl,k _ _ H f m.tp Kz.refl (o _ i j)⟩
def yt (h:EvD X L a λx=>EvD X L b λy=>∃i j,x=.int i/\y=.int j/\Q (.int (i+j))):EvD X L (.BinOp a .Add b pos) Q:=gX oR (λ_ _ _=>.int _) h
def qp (h:EvD X L a λx=>EvD X L b λy=>∃i j,x=.int i/\y=.int j/\Q (.int (i-j))):EvD X L (.BinOp a .Sub b pos) Q:=gX bu (λ_ _ _=>.int _) h
def ou (h:EvD X L a λx=>EvD X L b λy=>∃i j,x=.int i/\y=.int j/\zi5 i j/\Q (.int (i*j))):EvD X L (.BinOp a .Mult b pos) Q:=oP (gd:=λi j=>.int (i*j)) pO (λ_ _ _=>.int _) h
def zs6 (h:EvD X L a λx=>EvD X L b λy=>∃i j,x=.int i/\y=.int j/\zo6 i j/\Q (.int (i ^ j.toNat))):EvD X L (.BinOp a .Pow b pos) Q:=oP zr6 (λ_ _ _=>.int _) h
def jC (h:EvD X L a λx=>EvD X L b λy=>∃i j,x=.int i/\y=.int j/\0<j/\Q (.int (i % j))):EvD X L (.BinOp a .Mod b pos) Q:=oP (gd:=λi j=>.int (i % j)) qc (λ_ _ _=>.int _) h
def gG (h:EvD X L a λx=>EvD X L b λy=>∃i j,x=.int i/\y=.int j/\zn8 i j/\Q (.int (i / j))):EvD X L (.BinOp a .FloorDiv b pos) Q:=oP (gd:=λi j=>.int (i / j)) rH (λ_ _ _=>.int _) h
def xE {i j r:Int}{g d:Pos}{n1 n2:Nat}(f:zo6 i j)(hr:i ^ j.toNat=r)(q:Q (.int r)):EvD X L (.BinOp (.Constant (.int i) n1 g) .Pow (.Constant (.int j) n2 d) pos) Q:=
 zs6 (zf (zf ⟨i,j,rfl,rfl,f,hr▸q⟩))
def jz (h:EvD X L a λx=>∃i,x=.int i/\Q (.int (-i))):EvD X L (.UnaryOp .USub a pos) Q:=λF σ H R m k=>by
 refine⟨_,zy3 zv8 zi,h F σ H _ m λx g H1 f t1 k1 d=>?_⟩;obtain⟨i,rfl,q⟩:=f;cases d.int_inv;exact⟨i,rfl,k _ _ H1 q t1 k1 (.int _)⟩
def dS :Aa->Bool
 |.none=>true
 |_=>false
def AV.non_iff {H:Hp}{v:V}{d:Aa}(h:AV H v d):decide (v=.non)=dS d:=by cases h<;>simp[dS]
def xI {Q:Bool->Prop}(h:EvD X L e λx=>∃k,x=.bool k/\Q k)(he:∀whole,isTrue e X.env whole=(do let v <-whole;standAt e.pos;holding [v] (truthy v)):=by intro _;rfl):EvT X L e Q:=λF σ H R m k=>by
 refine⟨_,iw zi he,h F σ H _ m λx g H1 f t1 k1 d=>?_⟩;obtain⟨b,rfl,q⟩:=f;cases d.bl_inv;exact⟨b,rfl,k b H1 q t1 k1⟩
def Cmp (r:R2)(x y:Aa)(k:Bool):Prop:=∀(p:Ab->Prop) (H:Hp) (f d:V) (R:VK),AV (sub p H) f x->AV (sub p H) d y->R (.bl k) H->r f d H R
def ua {op:CmpOp}{r:R2}{Q:Bool->Prop}(n:OpR X (compareOp op) r)(hm:behindInMarks op b=false)(h:EvD X L a λx=>EvD X L b λy=>∃k,Cmp r x y k/\Q k):EvT X L (.Compare a [op] [b] pos) Q:=λF σ H R m k=>by
 refine⟨_,yH n zi zi hm,h F σ H _ m λx l H1 t t1 k1 f=>?_⟩;have m1:=m.kz k1 t1;refine t F σ H1 _ m1 λy i d s g k2 o=>?_;obtain⟨b,j,q⟩:=s;exact j _ d l i _ (f.same (k2.gz m1.tp)) o ⟨b,rfl,k b d q g (k1.trans k2)⟩
def ze1 {g:Int->Int->Bool}{i j:Int}:Cmp (rI0 λi j=>.bl (g i j)) (.int i) (.int j) (g i j):=λp H l k R d f h=>by
 cases d.int_inv;cases f.int_inv;exact⟨i,j,rfl,rfl,h⟩
def nG {op:CmpOp}{g:Int->Int->Bool}{Q:Bool->Prop}(k:OpR X (compareOp op) (rI0 λi j=>.bl (g i j)))(hm:behindInMarks op b=false)
  (h:EvD X L a λx=>EvD X L b λy=>∃i j,x=.int i/\y=.int j/\Q (g i j)):EvT X L (.Compare a [op] [b] pos) Q:=
 ua k hm (h.imp λx h=>h.imp λy d=>by obtain⟨i,j,l,f,q⟩:=d;exact⟨_,by subst l f;exact ze1,q⟩)
def zn2 {Q:Bool->Prop}(h:EvD X L a λx=>EvD X L b λy=>∃i j,x=.int i/\y=.int j/\Q (decide (i<j))):EvT X L (.Compare a [.Lt] [b] pos) Q:=nG zD2 (yc _) h
def pf {Q:Bool->Prop}(h:EvD X L a λx=>EvD X L b λy=>∃i j,x=.int i/\y=.int j/\Q (decide (j<i))):EvT X L (.Compare a [.Gt] [b] pos) Q:=nG zl7 (yc _) h
def zm0 {Q:Bool->Prop}(h:EvD X L a λx=>EvD X L b λy=>∃i j,x=.int i/\y=.int j/\Q (decide (j<=i))):EvT X L (.Compare a [.GtE] [b] pos) Q:=nG zB2 (yc _) h
def vf {j:Nat}{Q:Bool->Prop}(h:EvD X L a λx=>Q (dS x)):EvT X L (.Compare a [.Is] [.Constant .none j p] pos) Q:=
 ua ko (yc _) (h.imp λx h=>yD ⟨_,λp H i g R d f z=>⟨f.non_inv,by rw[d.non_iff];exact z⟩,h⟩)
def vj {Q:Bool->Prop}(h:EvT X L a λk=>Q (!k)):EvT X L (.UnaryOp .Not a pos) Q:=λF σ H R m k=>by exact⟨_,iA xB,h F σ H _ m λb H1 d t1 k1=>k _ H1 d t1 k1⟩
def EvW (X:Cx)(L:Ev)(e:Ai)(Q:Bool->Prop):Prop:=∀(F:Fr) (σ:St) (H:Hp) (R:Bool->Hp->Prop),M F L σ H->(∀b H',Q b->zH F H'->Kz F H H'->R b H')->∃t,PW X e t/\t σ H R
def zE8 (X:Cx)(e:Ai):TT:=λσ H Q=>∃t,PW X e t/\t σ H Q
def gg :PW X e (zE8 X e):=λw pins s σ H Q I d=>by obtain⟨t,p,q⟩:=d;exact p w pins s σ H Q I q
theorem EvW.t {Q:Bool->Prop}(h:EvW X L e Q):EvT X L e Q:=λF σ H R m k=>by
 obtain⟨t,p,q⟩:=h F σ H R m k;exact⟨t,p.pt,q⟩
variable {rest:List Ai}
def oh {Q:Bool->Prop}(h:EvT X L a Q):EvW X L (.BoolOp .And [a] pos) Q:=λF σ H R m k=>⟨_,zj1 xB,h F σ H R m k⟩
def uB {Q:Bool->Prop}(h:EvT X L a Q):EvW X L (.BoolOp .Or [a] pos) Q:=λF σ H R m k=>⟨_,jN xB,h F σ H R m k⟩
theorem ku {Q:Bool->Prop}(h:EvT X L a λk=>if k=true then EvW X L (.BoolOp .And (b::rest) pos) Q else Q false):EvW X L (.BoolOp .And (a::b::rest) pos) Q:=λF σ H R m k=>by
 refine⟨_,zp1 xB gg,h F σ H _ m λc H1 d t1 k1=>?_⟩;cases c with
 |true=>exact uv ((by simpa using d:EvW X L _ Q) F σ H1 R (m.kz k1 t1) λb g i f k2=>k b g i f (k1.trans k2))
 |false=>exact vR (k _ H1 (by simpa using d) t1 k1)
theorem rZ {Q:Bool->Prop}(h:EvT X L a λk=>if k=true then Q true else EvW X L (.BoolOp .Or (b::rest) pos) Q):EvW X L (.BoolOp .Or (a::b::rest) pos) Q:=λF σ H R m k=>by
 refine⟨_,bh xB gg,h F σ H _ m λc H1 d t1 k1=>?_⟩;cases c with
 |false=>exact vR ((by simpa using d:EvW X L _ Q) F σ H1 R (m.kz k1 t1) λb g i f k2=>k b g i f (k1.trans k2))
 |true=>exact uv (k _ H1 (by simpa using d) t1 k1)
def og {op}(h:EvD X L a Q):EvD X L (.BoolOp op [a] pos) Q:=λF σ H R m k=>⟨_,xR zi,h F σ H R m k⟩
theorem nI (h:EvD X L a λx=>∃k,x=.bool k/\if k=true then EvD X L (.BoolOp .And (b::rest) pos) Q else Q (.bool false)):EvD X L (.BoolOp .And (a::b::rest) pos) Q:=λF σ H R m k=>by
 refine⟨_,xq zi zi,h F σ H _ m λx o H1 f t1 k1 g=>?_⟩;obtain⟨c,rfl,f⟩:=f;cases g.bl_inv;refine⟨c,rfl,?_⟩;cases c with
 |true=>exact uv (by simpa using f F σ H1 R (m.kz k1 t1) λd v j n i k2 l=>k d v j n i (k1.trans k2) l)
 |false=>exact vR (k _ _ H1 (by simpa using f) t1 k1 (.bl _))
def cT (h:EvD X L a λx=>∃k,x=.bool k/\Q (.bool (!k))):EvD X L (.UnaryOp .Not a pos) Q:=λF σ H R m k=>by
 refine⟨_,bX zi,h F σ H _ m λx g H1 f t1 k1 d=>?_⟩;obtain⟨c,rfl,q⟩:=f;cases d.bl_inv;exact⟨c,rfl,k _ _ H1 q t1 k1 (.bl _)⟩
theorem qC (h:EvT X L c λk=>if k=true then EvD X L a Q else EvD X L b Q):EvD X L (.IfExp c a b pos) Q:=λF σ H R m k=>by
 refine⟨_,cj xB zi zi,h F σ H _ m λx H1 l t1 k1=>?_⟩;cases x with
 |true=>exact uv (by simpa using l F σ H1 R (m.kz k1 t1) λd v g j f k2 i=>k d v g j f (k1.trans k2) i)
 |false=>exact vR (by simpa using l F σ H1 R (m.kz k1 t1) λd v g j f k2 i=>k d v g j f (k1.trans k2) i)
def uI (t:sY b)(h:EvD X L a λx=>EvD X L b λy=>∃ds i d,x=.list ds/\y=.int i/\atI ds i=some d/\Q d):EvD X L (.Subscript a b pos) Q:=by
 refine qv (f:=tOp (zr9 X.K)) (yJ xX zi zi t) (λ_ _ _=>Iff.rfl) (h.imp λx h=>h.imp λy g=>?_);obtain⟨ds,i,d,u,s,j,n⟩:=g;subst u s;intro F σ H B A R m w z k;obtain⟨a,xs,rfl,o,l⟩:=w.lst_inv;cases z.int_inv;obtain⟨v,r,av⟩:=l.atI j;exact⟨a,xs,i,v,rfl,rfl,SqL.of (zg o).2,r,k d v H n m.tp Kz.refl av⟩
def EvO (X:Cx)(L:Ev)(e:Option Ai)(Q:Option Int->Prop):Prop:=∀(F:Fr) (σ:St) (H:Hp) (R:Option Int->Hp->Prop),M F L σ H->(∀i H',Q i->zH F H'->Kz F H H'->R i H')->∃t,PO X e t/\t σ H R
def zE1 (X:Cx)(e:Option Ai):TO:=λσ H Q=>∃t,PO X e t/\t σ H Q
def sR {e:Option Ai}:PO X e (zE1 X e):=λpins s σ H Q I d=>by obtain⟨t,p,q⟩:=d;exact p pins s σ H Q I q
def xT {Q:Option Int->Prop}(q:Q none):EvO X L none Q:=λF σ H R m k=>⟨_,gP,k _ H q m.tp Kz.refl⟩
def xY {Q:Option Int->Prop}(h:EvD X L a λx=>∃i,x=.int i/\Q (some i)):EvO X L (some a) Q:=λF σ H R m k=>by
 refine⟨_,gZ zi,h F σ H _ m λx g H1 f t1 k1 d=>?_⟩;obtain⟨i,rfl,q⟩:=f;cases d.int_inv;exact⟨i,rfl,k _ H1 q t1 k1⟩
def M.lay {F:Fr}{σ:St}{H:Hp}{l:Ab}{xs:List V}{ds:List Aa}(m:M F L σ H)(d:H l=none)(h:AVs (Gz F L σ H) xs ds):zH F (upd H l (.lst xs))/\Kz F H (upd H l (.lst xs))/\yQ F L σ H (.ref l) (upd H l (.lst xs)) ds:=by
 refine⟨m.tp.same (zV d),Kz.of_same (zV d),l,xs,rfl,d,zk,h.same (zj λa o ha e=>?_)⟩;have:=zq e d;exact⟨⟨ha,this⟩,by rw[zm this];exact e⟩
theorem qg {lo hi:Option Ai}{Q:List Aa->Prop}(h:EvD X L a λx=>EvO X L lo λl=>EvO X L hi λu=>∃ds,x=.list ds/\Q (cutD ds l u)):EvL X L (.Subscript a (.Slice lo hi none p) pos) Q:=λF σ H R m k=>by
 refine⟨_,rA iJ zi sR sR,h F σ H _ m λx D H1 s t1 k1 j=>?_⟩;have m1:=m.kz k1 t1;refine s F σ H1 _ m1 λl w C n k2=>?_;have m2:=m1.kz k2 n;refine C F σ w _ m2 λu E A t3 k3=>?_;have m3:=m2.kz k3 t3;obtain⟨ds,rfl,q⟩:=A;obtain⟨a,xs,rfl,v,t⟩:=(j.same ((k2.gz m1.tp).trans (k3.gz m2.tp))).lst_inv;refine⟨a,xs,rfl,SqL.of (zg v).2,λp hp=>?_⟩;obtain⟨g1,g2,g3⟩:=m3.lay hp (t.cut l u);have i:=(k1.trans k2).trans k3;obtain⟨d,g,B,f,y,r⟩:=g3;refine k _ _ _ q g1 (i.trans g2) ⟨d,g,B,?_,y,r⟩;cases z:H d with
 |none=>rfl
 |some o=>rw[i d o z (m.tp.nt (ow0 (m3.fresh f)))]at f;cases f
theorem yQ.back {F:Fr}{σ:St}{H H1 H':Hp}{v:V}{ds:List Aa}(m:M F L σ H)(k:Kz F H H1)(t1:zH F H1)(h:yQ F L σ H1 v H' ds):yQ F L σ H v H' ds:=by
 obtain⟨d,g,l,f,i,j⟩:=h;refine⟨d,g,l,?_,i,j⟩;cases z:H d with
 |none=>rfl
 |some o=>rw[k d o z (m.tp.nt (ow0 ((m.kz k t1).fresh f)))]at f;cases f
def ze {Q:List A->Prop}(q:Q []):EvA X L [] Q:=λF σ H R m k=>⟨_,zy,k _ _ H q m.tp Kz.refl .nil⟩
def zb {Q:List A->Prop}(h:EvD X L e λd=>EvA X L es λas=>Q (.dat d::as))(j:Ad (e::es) X.env=(false,eval e X.env)::Ad es X.env:=by rfl):EvA X L (e::es) Q:=λF σ H R m k=>by
 refine⟨_,zh zi zY j,h F σ H _ m λd v H1 o t1 k1 f=>?_⟩;have m1:=m.kz k1 t1;exact o F σ H1 _ m1 λas vs i n g k2 l=>k _ _ i n g (k1.trans k2) (.cons (f.same (k2.gz m1.tp)) l)
def zB {Q:List A->Prop}(i:Nat){x:Str}(hi:L[i]?=some (some .tape))(h:EvA X L es λas=>Q (.tape::as))(r:X.N[i]?=some x:=by rfl)(n:Vis X.env.scope x:=by first|exact Or.inl rfl|exact Or.inr (Or.inl rfl)|exact Or.inr (Or.inr rfl))
  (hd:(x == ("__debug__":Str))=false:=by decide) (d:(x == ("__classdict__":Str))=false:=by decide) (o:Ad (.Name x pos::es) X.env=(false,eval (.Name x pos) X.env)::Ad es X.env:=by rfl):EvA X L (.Name x pos::es) Q:=λF σ H R m k=>by
 obtain⟨t,b,c,j,g⟩:=m.tvar i hi;exact⟨_,zh (zT r n hd d) zY o,.ref t,g,h F σ H _ m λas vs l u f k2 s=>k _ _ l u f k2 (.cons ⟨t,b,c,j,rfl⟩ s)⟩
def datas :List A->Option (List Aa)
 |[]=>some []
 |.dat d::r=>(datas r).map (d::·)
 |_::_=>none
theorem zS.datas {F:Fr}{G:Hp}{vs:List V}{as:List A}{ds:List Aa}(h:zS F G vs as)(e:L2.datas as=some ds):AVs G vs ds:=by
 induction h generalizing ds with
 |nil=>cases e;exact .nil
 |@cons _ _ a as h _ ih=>
  cases a with
  |dat d=>
   obtain⟨es,f,rfl⟩:=zL3.mp e;exact .cons h (ih f)
  |tape=>cases e
  |_=>exact h.elim
def zU {n:Nat}(h:EvA X L es λas=>∃ds,datas as=some ds/\ds.length<=1000/\Q (.tuple ds)):EvD X L (.Tuple es n pos) Q:=λF σ H R m k=>by
 refine⟨_,tP zY,h F σ H _ m λas vs H1 f t1 k1 d=>?_⟩;obtain⟨ds,e,g,q⟩:=f;have r:=d.datas e;refine⟨by rw[r.length];exact zM5 (yx g),λp hp=>?_⟩;refine k _ _ _ q (t1.same (zV hp)) (k1.trans (Kz.of_same (zV hp))) (.tup (zw ((m.kz k1 t1).fresh hp) zk) (r.same (zj λa o ha e=>⟨ha,by rw[zm (zq e hp)];exact e⟩)))
def zR {Q:List Aa->Prop}(h:EvA X L es λas=>∃ds,datas as=some ds/\ds.length<=1000/\Q ds):EvL X L (.List es pos) Q:=λF σ H R m k=>by
 refine⟨_,oB zY,h F σ H _ m λas vs H1 f t1 k1 d=>?_⟩;obtain⟨ds,e,g,q⟩:=f;have r:=d.datas e;refine⟨by rw[r.length];exact zM5 (yx g),λp hp=>?_⟩;obtain⟨g1,g2,g3⟩:=(m.kz k1 t1).lay hp r;exact k _ _ _ q g1 (k1.trans g2) (g3.back m k1 t1)
def xF {Q:List Aa->Prop}(h:EvD X L a λx=>EvD X L b λy=>∃ds es,x=.list ds/\y=.list es/\ds.length+es.length<=1000/\Q (ds++es)):EvL X L (.BinOp a .Add b pos) Q:=λF σ H R m k=>by
 refine⟨_,xA aA zi zi,h F σ H _ m λx u H1 j t1 k1 i=>?_⟩;have m1:=m.kz k1 t1;refine j F σ H1 _ m1 λy v w t d k2 s=>?_;obtain⟨ds,es,rfl,rfl,l,q⟩:=t;obtain⟨a,xs,rfl,o,g⟩:=(i.same (k2.gz m1.tp)).lst_inv;obtain⟨b,n,rfl,r,f⟩:=s.lst_inv;refine⟨a,b,xs,n,rfl,rfl,(zg o).2,(zg r).2,by rw[g.length,f.length];exact zM5 (yx l),λp hp=>?_⟩;obtain⟨g1,g2,g3⟩:=(m1.kz k2 d).lay hp (g.append f);exact k _ _ _ q g1 ((k1.trans k2).trans g2) (g3.back m (k1.trans k2) d)
def rQ {id:String}{x:Str}{r:List V->Hp->VK->Prop}(j:wO X (.builtin id) r)(n:Gl X x)(hm:X.mg x=none)(l:bootBuiltins x=some (.builtin id))
  (h:EvA X L (e::es) λas=>∀(F:Fr) (σ:St) (H:Hp) (vs:List V) (R:VK),M F L σ H->zS F (Gz F L σ H) vs as->(∀d v H',Q d->zH F H'->Kz F H H'->AV (Gz F L σ H') v d->R v H')->r vs H R)
  (hn:x≠"__name__":=by decide) (f:(x == ("__debug__":Str))=false:=by decide) (he:Ad (e::es) X.env=(false,eval e X.env)::Ad es X.env:=by rfl) (hpl:(backTo pos (Ad es X.env)).any (·.1)=false:=by rfl):
  EvD X L (.Call (.Name x p) (e::es) [] pos) Q:=λF σ H R m k=>by
 refine⟨_,yK j n hm l zY hn f he hpl,h F σ H _ m λas vs H1 t t1 k1 g=>?_⟩;exact t F σ H1 vs R (m.kz k1 t1) g λd v H' o i k2 s=>k d v H' o i (k1.trans k2) s
end
section
variable {X:Cx}{L:Ev}{e a b c:Ai}{es:List Ai}{pos p q:Pos}{Q:Aa->Prop}
def zS.one {F:Fr}{G:Hp}{vs:List V}{d:Aa}(h:zS F G vs [.dat d]):∃v,vs=[v]/\AV G v d:=by
 cases h with|cons h r=>cases r;exact⟨_,rfl,h⟩
def zS.two {F:Fr}{G:Hp}{vs:List V}{d e:Aa}(h:zS F G vs [.dat d,.dat e]):∃v u,vs=[v,u]/\AV G v d/\AV G u e:=by
 cases h with|cons h r=>obtain⟨u,rfl,f⟩:=r.one;exact⟨_,u,rfl,h,f⟩
def zH6 :Aa->Option Int
 |.list ds=>some ds.length
 |.tuple ds=>some ds.length
 |_=>none
theorem xj (l:Gl X "len")(hm:X.mg "len"=none)(h:EvD X L e λx=>∃n,zH6 x=some n/\Q (.int n))(he:Ad [e] X.env=(false,eval e X.env)::Ad [] X.env:=by rfl):
  EvD X L (.Call (.Name "len" p) [e] [] pos) Q:=by
 refine rQ vw l hm PySem.boot_len (zb (h.imp λx g=>?_) he) (he:=he);obtain⟨n,i,q⟩:=g;refine ze ?_;intro F σ H vs R m j k;obtain⟨v,rfl,av⟩:=j.one;cases av with
 |lst f d=>cases i;rw[<-d.length]at q;exact⟨_,_,rfl,.inl (SqL.of (zg f).2),k _ _ H q m.tp Kz.refl (.int _)⟩
 |tup f d=>cases i;rw[<-d.length]at q;exact⟨_,_,rfl,.inr (SqT.of (zg f).2),k _ _ H q m.tp Kz.refl (.int _)⟩
 |_=>cases i
def bH (g:X.calm=true)(r:Gl X "max")(hm:X.mg "max"=none)(h:EvD X L a λx=>EvD X L b λy=>∃i j,x=.int i/\y=.int j/\Q (.int (if j > i then j else i)))
  (he:Ad [a,b] X.env=(false,eval a X.env)::Ad [b] X.env:=by rfl) (f:Ad [b] X.env=(false,eval b X.env)::Ad [] X.env:=by rfl) (hpl:(backTo pos (Ad [b] X.env)).any (·.1)=false:=by rfl):
  EvD X L (.Call (.Name "max" p) [a,b] [] pos) Q:=by
 refine rQ (eZ g) r hm boot_max (zb (h.imp λx h=>zb (h.imp λy d=>?_) f) he) (he:=he) (hpl:=hpl);obtain⟨i,j,s,n,q⟩:=d;refine ze ?_;intro F σ H vs R m l k;subst s n;obtain⟨v,u,rfl,av,o⟩:=l.two;cases av.int_inv;cases o.int_inv;exact⟨i,j,rfl,k _ _ H q m.tp Kz.refl (.int _)⟩
def kJ (g:X.calm=true)(r:Gl X "min")(hm:X.mg "min"=none)(h:EvD X L a λx=>EvD X L b λy=>∃i j,x=.int i/\y=.int j/\Q (.int (if j<i then j else i)))
  (he:Ad [a,b] X.env=(false,eval a X.env)::Ad [b] X.env:=by rfl) (f:Ad [b] X.env=(false,eval b X.env)::Ad [] X.env:=by rfl) (hpl:(backTo pos (Ad [b] X.env)).any (·.1)=false:=by rfl):
  EvD X L (.Call (.Name "min" p) [a,b] [] pos) Q:=by
 refine rQ (dI g) r hm boot_min (zb (h.imp λx h=>zb (h.imp λy d=>?_) f) he) (he:=he) (hpl:=hpl);obtain⟨i,j,s,n,q⟩:=d;refine ze ?_;intro F σ H vs R m l k;subst s n;obtain⟨v,u,rfl,av,o⟩:=l.two;cases av.int_inv;cases o.int_inv;exact⟨i,j,rfl,k _ _ H q m.tp Kz.refl (.int _)⟩
def uN {T:String}{x:Str}{d:Pos}(s:Gl X "isinstance")(hm:X.mg "isinstance"=none)(i:Gl X x)(g:X.mg x=none)(o:bootBuiltins x=some (.type T))
  (h:EvD X L a λx=>∃k,x.hasDict=false/\qH T x=some k/\Q (.bool k)) (f:x≠"__name__":=by decide) (l:(x == ("__debug__":Str))=false:=by decide)
  (he:Ad [a,.Name x d] X.env=(false,eval a X.env)::Ad [.Name x d] X.env:=by rfl) (j:Ad [.Name x d] X.env=(false,eval (.Name x d) X.env)::Ad [] X.env:=by rfl) (hpl:(backTo pos (Ad [.Name x d] X.env)).any (·.1)=false:=by rfl):
  EvD X L (.Call (.Name "isinstance" p) [a,.Name x d] [] pos) Q:=λF σ H R m k=>by
 refine⟨_,yK we s hm zQ0 (zh zi (zh (vd i g o (show RelV (.ty T) (.type T)from rfl) f l) zy j) he) (he:=he),h F σ H _ m λx r H1 t t1 k1 n=>?_⟩;obtain⟨b,hd,e,q⟩:=t;exact⟨r,T,x,b,rfl,(n.dv hd).same wM,e,k _ _ H1 q t1 k1 (.bl b)⟩
def tL :Aa->Option (List Aa)
 |.list ds=>some ds
 |.tuple ds=>some ds
 |_=>none
theorem sS {Q:List Aa->Prop}(j:Gl X "list")(hm:X.mg "list"=none)(h:EvD X L e λx=>∃ds,tL x=some ds/\Q ds)(he:Ad [e] X.env=(false,eval e X.env)::Ad [] X.env:=by rfl):
  EvL X L (.Call (.Name "list" p) [e] [] pos) Q:=λF σ H R m k=>by
 refine⟨_,qS pH j hm boot_list (zh zi zy he) (he:=he),?_⟩;refine h F σ H _ m λx r H1 n t1 k1 i=>?_;obtain⟨ds,g,q⟩:=n;have m1:=m.kz k1 t1;have fin:∀{xs:List V},AVs (Gz F L σ H1) xs ds->∀l,H1 l=none->R (.ref l) (upd H1 l (.lst xs)):=λ{xs} d l o=>by
  obtain⟨g1,g2,g3⟩:=m1.lay o d;exact k _ _ _ q g1 (k1.trans g2) (g3.back m k1 t1)
 cases i with
 |lst f d=>cases g;exact⟨_,_,rfl,.inl (SqL.of (zg f).2),fin d⟩
 |tup f d=>cases g;exact⟨_,_,rfl,.inr (SqT.of (zg f).2),fin d⟩
 |_=>cases g
theorem AVs.bools {H:Hp}{xs:List V}{bs:List Bool}(h:AVs H xs (bs.map .bool)):xs=bs.map V.bl:=by
 induction bs generalizing xs with
 |nil=>cases h;rfl
 |cons n ns f=>cases h with
  |cons h d=>rw[zL7,f d,h.bl_inv]
section
variable {k:Nat}{f:Ab}{fd:Ag}{ps:List Str}{φ:List A->(A->Prop)->Prop}{x:Str}
def wk {F:Fr}{σ:St}{H:Hp}{vs:List V}{as:List A}{QA:A->Prop}{R:VK}(m:M F L σ H)(h:zS F (Gz F L σ H) vs as)(d:φ as QA)
  (g:∀a v H',QA a->yf ⟨H,Ow F L σ,F.tp⟩ v H' a->R v H') {E:XK}:spA φ (vs++[]) H R E:=by
 refine⟨⟨H,Ow F L σ,F.tp⟩,as,QA,rfl,?_,?_,?_,d,g⟩
 .exact m.tp.to rfl λ_ z=>.inl z
 .exact λy z=>m.owEx z
 .rw[zJ5];exact zS.to (F:=F) (F':=⟨H,Ow F L σ,F.tp⟩) (λ_ _ e=>e) rfl h
theorem yf.back {F:Fr}{σ:St}{H H':Hp}{v:V}{a:A}(m:M F L σ H)(h:yf ⟨H,Ow F L σ,F.tp⟩ v H' a):zH F H'/\Kz F H H'/\AV (Gz F L σ H') v a.d:=by
 obtain⟨t,kz,r⟩:=h;refine⟨m.tp.re t rfl,kz,?_⟩;cases a with
 |dat d=>exact r
 |ow c=>
  obtain⟨l,xs,ds,rfl,rfl,n,g,i,j⟩:=r;exact .lst (zw g i) (j.same (zj λa o h e=>⟨h.1,e⟩))
 |deep d S=>
  obtain⟨n,g⟩:=r;refine n.same λx o e=>?_;rcases vY e with⟨w,z2⟩|⟨_,z2⟩
  .exact zw (g x w).1 z2
  .exact z2
 |tape=>exact r.elim
 |«at» _=>exact r.elim
 |exc _ _=>exact r.elim
 |pin _ _ _=>exact r.elim
 |nst l ls dss=>
  obtain⟨rfl,g,i,j,s⟩:=r;exact .lst (zw (s l zK2).1 g) (i.avs (zj λa o h e=>⟨h.1,e⟩) λa ha=>(s a (zI6 _ ha)).1)
 |inn _=>exact r.elim
 |res d u=>exact AV.same (zj λa o h e=>⟨h.1,e⟩) r.1
def zd8 (G:zG X.prog X.w X.K X.mg X.base CX0 k f fd ps (spA φ))(hr:zO k X.A)(o:Gl X x)(hm:X.mg x=some (.ref f))(hk:PySem.W.keepIn X.K (.ref f)=true)(n:Binds X.K fd ps [])
  (h:EvA X L (e::es) λas=>φ as λa=>Q a.d) (g:(x == ("__debug__":Str))=false:=by decide) (he:Ad (e::es) X.env=(false,eval e X.env)::Ad es X.env:=by rfl) (hpl:(backTo pos (Ad es X.env)).any (·.1)=false:=by rfl):
  EvD X L (.Call (.Name x p) (e::es) [] pos) Q:=λF σ H R m i=>by
 refine⟨_,yb G hr o hm hk n .nil zX zY g he hpl,h F σ H _ m λas vs H1 s t1 k1 j=>?_⟩;have m1:=m.kz k1 t1;refine wk m1 j s λa v H' r l=>?_;obtain⟨g1,g2,g3⟩:=l.back m1;exact i _ v H' r g1 (k1.trans g2) g3
def ze5 {Q:List Aa->Prop}(G:zG X.prog X.w X.K X.mg X.base CX0 k f fd ps (spA φ))(hr:zO k X.A)(y:Gl X x)(hm:X.mg x=some (.ref f))(hk:PySem.W.keepIn X.K (.ref f)=true)(u:Binds X.K fd ps [])
  (h:EvA X L (e::es) λas=>φ as λa=>∃ds,a=.own ds/\Q ds) (d:(x == ("__debug__":Str))=false:=by decide) (he:Ad (e::es) X.env=(false,eval e X.env)::Ad es X.env:=by rfl) (hpl:(backTo pos (Ad es X.env)).any (·.1)=false:=by rfl):
  EvL X L (.Call (.Name x p) (e::es) [] pos) Q:=λF σ H R m i=>by
 refine⟨_,yb G hr y hm hk u .nil zX zY d he hpl,h F σ H _ m λas vs H1 o t1 k1 j=>?_⟩;have m1:=m.kz k1 t1;refine wk m1 j o λa v H' z g=>?_;obtain⟨ds,rfl,q⟩:=z;obtain⟨g1,g2,_⟩:=g.back m1;obtain⟨_,_,l,xs,B,rfl,s,r,C,t,n⟩:=g;cases s;exact i ds _ H' q g1 (k1.trans g2) (yQ.back m k1 t1 ⟨l,xs,rfl,r,t,n⟩)
end
def get_set {i:Nat}{x:Option A}(h:∃y,L[i]?=some y):(L.set i x)[i]?=some x:=by
 obtain⟨y,h⟩:=h;rw[zJ9 (zH9.mp h).1]
def jx {i j:Nat}{x:Option A}(h:i≠j):(L.set i x)[j]?=L[j]?:=zI4 h
def zA {i:Nat}{x:Option A}{j:Nat}{y:Option A}(h:(L.set i x)[j]?=some y):(i=j/\x=y)\/(i≠j/\L[j]?=some y):=by
 by_cases d:i=j
 .subst d;left;have f:i<L.length:=by
   have:=(zH9.mp h).1
   rwa [zK0]at this
  rw[zJ9 f]at h;exact⟨rfl,zL2 h⟩
 .right;rw[zI4 d]at h;exact⟨d,h⟩
def M.put {F:Fr}{σ:St}{H:Hp}{i:Nat}{b:Option A}(m:M F L σ H)(hf:∀s c x,σ[i]?=some s->b=some c->foot s c x->∃a,L[i]?=some (some a)/\foot s a x)
  (hok:∀s c,i<L.length->σ[i]?=some s->b=some c->wt (Gz F (L.set i b) σ H) F H s c) (D:∀c,b=some c->noX c:=by intro c z;cases z;trivial):zu (Gz F L σ H) (Gz F (L.set i b) σ H)/\M F (L.set i b) σ H:=by
 have B:zu (Gz F L σ H) (Gz F (L.set i b) σ H):=zj λa o h e=>⟨λz=>h (by
  rcases z with z|⟨j,c,s,u,g,f⟩
  .exact .inl z
  .rcases zA u with⟨rfl,z⟩|⟨C,n⟩
   .obtain⟨v,y,w⟩:=hf s c a g z f;exact .inr ⟨i,v,s,y,g,w⟩
   .exact .inr ⟨j,c,s,n,g,f⟩),e⟩
 have old:∀{j:Nat} {c:A} {s:Option V} {x:Ab},(L.set i b)[j]?=some (some c)->σ[j]?=some s->foot s c x->∃a,L[j]?=some (some a)/\foot s a x:=λ{j c s x} u g f=>by
  rcases zA u with⟨rfl,z⟩|⟨C,n⟩
  .exact hf s c x g z f
  .exact⟨c,n,f⟩
 refine⟨B,by rw[zK0];exact m.len,λj c s u g=>?_,λj k c d s t x u g y w f1 f2=>?_,λj r q e G c s x u g f=>?_,m.tp,m.keep,m.oex⟩
 .rcases zA u with⟨rfl,z⟩|⟨C,n⟩
  .refine hok s c ?_ g z;have:=(zH9.mp u).1
   rwa [zK0]at this
  .exact(m.ok j c s n g).stay B (λx o f e=>⟨e,(m.ft n g f).1,(m.ft n g f).2.1⟩) rfl λ_ _ _ l=>l
 .obtain⟨v,g1,g2⟩:=old u y f1;obtain⟨J,g3,E⟩:=old g w f2;exact m.dj j k v J s t x g1 g3 y w g2 E
 .obtain⟨v,g1,g2⟩:=old u g f;rcases zA e with⟨rfl,z⟩|⟨_,I⟩
  .exact(D _ z).elim
  .exact m.xd j r q I G v s x g1 g g2
def M.gave {F:Fr}{σ:St}{H:Hp}{i:Nat}{a:A}{s:Option V}{b:Option A}{x:Ab}(m:M F L σ H)(l:L[i]?=some (some a))(k:σ[i]?=some s)(f:foot s a x)(o:∀c,b=some c->¬foot s c x):¬Ow F (L.set i b) σ x:=by
 rintro(z|⟨j,c,t,n,d,g⟩)
 .exact(m.ft l k f).1 z
 .rcases zA n with⟨rfl,z⟩|⟨r,h⟩
  .rw[k]at d;cases d;exact o c z g
  .exact r (m.dj i j a c s t x l h k d f g)
def zo9 {F:Fr}{σ:St}{H:Hp}{i:Nat}{b:A}(g:∀s x,¬foot s b x):zu (Gz F L σ H) (Gz F (L.set i (some b)) σ H):=zj λa o h e=>⟨λz=>h (by
 rcases z with z|⟨j,c,s,l,k,f⟩
 .exact .inl z
 .rcases zA l with⟨rfl,z⟩|⟨m,d⟩
  .cases z;exact(g _ _ f).elim
  .exact .inr ⟨j,c,s,d,k,f⟩),e⟩
def M.frz {F:Fr}{σ:St}{H:Hp}{i:Nat}{ds:List Aa}(m:M F L σ H)(hi:L[i]?=some (some (.own ds))):M F (L.set i (some (.dat (.list ds)))) σ H:=
 (m.put (λs k x _ z f=>by cases z;exact f.elim) λs k _ g z=>by
  cases z;obtain⟨l,o,d,h,j,n,r⟩:=m.owc i _ hi;rw[d]at g;cases g;exact⟨.ref l,rfl,(j.same (zo9 (b:=.dat (.list ds)) λ_ _ f=>f)).av (zw (m.gave hi d rfl λc z=>by cases z;exact id) h)⟩).2
def M.frzd {F:Fr}{σ:St}{H:Hp}{i:Nat}{d:Aa}{S:Ab->Prop}(m:M F L σ H)(hi:L[i]?=some (some (.deep d S))):M F (L.set i (some (.dat d))) σ H:=
 (m.put (b:=some (.dat d)) (λs t x _ z f=>by cases z;exact f.elim) λs t _ g z=>by
  cases z;obtain⟨v,k,l,u⟩:=m.deep i d S hi;rw[k]at g;cases g;refine⟨v,rfl,l.same λx o e=>?_⟩;rcases vY e with⟨n,z2⟩|⟨_,z2⟩
  .exact zw (m.gave hi k n λc z=>by cases z;exact id) z2
  .obtain⟨w1,w2⟩:=zg z2;refine zw (λq=>w1 ?_) w2;rcases q with z|⟨j,c,s,r,g,f⟩
   .exact .inl z
   .rcases zA r with⟨rfl,z⟩|⟨w,h⟩
    .cases z;exact f.elim
    .exact .inr ⟨j,c,s,h,g,f⟩).2
def br {F:Fr}{σ:St}{H H':Hp}{i:Nat}{a:A}{b:Option A}(m:M F L σ H)(k:Kz F H H')(hi:L[i]?=some (some a))(hn:noI a)(x:Ab)(o:HO)(t:¬Ob o)(h:Gz F (L.set i b) σ H' x=some o):Gz F L σ H' x=some o:=by
 obtain⟨l,g⟩:=zg h;refine zw ?_ g;rintro(z|⟨j,c,s,d,r,f⟩)
 .exact l (.inl z)
 .by_cases n:i=j
  .subst n;obtain⟨g1,g2,o',g3,_,u⟩:=m.ft d r f;rw[hi]at d;cases d;rw[k _ _ g3 (m.tp.nt g1)]at g;cases g;exact t (u hn)
  .exact l (.inr ⟨j,c,s,by rw[jx n];exact d,r,f⟩)
def jW {Q:List Aa->Prop}{i:Nat}{a:A}{b:Option A}(hi:L[i]?=some (some a))(hn:noI a)(hm:∀F σ H,M F L σ H->M F (L.set i b) σ H)(h:EvL X (L.set i b) e λd=>noLs d=true/\Q d):EvL X L e Q:=λF σ H R m k=>
 h F σ H R (hm F σ H m) λd v H' q t kz r=>by
  obtain⟨l,xs,o,j,s,u⟩:=r;refine k d v H' q.2 t kz ⟨l,xs,o,j,s,u.noL (λa n f z=>?_) q.1⟩;obtain⟨g,z2⟩:=zg z;obtain⟨w1,w2⟩:=zg (br m kz hi hn a n f (zw g.1 z2));exact zw ⟨w1,g.2⟩ w2
def uk (i:Nat){ds:List Aa}(hi:L[i]?=some (some (.own ds)))(h:EvD X (L.set i (some (.dat (.list ds)))) e λd=>noL d=true/\Q d):EvD X L e Q:=λF σ H R m k=>
 h F σ H R (m.frz hi) λd v H' q t kz r=>k d v H' q.2 t kz (r.noL (br m kz hi trivial) q.1)
def sW {Q:Bool->Prop}(i:Nat){ds:List Aa}(hi:L[i]?=some (some (.own ds)))(h:EvT X (L.set i (some (.dat (.list ds)))) e Q):EvT X L e Q:=λF σ H R m k=>h F σ H R (m.frz hi) k
def sU {Q:List Aa->Prop}(i:Nat){ds:List Aa}(hi:L[i]?=some (some (.own ds)))(h:EvL X (L.set i (some (.dat (.list ds)))) e λd=>noLs d=true/\Q d):EvL X L e Q:=jW hi trivial (λ_ _ _ m=>m.frz hi) h
def ItW (p:Ab->Prop)(J:It)(ds:List Aa)(G:Hp):Prop:=∀(i:Nat) (f:Hp) (q:Ab->Prop),zu G (sub q f)->
 (∀d,ds[i]?=some d->J.go i f/\∀x g,J.yld i f x g->zu f g/\((∀a o,g a=some o->f a=none->q a)->AV (sub q g) x d))/\(ds.length<=i->J.stop i f)
def ia (X:Cx)(tg e:Ai):TI:=λσ H R=>∃t,PI X tg e t/\t σ H R
def xW {tg e:Ai}:PI X tg e (ia X tg e):=λpins s σ H R I d=>by obtain⟨t,p,q⟩:=d;exact p pins s σ H R I q
def EvI (X:Cx)(L:Ev)(tg e:Ai)(Q:List Aa->Prop):Prop:=∀(F:Fr) (σ:St) (H:Hp) (R:It->Hp->Prop),M F L σ H->
 (∀ds J H',Q ds->zH F H'->Kz F H H'->ItW (λx=>¬Ow F L σ x) J ds (Gz F L σ H')->R J H')->ia X tg e σ H R
def yq {tg:Ai}{Q:List Aa->Prop}(h:EvD X L e λx=>∃ds,x=.list ds/\Q ds):EvI X L tg e Q:=λF σ H R m k=>by
 refine⟨_,oa zi,h F σ H _ m λx r H1 n t1 k1 l=>?_⟩;obtain⟨ds,rfl,q⟩:=n;obtain⟨a,xs,rfl,f,j⟩:=l.lst_inv;refine⟨a,rfl,⟨xs,SqL.of (zg f).2⟩,k ds _ H1 q t1 k1 λi u p s=>⟨λd hd=>?_,λo=>?_⟩⟩
 .obtain⟨x,g,av⟩:=j.get hd;have ha:=SqL.of (K:=X.K) (zg (s _ _ f)).2;refine⟨⟨xs,x,ha,g⟩,λv t y=>?_⟩;obtain⟨e,y⟩:=y;subst e;have:=y xs ha;rw[g]at this;cases this;exact⟨zu.refl _,λ_=>av.same s⟩
 .exact⟨xs,SqL.of (zg (s _ _ f)).2,by rw[j.length];exact o⟩
def dq {p:Ab->Prop}{lo:Int}{n:Nat}{G:Hp}:ItW p (Itr lo n) ((tF lo n).map .int) G:=λi h q s=>⟨λd hd=>by
  rw[zJ8,zL3]at hd;obtain⟨z,f,rfl⟩:=hd;have hi:i<n:=by
   have:=(zH9.mp f).1
   rwa [yv]at this
  rw[rR hi]at f;cases f;refine⟨hi,λx j y=>?_⟩;obtain⟨rfl,rfl⟩:=y;exact⟨zu.refl _,λ_=>.int _⟩,λg=>by
  rw[zH8,yv]at g;exact g⟩
def ub {tg:Ai}{Q:List Aa->Prop}(l:Gl X "range")(hm:X.mg "range"=none)(h:EvD X L a λx=>∃j,x=.int j/\-(2 ^ 62)<=j/\j<2 ^ 62/\Q ((tF 0 j.toNat).map .int))(d:Ad [a] X.env=[(false,eval a X.env)]:=by rfl):
  EvI X L tg (.Call (.Name "range" p) [a] [] pos) Q:=λF σ H R m k=>by
 refine⟨_,eh l hm (zh zi zy d) d,h F σ H _ m λx o H1 n t1 k1 f=>?_⟩;obtain⟨j,rfl,i,g,q⟩:=n;cases f.int_inv;exact⟨j,rfl,i,g,k _ _ H1 q t1 k1 dq⟩
end
inductive Pat where
 |one (i:Nat)
 |many (is:List Nat)
 |nest (i:Nat) (is:List Nat)
def wI :List Nat->List Aa->Ev->Option Ev
 |[],[],L=>some L
 |i::is,d::ds,L=>wI is ds (L.set i (some (.dat d)))
 |_,_,_=>none
def Pat.bind :Pat->Aa->Ev->Option Ev
 |.one i,d,L=>some (L.set i (some (.dat d)))
 |.many is,.tuple ds,L=>wI is ds L
 |.nest i is,.tuple [d,.tuple ds],L=>wI is ds (L.set i (some (.dat d)))
 |_,_,_=>none
def gIs :List Nat->TGs
 |[]=>zv7
 |i::is=>gu (ph i) (gIs is)
def vF (K:Ae):Pat->TG
 |.one i=>ph i
 |.many is=>bV K is.length (gIs is)
 |.nest i is=>bV K 2 (gu (ph i) (gu (bV K is.length (gIs is)) zv7))
def Pat.slots :Pat->List Nat
 |.one i=>[i]
 |.many is=>is
 |.nest i is=>i::is
def isFree (L:Ev)(i:Nat):Bool:=match L[i]? with
 |some none=>true
 |_=>false
def Pat.free (p:Pat)(L:Ev):Bool:=p.slots.all (isFree L)
section
variable {X:Cx}{L α':Ev}{F:Fr}{σ:St}{H:Hp}
def M.store {i:Nat}{v:V}{b:A}{H':Hp}(m:M F L σ H)(t:zH F H')(k:Kz F H H')(hn:∀x,foot (some v) b x->H x=none)(hok:wt (sub (λx=>¬Ow F L σ x/\¬foot (some v) b x) H') F H' (some v) b)(J:noX b:=by trivial):M F (L.set i (some b)) (σ.set i (some v)) H':=by
 have B:∀{j:Nat} {c:A} {s:Option V},(L.set i (some b))[j]?=some (some c)->(σ.set i (some v))[j]?=some s->(i=j/\c=b/\s=some v)\/(i≠j/\L[j]?=some (some c)/\σ[j]?=some s):=λ{j c s} p n=>by
  rcases zA p with⟨rfl,z⟩|⟨I,D⟩
  .cases z;have N:i<σ.length:=by
    have:=(zH9.mp n).1
    rwa [zK0]at this
   rw[zJ9 N]at n;cases n;exact .inl ⟨rfl,rfl,rfl⟩
  .rw[zI4 I]at n;exact .inr ⟨I,D,n⟩
 have ow:∀{y:Ab},Ow F (L.set i (some b)) (σ.set i (some v)) y->Ow F L σ y\/foot (some v) b y:=λ{y} h=>by
  rcases h with z|⟨j,c,s,p,n,f⟩
  .exact .inl (.inl z)
  .rcases B p n with⟨_,rfl,rfl⟩|⟨_,g1,g2⟩
   .exact .inr f
   .exact .inl (.inr ⟨j,c,s,g1,g2,f⟩)
 have g1:zu (sub (λx=>¬Ow F L σ x/\¬foot (some v) b x) H') (Gz F (L.set i (some b)) (σ.set i (some v)) H'):=zj λa o h e=>⟨λz=>(ow z).elim h.1 h.2,e⟩;have K:zu (Gz F L σ H) (sub (λx=>¬Ow F L σ x/\¬foot (some v) b x) H'):=zj λa o h e=>⟨⟨h,λz=>by rw[hn a z]at e;cases e⟩,k a o e (m.tp.nt (ow0 h))⟩;refine⟨by rw[zK0,zK0];exact m.len,λj c s p n=>?_,λj C c d s s' x p n O E f1 f2=>?_,λj r q e C c s x p n f=>?_,t,m.keep.trans k,(m.kz k t).oex⟩
 .rcases B p n with⟨rfl,rfl,rfl⟩|⟨_,u,z2⟩
  .exact hok.stay g1 (λx o f e=>by
    obtain⟨w1,w2,_⟩:=sM hok f;exact⟨e,w1,w2⟩) rfl λ_ _ _ l=>l
  .exact(m.ok j c s u z2).stay (K.trans g1) (λx o f e=>by
    obtain⟨w1,w2,_⟩:=m.ft u z2 f;exact⟨k x o e (m.tp.nt w1),w1,w2⟩) rfl λ_ _ _ l=>l.kz k t
 .have nn:∀{j:Nat} {c:A} {s:Option V},L[j]?=some (some c)->σ[j]?=some s->foot s c x->¬foot (some v) b x:=λ{j c s} u z2 f g=>by
   obtain⟨_,_,o,w,_⟩:=m.ft u z2 f;rw[hn x g]at w;cases w
  rcases B p O with⟨rfl,rfl,rfl⟩|⟨_,u,z2⟩
  .rcases B n E with⟨rfl,_⟩|⟨_,w1,w2⟩
   .rfl
   .exact absurd f1 (nn w1 w2 f2)
  .rcases B n E with⟨rfl,rfl,rfl⟩|⟨_,w1,w2⟩
   .exact absurd f2 (nn u z2 f1)
   .exact m.dj j C c d s s' x u w1 z2 w2 f1 f2
 .rcases zA e with⟨rfl,z⟩|⟨_,G⟩
  .cases z;exact J.elim
  .rcases B p n with⟨rfl,rfl,rfl⟩|⟨_,u,z2⟩
   .exact(m.lnk G).none (hn x f)
   .exact m.xd j r q G C c s x u z2 f
theorem M.set {i:Nat}{v:V}{d:Aa}(m:M F L σ H)(av:AV (Gz F L σ H) v d):M F (L.set i (some (.dat d))) (σ.set i (some v)) H:=
 m.store m.tp Kz.refl (λx z=>z.elim) ⟨v,rfl,av.same (zj λa o h e=>⟨⟨h,λz=>z⟩,e⟩)⟩
def M.setC {i:Nat}{v:V}{c:Aa}{H':Hp}(m:M F L σ H)(t:zH F H')(k:Kz F H H')(fl:aL F L σ H v H' c):M F (L.set i (some (.ow c))) (σ.set i (some v)) H':=by
 obtain⟨l,o,rfl,b,d,f⟩:=fl;have nl:=m.fresh b;refine m.store t k (λx z=>?_) ⟨l,o,rfl,d,f.same (zj λa o h e=>⟨⟨h.1,λz=>h.2 (by cases z;rfl)⟩,e⟩),ow0 nl,m.fresh0 b⟩;have g:=z;cases g;exact b
def M.setOwn {i:Nat}{v:V}{ds:List Aa}{H':Hp}(m:M F L σ H)(t:zH F H')(k:Kz F H H')(fl:yQ F L σ H v H' ds):M F (L.set i (some (.own ds))) (σ.set i (some v)) H':=m.setC t k fl.c
def M.wr {x:Ab}{o:HO}(m:M F L σ H)(d:yU o)(v:F.O0 x)(ht:∀t b c,F.tp=some (t,b,c)->x≠t/\x≠b/\x≠c)(h0:F.H0 x=none)(hpl:Plain H x)(C:∀(i:Nat) r q,L[i]?=some (some (.exc r q))->r.H0 x=none):M F L σ (upd H x o):=by
 have A:zu (Gz F L σ H) (Gz F L σ (upd H x o)):=zj λa u h e=>⟨h,by rw[zm (λz=>h (.inl (by rw[z];exact v)))];exact e⟩;refine⟨m.len,λj c s g p=>?_,m.dj,m.xd,m.tp.upd ht hpl,λy u e n=>?_,λy B=>?_⟩
 .have:=m.ok j c s g p;cases c with
  |exc r q=>
   have l:=this;exact⟨l.tp,l.o,l.ok.upd (λa b c e=>ht a b c (l.tp▸e)) hpl,λy u e n=>by rw[zm (zq e (C j r q g))];exact l.k y u e n⟩
  |_=>exact this.stay A (λy u f e=>by
    obtain⟨w1,w2,_⟩:=m.ft g p f;exact⟨by rw[zm (λz=>w1 (by rw[z];exact v))];exact e,w1,w2⟩) rfl λ_ _ z=>by cases z
 .rw[zm (zq e h0)];exact m.keep y u e n
 .by_cases z:y=x
  .exact⟨o,by rw[z];exact zk,d⟩
  .obtain⟨u,w,hn⟩:=m.oex y B;exact⟨u,by rw[zm z];exact w,hn⟩
def M.forget {α0:Ev}(m:M F L σ H)(p:α0.length=L.length)(le:∀(i:Nat) a,α0[i]?=some (some a)->L[i]?=some (some a)):M F α0 σ H:=by
 have ow:∀{y:Ab},Ow F α0 σ y->Ow F L σ y:=λ{y} h=>by
  rcases h with z|⟨j,c,s,b,g,f⟩
  .exact .inl z
  .exact .inr ⟨j,c,s,le _ _ b,g,f⟩
 have n:zu (Gz F L σ H) (Gz F α0 σ H):=zj λa o h e=>⟨λz=>h (ow z),e⟩;exact⟨p.trans m.len,λj c s b g=>(m.ok j c s (le _ _ b) g).stay n (λx o f e=>⟨e,(m.ft (le _ _ b) g f).1,(m.ft (le _ _ b) g f).2.1⟩) rfl λ_ _ _ l=>l,λj k c d s s' x b g=>m.dj j k c d s s' x (le _ _ b) (le _ _ g),λj r q e k c s x b=>m.xd j r q (le _ _ e) k c s x (le _ _ b),m.tp,m.keep,m.oex⟩
theorem tT {H:Hp}:∀{is:List Nat}{ds:List Aa}{L α':Ev}{σ:St}{xs:List V}{R:St->Hp->Prop},wI is ds L=some α'->M F L σ H->(∀G,zu (Gz F L σ H) G->AVs G xs ds)->(∀b,M F α' b H->R b H)->gIs is xs σ H R
 |[],[],L,α',σ,xs,R,e,m,av,k=>by
  cases e;cases av _ (zu.refl _);exact⟨rfl,k σ m⟩
 |i::is,d::ds,L,α',σ,xs,R,e,m,av,k=>by
  cases h:av _ (zu.refl _)with
  |@cons x xs _ _ h1 h2=>
   refine⟨x,xs,rfl,?_⟩;have n:zu (Gz F L σ H) (Gz F (L.set i (some (.dat d))) (σ.set i (some x)) H):=zj λa o h e=>⟨λz=>h (by
    rcases z with z|⟨j,c,s,q,l,f⟩
    .exact .inl z
    .rcases zA q with⟨_,z⟩|⟨p,g⟩
     .cases z;exact f.elim
     .rw[zI4 p]at l;exact .inr ⟨j,c,s,g,l,f⟩),e⟩
   exact tT e (m.set h1) (λG s=>h2.same (n.trans s)) k
 |[],_::_,_,_,_,_,_,e,_,_,_=>by cases e
 |_::_,[],_,_,_,_,_,e,_,_,_=>by cases e
theorem Pat.nest_inv {i:Nat}{is:List Nat}{d:Aa}(e:(Pat.nest i is).bind d L=some α'):∃d0 ds,d=.tuple [d0,.tuple ds]/\wI is ds (L.set i (some (.dat d0)))=some α':=by
 cases d with
 |tuple xs=>
  cases xs with
  |nil=>cases e
  |cons d0 r=>
   cases r with
   |nil=>cases e
   |cons a r=>
    cases r with
    |nil=>
     cases a with
     |tuple ds=>exact⟨_,_,rfl,e⟩
     |_=>cases e
    |cons _ _=>cases a<;>cases e
 |_=>cases e
theorem qN :∀{is:List Nat}{ds:List Aa}{L α':Ev},wI is ds L=some α'->ds.length=is.length:=by
 intro is
 induction is with
 |nil=>intro ds L α' h;cases ds with|nil=>rfl|cons _ _=>cases h
 |cons i is a=>intro ds L α' h;cases ds with|nil=>cases h|cons d ds=>rw[zI7,zI7,a h]
theorem vb {K:Ae}{pat:Pat}{d:Aa}{v:V}{R:St->Hp->Prop}(e:pat.bind d L=some α')(m:M F L σ H)(av:AV (Gz F L σ H) v d)(k:∀g,M F α' g H->R g H):vF K pat v σ H R:=by
 cases pat with
 |one i=>cases e;exact k _ (m.set av)
 |many is=>
  cases d with
  |tuple ds=>
   obtain⟨a,xs,rfl,n,l⟩:=av.tup_inv;exact⟨a,xs,rfl,SqT.of (zg n).2,by rw[l.length];exact qN e,tT e m (λG s=>l.same s) k⟩
  |_=>cases e
 |nest i is=>
  obtain⟨d0,ds,rfl,e⟩:=Pat.nest_inv e;obtain⟨a,xs,rfl,n,l⟩:=av.tup_inv;cases l with
  |@cons x0 r _ _ z1 z2=>
   cases z2 with
   |@cons x1 r _ _ z3 z4=>
    cases z4;have w:zu (Gz F L σ H) (Gz F (L.set i (some (.dat d0))) (σ.set i (some x0)) H):=zj λa o h e=>⟨λz=>h (by
     rcases z with z|⟨j,c,s,y,q,f⟩
     .exact .inl z
     .rcases zA y with⟨_,z⟩|⟨x,p⟩
      .cases z;exact f.elim
      .rw[zI4 x]at q;exact .inr ⟨j,c,s,p,q,f⟩),e⟩
    obtain⟨b,u,rfl,w1,w2⟩:=(z3.same w).tup_inv;exact⟨a,_,rfl,SqT.of (zg n).2,rfl,_,_,rfl,_,_,rfl,⟨b,u,rfl,SqT.of (zg w1).2,by rw[w2.length];exact qN e,tT e (m.set z1) (λG s=>w2.same s) λg t=>⟨rfl,k g t⟩⟩⟩
theorem qm :∀{is:List Nat}{ds:List Aa}{L α':Ev},wI is ds L=some α'->α'.length=L.length
 |[],[],_,_,e=>by cases e;rfl
 |i::is,d::ds,L,α',e=>by
  have:=qm (is:=is) e
  rwa [zK0]at this
 |[],_::_,_,_,e=>by cases e
 |_::_,[],_,_,e=>by cases e
theorem uL :∀{is:List Nat}{ds:List Aa}{L α':Ev}{j:Nat},wI is ds L=some α'->j∉is->α'[j]?=L[j]?
 |[],[],_,_,_,e,_=>by cases e;rfl
 |i::is,d::ds,L,α',j,e,h=>by
  rw[uL (is:=is) (ds:=ds) e λz=>h (zI6 _ z)];exact zI4 λ(z:i=j)=>h (by rw[<-z];exact zK2)
 |[],_::_,_,_,_,e,_=>by cases e
 |_::_,[],_,_,_,e,_=>by cases e
theorem wj :∀{is:List Nat}{ds:List Aa}{L α':Ev}{j:Nat}{a:A},wI is ds L=some α'->α'[j]?=some (some a)->(∀d,a≠.dat d)->L[j]?=some (some a)
 |[],[],_,_,_,_,e,h,_=>by cases e;exact h
 |i::is,d::ds,L,α',j,a,e,h,hn=>by
  rcases zA (wj (is:=is) (ds:=ds) e h hn)with⟨_,z⟩|⟨_,z⟩
  .cases z;exact absurd rfl (hn d)
  .exact z
 |[],_::_,_,_,_,_,e,_,_=>by cases e
 |_::_,[],_,_,_,_,e,_,_=>by cases e
theorem Pat.is_ok {pat:Pat}{d:Aa}(e:pat.bind d L=some α'):∃is ds,pat.slots=is/\wI is ds L=some α':=by
 cases pat with
 |one i=>cases e;exact⟨_,[d],rfl,rfl⟩
 |many is=>
  cases d with
  |tuple ds=>exact⟨_,ds,rfl,e⟩
  |_=>cases e
 |nest i is=>
  obtain⟨d0,ds,rfl,e⟩:=Pat.nest_inv e;exact⟨_,d0::ds,rfl,e⟩
def Pat.back {pat:Pat}{d:Aa}(e:pat.bind d L=some α')(fr:pat.free L=true)(m:M F α' σ H):M F L σ H:=by
 obtain⟨is,ds,rfl,e⟩:=Pat.is_ok e;refine m.forget (qm e).symm λj a h=>?_;by_cases b:j∈pat.slots
 .have:=zP4.mp fr j b;unfold isFree at this;rw[h]at this;cases this
 .rw[uL e b];exact h
end
section
variable {X:Cx}{L:Ev}
def zc7 (X:Cx)(L:Ev)(ifs:List Ai)(Q:Bool->Prop):Prop:=∀(F:Fr) (σ:St) (H:Hp) (R:Bool->Hp->Prop),M F L σ H->(∀b H',Q b->zH F H'->Kz F H H'->R b H')->∃t,vn X ifs t/\t σ H R
def zl9 (X:Cx)(ifs:List Ai):TT:=λσ H R=>∃t,vn X ifs t/\t σ H R
def sJ {ifs:List Ai}:vn X ifs (zl9 X ifs):=λpins s σ H Q I a=>by obtain⟨t,p,q⟩:=a;exact p pins s σ H Q I q
def qt {Q:Bool->Prop}(q:Q true):zc7 X L [] Q:=λF σ H R m k=>⟨_,sP,k _ H q m.tp Kz.refl⟩
def zv3 {c:Ai}{Q:Bool->Prop}(h:EvT X L c Q):zc7 X L [c] Q:=λF σ H R m k=>⟨_,zg7 xB,h F σ H R m k⟩
def seen :Option A->Option A
 |some (.dat d)=>some (.dat d)
 |some .tape=>some .tape
 |_=>none
def zW (imp:List (Option Nat))(L:Ev):Ev:=imp.map λo=>o.bind λj=>(L[j]?).bind seen
theorem xM {imp:List (Option Nat)}{i:Nat}{a:A}(h:(zW imp L)[i]?=some (some a)):∃j,imp[i]?=some (some j)/\L[j]?=some (some a)/\((∃d,a=.dat d)\/a=.tape):=by
 unfold zW at h;rw[zJ8,zL3]at h;obtain⟨o,f,e⟩:=h;cases o with
 |none=>cases e
 |some j=>
  have c:(L[j]?).bind seen=some a:=e;cases q:L[j]? with
  |none=>rw[q]at c;cases c
  |some b=>
   rw[q]at c;cases b with
   |none=>cases c
   |some b=>
    cases b with
    |dat d=>cases c;exact⟨j,f,q,.inl ⟨d,rfl⟩⟩
    |tape=>cases c;exact⟨j,f,q,.inr rfl⟩
    |_=>cases c
def xC {imp:List (Option Nat)}{σ:St}{i j:Nat}{v:V}(b:imp[i]?=some (some j))(a:σ[j]?=some (some v)):(yN imp σ)[i]?=some (some v):=by
 unfold yN;rw[zJ8,b];show some ((σ[j]?).bind id)=_;rw[a];rfl
def yR (Y:Ab->Af->Hp->List Ab->Cx)(pat:Pat)(ifs:List Ai)(elt:Ai)(α0:Ev):List Aa->List Aa->(List Aa->Prop)->Prop
 |[],acc,Q=>Q acc
 |d::ds,acc,Q=>∃a,pat.bind d α0=some a/\∀C s2 b fp,zc7 (Y C s2 b fp) a ifs λk=>if k=true then ∀C s2 b fp,EvD (Y C s2 b fp) a elt λy=>yR Y pat ifs elt α0 ds (acc++[y]) Q else yR Y pat ifs elt α0 ds acc Q
def eC (Y:Ab->Af->Hp->List Ab->Cx)(e:Ai):TE:=λσ H Q=>∀C s2 a fp,uq (Y C s2 a fp) e σ H Q
def tsC (Y:Ab->Af->Hp->List Ab->Cx)(ifs:List Ai):TT:=λσ H Q=>∀C s2 a fp,zl9 (Y C s2 a fp) ifs σ H Q
def iZ {N:List Str}{imp:List (Option Nat)}{scope:Aq}{tg iter elt:Ai}{ifs:List Ai}{pat:Pat}{Q:List Aa->Prop}(E:pat.free (zW imp L)=true)
  (h:EvI X L tg iter λds=>ds.length<=1000/\yR (λC s2 p fp=>X.comp N scope C s2 p fp) pat ifs elt (zW imp L) ds [] Q)
  (F:Fr) (σ:St) (H:Hp) (R:VK) (m:M F L σ H) (k:∀ds v H',Q ds->zH F H'->Kz F H H'->yQ F L σ H v H' ds->R v H'):
  ∃Y:Ab->Af->Hp->List Ab->Cx,Y=(λC s2 p fp=>X.comp N scope C s2 p fp)/\rF (ia X tg iter) imp (vF X.K pat) (tsC Y ifs) (eC Y elt) σ H R:=by
 refine⟨_,rfl,h F σ H _ m λds J H1 b2 t1 k1 a9 acc g=>?_⟩;obtain⟨hl,q1⟩:=b2;have m1:=m.kz k1 t1
 let A:Fr:=⟨H1,λx=>Ow F L σ x\/x=acc,F.tp⟩
 let Nd:Ev->Prop:=λl=>∀(j:Nat) a,l[j]?=some (some a)->(∃d,a=.dat d)\/a=.tape
 have u:Nd (zW imp L):=λj a z=>by
  obtain⟨_,_,_,n⟩:=xM z;exact n
 have owc:∀{l:Ev} {Z:St} {x:Ab},Nd l->(Ow A l Z x↔A.O0 x):=λ{l Z x} hh=>⟨λz=>z.elim id λb3=>by
  obtain⟨j,a,s,e1,e2,f⟩:=b3;rcases hh j a e1 with⟨d,rfl⟩|rfl
  .exact f.elim
  .exact f.elim,.inl⟩
 have gz:∀{l α2:Ev} {B τ2:St} {H:Hp},Nd l->Nd α2->zu (Gz A l B H) (Gz A α2 τ2 H):=λh1 h2=>zj λa o h e=>⟨λz=>h ((owc h1).mpr ((owc h2).mp z)),e⟩;have a4:∀{p:Hp},zH F p->zH A p:=λt=>t.to rfl λx z=>.inl (.inl z);have W:zu H1 (upd H1 acc (.lst [])):=zV g;have a6:M A (zW imp L) (yN imp σ) (upd H1 acc (.lst [])):=by
  have g1:zu (Gz F L σ H1) (Gz A (zW imp L) (yN imp σ) (upd H1 acc (.lst []))):=λa o e=>by
   obtain⟨z1,z2⟩:=zg e;have na:=zq z2 g;exact zw (λz=>((owc u).mp z).elim z1 na) (by rw[zm na];exact z2)
  refine⟨by unfold zW yN;rw[zH8,zH8],λi a s e1 e2=>?_,λi j a b s t x e1 e2 _ _ f=>?_,λi r q e=>(by rcases u i _ e with⟨d,w⟩|w<;>cases w),a4 (t1.same W),λx o e _=>W x o e,?_⟩
  .obtain⟨j,w1,w2,w3⟩:=xM e1;rcases w3 with⟨d,rfl⟩|rfl
   .obtain⟨v,g2,g3⟩:=m1.dat j d w2;rw[xC w1 g2]at e2;cases e2;exact⟨v,rfl,g3.same g1⟩
   .obtain⟨t,b,c,g2,g3⟩:=m1.tvar j w2;rw[xC w1 g3]at e2;cases e2;exact⟨t,b,c,g2,rfl⟩
  .rcases u i a e1 with⟨d,rfl⟩|rfl
   .exact f.elim
   .exact f.elim
  .rintro x (z|z)
   .have:∃o,H1 x=some o/\yU o:=m1.owEx z;obtain⟨o,ho,hn⟩:=this;exact⟨o,W _ _ ho,hn⟩
   .exact⟨_,by rw[z];exact zk,yg⟩
 refine⟨λi n S Z p=>n=ds.length-i/\i<=ds.length/\∃ad:List Aa,M A (zW imp L) Z p/\p acc=some (.lst S)/\AVs (Gz A (zW imp L) Z p) S ad/\ad.length<=i/\yR (λC s2 p fp=>X.comp N scope C s2 p fp) pat ifs elt (zW imp L) (ds.drop i) ad Q,
  ⟨ds.length,by simp,zK6 _,[],a6,zk,.nil,zI3 _,q1⟩,?_⟩
 rintro i n S Z p ⟨rfl,hi,ad,m2,ha,av,V,cw⟩;have sG:zu (Gz F L σ H1) (Gz A (zW imp L) Z p):=λa o e=>by
  obtain⟨z1,z2⟩:=zg e;exact m2.old a o (zw (λz=>z.elim z1 (zq z2 g)) z2)
 obtain⟨w1,w2⟩:=a9 i p _ sG;by_cases G:i<ds.length
 .have hd:=zI5 G;rw[(zM7 G)]at cw;obtain⟨l,eb,body⟩:=cw;obtain⟨go,yl⟩:=w1 _ hd;have D:Nd l:=λj a z=>by
   obtain⟨is,b5,_,e⟩:=Pat.is_ok eb;by_cases hn:∀d,a≠.dat d
   .exact u j a (wj e z hn)
   .simp only[zS3,zU5]at hn;exact .inl hn
  refine .inr ⟨go,λT U H'=>∃ad:List Aa,M A (zW imp L) U H'/\H' acc=some (.lst T)/\AVs (Gz A (zW imp L) U H') T ad/\ad.length<=i+1/\yR (λC s2 p fp=>X.comp N scope C s2 p fp) pat ifs elt (zW imp L) (ds.drop (i+1)) ad Q,
   λT U H' b1=>by obtain⟨a5,r1,r2,r3,r4,r5⟩:=b1;exact⟨ds.length-(i+1),(om0 G),rfl,G,a5,r1,r2,r3,r4,r5⟩,λx H3 y=>?_⟩
  obtain⟨I,a8⟩:=yl x H3 y;refine vb eb (m2.kz (Kz.of_same I) (m2.tp.same I)) (a8 λa o _ e=>m2.fresh e) λB m4 C s2 a7 fp=>body C s2 a7 fp A B H3 _ m4 λb H5 qb t5 k5=>?_;have m5:=m4.kz k5 t5;have a3:AVs (Gz A (zW imp L) B H5) S ad:=av.same ((Kz.of_same I).gz m2.tp |>.trans ((gz (τ2:=B) u D).trans ((k5.gz m4.tp).trans (gz D u))));have accN:NT A acc:=⟨λt b c e=>by
   have:=(t1 t b c e).1.free g;exact⟨this.1,this.2.1⟩,wy t1.tab g⟩
  have a1:=k5 _ _ (I _ _ ha) accN;cases b with
  |false=>
   have b4:yR (λC s2 p fp=>X.comp N scope C s2 p fp) pat ifs elt (zW imp L) (ds.drop (i+1)) ad Q:=by simpa using qb
   exact vR ⟨ad,Pat.back eb E m5,a1,a3,(zJ1 V (zO9 _ _)),b4⟩
  |true=>
   refine uv λC s2 O fp=>?_;have qe:EvD (X.comp N scope C s2 O fp) l elt λy=>yR (λC s2 p fp=>X.comp N scope C s2 p fp) pat ifs elt (zW imp L) (ds.drop (i+1)) (ad++[y]) Q:=by
    have z:=qb;rw[if_pos rfl]at z;exact z C s2 O fp
   refine qe A B H5 _ m5 λy v H6 qy t6 k6 r6=>?_;have a2:=k6 _ _ a1 accN;have hlen:S.length<=i:=by rw[av.length];exact V
   have P:A.O0 acc:=.inr rfl;have a0:∀t b c,A.tp=some (t,b,c)->acc≠t/\acc≠b/\acc≠c:=λt b c e=>(t1 t b c e).1.free g;have m7:=(Pat.back eb E (m5.kz k6 t6)).wr (o:=.lst (S++[v])) yg P a0 g (xp a2) (λi r q z=>by rcases u i _ z with⟨d,w⟩|w<;>cases w);refine⟨a2,yx (by lia),ad++[y],m7,zk,?_,by simp;exact V,qy⟩;have b0:zu (Gz A (zW imp L) B H6) (Gz A (zW imp L) B (upd H6 acc (.lst (S++[v])))):=zj λa o h e=>⟨h,by rw[zm (λz=>h (.inl (by rw[z];exact P)))];exact e⟩;exact((a3.same ((gz (τ2:=B) u D).trans ((k6.gz m5.tp).trans (gz D u)))).append (.cons (r6.same (gz D u)) .nil)).same b0
 .have e:=(zR9 hi (zQ7 G));subst e;rw[zP5]at cw;exact .inl ⟨w2 (zI3 _),k ad _ p cw (m.tp.re m2.tp rfl) (k1.trans m2.keep) (yQ.back m k1 t1 ⟨acc,S,rfl,g,ha,av.same (zj λa o h e=>⟨⟨λz=>h (.inl (.inl z)),λz=>h (.inl (.inr z))⟩,e⟩)⟩)⟩
def zm7 {N:List Str}{imp:List (Option Nat)}{scope:Aq}{tg iter elt:Ai}{ifs:List Ai}{pat:Pat}{Q:List Aa->Prop}{pos:Pos}(c:X.calm=true)(S:yk X.N X.env.scope N imp scope)(b:pat.free (zW imp L)=true)
  (e:∀C s2 a fp,PG (X.comp N scope C s2 a fp) tg (vF X.K pat))
  (h:EvI X L tg iter λds=>ds.length<=1000/\yR (λC s2 a fp=>X.comp N scope C s2 a fp) pat ifs elt (zW imp L) ds [] Q) (d:∀x,foldedSetIterable iter X.env x=pure x:=by intro _;rfl):
  EvL X L (.ListComp elt [⟨tg,iter,ifs,0⟩] scope pos) Q:=λF σ H R m k=>by
 obtain⟨Y,rfl,h⟩:=iZ b h F σ H R m k;exact⟨_,ax c S xW e (λC s2 a fp pins s σ H Q I h=>sJ pins s σ H Q I (h C s2 a fp)) (λC s2 a fp pins s σ H Q I h=>zi pins s σ H Q I (h C s2 a fp)) d,h⟩
section
variable {E:yj}{rest body:List An}{e c tg iter:Ai}{pos p:Pos}
def sE.then {F:Fr}{D:Ends}(h:sE F E D):sE F {E with nx:=λa=>SvS X a rest E} {D with nx:=uU X rest D}:=
 ⟨λa b H' m q=>q F b H' D m h,h.rt,h.bk,h.ct⟩
def zr (q:E.nx L):SvS X L [] E:=λF σ H D m h=>⟨_,yT,h.nx _ _ _ m q⟩
def SvS.imp {b:List An}{d:yj}(h:SvS X L b d)(hn:∀L,d.nx L->E.nx L)(hr:∀a,d.rt a->E.rt a)(g:∀L,d.bk L->E.bk L)(f:∀L,d.ct L->E.ct L):SvS X L b E:=λF σ H D m r=>
 h F σ H D m ⟨λL σ H m q=>r.nx L σ H m (hn _ q),λa v H m q=>r.rt a v H m (hr _ q),λL σ H m q=>r.bk L σ H m (g _ q),λL σ H m q=>r.ct L σ H m (f _ q)⟩
def zL (i:Nat){x:Str}{pos':Pos}(g:X.N.Nodup)(h:EvD X L e λd=>SvS X (L.set i (some (.dat d))) rest E)(hi:X.N[i]?=some x:=by rfl)(b:Loc X.env.scope x:=by first|exact Or.inl rfl|exact Or.inr rfl)
  (f:swapsWith e (some (.Name x pos')) pos.line X.env=pure false:=by rfl) (hf:X.fn x=true\/X.env.scope.names.lookup x=some .local:=by first|exact .inl rfl|exact .inr rfl|assumption):SvS X L (.Assign [.Name x pos'] e pos::rest) E:=λF σ H D m r=>by exact⟨_,zv (uz g hi b zi f hf) zC,h F σ H _ m λd v H1 j t1 k1 a=>j F _ H1 D ((m.kz k1 t1).set a) r⟩
def yL (i:Nat){x:Str}{pos':Pos}(g:X.N.Nodup)(h:EvL X L e λds=>SvS X (L.set i (some (.own ds))) rest E)(hi:X.N[i]?=some x:=by rfl)(b:Loc X.env.scope x:=by first|exact Or.inl rfl|exact Or.inr rfl)
  (f:swapsWith e (some (.Name x pos')) pos.line X.env=pure false:=by rfl) (hf:X.fn x=true\/X.env.scope.names.lookup x=some .local:=by first|exact .inl rfl|exact .inr rfl|assumption):SvS X L (.Assign [.Name x pos'] e pos::rest) E:=λF σ H D m r=>by exact⟨_,zv (uz g hi b zi f hf) zC,h F σ H _ m λd v H1 j t1 k1 a=>j F _ H1 D (m.setOwn t1 k1 a) r⟩
def zz1 (i:Nat){x:Str}{pos' a:Pos}{N:List Str}{imp:List (Option Nat)}{scope:Aq}{elt:Ai}{ifs:List Ai}{pat:Pat}(l:X.N.Nodup)(n:X.calm=true)(S:yk X.N X.env.scope N imp scope)(b:pat.free (zW imp L)=true)
  (o:∀C s2 d fp,PG (X.comp N scope C s2 d fp) tg (vF X.K pat))
  (h:EvI X L tg iter λds=>ds.length<=1000/\yR (λC s2 d fp=>X.comp N scope C s2 d fp) pat ifs elt (zW imp L) ds [] λds=>SvS X (L.set i (some (.own ds))) rest E)
  (hi:X.N[i]?=some x:=by rfl) (g:Loc X.env.scope x:=by first|exact Or.inl rfl|exact Or.inr rfl) (f:swapsWith (.ListComp elt [⟨tg,iter,ifs,0⟩] scope a) (some (.Name x pos')) pos.line X.env=pure true:=by rfl)
  (hf:X.fn x=true\/X.env.scope.names.lookup x=some .local:=by first|exact .inl rfl|exact .inr rfl|assumption) (j:∀x,foldedSetIterable iter X.env x=pure x:=by intro _;rfl):
  SvS X L (.Assign [.Name x pos'] (.ListComp elt [⟨tg,iter,ifs,0⟩] scope a) pos::rest) E:=λF σ H D m r=>by
 obtain⟨Y,rfl,h⟩:=iZ b h F σ H (λv H'=>uU X rest D (σ.set i (some v)) H') m λds v H' q t k fl=>q F _ H' D (m.setOwn t k fl) r;exact⟨_,zv (rV n S xW o (λC s2 d fp pins s σ H Q I h=>sJ pins s σ H Q I (h C s2 d fp)) (λC s2 d fp pins s σ H Q I h=>zi pins s σ H Q I (h C s2 d fp)) l hi g f hf j) zC,h⟩
theorem yf.dat {F:Fr}{σ:St}{H:Hp}{v:V}{d:Aa}(m:M F L σ H)(r:AV (Gz F L σ H) v d):yf F v H (.dat d):=
 ⟨m.tp,m.keep,r.same (zj λa o h e=>⟨ow0 h,e⟩)⟩
def xk (h:EvD X L e λd=>E.rt (.dat d)):SvS X L (.Return (some e) pos::rest) E:=λF σ H D m r=>by exact⟨_,zv (zP zi) zC,h F σ H _ m λd v H1 b t1 k1 a=>r.rt _ _ _ (yf.dat (m.kz k1 t1) a) b⟩
def sI (h:EvL X L e λds=>E.rt (.own ds)):SvS X L (.Return (some e) pos::rest) E:=λF σ H D m r=>by
 refine⟨_,zv (zP zi) zC,h F σ H _ m λd v H1 k t1 k1 f=>r.rt _ _ _ ?_ k⟩;obtain⟨l,xs,g,b,i,j⟩:=f;exact⟨t1,m.keep.trans k1,l,xs,_,g,rfl,m.fresh0 b,ow0 (m.fresh b),i,j.same (zj λa o h e=>⟨⟨ow0 h.1,h.2⟩,e⟩)⟩
def sL (i:Nat){x:Str}{ds:List Aa}(hi:L[i]?=some (some (.own ds)))(q:E.rt (.own ds))(s:X.N[i]?=some x:=by rfl)(j:Vis X.env.scope x:=by first|exact Or.inl rfl|exact Or.inr (Or.inl rfl)|exact Or.inr (Or.inr rfl))
  (hd:(x == ("__debug__":Str))=false:=by decide) (b:(x == ("__classdict__":Str))=false:=by decide):SvS X L (.Return (some (.Name x p)) pos::rest) E:=λF σ H D m r=>by
 obtain⟨l,xs,d,f,g,k,n⟩:=m.own i ds hi;refine⟨_,zv (zP (zT s j hd b)) zC,.ref l,d,r.rt (.own ds) _ _ ⟨m.tp,m.keep,l,xs,_,rfl,rfl,n,k,f,g.same (zj λa o h e=>⟨⟨ow0 h,λz=>h (by rw[z];exact .inr ⟨i,_,_,hi,d,rfl⟩)⟩,e⟩)⟩ q⟩
theorem zM {a b:List An}(h:EvT X L c λk=>SvS X L (if k=true then a else b) {E with nx:=λd=>SvS X d rest E}):SvS X L (.If c a b pos::rest) E:=λF σ H D m r=>by
 refine⟨_,zv (wo xB zC zC) zC,h F σ H _ m λk H1 f t1 k1=>?_⟩;cases k with
 |true=>exact uv (by simpa using f F σ H1 _ (m.kz k1 t1) r.then)
 |false=>exact vR (by simpa using f F σ H1 _ (m.kz k1 t1) r.then)
def hG (i:Nat){c:Aa}{S:Ab->Prop}{a:List An}(hi:L[i]?=some (some (.deep c S)))(h:SvS X (L.set i (some (.dat c))) a E):SvS X L a E:=λF σ H D m r=>h F σ H D (m.frzd hi) r
def nz (i:Nat){ds:List Aa}{a:List An}(hi:L[i]?=some (some (.own ds)))(h:SvS X (L.set i (some (.dat (.list ds)))) a E):SvS X L a E:=λF σ H D m r=>h F σ H D (m.frz hi) r
def M.wrC {F:Fr}{σ:St}{H:Hp}{i:Nat}{c D:Aa}{l:Ab}{o':HO}(m:M F L σ H)(hi:L[i]?=some (some (.ow c)))(v:σ[i]?=some (some (.ref l)))(av:xK (Gz F L σ H) o' D):
  M F (L.set i (some (.ow D))) σ (upd H l o'):=by
 obtain⟨l',o,R,Q,W,I,Y⟩:=m.owc i c hi;rw[v]at R;cases R;have C:∀{j:Nat} {a:A} {s:Option V},(L.set i (some (.ow D)))[j]?=some (some a)->σ[j]?=some s->(i=j/\a=.ow D/\s=some (.ref l))\/(i≠j/\L[j]?=some (some a)):=λ{j a s} w g=>by
  rcases zA w with⟨rfl,z⟩|⟨G,d⟩
  .cases z;rw[v]at g;cases g;exact .inl ⟨rfl,rfl,rfl⟩
  .exact .inr ⟨G,d⟩
 have P:∀{y:Ab},Ow F (L.set i (some (.ow D))) σ y->Ow F L σ y:=λ{y} h=>by
  rcases h with z|⟨j,a,s,w,g,f⟩
  .exact .inl z
  .rcases C w g with⟨rfl,rfl,rfl⟩|⟨G,d⟩
   .exact .inr ⟨i,_,_,hi,v,f⟩
   .exact .inr ⟨j,a,s,d,g,f⟩
 have ol:Ow F L σ l:=.inr ⟨i,_,_,hi,v,rfl⟩;have S:zu (Gz F L σ H) (Gz F (L.set i (some (.ow D))) σ (upd H l o')):=zj λa o h e=>⟨λz=>h (P z),by rw[zm (λz=>h (by rw[z];exact ol))];exact e⟩;refine⟨by rw[zK0];exact m.len,λj a s w g=>?_,λj J a b s t x w g O K f1 f2=>?_,λj r q e J a s x w g f=>?_,m.tp.updO I (W.plain Q),λy o e n=>?_,λy T=>?_⟩
 .rcases C w g with⟨rfl,rfl,rfl⟩|⟨G,d⟩
  .exact⟨l,o',rfl,zk,av.same S,I,Y⟩
  .refine(m.ok j a s d g).stay S (λy u f e=>?_) rfl λr q Z k=>⟨k.tp,k.o,k.ok.updO (λz=>I (k.o _ z)) (W.plain Q),λy u e n=>?_⟩
   .obtain⟨w1,w2,_⟩:=m.ft d g f;refine⟨?_,w1,w2⟩;rw[zm λz=>G (m.dj i j _ a _ s l hi d v g rfl (by rw[<-z];exact f))];exact e
   .rw[zm (zq e (m.xd j r q (by rw[<-Z];exact d) i _ _ l hi v rfl))];exact k.k y u e n
 .rcases C w O with⟨rfl,rfl,rfl⟩|⟨G,d⟩
  .rcases C g K with⟨rfl,_⟩|⟨N,B⟩
   .rfl
   .exact m.dj i J _ b _ t x hi B v K f1 f2
  .rcases C g K with⟨rfl,rfl,rfl⟩|⟨N,B⟩
   .exact m.dj j i a _ s _ x d hi O v f1 f2
   .exact m.dj j J a b s t x d B O K f1 f2
 .rcases zA e with⟨_,z⟩|⟨_,U⟩
  .cases z
  .rcases C w g with⟨rfl,rfl,rfl⟩|⟨_,d⟩
   .exact m.xd j r q U i _ _ x hi v f
   .exact m.xd j r q U J a s x d g f
 .rw[zm (zq e Y)];exact m.keep y o e n
 .rw[zm (λz=>I (by rw[<-z];exact T))];exact m.oex y T
def M.wrOwn {F:Fr}{σ:St}{H:Hp}{i:Nat}{ds a:List Aa}{l:Ab}{b:List V}(m:M F L σ H)(hi:L[i]?=some (some (.own ds)))(d:σ[i]?=some (some (.ref l)))(av:AVs (Gz F L σ H) b a):
  M F (L.set i (some (.own a))) σ (upd H l (.lst b)):=m.wrC hi d (.lst av)
def yS (i:Nat){x:Str}{ds:List Aa}{f k g:Pos}(hi:L[i]?=some (some (.own ds)))(h:EvD X L e λd=>ds.length<1000/\SvS X (L.set i (some (.own (ds++[d])))) rest E)
  (A:X.N[i]?=some x:=by rfl) (y:Vis X.env.scope x:=by first|exact Or.inl rfl|exact Or.inr (Or.inl rfl)|exact Or.inr (Or.inr rfl)) (hd:(x == ("__debug__":Str))=false:=by decide) (j:(x == ("__classdict__":Str))=false:=by decide)
  (a:attributeBase (.Name x f) "append" X.env (eval (.Name x f) X.env)=eval (.Name x f) X.env:=by rfl) (t:Ad [e] X.env=(false,eval e X.env)::Ad [] X.env:=by rfl)
  (hpl:((((backTo g (Ad [e] X.env)).all λx=>!x.fst)&&(backToKw g (keywordEach [] X.env)).all λx=>x.fst.isSome)&&decide (([e].length+([]:List Keyword).length+if([]:List Keyword).isEmpty=true then 0 else 1)<30))=true:=by rfl)
  (b:(k.endLine == g.line)=true:=by rfl) (n:swapsWith (.Call (.Attribute (.Name x f) "append" k) [e] [] g) none pos.line X.env=pure false:=by rfl):SvS X L (.Expr (.Call (.Attribute (.Name x f) "append" k) [e] [] g) pos::rest) E:=λF σ H D m r=>by
 obtain⟨l,xs,q,o,s,z,B⟩:=m.own i ds hi;refine⟨_,zv (xU (sr zN2 zT4 zT5 wW (zT A y hd j) (zh zi zy t) a hpl b t) n) zC,⟨.ref l,q,.inl ⟨rfl,_,SqL.of o⟩,?_⟩⟩;refine h F σ H _ m λd v H1 u t1 k1 w=>?_;refine⟨l,xs,v,rfl,rfl,k1 _ _ o (m.tp.nt z),by rw[s.length];exact yx (zM5 u.1),?_⟩;exact u.2 F σ _ D ((m.kz k1 t1).wrOwn hi q ((s.same (k1.gz m.tp)).append (.cons w .nil))) r
def vN (X:Cx)(pat:Pat)(body rest:List An)(E:yj):List Aa->Ev->Prop
 |[],L=>SvS X L rest E
 |d::ds,L=>∃a,pat.bind d L=some a/\SvS X a body {nx:=vN X pat body rest E ds,ct:=vN X pat body rest E ds,bk:=λb=>SvS X b rest E,rt:=E.rt}
def vX {pat:Pat}(hp:PassesOwn (Am X.prog X.w) X.A X.env X.xe)(Q:X.calm=true)(S:PG X tg (vF X.K pat))(h:EvI X L tg iter λds=>vN X pat body rest E ds L)
  (O:∀x,foldedSetIterable iter X.env x=pure x:=by intro _;rfl):SvS X L (.For tg iter body [] pos::rest) E:=λF σ H D m r=>by
 refine⟨_,zv (jh hp Q xW S zC O) zC,h F σ H _ m λds J H1 P t1 k1 t=>?_⟩;have m1:=m.kz k1 t1;have B:sE (F.up (Gz F L σ H1)) E D:=r.up;refine⟨λi n g H'=>n=ds.length-i/\i<=ds.length/\∃b,M (F.up (Gz F L σ H1)) b g H'/\vN X pat body rest E (ds.drop i) b,⟨ds.length,by simp,zK6 _,L,m1.up,P⟩,?_⟩;rintro i n g H' ⟨rfl,hi,b,j,lw⟩;obtain⟨w1,w2⟩:=t i H' _ (m1.upold j);by_cases d:i<ds.length
 .have hd:=zI5 d;rw[zM7 d]at lw;obtain⟨R,N,body⟩:=lw;obtain⟨go,I⟩:=w1 _ hd;refine .inr ⟨go,λf k=>∃b,M (F.up (Gz F L σ H1)) b f k/\vN X pat _ rest E (ds.drop (i+1)) b,λf k ⟨l,G,T⟩=>⟨ds.length-(i+1),(om0 d),rfl,d,l,G,T⟩,λx C y=>?_⟩;obtain⟨s,v⟩:=I x C y;exact vb N (j.kz (Kz.of_same s) (j.tp.same s)) (v λa o _ e=>j.fresh e) λu m4=>body _ u C _ m4 ⟨λα2 σ2 z m2 q=>⟨α2,m2,q⟩,B.rt,λα2 σ2 z m2 q=>q _ σ2 z D m2 B,λα2 σ2 z m2 q=>⟨α2,m2,q⟩⟩
 .have e:=(zR9 hi (zQ7 d));subst e;rw[zP5]at lw;exact .inl ⟨w2 (zI3 _),lw _ g H' D j B⟩
def xr {pat:Pat}{ds:List Aa}(P:Nat->Ev->Prop)(h0:P 0 L)(j:∀i d L,ds[i]?=some d->P i L->∃f,pat.bind d L=some f/\SvS X f body {nx:=P (i+1),ct:=P (i+1),bk:=λg=>SvS X g rest E,rt:=E.rt})
  (hd:∀L,P ds.length L->SvS X L rest E):vN X pat body rest E ds L:=by
 have key:∀n i L,n=ds.length-i->i<=ds.length->P i L->vN X pat body rest E (ds.drop i) L:=by
  intro n
  induction n with
  |zero=>
   intro i L hn hi p;have e:=(om5 hn hi);subst e;rw[zP5];exact hd L p
  |succ n h=>
   intro i L hn hi p;have a:=(om6 hn);rw[zM7 a];obtain⟨f,e,b⟩:=j i ds[i] L (zI5 a) p;exact⟨f,e,b.imp (λL p=>h (i+1) L (om7 hn) a p) (λ_ z=>z) (λ_ z=>z) (λL p=>h (i+1) L (om7 hn) a p)⟩
 exact key _ 0 L rfl (zK6 _) h0
end
end
section
variable {P:Ah}{w:Ak}{K:Ae}{mg:Str->Option Ac}{base:Ao}
theorem M.start {F:Fr}{N:List Str}{vs:List V}{as:List A}{H:Hp}(e:F.H0=H)(t:zH F H)(o:∀x,F.O0 x->∃u,H x=some u/\yU u)(p:zS F (sub (λx=>¬F.O0 x) H) vs as):
  M F (as.map some++List.replicate (N.length-as.length) none) (L2.start N vs) H:=by
 have g:∀{i:Nat} {a:A},(as.map some++List.replicate (N.length-as.length) none)[i]?=some (some a)->as[i]?=some a:=λ{i a} h=>by
  rcases zV5 i as.length with z|z
  .rw[zJ4 (by rw[zH8];exact z),zJ8,zL3]at h;obtain⟨b,m,k⟩:=h;cases k;exact m
  .rw[zJ2 (by rw[zH8];exact z),zM3]at h;split at h<;>cases h
 have at':∀{vs:List V} {as:List A} {i:Nat} {a:A},zS F (sub (λx=>¬F.O0 x) H) vs as->as[i]?=some a->∃v,vs[i]?=some v/\qE F (sub (λx=>¬F.O0 x) H) v a:=by
  intro vs as i a h
  induction h generalizing i with
  |nil=>intro e;simp at e
  |cons h r B=>
   intro e;cases i with
   |zero=>simp at e;subst e;exact⟨_,rfl,h⟩
   |succ i=>obtain⟨v,m,k⟩:=B (by simpa using e);exact⟨v,by simpa using m,k⟩
 have C:∀{i:Nat} {v:V},vs[i]?=some v->(L2.start N vs)[i]?=some (some v):=λ{i v} h=>by
  unfold L2.start;rw[zJ4 (by rw[zH8];exact((zH9.mp h).1)),zJ8,h];rfl
 have no:∀(i:Nat) a,(as.map some++List.replicate (N.length-as.length) none)[i]?=some (some a)->(∃d,a=.dat d)\/a=.tape:=λi a z=>by
  obtain⟨v,_,h⟩:=at' p (g z);cases a with
  |dat d=>exact .inl ⟨d,rfl⟩
  |tape=>exact .inr rfl
  |_=>exact h.elim
 have D:zu (sub (λx=>¬F.O0 x) H) (Gz F (as.map some++List.replicate (N.length-as.length) none) (L2.start N vs) H):=zj λa o h e=>⟨λz=>z.elim h λn=>by
  obtain⟨i,b,s,l,_,f⟩:=n;rcases no i b l with⟨d,rfl⟩|rfl
  .exact f.elim
  .exact f.elim,e⟩
 refine⟨by unfold L2.start;simp[p.length],λi a s l y=>?_,λi j a b s t x l _ _ _ f=>?_,λi r q z=>(by rcases no i _ z with⟨d,w⟩|w<;>cases w),t,λx o' h _=>by rw[<-e];exact h,o⟩
 .obtain⟨v,m,k⟩:=at' p (g l);rw[C m]at y;cases y;rcases no i a l with⟨d,rfl⟩|rfl
  .exact⟨v,rfl,AV.same D k⟩
  .obtain⟨t',b,c,E,rfl⟩:=k;exact⟨t',b,c,E,rfl⟩
 .rcases no i a l with⟨d,rfl⟩|rfl
  .exact f.elim
  .exact f.elim
def fnA {x qual:Str}{st:An}{f:Ab}{fd:Ag}{N ps:List Str}{k:Nat}{φ:List A->(A->Prop)->Prop}(G:Fun K x qual st f fd)(S:zo N ps (zd st))(hlen:∀as Q,φ as Q->as.length=ps.length)
  (b:∀(cdv:Ac) (d:Ap) (outer:List Ar) (s:Af) (H:Hp) (E:XK) (as:List A) (Q:A->Prop),zO k (d.deeper (envOfC qual (zd st) s.heap.objs.size f cdv))->φ as Q->
   SvS (xi CX0 P w K mg base N qual (zd st) f cdv d outer s H E).nox (as.map some++List.replicate (N.length-as.length) none) (zJ st) {nx:=λ_=>Q (.dat .none),rt:=Q}):zG P w K mg base CX0 (k+1) f fd ps (spA φ):=by
 refine G.ok S (λvs H Q E h=>?_) (λcdv d outer s H vs j E hr h=>?_)
 .obtain⟨F,as,Q',_,_,_,g,c,_⟩:=h;rw[g.length,hlen as _ c]
 .obtain⟨F,as,Q',e,t,o,g,c,i⟩:=h;exact b cdv d outer s H E as Q' hr c F _ H _ (M.start e t o g) ⟨λL σ H' m q=>i _ _ _ q ⟨m.tp,m.keep,.non⟩,λa v H' r q=>i a v H' q r,λ_ _ _ _ z=>z.elim,λ_ _ _ _ z=>z.elim⟩
end
section
variable {X:Cx}{pins:List (Ab×Obj)}{σ:St}{H:Hp}{s:Af}{h':Ao}
def Inv.turnL {t':Nat}{ch:List Ab}(I:Inv X pins σ H s)(k:∀b o,b∉ch->s.heap.get? b=some o->h'.get? b=some o)(hf:∀b∈ch,uu X pins H b):Inv X pins σ H {s with heap:=h',toks:=t'}:=by
 have d:∀b u,H b=some u->b∉ch:=λb u e z=>by rw[(hf b z).1]at e;cases e
 refine I.step (λb g=>?_) (λb o _ _ a e _=>k b o a e) (λb o _ _ a e _=>⟨o.slots,k b o a e⟩) (λ_ _ _ _ n=>n)
  (λb o a e=>⟨o,k b o a e⟩) (λ_ _ e=>e) (λ_ _ _ e=>e) (λb ps e=>⟨#[],by rw[e];simp⟩) (λm hm=>?_) (λb u e=>?_) I.bare
 .obtain⟨_,f1,_,f,f4,l⟩:=hf b g;exact⟨f,f1,f4,l⟩
 .obtain⟨o,h,j,i,r⟩:=hm;exact⟨o,h,j,k _ o (λz=>(hf _ z).2.1 rfl) i,r⟩
 .refine(I.hok b u e).stay (λc v a q=>k c v ?_ q) (λ_ q=>q) λ_ _ q=>q;rcases a with z|z
  .rw[z];exact d b u e
  .exact d c _ z
def Inv.turnLay {t':Nat}{ch:List Ab}{T:Ab}{o:HO}(I:Inv X pins σ H s)(k:∀b o,b∉ch->s.heap.get? b=some o->h'.get? b=some o)(hf:∀b∈ch,uu X pins H b)(g:s.heap.objs.size<=T)(new:xx X.prog X.w (upd H T o) h' T o):
  Inv X pins σ (upd H T o) {s with heap:=h',toks:=t'}:=by
 have d:∀b u,H b=some u->b∉ch:=λb u e z=>by rw[(hf b z).1]at e;cases e
 have hn:=I.hok.fresh g;have lt:∀{b:Ab} {u:Obj},s.heap.get? b=some u->b≠T:=λe=>zK8 (zJ6 (zI9 e) g);refine I.step (λb f=>?_) (λb o _ _ a e _=>k b o a e) (λb o _ _ a e _=>⟨o.slots,k b o a e⟩) (λb u _ e n=>by rw[zm (lt e)];exact n)
  (λb o a e=>⟨o,k b o a e⟩) (λb xs e=>by rw[zm (zq e hn)];exact e) (λb u xs e=>by rw[zm (zq e hn)];exact e) (λb ps e=>⟨#[],by rw[zm (zq e hn),e];simp⟩) (λm hm=>?_) (λb u e=>?_) I.bare
 .obtain⟨_,f1,_,h,f4,p⟩:=hf b f;exact⟨h,f1,f4,p⟩
 .obtain⟨o,i,l,j,r⟩:=hm;exact⟨o,i,l,k _ o (λz=>(hf _ z).2.1 rfl) j,r⟩
 .by_cases f:b=T
  .subst f;rw[zk]at e;cases e;exact new
  .rw[zm f]at e;refine(I.hok b u e).stay (λc v a q=>k c v ?_ q) (λc q=>by rw[zm (zq q hn)];exact q) λc xs q=>by rw[zm (zq q hn)];exact q
   rcases a with z|z
   .rw[z];exact d b u e
   .exact d c _ z
end
def zG0 {a b:Nat}(h:b<a):(a:Ab)≠b:=zT2 h
def Itz (K:Ae)(l1 l2:Ab):It:=
 ⟨λi H=>∃xs a x y,SqL K H l1 xs/\SqL K H l2 a/\xs[i]?=some x/\a[i]?=some y,
  λi H v H'=>∃T x y,v=.ref T/\H T=none/\H'=upd H T (.tup [x,y])/\(∀xs,SqL K H l1 xs->xs[i]?=some x)/\∀a,SqL K H l2 a->a[i]?=some y,
  λi H=>∃xs a,SqL K H l1 xs/\SqL K H l2 a/\(xs.length<=i\/a.length<=i)⟩
def Ite (K:Ae)(l:Ab):It:=
 ⟨λi H=>∃xs x,SqL K H l xs/\xs[i]?=some x,
  λi H v H'=>∃T x,v=.ref T/\H T=none/\H'=upd H T (.tup [.int i,x])/\∀xs,SqL K H l xs->xs[i]?=some x,
  λi H=>∃xs,SqL K H l xs/\xs.length<=i⟩
def zz4 {P:Ah}{w:Ak}{K:Ae}{elts:List Ai}{kk:Nat}{pos:Pos}{z TI TO i1 i2 l1 l2:Ab}(D:ZipApart z TI TO i1 i2 l1 l2):
  Turn P w K (.Tuple elts kk pos) (Itz K l1 l2) [z,TI,TO,i1,i2] z (λi h=>IsZip h z TI TO .none/\IsPair h TI (.ref i1) (.ref i2)/\(∃a b,IsPair h TO a b)/\h.IsListIter i1 l1 i/\h.IsListIter i2 l2 i) where
 mem:=by simp
 obj:=λi h st b d=>by
  obtain⟨l,j,⟨a,c,m⟩,⟨o1,Y,_,d1⟩,⟨o2,U,_,d2⟩⟩:=st;simp only[zI8,zJ7,zM4]at d;rcases d with rfl|rfl|rfl|rfl|rfl
  .exact⟨_,l,λv z=>by cases(z)⟩
  .exact⟨_,j,λv z=>by cases(z)⟩
  .exact⟨_,m,λv z=>by cases(z)⟩
  .exact⟨o1,Y,λv z=>by rw[d1]at z;cases z⟩
  .exact⟨o2,U,λv z=>by rw[d2]at z;cases z⟩
 keep:=λi h h' st k=>by
  obtain⟨l,j,⟨a,c,m⟩,q,t⟩:=st;exact⟨k z (by simp) _ l,k TI (by simp) _ j,⟨a,c,k TO (by simp) _ m⟩,q.at λo e=>k i1 (by simp) o e,t.at λo e=>k i2 (by simp) o e⟩
 item:=by
  intro X M hw L hc i pins s σ H E I hf st N;subst M hw L;obtain⟨xs,ys,x,y,f,g,Z,hy⟩:=N;obtain⟨C,p,T,O⟩:=I.list f;obtain⟨B,n,G,V⟩:=I.list g;obtain⟨u,hu,ru⟩:=p.get Z;obtain⟨v,hv,rv⟩:=n.get hy;obtain⟨l,j,⟨a,c,m⟩,q,t⟩:=st;refine wpAny_pyNext_zip_item D l j m q t T.isList G.isList (by simpa using hu) (by simpa using hv) λh' a1 a2 a3 a4 a5 a6 hk=>⟨_,rfl,wpAny_letOwnedTupleGo_zip a1 λR b1 r=>?_⟩;have S:∀b o,b∉[z,TI,TO,i1,i2]->s.heap.get? b=some o->R.get? b=some o:=λb o d e=>by
   simp only[zI8,zJ7,zM4,not_or]at d;exact r.extBut _ _ d.1 (hk b o d.1 d.2.2.1 d.2.2.2.1 d.2.2.2.2 e)
  have gT:=r.extBut _ _ (zT2 (zI9 l)) a5;have J:=I.turnLay (t':=s.toks) (o:=.tup [x,y]) S hf (zI3 _) ⟨by show 2<=sizeLine;decide,[u,v],.cons ru (.cons rv .nil),_,gT,rfl,0,rfl⟩;refine⟨.ref s.heap.objs.size,_,J,rfl,⟨_,x,y,rfl,I.hok.fresh (zI3 _),rfl,λzs F=>by rw[I.list_inj F f];exact Z,λzs F=>by rw[I.list_inj F g];exact hy⟩,⟨b1,r.extBut _ _ D.TIz (hk _ _ D.TIz D.TITO D.TIi1 D.TIi2 j),⟨u,v,r.extBut _ _ D.TOz a2⟩,a3.extBut r.extBut D.i1z,a4.extBut r.extBut D.i2z⟩,λb d=>?_⟩;rw[zm]
  .exact(hf b d).1
  .obtain⟨o,e,_⟩:=(show ∃o,s.heap.get? b=some o/\True from by
    simp only[zI8,zJ7,zM4]at d;obtain⟨o1,Y,_⟩:=q;obtain⟨o2,U,_⟩:=t;rcases d with rfl|rfl|rfl|rfl|rfl
    .exact⟨_,l,trivial⟩
    .exact⟨_,j,trivial⟩
    .exact⟨_,m,trivial⟩
    .exact⟨_,Y,trivial⟩
    .exact⟨_,U,trivial⟩)
   exact zK8 (zI9 e)
 done:=by
  intro X M hw L hc i pins s σ H E I hf st N;subst M hw L;obtain⟨xs,ys,f,g,hl⟩:=N;obtain⟨C,p,T,O⟩:=I.list f;obtain⟨B,n,G,V⟩:=I.list g;obtain⟨l,j,⟨a,c,m⟩,q,t⟩:=st;refine wpAny_pyNext_zip_end (I.ok.hd hc) D l j m q t T.isList G.isList (hl.imp (λz=>by simp;exact zJ1 (zK7 p.length.symm) z) λz=>by simp;exact zJ1 (zK7 n.length.symm) z) λh' hk=>⟨rfl,?_⟩;exact I.turnL (λb o d e=>by
   simp only[zI8,zJ7,zM4,not_or]at d;exact hk b o d.1 d.2.2.1 d.2.2.2.1 d.2.2.2.2 e) hf
 self:=λA i s Q E st h=>wpAny_pyIter_zip st.1 h
def dQ {P:Ah}{w:Ak}{K:Ae}{elts:List Ai}{N:Nat}{pos:Pos}{e it l:Ab}(j:e≠it):
  Turn P w K (.Tuple elts N pos) (Ite K l) [e,it] e (λi h=>(∃old,IsEnum h e it i old)/\h.IsListIter it l i) where
 mem:=by simp
 obj:=λi h st b a=>by
  obtain⟨⟨old,c⟩,⟨M,C,_,U⟩⟩:=st;simp only[zI8,zJ7,zM4]at a;rcases a with rfl|rfl
  .exact⟨_,c,λv z=>by cases(z)⟩
  .exact⟨M,C,λv z=>by rw[U]at z;cases z⟩
 keep:=λi h h' st k=>by
  obtain⟨⟨old,c⟩,f⟩:=st;exact⟨⟨old,k e (by simp) _ c⟩,f.at λo q=>k it (by simp) o q⟩
 item:=by
  intro X t hw r L i pins s σ H E I hf st B;subst t hw r;obtain⟨xs,x,d,G⟩:=B;obtain⟨m,g,p,D⟩:=I.list d;obtain⟨u,O,ru⟩:=g.get G;obtain⟨⟨old,c⟩,f⟩:=st;refine wpAny_pyNext_enum_item c f p.isList (by simpa using O) j λh' a1 Z V a6 hk=>⟨_,rfl,wpAny_letOwnedTupleGo_enum a1 λF Y y=>?_⟩;have n:∀b o,b∉[e,it]->s.heap.get? b=some o->F.get? b=some o:=λb o a q=>by
   simp only[zI8,zJ7,zM4,not_or]at a;exact y.extBut _ _ a.1 (hk b o a.1 a.2 q)
  have S:=y.extBut _ _ (zT2 (zI9 c)) V;have J:=I.turnLay (t':=s.toks+1) (o:=.tup [.int i,x]) n hf (zI3 _) ⟨by show 2<=sizeLine;decide,[.int i s.toks,u],.cons ⟨_,rfl⟩ (.cons ru .nil),_,S,rfl,0,rfl⟩;refine⟨.ref s.heap.objs.size,_,J,rfl,⟨_,x,rfl,I.hok.fresh (zI3 _),rfl,λzs R=>by rw[I.list_inj R d];exact G⟩,⟨⟨u,by simpa using Y⟩,Z.extBut y.extBut j.symm⟩,λb a=>?_⟩;rw[zm]
  .exact(hf b a).1
  .obtain⟨o,q,_⟩:=(show ∃o,s.heap.get? b=some o/\True from by
    simp only[zI8,zJ7,zM4]at a;obtain⟨M,C,_⟩:=f;rcases a with rfl|rfl
    .exact⟨_,c,trivial⟩
    .exact⟨_,C,trivial⟩)
   exact zK8 (zI9 q)
 done:=by
  intro X t hw r L i pins s σ H E I hf st B;subst t hw r;obtain⟨xs,d,T⟩:=B;obtain⟨m,g,p,D⟩:=I.list d;obtain⟨⟨old,c⟩,f⟩:=st;refine wpAny_pyNext_enum_end (I.ok.hd L) c f p.isList (by simp;exact zJ1 (zK7 g.length.symm) T) λh' hk=>⟨rfl,?_⟩;exact I.turnL (λb o a q=>by
   simp only[zI8,zJ7,zM4,not_or]at a;exact hk b o a.2 q) hf
 self:=λA i s Q E st h=>by
  obtain⟨⟨old,c⟩,f⟩:=st;exact wpAny_pyIter_enum c h
section
variable {X:Cx}{L:Ev}{elts:List Ai}{kk:Nat}{tp p pos:Pos}{a b:Ai}
def zD5 (K:Ae)(c:TA):TI:=λσ H R=>c σ H λvs H1=>∃l,vs=[.ref l]/\(∃xs,SqL K H1 l xs)/\R (Ite K l) H1
def zf4 {i:TA}(z:Gl X "enumerate")(hm:X.mg "enumerate"=none)(ha:PA X [a] i)(t:Ad [a] X.env=[(false,eval a X.env)]:=by rfl):
  PI X (.Tuple elts kk tp) (.Call (.Name "enumerate" p) [a] [] pos) (zD5 X.K i):=by
 intro pins s σ H R I h;refine Call_ (uA I z hm boot_enumerate (zP2 (thn (ha pos pins s σ H _ I h) λus s1 g=>?_) t rfl));obtain⟨vs,H1,d,m,v⟩:=g;obtain⟨l1,e,⟨xs,f⟩,q⟩:=v;subst e;obtain⟨u,rfl,x⟩:=Vals.one m;cases(x);obtain⟨k,y,r,A⟩:=d.list f;refine call_enumerate_list r.isList λh' l w B hk=>wpAny_pyIter_enum l ?_;refine⟨_,_,_,_,H1,rfl,d.kept λb o e=>hk b o e,dQ (zG0 (zP0 _)),⟨⟨_,l⟩,w⟩,λb j=>?_,q⟩;simp only[zI8,zJ7,zM4]at j;have c:s1.heap.objs.size<=b:=by
  have key:∀n b:Nat,n=s1.heap.objs.size->(b=n+1\/b=n)->n<=b:=λn b _ h=>by lia
  exact key _ _ rfl j
 exact d.fpOk c (d.hok.fresh c)
def so (n:Nat):List Aa->List Aa
 |[]=>[]
 |d::ds=>.tuple [.int n,d]::so (n+1) ds
theorem wX :∀{ds:List Aa}{n i:Nat}{d:Aa},(so n ds)[i]?=some d->∃e,ds[i]?=some e/\d=.tuple [.int ((n+i:Nat):Int),e]
 |[],n,i,d,h=>by simp[so]at h
 |e::ds,n,0,d,h=>by simp[so]at h;exact⟨e,rfl,by simp[<-h]⟩
 |e::ds,n,i+1,d,h=>by
  simp only[so,zU2]at h;obtain⟨g,f,c⟩:=wX h;exact⟨g,by simpa using f,by rw[c,Nat.add_assoc,Nat.add_comm 1 i]⟩
theorem wV :∀(ds:List Aa) (n:Nat),(so n ds).length=ds.length
 |[],_=>rfl
 |_::ds,n=>by simp[so,wV ds (n+1)]
def sZ {Q:List Aa->Prop}(A:Gl X "enumerate")(hm:X.mg "enumerate"=none)(h:EvD X L a λx=>∃ds,x=.list ds/\Q (so 0 ds))(l:Ad [a] X.env=[(false,eval a X.env)]:=by rfl):
  EvI X L (.Tuple elts kk tp) (.Call (.Name "enumerate" p) [a] [] pos) Q:=λF σ H R m k=>by
 refine⟨_,zf4 A hm (zh zi zy l) l,h F σ H _ m λx C H1 w t1 k1 t=>?_⟩;obtain⟨ds,rfl,q⟩:=w;obtain⟨l1,xs,rfl,g1,g2⟩:=t.lst_inv;refine⟨l1,rfl,⟨xs,SqL.of (zg g1).2⟩,k _ _ H1 q t1 k1 λi u p s=>⟨λd hd=>?_,λn=>?_⟩⟩
 .have s1:=SqL.of (K:=X.K) (zg (s _ _ g1)).2;obtain⟨e,he,rfl⟩:=wX hd;obtain⟨r,c,g⟩:=g2.get he;refine⟨⟨xs,r,s1,c⟩,λv D y=>?_⟩;obtain⟨T,x,rfl,j,rfl,f⟩:=y;have f:=f _ s1;rw[c]at f;cases f;refine⟨zV j,λfr=>?_⟩;have z:zu (Gz F L σ H1) (sub p (upd u T (.tup [.int i,r]))):=λa o e=>by
   obtain⟨B,z2⟩:=zg (s a o e);exact zw B (by rw[zm (zq z2 j)];exact z2)
  refine .tup (zw (fr T _ zk j) zk) (.cons ?_ (.cons (g.same z) .nil));rw[Nat.zero_add];exact .int _
 .refine⟨xs,SqL.of (zg (s _ _ g1)).2,?_⟩;rw[wV,<-g2.length]at n;exact n
end
structure Cal (P:Ah)(w:Ak)(K:Ae)(mg:Str->Option Ac)(base:Ao)(x:Str)(k:Nat)(φ:List A->(A->Prop)->Prop):Prop where
 ex:∃f fd ps,mg x=some (.ref f)/\PySem.W.keepIn K (.ref f)=true/\Binds K fd ps []/\zG P w K mg base CX0 k f fd ps (spA φ)
section
variable {X:Cx}{L:Ev}{e a b:Ai}{es:List Ai}{pos p:Pos}{Q:Aa->Prop}{k:Nat}{φ:List A->(A->Prop)->Prop}{x:Str}
def zE (C:Cal X.prog X.w X.K X.mg X.base x k φ)(hr:zO k X.A)(j:Gl X x)(h:EvA X L (e::es) λas=>φ as λa=>Q a.d)
  (c:(x == ("__debug__":Str))=false:=by decide) (he:Ad (e::es) X.env=(false,eval e X.env)::Ad es X.env:=by rfl) (hpl:(backTo pos (Ad es X.env)).any (·.1)=false:=by rfl):EvD X L (.Call (.Name x p) (e::es) [] pos) Q:=by
 obtain⟨f,fd,ps,l,g,m,i⟩:=C.ex;exact zd8 i hr j l g m h c he hpl
def uE {Q:List Aa->Prop}(C:Cal X.prog X.w X.K X.mg X.base x k φ)(hr:zO k X.A)(l:Gl X x)(h:EvA X L (e::es) λas=>φ as λa=>∃ds,a=.own ds/\Q ds)
  (c:(x == ("__debug__":Str))=false:=by decide) (he:Ad (e::es) X.env=(false,eval e X.env)::Ad es X.env:=by rfl) (hpl:(backTo pos (Ad es X.env)).any (·.1)=false:=by rfl):EvL X L (.Call (.Name x p) (e::es) [] pos) Q:=by
 obtain⟨f,fd,ps,g,d,i,j⟩:=C.ex;exact ze5 j hr l g d i h c he hpl
end
section
variable {P:Ah}{w:Ak}{K:Ae}{mg:Str->Option Ac}{base:Ao}
def rq {x qual:Str}{st:An}{f:Ab}{fd:Ag}{N ps:List Str}{k:Nat}{φ:List A->(A->Prop)->Prop}(G:Fun K x qual st f fd)(hm:mg x=some (.ref f))(c:Binds K fd ps [])(S:zo N ps (zd st))(hlen:∀as Q,φ as Q->as.length=ps.length)
  (a:∀(cdv:Ac) (b:Ap) (outer:List Ar) (s:Af) (H:Hp) (E:XK) (as:List A) (Q:A->Prop),zO k (b.deeper (envOfC qual (zd st) s.heap.objs.size f cdv))->φ as Q->
   SvS (xi CX0 P w K mg base N qual (zd st) f cdv b outer s H E).nox (as.map some++List.replicate (N.length-as.length) none) (zJ st) {nx:=λ_=>Q (.dat .none),rt:=Q}):Cal P w K mg base x (k+1) φ:=
 ⟨f,fd,ps,hm,G.kp,c,fnA G S hlen a⟩
def wq :List A->(A->Prop)->Prop:=λas Q=>∃n:Int,as=[.tape,.dat (.int n)]/\0<n/\n<big/\∀v,0<=v->v<n->Q (.dat (.int v))
end
section
variable {Y:Ab->Af->Hp->List Ab->Cx}{pat:Pat}{ifs:List Ai}{elt:Ai}{α0:Ev}
def wR {ds acc:List Aa}{Q:List Aa->Prop}(P:Nat->List Aa->Prop)(h0:P 0 acc)
  (j:∀i d acc,ds[i]?=some d->P i acc->∃a,pat.bind d α0=some a/\∀C s2 f fp,zc7 (Y C s2 f fp) a ifs λk=>if k=true then ∀C s2 f fp,EvD (Y C s2 f fp) a elt λy=>P (i+1) (acc++[y])else P (i+1) acc)
  (hd:∀acc,P ds.length acc->Q acc):yR Y pat ifs elt α0 ds acc Q:=by
 have key:∀n i acc,n=ds.length-i->i<=ds.length->P i acc->yR Y pat ifs elt α0 (ds.drop i) acc Q:=by
  intro n
  induction n with
  |zero=>
   intro i acc hn hi p;have e:=(om5 hn hi);subst e;rw[zP5];exact hd acc p
  |succ n g=>
   intro i acc hn hi p;have c:=(om6 hn);rw[zM7 c];obtain⟨a,e,b⟩:=j i ds[i] acc (zI5 c) p;refine⟨a,e,λC s2 f fp F σ H R m h=>b C s2 f fp F σ H R m λk H' q=>h k H' ?_⟩;cases k with
   |true=>
    rw[if_pos rfl]at q ⊢;exact λC s2 f fp=>(q C s2 f fp).imp λy p=>g (i+1) _ (om7 hn) c p
   |false=>
    rw[if_neg (by decide)]at q ⊢;exact g (i+1) _ (om7 hn) c q
 exact key _ 0 acc rfl (zK6 _) h0
end
def tX {ds:List Aa}{v:Int}(h0:0<=v)(b:v<ds.length):∃d,d∈ds/\atI ds v=some d:=by
 obtain⟨j,rfl⟩:=zN3 h0;have a:=(om9 b);exact⟨ds[j],List.getElem_mem a,sN (zI5 a)⟩
section
variable {L:Ev}{F:Fr}{σ:St}{H H':Hp}{i:Nat}{s s':zD}
abbrev zD.at (s:zD)(x:Ab):Prop:=x=s.a\/x=s.lp
noncomputable abbrev zD.un (s:zD)(H:Hp):Hp:=sub (λx=>x≠s.a/\x≠s.lp) H
theorem M.inn (m:M F L σ H)(hi:L[i]?=some (some (.inn s))):σ[i]?=some (some (.ref s.a))/\xt (Gz F L σ H) H s/\∀x,s.at x->¬F.O0 x/\F.H0 x=none:=by
 obtain⟨v,b⟩:=m.at' hi;obtain⟨rfl,d,c⟩:=m.ok i _ v hi b;exact⟨b,d,c⟩
def M.wrI (m:M F L σ H)(hi:L[i]?=some (some (.inn s)))(O:s'.a=s.a)(T:s'.lp=s.lp)(k:∀x o,H x=some o->NT F x->x≠s.a->x≠s.lp->H' x=some o)(t:zH F H')(h:xt (Gz F L σ H') H' s'):M F (L.set i (some (.inn s'))) σ H':=by
 obtain⟨w,h0,E⟩:=m.inn hi;have K:∀{x v},foot v (.inn s') x↔foot v (.inn s) x:=λ{x v}=>by show x=s'.a\/x=s'.lp↔x=s.a\/x=s.lp;rw[O,T]
 have D:∀{j:Nat} {a:A} {v:Option V},(L.set i (some (.inn s')))[j]?=some (some a)->σ[j]?=some v->(i=j/\a=.inn s'/\v=some (.ref s.a))\/(i≠j/\L[j]?=some (some a)):=λ{j a v} p g=>by
  rcases zA p with⟨rfl,z⟩|⟨B,d⟩
  .cases z;rw[w]at g;cases g;exact .inl ⟨rfl,rfl,rfl⟩
  .exact .inr ⟨B,d⟩
 have G:∀{y:Ab},Ow F (L.set i (some (.inn s'))) σ y->Ow F L σ y:=λ{y} h=>by
  rcases h with z|⟨j,a,v,p,g,f⟩
  .exact .inl z
  .rcases D p g with⟨rfl,rfl,rfl⟩|⟨B,d⟩
   .exact .inr ⟨i,_,_,hi,w,K.mp f⟩
   .exact .inr ⟨j,a,v,d,g,f⟩
 have ol:∀{x},s.at x->Ow F L σ x:=λf=>.inr ⟨i,_,_,hi,w,f⟩;have W:zu (Gz F L σ H) (Gz F (L.set i (some (.inn s'))) σ H'):=zj λa o h e=>⟨λz=>h (G z),k a o e (m.tp.nt (ow0 h)) (λz=>h (ol (.inl z))) λz=>h (ol (.inr z))⟩;have N:zu (Gz F L σ H') (Gz F (L.set i (some (.inn s'))) σ H'):=zj λa o h e=>⟨λz=>h (G z),e⟩;have U:∀{j:Nat} {a:A} {v:Option V} {x:Ab},i≠j->L[j]?=some (some a)->σ[j]?=some v->foot v a x->x≠s.a/\x≠s.lp:=λB p g f=>⟨λz=>B (m.dj i _ _ _ _ _ _ hi p w g (.inl z) f),λz=>B (m.dj i _ _ _ _ _ _ hi p w g (.inr z) f)⟩;refine⟨by rw[zK0];exact m.len,λj a v p g=>?_,λj I a b v t x p g Q J f1 f2=>?_,λj r q e I a v x p g f=>?_,t,λy o e n=>?_,?_⟩
 .rcases D p g with⟨rfl,rfl,rfl⟩|⟨B,d⟩
  .exact⟨by rw[O],h.same N (λ_ _ _ e=>e),λx z=>E x (by rw[O,T]at z;exact z)⟩
  .refine(m.ok j a v d g).stay W (λy u f e=>?_) rfl λr q R l=>⟨l.tp,l.o,l.ok.re t l.tp.symm,λy u e n=>?_⟩
   .obtain⟨w1,w2,_⟩:=m.ft d g f;obtain⟨n1,n2⟩:=U B d g f;exact⟨k y u e (m.tp.nt w1) n1 n2,w1,w2⟩
   .have xd:=λx f=>m.xd j r q (by rw[<-R];exact d) i _ _ x hi w f;exact k y u (l.k y u e n) ⟨λa b c z=>n.1 a b c (l.tp.trans z),n.2⟩ (λz=>by rw[xd y (.inl z)]at e;cases e) λz=>by rw[xd y (.inr z)]at e;cases e
 .rcases D p Q with⟨rfl,rfl,rfl⟩|⟨B,d⟩
  .rcases D g J with⟨rfl,_⟩|⟨P,C⟩
   .rfl
   .exact m.dj i I _ b _ t x hi C w J (K.mp f1) f2
  .rcases D g J with⟨rfl,rfl,rfl⟩|⟨P,C⟩
   .exact m.dj j i a _ v _ x d hi Q w f1 (K.mp f2)
   .exact m.dj j I a b v t x d C Q J f1 f2
 .rcases zA e with⟨_,z⟩|⟨_,S⟩
  .cases z
  .rcases D p g with⟨rfl,rfl,rfl⟩|⟨_,d⟩
   .exact m.xd j r q S i _ _ x hi w (K.mp f)
   .exact m.xd j r q S I a v x d g f
 .exact k y o (m.keep y o e n) n (λz=>by rw[z,(E _ (.inl rfl)).2]at e;cases e) λz=>by rw[z,(E _ (.inr rfl)).2]at e;cases e
 .refine M.oex' (H:=s.un H) t (λx o e n=>?_) λx z=>?_
  .obtain⟨⟨n1,n2⟩,e⟩:=zg e;exact k x o e n n1 n2
  .obtain⟨o,e,n⟩:=m.oex x z;exact⟨o,zw ⟨λy=>(E x (.inl y)).1 z,λy=>(E x (.inr y)).1 z⟩ e,n⟩
theorem yf.res (m:M F L σ H)(hi:L[i]?=some (some (.inn s))){v:V}{d:Aa}(r:AV (Gz F L σ H) v d):yf F v H (.res d s):=by
 obtain⟨b,h0,c⟩:=m.inn hi;have g:zu (Gz F L σ H) (sub (λx=>¬F.O0 x/\x≠s.a/\x≠s.lp) H):=zj λx o h e=>⟨⟨ow0 h,λz=>h (.inr ⟨i,_,_,hi,b,.inl z⟩),λz=>h (.inr ⟨i,_,_,hi,b,.inr z⟩)⟩,e⟩;exact⟨m.tp,m.keep,r.same g,h0.same g λ_ _ _ e=>e,c⟩
end
def spG (φ:List A->(A->Prop)->Prop):Sp:=λvs H b _=>∃(F:Fr) (s:zD) (us:List V) (as:List A) (Q:A->Prop),vs=.ref s.a::us/\F.H0=s.un H/\zH F H/\(∀x,F.O0 x->∃o,H x=some o/\yU o)/\(∀x,s.at x->¬F.O0 x)/\xt (sub (λx=>¬F.O0 x/\x≠s.a/\x≠s.lp) H) H s/\zS F (sub (λx=>¬F.O0 x/\x≠s.a/\x≠s.lp) H) us as/\φ (.inn s::as) Q/\∀a v H',Q a->yf F v H' a->b v H'
section
variable {P:Ah}{w:Ak}{K:Ae}{mg:Str->Option Ac}{base:Ao}
def M.startI {F:Fr}{N:List Str}{us:List V}{as:List A}{H:Hp}{s:zD}(e:∀x o,F.H0 x=some o->H x=some o)(E:∀x,s.at x->F.H0 x=none)(t:zH F H)(o:∀x,F.O0 x->∃u,H x=some u/\yU u)(no:∀x,s.at x->¬F.O0 x)(hi:xt (sub (λx=>¬F.O0 x/\x≠s.a/\x≠s.lp) H) H s)(y:zS F (sub (λx=>¬F.O0 x/\x≠s.a/\x≠s.lp) H) us as):
  M F ((A.inn s::as).map some++List.replicate (N.length-(A.inn s::as).length) none) (L2.start N (.ref s.a::us)) H:=by
 have g:∀{i:Nat} {a:A},((A.inn s::as).map some++List.replicate (N.length-(A.inn s::as).length) none)[i]?=some (some a)->(A.inn s::as)[i]?=some a:=λ{i a} h=>by
  rcases zV5 i (A.inn s::as).length with z|z
  .rw[zJ4 (by rw[zH8];exact z),zJ8,zL3]at h;obtain⟨b,n,m⟩:=h;cases m;exact n
  .rw[zJ2 (by rw[zH8];exact z),zM3]at h;split at h<;>cases h
 have at':∀{vs:List V} {as:List A} {i:Nat} {a:A},zS F (sub (λx=>¬F.O0 x/\x≠s.a/\x≠s.lp) H) vs as->as[i]?=some a->∃v,vs[i]?=some v/\qE F (sub (λx=>¬F.O0 x/\x≠s.a/\x≠s.lp) H) v a:=by
  intro vs as i a h
  induction h generalizing i with
  |nil=>intro e;simp at e
  |cons h r G=>
   intro e;cases i with
   |zero=>simp at e;subst e;exact⟨_,rfl,h⟩
   |succ i=>obtain⟨v,n,m⟩:=G (by simpa using e);exact⟨v,by simpa using n,m⟩
 have C:∀{i:Nat} {v:V},(V.ref s.a::us)[i]?=some v->(L2.start N (.ref s.a::us))[i]?=some (some v):=λ{i v} h=>by
  unfold L2.start;rw[zJ4 (by rw[zH8];exact((zH9.mp h).1)),zJ8,h];rfl
 have p:∀{i:Nat} {a:A} {v:Option V},((A.inn s::as).map some++List.replicate (N.length-(A.inn s::as).length) none)[i]?=some (some a)->(L2.start N (.ref s.a::us))[i]?=some v->(i=0/\a=.inn s/\v=some (.ref s.a))\/(∃u,v=some u/\qE F (sub (λx=>¬F.O0 x/\x≠s.a/\x≠s.lp) H) u a):=λ{i a v} l k=>by
  have h:=g l;cases i with
  |zero=>
   cases h;rw[C (i:=0) rfl]at k;cases k;exact .inl ⟨rfl,rfl,rfl⟩
  |succ i=>
   obtain⟨u,n,m⟩:=at' y (i:=i) (by simpa using h);rw[C (i:=i+1) (by simpa using n)]at k;cases k;exact .inr ⟨u,rfl,m⟩
 have nf:∀{v u:V} {a:A} {x:Ab},qE F (sub (λx=>¬F.O0 x/\x≠s.a/\x≠s.lp) H) u a->¬foot (some v) a x:=λ{v u a x} h f=>by cases a<;>first|exact f|exact h
 have D:zu (sub (λx=>¬F.O0 x/\x≠s.a/\x≠s.lp) H) (Gz F ((A.inn s::as).map some++List.replicate (N.length-(A.inn s::as).length) none) (L2.start N (.ref s.a::us)) H):=zj λx o h e=>⟨λz=>z.elim h.1 λ⟨i,b,v,l,k,f⟩=>by
  rcases p l k with⟨_,rfl,rfl⟩|⟨u,rfl,z⟩
  .exact f.elim h.2.1 h.2.2
  .exact nf z f,e⟩
 refine⟨by unfold L2.start;simp[y.length],λi a v l k=>?_,λi j a b v u x l k I L f1 f2=>?_,λi r q z=>?_,t,λx o' h _=>?_,o⟩
 .rcases p l k with⟨_,rfl,rfl⟩|⟨u,rfl,z⟩
  .exact⟨rfl,hi.same D λ_ _ _ e=>e,λx B=>⟨no x B,E x B⟩⟩
  .cases a with
   |dat d=>exact⟨u,rfl,AV.same D z⟩
   |tape=>obtain⟨t',b,c,J,rfl⟩:=z;exact⟨t',b,c,J,rfl⟩
   |_=>exact z.elim
 .rcases p l I with⟨rfl,rfl,rfl⟩|⟨_,rfl,z⟩
  .rcases p k L with⟨rfl,_⟩|⟨_,rfl,z⟩
   .rfl
   .exact(nf z f2).elim
  .exact(nf z f1).elim
 .intro j a v x l k f;exact absurd (g z) (λh=>by
   cases i with
   |zero=>cases h
   |succ i=>
    obtain⟨_,_,w⟩:=at' y (i:=i) (by simpa using h);exact w)
 .exact e x o' h
def fnG {x qual:Str}{st:An}{f:Ab}{fd:Ag}{N ps:List Str}{k:Nat}{φ:List A->(A->Prop)->Prop}(G:Fun K x qual st f fd)(S:zo N ps (zd st))(hlen:∀as Q,φ as Q->as.length=ps.length)
  (b:∀(cdv:Ac) (g:Ap) (outer:List Ar) (s:Af) (H:Hp) (E:XK) (as:List A) (Q:A->Prop),zO k (g.deeper (envOfC qual (zd st) s.heap.objs.size f cdv))->φ as Q->
   SvS (xi CX0 P w K mg base N qual (zd st) f cdv g outer s H E).nox (as.map some++List.replicate (N.length-as.length) none) (zJ st) {nx:=λL=>∃s',L[0]?=some (some (.inn s'))/\Q (.res .none s'),rt:=Q}):zG P w K mg base CX0 (k+1) f fd ps (spG φ):=by
 refine G.ok S (λvs H Q E h=>?_) (λcdv g outer s H vs l E hr h=>?_)
 .obtain⟨F,s,us,as,Q',rfl,_,_,_,_,_,i,c,_⟩:=h;rw[zI7,i.length];exact hlen _ _ c
 .obtain⟨F,s,us,as,Q',rfl,e,t,o,no,hi,i,c,j⟩:=h;exact b cdv g outer _ H E _ Q' hr c F _ H _ (M.startI (λx o h=>(zg (e▸h)).2) (λx d=>by
   cases z:F.H0 x with
   |none=>rfl
   |some o=>
    obtain⟨⟨n1,n2⟩,_⟩:=zg (e▸z);rcases d with d|d;exact absurd d n1;exact absurd d n2) t o no hi i) ⟨λL σ H' m ⟨s',h0,q⟩=>j _ _ _ q (yf.res m h0 .non),λa v H' r q=>j a v H' q r,λ_ _ _ _ z=>z.elim,λ_ _ _ _ z=>z.elim⟩
end
section
variable {X:Cx}{L:Ev}{E:yj}{e:Ai}{pos:Pos}{rest:List An}{i:Nat}{s:zD}
def xy (i:Nat)(hi:L[i]?=some (some (.inn s)))(h:EvD X L e λd=>E.rt (.res d s)):SvS X L (.Return (some e) pos::rest) E:=λF σ H D m r=>by exact⟨_,zv (zP zi) zC,h F σ H _ m λd v H1 b t1 k1 a=>r.rt _ _ _ (yf.res (m.kz k1 t1) hi a) b⟩
end
section
variable {L:Ev}{F:Fr}{σ:St}{H H':Hp}{i:Nat}{s s':zD}
noncomputable abbrev Fr.giv (F:Fr)(L:Ev)(σ:St)(H:Hp)(s:zD):Fr:=⟨s.un H,λx=>Ow F L σ x/\x≠s.a/\x≠s.lp,F.tp⟩
def vV (m:M F L σ H)(hi:L[i]?=some (some (.inn s)))(H':Hp):zu (Gz F L σ H') (sub (λx=>¬(F.giv L σ H s).O0 x/\x≠s.a/\x≠s.lp) H')/\zu (sub (λx=>¬(F.giv L σ H s).O0 x/\x≠s.a/\x≠s.lp) H') (Gz F L σ H'):=by
 obtain⟨b,h0,c⟩:=m.inn hi;exact⟨zj λx o h e=>⟨⟨λz=>h z.1,λz=>h (.inr ⟨i,_,_,hi,b,.inl z⟩),λz=>h (.inr ⟨i,_,_,hi,b,.inr z⟩)⟩,e⟩,zj λx o h e=>⟨λz=>h.1 ⟨z,h.2⟩,e⟩⟩
def sg {φ:List A->(A->Prop)->Prop}{us:List V}{as:List A}{QA:A->Prop}{R:VK}{E:XK}(m:M F L σ H)(hi:L[i]?=some (some (.inn s)))(f:zS F (Gz F L σ H) us as)(b:φ (.inn s::as) QA)(d:∀a v H',QA a->yf (F.giv L σ H s) v H' a->R v H'):spG φ (.ref s.a::us) H R E:=by
 obtain⟨h,h0,c⟩:=m.inn hi;obtain⟨g,_⟩:=vV m hi H;refine⟨F.giv L σ H s,s,us,as,QA,rfl,rfl,m.tp.to rfl λx z=>⟨.inl z,λy=>(c x (.inl y)).1 z,λy=>(c x (.inr y)).1 z⟩,λx z=>m.owEx z.1,λx z y=>z.elim y.2.1 y.2.2,h0.same g λ_ _ _ e=>e,zS.to (F:=F) (F':=F.giv L σ H s) g rfl f,b,d⟩
def yf.backI (m:M F L σ H)(hi:L[i]?=some (some (.inn s)))(c:s'.a=s.a)(l:s'.lp=s.lp){v:V}{d:Aa}(h:yf (F.giv L σ H s) v H' (.res d s')):M F (L.set i (some (.inn s'))) σ H'/\AV (Gz F (L.set i (some (.inn s'))) σ H') v d:=by
 obtain⟨t,kz,r,b,w⟩:=h;rw[c,l]at r b;obtain⟨_,g⟩:=vV m hi H';have t':zH F H':=m.tp.re t rfl;have y:=m.wrI hi c l (λx o e n n1 n2=>kz x o (show s.un H x=some o from zw (p:=λx=>x≠s.a/\x≠s.lp) ⟨n1,n2⟩ e) n) t' (b.same g λ_ _ _ e=>e);refine⟨y,(r.same g).same (zj λx o h e=>⟨λz=>h ?_,e⟩)⟩;obtain⟨B,_,_⟩:=m.inn hi;rcases z with z|⟨j,a,u,A,q,f⟩
 .exact .inl z
 .rcases zA A with⟨rfl,z⟩|⟨_,k⟩
  .cases z;exact .inr ⟨_,_,_,hi,q,by show x=s.a\/x=s.lp;rw[<-c,<-l];exact f⟩
  .exact .inr ⟨j,a,u,k,q,f⟩
end
def rG (st:An)(env:Ar):execs [st] env=exec st env:=by
 rw[PySem.execs_cons];have:(λf:Flow=>(match f with|.next=>execs [] env|f=>pure f:Sem Flow))=pure:=by
  funext f
  cases f<;>rfl
 exact(congrArg (λg=>exec st env >>= g) this).trans (bind_pure _)
section
variable {X:Cx}{L:Ev}{e a b c:Ai}{es rest:List Ai}{pos p:Pos}{Q:Aa->Prop}{E:yj}{st:An}{sts sts':List An}
def tH (P:Ev->Prop)(j:SvS X L [st] {E with nx:=P})(i:∀d,P d->SvS X d sts E):SvS X L (st::sts) E:=λF σ H D m r=>by
 refine yC (λf H'=>∃d,M F d f H'/\P d) ?_ ?_
 .obtain⟨t,p,q⟩:=j F σ H {D with nx:=λf H'=>∃d,M F d f H'/\P d} m ⟨λd f H' g z=>⟨d,g,z⟩,r.rt,r.bk,r.ct⟩;exact⟨t,λpins s σ H D I h=>(by
   have:=p pins s σ H D I h;rw[rG]at this;exact this),q⟩
 .rintro f H' ⟨d,g,z⟩;exact i d z F f H' D g r
def va {c:Prop}[Decidable c]{a b:List An}(f:c->SvS X L a E)(d:¬c->SvS X L b E):SvS X L (if decide c=true then a else b) E:=by
 by_cases h:c
 .rw[zQ8 h];exact f h
 .rw[zM8 h];exact d h
theorem vq {k:Bool}{a b:List An}(f:k=true->SvS X L a E)(d:k=false->SvS X L b E):SvS X L (if k=true then a else b) E:=by
 cases k with
 |true=>exact f rfl
 |false=>exact d rfl
def nk {i j:Int}:Cmp rEq (.int i) (.int j) (decide (i=j)):=λp H k g R d f h=>by
 cases d.int_inv;cases f.int_inv;refine⟨rfl,?_⟩;rw[show decide (V.int i=V.int j)=decide (i=j) by simp];exact h
def zk2 {i j:Int}:Cmp rNe (.int i) (.int j) (!decide (i=j)):=λp H k g R d f h=>by
 cases d.int_inv;cases f.int_inv;refine⟨rfl,?_⟩;rw[show decide (V.int i=V.int j)=decide (i=j) by simp];exact h
def gK {i j:Str}:Cmp rEq (.str i) (.str j) (decide (i=j)):=λp H k g R d f h=>by
 cases d.str_inv;cases f.str_inv;refine⟨rfl,?_⟩;rw[show decide (V.str i=V.str j)=decide (i=j) by simp];exact h
def bJ {op:CmpOp}{r:R2}(n:OpR X (compareOp op) r)(hm:behindInMarks op b=false)(h:EvD X L a λx=>EvD X L b λy=>∃k,Cmp r x y k/\Q (.bool k)):EvD X L (.Compare a [op] [b] pos) Q:=λF σ H R m k=>by
 refine⟨_,wG n zi zi hm,h F σ H _ m λx l H1 t t1 k1 f=>?_⟩;have m1:=m.kz k1 t1;refine t F σ H1 _ m1 λy i d s g k2 o=>?_;obtain⟨b,j,q⟩:=s;exact j _ d l i _ (f.same (k2.gz m1.tp)) o (k _ _ d q g (k1.trans k2) (.bl b))
def zq0 {Q:Bool->Prop}(h:EvD X L a λx=>EvD X L b λy=>∃i j,x=.int i/\y=.int j/\Q (decide (i=j))):EvT X L (.Compare a [.Eq] [b] pos) Q:=
 ua vz (yc _) (h.imp λx h=>h.imp λy d=>by obtain⟨i,j,g,f,q⟩:=d;exact⟨_,by subst g f;exact nk,q⟩)
def zs8 (h:EvD X L a λx=>EvD X L b λy=>∃i j,x=.int i/\y=.int j/\Q (.bool (decide (i=j)))):EvD X L (.Compare a [.Eq] [b] pos) Q:=
 bJ vz (yc _) (h.imp λx h=>h.imp λy d=>by obtain⟨i,j,g,f,q⟩:=d;exact⟨_,by subst g f;exact nk,q⟩)
def bQ {Q:Bool->Prop}(h:EvD X L a λx=>EvD X L b λy=>∃i j,x=.str i/\y=.str j/\Q (decide (i=j))):EvT X L (.Compare a [.Eq] [b] pos) Q:=
 ua vz (yc _) (h.imp λx h=>h.imp λy d=>by obtain⟨i,j,g,f,q⟩:=d;exact⟨_,by subst g f;exact gK,q⟩)
end
structure NbT (mg:Str->Option Ac):Prop where
 abs:mg "abs"=none
 list:mg "list"=none
 len:mg "len"=none
 range:mg "range"=none
 min:mg "min"=none
 max:mg "max"=none
 sorted:mg "sorted"=none
 isinstance:mg "isinstance"=none
 int:mg "int"=none
 bool:mg "bool"=none
 str:mg "str"=none
 tuple:mg "tuple"=none
 all:mg "all"=none
 any:mg "any"=none
 repr:mg "repr"=none
 zip:mg "zip"=none
 enumerate:mg "enumerate"=none
 reversed:mg "reversed"=none
 sum:mg "sum"=none
def yI {X:Cx}{K:Ae}{a:List Ai}{k:Nat}{t:TGs}{n:Nat}{pos:Pos}(d:X.K=K)(c:X.calm=true)(h:PGs X a t)
  (hn:(assignEach a X.env).length=n:=by rfl) (b:(assignEach a X.env).findIdx? (·.1)=none:=by rfl):PG X (.Tuple a k pos) (bV K n t):=by
 subst d;exact zt4 c h hn b
end L2
namespace SortA
open PySem PySem.W PyProof.Rows
abbrev g (p:Array Nat)(i:Nat):Nat:=p.getD i 0
variable {lt:Nat->Nat->Bool}
end SortA
namespace SortA
open PySem PySem.W PyProof.Rows
end SortA
namespace L2
open PySem PySem.Spec PySem.Calls PySem.W PyProof.Rows SortA
section
variable {prog:Ah}{w:Ak}{A:Ap}{E:Ac->Af->Prop}{s:Af}
end
section
variable {X:Cx}{pins:List (Ab×Obj)}{σ:St}{H H':Hp}{s:Af}
end
end L2
namespace Days
end Days
namespace L2
open PySem PySem.Spec PyProof.Rows Days
section
variable {X:Cx}{L:Ev}{e a b c tg:Ai}{pos p:Pos}{Q:Aa->Prop}{E:yj}{sts:List An}
def zc8 {pat:Pat}(n:PG X tg (vF X.K pat))(h:EvD X L e λd=>∃f,pat.bind d L=some f/\SvS X f sts E)
  (o:swapsWithSole [tg] e pos.line X.env=pure false:=by rfl) (hw:swappedStores [tg] e X.env=pure none:=by rfl) (k:(assignEach [tg] X.env).map (·.2)=[assign tg X.env]:=by rfl):SvS X L (.Assign [tg] e pos::sts) E:=λF σ H D m r=>by
 refine⟨_,zv (kn zi n o hw k) zC,h F σ H _ m λd v H1 s t1 k1 i=>?_⟩;obtain⟨f,l,q⟩:=s;exact vb l (m.kz k1 t1) i λg j=>q F g H1 D j r
end
section
variable {X:Cx}{L:Ev}{tg:Ai}{pos p:Pos}{E:yj}{sts body:List An}
def noE :Ev->Bool
 |[]=>true
 |some (.exc _ _)::_=>false
 |_::r=>noE r
theorem wJ :∀{L:Ev}{j:Nat}{r:Fr}{q:Aa->Prop},noE L=true->L[j]?≠some (some (.exc r q))
 |[],j,r,q,_,h=>by simp at h
 |a::L,j,r,q,e,h=>by
  cases j with
  |zero=>
   simp at h;subst h;cases e
  |succ j=>
   refine wJ (L:=L) (j:=j) (r:=r) (q:=q) ?_ (by simpa using h);cases a with
   |none=>exact e
   |some a=>cases a<;>first|exact e|cases e
end
def isNone :Aa->Bool
 |.none=>true
 |_=>false
def DV.non_iff {H:Hp}{x:V}{d:Aa}(h:DV H x d):decide (x=.non)=isNone d:=by
 cases h<;>simp[isNone]
abbrev eqS (d:Aa)(s:Str):Bool:=PyData.eqv d (.str s)
abbrev tW :Aa->Bool:=yz 0 1000000000000
def qw :Aa->Bool
 |.tuple [.int m,f]=>yz 2 14 (.int m)&&yz 1 (m-1) f
 |_=>false
def yp (w v:Aa):Bool:=
 if eqS w "price"=true then isNone v||tW v
 else if(eqS w "come"||eqS w "go")=true then isBool v
 else if(eqS w "least"||eqS w "most")=true then yz 1 14 v
 else if eqS w "deal"=true then isNone v||qw v
 else eqS w "fee"&&tW v
def xS :Aa->Bool
 |.tuple [w,a,b,v]=>yO (.tuple [a,b])&&yp w v
 |_=>false
abbrev words :List Str:=["price","come","go","least","most","deal","fee"]
def ir {x:Str}(h:(PyData.str x).canLay0=true):SeqAt.shaped (.str x)=true:=by
 unfold SeqAt.shaped;rw[h];rfl
def gW :Sp:=λvs H Q _=>∃x y a dv,vs=[x,y]/\DV H x a/\SeqAt.shaped a=true/\DV H y dv/\Q (.bl (yp a dv)) H
def aV :Sp:=λvs H Q _=>∃x d,vs=[x]/\DV H x d/\SeqAt.shaped d=true/\∀H',zu H H'->Q (.bl (xS d)) H'
def oW {ds:List Aa}(h:SeqAt.shaped (.tuple ds)=true):∀d∈ds,SeqAt.shaped d=true:=by
 unfold SeqAt.shaped at h;rw[zL0,zN7]at h;obtain⟨f,c⟩:=h;simp only[PyData.canLay0]at f;simp only[PyData.depth]at c;have key:∀(ds:List Aa),PyData.canLayAll0 ds=true->PyData.depthAll ds+1<=64->∀d∈ds,SeqAt.shaped d=true:=by
  intro ds
  induction ds with
  |nil=>intro _ _ d hd;simp at hd
  |cons e r g=>
   intro a b d hd;simp only[PyData.canLayAll0,zL0]at a;simp only[PyData.depthAll]at b;rcases zI8.mp hd with z|z
   .subst z;unfold SeqAt.shaped;rw[a.1,zQ4,zN7];exact zJ1 (Nat.le_max_left _ _) (zJ1 (zO9 _ _) b)
   .exact g a.2 (by lia) d z
 exact key ds f (c)
def vS (x y z:V):List (Str×V):=xl "worth" z (xl "last" y (xl "first" x []))
def zm1 :¬(("worth":Str)="last"):=by decide +kernel
def zl8 :¬(("worth":Str)="first"):=by decide +kernel
def zc1 :¬(("last":Str)="first"):=by decide +kernel
def iy (x y z:V):(vS x y z).lookup ("first":Str)=some x:=by
 unfold vS;rw[yn,if_neg (λe=>zl8 e.symm),yn,if_neg (λe=>zc1 e.symm),yn,if_pos rfl]
def fZ (x y z:V):(vS x y z).lookup ("last":Str)=some y:=by
 unfold vS;rw[yn,if_neg (λe=>zm1 e.symm),yn,if_pos rfl]
def kE (x y z:V):(vS x y z).lookup ("worth":Str)=some z:=by
 unfold vS;rw[yn,if_pos rfl]
def zj9 (x y z:V){m:Str}(c:¬m="worth")(a:¬m="last")(b:¬m="first"):(vS x y z).lookup m=none:=by
 unfold vS;rw[yn,if_neg c,yn,if_neg a,yn,if_neg b];rfl
structure Cs where
 price:Ab
 come:Ab
 go:Ab
 least:Ab
 most:Ab
 deal:Ab
 fee:Ab
def Cs.of (c:Cs)(w:Str):Ab:=
 if w="price" then c.price else if w="come" then c.come else if w="go" then c.go else if w="least" then c.least else if w="most" then c.most else if w="deal" then c.deal else c.fee
structure vE (K:Ae)(C fI fT fE fW:Ab):Prop where
 cl:Cls K C
 nf:yh K C "first"
 nl:yh K C "last"
 nw:yh K C "worth"
 makes:Mk K C fI
 told:Meth K C "told" fT
 tells:Meth K C "tells" fE
 word:Meth K C "word" fW
def zp9 (C:Ab):Sp:=λvs H Q _=>∃(p dx:Ab) (x y z:V),vs=[.ref p,x,y,z]/\H p=some (.ins C dx [])/\Q .non (upd H p (.ins C dx (vS x y z)))
def vP (w:Str):Sp:=λvs H Q _=>∃p,vs=[.ref p]/\Q (.str w) H
def az (C:Ab)(w:Str):Sp:=λvs H Q _=>∃(p dx:Ab) (x y z:V),vs=[.ref p]/\H p=some (.ins C dx (vS x y z))/\∀q,H q=none->Q (.ref q) (upd H q (.tup [.str w,x,y,z]))
def aB (cs:Cs):Sp:=λvs H Q _=>∃(w:Str) (x y z:V),vs=[.str w,x,y,z]/\w∈words/\∀(p dx:Ab) (H':Hp),H' p=some (.ins (cs.of w) dx (vS x y z))->H p=none->zu H H'->Q (.ref p) H'
def mH (cs:Cs):Sp:=λvs H Q _=>∃x d,vs=[x]/\DV H x d/\SeqAt.shaped d=true/\(xS d=false->∀H',zu H H'->Q .non H')/\
 (∀(r:Ab) (w:Str) (b a c:V) (p dx:Ab) (H':Hp),x=.ref r->xS d=true->w∈words->H r=some (.tup [.str w,b,a,c])->H' p=some (.ins (cs.of w) dx (vS b a c))->H p=none->zu H H'->Q (.ref p) H')
theorem vp {d:Aa}{s:Str}(h:eqS d s=true):d=.str s:=by
 cases d with
 |str x=>
  rw[eq_of_beq h]
 |_=>simp[PyData.eqv]at h
def mD {w v:Aa}(h:yp w v=true):∃s∈words,w=.str s:=by
 unfold yp at h;split at h
 .rename_i e;exact⟨"price",by simp[words],vp e⟩
 .split at h
  .rename_i e;rcases(zS0 _ _).mp e with e|e
   .exact⟨"come",by simp[words],vp e⟩
   .exact⟨"go",by simp[words],vp e⟩
  .split at h
   .rename_i e;rcases(zS0 _ _).mp e with e|e
    .exact⟨"least",by simp[words],vp e⟩
    .exact⟨"most",by simp[words],vp e⟩
   .split at h
    .rename_i e;exact⟨"deal",by simp[words],vp e⟩
    .rw[zL0]at h;exact⟨"fee",by simp[words],vp h.1⟩
def wF {d:Aa}(h:xS d=true):∃(s:Str) (a b v:Aa),s∈words/\d=.tuple [.str s,a,b,v]:=by
 unfold xS at h;split at h
 .rename_i w a b v;rw[zL0]at h;obtain⟨s,c,rfl⟩:=mD h.2;exact⟨s,a,b,v,c,rfl⟩
 .cases h
section
variable {X:Cx}
end
abbrev wK (C:Ab)(fs:List (Aa×Aa)):Aa:=.dict ((.int (C:Nat),.none)::fs)
def yr :List (Aa×Aa)->Str->Option Aa
 |[],_=>none
 |(.str g,d)::r,f=>if f=g then some d else yr r f
 |_::r,f=>yr r f
theorem AVf.get {H:Hp}:∀{fs:List (Str×V)}{ds:List (Aa×Aa)}{f:Str}{d:Aa},AVf H fs ds->yr ds f=some d->∃v,fs.lookup f=some v/\AV H v d
 |_,_,f,d,.nil,e=>by cases e
 |_,_,f,d,.cons (f:=g) h r,e=>by
  rw[zL1];unfold yr at e;by_cases z:f=g
  .subst z;rw[if_pos rfl]at e;cases e;exact⟨_,by simp,h⟩
  .rw[if_neg z]at e;have a:(f == g)=false:=by simpa using z
   rw[a];exact AVf.get r e
theorem AVf.none {H:Hp}{fs:List (Str×V)}{ds:List (Aa×Aa)}{f:Str}(h:AVf H fs ds)(e:yr ds f=Option.none):fs.lookup f=Option.none:=by
 induction h using AVf.ind with
 |nil=>rfl
 |@cons g _ _ _ _ h r ih=>
  rw[zL1];unfold yr at e;by_cases z:f=g
  .subst z;rw[if_pos rfl]at e;cases e
  .rw[if_neg z]at e;have a:(f == g)=false:=by simpa using z
   rw[a];exact ih e
theorem AV.ins_inv {H:Hp}{v:V}{C:Ab}{ds:List (Aa×Aa)}(h:AV H v (wK C ds)):∃a dx fs,v=.ref a/\H a=some (.ins C dx fs)/\AVf H fs ds:=by
 generalize e:wK C ds=d at h;cases h with
 |@ins a C' dx fs ds' h1 h2=>
  injection e with e;injection e with g b;have f:(C:Int)=C':=by
   have:=congrArg Prod.fst g;injection this
  have c:=Int.ofNat.inj f;subst c b;exact⟨a,dx,fs,rfl,h1,h2⟩
 |_=>cases e
section
variable {X:Cx}{L:Ev}{o e:Ai}{es:List Ai}{pos apos p:Pos}{Q:Aa->Prop}{C:Ab}{f m:Str}
def zo4 (c:Cls X.K C)(na:yh X.K C f)(h:EvD X L o λx=>∃fs d,x=wK C fs/\yr fs f=some d/\Q d)(l:attributeBase o f X.env (eval o X.env)=eval o X.env:=by rfl):EvD X L (.Attribute o f pos) Q:=λF σ H R m k=>by
 refine⟨_,vI zi l,h F σ H _ m λx s H1 r t1 k1 g=>?_⟩;obtain⟨fs,d,rfl,hf,q⟩:=r;obtain⟨a,dx,j,rfl,i,b⟩:=g.ins_inv;obtain⟨v,n,av⟩:=b.get hf;exact⟨a,C,dx,j,v,rfl,(zg i).2,c,na,n,k d v H1 q t1 k1 av⟩
structure sA (P:Ah)(w:Ak)(K:Ae)(mg:Str->Option Ac)(base:Ao)(C:Ab)(m:Str)(k:Nat)(φ:List A->(A->Prop)->Prop):Prop where
 ex:∃f fd ps,Cls K C/\Meth K C m f/\Binds K fd ps []/\zG P w K mg base CX0 k f fd ps (spA φ)
def zd1 {k:Nat}{φ:List A->(A->Prop)->Prop}{pl:Sem Bool}(t:sA X.prog X.w X.K X.mg X.base C m k φ)(hr:zO k X.A)(h:EvD X L o λx=>∃fs,x=wK C fs/\yr fs m=none/\EvA X L (e::es) λas=>φ (.dat (wK C fs)::as) λa=>Q a.d)
  (b:Ad (e::es) X.env=(false,eval e X.env)::Ad es X.env:=by rfl) (hpl:(backTo pos (Ad es X.env)).any (·.1)=false:=by rfl)
  (ht:eval (.Call (.Attribute o m apos) (e::es) [] pos) X.env=(do
   let ov <-eval o X.env
   standAt apos.atName
   let(f,first) <-holding [ov] (getMethod ov m pl)
   callWith pos f first (backTo pos (Ad (e::es) X.env)) (backToKw pos (keywordEach [] X.env))):=by rfl):EvD X L (.Call (.Attribute o m apos) (e::es) [] pos) Q:=λF σ H R i j=>by
 obtain⟨f,fd,ps,c,hm,D,G⟩:=t.ex;refine⟨_,uR zi c hm G hr D .nil zX zY b hpl ht,h F σ H _ i λx N H1 r t1 k1 g=>?_⟩;obtain⟨fs,rfl,hf,q⟩:=r;have m1:=i.kz k1 t1;obtain⟨a,dx,y,rfl,u,s⟩:=g.ins_inv;refine⟨a,dx,y,rfl,(zg u).2,s.none hf,q F σ H1 _ m1 λas vs O M l k2 J=>?_⟩;have m2:=m1.kz k2 l;have n:=wk (as:=.dat (wK C fs)::as) (E:=E0) m2 (.cons (g.same (k2.gz m1.tp)) J) M λz v H' I B=>by
  obtain⟨g1,g2,g3⟩:=B.back m2;exact j _ v H' I g1 ((k1.trans k2).trans g2) g3
 exact n
def lO {k:Nat}{φ:List A->(A->Prop)->Prop}{pl:Sem Bool}(r:sA X.prog X.w X.K X.mg X.base C m k φ)(hr:zO k X.A)(h:EvD X L o λx=>∃fs,x=wK C fs/\yr fs m=none/\φ [.dat (wK C fs)] λa=>Q a.d)
  (ht:eval (.Call (.Attribute o m apos) [] [] pos) X.env=(do
   let ov <-eval o X.env
   standAt apos.atName
   let(f,first) <-holding [ov] (getMethod ov m pl)
   callWith pos f first (backTo pos (Ad [] X.env)) (backToKw pos (keywordEach [] X.env))):=by rfl):EvD X L (.Call (.Attribute o m apos) [] [] pos) Q:=λF σ H R g i=>by
 obtain⟨f,fd,ps,c,hm,y,G⟩:=r.ex;refine⟨_,uQ zi c hm G hr y .nil zX ht,h F σ H _ g λx D H1 l t1 k1 b=>?_⟩;obtain⟨fs,rfl,hf,q⟩:=l;have m1:=g.kz k1 t1;obtain⟨a,dx,t,rfl,s,n⟩:=b.ins_inv;refine⟨a,dx,t,rfl,(zg s).2,n.none hf,?_⟩;have j:=wk (as:=[.dat (wK C fs)]) (E:=E0) m1 (.cons b .nil) q λz v H' B u=>by
  obtain⟨g1,g2,g3⟩:=u.back m1;exact i _ v H' B g1 (k1.trans g2) g3
 exact j
def ze6 (F:Fr)(v:V)(H':Hp)(d:Aa):Prop:=zH F H'/\Kz F F.H0 H'/\AV (sub (λx=>¬F.O0 x/\∀xs,F.H0 x≠some (.lst xs)) H') v d
def EvN (X:Cx)(L:Ev)(e:Ai)(Q:Aa->Prop):Prop:=∀(F:Fr) (σ:St) (H:Hp) (R:VK),M F L σ H->(∀d v H',Q d->zH F H'->Kz F H H'->AV (sub (λx=>¬Ow F L σ x/\∀xs,H x≠some (.lst xs)) H') v d->R v H')->uq X e σ H R
theorem EvN.d (h:EvN X L e Q):EvD X L e Q:=λF σ H R m k=>h F σ H R m λd v H' q t z r=>k d v H' q t z (r.same (zj λa o h e=>⟨h.1,e⟩))
def spI (C:Ab)(φ:List A->(A->Prop)->Prop):Sp:=λvs H a _=>∃(F:Fr) (as:List A) (Q:A->Prop) (x dx:Ab) (vs':List V) (H1:Hp),vs=.ref x::vs'/\H1 x=none/\H1 dx=none/\dx≠x/\H=upd (upd H1 dx (.own x)) x (.ins C dx [])/\
 F.H0=H1/\zH F H1/\(∀y,F.O0 y->∃u,H1 y=some u/\yU u)/\zS F (sub (λy=>¬F.O0 y) H1) vs' as/\φ as Q/\∀d H',Q (.dat d)->ze6 F (.ref x) H' d->a .non H'
structure rL (P:Ah)(w:Ak)(K:Ae)(mg:Str->Option Ac)(base:Ao)(x:Str)(k:Nat)(dvs:List V)(φ:List A->(A->Prop)->Prop):Prop where
 ex:∃C f fd ps ds,mg x=some (.ref C)/\Mk K C f/\Binds K fd ps ds/\Vals dvs ds/\zG P w K mg base CX0 k f fd ps (spI C φ)
def rl {F:Fr}{σ:St}{H:Hp}{vs:List V}{as:List A}{QA:A->Prop}{R:VK}{φ:List A->(A->Prop)->Prop}(m:M F L σ H)(k:zS F (Gz F L σ H) vs as)(c:φ as QA)
  (g:∀d v H',QA (.dat d)->ze6 ⟨H,Ow F L σ,F.tp⟩ v H' d->R v H') {E:XK} (x dx:Ab) (h:H x=none) (b:H dx=none) (a:dx≠x):spI C φ (.ref x::vs) (upd (upd H dx (.own x)) x (.ins C dx [])) (λv j=>v=.non/\R (.ref x) j) E:=by
 refine⟨⟨H,Ow F L σ,F.tp⟩,as,QA,x,dx,vs,H,rfl,h,b,a,rfl,rfl,?_,?_,?_,c,λd H' l i=>⟨rfl,g d _ H' l i⟩⟩
 .exact m.tp.to rfl λ_ z=>.inl z
 .exact λy z=>m.owEx z
 .exact zS.to (F:=F) (F':=⟨H,Ow F L σ,F.tp⟩) (λ_ _ e=>e) rfl k
def ze6.back {F:Fr}{σ:St}{H H1 H':Hp}{v:V}{d:Aa}(m:M F L σ H)(k1:Kz F H H1)(h:ze6 ⟨H1,Ow F L σ,F.tp⟩ v H' d):zH F H'/\Kz F H1 H'/\AV (sub (λx=>¬Ow F L σ x/\∀xs,H x≠some (.lst xs)) H') v d:=by
 obtain⟨t,kz,r⟩:=h;refine⟨m.tp.re t rfl,kz,r.same (zj λa o h e=>⟨⟨h.1,λxs z=>h.2 xs (k1 _ _ z (m.tp.nt (ow0 h.1)))⟩,e⟩)⟩
def oY {k:Nat}{φ:List A->(A->Prop)->Prop}{x:Str}(n:rL X.prog X.w X.K X.mg X.base x k [] φ)(hr:zO (k+1) X.A)(t:Gl X x)(h:EvA X L (e::es) λas=>φ as λa=>Q a.d)
  (b:(x == ("__debug__":Str))=false:=by decide) (he:Ad (e::es) X.env=(false,eval e X.env)::Ad es X.env:=by rfl) (hpl:(backTo pos (Ad es X.env)).any (·.1)=false:=by rfl):EvN X L (.Call (.Name x p) (e::es) [] pos) Q:=λF σ H R m i=>by
 obtain⟨C,f,fd,ps,ds,hm,hk,s,hd,G⟩:=n.ex;cases hd;refine⟨_,xJ hk G hr t hm s .nil zX zY b he hpl,h F σ H _ m λas vs H1 l t1 k1 j=>?_⟩;intro y dx r c g;rw[zJ5];refine rl (m.kz k1 t1) j l (λd v H' u q=>?_) y dx r c g;obtain⟨g1,g2,g3⟩:=q.back m k1;exact i d v H' u g1 (k1.trans g2) g3
end
structure mB (K:Ae)(x qual:Str)(st:An)(dV:Ac)(f:Ab)(fd:Ag):Prop where
 ex:∃(oc:Ac) (od:Option Ab) (kV doc pm:Ac) (an:Option Ab) (cdv ct:Ac) (osl:Array (Option Ac)),
  fd=PySem.W.fnOf x qual (yB st) (zJ st) (zd st) dV kV doc pm an cdv ct/\K.lookup f=some ⟨oc,od,.func fd,osl⟩/\PySem.W.codeIn K cdv qual=true
 kp:PySem.W.keepIn K (.ref f)=true
def pU {K:Ae}{x qual:Str}{st:An}{f:Ab}{oc:Ac}{od an:Option Ab}{osl:Array (Option Ac)}{dV kV doc pm cdv ct:Ac}(l:K.lookup f=some ⟨oc,od,.func (PySem.W.fnOf x qual (yB st) (zJ st) (zd st) dV kV doc pm an cdv ct),osl⟩)
  (c:PySem.W.codeIn K cdv qual=true) (k:PySem.W.keepIn K (.ref f)=true):mB K x qual st dV f (PySem.W.fnOf x qual (yB st) (zJ st) (zd st) dV kV doc pm an cdv ct):=⟨⟨oc,od,kV,doc,pm,an,cdv,ct,osl,rfl,l,c⟩,k⟩
section
variable {P:Ah}{w:Ak}{K:Ae}{mg:Str->Option Ac}{base:Ao}
def zC0 {qual:Str}{st:An}{f C:Ab}{dV:Ac}{fd:Ag}{N:List Str}{x:Str}{k:Nat}{φ:List A->(A->Prop)->Prop}{fl:Str}{e:Ai}{p1 p2 p3:Pos}(G:mB K "__init__" qual st dV f fd)(S:zo ("self"::x::N) ["self",x] (zd st))(c:Cls K C)(na:yh K C fl)
  (hb:zJ st=[.Assign [.Attribute (.Name "self" p1) fl p2] e p3]) (hlen:∀as Q,φ as Q->as.length=1)
  (I:∀(cdv:Ac) (L:Ap) (outer:List Ar) (s:Af) (H:Hp) (E:XK) (as:List A) (Q:A->Prop),zO k (L.deeper (envOfC qual (zd st) s.heap.objs.size f cdv))->φ as Q->
   EvL (xi CX0 P w K mg base ("self"::x::N) qual (zd st) f cdv L outer s H E).nox (none::as.map some++List.replicate N.length none) e λds=>noLs ds=true/\Q (.dat (wK C [(.str fl,.list ds)])))
  (a3:∀(cdv:Ac) (L:Ap) (outer:List Ar) (s:Af) (H:Hp) (E:XK),swapsWith e (some (.Attribute (.Name "self" p1) fl p2)) p3.line (xi CX0 P w K mg base ("self"::x::N) qual (zd st) f cdv L outer s H E).nox.env=pure false)
  (hv:Vis (zd st) "self"):zG P w K mg base CX0 (k+1) f fd ["self",x] (spI C φ):=by
 obtain⟨oc,od,kV,doc,pm,an,cdv,ct,osl,rfl,lk,a6⟩:=G.ex;refine iN lk a6 S (λvs H Q E h=>?_) λL outer s H vs Qc E hr h=>?_
 .obtain⟨F,as,Q',y,dx,vs',H1,rfl,_,_,_,_,_,_,_,T,p,_⟩:=h;rw[zI7,T.length,hlen as _ p];rfl
 .obtain⟨F,as,Q',y,dx,vs',H1,rfl,hy,Z,X,rfl,rfl,t,o,T,p,kk⟩:=h;rw[hb];refine⟨_,((zI (vo (zT (i:=0) rfl hv) zi (a3 cdv L outer s _ E))).nox),?_⟩
  let F2:Fr:=⟨F.H0,λz=>F.O0 z\/z=y\/z=dx,F.tp⟩
  have s1:zu F.H0 (upd (upd F.H0 dx (.own y)) y (.ins C dx [])):=λa u q=>by rw[zm (zq q hy),zm (zq q Z)];exact q
  have J:¬F.O0 y:=λz=>by obtain⟨u,D,_⟩:=o y z;rw[hy]at D;cases D
  have t2:zH F2 (upd (upd F.H0 dx (.own y)) y (.ins C dx [])):=(t.same s1).to rfl λ_ z=>.inl z
  -- the names of the body
  have g:∀{i:Nat} {a:A},(none::as.map some++List.replicate N.length none:Ev)[i]?=some (some a)->∃j,i=j+1/\as[j]?=some a:=λ{i a} h=>by
   cases i with
   |zero=>simp at h
   |succ j=>
    refine⟨j,rfl,?_⟩;have h':(as.map some++List.replicate N.length none:Ev)[j]?=some (some a):=by simpa using h
    rcases zV5 j as.length with z|z
    .rw[zJ4 (by rw[zH8];exact z),zJ8,zL3]at h';obtain⟨b,h1,O⟩:=h';cases O;exact h1
    .rw[zJ2 (by rw[zH8];exact z),zM3]at h';split at h'<;>cases h'
  have at':∀{vs:List V} {as:List A} {i:Nat} {a:A},zS F (sub (λx=>¬F.O0 x) F.H0) vs as->as[i]?=some a->∃v,vs[i]?=some v/\qE F (sub (λx=>¬F.O0 x) F.H0) v a:=by
   intro vs as i a h
   induction h generalizing i with
   |nil=>intro e;simp at e
   |cons h r ih=>
    intro e;cases i with
    |zero=>simp at e;subst e;exact⟨_,rfl,h⟩
    |succ i=>obtain⟨v,h1,O⟩:=ih (by simpa using e);exact⟨v,by simpa using h1,O⟩
  have gv:∀{j:Nat} {v:V},vs'[j]?=some v->(L2.start ("self"::x::N) (.ref y::vs'))[j+1]?=some (some v):=λ{j v} h=>by
   unfold L2.start;rw[zJ4 (by rw[zH8,zI7];exact Nat.add_lt_add_right ((zH9.mp h).1) _),zJ8,zU2,h];rfl
  have no:∀(i:Nat) a,(none::as.map some++List.replicate N.length none:Ev)[i]?=some (some a)->(∃d,a=.dat d)\/a=.tape:=λi a z=>by
   obtain⟨j,_,hj⟩:=g z;obtain⟨v,_,h⟩:=at' T hj;cases a with
   |dat d=>exact .inl ⟨d,rfl⟩
   |tape=>exact .inr rfl
   |_=>exact h.elim
  have gs:zu (sub (λx=>¬F.O0 x) F.H0) (Gz F2 (none::as.map some++List.replicate N.length none) (L2.start ("self"::x::N) (.ref y::vs')) (upd (upd F.H0 dx (.own y)) y (.ins C dx []))):=λa u q=>by
   obtain⟨z1,z2⟩:=zg q;refine zw ?_ (s1 _ _ z2);rintro((z|z|z)|⟨i,b,s,e,_,f⟩)
   .exact z1 z
   .rw[z,hy]at z2;cases z2
   .rw[z,Z]at z2;cases z2
   .rcases no i b e with⟨d,rfl⟩|rfl
    .exact f.elim
    .exact f.elim
  have m2:M F2 (none::as.map some++List.replicate N.length none) (L2.start ("self"::x::N) (.ref y::vs')) (upd (upd F.H0 dx (.own y)) y (.ins C dx [])):=by
   refine⟨by unfold L2.start;simp[T.length,(hlen as _ p)],λi a s e1 e2=>?_,λi j a b s t x e1 _ _ _ f=>?_,λi r q z=>(by rcases no i _ z with⟨d,w⟩|w<;>cases w),t2,λz u h _=>s1 z u h,λz hz=>?_⟩
   .obtain⟨j,rfl,hj⟩:=g e1;obtain⟨v,h1,O⟩:=at' T hj;rw[gv h1]at e2;cases e2;rcases no _ a e1 with⟨d,rfl⟩|rfl
    .exact⟨v,rfl,AV.same gs O⟩
    .obtain⟨t',b,c,h3,rfl⟩:=O;exact⟨t',b,c,h3,rfl⟩
   .rcases no i a e1 with⟨d,rfl⟩|rfl
    .exact f.elim
    .exact f.elim
   .rcases hz with q|q|q
    .obtain⟨u,D,hn⟩:=o z q;exact⟨u,s1 _ _ D,hn⟩
    .exact⟨_,by rw[q];exact zk,λ_ q=>by cases q⟩
    .exact⟨_,by rw[q,zm X];exact zk,λ_ q=>by cases q⟩
  refine I cdv L outer s _ E as Q' hr p F2 _ _ _ m2 λd v H2 qd t3 k3 r3=>?_;obtain⟨l,xs,rfl,m,a2,a4⟩:=r3;obtain⟨a1,qd⟩:=qd;have U:l≠y:=λz=>by rw[z,zk]at m;cases m
  have Y:l≠dx:=λz=>by rw[z,zm X,zk]at m;cases m
  have B:F.H0 l=none:=by rw[zm U,zm Y]at m;exact m
  have a0:¬F.O0 l:=λz=>by obtain⟨u,D,_⟩:=o l z;rw[B]at D;cases D
  have R:=k3 _ _ zk (t.nt J);refine⟨.ref y,rfl,y,C,dx,[],rfl,R,c,na,by show 0<1000;decide,?_⟩;refine kk _ _ qd ⟨(t.re t3 rfl).updO J (wZ R),λz u h n=>?_,?_⟩
  .rw[zm (zq h hy)];exact k3 _ _ (s1 _ _ h) n
  .refine AV.ins (zw ⟨J,λxs z=>by rw[hy]at z;cases z⟩ zk) (.cons (.lst (zw ⟨a0,λxs z=>by rw[B]at z;cases z⟩ (by rw[zm U];exact a2)) ?_) .nil);refine a4.noL (λa u a5 z=>?_) a1;obtain⟨z1,z2⟩:=zg z;have na:a≠y:=λw=>z1.1 (.inl (.inr (.inl w)));refine zw ⟨λw=>z1.1 (.inl (.inl w)),λxs w=>?_⟩ (by rw[zm na];exact z2);have:H2 a=some (.lst xs):=k3 _ _ (s1 _ _ w) (t.nt λw=>z1.1 (.inl (.inl w)));rw[z2]at this;cases this;exact a5 trivial
end
section
variable {X:Cx}{L:Ev}{e e':Ai}{pos:Pos}{E:yj}{sts:List An}
def uF {L:Type}(l:List L)(x:Int)(y:L):List L:=l.take (if x<0 then(x+(l.length:Int)).toNat else min x.toNat l.length)++y::l.drop (if x<0 then(x+(l.length:Int)).toNat else min x.toNat l.length)
def uX {L:Type}(l:List L)(x:Int)(y:L):(uF l x y).length=l.length+1:=by
 unfold uF;rw[zI1,zI7,zL8,zQ6];exact zF4
def Vals.ins {xs:List V}{us:List Ac}{y:V}{u:Ac}(r:Vals xs us)(a:RelV y u)(i:Int):Vals (uF xs i y) (uF us i u):=by
 unfold uF;rw[r.length];exact(r.take _).append (.cons a (r.drop _))
def AVs.ins {H:Hp}{xs:List V}{ds:List Aa}{y:V}{d:Aa}(r:AVs H xs ds)(a:AV H y d)(i:Int):AVs H (uF xs i y) (uF ds i d):=by
 unfold uF;rw[r.length];exact(r.take _).append (.cons a (r.drop _))
def zj8 (l:List Ac)(k:Nat)(y:Ac):(l.toArray.extract 0 k).push y++l.toArray.extract k=(l.take k++y::l.drop k).toArray:=by
 apply Array.toList_inj.mp;simp;exact zU6 (by simp)
def zf9 :V->List V->Hp->VK->Prop:=λx vs H Q=>∃l xs i y,x=.ref l/\vs=[.int i,y]/\H l=some (.lst xs)/\-(2 ^ 63)<=i/\i<2 ^ 63/\xs.length<sizeLine/\Q .non (upd H l (.lst (uF xs i y)))
def dD :MtM X "list.insert" zf9:=by
 intro pins s σ H x vs v us Q I m p h;obtain⟨l,xs,i,y,rfl,rfl,f,j,g,d,q⟩:=h;cases m;obtain⟨u,b,rfl,k,c⟩:=p.two;obtain⟨t,rfl⟩:=k;obtain⟨z,a,n,r,o,e⟩:=I.lstM f;refine zT9 F.slot_list_insert ⟨_,e,rfl⟩ F.entry_list_insert (F.args_list_insert_3 _ _ _)
  (PySem.AutoSeq1.list_insert_list_int_val_1 l a.toArray n i t b (by
   have:=fitsIndex_both j g;simp[this]) (by rw[zK4];exact zM5 (zN4 (zK7 o.symm) d))) ⟨e,?_⟩
 refine⟨.non,_,I.lset (its':=uF a i b) f e ?_ (r.ins c i) (by rw[uX];exact d),rfl,q⟩;show(a.toArray.extract 0 (if i<0 then(i+(a.toArray.size:Int)).toNat else min i.toNat a.toArray.size)).push b++a.toArray.extract (if i<0 then(i+(a.toArray.size:Int)).toNat else min i.toNat a.toArray.size)=(uF a i b).toArray;rw[zj8,zK4];rfl
def qX (i:Nat){x:Str}{ds:List Aa}{f o c:Pos}(hi:L[i]?=some (some (.own ds)))(h:EvD X L e λk=>EvD X L e' λd=>∃j,k=.int j/\-(2 ^ 63)<=j/\j<2 ^ 63/\ds.length<1000/\SvS X (L.set i (some (.own (uF ds j d)))) sts E)
  (G:X.N[i]?=some x:=by rfl) (C:Vis X.env.scope x:=by first|exact Or.inl rfl|exact Or.inr (Or.inl rfl)|exact Or.inr (Or.inr rfl)) (hd:(x == ("__debug__":Str))=false:=by decide) (n:(x == ("__classdict__":Str))=false:=by decide)
  (b:attributeBase (.Name x f) "insert" X.env (eval (.Name x f) X.env)=eval (.Name x f) X.env:=by rfl) (u:Ad [e,e'] X.env=(false,eval e X.env)::Ad [e'] X.env:=by rfl) (p:Ad [e'] X.env=(false,eval e' X.env)::Ad [] X.env:=by rfl)
  (hpl:((((backTo c (Ad [e,e'] X.env)).all λx=>!x.fst)&&(backToKw c (keywordEach [] X.env)).all λx=>x.fst.isSome)&&decide (([e,e'].length+([]:List Keyword).length+if([]:List Keyword).isEmpty=true then 0 else 1)<30))=true:=by rfl)
  (a:(o.endLine == c.line)=true:=by rfl) (g:(backTo c (Ad [e'] X.env)).any (·.1)=false:=by rfl) (s:swapsWith (.Call (.Attribute (.Name x f) "insert" o) [e,e'] [] c) none pos.line X.env=pure false:=by rfl):SvS X L (.Expr (.Call (.Attribute (.Name x f) "insert" o) [e,e'] [] c) pos::sts) E:=λF σ H D m r=>by
 obtain⟨l,xs,y,w,z,t,S⟩:=m.own i ds hi;refine⟨_,zv (xU (sr zN2 PySem.F.slot_list_insert PySem.F.type_list_insert dD (zT G C hd n) (zh zi (zh zi zy p) u) b hpl a u g) s) zC,?_⟩;refine⟨.ref l,y,.inl ⟨rfl,_,SqL.of w⟩,?_⟩;refine h F σ H _ m λk Q H1 I t1 k1 A=>?_;have m1:=m.kz k1 t1;refine I F σ H1 _ m1 λd v R P B k2 O=>?_;have m2:=m1.kz k2 B;obtain⟨j,rfl,M,K,J,q⟩:=P;cases A.int_inv;refine⟨l,xs,j,v,rfl,rfl,k2 _ _ (k1 _ _ w (m.tp.nt t)) (m.tp.nt t),M,K,by rw[z.length];exact yx (zM5 J),?_⟩;exact q F σ _ D (m2.wrOwn hi y ((((z.same (k1.gz m.tp)).same (k2.gz m1.tp))).ins O j)) r
end
def uG (f:Str)(d:Aa):List (Aa×Aa)->List (Aa×Aa)
 |[]=>[(.str f,d)]
 |(.str g,x)::r=>if g=f then(.str g,d)::r else(.str g,x)::uG f d r
 |p::r=>p::uG f d r
theorem AVf.put {H:Hp}{f:Str}{v:V}{d:Aa}(a:AV H v d):∀{fs:List (Str×V)}{ds:List (Aa×Aa)},AVf H fs ds->AVf H (xl f v fs) (uG f d ds)
 |_,_,.nil=>.cons a .nil
 |_,_,.cons (f:=g) h r=>by
  unfold xl uG;by_cases z:g=f
  .rw[if_pos z,if_pos z];exact .cons a r
  .rw[if_neg z,if_neg z];exact .cons h (AVf.put a r)
theorem lC {f:Str}{v u:V}{r:List (Str×V)}:∀{fs:List (Str×V)},fs.lookup f=some u->xl f v (fs++r)=xl f v fs++r
 |[],h=>by cases h
 |(g,x)::fs,h=>by
  show(if g=f then(g,v)::(fs++r)else(g,x)::xl f v (fs++r))=(if g=f then(g,v)::fs else(g,x)::xl f v fs)++r;by_cases z:g=f
  .rw[if_pos z,if_pos z];rfl
  .rw[if_neg z,if_neg z,lC (u:=u) (by rw[zL1]at h;rwa [show(f == g)=false from zO6.mpr (zO2 z)]at h)];rfl
theorem lR {f:Str}{u:V}{r:List (Str×V)}:∀{fs:List (Str×V)},fs.lookup f=some u->(fs++r).lookup f=some u
 |[],h=>by cases h
 |(g,x)::fs,h=>by
  rw[zR4,zL1];rw[zL1]at h;split at h
  .exact h
  .exact lR h
theorem nX {f:Str}{u:V}:∀{fs:List (Str×V)},fs.lookup f=none->(fs++[(f,u)]).lookup f=some u
 |[],_=>by simp
 |(g,x)::fs,h=>by
  rw[zR4,zL1];rw[zL1]at h;split at h
  .cases h
  .exact nX h
theorem gI {f g:Str}{u:V}:∀{fs:List (Str×V)},fs.lookup f=none->f≠g->(fs++[(g,u)]).lookup f=none
 |[],_,n=>by
  show List.lookup f [(g,u)]=none;rw[zL1,show(f == g)=false from zO6.mpr n];rfl
 |(k,x)::fs,h,n=>by
  rw[zR4,zL1];rw[zL1]at h;split at h
  .cases h
  .exact gI h n
theorem AVf.len {H:Hp}:∀{fs:List (Str×V)}{ds:List (Aa×Aa)},AVf H fs ds->fs.length=ds.length
 |_,_,.nil=>rfl
 |_,_,.cons _ r=>by rw[zI7,zI7,AVf.len r]
def zD.tl_len (s:zD):s.tl.length<=1:=by unfold zD.tl;split<;>simp
def zD.tl_t {s:zD}(h:s.pl=true):s.tl=[(s.nm,.ref s.lp)]:=by unfold zD.tl;rw[if_pos h]
def zD.tl_f {s:zD}(h:s.pl=false):s.tl=[]:=by unfold zD.tl;rw[if_neg (by rw[h];exact zJ0)]
def xt.look {G H:Hp}{s:zD}(h:xt G H s)(hp:s.pl=true)(hf:yr s.kvs s.nm=none):(s.fs++s.tl).lookup s.nm=some (.ref s.lp):=by rw[zD.tl_t hp];exact nX (h.fl.none hf)
theorem xt.look_m {G H:Hp}{s:zD}{m:Str}(h:xt G H s)(hf:yr s.kvs m=none)(hm:m≠s.nm):(s.fs++s.tl).lookup m=none:=by
 cases z:s.pl with
 |true=>rw[zD.tl_t z];exact gI (h.fl.none hf) hm
 |false=>rw[zD.tl_f z,zJ5];exact h.fl.none hf
abbrev zD.put (s:zD)(f:Str)(v:V)(d:Aa):zD:={s with fs:=xl f v s.fs,kvs:=uG f d s.kvs}
abbrev zD.app (s:zD)(v:V)(d:Aa):zD:={s with xs:=s.xs++[v],past:=s.past++[d]}
def uW {L:Ev}{F:Fr}{σ:St}{H:Hp}{i:Nat}{s:zD}{x:Ab}{o:HO}(m:M F L σ H)(hi:L[i]?=some (some (.inn s)))(a:s.at x):zu (Gz F L σ H) (Gz F L σ (upd H x o)):=zj λy u h e=>⟨h,by rw[zm λz=>h (.inr ⟨i,_,_,hi,(m.inn hi).1,by show s.at y;rw[z];exact a⟩)];exact e⟩
section
variable {X:Cx}{L:Ev}{E:yj}{e:Ai}{p pos:Pos}{rest:List An}{s:zD}{Q:Aa->Prop}
def ym (i:Nat){x f:Str}{d:Aa}(hi:L[i]?=some (some (.inn s)))(c:Cls X.K s.C)(na:yh X.K s.C f)(hf:yr s.kvs f=some d)(q:Q d)(l:X.N[i]?=some x:=by rfl)(j:Vis X.env.scope x:=by first|exact Or.inl rfl|exact Or.inr (Or.inl rfl)|exact Or.inr (Or.inr rfl))(hd:(x == ("__debug__":Str))=false:=by decide)(b:(x == ("__classdict__":Str))=false:=by decide)
  (h:attributeBase (.Name x p) f X.env (eval (.Name x p) X.env)=eval (.Name x p) X.env:=by rfl):EvD X L (.Attribute (.Name x p) f pos) Q:=λF σ H R m k=>by
 obtain⟨n,h0,o⟩:=m.inn hi;obtain⟨v,g,av⟩:=h0.fl.get hf;exact⟨_,vI (zT l j hd b) h,_,n,s.a,s.C,s.dx,_,v,rfl,h0.ob,c,na,lR g,k d v H q m.tp Kz.refl av⟩
def sX (i:Nat){x f:Str}{d0:Aa}{j k:Pos}(hi:L[i]?=some (some (.inn s)))(c:Cls X.K s.C)(na:yh X.K s.C f)(hf:yr s.kvs f=some d0)(hk:s.kvs.length<900)(h:EvD X L e λd=>∀v,SvS X (L.set i (some (.inn (s.put f v d)))) rest E)
  (y:X.N[i]?=some x:=by rfl) (t:Vis X.env.scope x:=by first|exact Or.inl rfl|exact Or.inr (Or.inl rfl)|exact Or.inr (Or.inr rfl)) (hd:(x == ("__debug__":Str))=false:=by decide) (b:(x == ("__classdict__":Str))=false:=by decide)
  (w:swapsWith e (some (.Attribute (.Name x j) f k)) pos.line X.env=pure false:=by rfl):SvS X L (.Assign [.Attribute (.Name x j) f k] e pos::rest) E:=λF σ H D m r=>by
 refine⟨_,zv (vo (zT y t hd b) zi w) zC,?_⟩;refine h F σ H _ m λd v H1 A t1 k1 l=>?_;have m1:=m.kz k1 t1;obtain⟨B,h0,q⟩:=m1.inn hi;obtain⟨u,n,_⟩:=h0.fl.get hf;refine⟨_,B,s.a,s.C,s.dx,_,rfl,h0.ob,c,na,by rw[zI1,h0.fl.len];have:=s.tl_len;omega,?_⟩;rw[lC n];have g:=uW (o:=.ins s.C s.dx (xl f v s.fs++s.tl)) m1 hi (.inl rfl);exact A v F σ _ D (m1.wrI hi rfl rfl (λx o e _ n1 _=>by rw[zm n1];exact e) (m1.tp.updO (q _ (.inl rfl)).1 (wZ h0.ob)) ⟨zk,(AVf.put l h0.fl).same g,λz=>by rw[zm (h0.ne z).symm];exact h0.ls z,h0.av.same g,h0.ne,h0.eq⟩) r
def zk7 (i:Nat){x:Str}{b k t l:Pos}(hi:L[i]?=some (some (.inn s)))(c:Cls X.K s.C)(na:yh X.K s.C s.nm)(hp:s.pl=true)(hf:yr s.kvs s.nm=none)(h:EvD X L e λd=>s.past.length<1000/\∀v,SvS X (L.set i (some (.inn (s.app v d)))) rest E){fl:Str}(n:s.nm=fl)
  (J:X.N[i]?=some x:=by rfl) (I:Vis X.env.scope x:=by first|exact Or.inl rfl|exact Or.inr (Or.inl rfl)|exact Or.inr (Or.inr rfl)) (hd:(x == ("__debug__":Str))=false:=by decide) (q:(x == ("__classdict__":Str))=false:=by decide)
  (w:attributeBase (.Name x b) fl X.env (eval (.Name x b) X.env)=eval (.Name x b) X.env:=by rfl)
  (j:attributeBase (.Attribute (.Name x b) fl k) "append" X.env (eval (.Attribute (.Name x b) fl k) X.env)=eval (.Attribute (.Name x b) fl k) X.env:=by rfl) (z:Ad [e] X.env=(false,eval e X.env)::Ad [] X.env:=by rfl)
  (hpl:((((backTo l (Ad [e] X.env)).all λx=>!x.fst)&&(backToKw l (keywordEach [] X.env)).all λx=>x.fst.isSome)&&decide (([e].length+([]:List Keyword).length+if([]:List Keyword).isEmpty=true then 0 else 1)<30))=true:=by rfl)
  (f:(t.endLine == l.line)=true:=by rfl) (u:swapsWith (.Call (.Attribute (.Attribute (.Name x b) fl k) "append" t) [e] [] l) none pos.line X.env=pure false:=by rfl):
  SvS X L (.Expr (.Call (.Attribute (.Attribute (.Name x b) fl k) "append" t) [e] [] l) pos::rest) E:=λF σ H D m r=>by
 subst n;obtain⟨B,h0,y⟩:=m.inn hi;refine⟨_,zv (xU (sr zN2 zT4 zT5 wW (vI (zT J I hd q) w) (zh zi zy z) j hpl f z) u) zC,?_⟩;refine⟨_,B,s.a,s.C,s.dx,_,.ref s.lp,rfl,h0.ob,c,na,h0.look hp hf,.inl ⟨rfl,_,SqL.of (h0.ls hp)⟩,?_⟩;refine h F σ H _ m λd v H1 A t1 k1 G=>?_;have m1:=m.kz k1 t1;obtain⟨B,h0,y⟩:=m1.inn hi;refine⟨s.lp,s.xs,v,rfl,rfl,h0.ls hp,by rw[h0.av.length];exact yx (zM5 A.1),?_⟩;have g:=uW (o:=.lst (s.xs++[v])) m1 hi (.inr rfl);exact A.2 v F σ _ D (m1.wrI hi rfl rfl (λx o e _ _ n2=>by rw[zm n2];exact e) (m1.tp.updO (y _ (.inr rfl)).1 (xp (h0.ls hp))) ⟨by rw[zm (h0.ne hp)];exact h0.ob,h0.fl.same g,λ_=>zk,(h0.av.same g).append (.cons (G.same g) .nil),h0.ne,h0.eq⟩) r
end
structure qK (P:Ah)(w:Ak)(K:Ae)(mg:Str->Option Ac)(base:Ao)(x:Str)(k:Nat)(φ:List A->(A->Prop)->Prop):Prop where
 ex:∃f fd ps,mg x=some (.ref f)/\PySem.W.keepIn K (.ref f)=true/\Binds K fd ps []/\zG P w K mg base CX0 k f fd ps (spG φ)
structure yw (P:Ah)(w:Ak)(K:Ae)(mg:Str->Option Ac)(base:Ao)(C:Ab)(m:Str)(k:Nat)(φ:List A->(A->Prop)->Prop):Prop where
 ex:∃f fd ps,Cls K C/\Meth K C m f/\Binds K fd ps []/\zG P w K mg base CX0 k f fd ps (spG φ)
def EvG (X:Cx)(L:Ev)(i:Nat)(e:Ai)(Q:Aa->zD->Prop):Prop:=∀(F:Fr) (σ:St) (H:Hp) (R:VK),M F L σ H->(∀d s' v H',Q d s'->M F (L.set i (some (.inn s'))) σ H'->AV (Gz F (L.set i (some (.inn s'))) σ H') v d->R v H')->uq X e σ H R
def lG {L:Ev}{i:Nat}{a:Option A}(h:L[i]?=some a):L.set i a=L:=by
 obtain⟨b,e⟩:=zH9.mp h;subst e;exact List.set_getElem_self b
theorem Kz.giv {L:Ev}{F:Fr}{σ:St}{H H':Hp}{i:Nat}{s:zD}{v:V}{d:Aa}(m:M F L σ H)(hi:L[i]?=some (some (.inn s)))(h:yf (F.giv L σ H s) v H' (.res d s)):Kz F H H':=λx o e n=>by
 obtain⟨_,h0,_⟩:=m.inn hi;obtain⟨_,kz,_,f,_⟩:=h;by_cases b:x=s.a
 .subst b;rw[h0.ob]at e;cases e;exact f.ob
 .by_cases c:x=s.lp
  .cases zp:s.pl with
   |true=>subst c;rw[h0.ls zp]at e;cases e;exact f.ls zp
   |false=>exact absurd (c.trans (h0.eq zp)) b
  .exact kz x o (show s.un H x=some o from zw (p:=λx=>x≠s.a/\x≠s.lp) ⟨b,c⟩ e) n
section
variable {X:Cx}{L:Ev}{E:yj}{e:Ai}{es:List Ai}{p pos apos:Pos}{rest:List An}{s:zD}{Q:Aa->Prop}{QG:Aa->zD->Prop}{k:Nat}{φ:List A->(A->Prop)->Prop}{x o:Str}{C:Ab}{m:Str}
def nh {F:Fr}{σ:St}{H:Hp}{R:VK}{E:XK}{us:List V}{as:List A}{i:Nat}(m:M F L σ H)(hi:L[i]?=some (some (.inn s)))(g:zS F (Gz F L σ H) us as)(b:φ (.inn s::as) λa=>∃d s',a=.res d s'/\s'.a=s.a/\s'.lp=s.lp/\QG d s')(k:∀d s' v H',QG d s'->M F (L.set i (some (.inn s'))) σ H'->AV (Gz F (L.set i (some (.inn s'))) σ H') v d->R v H'):spG φ (.ref s.a::us) H R E:=
 sg m hi g b λa v H' j f=>by
  obtain⟨d,s',rfl,c,l,q⟩:=j;obtain⟨h,av⟩:=f.backI m hi c l;exact k d s' v H' q h av
def kA {F:Fr}{σ:St}{H:Hp}{R:VK}{E:XK}{us:List V}{as:List A}{i:Nat}(m:M F L σ H)(hi:L[i]?=some (some (.inn s)))(f:zS F (Gz F L σ H) us as)(b:φ (.inn s::as) λa=>∃d,a=.res d s/\Q d)(k:∀d v H',Q d->zH F H'->Kz F H H'->AV (Gz F L σ H') v d->R v H'):spG φ (.ref s.a::us) H R E:=
 sg m hi f b λa v H' h c=>by
  obtain⟨d,rfl,q⟩:=h;obtain⟨g,av⟩:=c.backI m hi rfl rfl;rw[lG hi]at av;exact k d v H' q g.tp (Kz.giv m hi c) av
def xZ (i:Nat)(hi:L[i]?=some (some (.inn s)))(C:qK X.prog X.w X.K X.mg X.base x k φ)(hr:zO k X.A)(J:Gl X x)(h:EvA X L es λas=>φ (.inn s::as) λa=>∃d,a=.res d s/\Q d)
  (z:X.N[i]?=some o:=by rfl) (u:Vis X.env.scope o:=by first|exact Or.inl rfl|exact Or.inr (Or.inl rfl)|exact Or.inr (Or.inr rfl)) (hd:(o == ("__debug__":Str))=false:=by decide) (c:(o == ("__classdict__":Str))=false:=by decide)
  (b:(x == ("__debug__":Str))=false:=by decide) (he:Ad (.Name o p::es) X.env=(false,eval (.Name o p) X.env)::Ad es X.env:=by rfl) (hpl:(backTo pos (Ad es X.env)).any (·.1)=false:=by rfl) {l:Pos}:EvD X L (.Call (.Name x l) (.Name o p::es) [] pos) Q:=λF σ H R m g=>by
 obtain⟨f,fd,ps,G,D,I,y⟩:=C.ex;refine⟨_,yb y hr J G D I .nil zX (zh (zT z u hd c) zY he) b he hpl,_,(m.inn hi).1,?_⟩;refine h F σ H _ m λas us H1 B t1 k1 j=>?_;have n:=kA (E:=E0) (m.kz k1 t1) hi j B λd v H' q t kz r=>g d v H' q t (k1.trans kz) r;show spG φ ((V.ref s.a::us)++[]) H1 R E0;rw[zJ5];exact n
def zs3 (i:Nat)(hi:L[i]?=some (some (.inn s)))(C:qK X.prog X.w X.K X.mg X.base x k φ)(hr:zO k X.A)(B:Gl X x)(h:EvA X L es λas=>φ (.inn s::as) λa=>∃d s',a=.res d s'/\s'.a=s.a/\s'.lp=s.lp/\QG d s')
  (t:X.N[i]?=some o:=by rfl) (q:Vis X.env.scope o:=by first|exact Or.inl rfl|exact Or.inr (Or.inl rfl)|exact Or.inr (Or.inr rfl)) (hd:(o == ("__debug__":Str))=false:=by decide) (c:(o == ("__classdict__":Str))=false:=by decide)
  (b:(x == ("__debug__":Str))=false:=by decide) (he:Ad (.Name o p::es) X.env=(false,eval (.Name o p) X.env)::Ad es X.env:=by rfl) (hpl:(backTo pos (Ad es X.env)).any (·.1)=false:=by rfl) {l:Pos}:EvG X L i (.Call (.Name x l) (.Name o p::es) [] pos) QG:=λF σ H R m g=>by
 obtain⟨f,fd,ps,y,v,z,r⟩:=C.ex;refine⟨_,yb r hr B y v z .nil zX (zh (zT t q hd c) zY he) b he hpl,_,(m.inn hi).1,?_⟩;refine h F σ H _ m λas us H1 u t1 k1 j=>?_;have n:=nh (E:=E0) (m.kz k1 t1) hi j u g;show spG φ ((V.ref s.a::us)++[]) H1 R E0;rw[zJ5];exact n
def nL (i:Nat){pl:Sem Bool}(hi:L[i]?=some (some (.inn s)))(z:yw X.prog X.w X.K X.mg X.base s.C m k φ)(hr:zO k X.A)(hf:yr s.kvs m=none)(hm:m≠s.nm)(h:EvA X L (e::es) λas=>φ (.inn s::as) λa=>∃d s',a=.res d s'/\s'.a=s.a/\s'.lp=s.lp/\QG d s')
  (u:X.N[i]?=some o:=by rfl) (t:Vis X.env.scope o:=by first|exact Or.inl rfl|exact Or.inr (Or.inl rfl)|exact Or.inr (Or.inr rfl)) (hd:(o == ("__debug__":Str))=false:=by decide) (g:(o == ("__classdict__":Str))=false:=by decide)
  (j:Ad (e::es) X.env=(false,eval e X.env)::Ad es X.env:=by rfl) (hpl:(backTo pos (Ad es X.env)).any (·.1)=false:=by rfl)
  (ht:eval (.Call (.Attribute (.Name o p) m apos) (e::es) [] pos) X.env=(do
   let ov <-eval (.Name o p) X.env
   standAt apos.atName
   let(f,first) <-holding [ov] (getMethod ov m pl)
   callWith pos f first (backTo pos (Ad (e::es) X.env)) (backToKw pos (keywordEach [] X.env))):=by rfl):EvG X L i (.Call (.Attribute (.Name o p) m apos) (e::es) [] pos) QG:=λF σ H R b n=>by
 obtain⟨f,fd,ps,c,l,B,G⟩:=z.ex;obtain⟨y,h0,_⟩:=b.inn hi;refine⟨_,uR (zT u t hd g) c l G hr B .nil zX zY j hpl ht,_,y,s.a,s.dx,_,rfl,h0.ob,h0.look_m hf hm,?_⟩;refine h F σ H _ b λas us H1 v t1 k1 q=>?_;have r:=nh (E:=E0) (b.kz k1 t1) hi q v n;show spG φ (V.ref s.a::(us++[])) H1 R E0;rw[zJ5];exact r
def wx (i:Nat){pl:Sem Bool}(hi:L[i]?=some (some (.inn s)))(J:yw X.prog X.w X.K X.mg X.base s.C m k φ)(hr:zO k X.A)(hf:yr s.kvs m=none)(hm:m≠s.nm)(h:EvA X L (e::es) λas=>φ (.inn s::as) λa=>∃d,a=.res d s/\Q d)
  (B:X.N[i]?=some o:=by rfl) (z:Vis X.env.scope o:=by first|exact Or.inl rfl|exact Or.inr (Or.inl rfl)|exact Or.inr (Or.inr rfl)) (hd:(o == ("__debug__":Str))=false:=by decide) (g:(o == ("__classdict__":Str))=false:=by decide)
  (j:Ad (e::es) X.env=(false,eval e X.env)::Ad es X.env:=by rfl) (hpl:(backTo pos (Ad es X.env)).any (·.1)=false:=by rfl)
  (ht:eval (.Call (.Attribute (.Name o p) m apos) (e::es) [] pos) X.env=(do
   let ov <-eval (.Name o p) X.env
   standAt apos.atName
   let(f,first) <-holding [ov] (getMethod ov m pl)
   callWith pos f first (backTo pos (Ad (e::es) X.env)) (backToKw pos (keywordEach [] X.env))):=by rfl):EvD X L (.Call (.Attribute (.Name o p) m apos) (e::es) [] pos) Q:=λF σ H R b n=>by
 obtain⟨f,fd,ps,c,l,M,G⟩:=J.ex;obtain⟨I,h0,_⟩:=b.inn hi;refine⟨_,uR (zT B z hd g) c l G hr M .nil zX zY j hpl ht,_,I,s.a,s.dx,_,rfl,h0.ob,h0.look_m hf hm,?_⟩;refine h F σ H _ b λas us H1 D t1 k1 u=>?_;have y:=kA (E:=E0) (b.kz k1 t1) hi u D λd v H' q t kz r=>n d v H' q t (k1.trans kz) r;show spG φ (V.ref s.a::(us++[])) H1 R E0;rw[zJ5];exact y
def lW (i:Nat){pl:Sem Bool}(hi:L[i]?=some (some (.inn s)))(n:yw X.prog X.w X.K X.mg X.base s.C m k φ)(hr:zO k X.A)(hf:yr s.kvs m=none)(hm:m≠s.nm)(h:φ [.inn s] λa=>∃d s',a=.res d s'/\s'.a=s.a/\s'.lp=s.lp/\QG d s')
  (u:X.N[i]?=some o:=by rfl) (t:Vis X.env.scope o:=by first|exact Or.inl rfl|exact Or.inr (Or.inl rfl)|exact Or.inr (Or.inr rfl)) (hd:(o == ("__debug__":Str))=false:=by decide) (b:(o == ("__classdict__":Str))=false:=by decide)
  (ht:eval (.Call (.Attribute (.Name o p) m apos) [] [] pos) X.env=(do
   let ov <-eval (.Name o p) X.env
   standAt apos.atName
   let(f,first) <-holding [ov] (getMethod ov m pl)
   callWith pos f first (backTo pos (Ad [] X.env)) (backToKw pos (keywordEach [] X.env))):=by rfl):EvG X L i (.Call (.Attribute (.Name o p) m apos) [] [] pos) QG:=λF σ H R j l=>by
 obtain⟨f,fd,ps,c,g,r,G⟩:=n.ex;obtain⟨v,h0,_⟩:=j.inn hi;refine⟨_,uQ (zT u t hd b) c g G hr r .nil zX ht,_,v,s.a,s.dx,_,rfl,h0.ob,h0.look_m hf hm,?_⟩;have q:=nh (E:=E0) j hi .nil h l;exact q
def tO (i:Nat){pl:Sem Bool}(hi:L[i]?=some (some (.inn s)))(n:yw X.prog X.w X.K X.mg X.base s.C m k φ)(hr:zO k X.A)(hf:yr s.kvs m=none)(hm:m≠s.nm)(h:φ [.inn s] λa=>∃d,a=.res d s/\Q d)
  (u:X.N[i]?=some o:=by rfl) (t:Vis X.env.scope o:=by first|exact Or.inl rfl|exact Or.inr (Or.inl rfl)|exact Or.inr (Or.inr rfl)) (hd:(o == ("__debug__":Str))=false:=by decide) (b:(o == ("__classdict__":Str))=false:=by decide)
  (ht:eval (.Call (.Attribute (.Name o p) m apos) [] [] pos) X.env=(do
   let ov <-eval (.Name o p) X.env
   standAt apos.atName
   let(f,first) <-holding [ov] (getMethod ov m pl)
   callWith pos f first (backTo pos (Ad [] X.env)) (backToKw pos (keywordEach [] X.env))):=by rfl):EvD X L (.Call (.Attribute (.Name o p) m apos) [] [] pos) Q:=λF σ H R j l=>by
 obtain⟨f,fd,ps,c,g,r,G⟩:=n.ex;obtain⟨v,h0,_⟩:=j.inn hi;refine⟨_,uQ (zT u t hd b) c g G hr r .nil zX ht,_,v,s.a,s.dx,_,rfl,h0.ob,h0.look_m hf hm,?_⟩;have q:=kA (E:=E0) j hi .nil h l;exact q
def vc (i:Nat){w:Str}{n j:Nat}{b:Pos}(h:EvG X L i e λd s'=>QG (.tuple [.str w,d]) s')(he:Ad [.Constant (.str w) j b,e] X.env=(false,eval (.Constant (.str w) j b) X.env)::Ad [e] X.env:=by rfl)(c:Ad [e] X.env=(false,eval e X.env)::Ad [] X.env:=by rfl):EvG X L i (.Tuple [.Constant (.str w) j b,e] n pos) QG:=λF σ H R m k=>by
 refine⟨_,tP (zh yi (zh zi zy c) he),?_⟩;refine h F σ H _ m λd s' v H1 q m1 r=>?_;refine⟨by show 2<=sizeLine;decide,λp hp=>?_⟩;have f:zu H1 (upd H1 p (.tup [.str w,v])):=zV hp;refine k _ s' _ _ q (m1.kz (Kz.of_same f) (m1.tp.same f)) (.tup (zw (m1.fresh hp) zk) (.cons (.str _) (.cons (r.same (zj λa o ha e=>⟨ha,by rw[zm (zq e hp)];exact e⟩)) .nil)))
def zd6 (i j:Nat){y:Str}{pos':Pos}(g:X.N.Nodup)(h:EvG X L i e λd s'=>SvS X ((L.set i (some (.inn s'))).set j (some (.dat d))) rest E)(c:X.N[j]?=some y:=by rfl)(b:Loc X.env.scope y:=by first|exact Or.inl rfl|exact Or.inr rfl)
  (f:swapsWith e (some (.Name y pos')) pos.line X.env=pure false:=by rfl) (hf:X.fn y=true\/X.env.scope.names.lookup y=some .local:=by first|exact .inl rfl|exact .inr rfl|assumption):SvS X L (.Assign [.Name y pos'] e pos::rest) E:=λF σ H D m r=>by exact⟨_,zv (uz g c b zi f hf) zC,h F σ H _ m λd s' v H1 l m1 a=>l F _ H1 D (m1.set a) r⟩
def vi (i:Nat){b:A}(hi:L[i]?=some (some b))(h:EvG X L i e λd s'=>E.rt (.res d s')):SvS X L (.Return (some e) pos::rest) E:=λF σ H D m r=>by exact⟨_,zv (zP zi) zC,h F σ H _ m λd s' v H1 c m1 a=>r.rt _ _ _ (yf.res m1 (get_set ⟨_,hi⟩) a) c⟩
def tu (i:Nat)(h:EvG X L i e λ_ s'=>SvS X (L.set i (some (.inn s'))) rest E)(a:swapsWith e none pos.line X.env=pure false:=by rfl):SvS X L (.Expr e pos::rest) E:=λF σ H D m r=>by exact⟨_,zv (xU zi a) zC,h F σ H _ m λd s' v H1 b m1 c=>b F _ H1 D m1 r⟩
end
theorem AVs.snoc_inv {G:Hp}{d:Aa}:∀{ds:List Aa}{xs:List V},AVs G xs (ds++[d])->∃a v,xs=a++[v]/\AVs G a ds/\AV G v d
 |[],_,.cons h .nil=>⟨[],_,rfl,.nil,h⟩
 |e::ds,_,.cons h r=>by
  obtain⟨a,v,rfl,c,b⟩:=AVs.snoc_inv r;exact⟨_::a,v,rfl,.cons h c,b⟩
abbrev zD.back (s:zD)(a:List V)(ds:List Aa):zD:={s with xs:=a,past:=ds}
section
variable {X:Cx}{L:Ev}{E:yj}{p pos apos:Pos}{rest:List An}{s:zD}{QG:Aa->zD->Prop}
def zv9 (i:Nat){x:Str}{ds:List Aa}{d:Aa}{b r G I:Pos}(hi:L[i]?=some (some (.inn s)))(c:Cls X.K s.C)(na:yh X.K s.C s.nm)(hpl:s.pl=true)(hf:yr s.kvs s.nm=none)(hp:s.past=ds++[d])(q:∀t,QG d (s.back t ds)){fl:Str}(w:s.nm=fl)
  (P:X.N[i]?=some x:=by rfl) (O:Vis X.env.scope x:=by first|exact Or.inl rfl|exact Or.inr (Or.inl rfl)|exact Or.inr (Or.inr rfl)) (hd:(x == ("__debug__":Str))=false:=by decide) (y:(x == ("__classdict__":Str))=false:=by decide)
  (B:attributeBase (.Name x b) fl X.env (eval (.Name x b) X.env)=eval (.Name x b) X.env:=by rfl)
  (n:attributeBase (.Attribute (.Name x b) fl r) "pop" X.env (eval (.Attribute (.Name x b) fl r) X.env)=eval (.Attribute (.Name x b) fl r) X.env:=by rfl) (l:(G.endLine == I.line)=true:=by rfl):
  EvG X L i (.Call (.Attribute (.Attribute (.Name x b) fl r) "pop" G) [] [] I) QG:=λF σ H R m k=>by
 subst w;obtain⟨Q,h0,M⟩:=m.inn hi;have av:=h0.av;rw[hp]at av;obtain⟨t,v,e,T,S⟩:=av.snoc_inv;refine⟨_,zt5 zN2 PySem.F.slot_list_pop PySem.F.type_list_pop zx4 (vI (zT P O hd y) B) n l,?_⟩;refine⟨_,Q,s.a,s.C,s.dx,_,.ref s.lp,rfl,h0.ob,c,na,h0.look hpl hf,.inl ⟨rfl,_,SqL.of (h0.ls hpl)⟩,?_⟩;refine⟨s.lp,s.xs,v,rfl,rfl,h0.ls hpl,by rw[e];simp,?_⟩;have g:=uW (o:=.lst s.xs.dropLast) m hi (.inr rfl);have J:=m.wrI (s':=s.back t ds) hi rfl rfl (λx o e _ _ n2=>by rw[zm n2];exact e) (m.tp.updO (M _ (.inr rfl)).1 (xp (h0.ls hpl))) ⟨by show upd H s.lp _ s.a=_;rw[zm (h0.ne hpl)];exact h0.ob,h0.fl.same g,λ_=>by show upd H s.lp _ s.lp=_;rw[zk,e,List.dropLast_concat],T.same g,h0.ne,h0.eq⟩;refine k d _ v _ (q t) J ((S.same g).same (zj λx o h e=>⟨λz=>h ?_,e⟩));rcases z with z|⟨j,a,u,U,D,f⟩
 .exact .inl z
 .rcases zA U with⟨rfl,z⟩|⟨_,A⟩
  .cases z;exact .inr ⟨_,_,_,hi,D,f⟩
  .exact .inr ⟨j,a,u,A,D,f⟩
end
theorem zw9 {X:Cx}(i:X.A.units+64<cLine):OpR X (compareOp .Eq) (λx y H Q=>∃l b xs,x=.ref l/\y=.ref b/\H l=some (.lst xs)/\H b=some (.lst [])/\Q (.bl xs.isEmpty) H):=by
 intro pins s σ H x y v u Q I f g h;obtain⟨l,b,xs,rfl,rfl,e,d,q⟩:=h;cases xs with
 |nil=>exact vm i pins s σ H _ _ v u Q I f g ⟨.list [],.list [],.lst e .nil,.lst d .nil,rfl,rfl,q⟩
 |cons z r=>
  obtain⟨_,c,n,m,k,g1⟩:=I.lstM e;obtain⟨_,a,n2,o,j,g2⟩:=I.lstM d;obtain rfl:v=.ref l:=f;obtain rfl:u=.ref b:=g;refine P.eq_list_lengths (items:=c.toArray) (items2:=a.toArray) (n:=n) (n2:=n2) g1 g2 ?_ (by omega) ⟨.bl false,H,I,rfl,q⟩;simp[<-k,<-j]
def eU {xs:List V}{ds:List Aa}(h:xs.length=ds.length):xs.isEmpty=ds.isEmpty:=by cases xs<;>cases ds<;>simp_all
def lu {X:Cx}{L:Ev}{s:zD}{T:Bool->Prop}{pos:Pos}(i:Nat){x:Str}{b j o:Pos}(h:X.A.units+64<cLine)(hi:L[i]?=some (some (.inn s)))(c:Cls X.K s.C)(na:yh X.K s.C s.nm)(hpl:s.pl=true)(hf:yr s.kvs s.nm=none)(q:T s.past.isEmpty){fl:Str}(d:s.nm=fl)
  (n:X.N[i]?=some x:=by rfl) (l:Vis X.env.scope x:=by first|exact Or.inl rfl|exact Or.inr (Or.inl rfl)|exact Or.inr (Or.inr rfl)) (hd:(x == ("__debug__":Str))=false:=by decide) (f:(x == ("__classdict__":Str))=false:=by decide)
  (g:attributeBase (.Name x b) fl X.env (eval (.Name x b) X.env)=eval (.Name x b) X.env:=by rfl):EvT X L (.Compare (.Attribute (.Name x b) fl j) [.Eq] [.List [] o] pos) T:=λF σ H R m k=>by
 subst d;obtain⟨r,h0,t⟩:=m.inn hi;refine⟨_,yH (zw9 h) (vI (zT n l hd f) g) (oB zy) (yc _),?_⟩;refine⟨_,r,s.a,s.C,s.dx,_,.ref s.lp,rfl,h0.ob,c,na,h0.look hpl hf,by show 0<=sizeLine;decide,λp hp=>?_⟩;have e:zu H (upd H p (.lst [])):=zV hp;refine⟨s.lp,p,s.xs,rfl,rfl,e _ _ (h0.ls hpl),zk,_,rfl,?_⟩;rw[eU h0.av.length];exact k _ _ q (m.tp.same e) (Kz.of_same e)
abbrev zD.new (C x dx:Ab):zD:=⟨x,x,C,dx,"",[],[],[],[],false⟩
section
variable {P:Ah}{w:Ak}{K:Ae}{mg:Str->Option Ac}{base:Ao}
end
section
variable {X:Cx}{L:Ev}{E:yj}{e:Ai}{es:List Ai}{p pos apos:Pos}{rest:List An}{s:zD}{k:Nat}{φ:List A->(A->Prop)->Prop}{x:Str}{C:Ab}
end
section
variable {L:Ev}{F:Fr}{σ:St}{H H':Hp}{i:Nat}{s s':zD}
def M.growI (m:M F L σ H)(hi:L[i]?=some (some (.inn s)))(S:s'.a=s.a)(W:s'.lp=s.lp\/H s'.lp=none)(k:∀x o,H x=some o->NT F x->x≠s.a->x≠s.lp->H' x=some o)(t:zH F H')(h:xt (Gz F (L.set i (some (.inn s'))) σ H') H' s'):M F (L.set i (some (.inn s'))) σ H':=by
 obtain⟨C,h0,G⟩:=m.inn hi;have J:∀{x v},foot v (.inn s') x->foot v (.inn s) x\/H x=none:=λ{x v} f=>f.elim (λz=>.inl (.inl (z.trans S))) λz=>W.elim (λw=>.inl (.inr (z.trans w))) λw=>.inr (by rw[z];exact w);have E:∀{j:Nat} {a:A} {v:Option V},(L.set i (some (.inn s')))[j]?=some (some a)->σ[j]?=some v->(i=j/\a=.inn s'/\v=some (.ref s.a))\/(i≠j/\L[j]?=some (some a)):=λ{j a v} p g=>by
  rcases zA p with⟨rfl,z⟩|⟨D,d⟩
  .cases z;rw[C]at g;cases g;exact .inl ⟨rfl,rfl,rfl⟩
  .exact .inr ⟨D,d⟩
 have R:∀{y:Ab},Ow F (L.set i (some (.inn s'))) σ y->Ow F L σ y\/H y=none:=λ{y} h=>by
  rcases h with z|⟨j,a,v,p,g,f⟩
  .exact .inl (.inl z)
  .rcases E p g with⟨rfl,rfl,rfl⟩|⟨D,d⟩
   .exact(J f).imp (λf=>.inr ⟨i,_,_,hi,C,f⟩) id
   .exact .inl (.inr ⟨j,a,v,d,g,f⟩)
 have ol:∀{x},s.at x->Ow F L σ x:=λf=>.inr ⟨i,_,_,hi,C,f⟩;have U:zu (Gz F L σ H) (Gz F (L.set i (some (.inn s'))) σ H'):=zj λa o h e=>⟨λz=>(R z).elim h (λw=>by rw[w]at e;cases e),k a o e (m.tp.nt (ow0 h)) (λz=>h (ol (.inl z))) λz=>h (ol (.inr z))⟩;have T:∀{j:Nat} {a:A} {v:Option V} {x:Ab},i≠j->L[j]?=some (some a)->σ[j]?=some v->foot v a x->x≠s.a/\x≠s.lp:=λD p g f=>⟨λz=>D (m.dj i _ _ _ _ _ _ hi p C g (.inl z) f),λz=>D (m.dj i _ _ _ _ _ _ hi p C g (.inr z) f)⟩;have nn:∀{j:Nat} {a:A} {v:Option V} {x:Ab},L[j]?=some (some a)->σ[j]?=some v->foot v a x->H x=none->False:=λp g f w=>by
  obtain⟨_,_,o,e,_⟩:=m.ft p g f;rw[w]at e;cases e
 refine⟨by rw[zK0];exact m.len,λj a v p g=>?_,λj N a b v t x p g K I f1 f2=>?_,λj r q e N a v x p g f=>?_,t,λy o e n=>?_,?_⟩
 .rcases E p g with⟨rfl,rfl,rfl⟩|⟨D,d⟩
  .exact⟨by rw[S],h,λx z=>(J (v:=none) z).elim (G x) λw=>⟨ow0 (m.fresh w),m.fresh0 w⟩⟩
  .refine(m.ok j a v d g).stay U (λy u f e=>?_) rfl λr q P l=>⟨l.tp,l.o,l.ok.re t l.tp.symm,λy u e n=>?_⟩
   .obtain⟨w1,w2,_⟩:=m.ft d g f;obtain⟨n1,n2⟩:=T D d g f;exact⟨k y u e (m.tp.nt w1) n1 n2,w1,w2⟩
   .have xd:=λx f=>m.xd j r q (by rw[<-P];exact d) i _ _ x hi C f;exact k y u (l.k y u e n) ⟨λa b c z=>n.1 a b c (l.tp.trans z),n.2⟩ (λz=>by rw[xd y (.inl z)]at e;cases e) λz=>by rw[xd y (.inr z)]at e;cases e
 .rcases E p K with⟨rfl,rfl,rfl⟩|⟨D,d⟩
  .rcases E g I with⟨rfl,_⟩|⟨O,B⟩
   .rfl
   .exact(J f1).elim (λf=>m.dj i N _ b _ t x hi B C I f f2) λw=>(nn B I f2 w).elim
  .rcases E g I with⟨rfl,rfl,rfl⟩|⟨O,B⟩
   .exact(J f2).elim (λf=>m.dj j i a _ v _ x d hi K C f1 f) λw=>(nn d K f1 w).elim
   .exact m.dj j N a b v t x d B K I f1 f2
 .rcases zA e with⟨_,z⟩|⟨_,Q⟩
  .cases z
  .rcases E p g with⟨rfl,rfl,rfl⟩|⟨_,d⟩
   .exact(J f).elim (λf=>m.xd j r q Q i _ _ x hi C f) λw=>(m.lnk Q).none w
   .exact m.xd j r q Q N a v x d g f
 .exact k y o (m.keep y o e n) n (λz=>by rw[z,(G _ (.inl rfl)).2]at e;cases e) λz=>by rw[z,(G _ (.inr rfl)).2]at e;cases e
 .refine M.oex' (H:=s.un H) t (λx o e n=>?_) λx z=>?_
  .obtain⟨⟨n1,n2⟩,e⟩:=zg e;exact k x o e n n1 n2
  .obtain⟨o,e,n⟩:=m.oex x z;exact⟨o,zw ⟨λy=>(G x (.inl y)).1 z,λy=>(G x (.inr y)).1 z⟩ e,n⟩
end
theorem tE {f:Str}{v:V}:∀{fs:List (Str×V)},fs.lookup f=none->xl f v fs=fs++[(f,v)]
 |[],_=>rfl
 |(g,x)::fs,h=>by
  rw[zL1]at h;show(if g=f then(g,v)::fs else(g,x)::xl f v fs)=_;by_cases z:g=f
  .rw[show(f == g)=true by rw[z];simp]at h;cases h
  .rw[if_neg z,tE (by rwa [show(f == g)=false from zO6.mpr (zO2 z)]at h)];rfl
theorem AVf.snoc {G:Hp}{f:Str}{v:V}{d:Aa}(a:AV G v d):∀{fs:List (Str×V)}{ds:List (Aa×Aa)},AVf G fs ds->AVf G (fs++[(f,v)]) (ds++[(.str f,d)])
 |_,_,.nil=>.cons a .nil
 |_,_,.cons h r=>.cons h (AVf.snoc a r)
abbrev zD.add (s:zD)(f:Str)(v:V)(d:Aa):zD:={s with fs:=s.fs++[(f,v)],kvs:=s.kvs++[(.str f,d)]}
abbrev zD.hold (s:zD)(f:Str)(p:Ab):zD:={s with lp:=p,nm:=f,xs:=[],past:=[],pl:=true}
section
variable {X:Cx}{L:Ev}{E:yj}{e:Ai}{p pos:Pos}{rest:List An}{s:zD}
def uo (i:Nat){x f:Str}{j k:Pos}(hi:L[i]?=some (some (.inn s)))(hp:s.pl=false)(c:Cls X.K s.C)(na:yh X.K s.C f)(hf:yr s.kvs f=none)(hk:s.kvs.length<900)(h:EvD X L e λd=>∀v,SvS X (L.set i (some (.inn (s.add f v d)))) rest E)
  (u:X.N[i]?=some x:=by rfl) (q:Vis X.env.scope x:=by first|exact Or.inl rfl|exact Or.inr (Or.inl rfl)|exact Or.inr (Or.inr rfl)) (hd:(x == ("__debug__":Str))=false:=by decide) (b:(x == ("__classdict__":Str))=false:=by decide)
  (t:swapsWith e (some (.Attribute (.Name x j) f k)) pos.line X.env=pure false:=by rfl):SvS X L (.Assign [.Attribute (.Name x j) f k] e pos::rest) E:=λF σ H D m r=>by
 refine⟨_,zv (vo (zT u q hd b) zi t) zC,?_⟩;refine h F σ H _ m λd v H1 w t1 k1 l=>?_;have m1:=m.kz k1 t1;obtain⟨y,h0,n⟩:=m1.inn hi;refine⟨_,y,s.a,s.C,s.dx,_,rfl,h0.ob,c,na,by rw[zI1,h0.fl.len];have:=s.tl_len;omega,?_⟩;rw[zD.tl_f hp,zJ5,tE (h0.fl.none hf)];have g:=uW (o:=.ins s.C s.dx (s.fs++[(f,v)])) m1 hi (.inl rfl);exact w v F σ _ D (m1.wrI (s':=s.add f v d) hi rfl rfl (λx o e _ n1 _=>by rw[zm n1];exact e) (m1.tp.updO (n _ (.inl rfl)).1 (wZ h0.ob)) ⟨by rw[zk,zD.tl_f (s:=s.add f v d) hp,zJ5],(AVf.snoc l h0.fl).same g,λz=>(by rw[hp]at z;cases z),h0.av.same g,h0.ne,h0.eq⟩) r
def cn (i:Nat){x f:Str}{t u w:Pos}(hi:L[i]?=some (some (.inn s)))(hp:s.pl=false)(c:Cls X.K s.C)(na:yh X.K s.C f)(hf:yr s.kvs f=none)(hk:s.kvs.length<900)(h:∀p,SvS X (L.set i (some (.inn (s.hold f p)))) rest E)
  (J:X.N[i]?=some x:=by rfl) (B:Vis X.env.scope x:=by first|exact Or.inl rfl|exact Or.inr (Or.inl rfl)|exact Or.inr (Or.inr rfl)) (hd:(x == ("__debug__":Str))=false:=by decide) (l:(x == ("__classdict__":Str))=false:=by decide)
  (I:swapsWith (.List [] w) (some (.Attribute (.Name x t) f u)) pos.line X.env=pure false:=by rfl):SvS X L (.Assign [.Attribute (.Name x t) f u] (.List [] w) pos::rest) E:=λF σ H D m r=>by
 refine⟨_,zv (vo (zT J B hd l) (oB zy) I) zC,by show 0<=sizeLine;decide,λp b=>?_⟩;obtain⟨n,h0,A⟩:=m.inn hi;have k:zu H (upd H p (.lst [])):=zV b;have ne:p≠s.a:=λz=>by rw[z,h0.ob]at b;cases b
 refine⟨_,n,s.a,s.C,s.dx,_,rfl,k _ _ h0.ob,c,na,by rw[zI1,h0.fl.len];have:=s.tl_len;omega,?_⟩;rw[zD.tl_f hp,zJ5,tE (h0.fl.none hf)];refine h p F σ _ D (m.growI (s':=s.hold f p) hi rfl (.inr b) (λx o e _ n1 _=>by rw[zm n1];exact k x o e) ((m.tp.same k).updO (A _ (.inl rfl)).1 (wZ (k _ _ h0.ob))) ?_) r;have g:zu (Gz F L σ H) (Gz F (L.set i (some (.inn (s.hold f p)))) σ (upd (upd H p (.lst [])) s.a (.ins s.C s.dx (s.fs++[(f,.ref p)])))):=zj λy o h e=>⟨λz=>?_,by rw[zm λz=>h (.inr ⟨i,_,_,hi,n,.inl z⟩)];exact k y o e⟩
 .exact⟨by rw[zk,zD.tl_t (s:=s.hold f p) rfl],h0.fl.same g,λ_=>by rw[zm ne,zk],.nil,λ_=>ne.symm,λz=>by cases z⟩
 rcases z with z|⟨j,a,v,M,G,d⟩
 .exact h (.inl z)
 .rcases zA M with⟨rfl,z⟩|⟨_,q⟩
  .cases z;rcases d with d|d
   .exact h (.inr ⟨_,_,_,hi,n,.inl d⟩)
   .have d:y=p:=d;rw[d,b]at e;cases e
  .exact h (.inr ⟨j,a,v,q,G,d⟩)
end
section
variable {X:Cx}{L:Ev}{tg:Ai}{p pos:Pos}{a:Ai}
end
section
variable {X:Cx}{L:Ev}{p pos:Pos}{a:Ai}{g:Str}{Q:Aa->Prop}
def scV :Aa->Option V
 |.none=>some .non
 |.bool b=>some (.bl b)
 |.int i=>some (.int i)
 |.str x=>some (.str x)
 |_=>Option.none
end
section
variable {X:Cx}{L:Ev}{p pos:Pos}{a b:Ai}{g:Str}{Q:Aa->Prop}
def pJ (h:EvD X L a λx=>EvD X L b λy=>∃i j,x=.str i/\y=.str j/\i.length+j.length<=sizeLine/\Q (.str (i++j))):EvD X L (.BinOp a .Add b pos) Q:=by
 refine qv (f:=tOp _) (xA jL zi zi) (λ_ _ _=>Iff.rfl) (h.imp λx h=>h.imp λy c=>?_);obtain⟨i,j,l,e,q,d⟩:=c;subst l e;intro F σ H s r R m n o k;cases n.str_inv;cases o.str_inv;exact⟨i,j,rfl,rfl,q,k _ _ H d m.tp Kz.refl (.str _)⟩
def vC :Aa->Bool
 |.none=>true
 |.bool _=>true
 |.int _=>true
 |.str _=>true
 |_=>false
def ny {H:Hp}{v:V}{d:Aa}(h:AV H v d)(f:vC d=true):uw v=true/\scV d=some v:=by
 cases h<;>first|exact⟨rfl,rfl⟩|cases f
theorem lV {H:Hp}{xs:List V}{ds:List Aa}(h:AVs H xs ds)(f:ds.all vC=true):xs.all uw=true/\ds.map scV=xs.map some:=by
 induction h using AVs.ind with
 |nil=>exact⟨rfl,rfl⟩
 |cons h _ e=>
  rw[zW7,zL0]at f;obtain⟨i,c⟩:=ny h f.1;obtain⟨j,d⟩:=e f.2;exact⟨by rw[zW7,i,j];rfl,by rw[zL7,zL7,c,d]⟩
def inD (x:Aa)(ds:List Aa):Bool:=ds.any λy=>match scV y,scV x with
 |some u,some v=>eqV u v
 |_,_=>false
theorem nM {v:V}{x:Aa}(f:scV x=some v):∀{xs:List V}{ds:List Aa},ds.map scV=xs.map some->inV v xs=inD x ds
 |[],[],_=>rfl
 |[],_::_,e=>by cases e
 |_::_,[],e=>by cases e
 |u::xs,d::ds,e=>by
  rw[zL7,zL7]at e;injection e with i h;have c:=nM f h;unfold inV inD at c ⊢;rw[zW8,zW8,c,i,f]
def il {neg:Bool}{x:Aa}{ds:List Aa}(c:vC x=true)(fs:ds.all vC=true):Cmp (rIn X.K neg) x (.list ds) (if neg then !inD x ds else inD x ds):=λp H i f R d e h=>by
 obtain⟨ad,xs,rfl,g1,g2⟩:=e.lst_inv;obtain⟨f1,s1⟩:=ny d c;obtain⟨f2,s2⟩:=lV g2 fs;refine⟨ad,xs,rfl,.inl (SqL.of (zg g1).2),f1,f2,?_⟩;rw[nM s1 s2];exact h
def zj5 {neg:Bool}{x:Aa}{ds:List Aa}(c:vC x=true)(fs:ds.all vC=true):Cmp (rIn X.K neg) x (.tuple ds) (if neg then !inD x ds else inD x ds):=λp H i f R d e h=>by
 obtain⟨ad,xs,rfl,g1,g2⟩:=e.tup_inv;obtain⟨f1,s1⟩:=ny d c;obtain⟨f2,s2⟩:=lV g2 fs;refine⟨ad,xs,rfl,.inr (SqT.of (zg g1).2),f1,f2,?_⟩;rw[nM s1 s2];exact h
def zl3 {Q:Bool->Prop}(h:EvD X L a λx=>EvD X L b λy=>∃ds,(y=.list ds\/y=.tuple ds)/\vC x=true/\ds.all vC=true/\Q (inD x ds))(hm:behindInMarks .In b=false:=by rfl):EvT X L (.Compare a [.In] [b] pos) Q:=
 ua eO hm (h.imp λx h=>h.imp λy c=>by obtain⟨ds,e,f1,f2,q⟩:=c;exact⟨inD x ds,by rcases e with rfl|rfl;exact il (neg:=false) f1 f2;exact zj5 (neg:=false) f1 f2,q⟩)
end
section
variable {X:Cx}{L:Ev}{p pos:Pos}{a b:Ai}{Q:Aa->Prop}
end
section
variable {X:Cx}{L:Ev}{a e:Ai}{pos p2 p3 p4:Pos}{n1:Nat}{te:TE}
end
section
variable {X:Cx}{pins:List (Ab×Obj)}{σ:St}{H:Hp}{s:Af}
def Inv.adopt {D:Ab}{o:HO}(I:Inv X pins σ H s)(fp:uu X pins H D)(new:xx X.prog X.w (upd H D o) s.heap D o):Inv X pins σ (upd H D o) s:=by
 have d:=fp.1;have st:∀b u,H b=some u->upd H D o b=some u:=λb u e=>by rw[zm (zq e d)];exact e
 have:=I.step (g':=s.gens) (t':=s.toks) (d':=s.drawn) (h':=s.heap) (H':=upd H D o) (ch:=[D]) (λb a=>by rw[zM0.mp a];exact⟨fp.2.2.2.1,fp.2.1,fp.2.2.2.2.1,fp.2.2.2.2.2⟩) (λb u _ _ _ e _=>e) (λb u _ _ _ e _=>⟨u.slots,e⟩) (λb u a e n=>by rw[zm (by simpa using a)];exact n)
  (λb u _ e=>⟨u,e⟩) (λb xs e=>st b _ e) (λb u xs e=>st b _ e) (λb ps e=>⟨#[],by rw[st b _ e];simp⟩) (λm hm=>hm) (λb u e=>?_) I.bare
 .exact this
 .by_cases a:b=D
  .subst a;rw[zk]at e;cases e;exact new
  .rw[zm a]at e;exact(I.hok b u e).stay (λc v _ q=>q) (λc q=>st c _ q) λc xs q=>st c _ q
end
section
variable {X:Cx}{L:Ev}{p q pos:Pos}{a b:Ai}
theorem mj {G:Hp}:∀ns:List Int,AVs G (ns.map V.int) (ns.map .int)
 |[]=>.nil
 |n::ns=>.cons (.int n) (mj ns)
end
section
variable {X:Cx}{L:Ev}{p pos:Pos}{a b:Ai}{Q:Aa->Prop}
end
open PySem.W SortA
section
variable {P:Ah}{w:Ak}{K:Ae}{mg:Str->Option Ac}{base:Ao}
end
section
variable {X:Cx}{L:Ev}{Q:Aa->Prop}{a b:Ai}{pos:Pos}
theorem jU {bs:List Bool}{c:List Ac}(h:Vals (bs.map V.bl) c):c=bs.map Value.bool:=by
 induction bs generalizing c with
 |nil=>cases h;rfl
 |cons b bs e=>cases h with
  |cons h d=>rw[zL7,e d];cases h;rfl
theorem tZ (h:Ao):∀bs:List Bool,ReadsAll h (bs.map Value.bool) (bs.map PyData.bool) []
 |[]=>.nil
 |b::bs=>.cons (as:=[]) (.bool b) (tZ h bs)
theorem ux (k:Bool):∀bs:List Bool,Spec.countIn (.bool k) (bs.map PyData.bool)=((bs.count k:Nat):Int)
 |[]=>rfl
 |b::bs=>by
  rw[zL7,Spec.countIn,ux k bs,List.count_cons];have:Spec.same (.bool b) (.bool k)=(b == k):=by cases b<;>cases k<;>rfl
  rw[this];cases(b == k)<;>simp<;>exact zG1
def dg :MtM X "list.count" (λx xs H Q=>∃(l:Ab) (bs:List Bool) (k:Bool),x=.ref l/\xs=[.bl k]/\SqL X.K H l (bs.map V.bl)/\Q (.int ((bs.count k:Nat):Int)) H):=by
 intro pins s σ H x xs v us Q I f g h;obtain⟨l,bs,k,rfl,rfl,d,q⟩:=h;cases f;obtain⟨u,rfl,e⟩:=g.one;cases e;obtain⟨c,r,p,i⟩:=I.list d;cases jU r;refine count_list_bools (hp:=s.heap) (k:=k) p.isList (tZ s.heap bs) (by rw[List.all_map];exact zP4.mpr λ_ _=>rfl) ?_;rw[ux];exact⟨.int _,H,I.tok _,⟨_,rfl⟩,q⟩
def fv {apos:Pos}(h:EvD X L a λx=>∃bs:List Bool,x=.list (bs.map .bool)/\EvD X L b λy=>∃k:Bool,y=.bool k/\Q (.int ((bs.count k:Nat):Int)))
  (c:attributeBase a "count" X.env (eval a X.env)=eval a X.env:=by rfl) (f:Ad [b] X.env=(false,eval b X.env)::Ad [] X.env:=by rfl)
  (hpl:((((backTo pos (Ad [b] X.env)).all λx=>!x.fst)&&(backToKw pos (keywordEach [] X.env)).all λx=>x.fst.isSome)&&decide (([b].length+([]:List Keyword).length+if([]:List Keyword).isEmpty=true then 0 else 1)<30))=true:=by rfl)
  (d:(apos.endLine == pos.line)=true:=by rfl):EvD X L (.Call (.Attribute a "count" apos) [b] [] pos) Q:=λF σ H R m k=>by
 refine⟨_,sr zN2 PySem.F.slot_list_count PySem.F.type_list_count dg zi (zh zi zy f) c hpl d f,?_⟩;refine h F σ H _ m λx s H1 e t1 k1 i=>?_;obtain⟨bs,rfl,e⟩:=e;obtain⟨l,xs,rfl,g1,g2⟩:=i.lst_inv;refine⟨.inl ⟨rfl,_,SqL.of (zg g1).2⟩,?_⟩;have m1:=m.kz k1 t1;refine e F σ H1 _ m1 λy r n p j k2 o=>?_;obtain⟨g,rfl,q⟩:=p;cases o.bl_inv;cases g2.bools;exact⟨l,bs,g,rfl,rfl,SqL.of (zg (k2.gz m1.tp _ _ g1)).2,k _ _ n q j (k1.trans k2) (.int _)⟩
end
open PySem (IsZip)
section
variable {prog:Ah}{w:Ak}{A:Ap}{E:Ac->Af->Prop}{s:Af}
abbrev z3 (n:Nat):List Ab:=[(n:Nat),(n+1:Nat),(n+2:Nat),(n+3:Nat),(n+4:Nat),(n+5:Nat)]
end
section
variable {X:Cx}{pins:List (Ab×Obj)}{σ:St}{H:Hp}{s:Af}
end
def jO :typeLookup (.type "zip") "__len__"=pure none:=by rw[typeLookup_type,builtinLookup_eq_fast];kernel_rfl
def mw :typeLookup (.type "zip") "__length_hint__"=pure none:=by rw[typeLookup_type,builtinLookup_eq_fast];kernel_rfl
section
variable {prog:Ah}{w:Ak}{A:Ap}{E:Ac->Af->Prop}{s:Af}
end
section
variable {X:Cx}{pins:List (Ab×Obj)}{σ:St}{H:Hp}{s:Af}
end
section
variable {X:Cx}{pins:List (Ab×Obj)}{σ:St}{H:Hp}{s:Af}
variable {a b c:Ai}{p p0 pos pos2:Pos}
end
section
variable {X:Cx}{L:Ev}{a b c:Ai}{p p0 pos pos2:Pos}
end
section
variable {κ:Type}[DecidableEq κ]
def qF (kvs:List (κ×V))(k:κ):Option V:=(kvs.find? λkv=>decide (kv.1=k)).map (·.2)
def rJ {p:κ×V}{r:List (κ×V)}{k:κ}(e:p.1=k):qF (p::r) k=some p.2:=by simp[qF,zS1,e]
def qr {p:κ×V}{r:List (κ×V)}{k:κ}(e:¬p.1=k):qF (p::r) k=qF r k:=by simp[qF,zS1,e]
theorem vZ.isSome_eq {o:Option V}{u:Option Ac}(r:vZ o u):o.isSome=u.isSome:=by
 cases o with
 |none=>cases u with
  |none=>rfl
  |some _=>exact(r).elim
 |some _=>cases u with
  |none=>exact(r).elim
  |some _=>rfl
theorem KV.val {kvs:List (κ×V)}{vs:List (κ×Ac)}(r:KV kvs vs)(k:κ):vZ (qF kvs k) (valueAt vs k):=by
 unfold KV at r
 induction r with
 |nil=>exact True.intro
 |@cons p q ps qs h t ih=>
  obtain⟨c,d⟩:=h;by_cases e:p.1=k
  .have a:=c.symm.trans e;have b:valueAt (q::qs) k=some q.2:=by simp[valueAt,zS1,a]
   rw[rJ e,b];exact d
  .have a:¬q.1=k:=λz=>e (c.trans z);have b:valueAt (q::qs) k=valueAt qs k:=by simp[valueAt,zS1,a]
   rw[qr e,b];exact ih
theorem KV.length {kvs:List (κ×V)}{vs:List (κ×Ac)}(r:KV kvs vs):kvs.length=vs.length:=Paired.length r
end
theorem bO {P:Ah}{w:Ak}{k:Key}{u:Ac}(r:RelV (kV k) u):(xf P w).is k u=true:=by
 cases k with
 |inl i=>obtain⟨t,e⟩:=(r);subst e;exact lg P w i t
 |inr x=>obtain⟨t,e⟩:=(r);subst e;exact nN P w x t
theorem qY {P:Ah}{w:Ak}:∀{a:List Key}{us:List Ac},Vals (a.map kV) us->ItemsAre (xf P w) a us
 |[],_,r=>by rw[zV2]at r;cases r;exact .nil
 |k::a,_,r=>by
  rw[zL7]at r;cases r with
  |cons h t=>exact .cons (bO h) (qY t)
abbrev KT (H:Hp):List (List Key×V)->List (List Key×Ab×Ac)->Prop:=Paired λp q=>p.1=q.1/\H q.2.1=some (.tup (p.1.map kV))/\RelV p.2 q.2.2
theorem KT.val {H:Hp}{kvs:List (List Key×V)}{xs:List (List Key×Ab×Ac)}(r:KT H kvs xs)(k:List Key):vZ (qF kvs k) ((atKey xs k).map (·.2)):=by
 induction r with
 |nil=>exact True.intro
 |@cons p q ps qs h t ih=>
  obtain⟨c,_,d⟩:=h;by_cases e:p.1=k
  .have a:=c.symm.trans e;have b:atKey (q::qs) k=some q.2:=by simp[atKey,zS1,a]
   rw[rJ e,b];exact d
  .have a:¬q.1=k:=λz=>e (c.trans z);have b:atKey (q::qs) k=atKey qs k:=by simp[atKey,zS1,a]
   rw[qr e,b];exact ih
section
variable {P:Ah}{w:Ak}{H:Hp}{h:Ao}{a:Ab}
def zm9 {u:HO}(ok:HOk P w H h)(e:Rd H a u):xx P w H h a u:=e.ok ok
def cR {kvs:List (Key×V)}(ok:HOk P w H h)(e:Rd H a (.dK kvs)):kvs.length<=sizeLine/\(a == sysModules)=false/\∃vs,KV kvs vs/\h.DictOf (xf P w) a vs:=
 show xx P w H h a (.dK kvs)from zm9 ok e
def ib {c:List Key}(ok:HOk P w H h)(e:H a=some (.tup (c.map kV))):(tupleKind (xf P w)).is h c a:=by
 obtain⟨_,b,r,o,f,d,n,g⟩:=(ok a _ e);exact⟨o,b.toArray,n,f,d,g,by simpa using qY r⟩
def zc2 {kvs:List (List Key×V)}(ok:HOk P w H h)(e:Rd H a (.dT kvs)):kvs.length<=sizeLine/\(a == sysModules)=false/\
  ∃xs,KT H kvs xs/\h.DictOfH (tupleKind (xf P w)) a xs:=by
 obtain⟨z,y,xs,r,o,g,k,d,c,f,i,j⟩:=(zm9 ok e);refine⟨z,y,xs,r,o,g,k,d,c,f,i,λx b=>?_,j⟩;have all:∀{l:List (List Key×V)} {m:List (List Key×Ab×Ac)},KT H l m->∀x∈m,(tupleKind (xf P w)).is h x.1 x.2.1:=by
  intro l m q
  induction q with
  |nil=>intro x b;exact nomatch b
  |@cons p q ps qs hq t ih=>
   intro x b;rcases zI8.mp b with e|b
   .subst e;exact ib ok (by rw[<-hq.1];exact hq.2.1)
   .exact ih x b
 exact all r x b
end
def zc3 (H:Hp)(a:Ab)(y:V)(r:Option V):Prop:=
 (∃kvs k,Rd H a (.dK kvs)/\y=kV k/\r=qF kvs k)\/∃kvs k b,Rd H a (.dT kvs)/\y=.ref b/\H b=some (.tup (k.map kV))/\r=qF kvs k
section
variable {X:Cx}{pins:List (Ab×Obj)}{σ:St}{H:Hp}{s:Af}{a:Ab}{y v:V}{u r:Ac}{o:Option V}{A:Ap}{E:Ac->Af->Prop}
def Inv.big (I:Inv X pins σ H s):sysModules<s.heap.objs.size:=Nat.lt_trans (by decide) ((I.mod.glob.keeps I.bk).lt)
def dP {Q:Ac->Af->Prop}(m:A.units+1<cLine)(I:Inv X pins σ H s)(g:zc3 H a y (some v))(j:RelV y u)(h:∀d s',Inv X pins σ H s'->RelV v d->Q d s'):
  Al (Am X.prog X.w) A (getItem (.ref a) u) Q E s:=by
 rcases g with⟨kvs,k,e,i,l⟩|⟨kvs,k,b,e,i,n,l⟩
 .subst i;obtain⟨z,hd,vs,rel,dd⟩:=cR I.hok e;obtain⟨d,hw,c⟩:=vZ.some_of (by rw[l];exact rel.val k);exact wpAny_getItem_of (bO j) dd.mapOf hw (h d _ (I.tok _) c)
 .subst i;cases(j);obtain⟨z,hd,xs,rel,dd⟩:=zc2 I.hok e;obtain⟨d,hw,c⟩:=vZ.some_of (by rw[l];exact rel.val k);obtain⟨p,hp,f⟩:=zL3.mp hw;refine wpAny_getItem_heap (tupleKind_room_in1 m) (ib I.hok n) dd hp ?_;rw[f];exact h d _ (I.tok _) c
def zd0 {Q:Ac->Af->Prop}(f:A.units+1<cLine)(I:Inv X pins σ H s)(g:zc3 H a y o)(d:RelV y u)(h:∀s',Inv X pins σ H s'->Q (.bool (!o.isSome)) s'):
  Al (Am X.prog X.w) A (compareOp .NotIn u (.ref a)) Q E s:=by
 rcases g with⟨kvs,k,e,c,l⟩|⟨kvs,k,b,e,c,i,l⟩
 .subst c;obtain⟨z,hd,vs,rel,dd⟩:=cR I.hok e;refine wpAny_notIn_of (bO d) hd dd.mapOf ?_;rw[<-(rel.val k).isSome_eq,<-l];exact h _ (I.tok _)
 .subst c;cases(d);obtain⟨z,hd,xs,rel,dd⟩:=zc2 I.hok e;refine wpAny_notIn_heap (tupleKind_room_in1 f) (ib I.hok i) hd dd ?_;have q:=(rel.val k).isSome_eq;rw[Option.isSome_map]at q;rw[<-q,<-l];exact h _ (I.tok _)
end
section
variable {X:Cx}{pins:List (Ab×Obj)}{σ:St}{H:Hp}{s:Af}{a:Ab}{kvs:List (Key×V)}{k:Key}{u:Ac}{A:Ap}{E:Ac->Af->Prop}
end
def nV {X:Cx}{pins:List (Ab×Obj)}{σ:St}{H:Hp}{s:Af}{a:Ab}{y:V}{o:Option V}(I:Inv X pins σ H s)(g:zc3 H a y o):s.TypeIs (.ref a) "dict":=by
 rcases g with⟨kvs,k,e,_,_⟩|⟨kvs,k,b,e,_,_,_⟩
 .obtain⟨_,_,vs,_,dd⟩:=cR I.hok e;exact dd.typeIs
 .obtain⟨_,_,xs,_,dd⟩:=zc2 I.hok e;exact dd.typeIs
section
variable {X:Cx}{o i e value:Ai}{pos pos' tpos:Pos}{td ty tv:TE}
end
def cK {P:Ah}{w:Ak}{H:Hp}(h:Ao)(a:sysModules<h.objs.size):xx P w H (h.push {cls:=.type "dict",data:=.dict #[]}) h.objs.size (.dK []):=
 ⟨zK6 _,zO6.mpr (zO2 (zK8 a)),[],.nil,Heap.DictOf.new h⟩
def zp7 :TE:=λ_ H Q=>∀p,H p=none->Q (.ref p) (upd H p (.dK []))
section
variable {X:Cx}{pos:Pos}
def cX :PE X (.Dict [] [] pos) zp7:=λpins s σ H Q I h=>
 wpAny_Dict_empty ⟨.ref s.heap.objs.size,_,I.laid (a:=s.heap.objs.size) (o:=.dK []) (t':=s.toks) (λ_ _ q=>zI2 _ q) (zI3 _) (cK s.heap I.big),rfl,h _ (I.hok.fresh (zI3 _))⟩
end
section
variable {X:Cx}{pins:List (Ab×Obj)}{σ:St}{H:Hp}{s:Af}{a:Ab}{y d:V}{u r:Ac}{o:Option V}{A:Ap}{E:Ac->Af->Prop}
end
section
variable {X:Cx}{o e f:Ai}{apos cpos:Pos}{td ty tx:TE}
end
section
variable {X:Cx}{pins:List (Ab×Obj)}{σ:St}{H:Hp}{s:Af}{a:Ab}{kvs:List (Key×V)}{A:Ap}{E:Ac->Af->Prop}
end
section
variable {X:Cx}{pins:List (Ab×Obj)}{σ:St}{H:Hp}{s:Af}{a:Ab}{y:V}{u:Ac}{A:Ap}{E:Ac->Af->Prop}
end
def kEq :Aa->Key->Bool
 |.int i,.inl j=>decide (i=j)
 |.str x,.inr y=>decide (x=y)
 |_,_=>false
def bT (k j:Key):kEq (qB k) j=decide (k=j):=by
 cases k<;>cases j<;>simp[kEq,qB]
def zg8 :List (Aa×Aa)->Key->Option Aa
 |[],_=>none
 |(p,d)::r,k=>if kEq p k=true then some d else zg8 r k
theorem AVk.get {H:Hp}:∀{kvs:List (Key×V)}{ds:List (Aa×Aa)}{k:Key}{d:Aa},AVk H kvs ds->zg8 ds k=some d->∃v,qF kvs k=some v/\AV H v d
 |_,_,k,d,.nil,e=>by cases e
 |_,_,k,d,.cons (k:=j) h r,e=>by
  unfold zg8 at e;rw[bT]at e;by_cases z:j=k
  .rw[zQ8 z,if_pos rfl]at e;cases e;exact⟨_,rJ z,h⟩
  .rw[zM8 z,if_neg (by decide)]at e;rw[qr z];exact AVk.get r e
theorem AVk.length {H:Hp}{kvs:List (Key×V)}{ds:List (Aa×Aa)}(h:AVk H kvs ds):kvs.length=ds.length:=h.ind (motive:=λxs ds _=>xs.length=ds.length) rfl λ_ _ z=>congrArg (·+1) z
theorem AVk.at {H:Hp}{kvs:List (Key×V)}{ds:List (Aa×Aa)}{i:Nat}{p:Aa×Aa}(h:AVk H kvs ds)(e:ds[i]?=some p):∃k v,kvs[i]?=some (k,v)/\p.1=qB k/\AV H v p.2:=by
 induction h using AVk.ind generalizing i with
 |nil=>simp at e
 |cons h _ a=>
  cases i with
  |zero=>exact zL2 e▸⟨_,_,rfl,rfl,h⟩
  |succ i=>exact a e
theorem zk9 {H:Hp}(k:Key):AV H (kV k) (qB k):=by cases k with
 |inl i=>exact .int i
 |inr x=>exact .str x
theorem zh1 {H:Hp}{v:V}{k:Key}(h:AV H v (qB k)):v=kV k:=by
 cases k with
 |inl i=>exact h.int_inv
 |inr x=>exact h.str_inv
theorem AV.dk_inv {H:Hp}{v:V}{ds:List (Aa×Aa)}(h:AV H v (mi ds)):∃a o kvs,v=.ref a/\H a=some (.frz o (.dK kvs))/\AVk H kvs ds:=by
 generalize e:mi ds=d at h;cases h with
 |dk c b=>cases e;exact⟨_,_,_,rfl,c,b⟩
 |_=>cases e
section
variable {X:Cx}{pins:List (Ab×Obj)}{σ:St}{H:Hp}{s:Af}{l:Ab}{kvs:List (Key×V)}
def zE7 (X:Cx)(l:Ab):Prop:=∀o u,X.H₀ l≠some (.frz o u)
def Inv.fz (I:Inv X pins σ H s)(h:H l=some (.dK kvs)):zE7 X l/\∃o,Inv X pins σ (upd H l (.frz o (.dK kvs))) s:=by
 refine⟨(λo u z=>by rw[I.base.frzs _ _ _ z]at h;cases h),?_⟩;obtain⟨z,y,vs,r,ob,a,d,e,c⟩:=(I.hok l _ h);refine⟨ob,I.write (by rw[h];trivial) (.inl rfl) (λb u _ q=>q) ⟨ob,e⟩ ?_⟩;exact⟨e,z,y,vs,r,ob,a,d,e,c⟩
end
section
variable {X:Cx}{e:Ai}{sts:List An}
end
section
variable {X:Cx}{L:Ev}{e a b:Ai}{pos p:Pos}{Q:Aa->Prop}
end
section
variable {X:Cx}{L:Ev}{e a b:Ai}{pos p:Pos}{Q:Aa->Prop}
end
def epO (o:Obj):Nat:=match o.data with
 |.dict _ a=>a
 |_=>0
def Inv.fzAt {X:Cx}{pins:List (Ab×Obj)}{σ:St}{H:Hp}{s:Af}{a:Ab}{o:Obj}{kvs:List (Key×V)}(I:Inv X pins σ H s)(h:H a=some (.frz o (.dK kvs))):
  kvs.length<=sizeLine/\(a == sysModules)=false/\∃vs,KV kvs vs/\s.heap.DictAt (xf X.prog X.w) a vs (epO o):=by
 obtain⟨b,z,y,vs,r,ob,g,j,e,i,c,f⟩:=(I.hok a _ h);rw[b]at e;cases e;have d:epO o=j:=by unfold epO;rw[c]
 rw[d];exact⟨z,y,vs,r,o,g,b,i,c,f⟩
theorem KV.at {kvs:List (Key×V)}{vs:List (Key×Ac)}(r:KV kvs vs):∀{i:Nat}{k:Key}{v:V},kvs[i]?=some (k,v)->∃u,vs[i]?=some (k,u)/\RelV v u:=by
 unfold KV at r
 induction r with
 |nil=>intro i k v e;simp at e
 |@cons p q ps qs h t ih=>
  intro i k v e;cases i with
  |zero=>
   simp at e;subst e;refine⟨q.2,?_,h.2⟩;have a:k=q.1:=h.1;rw[a];rfl
  |succ i=>
   obtain⟨u,a,b⟩:=ih (by simpa using e);exact⟨u,by simpa using a,b⟩
def zd7 {P:Ah}{w:Ak}{k:Key}{u:Ac}(h:(xf P w).is k u=true):RelV (kV k) u:=by
 rcases yu (h)with⟨i,t,rfl,rfl⟩|⟨x,t,rfl,rfl⟩
 .exact⟨t,rfl⟩
 .exact⟨t,rfl⟩
def Itd (a:Ab)(o:Obj)(kvs:List (Key×V)):It:=⟨λi H=>H a=some (.frz o (.dK kvs))/\i<kvs.length,λi H x H'=>H'=H/\∃k v,kvs[i]?=some (k,v)/\x=kV k,λi H=>H a=some (.frz o (.dK kvs))/\kvs.length<=i⟩
def fQ {P:Ah}{w:Ak}{K:Ae}{tg:Ai}(a it:Ab)(ob:Obj)(kvs:List (Key×V)):Turn P w K tg (Itd a ob kvs) [it] it (λi h=>h.IsKeyIter it a i kvs.length (epO ob)) where
 mem:=by simp
 obj:=λi h st b f=>by
  have e:b=it:=by simpa using f
  subst e;obtain⟨o,e,c,d⟩:=st;exact⟨o,e,λv z=>by rw[d]at z;cases z⟩
 keep:=λi h h' st k=>st.at λo e=>k it (by simp) o e
 item:=by
  intro X q hw j y i pins s σ H E I hf st r;subst q hw j;obtain⟨m,hi⟩:=r;obtain⟨_,_,vs,rel,dd⟩:=I.fzAt m;obtain⟨⟨k,v⟩,t⟩:∃p,kvs[i]?=some p:=⟨kvs[i],zI5 hi⟩;obtain⟨u,A,D⟩:=rel.at t;obtain⟨f0,f1,f2,n,f4,l⟩:=hf it (by simp);rw[rel.length]at st ⊢;refine wpAny_pyNext_dict_item st dd A λkey h' hk g C=>?_;obtain⟨o,e,c,d⟩:=id g;exact⟨key,rfl,gj e c d (by decide) ⟨kV k,H,(I.turned (λb o f e=>(C.2 b f).trans e) f0 f1 n f4 l),zd7 hk,⟨rfl,k,v,t,rfl⟩,g,λb f=>(hf b f).1⟩⟩
 done:=by
  intro X q hw j y i pins s σ H E I hf st r;subst q hw j;obtain⟨m,hi⟩:=r;obtain⟨_,_,vs,rel,dd⟩:=I.fzAt m;have x:=rel.length;obtain⟨f0,f1,f2,n,f4,l⟩:=hf it (by simp);rw[x]at st;exact wpAny_pyNext_dict_end (I.ok.hd y) st dd (List.getElem?_eq_none (zJ1 (zK7 x.symm) hi)) λh' B=>⟨rfl,I.turned (λb o f e=>B b o f e) f0 f1 n f4 l⟩
 self:=λ_ _ _ _ _ st h=>wpAny_pyIter_keyiter st h
section
variable {X:Cx}{tg:Ai}
def zf0 {l:Ai}{tl:TE}(i:PE X l tl):PI X tg l (λσ H R=>tl σ H λx H1=>∃a o kvs,x=.ref a/\H1 a=some (.frz o (.dK kvs))/\R (Itd a o kvs) H1):=by
 intro pins s σ H R I h;refine thn (i pins s σ H _ I h) λv s1 d=>?_;obtain⟨x,H1,c,f,m⟩:=d;obtain⟨a,o,kvs,rfl,g,q⟩:=m;cases f;obtain⟨_,k,vs,rel,dd⟩:=c.fzAt g;refine wpAny_pyIter_dict k dd ?_;refine⟨s1.heap.objs.size,[s1.heap.objs.size],_,_,H1,rfl,c.kept λb o e=>zI2 _ e,fQ a _ o kvs,⟨_,zL6 _ rfl,rfl,by rw[rel.length];rfl⟩,λb j=>?_,q⟩;have e:b=s1.heap.objs.size:=by simpa using j
 subst e;exact c.fpOk (zI3 _) (c.hok.fresh (zI3 _))
end
section
variable {X:Cx}{L:Ev}{e a b tg:Ai}{pos p:Pos}{Q:List Aa->Prop}
def zk0 (h:EvD X L e λx=>∃ds,x=mi ds/\Q (ds.map (·.1))):EvI X L tg e Q:=λF σ H R m k=>by
 refine⟨_,zf0 zi,h F σ H _ m λx r H1 j t1 k1 g=>?_⟩;obtain⟨ds,rfl,q⟩:=j;obtain⟨a,o,kvs,rfl,g1,g2⟩:=g.dk_inv;refine⟨a,o,kvs,rfl,(zg g1).2,k _ _ H1 q t1 k1 λi z l s=>⟨λd hd=>?_,λc=>?_⟩⟩
 .rw[zJ8,zL3]at hd;obtain⟨pr,hp,rfl⟩:=hd;obtain⟨n,v,w1,w2,w3⟩:=g2.at hp;refine⟨⟨(zg (s _ _ g1)).2,(zH9.mp w1).1⟩,λx u y=>?_⟩;obtain⟨rfl,w,t,f,rfl⟩:=y;rw[w1]at f;cases f;refine⟨zu.refl _,λ_=>?_⟩;rw[w2];exact zk9 _
 .rw[zH8]at c;exact⟨(zg (s _ _ g1)).2,by rw[g2.length];exact c⟩
end
mutual
def ltD :Aa->Aa->Option Bool
 |.int a,.int b=>some (decide (a<b))
 |.str a,.str b=>some (decide (a.cps.toList<b.cps.toList))
 |.tuple xs,.tuple c=>zz0 xs c
 |_,_=>none
def zz0 :List Aa->List Aa->Option Bool
 |[],[]=>some false
 |[],_::_=>some true
 |_::_,[]=>some false
 |x::xs,y::a=>if PyData.eqv x y=true then zz0 xs a else ltD x y
end
section
open PySem.SeqAt
open PySem.AutoSeq1 (wpAny_loadPart')
open PySem.MeetsSeq PySem.MeetsSeq2 PySem.MeetsSeq3
end
section
variable {prog:Ah}{w:Ak}{A:Ap}{R:Result->Af->Prop}{it:Ab}{fp wr:List Ab}{m:Nat}{P:Nat->Ac->Prop}{St:Nat->Ao->Prop}
end
section
variable {prog:Ah}{w:Ak}{A:Ap}{E:Ac->Af->Prop}{s:Af}
end
section
variable {X:Cx}{L:Ev}{e:Ai}{pos p:Pos}{Q:Aa->Prop}
theorem AVs.intsV {H:Hp}{xs:List V}{zs:List Int}(h:AVs H xs (zs.map .int)):xs=zs.map V.int:=by
 induction zs generalizing xs with
 |nil=>cases h;rfl
 |cons n ns b=>cases h with
  |cons h a=>rw[zL7,b a,h.int_inv]
end
section
variable {prog:Ah}{w:Ak}{A:Ap}{E:Ac->Af->Prop}{s:Af}{it l:Ab}{items:Array Ac}
end
section
variable {X:Cx}{L:Ev}{a e c:Ai}{p p0 pos pos2:Pos}{Q:List Aa->Prop}
end
def fH (Q:Aa->Prop):List Aa->Prop
 |[]=>True
 |d::r=>Q d/\fH Q r
theorem fH.mem {Q:Aa->Prop}:∀{ds:List Aa},fH Q ds->∀d∈ds,Q d
 |[],_,d,h=>by cases h
 |x::r,h,d,hd=>by
  rcases zI8.mp hd with rfl|hd
  .exact h.1
  .exact fH.mem h.2 d hd
def cJ {x:Aa}{ds:List Aa}{v:Int}{Q:Aa->Prop}(P:Aa->Prop)(b:tL x=some ds)(h0:0<=v)(a:v<ds.length)(h:fH P ds)(k:∀d,P d->Q d):∃ds i d,tL x=some ds/\PyData.int v=.int i/\atI ds i=some d/\Q d:=by
 obtain⟨d,hd,e⟩:=tX h0 a;exact⟨ds,v,d,b,rfl,e,k d (h.mem d hd)⟩
section
variable {X:Cx}{L:Ev}{e a b:Ai}{pos p:Pos}{E:yj}{rest:List An}
end
def zA1 :R2:=λx y H R=>rEq x y H R\/zy5 x y H R
def zB0 :R2:=λx y H R=>rNe x y H R\/zy9 x y H R
def jv {X:Cx}(c:X.A.units+64<cLine):OpR X (compareOp .Eq) zA1:=λpins s σ H x y v u Q I a b h=>h.elim (λh=>vz _ _ _ _ _ _ _ _ _ I a b h) λh=>vm c _ _ _ _ _ _ _ _ _ I a b h
def zt6 {X:Cx}(c:X.A.units+64<cLine):OpR X (compareOp .NotEq) zB0:=λpins s σ H x y v u Q I a b h=>h.elim (λh=>zC8 _ _ _ _ _ _ _ _ _ I a b h) λh=>zs2 c _ _ _ _ _ _ _ _ _ I a b h
def ze2 {i j:Str}:Cmp rNe (.str i) (.str j) (!decide (i=j)):=λp H d c R a b h=>by
 cases a.str_inv;cases b.str_inv;refine⟨rfl,?_⟩;rw[show decide (V.str i=V.str j)=decide (i=j) by simp];exact h
def qM (x y:Aa)(Q:Bool->Prop):Prop:=∃k,Cmp zA1 x y k/\Cmp zB0 x y (!k)/\Q k
def sV {i j:Int}{Q:Bool->Prop}(h:Q (decide (i=j))):qM (.int i) (.int j) Q:=⟨_,λp H b a R c d z=>.inl (nk p H b a R c d z),λp H b a R c d z=>.inl (zk2 p H b a R c d z),h⟩
def iM {i j:Str}{Q:Bool->Prop}(h:Q (decide (i=j))):qM (.str i) (.str j) Q:=⟨_,λp H b a R c d z=>.inl (gK p H b a R c d z),λp H b a R c d z=>.inl (ze2 p H b a R c d z),h⟩
def eqk {x y:Aa}{Q:Bool->Prop}(s1:SeqAt.shaped x=true)(s2:SeqAt.shaped y=true)(d:x.hasDict=false)(c:y.hasDict=false)(h:Q (PyData.eqv x y)):qM x y Q:=
 ⟨_,λp H f e R a b z=>.inr ⟨x,y,(a.dv d).same wM,(b.dv c).same wM,s1,s2,z⟩,λp H f e R a b z=>.inr ⟨x,y,(a.dv d).same wM,(b.dv c).same wM,s1,s2,z⟩,h⟩
section
variable {X:Cx}{L:Ev}{a b:Ai}{pos:Pos}{Q:Aa->Prop}{T:Bool->Prop}
def uK (d:X.A.units+64<cLine)(h:EvD X L a λx=>EvD X L b λy=>qM x y λk=>Q (.bool k)):EvD X L (.Compare a [.Eq] [b] pos) Q:=bJ (jv d) (yc _) (h.imp λx h=>h.imp λy c=>by obtain⟨k,e,_,q⟩:=c;exact⟨k,e,q⟩)
def zZ (d:X.A.units+64<cLine)(h:EvD X L a λx=>EvD X L b λy=>qM x y T):EvT X L (.Compare a [.Eq] [b] pos) T:=ua (jv d) (yc _) (h.imp λx h=>h.imp λy c=>by obtain⟨k,e,_,q⟩:=c;exact⟨k,e,q⟩)
def vG (d:X.A.units+64<cLine)(h:EvD X L a λx=>EvD X L b λy=>qM x y λk=>T (!k)):EvT X L (.Compare a [.NotEq] [b] pos) T:=ua (zt6 d) (yc _) (h.imp λx h=>h.imp λy c=>by obtain⟨k,_,e,q⟩:=c;exact⟨!k,e,q⟩)
def rh {k:Bool}{p q:Prop}(e:k=true)(h:p):if k=true then p else q:=by rw[if_pos e];exact h
def tj {k:Bool}{p q:Prop}(e:k=false)(h:q):if k=true then p else q:=by rw[if_neg (by rw[e];decide)];exact h
variable {E:yj}{s t:List An}
def yG {k:Bool}(e:k=true)(h:SvS X L s E):SvS X L (if k=true then s else t) E:=by rw[if_pos e];exact h
def zK {k:Bool}(e:k=false)(h:SvS X L t E):SvS X L (if k=true then s else t) E:=by rw[if_neg (by rw[e];decide)];exact h
end
section
variable {X:Cx}{L:Ev}{a b:Ai}{pos:Pos}{Q:Aa->Prop}{T:Bool->Prop}
def zF1 :R2:=λx y H Q=>∃a v,x=.ref a/\zc3 H a y (some v)/\Q v H
def zh3 (c:X.A.units+1<cLine):IxR X zF1:=λvalue slice pins s σ H x y v u Q I i j h f=>by
 obtain⟨a,z,rfl,g,q⟩:=h;cases i;exact tail_any (nV I g) PySem.F.slot_dict_getitem.lookup (dP c I g j λk s' d e=>⟨z,H,d,e,q⟩) f
def zc9 (x y:Aa)(Q:Aa->Prop):Prop:=(∃ds i d,tL x=some ds/\y=.int i/\atI ds i=some d/\Q d)\/∃ds k d,x=mi ds/\y=qB k/\zg8 ds k=some d/\Q d
def ixk {x y:Aa}{ds:List Aa}{i:Int}{d:Aa}(e:tL x=some ds)(c:y=.int i)(f:atI ds i=some d)(h:Q d):zc9 x y Q:=.inl ⟨ds,i,d,e,c,f,h⟩
def mO {x:Aa}{ds:List Aa}{v:Int}(P:Aa->Prop)(e:tL x=some ds)(h0:0<=v)(c:v<ds.length)(h:fH P ds)(k:∀d,P d->Q d):zc9 x (.int v) Q:=.inl (cJ P e h0 c h k)
def zx (s:X.A.units+1<cLine)(t:sY b)(h:EvD X L a λx=>EvD X L b λy=>zc9 x y Q):EvD X L (.Subscript a b pos) Q:=by
 refine qv (yJ (zw8.or (zh3 s)) zi zi t) (λ_ _ _=>Iff.rfl) (h.imp λx h=>h.imp λy h=>?_);intro F σ H u w R m g q k;rcases h with⟨ds,i,d,n,rfl,e,f⟩|⟨ds,r,d,rfl,rfl,c,f⟩
 .cases q.int_inv;cases x with
  |list p=>
   cases n;obtain⟨a,xs,rfl,l,j⟩:=g.lst_inv;obtain⟨v,c,av⟩:=j.atI e;exact .inl (.inl ⟨a,xs,i,v,rfl,rfl,SqL.of (zg l).2,c,k d v H f m.tp Kz.refl av⟩)
  |tuple p=>
   cases n;obtain⟨a,xs,rfl,l,j⟩:=g.tup_inv;obtain⟨v,c,av⟩:=j.atI e;exact .inl (.inr (.inl ⟨a,xs,i,v,rfl,rfl,SqT.of (zg l).2,c,k d v H f m.tp Kz.refl av⟩))
  |_=>cases n
 .obtain⟨a,o,kvs,rfl,g1,g2⟩:=g.dk_inv;obtain⟨v,w1,w2⟩:=g2.get c;cases zh1 q;exact .inr ⟨a,v,rfl,.inl ⟨kvs,r,.inr ⟨o,(zg g1).2⟩,rfl,w1.symm⟩,k d v H f m.tp Kz.refl w2⟩
def zu3 (K:Ae)(neg:Bool):R2:=λx y H Q=>rIn K neg x y H Q\/∃a o,y=.ref a/\zc3 H a x o/\Q (.bl (if neg then !o.isSome else o.isSome)) H
def eV (e:X.A.units+1<cLine):OpR X (compareOp .NotIn) (zu3 X.K true):=λpins s σ H x y v u Q I c d h=>by
 rcases h with h|⟨a,o,rfl,g,q⟩
 .exact oG pins s σ H x y v u Q I c d h
 .cases d;exact zd0 e I g c λs' f=>⟨.bl (!o.isSome),H,f,rfl,q⟩
def zu2 (X:Cx)(x y:Aa)(Q:Bool->Prop):Prop:=∃k,Cmp (zu3 X.K false) x y k/\Cmp (zu3 X.K true) x y (!k)/\Q k
def ink {x:Aa}{ds:List Aa}(f1:vC x=true)(f2:ds.all vC=true)(q:T (inD x ds)):zu2 X x (.list ds) T:=
 ⟨_,λp H d c R e f h=>.inl (il f1 f2 p H d c R e f h),λp H d c R e f h=>.inl (il f1 f2 p H d c R e f h),q⟩
def oO (d:X.A.units+1<cLine)(h:EvD X L a λx=>EvD X L b λy=>zu2 X x y λk=>T (!k))(hm:behindInMarks .NotIn b=false:=by rfl):EvT X L (.Compare a [.NotIn] [b] pos) T:=
 ua (eV d) hm (h.imp λx h=>h.imp λy c=>by obtain⟨k,_,e,q⟩:=c;exact⟨!k,e,q⟩)
end
def zO.one {k:Nat}{A:Ap}(h:zO k A):A.units+1<cLine:=by have:=h.units;exact zG9 this
section
variable {X:Cx}{L:Ev}{E:yj}{rest body:List An}{e c tg iter:Ai}{pos p:Pos}
def freeOk (xs:Aq)(y:Str×NameKind):Bool:=match y.2 with
 |.free=>match xs.names.lookup y.1 with
  |some .cell=>true
  |some .free=>true
  |_=>false
 |_=>true
theorem wY {xs scope:Aq}(h:scope.names.all (freeOk xs)=true):∀y∈scope.names,y.2=.free->xs.names.lookup y.1=some .cell\/xs.names.lookup y.1=some .free:=λy a e=>by
 have:=zP4.mp h y a;unfold freeOk at this;rw[e]at this;cases z:xs.names.lookup y.1 with
 |none=>rw[z]at this;cases this
 |some k=>
  rw[z]at this;cases k<;>first|exact .inl rfl|exact .inr rfl|cases this
def vW (N:List Str)(imp:List (Option Nat))(pat:Pat){scope:Aq}{elt:Ai}{ifs:List Ai}{Q:List Aa->Prop}(h:EvI X L tg iter λds=>ds.length<=1000/\yR (λC s2 b fp=>X.comp N scope C s2 b fp) pat ifs elt (zW imp L) ds [] Q)
  (nd:N.Nodup:=by decide +kernel) (g:scope.kind=.function:=by rfl) (f:∀y∈scope.names,y.2≠.cell:=by decide +kernel) (l:∀y∈scope.names,y.2=.local->scope.names.lookup y.1=some .local:=by decide +kernel) (m:scope.names.all (freeOk X.env.scope)=true:=by rfl) (o:imp.length=N.length:=by rfl)
  (i:((imp.zip N).all λp=>match p.1 with|none=>true|some j=>X.N[j]? == some p.2&&scope.names.lookup p.2 == some .free)=true:=by rfl) (a:pat.free (zW imp L)=true:=by rfl)
  (q:∀C s2 b fp,N.Nodup->PG (X.comp N scope C s2 b fp) tg (vF X.K pat):=by intro _ _ _ _ d;first|exact zQ d rfl (Or.inl rfl)|exact yI rfl rfl (by repeat (first|exact yY|refine yo (zQ d rfl (Or.inl rfl)) ?_)))
  (k:X.calm=true:=by rfl) (n:∀x,foldedSetIterable iter X.env x=pure x:=by intro _;rfl):EvL X L (.ListComp elt [⟨tg,iter,ifs,0⟩] scope pos) Q:=zm7 k ⟨g,nd,f,l,wY m,o,i⟩ a (λC s2 b fp=>q C s2 b fp nd) h n
def nE (i:Nat)(N:List Str)(imp:List (Option Nat))(pat:Pat){x:Str}{pos' a:Pos}{scope:Aq}{elt:Ai}{ifs:List Ai}(h:EvI X L tg iter λds=>ds.length<=1000/\yR (λC s2 d fp=>X.comp N scope C s2 d fp) pat ifs elt (zW imp L) ds [] λds=>SvS X (L.set i (some (.own ds))) rest E)
  (n:X.N.Nodup:=by assumption)
  (nd:N.Nodup:=by decide +kernel) (q:scope.kind=.function:=by rfl) (o:∀y∈scope.names,y.2≠.cell:=by decide +kernel) (t:∀y∈scope.names,y.2=.local->scope.names.lookup y.1=some .local:=by decide +kernel) (l:scope.names.all (freeOk X.env.scope)=true:=by rfl) (v:imp.length=N.length:=by rfl)
  (r:((imp.zip N).all λp=>match p.1 with|none=>true|some j=>X.N[j]? == some p.2&&scope.names.lookup p.2 == some .free)=true:=by rfl) (b:pat.free (zW imp L)=true:=by rfl)
  (u:∀C s2 d fp,N.Nodup->PG (X.comp N scope C s2 d fp) tg (vF X.K pat):=by intro _ _ _ _ f;first|exact zQ f rfl (Or.inl rfl)|exact yI rfl rfl (by repeat (first|exact yY|refine yo (zQ f rfl (Or.inl rfl)) ?_)))
  (s:X.calm=true:=by rfl)
  (hi:X.N[i]?=some x:=by rfl) (k:Loc X.env.scope x:=by first|exact Or.inl rfl|exact Or.inr rfl) (g:swapsWith (.ListComp elt [⟨tg,iter,ifs,0⟩] scope a) (some (.Name x pos')) pos.line X.env=pure true:=by rfl)
  (hf:X.fn x=true\/X.env.scope.names.lookup x=some .local:=by first|exact .inl rfl|exact .inr rfl|assumption) (m:∀x,foldedSetIterable iter X.env x=pure x:=by intro _;rfl):
  SvS X L (.Assign [.Name x pos'] (.ListComp elt [⟨tg,iter,ifs,0⟩] scope a) pos::rest) E:=zz1 i n s ⟨q,nd,o,t,wY l,v,r⟩ b (λC s2 d fp=>u C s2 d fp nd) h hi k g hf m
end
section
variable {Y:Ab->Af->Hp->List Ab->Cx}{pat:Pat}{ifs:List Ai}{elt:Ai}{α0:Ev}{ι:Type}{g f:ι->Aa}{l:List ι}{acc:List Aa}{Q:List Aa->Prop}
end
section
variable {co:Co}{N:Nat}
end
section
variable {co:Co}{N:Nat}
end
section
variable {X:Cx}{L:Ev}{a b e:Ai}{pos p:Pos}{Q:Aa->Prop}
end
section
variable {X:Cx}{L:Ev}{a b c e:Ai}{pos p:Pos}{Q:Aa->Prop}{T:Bool->Prop}
def zh7 (f:Gl X "int")(hm:X.mg "int"=none)(h:EvD X L e λx=>∃k,x=.bool k/\Q (.int (if k then 1 else 0)))(he:Ad [e] X.env=(false,eval e X.env)::Ad [] X.env:=by rfl):
  EvD X L (.Call (.Name "int" p) [e] [] pos) Q:=λF σ H R m k=>by
 refine⟨_,qS dH f hm boot_int (zh zi zy he) (he:=he),?_⟩;refine h F σ H _ m λx i H1 g t1 k1 d=>?_;obtain⟨b,rfl,q⟩:=g;cases d.bl_inv;exact .inr ⟨b,rfl,k _ _ H1 q t1 k1 (.int _)⟩
end
section
variable {X:Cx}{L:Ev}{a b c e:Ai}{pos p p2 pos2:Pos}{Q:Aa->Prop}{T:Bool->Prop}
theorem nK {us:List Ac}{ns:List Int}(h:IntsAre us ns):Vals (ns.map V.int) us:=by
 induction h with
 |nil=>exact .nil
 |cons n t _ d=>exact .cons ⟨t,rfl⟩ d
def oV :wO X (.builtin "sorted") (λxs H Q=>∃(l:Ab) (zs:List Int),xs=[.ref l]/\H l=some (.lst (zs.map V.int))/\zs.length<64/\∀(j:Ab) (i:List Int),H j=none->i.Perm zs->i.Pairwise (·<=·)->Q (.ref j) (upd H j (.lst (i.map V.int)))):=by
 intro pins s σ H xs us Q I r h;obtain⟨l,zs,rfl,w,g,q⟩:=h;obtain⟨u,rfl,v⟩:=vals1 r;cases v;obtain⟨d,m,pl,x⟩:=I.list (SqL.of w);have l1:=m.length;rw[zH8]at l1;refine sorted_ints (vs:=d) pl.isList (intsAre_of m) (zN4 (zK7 l1.symm) g) λout f a1 a2 t=>?_;obtain⟨c,n⟩:=sortedAll_at s.heap d out;have k:s.heap.objs.size<=s.heap.objs.size+1:=zP7 _;refine⟨.ref (s.heap.objs.size+1),_,I.laid (o:=.lst (f.map V.int)) (t':=s.toks) (λb o e=>sortedAll_old e) k ⟨?_,out.toList,c,nK a1,by simpa using n⟩,rfl,q _ f (I.hok.fresh k) a2 t⟩;rw[zH8,a2.length_eq,zO4];exact zF7 g
def rn {Q:List Aa->Prop}(u:Gl X "sorted")(hm:X.mg "sorted"=none)(h:EvD X L e λx=>∃zs:List Int,x=.list (zs.map .int)/\zs.length<64/\∀d:List Int,d.Perm zs->d.Pairwise (·<=·)->Q (d.map .int))(he:Ad [e] X.env=(false,eval e X.env)::Ad [] X.env:=by rfl):
  EvL X L (.Call (.Name "sorted" p) [e] [] pos) Q:=λF σ H R m k=>by
 refine⟨_,yK oV u hm boot_sorted (zh zi zy he) (he:=he),?_⟩;refine h F σ H _ m λx v H1 r t1 k1 n=>?_;obtain⟨zs,rfl,f,q⟩:=r;have m1:=m.kz k1 t1;obtain⟨l,xs,rfl,t,s⟩:=n.lst_inv;have j:=(zg t).2;rw[s.intsV]at j;refine⟨l,zs,rfl,j,f,λw d g pm i=>?_⟩;have av:AVs (Gz F L σ H1) (d.map V.int) (d.map .int):=by
  clear pm i
  induction d with
  |nil=>exact .nil
  |cons y d o=>exact .cons (.int y) o
 obtain⟨g1,g2,g3⟩:=m1.lay g av;exact k _ _ _ (q d pm i) g1 (k1.trans g2) (g3.back m k1 t1)
end
section
variable {X:Cx}{L:Ev}{a b c d e:Ai}{pos p:Pos}{ta tb tc td:TE}{T:Bool->Prop}
end
def zp3 {X:Cx}{L:Ev}{e tg:Ai}{Q:List Aa->Prop}(h:EvD X L e λx=>∃ds,x=.tuple ds/\Q ds):EvI X L tg e Q:=λF σ H R m k=>by
 refine⟨_,zp5 zi,h F σ H _ m λx n H1 j t1 k1 g=>?_⟩;obtain⟨ds,rfl,q⟩:=j;obtain⟨a,xs,rfl,b,f⟩:=g.tup_inv;refine⟨a,rfl,⟨xs,SqT.of (zg b).2⟩,k ds _ H1 q t1 k1 λi r p s=>⟨λd hd=>?_,λl=>?_⟩⟩
 .obtain⟨x,c,av⟩:=f.get hd;have ha:=SqT.of (K:=X.K) (zg (s _ _ b)).2;refine⟨⟨xs,x,ha,c⟩,λt o y=>?_⟩;obtain⟨e,y⟩:=y;subst e;have:=y xs ha;rw[c]at this;cases this;exact⟨zu.refl _,λ_=>av.same s⟩
 .exact⟨xs,SqT.of (zg (s _ _ b)).2,by rw[f.length];exact l⟩
section
variable {X:Cx}{L:Ev}{a b c d e:Ai}{pos p:Pos}{T:Bool->Prop}
end
abbrev fb (X:Cx)(P:Ah)(w:Ak)(K:Ae)(mg:Str->Option Ac)(base:Ao):Prop:=X.prog=P/\X.w=w/\X.K=K/\X.mg=mg/\X.base=base
section
variable {X:Cx}{L:Ev}{e o:Ai}{es:List Ai}{pos p apos:Pos}{Q:Aa->Prop}{k:Nat}{φ:List A->(A->Prop)->Prop}{x m:Str}{C:Ab}{pl:Sem Bool}{P:Ah}{w:Ak}{K:Ae}{mg:Str->Option Ac}{base:Ao}
def zd3 (D:Cal P w K mg base x k φ)(c:fb X P w K mg base)(hr:zO k X.A)(f:Gl X x)(h:EvA X L (e::es) λas=>φ as λa=>Q a.d)
  (b:(x == ("__debug__":Str))=false:=by decide) (he:Ad (e::es) X.env=(false,eval e X.env)::Ad es X.env:=by rfl) (hpl:(backTo pos (Ad es X.env)).any (·.1)=false:=by rfl):EvD X L (.Call (.Name x p) (e::es) [] pos) Q:=by
 obtain⟨rfl,rfl,rfl,rfl,rfl⟩:=c;exact zE D hr f h b he hpl
def cE (D:rL P w K mg base x k [] φ)(c:fb X P w K mg base)(hr:zO (k+1) X.A)(f:Gl X x)(h:EvA X L (e::es) λas=>φ as λa=>Q a.d)
  (b:(x == ("__debug__":Str))=false:=by decide) (he:Ad (e::es) X.env=(false,eval e X.env)::Ad es X.env:=by rfl) (hpl:(backTo pos (Ad es X.env)).any (·.1)=false:=by rfl):EvN X L (.Call (.Name x p) (e::es) [] pos) Q:=by
 obtain⟨rfl,rfl,rfl,rfl,rfl⟩:=c;exact oY D hr f h b he hpl
def ay (D:sA P w K mg base C m k φ)(c:fb X P w K mg base)(hr:zO k X.A)(h:EvD X L o λx=>∃fs,x=wK C fs/\yr fs m=none/\EvA X L (e::es) λas=>φ (.dat (wK C fs)::as) λa=>Q a.d)
  (b:Ad (e::es) X.env=(false,eval e X.env)::Ad es X.env:=by rfl) (hpl:(backTo pos (Ad es X.env)).any (·.1)=false:=by rfl)
  (ht:eval (.Call (.Attribute o m apos) (e::es) [] pos) X.env=(do
   let ov <-eval o X.env
   standAt apos.atName
   let(f,first) <-holding [ov] (getMethod ov m pl)
   callWith pos f first (backTo pos (Ad (e::es) X.env)) (backToKw pos (keywordEach [] X.env))):=by rfl):EvD X L (.Call (.Attribute o m apos) (e::es) [] pos) Q:=by
 obtain⟨rfl,rfl,rfl,rfl,rfl⟩:=c;exact zd1 D hr h b hpl ht
def eY (D:sA P w K mg base C m k φ)(b:fb X P w K mg base)(hr:zO k X.A)(h:EvD X L o λx=>∃fs,x=wK C fs/\yr fs m=none/\φ [.dat (wK C fs)] λa=>Q a.d)
  (ht:eval (.Call (.Attribute o m apos) [] [] pos) X.env=(do
   let ov <-eval o X.env
   standAt apos.atName
   let(f,first) <-holding [ov] (getMethod ov m pl)
   callWith pos f first (backTo pos (Ad [] X.env)) (backToKw pos (keywordEach [] X.env))):=by rfl):EvD X L (.Call (.Attribute o m apos) [] [] pos) Q:=by
 obtain⟨rfl,rfl,rfl,rfl,rfl⟩:=b;exact lO D hr h ht
end
section
variable {X:Cx}{L:Ev}{pos:Pos}{Q:Aa->Prop}
def za7 :PE X (.Dict [] [] pos) (λ_ H Q=>∀p,H p=none->∀o,Q (.ref p) (upd H p (.frz o (.dK [])))):=by
 intro pins s σ H Q I h;refine thn (cX (X:=X) (pos:=pos) pins s σ H (λv H1=>∃p,H p=none/\v=.ref p/\H1=upd H p (.dK [])) I (λp hp=>⟨p,hp,rfl,rfl⟩)) λu s1 a=>?_;obtain⟨v,f,c,r,p,hp,e,d⟩:=a;subst e d;obtain⟨_,o,b⟩:=c.fz zk;rw[ue]at b;exact⟨_,_,b,r,h p hp o⟩
def bG (q:Q (mi [])):EvD X L (.Dict [] [] pos) Q:=λF σ H R m k=>
 ⟨_,za7,λl a o=>k (mi []) (.ref l) (upd H l (.frz o (.dK []))) q (m.tp.same (zV a)) (Kz.of_same (zV a)) (.dk (o:=o) (zw (m.fresh a) zk) .nil)⟩
end
structure Moved (fs:List Ab)(e:Ab)(ts:List Ab)(h h':Ao):Prop where
 keep:∀b o,b≠e->b∉ts->b∉fs->h.get? b=some o->h'.get? b=some o
 slot:∀b o,b∈fs->h.get? b=some o->∃sl,h'.get? b=some {o with slots:=sl}
 exc:∀o vs,h.get? e=some o->o.data=.fields vs->∃o' vs',h'.get? e=some o'/\o'.cls=o.cls/\o'.dict=o.dict/\o'.data=.fields vs'
 there:∀b o,h.get? b=some o->∃o',h'.get? b=some o'
def Ent (h base:Ao)(e T:Ab)(fl:Ac):Prop:=
 ∃oe vs b a,h.get? e=some oe/\oe.data=.fields vs/\vs[1]?=some (.ref T)/\T≠e/\base.get? T=none/\h.get? T=some b/\b.data=.fields a/\a[3]?=some fl
def Beg (h base:Ao)(e:Ab)(ts:List Ab):Prop:=
 (ts=[]/\∃oe vs,h.get? e=some oe/\oe.data=.fields vs/\vs[1]?=some .none)\/∃T,ts=[T]/\Ent h base e T .none
def uS {base h:Ao}{l:List Ar}{b:Ab}(c:h.FunFrames base l)(a:b∈frs l):base.get? b=none/\∃o,h.get? b=some o/\∀vs,o.data≠.fields vs:=c.mem a
section
variable {M:Model}{A:Ap}{E:Ac->Af->Prop}{s:Af}
def ug (o:Obj)(f:Array Ac->Array Ac):(o.mapFields f).cls=o.cls/\(o.mapFields f).dict=o.dict:=by
 obtain⟨c,d,dt,sl⟩:=o;cases dt<;>exact⟨rfl,rfl⟩
def qR {fs:List Ab}{e T:Ab}{h:Ao}{i:Obj}{j:Array Ac}{f:Array Ac->Array Ac}(c:h.get? T=some i)(hd:i.data=.fields j)(a:∀b∈fs,b≠T):Moved fs e [T] h (h.update T (Obj.mapFields f)) where
 keep:=λb o _ g _ q=>by
  rw[zK1 _ _ (λz=>g (by rw[<-z];exact zM0.mpr rfl))];exact q
 slot:=λb o g q=>⟨o.slots,by rw[zK1 _ _ (zO2 (a b g))];exact q⟩
 exc:=λo vs q d=>by
  by_cases z:T=e
  .subst z;rw[c]at q;cases q;refine⟨_,_,zN8 _ c (zR0 (zQ9 hd _)),(ug _ _).1,(ug _ _).2,zQ9 hd _⟩
  .exact⟨o,vs,by rw[zK1 _ _ z];exact q,rfl,rfl,d⟩
 there:=λb o q=>by
  by_cases z:T=b
  .subst z;exact⟨_,zN8 _ c (zR0 (zQ9 hd _))⟩
  .exact⟨o,by rw[zK1 _ _ z];exact q⟩
def zg5 {base:Ao}{l:List Ar}{e T:Ab}{fl:Ac}{fo:Option Ab}{Q:Unit->Af->Prop}(n:s.heap.FunFrames base l)(hk:base.StaysIn s.heap)(x:Ent s.heap base e T fl)
  (h:∀h',Moved (frs l) e [T] s.heap h'->Ent h' base e T (fo.elim .none λf=>rawInt f)->h'.FunFrames base l->base.StaysIn h'->h'.objs.size=s.heap.objs.size->Q () {s with heap:=h'}):Al M A (setFlight (.ref e) fo) Q E s:=by
 obtain⟨oe,vs,t,r,he,hd,j,g,k,d,a,p⟩:=x;have i:3<r.size:=(zR1.mp p).1;unfold setFlight;refine zI0 (zU7 he hd j ?_);rw[if_pos (show(Value.ref T != Value.none)=true from by simp)];refine wpAny_setField d a i (h _ (qR d a λb c z=>?_) ?_ ?_ ?_ (by simp))
 .obtain⟨_,o,m,hn⟩:=uS n c;rw[z,d]at m;cases m;exact hn _ a
 .exact⟨oe,vs,_,_,by rw[zK1 _ _ g];exact he,hd,j,g,k,zN8 _ d (zR0 (zQ9 a _)),zQ9 a _,by simp[i]⟩
 .refine n.of_keeps λb o c hn=>⟨o,?_,rfl⟩;rw[zK1 _ _ (λz=>by subst z;rw[d]at c;cases c;exact hn _ a)];exact c
 .intro b o q;rw[zK1 _ _ (λz=>by subst z;rw[k]at q;cases q)];exact hk b o q
def zb0 {base:Ao}{env:Ar}{outer:List Ar}{L e:Ab}{oe:Obj}{vs:Array Ac}{head:Ac}{m:Bool}{Q:Unit->Af->Prop}
  (D:A.frames=some (env::outer)) (B:s.heap.FunFrames base (env::outer)) (hf:env.frame=some L) (he:s.heap.get? e=some oe) (I:base.StaysIn s.heap) (H:base.get? e=none) (hd:oe.data=.fields vs) (x:1<vs.size)
  (h:∀h' T,Moved (frs (env::outer)) e [] s.heap h'->s.heap.objs.size<=T->Ent h' base e T (rawInt L)->h'.FunFrames base (env::outer)->base.StaysIn h'->Q () {s with heap:=h'}):
  Al M A (do let a <-frameOf env;let pl <-entryPlaceOf L m;let b <-EntryCells.newEntry head a .none (rawInt L) .none pl;setField (.ref e) 1 b) Q E s:=by
 have p:e∉frs (env::outer):=λhm=>by
  obtain⟨_,o,y,G⟩:=uS B hm;rw[he]at y;injection y with y;subst y;exact G vs hd
 refine zI0 (wpAny_frameOf_fun D B hf λc f=>?_);refine zI0 (wpAny_entryPlaceOf λpl hpl=>?_);unfold EntryCells.newEntry newFields;refine zI0 (wpAny_newObj_type ?_ (hpl.sizeOk5 _ _ _ _ _));have l:c.get? e=some oe:=(f.2.1 e p).trans he;have k:base.StaysIn c:=λb o t=>(f.2.1 b λhm=>by rw[(uS B hm).1]at t;cases t).trans (I b o t);generalize C:({cls:=.type "traceback",dict:=none,data:=.fields ([head,.ref L,.none,rawInt L,.none]++(if pl.isEmpty then List.replicate 6 Value.none else pl)).toArray}:Obj)=ob;have u:ob.data=.fields ([head,.ref L,.none,rawInt L,.none]++(if pl.isEmpty then List.replicate 6 Value.none else pl)).toArray:=by rw[<-C]
 have j:=zI2 (h:=c) ob l;refine wpAny_setField j hd x ?_;have w:c.objs.size≠e:=zT2 (zI9 l);have g:=zQ9 hd (·.setIfInBounds 1 (Value.ref c.objs.size));have i:=zN8 (Obj.mapFields (·.setIfInBounds 1 (Value.ref c.objs.size))) j (zR0 g);have r:((c.push ob).update e (Obj.mapFields (·.setIfInBounds 1 (Value.ref c.objs.size)))).get? c.objs.size=some ob:=
  (zK1 (c.push ob) (Obj.mapFields (·.setIfInBounds 1 (Value.ref c.objs.size))) (zO2 w)).trans (zL6 c (zR0 u))
 have keep:∀b o,b≠e->c.get? b=some o->((c.push ob).update e (Obj.mapFields (·.setIfInBounds 1 (Value.ref c.objs.size)))).get? b=some o:=λb o F n=>by
  rw[zK1 _ _ (zO2 F)];exact zI2 _ n
 refine h _ c.objs.size ⟨λb o n _ hf q=>keep b o n ((f.2.1 b hf).trans q),λb o n q=>?_,λo vs' q d=>?_,λb o q=>?_⟩ (by rw[f.1];exact zI3 _) ⟨_,_,ob,_,i,g,by simp[x],w,k.fresh,r,u,by simp⟩ ?_ (λb o q=>keep b o (λz=>by rw[z,H]at q;cases q) (k b o q))
 .obtain⟨sl,v⟩:=f.2.2 b o q;exact⟨sl,keep b _ (λz=>p (z▸n)) v⟩
 .rw[he]at q;cases q;exact⟨_,_,i,(ug _ _).1,(ug _ _).2,g⟩
 .by_cases z:b=e
  .subst z;exact⟨_,i⟩
  .obtain⟨sl,v⟩:=f.2.2 b o q;exact⟨_,keep b _ z v⟩
 .refine B.of_keeps λb o n hn=>?_;obtain⟨sl,v⟩:=f.2.2 b o n;exact⟨_,keep b _ (λz=>by subst z;rw[he]at n;cases n;exact hn _ hd) v,rfl⟩
def zl4 {base:Ao}{env:Ar}{outer:List Ar}{L e:Ab}{ts:List Ab}{Q:Unit->Af->Prop}
  (g:A.frames=some (env::outer)) (u:s.heap.FunFrames base (env::outer)) (hf:env.frame=some L) (l:base.StaysIn s.heap) (k:base.get? e=none) (x:Beg s.heap base e ts)
  (h:∀h' T,Moved (frs (env::outer)) e ts s.heap h'->s.heap.objs.size<=T->Ent h' base e T (rawInt L)->h'.FunFrames base (env::outer)->base.StaysIn h'->Q () {s with heap:=h'}):Al M A (noteFrame (.ref e) env) Q E s:=by
 rcases x with⟨rfl,oe,vs,he,hd,j⟩|⟨T,rfl,oe,vs,R,S,he,hd,j,w,O,i,c,F⟩
 .unfold noteFrame;simp only[hf];refine zI0 (zU7 he hd j ?_);rw[if_neg (by decide)];exact zb0 g u hf he l k hd (zR1.mp j).1 h
 .unfold noteFrame;simp only[hf];refine zI0 (zU7 he hd j ?_);rw[if_pos (show(Value.ref T != Value.none)=true from by simp)];refine zI0 (zU7 i c F ?_);rw[if_neg (show ¬((Value.none == rawInt L)=true)from by simp[rawInt])];refine zI0 (wpAny_setField i c (zR1.mp F).1 ?_);have v:∀b∈frs (env::outer),b≠T:=λb a z=>by
   obtain⟨_,o,D,hn⟩:=uS u a;rw[z,i]at D;cases D;exact hn _ c
  have n:Moved (frs (env::outer)) e [T] s.heap (s.heap.update T (Obj.mapFields (·.setIfInBounds 3 Value.none))):=qR i c v;refine zb0 (s:={s with heap:=s.heap.update T (Obj.mapFields (·.setIfInBounds 3 Value.none))}) g ?_ hf (show(s.heap.update T (Obj.mapFields (·.setIfInBounds 3 Value.none))).get? e=some oe by rw[zK1 _ _ w];exact he) ?_ k hd (zR1.mp j).1 λh' C m1 m2 m3 m4 m5=>?_
  .refine u.of_keeps λb o a hn=>⟨o,?_,rfl⟩;rw[zK1 _ _ (λz=>by subst z;rw[i]at a;cases a;exact hn _ c)];exact a
  .intro b o q;show(s.heap.update T _).get? b=some o;rw[zK1 _ _ (λz=>by subst z;rw[O]at q;cases q)];exact l b o q
  .refine h h' C ⟨λb o f P G q=>m1.keep b o f (by simp) G (n.keep b o f P G q),λb o f q=>?_,λo vs' q d=>?_,λb o q=>?_⟩ (by have m2:(s.heap.update T _).objs.size<=C:=m2;simpa using m2) m3 m4 m5
   .obtain⟨sl,m⟩:=n.slot b o f q;obtain⟨t,r⟩:=m1.slot b _ f m;exact⟨t,r⟩
   .obtain⟨B,y,m,I,N,f1⟩:=n.exc o vs' q d;obtain⟨J,p,r,K,H,f2⟩:=m1.exc B y m f1;exact⟨J,p,r,K.trans I,H.trans N,f2⟩
   .obtain⟨B,m⟩:=n.there b o q;exact m1.there b B m
def bU {base:Ao}{env:Ar}{L e T:Ab}{Q:Unit->Af->Prop}(hf:env.frame=some L)(x:Ent s.heap base e T (rawInt L))(h:Q () s):Al M A (noteFrame (.ref e) env) Q E s:=by
 obtain⟨oe,vs,j,i,he,hd,c,d,g,b,a,f⟩:=x;exact wpAny_noteFrame_inFlight hf he hd c b a f h
end
section
variable {P:Ah}{w:Ak}{H H0:Hp}{h h' h0:Ao}{fs fs' ts:List Ab}{e:Ab}
def HOk.moved (x:HOk P w H h)(m:Moved fs e ts h h')(f:∀b∈fs,H b=none)(g:∀b∈ts,H b=none)(he:∃C d,H e=some (xcO e C d)):HOk P w H h':=λa o q=>by
 obtain⟨C,d,he⟩:=he;by_cases z:a=e
 .subst z;rw[he]at q;cases q;obtain⟨⟨o,vs,k,j,l,n⟩,_,st⟩:=x _ _ he;obtain⟨o',vs',g1,g2,g3,p⟩:=m.exc o vs k n;exact⟨⟨o',vs',g1,g2.trans j,g3.trans l,p⟩,⟨o',g1⟩,st⟩
 .have nf:∀{b:Ab} {u:HO},H b=some u->b∉fs:=λ{b u} c q=>by rw[f b q]at c;cases c
  have nt:∀{b:Ab} {u:HO},H b=some u->b∉ts:=λ{b u} c q=>by rw[g b q]at c;cases c
  refine(x a o q).stay (λb u c i=>?_) (λ_ q=>q) λ_ _ q=>q;rcases c with rfl|c
  .exact m.keep _ _ z (nt q) (nf q) i
  .refine m.keep _ _ (λz=>?_) (nt c) (nf c) i;rw[z,he]at c;cases c
end
def CX1 (P:Ah)(w:Ak)(base:Ao):CXT:=λouter H s E e s'=>∃a T H',e=.ref a/\s'.os=s.os/\AllBare s'.gens/\Un (frs outer) [] H H' s.heap s'.heap/\HOk P w H' s'.heap/\(∃C d,H' a=some (xcO a C d))/\H' T=none/\s.heap.get? T=none/\Ent s'.heap base a T .none/\E (.ref a) none H'
inductive Fl (X:Cx)(H:Hp)(h:Ao)(a:Ab):Prop where
 |new {oe:Obj}{vs:Array Ac}:h.get? a=some oe->oe.data=.fields vs->vs[1]?=some .none->Fl X H h a
 |old {T:Ab}:H T=none->X.s₀.heap.get? T=none->(∀p∈X.pn,p.1≠T)->Ent h X.base a T .none->Fl X H h a
 |here {T:Ab}:H T=none->X.s₀.heap.get? T=none->(∀p∈X.pn,p.1≠T)->Ent h X.base a T (rawInt X.env.locals)->Fl X H h a
def XE (X:Cx)(R:St->Ab->Hp->Prop):Ac->Af->Prop:=λe s=>∃σ H a,e=.ref a/\Inv X [] σ H s/\(∃C d,H a=some (xcO a C d))/\Fl X H s.heap a/\R σ a H
section
variable {X:Cx}{pins:List (Ab×Obj)}{σ:St}{H H':Hp}{s s':Af}{a:Ab}
def Inv.nopins (I:Inv X pins σ H s):Inv X [] σ H s:=I.pins_of λp hp=>by cases hp
theorem Inv.basex (I:Inv X pins σ H s)(h:H a≠none):X.base.get? a=none:=by
 cases q:X.base.get? a with
 |none=>rfl
 |some o=>exact absurd (I.bs a o q).2 h
theorem Inv.moved {ts:List Ab}{h':Ao}(I:Inv X pins σ H s)(t:X.stack=X.env::X.outer)(m:Moved (frs X.stack) a ts s.heap h')(ha:∃C d,H a=some (xcO a C d))(h:∀T∈ts,H T=none/\X.s₀.heap.get? T=none/\(∀p∈X.pn++pins,p.1≠T)/\∃o vs,s.heap.get? T=some o/\o.data=.fields vs):Inv X pins σ H {s with heap:=h'}:=by
 have l:H a≠none:=by obtain⟨C,d,z⟩:=ha;rw[z];simp
 have hf:X.env.frame=some X.env.locals:=by
  rcases I.ok.stk with z|⟨_,z⟩
  .rw[t]at z;exact absurd (congrArg List.length z) (by simp)
  .exact z
 have mem:∀b∈frs X.stack,b=X.env.locals\/b∈X.fs:=λb f=>by
  rw[t]at f;unfold frs at f;rw[List.filterMap_cons_some hf]at f;rcases zI8.mp f with z|z
  .exact .inl z
  .exact .inr z
 have dat:∀{b:Ab} {o:Obj},s.heap.get? b=some o->(∀vs,o.data≠.fields vs)->b∉ts:=λ{b o} q n z=>by
  obtain⟨_,_,_,o',vs,L,d⟩:=h b z;rw[q]at L;cases L;exact n vs d
 obtain⟨K,hn,P⟩:=id I.loc;obtain⟨M,N,O,A,y,E⟩:=id hn;have F:∃sl,h'.get? X.env.locals=some {M with slots:=sl}:=m.slot _ _ (by rw[t];unfold frs;rw[List.filterMap_cons_some hf];exact zK2) A;have J:h'.Ns X.env.locals K:=by obtain⟨sl,z⟩:=F;exact⟨_,N,O,z,y,E⟩
 have cells:∀{x:Str} {c:Ab} {v:Option Ac},X.env.cells.lookup x=some c->s.heap.IsCell c v->h'.IsCell c v:=λ{x c v} e B=>by
  obtain⟨oc,j,hd⟩:=B;by_cases z:c∈frs X.stack
  .obtain⟨sl,R⟩:=m.slot c oc z j;exact⟨_,R,hd⟩
  .exact⟨oc,m.keep c oc (λz=>l (z▸I.freeC x c e)) (dat j λvs q=>by rw[hd]at q;cases q) z j,hd⟩
 have un:Un X.fs X.ex X.H₀ H X.s₀.heap h':=by
  have u:=I.base;have ne:∀{b:Ab} {o:Obj},X.s₀.heap.get? b=some o->X.H₀ b=none->b∉X.ex->b≠a:=λ{b o} q n g z=>l (z▸u.free b o q n g);have nt:∀{b:Ab} {o:Obj},X.s₀.heap.get? b=some o->b∉ts:=λ{b o} q z=>by rw[(h b z).2.1]at q;cases q
  have nl:∀{b:Ab} {o:Obj},X.s₀.heap.get? b=some o->b≠X.env.locals:=λ{b o} q=>zK8 (zJ6 (zI9 q) I.ok.above);refine⟨λb o q n f g=>m.keep b o (ne q n g) (nt q) (λz=>(mem b z).elim (nl q) f) (u.keep b o q n f g),λb o q n f g=>?_,u.free,λb o q g=>?_,u.tups,u.frzs,u.tbls⟩
  .obtain⟨sl,w⟩:=u.slot b o q n f g;by_cases z:b∈frs X.stack
   .obtain⟨G,D⟩:=m.slot b _ z w;exact⟨G,D⟩
   .exact⟨sl,m.keep b _ (ne q n g) (nt q) z w⟩
  .obtain⟨o',w⟩:=u.there b o q g;exact m.there b o' w
 refine⟨I.ok,I.os,I.bare,un,⟨K,J,λi x v w D Q=>?_⟩,λx c e=>?_,I.free,I.freeC,λp hp=>?_,I.hok.moved m I.stkFree (λb f=>(h b f).1) ha,I.len⟩
 .obtain⟨u,r,q⟩:=P i x v w D Q;refine⟨u,r,?_⟩;rcases q with q|⟨k,c,e,z⟩
  .exact .inl q
  .exact .inr ⟨k,c,e,cells e z⟩
 .obtain⟨v,z⟩:=I.cell x c e;exact⟨v,cells e z⟩
 .obtain⟨e,n,ne,nf,d⟩:=I.pin p hp;exact⟨m.keep _ _ (λz=>l (z▸n)) (λz=>(h _ z).2.2.1 p hp rfl) (λz=>(mem _ z).elim ne nf) e,n,ne,nf,d⟩
theorem Fl.beg (f:Fl X H s.heap a):(∃ts,Beg s.heap X.base a ts/\∀T∈ts,H T=none/\X.s₀.heap.get? T=none/\(∀p∈X.pn,p.1≠T)/\∃o vs,s.heap.get? T=some o/\o.data=.fields vs)\/∃T,H T=none/\X.s₀.heap.get? T=none/\(∀p∈X.pn,p.1≠T)/\Ent s.heap X.base a T (rawInt X.env.locals):=by
 cases f with
 |new d c e=>exact .inl ⟨[],.inl ⟨rfl,_,_,d,c,e⟩,λT b=>by cases b⟩
 |@old T d c e h4=>
  refine .inl ⟨[T],.inr ⟨T,rfl,h4⟩,λj b=>?_⟩;rw[zM0]at b;subst b;obtain⟨_,_,i,h,_,_,_,_,_,b,g,_⟩:=h4;exact⟨d,c,e,i,h,b,g⟩
 |@here T d c e h4=>exact .inr ⟨T,d,c,e,h4⟩
def Inv.stkf (I:Inv X pins σ H s)(b:X.stack=X.env::X.outer):X.env.frame=some X.env.locals:=by
 rcases I.ok.stk with z|⟨_,z⟩
 .rw[b]at z;exact absurd (congrArg List.length z) (by simp)
 .exact z
def Inv.stays (I:Inv X pins σ H s):X.base.StaysIn s.heap:=I.bk
def Inv.note {M:Model}{Q:Unit->Af->Prop}{E:Ac->Af->Prop}(I:Inv X [] σ H s)(b:X.stack=X.env::X.outer)(ha:∃C d,H a=some (xcO a C d))(f:Fl X H s.heap a)
  (h:∀h' T,Inv X [] σ H {s with heap:=h'}->H T=none->X.s₀.heap.get? T=none->(∀p∈X.pn,p.1≠T)->Ent h' X.base a T (rawInt X.env.locals)->Q () {s with heap:=h'}):Al M X.A (noteFrame (.ref a) X.env) Q E s:=by
 have c:H a≠none:=by obtain⟨C,d,z⟩:=ha;rw[z];simp
 have hf:=I.stkf b;rcases f.beg with⟨ts,o,ht⟩|⟨T,k,g,m,e⟩
 .refine zl4 (by rw[<-b];exact I.ok.frames) (by rw[<-b];exact I.stack) hf I.stays (I.basex c) o λh' T m1 m2 m3 _ _=>?_;have i:Inv X [] σ H {s with heap:=h'}:=I.moved b (by rw[b];exact m1) ha λT j=>by
   obtain⟨r,q,n,l⟩:=ht T j;exact⟨r,q,λp hp=>n p (by simpa using hp),l⟩
  refine h h' T i (I.hok.fresh m2) (Heap.get?_none_of_le (zJ1 I.sz m2)) (λp hp z=>?_) m3;have:=zI9 (I.pin p (by simpa using hp)).1;rw[z]at this;exact absurd this (Nat.not_lt.mpr m2)
 .exact bU hf e (by have:=h s.heap T I k g m e;exact this)
def Inv.flight {M:Model}{Q:Unit->Af->Prop}{E:Ac->Af->Prop}{A:Ap}{T:Ab}{fl:Ac}{fo:Option Ab}(I:Inv X pins σ H s)(e:X.stack=X.env::X.outer)(ha:∃C d,H a=some (xcO a C d))(i:H T=none)(g:X.s₀.heap.get? T=none)(j:∀p∈X.pn++pins,p.1≠T)(x:Ent s.heap X.base a T fl)
  (h:∀h',Inv X pins σ H {s with heap:=h'}->Ent h' X.base a T (fo.elim .none λf=>rawInt f)->Q () {s with heap:=h'}):Al M A (setFlight (.ref a) fo) Q E s:=by
 refine zg5 (l:=X.stack) I.stack I.stays x λh' m1 m2 _ _ _=>h h' (I.moved e m1 ha λn b=>?_) m2;rw[zM0]at b;subst b;obtain⟨_,_,m,k,_,_,_,_,_,b,c,_⟩:=x;exact⟨i,g,j,m,k,b,c⟩
def zo5 {R:St->Ab->Hp->Prop}(b:X.stack=X.env::X.outer):PassesOwn (Am X.prog X.w) X.A X.env (XE X R):=by
 rintro e s ⟨σ,H,a,rfl,I,ha,f,r⟩;refine I.note b ha f λh' T k h g i j=>?_;obtain⟨oe,vs,o,n,he,hd,l,_⟩:=id j;show Al _ _ _ _ _ _;refine zI0 (zU7 he hd l ?_);rw[if_neg (by simp)];rw[I.stkf b];refine k.flight b ha h g (by simpa using i) j λm d c=>?_;exact⟨σ,H,a,rfl,d,ha,.here h g i c,r⟩
def sH {R:St->Ab->Hp->Prop}{E:XK}{e:Ac}(hex:X.ex=[])(I:Inv X pins σ H s)(h:CX1 X.prog X.w X.base X.stack H s E e s')(l:∀a H',E (.ref a) none H'->R σ a H'):XE X R e s':=by
 obtain⟨a,T,H',rfl,m,n,u,hok,ha,i,d,j,c⟩:=h;have g:Inv X pins σ H' s':=I.call' (ch:=[]) m u hok n λb k=>by cases k
 refine⟨σ,H',a,rfl,g.nopins,ha,.old i ?_ (λp hp z=>?_) j,l a H' c⟩
 .cases q:X.s₀.heap.get? T with
  |none=>rfl
  |some o=>
   exfalso
   obtain⟨o',f⟩:=I.base.there T o q (by rw[hex];simp);rw[d]at f;cases f
 .have:=(I.pin p (zP8 _ hp)).1;rw[z,d]at this;cases this
end
section
variable {X:Cx}{E':Ac->Af->Prop}
def PSs.wishx {st:List An}{t:TS}(h:PSs (X.wish E') st t)(k:∀e s,E' e s->X.xe e s):PSs X st t:=λpins s σ H D I hw=>
 zK3 (h pins s σ H D (I.wish _) hw) (λ_ _ q=>q.unwish) λe s z=>k e s z
end
section
variable {P:Ah}{w:Ak}{K:Ae}{mg:Str->Option Ac}{base:Ao}
def hU {N:List Str}{qual:Str}{scope:Aq}{f:Ab}{cd:Ac}{A:Ap}{outer:List Ar}{s₀ s:Af}{H₀:Hp}{E:XK}{e:Ac}
  (h:XE (xi (CX1 P w base) P w K mg base N qual scope f cd A outer s₀ H₀ E) (λ_ a H=>E (.ref a) none H) e s):(xi (CX1 P w base) P w K mg base N qual scope f cd A outer s₀ H₀ E).xe e s:=by
 obtain⟨σ,H,a,rfl,I,ha,j,r⟩:=h;show Al _ _ (leaving _ _) _ _ _;unfold leaving;refine zI0 (I.note rfl ha j λh' T i g d k l=>?_);refine i.flight (fo:=none) rfl ha g d (by simpa using k) l λm b c=>?_;exact⟨a,T,H,rfl,b.os,b.bare,b.base,b.hok,ha,g,d,c,r⟩
def Fun.okX {x qual:Str}{st:An}{f:Ab}{fd:Ag}{N ps:List Str}{k:Nat}{sp:Sp}(F:Fun K x qual st f fd)(S:zo N ps (zd st))(len:∀vs H Q E,sp vs H Q E->vs.length=ps.length)
  (b:∀(cdv:Ac) (A:Ap) (outer:List Ar) (s:Af) (H:Hp) (vs:List V) (Q:VK) (E:XK),zO k (A.deeper (envOfC qual (zd st) s.heap.objs.size f cdv))->sp vs H Q E->
   ∃t,PSs ((xi (CX1 P w base) P w K mg base N qual (zd st) f cdv A outer s H E).wish (XE (xi (CX1 P w base) P w K mg base N qual (zd st) f cdv A outer s H E) λ_ a H=>E (.ref a) none H)) (zJ st) t/\t {nx:=λ_ H'=>Q .non H',rt:=Q} (start N vs) H):zG P w K mg base (CX1 P w base) (k+1) f fd ps sp:=by
 obtain⟨oc,od,kV,doc,pm,an,cdv,ct,osl,rfl,g,d⟩:=F.ex;refine iN g d S len λA outer s H vs Q E hr c=>?_;obtain⟨t,h,q⟩:=b cdv A outer s H vs Q E hr c;exact⟨t,h.wishx λe s z=>hU z,q⟩
end
section
variable {prog:Ah}{w:Ak}{A:Ap}{E:Ac->Af->Prop}{h:Ao}{g:Array GenState}{d:Drawn}{t:Nat}{os:OsState}
variable {nm q:Str}{C N:Ab}{bs bm bmB:List Ac}{hdct:Bool}{sn:List Str}{sub:List Ac}{ab:Bool}{col:Option Bool}{dd:Option Ab}{k0 k1 k2 k3 k5:Option Ac}{B Bn newId nid initId inN:String}{bmN:List Ac}
abbrev vD (C t:Ab)(d:Option Ab):Obj:={cls:=.ref C,dict:=d,data:=.fields #[.ref t,.none,.none,.none,.bool false,.none]}
def xP (h:Ao)(C:Ab)(rest:List Ac):Ao:=(h.push {cls:=.type "tuple",data:=.seq rest.toArray}).push (vD C h.objs.size none)
def iz (v:ExcBaseFacts Bn newId inN bmN)(m:bmB.contains (.type Bn)=true)(F:ExcBaseFacts B nid initId bmB)(T:OwnTail h bmB bm){u:Str->Option Ac}{rest:List Ac}{fI:Ab}{y:Obj}{Q:Fin->Af->Prop}
  (k:h.get? C=some (excClassObj nm q C N bs bm hdct sn sub ab col dd k0 k1 k2 k3 k5 newId)) (hn:h.Ns N u) (hi:u "__init__"=some (.ref fI))
  (s:h.get? fI=some y) (n:y.cls=.type "function")
  (z:Al (Am prog w) A (call (.ref fI) (.ref (h.objs.size+1)::rest)) (λr s'=>r=.none/\Q (.done (.ret (.ref (h.objs.size+1)))) s') E ⟨xP h C rest,g,d,t,os⟩) (f:rest.length<=sizeLine):
  Al (Am prog w) A (Builtin.«type.__call__» ⟨.ref C::rest,[]⟩) Q E ⟨h,g,d,t,os⟩:=by
 repeat (first|with_reducible refine zO5 k ?_|with_reducible refine wpAny_madeBy_exc k ?_|wp_step)
 refine codeAny_call_builtin_code (zT6 _ v.quiet) (wpAny_check_new_subU v m T k ?_);refine codeAny_exc_new_subU v m F T k ?_ f;show Al _ _ _ _ _ ⟨xP h C rest,g,d,t,os⟩;have keep:∀b o,h.get? b=some o->(xP h C rest).get? b=some o:=λb o e=>zI2 _ (zI2 _ e);have a:=keep _ _ k;have c:=keep _ _ s;have i:(xP h C rest).Ns N u:=let⟨o,es,ep,e,r⟩:=hn;⟨o,es,ep,keep _ _ e,r⟩;have j:(xP h C rest).get? (h.objs.size+1)=some (vD C h.objs.size none):=by unfold xP;heap_get
 have p:(Value.ref C::bm).contains (.ref C)=true:=by simp
 have l:=T.keeps keep;unfold isInstance
 repeat (first|with_reducible refine zO5 j ?_|(with_reducible refine wpAny_isSubtype_exc a ?_;rw[p])|wp_step)
 show Al _ _ (typeLookup (.ref C) _) _ _ _;refine wpAny_typeLookup_tail a i l F.mroIs F.init.lookup ?_;rw[hi];refine zQ3 (zI0 ?_);unfold bindSpecial;refine zI0 (wpAny_typeOf (T:="function") ⟨_,c,n⟩ ?_);rw[if_pos (by decide)];refine zJ3 (zI0 (zK3 z (λr s' hr=>?_) λ_ _ x=>x));obtain⟨rfl,D⟩:=hr
 wp_walk
 exact D
def zB6 (l:ExcBaseFacts Bn newId inN bmN)(f:bmB.contains (.type Bn)=true)(F:ExcBaseFacts B nid initId bmB)(T:OwnTail h bmB bm){j:Str->Option Ac}{rest:List Ac}{fI:Ab}{i:Obj}{Q:Ac->Af->Prop}
  (b:h.get? C=some (excClassObj nm q C N bs bm hdct sn sub ab col dd k0 k1 k2 k3 k5 newId)) (hn:h.Ns N j) (hi:j "__init__"=some (.ref fI))
  (e:h.get? fI=some i) (c:i.cls=.type "function")
  (k:Al (Am prog w) (A.under (.builtin "type.__call__" ⟨.ref C::rest,[]⟩)) (call (.ref fI) (.ref (h.objs.size+1)::rest)) (λr s'=>r=.none/\Q (.ref (h.objs.size+1)) s') E ⟨xP h C rest,g,d,t,os⟩) (a:rest.length<=sizeLine):
  Al (Am prog w) A (call (.ref C) rest) Q E ⟨h,g,d,t,os⟩:=by
 have f1:=tc_lookup;have f2:=tc_bind (.ref C);have m:(⟨h,g,d,t,os⟩:Af).TypeIs (.ref C) "type":=⟨_,b,rfl⟩;refine zP1 (codeAny_of_tree ?_);show Al _ _ (callAny (.ref C) _) _ _ _
 repeat (any_goals (first|assumption|with_reducible refine zO5 b ?_|wp_step))
 refine⟨rfl,?_⟩;exact codeAny_call_builtin_at (zT6 _ (by decide +kernel)) entry_typeCall (wpAny_check_type_call_sub b (iz l f F T b hn hi e c k a))
def zs9 {M:Model}{s:Af}{env:Ar}{x:Sem Ac}{Q:Flow->Af->Prop}(a:bm.contains (.type "BaseException")=true)(j:A.handled=none)
  (h:Al M A x (λv s₁=>∃e t d,v=.ref e/\s₁.heap.get? C=some (excClassObj nm q C N bs bm hdct sn sub ab col dd k0 k1 k2 k3 k5 newId)/\s₁.heap.get? e=some (vD C t d)/\E (.ref e) s₁) E s):
  Al M A (raiseStmt env (some x) none) Q E s:=by
 have c:(Value.ref C::bm).contains (.type "BaseException")=true:=by rw[List.contains_cons,a,Bool.or_true]
 unfold raiseStmt;refine zI0 (zK3 h (λv s₁ b=>?_) λ_ _ x=>x);obtain⟨e,t,d,rfl,f,he,i⟩:=b;obtain⟨hp,g,d,k,os⟩:=s₁
 repeat (first|with_reducible refine zO5 he ?_|with_reducible refine zO5 f ?_|(with_reducible refine wpAny_isSubtype_exc f ?_;rw[c])|wp_step)
 exact wpAny_raiseNew_none j i
end
open Builtin Builtin.ObjectAttr
def bmV :List Ac:=[.type "ValueError",.type "Exception",.type "BaseException",.type "object"]
def xQ (K:Frag)(C S:Ab)(init:Option Ac):Bool:=match K.lookup C with
 |some ⟨.type "type",_,.cls cd,sl⟩=>(match sl.toList with
  |[_,_,_,_,some (.builtin n),_]=>cd.mro == .ref C::.ref S::bmV&&n == "ValueError.__new__"&&!cd.hasDel&&cd.hasDict&&tailIn K bmV (.ref S::bmV)&&nsOkIn K cd.ns&&nsIn K cd.ns "__init__" == some init
  |_=>false)
 |_=>false
theorem cU {K:Frag}{h:Ao}{N:Ab}{mg:Str->Option Ac}{n:Str}{v:Option Ac}(X:K.In h)(G:h.Ns N mg)(e:nsIn K N n=some v):mg n=v:=by
 cases v with
 |none=>exact ns_none_of X G e
 |some v=>
  obtain⟨o,i,j,b,hd,_,hf⟩:=G;unfold nsIn at e;split at e
  .rename_i c d a f sl q;have:=X _ _ q;rw[b]at this;cases this;cases hd;split at e
   .rename_i g he;cases e;rw[<-hf];unfold nsFind findBy;rw[<-Array.find?_toList,he];rfl
   .split at e<;>cases e
  .cases e
def yW {K:Frag}{h:Ao}{C S:Ab}{init:Option Ac}(X:K.In h)(q:xQ K C S init=true):
  ∃nm d N bs sn sub ab col dd k0 k1 k2 k3 k5 i,h.get? C=some (excClassObj nm d C N bs (.ref S::bmV) true sn sub ab col dd k0 k1 k2 k3 k5 "ValueError.__new__")/\h.Ns N i/\i "__init__"=init/\OwnTail h bmV (.ref S::bmV)/\∃cd,clsIn K C=some cd/\cd.hasDict=true/\cd.mro=.ref C::.ref S::bmV/\K.lookup C=some (excClassObj nm d C N bs (.ref S::bmV) true sn sub ab col dd k0 k1 k2 k3 k5 "ValueError.__new__"):=by
 unfold xQ at q;split at q
 .rename_i dd cd sl f;split at q
  .rename_i k0 k1 k2 k3 n k5 g;simp only[zL0,zP3,Bool.not_eq_true']at q;obtain⟨⟨⟨⟨⟨⟨hm,hn⟩,a⟩,b⟩,ht⟩,hok⟩,c⟩:=q;obtain⟨nm,bs,mro,ns,d,hd,sn,sub,ab,col,del⟩:=cd;dsimp only at hm a hok c b;subst hm a hn b;have e:sl=#[k0,k1,k2,k3,some (.builtin "ValueError.__new__"),k5]:=by
    obtain⟨l⟩:=sl;simp only at g;rw[g]
   subst e;have N:=Heap.Ns.of_isNs (isNs_of_in X hok);exact⟨nm,d,ns,bs,sn,sub,ab,col,dd,k0,k1,k2,k3,k5,_,X _ _ f,N,cU X N c,tail_of_in X ht,_,by unfold clsIn;rw[f],rfl,rfl,f⟩
  .cases q
 .cases q
section
variable {prog:Ah}{w:Ak}{A:Ap}{E:Ac->Af->Prop}{h:Ao}{g:Array GenState}{d:Drawn}{t:Nat}{os:OsState}{K:Frag}{C S e t0:Ab}{dx:Option Ab}{init:Option Ac}
def jn {rest:List Ac}{Q:Ac->Af->Prop}(X:K.In h)(q:xQ K C S init=true)(he:h.get? e=some (vD C t0 dx))(hr:rest.length<=1000)
  (a:∀h' t',(∀b o,b≠e->h.get? b=some o->h'.get? b=some o)->h'.get? e=some (vD C t' dx)->Q .none ⟨h',g,d,t,os⟩):Al (Am prog w) A (call (.builtin "ValueError.__init__") (.ref e::rest)) Q E ⟨h,g,d,t,os⟩:=by
 obtain⟨nm,l,N,bs,sn,sub,ab,col,dd,k0,k1,k2,k3,k5,i,c,k,hi,T,_⟩:=yW X q;have F:=zO3;have j:rest.length<=sizeLine:=by rw[zO4];exact zA7 hr
 refine zP1 (zS4 F.init.plain F.initEntry (wpAny_check_init_subU F T c he rfl ?_));unfold Builtin.«BaseException.__init__»
 wp_walk
 refine a _ h.objs.size (λb o f z=>?_) ?_
 .rw[zK1 _ _ (zO2 f)];exact zI2 _ z
 .rw[zN8 _ (zI2 _ he) rfl];rfl
def gF {ox:Obj}(he:h.get? e=some ox)(b:ox.cls=.ref C)(hd:∃vs,ox.data=.fields vs){od:Option Obj}(a:match ox.dict,od with
  |some dx,some o=>h.get? dx=some o
  |none,none=>True
  |_,_=>False):InstAt h e ox C od:=⟨he,b,by obtain⟨vs,hd⟩:=hd;unfold notCls;rw[hd],a⟩
def zF3 {name:Str}{v:Ac}{Q:Unit->Af->Prop}(X:K.In h)(q:xQ K C S init=true)(n:findIn K (.ref C) "__setattr__"=some (some (.builtin "object.__setattr__")))(hn:findIn K (.ref C) name=some none)(he:h.get? e=some (vD C t0 none))
  (G:∀h' dx p,h.objs.size<=dx->(∀b o,b≠e->h.get? b=some o->h'.get? b=some o)->h'.get? e=some (vD C t0 (some dx))->h'.Ns1 dx (λy=>if y=name then some v else none)->Q () ⟨h',g,d,p,os⟩):Al (Am prog w) A (setAttr (.ref e) name v) Q E ⟨h,g,d,t,os⟩:=by
 obtain⟨nm,U,N,bs,sn,sub,ab,col,dd,k0,k1,k2,k3,k5,M,R,O,hi,T,cd,i,f,c,_⟩:=yW X q;have I:InstAt h e (vD C t0 none) C none:=gF he rfl ⟨_,rfl⟩ trivial;refine set_plain (s:=⟨h,g,d,t,os⟩) X I n ?_;have k:=PySem.F.store_object;have sub:Looks (Am prog w) h (isInstance (.ref e) (.type "object")) true:=I.type.andThen (looks_mroIn X (by unfold mroIn;rw[i,zR5,c]<;>rfl));refine zS4 k.slot.plain k.entry (@check_slot (Am prog w) _ _ ⟨h,g,d,t+1,os⟩ "object.__setattr__" "object" "__setattr__" (.ref e) [.str name t,v] [] _ k.kind k.split sub (k.args (.ref e) (.str name t) v) ?_);have hm:Looks (Am prog w) h (mroOf (.ref C)) (.ref C::.ref S::bmV):=c▸(looks_clsIn X i).andThen .now;rw[osa_eq,refuse_eq];refine zI0 (zI0 (I.type.at (zI0 (hm.at ?_))));rw[refuseLoop_ref,refuseLoop_ref,show refuseLoop (.ref e) "__setattr__" bmV=pure ()from PySem.F.store_ValueError.passes _];refine zJ3 (zI0 (I.type.at (zI0 ((looks_findIn X hn).at (zI0 (zJ3 ?_))))));show Al _ _ (storeInOwnDict (.ref e) (.ref C) (.str name t) name v false) _ _ _;refine zI0 (zJ3 (zI0 (zI0 (zO5 he (zI0 ((looks_clsIn X i).at ?_))))));rw[f];have a:(h.push {cls:=.type "dict",data:=.dict #[]}).get? e=some (vD C t0 none):=zI2 _ he;have m:e≠h.objs.size:=zK8 (zI9 he);refine zI0 (wpAny_alloc' ?_);refine zI0 (wpAny_update' a ?_);refine zJ3 ?_;generalize j:((h.push {cls:=.type "dict",data:=.dict #[]}).update e λo=>{cls:=o.cls,dict:=some h.objs.size,data:=o.data,slots:=o.slots})=h1;have x:h1.get? h.objs.size=some {cls:=.type "dict",data:=.dict #[]}:=by
  rw[<-j];exact(Heap.get?_update_ne _ _ _ _ m.symm).trans (Heap.get?_push_at rfl rfl)
 have D:h1.Ns h.objs.size (λ_=>none):=⟨_,#[],_,x,rfl,λe he=>absurd he (by simp),λ_=>rfl⟩;show Al _ _ (storeInDict h.objs.size (.str name t) name v) _ _ _;unfold storeInDict newKeyGuard;refine zI0 (zJ3 (zI0 (wpAny_nsSet1 (Heap.Ns1.of_empty D) λh' l n=>?_)));obtain⟨P,L,H,u,B,r⟩:=l.count (Within.cons name v Within.nil);refine zI0 (wpAny_lookBehind u (by rw[B];exact pastItsLine_dict (zJ1 r (by rw[zI7,zV6,zO4];exact Nat.add_le_add (zK6 _) (zI3 _)))) ?_);refine zJ3 (G h' h.objs.size _ (zI3 _) (λb o J z=>?_) ?_ l)
 .refine(n.2 b (zK8 (zI9 z))).trans ?_;rw[<-j];exact(Heap.get?_update_ne _ _ _ _ J).trans (zI2 _ z)
 .refine(n.2 e m).trans ?_;rw[<-j];exact zN8 _ a rfl
end
structure XC (K:Frag)(C S:Ab)(init:Option Ac):Prop where
 ok:xQ K C S init=true
 sa:findIn K (.ref C) "__setattr__"=some (some (.builtin "object.__setattr__"))
 ga:findIn K (.ref C) "__getattribute__"=some (some (.builtin "BaseException.__getattribute__"))
 gt:findIn K (.ref C) "__getattr__"=some none
 cl:findIn K (.ref C) "__class__"=some (some (.builtin "object.__class__"))
 cg:specialIn K (.builtin "object.__class__") "__get__"=some (some (.builtin "getset_descriptor.__get__"))
 ct:takesIn K (.builtin "object.__class__")=some true
section
variable {prog:Ah}{w:Ak}{A:Ap}{E:Ac->Af->Prop}{h:Ao}{g:Array GenState}{d:Drawn}{t:Nat}{os:OsState}{K:Frag}{C S e t0:Ab}{init:Option Ac}
def mq {name:Str}{b:Tok}{fill expr:Bool}{ox:Obj}{od:Option Obj}{Q:Ac->Af->Prop}(X:K.In h)(c:XC K C S init)(I:InstAt h e ox C od)
  (l:Al (Am prog w) A.in1 (Builtin.«object.__getattribute__» ⟨[.ref e,.str name b],[]⟩) (λfin s'=>match fin with|.done (.ret v)=>Al (Am prog w) A (handedOut v) Q E s'|_=>False) (λ_ _=>False) ⟨h,g,d,t,os⟩):
  Al (Am prog w) A (getAttrBy (.ref e) (.str name b) fill expr) Q E ⟨h,g,d,t,os⟩:=by
 obtain⟨nm,q,N,bs,sn,sub,ab,col,dd,k0,k1,k2,k3,k5,n,p,o,hi,T,cd,i,f,a,_⟩:=yW X c.ok;have k:=PySem.F.attr_ValueError;unfold getAttrBy;refine zQ3 (zI0 (I.type.at (zI0 ((looks_findIn X c.ga).at ?_))));have j:(Value.builtin "BaseException.__getattribute__" == Value.builtin "object.__getattribute__")=false:=by decide +kernel
 dsimp only;rw[j,Bool.and_false,if_neg (by decide)];have m:Looks (Am prog w) h (hookBefore (.ref C)) none:=looks_hook X (by rw[if_pos (show onTheHeap (.ref C)=true from rfl)];exact c.gt);refine zI0 (m.at (zI0 (wpAny_attempt (zQ3 ?_))));unfold callGetattribute;rw[show(expr&&onTheHeap (Value.builtin "BaseException.__getattribute__"))=false from Bool.and_false _,if_neg (by decide)];unfold boundAndCalled;rw[k.ga.bind];refine zI0 (zJ3 ?_);have sub:Looks (Am prog w) h (isInstance (.ref e) (.type "BaseException")) true:=I.type.andThen (looks_mroIn X (by unfold mroIn;rw[i,zR5,a]<;>rfl));show Al _ _ (call (.builtin "BaseException.__getattribute__") [.ref e,.str name b]) _ _ _;refine zP1 (zS4 k.ga.plain PySem.F.entry_bexc_ga (@check_slot (Am prog w) _ _ ⟨h,g,d,t,os⟩ "BaseException.__getattribute__" "BaseException" "__getattribute__" (.ref e) [.str name b] [] _ (by decide +kernel) (by decide +kernel) sub (PySem.F.args_bexc_ga (.ref e) (.str name b)) ?_));refine zK3 l (λfin s' z=>?_) λ_ _ z=>z.elim;rcases fin with(_|_|_|_)|_<;>first|exact z|exact z.elim
def zA4 {name:Str}{v:Ac}{expr:Bool}{ox od:Obj}{Q:Ac->Af->Prop}(X:K.In h)(c:XC K C S init)(I:InstAt h e ox C (some od))(hf:findObj K C (some od) name=some (.value v))(b:handedIn v=true)(a:Q v ⟨h,g,d,t+1,os⟩):
  Al (Am prog w) A (getAttr (.ref e) name expr) Q E ⟨h,g,d,t,os⟩:=by
 unfold getAttr;refine zI0 (wpAny_mkText (mq X c I ?_));unfold Builtin.«object.__getattribute__»;refine zI0 (zJ3 (zI0 (zJ3 (zI0 (I.type.at (zI0 ((looks_find X I hf).at ?_)))))));refine zJ3 ?_;show Al _ _ (handedOut v) _ _ _;rw[handedOut_of b];exact zJ3 a
def zu6 {ox:Obj}{od:Option Obj}{Q:Option Ac->Af->Prop}(X:K.In h)(c:XC K C S init)(I:InstAt h e ox C od)(i:Q (some (.ref C)) ⟨h,g,d,t+1,os⟩):Al (Am prog w) A (getAttr? (.ref e) "__class__") Q E ⟨h,g,d,t,os⟩:=by
 obtain⟨nm,m,N,bs,sn,sub,ab,col,dd,k0,k1,k2,k3,k5,k,j,l,hi,T,cd,b,f,a,_⟩:=yW X c.ok;have hf:findObj K C od "__class__"=some (.bind (.builtin "getset_descriptor.__get__") (.builtin "object.__class__")):=by
  unfold findObj;rw[b,zR5,c.cl,zR5];dsimp only;rw[c.cg,zR5];dsimp only;rw[c.ct];rfl
 unfold getAttr? getAttrBy?;refine zI0 (wpAny_mkText (zI0 (wpAny_attempt (mq X c I ?_))));unfold Builtin.«object.__getattribute__»;refine zI0 (zJ3 (zI0 (zJ3 (zI0 (I.type.at (zI0 ((looks_find X I hf).at ?_)))))));show Al _ _ (bindTo _ _ _ _) _ _ _;have hm:mroIn K C (.type "object")=some true:=by unfold mroIn;rw[b,zR5,a]<;>rfl
 refine zI0 (zQ3 (zP1 (class_get (s:=⟨h,g,d,t+1,os⟩) (ox:=ox) (od:=od) X I hm ?_)));refine zJ3 ?_;exact handed_on rfl (zJ3 i)
def aI {ox:Obj}{od:Option Obj}(c:XC K C S init):KitX K (.ref e) (.ref C) (λh=>InstAt h e ox C od) where
 ty:=λ_ _ _ I=>I.type
 it:=λ_ _ X _=>by
  obtain⟨nm,j,N,bs,sn,sub,ab,col,dd,k0,k1,k2,k3,k5,f,b,_⟩:=yW X c.ok;intro m Q' l s' k q;unfold isType loadHead;exact zI0 (wpAny_loadPart (k _ _ b) (zJ3 q))
 ne:=λh tp dd i n sl X a=>by
  obtain⟨nm,j,N,bs,sn,sub,ab,col,dd,k0,k1,k2,k3,k5,f,b,_⟩:=yW X c.ok;refine zL9.mpr λq=>?_;have e:C=tp:=Value.ref.inj (zP3.mp q);subst e;cases(show Data.cls _=Data.seq _ _ from congrArg Obj.data (zL2 (b.symm.trans a)))
 ca:=λ{_ _ _ _ _ s} X I k=>by obtain⟨h,g,d,t,os⟩:=s;exact zu6 X c I k
structure XB (K:Frag)(C B:Ab):Prop where
 ty:typeIn K (.ref B)=some (.type "type")
 be:mroIn K B (.type "BaseException")=some true
 sub:mroIn K C (.ref B)=some true
def zb7 {B:Ab}{ox:Obj}{od:Option Obj}{Q:Bool->Af->Prop}(X:K.In h)(b:XB K C B)(I:InstAt h e ox C od)(c:Q true ⟨h,g,d,t,os⟩):Al (Am prog w) A (excMatches (.ref e) (.ref B)) Q E ⟨h,g,d,t,os⟩:=by
 have l1:Looks (Am prog w) h (isType (.ref B)) true:=by
  obtain⟨cd,a,_⟩:=Option.bind_eq_some_iff.mp b.be;unfold clsIn at a;split at a
  .rename_i r d' f n m;intro o Q' p s' k q;unfold isType loadHead;exact zI0 (wpAny_loadPart (k _ _ (X _ _ m)) (zJ3 q))
  .cases a
 have l2:Looks (Am prog w) h (isExcClass (.ref B)) true:=l1.andThen (by rw[if_pos rfl];exact looks_mroIn X b.be);have j:Looks (Am prog w) h (isInstance (.ref B) (.type "tuple")) false:=(looks_typeIn X b.ty).andThen (Looks.of_pure tc_notTuple);have l:=looks_mroIn (M:=Am prog w) X b.sub;have i:=I.type (M:=Am prog w);unfold excMatches;refine zI0 (j.at ?_);rw[if_neg (by decide)];refine zI0 (zJ3 ?_);simp only[List.forIn_cons,List.forIn_nil];refine zI0 (zI0 (zI0 (l2.at ?_)));refine zJ3 (zJ3 (zI0 (i.at (zI0 (zI0 (zI0 (l.at ?_)))))));exact zJ3 (zJ3 (zJ3 c))
end
def xcF (a C:Ab)(d:Option Ab):HO:=.ext λh=>∃t,h.get? a=some (vD C t d)
section
variable {X:Cx}{pins:List (Ab×Obj)}{σ:St}{H:Hp}{s:Af}{a C:Ab}{d:Option Ab}{pos:Pos}
def jT {P:Ah}{w:Ak}{H':Hp}{h:Ao}{t:Ab}(e:h.get? a=some (vD C t d)):xx P w H' h a (xcF a C d):=⟨⟨t,e⟩,⟨_,e⟩,λ_ _ b k=>by obtain⟨t,e⟩:=b;exact⟨t,k _ e⟩⟩
def Inv.xat (I:Inv X pins σ H s)(e:H a=some (xcF a C d)):∃t,s.heap.get? a=some (vD C t d):=(I.hok a _ e).1
def cO {o:HO}(e:H a=some o):upd H a o=H:=by
 funext b
 unfold upd;split
 .rename_i z;rw[z,e]
 .rfl
def Inv.xthaw (I:Inv X pins σ H s)(e:H a=some (xcF a C d)):Inv X pins σ (upd H a (xcO a C d)) s:=by
 obtain⟨t,h⟩:=I.xat e;have:=I.write (x:=a) (e:=a) (o:=xcO a C d) (h':=s.heap) (t':=s.toks) (by rw[e];exact True.intro) (.inl rfl) (λ_ _ _ q=>q) ⟨_,h⟩ ⟨⟨_,_,h,rfl,rfl,rfl⟩,⟨_,h⟩,λ_ _ b k=>by obtain⟨o,vs,f,c⟩:=b;exact⟨o,vs,k _ f,c⟩⟩;exact this
def jV {e:Ai}{c:TE}(he:PE X e c):PE X (.FormattedValue e (-1) none pos) (λσ H Q=>c σ H λx H1=>∃i:Int,x=.int i/\i.natAbs.log2<1920/\Q (.str (toString i)) H1):=by
 intro pins s σ H Q I h;refine FormattedValue_plain (thn (he pins s σ H _ I h) λu s1 b=>?_);obtain⟨x,H1,g,f,i,ex,hi,q⟩:=b;subst ex;obtain⟨t,rfl⟩:=(show ∃t,u=Value.int i t from f);exact formatField_int_small hi ⟨.str (toString i),H1,g.tok _,⟨_,rfl⟩,q⟩
def tJ (t:TE)(k:Str->TE):TE:=λσ H Q=>t σ H λx H1=>∃a,x=.str a/\a.length<=10000/\k a σ H1 Q
def ma {a b c:Ai}{j k m:TE}(ha:PE X a j)(F:PE X b k)(B:PE X c m):PE X (.JoinedStr [a,b,c] pos) (tJ j λx=>tJ k λy=>tJ m λz=>λ_ H Q=>Q (.str (Str.empty++x++y++z)) H):=by
 intro pins s σ H Q I h;refine PyProof.Rows.JoinedStr_many (zU0 (thn (ha pins s σ H _ I h) λu s1 e=>?_));obtain⟨x,H1,K,q,g,ex,P,w⟩:=e;subst ex;obtain⟨t1,rfl⟩:=(show ∃t,u=Value.str g t from q);have M:Str.empty.length=0:=rfl;refine⟨by rw[zM2,zO4];lia,zU0 (thn (F pins s1 σ H1 _ K w) λu s2 ⟨y,D,o,J,f,G,N,v⟩=>?_)⟩;subst G;obtain⟨L,rfl⟩:=(show ∃t,u=Value.str f t from J);refine⟨by rw[zM2,zM2,zO4];lia,zU0 (thn (B pins s2 σ D _ o v) λu s3 ⟨z,r,A,p,i,n,O,E⟩=>?_)⟩;subst n;obtain⟨t3,rfl⟩:=(show ∃t,u=Value.str i t from p);have l:(Str.empty++g++f++i).length<=sizeLine:=by rw[zM2,zM2,zM2,zO4];lia
 exact⟨l,joinParts_nil ⟨.str (Str.empty++g++f++i),r,A.tok _,⟨_,rfl⟩,E⟩ l⟩
def ni {i:Int}(h:i.natAbs.log2<1920):(Str.ofString (toString i)).length<=10000:=by
 have e:=int_text_length_le (k:=1920) (by decide) h;rw[PySem.ofString_length];lia
structure XS (K:Ae)(S:Ab):Prop where
 rd:PySem.W.readsIn K S (.type "type")=true
 fi:PySem.W.findCls K (.ref S) (.type "type") "__init__"=some (.val (.builtin "ValueError.__init__"))
 ga:PySem.W.specialIn K (.ref S) "__getattribute__"=some (some (.builtin "type.__getattribute__"))
theorem za9 {pl:Sem Bool}{sn:Str}{S:Ab}{init:Option Ac}{p apos:Pos}{e:Ai}{g:List Ai}{r:TA}(z:Gl X sn)(hm:X.mg sn=some (.ref S))(xs:XS X.K S)(c:xQ X.K C S init=true)(ha:PA X (e::g) r)(k:(sn == ("__debug__":Str))=false:=by decide)
  (l:Ad (e::g) X.env=(false,eval e X.env)::Ad g X.env:=by rfl) (hpl:(backTo pos (Ad g X.env)).any (·.1)=false:=by rfl)
  (ht:eval (.Call (.Attribute (.Name sn p) "__init__" apos) (e::g) [] pos) X.env=(do
   let ov <-eval (.Name sn p) X.env
   standAt apos.atName
   let(f,first) <-holding [ov] (getMethod ov "__init__" pl)
   callWith pos f first (backTo pos (Ad (e::g) X.env)) (backToKw pos (keywordEach [] X.env))):=by rfl):
  PE X (.Call (.Attribute (.Name sn p) "__init__" apos) (e::g) [] pos) (λσ H Q=>r σ H λvs H1=>∃a rest d,vs=.ref a::rest/\rest.length<=100/\H1 a=some (xcF a C d)/\Q .non H1):=by
 intro pins s σ H Q I h;refine zP6 (pl:=pl) (xu I z hm ?_ k) ht;refine PySem.W.method_cls I.kIn xs.ga (PySem.W.cls_value I.kIn xs.rd xs.fi (by decide +kernel) ?_);refine PyProof.Rows.callWith_builtin1 (thn (ha pos pins _ σ H _ (I.tok (s.toks+1)) h) λus s1 m=>?_) l hpl;obtain⟨vs,H1,n,i,a,rest,d,ev,B,j,q⟩:=m;subst ev;obtain⟨t,w⟩:=n.xat j;cases i with
 |@cons _ u _ us r0 i=>
  obtain rfl:u=Value.ref a:=r0;obtain⟨D,g1,A,t1,E⟩:=s1;refine jn n.kIn c w (by have:=i.length;lia) λh' t' hk he=>?_;have v:=n.write (x:=a) (e:=a) (o:=xcF a C d) (h':=h') (t':=t1) (by rw[j];exact True.intro) (.inl rfl) (λb u y q=>hk b u y q) ⟨_,he⟩ (jT he);rw[cO j]at v;exact⟨.non,H1,v,rfl,q⟩
def Inv.xput {h':Ao}{t':Nat}{dx t:Ab}{f:Str}{y:V}{u:Ac}(I:Inv X pins σ H s)(i:H a=some (xcF a C none))(j:s.heap.objs.size<=dx)(hk:∀b o,b≠a->s.heap.get? b=some o->h'.get? b=some o)(he:h'.get? a=some (vD C t (some dx)))(hn:h'.Ns1 dx (λz=>if z=f then some u else none))(m:RelV y u):
  Inv X pins σ (upd (upd H dx (.xd [(f,y)])) a (xcF a C (some dx))) {s with heap:=h',toks:=t'}:=by
 have hf:H dx=none:=I.hok.fresh j;have p:dx≠a:=λz=>by rw[z,i]at hf;cases hf
 have lt:∀{b:Ab} {o:Obj},s.heap.get? b=some o->b≠dx:=λ{b o} q z=>absurd (zI9 q) (by rw[z];exact Nat.not_lt.mpr j);have na:∀{b:Ab},H b=none->b≠a:=λ{b} n z=>by rw[z,i]at n;cases n
 have nn:∀{b:Ab} {o:HO},H b=some o->b≠dx:=λ{b o} q z=>by rw[z,hf]at q;cases q
 have h:∀{b:Ab} {o:HO},H b=some o->b≠a->(upd (upd H dx (.xd [(f,y)])) a (xcF a C (some dx))) b=some o:=λ{b o} q z=>by rw[zm z,zm (nn q)];exact q
 refine I.un ⟨λb o q n _ _=>hk b o (na n) q,λb o q n _ _=>⟨o.slots,hk b o (na n) q⟩,λb o q n _=>by rw[zm (na n),zm (lt q)];exact n,λb o q _=>?_,λb xs q=>h q (λz=>by rw[z,i]at q;cases q),λb o u q=>h q (λz=>by rw[z,i]at q;cases q),λb ps q=>⟨#[],by rw[Array.append_empty];exact h q (λz=>by rw[z,i]at q;cases q)⟩⟩ λb o q=>?_
 .by_cases z:b=a
  .subst z;exact⟨_,he⟩
  .exact⟨o,hk b o z q⟩
 .by_cases z:b=a
  .subst z;rw[zk]at q;cases q;exact jT he
  .rw[zm z]at q;by_cases z2:b=dx
   .subst z2;rw[zk]at q;cases q;refine⟨_,hn,λg=>?_⟩;show vZ (([(f,y)]:List (Str×V)).lookup g) (if g=f then some u else none);by_cases l:g=f
    .subst l;rw[if_pos rfl];simp only[zL1,beq_self_eq_true];exact m
    .rw[if_neg l];have:(g == f)=false:=by simpa using l
     simp only[zL1,this,List.lookup_nil];trivial
   .rw[zm z2]at q;refine(I.hok b o q).stay (λc v k e=>hk c v ?_ e) (λc e=>h e (λz=>by rw[z,i]at e;cases e)) λc xs e=>h e (λz=>by rw[z,i]at e;cases e);rcases k with rfl|k
    .exact z
    .intro z3;rw[z3,i]at k;cases k
def zj6 {o value:Ai}{k l:TE}{f:Str}{S:Ab}{init:Option Ac}{pos':Pos}(ha:PE X o k)(p:PE X value l)(c:XC X.K C S init)(hn:PySem.W.findIn X.K (.ref C) f=some none)(r:swapsWith value (some (.Attribute o f pos')) pos.line X.env=pure false:=by rfl):
  PS X (.Assign [.Attribute o f pos'] value pos) (λD σ H=>l σ H λy H1=>k σ H1 λx g=>∃a,x=.ref a/\g a=some (xcF a C none)/\∀dx,g dx=none->dx≠a->D.nx σ (upd (upd g dx (.xd [(f,y)])) a (xcF a C (some dx)))):=by
 intro pins s σ H D I h;refine plainObj_wpAny_Assign_Attribute (thn (p pins s σ H _ I h) λu s1 ⟨y,H1,E,A,q⟩=>thn (ha pins s1 σ H1 _ E q) λw s2 ⟨x,g,e,v,a,ex,i,B⟩=>?_) r;subst ex;obtain rfl:w=Value.ref a:=v;obtain⟨t,m⟩:=e.xat i;obtain⟨L,g2,G,F,J⟩:=s2;refine zF3 e.kIn c.ok c.sa hn m λh' dx n b hk he j=>⟨σ,_,e.xput i b hk he j A,B dx (e.hok.fresh b) λz=>?_⟩;have:=e.hok.fresh b;rw[z,i]at this;cases this
end
section
variable {prog:Ah}{w:Ak}{A:Ap}{E:Ac->Af->Prop}{h:Ao}{g:Array GenState}{d:Drawn}{t:Nat}{os:OsState}
variable {nm q:Str}{C N:Ab}{bs bm bmB:List Ac}{hdct:Bool}{sn:List Str}{sub:List Ac}{ab:Bool}{col:Option Bool}{dd:Option Ab}{k0 k1 k2 k3 k5:Option Ac}{B Bn newId nid initId inN:String}{bmN:List Ac}
def nY (n:ExcBaseFacts Bn newId inN bmN)(l:bmB.contains (.type Bn)=true)(F:ExcBaseFacts B nid initId bmB)(T:OwnTail h bmB bm){s:Str->Option Ac}{rest:List Ac}{Q:Fin->Af->Prop}
  (k:h.get? C=some (excClassObj nm q C N bs bm hdct sn sub ab col dd k0 k1 k2 k3 k5 newId)) (hn:h.Ns N s) (m:s "__init__"=none)
  (v:∀h' t',(∀b o,h.get? b=some o->h'.get? b=some o)->h'.get? (h.objs.size+1)=some (vD C t' none)->Q (.done (.ret (.ref (h.objs.size+1)))) ⟨h',g,d,t,os⟩) (i:rest.length<=sizeLine):
  Al (Am prog w) A (Builtin.«type.__call__» ⟨.ref C::rest,[]⟩) Q E ⟨h,g,d,t,os⟩:=by
 repeat (first|with_reducible refine zO5 k ?_|with_reducible refine wpAny_madeBy_exc k ?_|wp_step)
 refine codeAny_call_builtin_code (zT6 _ n.quiet) (wpAny_check_new_subU n l T k ?_);refine codeAny_exc_new_subU n l F T k ?_ i;show Al _ _ _ _ _ ⟨xP h C rest,g,d,t,os⟩;have keep:∀b o,h.get? b=some o->(xP h C rest).get? b=some o:=λb o e=>zI2 _ (zI2 _ e);have a:=keep _ _ k;have j:(xP h C rest).Ns N s:=let⟨o,es,ep,e,r⟩:=hn;⟨o,es,ep,keep _ _ e,r⟩;have c:(xP h C rest).get? (h.objs.size+1)=some (vD C h.objs.size none):=by unfold xP;heap_get
 have p:(Value.ref C::bm).contains (.ref C)=true:=by simp
 have f:=T.keeps keep;unfold isInstance
 repeat (first|with_reducible refine zO5 c ?_|(with_reducible refine wpAny_isSubtype_exc a ?_;rw[p])|wp_step)
 show Al _ _ (typeLookup (.ref C) _) _ _ _;refine wpAny_typeLookup_tail a j f F.mroIs F.init.lookup ?_;rw[m];refine zQ3 (zI0 (wpAny_of_eq (F.init.bind _) ?_));refine zI0 (zP1 (zS4 F.init.plain F.initEntry (wpAny_check_init_subU F f a c rfl ?_)))
 wp_walk
 refine v _ (xP h C rest).objs.size (λb o u=>?_) ?_
 .rw[zK1 _ _ (zT2 (zU4 (zI9 u)))];exact zI2 _ (keep _ _ u)
 .rw[zN8 _ (zI2 _ c) rfl];rfl
def zs7 (k:ExcBaseFacts Bn newId inN bmN)(f:bmB.contains (.type Bn)=true)(F:ExcBaseFacts B nid initId bmB)(T:OwnTail h bmB bm){i:Str->Option Ac}{rest:List Ac}{Q:Ac->Af->Prop}
  (c:h.get? C=some (excClassObj nm q C N bs bm hdct sn sub ab col dd k0 k1 k2 k3 k5 newId)) (hn:h.Ns N i) (e:i "__init__"=none)
  (j:∀h' t',(∀b o,h.get? b=some o->h'.get? b=some o)->h'.get? (h.objs.size+1)=some (vD C t' none)->Q (.ref (h.objs.size+1)) ⟨h',g,d,t,os⟩) (a:rest.length<=sizeLine):
  Al (Am prog w) A (call (.ref C) rest) Q E ⟨h,g,d,t,os⟩:=by
 have f1:=tc_lookup;have f2:=tc_bind (.ref C);have l:(⟨h,g,d,t,os⟩:Af).TypeIs (.ref C) "type":=⟨_,c,rfl⟩;refine zP1 (codeAny_of_tree ?_);show Al _ _ (callAny (.ref C) _) _ _ _
 repeat (any_goals (first|assumption|with_reducible refine zO5 c ?_|wp_step))
 refine⟨rfl,?_⟩;exact codeAny_call_builtin_at (zT6 _ (by decide +kernel)) entry_typeCall (wpAny_check_type_call_sub c (nY k f F T c hn e j a))
end
section
variable {X:Cx}{pins:List (Ab×Obj)}{σ:St}{H:Hp}{s:Af}{k:Nat}{f C S:Ab}{fd:Ag}{ps:List Str}{sp:Sp}{x:Str}{p pos:Pos}{e:Ai}{es:List Ai}{t:TA}
def Inv.xmade {h':Ao}{t':Ab}(I:Inv X pins σ H s)(hk:∀b o,s.heap.get? b=some o->h'.get? b=some o)(he:h'.get? (s.heap.objs.size+1)=some (vD C t' none)):Inv X pins σ (upd H (s.heap.objs.size+1) (xcF (s.heap.objs.size+1) C none)) {s with heap:=h'}:=
 I.laid (t':=s.toks) hk (zP7 _) (jT he)
theorem zb8 (c:xQ X.K C S (some (.ref f))=true)(E:PySem.W.typeIn X.K (.ref f)=some (.type "function"))(kp:PySem.W.keepIn X.K (.ref C)=true)(F:zG X.prog X.w X.K X.mg X.base CX0 k f fd ps sp)(hr:zO (k+1) X.A)(U:Gl X x)(hm:X.mg x=some (.ref C))(hb:Binds X.K fd ps [])
  (ha:PA X (e::es) t) (B:(x == ("__debug__":Str))=false:=by decide) (he:Ad (e::es) X.env=(false,eval e X.env)::Ad es X.env:=by rfl) (hpl:(backTo pos (Ad es X.env)).any (·.1)=false:=by rfl):
  PE X (.Call (.Name x p) (e::es) [] pos) (λσ H Q=>t σ H λvs H1=>vs.length<=100/\∀a,H1 a=none->sp (.ref a::vs) (upd H1 a (xcF a C none)) (λv Z=>v=.non/\Q (.ref a) Z) E0):=by
 intro pins s σ H Q I h;refine zO0 (xu I U hm ?_ B);refine zO1 (h₀:=X.base) I.ok.mod.kin kp (thn (ha pos pins s σ H _ I h) λus s1 D=>?_) he hpl;obtain⟨vs,H1,m,r,lv,q⟩:=D;refine⟨m.kIn,?_⟩;obtain⟨nm,qn,N,bs,sn,sub,ab,col,dd,k0,k1,k2,k3,k5,mN,R,L,hi,T,_⟩:=yW m.kIn c;obtain⟨oI,Y,cI⟩:=zL3.mp E;have y:=m.kIn _ _ Y;have M:=r.length;have G:=q (s1.heap.objs.size+1) (m.hok.fresh (zP7 _));obtain⟨h0,g,d,tk,os⟩:=s1;refine zB6 zO3 (by decide +kernel) zO3 T R L hi y cI ?_ (by show us.length<=_;rw[zO4];exact zn7 M lv);have keep:∀b o,h0.get? b=some o->(xP h0 C us).get? b=some o:=λb o e=>zI2 _ (zI2 _ e);have l:(xP h0 C us).get? (h0.objs.size+1)=some (vD C h0.objs.size none):=by unfold xP;heap_get
 have z:=m.xmade (h':=xP h0 C us) keep l;have J:Vals (V.ref (h0.objs.size+1)::vs) (Value.ref (h0.objs.size+1)::us):=.cons rfl r;have n:(Value.ref (h0.objs.size+1)::us++[]).length=ps.length:=by
  have e:=J.length;rw[F.len _ _ _ _ G]at e;rw[zJ5];exact e.symm
 have j:=hb _ (Value.ref (h0.objs.size+1)::us) z.kIn n;rw[zJ5]at j;refine zP1 (zP9 (F.run _ X.stack _ _ ⟨Value.ref (h0.objs.size+1)::us,[]⟩ _ _ _ E0 (hr.make C us []) (z.env0.make C us []) j J G) λr s' i=>?_);cases r with
 |error e=>exact(i:False).elim
 |ok fl=>
  cases fl with
  |ret u=>
   obtain⟨v,H',P,O,ev,q3⟩:=z.after i;subst ev;exact⟨O,⟨V.ref (h0.objs.size+1),H',P,rfl,q3⟩⟩
  |next=>exact False.elim i
  |brk=>exact False.elim i
  |cont=>exact False.elim i
def df (c:xQ X.K C S none=true)(kp:PySem.W.keepIn X.K (.ref C)=true)(u:Gl X x)(hm:X.mg x=some (.ref C))
  (ha:PA X (e::es) t) (i:(x == ("__debug__":Str))=false:=by decide) (he:Ad (e::es) X.env=(false,eval e X.env)::Ad es X.env:=by rfl) (hpl:(backTo pos (Ad es X.env)).any (·.1)=false:=by rfl):
  PE X (.Call (.Name x p) (e::es) [] pos) (λσ H Q=>t σ H λvs H1=>vs.length<=100/\∀a,H1 a=none->Q (.ref a) (upd H1 a (xcF a C none))):=by
 intro pins s σ H Q I h;refine zO0 (xu I u hm ?_ i);refine zO1 (h₀:=X.base) I.ok.mod.kin kp (thn (ha pos pins s σ H _ I h) λus s1 j=>?_) he hpl;obtain⟨vs,H1,b,r,lv,q⟩:=j;refine⟨b.kIn,?_⟩;obtain⟨nm,y,N,bs,sn,sub,ab,col,dd,k0,k1,k2,k3,k5,w,o,l,hi,T,_⟩:=yW b.kIn c;have m:=r.length;have n:=q (s1.heap.objs.size+1) (b.hok.fresh (zP7 _));obtain⟨h0,g,d,v,os⟩:=s1;refine zs7 zO3 (by decide +kernel) zO3 T o l hi (λh' t' hk he=>?_) (by show us.length<=_;rw[zO4];exact zn7 m lv);exact⟨.ref (h0.objs.size+1),_,b.xmade hk he,rfl,n⟩
def mn {X0:Cx}{R:St->Ab->Hp->Prop}{j:TE}{init:Option Ac}(c:xQ X0.K C S init=true)(m:X0.calm=true)(he:PE (X0.wish (XE X0 R)) e j):
  PS (X0.wish (XE X0 R)) (.Raise (some e) none pos) (λD σ H=>j σ H λx H1=>∃a d,x=.ref a/\H1 a=some (xcF a C d)/\R σ a (upd H1 a (xcO a C d))):=by
 intro pins s σ H D I h;show Al _ _ (do standAt pos;raiseStmt X0.env (some (do let v <-eval e X0.env;standAt pos;pure v)) none) _ _ _;obtain⟨nm,o,N,bs,sn,sub,ab,col,dd,k0,k1,k2,k3,k5,u,y,w,hi,T,_,_,_,_,n⟩:=yW I.kIn c;refine zI0 (zS6 (zs9 (C:=C) (nm:=nm) (q:=o) (N:=N) (bs:=bs) (bm:=.ref S::bmV) (hdct:=true) (sn:=sn) (sub:=sub) (ab:=ab) (col:=col) (dd:=dd) (k0:=k0) (k1:=k1) (k2:=k2) (k3:=k3) (k5:=k5) (newId:="ValueError.__new__") (T.hasType zO3.hasBase) (I.ok.hd m) (zI0 (thn (he pins s σ H _ I h) λv s1 b=>?_))));obtain⟨x,H1,g,l,a,d,ex,i,r⟩:=b;refine zI0 (zS6 (zJ3 ?_));subst ex;obtain rfl:v=Value.ref a:=l;obtain⟨t',ha⟩:=g.xat i;exact⟨a,t',d,rfl,g.kIn _ _ n,ha,⟨σ,_,a,rfl,(g.xthaw i).unwish.nopins,⟨C,d,zk⟩,.new ha rfl rfl,r⟩⟩
end
abbrev Cx.held (X:Cx)(pins:List (Ab×Obj)):Cx:={X with pn:=X.pn++pins}
abbrev Cx.suite (X:Cx)(a:Ab):Cx:={X with A:=X.A.mark (some (.ref a)),calm:=false,xe:=λ_ _=>False}
section
variable {X:Cx}{pins:List (Ab×Obj)}{σ:St}{H:Hp}{s:Af}{a:Ab}{D:Ends}{f:Flow}
theorem Inv.held (I:Inv X pins σ H s):Inv (X.held pins) [] σ H s:=
 ⟨⟨I.ok.mod,I.ok.kind,I.ok.glob,I.ok.blt,I.ok.above,I.ok.inj,I.ok.has,I.ok.cab,I.ok.hd,I.ok.frames,I.ok.stk,I.ok.exf,I.ok.bs,I.ok.bsz,I.ok.noex,I.ok.exfs,I.ok.funs,I.ok.frf⟩,I.os,I.bare,I.base,I.loc,I.cell,I.free,I.freeC,λp hp=>I.pin p (by simpa using hp),I.hok,I.len⟩
def Inv.unheld (I:Inv (X.held pins) [] σ H s):Inv X pins σ H s:=
 ⟨⟨I.ok.mod,I.ok.kind,I.ok.glob,I.ok.blt,I.ok.above,I.ok.inj,I.ok.has,I.ok.cab,I.ok.hd,I.ok.frames,I.ok.stk,I.ok.exf,I.ok.bs,I.ok.bsz,I.ok.noex,I.ok.exfs,I.ok.funs,I.ok.frf⟩,I.os,I.bare,I.base,I.loc,I.cell,I.free,I.freeC,λp hp=>I.pin p (by simpa using hp),I.hok,I.len⟩
theorem Inv.suite (I:Inv X pins σ H s):Inv (X.suite a) pins σ H s:=
 ⟨⟨I.ok.mod,I.ok.kind,I.ok.glob,I.ok.blt,I.ok.above,I.ok.inj,I.ok.has,I.ok.cab,(λz=>nomatch z),I.ok.frames,I.ok.stk,I.ok.exf,I.ok.bs,I.ok.bsz,I.ok.noex,I.ok.exfs,I.ok.funs,I.ok.frf⟩,I.os,I.bare,I.base,I.loc,I.cell,I.free,I.freeC,I.pin,I.hok,I.len⟩
def Inv.unsuite (J:Inv X [] σ H s){b:St}{H':Hp}{s':Af}(I:Inv (X.suite a) pins b H' s'):Inv X pins b H' s':=
 ⟨J.ok,I.os,I.bare,I.base,I.loc,I.cell,I.free,I.freeC,I.pin,I.hok,I.len⟩
theorem SP.held {E:Ac->Af->Prop}(h:SP ((X.held pins).wish E) [] D f s):SP X pins D f s:=by
 cases f with
 |next=>obtain⟨b,H',I,q⟩:=h;exact⟨b,H',I.unwish.unheld,q⟩
 |brk=>obtain⟨b,H',I,q⟩:=h;exact⟨b,H',I.unwish.unheld,q⟩
 |cont=>obtain⟨b,H',I,q⟩:=h;exact⟨b,H',I.unwish.unheld,q⟩
 |ret u=>obtain⟨v,b,H',I,r,q⟩:=h;exact⟨v,b,H',I.unwish.unheld,r,q⟩
def Inv.gone {M:Model}{A:Ap}{E:Ac->Af->Prop}{Q:Unit->Af->Prop}{i:Nat}{n:Str}{pos:Pos}(I:Inv X pins σ H s)(P:X.N.Nodup)(hi:X.N[i]?=some n)(S:X.env.scope.names.lookup n=some .local)
  (h:∀s',Inv X pins (σ.set i none) H s'->Q () s'):Al M A (do bindName X.env n .none;unbindBehindTheSuite X.env n pos) Q E s:=by
 obtain⟨m,hn,B⟩:=id I.loc;have t:(X.env.scope.kind == .class||(X.env.scope.kind == .module&&X.env.locals != X.env.globals))=false:=by rw[I.ok.kind];rfl
 have u:i<σ.length:=by rw[I.len];exact(zH9.mp hi).1
 have cne:=I.cne;refine wpAny_nameGoes_keeps S hn t λh' v G g=>?_;obtain⟨U,_,_,K,_⟩:=id hn;have nl:∀{b:Ab} {o:Obj},X.s₀.heap.get? b=some o->b≠X.env.locals:=λ{b o} e=>zK8 (zJ6 (zI9 e) I.ok.above);refine h _ ⟨I.ok,I.os,I.bare,⟨λb o e n C r=>(g.2 b (nl e)).trans (I.base.keep b o e n C r),λb o e n C r=>?_,I.base.free,λb o e r=>?_,I.base.tups,I.base.frzs,I.base.tbls⟩,⟨_,G,λj y R l w T=>?_⟩,λy c e=>?_,I.free,I.freeC,λp hp=>?_,λb ob e=>?_,by simpa using I.len⟩
 .obtain⟨sl,l⟩:=I.base.slot b o e n C r;exact⟨sl,(g.2 b (nl e)).trans l⟩
 .obtain⟨o',l⟩:=I.base.there b o e r;exact⟨o',(g.2 b (nl e)).trans l⟩
 .by_cases F:j=i
  .subst F;rw[zJ9 u]at w;cases w
  .rw[zI4 (zO2 F)]at w;obtain⟨O,L,q⟩:=B j y R l w T;refine⟨O,L,?_⟩;rcases q with⟨k,e⟩|⟨k,c,e,z⟩
   .refine .inl ⟨k,?_⟩;have:y≠n:=λe=>F (rY P l (e▸hi));simp[this,e]
   .exact .inr ⟨k,c,e,z.sameBut g (cne y c e)⟩
 .obtain⟨J,z⟩:=I.cell y c e;exact⟨J,z.sameBut g (cne y c e)⟩
 .obtain⟨e,n,ne,nf,d⟩:=I.pin p hp;exact⟨(g.2 p.1 ne).trans e,n,ne,nf,d⟩
 .refine(I.hok b ob e).stay (λc J x q=>(g.2 c ?_).trans q) (λ_ q=>q) λ_ _ q=>q;rintro rfl;rcases x with rfl|x
  .rw[I.free]at e;cases e
  .rw[I.free]at x;cases x
def Inv.caught {R:St->Ab->Hp->Prop}{g:Ac->Af->Prop}{Q:Flow->Af->Prop}{e:Ac}{o:List ExceptHandler}(b:X.stack=X.env::X.outer)(h:XE X R e s)
  (k:∀σ H a T s',Inv X [] σ H s'->(∃C d,H a=some (xcO a C d))->R σ a H->H T=none->X.s₀.heap.get? T=none->(∀p∈X.pn,p.1≠T)->Ent s'.heap X.base a T .none->Al (Am X.prog X.w) X.A (handleBy (.ref a) X.env o) Q g s'):
  Al (Am X.prog X.w) X.A (noteFrame e X.env) (λ_ s₂=>Al (Am X.prog X.w) X.A (setFlight e none) (λ_ c=>Al (Am X.prog X.w) X.A (handleBy e X.env o) Q g c) g s₂) g s:=by
 obtain⟨σ,H,a,rfl,I,ha,f,r⟩:=h;refine I.note b ha f λh' T q m l n t=>?_;refine q.flight (fo:=none) b ha m l (by simpa using n) t λu j i=>?_;exact k σ H a T _ j ha r m l n i
theorem oE {P:Ah}{w:Ak}{h:Ao}{C:Ab}{d:Option Ab}(hok:HOk P w H h)(e:H a=some (xcO a C d))(hd:∀dx,d=some dx->∃fs,H dx=some (.xd fs)):∃ox od,PySem.W.InstAt h a ox C od/\od.isSome=d.isSome:=by
 obtain⟨⟨o,vs,c,b,g,i⟩,_⟩:=hok a _ e;cases d with
 |none=>exact⟨o,none,gF c b ⟨vs,i⟩ (by rw[g];trivial),rfl⟩
 |some dx=>
  obtain⟨fs,j⟩:=hd dx rfl;obtain⟨mA,⟨od,l,m,k,_⟩,_⟩:=hok dx _ j;exact⟨o,some od,gF c b ⟨vs,i⟩ (by rw[g];exact k),rfl⟩
end
section
variable {X:Cx}{body suite:List An}{b0:An}{x n:Str}{np hpos pos:Pos}{B:Ab}
def pX (K:Ae)(B:Ab)(R:St->Ab->Hp->Prop):Prop:=∀σ a H,R σ a H->∃C d,H a=some (xcO a C d)/\(∀dx,d=some dx->∃fs,H dx=some (.xd fs))/\XB K C B
def lE {R:St->Ab->Hp->Prop}{i:Nat}(w:X.stack=X.env::X.outer)(t:X.N.Nodup)(hi:X.N[i]?=some n)(p:X.env.scope.names.lookup n=some .local)(O:Gl X x)(hm:X.mg x=some (.ref B))(hR:pX X.K B R)(A:(x == ("__debug__":Str))=false:=by decide):
  PS X (.Try body [.ExceptHandler (some (.Name x np)) (some n) (b0::suite) hpos] [] [] pos) (λD σ H=>(∀pins,uU ((X.held pins).wish (XE (X.held pins) R)) body D σ H)/\
   ∀pins a c H',R c a H'->uU ((X.held pins).suite a) (b0::suite) {nx:=λb g=>D.nx (b.set i none) g,rt:=D.rt,bk:=λb g=>D.bk (b.set i none) g,ct:=λb g=>D.ct (b.set i none) g} (c.set i (some (.ref a))) H'):=by
 rintro pins s σ H D I ⟨h1,Z⟩;obtain⟨tb,Y,qb⟩:=h1 pins;refine wpAny_Try_except (zK3 (Y [] s σ H D (I.held.wish _) qb) (λf s1 hf=>?_) λe s1 F=>?_)
 .have hf:=SP.held hf;cases f with
  |next=>exact zS8 hf
  |brk=>exact hf
  |cont=>exact hf
  |ret u=>exact hf
 .refine Inv.caught (X:=X.held pins) w F λc H' a T s' y ha r t1 E t3 ent=>?_;obtain⟨C,d,M,hd,W⟩:=hR c a H' r;refine wpAny_handleBy_cons (codeAny_handlers_test (xu (y.suite (a:=a)) O hm ?_ A)) (by intro q;cases q);obtain⟨ox,od,J,_⟩:=oE y.hok M hd;obtain⟨h',g',d',V,Q⟩:=s';refine zb7 y.kIn W J (codeAny_handlers_suite_as ?_);refine y.flight (fo:=none) w ha t1 E (by simpa using t3) ent λP h _=>?_;refine rX h t hi (Or.inl p) (v:=.ref a) rfl (λs2 U=>?_) (.inr p);obtain⟨ts,G,S⟩:=Z pins a c H' r;refine zK3 (G [] s2 _ H' _ U.suite S) (λf s3 hf=>?_) λ_ _ z=>(z:False).elim;cases f with
  |next=>
   obtain⟨k,m,j,o⟩:=hf;exact(h.unsuite j).gone t hi p λs4 l=>⟨_,m,l.unheld,o⟩
  |brk=>
   obtain⟨k,m,j,o⟩:=hf;exact(h.unsuite j).gone t hi p λs4 l=>⟨_,m,l.unheld,o⟩
  |cont=>
   obtain⟨k,m,j,o⟩:=hf;exact(h.unsuite j).gone t hi p λs4 l=>⟨_,m,l.unheld,o⟩
  |ret u=>
   obtain⟨v,k,m,j,L,o⟩:=hf;exact(h.unsuite j).gone t hi p λs4 l=>⟨v,_,m,l.unheld,L,o⟩
def zt1 {R:St->Ab->Hp->Prop}(k:X.stack=X.env::X.outer)(N:Gl X x)(hm:X.mg x=some (.ref B))(S:pX X.K B R)(m:(x == ("__debug__":Str))=false:=by decide):
  PS X (.Try body [.ExceptHandler (some (.Name x np)) none (b0::suite) hpos] [] [] pos) (λD σ H=>(∀pins,uU ((X.held pins).wish (XE (X.held pins) R)) body D σ H)/\
   ∀pins a b H',R b a H'->uU ((X.held pins).suite a) (b0::suite) D b H'):=by
 rintro pins s σ H D I ⟨G,F⟩;obtain⟨U,y,M⟩:=G pins;refine wpAny_Try_except (zK3 (y [] s σ H D (I.held.wish _) M) (λf s1 hf=>?_) λe s1 p=>?_)
 .have hf:=SP.held hf;cases f with
  |next=>exact zS8 hf
  |brk=>exact hf
  |cont=>exact hf
  |ret u=>exact hf
 .refine Inv.caught (X:=X.held pins) k p λb H' a T s' l ha r t1 o t3 ent=>?_;obtain⟨C,d,L,hd,w⟩:=S b a H' r;refine wpAny_handleBy_cons (codeAny_handlers_test (xu (l.suite (a:=a)) N hm ?_ m)) (by intro q;cases q);obtain⟨ox,od,J,_⟩:=oE l.hok L hd;obtain⟨h',g',d',t,P⟩:=s';refine zb7 l.kIn w J (codeAny_handlers_suite ?_);refine l.flight (fo:=none) k ha t1 o (by simpa using t3) ent λO c _=>?_;obtain⟨ts,A,Q⟩:=F pins a b H' r;refine zK3 (A [] _ _ H' _ c.suite Q) (λf s3 hf=>?_) λ_ _ z=>(z:False).elim;cases f with
  |next=>
   obtain⟨i,g,h,j⟩:=hf;exact⟨_,g,(c.unsuite h).unheld,j⟩
  |brk=>
   obtain⟨i,g,h,j⟩:=hf;exact⟨_,g,(c.unsuite h).unheld,j⟩
  |cont=>
   obtain⟨i,g,h,j⟩:=hf;exact⟨_,g,(c.unsuite h).unheld,j⟩
  |ret u=>
   obtain⟨v,i,g,h,E,j⟩:=hf;exact⟨v,_,g,(c.unsuite h).unheld,E,j⟩
end
def xD (C:Ab)(fs:List (Aa×Aa)):Aa:=.dict ((.int (C:Nat),.bool true)::fs)
def xD0 (C:Ab):Aa:=.dict [(.int (C:Nat),.bool false)]
section
variable {G:Hp}{v:V}{C:Ab}{ds:List (Aa×Aa)}
theorem AV.xc_inv (h:AV G v (xD C ds)):∃a dx fs,v=.ref a/\G a=some (xcO a C (some dx))/\G dx=some (.xd fs)/\AVf G fs ds:=by
 generalize e:xD C ds=d at h;cases h with
 |@xc a C' dx fs ds' h1 h2 h3=>
  unfold xD at e;injection e with e;injection e with b c;injection b with b _;injection b with b;have:C=C':=by exact_mod_cast b
  subst this;subst c;exact⟨a,dx,fs,rfl,h1,h2,h3⟩
 |_=>simp[xD]at e
theorem AV.xn_inv (h:AV G v (xD0 C)):∃a,v=.ref a/\G a=some (xcO a C none):=by
 generalize e:xD0 C=d at h;cases h with
 |@xn a C' h1=>
  unfold xD0 at e;injection e with e;injection e with b c;injection b with b _;injection b with b;have:C=C':=by exact_mod_cast b
  subst this;exact⟨a,rfl,h1⟩
 |_=>simp[xD0]at e
end
def isX (C:Ab)(d:Aa):Prop:=(∃fs,d=xD C fs)\/d=xD0 C
def isX.at {G:Hp}{v:V}{C:Ab}{d:Aa}(x:isX C d)(h:AV G v d):∃a dx,v=.ref a/\G a=some (xcO a C dx)/\∀y,dx=some y->∃fs,G y=some (.xd fs):=by
 rcases x with⟨fs,rfl⟩|rfl
 .obtain⟨a,dx,f,rfl,b,c,_⟩:=h.xc_inv;exact⟨a,some dx,rfl,b,λy e=>by cases e;exact⟨f,c⟩⟩
 .obtain⟨a,rfl,b⟩:=h.xn_inv;exact⟨a,none,rfl,b,λy e=>by cases e⟩
def M.reidx {F:Fr}{L b:Ev}{σ g:St}{H:Hp}(m:M F L σ H)(f:Nat->Nat)(u:b.length=g.length)(hf:∀(k:Nat) a s,b[k]?=some (some a)->g[k]?=some s->L[f k]?=some (some a)/\σ[f k]?=some s)(inj:∀(k t:Nat) a a',b[k]?=some (some a)->b[t]?=some (some a')->f k=f t->k=t):M F b g H:=by
 have ow:∀{y:Ab},Ow F b g y->Ow F L σ y:=λ{y} h=>by
  rcases h with z|⟨i,c,s,n,j,fo⟩
  .exact .inl z
  .obtain⟨g1,g2⟩:=hf i c s n j;exact .inr ⟨_,c,s,g1,g2,fo⟩
 have A:zu (Gz F L σ H) (Gz F b g H):=zj λa o h e=>⟨λz=>h (ow z),e⟩;refine⟨u,λi c s n j=>?_,λi p c d s s' x n j w v f1 f2=>?_,λi r q e p c s x n j fo=>?_,m.tp,m.keep,m.oex⟩
 .obtain⟨g1,g2⟩:=hf i c s n j;exact(m.ok _ c s g1 g2).stay A (λx o fo e=>⟨e,(m.ft g1 g2 fo).1,(m.ft g1 g2 fo).2.1⟩) rfl λ_ _ _ l=>l
 .obtain⟨g1,g2⟩:=hf i c s n w;obtain⟨k1,k2⟩:=hf p d s' j v;exact inj i p c d n j (m.dj _ _ c d s s' x g1 k1 g2 k2 f1 f2)
 .have:i<g.length:=by rw[<-u];exact(zH9.mp e).1
  obtain⟨g1,_⟩:=hf i _ _ e (zI5 this);obtain⟨k1,k2⟩:=hf p c s n j;exact m.xd _ r q g1 _ c s x k1 k2 fo
def qo {β:Ev}{b:Option A}{k:Nat}{a:A}(h:(β++[b])[k]?=some (some a)):(k<β.length/\β[k]?=some (some a))\/(k=β.length/\b=some a):=by
 rcases zV5 k β.length with z|z
 .rw[zJ4 z]at h;exact .inl ⟨z,h⟩
 .rw[zJ2 z]at h;obtain⟨j,c⟩:∃j,k-β.length=j:=⟨_,rfl⟩;rw[c]at h;cases j with
  |zero=>simp at h;exact .inr ⟨by lia,h⟩
  |succ j=>simp at h
section
variable {F:Fr}{L αh:Ev}{σ:St}{H:Hp}
def M.grow (m:M F L σ H):M F (L++[none]) (σ++[none]) H:=by
 have c:=m.len;refine m.reidx id (by rw[zI1,zI1,c];rfl) (λk a s d b=>?_) λ_ _ _ _ _ _ e=>e;rcases qo d with⟨z,e⟩|⟨_,e⟩
 .exact⟨e,by rw[zJ4 (zJ6 z (zK7 c))]at b;exact b⟩
 .cases e
def M.snoc {v:V}{b:A}{H':Hp}(m:M F L σ H)(t:zH F H')(k:Kz F H H')(hn:∀x,foot (some v) b x->H x=none)(hok:wt (sub (λx=>¬Ow F L σ x/\¬foot (some v) b x) H') F H' (some v) b)(n:noX b:=by trivial):M F (L++[some b]) (σ++[some v]) H':=by
 have j:=m.len;have mg:=m.grow;have ow:∀{y:Ab},Ow F (L++[none]) (σ++[none]) y->Ow F L σ y:=λ{y} h=>by
  rcases h with z|⟨i,c,s,g,d,fo⟩
  .exact .inl z
  .rcases qo g with⟨z,e⟩|⟨_,e⟩
   .exact .inr ⟨i,c,s,e,by rw[zJ4 (zJ6 z (zK7 j))]at d;exact d,fo⟩
   .cases e
 have m2:=mg.store (i:=L.length) (v:=v) (b:=b) t k hn (hok.stay (zj λa o h e=>⟨⟨λz=>h.1 (ow z),h.2⟩,e⟩) (λx o f e=>by
  obtain⟨w1,w2,_⟩:=sM hok f;exact⟨e,w1,w2⟩) rfl λ_ _ _ l=>l) n
 have g:(L++[none]).set L.length (some b)=L++[some b]:=by rw[zN9 _ _ (zI3 _),zM1]<;>rfl
 have d:(σ++[none]).set L.length (some v)=σ++[some v]:=by rw[zN9 _ _ (zK7 j.symm),j,zM1]<;>rfl
 rw[g,d]at m2;exact m2
def M.len' {b:Option A}{s:Option V}(m:M F (L++[b]) (σ++[s]) H):L.length=σ.length:=by
 have:=m.len;rw[zI1,zI1]at this;exact Nat.add_right_cancel this
def M.init {b:Option A}{s:Option V}(m:M F (L++[b]) (σ++[s]) H):M F L σ H:=by
 have d:=m.len';refine m.reidx id d (λk a t c f=>?_) λ_ _ _ _ _ _ e=>e;have hk:=(zH9.mp c).1;exact⟨by show(L++[b])[k]?=_;rw[zJ4 hk];exact c,by show(σ++[s])[k]?=_;rw[zJ4 (zJ6 hk (zK7 d))];exact f⟩
def M.lastAt {b:A}{v:V}{i:Nat}(m:M F (L++[some b]) (σ++[some v]) H):M F (L.set i (some b)) (σ.set i (some v)) H:=by
 have f:=m.len';have key:∀{k:Nat} {a:A},(L.set i (some b))[k]?=some (some a)->k<L.length/\((k=i/\a=b)\/(k≠i/\L[k]?=some (some a))):=λ{k a} e=>by
  have hk:=(zH9.mp e).1;rw[zK0]at hk;rcases zA e with⟨rfl,z⟩|⟨c,z2⟩
  .cases z;exact⟨hk,.inl ⟨rfl,rfl⟩⟩
  .exact⟨hk,.inr ⟨λw=>c w.symm,z2⟩⟩
 refine m.reidx (λk=>if k=i then L.length else k) (by rw[zK0,zK0];exact f) (λk a s l g=>?_) λk h a o e j z=>?_
 .obtain⟨hk,⟨rfl,rfl⟩|⟨d,e⟩⟩:=key l
  .rw[if_pos rfl];rw[zJ9 (zJ6 hk (zK7 f))]at g;cases g;exact⟨by rw[zJ2 (zI3 _),zM1]<;>rfl,by rw[zJ2 (zK7 f.symm),f,zM1]<;>rfl⟩
  .rw[if_neg d];rw[zI4 (λw=>d w.symm)]at g;exact⟨by rw[zJ4 hk];exact e,by rw[zJ4 (zJ6 hk (zK7 f))];exact g⟩
 .have p:=(key e).1;have n:=(key j).1;by_cases c:k=i
  .by_cases z2:h=i
   .exact c.trans z2.symm
   .rw[if_pos c,if_neg z2]at z;lia
  .by_cases z2:h=i
   .rw[if_neg c,if_pos z2]at z;lia
   .rw[if_neg c,if_neg z2]at z;exact z
def ng {S:Ab->Prop}{G H:Hp}{x:Ab}{o:HO}(h:G x=some o)(a:¬S x)(hn:∀xs,o≠.lst xs):ur S G H x=some o:=by
 unfold ur;rw[if_neg a,h];cases o<;>first|rfl|exact absurd rfl (hn _)
def cb {S:Ab->Prop}{p:Ab->Prop}{H:Hp}{x:Ab}{o:HO}(h:ur S (sub p H) H x=some o):H x=some o:=by
 rcases vY h with⟨_,z⟩|⟨_,z⟩
 .exact z
 .exact(zg z).2
end
structure Xok (X:Cx)(r:Fr)(αh:Ev)(q:Aa->Prop):Prop where
 ex:∃(X0:Cx) (R:St->Ab->Hp->Prop),X=X0.wish (XE X0 R)/\X0.stack=X0.env::X0.outer/\X0.ex=[]/\∀σ d S a H',M r (αh++[some (.deep d S)]) (σ++[some (.ref a)]) H'->q d->R σ a H'
def Xok.own {X:Cx}{r:Fr}{αh:Ev}{q:Aa->Prop}(x:Xok X r αh q):PassesOwn (Am X.prog X.w) X.A X.env X.xe:=by
 obtain⟨X0,R,rfl,a,_⟩:=x.ex;exact zo5 a
section
variable {F:Fr}{L αh:Ev}{σ:St}{H:Hp}
theorem M.exc {j:Nat}{q:Aa->Prop}(m:M F L σ H)(B:L[j]?=some none):M F (L.set j (some (.exc F q))) σ H:=by
 have g:∀{i:Nat} {c:A},(L.set j (some (.exc F q)))[i]?=some (some c)->(i=j/\c=.exc F q)\/L[i]?=some (some c):=λ{i c} e=>by
  rcases zA e with⟨rfl,z⟩|⟨_,t⟩
  .cases z;exact .inl ⟨rfl,rfl⟩
  .exact .inr t
 have ow:∀{y:Ab},Ow F (L.set j (some (.exc F q))) σ y->Ow F L σ y:=λ{y} h=>by
  rcases h with z|⟨i,c,s,b,d,f⟩
  .exact .inl z
  .rcases g b with⟨_,rfl⟩|b
   .exact f.elim
   .exact .inr ⟨i,c,s,b,d,f⟩
 have u:zu (Gz F L σ H) (Gz F (L.set j (some (.exc F q))) σ H):=zj λa o h e=>⟨λz=>h (ow z),e⟩;refine⟨by rw[zK0];exact m.len,λi c s b d=>?_,λi k c w s s' x b d p n f1 f2=>?_,λi r v e k c s x b d f=>?_,m.tp,m.keep,m.oex⟩
 .rcases g b with⟨_,rfl⟩|b
  .exact⟨rfl,λ_ z=>z,m.tp,m.keep⟩
  .exact(m.ok i c s b d).stay u (λx o f e=>⟨e,(m.ft b d f).1,(m.ft b d f).2.1⟩) rfl λ_ _ _ l=>l
 .rcases g b with⟨_,rfl⟩|b
  .exact f1.elim
  .rcases g d with⟨_,rfl⟩|d
   .exact f2.elim
   .exact m.dj i k c w s s' x b d p n f1 f2
 .rcases g b with⟨_,rfl⟩|b
  .exact f.elim
  .rcases g e with⟨_,z⟩|e
   .cases z;exact(m.ft b d f).2.1
   .exact m.xd i r v e k c s x b d f
def M.back {j:Nat}{r:Fr}{q:Aa->Prop}(m:M F L σ H)(n:L[j]?=some (some (.exc r q)))(A:αh.length=L.length)(le:∀(i:Nat) a,αh[i]?=some (some a)->L[i]?=some (some a)/\noX a):M r αh σ H:=by
 have l:=m.lnk n;have ow:∀{y:Ab},Ow r αh σ y->Ow F L σ y:=λ{y} h=>by
  rcases h with z|⟨i,c,s,b,g,f⟩
  .exact .inl (l.o y z)
  .exact .inr ⟨i,c,s,(le _ _ b).1,g,f⟩
 have t:zu (Gz F L σ H) (Gz r αh σ H):=zj λa o h e=>⟨λz=>h (ow z),e⟩;refine⟨A.trans m.len,λi c s b g=>?_,λi p c d s s' x b g=>m.dj i p c d s s' x (le _ _ b).1 (le _ _ g).1,λi u w e=>((le _ _ e).2:False).elim,l.ok,l.k,λx v=>m.oex x (l.o x v)⟩;refine(m.ok i c s (le _ _ b).1 g).stay t (λx o f e=>⟨e,λz=>(m.ft (le _ _ b).1 g f).1 (l.o x z),m.xd j r q n i c s x (le _ _ b).1 g f⟩) l.tp λu w z=>?_;subst z;exact((le _ _ b).2:False).elim
end
def leX :Ev->Ev->Prop:=λαh L=>αh.length=L.length/\∀(i:Nat) a,αh[i]?=some (some a)->L[i]?=some (some a)/\noX a
def leX.nil {n:Nat}{L:Ev}(h:n=L.length):leX (List.replicate n none) L:=⟨by rw[zL5];exact h,λi a e=>by
 rw[zM3]at e;split at e<;>cases e⟩
theorem leX.cons {x y:Option A}{αh L:Ev}(h:x=none\/(x=y/\∀a,x=some a->noX a))(r:leX αh L):leX (x::αh) (y::L):=⟨by rw[zI7,zI7,r.1],λi a e=>by
 cases i with
 |zero=>
  simp at e;rcases h with h|⟨c,b⟩
  .rw[h]at e;cases e
  .subst c;subst e;exact⟨rfl,b _ rfl⟩
 |succ i=>simpa using r.2 i a (by simpa using e)⟩
def leX.nil' :leX [] []:=⟨rfl,λi a e=>by simp at e⟩
def leX.snoc {αh L:Ev}{b:A}(h:leX αh L)(c:noX b):leX (αh++[some b]) (L++[some b]):=⟨by rw[zI1,zI1,h.1],λi a e=>by
 rcases qo e with⟨z,e⟩|⟨z,e⟩
 .rw[zJ4 (by rw[<-h.1];exact z)];exact h.2 i a e
 .cases e;rw[z,h.1,zJ2 (zI3 _),zM1];exact⟨rfl,c⟩⟩
def M.backS {F:Fr}{L αh:Ev}{σ:St}{H:Hp}{j:Nat}{r:Fr}{q:Aa->Prop}{b:A}{v:V}(m:M F (L++[some b]) (σ++[some v]) H)(c:L[j]?=some (some (.exc r q)))(le:leX αh L)(d:noX b):M r (αh++[some b]) (σ++[some v]) H:=by
 have a:(L++[some b])[j]?=some (some (.exc r q)):=by rw[zJ4 (zH9.mp c).1];exact c
 exact m.back a (le.snoc d).1 (le.snoc d).2
def ud {r:Fr}{αh:Ev}{σ:St}{H':Hp}{d:Aa}{S:Ab->Prop}{a:Ab}(m:M r (αh++[some (.deep d S)]) (σ++[some (.ref a)]) H'):cV r (.ref a) H' (.deep d S):=by
 obtain⟨v,b,c,f⟩:=m.deep αh.length d S (by rw[zJ2 (zI3 _),zM1]<;>rfl);rw[m.len',zJ2 (zI3 _),zM1]at b;cases b;exact⟨c.same (wU (zj λa o h e=>⟨ow0 h,e⟩) λ_ _ _ e=>e),f⟩
def spX (φ:List A->(A->Prop)->(Aa->Prop)->Prop):Sp:=λvs H b E=>∃(F:Fr) (as:List A) (Q:A->Prop) (q:Aa->Prop),F.H0=H/\zH F H/\(∀x,F.O0 x->∃o,H x=some o/\yU o)/\zS F (sub (λx=>¬F.O0 x) H) vs as/\φ as Q q/\(∀a v H',Q a->yf F v H' a->b v H')/\∀d S a H',q d->yf F (.ref a) H' (.deep d S)->E (.ref a) none H'
section
variable {P:Ah}{w:Ak}{K:Ae}{mg:Str->Option Ac}{base:Ao}
def fnX {x qual:Str}{st:An}{f:Ab}{fd:Ag}{N ps:List Str}{z:Str}{k:Nat}{φ:List A->(A->Prop)->(Aa->Prop)->Prop}(G:Fun K x qual st f fd)(S:zo (N++[z]) ps (zd st))(D:ps.length<=N.length)(hlen:∀as Q q,φ as Q q->as.length=ps.length)
  (c:∀(cdv:Ac) (g:Ap) (outer:List Ar) (s:Af) (H:Hp) (E:XK) (as:List A) (Q:A->Prop) (q:Aa->Prop) (r:Fr) (xe:Ac->Af->Prop),zO k (g.deeper (envOfC qual (zd st) s.heap.objs.size f cdv))->φ as Q q->Xok ((xi (CX1 P w base) P w K mg base (N++[z]) qual (zd st) f cdv g outer s H E).wish xe) r (List.replicate (N.length+1) none) q->
   SvS ((xi (CX1 P w base) P w K mg base (N++[z]) qual (zd st) f cdv g outer s H E).wish xe) ((as.map some++List.replicate (N.length-as.length) none)++[some (.exc r λ_=>True)]) (zJ st) {nx:=λ_=>Q (.dat .none),rt:=Q}):zG P w K mg base (CX1 P w base) (k+1) f fd ps (spX φ):=by
 refine G.okX S (λvs H Q E h=>?_) (λcdv g outer s H vs J E hr h=>?_)
 .obtain⟨F,as,Q',q,_,_,_,l,b,_⟩:=h;rw[l.length,hlen as _ _ b]
 .obtain⟨F,as,Q',q,e,t,o,l,b,n,C⟩:=h;have O:=hlen as _ _ b;have m:=M.start (N:=N++[z]) e t o l;have y:as.map some++List.replicate ((N++[z]).length-as.length) none=(as.map some++List.replicate (N.length-as.length) none)++[none]:=by rw[zI1,zN0,show N.length+1-as.length=(N.length-as.length)+1 by omega,zS5,zN1]
  rw[y]at m;have u:(as.map some++List.replicate (N.length-as.length) (none:Option A)).length=N.length:=by rw[zI1,zH8,zL5];lia
  have p:=m.exc (j:=N.length) (q:=λ_=>True) (by rw[zJ2 (by lia),u,zM1]<;>rfl);have B:((as.map some++List.replicate (N.length-as.length) (none:Option A))++[none]).set N.length (some (A.exc F λ_=>True))=(as.map some++List.replicate (N.length-as.length) none)++[some (.exc F λ_=>True)]:=by rw[zN9 _ _ (by lia),u,zM1]<;>rfl
  rw[B]at p;refine c cdv g outer s H E as Q' q F _ hr b ⟨_,_,rfl,rfl,rfl,λσ d S a H' i I=>C d S a H' I ⟨i.tp,i.keep,ud i⟩⟩ F _ H _ p ⟨λL σ H' m q=>?_,λa v H' r q=>n a v H' q r,λ_ _ _ _ z=>z.elim,λ_ _ _ _ z=>z.elim⟩;exact n _ _ _ q ⟨m.tp,m.keep,.non⟩
end
structure pS (P:Ah)(w:Ak)(K:Ae)(mg:Str->Option Ac)(base:Ao)(x:Str)(k:Nat)(φ:List A->(A->Prop)->(Aa->Prop)->Prop):Prop where
 ex:∃f fd ps,mg x=some (.ref f)/\PySem.W.keepIn K (.ref f)=true/\Binds K fd ps []/\zG P w K mg base (CX1 P w base) k f fd ps (spX φ)
def zB3 (C:Ab)(fl:Str):Sp:=λvs H b _=>∃(a:Ab) (i:Int),vs=[.ref a,.int i]/\i.natAbs.log2<1920/\H a=some (xcF a C none)/\∀dx,H dx=none->dx≠a->b .non (upd (upd H dx (.xd [(fl,.int i)])) a (xcF a C (some dx)))
structure XMk (P:Ah)(w:Ak)(K:Ae)(mg:Str->Option Ac)(base:Ao)(x:Str)(k:Nat)(C:Ab)(fl:Str):Prop where
 m:mg x=some (.ref C)
 kp:PySem.W.keepIn K (.ref C)=true
 ex:∃S f fd ps,xQ K C S (some (.ref f))=true/\PySem.W.typeIn K (.ref f)=some (.type "function")/\Binds K fd ps []/\zG P w K mg base CX0 k f fd ps (zB3 C fl)
structure oi (K:Ae)(mg:Str->Option Ac)(x:Str)(C:Ab):Prop where
 m:mg x=some (.ref C)
 kp:PySem.W.keepIn K (.ref C)=true
 ex:∃S,xQ K C S none=true
section
variable {X:Cx}{L αh:Ev}{r:Fr}{q q0:Aa->Prop}{j k:Nat}{x fl:Str}{C:Ab}{e:Ai}{es:List Ai}{p pos pos':Pos}{rest:List An}{E:yj}
def fN (M:Xok X r αh q)(O:X.calm=true)(t:XMk X.prog X.w X.K X.mg X.base x k C fl)(hr:zO (k+1) X.A)(W:Gl X x)(V:L[j]?=some (some (.exc r q0)))(le:leX αh L)(h:EvD X L e λd=>∃i:Int,d=.int i/\i.natAbs.log2<1920/\q (xD C [(.str fl,.int i)]))
  (s:(x == ("__debug__":Str))=false:=by decide) (he:Ad [e] X.env=(false,eval e X.env)::Ad [] X.env:=by rfl):SvS X L (.Raise (some (.Call (.Name x p) [e] [] pos)) none pos'::rest) E:=λF σ H D m Z=>by
 obtain⟨X0,R,rfl,h1,h2,T⟩:=M.ex;obtain⟨S,f,fd,ps,c,hf,U,G⟩:=t.ex;refine⟨_,zv (mn c O (zb8 (X:=X0.wish (XE X0 R)) c hf t.kp G hr W t.m U (zh zi zy he) s he)) zC,?_⟩;refine h F σ H _ m λd v H1 N t1 k1 J=>?_;obtain⟨i,rfl,hi,Y⟩:=N;cases J.int_inv;refine⟨zH7 rfl,λa ha=>⟨a,i,rfl,hi,zk,λdx hd l=>⟨rfl,a,some dx,rfl,zk,?_⟩⟩⟩;have m1:=m.kz k1 t1;rw[ue];have n:H1 dx=none:=by rw[zm l]at hd;exact hd
 generalize g:upd (upd (upd H1 a (xcF a C none)) dx (HO.xd [(fl,.int i)])) a (xcO a C (some dx))=H3;have I:zu H1 H3:=λy o e=>by
  have B:y≠a:=λz=>by rw[z,ha]at e;cases e
  have Q:y≠dx:=λz=>by rw[z,n]at e;cases e
  rw[<-g,zm B,zm Q,zm B];exact e
 have u:∀y,H1 y=none->¬Ow F L σ y/\¬foot (some (.ref a)) (.deep (xD C [(.str fl,.int i)]) λ_=>False) y:=λy P=>⟨m1.fresh P,λz=>z⟩;have m3:=m1.snoc (v:=.ref a) (b:=.deep (xD C [(.str fl,.int i)]) λ_=>False) (H':=H3) (m1.tp.same I) (Kz.of_same I) (λx z=>z.elim) ⟨_,rfl,.xc (dx:=dx) (fs:=[(fl,.int i)]) (ng (zw (u a ha) (by rw[<-g];exact zk)) (λz=>z) λxs z=>by cases z) (ng (zw (u dx n) (by rw[<-g,zm l];exact zk)) (λz=>z) λxs z=>by cases z) (.cons (.int i) .nil),λx z=>z.elim⟩;exact T σ _ _ a H3 (m3.backS V le trivial) Y
def uc (l:Xok X r αh q)(s:X.calm=true)(g:oi X.K X.mg x C)(w:Gl X x)(u:L[j]?=some (some (.exc r q0)))(le:leX αh L)(h:EvD X L e λ_=>q (xD0 C))
  (f:(x == ("__debug__":Str))=false:=by decide) (he:Ad [e] X.env=(false,eval e X.env)::Ad [] X.env:=by rfl):SvS X L (.Raise (some (.Call (.Name x p) [e] [] pos)) none pos'::rest) E:=λF σ H D m B=>by
 obtain⟨X0,R,rfl,I,G,t⟩:=l.ex;obtain⟨S,c⟩:=g.ex;refine⟨_,zv (mn c s (df (X:=X0.wish (XE X0 R)) c g.kp w g.m (zh zi zy he) f he)) zC,?_⟩;refine h F σ H _ m λd v H1 n t1 k1 A=>?_;refine⟨zH7 rfl,λa ha=>⟨a,none,rfl,zk,?_⟩⟩;have m1:=m.kz k1 t1;rw[ue];have i:zu H1 (upd H1 a (xcO a C none)):=λy o e=>by rw[zm (λz=>by rw[z,ha]at e;cases e)];exact e
 have m3:=m1.snoc (v:=.ref a) (b:=.deep (xD0 C) λ_=>False) (H':=upd H1 a (xcO a C none)) (m1.tp.same i) (Kz.of_same i) (λx z=>z.elim) ⟨_,rfl,.xn (ng (zw ⟨m1.fresh ha,λz=>z⟩ zk) (λz=>z) λxs z=>by cases z),λx z=>z.elim⟩;exact t σ _ _ a _ (m3.backS u le trivial) n
theorem nQ {X0:Cx}{R:St->Ab->Hp->Prop}{f:Ab}{fd:Ag}{ps:List Str}{sp:Sp}{t:TA}(hex:X0.ex=[])(F:zG X0.prog X0.w X0.K X0.mg X0.base (CX1 X0.prog X0.w X0.base) k f fd ps sp)(hr:zO k X0.A)(o:Gl X0 x)(hm:X0.mg x=some (.ref f))(hk:PySem.W.keepIn X0.K (.ref f)=true)(n:Binds X0.K fd ps [])
  (ha:PA (X0.wish (XE X0 R)) (e::es) t) (g:(x == ("__debug__":Str))=false:=by decide) (he:Ad (e::es) X0.env=(false,eval e X0.env)::Ad es X0.env:=by rfl) (hpl:(backTo pos (Ad es X0.env)).any (·.1)=false:=by rfl):
  PE (X0.wish (XE X0 R)) (.Call (.Name x p) (e::es) [] pos) (λσ H Q=>t σ H λvs H1=>∃E:XK,(∀a H',E (.ref a) none H'->R σ a H')/\sp vs H1 Q E):=by
 intro pins s σ H Q I h;refine zO0 (xu I o hm ?_ g);refine zO1 (h₀:=X0.base) I.ok.mod.kin hk (thn (ha pos pins s σ H _ I h) λus s1 i=>?_) he hpl;obtain⟨vs,H1,d,r,E,m,q⟩:=i;refine⟨d.kIn,?_⟩;have l:(us++[]).length=ps.length:=by rw[zJ5,<-r.length];exact F.len _ _ _ _ q
 have b:=n s1 us d.kIn l;rw[zJ5]at b;refine zP1 (zP9 (F.run X0.A X0.stack s1 H1 ⟨us,[]⟩ us vs Q E hr d.env0 b r q) λr s' c=>?_);cases r with
 |error e=>exact sH hex d.unwish c m
 |ok fl=>
  cases fl with
  |ret u=>exact d.after c
  |next=>exact False.elim c
  |brk=>exact False.elim c
  |cont=>exact False.elim c
variable {φ:List A->(A->Prop)->(Aa->Prop)->Prop}{Q:Aa->Prop}
def wD {F:Fr}{σ:St}{H:Hp}{vs:List V}{as:List A}{QA:A->Prop}{l:VK}{R:St->Ab->Hp->Prop}(m:M F L σ H)(w:L[j]?=some (some (.exc r q0)))(le:leX αh L)(t:∀σ d S a H',M r (αh++[some (.deep d S)]) (σ++[some (.ref a)]) H'->q d->R σ a H')(s:zS F (Gz F L σ H) vs as)(h:φ as QA q)
  (n:∀a v H',QA a->yf ⟨H,Ow F L σ,F.tp⟩ v H' a->l v H'):∃E:XK,(∀a H',E (.ref a) none H'->R σ a H')/\spX φ vs H l E:=by
 refine⟨λv _ H'=>∃a,v=.ref a/\∃d S,q d/\yf ⟨H,Ow F L σ,F.tp⟩ (.ref a) H' (.deep d S),λa H' g=>?_,⟨⟨H,Ow F L σ,F.tp⟩,as,QA,q,rfl,m.tp.to rfl λ_ z=>.inl z,λy z=>m.owEx z,zS.to (F:=F) (F':=⟨H,Ow F L σ,F.tp⟩) (λ_ _ e=>e) rfl s,h,n,λd S a H' i f=>⟨a,rfl,d,S,i,f⟩⟩⟩;obtain⟨B,e,d,S,i,f⟩:=g;cases e;obtain⟨g1,g2,_⟩:=f.back m;obtain⟨_,_,g3,c⟩:=f;have m3:=m.snoc (v:=.ref a) (b:=.deep d S) (H':=H') g1 g2 (λx z=>(c x z).2.1) ⟨_,rfl,g3.same λx o e=>?_,λx z=>⟨ow0 (c x z).1,m.fresh0 (c x z).2.1,(c x z).2.2⟩⟩
 .exact t σ d S a H' (m3.backS w le trivial) i
 .unfold ur at e ⊢;by_cases z:S x
  .rw[if_pos z]at e ⊢;exact e
  .rw[if_neg z]at e ⊢;cases q:sub (λx=>¬Ow F L σ x) H' x with
   |none=>rw[q]at e;cases e
   |some u=>
    obtain⟨w1,w2⟩:=zg q;rw[zw (p:=λx=>¬Ow F L σ x/\¬foot (some (V.ref a)) (.deep d S) x) ⟨w1,z⟩ w2];rw[q]at e;exact e
def om (l:Xok X r αh q)(B:L[j]?=some (some (.exc r q0)))(le:leX αh L)(C:pS X.prog X.w X.K X.mg X.base x k φ)(hr:zO k X.A)(D:Gl X x)(h:EvA X L (e::es) λas=>φ as (λa=>Q a.d) q)
  (b:(x == ("__debug__":Str))=false:=by decide) (he:Ad (e::es) X.env=(false,eval e X.env)::Ad es X.env:=by rfl) (hpl:(backTo pos (Ad es X.env)).any (·.1)=false:=by rfl):EvD X L (.Call (.Name x p) (e::es) [] pos) Q:=λF σ H J m c=>by
 obtain⟨X0,R,rfl,I,t,z⟩:=l.ex;obtain⟨f,fd,ps,n,o,y,i⟩:=C.ex;refine⟨_,nQ t i hr D n o y zY b he hpl,?_⟩;refine h F σ H _ m λas vs H1 s t1 k1 g=>?_;have m1:=m.kz k1 t1;refine wD m1 B le z g s λa v H' G u=>?_;obtain⟨g1,g2,g3⟩:=u.back m1;exact c _ v H' G g1 (k1.trans g2) g3
def gm {Q:List Aa->Prop}(n:Xok X r αh q)(G:L[j]?=some (some (.exc r q0)))(le:leX αh L)(C:pS X.prog X.w X.K X.mg X.base x k φ)(hr:zO k X.A)(I:Gl X x)(h:EvA X L (e::es) λas=>φ as (λa=>∃ds,a=.own ds/\Q ds) q)
  (b:(x == ("__debug__":Str))=false:=by decide) (he:Ad (e::es) X.env=(false,eval e X.env)::Ad es X.env:=by rfl) (hpl:(backTo pos (Ad es X.env)).any (·.1)=false:=by rfl):EvL X L (.Call (.Name x p) (e::es) [] pos) Q:=λF σ H O m d=>by
 obtain⟨X0,R,rfl,N,u,D⟩:=n.ex;obtain⟨f,fd,ps,o,s,B,i⟩:=C.ex;refine⟨_,nQ u i hr I o s B zY b he hpl,?_⟩;refine h F σ H _ m λas vs H1 t t1 k1 g=>?_;have m1:=m.kz k1 t1;refine wD m1 G le D g t λa v H' J c=>?_;obtain⟨ds,rfl,M⟩:=J;obtain⟨g1,g2,_⟩:=c.back m1;obtain⟨_,_,l,xs,y,rfl,z,w1,w2,w3,w4⟩:=c;cases z;exact d ds _ H' M g1 (k1.trans g2) (yQ.back m k1 t1 ⟨l,xs,rfl,w1,w3,w4⟩)
end
section
variable {P:Ah}{w:Ak}{K:Ae}{mg:Str->Option Ac}{base:Ao}
def zr3 {x qual:Str}{st:An}{f:Ab}{fd:Ag}{N ps:List Str}{z:Str}{k:Nat}{φ:List A->(A->Prop)->(Aa->Prop)->Prop}(G:Fun K x qual st f fd)(hm:mg x=some (.ref f))(d:Binds K fd ps [])(S:zo (N++[z]) ps (zd st))(c:ps.length<=N.length)(hlen:∀as Q q,φ as Q q->as.length=ps.length)
  (a:∀(cdv:Ac) (b:Ap) (outer:List Ar) (s:Af) (H:Hp) (E:XK) (as:List A) (Q:A->Prop) (q:Aa->Prop) (r:Fr) (xe:Ac->Af->Prop),zO k (b.deeper (envOfC qual (zd st) s.heap.objs.size f cdv))->φ as Q q->Xok ((xi (CX1 P w base) P w K mg base (N++[z]) qual (zd st) f cdv b outer s H E).wish xe) r (List.replicate (N.length+1) none) q->
   SvS ((xi (CX1 P w base) P w K mg base (N++[z]) qual (zd st) f cdv b outer s H E).wish xe) ((as.map some++List.replicate (N.length-as.length) none)++[some (.exc r λ_=>True)]) (zJ st) {nx:=λ_=>Q (.dat .none),rt:=Q}):pS P w K mg base x (k+1) φ:=
 ⟨f,fd,ps,hm,G.kp,d,fnX G S c hlen a⟩
end
def jQ (F:Fr)(s:zD)(d:Aa)(S:Ab->Prop)(a:Ab)(H':Hp):Prop:=M F [some (.inn s),some (.deep d S)] [some (.ref s.a),some (.ref a)] H'
def zw1 (φ:List A->(A->Prop)->(Aa->Prop)->Prop):Sp:=λvs H b E=>∃(F:Fr) (s:zD) (us:List V) (as:List A) (Q:A->Prop) (q:Aa->Prop),vs=.ref s.a::us/\F.H0=s.un H/\zH F H/\(∀x,F.O0 x->∃o,H x=some o/\yU o)/\(∀x,s.at x->¬F.O0 x)/\xt (sub (λx=>¬F.O0 x/\x≠s.a/\x≠s.lp) H) H s/\zS F (sub (λx=>¬F.O0 x/\x≠s.a/\x≠s.lp) H) us as/\φ (.inn s::as) Q q/\(∀a v H',Q a->yf F v H' a->b v H')/\∀d S a H',q d->jQ F s d S a H'->E (.ref a) none H'
def jQ.of {F:Fr}{s:zD}{n:Nat}{σ:St}{d:Aa}{S:Ab->Prop}{a:Ab}{H':Hp}(m:M F ((some (.inn s)::List.replicate n none)++[some (.deep d S)]) (σ++[some (.ref a)]) H'):jQ F s d S a H':=by
 have i:=m.len;simp only[zI1,zI7,zL5,zV6]at i;have h0:((some (A.inn s)::List.replicate n none)++[some (.deep d S)])[0]?=some (some (.inn s)):=rfl;have g:(σ++[some (.ref a)])[0]?=some (some (.ref s.a)):=(m.inn h0).1;refine m.reidx (λk=>if k=0 then 0 else n+1) rfl (λk b v c f=>?_) (λk h b j c f e=>?_)
 .match k with
  |0=>cases c;cases f;exact⟨rfl,g⟩
  |1=>
   cases c;cases f;refine⟨?_,?_⟩
   .show((some (A.inn s)::List.replicate n none)++[some (.deep d S)])[n+1]?=_;rw[zJ2 (by simp)];simp
   .show(σ++[some (.ref a)])[n+1]?=_;rw[zJ2 (by omega),show n+1-σ.length=0 by omega];rfl
  |k+2=>cases c
 .match k,h with
  |0,0=>rfl
  |1,1=>rfl
  |0,1=>simp at e
  |1,0=>simp at e
  |k+2,_=>cases c
  |_,k+2=>cases f
section
variable {P:Ah}{w:Ak}{K:Ae}{mg:Str->Option Ac}{base:Ao}
def dO {x qual:Str}{st:An}{f:Ab}{fd:Ag}{N ps:List Str}{z:Str}{k:Nat}{φ:List A->(A->Prop)->(Aa->Prop)->Prop}(G:Fun K x qual st f fd)(S:zo (N++[z]) ps (zd st))(O:ps.length<=N.length)(hlen:∀as Q q,φ as Q q->as.length=ps.length)
  (c:∀(cdv:Ac) (i:Ap) (outer:List Ar) (s:Af) (H:Hp) (E:XK) (u:zD) (as:List A) (Q:A->Prop) (q:Aa->Prop) (r:Fr) (xe:Ac->Af->Prop),zO k (i.deeper (envOfC qual (zd st) s.heap.objs.size f cdv))->φ (.inn u::as) Q q->Xok ((xi (CX1 P w base) P w K mg base (N++[z]) qual (zd st) f cdv i outer s H E).wish xe) r (some (.inn u)::List.replicate N.length none) q->
   SvS ((xi (CX1 P w base) P w K mg base (N++[z]) qual (zd st) f cdv i outer s H E).wish xe) (((A.inn u::as).map some++List.replicate (N.length-(A.inn u::as).length) none)++[some (.exc r λ_=>True)]) (zJ st) {nx:=λL=>∃s',L[0]?=some (some (.inn s'))/\Q (.res .none s'),rt:=Q}):zG P w K mg base (CX1 P w base) (k+1) f fd ps (zw1 φ):=by
 refine G.okX S (λvs H Q E h=>?_) (λcdv i outer s H vs U E hr h=>?_)
 .obtain⟨F,u,us,as,Q',q,rfl,_,_,_,_,_,l,b,_⟩:=h;rw[zI7,l.length];exact hlen _ _ _ b
 .obtain⟨F,u,us,as,Q',q,rfl,e,t,o,no,hi,l,b,n,I⟩:=h;have J:=hlen _ _ _ b;have m:=M.startI (N:=N++[z]) (λx o h=>(zg (e▸h)).2) (λx g=>by
   cases z:F.H0 x with
   |none=>rfl
   |some o=>
    obtain⟨⟨n1,n2⟩,_⟩:=zg (e▸z);rcases g with g|g;exact absurd g n1;exact absurd g n2) t o no hi l
  generalize R:(A.inn u::as)=bs at m b J;have B:bs.map some++List.replicate ((N++[z]).length-bs.length) none=(bs.map some++List.replicate (N.length-bs.length) none)++[none]:=by rw[zI1,zN0,show N.length+1-bs.length=(N.length-bs.length)+1 by omega,zS5,zN1]
  rw[B]at m;have y:(bs.map some++List.replicate (N.length-bs.length) (none:Option A)).length=N.length:=by rw[zI1,zH8,zL5];omega
  have p:=m.exc (j:=N.length) (q:=λ_=>True) (by rw[zJ2 (by omega),y,zM1]<;>rfl);have D:((bs.map some++List.replicate (N.length-bs.length) (none:Option A))++[none]).set N.length (some (A.exc F λ_=>True))=(bs.map some++List.replicate (N.length-bs.length) none)++[some (.exc F λ_=>True)]:=by rw[zN9 _ _ (by omega),y,zM1]<;>rfl
  rw[D]at p;subst R;exact c cdv i outer s H E u as Q' q F _ hr b ⟨_,_,rfl,rfl,rfl,λσ d S a H' C T=>I d S a H' T (jQ.of C)⟩ F _ H _ p ⟨λL σ H' m ⟨s',h0,q⟩=>n _ _ _ q (yf.res m h0 .non),λa v H' r q=>n a v H' q r,λ_ _ _ _ z=>z.elim,λ_ _ _ _ z=>z.elim⟩
end
section
variable {L αh:Ev}{F r:Fr}{σ:St}{H H':Hp}{i j:Nat}{s:zD}{q0 q:Aa->Prop}{d:Aa}{S:Ab->Prop}{a:Ab}
def jQ.back (m:M F L σ H)(hi:L[i]?=some (some (.inn s)))(mo:jQ (F.giv L σ H s) s d S a H'):M F (L++[some (.deep d S)]) (σ++[some (.ref a)]) H':=by
 have mo:M (F.giv L σ H s) [some (.inn s),some (.deep d S)] [some (.ref s.a),some (.ref a)] H':=mo;obtain⟨C,h0,B⟩:=m.inn hi;obtain⟨_,A,_⟩:=mo.inn (i:=0) rfl;obtain⟨v,e,av,u⟩:=mo.deep 1 d S rfl;cases e;have ns:∀x,S x->¬s.at x:=λx z w=>by have:=mo.dj 0 1 _ _ _ _ x rfl rfl rfl rfl w z;cases this
 have l:∀x,S x->H x=none:=λx z=>by
  cases y:H x with
  |none=>rfl
  |some o=>
   have:s.un H x=some o:=zw (p:=λx=>x≠s.a/\x≠s.lp) ⟨λw=>ns x z (.inl w),λw=>ns x z (.inr w)⟩ y;have t:=(u x z).2.1;rw[show(F.giv L σ H s).H0 x=some o from this]at t;cases t
 have k:Kz F H H':=λx o e n=>by
  by_cases c:x=s.a
  .subst c;rw[h0.ob]at e;cases e;exact A.ob
  .by_cases f:x=s.lp
   .cases zp:s.pl with
    |true=>subst f;rw[h0.ls zp]at e;cases e;exact A.ls zp
    |false=>exact absurd (f.trans (h0.eq zp)) c
   .exact mo.keep x o (show s.un H x=some o from zw (p:=λx=>x≠s.a/\x≠s.lp) ⟨c,f⟩ e) n
 have g:zu (Gz (F.giv L σ H s) [some (.inn s),some (.deep d S)] [some (.ref s.a),some (.ref a)] H') (sub (λx=>¬Ow F L σ x/\¬foot (some (V.ref a)) (.deep d S) x) H'):=zj λx o h e=>⟨⟨λz=>h ?_,λz=>h (.inr ⟨1,_,_,rfl,rfl,z⟩)⟩,e⟩
 .exact m.snoc (v:=.ref a) (b:=.deep d S) (m.tp.re mo.tp rfl) k (λx z=>l x z) ⟨_,rfl,av.same (wU g λ_ _ _ e=>e),λx z=>⟨ow0 (m.fresh (l x z)),m.fresh0 (l x z),(u x z).2.2⟩⟩
 .by_cases w:s.at x
  .exact .inr ⟨0,_,_,rfl,rfl,w⟩
  .exact .inl ⟨z,λy=>w (.inl y),λy=>w (.inr y)⟩
def vg {φ:List A->(A->Prop)->(Aa->Prop)->Prop}{us:List V}{as:List A}{QA:A->Prop}{h:VK}{R:St->Ab->Hp->Prop}(m:M F L σ H)(hi:L[i]?=some (some (.inn s)))(o:L[j]?=some (some (.exc r q0)))(le:leX αh L)(l:∀σ d S a H',M r (αh++[some (.deep d S)]) (σ++[some (.ref a)]) H'->q d->R σ a H')(n:zS F (Gz F L σ H) us as)(b:φ (.inn s::as) QA q)
  (k:∀a v H',QA a->yf (F.giv L σ H s) v H' a->h v H'):∃E:XK,(∀a H',E (.ref a) none H'->R σ a H')/\zw1 φ (.ref s.a::us) H h E:=by
 obtain⟨t,h0,f⟩:=m.inn hi;obtain⟨g,_⟩:=vV m hi H;refine⟨λv _ H'=>∃a,v=.ref a/\∃d S,q d/\jQ (F.giv L σ H s) s d S a H',λa H' ⟨p,e,d,S,c,ox⟩=>?_,⟨F.giv L σ H s,s,us,as,QA,q,rfl,rfl,m.tp.to rfl λx z=>⟨.inl z,λy=>(f x (.inl y)).1 z,λy=>(f x (.inr y)).1 z⟩,λx z=>m.owEx z.1,λx z y=>z.elim y.2.1 y.2.2,h0.same g λ_ _ _ e=>e,zS.to (F:=F) (F':=F.giv L σ H s) g rfl n,b,k,λd S a H' c ox=>⟨a,rfl,d,S,c,ox⟩⟩⟩;cases e;exact l σ d S a H' ((ox.back m hi).backS o le trivial) c
end
section
variable {X:Cx}{L αh:Ev}{r:Fr}{q0 q:Aa->Prop}{es:List Ai}{p pos:Pos}{s:zD}{QG:Aa->zD->Prop}{k:Nat}{φ:List A->(A->Prop)->(Aa->Prop)->Prop}{x o:Str}
end
section
variable {k:Nat}{e o:Ai}{es:List Ai}{pos apos:Pos}{m:Str}{C:Ab}
theorem mE {X0:Cx}{R:St->Ab->Hp->Prop}{f:Ab}{fd:Ag}{ps:List Str}{sp:Sp}{v:TE}{t:TA}{pl:Sem Bool}(hex:X0.ex=[])(he:PE (X0.wish (XE X0 R)) o v)(c:Cls X0.K C)(hm:Meth X0.K C m f)(F:zG X0.prog X0.w X0.K X0.mg X0.base (CX1 X0.prog X0.w X0.base) k f fd ps sp)(hr:zO k X0.A)(L:Binds X0.K fd ps [])
  (ha:PA (X0.wish (XE X0 R)) (e::es) t) (p:Ad (e::es) X0.env=(false,eval e X0.env)::Ad es X0.env:=by rfl) (hpl:(backTo pos (Ad es X0.env)).any (·.1)=false:=by rfl)
  (ht:eval (.Call (.Attribute o m apos) (e::es) [] pos) X0.env=(do
   let ov <-eval o X0.env
   standAt apos.atName
   let(f,first) <-holding [ov] (getMethod ov m pl)
   callWith pos f first (backTo pos (Ad (e::es) X0.env)) (backToKw pos (keywordEach [] X0.env))):=by rfl):
  PE (X0.wish (XE X0 R)) (.Call (.Attribute o m apos) (e::es) [] pos) (λσ H Q=>v σ H λx H1=>∃a dx fs,x=.ref a/\H1 a=some (.ins C dx fs)/\fs.lookup m=none/\t σ H1 λvs n=>∃E:XK,(∀a H',E (.ref a) none H'->R σ a H')/\sp (.ref a::vs) n Q E):=by
 intro pins s σ H Q I h;refine zP6 (thn (he pins s σ H _ I h) λu s1 g=>?_) ht;obtain⟨x,H1,z,D,a,dx,fs,ex,B,l,q⟩:=g;subst ex;obtain rfl:u=Value.ref a:=D;refine wB z B c hm l ?_;refine zO1 (h₀:=X0.base) I.ok.mod.kin hm.kp (thn (ha pos pins s1 σ H1 _ z q) λus s2 j=>?_) p hpl;obtain⟨vs,n,d,r,E,J,q⟩:=j;refine⟨d.kIn,?_⟩;have y:Vals (.ref a::vs) (.ref a::us):=.cons rfl r;have G:((.ref a::us:List Ac)++[]).length=ps.length:=by rw[zJ5,<-y.length];exact F.len _ _ _ _ q
 have b:=L s2 (.ref a::us) d.kIn G;rw[zJ5]at b;refine zP1 (zP9 (F.run X0.A X0.stack s2 n ⟨.ref a::us,[]⟩ (.ref a::us) (.ref a::vs) Q E hr d.env0 b y q) λr s' i=>?_);cases r with
 |error e=>exact sH hex d.unwish i J
 |ok fl=>
  cases fl with
  |ret u=>exact d.after i
  |next=>exact False.elim i
  |brk=>exact False.elim i
  |cont=>exact False.elim i
end
structure yM (P:Ah)(w:Ak)(K:Ae)(mg:Str->Option Ac)(base:Ao)(C:Ab)(m:Str)(k:Nat)(φ:List A->(A->Prop)->(Aa->Prop)->Prop):Prop where
 ex:∃f fd ps,Cls K C/\Meth K C m f/\Binds K fd ps []/\zG P w K mg base (CX1 P w base) k f fd ps (zw1 φ)
section
variable {X:Cx}{L αh:Ev}{r:Fr}{q0 q:Aa->Prop}{e:Ai}{es:List Ai}{p pos apos:Pos}{s:zD}{QG:Aa->zD->Prop}{k:Nat}{φ:List A->(A->Prop)->(Aa->Prop)->Prop}{m o:Str}
def vU (i j:Nat){pl:Sem Bool}(hi:L[i]?=some (some (.inn s)))(D:Xok X r αh q)(T:L[j]?=some (some (.exc r q0)))(le:leX αh L)(O:yM X.prog X.w X.K X.mg X.base s.C m k φ)(hr:zO k X.A)(hf:yr s.kvs m=none)(hm:m≠s.nm)(h:EvA X L (e::es) λas=>φ (.inn s::as) (λa=>∃d s',a=.res d s'/\s'.a=s.a/\s'.lp=s.lp/\QG d s') q)
  (E:X.N[i]?=some o:=by rfl) (z:Vis X.env.scope o:=by first|exact Or.inl rfl|exact Or.inr (Or.inl rfl)|exact Or.inr (Or.inr rfl)) (hd:(o == ("__debug__":Str))=false:=by decide) (g:(o == ("__classdict__":Str))=false:=by decide)
  (l:Ad (e::es) X.env=(false,eval e X.env)::Ad es X.env:=by rfl) (hpl:(backTo pos (Ad es X.env)).any (·.1)=false:=by rfl)
  (ht:eval (.Call (.Attribute (.Name o p) m apos) (e::es) [] pos) X.env=(do
   let ov <-eval (.Name o p) X.env
   standAt apos.atName
   let(f,first) <-holding [ov] (getMethod ov m pl)
   callWith pos f first (backTo pos (Ad (e::es) X.env)) (backToKw pos (keywordEach [] X.env))):=by rfl):EvG X L i (.Call (.Attribute (.Name o p) m apos) (e::es) [] pos) QG:=λF σ H Y b t=>by
 obtain⟨X0,R,rfl,W,M,Q⟩:=D.ex;obtain⟨f,fd,ps,c,n,S,G⟩:=O.ex;obtain⟨J,h0,_⟩:=b.inn hi;refine⟨_,mE M (zT E z hd g) c n G hr S zY l hpl ht,_,J,s.a,s.dx,_,rfl,h0.ob,h0.look_m hf hm,?_⟩;refine h F σ H _ b λas us H1 I t1 k1 u=>?_;have m1:=b.kz k1 t1;exact vg m1 hi T le Q u I λa v H' U P=>by
  obtain⟨d,s',rfl,x,V,y⟩:=U;obtain⟨B,av⟩:=P.backI m1 hi x V;exact t d s' v H' y B av
end
section
variable {X:Cx}{L αh:Ev}{q:Aa->Prop}{i j:Nat}{x n:Str}{B:Ab}{body suite rest:List An}{b0:An}{np hpos pos:Pos}{E:yj}
def uD {K:Ae}{r:Fr}{αh:Ev}(g:∀d,q d->∃C,isX C d/\XB K C B):pX K B (λσ a H=>∃d S,M r (αh++[some (.deep d S)]) (σ++[some (.ref a)]) H/\q d):=λσ a H c=>by
 obtain⟨d,S,m,l⟩:=c;obtain⟨C,x,b⟩:=g d l;obtain⟨av,_⟩:=ud m;obtain⟨o,dx,e,k,f⟩:=x.at av;cases e;exact⟨C,dx,cb k,λy e=>by obtain⟨fs,h⟩:=f y e;exact⟨fs,cb h⟩,b⟩
def nA {β:Ev}{j:Nat}{a:A}{i:Nat}(e:(β.set j none)[i]?=some (some a)):β[i]?=some (some a):=by
 rcases zA e with⟨_,z⟩|⟨_,z⟩
 .cases z
 .exact z
def M.drop {F:Fr}{β:Ev}{σ:St}{H:Hp}{j:Nat}(m:M F β σ H):M F (β.set j none) σ H:=m.forget (by rw[zK0]) λi a e=>nA e
def M.dropS {F:Fr}{β:Ev}{σ:St}{H:Hp}{j:Nat}(m:M F β σ H):M F (β.set j none) (σ.set j none) H:=by
 have k:=m.drop (j:=j);have p:∀{i:Nat} {a:A} {s:Option V},(β.set j none)[i]?=some (some a)->(σ.set j none)[i]?=some s->σ[i]?=some s:=λ{i a s} b g=>by
  by_cases z:j=i
  .subst z;rcases zA b with⟨_,z⟩|⟨z,_⟩
   .cases z
   .exact absurd rfl z
  .rw[zI4 z]at g;exact g
 have ow:∀{y:Ab},Ow F (β.set j none) (σ.set j none) y->Ow F (β.set j none) σ y:=λ{y} h=>by
  rcases h with z|⟨i,c,s,b,g,f⟩
  .exact .inl z
  .exact .inr ⟨i,c,s,b,p b g,f⟩
 have gz:zu (Gz F (β.set j none) σ H) (Gz F (β.set j none) (σ.set j none) H):=zj λa o h e=>⟨λz=>h (ow z),e⟩;exact⟨by rw[zK0,zK0];exact m.len,λi c s b g=>(k.ok i c s b (p b g)).stay gz (λx o f e=>⟨e,(k.ft b (p b g) f).1,(k.ft b (p b g) f).2.1⟩) rfl λ_ _ _ l=>l,λi r c d s s' x b g u t=>k.dj i r c d s s' x b g (p b u) (p g t),λi v w e r c s x b g=>k.xd i v w e r c s x b (p b g),k.tp,k.keep,k.oex⟩
def lP (i j:Nat)(αh:Ev)(q:Aa->Prop)(g:X.stack=X.env::X.outer)(hex:X.ex=[])(o:X.N.Nodup)(v:L[j]?=some none)(le:leX αh L)(w:Gl X x)(hm:X.mg x=some (.ref B))(t:∀d,q d->∃C,isX C d/\XB X.K C B)
  (u:∀(pins:List (Ab×Obj)) (xe:Ac->Af->Prop) (r:Fr),Xok ((X.held pins).wish xe) r αh q->SvS ((X.held pins).wish xe) (L.set j (some (.exc r λ_=>True))) body {nx:=λb=>SvS X (b.set j none) rest E,rt:=E.rt,bk:=λb=>E.bk (b.set j none),ct:=λb=>E.ct (b.set j none)})
  (s:∀(pins:List (Ab×Obj)) (a:Ab) d S,q d->SvS ((X.held pins).suite a) (αh.set i (some (.deep d S))) (b0::suite) {nx:=λb=>SvS X (b.set i none) rest E,rt:=E.rt,bk:=λb=>E.bk (b.set i none),ct:=λb=>E.ct (b.set i none)})
  (hi:X.N[i]?=some n:=by rfl) (p:X.env.scope.names.lookup n=some .local:=by rfl) (k:(x == ("__debug__":Str))=false:=by decide):
  SvS X L (.Try body [.ExceptHandler (some (.Name x np)) (some n) (b0::suite) hpos] [] [] pos::rest) E:=λF σ H D m f=>by
 refine⟨_,zv (lE (R:=λσ a H=>∃d S,M F (αh++[some (.deep d S)]) (σ++[some (.ref a)]) H/\q d) g o hi p w hm (uD t) k) zC,λpins=>?_,λpins a c H' y=>?_⟩
 .refine u pins _ F ⟨_,_,rfl,g,hex,λσ d S a H' h l=>⟨d,S,h,l⟩⟩ F σ H _ (m.exc v) ⟨λb c H' e z=>?_,f.rt,λb c H' e z=>f.bk _ _ _ e.drop z,λb c H' e z=>f.ct _ _ _ e.drop z⟩;exact z F c H' D e.drop f
 .obtain⟨d,S,h,l⟩:=y;refine s pins a d S l F _ H' _ h.lastAt ⟨λb c H' e z=>?_,f.rt,λb c H' e z=>f.bk _ _ _ e.dropS z,λb c H' e z=>f.ct _ _ _ e.dropS z⟩;exact z F _ H' D e.dropS f
def zp2 (j:Nat)(αh:Ev)(q:Aa->Prop)(g:X.stack=X.env::X.outer)(hex:X.ex=[])(t:L[j]?=some none)(le:leX αh L)(u:Gl X x)(hm:X.mg x=some (.ref B))(p:∀d,q d->∃C,isX C d/\XB X.K C B)
  (s:∀(pins:List (Ab×Obj)) (xe:Ac->Af->Prop) (r:Fr),Xok ((X.held pins).wish xe) r αh q->SvS ((X.held pins).wish xe) (L.set j (some (.exc r λ_=>True))) body {nx:=λb=>SvS X (b.set j none) rest E,rt:=E.rt,bk:=λb=>E.bk (b.set j none),ct:=λb=>E.ct (b.set j none)})
  (o:∀(pins:List (Ab×Obj)) (a:Ab) d,q d->SvS ((X.held pins).suite a) αh (b0::suite) {nx:=λb=>SvS X b rest E,rt:=E.rt,bk:=E.bk,ct:=E.ct})
  (k:(x == ("__debug__":Str))=false:=by decide):
  SvS X L (.Try body [.ExceptHandler (some (.Name x np)) none (b0::suite) hpos] [] [] pos::rest) E:=λF σ H D m e=>by
 refine⟨_,zv (zt1 (R:=λσ a H=>∃d S,M F (αh++[some (.deep d S)]) (σ++[some (.ref a)]) H/\q d) g u hm (uD p) k) zC,λpins=>?_,λpins a c H' v=>?_⟩
 .refine s pins _ F ⟨_,_,rfl,g,hex,λσ d S a H' h l=>⟨d,S,h,l⟩⟩ F σ H _ (m.exc t) ⟨λb c H' f z=>?_,e.rt,λb c H' f z=>e.bk _ _ _ f.drop z,λb c H' f z=>e.ct _ _ _ f.drop z⟩;exact z F c H' D f.drop e
 .obtain⟨d,S,h,l⟩:=v;refine o pins a d l F _ H' _ h.init ⟨λb c H' f z=>?_,e.rt,e.bk,e.ct⟩;exact z F _ H' D f e
end
section
variable {X:Cx}{L:Ev}{p p1 pos:Pos}{a:Ai}{Q:Aa->Prop}{C S:Ab}{init:Option Ac}
inductive TyX (K:Ae)(H:Hp):V->Ab->Prop where
 |mk {a C S:Ab}{d:Option Ab}{init:Option Ac} (e:H a=some (xcO a C d)) (hd:∀dx,d=some dx->∃fs,H dx=some (.xd fs)) (c:XC K C S init):TyX K H (.ref a) C
theorem rK {pins:List (Ab×Obj)}{σ:St}{H:Hp}{s:Af}{A:Ap}{E:Ac->Af->Prop}{Q:Ac->Af->Prop}{c:Ac}{b:Bool}{x:V}{u:Ac}(I:Inv X pins σ H s)(g:RelV x u)(ty:TyX X.K H x C)(e:PySem.W.kitOne X.K (.ref C) c=some b)(h:∀f,Q (.bool b) {s with toks:=f}):
  Al (Am X.prog X.w) A (call (.builtin "isinstance") [u,c]) Q E s:=by
 cases ty with
 |@mk a C S d init ea hd xc=>
  cases(show u=Value.ref a from g);obtain⟨ox,od,J,_⟩:=oE I.hok ea hd;exact zN5 (aI xc) I.kIn J e (λz=>nomatch z) h
def fw :wO X (.builtin "isinstance") (λxs H Q=>∃x B C b,xs=[x,.ref B]/\TyX X.K H x C/\PySem.W.kitOne X.K (.ref C) (.ref B)=some b/\Q (.bl b) H):=by
 intro pins s σ H xs us Q I r h;obtain⟨x,B,C,b,rfl,ty,e,q⟩:=h;obtain⟨u,v,rfl,d,f⟩:=Vals.two r;cases(show v=Value.ref B from f);exact rK I d ty e λc=>⟨.bl b,H,I.tok c,rfl,q⟩
def jM :wO X (.builtin "isinstance") (λxs H Q=>∃x T C b,xs=[x,.ty T]/\TyX X.K H x C/\PySem.W.kitOne X.K (.ref C) (.type T)=some b/\Q (.bl b) H):=by
 intro pins s σ H xs us Q I r h;obtain⟨x,T,C,b,rfl,ty,e,q⟩:=h;obtain⟨u,v,rfl,d,f⟩:=Vals.two r;cases(show v=Value.type T from f);exact rK I d ty e λc=>⟨.bl b,H,I.tok c,rfl,q⟩
def bw {G H:Hp}{pr:Ab->Prop}{v:V}{d:Aa}(x:isX C d)(c:XC X.K C S init)(h:AV (sub pr H) v d):TyX X.K H v C:=by
 obtain⟨a,dx,rfl,f,b⟩:=x.at h;exact .mk (zg f).2 (λy e=>by obtain⟨fs,z⟩:=b y e;exact⟨fs,(zg z).2⟩) c
def yZ {B:Ab}{x:Str}(o:Gl X "isinstance")(hm:X.mg "isinstance"=none)(j:Gl X x)(i:X.mg x=some (.ref B))(h:EvD X L a λd=>∃C S init b,isX C d/\XC X.K C S init/\PySem.W.kitOne X.K (.ref C) (.ref B)=some b/\Q (.bool b))
  (g:(x == ("__debug__":Str))=false:=by decide) (he:Ad [a,.Name x p1] X.env=(false,eval a X.env)::Ad [.Name x p1] X.env:=by rfl) (f:Ad [.Name x p1] X.env=(false,eval (.Name x p1) X.env)::Ad [] X.env:=by rfl) (hpl:(backTo pos (Ad [.Name x p1] X.env)).any (·.1)=false:=by rfl):
  EvD X L (.Call (.Name "isinstance" p) [a,.Name x p1] [] pos) Q:=λF σ H R m k=>by
 refine⟨_,yK fw o hm zQ0 (zh zi (zh (uf (v:=.ref B) j i rfl g) zy f) he) (he:=he) (hpl:=hpl),?_⟩;refine h F σ H _ m λd n H1 r t1 k1 l=>?_;obtain⟨C,S,init,b,x,c,e,q⟩:=r;exact⟨n,B,C,b,rfl,bw (G:=H1) x c l,e,k _ _ H1 q t1 k1 (.bl b)⟩
def ae {T:String}{x:Str}(r:Gl X "isinstance")(hm:X.mg "isinstance"=none)(j:Gl X x)(i:X.mg x=none)(o:bootBuiltins x=some (.type T))(h:EvD X L a λd=>∃C S init b,isX C d/\XC X.K C S init/\PySem.W.kitOne X.K (.ref C) (.type T)=some b/\Q (.bool b))(hn:x≠"__name__":=by decide)
  (g:(x == ("__debug__":Str))=false:=by decide) (he:Ad [a,.Name x p1] X.env=(false,eval a X.env)::Ad [.Name x p1] X.env:=by rfl) (f:Ad [.Name x p1] X.env=(false,eval (.Name x p1) X.env)::Ad [] X.env:=by rfl) (hpl:(backTo pos (Ad [.Name x p1] X.env)).any (·.1)=false:=by rfl):
  EvD X L (.Call (.Name "isinstance" p) [a,.Name x p1] [] pos) Q:=λF σ H R m k=>by
 refine⟨_,yK jM r hm zQ0 (zh zi (zh (vd j i o (show RelV (.ty T) (.type T)from rfl) hn g) zy f) he) (he:=he) (hpl:=hpl),?_⟩;refine h F σ H _ m λd n H1 s t1 k1 l=>?_;obtain⟨C,S,init,b,x,c,e,q⟩:=s;exact⟨n,T,C,b,rfl,bw (G:=H1) x c l,e,k _ _ H1 q t1 k1 (.bl b)⟩
end
section
variable {k:Nat}{e o:Ai}{es:List Ai}{pos apos:Pos}{m:Str}{C:Ab}
theorem fB {X0:Cx}{R:St->Ab->Hp->Prop}{f:Ab}{fd:Ag}{ps:List Str}{sp:Sp}{j:TE}{pl:Sem Bool}(hex:X0.ex=[])(he:PE (X0.wish (XE X0 R)) o j)(c:Cls X0.K C)(hm:Meth X0.K C m f)(F:zG X0.prog X0.w X0.K X0.mg X0.base (CX1 X0.prog X0.w X0.base) k f fd ps sp)(hr:zO k X0.A)(z:Binds X0.K fd ps [])
  (ht:eval (.Call (.Attribute o m apos) [] [] pos) X0.env=(do
   let ov <-eval o X0.env
   standAt apos.atName
   let(f,first) <-holding [ov] (getMethod ov m pl)
   callWith pos f first (backTo pos (Ad [] X0.env)) (backToKw pos (keywordEach [] X0.env))):=by rfl):
  PE (X0.wish (XE X0 R)) (.Call (.Attribute o m apos) [] [] pos) (λσ H Q=>j σ H λx H1=>∃a dx fs,x=.ref a/\H1 a=some (.ins C dx fs)/\fs.lookup m=none/\∃E:XK,(∀a H',E (.ref a) none H'->R σ a H')/\sp [.ref a] H1 Q E):=by
 intro pins s σ H Q I h;refine zP6 (thn (he pins s σ H _ I h) λu s1 d=>?_) ht;obtain⟨x,H1,b,t,a,dx,fs,ex,p,l,E,y,q⟩:=d;subst ex;obtain rfl:u=Value.ref a:=t;refine wB b p c hm l ?_;have n:Vals [.ref a] [.ref a]:=.cons rfl .nil;have v:([.ref a]++[]:List Ac).length=ps.length:=by rw[zJ5,<-n.length];exact F.len _ _ _ _ q
 have i:=z s1 [.ref a] b.kIn v;refine PySem.W.callWith_K0 (first:=[.ref a]) b.kIn hm.kp ?_;refine zP1 (zP9 (F.run X0.A X0.stack s1 H1 ⟨[.ref a],[]⟩ [.ref a] [.ref a] Q E hr b.env0 i n q) λr s' g=>?_);cases r with
 |error e=>exact sH hex b.unwish g y
 |ok fl=>
  cases fl with
  |ret u=>exact b.after g
  |next=>exact False.elim g
  |brk=>exact False.elim g
  |cont=>exact False.elim g
end
section
variable {X:Cx}{L αh:Ev}{r:Fr}{q0 q:Aa->Prop}{e:Ai}{es:List Ai}{p pos apos:Pos}{s:zD}{QG:Aa->zD->Prop}{Q:Aa->Prop}{k:Nat}{φ:List A->(A->Prop)->(Aa->Prop)->Prop}{m o:Str}
def eJ (i j:Nat){pl:Sem Bool}(hi:L[i]?=some (some (.inn s)))(z:Xok X r αh q)(P:L[j]?=some (some (.exc r q0)))(le:leX αh L)(I:yM X.prog X.w X.K X.mg X.base s.C m k φ)(hr:zO k X.A)(hf:yr s.kvs m=none)(hm:m≠s.nm)(h:φ [.inn s] (λa=>∃d s',a=.res d s'/\s'.a=s.a/\s'.lp=s.lp/\QG d s') q)
  (B:X.N[i]?=some o:=by rfl) (x:Vis X.env.scope o:=by first|exact Or.inl rfl|exact Or.inr (Or.inl rfl)|exact Or.inr (Or.inr rfl)) (hd:(o == ("__debug__":Str))=false:=by decide) (g:(o == ("__classdict__":Str))=false:=by decide)
  (ht:eval (.Call (.Attribute (.Name o p) m apos) [] [] pos) X.env=(do
   let ov <-eval (.Name o p) X.env
   standAt apos.atName
   let(f,first) <-holding [ov] (getMethod ov m pl)
   callWith pos f first (backTo pos (Ad [] X.env)) (backToKw pos (keywordEach [] X.env))):=by rfl):EvG X L i (.Call (.Attribute (.Name o p) m apos) [] [] pos) QG:=λF σ H V b n=>by
 obtain⟨X0,R,rfl,U,E,M⟩:=z.ex;obtain⟨f,fd,ps,c,l,O,G⟩:=I.ex;obtain⟨D,h0,_⟩:=b.inn hi;refine⟨_,fB E (zT B x hd g) c l G hr O ht,_,D,s.a,s.dx,_,rfl,h0.ob,h0.look_m hf hm,?_⟩;exact vg b hi P le M .nil h λa v H' S J=>by
  obtain⟨d,s',rfl,t,T,u⟩:=S;obtain⟨y,av⟩:=J.backI b hi t T;exact n d s' v H' u y av
def tQ (i j:Nat){pl:Sem Bool}(hi:L[i]?=some (some (.inn s)))(D:Xok X r αh q)(T:L[j]?=some (some (.exc r q0)))(le:leX αh L)(O:yM X.prog X.w X.K X.mg X.base s.C m k φ)(hr:zO k X.A)(hf:yr s.kvs m=none)(hm:m≠s.nm)(h:EvA X L (e::es) λas=>φ (.inn s::as) (λa=>∃d,a=.res d s/\Q d) q)
  (E:X.N[i]?=some o:=by rfl) (z:Vis X.env.scope o:=by first|exact Or.inl rfl|exact Or.inr (Or.inl rfl)|exact Or.inr (Or.inr rfl)) (hd:(o == ("__debug__":Str))=false:=by decide) (g:(o == ("__classdict__":Str))=false:=by decide)
  (l:Ad (e::es) X.env=(false,eval e X.env)::Ad es X.env:=by rfl) (hpl:(backTo pos (Ad es X.env)).any (·.1)=false:=by rfl)
  (ht:eval (.Call (.Attribute (.Name o p) m apos) (e::es) [] pos) X.env=(do
   let ov <-eval (.Name o p) X.env
   standAt apos.atName
   let(f,first) <-holding [ov] (getMethod ov m pl)
   callWith pos f first (backTo pos (Ad (e::es) X.env)) (backToKw pos (keywordEach [] X.env))):=by rfl):EvD X L (.Call (.Attribute (.Name o p) m apos) (e::es) [] pos) Q:=λF σ H W b u=>by
 obtain⟨X0,R,rfl,V,M,P⟩:=D.ex;obtain⟨f,fd,ps,c,n,S,G⟩:=O.ex;obtain⟨J,h0,_⟩:=b.inn hi;refine⟨_,mE M (zT E z hd g) c n G hr S zY l hpl ht,_,J,s.a,s.dx,_,rfl,h0.ob,h0.look_m hf hm,?_⟩;refine h F σ H _ b λas us H1 I t1 k1 x=>?_;have m1:=b.kz k1 t1;exact vg m1 hi T le P x I λa v H' U t=>by
  obtain⟨d,rfl,y⟩:=U;obtain⟨B,av⟩:=t.backI m1 hi rfl rfl;rw[lG hi]at av;exact u d v H' y B.tp (k1.trans (Kz.giv m1 hi t)) av
end
def EvU (X:Cx)(L:Ev)(e:Ai)(Q:Aa->Ev->Prop):Prop:=∀(F:Fr) (σ:St) (H:Hp) (R:VK),M F L σ H->(∀d a v H',Q d a->M F a σ H'->AV (Gz F a σ H') v d->R v H')->uq X e σ H R
def TeU (X:Cx)(L:Ev)(e:Ai)(Q:Bool->Ev->Prop):Prop:=∀(F:Fr) (σ:St) (H:Hp) (R:Bool->Hp->Prop),M F L σ H->(∀b a H',Q b a->M F a σ H'->R b H')->zw5 X e σ H R
section
variable {X:Cx}{L:Ev}{E:yj}{e a b c:Ai}{es rest':List Ai}{pos p apos:Pos}{rest:List An}{s:zD}{Q:Aa->Ev->Prop}{T:Bool->Ev->Prop}
def EvD.u (h:EvD X L e λd=>Q d L):EvU X L e Q:=λF σ H R m k=>h F σ H R m λd v H' q t kz r=>k d L v H' q (m.kz kz t) r
def EvG.u {i:Nat}(h:EvG X L i e λd s'=>Q d (L.set i (some (.inn s')))):EvU X L e Q:=λF σ H R m k=>h F σ H R m λd s' v H' q f r=>k d _ v H' q f r
def zs5 (h:EvU X L e λd f=>∃b,d=.bool b/\T b f)(he:∀whole,isTrue e X.env whole=(do let v <-whole;standAt e.pos;holding [v] (truthy v)):=by intro _;rfl):TeU X L e T:=λF σ H R m k=>by
 refine⟨_,iw zi he,h F σ H _ m λd f v H1 i m1 g=>?_⟩;obtain⟨b,rfl,q⟩:=i;cases g.bl_inv;exact⟨b,rfl,k b f H1 q m1⟩
def zr7 (h:TeU X L a λb d=>T (!b) d):TeU X L (.UnaryOp .Not a pos) T:=λF σ H R m k=>⟨_,iA xB,h F σ H _ m λb d H1 f m1=>k _ d H1 f m1⟩
def zo3 {op}(h:EvU X L a Q):EvU X L (.BoolOp op [a] pos) Q:=λF σ H R m k=>⟨_,xR zi,h F σ H R m k⟩
theorem zw6 (h:EvU X L a λx d=>∃k,x=.bool k/\if k=true then EvU X d (.BoolOp .And (b::rest') pos) Q else Q (.bool false) d):EvU X L (.BoolOp .And (a::b::rest') pos) Q:=λF σ H R m k=>by
 refine⟨_,xq zi zi,h F σ H _ m λx d i H1 f m1 g=>?_⟩;obtain⟨c,rfl,f⟩:=f;cases g.bl_inv;refine⟨c,rfl,?_⟩;cases c with
 |true=>exact uv ((by simpa using f:EvU X d _ Q) F σ H1 R m1 k)
 |false=>exact vR (k _ d _ H1 (by simpa using f) m1 (.bl _))
def EvU.keep (h:EvU X L e Q)(F:Fr)(σ:St)(H:Hp)(R:VK)(m:M F L σ H)(k:∀d f v H',Q d f->M F f σ H'->zu (Gz F L σ H) (Gz F f σ H')->AV (Gz F f σ H') v d->R v H'):uq X e σ H R:=
 h (F.up (Gz F L σ H)) σ H R m.up λd f v H' q g r=>k d f v H' q g.down (m.upold g) r
def zt3 {op:CmpOp}{r:R2}(n:OpR X (compareOp op) r)(hm:behindInMarks op b=false)(h:EvU X L a λx d=>EvU X d b λy α2=>∃k,Cmp r x y k/\Q (.bool k) α2):EvU X L (.Compare a [op] [b] pos) Q:=λF σ H R m k=>by
 refine⟨_,wG n zi zi hm,h F σ H _ m λx d l H1 u m1 g=>?_⟩;refine EvU.keep u F σ H1 _ m1 λy α2 i f t m2 s2 o=>?_;obtain⟨b,j,q⟩:=t;exact j _ f l i _ (g.same s2) o (k _ α2 _ f q m2 (.bl b))
def EvU.imp {Q':Aa->Ev->Prop}(h:EvU X L e Q)(w:∀d f,Q d f->Q' d f):EvU X L e Q':=λF σ H R m k=>h F σ H R m λd f v H' q g r=>k d f v H' (w d f q) g r
def zu7 (f:X.A.units+64<cLine)(h:EvU X L a λx d=>EvU X d b λy α2=>qM x y λk=>Q (.bool k) α2):EvU X L (.Compare a [.Eq] [b] pos) Q:=zt3 (jv f) (yc _) (h.imp λx _ h=>h.imp λy _ z=>by obtain⟨k,e,_,q⟩:=z;exact⟨k,e,q⟩)
theorem zx3 {x y:List An}(h:TeU X L c λk d=>SvS X d (if k=true then x else y) {E with nx:=λf=>SvS X f rest E}):SvS X L (.If c x y pos::rest) E:=λF σ H D m r=>by
 refine⟨_,zv (wo xB zC zC) zC,h F σ H _ m λk d H1 g m1=>?_⟩;cases k with
 |true=>exact uv (by simpa using g F σ H1 _ m1 r.then)
 |false=>exact vR (by simpa using g F σ H1 _ m1 r.then)
def zh9 (i:Nat)(h:EvU X L e λd f=>∃s',f[i]?=some (some (.inn s'))/\E.rt (.res d s')):SvS X L (.Return (some e) pos::rest) E:=λF σ H D m r=>by
 exact⟨_,zv (zP zi) zC,h F σ H _ m λd f v H1 j m1 g=>by
  obtain⟨s',hi,q⟩:=j;exact r.rt _ _ _ (yf.res m1 hi g) q⟩
end
def xN (imp:List (Option Nat))(L:Ev)(a:Nat)(s:zD):Ev:=(zW imp L).set a (some (.inn s))
theorem hJ {s:zD}{H:Hp}{x:Ab}(h:s.at x\/H x=none):s.un H x=none:=by
 cases q:s.un H x with
 |none=>rfl
 |some o=>
  obtain⟨w,e⟩:=zg (p:=λx=>x≠s.a/\x≠s.lp) (H:=H) q;rcases h with h|h
  .exact(h.elim w.1 w.2).elim
  .rw[h]at e;cases e
section
variable {X:Cx}{L:Ev}
def kg {N:List Str}{imp:List (Option Nat)}{scope:Aq}{tg iter elt:Ai}{ifs:List Ai}{pat:Pat}{Q:List Aa->Prop}{i0 l:Nat}{s:zD}(h0:L[i0]?=some (some (.inn s)))(b2:imp[l]?=some (some i0))(E:pat.free (xN imp L l s)=true)
  (h:EvI X L tg iter λds=>ds.length<=1000/\yR (λC s2 G fp=>X.comp N scope C s2 G fp) pat ifs elt (xN imp L l s) ds [] Q)
  (F:Fr) (σ:St) (H:Hp) (R:VK) (m:M F L σ H) (k:∀ds v H',Q ds->zH F H'->Kz F H H'->yQ F L σ H v H' ds->R v H'):
  ∃Y:Ab->Af->Hp->List Ab->Cx,Y=(λC s2 G fp=>X.comp N scope C s2 G fp)/\rF (ia X tg iter) imp (vF X.K pat) (tsC Y ifs) (eC Y elt) σ H R:=by
 refine⟨_,rfl,h F σ H _ m λds J H1 c1 t1 k1 b9 acc B=>?_⟩;obtain⟨hl,q1⟩:=c1;have m1:=m.kz k1 t1;obtain⟨b6,U,a9⟩:=m1.inn h0;have own:∀{x:Ab},s.at x->Ow F L σ x:=λz=>.inr ⟨i0,_,_,h0,b6,z⟩;have there:∀{x:Ab},s.at x->∃o,H1 x=some o/\∀ts,o≠.tup ts:=λz=>U.obj z;have b4:∀{x:Ab},s.at x->x≠acc:=λz e=>by obtain⟨o,S,_⟩:=there z;rw[e,B]at S;cases S
 let O:Fr:=⟨s.un H1,λx=>(Ow F L σ x/\x≠s.a/\x≠s.lp)\/x=acc,F.tp⟩
 have d1:∀{x:Ab},s.at x->¬O.O0 x:=λ{x} z w=>w.elim (λw=>z.elim w.2.1 w.2.2) (b4 z)
 let Nd:Ev->Prop:=λD=>D[l]?=some (some (.inn s))/\∀(j:Nat) a,j≠l->D[j]?=some (some a)->(∃d,a=.dat d)\/a=.tape
 have b5:l<imp.length:=(zH9.mp b2).1;have c6:l<(zW imp L).length:=by unfold zW;rw[zH8];exact b5
 have g:Nd (xN imp L l s):=⟨zJ9 c6,λj a P z=>by
  unfold xN at z;rw[zI4 (zO2 P)]at z;obtain⟨_,_,_,n⟩:=xM z;exact n⟩
 have owc:∀{D:Ev} {τ:St} {x:Ab},Nd D->D.length=τ.length->(Ow O D τ x↔Ow F L σ x\/x=acc):=λ{D τ x} hh ln=>⟨λz=>by
  rcases z with(z|z)|⟨j,a,u,S,e2,f⟩
  .exact .inl z.1
  .exact .inr z
  .by_cases P:j=l
   .subst P;rw[hh.1]at S;cases S;exact .inl (own f)
   .rcases hh.2 j a P S with⟨d,rfl⟩|rfl
    .exact f.elim
    .exact f.elim,λz=>by
  by_cases w:s.at x
  .have P:l<τ.length:=by rw[<-ln];exact(zH9.mp hh.1).1
   exact .inr ⟨l,_,_,hh.1,zI5 P,w⟩
  .exact .inl (z.elim (λz=>.inl ⟨z,λe=>w (.inl e),λe=>w (.inr e)⟩) .inr)⟩
 have gz:∀{D α2:Ev} {I τ2:St} {H:Hp},Nd D->Nd α2->D.length=I.length->α2.length=τ2.length->zu (Gz O D I H) (Gz O α2 τ2 H):=λh1 h2 l1 l2=>zj λa o h e=>⟨λz=>h ((owc h1 l1).mpr ((owc h2 l2).mp z)),e⟩;have c2:∀{G:Hp},zH F G->zH O G:=λt=>t.to rfl λx z=>.inl ⟨.inl z,λe=>(a9 x (.inl e)).1 z,λe=>(a9 x (.inr e)).1 z⟩;have Z:zu H1 (upd H1 acc (.lst [])):=zV B;have li:(xN imp L l s).length=(yN imp σ).length:=by unfold xN zW yN;rw[zK0,zH8,zH8]
 have c3:M O (xN imp L l s) (yN imp σ) (upd H1 acc (.lst [])):=by
  have g1:zu (Gz F L σ H1) (Gz O (xN imp L l s) (yN imp σ) (upd H1 acc (.lst []))):=λa o e=>by
   obtain⟨z1,z2⟩:=zg e;have na:=zq z2 B;exact zw (λz=>((owc g li).mp z).elim z1 na) (by rw[zm na];exact z2)
  have fo:∀{i:Nat} {a:A} {u:Option V} {x:Ab},(xN imp L l s)[i]?=some (some a)->foot u a x->i=l:=λ{i a u x} e f=>zT0 λhn=>by
   rcases g.2 i a hn e with⟨d,rfl⟩|rfl
   .exact f
   .exact f
  refine⟨li,λi a u S e2=>?_,λi j a b u t x S e2 _ _ f f'=>(fo S f).trans (fo e2 f').symm,λi r q e=>?_,c2 (t1.same Z),λx o e _=>Z x o (zg (p:=λx=>x≠s.a/\x≠s.lp) (H:=H1) e).2,?_⟩
  .by_cases P:i=l
   .subst P;rw[g.1]at S;cases S;rw[xC b2 b6]at e2;cases e2;exact⟨rfl,U.same g1 (λx o _ e=>Z x o e),λx z=>⟨d1 z,hJ (.inl z)⟩⟩
   .have a7:=S;unfold xN at a7;rw[zI4 (zO2 P)]at a7;obtain⟨j,w1,w2,w3⟩:=xM a7;rcases w3 with⟨d,rfl⟩|rfl
    .obtain⟨v,g2,g3⟩:=m1.dat j d w2;rw[xC w1 g2]at e2;cases e2;exact⟨v,rfl,g3.same g1⟩
    .obtain⟨t,b,c,g2,g3⟩:=m1.tvar j w2;rw[xC w1 g3]at e2;cases e2;exact⟨t,b,c,g2,rfl⟩
  .by_cases P:i=l
   .subst P;rw[g.1]at e;cases e
   .rcases g.2 i _ P e with⟨d,w⟩|w<;>cases w
  .rintro x (z|z)
   .obtain⟨o,ho,hn⟩:=m1.owEx z.1;exact⟨o,Z _ _ ho,hn⟩
   .exact⟨_,by rw[z];exact zk,yg⟩
 refine⟨λi n ys τ G=>n=ds.length-i/\i<=ds.length/\∃ad:List Aa,M O (xN imp L l s) τ G/\G acc=some (.lst ys)/\AVs (Gz O (xN imp L l s) τ G) ys ad/\ad.length<=i/\yR (λC s2 G fp=>X.comp N scope C s2 G fp) pat ifs elt (xN imp L l s) (ds.drop i) ad Q,
  ⟨ds.length,by simp,zK6 _,[],c3,zk,.nil,zI3 _,q1⟩,?_⟩
 rintro i n ys τ G ⟨rfl,hi,ad,m2,ha,av,a5,cw⟩;have sG:zu (Gz F L σ H1) (Gz O (xN imp L l s) τ G):=λa o e=>by
  obtain⟨z1,z2⟩:=zg e;exact m2.old a o (zw (λz=>z.elim (λz=>z1 z.1) (zq z2 B)) (zw (p:=λx=>x≠s.a/\x≠s.lp) ⟨λe=>z1 (own (.inl e)),λe=>z1 (own (.inr e))⟩ z2))
 obtain⟨w1,w2⟩:=b9 i G _ sG;by_cases W:i<ds.length
 .have hd:=zI5 W;rw[(zM7 W)]at cw;obtain⟨D,eb,body⟩:=cw;obtain⟨go,yl⟩:=w1 _ hd;have T:Nd D:=by
   obtain⟨is,d2,e0,e⟩:=Pat.is_ok eb;have c7:l∉is:=λz=>by
    have:=zP4.mp E l (e0▸z);unfold isFree at this;rw[g.1]at this;cases this
   refine⟨by rw[uL e c7];exact g.1,λj a P z=>?_⟩;by_cases hn:∀d,a≠.dat d
   .exact g.2 j a P (wj e z hn)
   .simp only[zS3,zU5]at hn;exact .inl hn
  refine .inr ⟨go,λa6 a4 H'=>∃ad:List Aa,M O (xN imp L l s) a4 H'/\H' acc=some (.lst a6)/\AVs (Gz O (xN imp L l s) a4 H') a6 ad/\ad.length<=i+1/\yR (λC s2 G fp=>X.comp N scope C s2 G fp) pat ifs elt (xN imp L l s) (ds.drop (i+1)) ad Q,
   λa6 a4 H' c0=>by obtain⟨b8,r1,r2,r3,r4,r5⟩:=c0;exact⟨ds.length-(i+1),(om0 W),rfl,W,b8,r1,r2,r3,r4,r5⟩,λx H3 y=>?_⟩
  obtain⟨a0,c5⟩:=yl x H3 y;refine vb eb (m2.kz (Kz.of_same a0) (m2.tp.same a0)) (c5 λa o _ e=>m2.fresh e) λI m4 C s2 c4 fp=>body C s2 c4 fp O I H3 _ m4 λb H5 qb t5 k5=>?_;have m5:=m4.kz k5 t5;have b3:AVs (Gz O (xN imp L l s) I H5) ys ad:=av.same ((Kz.of_same a0).gz m2.tp |>.trans ((gz (τ2:=I) g T m2.len m4.len).trans ((k5.gz m4.tp).trans (gz T g m4.len (Pat.back eb E m4).len))));have accN:NT O acc:=⟨λt b c e=>by
   have:=(t1 t b c e).1.free B;exact⟨this.1,this.2.1⟩,wy t1.tab B⟩
  have b7:=k5 _ _ (a0 _ _ ha) accN;cases b with
  |false=>
   have d0:yR (λC s2 G fp=>X.comp N scope C s2 G fp) pat ifs elt (xN imp L l s) (ds.drop (i+1)) ad Q:=by simpa using qb
   exact vR ⟨ad,Pat.back eb E m5,b7,b3,(zJ1 a5 (zO9 _ _)),d0⟩
  |true=>
   refine uv λC s2 a1 fp=>?_;have qe:EvD (X.comp N scope C s2 a1 fp) D elt λy=>yR (λC s2 G fp=>X.comp N scope C s2 G fp) pat ifs elt (xN imp L l s) (ds.drop (i+1)) (ad++[y]) Q:=by
    have z:=qb;rw[if_pos rfl]at z;exact z C s2 a1 fp
   refine qe O I H5 _ m5 λy v H6 qy t6 k6 r6=>?_;have b0:=k6 _ _ b7 accN;have hlen:ys.length<=i:=by rw[av.length];exact a5
   have a2:O.O0 acc:=.inr rfl;have a8:∀t b c,O.tp=some (t,b,c)->acc≠t/\acc≠b/\acc≠c:=λt b c e=>(t1 t b c e).1.free B;have a3:O.H0 acc=none:=hJ (.inr B);have m7:=(Pat.back eb E (m5.kz k6 t6)).wr (o:=.lst (ys++[v])) yg a2 a8 a3 (xp b0) (λi r q z=>by
    by_cases P:i=l
    .subst P;rw[g.1]at z;cases z
    .rcases g.2 i _ P z with⟨d,w⟩|w<;>cases w)
   refine⟨b0,yx (by lia),ad++[y],m7,zk,?_,by simp;exact a5,qy⟩;have c8:zu (Gz O (xN imp L l s) I H6) (Gz O (xN imp L l s) I (upd H6 acc (.lst (ys++[v])))):=zj λa o h e=>⟨h,by rw[zm (λz=>h (.inl (by rw[z];exact a2)))];exact e⟩;have lb:=(Pat.back eb E m5).len;exact((b3.same ((gz (τ2:=I) g T lb m5.len).trans ((k6.gz m5.tp).trans (gz T g m5.len lb)))).append (.cons (r6.same (gz T g m5.len lb)) .nil)).same c8
 .have e:=(zR9 hi (zQ7 W));subst e;rw[zP5]at cw;have b1:=(m2.inn g.1).2.1;have c9:Kz F H1 G:=λx o e n=>by
   by_cases za:x=s.a
   .subst za;rw[U.ob]at e;cases e;exact b1.ob
   .by_cases zl:x=s.lp
    .cases zp:s.pl with
     |true=>subst zl;rw[U.ls zp]at e;cases e;exact b1.ls zp
     |false=>exact absurd (zl.trans (U.eq zp)) za
    .exact m2.keep x o (show s.un H1 x=some o from zw (p:=λx=>x≠s.a/\x≠s.lp) ⟨za,zl⟩ e) n
  exact .inl ⟨w2 (zI3 _),k ad _ G cw (m.tp.re m2.tp rfl) (k1.trans c9) (yQ.back m k1 t1 ⟨acc,ys,rfl,B,ha,av.same (zj λa o h e=>⟨⟨λz=>h ((owc g m2.len).mpr (.inl z)),λz=>h ((owc g m2.len).mpr (.inr z))⟩,e⟩)⟩)⟩
def kU (N:List Str)(imp:List (Option Nat))(pat:Pat)(f d:Nat){s:zD}(h0:L[f]?=some (some (.inn s))){tg iter elt:Ai}{ifs:List Ai}{pos:Pos}{scope:Aq}{Q:List Aa->Prop}(h:EvI X L tg iter λds=>ds.length<=1000/\yR (λC s2 a fp=>X.comp N scope C s2 a fp) pat ifs elt (xN imp L d s) ds [] Q)
  (e:imp[d]?=some (some f):=by rfl) (nd:N.Nodup:=by decide +kernel) (n:scope.kind=.function:=by rfl) (l:∀y∈scope.names,y.2≠.cell:=by decide +kernel) (r:∀y∈scope.names,y.2=.local->scope.names.lookup y.1=some .local:=by decide +kernel) (g:scope.names.all (freeOk X.env.scope)=true:=by rfl) (u:imp.length=N.length:=by rfl)
  (o:((imp.zip N).all λp=>match p.1 with|none=>true|some j=>X.N[j]? == some p.2&&scope.names.lookup p.2 == some .free)=true:=by rfl) (b:pat.free (xN imp L d s)=true:=by rfl)
  (t:∀C s2 a fp,N.Nodup->PG (X.comp N scope C s2 a fp) tg (vF X.K pat):=by intro _ _ _ _ c;first|exact zQ c rfl (Or.inl rfl)|exact yI rfl rfl (by repeat (first|exact yY|refine yo (zQ c rfl (Or.inl rfl)) ?_)))
  (q:X.calm=true:=by rfl) (i:∀x,foldedSetIterable iter X.env x=pure x:=by intro _;rfl):EvL X L (.ListComp elt [⟨tg,iter,ifs,0⟩] scope pos) Q:=λF σ H R m k=>by
 obtain⟨Y,rfl,h⟩:=kg h0 e b h F σ H R m k;exact⟨_,ax q ⟨n,nd,l,r,wY g,u,o⟩ xW (λC s2 a fp=>t C s2 a fp nd) (λC s2 a fp pins s σ H Q I h=>sJ pins s σ H Q I (h C s2 a fp)) (λC s2 a fp pins s σ H Q I h=>zi pins s σ H Q I (h C s2 a fp)) i,h⟩
end
section
variable {X:Cx}{L:Ev}{pos:Pos}{o:Ai}{f:Str}{Q:Aa->Prop}{C S:Ab}{init:Option Ac}
def mZ {pins:List (Ab×Obj)}{σ:St}{H:Hp}{s:Af}{A:Ap}{E:Ac->Af->Prop}{b:Bool}{Q:Ac->Af->Prop}{a dx:Ab}{fs:List (Str×V)}{v:V}(I:Inv X pins σ H s)(e:H a=some (xcO a C (some dx)))(G:H dx=some (.xd fs))(c:XC X.K C S init)(n:PySem.W.findIn X.K (.ref C) f=some none)(l:fs.lookup f=some v)
  (h:∀u s',Inv X pins σ H s'->RelV v u->Q u s'):Al (Am X.prog X.w) A (getAttr (.ref a) f b) Q E s:=by
 obtain⟨⟨ox,vs,F,D,M,x⟩,_⟩:=I.hok a _ e;obtain⟨mA,ns,r⟩:=I.hok dx _ G;obtain⟨od,y,B⟩:=qW ns;obtain⟨u,p,m⟩:=vZ.some_of (v:=v) (o:=mA f) (by rw[<-l];exact r f);have J:PySem.W.InstAt s.heap a ox C (some od):=gF F D ⟨vs,x⟩ (by rw[M];exact y);obtain⟨nm,U,N,bs,sn,sub,ab,col,dd,k0,k1,k2,k3,k5,O,R,P,hi,T,cd,j,i,k,_⟩:=yW I.kIn c.ok;have z:PySem.W.hasDictIn X.K C=true:=by unfold PySem.W.hasDictIn;rw[j];exact i
 have q:=h u _ (I.tok (s.toks+1)) m;obtain⟨h0,g,d,t,os⟩:=s;exact zA4 I.kIn c J (PySem.W.findObj_own z n rfl (by rw[B,p])) (pA m) q
def zg6 {d:TE}(c:XC X.K C S init)(n:PySem.W.findIn X.K (.ref C) f=some none)(he:PE X o d)(j:attributeBase o f X.env (eval o X.env)=eval o X.env):
  PE X (.Attribute o f pos) (λσ H Q=>d σ H λx H1=>∃a dx fs v,x=.ref a/\H1 a=some (xcO a C (some dx))/\H1 dx=some (.xd fs)/\fs.lookup f=some v/\Q v H1):=by
 intro pins s σ H Q I h;refine gc j (thn (he pins s σ H _ I h) λu s1 b=>?_);obtain⟨x,H1,p,m,a,dx,fs,v,ex,e,i,l,q⟩:=b;subst ex;obtain rfl:u=Value.ref a:=m;exact mZ p e i c n l λr s2 g k=>⟨v,H1,g,k,q⟩
def gD (c:XC X.K C S init)(n:PySem.W.findIn X.K (.ref C) f=some none)(h:EvD X L o λx=>∃fs d,x=xD C fs/\yr fs f=some d/\Q d)(l:attributeBase o f X.env (eval o X.env)=eval o X.env:=by rfl):EvD X L (.Attribute o f pos) Q:=λF σ H R m k=>by
 refine⟨_,zg6 c n zi l,?_⟩;refine h F σ H _ m λx s H1 r t1 k1 e=>?_;obtain⟨fs,d,rfl,hf,q⟩:=r;obtain⟨a,dx,i,rfl,g,b,j⟩:=e.xc_inv;obtain⟨v,p,av⟩:=j.get hf;exact⟨a,dx,i,v,rfl,(zg g).2,(zg b).2,p,k d v H1 q t1 k1 av⟩
end
section
variable {P:Ah}{w:Ak}{K:Ae}{mg:Str->Option Ac}{base:Ao}
def cG {st:An}{f C S:Ab}{fd:Ag}{qual n fl a b:Str}{init:Option Ac}{v t:Nat}{l q x g y r j u d m e z o p:Pos}(G:Fun K "__init__" qual st f fd)(M:zo ["self",n] ["self",n] (zd st))
  (L:zJ st=[.Expr (.Call (.Attribute (.Name "StayError" l) "__init__" q) [.Name "self" x,.JoinedStr [.Constant (.str a) v g,.FormattedValue (.Name n y) (-1) none r,.Constant (.str b) t j] u] [] d) m,.Assign [.Attribute (.Name "self" e) fl z] (.Name n o) p])
  (N:(zd st).names.lookup ("StayError":Str)=some .globalImplicit) (hm:mg "StayError"=some (.ref S)) (xs:XS K S) (xc:XC K C S init) (hn:PySem.W.findIn K (.ref C) fl=some none) (D:a.length<=10000) (I:b.length<=10000)
  {pl:Ar->Sem Bool} (ht:∀env:Ar,eval (.Call (.Attribute (.Name "StayError" l) "__init__" q) [.Name "self" x,.JoinedStr [.Constant (.str a) v g,.FormattedValue (.Name n y) (-1) none r,.Constant (.str b) t j] u] [] d) env=(do
   let ov <-eval (.Name "StayError" l) env
   standAt q.atName
   let(f,first) <-holding [ov] (getMethod ov "__init__" (pl env))
   callWith d f first (backTo d (Ad [.Name "self" x,.JoinedStr [.Constant (.str a) v g,.FormattedValue (.Name n y) (-1) none r,.Constant (.str b) t j] u] env)) (backToKw d (keywordEach [] env))))
  (v0:Vis (zd st) "self") (v1:Vis (zd st) n) (hd:(n == ("__debug__":Str))=false:=by decide) (c:(n == ("__classdict__":Str))=false:=by decide):zG P w K mg base CX0 1 f fd ["self",n] (zB3 C fl):=by
 refine G.ok M (λvs H Q E h=>?_) (λcdv A outer s H vs Q E hr h=>?_)
 .obtain⟨a,i,rfl,_⟩:=h;rfl
 .obtain⟨B,i,rfl,hi,ha,k⟩:=h;rw[L];refine⟨_,zv (xU (za9 (C:=C) (init:=init) N hm xs xc.ok (zh (zT (i:=0) rfl v0) (zh (ma yi (jV (zT (i:=1) rfl v1 hd c)) yi) zy)) (ht:=ht _))) (zI (zj6 (zT (i:=0) rfl v0) (zT (i:=1) rfl v1 hd c) xc hn)),?_⟩;refine⟨_,rfl,a,rfl,D,_,rfl,i,rfl,hi,_,rfl,ni hi,b,rfl,I,B,_,none,rfl,zH7 rfl,ha,?_⟩;exact⟨_,rfl,_,rfl,B,rfl,ha,λdx J F=>k dx J F⟩
end
section
variable {X:Cx}{L αh:Ev}{r:Fr}{q q0:Aa->Prop}{j k:Nat}{x fl:Str}{C:Ab}{e:Ai}{es:List Ai}{p pos pos':Pos}{rest:List An}{E:yj}
end
section
variable {P:Ah}{w:Ak}{K:Ae}{mg:Str->Option Ac}{base:Ao}
end
def uH (K:Frag)(C S:Ab)(init:Option Ac):Bool:=xQ K C S init&&findIn K (.ref C) "__setattr__" == some (some (.builtin "object.__setattr__"))&&findIn K (.ref C) "__getattribute__" == some (some (.builtin "BaseException.__getattribute__"))&&findIn K (.ref C) "__getattr__" == some none&&findIn K (.ref C) "__class__" == some (some (.builtin "object.__class__"))&&specialIn K (.builtin "object.__class__") "__get__" == some (some (.builtin "getset_descriptor.__get__"))&&takesIn K (.builtin "object.__class__")==some true
def XC.of {K:Frag}{C S:Ab}{init:Option Ac}(h:uH K C S init=true):XC K C S init:=by
 simp only[uH,zL0,zP3]at h;obtain⟨⟨⟨⟨⟨⟨e,a⟩,g⟩,c⟩,d⟩,f⟩,b⟩:=h;exact⟨e,a,g,c,d,f,b⟩
def za3 (K:Frag)(S:Ab):Bool:=readsIn K S (.type "type")&&(match findCls K (.ref S) (.type "type") "__init__" with|some (.val v)=>v == .builtin "ValueError.__init__"|_=>false)&&specialIn K (.ref S) "__getattribute__" == some (some (.builtin "type.__getattribute__"))
def XS.of {K:Frag}{S:Ab}(h:za3 K S=true):XS K S:=by
 simp only[za3,zL0,zP3]at h;obtain⟨⟨c,a⟩,b⟩:=h;refine⟨c,?_,b⟩;split at a
 .rename_i v e;rw[e,zP3.mp a]
 .cases a
def tY (K:Frag)(C B:Ab):Bool:=typeIn K (.ref B)==some (.type "type")&&mroIn K B (.type "BaseException")==some true&&mroIn K C (.ref B)==some true
def XB.of {K:Frag}{C B:Ab}(h:tY K C B=true):XB K C B:=by
 simp only[tY,zL0,zP3]at h;exact⟨h.1.1,h.1.2,h.2⟩
section
variable {P:Ah}{w:Ak}{K:Ae}{mg:Str->Option Ac}{base:Ao}
def mB.okX {dV:Ac}{x qual:Str}{st:An}{f:Ab}{fd:Ag}{N ps:List Str}{k:Nat}{sp:Sp}(F:mB K x qual st dV f fd)(S:zo N ps (zd st))(len:∀vs H Q E,sp vs H Q E->vs.length=ps.length)
  (b:∀(cdv:Ac) (A:Ap) (outer:List Ar) (s:Af) (H:Hp) (vs:List V) (Q:VK) (E:XK),zO k (A.deeper (envOfC qual (zd st) s.heap.objs.size f cdv))->sp vs H Q E->
   ∃t,PSs ((xi (CX1 P w base) P w K mg base N qual (zd st) f cdv A outer s H E).wish (XE (xi (CX1 P w base) P w K mg base N qual (zd st) f cdv A outer s H E) λ_ a H=>E (.ref a) none H)) (zJ st) t/\t {nx:=λ_ H'=>Q .non H',rt:=Q} (start N vs) H):zG P w K mg base (CX1 P w base) (k+1) f fd ps sp:=by
 obtain⟨oc,od,kV,doc,pm,an,cdv,ct,osl,rfl,g,d⟩:=F.ex;refine iN g d S len λA outer s H vs Q E hr c=>?_;obtain⟨t,h,q⟩:=b cdv A outer s H vs Q E hr c;exact⟨t,h.wishx λe s z=>hU z,q⟩
def zB9 {dV:Ac}{x qual:Str}{st:An}{f:Ab}{fd:Ag}{N ps:List Str}{z:Str}{k:Nat}{φ:List A->(A->Prop)->(Aa->Prop)->Prop}(G:mB K x qual st dV f fd)(S:zo (N++[z]) ps (zd st))(D:ps.length<=N.length)(hlen:∀as Q q,φ as Q q->as.length=ps.length)
  (c:∀(cdv:Ac) (g:Ap) (outer:List Ar) (s:Af) (H:Hp) (E:XK) (as:List A) (Q:A->Prop) (q:Aa->Prop) (r:Fr) (xe:Ac->Af->Prop),zO k (g.deeper (envOfC qual (zd st) s.heap.objs.size f cdv))->φ as Q q->Xok ((xi (CX1 P w base) P w K mg base (N++[z]) qual (zd st) f cdv g outer s H E).wish xe) r (List.replicate (N.length+1) none) q->
   SvS ((xi (CX1 P w base) P w K mg base (N++[z]) qual (zd st) f cdv g outer s H E).wish xe) ((as.map some++List.replicate (N.length-as.length) none)++[some (.exc r λ_=>True)]) (zJ st) {nx:=λ_=>Q (.dat .none),rt:=Q}):zG P w K mg base (CX1 P w base) (k+1) f fd ps (spX φ):=by
 refine G.okX S (λvs H Q E h=>?_) (λcdv g outer s H vs J E hr h=>?_)
 .obtain⟨F,as,Q',q,_,_,_,l,b,_⟩:=h;rw[l.length,hlen as _ _ b]
 .obtain⟨F,as,Q',q,e,t,o,l,b,n,C⟩:=h;have O:=hlen as _ _ b;have m:=M.start (N:=N++[z]) e t o l;have y:as.map some++List.replicate ((N++[z]).length-as.length) none=(as.map some++List.replicate (N.length-as.length) none)++[none]:=by rw[zI1,zN0,show N.length+1-as.length=(N.length-as.length)+1 by omega,zS5,zN1]
  rw[y]at m;have u:(as.map some++List.replicate (N.length-as.length) (none:Option A)).length=N.length:=by rw[zI1,zH8,zL5];lia
  have p:=m.exc (j:=N.length) (q:=λ_=>True) (by rw[zJ2 (by lia),u,zM1]<;>rfl);have B:((as.map some++List.replicate (N.length-as.length) (none:Option A))++[none]).set N.length (some (A.exc F λ_=>True))=(as.map some++List.replicate (N.length-as.length) none)++[some (.exc F λ_=>True)]:=by rw[zN9 _ _ (by lia),u,zM1]<;>rfl
  rw[B]at p;refine c cdv g outer s H E as Q' q F _ hr b ⟨_,_,rfl,rfl,rfl,λσ d S a H' i I=>C d S a H' I ⟨i.tp,i.keep,ud i⟩⟩ F _ H _ p ⟨λL σ H' m q=>?_,λa v H' r q=>n a v H' q r,λ_ _ _ _ z=>z.elim,λ_ _ _ _ z=>z.elim⟩;exact n _ _ _ q ⟨m.tp,m.keep,.non⟩
structure uO (P:Ah)(w:Ak)(K:Ae)(mg:Str->Option Ac)(base:Ao)(x:Str)(k:Nat)(φ:List A->(Aa->Prop)->Prop):Prop where
 ex:∃C f fd ps,mg x=some (.ref C)/\Mk K C f/\Binds K fd ps []/\zG P w K mg base (CX1 P w base) k f fd ps (spX λas _ q=>∃as',as=.dat (wK C [])::as'/\φ as' q)
end
section
variable {X:Cx}{L αh:Ev}{r:Fr}{q q0:Aa->Prop}{j k:Nat}{x fl:Str}{C:Ab}{e:Ai}{es:List Ai}{p pos pos':Pos}{rest:List An}{E:yj}{Q:Aa->Prop}{φ:List A->(Aa->Prop)->Prop}
theorem mR {X0:Cx}{R:St->Ab->Hp->Prop}{f:Ab}{fd:Ag}{ps:List Str}{sp:Sp}{t:TA}(hex:X0.ex=[])(i:Mk X0.K C f)(F:zG X0.prog X0.w X0.K X0.mg X0.base (CX1 X0.prog X0.w X0.base) k f fd ps sp)(hr:zO (k+1) X0.A)(O:Gl X0 x)(hm:X0.mg x=some (.ref C))(M:Binds X0.K fd ps [])
  (ha:PA (X0.wish (XE X0 R)) (e::es) t) (l:(x == ("__debug__":Str))=false:=by decide) (he:Ad (e::es) X0.env=(false,eval e X0.env)::Ad es X0.env:=by rfl) (hpl:(backTo pos (Ad es X0.env)).any (·.1)=false:=by rfl):
  PE (X0.wish (XE X0 R)) (.Call (.Name x p) (e::es) [] pos) (λσ H Q=>t σ H λvs H1=>∀y dx,H1 y=none->H1 dx=none->dx≠y->∃E:XK,(∀a H',E (.ref a) none H'->R σ a H')/\sp (.ref y::vs) (upd (upd H1 dx (.own y)) y (.ins C dx [])) (λv G=>v=.non/\Q (.ref y) G) E):=by
 intro pins s σ H Q I h;refine zO0 (xu I O hm ?_ l);refine zO1 (h₀:=X0.base) I.ok.mod.kin i.kp (thn (ha pos pins s σ H _ I h) λus s1 m=>?_) he hpl;obtain⟨vs,H1,d,r,q⟩:=m;refine⟨d.kIn,?_⟩;obtain⟨E,J,n⟩:=q (s1.heap.objs.size+1) s1.heap.objs.size (d.hok.fresh (zP7 _)) (d.hok.fresh (zI3 _)) (zK8 (zP0 _));have g:=Inv.made (C:=C) d;have o:Vals (V.ref (s1.heap.objs.size+1)::vs) (Value.ref (s1.heap.objs.size+1)::us):=.cons rfl r;have z:(Value.ref (s1.heap.objs.size+1)::us++[]).length=ps.length:=by
  rw[zJ5,<-o.length];exact F.len _ _ _ _ n
 have c:=M _ (Value.ref (s1.heap.objs.size+1)::us) g.kIn z;rw[zJ5]at c;refine zP1 (rM (f:=f) d.kIn i.makes i.init (zP3.mp i.fn) (zP9 (F.run _ X0.stack _ _ ⟨Value.ref (s1.heap.objs.size+1)::us,[]⟩ (Value.ref (s1.heap.objs.size+1)::us) _ _ E (hr.make C us [])
  (g.env0.make C us []) c o n) λr s' b=>?_))
 cases r with
 |error e=>exact sH hex g.unwish b J
 |ok fl=>
  cases fl with
  |ret u=>
   obtain⟨v,H',D,B,ev,N⟩:=g.after b;subst ev;exact⟨B,⟨V.ref (s1.heap.objs.size+1),H',D,rfl,N⟩⟩
  |next=>exact False.elim b
  |brk=>exact False.elim b
  |cont=>exact False.elim b
def rP (s:Xok X r αh q)(N:L[j]?=some (some (.exc r q0)))(le:leX αh L)(t:uO X.prog X.w X.K X.mg X.base x k φ)(hr:zO (k+1) X.A)(O:Gl X x)(h:EvA X L (e::es) λas=>φ as q)
  (b:(x == ("__debug__":Str))=false:=by decide) (he:Ad (e::es) X.env=(false,eval e X.env)::Ad es X.env:=by rfl) (hpl:(backTo pos (Ad es X.env)).any (·.1)=false:=by rfl):EvD X L (.Call (.Name x p) (e::es) [] pos) Q:=λF σ H T m P=>by
 obtain⟨X0,R,rfl,S,G,M⟩:=s.ex;obtain⟨C,f,fd,ps,u,B,J,l⟩:=t.ex;refine⟨_,mR G B l hr O u J zY b he hpl,?_⟩;refine h F σ H _ m λas vs H1 D t1 k1 i=>?_;have m1:=m.kz k1 t1;intro y dx g c I;have d:zu H1 (upd (upd H1 dx (.own y)) y (.ins C dx [])):=λa o e=>by rw[zm (zq e g),zm (zq e c)];exact e
 have m2:=m1.kz (Kz.of_same d) (m1.tp.same d);refine wD (as:=.dat (wK C [])::as) (QA:=λ_=>False) m2 N le M (.cons ?_ (i.same ?_)) ⟨as,rfl,D⟩ λa v H' z=>z.elim
 .exact .ins (zw (m1.fresh g) zk) .nil
 .exact zj λa o n e=>⟨n,d a o e⟩
def iI {y f:Str}{b c:Pos}(i:Nat)(h:EvD X L e λ_=>False)(n:X.N[i]?=some y:=by rfl)(g:Vis X.env.scope y:=by first|exact Or.inl rfl|exact Or.inr (Or.inl rfl)|exact Or.inr (Or.inr rfl))(hd:(y == ("__debug__":Str))=false:=by decide)(a:(y == ("__classdict__":Str))=false:=by decide)
  (l:swapsWith e (some (.Attribute (.Name y b) f c)) pos.line X.env=pure false:=by rfl):SvS X L (.Assign [.Attribute (.Name y b) f c] e pos::rest) E:=λF σ H D m r=>by
 refine⟨_,zv (vo (zT n g hd a) zi l) zC,?_⟩;exact h F σ H _ m λd v H' z=>z.elim
def cm {a b:Str}{u g:Nat}{n w o c:Pos}(s:a.length<=10000)(l:b.length<=10000)(h:EvD X L e λd=>∃i:Int,d=.int i/\i.natAbs.log2<1920/\∀t:Str,Q (.str t)):EvD X L (.JoinedStr [.Constant (.str a) u n,.FormattedValue e (-1) none w,.Constant (.str b) g o] c) Q:=λF σ H R m k=>by
 refine⟨_,ma yi (jV zi) yi,?_⟩;refine⟨a,rfl,s,?_⟩;refine h F σ H _ m λd v H1 y t1 k1 f=>?_;obtain⟨i,rfl,hi,q⟩:=y;cases f.int_inv;exact⟨i,rfl,hi,_,rfl,ni hi,b,rfl,l,k _ _ H1 (q _) t1 k1 (.str _)⟩
end
theorem ll {cells:List (Str×Ab)}:∀{ns:List (Str×NameKind)}{acc:List (Str×Ab)},(∀y∈ns,y.2≠.free)->vL cells ns acc=acc
 |[],_,_=>rfl
 |(n,k)::r,acc,h=>by
  show vL cells r (if k=.free then _ else acc)=acc;rw[if_neg (h (n,k) zK2)];exact ll λy a=>h y (zI6 _ a)
def pN {scope:Aq}{env:Ar}(h:∀y∈scope.names,y.2≠.free):relabel scope env=scope:=by
 have e:∀l:List (Str×NameKind),(∀y∈l,y.2≠.free)->(l.map λ(n,k)=>if(k == NameKind.free&&env.scope.kind == .function&&env.kindOf n == some .cell)then(n,NameKind.cell)else(n,k))=l:=by
  intro l a
  induction l with
  |nil=>rfl
  |cons y r c=>
   obtain⟨n,k⟩:=y;have hk:(k == NameKind.free)=false:=by simpa using a (n,k) zK2
   rw[zL7,c λz b=>a z (zI6 _ b)];simp[hk]
 unfold relabel;rw[e _ h]
section
variable {prog:Ah}{w:Ak}{A:Ap}{R:Result->Af->Prop}{s:Af}
theorem qG {Ee:Ac->Af->Prop}{elt target iter:Ai}{ifs:List Ai}{scope:Aq}{pos:Pos}{it acc:Ac}{env:Ar}(k:∀e s,Ee e s->notedBy (Am prog w) A env (λx s'=>R (.error x) s') e s)(I:Nat->Af->Prop)
  (turn:∀n s,I n s->Al (Am prog w) A (pyNext it) (λr s1=>match r with
   |none=>R (.ok .next) s1
   |some v=>Al (Am prog w) A (letOwnedTupleGo target it v) (λ_ s2=>Al (Am prog w) A (assign target env v) (λ_ s3=>
     Al (Am prog w) A (forIn ifs true λc r=>if r=true then do let ok <-isTrue c env (eval c env);pure (ForInStep.yield ok)else pure (ForInStep.yield r)) (λok s4=>
      if ok=true then Al (Am prog w) A (eval elt env) (λx s5=>
       Al (Am prog w) A (call (.builtin "list.append") [acc,x]) (λ_ d=>∃m,m<n/\I m d) (λ_ _=>False) s5) Ee s4
      else ∃m,m<n/\I m s4) (λ_ _=>False) s3) (λ_ _=>False) s2) (λ_ _=>False) s1) (λ_ _=>False) s)
  (n:Nat) (h:I n s):codeAny (Am prog w) A (.compLoop (.ListComp elt [⟨target,iter,ifs,0⟩] scope pos) 0 it acc env) R s:=by
 refine codeAny_loop rfl I (λn s f=>?_) n h;show Al _ A ((compTurn (.ListComp elt [⟨target,iter,ifs,0⟩] scope pos) 0 it acc env).onRaise (λx=>do noteFrame x env;theTreesLotGoes x)) _ _ s;refine wpAny_noted ?_;rw[compTurn_list];have no:∀(e:Ac) (s:Af),False->notedBy (Am prog w) A env (λx s'=>R (.error x) s') e s:=λ_ _ z=>z.elim;refine zI0 (zS6 (zI0 (zK3 (turn n s f) (λr s1 b=>?_) no)));cases r with
 |none=>exact zJ3 b
 |some v=>
  refine zI0 (zK3 b (λ_ s2 g=>zI0 (zK3 g (λ_ s3 j=>zI0 (zK3 j (λok s4 a=>?_) no)) no)) no);cases ok with
  |false=>exact zJ3 ⟨rfl,a⟩
  |true=>
   exact zI0 (zI0 (zK3 a (λx s5 l=>zI0 (zK3 l (λ_ d i=>zJ3 (zJ3 ⟨rfl,i⟩)) no)) k))
end
def XCo (Y:Cx)(R:Ab->Hp->Prop)(e:Ac)(s:Af):Prop:=∃pl b H a T,e=.ref a/\Inv Y pl b H s/\(∃C d,H a=some (xcO a C d))/\H T=none/\Y.s₀.heap.get? T=none/\Ent s.heap Y.base a T .none/\R a H
def PEx (Y:Cx)(R:Ab->Hp->Prop)(e:Ai)(t:TE):Prop:=∀(pins:List (Ab×Obj)) (s:Af) (σ:St) (H:Hp) (Q:VK),(∀b∈Y.ex,∃o,(b,o)∈pins)->Inv Y pins σ H s->t σ H Q->Al (Am Y.prog Y.w) Y.A (eval e Y.env) (EP Y pins σ Q) (XCo Y R) s
section
variable {X:Cx}{pins:List (Ab×Obj)}{σ:St}{elt iter tg:Ai}{ifs:List Ai}{scope:Aq}{pos:Pos}{wi:TI}{g:TG}{tt:TT}{te:TE}{N:List Str}{imp:List (Option Nat)}
def cz {R:Ab->Hp->Prop}{E:Ac->Af->Prop}{Q:Ac->Af->Prop}{n:Hp}{s2 t:Af}{fp:List Ab}{C:Ab}{e:Ac}(c:X.stack=X.env::X.outer)(hex:X.ex=[])(I:Inv X pins σ n s2)(f2:∀b∈fp,uu X pins n b)(hC:s2.heap.objs.size<=C)
  (hE:∀a s H T,Inv X [] σ H s->(∃C d,H a=some (xcO a C d))->H T=none->X.s₀.heap.get? T=none->(∀p∈X.pn,p.1≠T)->Ent s.heap X.base a T (rawInt X.env.locals)->R a H->E (.ref a) s)
  (h:XCo (X.comp N scope C s2 n fp) R e t):notedBy (Am X.prog X.w) X.A (X.comp N scope C s2 n fp).env (λx s'=>∃m,s'.heap.Ns C m/\∀h',Heap.SameBut C s'.heap h'->Al (Am X.prog X.w) X.A (PySem.passOn "comprehension.variables-let-go" x (X.comp N scope C s2 n fp).env) Q E {s' with heap:=h'}) e t:=by
 obtain⟨pl,τ,H,a,T,rfl,J,ha,hT,f,ent,r⟩:=h;have f:s2.heap.get? T=none:=f;have ent:Ent t.heap X.base a T .none:=ent;have h0:X.s₀.heap.get? T=none:=by
  cases q:X.s₀.heap.get? T with
  |none=>rfl
  |some o=>
   obtain⟨o',e1⟩:=I.base.there T o q (by rw[hex];simp);rw[f]at e1;cases e1
 have hp:∀p∈X.pn,p.1≠T:=λp hp z=>by
  have:=(I.pin p (zP8 _ hp)).1;rw[z,f]at this;cases this
 have i:=tN I f2 J;have K:H a≠none:=by obtain⟨C,d,z⟩:=ha;rw[z];simp
 have hf:X.env.frame=some X.env.locals:=i.stkf c;have B:H C=none:=J.free;have ok:=I.fpOk (H':=H) hC B;obtain⟨mm,hn,_⟩:=id J.loc;show Al _ _ (noteFrame (.ref a) (X.comp N scope C s2 n fp).env) _ _ _;rw[show noteFrame (.ref a) (X.comp N scope C s2 n fp).env=noteFrame (.ref a) X.env from rfl];obtain⟨_,_,oT,tv,e1,e2,_,_,_,D,L,_⟩:=id ent;refine zl4 (ts:=[T]) (by rw[<-c];exact i.ok.frames) (by rw[<-c];exact i.stack) hf i.stays (i.basex K) (.inr ⟨T,rfl,ent⟩) λh' v m1 m2 m3 _ _=>?_;have U:Inv X [] σ H {t with heap:=h'}:=i.nopins.moved c (by rw[c];exact m1) ha λT0 M=>by
  rw[zM0]at M;subst M;exact⟨hT,h0,λp W=>hp p (by simpa using W),oT,tv,D,L⟩
 have u:h'.Ns C mm:=by
  obtain⟨P,es,ep,j,G,q3⟩:=id hn;have j:t.heap.get? C=some P:=j;refine⟨P,es,ep,m1.keep C P (λz=>K (z▸B)) (λz=>?_) (λz=>?_) j,G,q3⟩
  .rw[zM0]at z;rw[z]at j;rw[D]at j;cases j;rw[L]at G;cases G
  .rw[<-c]at z;obtain⟨_,o,q,_⟩:=uS I.stack z;exact absurd (zI9 q) (Nat.not_lt.mpr hC)
 have F:H v=none:=i.hok.fresh m2;have O:X.s₀.heap.get? v=none:=Heap.get?_none_of_le (zJ1 i.sz m2);have y:∀p∈X.pn,p.1≠v:=λp hp z=>by
  have:=zI9 (i.pin p (zP8 _ hp)).1;rw[z]at this;exact absurd this (Nat.not_lt.mpr m2)
 refine⟨mm,u,λl sb=>?_⟩;obtain⟨g0,g1,g2,g3,g4,g5⟩:=ok;have V:Inv X [] σ H {t with heap:=l}:=U.turned (λb o hb e=>(sb.2 b hb).trans e) g0 g1 g3 g4 λp hp=>g5 p (zP8 _ (by simpa using hp));have k:Ent l X.base a v (rawInt X.env.locals):=by
  obtain⟨oe,vs,Z,a0,w1,w2,w3,w4,w5,w6,w7,w8⟩:=m3;have nC:∀{b:Ab} {o:Obj} {vs:Array Ac},h'.get? b=some o->o.data=.fields vs->l.get? b=some o:=λ{b o vs} q d=>(sb.2 b λz=>by
   obtain⟨P,es,ep,j,G,_⟩:=u;rw[z,j]at q;cases q;rw[G]at d;cases d).trans q
  exact⟨oe,vs,Z,a0,nC w1 w2,w2,w3,w4,w5,nC w6 w7,w7,w8⟩
 obtain⟨oe,vs,_,_,w1,w2,w3,_⟩:=id k;unfold PySem.passOn;refine zI0 (zU7 w1 w2 w3 ?_);rw[if_neg (by simp)];show Al _ _ (do setFlight (.ref a) X.env.frame;throw (.ref a)) _ _ _;rw[hf];refine zI0 (V.flight (fo:=some X.env.locals) c ha F O (by simpa using y) k λh3 S Y=>wpAny_throw ?_);exact hE a _ H v S ha F O y Y r
def zp6 {R:Ab->Hp->Prop}(hc:X.calm=true)(b7:X.stack=X.env::X.outer)(hex:X.ex=[])(S:yk X.N X.env.scope N imp scope)(q:∀y∈scope.names,y.2≠.free)(hi:PI X tg iter wi)(hg:∀C s2 f fp,PG (X.comp N scope C s2 f fp) tg g)(ht:∀C s2 f fp,vn (X.comp N scope C s2 f fp) ifs tt)
  (he:∀C s2 f fp,PEx (X.comp N scope C s2 f fp) (R) elt te) (hE:∀a s H T,Inv X [] σ H s->(∃C d,H a=some (xcO a C d))->H T=none->X.s₀.heap.get? T=none->(∀p∈X.pn,p.1≠T)->Ent s.heap X.base a T (rawInt X.env.locals)->R a H->X.xe (.ref a) s) (hs:∀x,foldedSetIterable iter X.env x=pure x:=by intro _;rfl)
  (s:Af) (H:Hp) (Q:VK) (I:Inv X pins σ H s) (h:rF wi imp g tt te σ H Q):Al (Am X.prog X.w) X.A (eval (.ListComp elt [⟨tg,iter,ifs,0⟩] scope pos) X.env) (EP X pins σ Q) X.xe s:=by
 refine wpAny_ListComp q S.kind S.locs (thn (hi pins s σ H _ I h) λv s1 U=>thn U λc1 s2 h2=>?_) hs;obtain⟨it,fp,tn,J,f,e,I2,T,L,f2,hW⟩:=h2;subst e;refine wpAny_newObj_type (wpAny_newFunctionEnv S.nocell (by intro y hy;simp at hy) (λU t l=>?_) S.kind);dsimp only at t l ⊢;generalize M:s2.heap.push {cls:=.type "list",dict:=none,data:=.seq ([]:List Ac).toArray}=HH at t l ⊢;have hC:HH.objs.size=s2.heap.objs.size+1:=by rw[<-M,Heap.size_push]
 have a2:s2.heap.objs.size≠HH.objs.size:=by rw[hC];exact zK8 (zP0 _)
 have old:∀b o,s2.heap.get? b=some o->U.get? b=some o:=λb o e=>l.extBut b o (by rw[hC];exact zK8 (zU4 (zI9 e))) (zI2 _ (M▸zI2 _ e));have P:=l.extBut _ _ a2 (zI2 _ (M▸zL6 _ rfl));obtain⟨W,⟨m0,w0⟩,turn⟩:=hW s2.heap.objs.size I2.fresh;generalize b9:HH.objs.size=C at t l hC a2 ⊢;have ho:∀b∈fp,∃o,s2.heap.get? b=some o:=λb j=>let⟨o,e,_⟩:=T.obj 0 _ L b j;⟨o,e⟩;have a0:s2.heap.objs.size<=C:=by rw[hC];exact zP7 _
 generalize c:s2.heap.objs.size=acc at *;have hY:(X.comp N scope C s2 f fp).env={scope:=scope,locals:=C,globals:=X.env.globals,cells:=[],qual:=X.env.qual,func:=none,code:=X.env.code,frame:=X.env.frame,builtins:=X.env.builtins}:=by
  show compEnvC scope (vL X.env.cells scope.names []) C X.env=_;unfold compEnvC;rw[pN q,ll q]
 have loop:∀s3:Af,s3={s2 with heap:=U,toks:=s2.toks+([]:List (Str×Ac)).length}->
   codeAny (Am X.prog X.w) X.A (.compLoop (.ListComp elt [⟨tg,iter,ifs,0⟩] scope pos) 0 (.ref it) (.ref acc) (X.comp N scope C s2 f fp).env) (λr s'=>∃m,s'.heap.Ns C m/\∀h',Heap.SameBut C s'.heap h'->
      match r with|.ok _=>EP X pins σ Q (.ref acc) {s' with heap:=h'}|.error x=>Al (Am X.prog X.w) X.A (PySem.passOn "comprehension.variables-let-go" x (X.comp N scope C s2 f fp).env) (EP X pins σ Q) X.xe {s' with heap:=h'}) s3:=by
  rintro s3 rfl;have I3:Inv (X.comp N scope C s2 f fp) [] (yN imp σ) (upd f acc (.lst [])) {s2 with heap:=U,toks:=s2.toks+([]:List (Str×Ac)).length}:=
   lK I2 S f2 ho c.symm (by rw[hC,c]) old t P
  have a6:∀b∈fp,upd f acc (.lst []) b=none:=λb j=>by
   obtain⟨o,e⟩:=ho b j;rw[zm (by rw[<-c];exact zK8 (zI9 e))];exact(f2 b j).1
  have B:∀{H':Hp},(∀b∈fp,H' b=none)->∀b∈fp,uu (X.comp N scope C s2 f fp) [] H' b:=λhn b j=>by
   obtain⟨e1,e2⟩:=I3.ok.exf b j;exact⟨hn b j,e1,I3.ok.exfs b j,.inl j,e2,λp hp=>absurd (show p∈([]:List (Ab×Obj))from hp) (by simp)⟩
  refine qG (Ee:=XCo (X.comp N scope C s2 f fp) R) (λe s z=>cz b7 hex I2 f2 (by rw[c];exact a0) hE z) (λn s'=>∃i G D H',Inv (X.comp N scope C s2 f fp) [] D H' s'/\tn i s'.heap/\(∀b∈fp,H' b=none)/\W i n G D H') ?_ m0
   ⟨0,[],_,_,I3,T.keep _ _ _ L λb _ o e=>old b o e,a6,w0⟩
  rintro n s4 ⟨i,G,D,Y,I4,a1,Z,w4⟩;rcases turn i n G D Y w4 with⟨stop,qn⟩|⟨go,NN,hN,step⟩
  .refine zK3 (T.done (X.comp N scope C s2 f fp) rfl rfl rfl hc i [] s4 D Y (λ_ _=>False) I4 (B Z) a1 stop) (λr s5 b5=>?_) λ_ _ z=>z;obtain⟨hr,I5⟩:=b5;subst hr;obtain⟨m5,b8,_⟩:=id I5.loc;obtain⟨g0,g1,g2,g3,g4,g5⟩:=I2.fpOk (H':=Y) (by rw[c];exact a0) I5.free;exact⟨m5,b8,λh' sb=>⟨.ref acc,Y,(tN I2 f2 I5).turned (λb o j e=>(sb.2 b j).trans e) g0 g1 g3 g4 g5,rfl,qn⟩⟩
  .refine zK3 (T.item (X.comp N scope C s2 f fp) rfl rfl rfl hc i [] s4 D Y (λ_ _=>False) I4 (B Z) a1 go) (λr s5 a8=>?_) λ_ _ z=>z;obtain⟨u,hr,h5⟩:=a8;subst hr;refine zK3 h5 (λ_ s6 b0=>?_) λ_ _ z=>z;obtain⟨x,H6,I6,r6,y6,E,b4⟩:=b0;refine zK3 (hg C s2 f fp _ s6 D H6 x u _ (I6.pinned (B b4) (T.obj _ _ E)) r6 (step x H6 y6)) (λ_ s7 a7=>?_) λ_ _ z=>z;obtain⟨k,H7,I7,q7⟩:=a7;refine zK3 (ht C s2 f fp _ s7 k H7 _ I7 q7) (λok s8 b3=>?_) λ_ _ z=>z;obtain⟨H8,I8,q8⟩:=b3;have again:∀{F:List V} {K:Hp} {O:Af},Inv (X.comp N scope C s2 f fp) ([]++tG fp s6.heap) k K O->NN F k K->∃m,m<n/\∃i G D H',Inv (X.comp N scope C s2 f fp) [] D H' O/\tn i O.heap/\(∀b∈fp,H' b=none)/\W i m G D H':=λ{F K O} I9 n9=>by
    obtain⟨m',hm,w9⟩:=hN F k K n9;refine⟨m',hm,i+1,F,k,K,I9.unpinned,T.keep _ _ _ E λb j o e=>(I9.pin (b,o) (zK9 _ (zK9 _ (xm j e)))).1,λb j=>?_,w9⟩;obtain⟨o,e,d⟩:=T.obj _ _ E b j;exact(I9.pin (b,o) (zK9 _ (zK9 _ (xm j e)))).2.1
   cases ok with
   |false=>
    have b2:NN G k H8:=by
     have z:=q8;rw[if_neg zJ0]at z;exact z
    rw[if_neg zJ0];exact again I8 b2
   |true=>
    rw[if_pos rfl]at q8 ⊢;refine zK3 (he C s2 f fp _ s8 k H8 _ (λb j=>?_) I8 q8) (λv O b1=>?_) λ_ _ z=>z
    .obtain⟨o,e,_⟩:=T.obj _ _ E b j;exact⟨o,zK9 _ (xm j e)⟩
    obtain⟨y,K,I9,r9,a9,z9,q9⟩:=b1;refine zK3 (wW (X:=X.comp N scope C s2 f fp) _ O k K (.ref acc) [y] (.ref acc) [v] (λ_ a3=>a3=upd K acc (.lst (G++[y]))) I9 rfl (.cons r9 .nil) ⟨acc,G,y,rfl,rfl,a9,z9,rfl⟩) (λ_ c0 a5=>?_) λ_ _ z=>z;obtain⟨_,a3,a4,_,b6⟩:=a5;subst b6;exact again a4 q9
 have fin:=codeAny_compStart_list (loop _ rfl) (T.self X.A 0 _ _ _ (T.keep _ _ _ L λb _ o e=>old b o e) (loop _ rfl));rw[hY]at fin;exact fin
end
section
variable {X:Cx}{N:List Str}{scope:Aq}{Cc:Ab}{s2:Af}{H2:Hp}{fp:List Ab}{k:Nat}{x:Str}{e:Ai}{es:List Ai}{p pos:Pos}{C f:Ab}{t:TA}
def zg4 {R:Ab->Hp->Prop}{fd l:Ag}{ps ps':List Str}{sp j:Sp}(m:Mk X.K C f)(F:zG X.prog X.w X.K X.mg X.base CX0 k f fd ps sp)(F':zG X.prog X.w X.K X.mg X.base (CX1 X.prog X.w X.base) k f l ps' j)(hr:zO (k+1) X.A)(hg:Gl (X.comp N scope Cc s2 H2 fp) x)(hm:X.mg x=some (.ref C))(M:Binds X.K fd ps [])(n:Binds X.K l ps' [])
  (ha:PA (X.comp N scope Cc s2 H2 fp) (e::es) t) (B:(x == ("__debug__":Str))=false:=by decide) (he:Ad (e::es) (X.comp N scope Cc s2 H2 fp).env=(false,eval e (X.comp N scope Cc s2 H2 fp).env)::Ad es (X.comp N scope Cc s2 H2 fp).env:=by rfl) (hpl:(backTo pos (Ad es (X.comp N scope Cc s2 H2 fp).env)).any (·.1)=false:=by rfl):
  PEx (X.comp N scope Cc s2 H2 fp) R (.Call (.Name x p) (e::es) [] pos) (λσ H Q=>t σ H λvs H1=>(∀y dx,H1 y=none->H1 dx=none->dx≠y->sp (.ref y::(vs++[])) (upd (upd H1 dx (.own y)) y (.ins C dx [])) (λv H2=>v=.non/\Q (.ref y) H2) E0)\/
   ∀y dx,H1 y=none->H1 dx=none->dx≠y->∃E:XK,(∀a H',E (.ref a) none H'->R a H')/\j (.ref y::vs) (upd (upd H1 dx (.own y)) y (.ins C dx [])) (λv H2=>v=.non/\Q (.ref y) H2) E):=by
 intro pins s σ H Q J I h;refine zO0 (xu I hg hm ?_ B);refine zO1 (h₀:=X.base) I.ok.mod.kin m.kp (zK3 (ha pos pins s σ H _ I h) (λus s1 D=>?_) λ_ _ z=>False.elim z) he hpl;obtain⟨vs,H1,d,r,q⟩:=D;refine⟨d.kIn,?_⟩;rcases q with q|q
 .exact zK3 (me (X:=X.comp N scope Cc s2 H2 fp) m F hr M .nil zX d r q) (λ_ _ z=>z) λ_ _ z=>False.elim z
 .obtain⟨E,hE,S⟩:=q (s1.heap.objs.size+1) s1.heap.objs.size (d.hok.fresh (zP7 _)) (d.hok.fresh (zI3 _)) (zK8 (zP0 _));have g:=Inv.made (C:=C) d;have Z:Vals (V.ref (s1.heap.objs.size+1)::vs) (Value.ref (s1.heap.objs.size+1)::us):=.cons rfl r;have hl:(Value.ref (s1.heap.objs.size+1)::us++[]).length=ps'.length:=by
   rw[zJ5,<-Z.length];exact F'.len _ _ _ _ S
  have i:=n _ (Value.ref (s1.heap.objs.size+1)::us) g.kIn hl;rw[zJ5]at i;refine zP1 (rM (f:=f) d.kIn m.makes m.init (zP3.mp m.fn) (zP9 (F'.run _ (X.comp N scope Cc s2 H2 fp).stack _ _ ⟨Value.ref (s1.heap.objs.size+1)::us,[]⟩ (Value.ref (s1.heap.objs.size+1)::us) _ _ E (hr.make C us [])
   (g.env0.make C us []) i Z S) λr s' c=>?_))
  cases r with
  |error e=>
   obtain⟨a,T,H',rfl,ho,O,u,hok,G,h1,W,h3,L⟩:=c;refine⟨pins,σ,H',a,T,rfl,g.call' (ch:=[]) ho u hok O (λb M=>by cases M),G,h1,?_,h3,hE a H' L⟩;cases q:(X.comp N scope Cc s2 H2 fp).s₀.heap.get? T with
   |none=>rfl
   |some o=>
    exfalso
    by_cases U:T∈(X.comp N scope Cc s2 H2 fp).ex
    .obtain⟨o',P⟩:=J T U;have:=(g.pin (T,o') (zK9 _ P)).1;rw[W]at this;cases this
    .obtain⟨o',Y⟩:=g.base.there T o q U;rw[W]at Y;cases Y
  |ok fl=>
   cases fl with
   |ret u=>
    obtain⟨v,H',I3,rv,ev,q3⟩:=g.after c;subst ev;exact⟨rv,⟨V.ref (s1.heap.objs.size+1),H',I3,rfl,q3⟩⟩
   |next=>exact False.elim c
   |brk=>exact False.elim c
   |cont=>exact False.elim c
end
def tK (Y:Ab->Af->Hp->List Ab->Cx)(pat:Pat)(e:List Ai)(φ:List A->(A->Prop)->Prop)(c:List A->(Aa->Prop)->Prop)(q:Aa->Prop)(α0:Ev):List Aa->List Aa->(List Aa->Prop)->Prop
 |[],acc,Q=>Q acc
 |d::ds,acc,Q=>∃b,pat.bind d α0=some b/\∀C s2 f fp,EvA (Y C s2 f fp) b e λas=>(φ as λa=>tK Y pat e φ c q α0 ds (acc++[a.d]) Q)\/c as q
def aC (Y:Ab->Af->Hp->List Ab->Cx)(a:List Ai):TA:=λσ H Q=>∀C s2 b fp,zg0 (Y C s2 b fp) a σ H Q
section
variable {X:Cx}{L αh:Ev}{r:Fr}{q q0:Aa->Prop}{j k:Nat}{x:Str}{e:Ai}{es:List Ai}{tg iter:Ai}{scope:Aq}{p pos cpos:Pos}{pat:Pat}{φ:List A->(A->Prop)->Prop}{φX:List A->(Aa->Prop)->Prop}{Q:List Aa->Prop}{N:List Str}{imp:List (Option Nat)}
def gE (xo:Xok X r αh q)(hj:L[j]?=some (some (.exc r q0)))(le:leX αh L)(CK:rL X.prog X.w X.K X.mg X.base x k [] φ)(CX:uO X.prog X.w X.K X.mg X.base x k φX)(hr:zO (k+1) X.A)(b5:∀C s2 g fp,Gl (X.comp N scope C s2 g fp) x)(hc:X.calm=true)(S:yk X.N X.env.scope N imp scope)(c1:∀y∈scope.names,y.2≠.free)(a3:pat.free (zW imp L)=true)
  (hg:∀C s2 g fp,PG (X.comp N scope C s2 g fp) tg (vF X.K pat))
  (h:EvI X L tg iter λds=>ds.length<=1000/\tK (λC s2 g fp=>X.comp N scope C s2 g fp) pat (e::es) φ φX q (zW imp L) ds [] Q) (hs:∀x,foldedSetIterable iter X.env x=pure x:=by intro _;rfl) (d1:(x == ("__debug__":Str))=false:=by decide)
  (he:∀C s2 g fp,Ad (e::es) (X.comp N scope C s2 g fp).env=(false,eval e (X.comp N scope C s2 g fp).env)::Ad es (X.comp N scope C s2 g fp).env:=by intros;rfl) (hpl:∀C s2 g fp,(backTo pos (Ad es (X.comp N scope C s2 g fp).env)).any (·.1)=false:=by intros;rfl):
  EvL X L (.ListComp (.Call (.Name x p) (e::es) [] pos) [⟨tg,iter,[],0⟩] scope cpos) Q:=λF σ H Rk m kk=>by
 obtain⟨X0,R,rfl,b7,b4,b3⟩:=xo.ex;obtain⟨C,f,fd,ps,d4,hm,hk,hb,c5,G⟩:=CK.ex;cases c5;obtain⟨C',f',d3,ps',b0,b2,c4,G'⟩:=CX.ex;obtain rfl:C=C':=by rw[hm]at b0;cases b0;rfl
 obtain rfl:f=f':=by have:=hk.init;rw[b2.init]at this;cases this;rfl
 let te:TE:=λZ H Q=>aC (λC s2 g fp=>(X0.wish (XE X0 R)).comp N scope C s2 g fp) (e::es) Z H λvs H1=>(∀y dx,H1 y=none->H1 dx=none->dx≠y->spI C φ (.ref y::(vs++[])) (upd (upd H1 dx (.own y)) y (.ins C dx [])) (λv g=>v=.non/\Q (.ref y) g) E0)\/
   ∀y dx,H1 y=none->H1 dx=none->dx≠y->∃E:XK,(∀a H',E (.ref a) none H'->R σ a H')/\spX (λas _ q=>∃as',as=.dat (wK C [])::as'/\φX as' q) (.ref y::vs) (upd (upd H1 dx (.own y)) y (.ins C dx [])) (λv g=>v=.non/\Q (.ref y) g) E
 refine⟨λV H' Q'=>V=σ/\rF (ia (X0.wish (XE X0 R)) tg iter) imp (vF X0.K pat) aW te V H' Q',λpins s V H' Q' I hh=>?_,rfl,?_⟩
 .obtain⟨rfl,hh⟩:=hh;refine zp6 (R:=R V) hc b7 b4 S c1 xW hg (λC s2 g fp=>sP) (λC s2 g fp=>?_) (λa s H T I' ha hT h0 hp ent rr=>⟨V,H,a,rfl,I'.unwish,ha,.here hT h0 hp ent,rr⟩) hs s H' Q' I hh;exact zg4 hk G G' hr (b5 C s2 g fp) hm hb c4 (λpos pins s σ H Q I h=>zY pos pins s σ H Q I (h C s2 g fp)) d1 (he C s2 g fp) (hpl C s2 g fp)
 refine h F σ H _ m λds J H1 b9 t1 k1 b6 acc l=>?_;obtain⟨hl,q1⟩:=b9;have m1:=m.kz k1 t1
 let B:Fr:=⟨H1,λx=>Ow F L σ x\/x=acc,F.tp⟩
 let Nd:Ev->Prop:=λD=>∀(j:Nat) a,D[j]?=some (some a)->(∃d,a=.dat d)\/a=.tape
 have O:Nd (zW imp L):=λj a z=>by
  obtain⟨_,_,_,n⟩:=xM z;exact n
 have owc:∀{D:Ev} {Z:St} {x:Ab},Nd D->(Ow B D Z x↔B.O0 x):=λ{D Z x} hh=>⟨λz=>z.elim id λc0=>by
  obtain⟨j,a,s,e1,e2,f⟩:=c0;rcases hh j a e1 with⟨d,rfl⟩|rfl
  .exact f.elim
  .exact f.elim,.inl⟩
 have gz:∀{D α2:Ev} {u τ2:St} {H:Hp},Nd D->Nd α2->zu (Gz B D u H) (Gz B α2 τ2 H):=λh1 h2=>zj λa o h e=>⟨λz=>h ((owc h1).mpr ((owc h2).mp z)),e⟩;have c3:∀{g:Hp},zH F g->zH B g:=λt=>t.to rfl λx z=>.inl (.inl z);have a2:zu H1 (upd H1 acc (.lst [])):=zV l;have c6:M B (zW imp L) (yN imp σ) (upd H1 acc (.lst [])):=by
  have g1:zu (Gz F L σ H1) (Gz B (zW imp L) (yN imp σ) (upd H1 acc (.lst []))):=λa o e=>by
   obtain⟨z1,z2⟩:=zg e;have na:=zq z2 l;exact zw (λz=>((owc O).mp z).elim z1 na) (by rw[zm na];exact z2)
  refine⟨by unfold zW yN;rw[zH8,zH8],λi a s e1 e2=>?_,λi j a b s t x e1 e2 _ _ f=>?_,λi r q e=>(by rcases O i _ e with⟨d,w⟩|w<;>cases w),c3 (t1.same a2),λx o e _=>a2 x o e,?_⟩
  .obtain⟨j,w1,w2,w3⟩:=xM e1;rcases w3 with⟨d,rfl⟩|rfl
   .obtain⟨v,g2,g3⟩:=m1.dat j d w2;rw[xC w1 g2]at e2;cases e2;exact⟨v,rfl,g3.same g1⟩
   .obtain⟨t,b,c,g2,g3⟩:=m1.tvar j w2;rw[xC w1 g3]at e2;cases e2;exact⟨t,b,c,g2,rfl⟩
  .rcases O i a e1 with⟨d,rfl⟩|rfl
   .exact f.elim
   .exact f.elim
  .rintro x (z|z)
   .obtain⟨o,ho,hn⟩:=m1.owEx z;exact⟨o,a2 _ _ ho,hn⟩
   .exact⟨_,by rw[z];exact zk,yg⟩
 refine⟨λi n P Z g=>n=ds.length-i/\i<=ds.length/\∃ad:List Aa,M B (zW imp L) Z g/\g acc=some (.lst P)/\AVs (Gz B (zW imp L) Z g) P ad/\ad.length<=i/\tK (λC s2 g fp=>(X0.wish (XE X0 R)).comp N scope C s2 g fp) pat (e::es) φ φX q (zW imp L) (ds.drop i) ad Q,
  ⟨ds.length,by simp,zK6 _,[],c6,zk,.nil,zI3 _,q1⟩,?_⟩
 rintro i n P Z g ⟨rfl,hi,ad,m2,ha,av,a8,cw⟩;have sG:zu (Gz F L σ H1) (Gz B (zW imp L) Z g):=λa o e=>by
  obtain⟨z1,z2⟩:=zg e;exact m2.old a o (zw (λz=>z.elim z1 (zq z2 l)) z2)
 obtain⟨w1,w2⟩:=b6 i g _ sG;by_cases W:i<ds.length
 .have hd:=zI5 W;rw[(zM7 W)]at cw;obtain⟨D,eb,body⟩:=cw;obtain⟨go,yl⟩:=w1 _ hd;have U:Nd D:=λj a z=>by
   obtain⟨is,d5,_,e⟩:=Pat.is_ok eb;by_cases hn:∀d,a≠.dat d
   .exact O j a (wj e z hn)
   .simp only[zS3,zU5]at hn;exact .inl hn
  refine .inr ⟨go,λa4 a1 H'=>∃ad:List Aa,M B (zW imp L) a1 H'/\H' acc=some (.lst a4)/\AVs (Gz B (zW imp L) a1 H') a4 ad/\ad.length<=i+1/\tK (λC s2 g fp=>(X0.wish (XE X0 R)).comp N scope C s2 g fp) pat (e::es) φ φX q (zW imp L) (ds.drop (i+1)) ad Q,
   λa4 a1 H' b8=>by obtain⟨b1,r1,r2,r3,r4,r5⟩:=b8;exact⟨ds.length-(i+1),(om0 W),rfl,W,b1,r1,r2,r3,r4,r5⟩,λx H3 y=>?_⟩
  obtain⟨Y,c8⟩:=yl x H3 y;refine vb eb (m2.kz (Kz.of_same Y) (m2.tp.same Y)) (c8 λa o _ e=>m2.fresh e) λu m4=>?_;unfold aW;dsimp only;rw[if_pos rfl];refine λCc s2 c7 fp=>body Cc s2 c7 fp B u H3 _ m4 λas vs H5 qb t5 k5 r5=>?_;have m5:=m4.kz k5 t5;have c2:AVs (Gz B (zW imp L) u H5) P ad:=av.same ((Kz.of_same Y).gz m2.tp |>.trans ((gz (τ2:=u) O U).trans ((k5.gz m4.tp).trans (gz U O))));have accN:NT B acc:=⟨λt b c e=>by
   have:=(t1 t b c e).1.free l;exact⟨this.1,this.2.1⟩,wy t1.tab l⟩
  have d0:=k5 _ _ (Y _ _ ha) accN;rcases qb with qb|qb
  .refine .inl λy dx hy a5 a6=>?_;rw[zJ5];refine rl (C:=C) (E:=E0) (R:=λy H6=>H6 acc=some (HO.lst P)/\P.length<sizeLine/\∃ad,M B (zW imp L) u (upd H6 acc (HO.lst (P++[y])))/\upd H6 acc (HO.lst (P++[y])) acc=some (HO.lst (P++[y]))/\AVs (Gz B (zW imp L) u (upd H6 acc (HO.lst (P++[y])))) (P++[y]) ad/\ad.length<=i+1/\tK (λC s2 g fp=>(X0.wish (XE X0 R)).comp N scope C s2 g fp) pat (e::es) φ φX q (zW imp L) (List.drop (i+1) ds) ad Q) m5 r5 qb (λd v H6 qa ra=>?_) y dx hy a5 a6;obtain⟨t6,k6,r6⟩:=ra.back m5 Kz.refl;have a9:=k6 _ _ d0 accN;have hlen:P.length<=i:=by rw[av.length];exact a8
   have a0:B.O0 acc:=.inr rfl;have a7:∀t b c,B.tp=some (t,b,c)->acc≠t/\acc≠b/\acc≠c:=λt b c e=>(t1 t b c e).1.free l;have m7:=(Pat.back eb a3 (m5.kz k6 t6)).wr (o:=.lst (P++[v])) yg a0 a7 l (xp a9) (λi r q z=>by rcases O i _ z with⟨d,w⟩|w<;>cases w);refine⟨a9,yx (by omega),ad++[d],m7,zk,?_,by simp;exact a8,qa⟩;have d2:zu (Gz B (zW imp L) u H6) (Gz B (zW imp L) u (upd H6 acc (.lst (P++[v])))):=zj λa o h e=>⟨h,by rw[zm (λz=>h (.inl (by rw[z];exact a0)))];exact e⟩;have c9:AV (Gz B D u H6) v d:=r6.same (zj λa o h e=>⟨h.1,e⟩);exact((c2.same ((gz (τ2:=u) O U).trans ((k6.gz m5.tp).trans (gz U O)))).append (.cons (c9.same (gz U O)) .nil)).same d2
  .refine .inr λy dx hy a5 a6=>?_;have mo:M F L σ H5:=m.kz (k1.trans m5.keep) (m.tp.re m5.tp rfl);have sm:zu H5 (upd (upd H5 dx (.own y)) y (.ins C dx [])):=λa o e=>by rw[zm (zq e hy),zm (zq e a5)];exact e
   have m2:=mo.kz (Kz.of_same sm) (mo.tp.same sm);refine wD (as:=.dat (wK C [])::as) (QA:=λ_=>False) m2 hj le b3 (.cons ?_ (zS.to (F:=B) (F':=F) ?_ rfl r5)) ⟨as,rfl,qb⟩ λa v H' z=>z.elim
   .exact .ins (zw (mo.fresh hy) zk) .nil
   .exact zj λa o hh e=>⟨λz=>hh (.inl (.inl z)),sm a o e⟩
 .have e:=(zR9 hi (zQ7 W));subst e;rw[zP5]at cw;exact .inl ⟨w2 (zI3 _),kk ad _ g cw (m.tp.re m2.tp rfl) (k1.trans m2.keep) (yQ.back m k1 t1 ⟨acc,P,rfl,l,ha,av.same (zj λa o h e=>⟨⟨λz=>h (.inl (.inl z)),λz=>h (.inl (.inr z))⟩,e⟩)⟩)⟩
end
noncomputable abbrev Gn (F:Fr)(L:Ev)(σ:St)(H H':Hp):Hp:=sub (λx=>¬Ow F L σ x/\∀xs,H x≠some (.lst xs)) H'
def uC (Y:Ab->Af->Hp->List Ab->Cx)(pat:Pat)(elt:Ai)(α0:Ev):List Aa->List Aa->(List Aa->Prop)->Prop
 |[],acc,Q=>Q acc
 |d::ds,acc,Q=>∃a,pat.bind d α0=some a/\∀C s2 b fp,EvN (Y C s2 b fp) a elt λy=>uC Y pat elt α0 ds (acc++[y]) Q
section
variable {X:Cx}{L:Ev}{e a b:Ai}{es:List Ai}{pos p:Pos}{Q:Aa->Prop}
def ju (h:EvD X L e λd=>noL d=true/\Q d):EvN X L e Q:=λF σ H R m k=>h F σ H R m λd v H' q t kz r=>k d v H' q.2 t kz (r.noL (λx o f z=>by
 obtain⟨c,z2⟩:=zg z;refine zw ⟨c,λxs y=>?_⟩ z2;have:=kz x _ y (m.tp.nt (ow0 c));rw[z2]at this;cases this;exact f trivial) q.1)
def zi3 (h:EvL X L e λds=>noLs ds=true/\Q (.list ds)):EvN X L e Q:=λF σ H R m k=>h F σ H R m λds v H' q t kz r=>by
 obtain⟨l,xs,rfl,c,f,g⟩:=r;refine k _ _ H' q.2 t kz (.lst (zw ⟨m.fresh c,λxs z=>by rw[c]at z;cases z⟩ f) (g.noL (λx o i z=>?_) q.1));obtain⟨d,z2⟩:=zg z;refine zw ⟨d.1,λxs y=>?_⟩ z2;have:=kz x _ y (m.tp.nt (ow0 d.1));rw[z2]at this;cases this;exact i trivial
def gC {F:Fr}{σ:St}{H H1 H' c:Hp}(m:M F L σ H)(k:Kz F H H1)(s:∀x o,¬Ow F L σ x->H' x=some o->c x=some o):zu (Gn F L σ H1 H') (Gn F L σ H c):=zj λx o h e=>⟨⟨h.1,λxs z=>h.2 xs (k x _ z (m.tp.nt (ow0 h.1)))⟩,s x o h.1 e⟩
def zj4 {n:Nat}(h:EvN X L a λx=>EvN X L b λy=>Q (.tuple [x,y]))(he:Ad [a,b] X.env=(false,eval a X.env)::Ad [b] X.env:=by rfl)(g:Ad [b] X.env=(false,eval b X.env)::Ad [] X.env:=by rfl):EvN X L (.Tuple [a,b] n pos) Q:=λF σ H R m k=>by
 refine⟨_,tP (zh zi (zh zi zy g) he),?_⟩;refine h F σ H _ m λx q H1 t t1 k1 j=>?_;have m1:=m.kz k1 t1;refine t F σ H1 _ m1 λy l i s f k2 r=>?_;refine⟨by show 2<=sizeLine;decide,λp hp=>?_⟩;have d:zu i (upd i p (.tup [q,l])):=zV hp;have c:=k1.trans (k2.trans (Kz.of_same d));refine k _ _ _ s (f.same d) c (.tup (zw ⟨(m1.kz k2 f).fresh hp,λxs z=>?_⟩ zk) (.cons (j.same (gC m Kz.refl λz o n w=>d z o (k2 z o w (m1.tp.nt (ow0 n))))) (.cons (r.same (gC m k1 λz o _ w=>d z o w)) .nil)));have:=c p _ z (m.tp.nt (ow0 ((m1.kz k2 f).fresh hp)));rw[zk]at this;cases this
end
section
variable {X:Cx}{L:Ev}
def mI {N:List Str}{imp:List (Option Nat)}{scope:Aq}{tg iter elt:Ai}{pat:Pat}{Q:List Aa->Prop}(U:pat.free (zW imp L)=true)
  (h:EvI X L tg iter λds=>ds.length<=1000/\uC (λC s2 u fp=>X.comp N scope C s2 u fp) pat elt (zW imp L) ds [] Q)
  (F:Fr) (σ:St) (H:Hp) (R:VK) (m:M F L σ H) (k:∀ds v H',Q ds->zH F H'->Kz F H H'->AV (Gn F L σ H H') v (.list ds)->R v H'):
  ∃Y:Ab->Af->Hp->List Ab->Cx,Y=(λC s2 u fp=>X.comp N scope C s2 u fp)/\rF (ia X tg iter) imp (vF X.K pat) aW (eC Y elt) σ H R:=by
 refine⟨_,rfl,h F σ H _ m λds J H1 b3 t1 k1 b0 acc l=>?_⟩;obtain⟨hl,q1⟩:=b3;have m1:=m.kz k1 t1
 let p:Fr:=⟨H1,λx=>Ow F L σ x\/x=acc,F.tp⟩
 let P:Ev->Prop:=λg=>∀(j:Nat) a,g[j]?=some (some a)->(∃d,a=.dat d)\/a=.tape
 have B:P (zW imp L):=λj a z=>by
  obtain⟨_,_,_,n⟩:=xM z;exact n
 have owc:∀{g:Ev} {W:St} {x:Ab},P g->(Ow p g W x↔p.O0 x):=λ{g W x} hh=>⟨λz=>z.elim id λb4=>by
  obtain⟨j,a,s,e1,e2,f⟩:=b4;rcases hh j a e1 with⟨d,rfl⟩|rfl
  .exact f.elim
  .exact f.elim,.inl⟩
 have gz:∀{g α2:Ev} {A τ2:St} {H:Hp},P g->P α2->zu (Gz p g A H) (Gz p α2 τ2 H):=λh1 h2=>zj λa o h e=>⟨λz=>h ((owc h1).mpr ((owc h2).mp z)),e⟩;have a4:∀{u:Hp},zH F u->zH p u:=λt=>t.to rfl λx z=>.inl (.inl z);have T:zu H1 (upd H1 acc (.lst [])):=zV l;have a6:M p (zW imp L) (yN imp σ) (upd H1 acc (.lst [])):=by
  have g1:zu (Gz F L σ H1) (Gz p (zW imp L) (yN imp σ) (upd H1 acc (.lst []))):=λa o e=>by
   obtain⟨z1,z2⟩:=zg e;have na:=zq z2 l;exact zw (λz=>((owc B).mp z).elim z1 na) (by rw[zm na];exact z2)
  refine⟨by unfold zW yN;rw[zH8,zH8],λi a s e1 e2=>?_,λi j a b s t x e1 e2 _ _ f=>?_,λi r q e=>(by rcases B i _ e with⟨d,w⟩|w<;>cases w),a4 (t1.same T),λx o e _=>T x o e,?_⟩
  .obtain⟨j,w1,w2,w3⟩:=xM e1;rcases w3 with⟨d,rfl⟩|rfl
   .obtain⟨v,g2,g3⟩:=m1.dat j d w2;rw[xC w1 g2]at e2;cases e2;exact⟨v,rfl,g3.same g1⟩
   .obtain⟨t,b,c,g2,g3⟩:=m1.tvar j w2;rw[xC w1 g3]at e2;cases e2;exact⟨t,b,c,g2,rfl⟩
  .rcases B i a e1 with⟨d,rfl⟩|rfl
   .exact f.elim
   .exact f.elim
  .rintro x (z|z)
   .obtain⟨o,ho,hn⟩:=m1.owEx z;exact⟨o,T _ _ ho,hn⟩
   .exact⟨_,by rw[z];exact zk,yg⟩
 refine⟨λi n Z W u=>n=ds.length-i/\i<=ds.length/\∃ad:List Aa,M p (zW imp L) W u/\u acc=some (.lst Z)/\AVs (Gn p (zW imp L) W H1 u) Z ad/\ad.length<=i/\uC (λC s2 u fp=>X.comp N scope C s2 u fp) pat elt (zW imp L) (ds.drop i) ad Q,
  ⟨ds.length,by simp,zK6 _,[],a6,zk,.nil,zI3 _,q1⟩,?_⟩
 rintro i n Z W u ⟨rfl,hi,ad,m2,ha,av,a2,cw⟩;have sG:zu (Gz F L σ H1) (Gz p (zW imp L) W u):=λa o e=>by
  obtain⟨z1,z2⟩:=zg e;exact m2.old a o (zw (λz=>z.elim z1 (zq z2 l)) z2)
 obtain⟨w1,w2⟩:=b0 i u _ sG;have gn:∀{g α2:Ev} {A τ2:St} {u V:Hp},P g->P α2->zH p u->Kz p u V->zu (Gn p g A H1 u) (Gn p α2 τ2 H1 V):=λ{g α2 A τ2 u V} n1 n2 t k=>zj λx o h e=>⟨⟨λz=>h.1 ((owc n1).mpr ((owc n2).mp z)),h.2⟩,k x o e (t.nt (ow0 h.1))⟩;by_cases D:i<ds.length
 .have hd:=zI5 D;rw[(zM7 D)]at cw;obtain⟨g,eb,body⟩:=cw;obtain⟨go,yl⟩:=w1 _ hd;have E:P g:=λj a z=>by
   obtain⟨is,b7,_,e⟩:=Pat.is_ok eb;by_cases hn:∀d,a≠.dat d
   .exact B j a (wj e z hn)
   .simp only[zS3,zU5]at hn;exact .inl hn
  refine .inr ⟨go,λO S H'=>∃ad:List Aa,M p (zW imp L) S H'/\H' acc=some (.lst O)/\AVs (Gn p (zW imp L) S H1 H') O ad/\ad.length<=i+1/\uC (λC s2 u fp=>X.comp N scope C s2 u fp) pat elt (zW imp L) (ds.drop (i+1)) ad Q,
   λO S H' b2=>by obtain⟨a5,r1,r2,r3,r4,r5⟩:=b2;exact⟨ds.length-(i+1),(om0 D),rfl,D,a5,r1,r2,r3,r4,r5⟩,λx V y=>?_⟩
  obtain⟨G,a7⟩:=yl x V y;refine vb eb (m2.kz (Kz.of_same G) (m2.tp.same G)) (a7 λa o _ e=>m2.fresh e) λA m4=>?_;unfold aW;dsimp only;rw[if_pos rfl];have accN:NT p acc:=⟨λt b c e=>by
   have:=(t1 t b c e).1.free l;exact⟨this.1,this.2.1⟩,wy t1.tab l⟩
  have b5:=G _ _ ha;have b1:AVs (Gn p g A H1 V) Z ad:=av.same (gn B E m2.tp (Kz.of_same G));refine λC s2 a1 fp=>body C s2 a1 fp p A V _ m4 λy v H6 qy t6 k6 r6=>?_;have a3:=k6 _ _ b5 accN;have hlen:Z.length<=i:=by rw[av.length];exact a2
  have I:p.O0 acc:=.inr rfl;have a0:∀t b c,p.tp=some (t,b,c)->acc≠t/\acc≠b/\acc≠c:=λt b c e=>(t1 t b c e).1.free l;have m6:=m4.kz k6 t6;have m7:=(Pat.back eb U m6).wr (o:=.lst (Z++[v])) yg I a0 l (xp a3) (λi r q z=>by rcases B i _ z with⟨d,w⟩|w<;>cases w);refine⟨a3,yx (by omega),ad++[y],m7,zk,?_,by simp;exact a2,qy⟩;have b6:zu (Gn p g A H1 H6) (Gn p (zW imp L) A H1 (upd H6 acc (.lst (Z++[v])))):=zj λa o h e=>⟨⟨λz=>h.1 ((owc E).mpr ((owc B).mp z)),h.2⟩,by rw[zm (λz=>h.1 (.inl (by rw[z];exact I)))];exact e⟩;have a8:AV (Gn p g A H1 H6) v y:=r6.same (zj λa o h e=>⟨⟨h.1,λxs z=>h.2 xs (m4.keep a _ z (m4.tp.nt (ow0 h.1)))⟩,e⟩);exact((b1.same (gn E E m4.tp k6)).append (.cons a8 .nil)).same b6
 .have e:=(zR9 hi (zQ7 D));subst e;rw[zP5]at cw;have a9:Kz F H1 u:=m2.keep;refine .inl ⟨w2 (zI3 _),k ad _ u cw (m.tp.re m2.tp rfl) (k1.trans a9) (.lst (zw ⟨m1.fresh l,λxs z=>?_⟩ ha) (av.same (zj λa o h e=>⟨⟨λz=>h.1 (.inl (.inl z)),λxs z=>h.2 xs (k1 a _ z (m.tp.nt λw=>h.1 (.inl (.inl (.inl w)))))⟩,e⟩)))⟩;have:=k1 acc _ z (m.tp.nt (ow0 (m1.fresh l)));rw[l]at this;cases this
variable {E:yj}{rest:List An}{tg iter elt:Ai}{pos cpos:Pos}{scope:Aq}
def aO (N:List Str)(imp:List (Option Nat))(pat:Pat){Q:Aa->Prop}(h:EvI X L tg iter λds=>ds.length<=1000/\uC (λC s2 a fp=>X.comp N scope C s2 a fp) pat elt (zW imp L) ds [] λds=>Q (.list ds))
  (nd:N.Nodup:=by decide +kernel) (g:scope.kind=.function:=by rfl) (f:∀y∈scope.names,y.2≠.cell:=by decide +kernel) (n:∀y∈scope.names,y.2=.local->scope.names.lookup y.1=some .local:=by decide +kernel) (d:scope.names.all (freeOk X.env.scope)=true:=by rfl) (u:imp.length=N.length:=by rfl)
  (i:((imp.zip N).all λp=>match p.1 with|none=>true|some j=>X.N[j]? == some p.2&&scope.names.lookup p.2 == some .free)=true:=by rfl) (b:pat.free (zW imp L)=true:=by rfl)
  (o:∀C s2 a fp,N.Nodup->PG (X.comp N scope C s2 a fp) tg (vF X.K pat):=by intro _ _ _ _ c;first|exact zQ c rfl (Or.inl rfl)|exact yI rfl rfl (by repeat (first|exact yY|refine yo (zQ c rfl (Or.inl rfl)) ?_)))
  (l:X.calm=true:=by rfl) (e:∀x,foldedSetIterable iter X.env x=pure x:=by intro _;rfl):EvN X L (.ListComp elt [⟨tg,iter,[],0⟩] scope pos) Q:=λF σ H R m k=>by
 obtain⟨Y,rfl,h⟩:=mI b h F σ H R m λds v H' q t kz r=>k _ v H' q t kz r;exact⟨_,ax l ⟨g,nd,f,n,wY d,u,i⟩ xW (λC s2 a fp=>o C s2 a fp nd) (λC s2 a fp=>sP) (λC s2 a fp pins s σ H Q I h=>zi pins s σ H Q I (h C s2 a fp)) e,h⟩
def M.setDeep {F:Fr}{σ:St}{H H1:Hp}{i:Nat}{v:V}{d:Aa}(m:M F L σ H)(t1:zH F H1)(k1:Kz F H H1)(b:AV (Gn F L σ H H1) v d):M F (L.set i (some (.deep d λy=>H y=none/\∃xs,H1 y=some (.lst xs)))) (σ.set i (some v)) H1:=by
 refine m.store t1 k1 (λy z=>z.1) ⟨v,rfl,b.same λy o z=>?_,λy z=>⟨ow0 (m.fresh z.1),m.fresh0 z.1,z.2⟩⟩;obtain⟨a,z2⟩:=zg z;unfold ur;by_cases w:H y=none/\∃xs,H1 y=some (.lst xs)
 .rw[if_pos w];exact z2
 .rw[if_neg w];have g:sub (λx=>¬Ow F L σ x/\¬foot (some v) (A.deep d λy=>H y=none/\∃xs,H1 y=some (.lst xs)) x) H1 y=some o:=zw ⟨a.1,w⟩ z2;rw[g];cases o with
  |lst xs=>
   exfalso
   cases q:H y with
   |none=>exact w ⟨q,xs,z2⟩
   |some o'=>
    have:=k1 y o' q (m.tp.nt (ow0 a.1));rw[z2]at this;cases this;exact a.2 xs q
  |_=>rfl
def zr4 (i:Nat)(N:List Str)(imp:List (Option Nat))(pat:Pat){x:Str}{pos':Pos}(h:EvI X L tg iter λds=>ds.length<=1000/\uC (λC s2 a fp=>X.comp N scope C s2 a fp) pat elt (zW imp L) ds [] λds=>∀S,SvS X (L.set i (some (.deep (.list ds) S))) rest E)
  (k:X.N.Nodup:=by assumption)
  (nd:N.Nodup:=by decide +kernel) (n:scope.kind=.function:=by rfl) (l:∀y∈scope.names,y.2≠.cell:=by decide +kernel) (w:∀y∈scope.names,y.2=.local->scope.names.lookup y.1=some .local:=by decide +kernel) (f:scope.names.all (freeOk X.env.scope)=true:=by rfl) (A:imp.length=N.length:=by rfl)
  (o:((imp.zip N).all λp=>match p.1 with|none=>true|some j=>X.N[j]? == some p.2&&scope.names.lookup p.2 == some .free)=true:=by rfl) (b:pat.free (zW imp L)=true:=by rfl)
  (z:∀C s2 a fp,N.Nodup->PG (X.comp N scope C s2 a fp) tg (vF X.K pat):=by intro _ _ _ _ c;first|exact zQ c rfl (Or.inl rfl)|exact yI rfl rfl (by repeat (first|exact yY|refine yo (zQ c rfl (Or.inl rfl)) ?_)))
  (u:X.calm=true:=by rfl)
  (hi:X.N[i]?=some x:=by rfl) (e:Loc X.env.scope x:=by first|exact Or.inl rfl|exact Or.inr rfl) (d:swapsWith (.ListComp elt [⟨tg,iter,[],0⟩] scope cpos) (some (.Name x pos')) pos.line X.env=pure true:=by rfl)
  (hf:X.fn x=true\/X.env.scope.names.lookup x=some .local:=by first|exact .inl rfl|exact .inr rfl|assumption) (g:∀x,foldedSetIterable iter X.env x=pure x:=by intro _;rfl):
  SvS X L (.Assign [.Name x pos'] (.ListComp elt [⟨tg,iter,[],0⟩] scope cpos) pos::rest) E:=λF σ H D m r=>by
 obtain⟨Y,rfl,h⟩:=mI b h F σ H (λv H'=>uU X rest D (σ.set i (some v)) H') m λds v H' q t kz fl=>q _ F _ H' D (m.setDeep t kz fl) r;exact⟨_,zv (rV u ⟨n,nd,l,w,wY f,A,o⟩ xW (λC s2 a fp=>z C s2 a fp nd) (λC s2 a fp=>sP) (λC s2 a fp pins s σ H Q I h=>zi pins s σ H Q I (h C s2 a fp)) k hi e d hf g) zC,h⟩
end
theorem eR {G:Hp}{b:Ab}{w:V}{g:List V}(e:G b=some (.lst g)){t:Ab}(ht:G t=some (.tup [w,.ref b])){d:Aa}(h:AV G (.ref t) d)(n:noL d=true):False:=by
 cases h with
 |lst a _=>rw[ht]at a;cases a
 |tup a f=>
  rw[ht]at a;cases a;cases f with
  |cons _ r=>
   cases r with
   |cons i _=>
    simp only[noL,noLs,zL0]at n;cases i with
    |lst _ _=>exact absurd n.2.1 (by simp[noL])
    |tup c _=>rw[e]at c;cases c
    |ins c _=>rw[e]at c;cases c
    |dk c _=>rw[e]at c;cases c
    |dt c _=>rw[e]at c;cases c
    |xc c _ _=>rw[e]at c;cases c
    |xn c=>rw[e]at c;cases c
 |ins a _=>rw[ht]at a;cases a
 |dk a _=>rw[ht]at a;cases a
 |dt a _=>rw[ht]at a;cases a
 |xc a _ _=>rw[ht]at a;cases a
 |xn a=>rw[ht]at a;cases a
theorem mK {G:Hp}:∀{xs:List V},(∀x∈xs,∃d,AV G x d)->∃ds,AVs G xs ds/\ds.length=xs.length
 |[],_=>⟨[],.nil,rfl⟩
 |x::xs,h=>by
  obtain⟨d,hd⟩:=h x zK2;obtain⟨ds,b,a⟩:=mK λy c=>h y (zI6 _ c);exact⟨d::ds,.cons hd b,by rw[zI7,zI7,a]⟩
section
variable {F:Fr}{L:Ev}{σ:St}{H:Hp}{i:Nat}{d:Aa}{S:Ab->Prop}{l:Ab}
abbrev Fr.parkS (F:Fr)(S:Ab->Prop):Fr:=⟨F.H0,λx=>F.O0 x\/S x,F.tp⟩
theorem M.parkS (m:M F L σ H)(hi:L[i]?=some (some (.deep d S)))(n:σ[i]?=some (some (.ref l)))(ne:noE L=true):M (F.parkS S) (L.set i (some (.at l))) σ H/\∀x,Ow (F.parkS S) (L.set i (some (.at l))) σ x->Ow F L σ x:=by
 obtain⟨v,I,_,A⟩:=m.deep i d S hi;obtain⟨G,t⟩:=m.put (i:=i) (b:=some (.at l)) (λs c x _ z f=>by cases z;exact f.elim) (λs c _ e z=>by cases z;rw[n]at e;cases e;rfl);have ow:∀x,Ow (F.parkS S) (L.set i (some (.at l))) σ x->Ow F L σ x:=λx h=>by
  rcases h with(z|z)|⟨j,a,s,p,k,f⟩
  .exact .inl z
  .exact .inr ⟨i,_,_,hi,n,z⟩
  .rcases zA p with⟨_,z⟩|⟨_,g⟩
   .cases z;exact f.elim
   .exact .inr ⟨j,a,s,g,k,f⟩
 have B:zu (Gz F L σ H) (Gz (F.parkS S) (L.set i (some (.at l))) σ H):=zj λx o h e=>⟨λz=>h (ow x z),e⟩;refine⟨⟨t.len,λj a s p k=>?_,t.dj,λj r q e=>?_,m.tp.to rfl λ_ z=>.inl z,m.keep,λy C=>?_⟩,ow⟩
 .rcases zA p with⟨rfl,z⟩|⟨E,g⟩
  .cases z;rw[n]at k;cases k;rfl
  .refine(m.ok j a s g k).stay B (λx u f e=>?_) rfl λr q w _=>absurd (w▸g) (wJ ne);obtain⟨w1,w2,_⟩:=m.ft g k f;exact⟨e,λz=>z.elim w1 λz=>E (m.dj i j _ a _ s x hi g n k z f),w2⟩
 .rcases zA e with⟨_,z⟩|⟨_,D⟩
  .cases z
  .exact absurd D (wJ ne)
 .rcases C with z|z
  .exact m.oex y z
  .obtain⟨_,_,xs,e⟩:=A y z;exact⟨_,e,yg⟩
def M.unparkS {g:Ev}{k:St}{H':Hp}{xs:List V}{ds:List Aa}(m:M F L σ H)(v:M (F.parkS S) g k H')(ne:noE g=true)(ha:g[i]?=some (some (.at l)))(E:S l)(R:¬F.O0 l)(Q:F.H0 l=none)(P:H' l=some (.lst xs))(av:AVs (sub (λx=>¬F.O0 x/\(∀j a s,j≠i->g[j]?=some (some a)->k[j]?=some s->¬foot s a x)/\x≠l) H') xs ds):M F (g.set i (some (.own ds))) k H':=by
 have K:k[i]?=some (some (.ref l)):=v.atv i l ha;have C:∀{j:Nat} {a:A} {s:Option V},(g.set i (some (.own ds)))[j]?=some (some a)->k[j]?=some s->(i=j/\a=.own ds/\s=some (.ref l))\/(i≠j/\g[j]?=some (some a)):=λ{j a s} p n=>by
  rcases zA p with⟨rfl,z⟩|⟨D,c⟩
  .cases z;rw[K]at n;cases n;exact .inl ⟨rfl,rfl,rfl⟩
  .exact .inr ⟨D,c⟩
 have ow:∀{y:Ab},Ow F (g.set i (some (.own ds))) k y->Ow (F.parkS S) g k y:=λ{y} h=>by
  rcases h with z|⟨j,a,s,p,n,f⟩
  .exact .inl (.inl z)
  .rcases C p n with⟨rfl,rfl,rfl⟩|⟨D,c⟩
   .have B:some (V.ref l)=some (.ref y):=f;cases B;exact .inl (.inr E)
   .exact .inr ⟨j,a,s,c,n,f⟩
 have T:zu (Gz (F.parkS S) g k H') (Gz F (g.set i (some (.own ds))) k H'):=zj λa o h e=>⟨λz=>h (ow z),e⟩;have nl:∀{j:Nat} {a:A} {s:Option V},g[j]?=some (some a)->k[j]?=some s->¬foot s a l:=λ{j a s} p n f=>(v.ft p n f).1 (.inr E);refine⟨by rw[zK0];exact v.len,λj a s p n=>?_,λj N a b s t x p n J G f1 f2=>?_,λj r q e N a s x p n f=>?_,m.tp.re v.tp rfl,v.keep,λy U=>v.oex y (.inl U)⟩
 .rcases C p n with⟨rfl,rfl,rfl⟩|⟨D,c⟩
  .exact⟨l,_,rfl,P,.lst (av.same (zj λx o h e=>⟨λz=>by
    rcases z with z|⟨j,a,s,p,n,f⟩
    .exact h.1 z
    .rcases C p n with⟨rfl,rfl,rfl⟩|⟨D,c⟩
     .have B:some (V.ref l)=some (.ref x):=f;cases B;exact h.2.2 rfl
     .exact h.2.1 j a s (zO2 D) c n f,e⟩)),R,Q⟩
  .refine(v.ok j a s c n).stay T (λx u f e=>?_) rfl λr q O _=>absurd (O▸c) (wJ ne);obtain⟨w1,w2,_⟩:=v.ft c n f;exact⟨e,λz=>w1 (.inl z),w2⟩
 .rcases C p J with⟨rfl,rfl,rfl⟩|⟨D,c⟩
  .rcases C n G with⟨rfl,_⟩|⟨I,w⟩
   .rfl
   .have B:some (V.ref l)=some (.ref x):=f1;cases B;exact absurd f2 (nl w G)
  .rcases C n G with⟨rfl,rfl,rfl⟩|⟨I,w⟩
   .have B:some (V.ref l)=some (.ref x):=f2;cases B;exact absurd f1 (nl c J)
   .exact v.dj j N a b s t x c w J G f1 f2
 .rcases zA e with⟨_,z⟩|⟨_,W⟩
  .cases z
  .exact absurd W (wJ ne)
end
def get_none {β:Ev}{j:Nat}{x:Option A}{k:Nat}{a:A}(b:∀c,β[j]?≠some (some c))(h:β[k]?=some (some a)):(β.set j x)[k]?=some (some a):=by
 have:j≠k:=λz=>b a (by rw[z];exact h);rw[zI4 this];exact h
theorem xV :∀{β:Ev}{j:Nat}{x:Option A},noE β=true->(∀r q,x≠some (.exc r q))->noE (β.set j x)=true
 |[],_,_,_,_=>rfl
 |b::β,0,x,h,n=>by
  have a:noE β=true:=by
   cases b with
   |none=>exact h
   |some b=>cases b<;>first|exact h|cases h
  show noE (x::β)=true;cases x with
  |none=>exact a
  |some x=>cases x<;>first|exact a|exact absurd rfl (n _ _)
 |b::β,j+1,x,h,n=>by
  have a:noE β=true:=by
   cases b with
   |none=>exact h
   |some b=>cases b<;>first|exact h|cases h
  have c:=xV (j:=j) a n;show noE (b::β.set j x)=true;cases b with
  |none=>exact c
  |some b=>cases b<;>first|exact c|cases h
section
variable {X:Cx}{L:Ev}{E:yj}{rest:List An}{tg:Ai}{p pos:Pos}
def eP (i I C:Nat){x b:Str}{ds:List Aa}{S:Ab->Prop}{p0 p2 p3 pe pc:Pos}{kk:Nat}(hi:L[i]?=some (some (.deep (.list ds) S)))(ne:noE L=true)(d6:I≠i)(e3:C≠i)(d8:I≠C)(la:I<L.length)(lb:C<L.length)
  (d7:∀d∈ds,∃(n:Str) (rs:List Aa),d=.tuple [.str n,.list rs]/\noLs rs=true/\rs.length<=900) (hl:ds.length<=90)
  (h:∀Q,Q.length=ds.length->SvS X ((((L.set i (some (.at 0))).set I none).set C none).set i (some (.own Q))) rest E)
  (hN:X.N[i]?=some x:=by rfl) (hv:Vis X.env.scope x:=by first|exact Or.inl rfl|exact Or.inr (Or.inl rfl)|exact Or.inr (Or.inr rfl)) (hd:(x == ("__debug__":Str))=false:=by decide) (f3:(x == ("__classdict__":Str))=false:=by decide)
  (d1:X.N[C]?=some b:=by rfl) (e8:Vis X.env.scope b:=by first|exact Or.inl rfl|exact Or.inr (Or.inl rfl)|exact Or.inr (Or.inr rfl)) (f0:(b == ("__debug__":Str))=false:=by decide) (c6:(b == ("__classdict__":Str))=false:=by decide)
  (hg:PG X tg (vF X.K (.many [I,C])):=by exact yI rfl rfl (by repeat (first|exact yY|refine yo (zQ (by assumption) rfl (Or.inl rfl)) ?_)))
  (hp:PassesOwn (Am X.prog X.w) X.A X.env X.xe:=by exact zQ1) (hc:X.calm=true:=by rfl) (hs:∀y,foldedSetIterable (.Name x p) X.env y=pure y:=by intro _;rfl)
  (b4:attributeBase (.Name b p0) "append" X.env (eval (.Name b p0) X.env)=eval (.Name b p0) X.env:=by rfl) (b8:Ad [.Constant .none kk pc] X.env=(false,eval (.Constant .none kk pc) X.env)::Ad [] X.env:=by rfl)
  (hpl:((((backTo p3 (Ad [.Constant .none kk pc] X.env)).all λx=>!x.fst)&&(backToKw p3 (keywordEach [] X.env)).all λx=>x.fst.isSome)&&decide (([Expr.Constant .none kk pc].length+([]:List Keyword).length+if([]:List Keyword).isEmpty=true then 0 else 1)<30))=true:=by rfl)
  (b1:(p2.endLine == p3.line)=true:=by rfl) (e4:swapsWith (.Call (.Attribute (.Name b p0) "append" p2) [.Constant .none kk pc] [] p3) none pe.line X.env=pure false:=by rfl):
  SvS X L (.For tg (.Name x p) [.Expr (.Call (.Attribute (.Name b p0) "append" p2) [.Constant .none kk pc] [] p3) pe] [] pos::rest) E:=λF σ H D m r=>by
 obtain⟨v,a0,av,hS⟩:=m.deep i _ S hi;obtain⟨l,xs,rfl,b6,avs⟩:=av.lst_inv;obtain⟨Sl,hH⟩:=mQ b6;obtain⟨n1,n2,_⟩:=hS l Sl;obtain⟨mp,f1⟩:=m.parkS hi a0 ne;have G0:Gz F L σ H=Gz F L σ H:=rfl
 -- what lies in it
 have tk:∀x∈xs,∃t n b ys rs,x=.ref t/\Gz F L σ H t=some (.tup [.str n,.ref b])/\S b/\b≠l/\H b=some (.lst ys)/\AVs (Gz F L σ H) ys rs/\ys.length<=900:=λx hx=>by
  obtain⟨k,hk⟩:=zU9.mp hx;obtain⟨d,c8,e6⟩:=avs.get' hk;obtain⟨n,rs,rfl,hn,c9⟩:=d7 d (zM6 c8);obtain⟨t,ts,rfl,ht,f2⟩:=e6.tup_inv;cases f2 with
  |@cons v1 r1 _ _ a1 a2=>
   cases a2 with
   |@cons v2 r2 _ _ a3 a4=>
    cases a4;cases a1.str_inv;obtain⟨b,ys,rfl,hb,J⟩:=a3.lst_inv;obtain⟨Sb,f4⟩:=mQ hb;have d5:Gz F L σ H t=some (.tup [.str n,.ref b]):=by
     rcases vY ht with⟨z,w⟩|⟨_,w⟩
     .obtain⟨_,_,zs,e⟩:=hS t z;rw[w]at e;cases e
     .exact w
    refine⟨t,n,b,ys,rs,rfl,d5,Sb,λz=>?_,f4,J.noL (λa o ho e=>?_) hn,by rw[J.length];exact c9⟩
    .subst z;rw[b6]at hb;cases hb;obtain⟨d',d3,d2⟩:=J.get' hk;have nl:noL d'=true:=by
      have:∀{rs:List Aa} {k:Nat} {d:Aa},noLs rs=true->rs[k]?=some d->noL d=true:=by
       intro rs
       induction rs with
       |nil=>intro k d _ e;simp at e
       |cons r0 rs ih=>
        intro k d h e;simp only[noLs,zL0]at h;cases k with
        |zero=>simp at e;subst e;exact h.1
        |succ k=>exact ih h.2 (by simpa using e)
      exact this hn d3
     exact eR b6 ht d2 nl
    .rcases vY e with⟨z,w⟩|⟨_,w⟩
     .obtain⟨_,_,zs,e'⟩:=hS a z;rw[w]at e';cases e';exact absurd trivial ho
     .exact w
 generalize hB:(λb=>∃t n,V.ref t∈xs/\Gz F L σ H t=some (.tup [.str n,.ref b]))=B
 let Y:=(F.parkS S).up (Gz F L σ H)
 let β:Ev:=(((L.set i (some (.at l))).set I none).set C none)
 have c0:β[i]?=some (some (.at l)):=by
  show(((L.set i (some (.at l))).set I none).set C none)[i]?=_;rw[zI4 e3,zI4 d6];exact get_set ⟨_,hi⟩
 have a6:∀y o,Gz F L σ H y=some o->∀{c3:Ev} {g:St} {H':Hp},M Y c3 g H'->H' y=some o:=λy o e c3 g H' O=>by
  obtain⟨w1,w2⟩:=zg e;refine O.keep y o ?_ ⟨λa b c z=>(m.tp.nt (ow0 w1)).1 a b c z,(m.tp.nt (ow0 w1)).2⟩;show(F.H0 y).or (Gz F L σ H y)=some o;cases q:F.H0 y with
  |none=>exact e
  |some o'=>have:=m.keep y o' q (m.tp.nt (ow0 w1));rw[w2]at this;cases this;rfl
 refine⟨_,zv (jh hp hc (oa (zT hN hv hd f3)) hg (zI (xU (sr zN2 zT4 zT5 wW (zT d1 e8 f0 c6) (zh rk zy b8) b4 hpl b1 b8) e4)) hs) zC,?_⟩;refine⟨.ref l,a0,l,rfl,⟨xs,SqL.of hH⟩,?_⟩;have lx:xs.length=ds.length:=avs.length;have mu:M Y (L.set i (some (.at l))) σ H:=by
  refine⟨mp.len,λj a s R Z=>(mp.ok j a s R Z).stay (λ_ _ e=>e) (λx o hf e=>?_) rfl λr q ea _=>?_,mp.dj,λj r q e=>?_,mp.tp.to rfl λ_ z=>z,λx o e n=>?_,mp.oex⟩
  .obtain⟨w1,w2,_⟩:=mp.ft R Z hf;refine⟨e,w1,?_⟩;show(F.H0 x).or (Gz F L σ H x)=none;rw[w2];cases q:Gz F L σ H x with
   |none=>rfl
   |some o=>
    exfalso
    refine(zg q).1 (f1 x (.inr ⟨j,a,s,R,Z,hf⟩))
  .subst ea;rcases zA R with⟨_,z⟩|⟨_,z⟩
   .cases z
   .exact absurd z (wJ ne)
  .rcases zA e with⟨_,z⟩|⟨_,z⟩
   .cases z
   .exact absurd z (wJ ne)
  .have e':(F.H0 x).or (Gz F L σ H x)=some o:=e;cases q:F.H0 x with
   |none=>rw[q,Option.none_or]at e';exact(zg e').2
   |some o'=>rw[q]at e';cases e';exact mp.keep x _ q n
 refine⟨λk n g H'=>n=xs.length-k/\k<=xs.length/\M Y β g H'/\H' l=some (.lst xs)/\∀b,B b->∃zs Q,H' b=some (.lst zs)/\AVs (Gz F L σ H) zs Q/\zs.length<=900+k,
  ⟨xs.length,by simp,zK6 _,(mu.drop.drop:M Y β σ H),hH,λb hb=>?_⟩,?_⟩
 .subst hB;obtain⟨t,n,ht,hg⟩:=hb;obtain⟨t',n',u,ys,rs,e,c4,Sb,_,P,J,hlen⟩:=tk _ ht;cases e;rw[hg]at c4;cases c4;exact⟨ys,rs,P,J,by omega⟩
 rintro k n g H' ⟨rfl,hk,O,W,a9⟩;by_cases b2:k<xs.length
 .have c1:xs[k]?=some xs[k]:=zI5 b2;have a7:xs[k]∈xs:=List.getElem_mem b2;obtain⟨t,nm,u,ys,rs,ex,T,Sb,b5,_,_,_⟩:=tk _ a7;have Bb:B u:=by subst hB;exact⟨t,nm,ex▸a7,T⟩
  refine .inr ⟨⟨xs,xs[k],SqL.of W,c1⟩,λa8 a5=>M Y β a8 a5/\a5 l=some (.lst xs)/\∀b,B b->∃zs Q,a5 b=some (.lst zs)/\AVs (Gz F L σ H) zs Q/\zs.length<=900+(k+1),λa8 a5 z=>⟨xs.length-(k+1),by omega,rfl,b2,z⟩,λy H3 yy=>?_⟩;obtain⟨rfl,yy⟩:=yy;have hy:=yy xs (SqL.of W);rw[c1]at hy;cases hy;rw[ex];refine⟨t,[.str nm,.ref u],rfl,SqT.of (a6 t _ T O),rfl,.str nm,[.ref u],rfl,?_⟩;have m2:M Y (β.set I (some (.dat (.str nm)))) (g.set I (some (.str nm))) H3:=O.set (.str _);refine⟨.ref u,[],rfl,?_⟩;have m3:M Y ((β.set I (some (.dat (.str nm)))).set C (some (.at u))) ((g.set I (some (.str nm))).set C (some (.ref u))) H3:=m2.store (b:=.at u) m2.tp Kz.refl (λx z=>z.elim) rfl;refine⟨rfl,?_⟩;have e7:C<((g.set I (some (V.str nm)))).length:=by rw[zK0,<-O.len];show C<(((L.set i (some (A.at l))).set I none).set C none).length;simpa using lb
  obtain⟨zs,Q,P,J,hlen⟩:=a9 u Bb;refine⟨.ref u,zJ9 e7,.inl ⟨rfl,_,SqL.of P⟩,u,zs,.non,rfl,rfl,P,yx (by omega),?_⟩;have ob:Y.O0 u:=.inr Sb;obtain⟨nF,n0,_⟩:=hS u Sb;have d9:Y.H0 u=none:=by
   show(F.H0 u).or (Gz F L σ H u)=none;rw[n0];cases q:Gz F L σ H u with
   |none=>rfl
   |some o=>exact absurd (.inr ⟨i,_,_,hi,a0,Sb⟩) (zg q).1
  have c5:∀(j:Nat) r q,((β.set I (some (.dat (.str nm)))).set C (some (.at u)))[j]?≠some (some (.exc r q)):=λj r q=>wJ (xV (xV (xV (xV (xV ne (λ_ _ z=>by cases z)) (λ_ _ z=>by cases z)) (λ_ _ z=>by cases z)) (λ_ _ z=>by cases z)) (λ_ _ z=>by cases z));have m4:=m3.wr (x:=u) (o:=.lst (zs++[.non])) yg ob (λt' b3 c e=>⟨λz=>nF (by rw[z];exact(m.tp t' b3 c e).2.1),λz=>nF (by rw[z];exact(m.tp t' b3 c e).2.2.1),λz=>nF (by rw[z];exact(m.tp t' b3 c e).2.2.2)⟩) d9 (xp P) (λj r q e=>absurd e (c5 j r q));have m5:M Y β _ (upd H3 u (.lst (zs++[.non]))):=m4.forget (by simp) λj a e=>by
   have nj:∀c,β[I]?≠some (some c):=λc z=>by
    have z':((((L.set i (some (A.at l))).set I none).set C none))[I]?=some (some c):=z;rw[zI4 (zO2 d8),zJ9 (by simpa using la)]at z';cases z'
   have e9:∀c,β[C]?≠some (some c):=λc z=>by
    have z':((((L.set i (some (A.at l))).set I none).set C none))[C]?=some (some c):=z;rw[zJ9 (by simpa using lb)]at z';cases z'
   have R:=get_none (x:=some (.dat (.str nm))) nj e;have d0:C≠j:=λz=>e9 a (by rw[z];exact e);rw[zI4 d0];exact R
  refine⟨m5,by rw[zm (zO2 b5)];exact W,λb0 c7=>?_⟩;by_cases z:b0=u
  .subst z;exact⟨_,_,zk,J.append (.cons .non .nil),by rw[zI1,zN0];omega⟩
  .obtain⟨f5,e5,w1,w2,w3⟩:=a9 b0 c7;exact⟨f5,e5,by rw[zm z];exact w1,w2,by omega⟩
 .have e:k=xs.length:=by omega
  subst e;refine .inl ⟨⟨xs,SqL.of W,zI3 _⟩,?_⟩;have md:M (F.parkS S) β g H':=⟨O.len,λj a s R Z=>(O.ok j a s R Z).stay (λ_ _ e=>e) (λx o hf e=>by
   obtain⟨w1,w2,_⟩:=O.ft R Z hf;refine⟨e,w1,?_⟩;have b7:(F.H0 x).or (Gz F L σ H x)=none:=w2;cases q:F.H0 x with
   |none=>rfl
   |some o'=>rw[q]at b7;cases b7) rfl λr q _ l=>⟨l.tp,l.o,l.ok,l.k⟩,O.dj,O.xd,O.tp.to rfl λ_ z=>z,λx o e n=>O.keep x o (by show(F.H0 x).or _=_;have e':F.H0 x=some o:=e;rw[e'];rfl) n,O.oex⟩
  have b9:noE β=true:=xV (xV (xV ne (λ_ _ z=>by cases z)) (λ_ _ z=>by cases z)) (λ_ _ z=>by cases z)
  -- all of it is read now
  have f6:∀{y:Ab},¬F.O0 y->(∀j a s,j≠i->β[j]?=some (some a)->g[j]?=some s->¬foot s a y)->y≠l->(λx=>¬F.O0 x/\(∀j a s,j≠i->β[j]?=some (some a)->g[j]?=some s->¬foot s a x)/\x≠l) y:=λh1 h2 h3=>⟨h1,h2,h3⟩;have g0:zu (Gz F L σ H) (sub (λx=>¬F.O0 x/\(∀j a s,j≠i->β[j]?=some (some a)->g[j]?=some s->¬foot s a x)/\x≠l) H'):=λy o e=>by
   obtain⟨w1,w2⟩:=zg e;refine zw ⟨ow0 w1,λj a s hj R Z f=>?_,λz=>w1 (by rw[z];exact .inr ⟨i,_,_,hi,a0,Sl⟩)⟩ (a6 y o e O);obtain⟨_,w3,_⟩:=O.ft R Z f;have U:(F.H0 y).or (Gz F L σ H y)=none:=w3;rw[e]at U;cases q:F.H0 y with
   |none=>rw[q]at U;cases U
   |some o'=>rw[q]at U;cases U
  obtain⟨Q,c2,d4⟩:=mK (G:=sub (λx=>¬F.O0 x/\(∀j a s,j≠i->β[j]?=some (some a)->g[j]?=some s->¬foot s a x)/\x≠l) H') (xs:=xs) λx hx=>by
   obtain⟨t,nm,u,ys,rs,rfl,T,Sb,b5,_,_,_⟩:=tk x hx;have Bb:B u:=by subst hB;exact⟨t,nm,hx,T⟩
   obtain⟨zs,Q,P,J,_⟩:=a9 u Bb;refine⟨.tuple [.str nm,.list Q],.tup (g0 _ _ T) (.cons (.str _) (.cons (.lst (zw ⟨(hS u Sb).1,λj a s hj R Z f=>?_,b5⟩ P) (J.same g0)) .nil))⟩;exact(O.ft R Z f).1 (.inr Sb)
  have fin:=m.unparkS md b9 c0 Sl n1 n2 W c2;have e0:β.set i (some (.own Q))=((((L.set i (some (.at 0))).set I none).set C none).set i (some (.own Q))):=by
   show((((L.set i (some (.at l))).set I none).set C none).set i (some (.own Q)))=_;refine List.ext_getElem? λj=>?_;by_cases z1:i=j
   .subst z1;have li:i<L.length:=(zH9.mp hi).1;rw[zJ9 (by simpa using li),zJ9 (by simpa using li)]
   .rw[zI4 z1,zI4 z1];by_cases z2:C=j
    .subst z2;rw[zJ9 (by simpa using lb),zJ9 (by simpa using lb)]
    .rw[zI4 z2,zI4 z2];by_cases z3:I=j
     .subst z3;rw[zJ9 (by simpa using la),zJ9 (by simpa using la)]
     .rw[zI4 z3,zI4 z3,zI4 z1,zI4 z1]
  rw[e0]at fin;exact h Q (d4.trans lx) F g H' D fin r
end
def Fr.nl (F:Fr):Fr:={F with O0:=λx=>F.O0 x\/∃xs,F.H0 x=some (.lst xs)}
def wC (F:Fr)(X:Cx)(L:Ev)(a:List An)(E:yj):Prop:=∀(σ:St) (H:Hp) (D:Ends),M F L σ H->sE F E D->uU X a D σ H
section
variable {X:Cx}{L:Ev}{E:yj}{e:Ai}{p pos:Pos}{st:An}{sts rest:List An}{s:zD}{r:Fr}
def SvS.at (h:SvS X L sts E):wC r X L sts E:=λσ H D m a=>h r σ H D m a
def zv5 (P:Ev->Prop)(g:SvS X L [st] {E with nx:=P})(f:∀a,P a->wC r X a sts E):wC r X L (st::sts) E:=λσ H D m c=>by
 refine yC (λb H'=>∃a,M r a b H'/\P a) ?_ ?_
 .obtain⟨t,p,q⟩:=g r σ H {D with nx:=λb H'=>∃a,M r a b H'/\P a} m ⟨λa b H' d z=>⟨a,d,z⟩,c.rt,c.bk,c.ct⟩;exact⟨t,λpins s σ H D I h=>(by
   have:=p pins s σ H D I h;rw[rG]at this;exact this),q⟩
 .rintro b H' ⟨a,d,z⟩;exact f a z b H' D d c
def M.addF {F:Fr}{σ:St}{H1:Hp}{i:Nat}{f:Str}{v:V}{d:Aa}(m1:M F L σ H1)(hi:L[i]?=some (some (.inn s)))(hp:s.pl=false)(b:AV (Gz F L σ H1) v d):M F (L.set i (some (.inn (s.add f v d)))) σ (upd H1 s.a (.ins s.C s.dx (s.fs++[(f,v)]))):=by
 obtain⟨h,h0,c⟩:=m1.inn hi;have g:=uW (o:=.ins s.C s.dx (s.fs++[(f,v)])) m1 hi (.inl rfl);exact m1.wrI (s':=s.add f v d) hi rfl rfl (λx o e _ n1 _=>by rw[zm n1];exact e) (m1.tp.updO (c _ (.inl rfl)).1 (wZ h0.ob)) ⟨by rw[zk,zD.tl_f (s:=s.add f v d) hp,zJ5],(AVf.snoc b h0.fl).same g,λz=>(by rw[hp]at z;cases z),h0.av.same g,h0.ne,h0.eq⟩
def M.unl {σ:St}{H:Hp}{b:Nat}{l:Ab}{d:Aa}(m:M r.nl L σ H)(t0:zH r r.H0)(ne:noE L=true)(A:L[b]?=some (some (.at l)))(av:AV (sub (λx=>¬r.O0 x) r.H0) (.ref l) d):M r (L.set b (some (.dat d))) σ H:=by
 have m0:M r L σ H:=by
  have t:zu (Gz r.nl L σ H) (Gz r L σ H):=zj λx o h e=>⟨λz=>h (z.elim (λz=>.inl (.inl z)) .inr),e⟩;refine⟨m.len,λj a s g k=>(m.ok j a s g k).stay t (λx u f e=>?_) rfl λC q n _=>absurd (n▸g) (wJ ne),m.dj,m.xd,t0.re m.tp rfl,m.keep,λy v=>m.oex y (.inl v)⟩;obtain⟨w1,w2,_⟩:=m.ft g k f;exact⟨e,λz=>w1 (.inl z),w2⟩
 exact(m0.put (i:=b) (b:=some (.dat d)) (λs c x _ z f=>by cases z;exact f.elim) (λs c _ e z=>by
  cases z;have B:=m.atv b l A;rw[B]at e;cases e;refine⟨_,rfl,av.same λx o w=>?_⟩;obtain⟨w1,w2⟩:=m0.old x o w |> zg;refine zw (λz=>w1 ?_) w2;rcases z with z|⟨j,a,s,g,k,f⟩
  .exact .inl z
  .rcases zA g with⟨_,z⟩|⟨_,z⟩
   .cases z;exact f.elim
   .exact .inr ⟨j,a,s,z,k,f⟩)).2
def pL (i b:Nat){x f:Str}{w A:Pos}{l:Ab}{d0:Aa}(t0:zH r r.H0)(ne:noE L=true)(F:L[b]?=some (some (.at l)))(av:AV (sub (λx=>¬r.O0 x) r.H0) (.ref l) d0)(hi:L[i]?=some (some (.inn s)))(hp:s.pl=false)(c:Cls X.K s.C)(na:yh X.K s.C f)(hf:yr s.kvs f=none)(hk:s.kvs.length<900)(h:EvN X (L.set b (some (.dat d0))) e λd=>∀v,wC r.nl X (L.set i (some (.inn (s.add f v d)))) rest E)
  (R:X.N[i]?=some x:=by rfl) (J:Vis X.env.scope x:=by first|exact Or.inl rfl|exact Or.inr (Or.inl rfl)|exact Or.inr (Or.inr rfl)) (hd:(x == ("__debug__":Str))=false:=by decide) (n:(x == ("__classdict__":Str))=false:=by decide)
  (Q:swapsWith e (some (.Attribute (.Name x w) f A)) pos.line X.env=pure false:=by rfl):wC r.nl X L (.Assign [.Attribute (.Name x w) f A] e pos::rest) E:=λσ H D m O=>by
 refine⟨_,zv (vo (zT R J hd n) zi Q) zC,?_⟩;have k:=m.unl t0 ne F av;refine h r σ H _ k λd v H1 S t1 k1 I=>?_;have m1:M r.nl L σ H1:=m.kz k1 (m.tp.re t1 rfl);have t:AV (Gz r.nl L σ H1) v d:=I.same (zj λy o g e=>⟨λz=>?_,e⟩)
 .obtain⟨T,h0,U⟩:=m1.inn hi;refine⟨_,T,s.a,s.C,s.dx,_,rfl,h0.ob,c,na,by rw[zI1,h0.fl.len];have:=s.tl_len;omega,?_⟩;rw[zD.tl_f hp,zJ5,tE (h0.fl.none hf)];exact S v σ _ D (m1.addF hi hp t) O
 .rcases z with(z|⟨xs,z⟩)|⟨j,a,u,q,P,B⟩
  .exact g.1 (.inl z)
  .exact g.2 xs (k.keep y _ z (k.tp.nt (ow0 g.1)))
  .by_cases G:b=j
   .subst G;rw[F]at q;cases q;exact B
   .exact g.1 (.inr ⟨j,a,u,by rw[zI4 G];exact q,P,B⟩)
end
def zD4 (C:Ab)(φ:List A->(A->Prop)->Prop):Sp:=λvs H d _=>∃(F:Fr) (b c:Aa) (v1:V) (l:Ab) (Q:A->Prop) (x dx:Ab) (H1:Hp),vs=[.ref x,v1,.ref l]/\H1 x=none/\H1 dx=none/\dx≠x/\H=upd (upd H1 dx (.own x)) x (.ins C dx [])/\
 F.H0=H1/\zH F H1/\(∀y,F.O0 y->∃u,H1 y=some u/\yU u)/\noL b=true/\AV (sub (λy=>¬F.O0 y) H1) v1 b/\AV (sub (λy=>¬F.O0 y) H1) (.ref l) c/\φ [.inn (.new C x dx),.dat b,.dat c] Q/\∀s' H',s'.a=x->Q (.res .none s')->yf F.nl .non H' (.res .none s')->d .non H'
def zC3 (C:Ab)(φ:List A->(Aa->Prop)->Prop):Sp:=λvs H b E=>∃(F:Fr) (as:List A) (q:Aa->Prop) (x dx:Ab) (vs':List V) (H1:Hp),vs=.ref x::vs'/\H1 x=none/\H1 dx=none/\dx≠x/\H=upd (upd H1 dx (.own x)) x (.ins C dx [])/\
 F.H0=H1/\zH F H1/\(∀y,F.O0 y->∃u,H1 y=some u/\yU u)/\zS F (sub (λy=>¬F.O0 y) H1) vs' as/\φ (.inn (.new C x dx)::as) q/\∀d S a H',q d->yf F (.ref a) H' (.deep d S)->E (.ref a) none H'
section
variable {P:Ah}{w:Ak}{K:Ae}{mg:Str->Option Ac}{base:Ao}
def M.startK {F:Fr}{C x dx:Ab}{N:List Str}{us:List V}{as:List A}(b:F.H0 x=none)(f:F.H0 dx=none)(t:zH F F.H0)(o:∀y,F.O0 y->∃u,F.H0 y=some u/\yU u)(j:zS F (sub (λy=>¬F.O0 y) F.H0) us as):
  M F ((A.inn (.new C x dx)::as).map some++List.replicate (N.length-(A.inn (.new C x dx)::as).length) none) (L2.start N (.ref x::us)) (upd (upd F.H0 dx (.own x)) x (.ins C dx [])):=by
 have s1:zu F.H0 (upd (upd F.H0 dx (.own x)) x (.ins C dx [])):=λa u q=>by rw[zm (zq q b),zm (zq q f)];exact q
 have i:¬F.O0 x:=λz=>by obtain⟨u,d,_⟩:=o x z;rw[b]at d;cases d
 have at':∀y,(zD.new C x dx).at y->y=x:=λy c=>c.elim id id;have g:zu (sub (λx=>¬F.O0 x) F.H0) (sub (λy=>¬F.O0 y/\y≠(zD.new C x dx).a/\y≠(zD.new C x dx).lp) (upd (upd F.H0 dx (.own x)) x (.ins C dx []))):=zj λa u h e=>⟨⟨h,zq e b,zq e b⟩,s1 a u e⟩;exact M.startI (s:=.new C x dx) (λx o e=>s1 x o e) (λy c=>by rw[at' y c];exact b) (t.same s1) (λx z=>by obtain⟨u,d,n⟩:=o x z;exact⟨u,s1 _ _ d,n⟩) (λy c=>by rw[at' y c];exact i) ⟨by show upd _ x _ x=_;rw[zk];rfl,.nil,(λz=>by cases z),.nil,(λz=>by cases z),λ_=>rfl⟩ (j.to g rfl)
def zG2 {x qual:Str}{st:An}{f C:Ab}{fd:Ag}{N ps:List Str}{k:Nat}{φ:List A->(A->Prop)->Prop}(G:Fun K x qual st f fd)(S:zo N ps (zd st))(hlen:ps.length=3)(hN:3<=N.length)
  (v:∀(cdv:Ac) (M:Ap) (outer:List Ar) (s:Af) (H:Hp) (E:XK) (p D:Aa) (l:Ab) (Q:A->Prop) (u:zD) (r:Fr),zO k (M.deeper (envOfC qual (zd st) s.heap.objs.size f cdv))->φ [.inn u,.dat p,.dat D] Q->u.pl=false->u.kvs=[]->u.C=C->zH r r.H0->AV (sub (λy=>¬r.O0 y) r.H0) (.ref l) D->
   wC r.nl (xi CX0 P w K mg base N qual (zd st) f cdv M outer s H E).nox ([some (.inn u),some (.dat p),some (.at l)]++List.replicate (N.length-3) none) (zJ st) {nx:=λL=>∃s',s'.a=u.a/\L[0]?=some (some (.inn s'))/\Q (.res .none s'),rt:=λ_=>False}):zG P w K mg base CX0 (k+1) f fd ps (zD4 C φ):=by
 refine G.ok S (λvs H Q E h=>?_) (λcdv M outer s H vs Qc E hr h=>?_)
 .obtain⟨F,p,D,v1,l,Q',y,dx,H1,rfl,_⟩:=h;exact hlen.symm
 .obtain⟨F,p,D,v1,l,Q',y,dx,H1,rfl,I,T,a0,rfl,rfl,t,o,Z,X,O,R,kk⟩:=h;have s1:zu F.H0 (upd (upd F.H0 dx (.own y)) y (.ins C dx [])):=λa u q=>by rw[zm (zq q I),zm (zq q T)];exact q
  have U:¬F.O0 y:=λz=>by obtain⟨u,J,_⟩:=o y z;rw[I]at J;cases J
  refine v cdv M outer _ _ E p D l Q' (.new C y dx) F hr R rfl rfl rfl t O _ _ _ ?_ ⟨λL σ H' m ⟨s',ea,h0,q⟩=>kk s' _ ea q (yf.res m h0 .non),λ_ _ _ _ z=>z.elim,λ_ _ _ _ z=>z.elim,λ_ _ _ _ z=>z.elim⟩;have Y:L2.start N [.ref y,v1,.ref l]=[some (.ref y),some v1,some (.ref l)]++List.replicate (N.length-3) none:=rfl;rw[Y];have k3:∀{i:Nat} {a:A} {u:Option V},(([some (A.inn (.new C y dx)),some (.dat p),some (.at l)]:Ev)++List.replicate (N.length-3) none)[i]?=some (some a)->(([some (V.ref y),some v1,some (.ref l)]:St)++List.replicate (N.length-3) none)[i]?=some u->(i=0/\a=.inn (.new C y dx)/\u=some (.ref y))\/(a=.dat p/\u=some v1)\/(a=.at l/\u=some (.ref l)):=λ{i a u} d g=>by
   match i with
   |0=>cases d;cases g;exact .inl ⟨rfl,rfl,rfl⟩
   |1=>cases d;cases g;exact .inr (.inl ⟨rfl,rfl⟩)
   |2=>cases d;cases g;exact .inr (.inr ⟨rfl,rfl⟩)
   |i+3=>
    have c:(List.replicate (N.length-3) (none:Option A))[i]?=some (some a):=d;rw[zM3]at c;split at c<;>cases c
  have gs:zu (sub (λx=>¬F.nl.O0 x/\x≠y) (upd (upd F.H0 dx (.own y)) y (.ins C dx []))) (Gz F.nl ([some (A.inn (.new C y dx)),some (.dat p),some (.at l)]++List.replicate (N.length-3) none) ([some (V.ref y),some v1,some (.ref l)]++List.replicate (N.length-3) none) (upd (upd F.H0 dx (.own y)) y (.ins C dx []))):=zj λx o h e=>⟨λz=>by
   rcases z with z|⟨i,a,u,d,g,f⟩
   .exact h.1 z
   .rcases k3 d g with⟨_,rfl,rfl⟩|⟨rfl,rfl⟩|⟨rfl,rfl⟩
    .exact f.elim h.2 h.2
    .exact f
    .exact f,e⟩
  have at':∀x,(zD.new C y dx).at x->x=y:=λx B=>B.elim id id;refine⟨by simp,λi a u d g=>?_,λi j a b u u' z d g g1 g2 f1 f2=>?_,λi r q e=>?_,(t.same s1).to rfl λ_ z=>.inl z,λx o e _=>s1 x o e,λx B=>?_⟩
  .rcases k3 d g with⟨_,rfl,rfl⟩|⟨rfl,rfl⟩|⟨rfl,rfl⟩
   .refine⟨rfl,⟨by show upd _ y _ y=_;rw[zk];rfl,.nil,(λz=>by cases z),.nil,(λz=>by cases z),λ_=>rfl⟩,λx B=>?_⟩;rw[at' x B];refine⟨λz=>?_,I⟩;rcases z with z|⟨xs,z⟩
    .exact U z
    .rw[I]at z;cases z
   .refine⟨v1,rfl,(X.noL (λx o ho e=>?_) Z).same gs⟩;obtain⟨z1,z2⟩:=zg e;refine zw ⟨λz=>?_,zq z2 I⟩ (s1 x o z2);rcases z with z|⟨xs,z⟩
    .exact z1 z
    .rw[z2]at z;cases z;exact ho trivial
   .rfl
  .have one:∀{i:Nat} {a:A} {u:Option V} {z:Ab},(([some (A.inn (.new C y dx)),some (.dat p),some (.at l)]:Ev)++List.replicate (N.length-3) none)[i]?=some (some a)->(([some (V.ref y),some v1,some (.ref l)]:St)++List.replicate (N.length-3) none)[i]?=some u->foot u a z->i=0:=λ{i a u z} d g f=>by
    rcases k3 d g with⟨h,_⟩|⟨rfl,rfl⟩|⟨rfl,rfl⟩
    .exact h
    .exact f.elim
    .exact f.elim
   exact(one d g1 f1).trans (one g g2 f2).symm
  .intro j a u x d g f
   match i with
   |0=>cases e
   |1=>cases e
   |2=>cases e
   |i+3=>
    have c:(List.replicate (N.length-3) (none:Option A))[i]?=some (some (.exc r q)):=e;rw[zM3]at c;split at c<;>cases c
  .rcases B with z|⟨xs,z⟩
   .obtain⟨u,J,n⟩:=o x z;exact⟨u,s1 _ _ J,n⟩
   .exact⟨_,s1 _ _ z,yg⟩
def zE9 {x qual:Str}{st:An}{f C:Ab}{fd:Ag}{N ps:List Str}{z:Str}{k:Nat}{φ:List A->(Aa->Prop)->Prop}(G:Fun K x qual st f fd)(S:zo (N++[z]) ps (zd st))(J:ps.length<=N.length)(hlen:∀as q,φ as q->as.length=ps.length)
  (c:∀(cdv:Ac) (e:Ap) (outer:List Ar) (s:Af) (H:Hp) (E:XK) (u:zD) (as:List A) (q:Aa->Prop) (r:Fr) (xe:Ac->Af->Prop),zO k (e.deeper (envOfC qual (zd st) s.heap.objs.size f cdv))->φ (.inn u::as) q->u.pl=false->u.kvs=[]->u.C=C->Xok ((xi (CX1 P w base) P w K mg base (N++[z]) qual (zd st) f cdv e outer s H E).wish xe) r (List.replicate (N.length+1) none) q->
   SvS ((xi (CX1 P w base) P w K mg base (N++[z]) qual (zd st) f cdv e outer s H E).wish xe) (((A.inn u::as).map some++List.replicate (N.length-(A.inn u::as).length) none)++[some (.exc r λ_=>True)]) (zJ st) {nx:=λ_=>False,rt:=λ_=>False}):zG P w K mg base (CX1 P w base) (k+1) f fd ps (zC3 C φ):=by
 refine G.okX S (λvs H Q E h=>?_) (λcdv e outer s H vs U E hr h=>?_)
 .obtain⟨F,as,q,y,dx,vs',H1,rfl,_,_,_,_,_,_,_,l,b,_⟩:=h;rw[zI7,l.length];exact hlen _ _ b
 .obtain⟨F,as,q,y,dx,vs',H1,rfl,R,i,O,rfl,rfl,t,o,l,b,D⟩:=h;have I:=hlen _ _ b;have m:=M.startK (C:=C) (N:=N++[z]) R i t o l;have hp:(zD.new C y dx).pl=false/\(zD.new C y dx).kvs=[]/\(zD.new C y dx).C=C:=⟨rfl,rfl,rfl⟩
  revert m b hp
  generalize zD.new C y dx=u;intro b m hp;generalize L:(A.inn u::as)=bs at m b;have I:bs.length=ps.length:=hlen _ _ b;have v:bs.map some++List.replicate ((N++[z]).length-bs.length) none=(bs.map some++List.replicate (N.length-bs.length) none)++[none]:=by rw[zI1,zN0,show N.length+1-bs.length=(N.length-bs.length)+1 by omega,zS5,zN1]
  rw[v]at m;have p:(bs.map some++List.replicate (N.length-bs.length) (none:Option A)).length=N.length:=by rw[zI1,zH8,zL5];omega
  have n:=m.exc (j:=N.length) (q:=λ_=>True) (by rw[zJ2 (by omega),p,zM1]<;>rfl);have B:((bs.map some++List.replicate (N.length-bs.length) (none:Option A))++[none]).set N.length (some (A.exc F λ_=>True))=(bs.map some++List.replicate (N.length-bs.length) none)++[some (.exc F λ_=>True)]:=by rw[zN9 _ _ (by omega),p,zM1]<;>rfl
  rw[B]at n;subst L;exact c cdv e outer s _ E u as q F _ hr b hp.1 hp.2.1 hp.2.2 ⟨_,_,rfl,rfl,rfl,λσ d S a H' g T=>D d S a H' T ⟨g.tp,g.keep,ud g⟩⟩ F _ _ _ n ⟨λ_ _ _ _ z=>z.elim,λ_ _ _ _ z=>z.elim,λ_ _ _ _ z=>z.elim,λ_ _ _ _ z=>z.elim⟩
end
structure rD (P:Ah)(w:Ak)(K:Ae)(mg:Str->Option Ac)(base:Ao)(x:Str)(k:Nat)(C:Ab)(φ:List A->(A->Prop)->Prop):Prop where
 ex:∃f fd ps,mg x=some (.ref C)/\Mk K C f/\Binds K fd ps []/\zG P w K mg base CX0 k f fd ps (zD4 C φ)
structure jI (P:Ah)(w:Ak)(K:Ae)(mg:Str->Option Ac)(base:Ao)(x:Str)(k:Nat)(C:Ab)(φ:List A->(Aa->Prop)->Prop):Prop where
 ex:∃f fd ps,mg x=some (.ref C)/\Mk K C f/\Binds K fd ps []/\zG P w K mg base (CX1 P w base) k f fd ps (zC3 C φ)
section
variable {X:Cx}{L αh:Ev}{E:yj}{e1 e2:Ai}{p pos apos po:Pos}{rest:List An}{k:Nat}{φ:List A->(A->Prop)->Prop}{x o:Str}{C:Ab}
def qV (j b:Nat){y:Str}{pos':Pos}{ds:List Aa}{S:Ab->Prop}(hN:X.N.Nodup)(M':rD X.prog X.w X.K X.mg X.base x k C φ)(hr:zO (k+1) X.A)(hg:Gl X x)(B:L[b]?=some (some (.deep (.list ds) S)))(h:EvD X L e1 λn=>noL n=true/\∀u:zD,φ [.inn u,.dat n,.dat (.list ds)] λa=>∃s',a=.res .none s'/\SvS X (L.set j (some (.inn s'))) rest E)
  (M:X.N[b]?=some o:=by rfl) (J:Vis X.env.scope o:=by first|exact Or.inl rfl|exact Or.inr (Or.inl rfl)|exact Or.inr (Or.inr rfl)) (P:(o == ("__debug__":Str))=false:=by decide) (g:(o == ("__classdict__":Str))=false:=by decide)
  (hj:X.N[j]?=some y:=by rfl) (hx:Loc X.env.scope y:=by first|exact Or.inl rfl|exact Or.inr rfl)
  (hs:swapsWith (.Call (.Name x p) [e1,.Name o po] [] pos) (some (.Name y pos')) apos.line X.env=pure false:=by rfl) (hf:X.fn y=true\/X.env.scope.names.lookup y=some .local:=by first|exact .inl rfl|exact .inr rfl|assumption)
  (R:(x == ("__debug__":Str))=false:=by decide) (he:Ad [e1,.Name o po] X.env=(false,eval e1 X.env)::Ad [.Name o po] X.env:=by rfl) (T:Ad [.Name o po] X.env=(false,eval (.Name o po) X.env)::Ad [] X.env:=by rfl) (hpl:(backTo pos (Ad [.Name o po] X.env)).any (·.1)=false:=by rfl):SvS X L (.Assign [.Name y pos'] (.Call (.Name x p) [e1,.Name o po] [] pos) apos::rest) E:=λF σ H D m r=>by
 obtain⟨f,fd,ps,hm,hk,I,G⟩:=M'.ex;refine⟨_,zv (uz hN hj hx (xJ hk G hr hg hm I .nil zX (zh zi (zh (zT M J P g) zy T) he) R he hpl) hs hf) zC,h F σ H _ m λn v1 H1 Z t1 k1 r1=>?_⟩;have m1:=m.kz k1 t1;obtain⟨v,U,av,hS⟩:=m1.deep b _ S B;obtain⟨l,xs,rfl,_,_⟩:=av.lst_inv;have O:=m1.frzd B;obtain⟨v',s,W⟩:=O.dat b _ (get_set ⟨_,B⟩);rw[U]at s;cases s;refine⟨.ref l,U,λy' dx hy V Q=>?_⟩;have sf:∀x,Ow F (L.set b (some (.dat (.list ds)))) σ x->Ow F L σ x:=λx z=>by
  rcases z with z|⟨i,a,u,w1,w2,w3⟩
  .exact .inl z
  .rcases zA w1 with⟨_,z⟩|⟨_,z⟩
   .cases z;exact w3.elim
   .exact .inr ⟨i,a,u,z,w2,w3⟩
 have Y:AV (sub (λy=>¬Ow F (L.set b (some (.dat (.list ds)))) σ y) H1) v1 n:=r1.same (zj λx o h e=>⟨λz=>h (sf x z),e⟩);have q2:=Z.2 (.new C y' dx);refine⟨⟨H1,Ow F (L.set b (some (.dat (.list ds)))) σ,F.tp⟩,n,.list ds,v1,l,_,y',dx,H1,rfl,hy,V,Q,rfl,rfl,O.tp.to rfl λ_ z=>.inl z,λx z=>O.owEx z,Z.1,Y,W,q2,λs' H' ea qa ra=>⟨rfl,?_⟩⟩;obtain⟨a0,e1,q⟩:=qa;cases e1;obtain⟨t2,k2,_,hi,c⟩:=ra;subst ea;refine q F _ H' D ?_ r;refine m1.store (v:=.ref s'.a) (b:=.inn s') (m1.tp.re t2 rfl) k2 (λz t=>(c z t).2) ⟨rfl,hi.same (zj λa o h e=>⟨⟨λz=>?_,λz=>z.elim h.2.1 h.2.2⟩,e⟩) (λ_ _ _ e=>e),λz t=>⟨λw=>(c z t).1 (.inl (.inl w)),m1.fresh0 (c z t).2⟩⟩;rcases z with z|⟨i,a',u,w1,w2,w3⟩
 .exact h.1 (.inl (.inl z))
 .by_cases d:b=i
  .subst d;rw[B]at w1;cases w1;rw[U]at w2;cases w2;obtain⟨_,_,zs,ez⟩:=hS a w3;exact h.1 (.inr ⟨zs,ez⟩)
  .exact h.1 (.inl (.inr ⟨i,a',u,by rw[zI4 d];exact w1,w2,w3⟩))
def bA (I:rD X.prog X.w X.K X.mg X.base x k C φ)(hr:zO (k+1) X.A)(N:Gl X x)(h:EvD X L e1 λb=>EvD X L e2 λc=>noL b=true/\(∃ds,c=.list ds)/\∀u:zD,φ [.inn u,.dat b,.dat c] λa=>∃s',a=.res .none s'/\SvS X L rest E)
  (y:swapsWith (.Call (.Name x p) [e1,e2] [] pos) none apos.line X.env=pure false:=by rfl)
  (e:(x == ("__debug__":Str))=false:=by decide) (he:Ad [e1,e2] X.env=(false,eval e1 X.env)::Ad [e2] X.env:=by rfl) (g:Ad [e2] X.env=(false,eval e2 X.env)::Ad [] X.env:=by rfl) (hpl:(backTo pos (Ad [e2] X.env)).any (·.1)=false:=by rfl):SvS X L (.Expr (.Call (.Name x p) [e1,e2] [] pos) apos::rest) E:=λF σ H D m r=>by
 obtain⟨f,fd,ps,hm,hk,d,G⟩:=I.ex;refine⟨_,zv (xU (xJ hk G hr N hm d .nil zX (zh zi (zh zi zy g) he) e he hpl) y) zC,h F σ H _ m λb v1 H0 B t1 k1 t=>?_⟩;have m0:=m.kz k1 t1;refine B F σ H0 _ m0 λc v2 H1 Q v k2 s=>?_;have m1:=m0.kz k2 v;obtain⟨n1,⟨ds,rfl⟩,q⟩:=Q;obtain⟨l,xs,rfl,_,_⟩:=id s.lst_inv;intro n dx M i j;refine⟨⟨H1,Ow F L σ,F.tp⟩,b,.list ds,v1,l,_,n,dx,H1,rfl,M,i,j,rfl,rfl,m1.tp.to rfl λ_ z=>.inl z,λx z=>m1.owEx z,n1,t.same (k2.gz m0.tp),s,q (.new C n dx),λs' H' R O J=>⟨rfl,?_⟩⟩;obtain⟨P,e1,q⟩:=O;cases e1;obtain⟨t3,k3,_,_,_⟩:=J;exact q F σ H' D (m1.kz k3 (m1.tp.re t3 rfl)) r
def yf.out {F r:Fr}{σ:St}{H H':Hp}{j:Nat}{g:Aa->Prop}{d:Aa}{S:Ab->Prop}{a:Ab}(m:M F L σ H)(h:L[j]?=some (some (.exc r g)))(le:leX αh L)(f:yf ⟨H,Ow F L σ,F.tp⟩ (.ref a) H' (.deep d S)):M r (αh++[some (.deep d S)]) (σ++[some (.ref a)]) H':=by
 obtain⟨g1,g2,_⟩:=f.back m;obtain⟨_,_,g3,c⟩:=f;have m3:=m.snoc (v:=.ref a) (b:=.deep d S) (H':=H') g1 g2 (λx z=>(c x z).2.1) ⟨_,rfl,g3.same λx o e=>?_,λx z=>⟨ow0 (c x z).1,m.fresh0 (c x z).2.1,(c x z).2.2⟩⟩
 .exact m3.backS h le trivial
 .unfold ur at e ⊢;by_cases z:S x
  .rw[if_pos z]at e ⊢;exact e
  .rw[if_neg z]at e ⊢;cases q:sub (λx=>¬Ow F L σ x) H' x with
   |none=>rw[q]at e;cases e
   |some u=>
    obtain⟨w1,w2⟩:=zg q;rw[zw (p:=λx=>¬Ow F L σ x/\¬foot (some (V.ref a)) (.deep d S) x) ⟨w1,z⟩ w2];rw[q]at e;exact e
def fG {r:Fr}{q B:Aa->Prop}{j:Nat}{e:Ai}{b:List Ai}{φ:List A->(Aa->Prop)->Prop}(I:Xok X r αh q)(T:L[j]?=some (some (.exc r B)))(le:leX αh L)(O:jI X.prog X.w X.K X.mg X.base x k C φ)(hr:zO (k+1) X.A)(U:Gl X x)(h:EvA X L (e::b) λas=>∀u:zD,φ (.inn u::as) q)
  (J:swapsWith (.Call (.Name x p) (e::b) [] pos) none apos.line X.env=pure false:=by rfl)
  (g:(x == ("__debug__":Str))=false:=by decide) (he:Ad (e::b) X.env=(false,eval e X.env)::Ad b X.env:=by rfl) (hpl:(backTo pos (Ad b X.env)).any (·.1)=false:=by rfl):SvS X L (.Expr (.Call (.Name x p) (e::b) [] pos) apos::rest) E:=λF σ H D m V=>by
 obtain⟨X0,R,rfl,Y,N,Q⟩:=I.ex;obtain⟨f,fd,ps,hm,hk,c,G⟩:=O.ex;refine⟨_,zv (xU (mR N hk G hr U hm c zY g he hpl) J) zC,h F σ H _ m λas vs H1 M t1 k1 t=>?_⟩;intro y dx P i l;have m1:=m.kz k1 t1;refine⟨λv _ H'=>∃a,v=.ref a/\∃d S,q d/\yf ⟨H1,Ow F L σ,F.tp⟩ (.ref a) H' (.deep d S),λa H' z=>?_,⟨⟨H1,Ow F L σ,F.tp⟩,as,q,y,dx,vs,H1,rfl,P,i,l,rfl,rfl,m1.tp.to rfl λ_ z=>.inl z,λx z=>m1.owEx z,zS.to (F:=F) (F':=⟨H1,Ow F L σ,F.tp⟩) (λ_ _ e=>e) rfl t,M _,λd S a H' s n=>⟨a,rfl,d,S,s,n⟩⟩⟩;obtain⟨W,e,d,S,s,n⟩:=z;cases e;exact Q σ d S a H' (n.out m1 T le) s
end
def zt9 (φ:List A->(A->Prop)->Prop):Sp:=λvs H b _=>∃(F:Fr) (s:zD) (t:V) (a:A) (us:List V) (as:List A) (Q:A->Prop),vs=t::.ref s.a::us/\F.H0=s.un H/\zH F H/\(∀x,F.O0 x->∃o,H x=some o/\yU o)/\(∀x,s.at x->¬F.O0 x)/\xt (sub (λx=>¬F.O0 x/\x≠s.a/\x≠s.lp) H) H s/\qE F (sub (λx=>¬F.O0 x/\x≠s.a/\x≠s.lp) H) t a/\zS F (sub (λx=>¬F.O0 x/\x≠s.a/\x≠s.lp) H) us as/\φ (a::.inn s::as) Q/\∀a v H',Q a->yf F v H' a->b v H'
section
variable {P:Ah}{w:Ak}{K:Ae}{mg:Str->Option Ac}{base:Ao}
def zG6 {x qual:Str}{st:An}{f:Ab}{fd:Ag}{N ps:List Str}{k:Nat}{φ:List A->(A->Prop)->Prop}(G:Fun K x qual st f fd)(S:zo N ps (zd st))(y:2<=ps.length)(hlen:∀as Q,φ as Q->as.length=ps.length)
  (c:∀(cdv:Ac) (j:Ap) (outer:List Ar) (s:Af) (H:Hp) (E:XK) (as:List A) (Q:A->Prop),zO k (j.deeper (envOfC qual (zd st) s.heap.objs.size f cdv))->φ as Q->
   SvS (xi CX0 P w K mg base N qual (zd st) f cdv j outer s H E).nox (as.map some++List.replicate (N.length-as.length) none) (zJ st) {nx:=λL=>∃s',L[1]?=some (some (.inn s'))/\Q (.res .none s'),rt:=Q}):zG P w K mg base CX0 (k+1) f fd ps (zt9 φ):=by
 refine G.ok S (λvs H Q E h=>?_) (λcdv j outer s H vs C E hr h=>?_)
 .obtain⟨F,s,t,a,us,as,Q',rfl,_,_,_,_,_,_,n,d,_⟩:=h;rw[zI7,zI7,n.length];exact hlen _ _ d
 .obtain⟨F,s,t,a,us,as,Q',rfl,e,tp,o,no,hi,B,n,d,p⟩:=h
  -- the first two exchanged
  have m:=M.startI (N:=N) (λx o h=>(zg (e▸h)).2) (λx g=>by
   cases z:F.H0 x with
   |none=>rfl
   |some o=>
    obtain⟨⟨n1,n2⟩,_⟩:=zg (e▸z);rcases g with g|g;exact absurd g n1;exact absurd g n2) tp o no hi (.cons B n)
  have m2:M F ((a::A.inn s::as).map some++List.replicate (N.length-(a::A.inn s::as).length) none) (L2.start N (t::.ref s.a::us)) H:=by
   have ln:(L2.start N (.ref s.a::t::us)).length=(L2.start N (t::.ref s.a::us)).length:=rfl;refine m.reidx (λk=>if k=0 then 1 else if k=1 then 0 else k) (by rw[<-ln,<-m.len];simp) (λk b v l i=>?_) (λk u b D l i h=>?_)
   .match k with
    |0=>exact⟨l,i⟩
    |1=>exact⟨l,i⟩
    |k+2=>exact⟨l,i⟩
   .match k,u with
    |0,0=>rfl
    |1,1=>rfl
    |0,1=>simp at h
    |1,0=>simp at h
    |k+2,u+2=>simpa using h
    |0,k+2=>simp at h
    |1,k+2=>simp at h
    |k+2,0=>simp at h
    |k+2,1=>simp at h
  exact c cdv j outer _ H E _ Q' hr d F _ H _ m2 ⟨λL σ H' m ⟨s',h0,q⟩=>p _ _ _ q (yf.res m h0 .non),λa v H' r q=>p a v H' q r,λ_ _ _ _ z=>z.elim,λ_ _ _ _ z=>z.elim⟩
end
structure bo (P:Ah)(w:Ak)(K:Ae)(mg:Str->Option Ac)(base:Ao)(x:Str)(k:Nat)(φ:List A->(A->Prop)->Prop):Prop where
 ex:∃f fd ps,mg x=some (.ref f)/\PySem.W.keepIn K (.ref f)=true/\Binds K fd ps []/\zG P w K mg base CX0 k f fd ps (zt9 φ)
section
variable {X:Cx}{L:Ev}{es:List Ai}{p p1 pos:Pos}{s:zD}{QG:Aa->zD->Prop}{k:Nat}{φ:List A->(A->Prop)->Prop}{x o t:Str}
def zc6 (i i1:Nat)(hi:L[i]?=some (some (.inn s)))(h1:L[i1]?=some (some .tape))(C:bo X.prog X.w X.K X.mg X.base x k φ)(hr:zO k X.A)(hg:Gl X x)(h:EvA X L es λas=>φ (.tape::.inn s::as) λa=>∃d s',a=.res d s'/\s'.a=s.a/\s'.lp=s.lp/\QG d s')
  (U:X.N[i]?=some o:=by rfl) (S:Vis X.env.scope o:=by first|exact Or.inl rfl|exact Or.inr (Or.inl rfl)|exact Or.inr (Or.inr rfl)) (hd:(o == ("__debug__":Str))=false:=by decide) (q:(o == ("__classdict__":Str))=false:=by decide)
  (r:X.N[i1]?=some t:=by rfl) (D:Vis X.env.scope t:=by first|exact Or.inl rfl|exact Or.inr (Or.inl rfl)|exact Or.inr (Or.inr rfl)) (E:(t == ("__debug__":Str))=false:=by decide) (j:(t == ("__classdict__":Str))=false:=by decide)
  (l:(x == ("__debug__":Str))=false:=by decide) (he:Ad (.Name t p1::.Name o p::es) X.env=(false,eval (.Name t p1) X.env)::Ad (.Name o p::es) X.env:=by rfl) (n:Ad (.Name o p::es) X.env=(false,eval (.Name o p) X.env)::Ad es X.env:=by rfl) (hpl:(backTo pos (Ad (.Name o p::es) X.env)).any (·.1)=false:=by rfl) {O:Pos}:EvG X L i (.Call (.Name x O) (.Name t p1::.Name o p::es) [] pos) QG:=λF σ H R m I=>by
 obtain⟨f,fd,ps,W,Y,c3,Q⟩:=C.ex;obtain⟨tt,b,c,B,u⟩:=m.tvar i1 h1;refine⟨_,yb Q hr hg W Y c3 .nil zX (zh (zT r D E j) (zh (zT U S hd q) zY n) he) l he hpl,_,u,_,(m.inn hi).1,?_⟩;refine h F σ H _ m λas us H1 Z t1 k1 J=>?_;have m1:=m.kz k1 t1;obtain⟨hl,h0,G⟩:=m1.inn hi;obtain⟨g,_⟩:=vV m1 hi H1;show zt9 φ ((.ref tt::V.ref s.a::us)++[]) H1 R E0;rw[zJ5];refine⟨F.giv L σ H1 s,s,.ref tt,.tape,us,as,_,rfl,rfl,m1.tp.to rfl λx z=>⟨.inl z,λy=>(G x (.inl y)).1 z,λy=>(G x (.inr y)).1 z⟩,λx z=>m1.owEx z.1,λx z y=>z.elim y.2.1 y.2.2,h0.same g λ_ _ _ e=>e,⟨tt,b,c,B,rfl⟩,zS.to (F:=F) (F':=F.giv L σ H1 s) g rfl J,Z,λa v H' qa ra=>?_⟩;obtain⟨d,s',rfl,M,el,P⟩:=qa;obtain⟨T,av⟩:=ra.backI m1 hi M el;exact I d s' v H' P T av
end
section
variable {X:Cx}{L:Ev}{e ix:Ai}{pos:Pos}{rest:List An}{E:yj}
end
section
variable {X:Cx}{tg:Ai}
variable {L:Ev}{a b c:Ai}{p pos:Pos}
end
section
variable {prog:Ah}{w:Ak}{K:Type}[DecidableEq K](knd:KeyKind prog w K)
variable {knd}
end
section
variable {X:Cx}
end
section
variable {X:Cx}{L:Ev}{e a b:Ai}{p pos:Pos}{Q:Aa->Prop}
end
def zz2 :Option A->Option A
 |some .tape=>none
 |some (.exc _ _)=>none
 |a=>a
def wu (L:Ev):Ev:=L.map zz2
def dX :A->Prop
 |.tape=>False
 |.exc _ _=>False
 |_=>True
theorem wa {L:Ev}{i:Nat}{a:A}(h:(wu L)[i]?=some (some a)):L[i]?=some (some a)/\dX a:=by
 unfold wu at h;rw[zJ8,zL3]at h;obtain⟨b,d,c⟩:=h;cases b with
 |none=>cases c
 |some b=>cases b<;>cases c<;>exact⟨d,trivial⟩
theorem wt.to {G n:Hp}{F F':Fr}{H H':Hp}{s:Option V}{a:A}(p:dX a)(h:wt G F H s a)(g:zu G n)(hf:∀x o,foot s a x->H x=some o->H' x=some o/\¬F'.O0 x/\F'.H0 x=none):wt n F' H' s a:=by
 cases a with
 |dat d=>obtain⟨v,f,b⟩:=h;exact⟨v,f,b.same g⟩
 |ow c=>
  obtain⟨l,o,f,b,j,m,t⟩:=h;obtain⟨k,z2,z3⟩:=hf l o f b;exact⟨l,o,f,k,j.same g,z2,z3⟩
 |deep d S=>
  obtain⟨v,f,b,j⟩:=h;refine⟨v,f,b.same (wU g λx o z e=>(hf x o z e).1),λx z=>?_⟩;obtain⟨_,_,xs,e⟩:=j x z;obtain⟨k,z2,z3⟩:=hf x _ z e;exact⟨z2,z3,xs,k⟩
 |tape=>exact p.elim
 |«at» l=>exact h
 |exc r q=>exact p.elim
 |pin l vs ds=>exact⟨h.1,g _ _ h.2.1,h.2.2.same g⟩
 |nst l ls dss=>
  obtain⟨f,b,j,m,t⟩:=h;refine⟨f,(hf l _ zK2 b).1,j.same g λa ha o e=>(hf a o (zI6 _ ha) e).1,m,λx i=>?_⟩;rcases zI8.mp i with z|z
  .exact(hf x _ i (z▸b)).2
  .obtain⟨xs,e⟩:=j.obj x z;exact(hf x _ i e).2
 |inn u=>
  obtain⟨f,b,j⟩:=h;refine⟨f,b.same g λx o i e=>(hf x o i e).1,λx i=>?_⟩;obtain⟨o,e,_⟩:=b.obj i;exact(hf x o i e).2
 |res d u=>exact h.elim
def Tp (F:Fr)(x:Ab):Prop:=∃t b c,F.tp=some (t,b,c)/\(x=t\/x=b\/x=c)
noncomputable instance tpDec (F:Fr)(x:Ab):Decidable (Tp F x):=Classical.propDecidable _
noncomputable def Fr.row (F:Fr)(H:Hp)(l:Ab):Fr:=⟨λx=>if Tp F x then H x else F.H0 x,λx=>F.O0 x\/x=l,some (l,l,l)⟩
section
variable {F:Fr}{L α':Ev}{σ σ':St}{H H':Hp}{l:Ab}
def Tp.own (t:zH F H){x:Ab}(h:Tp F x):F.O0 x:=by
 obtain⟨a,b,c,e,z⟩:=h;obtain⟨_,f,d,g⟩:=t a b c e;rcases z with z|z|z
 .rw[z];exact f
 .rw[z];exact d
 .rw[z];exact g
theorem Tp.lst (t:zH F H){x:Ab}(h:Tp F x):∃xs,H x=some (.lst xs):=by
 obtain⟨a,b,c,e,z⟩:=h;obtain⟨n,bs,cs,n1,g,d,f,_⟩:=(t a b c e).1.ex;rcases z with z|z|z
 .rw[z];exact⟨_,g⟩
 .rw[z];exact⟨_,d⟩
 .rw[z];exact⟨_,f⟩
def Tp.noTab (t:zH F H){x:Ab}(h:Tp F x):¬sx x:=λz=>by
 obtain⟨o,e,_,n⟩:=sT t.tab z;obtain⟨xs,a⟩:=Tp.lst t h;rw[e]at a;cases a;exact n _ rfl
def lY (t:zH F H){x:Ab}(h:(F.row H l).H0 x=none):F.H0 x=none:=by
 have h':(if Tp F x then H x else F.H0 x)=none:=h;split at h'
 .rename_i q;obtain⟨xs,e⟩:=Tp.lst t q;rw[e]at h';cases h'
 .exact h'
theorem M.row {i:Nat}{x y:Int}(m:M F L σ H)(hi:L[i]?=some (some (.own [.int x,.int y])))(h0:0<=y)(G:y<4294967296):∃l,F.H0 l=none/\¬F.O0 l/\M (F.row H l) ((wu L).set i (some .tape)) σ H:=by
 obtain⟨l,xs,v,g,K,C,J⟩:=m.own i _ hi;have ex:xs=[.int x,.int y]:=by
  cases K with
  |cons a r=>
   cases r with
   |cons b r=>
    cases r;rw[a.int_inv,b.int_inv]
 subst ex;have old:∀{j:Nat} {a:A},((wu L).set i (some .tape))[j]?=some (some a)->(i=j/\a=.tape)\/(i≠j/\L[j]?=some (some a)/\dX a):=λ{j a} e=>by
  rcases zA e with⟨z,w⟩|⟨z,w⟩
  .cases w;exact .inl ⟨z,rfl⟩
  .obtain⟨w1,w2⟩:=wa w;exact .inr ⟨z,w1,w2⟩
 have ow:∀{z:Ab},Ow (F.row H l) ((wu L).set i (some .tape)) σ z->Ow F L σ z:=λ{z} h=>by
  rcases h with(h|h)|⟨j,a,s,w1,w2,w3⟩
  .exact .inl h
  .rw[h];exact .inr ⟨i,_,_,hi,v,rfl⟩
  .rcases old w1 with⟨_,q⟩|⟨_,q,_⟩
   .subst q;exact w3.elim
   .exact .inr ⟨j,a,s,q,w2,w3⟩
 have I:zu (Gz F L σ H) (Gz (F.row H l) ((wu L).set i (some .tape)) σ H):=zj λa o h e=>⟨λz=>h (ow z),e⟩;refine⟨l,J,C,?_,λj a s k d=>?_,λj E a b s t z k d O B f1 f2=>?_,λj r q e=>?_,⟨m.tp.tab,λx h=>.inl (m.tp.ot x h),λt b c e=>?_⟩,λz o e n=>?_,λz D=>?_⟩
 .rw[zK0];unfold wu;rw[zH8];exact m.len
 .rcases old k with⟨z,q⟩|⟨N,q,u⟩
  .subst z q;rw[v]at d;cases d;exact⟨l,l,l,rfl,rfl⟩
  .refine(m.ok j a s q d).to u I λx o f e=>?_;obtain⟨g1,g2,_⟩:=m.ft q d f;refine⟨e,λz=>z.elim g1 λz=>N (m.dj i j _ _ _ _ x hi q v d (by rw[z];exact rfl) f),?_⟩;show(if Tp F x then H x else F.H0 x)=none;rw[if_neg λz=>g1 (Tp.own m.tp z)];exact g2
 .rcases old k with⟨_,q⟩|⟨_,w1,_⟩
  .subst q;exact f1.elim
  .rcases old d with⟨_,q⟩|⟨_,w2,_⟩
   .subst q;exact f2.elim
   .exact m.dj j E a b s t z w1 w2 O B f1 f2
 .rcases old e with⟨_,q⟩|⟨_,_,u⟩
  .cases q
  .exact u.elim
 .cases e;exact⟨⟨0,[x,y],[x,y],⟨rfl,rfl⟩,g,g,g,⟨x,y,rfl,h0,G⟩,rfl⟩,.inr rfl,.inr rfl,.inr rfl⟩
 .have p:(if Tp F z then H z else F.H0 z)=some o:=e;split at p
  .exact p
  .rename_i q;exact m.keep z o p ⟨λt b c w=>⟨λy=>q ⟨t,b,c,w,.inl y⟩,λy=>q ⟨t,b,c,w,.inr (.inl y)⟩⟩,n.2⟩
 .rcases D with z|z
  .exact m.oex _ z
  .exact⟨_,by rw[z];exact g,yg⟩
def zH.unrow (t:zH F H)(o:¬F.O0 l)(g:TabAt H')(k:Kz (F.row H l) (F.row H l).H0 H'):zH F H':=⟨g,t.ot,λa b c e=>by
 obtain⟨h,f,i,m⟩:=t a b c e;refine⟨h.off λz n=>?_,f,i,m⟩;have tz:Tp F z:=⟨a,b,c,e,n⟩;have j:F.O0 z:=Tp.own t tz;have nl:z≠l:=λq=>o (by rw[<-q];exact j);obtain⟨xs,d⟩:=Tp.lst t tz;rw[d];refine k z _ ?_ ⟨λt' p r w=>by cases w;exact⟨nl,nl⟩,Tp.noTab t tz⟩;show(if Tp F z then H z else F.H0 z)=some _;rw[if_pos tz];exact d⟩
def Kz.unrow (m:M F L σ H)(h0:F.H0 l=none)(k:Kz (F.row H l) (F.row H l).H0 H'):Kz F F.H0 H':=λx o e n=>by
 have nl:x≠l:=λq=>by rw[q,h0]at e;cases e
 refine k x o ?_ ⟨λt' a b w=>by cases w;exact⟨nl,nl⟩,n.2⟩;show(if Tp F x then H x else F.H0 x)=some o;split
 .exact m.keep x o e n
 .exact e
theorem M.unrow (m:M F L σ H)(h0:F.H0 l=none)(u:¬F.O0 l)(c:M (F.row H l) α' σ' H'):M F (wu α') σ' H':=by
 have ow:∀{z:Ab},Ow F (wu α') σ' z->Ow (F.row H l) α' σ' z:=λ{z} h=>by
  rcases h with h|⟨j,a,s,w1,w2,w3⟩
  .exact .inl (.inl h)
  .exact .inr ⟨j,a,s,(wa w1).1,w2,w3⟩
 have k:zu (Gz (F.row H l) α' σ' H') (Gz F (wu α') σ' H'):=zj λa o h e=>⟨λz=>h (ow z),e⟩;refine⟨?_,λj a s g d=>?_,λj i a b s t z g d=>c.dj j i a b s t z (wa g).1 (wa d).1,λj r q e=>?_,m.tp.unrow u c.tp.tab c.keep,Kz.unrow m h0 c.keep,λz p=>c.oex z (.inl p)⟩
 .unfold wu;rw[zH8];exact c.len
 .obtain⟨w1,n⟩:=wa g;refine(c.ok j a s w1 d).to n k λx o f e=>?_;obtain⟨g1,g2,_⟩:=c.ft w1 d f;exact⟨e,λz=>g1 (.inl z),lY m.tp g2⟩
 .exact(wa e).2.elim
theorem yf.unrow {v:V}{a:A}(m:M F L σ H)(h0:F.H0 l=none)(b:¬F.O0 l)(r:yf (F.row H l) v H' a):yf F v H' a:=by
 obtain⟨t,k,r⟩:=r;exact⟨m.tp.unrow b t.tab k,Kz.unrow m h0 k,r.to (λ_ z=>.inl z) λx z=>lY m.tp z⟩
end
section
variable {X:Cx}{L:Ev}{E:yj}{sts rest body:List An}{tg iter:Ai}{pos:Pos}
def zu0 (i:Nat){x y:Int}(hi:L[i]?=some (some (.own [.int x,.int y])))(h0:0<=y)(j:y<4294967296)
  (h:SvS X ((wu L).set i (some .tape)) sts {nx:=λb=>E.nx (wu b),rt:=E.rt,bk:=λb=>E.bk (wu b),ct:=λb=>E.ct (wu b)}):SvS X L sts E:=λF σ H D m r=>by
 obtain⟨l,e,f,g⟩:=m.row hi h0 j;refine h _ σ H D g ⟨λb d H' c q=>r.nx _ _ _ (m.unrow e f c) q,λa v H' z q=>r.rt a v H' (z.unrow m e f) q,λb d H' c q=>r.bk _ _ _ (m.unrow e f c) q,λb d H' c q=>r.ct _ _ _ (m.unrow e f c) q⟩
def zu1 {pat:Pat}{F:Fr}{σ:St}{H:Hp}{D:Ends}(hp:PassesOwn (Am X.prog X.w) X.A X.env X.xe)(P:X.calm=true)(S:PG X tg (vF X.K pat))(m:M F L σ H)(r:sE F E D)
  (h:∀R:It->Hp->Prop,(∀ds J H',vN X pat body rest E ds L->zH F H'->Kz F H H'->ItW (λx=>¬Ow F L σ x) J ds (Gz F L σ H')->R J H')->ia X tg iter σ H R)
  (I:∀x,foldedSetIterable iter X.env x=pure x):uU X (.For tg iter body [] pos::rest) D σ H:=by
 refine⟨_,zv (jh hp P xW S zC I) zC,?_⟩;refine h _ λds J H1 N t1 k1 p=>?_;have m1:=m.kz k1 t1;have O:=m1.up;have v:sE (F.up (Gz F L σ H1)) E D:=r.up;refine⟨λi n f H'=>n=ds.length-i/\i<=ds.length/\∃b,M (F.up (Gz F L σ H1)) b f H'/\vN X pat body rest E (ds.drop i) b,⟨ds.length,by simp,zK6 _,L,O,N⟩,?_⟩;rintro i n f H' ⟨rfl,hi,b,g,lw⟩;obtain⟨w1,w2⟩:=p i H' _ (m1.upold g);by_cases c:i<ds.length
 .have hd:ds[i]?=some ds[i]:=zI5 c;rw[zM7 c]at lw;obtain⟨Q,G,body⟩:=lw;obtain⟨go,C⟩:=w1 _ hd;refine .inr ⟨go,λd j=>∃b,M (F.up (Gz F L σ H1)) b d j/\vN X pat _ rest E (ds.drop (i+1)) b,λd j ⟨k,B,T⟩=>⟨ds.length-(i+1),(om0 c),rfl,c,k,B,T⟩,λx z y=>?_⟩;obtain⟨l,t⟩:=C x z y;have m3:=g.kz (Kz.of_same l) (g.tp.same l);refine vb G m3 (t λa o _ e=>g.fresh e) λs m4=>?_;exact body _ s z _ m4 ⟨λα2 σ2 u m2 q=>⟨α2,m2,q⟩,v.rt,λα2 σ2 u m2 q=>q _ σ2 u D m2 v,λα2 σ2 u m2 q=>⟨α2,m2,q⟩⟩
 .have e:i=ds.length:=(zR9 hi (zQ7 c));subst e;rw[zP5]at lw;exact .inl ⟨w2 (zI3 _),lw _ f H' D g v⟩
end
section
variable {P:Ah}{w:Ak}{K:Ae}{mg:Str->Option Ac}{base:Ao}
def fr0 (H:Hp):Fr:=⟨H,sx,none⟩
def M.zero {H:Hp}{σ:St}{n:Nat}(d:TabAt H)(k:n=σ.length):M (fr0 H) (List.replicate n none) σ H:=by
 have no:∀(i:Nat) a,(List.replicate n (none:Option A))[i]?≠some (some a):=λi a z=>by
  rw[zM3]at z;split at z<;>cases z
 exact⟨by rw[zL5];exact k,λi a s e=>absurd e (no i _),λi j a b s t l e=>absurd e (no i _),λi r q e=>absurd e (no i _),⟨d,λ_ h=>h,λt b c e=>by (cases e)⟩,λ_ _ e _=>e,λx f=>by
  obtain⟨o,g,hn,_⟩:=sT d f;exact⟨o,g,hn⟩⟩
def SqL.same {H H':Hp}{a:Ab}{xs:List V}(h:SqL K H a xs)(s:zu H H'):SqL K H' a xs:=by
 rcases h with(h|⟨o,h⟩)|h
 .exact .inl (.inl (s _ _ h))
 .exact .inl (.inr ⟨o,s _ _ h⟩)
 .exact .inr h
def zF2 {st:An}{f:Ab}{fd:Ag}{m:List Str}{k:Nat}{x:Str}{pt:Pos}{p0 p1 U p3 T p5 p6 p7:Pos}{Y n1:Nat}{B:Int}{body rest:List An}{j:Nat}(G:Fun K "law" "law" st f fd)(S:zo ("_law_script"::m) ["_law_script"] (zd st))
  (hb:zJ st=.For (.Name x pt) (.BinOp (.List [.Constant (.int 0) Y p0] p1) .Add (.Subscript (.Name "_law_script" U) (.Slice none (some (.Constant (.int B) n1 p3)) none T) p5) p6) body [] p7::rest)
  (hv:Vis (zd st) "_law_script") (hj:(("_law_script":Str)::m)[j]?=some x) (p:Loc (zd st) x)
  (n:∀(cdv:Ac) (u:Ap) (outer:List Ar) (s:Af) (H:Hp) (E:XK) (zs:List Int),zO k (u.deeper (envOfC "law" (zd st) s.heap.objs.size f cdv))->zs.length<=64->
   vN (xi CX0 P w K mg base ("_law_script"::m) "law" (zd st) f cdv u outer s H E).nox (.one j) body rest {nx:=λ_=>False,rt:=λa=>a=.dat (.bool true)} (zs.map .int) (List.replicate (m.length+1) none)):
  zG P w K mg base CX0 (k+1) f fd ["_law_script"] (lH K):=by
 refine G.ok S (λvs H Q E h=>?_) (λcdv u outer s H vs Qc E hr h=>?_)
 .obtain⟨a,ns,rfl,_⟩:=h;rfl
 .obtain⟨a,ns,rfl,hS,hn,C,kq⟩:=h;rw[hb];have J:M (fr0 H) (List.replicate (m.length+1) none) (L2.start ("_law_script"::m) [.ref a]) H:=M.zero C (by unfold L2.start;simp);have t:∀{g:Ab},¬sx g->¬Ow (fr0 H) (List.replicate (m.length+1) none) (L2.start ("_law_script"::m) [.ref a]) g:=λ{g} hn=>by
   rintro(z|⟨i,ds,s,D,e2,_⟩)
   .exact hn z
   .rw[zM3]at D;split at D<;>cases D
  refine zu1 (E:={nx:=λ_=>False,rt:=λa=>a=.dat (.bool true)}) (pat:=.one j) zQ1 rfl (zQ (i:=j) S.nd hj p) J ⟨λ_ _ _ _ z=>z.elim,λz v H' r e=>?_,λ_ _ _ _ z=>z.elim,λ_ _ _ _ z=>z.elim⟩ (λR hR=>?_) (λ_=>rfl)
  .cases e;obtain⟨_,_,r⟩:=r;rw[AV.bl_inv r];exact kq H'
  .refine⟨_,oa (xA aA (oB (zh zN zy)) (rA iJ (zT (i:=0) rfl hv) gP (gZ zN))),?_⟩;obtain⟨ms,em,lm⟩:=aH ns none (some B);refine⟨(by show 1<=sizeLine;decide),λl1 q=>⟨_,rfl,B,rfl,a,ns.map V.int,rfl,SqL.same hS (zV q),λl2 c=>?_⟩⟩;rw[em]at *;have o:l1≠l2:=λz=>by rw[<-z,zk]at c;cases c
   have I:H l2=none:=by rw[zm o.symm]at c;exact c
   refine⟨l1,l2,[.int 0],ms.map V.int,rfl,rfl,by rw[zm o];exact zk,zk,by rw[zH8];exact zM5 (yx (by simp;lia)),λg b=>?_⟩;have Z:([V.int 0]++ms.map V.int)=((0::ms).map V.int):=rfl;rw[Z];have s3:zu H (upd (upd (upd H l1 (.lst [.int 0])) l2 (.lst (ms.map V.int))) g (.lst ((0::ms).map V.int))):=((zV q).trans (zV c)).trans (zV b);have l:H g=none:=by
    have A:g≠l2:=λz=>by rw[z,zk]at b;cases b
    have F:g≠l1:=λz=>by rw[z,zm o,zk]at b;cases b
    rw[zm A,zm F]at b;exact b
   refine⟨g,rfl,⟨_,SqL.of zk⟩,hR ((0::ms).map .int) _ _ (n cdv u outer s H E (0::ms) hr (by simp;exact zJ1 lm hn)) (J.tp.same s3) (Kz.of_same s3) λi H2 p' O=>⟨λd hd=>?_,λL=>?_⟩⟩
   .have ha:=SqL.of (K:=K) (zg (O g _ (zw (t (wy C l)) zk))).2;obtain⟨v,p,av⟩:=(mj (G:=H) (0::ms)).get hd;refine⟨⟨_,v,ha,p⟩,λx' H3 y=>?_⟩;obtain⟨e,y⟩:=y;subst e;have:=y _ ha;rw[p]at this;cases this;rw[zJ8,zL3]at hd p;obtain⟨z1,X,rfl⟩:=hd;obtain⟨z2,N,rfl⟩:=p;rw[X]at N;cases N;exact⟨zu.refl _,λ_=>.int _⟩
   .exact⟨_,SqL.of (zg (O g _ (zw (t (wy C l)) zk))).2,by rw[zH8]at L ⊢;exact L⟩
end
section
variable {X:Cx}{L:Ev}{p pos ap:Pos}{a b c:Ai}{Q:Aa->Prop}
end
section
variable {X:Cx}{L:Ev}{E:yj}{rest:List An}{tg iter:Ai}{pos:Pos}
end
section
variable {X:Cx}{L:Ev}{a b e tg:Ai}{p pos apos:Pos}{Q:Aa->Prop}
def kY (n:sY b)(h:EvD X L a λx=>EvD X L b λy=>∃z i c,x=.str z/\y=.int i/\z.length<=sizeLine/\atI z.cps.toList i=some c/\Q (.str ⟨#[c]⟩)):EvD X L (.Subscript a b pos) Q:=λF σ H R m k=>by
 refine⟨_,yJ aD zi zi n,?_⟩;refine h F σ H _ m λx u H1 s t1 k1 d=>?_;have m1:=m.kz k1 t1;refine s F σ H1 _ m1 λy t j r f k2 o=>?_;obtain⟨z,i,c,rfl,rfl,l,g,q⟩:=r;cases d.str_inv;cases o.int_inv;exact⟨z,i,c,rfl,rfl,l,g,k _ _ j q f (k1.trans k2) (.str _)⟩
theorem qQ :∀{ts:List Str}{us:List Ac},Vals (ts.map .str) us->∃l:List (Str×Tok),us=strValues l/\l.map (·.1)=ts
 |[],_,.nil=>⟨[],rfl,rfl⟩
 |x::r,_,.cons h q=>by
  obtain⟨t,rfl⟩:=h;obtain⟨l,rfl,rfl⟩:=qQ q;exact⟨(x,t)::l,rfl,rfl⟩
theorem AVs.strs {H:Hp}:∀{xs:List V}{ts:List Str},AVs H xs (ts.map .str)->xs=ts.map V.str
 |_,[],.nil=>rfl
 |_,b::bs,.cons h r=>by rw[h.str_inv,AVs.strs r];rfl
def zi9 :MtM X "str.join" (λx xs H Q=>∃i l ts,x=.str i/\xs=[.ref l]/\SqL X.K H l (ts.map .str)/\JoinOk i ts=true/\Q (.str (Txt.join i ts)) H):=by
 intro pins s σ H x xs v us Q I m n h;obtain⟨i,l,ts,rfl,rfl,d,j,q⟩:=h;obtain⟨t,rfl⟩:=m;obtain⟨u,rfl,c⟩:=vals1 n;cases c;obtain⟨f,g,pl,r⟩:=I.list d;obtain⟨o,rfl,e⟩:=qQ g;exact SC.join pl.isList e j λt' k=>⟨.str _,H,I.tok _,⟨_,rfl⟩,q⟩
def gq (h:EvD X L a λx=>∃i,x=.str i/\EvD X L e λy=>∃ts,y=.list (ts.map .str)/\JoinOk i ts=true/\Q (.str (Txt.join i ts)))(c:attributeBase a "join" X.env (eval a X.env)=eval a X.env:=by rfl)(d:(apos.endLine == pos.line)=true:=by rfl)
  (he:Ad [e] X.env=(false,eval e X.env)::Ad [] X.env:=by rfl) (f:((backTo pos (Ad (e::[]) X.env)).all (λx=>!x.1)&&(backToKw pos (keywordEach [] X.env)).all (λx=>x.1.isSome)
   &&decide ((e::[]).length+([]:List Keyword).length+(if([]:List Keyword).isEmpty then 0 else 1)<30))=true:=by rfl):EvD X L (.Call (.Attribute a "join" apos) [e] [] pos) Q:=λF σ H R m k=>by
 refine⟨_,sr PySem.F.plainAttrs_str PySem.F.slot_str_join PySem.F.type_str_join zi9 zi (zh zi zy he) c f d he rfl,?_⟩;refine h F σ H _ m λx z H1 g t1 k1 n=>?_;have m1:=m.kz k1 t1;obtain⟨i,rfl,g⟩:=g;cases n.str_inv;refine⟨rfl,?_⟩;refine g F σ H1 _ m1 λy w s v o k2 u=>?_;obtain⟨ts,rfl,t,q⟩:=v;obtain⟨l,xs,rfl,r,j⟩:=u.lst_inv;cases j.strs;exact⟨i,l,ts,rfl,rfl,SqL.of (zg r).2,t,k _ _ s q o (k1.trans k2) (.str _)⟩
end
section
variable {X:Cx}{L:Ev}{a b e:Ai}{rest:List Ai}{p pos apos:Pos}{Q:Aa->Prop}
end
section
variable {prog:Ah}{w:Ak}{E:Ac->Af->Prop}{s:Af}
end
section
variable {X:Cx}{L:Ev}{elts:List Ai}{kk:Nat}{tp p pos:Pos}{a b:Ai}
end
section
variable {X:Cx}{L:Ev}{a b e:Ai}{p pos apos:Pos}{Q:Aa->Prop}
end
section
variable {prog:Ah}{w:Ak}{A:Ap}{E:Ac->Af->Prop}{s:Af}
end
section
variable {X:Cx}{L:Ev}{e:Ai}{es:List Ai}{kk:Nat}{p pos:Pos}{sts:List An}{E:yj}
end
section
variable {X:Cx}{L:Ev}{a:Ai}{p pos:Pos}{Q:Aa->Prop}
theorem mU {v:Ac}{o:Option Int}(h:IsPart v o):∃l:Option (Int×Tok),v=partValue l/\l.map (·.1)=o:=by
 cases h with
 |none=>exact⟨none,rfl,rfl⟩
 |int i t=>exact⟨some (i,t),rfl,rfl⟩
def zv0 :SlR X (λx lo hi H Q=>∃z,x=.str z/\z.length<=sizeLine/\Q (.str (Txt.slice z lo hi)) H):=by
 intro pins s σ H x v f e lo hi sl Q I d c pl pu h;obtain⟨z,rfl,b,q⟩:=h;obtain⟨t,rfl⟩:=d;obtain⟨l,rfl,rfl⟩:=mU pl;obtain⟨u,rfl,rfl⟩:=mU pu;exact⟨"str",_,F.slot_str_getitem.lookup,typeIs_str _ _ _,wpAny_getItem_str_slice (l:=l) (u:=u) (st:=none) c rfl (post_val_or_str ⟨zJ1 (zV7 z _ _) b,λt' k=>⟨.str _,H,I.tok _,⟨_,rfl⟩,q⟩⟩)⟩
def kQ {lo hi:Option Ai}(h:EvD X L a λx=>EvO X L lo λl=>EvO X L hi λu=>∃z,x=.str z/\z.length<=sizeLine/\Q (.str (Txt.slice z l u))):EvD X L (.Subscript a (.Slice lo hi none p) pos) Q:=λF σ H R m k=>by
 refine⟨_,rA zv0 zi sR sR,?_⟩;refine h F σ H _ m λx j H1 i t1 k1 b=>?_;have m1:=m.kz k1 t1;refine i F σ H1 _ m1 λl d g c k2=>?_;have m2:=m1.kz k2 c;refine g F σ d _ m2 λu n e t3 k3=>?_;obtain⟨z,rfl,f,q⟩:=e;cases b.str_inv;exact⟨z,rfl,f,k _ _ _ q t3 ((k1.trans k2).trans k3) (.str _)⟩
end
def isBoolOf (k:Bool):Ac->Bool
 |.bool b=>b == k
 |_=>false
section
variable {X:Cx}{L:Ev}{Q:Aa->Prop}{a b:Ai}{pos:Pos}
def gU {n:Nat}(h:n<=sizeLine):(n:Int)<2 ^ 63-1:=by rw[zO4]at h;omega
def zh8 :MtM X "list.index" (λx xs H Q=>∃(l:Ab) (ts:List Str) (k:Str) (j:Nat),x=.ref l/\xs=[.str k]/\H l=some (.lst (ts.map V.str))/\ts[j]?=some k/\(∀i<j,ts[i]?≠some k)/\Q (.int (j:Nat)) H):=by
 intro pins s σ H x xs v us Q I E G h;obtain⟨l,ts,k,j,rfl,rfl,N,C,p,q⟩:=h;cases E;obtain⟨u,rfl,M⟩:=G.one;obtain⟨t,rfl⟩:=M;obtain⟨z,c,n,r,B,e⟩:=I.lstM N;have at':∀(i:Nat) (w:Str),ts[i]?=some w->∃t',c[i]?=some (.str w t'):=λi w hw=>by
  obtain⟨O,d,D⟩:=r.get (show(ts.map V.str)[i]?=some (.str w) by rw[zJ8,hw];rfl);obtain⟨t',rfl⟩:=D;exact⟨t',d⟩
 have f:ts.length=c.length:=by rw[<-B,zH8]
 have lt:j<c.length:=by rw[<-f];exact(zH9.mp C).1
 have all:∀w∈c,∃i y t',ts[i]?=some y/\c[i]?=some w/\w=.str y t':=λw hw=>by
  obtain⟨i,hi⟩:=zU9.mp hw;have g:i<ts.length:=by rw[f];exact(zH9.mp hi).1
  obtain⟨t',d⟩:=at' i _ (zI5 g);rw[hi]at d;exact⟨i,_,t',zI5 g,hi,zL2 d⟩
 refine zT9 zR6 ⟨_,e,rfl⟩ PySem.F.entry_list_index (PySem.F.args_list_index_2 _ _)
  (MeetsSeq.list_index l c.toArray n (.str k t) (isStrOf k) (λy J=>?_) j (by simpa using lt) (gU (by rw[B]at z;omega)) ?_ λm hm A=>?_) ⟨e,⟨.int _,H,I.tok _,⟨_,rfl⟩,q⟩⟩
 .obtain⟨i,K,t',_,_,rfl⟩:=all y (by simpa using J);exact eqGives_str K k t' t
 .obtain⟨t',d⟩:=at' j k C;have:c[j]=.str k t':=(zH9.mp d).2;simp[this,isStrOf]
 .have o:m<ts.length:=by rw[f];simpa using hm
  obtain⟨t',d⟩:=at' m _ (zI5 o);have:c[m]'(by simpa using hm)=.str ts[m] t':=(zH9.mp d).2;have ne:ts[m]≠k:=λz=>p m A (by rw[zI5 o,z]);simp[this,isStrOf,ne]
def zj0 :MtM X "list.index" (λx xs H Q=>∃(l:Ab) (ts:List Bool) (k:Bool) (j:Nat),x=.ref l/\xs=[.bl k]/\H l=some (.lst (ts.map V.bl))/\ts[j]?=some k/\(∀i<j,ts[i]?≠some k)/\Q (.int (j:Nat)) H):=by
 intro pins s σ H x xs v us Q I D E h;obtain⟨l,ts,k,j,rfl,rfl,J,B,p,q⟩:=h;cases D;obtain⟨u,rfl,G⟩:=E.one;cases G;obtain⟨z,c,n,r,A,e⟩:=I.lstM J;have at':∀(i:Nat) (w:Bool),ts[i]?=some w->c[i]?=some (.bool w):=λi w hw=>by
  obtain⟨K,g,C⟩:=r.get (show(ts.map V.bl)[i]?=some (.bl w) by rw[zJ8,hw];rfl);cases C;exact g
 have d:ts.length=c.length:=by rw[<-A,zH8]
 have lt:j<c.length:=by rw[<-d];exact(zH9.mp B).1
 have all:∀w∈c,∃y,w=.bool y:=λw hw=>by
  obtain⟨i,hi⟩:=zU9.mp hw;have o:i<ts.length:=by rw[d];exact(zH9.mp hi).1
  have g:=at' i _ (zI5 o);rw[hi]at g;exact⟨_,zL2 g⟩
 refine zT9 zR6 ⟨_,e,rfl⟩ PySem.F.entry_list_index (PySem.F.args_list_index_2 _ _)
  (SeqAt.list_indexAt l c.toArray n none #[] (.bool k) (isBoolOf k) j (by simpa using lt) (gU (by rw[A]at z;omega)) ?_ λm hm t=>?_) ⟨e,λw hw=>?_,⟨.int _,H,I.tok _,⟨_,rfl⟩,q⟩⟩
 .have:c[j]=.bool k:=(zH9.mp (at' j k B)).2;simp[this,isBoolOf]
 .have f:m<ts.length:=by rw[d];simpa using hm
  have:c[m]'(by simpa using hm)=.bool ts[m]:=(zH9.mp (at' m _ (zI5 f))).2;have ne:ts[m]≠k:=λz=>p m t (by rw[zI5 f,z]);simp[this,isBoolOf,ne]
 .obtain⟨y,rfl⟩:=all w (by simpa using hw);exact SeqAt.EqAt.bool_bool y k
def zd5 {apos:Pos}(h:EvD X L a λx=>∃ts:List Str,x=.list (ts.map .str)/\EvD X L b λy=>∃(k:Str) (j:Nat),y=.str k/\ts[j]?=some k/\(∀i<j,ts[i]?≠some k)/\Q (.int (j:Nat)))
  (d:attributeBase a "index" X.env (eval a X.env)=eval a X.env:=by rfl) (g:Ad [b] X.env=(false,eval b X.env)::Ad [] X.env:=by rfl)
  (hpl:((((backTo pos (Ad [b] X.env)).all λx=>!x.fst)&&(backToKw pos (keywordEach [] X.env)).all λx=>x.fst.isSome)&&decide (([b].length+([]:List Keyword).length+if([]:List Keyword).isEmpty=true then 0 else 1)<30))=true:=by rfl)
  (c:(apos.endLine == pos.line)=true:=by rfl):EvD X L (.Call (.Attribute a "index" apos) [b] [] pos) Q:=λF σ H R m k=>by
 refine⟨_,sr zN2 zR6 PySem.F.type_list_index zh8 zi (zh zi zy g) d hpl c g,?_⟩;refine h F σ H _ m λx v H1 f t1 k1 o=>?_;obtain⟨ts,rfl,f⟩:=f;obtain⟨l,xs,rfl,g1,g2⟩:=o.lst_inv;refine⟨.inl ⟨rfl,_,SqL.of (zg g1).2⟩,?_⟩;have m1:=m.kz k1 t1;refine f F σ H1 _ m1 λy w r u p k2 t=>?_;obtain⟨n,j,rfl,s,e,q⟩:=u;cases t.str_inv;rw[g2.strs]at g1;exact⟨l,ts,n,j,rfl,rfl,(zg (k2.gz m1.tp _ _ g1)).2,s,e,k _ _ r q p (k1.trans k2) (.int _)⟩
def zh2 {apos:Pos}(h:EvD X L a λx=>∃ts:List Bool,x=.list (ts.map .bool)/\EvD X L b λy=>∃(k:Bool) (j:Nat),y=.bool k/\ts[j]?=some k/\(∀i<j,ts[i]?≠some k)/\Q (.int (j:Nat)))
  (d:attributeBase a "index" X.env (eval a X.env)=eval a X.env:=by rfl) (g:Ad [b] X.env=(false,eval b X.env)::Ad [] X.env:=by rfl)
  (hpl:((((backTo pos (Ad [b] X.env)).all λx=>!x.fst)&&(backToKw pos (keywordEach [] X.env)).all λx=>x.fst.isSome)&&decide (([b].length+([]:List Keyword).length+if([]:List Keyword).isEmpty=true then 0 else 1)<30))=true:=by rfl)
  (c:(apos.endLine == pos.line)=true:=by rfl):EvD X L (.Call (.Attribute a "index" apos) [b] [] pos) Q:=λF σ H R m k=>by
 refine⟨_,sr zN2 zR6 PySem.F.type_list_index zj0 zi (zh zi zy g) d hpl c g,?_⟩;refine h F σ H _ m λx v H1 f t1 k1 o=>?_;obtain⟨ts,rfl,f⟩:=f;obtain⟨l,xs,rfl,g1,g2⟩:=o.lst_inv;refine⟨.inl ⟨rfl,_,SqL.of (zg g1).2⟩,?_⟩;have m1:=m.kz k1 t1;refine f F σ H1 _ m1 λy w r u p k2 t=>?_;obtain⟨n,j,rfl,s,e,q⟩:=u;cases t.bl_inv;cases g2.bools;exact⟨l,ts,n,j,rfl,rfl,(zg (k2.gz m1.tp _ _ g1)).2,s,e,k _ _ r q p (k1.trans k2) (.int _)⟩
end
def zo.o {N P:List Str}{sc:Aq}(e:sc.kind=.function:=by rfl)(a:sc.isCoroutine=false:=by rfl)(g:sc.isGenerator=false:=by rfl)(c:N.Nodup:=by decide +kernel)(d:N.take P.length=P:=by rfl)(f:∀x∈P,sc.names.lookup x=some .local\/sc.names.lookup x=some .cell:=by decide +kernel)(b:∀y∈sc.names,y.2≠.free:=by decide +kernel):zo N P sc:=⟨e,a,g,c,d,f,b⟩
abbrev Ph :=List A->(A->Prop)->Prop
section
variable {P:Ah}{w:Ak}{K:Ae}{mg:Str->Option Ac}{base:Ao}
end
section
variable {X:Cx}{L:Ev}{e:Ai}{Q:Aa->Prop}{pos:Pos}
def ki {a b:Ai}{g i:TE}(ha:PE X a g)(p:PE X b i):PE X (.JoinedStr [a,b] pos) (tJ g λx=>tJ i λy=>λ_ H Q=>Q (.str (Str.empty++x++y)) H):=by
 intro pins s σ H Q I h;refine PyProof.Rows.JoinedStr_many (zU0 (thn (ha pins s σ H _ I h) λu s1 c=>?_));obtain⟨x,H1,v,l,f,ex,B,n⟩:=c;subst ex;obtain⟨t1,rfl⟩:=(show ∃t,u=Value.str f t from l);have z:Str.empty.length=0:=rfl;refine⟨by rw[zM2,zO4];omega,zU0 (thn (p pins s1 σ H1 _ v n) λu s2 ⟨y,o,k,r,d,q,A,m⟩=>?_)⟩;subst q;obtain⟨w,rfl⟩:=(show ∃t,u=Value.str d t from r);have j:(Str.empty++f++d).length<=sizeLine:=by rw[zM2,zM2,zO4];omega
 exact⟨j,joinParts_nil ⟨.str (Str.empty++f++d),o,k.tok _,⟨_,rfl⟩,m⟩ j⟩
def ze9 {c:TE}(he:PE X e c):PE X (.FormattedValue e (-1) none pos) (λσ H Q=>c σ H λx H1=>∃z:Str,x=.str z/\z.length<=10000/\Q (.str z) H1):=by
 intro pins s σ H Q I h;refine FormattedValue_plain (thn (he pins s σ H _ I h) λu s1 b=>?_);obtain⟨x,H1,a,d,z,ex,g,q⟩:=b;subst ex;obtain⟨t,rfl⟩:=(show ∃t,u=Value.str z t from d);exact formatField_str (λt' f=>⟨.str z,H1,⟨a.ok,a.os,a.bare,a.base,a.loc,a.cell,a.free,a.freeC,a.pin,a.hok,a.len⟩,⟨_,rfl⟩,q⟩) (by rw[zO4];omega)
def cW {a:Str}{j:Nat}{f l b:Pos}(g:a.length<=10000)(h:EvD X L e λd=>∃i:Int,d=.int i/\i.natAbs.log2<1920/\∀t:Str,Q (.str t)):EvD X L (.JoinedStr [.Constant (.str a) j f,.FormattedValue e (-1) none l] b) Q:=λF σ H R m k=>by
 refine⟨_,ki yi (jV zi),?_⟩;refine⟨a,rfl,g,?_⟩;refine h F σ H _ m λd v H1 n t1 k1 c=>?_;obtain⟨i,rfl,hi,q⟩:=n;cases c.int_inv;exact⟨i,rfl,hi,_,rfl,ni hi,k _ _ H1 (q _) t1 k1 (.str _)⟩
def eB {a:Str}{j:Nat}{g l f:Pos}(i:a.length<=10000)(h:EvD X L e λd=>∃z:Str,d=.str z/\z.length<=10000/\∀t:Str,Q (.str t)):EvD X L (.JoinedStr [.Constant (.str a) j g,.FormattedValue e (-1) none l] f) Q:=λF σ H R m k=>by
 refine⟨_,ki yi (ze9 zi),?_⟩;refine⟨a,rfl,i,?_⟩;refine h F σ H _ m λd v H1 n t1 k1 c=>?_;obtain⟨z,rfl,b,q⟩:=n;cases c.str_inv;exact⟨z,rfl,b,z,rfl,b,k _ _ H1 (q _) t1 k1 (.str _)⟩
end
structure zk4 (h:Ao)(n:Nat)(l1 l2:Ab):Prop where
 z:IsZip h (n+4) (n+2) (n+3) .none
 ti:IsPair h (n+2) (.ref n) (.ref (n+1))
 to:IsPair h (n+3) .none .none
 i1:h.IsListIter n l1 0
 i2:h.IsListIter (n+1) l2 0
 g1:h.IsList l1 #[]
 g2:h.IsList l2 #[]
abbrev z2 (n:Nat):List Ab:=[n+4,n+3,n,n+1]
section
variable {X:Cx}{pins:List (Ab×Obj)}{σ:St}{H:Hp}{s:Af}
def fL {prog:Ah}{w:Ak}{A:Ap}{R:Result->Af->Prop}{n l1 l2:Nat}{S:Ab}(g:A.handled=none)(f:l1<n)(d:l2<n)(Z:zk4 s.heap n l1 l2)
  (h:∀h',(∀c o,c∉z2 n->s.heap.get? c=some o->h'.get? c=some o)->R (.ok (.ret .none)) {s with heap:=h'}):
  codeAny (Am prog w) A (.builtin "list.extend.loop" ⟨[.ref S,.ref (n+4:Nat),.none],[]⟩) R s:=by
 refine codeAny_builtin PySem.F.entry_extend_loop ?_;rw[Around.under_plainId zT1 _];refine zI0 (wpAny_pyNext_zip_end g (zipApart_new f d) Z.z Z.ti Z.to Z.i1 Z.i2 Z.g1 Z.g2 (.inl rfl) λh' b=>?_);exact zJ3 (h _ λc o a e=>b c o (λx=>a (by simp[x])) (λx=>a (by simp[x])) (λx=>a (by simp[x])) (λx=>a (by simp[x])) e)
def eQ {A:Ap}{R:Result->Af->Prop}{n l1 l2:Nat}{S:Ab}(G:A.handled=none)(D:l1<n)(B:l2<n)(Z:zk4 s.heap n l1 l2)(t:s.heap.get? S=some {cls:=.type "list",data:=.seq #[]})
  (hn:n+4<S)
  (N:∀h' e,(∀c o,c∉S::z2 n->s.heap.get? c=some o->h'.get? c=some o)->h'.get? S=some {cls:=.type "list",dict:=none,data:=.seq #[] e,slots:=#[]}->R (.ok (.ret .none)) {s with heap:=h'}):
  Al (Am X.prog X.w) A.in1 (Builtin.«list.__init__» ⟨[.ref S,.ref (n+4:Nat)],[]⟩)
   (λfin s'=>match fin with|.done f=>R (.ok f) s'|.again y=>y.quiet=true/\codeAny (Am X.prog X.w) A y R s') (λe s'=>R (.error e) s') s:=by
 have d:∀b,b<=n+4->b≠S:=λb k e=>by subst e;exact absurd (zJ6 hn k) (zR8 _)
 show Al _ _ (do let old <-Builtin.List.listItems (.ref S);Builtin.List.listUpdate (.ref S) (λ_=>#[]);letGo old.toList.reverse;Builtin.List.listExtendWith (.ref S) (.ref (n+4:Nat)) .none) _ _ s;refine zI0 ?_;unfold Builtin.List.listItems;refine zI0 (wpAny_seqItems t rfl (zJ3 ?_));refine zI0 (wpAny_updateSeq t rfl ?_);obtain⟨p,g⟩:∃p,(s.heap.update S (Obj.mapSeq (λ_=>(#[]:Array Ac)))).get? S=some {cls:=.type "list",dict:=none,data:=.seq #[] p,slots:=#[]}:=⟨_,get?_update_seq t λ_=>#[]⟩;have a:∀b o,b≠S->s.heap.get? b=some o->(s.heap.update S (Obj.mapSeq (λ_=>(#[]:Array Ac)))).get? b=some o:=
  λb o k e=>(zK1 _ _ (zO2 k)).trans e
 have C:n≠S:=d _ (zO9 _ _);have n1:n+1≠S:=d _ (zW4 (by decide) _);have n2:n+2≠S:=d _ (zW4 (by decide) _);have n3:n+3≠S:=d _ (zW4 (by decide) _);have n4:n+4≠S:=d _ (zI3 _);have m1:l1≠S:=d _ (zJ1 (zM5 D) (zO9 _ _));have m2:l2≠S:=d _ (zJ1 (zM5 B) (zO9 _ _));have r:∀h':Ao,(∀b o,b≠S->s.heap.get? b=some o->h'.get? b=some o)->zk4 h' n l1 l2:=λh' a=>⟨a _ _ n4 Z.z,a _ _ n2 Z.ti,a _ _ n3 Z.to,Z.i1.at λo q=>a _ o C q,Z.i2.at λo q=>a _ o n1 q,Z.g1.at λo q=>a _ o m1 q,Z.g2.at λo q=>a _ o m2 q⟩;refine zI0 (wpAny_letGo ?_);have m:({s with heap:=s.heap.update S (Obj.mapSeq (λ_=>(#[]:Array Ac)))}:Af).TypeIs (.ref (n+4:Nat)) "zip":=⟨_,(r _ a).z,rfl⟩;unfold Builtin.List.listExtendWith;refine zI0 (wpAny_typeOf m ?_);have M:Builtin.List.listSameRef (.ref S) (.ref (n+4:Nat))=false:=by simp[Builtin.List.listSameRef];exact λz=>n4 z.symm
 have L:(Value.type "zip" == Value.type "list")=false:=by decide
 have I:(Value.type "zip" == Value.type "tuple")=false:=by decide
 simp only[M,L,I,Bool.or_false,zW6,if_false];refine zI0 (wpAny_pyIter_slot m PySem.F.slot_zip_iter (wpAny_call_entry PySem.F.slot_zip_iter m PySem.F.entry_zip_iter ?_ (PySem.F.args_zip_iter_1 _)));refine zJ3 ⟨_,rfl,"zip",_,m,PySem.F.slot_zip_next.lookup,zI0 (zQ3 ?_)⟩;unfold Builtin.List.listLengthHint;refine zI0 (wpAny_specialOf m jO ?_);refine zI0 (wpAny_specialOf m mw (zJ3 ?_));have key:∀(h:Ao) (e:Nat),h.get? S=some {cls:=.type "list",dict:=none,data:=.seq #[] e,slots:=#[]}->(∀b o,b≠S->s.heap.get? b=some o->h.get? b=some o)->codeAny (Am X.prog X.w) A (.builtin "list.extend.loop" ⟨[.ref S,.ref (n+4:Nat),.none],[]⟩) R {s with heap:=h}:=by
  intro h e u j;refine fL G D B (r h j) λh' v=>N h' e (λc o E q=>v c o (λz=>E (zI6 _ z)) (j c o (λz=>E (by simp[z])) q)) (v S _ ?_ u);intro z;simp only[z2,zI8,zJ7,zM4]at z;rcases z with z|z|z|z
  .exact n4 z.symm
  .exact n3 z.symm
  .exact C z.symm
  .exact n1 z.symm
 refine wpAny_ite_split (λ_=>zI0 (wpAny_rule ?_)) (λ_=>zJ3 ⟨plainId_quiet zT1 _,key _ _ g a⟩);refine zI0 ?_;refine zI0 (wpAny_updateSeq g rfl ?_);obtain⟨K,i⟩:∃p,((s.heap.update S (Obj.mapSeq (λ_=>(#[]:Array Ac)))).update S (Obj.mapSeq (·.push Value.none))).get? S=some {cls:=.type "list",dict:=none,data:=.seq #[.none] p,slots:=#[]}:=⟨_,get?_update_seq g λx=>x.push Value.none⟩;refine wpAny_updateSeq i rfl ?_;obtain⟨J,l⟩:∃p,(((s.heap.update S (Obj.mapSeq (λ_=>(#[]:Array Ac)))).update S (Obj.mapSeq (·.push Value.none))).update S (Obj.mapSeq (·.pop))).get? S=some {cls:=.type "list",dict:=none,data:=.seq #[] p,slots:=#[]}:=⟨_,get?_update_seq i λx=>x.pop⟩;exact zJ3 ⟨plainId_quiet zT1 _,key _ _ l λb o k e=>(zK1 _ _ (zO2 k)).trans ((zK1 _ _ (zO2 k)).trans (a b o k e))⟩
def qD {A:Ap}{E:Ac->Af->Prop}{Q:Ac->Af->Prop}{n l1 l2:Nat}(m:A.handled=none)(k:l1<n)(i:l2<n)(f:n+4<s.heap.objs.size)(Z:zk4 s.heap n l1 l2)
  (j:∀h' e,(∀c o,c∉s.heap.objs.size::z2 n->s.heap.get? c=some o->h'.get? c=some o)->h'.get? s.heap.objs.size=some {cls:=.type "list",dict:=none,data:=.seq #[] e,slots:=#[]}->Q (.ref s.heap.objs.size) {s with heap:=h'}):
  Al (Am X.prog X.w) A (call (.type "list") [.ref (n+4:Nat)]) Q E s:=by
 refine callType_codes (Q₁:=λobj s₁=>obj=.ref s.heap.objs.size/\s₁={s with heap:=s.heap.push {cls:=.type "list",data:=.seq #[]}}) PySem.F.called_list (PySem.F.typeCall_list_1 _) PySem.F.entry_list_init
  (code_list_new _ ⟨rfl,rfl⟩) λobj s₁ a=>?_
 obtain⟨rfl,rfl⟩:=a;have g:(s.heap.push {cls:=.type "list",data:=.seq #[]}).get? s.heap.objs.size=some {cls:=.type "list",data:=.seq #[]}:=zL6 _ rfl;have up:∀b o,s.heap.get? b=some o->(s.heap.push {cls:=.type "list",data:=.seq #[]}).get? b=some o:=λb o e=>zI2 _ e;refine⟨⟨_,g,rfl⟩,PySem.F.args_list_init_2 _ _,eQ (s:={s with heap:=s.heap.push {cls:=.type "list",data:=.seq #[]}}) m k i ⟨up _ _ Z.z,up _ _ Z.ti,up _ _ Z.to,Z.i1.at λo q=>up _ o q,Z.i2.at λo q=>up _ o q,Z.g1.at λo q=>up _ o q,Z.g2.at λo q=>up _ o q⟩ g f λh' e h d=>⟨rfl,j h' e (λc o l q=>h c o l (up c o q)) d⟩⟩
variable {a b:Ai}{p p0 pos pos2:Pos}
def nU {F:TA}(S:X.calm=true)(w:Gl X "list")(j:X.mg "list"=none)(U:Gl X "zip")(hm:X.mg "zip"=none)(ha:PA X [a,b] F)
  (f:Ad [.Call (.Name "zip" p) [a,b] [] pos2] X.env=[(false,eval (.Call (.Name "zip" p) [a,b] [] pos2) X.env)]:=by rfl)
  (M:Ad [a,b] X.env=(false,eval a X.env)::Ad [b] X.env:=by rfl) (hpl:(backTo pos2 (Ad [b] X.env)).any (·.1)=false:=by rfl):
  PE X (.Call (.Name "list" p0) [.Call (.Name "zip" p) [a,b] [] pos2] [] pos) (λσ H Q=>F σ H λvs H1=>∃(l1 l2:Ab),vs=[.ref l1,.ref l2]/\SqL X.K H1 l1 []/\SqL X.K H1 l2 []/\∀D,H1 D=none->Q (.ref D) (upd H1 D (.lst []))):=by
 intro pins s σ H Q I h;refine Call_ (uA I w j boot_list (zP2 ?_ f rfl));rw[f];refine Calls.spliced_cons ?_;refine Call_ (uA I U hm boot_zip (zP2 (thn (ha pos2 pins s σ H _ I h) λus s1 y=>?_) M hpl));obtain⟨vs,H1,d,g,N⟩:=y;obtain⟨l1,l2,e,l,C,q⟩:=N;subst e;obtain⟨u,v,rfl,ru,O⟩:∃u v,us=[u,v]/\RelV (.ref l1) u/\RelV (.ref l2) v:=by
  cases g with
  |cons a g=>
   cases g with
   |cons b g=>
    cases g;exact⟨_,_,rfl,a,b⟩
 cases(ru);cases(O);obtain⟨L,E,x,V⟩:=d.list l;obtain⟨J,k,i,a0⟩:=d.list C;cases E;cases k;refine call_zip_2 x.isList i.isList λh' z1 t A T P sz hk=>?_;have m:l1<s1.heap.objs.size:=by obtain⟨o,e,_⟩:=x.isList;exact zI9 e
 have B:l2<s1.heap.objs.size:=by obtain⟨o,e,_⟩:=i.isList;exact zI9 e
 have Z:Inv X pins σ H1 {s1 with heap:=h',toks:=s1.toks}:=d.kept λb o e=>hk b o e;refine zK3 (show Al _ _ (spliced []) (λvs s₁=>vs=[]/\s₁={s1 with heap:=h'}) X.xe {s1 with heap:=h'}from zJ3 ⟨rfl,rfl⟩) (λvs s2 hv=>?_) λ_ _ z=>z;obtain⟨rfl,rfl⟩:=hv;have le:∀b∈h'.objs.size::z2 s1.heap.objs.size,s1.heap.objs.size<=b:=λb c=>by
  simp only[z2,zI8,zJ7,zM4]at c;rw[sz]at c;have key:∀n b:Nat,(b=n+5\/b=n+4\/b=n+3\/b=n\/b=n+1)->n<=b:=λn b h=>by lia
  exact key _ _ c
 refine qD (s:={s1 with heap:=h'}) (I.ok.hd S) m B (by show _<h'.objs.size;rw[sz];exact zP0 _) ⟨z1,t,A,T,P,x.isList.at λo e=>hk _ o e,i.isList.at λo e=>hk _ o e⟩ λr e Y W=>?_;have G:H1 h'.objs.size=none:=d.hok.fresh (le _ (by simp));have R:Inv X pins σ H1 {({s1 with heap:=h',toks:=s1.toks}:Af)with heap:=r,toks:=s1.toks}:=Z.turnL (ch:=h'.objs.size::z2 s1.heap.objs.size) (λb o c q=>Y b o c q) (λb c=>d.fpOk (le b c) (d.hok.fresh (le b c)));refine⟨.ref h'.objs.size,upd H1 h'.objs.size (.lst []),R.adopt (d.fpOk (le _ (by simp)) G) ⟨?_,[],e,.nil,W⟩,rfl,q _ G⟩;show 0<=sizeLine
 decide
end
section
variable {X:Cx}{L:Ev}{a b:Ai}{p p0 pos pos2:Pos}
theorem nW {Q:List Aa->Prop}(s:X.calm=true)(e:Gl X "list")(f:X.mg "list"=none)(u:Gl X "zip")(hm:X.mg "zip"=none)
  (h:EvA X L [a,b] λas=>as=[.dat (.list []),.dat (.list [])]/\Q [])
  (g:Ad [.Call (.Name "zip" p) [a,b] [] pos2] X.env=[(false,eval (.Call (.Name "zip" p) [a,b] [] pos2) X.env)]:=by rfl)
  (n:Ad [a,b] X.env=(false,eval a X.env)::Ad [b] X.env:=by rfl) (hpl:(backTo pos2 (Ad [b] X.env)).any (·.1)=false:=by rfl):
  EvL X L (.Call (.Name "list" p0) [.Call (.Name "zip" p) [a,b] [] pos2] [] pos) Q:=λF σ H R m k=>by
 refine⟨_,nU s e f u hm zY g n hpl,h F σ H _ m λas vs H1 r t1 k1 c=>?_⟩;have m1:=m.kz k1 t1;obtain⟨rfl,q⟩:=r;cases c with
 |cons j c=>
  cases c with
  |cons v c=>
   cases c;obtain⟨a1,xs,rfl,g1,t⟩:=AV.lst_inv j;obtain⟨a2,w,rfl,g2,l⟩:=AV.lst_inv v;cases t;cases l;refine⟨a1,a2,rfl,SqL.of (zg g1).2,SqL.of (zg g2).2,λD d=>?_⟩;have i:zu H1 (upd H1 D (.lst [])):=zV d;exact k _ _ _ q (t1.same i) (k1.trans (Kz.of_same i)) ⟨D,[],rfl,(by
    cases z:H D with
    |none=>rfl
    |some o=>rw[k1 D o z (m.tp.nt (ow0 (m1.fresh d)))]at d;cases d),zk,.nil⟩
end
section
variable {X:Cx}{L:Ev}{a b:Ai}{pos:Pos}
theorem AVs.rep {H:Hp}{xs:List V}{ds:List Aa}(h:AVs H xs ds):∀k:Nat,AVs H (List.replicate k xs).flatten (List.replicate k ds).flatten
 |0=>.nil
 |k+1=>by
  rw[zO8,zO8,zQ2,zQ2];exact h.append (h.rep k)
def oF {Q:List Aa->Prop}(h:EvD X L a λx=>EvD X L b λy=>∃ds n,x=.list ds/\y=.int n/\0<=n/\n<=1000/\ds.length*n.toNat<=1000/\Q (List.replicate n.toNat ds).flatten):EvL X L (.BinOp a .Mult b pos) Q:=λF σ H R m k=>by
 refine⟨_,xA zo2 zi zi,?_⟩;refine h F σ H _ m λx s H1 f t1 k1 e=>?_;have m1:=m.kz k1 t1;refine f F σ H1 _ m1 λy u v r c k2 o=>?_;have m2:=m1.kz k2 c;obtain⟨ds,n,rfl,rfl,t,n1,g,q⟩:=r;obtain⟨l,xs,rfl,i,d⟩:=(e.same (k2.gz m1.tp)).lst_inv;cases o.int_inv;have j:5000<=sizeLine:=by decide
 refine⟨l,n,xs,rfl,rfl,(zg i).2,by lia,by lia,by rw[d.length];exact zJ1 g (zJ1 (by decide) j),λp hp=>?_⟩;obtain⟨g1,g2,g3⟩:=m2.lay hp (d.rep n.toNat);exact k _ _ _ q g1 ((k1.trans k2).trans g2) (g3.back m (k1.trans k2) c)
end
section
variable {X:Cx}{L:Ev}{E:yj}{rest:List An}{tg iter:Ai}{pos:Pos}
def zw7 (i:Nat)(N:List Str)(imp:List (Option Nat))(pat:Pat)(l e:Nat){s:zD}(h0:L[l]?=some (some (.inn s))){x:Str}{pos' b:Pos}{scope:Aq}{elt:Ai}{ifs:List Ai}(h:EvI X L tg iter λds=>ds.length<=1000/\yR (λC s2 a fp=>X.comp N scope C s2 a fp) pat ifs elt (xN imp L e s) ds [] λds=>SvS X (L.set i (some (.own ds))) rest E)
  (g:imp[e]?=some (some l):=by rfl) (w:X.N.Nodup:=by assumption)
  (nd:N.Nodup:=by decide +kernel) (A:scope.kind=.function:=by rfl) (z:∀y∈scope.names,y.2≠.cell:=by decide +kernel) (J:∀y∈scope.names,y.2=.local->scope.names.lookup y.1=some .local:=by decide +kernel) (o:scope.names.all (freeOk X.env.scope)=true:=by rfl) (O:imp.length=N.length:=by rfl)
  (B:((imp.zip N).all λp=>match p.1 with|none=>true|some j=>X.N[j]? == some p.2&&scope.names.lookup p.2 == some .free)=true:=by rfl) (c:pat.free (xN imp L e s)=true:=by rfl)
  (M:∀C s2 a fp,N.Nodup->PG (X.comp N scope C s2 a fp) tg (vF X.K pat):=by intro _ _ _ _ d;first|exact zQ d rfl (Or.inl rfl)|exact yI rfl rfl (by repeat (first|exact yY|refine yo (zQ d rfl (Or.inl rfl)) ?_)))
  (G:X.calm=true:=by rfl)
  (hi:X.N[i]?=some x:=by rfl) (n:Loc X.env.scope x:=by first|exact Or.inl rfl|exact Or.inr rfl) (f:swapsWith (.ListComp elt [⟨tg,iter,ifs,0⟩] scope b) (some (.Name x pos')) pos.line X.env=pure true:=by rfl)
  (hf:X.fn x=true\/X.env.scope.names.lookup x=some .local:=by first|exact .inl rfl|exact .inr rfl|assumption) (u:∀x,foldedSetIterable iter X.env x=pure x:=by intro _;rfl):
  SvS X L (.Assign [.Name x pos'] (.ListComp elt [⟨tg,iter,ifs,0⟩] scope b) pos::rest) E:=λF σ H D m r=>by
 obtain⟨Y,rfl,h⟩:=kg h0 g c h F σ H (λv H'=>uU X rest D (σ.set i (some v)) H') m λds v H' q t k fl=>q F _ H' D (m.setOwn t k fl) r;exact⟨_,zv (rV G ⟨A,nd,z,J,wY o,O,B⟩ xW (λC s2 a fp=>M C s2 a fp nd) (λC s2 a fp pins s σ H Q I h=>sJ pins s σ H Q I (h C s2 a fp)) (λC s2 a fp pins s σ H Q I h=>zi pins s σ H Q I (h C s2 a fp)) w hi n f hf u) zC,h⟩
end
def Fr.or (F:Fr)(S:Ab->Prop):Fr:={F with O0:=λx=>F.O0 x\/S x}
structure Pk (r:Fr)(S:Ab->Prop)(l:Ab)(d:Aa):Prop where
 t:∃H0,zH r H0
 av:AV (sub (λx=>¬r.O0 x) r.H0) (.ref l) d
 s:∀x,S x->(∃xs,r.H0 x=some (.lst xs))/\¬r.O0 x
section
variable {X:Cx}{L:Ev}{E:yj}{e e1 e2:Ai}{es:List Ai}{p pos apos:Pos}{rest:List An}{s:zD}{r:Fr}{S:Ab->Prop}{l:Ab}{d:Aa}{Q:Aa->Prop}{QG:Aa->zD->Prop}{T:Bool->Prop}
def M.unS {σ:St}{H:Hp}{b:Nat}(m:M (r.or S) L σ H)(g:Pk r S l d)(ne:noE L=true)(A:L[b]?=some (some (.at l))):M r (L.set b (some (.dat d))) σ H:=by
 obtain⟨H0,t0⟩:=g.t;have m0:M r L σ H:=by
  have n:zu (Gz (r.or S) L σ H) (Gz r L σ H):=zj λx o h e=>⟨λz=>h (z.elim (λz=>.inl (.inl z)) .inr),e⟩;refine⟨m.len,λj a s e1 e2=>(m.ok j a s e1 e2).stay n (λx u f e=>?_) rfl λC q k _=>absurd (k▸e1) (wJ ne),m.dj,m.xd,t0.re m.tp rfl,m.keep,λy v=>m.oex y (.inl v)⟩;obtain⟨w1,w2,_⟩:=m.ft e1 e2 f;exact⟨e,λz=>w1 (.inl z),w2⟩
 exact(m0.put (i:=b) (b:=some (.dat d)) (λs c x _ z f=>by cases z;exact f.elim) (λs c _ e z=>by
  cases z;have B:=m.atv b l A;rw[B]at e;cases e;refine⟨_,rfl,g.av.same λx o w=>?_⟩;obtain⟨w1,w2⟩:=m0.old x o w |> zg;refine zw (λz=>w1 ?_) w2;rcases z with z|⟨j,a,s,e1,e2,f⟩
  .exact .inl z
  .rcases zA e1 with⟨_,z⟩|⟨_,z⟩
   .cases z;exact f.elim
   .exact .inr ⟨j,a,s,z,e2,f⟩)).2
abbrev unE (L:Ev)(j b:Nat)(d:Aa):Ev:=(L.set j none).set b (some (.dat d))
def NoF (L:Ev)(j:Nat):Prop:=∀a,L[j]?=some (some a)->∃r q,a=.exc r q
def M.unP {σ:St}{H:Hp}{j b:Nat}(m:M (r.or S) L σ H)(a:Pk r S l d)(ne:noE (L.set j none)=true)(c:(L.set j none)[b]?=some (some (.at l))):M r (unE L j b d) σ H:=(m.drop (j:=j)).unS a ne c
def zx8 {σ:St}{j b:Nat}{x:Ab}(h:Ow r (unE L j b d) σ x):Ow (r.or S) L σ x:=by
 rcases h with z|⟨i,a,s,e1,e2,f⟩
 .exact .inl (.inl z)
 .rcases zA e1 with⟨_,z⟩|⟨_,e1⟩
  .cases z;exact f.elim
  .rcases zA e1 with⟨_,z⟩|⟨_,e1⟩
   .cases z
   .exact .inr ⟨i,a,s,e1,e2,f⟩
def zn5 {σ:St}{j b:Nat}{x:Ab}(m:NoF L j)(k:(L.set j none)[b]?=some (some (.at l)))(h:Ow (r.or S) L σ x):Ow r (unE L j b d) σ x\/S x:=by
 rcases h with(z|z)|⟨i,a,s,e1,e2,f⟩
 .exact .inl (.inl z)
 .exact .inr z
 .by_cases c:i=j
  .subst c;obtain⟨_,_,rfl⟩:=m a e1;exact f.elim
  .by_cases g:i=b
   .subst g;rw[zI4 (λz=>c z.symm)]at k;rw[k]at e1;cases e1;exact f.elim
   .exact .inl (.inr ⟨i,a,s,by rw[zI4 (λz=>g z.symm),zI4 (λz=>c z.symm)];exact e1,e2,f⟩)
def zf2 (r:Fr)(X:Cx)(L:Ev)(e:Ai)(Q:Aa->Prop):Prop:=∀(σ:St) (H:Hp) (R:VK),M r L σ H->(∀d v H',Q d->zH r H'->Kz r H H'->AV (Gz r L σ H') v d->R v H')->uq X e σ H R
def cZ (r:Fr)(X:Cx)(L:Ev)(es:List Ai)(Q:List A->Prop):Prop:=∀(σ:St) (H:Hp) (R:List V->Hp->Prop),M r L σ H->(∀as vs H',Q as->zH r H'->Kz r H H'->zS r (Gz r L σ H') vs as->R vs H')->zg0 X es σ H R
def eE (r:Fr)(X:Cx)(L:Ev)(i:Nat)(e:Ai)(Q:Aa->zD->Prop):Prop:=∀(σ:St) (H:Hp) (R:VK),M r L σ H->(∀d s' v H',Q d s'->M r (L.set i (some (.inn s'))) σ H'->AV (Gz r (L.set i (some (.inn s'))) σ H') v d->R v H')->uq X e σ H R
def EvD.t (h:EvD X L e Q):zf2 r X L e Q:=h r
def iC {Q:List A->Prop}(q:Q []):cZ r X L [] Q:=λσ H R m k=>⟨_,zy,k _ _ H q m.tp Kz.refl .nil⟩
def uY {Q:List A->Prop}(h:zf2 r X L e λd=>cZ r X L es λas=>Q (.dat d::as))(f:Ad (e::es) X.env=(false,eval e X.env)::Ad es X.env:=by rfl):cZ r X L (e::es) Q:=λσ H R m k=>by
 refine⟨_,zh zi zY f,h σ H _ m λd v H1 j t1 k1 a=>?_⟩;have m1:=m.kz k1 t1;exact j σ H1 _ m1 λas vs c i b k2 g=>k _ _ c i b (k1.trans k2) (.cons (a.same (k2.gz m1.tp)) g)
def zj3 {k:Nat}{φ:List A->(A->Prop)->Prop}{x:Str}(C:Cal X.prog X.w X.K X.mg X.base x k φ)(hr:zO k X.A)(u:Gl X x)(h:cZ r X L (e::es) λas=>φ as λa=>Q a.d)
  (b:(x == ("__debug__":Str))=false:=by decide) (he:Ad (e::es) X.env=(false,eval e X.env)::Ad es X.env:=by rfl) (hpl:(backTo pos (Ad es X.env)).any (·.1)=false:=by rfl):zf2 r X L (.Call (.Name x p) (e::es) [] pos) Q:=λσ H R m c=>by
 obtain⟨f,fd,ps,o,n,t,i⟩:=C.ex;refine⟨_,yb i hr u o n t .nil zX zY b he hpl,h σ H _ m λas vs H1 j t1 k1 g=>?_⟩;refine wk (m.kz k1 t1) g j λa v H' y q=>?_;obtain⟨g1,g2,g3⟩:=q.back (m.kz k1 t1);exact c _ v H' y g1 (k1.trans g2) g3
def zt2 (j b:Nat)(f:Pk r S l d)(ne:noE (L.set j none)=true)(u:NoF L j)(g:(L.set j none)[b]?=some (some (.at l)))(h:EvN X (unE L j b d) e Q):zf2 (r.or S) X L e Q:=λσ H R m k=>by
 have a:=m.unP f ne g;refine h r σ H R a λd v H' q t kz n=>k d v H' q (m.tp.re t rfl) kz (n.same (zj λx o c e=>⟨λz=>?_,e⟩));rcases zn5 (d:=_) u g z with z|z
 .exact c.1 z
 .obtain⟨⟨xs,i⟩,_⟩:=f.s x z;exact c.2 xs (a.keep x _ i (a.tp.nt (ow0 c.1)))
def dW {k:Nat}{φ:List A->(A->Prop)->Prop}{m o:Str}(i:Nat){pl:Sem Bool}(hi:L[i]?=some (some (.inn s)))(B:yw X.prog X.w X.K X.mg X.base s.C m k φ)(hr:zO k X.A)(hf:yr s.kvs m=none)(hm:m≠s.nm)(h:cZ r X L (e::es) λas=>φ (.inn s::as) λa=>∃d s',a=.res d s'/\s'.a=s.a/\s'.lp=s.lp/\QG d s')
  (x:X.N[i]?=some o:=by rfl) (v:Vis X.env.scope o:=by first|exact Or.inl rfl|exact Or.inr (Or.inl rfl)|exact Or.inr (Or.inr rfl)) (hd:(o == ("__debug__":Str))=false:=by decide) (g:(o == ("__classdict__":Str))=false:=by decide)
  (j:Ad (e::es) X.env=(false,eval e X.env)::Ad es X.env:=by rfl) (hpl:(backTo pos (Ad es X.env)).any (·.1)=false:=by rfl)
  (ht:eval (.Call (.Attribute (.Name o p) m apos) (e::es) [] pos) X.env=(do
   let ov <-eval (.Name o p) X.env
   standAt apos.atName
   let(f,first) <-holding [ov] (getMethod ov m pl)
   callWith pos f first (backTo pos (Ad (e::es) X.env)) (backToKw pos (keywordEach [] X.env))):=by rfl):eE r X L i (.Call (.Attribute (.Name o p) m apos) (e::es) [] pos) QG:=λσ H R b q=>by
 obtain⟨f,fd,ps,c,n,D,G⟩:=B.ex;obtain⟨z,h0,_⟩:=b.inn hi;refine⟨_,uR (zT x v hd g) c n G hr D .nil zX zY j hpl ht,_,z,s.a,s.dx,_,rfl,h0.ob,h0.look_m hf hm,?_⟩;refine h σ H _ b λas us H1 y t1 k1 t=>?_;have u:=nh (E:=E0) (b.kz k1 t1) hi t y q;show spG φ (V.ref s.a::(us++[])) H1 R E0;rw[zJ5];exact u
def fJ (i:Nat)(h:eE r X L i e λ_ s'=>wC r X (L.set i (some (.inn s'))) rest E)(a:swapsWith e none pos.line X.env=pure false:=by rfl):wC r X L (.Expr e pos::rest) E:=λσ H D m c=>by exact⟨_,zv (xU zi a) zC,h σ H _ m λd s' v H1 b m1 f=>b σ H1 D m1 c⟩
end
def zi0 (φ:List A->(A->Prop)->Prop):Sp:=λvs H b _=>∃(F:Fr) (S:Ab->Prop) (s:zD) (us:List V) (as:List A) (l:Ab) (d:Aa) (Q:A->Prop),vs=.ref s.a::(us++[.ref l])/\F.H0=s.un H/\zH F H/\(∀x,F.O0 x->∃o,H x=some o/\yU o)/\(∀x,S x->(∃xs,F.H0 x=some (.lst xs))/\¬F.O0 x)/\(∀x,s.at x->¬F.O0 x)/\
 xt (sub (λx=>¬(F.or S).O0 x/\x≠s.a/\x≠s.lp) H) H s/\zS (F.or S) (sub (λx=>¬(F.or S).O0 x/\x≠s.a/\x≠s.lp) H) us as/\AV (sub (λx=>¬F.O0 x/\x≠s.a/\x≠s.lp) H) (.ref l) d/\φ (.inn s::(as++[.dat d])) Q/\∀a v H',Q a->yf (F.or S) v H' a->b v H'
theorem zH.or {F:Fr}{S:Ab->Prop}{H:Hp}(t:zH F H):zH (F.or S) H:=t.to rfl λx z=>.inl z
section
variable {P:Ah}{w:Ak}{K:Ae}{mg:Str->Option Ac}{base:Ao}
def M.setAt {F:Fr}{L:Ev}{σ:St}{H:Hp}{n:Nat}{l:Ab}(m:M F L σ H)(hn:L[n]?=some none):M F (L.set n (some (.at l))) (σ.set n (some (.ref l))) H:=by
 have g:∀{i:Nat} {a:A} {s:Option V},(L.set n (some (.at l)))[i]?=some (some a)->(σ.set n (some (.ref l)))[i]?=some s->(i=n/\a=.at l/\s=some (.ref l))\/(L[i]?=some (some a)/\σ[i]?=some s):=λ{i a s} d c=>by
  rcases zA d with⟨rfl,z⟩|⟨p,z⟩
  .cases z;rw[zJ9 (by have:=(zH9.mp c).1;rwa [zK0]at this)]at c;cases c;exact .inl ⟨rfl,rfl,rfl⟩
  .rw[zI4 p]at c;exact .inr ⟨z,c⟩
 have y:zu (Gz F L σ H) (Gz F (L.set n (some (.at l))) (σ.set n (some (.ref l))) H):=zj λx o h e=>⟨λz=>h (by
  rcases z with z|⟨i,a,s,d,c,f⟩
  .exact .inl z
  .rcases g d c with⟨_,rfl,_⟩|⟨g1,g2⟩
   .exact f.elim
   .exact .inr ⟨i,a,s,g1,g2,f⟩),e⟩
 refine⟨by rw[zK0,zK0];exact m.len,λi a s d c=>?_,λi j a b s t x d c u v f1 f2=>?_,λi r q d j a s x c u f=>?_,m.tp,m.keep,m.oex⟩
 .rcases g d c with⟨_,rfl,rfl⟩|⟨g1,g2⟩
  .exact rfl
  .exact(m.ok i a s g1 g2).stay y (λx o f e=>by
    obtain⟨w1,w2,_⟩:=m.ft g1 g2 f;exact⟨e,w1,w2⟩) rfl λ_ _ _ z=>z
 .rcases g d u with⟨_,rfl,_⟩|⟨g1,g2⟩
  .exact f1.elim
  .rcases g c v with⟨_,rfl,_⟩|⟨g3,k⟩
   .exact f2.elim
   .exact m.dj i j a b s t x g1 g3 g2 k f1 f2
 .rcases zA d with⟨_,z⟩|⟨_,z⟩
  .cases z
  .rcases g c u with⟨_,rfl,_⟩|⟨g3,k⟩
   .exact f.elim
   .exact m.xd i r q z j a s x g3 k f
def zA2 {x qual:Str}{st:An}{f:Ab}{fd:Ag}{N ps:List Str}{k:Nat}{φ:List A->(A->Prop)->Prop}(G:Fun K x qual st f fd)(U:zo N ps (zd st))(Z:ps.length<=N.length)(hlen:∀a as d Q,φ (a::(as++[.dat d])) Q->as.length+2=ps.length)
  (i:∀(cdv:Ac) (C:Ap) (outer:List Ar) (s:Af) (H:Hp) (E:XK) (u:zD) (as:List A) (l:Ab) (d:Aa) (Q:A->Prop) (r:Fr) (S:Ab->Prop),zO k (C.deeper (envOfC qual (zd st) s.heap.objs.size f cdv))->φ (.inn u::(as++[.dat d])) Q->Pk r S l d->
   wC (r.or S) (xi CX0 P w K mg base N qual (zd st) f cdv C outer s H E).nox ((A.inn u::as).map some++some (.at l)::List.replicate (N.length-(as.length+2)) none) (zJ st) {nx:=λL=>∃s',L[0]?=some (some (.inn s'))/\Q (.res .none s'),rt:=Q}):zG P w K mg base CX0 (k+1) f fd ps (zi0 φ):=by
 refine G.ok U (λvs H Q E h=>?_) (λcdv C outer s H vs Qc E hr h=>?_)
 .obtain⟨F,S,u,us,as,l,d,Q',rfl,_,_,_,_,_,_,y,_,g,_⟩:=h;rw[zI7,zI1,y.length];exact hlen _ _ _ _ g
 .obtain⟨F,S,u,us,as,l,d,Q',rfl,e,t,o,D,no,hi,y,av,g,R⟩:=h;have hl:=hlen _ _ _ _ g;have j:∀x,u.at x->F.H0 x=none:=λx b=>by
   cases z:F.H0 x with
   |none=>rfl
   |some o=>
    obtain⟨⟨n1,n2⟩,_⟩:=zg (e▸z);rcases b with b|b;exact absurd b n1;exact absurd b n2
  have c:∀x o,F.H0 x=some o->H x=some o:=λx o h=>(zg (e▸h)).2;have m:=M.startI (F:=F.or S) (N:=N) (us:=us) (as:=as) c j t.or (λx b=>b.elim (o x) λz=>by
   obtain⟨⟨xs,b⟩,_⟩:=D x z;exact⟨_,c x _ b,λts z=>by cases z⟩) (λx b z=>z.elim (no x b) λz=>by
   obtain⟨⟨xs,B⟩,_⟩:=D x z;rw[j x b]at B;cases B) hi y
  have J:N.length-(A.inn u::as).length=(N.length-(as.length+2))+1:=by rw[zI7];omega
  have O:us.length=as.length:=y.length;have I:=(m.setAt (n:=(A.inn u::as).length) (l:=l) (by rw[zJ2 (by rw[zH8];exact zI3 _),zH8,zM1,J];rfl));have X:((A.inn u::as).map some++List.replicate (N.length-(A.inn u::as).length) none).set (A.inn u::as).length (some (A.at l))=(A.inn u::as).map some++some (.at l)::List.replicate (N.length-(as.length+2)) none:=by rw[zN9 _ _ (by rw[zH8];exact zI3 _),zH8,zM1,J];rfl
  have T:(L2.start N (.ref u.a::us)).set (A.inn u::as).length (some (V.ref l))=L2.start N (.ref u.a::(us++[.ref l])):=by
   unfold L2.start;have e1:N.length-(V.ref u.a::us).length=(N.length-(V.ref u.a::(us++[V.ref l])).length)+1:=by rw[zI7,zI7,zI1,zN0,O];omega
   rw[show(A.inn u::as).length=((V.ref u.a::us).map some).length by rw[zH8,zI7,zI7,O],zN9 _ _ (zI3 _),zM1,e1];show _++some (V.ref l)::List.replicate _ none=_;rw[zL7,zL7,zN6,zR4,zR4,zN1];rfl
  rw[X,T]at I;refine i cdv C outer _ H E u as l d Q' F S hr g ⟨⟨_,t⟩,av.same (λx o z=>by
   obtain⟨⟨h1,B,h3⟩,Y⟩:=zg z;exact zw h1 (by rw[e];exact zw (p:=λx=>x≠u.a/\x≠u.lp) ⟨B,h3⟩ Y)),D⟩ _ H _ I ⟨λL σ H' m ⟨s',h0,q⟩=>R _ _ _ q (yf.res m h0 .non),λa v H' r q=>R a v H' q r,λ_ _ _ _ z=>z.elim,λ_ _ _ _ z=>z.elim⟩
end
def cM {F1 r:Fr}{S:Ab->Prop}{L α2:Ev}{σ:St}{H:Hp}{R:VK}{E:XK}{us:List V}{as:List A}{l:Ab}{d:Aa}{i:Nat}{s:zD}{φ:List A->(A->Prop)->Prop}{QG:Aa->zD->Prop}(m:M F1 L σ H)(w:M r α2 σ H)(ht:F1.tp=r.tp)(hi:L[i]?=some (some (.inn s)))(f:α2[i]?=some (some (.inn s)))
  (w1:∀x,Ow r α2 σ x->Ow F1 L σ x) (w2:∀x,Ow F1 L σ x->Ow r α2 σ x\/S x) (u:∀x,S x->(∃xs,H x=some (.lst xs))/\Ow F1 L σ x/\¬s.at x/\¬Ow r α2 σ x) (T:zS F1 (Gz F1 L σ H) us as) (av:AV (Gz r α2 σ H) (.ref l) d)
  (C:φ (.inn s::(as++[.dat d])) λa=>∃d s',a=.res d s'/\s'.a=s.a/\s'.lp=s.lp/\QG d s') (k:∀d s' v H',QG d s'->M F1 (L.set i (some (.inn s'))) σ H'->AV (Gz F1 (L.set i (some (.inn s'))) σ H') v d->R v H'):zi0 φ (.ref s.a::(us++[.ref l])) H R E:=by
 obtain⟨I,h0,hx⟩:=m.inn hi;obtain⟨N,Q,j⟩:=w.inn f;have wf:∀x,((r.giv α2 σ H s).or S).O0 x->Ow F1 L σ x/\x≠s.a/\x≠s.lp:=λx z=>by
  rcases z with z|z
  .exact⟨w1 x z.1,z.2⟩
  .exact⟨(u x z).2.1,λy=>(u x z).2.2.1 (.inl y),λy=>(u x z).2.2.1 (.inr y)⟩
 have X:∀x,Ow F1 L σ x/\x≠s.a/\x≠s.lp->((r.giv α2 σ H s).or S).O0 x:=λx z=>(w2 x z.1).elim (λy=>.inl ⟨y,z.2⟩) .inr;have g:zu (Gz F1 L σ H) (sub (λx=>¬((r.giv α2 σ H s).or S).O0 x/\x≠s.a/\x≠s.lp) H):=zj λx o h e=>⟨⟨λz=>h (wf x z).1,λz=>h (.inr ⟨i,_,_,hi,I,.inl z⟩),λz=>h (.inr ⟨i,_,_,hi,I,.inr z⟩)⟩,e⟩;refine⟨r.giv α2 σ H s,S,s,us,as,l,d,_,rfl,rfl,w.tp.to rfl λx z=>⟨.inl z,λy=>(j x (.inl y)).1 z,λy=>(j x (.inr y)).1 z⟩,λx z=>w.owEx z.1,λx z=>?_,λx z y=>z.elim y.2.1 y.2.2,h0.same g λ_ _ _ e=>e,zS.to (F:=F1) (F':=(r.giv α2 σ H s).or S) g ht.symm T,av.same (vV w f H).1,C,λa v H' Y W=>?_⟩
 .obtain⟨⟨xs,D⟩,_,n,n2⟩:=u x z;exact⟨⟨xs,zw (p:=λx=>x≠s.a/\x≠s.lp) ⟨λy=>n (.inl y),λy=>n (.inr y)⟩ D⟩,λy=>n2 y.1⟩
 .obtain⟨d',s',rfl,K,Z,q⟩:=Y;obtain⟨t,kz,O⟩:=W;have G:yf (F1.giv L σ H s) v H' (.res d' s'):=⟨t.to ht λx z=>wf x z,λx o U J=>kz x o U ⟨λt b c e=>J.1 t b c (ht.trans e),J.2⟩,O.to (λx z=>X x z) λ_ z=>z⟩;obtain⟨P,B⟩:=G.backI m hi K Z;exact k d' s' v H' q P B
structure bZ (P:Ah)(w:Ak)(K:Ae)(mg:Str->Option Ac)(base:Ao)(C:Ab)(m:Str)(k:Nat)(φ:List A->(A->Prop)->Prop):Prop where
 ex:∃f fd ps,Cls K C/\Meth K C m f/\Binds K fd ps []/\zG P w K mg base CX0 k f fd ps (zi0 φ)
structure bp (P:Ah)(w:Ak)(K:Ae)(mg:Str->Option Ac)(base:Ao)(x:Str)(k:Nat)(φ:List A->(A->Prop)->Prop):Prop where
 ex:∃f fd ps,mg x=some (.ref f)/\PySem.W.keepIn K (.ref f)=true/\Binds K fd ps []/\zG P w K mg base CX0 k f fd ps (zi0 φ)
section
variable {X:Cx}{L:Ev}{E:yj}{e e1 e2 c:Ai}{es:List Ai}{p pos apos:Pos}{rest:List An}{s:zD}{r:Fr}{S:Ab->Prop}{l:Ab}{d:Aa}{Q:Aa->Prop}{QG:Aa->zD->Prop}{T:Bool->Prop}{k:Nat}{φ:List A->(A->Prop)->Prop}{m o x:Str}
theorem eW (i j b:Nat){pl:Sem Bool}(J:Pk r S l d)(ne:noE (L.set j none)=true)(hj:NoF L j)(W:(L.set j none)[b]?=some (some (.at l)))(hi:L[i]?=some (some (.inn s)))(P:(unE L j b d)[i]?=some (some (.inn s)))(M':bZ X.prog X.w X.K X.mg X.base s.C m k φ)(hr:zO k X.A)(hf:yr s.kvs m=none)(hm:m≠s.nm)
  (h:EvA X (unE L j b d) [e1,e2] λas=>∃(z:Str) (ds:List Aa),as=[.dat (.str z),.dat (.list ds)]/\φ [.inn s,.dat (.str z),.dat (.list ds)] λa=>∃d s',a=.res d s'/\s'.a=s.a/\s'.lp=s.lp/\QG d s')
  (hN:X.N[i]?=some o:=by rfl) (hv:Vis X.env.scope o:=by first|exact Or.inl rfl|exact Or.inr (Or.inl rfl)|exact Or.inr (Or.inr rfl)) (hd:(o == ("__debug__":Str))=false:=by decide) (F:(o == ("__classdict__":Str))=false:=by decide)
  (O:Ad [e1,e2] X.env=(false,eval e1 X.env)::Ad [e2] X.env:=by rfl) (hpl:(backTo pos (Ad [e2] X.env)).any (·.1)=false:=by rfl)
  (ht:eval (.Call (.Attribute (.Name o p) m apos) [e1,e2] [] pos) X.env=(do
   let ov <-eval (.Name o p) X.env
   standAt apos.atName
   let(f,first) <-holding [ov] (getMethod ov m pl)
   callWith pos f first (backTo pos (Ad [e1,e2] X.env)) (backToKw pos (keywordEach [] X.env))):=by rfl):eE (r.or S) X L i (.Call (.Attribute (.Name o p) m apos) [e1,e2] [] pos) QG:=λσ H R t Y=>by
 obtain⟨f,fd,ps,c,U,B,G⟩:=M'.ex;obtain⟨hl,h0,_⟩:=t.inn hi;have V:=t.unP J ne W;refine⟨_,uR (zT hN hv hd F) c U G hr B .nil zX zY O hpl ht,_,hl,s.a,s.dx,_,rfl,h0.ob,h0.look_m hf hm,?_⟩;refine h r σ H _ V λas us H1 q1 t1 k1 n=>?_;have m1:M (r.or S) L σ H1:=t.kz k1 (t.tp.re t1 rfl);have g:=V.kz k1 t1;obtain⟨z,ds,rfl,q⟩:=q1;cases n with
 |cons a1 n=>
  cases n with
  |cons a2 n=>
   cases n;cases AV.str_inv a1;obtain⟨l',xs,rfl,g1,g2⟩:=AV.lst_inv a2;obtain⟨_,_,Z⟩:=m1.inn hi;have D:∀x,S x->¬Ow r (unE L j b d) σ x:=λx z y=>by
    obtain⟨⟨xs,v⟩,I⟩:=J.s x z;rcases y with y|⟨i',a,u,e1,e2,f'⟩
    .exact I y
    .obtain⟨_,w2,_⟩:=g.ft e1 e2 f';rw[w2]at v;cases v
   refine cM (F1:=r.or S) (r:=r) (us:=[.str z]) (as:=[.dat (.str z)]) m1 g rfl hi P (λx=>zx8) (λx z=>zn5 hj W z) (λx z=>⟨?_,.inl (.inr z),λy=>(Z x y).1 (.inr z),D x z⟩) (.cons (.str _) .nil) a2 q Y;obtain⟨⟨xs,v⟩,I⟩:=J.s x z;exact⟨xs,g.keep x _ v (g.tp.nt I)⟩
def cN (i:Nat){w:Str}{n j:Nat}{b:Pos}(h:eE r X L i e λd s'=>QG (.tuple [.str w,d]) s')(he:Ad [.Constant (.str w) j b,e] X.env=(false,eval (.Constant (.str w) j b) X.env)::Ad [e] X.env:=by rfl)(f:Ad [e] X.env=(false,eval e X.env)::Ad [] X.env:=by rfl):eE r X L i (.Tuple [.Constant (.str w) j b,e] n pos) QG:=λσ H R m k=>by
 refine⟨_,tP (zh yi (zh zi zy f) he),?_⟩;refine h σ H _ m λd s' v H1 q m1 r=>?_;refine⟨by show 2<=sizeLine;decide,λp hp=>?_⟩;have g:zu H1 (upd H1 p (.tup [.str w,v])):=zV hp;refine k _ s' _ _ q (m1.kz (Kz.of_same g) (m1.tp.same g)) (.tup (zw (m1.fresh hp) zk) (.cons (.str _) (.cons (r.same (zj λa o ha e=>⟨ha,by rw[zm (zq e hp)];exact e⟩)) .nil)))
def aj (i:Nat){b:A}(hi:L[i]?=some (some b))(h:eE r X L i e λd s'=>E.rt (.res d s')):wC r X L (.Return (some e) pos::rest) E:=λσ H D m g=>by exact⟨_,zv (zP zi) zC,h σ H _ m λd s' v H1 f m1 a=>g.rt _ _ _ (yf.res m1 (get_set ⟨_,hi⟩) a) f⟩
theorem jJ {x y:List An}(j b:Nat)(t:Pk r S l d)(ne:noE (L.set j none)=true)(u:(L.set j none)[b]?=some (some (.at l)))(h:EvT X (unE L j b d) c λk=>wC (r.or S) X L (if k=true then x else y) {E with nx:=λa=>wC (r.or S) X a rest E}):wC (r.or S) X L (.If c x y pos::rest) E:=λσ H D m f=>by
 refine⟨_,zv (wo xB zC zC) zC,h r σ H _ (m.unP t ne u) λk H1 n t1 k1=>?_⟩;have m1:M (r.or S) L σ H1:=m.kz k1 (m.tp.re t1 rfl);have i:sE (r.or S) {E with nx:=λa=>wC (r.or S) X a rest E} {D with nx:=uU X rest D}:=⟨λa g H' q z=>z g H' D q f,f.rt,f.bk,f.ct⟩;cases k with
 |true=>exact uv (by simpa using n σ H1 _ m1 i)
 |false=>exact vR (by simpa using n σ H1 _ m1 i)
def nv (q:E.nx L):wC r X L [] E:=(zr q).at
def aa {k:Bool}{x y:List An}(e:k=true)(h:wC r X L x E):wC r X L (if k=true then x else y) E:=by rw[if_pos e];exact h
def mL {k:Bool}{x y:List An}(e:k=false)(h:wC r X L y E):wC r X L (if k=true then x else y) E:=by rw[if_neg (by rw[e];decide)];exact h
def fm {B:Ab}{n:Str}{b0:An}{body suite:List An}{np b:Pos}(i j:Nat)(t:X.stack=X.env::X.outer)(hex:X.ex=[])(v:X.N.Nodup)(G:L[j]?=some none)(C:Gl X x)(hm:X.mg x=some (.ref B))
  (y:∀(pins:List (Ab×Obj)) (xe:Ac->Af->Prop),wC r ((X.held pins).wish xe) L body {nx:=λg=>wC r X g rest E,rt:=E.rt,bk:=E.bk,ct:=E.ct})
  (hi:X.N[i]?=some n:=by rfl) (w:X.env.scope.names.lookup n=some .local:=by rfl) (q:(x == ("__debug__":Str))=false:=by decide):
  wC r X L (.Try body [.ExceptHandler (some (.Name x np)) (some n) (b0::suite) b] [] [] pos::rest) E:=λσ H D m h=>by
 refine⟨_,zv (lE (R:=λσ a H=>∃d S,M r ([]++[some (.deep d S)]) (σ++[some (.ref a)]) H/\False) t v hi w C hm (uD λ_ z=>z.elim) q) zC,λpins=>?_,λpins a f H' F=>?_⟩
 .exact y pins _ σ H _ m ⟨λg f H' u z=>z f H' D u h,h.rt,h.bk,h.ct⟩
 .obtain⟨d,S,_,z⟩:=F;exact z.elim
def ao (i j b:Nat){f y:Str}{pos':Pos}{ds:List Aa}(hN:X.N.Nodup)(G:i≠b)(hi:L[i]?=some (some (.inn s)))(t:L[b]?=some (some (.own ds)))(C:bp X.prog X.w X.K X.mg X.base f k φ)(hr:zO k X.A)(Z:Gl X f)
  (h:EvD X (L.set b (some (.dat (.list ds)))) e λd=>(∃I,d=.tuple I)/\φ [.inn s,.dat d] λa=>∃d' s',a=.res d' s'/\s'.a=s.a/\s'.lp=s.lp/\SvS X ((L.set i (some (.inn s'))).set j (some (.dat d'))) rest E)
  (P:X.N[i]?=some o:=by rfl) (hv:Vis X.env.scope o:=by first|exact Or.inl rfl|exact Or.inr (Or.inl rfl)|exact Or.inr (Or.inr rfl)) (hd:(o == ("__debug__":Str))=false:=by decide) (Y:(o == ("__classdict__":Str))=false:=by decide)
  (U:(f == ("__debug__":Str))=false:=by decide) (he:Ad [.Name o p,e] X.env=(false,eval (.Name o p) X.env)::Ad [e] X.env:=by rfl) (W:Ad [e] X.env=(false,eval e X.env)::Ad [] X.env:=by rfl) (hpl:(backTo pos (Ad [e] X.env)).any (·.1)=false:=by rfl)
  (hj:X.N[j]?=some y:=by rfl) (hx:Loc X.env.scope y:=by first|exact Or.inl rfl|exact Or.inr rfl) {p':Pos}
  (hs:swapsWith (.Call (.Name f p') [.Name o p,e] [] pos) (some (.Name y pos')) apos.line X.env=pure false:=by rfl) (J:X.fn y=true\/X.env.scope.names.lookup y=some .local:=by first|exact .inl rfl|exact .inr rfl|assumption):SvS X L (.Assign [.Name y pos'] (.Call (.Name f p') [.Name o p,e] [] pos) apos::rest) E:=λF σ H D m rr=>by
 obtain⟨fa,fd,ps,c1,c2,c3,c4⟩:=C.ex;refine⟨_,zv (uz hN hj hx (yb c4 hr Z c1 c2 c3 .nil zX (zh (zT P hv hd Y) (zh zi zy W) he) U he hpl) hs J) zC,_,(m.inn hi).1,?_⟩;refine h F σ H _ (m.frz t) λd v H1 q1 t1 k1 r1=>?_;obtain⟨⟨I,rfl⟩,q⟩:=q1;have m1:=m.kz k1 t1;have V:=(m.frz t).kz k1 t1;obtain⟨l',xs,rfl,g1,g2⟩:=AV.tup_inv r1;obtain⟨lb,ys,g,a0,_,nO,n0⟩:=m1.own b ds t;obtain⟨O,_,a1⟩:=m1.inn hi;have M:(L.set b (some (.dat (.list ds))))[i]?=some (some (.inn s)):=by rw[zI4 (λz=>G z.symm)];exact hi
 have cl:=cM (E:=E0) (F1:=F) (r:=F) (S:=λx=>x=lb) (us:=[]) (as:=[]) (L:=L) (α2:=L.set b (some (.dat (.list ds)))) (QG:=λd' s'=>SvS X ((L.set i (some (.inn s'))).set j (some (.dat d'))) rest E) (R:=λv H'=>uU X rest D (σ.set j (some v)) H') m1 V rfl hi M
  (λx z=>z.elim .inl λ⟨B,a,u,e1,e2,n⟩=>by
   rcases zA e1 with⟨_,z⟩|⟨_,z⟩
   .cases z;exact n.elim
   .exact .inr ⟨B,a,u,z,e2,n⟩)
  (λx z=>z.elim (λz=>.inl (.inl z)) λ⟨B,a,u,e1,e2,n⟩=>by
   by_cases eb:B=b
   .subst eb;rw[t]at e1;cases e1;rw[g]at e2;cases e2;cases n;exact .inr rfl
   .exact .inl (.inr ⟨B,a,u,by rw[zI4 (λz=>eb z.symm)];exact e1,e2,n⟩))
  (λx z=>by
   subst z;refine⟨⟨_,a0⟩,.inr ⟨b,_,_,t,g,rfl⟩,λy=>G (m1.dj i b _ _ _ _ x hi t O g y rfl),λy=>?_⟩;rcases y with y|⟨B,a,u,e1,e2,n⟩
   .exact nO y
   .rcases zA e1 with⟨_,z⟩|⟨ne,z⟩
    .cases z;exact n.elim
    .exact ne (m1.dj b B _ _ _ _ x t z g e2 rfl n))
  .nil r1 q (λd' s' v H' q' m' av=>q' F _ H' D (m'.set av) rr)
 exact cl
end
end L2
set_option maxHeartbeats 4000000
namespace K81
open PySem PySem.Spec PyProof.Rows L2
def top (i:Nat):An:=PySem.Challenge.pw_stayprice_k81_a_fresh_inn.main.body.getD i (.Pass ⟨0,0,0,0⟩)
abbrev zb2 :An:=top 73
abbrev jS :An:=top 72
def iU :List A->(A->Prop)->Prop:=λas Q=>∃c:Int,as=[.dat (.int c)]/\∀x y:Int,0<=y->y<4294967296->Q (.own [.int x,.int y])
section
variable {P:Ah}{w:Ak}{K:Ae}{mg:Str->Option Ac}{base:Ao}
def jl :zo ["_law_row","_law_base","_law_found","_law_number"] ["_law_row","_law_base"] (zd zb2):=⟨rfl,rfl,rfl,by decide +kernel,rfl,by decide +kernel,by decide +kernel⟩
def zd9 {f:Ab}{fd:Ag}(F:Fun K "_law_take" "_law_take" zb2 f fd):zG P w K mg base CX0 1 f fd ["_law_row","_law_base"] zb4:=by
 refine F.ok jl (λvs H Q E h=>?_) (λcdv A outer s H vs Q E hr h=>?_)
 .obtain⟨t,b,c,many,rfl,_⟩:=h;rfl
 .obtain⟨t,b,c,many,rfl,⟨n,bs,cs,⟨r,C⟩,ht,J,I,⟨x,y,rfl,B,q⟩,hn⟩,d,m,k⟩:=h;rw[r,C]at k;have j:many.natAbs.log2<9000:=log2_small d m;have ht:H t=some (.lst [.int x,.int y]):=ht;refine yC (λσ o=>σ=[some (.ref t),some (.int many),none,none]/\H=o)
   ⟨_,wo (yH zl7 (yJ xX (pv 0) zN (λ_ _=>rfl)) zN (yc _))
    (zv (uz (i:=2) jl.nd rfl (Or.inl rfl) (xA qc (yJ xX (pv 0) zN (λ_ _=>rfl)) (pv 1)))
    (zv (kn (xA rH (yJ xX (pv 0) zN (λ_ _=>rfl)) (pv 1)) (aq (pv 0) zN set_list))
    (zI (zP (pv 2))))) yT,?_⟩ ?_
  .refine⟨_,rfl,t,_,0,_,rfl,rfl,SqL.of ht,rfl,_,_,rfl,rfl,_,rfl,?_⟩;refine yX (λ_=>?_) (λ_=>⟨rfl,rfl⟩);refine⟨_,rfl,t,_,0,_,rfl,rfl,SqL.of ht,rfl,_,rfl,_,_,rfl,rfl,d,?_⟩;refine⟨_,rfl,t,_,0,_,rfl,rfl,SqL.of ht,rfl,_,rfl,_,_,rfl,rfl,⟨d,j⟩,?_⟩;refine⟨_,rfl,t,_,0,0,rfl,rfl,ht,rfl,_,rfl,?_⟩;refine k _ _ (zV8 _ (Int.ne_of_gt d)) (zT7 _ d) ⟨0,[x / many,y],[x / many,y],⟨rfl,rfl⟩,zk,zk,zk,⟨_,_,rfl,B,q⟩,rfl⟩ λa l G=>by rw[zm l]
  rintro σ o ⟨rfl,rfl⟩;refine yC (λσ H1=>∃z:Int,0<=z/\z<2147483647/\σ=[some (.ref t),some (.int many),none,none]/\H1=upd H t (.lst [.int x,.int z]))
   ⟨_,kn (xA qc (xA oR (xA pO (yJ xX (pv 0) zN (λ_ _=>rfl)) zN) zN) zN) (aq (pv 0) zN set_list),?_⟩ ?_
  .refine⟨_,rfl,t,_,1,_,rfl,rfl,SqL.of ht,rfl,_,_,rfl,rfl,.inl ⟨by omega,by omega⟩,_,_,rfl,rfl,_,_,rfl,rfl,(by show(0:Int)<2147483647;decide),?_⟩;exact⟨_,rfl,t,_,1,1,rfl,rfl,ht,rfl,_,zV8 _ (by decide),zT7 _ (by decide),rfl,rfl⟩
  rintro σ H1 ⟨z,v,D,rfl,g⟩;have e:H1 t=some (.lst [.int x,.int z]):=by rw[g];exact zk
  have off:zs1 t t H H1:=λa l _=>by rw[g,zm l]
  clear g;refine yC (λσ p=>∃u:Int,σ=[some (.ref t),some (.int many),none,some (.int u)]/\H1=p)
   ⟨_,uz (i:=3) jl.nd rfl (Or.inl rfl) (xA qc (xA oR (xA oR (xA pO (yJ xX (pv 0) zN (λ_ _=>rfl)) (yJ xX (pv 0) zN (λ_ _=>rfl))) (xA pO zN (yJ xX (pv 0) zN (λ_ _=>rfl)))) zN) zN),?_⟩ ?_
  .exact⟨_,rfl,t,_,1,_,rfl,rfl,SqL.of e,rfl,_,rfl,t,_,1,_,rfl,rfl,SqL.of e,rfl,_,_,rfl,rfl,.inl ⟨by omega,by omega⟩,_,rfl,t,_,1,_,rfl,rfl,SqL.of e,rfl,_,_,rfl,rfl,.inl ⟨by decide,by decide⟩,_,_,rfl,rfl,_,_,rfl,rfl,_,_,rfl,rfl,(by show(0:Int)<2147483629;decide),_,rfl,rfl⟩
  rintro σ p ⟨u,rfl,rfl⟩;refine⟨_,zI (zP (xA qc (xA rH (pv 3) zN) (pv 1))),?_⟩;refine⟨_,rfl,_,_,rfl,rfl,⟨by decide,by decide +kernel⟩,_,rfl,_,_,rfl,rfl,d,?_⟩;exact k _ _ (zV8 _ (Int.ne_of_gt d)) (zT7 _ d) ⟨0,[x,z],[x,z],⟨rfl,rfl⟩,e,e,e,⟨_,_,rfl,v,by omega⟩,rfl⟩ off
theorem bj {f:Ab}{fd:Ag}(hm:mg "_law_take"=some (.ref f))(hk:PySem.W.keepIn K (.ref f)=true)(q:Binds K fd ["_law_row","_law_base"] [])(G:zG P w K mg base CX0 1 f fd ["_law_row","_law_base"] zb4):Cal P w K mg base "_law_take" 1 wq:=by
 refine⟨f,fd,_,hm,hk,q,G.imp λvs H Q E h=>?_⟩;obtain⟨F,as,Q',rfl,t,o,k,⟨n,rfl,h0,m,l⟩,g⟩:=h;cases k with
 |cons a1 r=>
  obtain⟨a,b,c,e,rfl⟩:=a1;obtain⟨v,rfl,av⟩:=r.one;cases av.int_inv;refine⟨a,b,c,n,rfl,(t a b c e).1,h0,m,λz H' j x TA off=>g _ _ _ (l z j x) ⟨⟨(by
   obtain⟨_,_,_,_,s,i,_⟩:=(t a b c e).1.ex;exact zg3 t.tab s i off),t.ot,λt' B A d=>?_⟩,λy u p n=>?_,.int z⟩⟩
  .rw[e]at d;cases d;exact⟨TA,(t a b c e).2⟩
  .rw[off y (n.1 _ _ _ e).1 (n.1 _ _ _ e).2];exact p
def zl0 :zo ["_law_cell"] ["_law_cell"] (zd jS):=⟨rfl,rfl,rfl,by decide +kernel,rfl,by decide +kernel,by decide +kernel⟩
def eF {f:Ab}{fd:Ag}(F:Fun K "_law_begin" "_law_begin" jS f fd)(hm:mg "_law_begin"=some (.ref f))(a:Binds K fd ["_law_cell"] []):Cal P w K mg base "_law_begin" 1 iU:=by
 refine rq F hm a zl0 (λas Q h=>?_) (λcdv e outer s H E as Q hr h=>?_)
 .obtain⟨c,rfl,_⟩:=h;rfl
 .obtain⟨c,rfl,q⟩:=h;refine zM (zm0 (zc 0 rfl (xE (r:=1000000000000000000) ⟨by decide,by decide,by decide⟩ (by decide) ⟨_,_,rfl,rfl,?_⟩)));refine va (λ_=>?_) (λ_=>zr ?_)
  .exact sI (zR (zb (qp (zc 0 rfl (xE (r:=1000000000000000000) ⟨by decide,by decide,by decide⟩ (by decide) ⟨_,_,rfl,rfl,zb (zf (ze ⟨_,rfl,zH7 rfl,q _ _ (by decide) (by decide)⟩))⟩)))))
  .refine sI (zR (zb (zf (zb (yt (jC (zc 0 rfl (zf ⟨_,_,rfl,rfl,by decide,zf ⟨_,_,rfl,rfl,ze ⟨_,rfl,zH7 rfl,?_⟩⟩⟩))))))));have d:=zV8 c (show(2147483629:Int)≠0 by decide);have b:=zT7 c (show(0:Int)<2147483629 by decide);exact q _ _ (by omega) (by omega)
end
abbrev oX :An:=top 3
abbrev pV :An:=top 4
abbrev aE :An:=top 5
abbrev zr1 :An:=top 6
abbrev cQ :An:=top 7
abbrev qj :An:=top 8
structure mG (mg:Str->Option Ac)(fW fI fP fD fPD:Ab):Prop where
 isi:mg "isinstance"=none
 int:mg "int"=none
 bool:mg "bool"=none
 tuple:mg "tuple"=none
 len:mg "len"=none
 last:∃t,mg "LAST_DAY"=some (.int 1000000 t)
 most:∃t,mg "MOST_NIGHTS"=some (.int 14 t)
 whole:mg "is_whole"=some (.ref fW)
 within:mg "is_whole_within"=some (.ref fI)
 pair:mg "is_pair"=some (.ref fP)
 day:mg "is_day"=some (.ref fD)
 days:mg "is_pair_of_days"=some (.ref fPD)
section
variable {P:Ah}{w:Ak}{K:Ae}{mg:Str->Option Ac}{base:Ao}{fW fI fP fD fPD:Ab}
def zd4 :zo ["thing"] ["thing"] (zd oX):=⟨rfl,rfl,rfl,by decide +kernel,rfl,by decide +kernel,by decide +kernel⟩
def cD {f:Ab}{fd:Ag}(F:Fun K "is_whole" "is_whole" oX f fd)(T:mG mg fW fI fP fD fPD):zG P w K mg base CX0 1 f fd ["thing"] (xg kr):=by
 refine F.ok zd4 (λvs H Q E h=>?_) (λcdv A outer s H vs Q E hr h=>?_)
 .obtain⟨x,d,rfl,_⟩:=h;rfl
 .obtain⟨x,d,rfl,hd,q⟩:=h;refine⟨_,zI (zP (xq (yK we (by rfl) T.isi zQ0 (zh (pv 0) (zh (vd (v:=.ty "int") (by rfl) T.int boot_int rfl) zy)))
   (xR (bX (yK we (by rfl) T.isi zQ0 (zh (pv 0) (zh (vd (v:=.ty "bool") (by rfl) T.bool boot_bool rfl) zy))))))),?_⟩
  rw[de]at q;refine⟨_,rfl,x,"int",d,_,rfl,hd,zf3 d,_,rfl,?_⟩;refine yX (λh=>?_) (λh=>?_)
  .rw[h,zQ4]at q;exact⟨_,rfl,x,"bool",d,_,rfl,hd,rW d,_,rfl,q⟩
  .rw[zL9.mpr h,zQ5]at q;exact q
def za1 :zo ["thing","lowest","highest"] ["thing","lowest","highest"] (zd pV):=⟨rfl,rfl,rfl,by decide +kernel,rfl,by decide +kernel,by decide +kernel⟩
def eK {f:Ab}{fd a:Ag}(F:Fun K "is_whole_within" "is_whole_within" pV f fd)(T:mG mg fW fI fP fD fPD)(c:Fun K "is_whole" "is_whole" oX fW a)(g:Binds K a ["thing"] []):
  zG P w K mg base CX0 2 f fd ["thing","lowest","highest"] vM:=by
 have e:zG P w K mg base CX0 1 fW a ["thing"] (xg kr):=cD c T;refine F.ok za1 (λvs H Q E h=>?_) (λcdv A outer s H vs Q E hr h=>?_)
 .obtain⟨x,d,lo,hi,rfl,_⟩:=h;rfl
 .obtain⟨x,d,lo,hi,rfl,hd,q⟩:=h;refine⟨_,zI (zP (xq (yb e hr (by rfl) T.whole c.kp g .nil zX (zh (pv 0) zy)) (xR (za6 zc5 zc5 (pv 1) (pv 0) (pv 2))))),?_⟩;refine⟨_,rfl,x,d,rfl,hd,_,rfl,?_⟩;cases hd with
  |int i=>
   have b:Q (.bl (decide (lo<=i)&&decide (i<=hi))) H:=q;refine uv ⟨_,rfl,_,rfl,_,_,rfl,rfl,_,rfl,?_⟩;refine yX (λh=>?_) (λh=>?_)
   .rw[h,zQ4]at b;exact⟨_,rfl,_,_,rfl,rfl,b⟩
   .rw[zL9.mpr h,zQ5]at b;exact b
  |_=>exact vR q
def zw3 :zo ["thing"] ["thing"] (zd aE):=⟨rfl,rfl,rfl,by decide +kernel,rfl,by decide +kernel,by decide +kernel⟩
def zf7 {f:Ab}{fd:Ag}(F:Fun K "is_pair" "is_pair" aE f fd)(T:mG mg fW fI fP fD fPD):zG P w K mg base CX0 1 f fd ["thing"] (xg pairD):=by
 refine F.ok zw3 (λvs H Q E h=>?_) (λcdv A outer s H vs Q E hr h=>?_)
 .obtain⟨x,d,rfl,_⟩:=h;rfl
 .obtain⟨x,d,rfl,hd,q⟩:=h;refine⟨_,zI (zP (xq (yK we (by rfl) T.isi zQ0 (zh (pv 0) (zh (vd (v:=.ty "tuple") (by rfl) T.tuple boot_tuple rfl) zy)))
   (xR (wG vz (yK vw (by rfl) T.len PySem.boot_len (zh (pv 0) zy)) zN (yc _))))),?_⟩
  refine⟨_,rfl,x,"tuple",d,_,rfl,hd,pF d,_,rfl,?_⟩;cases hd with
  |@tup a xs ds e hs=>
   refine uv ⟨_,rfl,a,_,rfl,.inr (SqT.of e),rfl,?_⟩;rw[zi7,hs.length];exact q
  |_=>exact vR q
def zA3 :zo ["thing"] ["thing"] (zd zr1):=⟨rfl,rfl,rfl,by decide +kernel,rfl,by decide +kernel,by decide +kernel⟩
def zo0 {f:Ab}{fd a:Ag}(F:Fun K "is_day" "is_day" zr1 f fd)(T:mG mg fW fI fP fD fPD)(c:zG P w K mg base CX0 2 fI a ["thing","lowest","highest"] vM)(e:PySem.W.keepIn K (.ref fI)=true)(b:Binds K a ["thing","lowest","highest"] []):
  zG P w K mg base CX0 3 f fd ["thing"] (xg tf):=by
 obtain⟨tl,g⟩:=T.last;refine F.ok zA3 (λvs H Q E h=>?_) (λcdv A outer s H vs Q E hr h=>?_)
 .obtain⟨x,d,rfl,_⟩:=h;rfl
 .obtain⟨x,d,rfl,hd,q⟩:=h;refine⟨_,zI (zP (yb c hr (by rfl) T.within e b .nil zX (zh (pv 0) (zh zN (zh (uf (v:=.int 1000000) (by rfl) g ⟨tl,rfl⟩) zy))))),?_⟩;exact⟨_,rfl,x,d,_,_,rfl,hd,q⟩
def zs4 :zo ["thing"] ["thing"] (zd cQ):=⟨rfl,rfl,rfl,by decide +kernel,rfl,by decide +kernel,by decide +kernel⟩
def zi8 {f:Ab}{fd g c:Ag}(F:Fun K "is_pair_of_days" "is_pair_of_days" cQ f fd)(T:mG mg fW fI fP fD fPD)(t:zG P w K mg base CX0 1 fP g ["thing"] (xg pairD))(o:PySem.W.keepIn K (.ref fP)=true)(p:Binds K g ["thing"] [])
  (l:zG P w K mg base CX0 3 fD c ["thing"] (xg tf)) (m:PySem.W.keepIn K (.ref fD)=true) (n:Binds K c ["thing"] []):zG P w K mg base CX0 4 f fd ["thing"] (xg rf):=by
 refine F.ok zs4 (λvs H Q E h=>?_) (λcdv A outer s H vs Q E hr h=>?_)
 .obtain⟨x,d,rfl,_⟩:=h;rfl
 .obtain⟨x,d,rfl,hd,q⟩:=h;have k:zO 1 _:=hr.mono (by decide);refine⟨_,zI (zP (xq (yb t k (by rfl) T.pair o p .nil zX (zh (pv 0) zy))
   (xq (yb l hr (by rfl) T.day m n .nil zX (zh (yJ yV (pv 0) zN (λ_ _=>rfl)) zy))
   (xR (yb l hr (by rfl) T.day m n .nil zX (zh (yJ yV (pv 0) zN (λ_ _=>rfl)) zy)))))),?_⟩
  refine⟨_,rfl,x,d,rfl,hd,_,rfl,?_⟩;refine yX (λh=>?_) (λh=>?_)
  .obtain⟨a,b,rfl⟩:=si h;cases hd with
   |tup e i=>
    cases i with
    |cons ha i=>
     cases i with
     |cons r i=>
      cases i;have j:Q (.bl (tf a&&tf b)) H:=q;refine⟨_,rfl,_,_,0,_,rfl,rfl,SqT.of e,rfl,_,_,rfl,ha,_,rfl,?_⟩;refine yX (λh=>?_) (λh=>?_)
      .rw[h,zQ4]at j;exact⟨_,rfl,_,_,1,_,rfl,rfl,SqT.of e,rfl,_,_,rfl,r,j⟩
      .rw[zL9.mpr h,zQ5]at j;exact j
  .have e:rf d=false:=by
    unfold rf;split
    .exact absurd rfl h
    .rfl
   rw[e]at q;exact q
def fK :zo ["thing"] ["thing"] (zd qj):=⟨rfl,rfl,rfl,by decide +kernel,rfl,by decide +kernel,by decide +kernel⟩
def kT {f:Ab}{fd c:Ag}(F:Fun K "is_stretch" "is_stretch" qj f fd)(T:mG mg fW fI fP fD fPD)(G:zG P w K mg base CX0 4 fPD c ["thing"] (xg rf))(l:PySem.W.keepIn K (.ref fPD)=true)(m:Binds K c ["thing"] []):
  zG P w K mg base CX0 5 f fd ["thing"] (xg yO):=by
 refine F.ok fK (λvs H Q E h=>?_) (λcdv A outer s H vs Q E hr h=>?_)
 .obtain⟨x,d,rfl,_⟩:=h;rfl
 .obtain⟨x,d,rfl,hd,q⟩:=h;refine⟨_,zI (zP (xq (yb G hr (by rfl) T.days l m .nil zX (zh (pv 0) zy))
   (xR (wG zc5 (yJ yV (pv 0) zN (λ_ _=>rfl)) (yJ yV (pv 0) zN (λ_ _=>rfl)) (yc _))))),?_⟩
  refine⟨_,rfl,x,d,rfl,hd,_,rfl,?_⟩;refine yX (λh=>?_) (λh=>?_)
  .obtain⟨a,b,rfl,i⟩:=jy h;unfold yO at q;rw[i]at q;have j:Q (.bl (decide (0<=b-a))) H:=q;have eq1:decide (0<=b-a)=decide (a<=b):=by
    rw[decide_eq_decide];omega
   rw[eq1]at j;cases hd with
   |tup e g=>
    cases g with
    |cons ha g=>
     cases ha;cases g with
     |cons n g=>
      cases n;cases g;exact⟨_,rfl,_,_,0,_,rfl,rfl,SqT.of e,rfl,_,rfl,_,_,1,_,rfl,rfl,SqT.of e,rfl,_,_,rfl,rfl,j⟩
  .rw[rS]at h;unfold yO at q;cases i:oH d with
   |some k=>rw[i]at h;exact absurd rfl h
   |none=>
    rw[i]at q;exact q
end
abbrev gp :An:=inClass (top 22) 0
abbrev bc :An:=inClass (top 22) 2
abbrev oM :An:=inClass (top 23) 0
abbrev jk :An:=inClass (top 24) 0
abbrev zt0 :An:=inClass (top 25) 0
abbrev pM :An:=inClass (top 26) 0
abbrev jj :An:=inClass (top 27) 0
abbrev kK :An:=inClass (top 28) 0
abbrev zb5 :An:=inClass (top 29) 0
abbrev jP :An:=top 31
abbrev oU :An:=top 32
abbrev iu :An:=top 33
abbrev oA :An:=top 34
abbrev aT :An:=top 35
abbrev oZ :An:=top 36
structure kL (mg:Str->Option Ac)(fW fI fP fD fPD fS fC fDl fWo fR fM:Ab)(cs:Cs):Prop where
 d:mG mg fW fI fP fD fPD
 coinsMost:∃t,mg "MOST_COINS"=some (.int 1000000000000 t)
 stretch:mg "is_stretch"=some (.ref fS)
 coins:mg "is_coins"=some (.ref fC)
 deal:mg "is_deal"=some (.ref fDl)
 worth:mg "is_worth"=some (.ref fWo)
 rule:mg "is_rule"=some (.ref fR)
 made:mg "made"=some (.ref fM)
 cPrice:mg "Price"=some (.ref cs.price)
 cCome:mg "Come"=some (.ref cs.come)
 cGo:mg "Go"=some (.ref cs.go)
 cLeast:mg "Least"=some (.ref cs.least)
 cMost:mg "Most"=some (.ref cs.most)
 cDeal:mg "Deal"=some (.ref cs.deal)
 cFee:mg "Fee"=some (.ref cs.fee)
section
variable {P:Ah}{w:Ak}{K:Ae}{mg:Str->Option Ac}{base:Ao}{fW fI fP fD fPD fS fC fDl fWo fR fM:Ab}{cs:Cs}
def zt7 :zo ["self","first","last","worth"] ["self","first","last","worth"] (zd gp):=⟨rfl,rfl,rfl,by decide +kernel,rfl,by decide +kernel,by decide +kernel⟩
def vv {f C fT fE a:Ab}{fd:Ag}(F:Fun K "__init__" "Rule.__init__" gp f fd)(R:vE K C f fT fE a):zG P w K mg base CX0 1 f fd ["self","first","last","worth"] (zp9 C):=by
 refine F.ok zt7 (λvs H Q E h=>?_) (λcdv A outer s H vs Q E hr h=>?_)
 .obtain⟨p,dx,x,y,z,rfl,_⟩:=h;rfl
 .obtain⟨p,dx,x,y,z,rfl,hp,q⟩:=h;refine⟨_,zv (vo (pv 0) (pv 1) rfl) (zv (vo (pv 0) (pv 2) rfl) (zI (vo (pv 0) (pv 3) rfl))),?_⟩;refine⟨_,rfl,_,rfl,p,C,dx,[],rfl,hp,R.cl,R.nf,(by show 0<1000;decide),?_⟩;refine⟨_,rfl,_,rfl,p,C,dx,_,rfl,zk,R.cl,R.nl,(by show 1<1000;decide),?_⟩;refine⟨_,rfl,_,rfl,p,C,dx,xl "last" y (xl "first" x []),rfl,zk,R.cl,R.nw,?_,?_⟩
  .show(if("first":Str)="last" then _ else _:List (Str×V)).length<1000;rw[if_neg (λe=>zc1 e.symm)];show 2<1000
   decide
  .rw[ue,ue];exact q
def ar :zo ["self"] ["self"] (zd oM):=⟨rfl,rfl,rfl,by decide +kernel,rfl,by decide +kernel,by decide +kernel⟩
def zi4 :zo ["self"] ["self"] (zd jk):=⟨rfl,rfl,rfl,by decide +kernel,rfl,by decide +kernel,by decide +kernel⟩
def zB8 :zo ["self"] ["self"] (zd zt0):=⟨rfl,rfl,rfl,by decide +kernel,rfl,by decide +kernel,by decide +kernel⟩
def bF :zo ["self"] ["self"] (zd pM):=⟨rfl,rfl,rfl,by decide +kernel,rfl,by decide +kernel,by decide +kernel⟩
def zl1 :zo ["self"] ["self"] (zd jj):=⟨rfl,rfl,rfl,by decide +kernel,rfl,by decide +kernel,by decide +kernel⟩
def ze4 :zo ["self"] ["self"] (zd kK):=⟨rfl,rfl,rfl,by decide +kernel,rfl,by decide +kernel,by decide +kernel⟩
def zs0 :zo ["self"] ["self"] (zd zb5):=⟨rfl,rfl,rfl,by decide +kernel,rfl,by decide +kernel,by decide +kernel⟩
def eM {f:Ab}{fd:Ag}(F:Fun K "word" "Price.word" oM f fd):zG P w K mg base CX0 1 f fd ["self"] (vP "price"):=by
 refine F.ok ar (λvs H Q E h=>?_) (λcdv A outer s H vs Q E hr h=>?_)
 .obtain⟨p,rfl,_⟩:=h;rfl
 .obtain⟨p,rfl,q⟩:=h;exact⟨_,zI (zP yi),q⟩
def af {f:Ab}{fd:Ag}(F:Fun K "word" "Come.word" jk f fd):zG P w K mg base CX0 1 f fd ["self"] (vP "come"):=by
 refine F.ok zi4 (λvs H Q E h=>?_) (λcdv A outer s H vs Q E hr h=>?_)
 .obtain⟨p,rfl,_⟩:=h;rfl
 .obtain⟨p,rfl,q⟩:=h;exact⟨_,zI (zP yi),q⟩
def zu8 {f:Ab}{fd:Ag}(F:Fun K "word" "Go.word" zt0 f fd):zG P w K mg base CX0 1 f fd ["self"] (vP "go"):=by
 refine F.ok zB8 (λvs H Q E h=>?_) (λcdv A outer s H vs Q E hr h=>?_)
 .obtain⟨p,rfl,_⟩:=h;rfl
 .obtain⟨p,rfl,q⟩:=h;exact⟨_,zI (zP yi),q⟩
def ek {f:Ab}{fd:Ag}(F:Fun K "word" "Least.word" pM f fd):zG P w K mg base CX0 1 f fd ["self"] (vP "least"):=by
 refine F.ok bF (λvs H Q E h=>?_) (λcdv A outer s H vs Q E hr h=>?_)
 .obtain⟨p,rfl,_⟩:=h;rfl
 .obtain⟨p,rfl,q⟩:=h;exact⟨_,zI (zP yi),q⟩
def aU {f:Ab}{fd:Ag}(F:Fun K "word" "Most.word" jj f fd):zG P w K mg base CX0 1 f fd ["self"] (vP "most"):=by
 refine F.ok zl1 (λvs H Q E h=>?_) (λcdv A outer s H vs Q E hr h=>?_)
 .obtain⟨p,rfl,_⟩:=h;rfl
 .obtain⟨p,rfl,q⟩:=h;exact⟨_,zI (zP yi),q⟩
def ag {f:Ab}{fd:Ag}(F:Fun K "word" "Deal.word" kK f fd):zG P w K mg base CX0 1 f fd ["self"] (vP "deal"):=by
 refine F.ok ze4 (λvs H Q E h=>?_) (λcdv A outer s H vs Q E hr h=>?_)
 .obtain⟨p,rfl,_⟩:=h;rfl
 .obtain⟨p,rfl,q⟩:=h;exact⟨_,zI (zP yi),q⟩
def ze8 {f:Ab}{fd:Ag}(F:Fun K "word" "Fee.word" zb5 f fd):zG P w K mg base CX0 1 f fd ["self"] (vP "fee"):=by
 refine F.ok zs0 (λvs H Q E h=>?_) (λcdv A outer s H vs Q E hr h=>?_)
 .obtain⟨p,rfl,_⟩:=h;rfl
 .obtain⟨p,rfl,q⟩:=h;exact⟨_,zI (zP yi),q⟩
def zu9 :zo ["self"] ["self"] (zd bc):=⟨rfl,rfl,rfl,by decide +kernel,rfl,by decide +kernel,by decide +kernel⟩
def zi2 (x y z:V):(vS x y z).lookup ("word":Str)=none:=zj9 x y z (by decide +kernel) (by decide +kernel) (by decide +kernel)
def ve {f C fIn fE a:Ab}{fd b:Ag}{c:Str}(F:Fun K "told" "Rule.told" bc f fd)(R:vE K C fIn f fE a)(d:zG P w K mg base CX0 1 a b ["self"] (vP c))(e:Binds K b ["self"] []):
  zG P w K mg base CX0 2 f fd ["self"] (az C c):=by
 refine F.ok zu9 (λvs H Q E h=>?_) (λcdv A outer s H vs Q E hr h=>?_)
 .obtain⟨p,dx,x,y,z,rfl,_⟩:=h;rfl
 .obtain⟨p,dx,x,y,z,rfl,hp,q⟩:=h;refine⟨_,zI (zP (tP (zh (uQ (pv 0) R.cl R.word d hr e .nil zX) (zh (vI (pv 0) rfl) (zh (vI (pv 0) rfl) (zh (vI (pv 0) rfl) zy)))))),?_⟩;refine⟨_,rfl,p,dx,_,rfl,hp,zi2 _ _ _,p,rfl,?_⟩;exact⟨_,rfl,p,C,dx,_,_,rfl,hp,R.cl,R.nf,iy _ _ _,_,rfl,p,C,dx,_,_,rfl,hp,R.cl,R.nl,fZ _ _ _,_,rfl,p,C,dx,_,_,rfl,hp,R.cl,R.nw,kE _ _ _,(by show 4<=sizeLine;decide),q⟩
def zf1 :zo ["thing"] ["thing"] (zd jP):=⟨rfl,rfl,rfl,by decide +kernel,rfl,by decide +kernel,by decide +kernel⟩
def dU {f:Ab}{fd a:Ag}(F:Fun K "is_coins" "is_coins" jP f fd)(T:kL mg fW fI fP fD fPD fS fC fDl fWo fR fM cs)(c:zG P w K mg base CX0 2 fI a ["thing","lowest","highest"] vM)(e:PySem.W.keepIn K (.ref fI)=true)(b:Binds K a ["thing","lowest","highest"] []):
  zG P w K mg base CX0 3 f fd ["thing"] (xg tW):=by
 obtain⟨tl,g⟩:=T.coinsMost;refine F.ok zf1 (λvs H Q E h=>?_) (λcdv A outer s H vs Q E hr h=>?_)
 .obtain⟨x,d,rfl,_⟩:=h;rfl
 .obtain⟨x,d,rfl,hd,q⟩:=h;refine⟨_,zI (zP (yb c hr (by rfl) T.d.within e b .nil zX (zh (pv 0) (zh zN (zh (uf (v:=.int 1000000000000) (by rfl) g ⟨tl,rfl⟩) zy))))),?_⟩;exact⟨_,rfl,x,d,_,_,rfl,hd,q⟩
def cH :zo ["thing"] ["thing"] (zd oU):=⟨rfl,rfl,rfl,by decide +kernel,rfl,by decide +kernel,by decide +kernel⟩
def dn {f:Ab}{fd i c:Ag}(F:Fun K "is_deal" "is_deal" oU f fd)(T:kL mg fW fI fP fD fPD fS fC fDl fWo fR fM cs)(o:zG P w K mg base CX0 2 fI i ["thing","lowest","highest"] vM)(l:PySem.W.keepIn K (.ref fI)=true)(n:Binds K i ["thing","lowest","highest"] [])
  (y:zG P w K mg base CX0 1 fP c ["thing"] (xg pairD)) (p:PySem.W.keepIn K (.ref fP)=true) (t:Binds K c ["thing"] []):zG P w K mg base CX0 3 f fd ["thing"] (xg qw):=by
 obtain⟨r,hm⟩:=T.d.most;refine F.ok cH (λvs H Q E h=>?_) (λcdv A outer s H vs Q E hr h=>?_)
 .obtain⟨x,d,rfl,_⟩:=h;rfl
 .obtain⟨x,d,rfl,hd,q⟩:=h;have k:zO 1 _:=hr.mono (by decide);refine⟨_,zI (zP (xq (yb y k (by rfl) T.d.pair p t .nil zX (zh (pv 0) zy))
   (xq (yb o hr (by rfl) T.d.within l n .nil zX (zh (yJ yV (pv 0) zN (λ_ _=>rfl)) (zh zN (zh (uf (v:=.int 14) (by rfl) hm ⟨r,rfl⟩) zy))))
   (xR (yb o hr (by rfl) T.d.within l n .nil zX (zh (yJ yV (pv 0) zN (λ_ _=>rfl)) (zh zN (zh (xA bu (yJ yV (pv 0) zN (λ_ _=>rfl)) zN) zy)))))))),?_⟩
  refine⟨_,rfl,x,d,rfl,hd,_,rfl,?_⟩;refine yX (λh=>?_) (λh=>?_)
  .obtain⟨a,b,rfl⟩:=si h;cases hd with
   |tup e g=>
    cases g with
    |cons ha g=>
     cases g with
     |cons u g=>
      cases g;refine⟨_,rfl,_,_,0,_,rfl,rfl,SqT.of e,rfl,_,_,_,_,rfl,ha,_,rfl,?_⟩;cases ha with
      |int m=>
       have j:Q (.bl (yz 2 14 (.int m)&&yz 1 (m-1) b)) H:=q;refine yX (λh=>?_) (λh=>?_)
       .rw[h,zQ4]at j;exact⟨_,rfl,_,_,1,_,rfl,rfl,SqT.of e,rfl,_,rfl,_,_,0,_,rfl,rfl,SqT.of e,rfl,_,_,rfl,rfl,_,_,_,_,rfl,u,j⟩
       .rw[zL9.mpr h,zQ5]at j;exact j
      |_=>exact vR q
  .have e:qw d=false:=by
    unfold qw;split
    .exact absurd rfl h
    .rfl
   rw[e]at q;exact q
def zh0 :zo ["word","thing"] ["word","thing"] (zd iu):=⟨rfl,rfl,rfl,by decide +kernel,rfl,by decide +kernel,by decide +kernel⟩
def aM {f:Ab}{fd k l g:Ag}(F:Fun K "is_worth" "is_worth" iu f fd)(T:kL mg fW fI fP fD fPD fS fC fDl fWo fR fM cs)(M:zG P w K mg base CX0 2 fI k ["thing","lowest","highest"] vM)(I:PySem.W.keepIn K (.ref fI)=true)(J:Binds K k ["thing","lowest","highest"] [])
  (B:zG P w K mg base CX0 3 fC l ["thing"] (xg tW)) (r:PySem.W.keepIn K (.ref fC)=true) (t:Binds K l ["thing"] []) (n:zG P w K mg base CX0 3 fDl g ["thing"] (xg qw)) (p:PySem.W.keepIn K (.ref fDl)=true) (o:Binds K g ["thing"] []):
  zG P w K mg base CX0 4 f fd ["word","thing"] gW:=by
 obtain⟨C,hm⟩:=T.d.most;refine F.ok zh0 (λvs H Q E h=>?_) (λcdv A outer s H vs Q E hr h=>?_)
 .obtain⟨x,y,a,dv,rfl,_⟩:=h;rfl
 .obtain⟨x,y,a,dv,rfl,j,sw,e,q⟩:=h;have m:zO 2 _:=hr.mono (by decide);have i:=hr.units;have st:∀{z:Str},z∈words->SeqAt.shaped (.str z)=true:=λ{z} u=>ir (by
   simp only[words,zI8,zJ7,zM4]at u;rcases u with rfl|rfl|rfl|rfl|rfl|rfl|rfl<;>decide +kernel)
  unfold yp at q
  -- if word == 'price'
  refine yC (λσ H1=>σ=[some x,some y]/\eqS a "price"=false/\H=H1)
   ⟨_,wo (yH (vm i) (pv 0) yi (yc _)) (zI (zP (zn0 (wG ko (pv 1) rk (yc _)) (xR (yb B hr (by rfl) T.coins r t .nil zX (zh (pv 1) zy)))))) yT,?_⟩ ?_
  .refine⟨_,rfl,a,.str "price",j,.str _,sw,st (by simp[words]),_,rfl,?_⟩;refine yX (λh=>?_) (λh=>⟨rfl,zL9.mpr h,rfl⟩);rw[if_pos h]at q;refine⟨_,rfl,rfl,_,rfl,?_⟩;rw[e.non_iff];refine yX (λb=>?_) (λb=>?_)
   .rw[b,Bool.true_or]at q;exact q
   .rw[zL9.mpr b,zW9]at q;exact⟨_,rfl,y,dv,rfl,e,q⟩
  rintro σ H1 ⟨rfl,N,rfl⟩;rw[N,if_neg zJ0]at q
  -- if word == 'come' or word == 'go'
  refine yC (λσ H1=>σ=[some x,some y]/\(eqS a "come"||eqS a "go")=false/\H=H1)
   ⟨_,wo (PW.pt (bh (yH (vm i) (pv 0) yi (yc _)) (jN (yH (vm i) (pv 0) yi (yc _))))) (zI (zP (yK we (by rfl) T.d.isi zQ0 (zh (pv 1) (zh (vd (v:=.ty "bool") (by rfl) T.d.bool boot_bool rfl) zy))))) yT,?_⟩ ?_
  .refine⟨_,rfl,a,.str "come",j,.str _,sw,st (by simp[words]),_,rfl,?_⟩;refine yX (λh=>?_) (λh=>?_)
   .have h':eqS a "come"=true:=h;rw[h',Bool.true_or,if_pos rfl]at q;exact uv ⟨_,rfl,y,"bool",dv,_,rfl,e,rW dv,q⟩
   .have h':eqS a "come"=false:=zL9.mpr h;refine⟨_,rfl,a,.str "go",j,.str _,sw,st (by simp[words]),_,rfl,?_⟩;refine yX (λb=>?_) (λb=>?_)
    .have c:eqS a "go"=true:=b;rw[h',c,zW9,if_pos rfl]at q;exact⟨_,rfl,y,"bool",dv,_,rfl,e,rW dv,q⟩
    .have c:eqS a "go"=false:=zL9.mpr b;exact⟨rfl,by rw[h',c];rfl,rfl⟩
  rintro σ H1 ⟨rfl,D,rfl⟩;rw[D,if_neg zJ0]at q
  -- if word == 'least' or word == 'most'
  refine yC (λσ H1=>σ=[some x,some y]/\(eqS a "least"||eqS a "most")=false/\H=H1)
   ⟨_,wo (PW.pt (bh (yH (vm i) (pv 0) yi (yc _)) (jN (yH (vm i) (pv 0) yi (yc _))))) (zI (zP (yb M m (by rfl) T.d.within I J .nil zX (zh (pv 1) (zh zN (zh (uf (v:=.int 14) (by rfl) hm ⟨C,rfl⟩) zy)))))) yT,?_⟩ ?_
  .refine⟨_,rfl,a,.str "least",j,.str _,sw,st (by simp[words]),_,rfl,?_⟩;refine yX (λh=>?_) (λh=>?_)
   .have h':eqS a "least"=true:=h;rw[h',Bool.true_or,if_pos rfl]at q;exact uv ⟨_,rfl,y,dv,_,_,rfl,e,q⟩
   .have h':eqS a "least"=false:=zL9.mpr h;refine⟨_,rfl,a,.str "most",j,.str _,sw,st (by simp[words]),_,rfl,?_⟩;refine yX (λb=>?_) (λb=>?_)
    .have c:eqS a "most"=true:=b;rw[h',c,zW9,if_pos rfl]at q;exact⟨_,rfl,y,dv,_,_,rfl,e,q⟩
    .have c:eqS a "most"=false:=zL9.mpr b;exact⟨rfl,by rw[h',c];rfl,rfl⟩
  rintro σ H1 ⟨rfl,L,rfl⟩;rw[L,if_neg zJ0]at q
  -- if word == 'deal'
  refine yC (λσ H1=>σ=[some x,some y]/\eqS a "deal"=false/\H=H1)
   ⟨_,wo (yH (vm i) (pv 0) yi (yc _)) (zI (zP (zn0 (wG ko (pv 1) rk (yc _)) (xR (yb n hr (by rfl) T.deal p o .nil zX (zh (pv 1) zy)))))) yT,?_⟩ ?_
  .refine⟨_,rfl,a,.str "deal",j,.str _,sw,st (by simp[words]),_,rfl,?_⟩;refine yX (λh=>?_) (λh=>⟨rfl,zL9.mpr h,rfl⟩);rw[if_pos h]at q;refine⟨_,rfl,rfl,_,rfl,?_⟩;rw[e.non_iff];refine yX (λb=>?_) (λb=>?_)
   .rw[b,Bool.true_or]at q;exact q
   .rw[zL9.mpr b,zW9]at q;exact⟨_,rfl,y,dv,rfl,e,q⟩
  rintro σ H1 ⟨rfl,G,rfl⟩;rw[G,if_neg zJ0]at q;refine⟨_,zI (zP (xq (wG (vm i) (pv 0) yi (yc _)) (xR (yb B hr (by rfl) T.coins r t .nil zX (zh (pv 1) zy))))),?_⟩;refine⟨_,rfl,a,.str "fee",j,.str _,sw,st (by simp[words]),_,rfl,?_⟩;refine yX (λh=>?_) (λh=>?_)
  .have h':eqS a "fee"=true:=h;rw[h',zQ4]at q;exact⟨_,rfl,y,dv,rfl,e,q⟩
  .have h':eqS a "fee"=false:=zL9.mpr h;rw[h',zQ5]at q;exact q
def ai :zo ["thing"] ["thing"] (zd oA):=⟨rfl,rfl,rfl,by decide +kernel,rfl,by decide +kernel,by decide +kernel⟩
def di {f:Ab}{fd c b:Ag}(F:Fun K "is_rule" "is_rule" oA f fd)(T:kL mg fW fI fP fD fPD fS fC fDl fWo fR fM cs)(m:zG P w K mg base CX0 5 fS c ["thing"] (xg yO))(l:PySem.W.keepIn K (.ref fS)=true)(k:Binds K c ["thing"] [])
  (j:zG P w K mg base CX0 4 fWo b ["word","thing"] gW) (o:PySem.W.keepIn K (.ref fWo)=true) (n:Binds K b ["word","thing"] []):zG P w K mg base CX0 6 f fd ["thing"] aV:=by
 refine F.ok ai (λvs H Q E h=>?_) (λcdv A outer s H vs Q E hr h=>?_)
 .obtain⟨x,d,rfl,_⟩:=h;rfl
 .obtain⟨x,d,rfl,hd,r,q⟩:=h;have i:zO 4 _:=hr.mono (by decide);refine⟨_,zI (zP (xq (yK we (by rfl) T.d.isi zQ0 (zh (pv 0) (zh (vd (v:=.ty "tuple") (by rfl) T.d.tuple boot_tuple rfl) zy)))
   (xq (wG vz (yK vw (by rfl) T.d.len PySem.boot_len (zh (pv 0) zy)) zN (yc _))
   (xq (yb m hr (by rfl) T.stretch l k .nil zX (zh (tP (zh (yJ yV (pv 0) zN (λ_ _=>rfl)) (zh (yJ yV (pv 0) zN (λ_ _=>rfl)) zy))) zy))
   (xR (yb j i (by rfl) T.worth o n .nil zX (zh (yJ yV (pv 0) zN (λ_ _=>rfl)) (zh (yJ yV (pv 0) zN (λ_ _=>rfl)) zy)))))))),?_⟩
  refine⟨_,rfl,x,"tuple",d,_,rfl,hd,pF d,_,rfl,?_⟩;cases hd with
  |@tup a xs ds e hs=>
   refine uv ⟨_,rfl,a,_,rfl,.inr (SqT.of e),rfl,_,rfl,?_⟩
   match xs,ds,hs with
   |_,[dw,da,db,dv],.cons (x:=xw) hw (.cons (x:=xa) ha (.cons (x:=xb) hb (.cons (x:=xv) hv .nil)))=>
    refine yX (λ_=>?_) (λh=>absurd rfl h);refine⟨_,rfl,a,_,1,_,rfl,rfl,SqT.of e,rfl,_,rfl,a,_,2,_,rfl,rfl,SqT.of e,rfl,(by show 2<=sizeLine;decide),λp hp=>?_⟩;have s1:zu H (upd H p (.tup [xa,xb])):=zV hp;refine⟨_,.tuple [da,db],rfl,.tup zk (.cons (ha.same s1) (.cons (hb.same s1) .nil)),_,rfl,?_⟩;have g:Q (.bl (yO (.tuple [da,db])&&yp dw dv)) (upd H p (.tup [xa,xb])):=q _ s1;refine yX (λh=>?_) (λh=>?_)
    .rw[h,zQ4]at g;exact⟨_,rfl,a,_,0,_,rfl,rfl,SqT.of (s1 _ _ e),rfl,_,rfl,a,_,3,_,rfl,rfl,SqT.of (s1 _ _ e),rfl,_,_,_,_,rfl,hw.same s1,oW r dw (by simp),hv.same s1,g⟩
    .rw[zL9.mpr h,zQ5]at g;exact g
   |_,[],.nil=>exact yX (λh=>absurd h (by simp)) (λ_=>q H (zu.refl H))
   |_,[_],.cons _ .nil=>exact yX (λh=>absurd h (by simp)) (λ_=>q H (zu.refl H))
   |_,[_,_],.cons _ (.cons _ .nil)=>exact yX (λh=>absurd h (by simp)) (λ_=>q H (zu.refl H))
   |_,[_,_,_],.cons _ (.cons _ (.cons _ .nil))=>exact yX (λh=>absurd h (by simp)) (λ_=>q H (zu.refl H))
   |_,_::_::_::_::_::_,.cons _ (.cons _ (.cons _ (.cons _ (.cons _ _))))=>exact yX (λh=>absurd h (by simp;omega)) (λ_=>q H (zu.refl H))
  |_=>exact vR (q H (zu.refl H))
end
section
variable {P:Ah}{w:Ak}{K:Ae}{mg:Str->Option Ac}{base:Ao}{fW fI fP fD fPD fS fC fDl fWo fR fM:Ab}{cs:Cs}
structure aK (K:Ae)(cs:Cs)(fIn fTo fTe w1 w2 w3 w4 w5 w6 w7:Ab):Prop where
 price:vE K cs.price fIn fTo fTe w1
 come:vE K cs.come fIn fTo fTe w2
 go:vE K cs.go fIn fTo fTe w3
 least:vE K cs.least fIn fTo fTe w4
 most:vE K cs.most fIn fTo fTe w5
 deal:vE K cs.deal fIn fTo fTe w6
 fee:vE K cs.fee fIn fTo fTe w7
def lN (cs:Cs):cs.of "price"=cs.price:=by unfold Cs.of;rw[if_pos rfl]
def gh (cs:Cs):cs.of "come"=cs.come:=by unfold Cs.of;rw[if_neg (by decide +kernel),if_pos rfl]
def zn9 (cs:Cs):cs.of "go"=cs.go:=by unfold Cs.of;rw[if_neg (by decide +kernel),if_neg (by decide +kernel),if_pos rfl]
def mh (cs:Cs):cs.of "least"=cs.least:=by unfold Cs.of;rw[if_neg (by decide +kernel),if_neg (by decide +kernel),if_neg (by decide +kernel),if_pos rfl]
def gf (cs:Cs):cs.of "most"=cs.most:=by unfold Cs.of;rw[if_neg (by decide +kernel),if_neg (by decide +kernel),if_neg (by decide +kernel),if_neg (by decide +kernel),if_pos rfl]
def gO (cs:Cs):cs.of "deal"=cs.deal:=by unfold Cs.of;rw[if_neg (by decide +kernel),if_neg (by decide +kernel),if_neg (by decide +kernel),if_neg (by decide +kernel),if_neg (by decide +kernel),if_pos rfl]
def cq (cs:Cs):cs.of "fee"=cs.fee:=by unfold Cs.of;rw[if_neg (by decide +kernel),if_neg (by decide +kernel),if_neg (by decide +kernel),if_neg (by decide +kernel),if_neg (by decide +kernel),if_neg (by decide +kernel)]
def tR {x y:Str}(h:decide (V.str x=V.str y)=true):x=y:=by
 have:=of_decide_eq_true h;injection this
def tU {x y:Str}(h:¬decide (V.str x=V.str y)=true):x≠y:=λe=>h (by rw[e];exact zQ8 rfl)
def wA {C p dx:Ab}{H:Hp}{x y z:V}{Q:VK}(k:∀(p dx:Ab) (H':Hp),H' p=some (.ins C dx (vS x y z))->H p=none->zu H H'->Q (.ref p) H')(hp:H p=none)(b:H dx=none)(n:dx≠p):
  Q (.ref p) (upd (upd (upd H dx (.own p)) p (.ins C dx [])) p (.ins C dx (vS x y z))):=by
 refine k p dx _ zk hp λa o e=>?_;rw[ue,zm (zq e hp),zm (zq e b)];exact e
def zv6 :zo ["word","first","last","worth"] ["word","first","last","worth"] (zd aT):=⟨rfl,rfl,rfl,by decide +kernel,rfl,by decide +kernel,by decide +kernel⟩
def zg1 {f fIn fTo fTe w1 w2 w3 w4 w5 w6 w7:Ab}{fd d:Ag}(F:Fun K "made" "made" aT f fd)(T:kL mg fW fI fP fD fPD fS fC fDl fWo fR fM cs)(b:aK K cs fIn fTo fTe w1 w2 w3 w4 w5 w6 w7)
  (g:Fun K "__init__" "Rule.__init__" gp fIn d) (i:Binds K d ["self","first","last","worth"] []):zG P w K mg base CX0 3 f fd ["word","first","last","worth"] (aB cs):=by
 refine F.ok zv6 (λvs H Q E h=>?_) (λcdv A outer s H vs Q E hr h=>?_)
 .obtain⟨a,x,y,z,rfl,_⟩:=h;rfl
 .obtain⟨a,x,y,z,rfl,hw,k⟩:=h;refine yC (λσ H1=>σ=[some (.str a),some x,some y,some z]/\a≠"price"/\H=H1)
   ⟨_,wo (yH vz (pv 0) yi (yc _)) (zI (zP (xJ b.price.makes (vv g b.price) hr (by rfl) T.cPrice i .nil zX (zh (pv 1) (zh (pv 2) (zh (pv 3) zy)))))) yT,?_⟩ ?_
  .refine⟨_,rfl,rfl,_,rfl,yX (λh=>?_) (λh=>⟨rfl,tU h,rfl⟩)⟩;rw[tR h,lN]at k;exact⟨_,rfl,_,rfl,_,rfl,λp dx hp c n=>⟨p,dx,_,_,_,rfl,zk,rfl,wA k hp c n⟩⟩
  rintro σ H1 ⟨rfl,n1,rfl⟩;refine yC (λσ H1=>σ=[some (.str a),some x,some y,some z]/\a≠"come"/\H=H1)
   ⟨_,wo (yH vz (pv 0) yi (yc _)) (zI (zP (xJ b.come.makes (vv g b.come) hr (by rfl) T.cCome i .nil zX (zh (pv 1) (zh (pv 2) (zh (pv 3) zy)))))) yT,?_⟩ ?_
  .refine⟨_,rfl,rfl,_,rfl,yX (λh=>?_) (λh=>⟨rfl,tU h,rfl⟩)⟩;rw[tR h,gh]at k;exact⟨_,rfl,_,rfl,_,rfl,λp dx hp c n=>⟨p,dx,_,_,_,rfl,zk,rfl,wA k hp c n⟩⟩
  rintro σ H1 ⟨rfl,n2,rfl⟩;refine yC (λσ H1=>σ=[some (.str a),some x,some y,some z]/\a≠"go"/\H=H1)
   ⟨_,wo (yH vz (pv 0) yi (yc _)) (zI (zP (xJ b.go.makes (vv g b.go) hr (by rfl) T.cGo i .nil zX (zh (pv 1) (zh (pv 2) (zh (pv 3) zy)))))) yT,?_⟩ ?_
  .refine⟨_,rfl,rfl,_,rfl,yX (λh=>?_) (λh=>⟨rfl,tU h,rfl⟩)⟩;rw[tR h,zn9]at k;exact⟨_,rfl,_,rfl,_,rfl,λp dx hp c n=>⟨p,dx,_,_,_,rfl,zk,rfl,wA k hp c n⟩⟩
  rintro σ H1 ⟨rfl,n3,rfl⟩;refine yC (λσ H1=>σ=[some (.str a),some x,some y,some z]/\a≠"least"/\H=H1)
   ⟨_,wo (yH vz (pv 0) yi (yc _)) (zI (zP (xJ b.least.makes (vv g b.least) hr (by rfl) T.cLeast i .nil zX (zh (pv 1) (zh (pv 2) (zh (pv 3) zy)))))) yT,?_⟩ ?_
  .refine⟨_,rfl,rfl,_,rfl,yX (λh=>?_) (λh=>⟨rfl,tU h,rfl⟩)⟩;rw[tR h,mh]at k;exact⟨_,rfl,_,rfl,_,rfl,λp dx hp c n=>⟨p,dx,_,_,_,rfl,zk,rfl,wA k hp c n⟩⟩
  rintro σ H1 ⟨rfl,n4,rfl⟩;refine yC (λσ H1=>σ=[some (.str a),some x,some y,some z]/\a≠"most"/\H=H1)
   ⟨_,wo (yH vz (pv 0) yi (yc _)) (zI (zP (xJ b.most.makes (vv g b.most) hr (by rfl) T.cMost i .nil zX (zh (pv 1) (zh (pv 2) (zh (pv 3) zy)))))) yT,?_⟩ ?_
  .refine⟨_,rfl,rfl,_,rfl,yX (λh=>?_) (λh=>⟨rfl,tU h,rfl⟩)⟩;rw[tR h,gf]at k;exact⟨_,rfl,_,rfl,_,rfl,λp dx hp c n=>⟨p,dx,_,_,_,rfl,zk,rfl,wA k hp c n⟩⟩
  rintro σ H1 ⟨rfl,n5,rfl⟩;refine yC (λσ H1=>σ=[some (.str a),some x,some y,some z]/\a≠"deal"/\H=H1)
   ⟨_,wo (yH vz (pv 0) yi (yc _)) (zI (zP (xJ b.deal.makes (vv g b.deal) hr (by rfl) T.cDeal i .nil zX (zh (pv 1) (zh (pv 2) (zh (pv 3) zy)))))) yT,?_⟩ ?_
  .refine⟨_,rfl,rfl,_,rfl,yX (λh=>?_) (λh=>⟨rfl,tU h,rfl⟩)⟩;rw[tR h,gO]at k;exact⟨_,rfl,_,rfl,_,rfl,λp dx hp c n=>⟨p,dx,_,_,_,rfl,zk,rfl,wA k hp c n⟩⟩
  rintro σ H1 ⟨rfl,n6,rfl⟩;have j:a="fee":=by
   simp only[words,zI8,zJ7,zM4]at hw;rcases hw with e|e|e|e|e|e|e
   .exact absurd e n1
   .exact absurd e n2
   .exact absurd e n3
   .exact absurd e n4
   .exact absurd e n5
   .exact absurd e n6
   .exact e
  rw[j,cq]at k;refine⟨_,zI (zP (xJ b.fee.makes (vv g b.fee) hr (by rfl) T.cFee i .nil zX (zh (pv 1) (zh (pv 2) (zh (pv 3) zy))))),?_⟩;exact⟨_,rfl,_,rfl,_,rfl,λp dx hp c n=>⟨p,dx,_,_,_,rfl,zk,rfl,wA k hp c n⟩⟩
def bz :zo ["thing"] ["thing"] (zd oZ):=⟨rfl,rfl,rfl,by decide +kernel,rfl,by decide +kernel,by decide +kernel⟩
def dM {f:Ab}{fd a c:Ag}(F:Fun K "rule_of" "rule_of" oZ f fd)(T:kL mg fW fI fP fD fPD fS fC fDl fWo fR fM cs)(k:zG P w K mg base CX0 6 fR a ["thing"] aV)(t:PySem.W.keepIn K (.ref fR)=true)(m:Binds K a ["thing"] [])
  (GM:zG P w K mg base CX0 3 fM c ["word","first","last","worth"] (aB cs)) (o:PySem.W.keepIn K (.ref fM)=true) (l:Binds K c ["word","first","last","worth"] []):zG P w K mg base CX0 7 f fd ["thing"] (mH cs):=by
 refine F.ok bz (λvs H Q E h=>?_) (λcdv A outer s H vs Q E hr h=>?_)
 .obtain⟨x,d,rfl,_⟩:=h;rfl
 .obtain⟨x,d,rfl,hd,u,k0,k1⟩:=h;have i:zO 3 _:=hr.mono (by decide);refine yC (λσ H1=>σ=[some x]/\xS d=true/\zu H H1)
   ⟨_,wo (iA (iw (yb k hr (by rfl) T.rule t m .nil zX (zh (pv 0) zy)))) (zI (zP rk)) yT,?_⟩ ?_
  .refine⟨_,rfl,x,d,rfl,hd,u,λH1 s1=>⟨_,rfl,?_⟩⟩;refine yX (λh=>?_) (λh=>?_)
   .exact k0 (by simpa using h) H1 s1
   .exact⟨rfl,by simpa using h,s1⟩
  rintro σ H1 ⟨rfl,j,s1⟩;obtain⟨sw,v,db,dv,b,rfl⟩:=wF j;cases hd with
  |@tup r xs ds e hs=>
   cases hs with
   |@cons xw _ _ _ hw hs=>
    cases hw;cases hs with
    |@cons xa _ _ _ ha hs=>
     cases hs with
     |@cons xb _ _ _ hb hs=>
      cases hs with
      |@cons xv _ _ _ hv hs=>
       cases hs;have g:=s1 _ _ e;refine⟨_,zI (zP (yb GM i (by rfl) T.made o l .nil zX (zh (yJ yV (pv 0) zN (λ_ _=>rfl)) (zh (yJ yV (pv 0) zN (λ_ _=>rfl)) (zh (yJ yV (pv 0) zN (λ_ _=>rfl)) (zh (yJ yV (pv 0) zN (λ_ _=>rfl)) zy)))))),?_⟩;refine⟨_,rfl,r,_,0,_,rfl,rfl,SqT.of g,rfl,_,rfl,r,_,1,_,rfl,rfl,SqT.of g,rfl,_,rfl,r,_,2,_,rfl,rfl,SqT.of g,rfl,_,rfl,r,_,3,_,rfl,rfl,SqT.of g,rfl,sw,_,_,_,rfl,b,λp dx q n hp s2=>?_⟩;exact k1 r sw xa xb xv p dx q rfl j b e n (s1.free hp) (s1.trans s2)
end
abbrev pj :An:=top 40
abbrev yP :An:=inClass (top 39) 0
abbrev um :An:=inClass (top 39) 1
def rj (C:Ab)(a b v:Aa):Aa:=wK C [(.str "first",a),(.str "last",b),(.str "worth",v)]
def wH (cs:Cs):Aa->Aa
 |.tuple [.str w,a,b,v]=>rj (cs.of w) a b v
 |_=>.none
def vA (C:Ab)(cs:Cs)(ds:List Aa):Aa:=wK C [(.str "kept",.list (ds.map (wH cs)))]
def Rules (ds:List Aa):Prop:=∀d∈ds,xS d=true/\SeqAt.shaped d=true/\d.hasDict=false
def vK (cs:Cs):List A->(A->Prop)->Prop:=λas Q=>∃d,as=[.dat d]/\d.hasDict=false/\SeqAt.shaped d=true/\(xS d=false->Q (.dat .none))/\(xS d=true->Q (.dat (wH cs d)))
def kG (cs:Cs):List A->(A->Prop)->Prop:=λas Q=>∃ds,as=[.dat (.list ds)]/\Rules ds/\ds.length<=24/\Q (.own (ds.map (wH cs)))
def vt (C:Ab)(cs:Cs):List A->(A->Prop)->Prop:=λas Q=>∃ds,(as=[.dat (.list ds)]\/(as=[.dat .none]/\ds=[]))/\Rules ds/\ds.length<=24/\Q (.dat (vA C cs ds))
def jA (C:Ab)(w:Str):List A->(A->Prop)->Prop:=λas Q=>∃a b v,as=[.dat (rj C a b v)]/\Q (.dat (.tuple [.str w,a,b,v]))
def uj (C:Ab)(cs:Cs):List A->(A->Prop)->Prop:=λas Q=>∃ds,as=[.dat (vA C cs ds)]/\Rules ds/\ds.length<=1000/\Q (.own ds)
def iS (x y z:V):vS x y z=[(("first":Str),x),(("last":Str),y),(("worth":Str),z)]:=by
 unfold vS;show xl "worth" z (if("first":Str)="last" then _ else _)=_;rw[if_neg (λe=>zc1 e.symm)];show(if("first":Str)="worth" then _ else _)=_;rw[if_neg (λe=>zl8 e.symm)];show _::(if("last":Str)="worth" then _ else _)=_;rw[if_neg (λe=>zm1 e.symm)];rfl
def wm {cs:Cs}{d:Aa}(h:xS d=true):∃(s:Str) (a b v:Aa),s∈words/\d=.tuple [.str s,a,b,v]/\wH cs d=rj (cs.of s) a b v:=by
 obtain⟨s,a,b,v,c,rfl⟩:=wF h;exact⟨s,a,b,v,c,rfl,rfl⟩
def cc :Aq:=match zJ um with
 |[.Return (some (.ListComp _ _ sc _)) _]=>sc
 |_=>zd um
section
variable {P:Ah}{w:Ak}{K:Ae}{mg:Str->Option Ac}{base:Ao}{cs:Cs}
theorem jX {k:Nat}{f:Ab}{fd:Ag}{ps:List Str}(hm:mg "rule_of"=some (.ref f))(hk:PySem.W.keepIn K (.ref f)=true)(D:Binds K fd ps [])(G:zG P w K mg base CX0 k f fd ps (mH cs)):Cal P w K mg base "rule_of" k (vK cs):=by
 refine⟨f,fd,_,hm,hk,D,G.imp λvs H Q E h=>?_⟩;obtain⟨F,as,Q',rfl,t,o,C,⟨d,rfl,nd,sh,n,A⟩,j⟩:=h;obtain⟨x,rfl,av⟩:=C.one;have I:∀{a:Ab},F.H0 a=none->¬F.O0 a:=λ{a} e z=>by
  obtain⟨u,l,_⟩:=o a z;rw[e]at l;cases l
 refine⟨x,d,rfl,(av.dv nd).same wM,sh,λhr H' s=>j _ _ _ (n hr) ⟨t.same s,Kz.of_same s,.non⟩,λr N R O M p dx H' q hr hw he g hp s=>j _ _ _ (A hr) ⟨t.same s,Kz.of_same s,?_⟩⟩;subst q;obtain⟨s',a,b,v,_,rfl⟩:=wF hr;obtain⟨L,xs,J,y,c⟩:=av.tup_inv;cases J;have m:=(zg y).2;rw[he]at m;cases m;have i:zu (sub (λx=>¬F.O0 x) F.H0) (sub (λx=>¬F.O0 x) H'):=zj λa u h e=>⟨h,s _ _ e⟩;cases c with
 |cons g1 c=>
  cases g1.str_inv;cases c with
  |cons g2 c=>
   cases c with
   |cons g3 c=>
    cases c with
    |cons B c=>
     cases c;rw[iS]at g;exact .ins (zw (I hp) g) (.cons (g2.same i) (.cons (g3.same i) (.cons (B.same i) .nil)))
theorem xH {C f fIn fE d:Ab}{fd:Ag}{j:Str}(R:vE K C fIn f fE d)(n:Binds K fd ["self"] [])(G:zG P w K mg base CX0 2 f fd ["self"] (az C j)):sA P w K mg base C "told" 2 (jA C j):=by
 refine⟨f,fd,_,R.cl,R.told,n,G.imp λvs H Q E h=>?_⟩;obtain⟨F,as,Q',rfl,t,o,l,⟨a,b,v,rfl,q⟩,k⟩:=h;obtain⟨x,rfl,av⟩:=l.one;obtain⟨p,dx,fs,rfl,m,c⟩:=av.ins_inv;cases c with
 |cons g1 c=>
  cases c with
  |cons g2 c=>
   cases c with
   |cons g3 c=>
    cases c;refine⟨p,dx,_,_,_,rfl,by rw[iS];exact(zg m).2,λr hr=>k _ _ _ q ⟨t.same (zV hr),Kz.of_same (zV hr),?_⟩⟩;have g:∀o':HO,zu (sub (λx=>¬F.O0 x) F.H0) (sub (λx=>¬F.O0 x) (upd F.H0 r o')):=λo'=>zj λa u h e=>⟨h,by rw[zm (zq e hr)];exact e⟩;refine .tup (zw (λz=>?_) zk) (.cons (.str _) (.cons (g1.same (g _)) (.cons (g2.same (g _)) (.cons (g3.same (g _)) .nil))));obtain⟨u,i,_⟩:=o r z;rw[hr]at i;cases i
def aQ :zo ["things","kept","number","thing","rule"] ["things"] (zd pj):=⟨rfl,rfl,rfl,by decide +kernel,rfl,by decide +kernel,by decide +kernel⟩
def za0 {f:Ab}{fd:Ag}(F:Fun K "kept_rules" "kept_rules" pj f fd)(hm:mg "kept_rules"=some (.ref f))(m:Binds K fd ["things"] [])(nb:NbT mg)(l:∃t,mg "MOST_RULES"=some (.int 24 t))(c:Cal P w K mg base "rule_of" 7 (vK cs)):Cal P w K mg base "kept_rules" 8 (kG cs):=by
 refine rq F hm m aQ (λas Q h=>?_) (λcdv x outer s H E as Q hr h=>?_)
 .obtain⟨ds,rfl,_⟩:=h;rfl
 .obtain⟨ds,rfl,rd,u,q⟩:=h;refine yL 1 aQ.nd (zR (ze (⟨_,rfl,zH7 rfl,?_⟩)));refine vX (pat:=.many [2,3]) zQ1 rfl (yI (n:=2) (K:=K) rfl rfl (yo (zQ (i:=2) aQ.nd rfl (Or.inl rfl)) (yo (zQ (i:=3) aQ.nd rfl (Or.inl rfl)) (yY)))) (sZ (by rfl) nb.enumerate (zc 0 rfl (⟨_,rfl,?_⟩)));refine xr (λi L=>∃v2 g v4,L=[some (.dat (.list ds)),some (.own ((ds.take i).map (wH cs))),v2,g,v4]) ⟨none,none,none,rfl⟩ ?_ ?_
  .rintro i d L hd ⟨v2,g,v4,rfl⟩;obtain⟨e,he,rfl⟩:=wX hd;obtain⟨j,o,k⟩:=rd e (zM6 he);have hi:i<ds.length:=(zH9.mp he).1;refine⟨_,rfl,?_⟩;refine zL 4 aQ.nd (zE c hr (by rfl) (zb (zc 3 rfl (ze (⟨_,rfl,k,o,λz=>(by rw[j]at z;cases z),λ_=>?_⟩)))));refine zM (vf (zc 4 rfl ?_));obtain⟨s',a,b,v,p,rfl,r⟩:=wm (cs:=cs) j;refine vq (λh=>by rw[show(A.dat (wH cs (.tuple [.str s',a,b,v]))).d=rj (cs.of s') a b v from rfl]at h;cases h) (λ_=>zr ?_);refine yS 1 rfl (zc 4 rfl ⟨by rw[zH8,zL8];omega,?_⟩);refine zr ⟨some (.dat (.int ((0+i:Nat):Int))),some (.dat (.tuple [.str s',a,b,v])),some (.dat (wH cs (.tuple [.str s',a,b,v]))),?_⟩;rw[zS2,he,zN6];rfl
  .rintro L ⟨v2,g,v4,rfl⟩;rw[wV,zU8];refine zM (sW 1 rfl (pf (xj (by rfl) nb.len (zc 1 rfl ⟨_,rfl,qf (by rfl) l ⟨_,_,rfl,rfl,?_⟩⟩))));refine va (λh=>?_) (λ_=>zr ?_)
   .rw[zH8]at h;omega
   .exact sL 1 rfl q
def zF8 :zo ["self","rules"] ["self","rules"] (zd yP):=⟨rfl,rfl,rfl,by decide +kernel,rfl,by decide +kernel,by decide +kernel⟩
def fu {c v:Aa}(h:yp c v=true):noL v=true:=by
 have a:∀{lo hi:Int} {x:Aa},yz lo hi x=true->noL x=true:=λ{lo hi x} h=>by
  cases x with
  |int i=>rfl
  |_=>cases h
 have nn:∀{x:Aa},isNone x=true->noL x=true:=λ{x} h=>by
  cases x with
  |none=>rfl
  |_=>cases h
 unfold yp at h;split at h
 .rcases(zS0 _ _).mp h with h|h
  .exact nn h
  .exact a h
 .split at h
  .cases v with
   |bool b=>rfl
   |_=>cases h
  .split at h
   .exact a h
   .split at h
    .rcases(zS0 _ _).mp h with h|h
     .exact nn h
     .unfold qw at h;split at h
      .rw[zL0]at h;simp only[noL,noLs,a h.2,Bool.and_self]
      .cases h
    .rw[zL0]at h;exact a h.2
def mF {s':Str}{a b v:Aa}(h:xS (.tuple [.str s',a,b,v])=true):noL a=true/\noL b=true/\noL v=true:=by
 have h':(yO (.tuple [a,b])&&yp (.str s') v)=true:=h;rw[zL0]at h';refine⟨?_,?_,fu h'.2⟩
 .have:=h'.1;unfold yO oH at this;split at this
  .rename_i k e;split at e
   .rename_i z;cases z;rfl
   .cases e
  .cases this
 .have:=h'.1;unfold yO oH at this;split at this
  .rename_i k e;split at e
   .rename_i z;cases z;rfl
   .cases e
  .cases this
theorem lF {ds:List Aa}(rd:Rules ds):noLs (ds.map (wH cs))=true:=by
 induction ds with
 |nil=>rfl
 |cons d r g=>
  have c:=g λx f=>rd x (zI6 _ f);have e:=(rd d zK2).1;obtain⟨s',a,b,v,j,rfl,h⟩:=wm (cs:=cs) e;obtain⟨i,z2,z3⟩:=mF e;rw[zL7,h];simp only[noLs,c,Bool.and_true];simp[rj,wK,noL,rg,i,z2,z3]
def bK {f C:Ab}{dV:Ac}{fd:Ag}(F:mB K "__init__" "Book.__init__" yP dV f fd)(c:Cls K C)(na:yh K C "kept")(CK:Cal P w K mg base "kept_rules" 8 (kG cs)):zG P w K mg base CX0 9 f fd ["self","rules"] (spI C (vt C cs)):=by
 refine zC0 (N:=[]) F zF8 c na rfl (λas Q h=>?_) (λcdv e outer s H E as Q hr h=>?_) (λ_ _ _ _ _ _=>rfl) (Or.inl rfl)
 .obtain⟨ds,h|⟨h,_⟩,_⟩:=h<;>rw[h]<;>rfl
 .obtain⟨ds,h|⟨h,b⟩,rd,a,q⟩:=h
  .subst h;exact uE CK hr (by rfl) (zb (qC (vf (zc 1 rfl (vR (zc 1 rfl (ze ⟨_,rfl,rd,a,_,rfl,lF rd,q⟩)))))))
  .subst h b;exact uE CK hr (by rfl) (zb (qC (vf (zc 1 rfl (uv (EvL.d (zR (ze ⟨_,rfl,zH7 rfl,ze ⟨[],rfl,rd,a,_,rfl,lF rd,q⟩⟩))))))))
def zE5 :zo ["self"] ["self"] (zd um):=⟨rfl,rfl,rfl,by decide +kernel,rfl,by decide +kernel,by decide +kernel⟩
def zy0 :yk ["self"] (zd um) ["rule"] [none] cc:=⟨rfl,by decide +kernel,by decide +kernel,by decide +kernel,by decide +kernel,rfl,by decide +kernel⟩
def eX {f C:Ab}{fd:Ag}(F:Fun K "rules" "Book.rules" um f fd)(c:Cls K C)(na:yh K C "kept")(o:Binds K fd ["self"] [])(O:∀g∈words,sA P w K mg base (cs.of g) "told" 2 (jA (cs.of g) g)):zG P w K mg base CX0 3 f fd ["self"] (spA (uj C cs)):=by
 refine fnA F zE5 (λas Q h=>?_) (λcdv n outer s H E as Q hr h=>?_)
 .obtain⟨ds,rfl,_⟩:=h;rfl
 .obtain⟨ds,rfl,rd,k,q⟩:=h;refine sI (zm7 (pat:=.one 0) rfl zy0 rfl (λ_ _ _ _=>zQ (i:=0) zy0.nd rfl (Or.inl rfl)) (yq (zo4 c na (zc 0 rfl ⟨_,_,rfl,rfl,⟨_,rfl,by rw[zH8];exact k,?comp⟩⟩))))
  case comp=>
   refine wR (λi acc=>acc=ds.take i) rfl ?_ (λacc h=>?_)
   .rintro i d acc hd rfl;rw[zJ8,zL3]at hd;obtain⟨e,he,rfl⟩:=hd;obtain⟨s',a,b,v,j,rfl,m⟩:=wm (cs:=cs) (rd e (zM6 he)).1;refine⟨_,rfl,λC s2 l fp=>qt ?_⟩;rw[if_pos rfl];refine λC s2 l fp=>lO (O s' j) hr (zc 0 rfl ⟨_,rfl,rfl,_,_,_,rfl,?_⟩);show ds.take i++[_]=ds.take (i+1);rw[zS2,he];rfl
   .rw[zH8,zU8]at h;rw[h];exact q
end
def zk6 :Aa->Aa
 |.tuple [_,_,_,v]=>v
 |_=>.none
structure tM (d:Aa):Prop where
 rule:xS d=true
 nice:yE 20011 d
 dep:d.depth<=2
 wn:yE 5000 (zk6 d)
def zF (ds:List Aa):Prop:=∀d∈ds,tM d
def dB {s:Str}(h:s∈words):yE 2000 (.str s):=by
 simp only[words,zI8,zJ7,zM4]at h;rcases h with rfl|rfl|rfl|rfl|rfl|rfl|rfl<;>exact⟨rfl,rfl,zK6 _,by decide +kernel,by decide +kernel⟩
def tM.of {s:Str}{i j:Int}{d:Aa}(e:s∈words)(g:0<=i)(k:i<=j)(h:j<=1000000)(hw:yp (.str s) d=true)(hn:yE 5000 d)(hd:d.depth<=1):tM (.tuple [.str s,.int i,.int j,d]):=by
 have b:(1000001:Int)<big:=by decide
 have c:-big<(0:Int):=by decide
 have na:yF 5000 [.str s,.int i,.int j,d]:=by
  constructor
  .intro x a;simp only[zI8,zJ7,zM4]at a;rcases a with rfl|rfl|rfl|rfl
   .exact(dB e).mono (by decide)
   .exact(yE.int (by omega) (by omega)).mono (by decide)
   .exact(yE.int (by omega) (by omega)).mono (by decide)
   .exact hn
  .intro x a;simp only[zI8,zJ7,zM4]at a;rcases a with rfl|rfl|rfl|rfl
   .exact zK6 _
   .exact zK6 _
   .exact zK6 _
   .omega
 refine⟨?_,yE.tuple na (by show 4*(5000+2)+3<=20011;decide),?_,hn⟩
 .show(yO (.tuple [.int i,.int j])&&yp (.str s) d)=true;rw[hw,Bool.and_true];unfold yO oH;have f:(tf (.int i)&&tf (.int j))=true:=by
   show((decide (0<=i)&&decide (i<=1000000))&&(decide (0<=j)&&decide (j<=1000000)))=true;simp only[zL0,zN7];omega
  simp only[f,if_true,zN7];omega
 .simp only[PyData.depth,PyData.depthAll];omega
def zF.rules {ds:List Aa}(h:zF ds):Rules ds:=λd hd=>⟨(h d hd).rule,(h d hd).nice.shaped,(h d hd).nice.nod⟩
theorem zF.nice {ds:List Aa}(h:zF ds)(a:ds.length<=100):yE sizeLine (.list ds):=by
 refine yE.list (n:=20011) ⟨λd hd=>(h d hd).nice,λd hd=>by have:=(h d hd).dep;omega⟩ ?_;have b:ds.length*(20011+2)<=100*(20011+2):=zV9 _ a;have c:100*(20011+2)+2<=sizeLine:=by decide
 omega
def zk3 {ds:List Aa}{lo hi:Option Int}{d:Aa}(h:d∈L2.cutD ds lo hi):d∈ds:=by
 unfold L2.cutD at h;exact List.mem_of_mem_drop (zW0 h)
def fX {ds:List Aa}{n:Nat}:(L2.cutD ds none (some (n:Int))).length<=n:=by
 unfold L2.cutD;rw[zL8,HT.pK,HT.rm];omega
abbrev pI :An:=top 74
abbrev pQ :An:=top 75
abbrev jF :An:=top 76
def sq (d:Aa):yp (.str "price") d=(isNone d||tW d):=by unfold yp;rw[if_pos (by decide +kernel)]
def kZ (d:Aa):yp (.str "come") d=isBool d:=by unfold yp;rw[if_neg (by decide +kernel),if_pos (by decide +kernel)]
def aw (d:Aa):yp (.str "go") d=isBool d:=by unfold yp;rw[if_neg (by decide +kernel),if_pos (by decide +kernel)]
def lS (d:Aa):yp (.str "least") d=yz 1 14 d:=by unfold yp;rw[if_neg (by decide +kernel),if_neg (by decide +kernel),if_pos (by decide +kernel)]
def kj (d:Aa):yp (.str "most") d=yz 1 14 d:=by unfold yp;rw[if_neg (by decide +kernel),if_neg (by decide +kernel),if_pos (by decide +kernel)]
def rC (d:Aa):yp (.str "deal") d=(isNone d||qw d):=by unfold yp;rw[if_neg (by decide +kernel),if_neg (by decide +kernel),if_neg (by decide +kernel),if_pos (by decide +kernel)]
def eD (d:Aa):yp (.str "fee") d=tW d:=by
 unfold yp;rw[if_neg (by decide +kernel),if_neg (by decide +kernel),if_neg (by decide +kernel),if_neg (by decide +kernel)];have:eqS (.str "fee") "fee"=true:=by decide +kernel
 rw[this,zQ4]
def within_int {lo hi i:Int}(b:lo<=i)(a:i<=hi):yz lo hi (.int i)=true:=by
 show(decide (lo<=i)&&decide (i<=hi))=true;rw[zQ8 b,zQ8 a];rfl
def wL {i:Int}(h0:-2000000000000<=i)(a:i<=2000000000000):yE 2000 (.int i):=yE.int (by unfold big;omega) (by unfold big;omega)
def iG :List A->(A->Prop)->Prop:=λas Q=>as=[.tape]/\∀z:Int,0<=z->z<=1000000000000->Q (.dat (.int z))
def lD :List A->(A->Prop)->Prop:=λas Q=>∃a,as=[.tape,.dat (.str a)]/\a∈words/\∀d,yp (.str a) d=true->yE 5000 d->d.depth<=1->Q (.dat d)
def iQ :List A->(A->Prop)->Prop:=λas Q=>∃y:Int,as=[.tape,.dat (.int y)]/\0<=y/\y<=1000000/\∀d,tM d->Q (.dat d)
section
variable {P:Ah}{w:Ak}{K:Ae}{mg:Str->Option Ac}{base:Ao}
def zf8 :zo ["_law_row","_law_few","_law_many","_law_great"] ["_law_row"] (zd pI):=⟨rfl,rfl,rfl,by decide +kernel,rfl,by decide +kernel,by decide +kernel⟩
def dE {f:Ab}{fd:Ag}(F:Fun K "_law_coins" "_law_coins" pI f fd)(hm:mg "_law_coins"=some (.ref f))(g:Binds K fd ["_law_row"] [])(CD:Cal P w K mg base "_law_take" 1 wq):Cal P w K mg base "_law_coins" 2 iG:=by
 refine rq F hm g zf8 (λas Q h=>?_) (λcdv l outer s H E as Q hr h=>?_)
 .obtain⟨rfl,_⟩:=h;rfl
 .obtain⟨rfl,q⟩:=h;refine zL 1 zf8.nd (zE CD hr (by rfl) (zB 0 rfl (zb (zf (ze (⟨_,rfl,by decide,by decide,λv1 j g1=>?_⟩))))));refine zL 2 zf8.nd (ou (zf (zE CD hr (by rfl) (zB 0 rfl (zb (zf (ze (⟨_,rfl,by decide,by decide,λv2 i g2=>⟨_,_,rfl,rfl,.inl ⟨by decide,by decide⟩,?_⟩⟩))))))));refine zL 3 zf8.nd (yt (ou (zE CD hr (by rfl) (zB 0 rfl (zb (xE (r:=1000000) ⟨by decide,by decide,by decide⟩ (by decide) (ze (⟨_,rfl,by decide,by decide,λv4 m p=>xE (r:=1000000) ⟨by decide,by decide,by decide⟩ (by decide) (⟨_,_,rfl,rfl,.inr ⟨by decide,by decide⟩,zE CD hr (by rfl) (zB 0 rfl (zb (xE (r:=1000000) ⟨by decide,by decide,by decide⟩ (by decide) (ze (⟨_,rfl,by decide,by decide,λc k g3=>⟨_,_,rfl,rfl,?_⟩⟩)))))⟩)⟩))))))));refine xk (uI (λ_ _=>rfl) (EvL.d (zR (zb (zc 1 rfl (zb (zc 2 rfl (zb (yt (zc 1 rfl (ou (zf (zc 2 rfl (⟨_,_,rfl,rfl,.inl ⟨by decide,by decide⟩,⟨_,_,rfl,rfl,zb (zc 3 rfl (zb (xE (r:=1000000000000) ⟨by decide,by decide,by decide⟩ (by decide) (ze (⟨_,rfl,zH7 rfl,gG (zE CD hr (by rfl) (zB 0 rfl (zb (zf (ze (⟨_,rfl,by decide,by decide,λa o n=>zf (⟨_,_,rfl,rfl,⟨by decide,by decide +kernel⟩,?_⟩)⟩))))))⟩)))))⟩⟩))))))))))))));obtain⟨z,b,e⟩:=tX (ds:=[PyData.int v1,.int (10*v2),.int (v1+10*(10*v2)),.int (v4*1000000+c),.int 1000000000000]) (v:=a / 2) (by omega) (by show a / 2<5;omega);refine⟨_,_,z,rfl,rfl,e,?_⟩;simp only[zI8,zJ7,zM4]at b;rcases b with rfl|rfl|rfl|rfl|rfl
  .exact q _ (by omega) (by omega)
  .exact q _ (by omega) (by omega)
  .exact q _ (by omega) (by omega)
  .exact q _ (by omega) (by omega)
  .exact q _ (by omega) (by omega)
def zd2 :zo ["_law_row","_law_word","_law_many","_law_free","_law_coins_here"] ["_law_row","_law_word"] (zd pQ):=⟨rfl,rfl,rfl,by decide +kernel,rfl,by decide +kernel,by decide +kernel⟩
def aF (s a b:Str):inD (.str s) [.str a,.str b]=(decide (a=s)||decide (b=s)):=by
 show((a == s)||((b == s)||false))=_;rw[Bool.or_false];by_cases d:a=s<;>by_cases c:b=s<;>simp[d,c]
def fk {f:Ab}{fd:Ag}(F:Fun K "_law_worth" "_law_worth" pQ f fd)(hm:mg "_law_worth"=some (.ref f))(D:Binds K fd ["_law_row","_law_word"] [])(CD:Cal P w K mg base "_law_take" 1 wq)(y:Cal P w K mg base "_law_coins" 2 iG):Cal P w K mg base "_law_worth" 3 lD:=by
 refine rq F hm D zd2 (λas Q h=>?_) (λcdv S outer s H E as Q hr h=>?_)
 .obtain⟨k,rfl,_⟩:=h;rfl
 .obtain⟨k,rfl,hw,q⟩:=h;have a:=hr.mono (show 1<=2 by decide);have o:(1000001:Int)<big:=by decide
  refine zM (zl3 (zc 1 rfl (zU (zb (zt (zb (zt (ze (⟨_,rfl,zH7 rfl,⟨_,.inr rfl,rfl,rfl,?_⟩⟩)))))))));rw[aF];refine vq (λg=>?_) (λg=>zr ?_)
  .refine xk (zs8 (zE CD a (by rfl) (zB 0 rfl (zb (zf (ze (⟨_,rfl,by decide,by decide,λv1 O g1=>zf (⟨_,_,rfl,rfl,?_⟩)⟩)))))));refine q _ ?_ ((yE.bool _).mono (by decide)) (zK6 _);simp only[zS0,zN7]at g;rcases g with rfl|rfl
   .rw[kZ];rfl
   .rw[aw];rfl
  simp only[zV4,zR7]at g;refine zM (zl3 (zc 1 rfl (zU (zb (zt (zb (zt (ze (⟨_,rfl,zH7 rfl,⟨_,.inr rfl,rfl,rfl,?_⟩⟩)))))))));rw[aF];refine vq (λc=>?_) (λc=>zr ?_)
  .refine xk (yt (zf (zE CD a (by rfl) (zB 0 rfl (zb (EvD.imp (Q':=λd=>∃z:Int,d=.int z/\0<z/\z<=14) (uI (λ_ _=>rfl) (EvL.d (zR (zb (zf (zb (zf (ze (⟨_,rfl,zH7 rfl,zE CD a (by rfl) (zB 0 rfl (zb (zf (ze (⟨_,rfl,by decide,by decide,λC b g3=>?pick⟩)))))⟩))))))))) ?_))))))
   case pick=>
    obtain⟨z,i,e⟩:=tX (ds:=[PyData.int 4,.int 14]) b g3;refine⟨_,_,z,rfl,rfl,e,?_⟩;simp only[zI8,zJ7,zM4]at i;rcases i with rfl|rfl
    .exact⟨_,rfl,by decide,by decide⟩
    .exact⟨_,rfl,by decide,by decide⟩
   rintro _ ⟨z,rfl,l,I⟩;refine ze ⟨_,rfl,l,by omega,λv2 G g2=>⟨_,_,rfl,rfl,?_⟩⟩;refine q _ ?_ ((wL (by omega) (by omega)).mono (by decide)) (zK6 _);simp only[zS0,zN7]at c;rcases c with rfl|rfl
   .rw[lS];exact within_int (by omega) (by omega)
   .rw[kj];exact within_int (by omega) (by omega)
  simp only[zV4,zR7]at c;refine zM (bQ (zc 1 rfl (zt (⟨_,_,rfl,rfl,?_⟩))));refine vq (λb=>?_) (λb=>zr ?_)
  .rw[zN7]at b;subst b;refine zL 2 zd2.nd (yt (zf (zE CD a (by rfl) (zB 0 rfl (zb (EvD.imp (Q':=λd=>∃z:Int,d=.int z/\0<z/\z<=13) (uI (λ_ _=>rfl) (EvL.d (zR (zb (zf (zb (zf (ze (⟨_,rfl,zH7 rfl,zE CD a (by rfl) (zB 0 rfl (zb (zf (ze (⟨_,rfl,by decide,by decide,λC b g3=>?pick⟩)))))⟩))))))))) ?_))))))
   case pick=>
    obtain⟨z,i,e⟩:=tX (ds:=[PyData.int 3,.int 13]) b g3;refine⟨_,_,z,rfl,rfl,e,?_⟩;simp only[zI8,zJ7,zM4]at i;rcases i with rfl|rfl
    .exact⟨_,rfl,by decide,by decide⟩
    .exact⟨_,rfl,by decide,by decide⟩
   rintro _ ⟨z,rfl,l,I⟩;refine ze ⟨_,rfl,l,by omega,λv4 L M=>⟨_,_,rfl,rfl,?_⟩⟩;refine zL 3 zd2.nd (yt (zf (zE CD a (by rfl) (zB 0 rfl (zb (qp (zc 2 rfl (zf (⟨_,_,rfl,rfl,ze (⟨_,rfl,by omega,by omega,λv6 R N=>⟨_,_,rfl,rfl,?_⟩⟩)⟩)))))))));refine xk (uI (λ_ _=>rfl) (EvL.d (zR (zb (zU (zb (zc 2 rfl (zb (zc 3 rfl (ze (⟨_,rfl,zH7 rfl,zb (zU (zb (zc 2 rfl (zb (zc 3 rfl (ze (⟨_,rfl,zH7 rfl,zb (yD (ze (⟨_,rfl,zH7 rfl,zE CD a (by rfl) (zB 0 rfl (zb (zf (ze (⟨_,rfl,by decide,by decide,λT x B=>?_⟩)))))⟩)))⟩)))))))⟩)))))))))));obtain⟨u,m,e⟩:=tX (ds:=[PyData.tuple [.int (2+v4),.int (1+v6)],.tuple [.int (2+v4),.int (1+v6)],.none]) x B;refine⟨_,_,u,rfl,rfl,e,?_⟩;have dl:Q (.dat (.tuple [.int (2+v4),.int (1+v6)])):=by
    refine q _ ?_ (yE.tuple (n:=2000) (yF.two (wL (by omega) (by omega)) (wL (by omega) (by omega)) (zK6 _) (zK6 _)) (by show 2*(2000+2)+3<=5000;decide)) (zI3 _);rw[rC];show(false||(yz 2 14 (.int (2+v4))&&yz 1 (2+v4-1) (.int (1+v6))))=true;rw[within_int (by omega) (by omega),within_int (by omega) (by omega)];rfl
   simp only[zI8,zJ7,zM4]at m;rcases m with rfl|rfl|rfl
   .exact dl
   .exact dl
   .exact q _ (by rw[rC];rfl) (yE.none.mono (by decide)) (zK6 _)
  rw[zR7]at b;have A:k="price"\/k="fee":=by
   simp only[words,zI8,zJ7,zM4]at hw;rcases hw with z|z|z|z|z|z|z
   .exact .inl z
   .exact absurd z.symm g.1
   .exact absurd z.symm g.2
   .exact absurd z.symm c.1
   .exact absurd z.symm c.2
   .exact absurd z b
   .exact .inr z
  refine zL 4 zd2.nd (zE y hr (by rfl) (zB 0 rfl (ze (⟨rfl,λr p v=>?_⟩))));have last:Q (.dat (.int r)):=by
   refine q _ ?_ ((wL (by omega) (by omega)).mono (by decide)) (zK6 _);rcases A with rfl|rfl
   .rw[sq];show(false||yz 0 1000000000000 (.int r))=true;rw[within_int p v];rfl
   .rw[eD];exact within_int p v
  refine zM (EvW.t (ku (bQ (zc 1 rfl (zt (⟨_,_,rfl,rfl,?_⟩))))));refine yX (λj=>?_) (λj=>?_)
  .rw[zN7]at j;subst j;refine oh (zq0 (zE CD a (by rfl) (zB 0 rfl (zb (zf (ze (⟨_,rfl,by decide,by decide,λU j J=>zf (⟨_,_,rfl,rfl,?_⟩)⟩)))))));refine va (λ_=>xk (yD ?_)) (λ_=>zr (xk (zc 4 rfl last)));exact q _ (by rw[sq];rfl) (yE.none.mono (by decide)) (zK6 _)
  .exact vq (λz=>nomatch z) (λ_=>zr (xk (zc 4 rfl last)))
def zb3 :zo ["_law_row","_law_day","_law_word","_law_ahead","_law_first","_law_last"] ["_law_row","_law_day"] (zd jF):=⟨rfl,rfl,rfl,by decide +kernel,rfl,by decide +kernel,by decide +kernel⟩
def cx {f:Ab}{fd:Ag}(F:Fun K "_law_rule" "_law_rule" jF f fd)(hm:mg "_law_rule"=some (.ref f))(u:Binds K fd ["_law_row","_law_day"] [])(nb:NbT mg)(CD:Cal P w K mg base "_law_take" 1 wq)(t:Cal P w K mg base "_law_worth" 3 lD):Cal P w K mg base "_law_rule" 4 iQ:=by
 refine rq F hm u zb3 (λas Q h=>?_) (λcdv S outer s H E as Q hr h=>?_)
 .obtain⟨y,rfl,_⟩:=h;rfl
 .obtain⟨y,rfl,V,C,q⟩:=h;have a:=hr.mono (show 1<=3 by decide);refine zL 2 zb3.nd (EvD.imp (Q':=λd=>∃x,d=.str x/\x∈words) (uI (λ_ _=>rfl) (EvL.d (zR (zb (zt (zb (zt (zb (zt (zb (zt (zb (zt (zb (zt (zb (zt (zb (zt (zb (zt (ze (⟨_,rfl,zH7 rfl,zE CD a (by rfl) (zB 0 rfl (zb (zf (ze (⟨_,rfl,by decide,by decide,λv1 n g1=>?pick⟩)))))⟩))))))))))))))))))))))) ?_)
  case pick=>
   obtain⟨z,b,e⟩:=tX (ds:=[PyData.str "price",.str "price",.str "price",.str "come",.str "go",.str "least",.str "most",.str "deal",.str "fee"]) n g1;refine⟨_,_,z,rfl,rfl,e,?_⟩;simp only[zI8,zJ7,zM4]at b;rcases b with rfl|rfl|rfl|rfl|rfl|rfl|rfl|rfl|rfl<;>exact⟨_,rfl,by simp[words]⟩
  rintro _ ⟨i,rfl,hw⟩;refine zL 3 zb3.nd (EvD.imp (Q':=λd=>∃z:Int,d=.int z) (uI (λ_ _=>rfl) (EvL.d (zR (zb (qp (zE CD a (by rfl) (zB 0 rfl (zb (zf (ze (⟨_,rfl,by decide,by decide,λv4 G I=>zf (⟨_,_,rfl,rfl,zb (zE CD a (by rfl) (zB 0 rfl (zb (zf (ze (⟨_,rfl,by decide,by decide,λp R g3=>zb (jz (zc 1 rfl (⟨_,rfl,zb (zf (ze (⟨_,rfl,zH7 rfl,zE CD a (by rfl) (zB 0 rfl (zb (zf (ze (⟨_,rfl,by decide,by decide,λv2 l g2=>?pick⟩)))))⟩)))⟩)))⟩))))))⟩)⟩))))))))))) ?_)
  case pick=>
   obtain⟨z,b,e⟩:=tX (ds:=[PyData.int (v4-3),.int p,.int (-y),.int 0]) l g2;refine⟨_,_,z,rfl,rfl,e,?_⟩;simp only[zI8,zJ7,zM4]at b;rcases b with rfl|rfl|rfl|rfl<;>exact⟨_,rfl⟩
  rintro _ ⟨g,rfl⟩;refine tH (λL=>∃fi:Int,0<=fi/\fi<=1000000/\L=[some .tape,some (.dat (.int y)),some (.dat (.str i)),some (.dat (.int g)),some (.dat (.int fi)),none]) ?_ ?_
  .refine zL 4 zb3.nd (kJ rfl (by rfl) nb.min (xE (r:=1000000) ⟨by decide,by decide,by decide⟩ (by decide) (bH rfl (by rfl) nb.max (zf (yt (zc 1 rfl (zc 3 rfl (⟨_,_,rfl,rfl,⟨_,_,rfl,rfl,⟨_,_,rfl,rfl,zr ⟨_,?_,?_,rfl⟩⟩⟩⟩))))))))
   .split<;>split<;>omega
   .split<;>split<;>omega
  rintro L ⟨fi,f0,f1,rfl⟩;refine tH (λL=>∃c:Int,fi<=c/\L=[some .tape,some (.dat (.int y)),some (.dat (.str i)),some (.dat (.int g)),some (.dat (.int fi)),some (.dat (.int c))]) ?_ ?_
  .refine zL 5 zb3.nd (yt (zc 4 rfl (EvD.imp (Q':=λd=>∃z:Int,d=.int z/\0<=z) (uI (λ_ _=>rfl) (EvL.d (zR (zb (zf (zb (zE CD a (by rfl) (zB 0 rfl (zb (zf (ze (⟨_,rfl,by decide,by decide,λv D N=>zb (zE CD a (by rfl) (zB 0 rfl (zb (zf (ze (⟨_,rfl,by decide,by decide,λv6 O J=>zb (zf (zb (xE (r:=1000000) ⟨by decide,by decide,by decide⟩ (by decide) (ze (⟨_,rfl,zH7 rfl,zE CD a (by rfl) (zB 0 rfl (zb (zf (ze (⟨_,rfl,by decide,by decide,λU A j=>?pick⟩)))))⟩)))))⟩))))))⟩)))))))))))) ?_)))
   case pick=>
    obtain⟨z,b,e⟩:=tX (ds:=[PyData.int 0,.int v,.int v6,.int 60,.int 1000000]) A j;refine⟨_,_,z,rfl,rfl,e,?_⟩;simp only[zI8,zJ7,zM4]at b;rcases b with rfl|rfl|rfl|rfl|rfl<;>exact⟨_,rfl,by omega⟩
   rintro _ ⟨z,rfl,M⟩;exact⟨_,_,rfl,rfl,zr ⟨fi+z,by omega,rfl⟩⟩
  rintro L ⟨c,B,rfl⟩;refine xk (zU (zb (zc 2 rfl (zb (zc 4 rfl (zb (kJ rfl (by rfl) nb.min (xE (r:=1000000) ⟨by decide,by decide,by decide⟩ (by decide) (zc 5 rfl (⟨_,_,rfl,rfl,zb (zE t hr (by rfl) (zB 0 rfl (zb (zc 2 rfl (ze (⟨_,rfl,hw,λT o k m=>ze (⟨_,rfl,zH7 rfl,?_⟩)⟩))))))⟩))))))))));refine q _ (tM.of hw f0 ?_ ?_ o k m)
  .split<;>omega
  .split<;>omega
end
end K81
set_option compiler.extract_closed false
set_option compiler.extract_closed false
set_option hygiene false in
local macro_rules
 |`(tactic| exists $f,$a)=>`(tactic| first|refine $f 0 $a ?_|refine $f 1 $a ?_|refine $f 2 $a ?_|refine $f 3 $a ?_|refine $f 4 $a ?_|refine $f 5 $a ?_|refine $f 6 $a ?_|refine $f 7 $a ?_|refine $f 8 $a ?_|refine $f 9 $a ?_|refine $f 10 $a ?_|refine $f 11 $a ?_|refine $f 12 $a ?_|refine $f 13 $a ?_|refine $f 14 $a ?_|refine $f 15 $a ?_|refine $f 16 $a ?_|refine $f 17 $a ?_)
set_option hygiene false in
local macro_rules
 |`(tactic| and_intros)=>`(tactic| repeat (first
  |((with_reducible show EvD _ _ _ _);first
   |((with_reducible show EvD _ _ (.Name _ _) _);exists zc,rfl)
   |((with_reducible show EvD _ _ (.Call (.Name "str" _) _ _ _) _);refine ev_strI (by rfl) nb.str ?_)
   |((with_reducible show EvD _ _ (.Call (.Name "len" _) [.Name "_law_word" _] _ _) _);refine ev_lenS (by rfl) nb.len ?_)
   |((with_reducible show EvD _ _ (.Call (.Name "len" _) [.Name "_law_text" _] _ _) _);refine ev_lenS (by rfl) nb.len ?_)
   |((with_reducible show EvD _ _ (.Call (.Name "tuple" _) _ _ _) _);refine ev_tupL (by rfl) nb.tuple ?_)
   |((with_reducible show EvD _ _ (.Call (.Attribute _ "join" _) _ _ _) _);refine gq ?_)
   |((with_reducible show EvD _ _ (.Call (.Attribute _ "split" _) _ _ _) _);refine EvL.d (el_split ?_))
   |((with_reducible show EvD _ _ (.Constant _ _ _) _);first|with_reducible refine zf ?_|with_reducible refine zt ?_|with_reducible refine pE ?_|with_reducible refine yD ?_)
   |((with_reducible show EvD _ _ (.BinOp (.Constant (.int 10) _ _) .Pow (.Constant (.int 6) _ _) _) _);refine xE (r:=1000000) ⟨by decide,by decide,by decide⟩ (by decide) ?_)
   |((with_reducible show EvD _ _ (.BinOp (.Constant (.int 10) _ _) .Pow (.Constant (.int 12) _ _) _) _);refine xE (r:=1000000000000) ⟨by decide,by decide,by decide⟩ (by decide) ?_)
   |((with_reducible show EvD _ _ (.BinOp (.Constant (.int 10) _ _) .Pow (.Constant (.int 9) _ _) _) _);refine xE (r:=1000000000) ⟨by decide,by decide,by decide⟩ (by decide) ?_)
   |((with_reducible show EvD _ _ (.BinOp (.Constant (.int 10) _ _) .Pow (.Constant (.int 11) _ _) _) _);refine xE (r:=100000000000) ⟨by decide,by decide,by decide⟩ (by decide) ?_)
   |((with_reducible show EvD _ _ (.BinOp _ .Add (.List _ _) _) _);refine EvL.d (xF ?_))
   |((with_reducible show EvD _ _ (.BinOp (.List _ _) .Add _ _) _);refine EvL.d (xF ?_))
   |((with_reducible show EvD _ _ (.BinOp (.Subscript _ (.Slice _ _ none _) _) .Add _ _) _);refine EvL.d (xF ?_))
   |((with_reducible show EvD _ _ (.BinOp _ .Add (.Subscript _ (.Slice _ _ none _) _) _) _);refine EvL.d (xF ?_))
   |((with_reducible show EvD _ _ (.BinOp (.Call (.Attribute _ "rules" _) _ _ _) .Add _ _) _);refine EvL.d (xF ?_))
   |with_reducible refine yt ?_
   |with_reducible refine qp ?_
   |with_reducible refine jC ?_
   |with_reducible refine gG ?_
   |with_reducible refine ou ?_
   |with_reducible refine ev_shl ?_
   |with_reducible refine jz ?_
   |with_reducible refine cT ?_
   |with_reducible refine zU ?_
   |((with_reducible show EvD _ _ (.Subscript _ (.Slice _ _ none _) _) _);refine EvL.d (qg ?_))
   |((with_reducible show EvD _ _ (.Subscript _ _ _) _);refine zx hr.one (fun _ _=>rfl) ?_)
   |((with_reducible show EvD _ _ (.List _ _) _);refine EvL.d (zR ?_))
   |((with_reducible show EvD _ _ (.Call (.Name "len" _) [.Call (.Name "set" _) _ _ _] _ _) _);refine ev_lenSet rfl (by rfl) nb.len (by rfl) (by assumption) ?_)
   |((with_reducible show EvD _ _ (.Call (.Name "len" _) _ _ _) _);refine xj (by rfl) nb.len ?_)
   |((with_reducible show EvD _ _ (.Call (.Name "min" _) [_,_] _ _) _);refine kJ rfl (by rfl) nb.min ?_)
   |((with_reducible show EvD _ _ (.Call (.Name "max" _) [_,_] _ _) _);refine bH rfl (by rfl) nb.max ?_)
   |((with_reducible show EvD _ _ (.Call (.Name "list" _) _ _ _) _);refine EvL.d (sS (by rfl) nb.list ?_))
   |((with_reducible show EvD _ _ (.Call (.Name "repr" _) _ _ _) _);refine ev_repr hr.gd hr.units (by rfl) nb.repr ?_)
   |((with_reducible show EvD _ _ (.Call (.Name "min" _) [_] _ _) _);refine ev_minI rfl hr.few (by rfl) nb.min ?_)
   |((with_reducible show EvD _ _ (.Call (.Name "isinstance" _) _ _ _) _);first|refine uN (by rfl) nb.isinstance (by rfl) nb.int boot_int ?_|refine uN (by rfl) nb.isinstance (by rfl) nb.bool boot_bool ?_|refine uN (by rfl) nb.isinstance (by rfl) nb.str boot_str ?_|refine uN (by rfl) nb.isinstance (by rfl) nb.list boot_list ?_|refine uN (by rfl) nb.isinstance (by rfl) nb.tuple boot_tuple ?_)
   |((with_reducible show EvD _ _ (.Call (.Name "int" _) _ _ _) _);refine ev_intT (by rfl) nb.int ?_)
   |((with_reducible show EvD _ _ (.Call (.Name _ _) _ _ _) _);first|refine zd3 (by with_reducible assumption) (by exact⟨rfl,rfl,rfl,rfl,rfl⟩) (hr.mono (by decide)) (by rfl) ?_|refine EvN.d (cE (by with_reducible assumption) (by exact⟨rfl,rfl,rfl,rfl,rfl⟩) (hr.mono (by decide)) (by rfl) ?_))
   |((with_reducible show EvD _ _ (.Call (.Attribute _ _ _) (_::_) _ _) _);refine ay (by with_reducible assumption) (by exact⟨rfl,rfl,rfl,rfl,rfl⟩) (hr.mono (by decide)) ?_)
   |((with_reducible show EvD _ _ (.Call (.Attribute _ _ _) [] _ _) _);refine eY (by with_reducible assumption) (by exact⟨rfl,rfl,rfl,rfl,rfl⟩) (hr.mono (by decide)) ?_)
   |((with_reducible show EvD _ _ (.Compare _ [_] _ _) _);first|with_reducible refine ev_lt ?_|with_reducible refine ev_le ?_|with_reducible refine ev_gt ?_|with_reducible refine ev_ge ?_|with_reducible refine ev_isN ?_|with_reducible refine ev_notN ?_|((with_reducible show EvD _ _ (.Compare _ [.Eq] _ _) _);refine uK hr.units ?_)|((with_reducible show EvD _ _ (.Compare _ [.NotEq] _ _) _);refine ev_nek hr.units ?_)|((with_reducible show EvD _ _ (.Compare _ [.In] _ _) _);refine ev_ink hr.one ?_)|((with_reducible show EvD _ _ (.Compare _ [.NotIn] _ _) _);refine ev_nink hr.one ?_)|((with_reducible show EvD _ _ (.Compare _ [.Is] [.Constant (.bool _) _ _] _) _);refine ev_isT ?_))
   |((with_reducible show EvD _ _ (.Compare _ [_,_] _ _) _);first|refine ev_lelt ?_|refine ev_ltle ?_|refine ev_lele' ?_)
   |((with_reducible show EvD _ _ (.BoolOp _ _ _) _);first|with_reducible refine nI ?_|with_reducible refine ev_or ?_|with_reducible refine og ?_)
   |with_reducible refine qC ?_)
  |((with_reducible show EvA _ _ _ _);first
   |with_reducible refine ze ?_
   |((with_reducible show EvA _ _ (.Name "_law_row" _::_) _);exists zB,rfl)
   |refine zb ?_)
  |((with_reducible show EvT _ _ _ _);first
   |((with_reducible show EvT _ _ (.Compare _ [_] _ _) _);first|with_reducible refine zn2 ?_|with_reducible refine et_le ?_|with_reducible refine pf ?_|with_reducible refine zm0 ?_|with_reducible refine vf ?_|with_reducible refine et_notN ?_|((with_reducible show EvT _ _ (.Compare _ [.Eq] _ _) _);refine zZ hr.units ?_)|((with_reducible show EvT _ _ (.Compare _ [.NotEq] _ _) _);refine vG hr.units ?_)|((with_reducible show EvT _ _ (.Compare _ [.In] _ _) _);refine et_ink hr.one ?_)|((with_reducible show EvT _ _ (.Compare _ [.NotIn] _ _) _);refine oO hr.one ?_)|((with_reducible show EvT _ _ (.Compare _ [.Is] [.Constant (.bool _) _ _] _) _);refine et_isT ?_)|((with_reducible show EvT _ _ (.Compare _ [.IsNot] [.Constant (.bool _) _ _] _) _);refine et_isntB ?_))
   |((with_reducible show EvT _ _ (.Compare _ [_,_] _ _) _);first|refine et_lelt ?_|refine et_ltle ?_|refine et_lele' ?_)
   |with_reducible refine vj ?_
   |((with_reducible show EvT _ _ (.BoolOp _ _ _) _);with_reducible refine EvW.t ?_)
   |refine et_truth ?_)
  |((with_reducible show EvL _ _ _ _);first
   |with_reducible refine zR ?_
   |((with_reducible show EvL _ _ (.Call (.Name "list" _) _ _ _) _);refine sS (by rfl) nb.list ?_)
   |((with_reducible show EvL _ _ (.Call (.Name _ _) _ _ _) _);refine el_calR (by with_reducible assumption) (by exact⟨rfl,rfl,rfl,rfl,rfl⟩) (hr.mono (by decide)) (by rfl) ?_)
   |((with_reducible show EvL _ _ (.Call (.Attribute _ _ _) [] _ _) _);refine el_meth0R (by with_reducible assumption) (by exact⟨rfl,rfl,rfl,rfl,rfl⟩) (hr.mono (by decide)) ?_)
   |((with_reducible show EvL _ _ (.Subscript _ (.Slice _ _ none _) _) _);refine qg ?_)
   |((with_reducible show EvL _ _ (.BinOp _ .Add _ _) _);refine xF ?_))
  |((with_reducible show EvW _ _ _ _);first
   |with_reducible refine ku ?_
   |with_reducible refine rZ ?_
   |with_reducible refine oh ?_
   |with_reducible refine uB ?_)
  |((with_reducible show EvO _ _ _ _);first
   |with_reducible refine xT ?_
   |with_reducible refine xY ?_)
  |((with_reducible show zc9 _ _ _);first
   |refine ixk rfl rfl rfl ?_
   |refine ixk_0 ?_
   |refine ixk_1 ?_)
  |((with_reducible show zu2 _ _ _ _);first
   |refine ink rfl rfl ?_
   |refine ink_hind ?_
   |refine inkT rfl rfl ?_)
  |((with_reducible show qM _ _ _);first
   |with_reducible refine sV ?_
   |with_reducible refine iM ?_
   |with_reducible refine eqk_bool ?_
   |refine eqk rfl rfl rfl rfl ?_)
  |((with_reducible show SvS _ _ _ _);first
   |((with_reducible show SvS _ (List.set _ _ _) _ _);dsimp only[List.set])
   |((with_reducible show SvS _ _ (zJ _) _);show SvS _ _ (_::_) _)
   |((with_reducible show SvS _ _ (.Assign [.Name _ _] (.List [] _) _::_) _);exists yL,nd)
   |((with_reducible show SvS _ _ (.Assign [.Name _ _] _ _::_) _);exists zL,nd)
   |((with_reducible show SvS _ _ (.Expr (.Call (.Attribute _ "append" _) _ _ _) _::_) _);exists yS,rfl)
   |((with_reducible show SvS _ _ (.Return (some (.Name _ _)) _::_) _);exists sL,rfl)
   |with_reducible refine xk ?_
   |with_reducible refine sv_cont ?_
   |with_reducible refine sv_pass ?_
   |with_reducible refine zM ?_
   |with_reducible refine zr ?_
   |((with_reducible refine yG ?hk ?_);case hk=>first|rfl|decide +kernel)
   |((with_reducible refine zK ?hk ?_);case hk=>first|rfl|decide +kernel))
  |((with_reducible show wq _ _);refine⟨_,rfl,by first|decide|omega,by first|decide|(show _<big;unfold big;omega),fun _ _ _=>?_⟩)
  |((with_reducible refine rh ?hk ?_);case hk=>first|rfl|decide +kernel)
  |((with_reducible refine tj ?hk ?_);case hk=>first|rfl|decide +kernel)
  |refine⟨_,_,rfl,rfl,?_⟩
  |refine⟨_,_,_,rfl,rfl,rfl,?_⟩
  |refine⟨_,rfl,zH7 rfl,?_⟩
  |refine⟨_,rfl,rfl,?_⟩
  |refine⟨_,rfl,?_⟩))
namespace K81
open PySem PySem.Spec PyProof.Rows L2
abbrev kh :An:=top 41
def zF.app {ds a:List Aa}(h:zF ds)(h':zF a):zF (ds++a):=λd hd=>(zM9.mp hd).elim (h d) (h' d)
def ky (C:Ab)(cs:Cs):List A->(A->Prop)->Prop:=λas Q=>∃ds a,as=[.dat (vA C cs ds),.dat (vA C cs a)]/\zF ds/\zF a/\ds.length+a.length<=24/\Q (.dat (vA C cs (ds++a)))
section
variable {P:Ah}{w:Ak}{K:Ae}{mg:Str->Option Ac}{base:Ao}{cs:Cs}
def zA6 :zo ["elder","newer"] ["elder","newer"] (zd kh):=⟨rfl,rfl,rfl,by decide +kernel,rfl,by decide +kernel,by decide +kernel⟩
def bt {f C:Ab}{fd:Ag}(F:Fun K "laid" "laid" kh f fd)(hm:mg "laid"=some (.ref f))(c:Binds K fd ["elder","newer"] [])(CK:rL P w K mg base "Book" 9 [] (vt C cs))(d:sA P w K mg base C "rules" 3 (uj C cs)):Cal P w K mg base "laid" 11 (ky C cs):=by
 refine rq F hm c zA6 (λas Q h=>?_) (λcdv e outer s H E as Q hr h=>?_)
 .obtain⟨ds,a,rfl,_⟩:=h;rfl
 .obtain⟨ds,a,rfl,rd,re,b,q⟩:=h;have nd:=zA6.nd;and_intros;refine⟨rd.rules,by omega,?_⟩;and_intros;refine⟨re.rules,by omega,ds,a,rfl,rfl,by omega,?_⟩;and_intros;exact⟨ds++a,.inl rfl,(rd.app re).rules,by rw[zI1];exact b,q⟩
end
def gQ (CT:Ab):List A->(A->Prop)->(Aa->Prop)->Prop:=λas _ q=>∃ds,as=[.dat (.list ds)]/\Rules ds/\24<ds.length/\ds.length<=900/\q (xD0 CT)
def sF (CT:Ab):List A->(Aa->Prop)->Prop:=λas q=>∃ds,as=[.dat (.list ds)]/\Rules ds/\24<ds.length/\ds.length<=900/\q (xD0 CT)
section
variable {P:Ah}{w:Ak}{K:Ae}{mg:Str->Option Ac}{base:Ao}{cs:Cs}
def gB :zo ((["things","kept","number","thing","rule"]:List Str)++[("":Str)]) ["things"] (zd pj):=⟨rfl,rfl,rfl,by decide +kernel,rfl,by decide +kernel,by decide +kernel⟩
def dm {f CT:Ab}{fd:Ag}(F:Fun K "kept_rules" "kept_rules" pj f fd)(hm:mg "kept_rules"=some (.ref f))(x:Binds K fd ["things"] [])(nb:NbT mg)(m:∃t,mg "MOST_RULES"=some (.int 24 t))(g:Cal P w K mg base "rule_of" 7 (vK cs))(p:oi K mg "TooMany" CT):pS P w K mg base "kept_rules" 8 (gQ CT):=by
 refine zr3 F hm x gB (by decide) (λas Q q h=>?_) (λcdv I outer s H E as Q q r xe hr h l=>?_)
 .obtain⟨ds,rfl,_⟩:=h;rfl
 .obtain⟨ds,rfl,rd,G,B,o⟩:=h;have nd:=gB.nd;refine yL 1 nd (zR (ze (⟨_,rfl,zH7 rfl,?_⟩)));refine vX (pat:=.many [2,3]) l.own rfl (yI (n:=2) (K:=K) rfl rfl (yo (zQ (i:=2) nd rfl (Or.inl rfl)) (yo (zQ (i:=3) nd rfl (Or.inl rfl)) (yY)))) (sZ (by rfl) nb.enumerate (zc 0 rfl (⟨_,rfl,?_⟩)));refine xr (λi L=>∃v2 c v4,L=[some (.dat (.list ds)),some (.own ((ds.take i).map (wH cs))),v2,c,v4,some (.exc r λ_=>True)]/\noE [v2,c,v4]=true) ⟨none,none,none,rfl,rfl⟩ ?_ ?_
  .rintro i d L hd ⟨v2,c,v4,rfl,ne⟩;obtain⟨e,he,rfl⟩:=wX hd;obtain⟨k,y,u⟩:=rd e (zM6 he);have hi:i<ds.length:=(zH9.mp he).1;refine⟨_,rfl,?_⟩;refine zL 4 nd (zE g hr (by rfl) (zb (zc 3 rfl (ze (⟨_,rfl,u,y,λz=>(by rw[k]at z;cases z),λ_=>?_⟩)))));refine zM (vf (zc 4 rfl ?_));obtain⟨s',a,b,v,C,rfl,D⟩:=wm (cs:=cs) k;refine vq (λh=>by rw[show(A.dat (wH cs (.tuple [.str s',a,b,v]))).d=rj (cs.of s') a b v from rfl]at h;cases h) (λ_=>zr ?_);refine yS 1 rfl (zc 4 rfl ⟨by rw[zH8,zL8];omega,?_⟩);refine zr ⟨some (.dat (.int ((0+i:Nat):Int))),some (.dat (.tuple [.str s',a,b,v])),some (.dat (wH cs (.tuple [.str s',a,b,v]))),?_,rfl⟩;rw[zS2,he,zN6];rfl
  .rintro L ⟨v2,c,v4,rfl,ne⟩;rw[wV,zU8];refine zM (sW 1 rfl (pf (xj (by rfl) nb.len (zc 1 rfl ⟨_,rfl,qf (by rfl) m ⟨_,_,rfl,rfl,?_⟩⟩))));refine va (λh=>?_) (λh=>?_)
   .exact uc (j:=5) l rfl p (by rfl) rfl (leX.nil rfl) (cm (by decide +kernel) (by decide +kernel) (qf (by rfl) m ⟨24,rfl,by decide,λ_=>o⟩))
   .rw[zH8]at h;omega
def zm6 :zo ((["self","rules"]:List Str)++[("":Str)]) ["self","rules"] (zd yP):=⟨rfl,rfl,rfl,by decide +kernel,rfl,by decide +kernel,by decide +kernel⟩
def kX {f C CT:Ab}{dV:Ac}{fd:Ag}(F:mB K "__init__" "Book.__init__" yP dV f fd)(hm:mg "Book"=some (.ref C))(mk:Mk K C f)(g:Binds K fd ["self","rules"] [])(a:pS P w K mg base "kept_rules" 8 (gQ CT)):uO P w K mg base "Book" 9 (sF CT):=by
 refine⟨C,f,fd,_,hm,mk,g,zB9 F zm6 (by decide) (λas Q q h=>?_) (λcdv k outer s H E as Q q r xe hr h i=>?_)⟩
 .obtain⟨as',rfl,ds,rfl,_⟩:=h;rfl
 .obtain⟨as',rfl,ds,rfl,rd,e,b,c⟩:=h;refine iI 0 (EvL.d (gm (j:=2) i rfl (leX.nil rfl) a hr (by rfl) (zb (qC (vf (zc 1 rfl (vR (zc 1 rfl (ze ⟨ds,rfl,rd,e,b,c⟩)))))))))
def zn4 :zo ((["elder","newer"]:List Str)++[("":Str)]) ["elder","newer"] (zd kh):=⟨rfl,rfl,rfl,by decide +kernel,rfl,by decide +kernel,by decide +kernel⟩
def iH (C:Ab)(cs:Cs)(CT:Ab):List A->(A->Prop)->(Aa->Prop)->Prop:=λas _ q=>∃ds a,as=[.dat (vA C cs ds),.dat (vA C cs a)]/\zF ds/\zF a/\ds.length<=24/\a.length<=24/\24<ds.length+a.length/\q (xD0 CT)
def eA {f C CT:Ab}{fd:Ag}(F:Fun K "laid" "laid" kh f fd)(hm:mg "laid"=some (.ref f))(g:Binds K fd ["elder","newer"] [])(CK:uO P w K mg base "Book" 9 (sF CT))(k:sA P w K mg base C "rules" 3 (uj C cs)):pS P w K mg base "laid" 11 (iH C cs CT):=by
 refine zr3 F hm g zn4 (by decide) (λas Q q h=>?_) (λcdv l outer s H E as Q q r xe hr h i=>?_)
 .obtain⟨ds,a,rfl,_⟩:=h;rfl
 .obtain⟨ds,a,rfl,rd,re,b,d,e,c⟩:=h;have nd:=zn4.nd;refine xk (rP (j:=2) i rfl (leX.nil rfl) CK hr (by rfl) (zb ?_));and_intros;refine⟨rd.rules,by omega,?_⟩;and_intros;refine⟨re.rules,by omega,ds,a,rfl,rfl,by omega,?_⟩;and_intros;exact⟨(rd.app re).rules,by rw[zI1];exact e,by rw[zI1];omega,c⟩
end
abbrev rO :An:=inClass (top 12) 0
def zB7 :zo ["self","number"] ["self","number"] (zd rO):=⟨rfl,rfl,rfl,by decide +kernel,rfl,by decide +kernel,by decide +kernel⟩
def zu4 {P:Ah}{w:Ak}{K:Ae}{mg:Str->Option Ac}{base:Ao}{f C S:Ab}{fd:Ag}(F:Fun K "__init__" "NoRule.__init__" rO f fd)(b:Binds K fd ["self","number"] [])(hm:mg "NoRule"=some (.ref C))(a:mg "StayError"=some (.ref S))(kp:PySem.W.keepIn K (.ref C)=true)(hf:PySem.W.typeIn K (.ref f)=some (.type "function"))(xs:XS K S)(xc:XC K C S (some (.ref f)))(hn:PySem.W.findIn K (.ref C) "number"=some none):XMk P w K mg base "NoRule" 1 C "number":=
 ⟨hm,kp,S,f,fd,_,xc.ok,hf,b,cG F zB7 rfl rfl a xs xc hn (by decide +kernel) (by decide +kernel) (λ_=>rfl) (Or.inl rfl) (Or.inl rfl)⟩
def nrX (CR:Ab)(n:Nat):Aa:=xD CR [(.str "number",.int n)]
def xO (ds:List Aa)(n:Nat):Prop:=∃pre d post,ds=pre++d::post/\Rules pre/\xS d=false/\SeqAt.shaped d=true/\d.hasDict=false/\pre.length=n
def iX (CR:Ab):List A->(A->Prop)->(Aa->Prop)->Prop:=λas _ q=>∃ds n,as=[.dat (.list ds)]/\xO ds n/\n<=900/\q (nrX CR n)
def oK (CR:Ab):List A->(Aa->Prop)->Prop:=λas q=>∃ds n,as=[.dat (.list ds)]/\xO ds n/\n<=900/\q (nrX CR n)
section
variable {P:Ah}{w:Ak}{K:Ae}{mg:Str->Option Ac}{base:Ao}{cs:Cs}
def fV {f CR:Ab}{fd:Ag}(F:Fun K "kept_rules" "kept_rules" pj f fd)(hm:mg "kept_rules"=some (.ref f))(C:Binds K fd ["things"] [])(nb:NbT mg)(g:Cal P w K mg base "rule_of" 7 (vK cs))(XN:XMk P w K mg base "NoRule" 1 CR "number"):pS P w K mg base "kept_rules" 8 (iX CR):=by
 refine zr3 F hm C gB (by decide) (λas Q q h=>?_) (λcdv N outer s H E as Q q r xe hr h p=>?_)
 .obtain⟨ds,n,rfl,_⟩:=h;rfl
 .obtain⟨ds,n,rfl,⟨pre,bad,post,c,rd,u,x,l,hn⟩,I,t⟩:=h;subst hn;have nd:=gB.nd;refine yL 1 nd (zR (ze (⟨_,rfl,zH7 rfl,?_⟩)));refine vX (pat:=.many [2,3]) p.own rfl (yI (n:=2) (K:=K) rfl rfl (yo (zQ (i:=2) nd rfl (Or.inl rfl)) (yo (zQ (i:=3) nd rfl (Or.inl rfl)) (yY)))) (sZ (by rfl) nb.enumerate (zc 0 rfl (⟨_,rfl,?_⟩)));refine xr (λi L=>i<=pre.length/\∃v2 k v4,L=[some (.dat (.list ds)),some (.own ((ds.take i).map (wH cs))),v2,k,v4,some (.exc r λ_=>True)]/\noE [v2,k,v4]=true) ⟨zK6 _,none,none,none,rfl,rfl⟩ ?_ ?_
  .rintro i d L hd ⟨o,v2,k,v4,rfl,ne⟩;obtain⟨e,he,rfl⟩:=wX hd;have hi:i<ds.length:=(zH9.mp he).1;refine⟨_,rfl,?_⟩;by_cases B:i<pre.length
   .have em:e∈pre:=by
     rw[c,zJ4 B]at he;exact zM6 he
    obtain⟨m,G,y⟩:=rd e em;refine zL 4 nd (zE g hr (by rfl) (zb (zc 3 rfl (ze (⟨_,rfl,y,G,λz=>(by rw[m]at z;cases z),λ_=>?_⟩)))));refine zM (vf (zc 4 rfl ?_));obtain⟨s',a,b,v,J,rfl,M⟩:=wm (cs:=cs) m;refine vq (λh=>by rw[show(A.dat (wH cs (.tuple [.str s',a,b,v]))).d=rj (cs.of s') a b v from rfl]at h;cases h) (λ_=>zr ?_);refine yS 1 rfl (zc 4 rfl ⟨by rw[zH8,zL8];omega,?_⟩);refine zr ⟨by omega,some (.dat (.int ((0+i:Nat):Int))),some (.dat (.tuple [.str s',a,b,v])),some (.dat (wH cs (.tuple [.str s',a,b,v]))),?_,rfl⟩;rw[zS2,he,zN6];rfl
   .have D:i=pre.length:=by omega
    subst D;rw[c,zJ2 (zI3 _),zM1]at he;cases he;refine zL 4 nd (zE g hr (by rfl) (zb (zc 3 rfl (ze (⟨_,rfl,l,x,λ_=>?_,λz=>(by rw[u]at z;cases z)⟩)))));refine zM (vf (zc 4 rfl ?_));refine yG rfl ?_;exact fN (j:=5) p rfl XN (hr.mono (by decide)) (by rfl) rfl (leX.nil rfl) (zc 2 rfl ⟨((0+pre.length:Nat):Int),rfl,by
     have:(((0+pre.length:Nat):Int).natAbs).log2<64:=by
      by_cases e:((0+pre.length:Nat):Int).natAbs=0
      .rw[e];decide
      .exact(Nat.log2_lt e).mpr (by omega)
     omega,by rw[Nat.zero_add];exact t⟩)
  .rintro L ⟨o,v2,k,v4,rfl,ne⟩;rw[wV,c,zI1,zI7]at o;omega
def kf {f C CR:Ab}{dV:Ac}{fd:Ag}(F:mB K "__init__" "Book.__init__" yP dV f fd)(hm:mg "Book"=some (.ref C))(mk:Mk K C f)(e:Binds K fd ["self","rules"] [])(a:pS P w K mg base "kept_rules" 8 (iX CR)):uO P w K mg base "Book" 9 (oK CR):=by
 refine⟨C,f,fd,_,hm,mk,e,zB9 F zm6 (by decide) (λas Q q h=>?_) (λcdv i outer s H E as Q q r xe hr h g=>?_)⟩
 .obtain⟨as',rfl,ds,n,rfl,_⟩:=h;rfl
 .obtain⟨as',rfl,ds,n,rfl,rd,c,b⟩:=h;exact iI 0 (EvL.d (gm (j:=2) g rfl (leX.nil rfl) a hr (by rfl) (zb (qC (vf (zc 1 rfl (vR (zc 1 rfl (ze ⟨ds,n,rfl,rd,c,b⟩)))))))))
end
abbrev vO :An:=inClass (top 69) 0
abbrev ji :An:=inClass (top 69) 3
abbrev pC :An:=inClass (top 69) 4
abbrev ig :An:=inClass (top 69) 5
abbrev rE :An:=inClass (top 69) 6
abbrev pW :An:=inClass (top 69) 7
abbrev km :An:=inClass (top 69) 8
abbrev pZ :An:=inClass (top 69) 9
abbrev wN :An:=inClass (top 69) 10
abbrev uT :An:=inClass (top 69) 11
abbrev aX :An:=inClass (top 69) 12
abbrev bE :An:=inClass (top 69) 13
abbrev BkL :=List (List Aa)
def vH (CB:Ab)(cs:Cs)(bs:BkL):Aa:=.list (bs.map (vA CB cs))
def zi1 (CB:Ab)(cs:Cs)(rc:Int)(ns:List Str)(bs:BkL):List (Aa×Aa):=[(.str "room_count",.int rc),(.str "names",.list (ns.map .str)),(.str "books",vH CB cs bs),(.str "taken",.list []),(.str "following",.int 0)]
def aJ (CB:Ab)(cs:Cs)(bs:BkL):Aa:=.tuple [vH CB cs bs,.list [],.int 0]
structure yA (CI CB:Ab)(cs:Cs)(s:zD)(rc:Int)(ns:List Str)(bs:BkL)(ps:List BkL):Prop where
 C:s.C=CI
 nm:s.nm="past"
 pl:s.pl=true
 kv:s.kvs=zi1 CB cs rc ns bs
 pa:s.past=ps.map (aJ CB cs)
 ln:bs.length=ns.length/\ns.length<=4
structure IK (K:Ae)(CI:Ab):Prop where
 c:Cls K CI
 n1:yh K CI "room_count"
 n2:yh K CI "names"
 n3:yh K CI "books"
 n4:yh K CI "taken"
 n5:yh K CI "following"
 n6:yh K CI "past"
def At (ns:List Str)(x:Str)(j:Nat):Prop:=ns[j]?=some x/\∀i<j,ns[i]?≠some x
def zn6 (CI CB:Ab)(cs:Cs):Ph:=λas Q=>∃s rc ns bs ps,as=[.inn s]/\yA CI CB cs s rc ns bs ps/\ps.length<900/\∀s',yA CI CB cs s' rc ns bs (ps++[bs])->s'.a=s.a->s'.lp=s.lp->Q (.res .none s')
def iY (CI CB:Ab)(cs:Cs):Ph:=λas Q=>∃s rc ns bs ps ds,∃j:Nat,as=[.inn s,.dat (.int j),.dat (vA CB cs ds)]/\yA CI CB cs s rc ns bs ps/\j<bs.length/\ps.length<900/\∀s',yA CI CB cs s' rc ns (bs.set j ds) (ps++[bs])->s'.a=s.a->s'.lp=s.lp->Q (.res .none s')
def tD (CI CB:Ab)(cs:Cs):Ph:=λas Q=>∃s rc ns bs ps x,∃j:Nat,as=[.inn s,.dat (.str x)]/\yA CI CB cs s rc ns bs ps/\At ns x j/\Q (.res (.int j) s)
def wz (CI CB:Ab)(cs:Cs)(CN:Ab):List A->(A->Prop)->(Aa->Prop)->Prop:=λas _ q=>∃s rc ns bs ps x,as=[.inn s,.dat (.str x)]/\yA CI CB cs s rc ns bs ps/\x∉ns/\x.length<=10000/\q (xD0 CN)
def dZ (CI CB:Ab)(cs:Cs):Ph:=λas Q=>∃s rc ns bs ps b0,as=[.inn s]/\yA CI CB cs s rc ns bs (ps++[b0])/\b0.length=bs.length/\∀s',yA CI CB cs s' rc ns b0 ps->s'.a=s.a->s'.lp=s.lp->Q (.res .none s')
def gA (CI CB:Ab)(cs:Cs)(CD:Ab):List A->(A->Prop)->(Aa->Prop)->Prop:=λas _ q=>∃s rc ns bs,as=[.inn s]/\yA CI CB cs s rc ns bs []/\q (xD0 CD)
def gy (CI CB:Ab)(cs:Cs)(CK:Ab):List A->(A->Prop)->(Aa->Prop)->Prop:=λas _ q=>∃s rc ns bs ps,∃n:Int,as=[.inn s,.dat (.int n)]/\yA CI CB cs s rc ns bs ps/\n.natAbs.log2<1920/\q (xD0 CK)
def iR (CI CB:Ab)(cs:Cs)(CN:Ab):List A->(A->Prop)->(Aa->Prop)->Prop:=wz CI CB cs CN
def yA.get {CI CB:Ab}{cs:Cs}{s:zD}{rc:Int}{ns:List Str}{bs:BkL}{ps:List BkL}(h:yA CI CB cs s rc ns bs ps):yr s.kvs "room_count"=some (.int rc)/\yr s.kvs "names"=some (.list (ns.map .str))/\yr s.kvs "books"=some (vH CB cs bs)/\yr s.kvs "taken"=some (.list [])/\yr s.kvs "following"=some (.int 0):=by rw[h.kv];exact⟨rfl,rfl,rfl,rfl,rfl⟩
section
variable {P:Ah}{w:Ak}{K:Ae}{mg:Str->Option Ac}{base:Ao}{cs:Cs}{CI CB:Ab}
def zA5 :zo ["self"] ["self"] (zd bE):=.o
def fO {f:Ab}{fd:Ag}(a:IK K CI)(g:Meth K CI "remember" f)(F:Fun K "remember" "Inn.remember" bE f fd)(d:Binds K fd ["self"] []):yw P w K mg base CI "remember" 1 (zn6 CI CB cs):=by
 refine⟨f,fd,_,a.c,g,d,fnG F zA5 (λas Q h=>?_) (λcdv j outer s H E as Q hr h=>?_)⟩
 .obtain⟨s,rc,ns,bs,ps,rfl,_⟩:=h;rfl
 .obtain⟨s,rc,ns,bs,ps,rfl,st,k,q⟩:=h;obtain⟨g1,g2,g3,i,e⟩:=st.get;have b:=st.C;subst b;refine zk7 0 rfl a.c (by rw[st.nm];exact a.n6) st.pl (by rw[st.nm,st.kv];rfl) (zU (zb (ym 0 rfl a.c a.n3 g3 (zb (ym 0 rfl a.c a.n4 i (zb (ym 0 rfl a.c a.n5 e (ze ⟨_,rfl,zH7 rfl,?_⟩)))))))) st.nm;refine⟨by rw[st.pa,zH8];omega,λv=>zr ⟨_,rfl,q _ ⟨st.C,st.nm,st.pl,st.kv,?_,st.ln⟩ rfl rfl⟩⟩;show s.past++[_]=_;rw[st.pa,zN6];rfl
def zC6 :zo ["self","place","book"] ["self","place","book"] (zd aX):=.o
def pP {ds:List Aa}{j:Nat}(h:j<=ds.length):cutD ds none (some (j:Int))=ds.take j:=by
 unfold L2.cutD;rw[HT.pK,HT.rm,zW1 h,List.drop_zero,Nat.sub_zero]
def jK {ds:List Aa}{j:Nat}(h:j<=ds.length):cutD ds (some (j:Int)) none=ds.drop j:=by
 unfold L2.cutD;rw[HT.pK,HT.rm,zW1 h,zU6 (by rw[zQ6];omega)]
def zv1 {L:Type}{l:List L}{j:Nat}{x:L}(h:j<l.length):l.take j++[x]++l.drop (j+1)=l.set j x:=by rw[List.set_eq_take_append_cons_drop,if_pos h];simp
def eH {f:Ab}{fd:Ag}(b:IK K CI)(i:Meth K CI "put" f)(F:Fun K "put" "Inn.put" aX f fd)(n:Binds K fd ["self","place","book"] [])(CR:yw P w K mg base CI "remember" 1 (zn6 CI CB cs)):yw P w K mg base CI "put" 2 (iY CI CB cs):=by
 refine⟨f,fd,_,b.c,i,n,fnG F zC6 (λas Q h=>?_) (λcdv t outer s H E as Q hr h=>?_)⟩
 .obtain⟨s,rc,ns,bs,ps,ds,j,rfl,_⟩:=h;rfl
 .obtain⟨s,rc,ns,bs,ps,ds,j,rfl,st,o,k,q⟩:=h;have l:=st.C;subst l;refine tu 0 (lW 0 rfl CR hr (by rw[st.kv];rfl) (by rw[st.nm];decide) ⟨s,rc,ns,bs,ps,rfl,st,k,λs' a e g=>⟨_,s',rfl,e,g,?_⟩⟩);obtain⟨g1,g2,g3,r,p⟩:=a.get;have c:Cls K s'.C:=by rw[a.C];exact b.c
  have n3:yh K s'.C "books":=by rw[a.C];exact b.n3
  have m:bs.length<=4:=by have:=st.ln;omega
  refine sX 0 rfl c n3 g3 (by rw[a.kv];show 5<900;decide) (EvL.d (xF (EvL.d (xF (EvL.d (qg (ym 0 rfl c n3 g3 (xT (xY (zc 1 rfl ⟨_,rfl,_,rfl,?_⟩))))))))));refine EvL.d (zR (zb (zc 2 rfl (ze ⟨_,rfl,zH7 rfl,_,_,rfl,rfl,?_,?_⟩))))
  .rw[pP (by rw[zH8];omega),zL8,zH8];simp;omega
  refine EvL.d (qg (ym 0 rfl c n3 g3 (xY (yt (zc 1 rfl (zf ⟨_,_,rfl,rfl,_,rfl,xT ⟨_,rfl,_,_,rfl,rfl,?_,λv=>zr ⟨_,rfl,q _ ?_ ?_ ?_⟩⟩⟩))))))
  .rw[show((j:Int)+1)=((j+1:Nat):Int)from rfl,pP (by rw[zH8];omega),jK (by rw[zH8];omega)];simp;omega
  .refine⟨a.C,a.nm,a.pl,?_,a.pa,by rw[zK0];exact st.ln⟩;show uG "books" _ s'.kvs=_;rw[a.kv,show((j:Int)+1)=((j+1:Nat):Int)from rfl,pP (by rw[zH8];omega),jK (by rw[zH8];omega),zv1 (by rw[zH8];exact o),<-List.map_set];rfl
  .exact e
  .exact g
end
def mM (x:Str):vC (.str x)=true:=rfl
def qT (ns:List Str):(ns.map PyData.str).all vC=true:=by rw[zP4];intro d hd;obtain⟨x,_,rfl⟩:=zT8.mp hd;rfl
theorem iL {x:Str}{ns:List Str}:inD (.str x) (ns.map .str)=decide (x∈ns):=by
 induction ns with
 |nil=>rfl
 |cons a r b=>
  have e:inD (.str x) ((a::r).map PyData.str)=(eqV (.str a) (.str x)||inD (.str x) (r.map .str)):=rfl;rw[e,b,show eqV (V.str a) (V.str x)=decide (a=x)from(show(a == x)=decide (a=x)from by by_cases z:a=x<;>simp[z])];by_cases h:a=x
  .subst h;simp
  .have h':x≠a:=λz=>h z.symm;simp[h,h']
section
variable {P:Ah}{w:Ak}{K:Ae}{mg:Str->Option Ac}{base:Ao}{cs:Cs}{CI CB:Ab}
def zi6 :zo ["self","name"] ["self","name"] (zd uT):=.o
def nR {f:Ab}{fd:Ag}(a:IK K CI)(e:Meth K CI "place_of" f)(F:Fun K "place_of" "Inn.place_of" uT f fd)(d:Binds K fd ["self","name"] []):yw P w K mg base CI "place_of" 1 (tD CI CB cs):=by
 refine⟨f,fd,_,a.c,e,d,fnG F zi6 (λas Q h=>?_) (λcdv g outer s H E as Q hr h=>?_)⟩
 .obtain⟨s,rc,ns,bs,ps,x,j,rfl,_⟩:=h;rfl
 .obtain⟨s,rc,ns,bs,ps,x,j,rfl,st,at',q⟩:=h;obtain⟨g1,g2,g3,k,i⟩:=st.get;have b:=st.C;subst b;refine zM (oO hr.one (zc 1 rfl (ym 0 rfl a.c a.n2 g2 (ink (mM x) (qT ns) ?_))));rw[iL,zQ8 (zM6 at'.1)];refine zK rfl (zr ?_);refine xy 0 rfl ?_;refine zd5 ?_;exact(ym 0 rfl a.c a.n2 g2 ⟨ns,rfl,zc 1 rfl ⟨x,j,rfl,at'.1,at'.2,q⟩⟩)
def zb1 :zo ((["self","name"]:List Str)++[("":Str)]) ["self","name"] (zd uT):=.o
def oJ {f CN:Ab}{fd:Ag}(b:IK K CI)(k:Meth K CI "place_of" f)(F:Fun K "place_of" "Inn.place_of" uT f fd)(n:Binds K fd ["self","name"] [])(XN:oi K mg "NoName" CN):yM P w K mg base CI "place_of" 1 (wz CI CB cs CN):=by
 refine⟨f,fd,_,b.c,k,n,dO F zb1 (by decide) (λas Q q h=>?_) (λcdv t outer s H E u as Q q r xe hr h i=>?_)⟩
 .obtain⟨s,rc,ns,bs,ps,x,rfl,_⟩:=h;rfl
 .obtain⟨s,rc,ns,bs,ps,x,e,st,g,l,d⟩:=h;cases e;obtain⟨g1,g2,g3,p,o⟩:=st.get;have m:=st.C;subst m;refine zM (oO hr.one (zc 1 rfl (ym 0 rfl b.c b.n2 g2 (ink (mM x) (qT ns) ?_))));rw[iL,zM8 g];refine yG rfl ?_;exact uc (j:=2) i rfl XN (by rfl) rfl (leX.cons (.inr ⟨rfl,λa e=>by cases e;trivial⟩) (leX.nil rfl)) (eB (by decide +kernel) (zc 1 rfl ⟨x,rfl,l,λ_=>d⟩))
def iV :zo ((["self","name","place"]:List Str)++[("":Str)]) ["self","name"] (zd ig):=.o
def lZ {f CN:Ab}{fd:Ag}(j:IK K CI)(g:Meth K CI "tidy" f)(F:Fun K "tidy" "Inn.tidy" ig f fd)(m:Binds K fd ["self","name"] [])(n:yM P w K mg base CI "place_of" 1 (wz CI CB cs CN)):yM P w K mg base CI "tidy" 2 (iR CI CB cs CN):=by
 refine⟨f,fd,_,j.c,g,m,dO F iV (by decide) (λas Q q h=>?_) (λcdv o outer s H E u as Q q r xe hr h i=>?_)⟩
 .obtain⟨s,rc,ns,bs,ps,x,rfl,_⟩:=h;rfl
 .obtain⟨s,rc,ns,bs,ps,x,e,st,d,k,b⟩:=h;cases e;have l:=st.C;subst l;have nd:=iV.nd;exact zL 2 nd (tQ 0 3 rfl i rfl (leX.cons (.inr ⟨rfl,λa e=>by cases e;trivial⟩) (leX.nil rfl)) n hr (by rw[st.kv];rfl) (by rw[st.nm];decide) (zb (zc 1 rfl (ze ⟨u,rc,ns,bs,ps,x,rfl,st,d,k,b⟩))))
end
def uh (CI CB:Ab)(cs:Cs):Ph:=λas Q=>∃s rc ns bs ps x,∃j:Nat,∃b,as=[.inn s,.dat (.str x)]/\yA CI CB cs s rc ns bs ps/\At ns x j/\bs[j]?=some b/\Rules b/\b.length<=1000/\Q (.res (.list b) s)
def za2 (CI CB:Ab)(cs:Cs):Ph:=λas Q=>∃s rc ns bs ps x,∃j:Nat,∃b ds,as=[.inn s,.dat (.str x),.dat (.list ds)]/\yA CI CB cs s rc ns bs ps/\At ns x j/\bs[j]?=some b/\zF b/\zF ds/\b.length+ds.length<=24/\ps.length<900/\∀s',yA CI CB cs s' rc ns (bs.set j (b++ds)) (ps++[bs])->s'.a=s.a->s'.lp=s.lp->Q (.res .none s')
inductive ba (CR CT:Ab)(b:List Aa):List Aa->Aa->Prop
 |rule {ds:List Aa}{n:Nat}:xO ds n->n<=900->ba CR CT b ds (nrX CR n)
 |many {ds:List Aa}:zF ds->24<ds.length->ds.length<=900->ba CR CT b ds (xD0 CT)
 |both {ds:List Aa}:zF ds->ds.length<=24->24<b.length+ds.length->ba CR CT b ds (xD0 CT)
def aP (CI CB:Ab)(cs:Cs)(CN CR CT:Ab):List A->(A->Prop)->(Aa->Prop)->Prop:=λas _ q=>∃s rc ns bs ps x d,as=[.inn s,.dat (.str x),.dat d]/\yA CI CB cs s rc ns bs ps/\((x∉ns/\x.length<=10000/\q (xD0 CN))\/∃j:Nat,∃b ds e,d=.list ds/\At ns x j/\bs[j]?=some b/\zF b/\b.length<=24/\ba CR CT b ds e/\q e)
def ui {CB:Ab}{cs:Cs}{bs:BkL}{j:Nat}{b:List Aa}(h:bs[j]?=some b):atI (bs.map (vA CB cs)) (j:Int)=some (vA CB cs b):=sN (by rw[zJ8,h];rfl)
section
variable {P:Ah}{w:Ak}{K:Ae}{mg:Str->Option Ac}{base:Ao}{cs:Cs}{CI CB:Ab}
def aS :zo ["self","before"] ["self"] (zd rE):=.o
def kB {f:Ab}{fd:Ag}(b:IK K CI)(d:Meth K CI "undo" f)(F:Fun K "undo" "Inn.undo" rE f fd)(i:Binds K fd ["self"] []):yw P w K mg base CI "undo" 1 (dZ CI CB cs):=by
 refine⟨f,fd,_,b.c,d,i,fnG F aS (λas Q h=>?_) (λcdv n outer s H E as Q hr h=>?_)⟩
 .obtain⟨s,rc,ns,bs,ps,b0,rfl,_⟩:=h;rfl
 .obtain⟨s,rc,ns,bs,ps,b0,rfl,st,e,q⟩:=h;have g:=st.C;subst g;have nd:=aS.nd;have a:=st.nm;have na:yh K s.C s.nm:=by rw[a];exact b.n6
  have hf:yr s.kvs s.nm=none:=by rw[a,st.kv];rfl
  have hp:s.past=ps.map (aJ CB cs)++[aJ CB cs b0]:=by rw[st.pa,zN6];rfl
  have he:s.past.isEmpty=false:=by rw[hp];simp
  refine zM (lu 0 hr.units rfl b.c na st.pl hf ?_ a);rw[he];refine zK rfl (zr ?_);refine zd6 0 1 nd (zv9 0 rfl b.c na st.pl hf hp (λl=>?_) a);obtain⟨g1,g2,g3,k,j⟩:=st.get;refine sX 0 rfl b.c b.n3 g3 (by show s.kvs.length<900;rw[st.kv];show 5<900;decide) (zx hr.one (λ_ _=>rfl) (zc 1 rfl (zf (ixk rfl rfl (show atI [vH CB cs b0,.list [],.int 0] 0=some (vH CB cs b0)from rfl) λv1=>?_))));refine sX 0 rfl b.c b.n4 (d0:=.list []) (by show yr (uG _ _ s.kvs) _=_;rw[st.kv];rfl) (by show(uG _ _ s.kvs).length<900;rw[st.kv];show 5<900;decide) (zx hr.one (λ_ _=>rfl) (zc 1 rfl (zf (ixk rfl rfl (show atI [vH CB cs b0,.list [],.int 0] 1=some (.list [])from rfl) λv2=>?_))));refine sX 0 rfl b.c b.n5 (d0:=.int 0) (by show yr (uG _ _ (uG _ _ s.kvs)) _=_;rw[st.kv];rfl) (by show(uG _ _ (uG _ _ s.kvs)).length<900;rw[st.kv];show 5<900;decide) (zx hr.one (λ_ _=>rfl) (zc 1 rfl (zf (ixk rfl rfl (show atI [vH CB cs b0,.list [],.int 0] 2=some (.int 0)from rfl) λm=>?_))));refine zr ⟨_,rfl,q _ ⟨rfl,a,st.pl,?_,rfl,by rw[e];exact st.ln⟩ rfl rfl⟩;show uG _ _ (uG _ _ (uG _ _ s.kvs))=_;rw[st.kv];rfl
def zf6 :zo ((["self","before"]:List Str)++[("":Str)]) ["self"] (zd rE):=.o
def lA {f CD:Ab}{fd:Ag}(d:IK K CI)(m:Meth K CI "undo" f)(F:Fun K "undo" "Inn.undo" rE f fd)(k:Binds K fd ["self"] [])(n:oi K mg "NoDeed" CD):yM P w K mg base CI "undo" 1 (gA CI CB cs CD):=by
 refine⟨f,fd,_,d.c,m,k,dO F zf6 (by decide) (λas Q q h=>?_) (λcdv o outer s H E u as Q q r xe hr h l=>?_)⟩
 .obtain⟨s,rc,ns,bs,rfl,_⟩:=h;rfl
 .obtain⟨s,rc,ns,bs,e,st,g⟩:=h;cases e;have i:=st.C;subst i;have b:=st.nm;refine zM (lu 0 hr.units rfl d.c (by rw[b];exact d.n6) st.pl (by rw[b,st.kv];rfl) ?_ b);rw[st.pa];refine yG rfl ?_;exact uc (j:=2) l rfl n (by rfl) rfl (leX.cons (.inr ⟨rfl,λa e=>by cases e;trivial⟩) (leX.nil rfl)) (zt g)
def gx :zo ((["self","number","left"]:List Str)++[("":Str)]) ["self","number"] (zd ji):=.o
def lM {f CK:Ab}{fd:Ag}(b:IK K CI)(k:Meth K CI "give_back" f)(F:Fun K "give_back" "Inn.give_back" ji f fd)(o:Binds K fd ["self","number"] [])(nb:NbT mg)(d:oi K mg "NoTaken" CK):yM P w K mg base CI "give_back" 1 (gy CI CB cs CK):=by
 refine⟨f,fd,_,b.c,k,o,dO F gx (by decide) (λas Q q h=>?_) (λcdv t outer s H E u as Q q r xe hr h l=>?_)⟩
 .obtain⟨s,rc,ns,bs,ps,n,rfl,_⟩:=h;rfl
 .obtain⟨s,rc,ns,bs,ps,n,e,st,hn,i⟩:=h;cases e;obtain⟨g1,g2,g3,g,p⟩:=st.get;have m:=st.C;subst m;have nd:=gx.nd;refine nE 2 ["entry","number"] [none,some 1] (.one 0) (yq (ym 0 rfl b.c b.n4 g ⟨_,rfl,by decide,?_⟩));show SvS _ ([some (.inn _),some (.dat (.int n)),some (.own []),some (.exc r λ_=>True)]:Ev) _ _;refine zM (sW 2 rfl (zZ hr.units (xj (by rfl) nb.len (zc 2 rfl ⟨0,rfl,xj (by rfl) nb.len ?_⟩))));refine ym 0 rfl b.c b.n4 g ?_;refine⟨0,rfl,eqk rfl rfl rfl rfl ?_⟩;refine yG rfl ?_;exact uc (j:=3) l rfl d (by rfl) rfl (leX.cons (.inr ⟨rfl,λa e=>by cases e;trivial⟩) (leX.nil rfl)) (cW (by decide +kernel) (zc 1 rfl ⟨n,rfl,hn,λ_=>i⟩))
def fq :zo ["self","name"] ["self","name"] (zd wN):=.o
def qL {f:Ab}{fd:Ag}(a:IK K CI)(g:Meth K CI "rules_of" f)(F:Fun K "rules_of" "Inn.rules_of" wN f fd)(m:Binds K fd ["self","name"] [])(i:yw P w K mg base CI "place_of" 1 (tD CI CB cs))(p:sA P w K mg base CB "rules" 3 (uj CB cs)):yw P w K mg base CI "rules_of" 4 (uh CI CB cs):=by
 refine⟨f,fd,_,a.c,g,m,fnG F fq (λas Q h=>?_) (λcdv r outer s H E as Q hr h=>?_)⟩
 .obtain⟨s,rc,ns,bs,ps,x,j,b,rfl,_⟩:=h;rfl
 .obtain⟨s,rc,ns,bs,ps,x,j,b,rfl,st,at',d,e,k,q⟩:=h;obtain⟨g1,g2,g3,o,n⟩:=st.get;have l:=st.C;subst l;refine xy 0 rfl ?_;and_intros;refine ym 0 rfl a.c a.n3 g3 ?_;refine wx 0 rfl i (hr.mono (by decide)) (by rw[st.kv];rfl) (by rw[st.nm];decide) (zb (zc 1 rfl (ze ⟨s,rc,ns,bs,ps,x,j,rfl,st,at',_,rfl,ixk rfl rfl (ui d) ?_⟩)));exact⟨_,rfl,rfl,b,rfl,e,k,q⟩
def kH :zo ((["self","name"]:List Str)++[("":Str)]) ["self","name"] (zd wN):=.o
def qk {f CN:Ab}{fd:Ag}(b:IK K CI)(j:Meth K CI "rules_of" f)(F:Fun K "rules_of" "Inn.rules_of" wN f fd)(m:Binds K fd ["self","name"] [])(n:yM P w K mg base CI "place_of" 1 (wz CI CB cs CN))(t:sA P w K mg base CB "rules" 3 (uj CB cs)):yM P w K mg base CI "rules_of" 4 (wz CI CB cs CN):=by
 refine⟨f,fd,_,b.c,j,m,dO F kH (by decide) (λas Q q h=>?_) (λcdv v outer s H E u as Q q r xe hr h i=>?_)⟩
 .obtain⟨s,rc,ns,bs,ps,x,rfl,_⟩:=h;rfl
 .obtain⟨s,rc,ns,bs,ps,x,e,st,g,k,d⟩:=h;cases e;obtain⟨g1,g2,g3,p,o⟩:=st.get;have l:=st.C;subst l;refine xy 0 rfl ?_;and_intros;refine ym 0 rfl b.c b.n3 g3 ?_;exact tQ 0 2 rfl i rfl (leX.cons (.inr ⟨rfl,λa e=>by cases e;trivial⟩) (leX.nil rfl)) n (hr.mono (by decide)) (by rw[st.kv];rfl) (by rw[st.nm];decide) (zb (zc 1 rfl (ze ⟨_,rc,ns,bs,ps,x,rfl,st,g,k,d⟩)))
def iE :zo ["self","name","rules","place"] ["self","name","rules"] (zd pC):=.o
def dy {f:Ab}{fd:Ag}(d:IK K CI)(m:Meth K CI "lay" f)(F:Fun K "lay" "Inn.lay" pC f fd)(r:Binds K fd ["self","name","rules"] [])(o:yw P w K mg base CI "place_of" 1 (tD CI CB cs))(k:yw P w K mg base CI "put" 2 (iY CI CB cs))(CK:rL P w K mg base "Book" 9 [] (vt CB cs))(u:Cal P w K mg base "laid" 11 (ky CB cs)):yw P w K mg base CI "lay" 12 (za2 CI CB cs):=by
 refine⟨f,fd,_,d.c,m,r,fnG F iE (λas Q h=>?_) (λcdv y outer s H E as Q hr h=>?_)⟩
 .obtain⟨s,rc,ns,bs,ps,x,j,b,ds,rfl,_⟩:=h;rfl
 .obtain⟨s,rc,ns,bs,ps,x,j,b,ds,rfl,st,at',a,l,rd,n,hp,q⟩:=h;obtain⟨g1,g2,g3,v,t⟩:=st.get;have p:=st.C;subst p;have nd:=iE.nd;refine zL 3 nd (wx 0 rfl o (hr.mono (by decide)) (by rw[st.kv];rfl) (by rw[st.nm];decide) (zb (zc 1 rfl (ze ⟨s,rc,ns,bs,ps,x,j,rfl,st,at',_,rfl,?_⟩))));refine tu 0 (nL 0 rfl k (hr.mono (by decide)) (by rw[st.kv];rfl) (by rw[st.nm];decide) ?_);and_intros;refine ym 0 rfl d.c d.n3 g3 ?_;and_intros;refine ixk rfl rfl (ui a) ?_;and_intros;refine⟨ds,.inl rfl,rd.rules,by omega,?_⟩;and_intros;refine⟨b,ds,rfl,l,rd,n,?_⟩;and_intros;exact⟨s,rc,ns,bs,ps,b++ds,j,rfl,st,(zH9.mp a).1,hp,λs' e g i=>⟨_,s',rfl,g,i,zr ⟨_,rfl,q s' e g i⟩⟩⟩
def aR :zo ((["self","name","rules","place"]:List Str)++[("":Str)]) ["self","name","rules"] (zd pC):=.o
def jY {f CN CR CT:Ab}{fd:Ag}(i:IK K CI)(B:Meth K CI "lay" f)(F:Fun K "lay" "Inn.lay" pC f fd)(L:Binds K fd ["self","name","rules"] [])(D:yw P w K mg base CI "place_of" 1 (tD CI CB cs))(M:yM P w K mg base CI "place_of" 1 (wz CI CB cs CN))(t:yw P w K mg base CI "put" 2 (iY CI CB cs))(CK:rL P w K mg base "Book" 9 [] (vt CB cs))(z:uO P w K mg base "Book" 9 (oK CR))(BT:uO P w K mg base "Book" 9 (sF CT))(g:pS P w K mg base "laid" 11 (iH CB cs CT)):yM P w K mg base CI "lay" 12 (aP CI CB cs CN CR CT):=by
 refine⟨f,fd,_,i.c,B,L,dO F aR (by decide) (λas Q q h=>?_) (λcdv R outer s H E u as Q q r xe hr h l=>?_)⟩
 .obtain⟨s,rc,ns,bs,ps,x,d,rfl,_⟩:=h;rfl
 .obtain⟨s,rc,ns,bs,ps,x,d,e,st,h⟩:=h;cases e;obtain⟨g1,g2,g3,O,N⟩:=st.get;have J:=st.C;subst J;have nd:=aR.nd;rcases h with⟨v,G,m⟩|⟨j,b,ds,e,rfl,at',k,y,I,A,m⟩
  .exact zL 3 nd (tQ 0 4 rfl l rfl (leX.cons (.inr ⟨rfl,λa e=>by cases e;trivial⟩) (leX.nil rfl)) M (hr.mono (by decide)) (by rw[st.kv];rfl) (by rw[st.nm];decide) (zb (zc 1 rfl (ze ⟨_,rc,ns,bs,ps,x,rfl,st,v,G,m⟩))))
  .refine zL 3 nd (wx 0 rfl D (hr.mono (by decide)) (by rw[st.kv];rfl) (by rw[st.nm];decide) (zb (zc 1 rfl (ze ⟨_,rc,ns,bs,ps,x,j,rfl,st,at',_,rfl,?_⟩))));refine tu 0 (nL 0 rfl t (hr.mono (by decide)) (by rw[st.kv];rfl) (by rw[st.nm];decide) (zb (zc 3 rfl (zb ?_))));cases A with
   |@rule n hn hu=>
    refine om (j:=4) l rfl (leX.cons (.inr ⟨rfl,λa e=>by cases e;trivial⟩) (leX.nil rfl)) g (hr.mono (by decide)) (by rfl) (zb (zx hr.one (λ_ _=>rfl) (ym 0 rfl i.c i.n3 g3 (zc 3 rfl (ixk rfl rfl (ui k) (zb ?_))))));exact rP (j:=4) l rfl (leX.cons (.inr ⟨rfl,λa e=>by cases e;trivial⟩) (leX.nil rfl)) z (hr.mono (by decide)) (by rfl) (zb (zc 2 rfl (ze ⟨ds,n,rfl,hn,hu,m⟩)))
   |many rd o p=>
    refine om (j:=4) l rfl (leX.cons (.inr ⟨rfl,λa e=>by cases e;trivial⟩) (leX.nil rfl)) g (hr.mono (by decide)) (by rfl) (zb (zx hr.one (λ_ _=>rfl) (ym 0 rfl i.c i.n3 g3 (zc 3 rfl (ixk rfl rfl (ui k) (zb ?_))))));exact rP (j:=4) l rfl (leX.cons (.inr ⟨rfl,λa e=>by cases e;trivial⟩) (leX.nil rfl)) BT (hr.mono (by decide)) (by rfl) (zb (zc 2 rfl (ze ⟨ds,rfl,rd.rules,o,p,m⟩)))
   |both rd o p=>
    refine om (j:=4) l rfl (leX.cons (.inr ⟨rfl,λa e=>by cases e;trivial⟩) (leX.nil rfl)) g (hr.mono (by decide)) (by rfl) (zb (zx hr.one (λ_ _=>rfl) (ym 0 rfl i.c i.n3 g3 (zc 3 rfl (ixk rfl rfl (ui k) (zb ?_))))));and_intros;refine⟨ds,.inl rfl,rd.rules,o,?_⟩;and_intros;exact⟨b,ds,rfl,y,rd,I,o,p,m⟩
end
abbrev je :An:=top 63
def mT :List A->(A->Prop)->Prop:=λas Q=>as=[.dat (.list [])]/\Q (.own [])
def tV (CI CB:Ab)(cs:Cs):Ph:=λas Q=>∃s rc ns bs ps,as=[.inn s]/\yA CI CB cs s rc ns bs ps/\Q (.res (.list []) s)
section
variable {P:Ah}{w:Ak}{K:Ae}{mg:Str->Option Ac}{base:Ao}{cs:Cs}{CI CB:Ab}
def ff :zo ["stays","rooms","ends","stay","place","room"] ["stays"] (zd je):=.o
def eI {f:Ab}{fd:Ag}(F:Fun K "dealt" "dealt" je f fd)(hm:mg "dealt"=some (.ref f))(a:Binds K fd ["stays"] [])(nb:NbT mg):Cal P w K mg base "dealt" 1 mT:=by
 refine rq F hm a ff (λas Q h=>?_) (λcdv c outer s H E as Q hr h=>?_)
 .obtain⟨rfl,_⟩:=h;rfl
 .obtain⟨rfl,q⟩:=h;have nd:=ff.nd;refine nE 1 ["stay"] [none] (.one 0) (yq (zc 0 rfl ⟨_,rfl,by decide,?_⟩));refine yL 2 nd (zR (ze ⟨[],rfl,by decide,?_⟩));refine vX (pat:=.many [3,4]) zQ1 rfl (yI (n:=2) (K:=K) rfl rfl (yo (zQ (i:=3) nd rfl (Or.inl rfl)) (yo (zQ (i:=4) nd rfl (Or.inl rfl)) (yY)))) (yq (EvL.d (rn (by rfl) nb.sorted (EvL.d (vW ["place","stay"] [none,none] (.many [0,1]) (sZ (by rfl) nb.enumerate (zc 0 rfl ⟨_,rfl,by decide,?_⟩)))))));refine⟨[],rfl,by decide,λb hp _=>⟨_,rfl,?_⟩⟩;rw[hp.eq_nil];refine xr (λi L=>L=[some (.dat (.list [])),some (.own []),some (.own []),none,none,none]) rfl ?_ ?_
  .rintro i d L hd _;cases hd
  .rintro L rfl;exact sL 1 rfl q
def zh5 :zo ["self"] ["self"] (zd pW):=.o
def mW {f:Ab}{fd:Ag}(a:IK K CI)(g:Meth K CI "standing" f)(F:Fun K "standing" "Inn.standing" pW f fd)(e:Binds K fd ["self"] []):yw P w K mg base CI "standing" 1 (tV CI CB cs):=by
 refine⟨f,fd,_,a.c,g,e,fnG F zh5 (λas Q h=>?_) (λcdv j outer s H E as Q hr h=>?_)⟩
 .obtain⟨s,rc,ns,bs,ps,rfl,_⟩:=h;rfl
 .obtain⟨s,rc,ns,bs,ps,rfl,st,q⟩:=h;obtain⟨g1,g2,g3,i,k⟩:=st.get;have b:=st.C;subst b;refine xy 0 rfl (EvL.d (vW ["number","stay","coins","cut"] [none,none,none,none] (.many [0,1,2,3]) (yq ?_)));exact ym 0 rfl a.c a.n4 i ⟨[],rfl,by decide,q⟩
def cY :zo ["self","stays_on","entry","night"] ["self"] (zd km):=.o
def jg {f:Ab}{fd:Ag}(a:IK K CI)(b:Meth K CI "full" f)(F:Fun K "full" "Inn.full" km f fd)(j:Binds K fd ["self"] [])(nb:NbT mg):yw P w K mg base CI "full" 1 (tV CI CB cs):=by
 refine⟨f,fd,_,a.c,b,j,fnG F cY (λas Q h=>?_) (λcdv m outer s H E as Q hr h=>?_)⟩
 .obtain⟨s,rc,ns,bs,ps,rfl,_⟩:=h;rfl
 .obtain⟨s,rc,ns,bs,ps,rfl,st,q⟩:=h;obtain⟨g1,g2,g3,e,k⟩:=st.get;have g:=st.C;subst g;have nd:=cY.nd;refine zL 1 nd (bG ?_);refine vX (pat:=.one 2) zQ1 rfl (zQ (i:=2) nd rfl (Or.inl rfl)) (yq (ym 0 rfl a.c a.n4 e ⟨[],rfl,?_⟩));refine xr (λi L=>L=[some (.inn s),some (.dat (mi [])),none,none]) rfl ?_ ?_
  .rintro i d L hd _;cases hd
  .rintro L rfl;refine xy 0 rfl (EvL.d (rn (by rfl) nb.sorted (EvL.d (vW ["night"] [none] (.one 0) (zk0 (zc 1 rfl ⟨[],rfl,by decide,?_⟩))))));refine⟨[],rfl,by decide,λl hp _=>?_⟩;rw[hp.eq_nil];exact q
def fg :zo ["self","numbers"] ["self"] (zd pZ):=.o
def lU {f:Ab}{fd:Ag}(a:IK K CI)(i:Meth K CI "rooms" f)(F:Fun K "rooms" "Inn.rooms" pZ f fd)(g:Binds K fd ["self"] [])(nb:NbT mg)(CD:Cal P w K mg base "dealt" 1 mT):yw P w K mg base CI "rooms" 2 (tV CI CB cs):=by
 refine⟨f,fd,_,a.c,i,g,fnG F fg (λas Q h=>?_) (λcdv j outer s H E as Q hr h=>?_)⟩
 .obtain⟨s,rc,ns,bs,ps,rfl,_⟩:=h;rfl
 .obtain⟨s,rc,ns,bs,ps,rfl,st,q⟩:=h;obtain⟨g1,g2,g3,b,k⟩:=st.get;have e:=st.C;subst e;have nd:=fg.nd;refine nE 1 ["entry"] [none] (.one 0) (yq (ym 0 rfl a.c a.n4 b ⟨[],rfl,by decide,?_⟩));show SvS _ ([some (.inn s),some (.own [])]:Ev) _ _;refine xy 0 rfl (EvL.d (sU 1 rfl ?_));refine nW (by rfl) (by rfl) nb.list (by rfl) nb.zip (zb (zc 1 rfl (zb (zE CD hr (by rfl) (zb (EvL.d (vW ["entry"] [none] (.one 0) (yq ?_))))))));refine ym 0 rfl a.c a.n4 b ⟨[],rfl,by decide,ze ⟨rfl,?_⟩⟩;exact ze ⟨rfl,rfl,q⟩
end
abbrev Pr :=Str×List Aa
def prD (p:Pr):Aa:=.tuple [.str p.1,.list p.2]
def pR (p:Pr):Prop:=zF p.2/\p.2.length<=24
def aN (CI CB:Ab)(cs:Cs):List A->(A->Prop)->Prop:=λas Q=>∃(u:zD) (rc:Int) (ps:List Pr),as=[.inn u,.dat (.int rc),.dat (.list (ps.map prD))]/\(∀p∈ps,pR p)/\ps.length<=4/\∀s,yA CI CB cs s rc (ps.map (·.1)) (ps.map (·.2)) []->Q (.res .none s)
inductive iO (CR CT:Ab):List Aa->Aa->Prop
 |rule {ds:List Aa}{n:Nat}:xO ds n->n<=900->iO CR CT ds (nrX CR n)
 |many {ds:List Aa}:zF ds->24<ds.length->ds.length<=900->iO CR CT ds (xD0 CT)
def aG (CR CT:Ab):List A->(Aa->Prop)->Prop:=λas q=>∃(u:zD) (rc:Int) (pre post:List Pr) (p:Pr) (e:Aa),as=[.inn u,.dat (.int rc),.dat (.list ((pre++p::post).map prD))]/\(∀p∈pre,pR p)/\(pre++p::post).length<=4/\iO CR CT p.2 e/\q e
theorem vh {Y:Ab->Af->Hp->List Ab->Cx}{pat:Pat}{elt:Ai}{α0:Ev}{T:Type}{g f:T->Aa}:∀(ts:List T) (acc:List Aa) {Q:List Aa->Prop},(∀t∈ts,∃a,pat.bind (g t) α0=some a/\∀C s2 b fp (Q':Aa->Prop),Q' (f t)->EvN (Y C s2 b fp) a elt Q')->Q (acc++ts.map f)->uC Y pat elt α0 (ts.map g) acc Q
 |[],acc,Q,_,q=>by rw[zV2,zJ5]at q;exact q
 |t::ts,acc,Q,h,q=>by
  obtain⟨a,e,d⟩:=h t (by simp);refine⟨a,e,λC s2 b fp=>d C s2 b fp _ (vh ts _ (λt' c=>h t' (zI6 _ c)) ?_)⟩;rw[zN1];exact q
theorem wg {Y:Ab->Af->Hp->List Ab->Cx}{pat:Pat}{elt:Ai}{α0:Ev}{T:Type}{g f:T->Aa}:∀(ts:List T) (acc:List Aa) {Q:List Aa->Prop},(∀t∈ts,∃a,pat.bind (g t) α0=some a/\∀C s2 b fp (Q':Aa->Prop),Q' (f t)->EvD (Y C s2 b fp) a elt Q')->Q (acc++ts.map f)->yR Y pat [] elt α0 (ts.map g) acc Q
 |[],acc,Q,_,q=>by rw[zV2,zJ5]at q;exact q
 |t::ts,acc,Q,h,q=>by
  obtain⟨a,e,d⟩:=h t (by simp);refine⟨a,e,λC s2 b fp=>qt λC s2 b fp=>d C s2 b fp _ (wg ts _ (λt' c=>h t' (zI6 _ c)) ?_)⟩;rw[zN1];exact q
def zD3 :Aq:=match zJ vO with
 |_::_::.Assign _ (.ListComp _ _ sc _) _::_=>sc
 |_=>zd vO
section
variable {P:Ah}{w:Ak}{K:Ae}{mg:Str->Option Ac}{base:Ao}{cs:Cs}{CI CB:Ab}
def zy4 :zo ["self","rooms","books"] ["self","rooms","books"] (zd vO):=.o
def bx {f:Ab}{fd:Ag}(a:IK K CI)(hm:mg "Inn"=some (.ref CI))(mk:Mk K CI f)(F:Fun K "__init__" "Inn.__init__" vO f fd)(n:Binds K fd ["self","rooms","books"] [])(CK:rL P w K mg base "Book" 9 [] (vt CB cs)):rD P w K mg base "Inn" 11 CI (aN CI CB cs):=by
 refine⟨f,fd,_,hm,mk,n,zG2 F zy4 rfl (by decide) (λcdv y outer s H E t v l Q u r hr h hp hk k t0 av=>?_)⟩;obtain⟨o,rc,ps,e,ok,j,q⟩:=h;cases e;subst k;refine pL 0 2 t0 rfl rfl av rfl hp a.c a.n1 (by rw[hk];rfl) (by rw[hk];show 0<900;decide) (ju (zc 1 rfl ⟨rfl,λv1=>?_⟩));refine pL 0 2 t0 rfl rfl av rfl hp a.c a.n2 (by show yr (u.kvs++_) _=none;rw[hk];rfl) (by show(u.kvs++_).length<900;rw[hk];show 1<900;decide) (aO ["pair"] [none] (.one 0) (yq (zc 2 rfl ⟨_,rfl,by rw[zH8];omega,?_⟩)));refine vh (g:=prD) (f:=λp=>PyData.str p.1) ps [] (λp b=>⟨_,rfl,λC s2 m fp Q' i=>ju (zx hr.one (λ_ _=>rfl) (zc 0 rfl (zf (ixk rfl rfl (show atI [PyData.str p.1,.list p.2] 0=some (.str p.1)from rfl) ⟨rfl,i⟩))))⟩) ?_;intro v2;refine pL 0 2 t0 rfl rfl av rfl hp a.c a.n3 (by show yr ((u.kvs++_)++_) _=none;rw[hk];rfl) (by show((u.kvs++_)++_).length<900;rw[hk];show 2<900;decide) (aO ["pair"] [none] (.one 0) (yq (zc 2 rfl ⟨_,rfl,by rw[zH8];omega,?_⟩)));refine vh (g:=prD) (f:=λp=>vA CB cs p.2) ps [] (λp b=>⟨_,rfl,λC s2 m fp Q' i=>oY CK hr (by rfl) (zb (zx hr.one (λ_ _=>rfl) (zc 0 rfl (zf (ixk rfl rfl (show atI [PyData.str p.1,.list p.2] 1=some (.list p.2)from rfl) (ze ⟨p.2,.inl rfl,(ok p b).1.rules,(ok p b).2,i⟩))))))⟩) ?_;intro x;refine SvS.at (uo 0 rfl hp a.c a.n4 (by show yr (((u.kvs++_)++_)++_) _=none;rw[hk];rfl) (by show(((u.kvs++_)++_)++_).length<900;rw[hk];show 3<900;decide) (EvL.d (zR (ze ⟨[],rfl,by decide,λv4=>?_⟩))));refine uo 0 rfl hp a.c a.n5 (by show yr ((((u.kvs++_)++_)++_)++_) _=none;rw[hk];rfl) (by show((((u.kvs++_)++_)++_)++_).length<900;rw[hk];show 4<900;decide) (zf λz=>?_);refine cn 0 rfl hp a.c a.n6 (by show yr (((((u.kvs++_)++_)++_)++_)++_) _=none;rw[hk];rfl) (by show(((((u.kvs++_)++_)++_)++_)++_).length<900;rw[hk];show 5<900;decide) (λp=>zr ⟨_,?e,rfl,q _ ⟨?_,?_,?_,?_,?_,?_⟩⟩)
 case e=>rfl
 .rfl
 .rfl
 .rfl
 rotate_left
 .rfl
 .rw[zH8,zH8];exact⟨rfl,j⟩
 show(((((u.kvs++_)++_)++_)++_)++_)=_;rw[hk];unfold zi1 vH;rw[List.map_map,List.map_map];rfl
def ze0 :yk ((["self","rooms","books"]:List Str)++[("":Str)]) (zd vO) ["pair"] [none] zD3:=⟨rfl,by decide +kernel,by decide +kernel,by decide +kernel,by decide +kernel,rfl,by decide +kernel⟩
def zr8 :zo ((["self","rooms","books"]:List Str)++[("":Str)]) ["self","rooms","books"] (zd vO):=.o
theorem uJ {Y:Ab->Af->Hp->List Ab->Cx}{pat:Pat}{i:List Ai}{φ:List A->(A->Prop)->Prop}{f:List A->(Aa->Prop)->Prop}{q:Aa->Prop}{α0:Ev}{T:Type}{g:T->Aa}{b:T}{post:List T}:∀(pre:List T) (acc:List Aa) {Q:List Aa->Prop},(∀t∈pre,∃c,pat.bind (g t) α0=some c/\∀C s2 e fp (Q':A->Prop),(∀a,Q' a)->EvA (Y C s2 e fp) c i λas=>φ as Q')->(∃c,pat.bind (g b) α0=some c/\∀C s2 e fp,EvA (Y C s2 e fp) c i λas=>f as q)->tK Y pat i φ f q α0 ((pre++b::post).map g) acc Q
 |[],acc,Q,_,o=>by
  obtain⟨c,n,l⟩:=o;exact⟨c,n,λC s2 e fp=>λF σ H R m k=>l C s2 e fp F σ H R m λas vs H' q=>k as vs H' (.inr q)⟩
 |t::ts,acc,Q,h,o=>by
  obtain⟨c,n,l⟩:=h t (by simp);exact⟨c,n,λC s2 e fp=>λF σ H R m k=>l C s2 e fp _ (λa=>uJ (Q:=Q) ts (acc++[a.d]) (λt' j=>h t' (zI6 _ j)) o) F σ H R m λas vs H' q=>k as vs H' (.inl q)⟩
def fU {f CR CT:Ab}{fd:Ag}(b:IK K CI)(hm:mg "Inn"=some (.ref CI))(mk:Mk K CI f)(F:Fun K "__init__" "Inn.__init__" vO f fd)(B:Binds K fd ["self","rooms","books"] [])(CK:rL P w K mg base "Book" 9 [] (vt CB cs))(x:uO P w K mg base "Book" 9 (oK CR))(BT:uO P w K mg base "Book" 9 (sF CT)):jI P w K mg base "Inn" 11 CI (aG CR CT):=by
 refine⟨f,fd,_,hm,mk,B,zE9 F zr8 (by decide) (λas q h=>?_) (λcdv J outer s H E u as q r xe hr h hp hk A t=>?_)⟩
 .obtain⟨u,rc,pre,post,p,e,rfl,_⟩:=h;rfl
 .obtain⟨G,rc,pre,post,p,e,D,ok,I,l,m⟩:=h;cases D;subst A;refine uo 0 rfl hp b.c b.n1 (by rw[hk];rfl) (by rw[hk];show 0<900;decide) (zc 1 rfl λv1=>?_);refine uo 0 rfl hp b.c b.n2 (by show yr (u.kvs++_) _=none;rw[hk];rfl) (by show(u.kvs++_).length<900;rw[hk];show 1<900;decide) (EvL.d (vW ["pair"] [none] (.one 0) (yq (zc 2 rfl ⟨_,rfl,by rw[zH8];omega,?_⟩))));refine wg (g:=prD) (f:=λp=>PyData.str p.1) _ [] (λp a=>⟨_,rfl,λC s2 k fp Q' i=>zx hr.one (λ_ _=>rfl) (zc 0 rfl (zf (ixk rfl rfl (show atI [PyData.str p.1,.list p.2] 0=some (.str p.1)from rfl) i)))⟩) ?_;intro v2;have v:yr ((u.kvs++[(PyData.str "room_count",PyData.int rc)])++[(PyData.str "names",PyData.list ([]++(pre++p::post).map λp=>PyData.str p.1))]) "books"=none:=by rw[hk];rfl
  have o:((u.kvs++[(PyData.str "room_count",PyData.int rc)])++[(PyData.str "names",PyData.list ([]++(pre++p::post).map λp=>PyData.str p.1))]).length<900:=by rw[hk];show 2<900;decide
  cases l with
  |@rule n hn hu=>
   refine uo 0 rfl hp b.c b.n3 v o (EvL.d (Q:=λ_=>_) (gE (j:=3) (N:=["pair"]) (imp:=[none]) (pat:=.one 0) t rfl (leX.nil rfl) CK x hr (by intros;rfl) (by rfl) ze0 (by decide +kernel) rfl (λ_ _ _ _=>zQ ze0.nd rfl (Or.inl rfl)) (yq (zc 2 rfl ⟨_,rfl,by rw[zH8];omega,?_⟩))));refine uJ (g:=prD) pre [] (λp a=>⟨_,rfl,λC s2 k fp Q' i=>zb (zx hr.one (λ_ _=>rfl) (zc 0 rfl (zf (ixk rfl rfl (show atI [PyData.str p.1,.list p.2] 1=some (.list p.2)from rfl) (ze ⟨p.2,.inl rfl,(ok p a).1.rules,(ok p a).2,i _⟩)))))⟩) ⟨_,rfl,λC s2 k fp=>zb (zx hr.one (λ_ _=>rfl) (zc 0 rfl (zf (ixk rfl rfl (show atI [PyData.str p.1,.list p.2] 1=some (.list p.2)from rfl) (ze ⟨p.2,n,rfl,hn,hu,m⟩)))))⟩
  |many rd z y=>
   refine uo 0 rfl hp b.c b.n3 v o (EvL.d (Q:=λ_=>_) (gE (j:=3) (N:=["pair"]) (imp:=[none]) (pat:=.one 0) t rfl (leX.nil rfl) CK BT hr (by intros;rfl) (by rfl) ze0 (by decide +kernel) rfl (λ_ _ _ _=>zQ ze0.nd rfl (Or.inl rfl)) (yq (zc 2 rfl ⟨_,rfl,by rw[zH8];omega,?_⟩))));refine uJ (g:=prD) pre [] (λp a=>⟨_,rfl,λC s2 k fp Q' i=>zb (zx hr.one (λ_ _=>rfl) (zc 0 rfl (zf (ixk rfl rfl (show atI [PyData.str p.1,.list p.2] 1=some (.list p.2)from rfl) (ze ⟨p.2,.inl rfl,(ok p a).1.rules,(ok p a).2,i _⟩)))))⟩) ⟨_,rfl,λC s2 k fp=>zb (zx hr.one (λ_ _=>rfl) (zc 0 rfl (zf (ixk rfl rfl (show atI [PyData.str p.1,.list p.2] 1=some (.list p.2)from rfl) (ze ⟨p.2,rfl,rd.rules,z,y,m⟩)))))⟩
end
abbrev hV :An:=top 77
def tl (w:Str):Aa:=.tuple [.str w,.none]
def tlR (n:Nat):Aa:=.tuple [.str "no rule",.int n]
def okD :Aa:=tl "ok"
def sC (x:Str)(d:Aa):Aa:=.tuple [.str "lay",.str x,d]
def gk (x:Str):Aa:=.tuple [.str "tidy",.str x]
def gY :Aa:=.tuple [.str "undo"]
def zm3 (n:Int):Aa:=.tuple [.str "back",.int n]
structure Xs where
 CK:Ab
 CN:Ab
 CR:Ab
 CT:Ab
 CD:Ab
inductive TlX (xs:Xs):Nat->Ab->Aa->Aa->Prop
 |k:TlX xs 1 xs.CK (xD0 xs.CK) (tl "no taken")
 |n:TlX xs 2 xs.CN (xD0 xs.CN) (tl "no name")
 |r (n:Nat):TlX xs 3 xs.CR (nrX xs.CR n) (tlR n)
 |t:TlX xs 4 xs.CT (xD0 xs.CT) (tl "many")
 |d:TlX xs 5 xs.CD (xD0 xs.CD) (tl "no deed")
theorem TlX.is {xs:Xs}{k:Nat}{C:Ab}{x e:Aa}(h:TlX xs k C x e):isX C x:=by
 cases h with
 |r n=>exact .inl ⟨_,rfl⟩
 |_=>exact .inr rfl
structure KX (K:Ae)(mg:Str->Option Ac)(S C:Ab)(k:Nat):Prop where
 b:XB K C S
 x:∃init,XC K C S init
 o:∃B,mg "Off"=some (.ref B)/\PySem.W.kitOne K (.ref C) (.ref B)=some (k == 0)
 t:∃B,mg "NoTaken"=some (.ref B)/\PySem.W.kitOne K (.ref C) (.ref B)=some (k == 1)
 n:∃B,mg "NoName"=some (.ref B)/\PySem.W.kitOne K (.ref C) (.ref B)=some (k == 2)
 r:∃B,mg "NoRule"=some (.ref B)/\PySem.W.kitOne K (.ref C) (.ref B)=some (k == 3)
 m:∃B,mg "TooMany"=some (.ref B)/\PySem.W.kitOne K (.ref C) (.ref B)=some (k == 4)
 d:∃B,mg "NoDeed"=some (.ref B)/\PySem.W.kitOne K (.ref C) (.ref B)=some (k == 5)
 v:PySem.W.kitOne K (.ref C) (.type "ValueError")=some true
structure XH (K:Ae)(mg:Str->Option Ac)(S:Ab)(xs:Xs):Prop where
 mS:mg "StayError"=some (.ref S)
 mV:mg "ValueError"=none
 k:KX K mg S xs.CK 1
 n:KX K mg S xs.CN 2
 r:KX K mg S xs.CR 3
 t:KX K mg S xs.CT 4
 d:KX K mg S xs.CD 5
 nr:PySem.W.findIn K (.ref xs.CR) "number"=some none
theorem XH.of {K:Ae}{mg:Str->Option Ac}{S:Ab}{xs:Xs}(h:XH K mg S xs){k:Nat}{C:Ab}{x e:Aa}(t:TlX xs k C x e):KX K mg S C k:=by
 cases t with
 |k=>exact h.k
 |n=>exact h.n
 |r=>exact h.r
 |t=>exact h.t
 |d=>exact h.d
inductive oq (b:List Aa):List Aa->Aa->Prop
 |rule {ds:List Aa}{n:Nat}:xO ds n->n<=900->oq b ds (tlR n)
 |many {ds:List Aa}:zF ds->24<ds.length->ds.length<=900->oq b ds (tl "many")
 |both {ds:List Aa}:zF ds->ds.length<=24->24<b.length+ds.length->oq b ds (tl "many")
theorem oq.x {b ds:List Aa}{e:Aa}(xs:Xs)(h:oq b ds e):∃k C x,ba xs.CR xs.CT b ds x/\TlX xs k C x e:=by
 cases h with
 |rule c a=>exact⟨3,_,_,.rule c a,.r _⟩
 |many c a d=>exact⟨4,_,_,.many c a d,.t⟩
 |both c a d=>exact⟨4,_,_,.both c a d,.t⟩
inductive rT (ns:List Str)(bs:BkL)(none':Bool):Aa->Aa->Prop
 |lname {x:Str}{d:Aa}:x∉ns->x.length<=10000->rT ns bs none' (sC x d) (tl "no name")
 |tname {x:Str}:x∉ns->x.length<=10000->rT ns bs none' (gk x) (tl "no name")
 |lay {x:Str}{j:Nat}{b ds:List Aa}{e:Aa}:At ns x j->bs[j]?=some b->zF b->b.length<=24->oq b ds e->rT ns bs none' (sC x (.list ds)) e
 |undo:none'=true->rT ns bs none' gY (tl "no deed")
 |back {n:Int}:n.natAbs.log2<1920->rT ns bs none' (zm3 n) (tl "no taken")
inductive jr (ns:List Str)(bs:BkL)(ps:List BkL):Aa->BkL->List BkL->Prop
 |lay {x:Str}{j:Nat}{b ds:List Aa}:At ns x j->bs[j]?=some b->zF b->zF ds->b.length+ds.length<=24->ps.length<900->jr ns bs ps (sC x (.list ds)) (bs.set j (b++ds)) (ps++[bs])
 |undo {b0:BkL}{ps':List BkL}:ps=ps'++[b0]->b0.length=bs.length->jr ns bs ps gY b0 ps'
def oQ (CI CB:Ab)(cs:Cs):Ph:=λas Q=>∃s rc ns bs ps d,as=[.inn s,.dat d]/\yA CI CB cs s rc ns bs ps/\((∃b ps',jr ns bs ps d b ps'/\∀s',yA CI CB cs s' rc ns b ps'->s'.a=s.a->s'.lp=s.lp->Q (.res okD s'))\/∃t,rT ns bs ps.isEmpty d t/\Q (.res t s))
section
variable {P:Ah}{w:Ak}{K:Ae}{mg:Str->Option Ac}{base:Ao}{cs:Cs}{CI CB:Ab}
def nu :zo ["_law_inn","_law_deed","_law_kinds","e",""] ["_law_inn","_law_deed"] (zd hV):=.o
def eo {f S:Ab}{fd:Ag}{xs:Xs}(IC:IK K CI)(B:XH K mg S xs)(nb:NbT mg)(F:Fun K "_law_done" "_law_done" hV f fd)(hm:mg "_law_done"=some (.ref f))(hb:Binds K fd ["_law_inn","_law_deed"] [])(V:yw P w K mg base CI "lay" 12 (za2 CI CB cs))(J:yM P w K mg base CI "lay" 12 (aP CI CB cs xs.CN xs.CR xs.CT))(Y:yM P w K mg base CI "tidy" 2 (iR CI CB cs xs.CN))(M:yw P w K mg base CI "undo" 1 (dZ CI CB cs))(UX:yM P w K mg base CI "undo" 1 (gA CI CB cs xs.CD))(BX:yM P w K mg base CI "give_back" 1 (gy CI CB cs xs.CK)):qK P w K mg base "_law_done" 13 (oQ CI CB cs):=by
 refine⟨f,fd,_,hm,F.kp,hb,fnG F nu (λas Q h=>?_) (λcdv A' outer s H E as Q hr h=>?_)⟩
 .obtain⟨s,rc,ns,bs,ps,d,rfl,_⟩:=h;rfl
 .obtain⟨s,rc,ns,bs,ps,d,rfl,st,h⟩:=h;have U:=st.C;subst U;have nd:=nu.nd;have R:leX [some (.inn s),some (.dat d),none,none,none] [some (.inn s),some (.dat d),none,none,none]:=leX.cons (.inr ⟨rfl,λa e=>by cases e;trivial⟩) (leX.cons (.inr ⟨rfl,λa e=>by cases e;trivial⟩) (leX.cons (.inl rfl) (leX.cons (.inl rfl) (leX.cons (.inl rfl) leX.nil'))));have l:∀r:Fr,leX [some (.inn s),some (.dat d),none,none,none] [some (.inn s),some (.dat d),none,none,some (.exc r λ_=>True)]:=λr=>leX.cons (.inr ⟨rfl,λa e=>by cases e;trivial⟩) (leX.cons (.inr ⟨rfl,λa e=>by cases e;trivial⟩) (leX.cons (.inl rfl) (leX.cons (.inl rfl) (leX.cons (.inl rfl) leX.nil'))));have g:∀m:Str,yr (zi1 CB cs rc ns bs) m=none->yr s.kvs m=none:=λm h=>by rw[st.kv];exact h
  have c:∀m:Str,m≠"past"->m≠s.nm:=λm h=>by rw[st.nm];exact h
  refine lP 3 4 [some (.inn s),some (.dat d),none,none,none] (λx=>∃k C e,TlX xs k C x e/\Q (.res e s)) rfl rfl nd rfl R (by rfl) B.mS (λx h=>?_) (λpins xe r A=>?_) (λpins a x S' h=>?_)
  .obtain⟨k,C,e,t,_⟩:=h;exact⟨C,t.is,(B.of t).b⟩
  .rcases h with⟨a0,ps',h,q⟩|⟨t,h,q⟩
   .cases h with
    |@lay x j b ds i h2 z h4 h5 h6=>
     refine zM (zZ hr.units (zx hr.one (λ_ _=>rfl) (zc 1 rfl (zf (ixk rfl rfl rfl (zt (eqk (by decide +kernel) (by decide +kernel) rfl rfl ?_)))))));refine zK (by decide +kernel) (zr ?_);refine zM (zZ hr.units (zx hr.one (λ_ _=>rfl) (zc 1 rfl (zf (ixk rfl rfl rfl (zt (eqk (by decide +kernel) (by decide +kernel) rfl rfl ?_)))))));refine zK (by decide +kernel) (zr ?_);refine zM (zZ hr.units (zx hr.one (λ_ _=>rfl) (zc 1 rfl (zf (ixk rfl rfl rfl (zt (eqk (by decide +kernel) (by decide +kernel) rfl rfl ?_)))))));refine yG (by decide +kernel) ?_;exact vi 0 rfl (vc 0 (nL 0 rfl V (hr.mono (by decide)) (g _ rfl) (c _ (by decide)) (zb (zx hr.one (λ_ _=>rfl) (zc 1 rfl (zf (ixk rfl rfl rfl (zb (zx hr.one (λ_ _=>rfl) (zc 1 rfl (zf (ixk rfl rfl rfl (ze ⟨s,rc,ns,bs,ps,x,j,b,ds,rfl,st,i,h2,z,h4,h5,h6,λs' y G D=>⟨_,s',rfl,G,D,q s' y G D⟩⟩)))))))))))))
    |@undo b0 ps' i h2=>
     subst i;refine zM (zZ hr.units (zx hr.one (λ_ _=>rfl) (zc 1 rfl (zf (ixk rfl rfl rfl (zt (eqk (by decide +kernel) (by decide +kernel) rfl rfl ?_)))))));refine zK (by decide +kernel) (zr ?_);refine zM (zZ hr.units (zx hr.one (λ_ _=>rfl) (zc 1 rfl (zf (ixk rfl rfl rfl (zt (eqk (by decide +kernel) (by decide +kernel) rfl rfl ?_)))))));refine zK (by decide +kernel) (zr ?_);refine zM (zZ hr.units (zx hr.one (λ_ _=>rfl) (zc 1 rfl (zf (ixk rfl rfl rfl (zt (eqk (by decide +kernel) (by decide +kernel) rfl rfl ?_)))))));refine zK (by decide +kernel) (zr ?_);refine zM (zZ hr.units (zx hr.one (λ_ _=>rfl) (zc 1 rfl (zf (ixk rfl rfl rfl (zt (eqk (by decide +kernel) (by decide +kernel) rfl rfl ?_)))))));refine zK (by decide +kernel) (zr ?_);exact vi 0 rfl (vc 0 (lW 0 rfl M (hr.mono (by decide)) (g _ rfl) (c _ (by decide)) ⟨s,rc,ns,bs,_,_,rfl,st,h2,λs' y G D=>⟨_,s',rfl,G,D,q s' y G D⟩⟩))
   .cases h with
    |@lname x d' i h2=>
     refine zM (zZ hr.units (zx hr.one (λ_ _=>rfl) (zc 1 rfl (zf (ixk rfl rfl rfl (zt (eqk (by decide +kernel) (by decide +kernel) rfl rfl ?_)))))));refine zK (by decide +kernel) (zr ?_);refine zM (zZ hr.units (zx hr.one (λ_ _=>rfl) (zc 1 rfl (zf (ixk rfl rfl rfl (zt (eqk (by decide +kernel) (by decide +kernel) rfl rfl ?_)))))));refine zK (by decide +kernel) (zr ?_);refine zM (zZ hr.units (zx hr.one (λ_ _=>rfl) (zc 1 rfl (zf (ixk rfl rfl rfl (zt (eqk (by decide +kernel) (by decide +kernel) rfl rfl ?_)))))));refine yG (by decide +kernel) ?_;exact vi 0 rfl (vc 0 (vU 0 4 rfl A rfl (l r) J (hr.mono (by decide)) (g _ rfl) (c _ (by decide)) (zb (zx hr.one (λ_ _=>rfl) (zc 1 rfl (zf (ixk rfl rfl rfl (zb (zx hr.one (λ_ _=>rfl) (zc 1 rfl (zf (ixk rfl rfl rfl (ze ⟨s,rc,ns,bs,ps,x,d',rfl,st,.inl ⟨i,h2,2,_,_,.n,q⟩⟩)))))))))))))
    |@tname x i h2=>
     refine zM (zZ hr.units (zx hr.one (λ_ _=>rfl) (zc 1 rfl (zf (ixk rfl rfl rfl (zt (eqk (by decide +kernel) (by decide +kernel) rfl rfl ?_)))))));refine zK (by decide +kernel) (zr ?_);refine zM (zZ hr.units (zx hr.one (λ_ _=>rfl) (zc 1 rfl (zf (ixk rfl rfl rfl (zt (eqk (by decide +kernel) (by decide +kernel) rfl rfl ?_)))))));refine zK (by decide +kernel) (zr ?_);refine zM (zZ hr.units (zx hr.one (λ_ _=>rfl) (zc 1 rfl (zf (ixk rfl rfl rfl (zt (eqk (by decide +kernel) (by decide +kernel) rfl rfl ?_)))))));refine zK (by decide +kernel) (zr ?_);refine zM (zZ hr.units (zx hr.one (λ_ _=>rfl) (zc 1 rfl (zf (ixk rfl rfl rfl (zt (eqk (by decide +kernel) (by decide +kernel) rfl rfl ?_)))))));refine yG (by decide +kernel) ?_;exact vi 0 rfl (vc 0 (vU 0 4 rfl A rfl (l r) Y (hr.mono (by decide)) (g _ rfl) (c _ (by decide)) (zb (zx hr.one (λ_ _=>rfl) (zc 1 rfl (zf (ixk rfl rfl rfl (ze ⟨s,rc,ns,bs,ps,x,rfl,st,i,h2,2,_,_,.n,q⟩))))))))
    |@lay x j b ds e i h2 z h4 h5=>
     obtain⟨k,C,X,O,ht⟩:=h5.x xs;refine zM (zZ hr.units (zx hr.one (λ_ _=>rfl) (zc 1 rfl (zf (ixk rfl rfl rfl (zt (eqk (by decide +kernel) (by decide +kernel) rfl rfl ?_)))))));refine zK (by decide +kernel) (zr ?_);refine zM (zZ hr.units (zx hr.one (λ_ _=>rfl) (zc 1 rfl (zf (ixk rfl rfl rfl (zt (eqk (by decide +kernel) (by decide +kernel) rfl rfl ?_)))))));refine zK (by decide +kernel) (zr ?_);refine zM (zZ hr.units (zx hr.one (λ_ _=>rfl) (zc 1 rfl (zf (ixk rfl rfl rfl (zt (eqk (by decide +kernel) (by decide +kernel) rfl rfl ?_)))))));refine yG (by decide +kernel) ?_;exact vi 0 rfl (vc 0 (vU 0 4 rfl A rfl (l r) J (hr.mono (by decide)) (g _ rfl) (c _ (by decide)) (zb (zx hr.one (λ_ _=>rfl) (zc 1 rfl (zf (ixk rfl rfl rfl (zb (zx hr.one (λ_ _=>rfl) (zc 1 rfl (zf (ixk rfl rfl rfl (ze ⟨s,rc,ns,bs,ps,x,_,rfl,st,.inr ⟨j,b,ds,X,rfl,i,h2,z,h4,O,k,C,_,ht,q⟩⟩)))))))))))))
    |undo i=>
     have hp:ps=[]:=by cases ps with|nil=>rfl|cons _ _=>cases i
     subst hp;refine zM (zZ hr.units (zx hr.one (λ_ _=>rfl) (zc 1 rfl (zf (ixk rfl rfl rfl (zt (eqk (by decide +kernel) (by decide +kernel) rfl rfl ?_)))))));refine zK (by decide +kernel) (zr ?_);refine zM (zZ hr.units (zx hr.one (λ_ _=>rfl) (zc 1 rfl (zf (ixk rfl rfl rfl (zt (eqk (by decide +kernel) (by decide +kernel) rfl rfl ?_)))))));refine zK (by decide +kernel) (zr ?_);refine zM (zZ hr.units (zx hr.one (λ_ _=>rfl) (zc 1 rfl (zf (ixk rfl rfl rfl (zt (eqk (by decide +kernel) (by decide +kernel) rfl rfl ?_)))))));refine zK (by decide +kernel) (zr ?_);refine zM (zZ hr.units (zx hr.one (λ_ _=>rfl) (zc 1 rfl (zf (ixk rfl rfl rfl (zt (eqk (by decide +kernel) (by decide +kernel) rfl rfl ?_)))))));refine zK (by decide +kernel) (zr ?_);exact vi 0 rfl (vc 0 (eJ 0 4 rfl A rfl (l r) UX (hr.mono (by decide)) (g _ rfl) (c _ (by decide)) ⟨s,rc,ns,bs,rfl,st,5,_,_,.d,q⟩))
    |@back n i=>
     refine zM (zZ hr.units (zx hr.one (λ_ _=>rfl) (zc 1 rfl (zf (ixk rfl rfl rfl (zt (eqk (by decide +kernel) (by decide +kernel) rfl rfl ?_)))))));refine zK (by decide +kernel) (zr ?_);refine zM (zZ hr.units (zx hr.one (λ_ _=>rfl) (zc 1 rfl (zf (ixk rfl rfl rfl (zt (eqk (by decide +kernel) (by decide +kernel) rfl rfl ?_)))))));refine yG (by decide +kernel) ?_;exact vi 0 rfl (vc 0 (vU 0 4 rfl A rfl (l r) BX (hr.mono (by decide)) (g _ rfl) (c _ (by decide)) (zb (zx hr.one (λ_ _=>rfl) (zc 1 rfl (zf (ixk rfl rfl rfl (ze ⟨s,rc,ns,bs,ps,n,rfl,st,i,1,_,_,.k,q⟩))))))))
  .obtain⟨k,C,e,t,q⟩:=h;have p:=t.is;have u:=B.of t;obtain⟨init,xc⟩:=u.x;obtain⟨B0,m0,I⟩:=u.o;obtain⟨B1,m1,e1⟩:=u.t;obtain⟨B2,m2,Z⟩:=u.n;obtain⟨B3,m3,L⟩:=u.r;obtain⟨B4,m4,e4⟩:=u.m;obtain⟨B5,m5,e5⟩:=u.d;refine hG 3 rfl ?_;refine zL 2 nd (EvL.d (zR (zb (yZ (by rfl) nb.isinstance (by rfl) m0 (zc 3 rfl ⟨C,_,init,_,p,xc,I,?_⟩)))));refine zb (yZ (by rfl) nb.isinstance (by rfl) m1 (zc 3 rfl ⟨C,_,init,_,p,xc,e1,?_⟩));refine zb (yZ (by rfl) nb.isinstance (by rfl) m2 (zc 3 rfl ⟨C,_,init,_,p,xc,Z,?_⟩));refine zb (yZ (by rfl) nb.isinstance (by rfl) m3 (zc 3 rfl ⟨C,_,init,_,p,xc,L,ze ⟨_,rfl,zH7 rfl,?_⟩⟩));refine zL 2 nd (EvL.d (xF (zc 2 rfl (EvL.d (zR (zb (yZ (by rfl) nb.isinstance (by rfl) m4 (zc 3 rfl ⟨C,_,init,_,p,xc,e4,?_⟩))))))));refine zb (yZ (by rfl) nb.isinstance (by rfl) m5 (zc 3 rfl ⟨C,_,init,_,p,xc,e5,ze ⟨_,rfl,zH7 rfl,_,_,rfl,rfl,zH7 rfl,?_⟩⟩));have hk:k<6:=by cases t<;>decide
   have N:k≠0:=by cases t<;>decide
   have T:([k == 0,k == 1,k == 2,k == 3,k == 4,k == 5]:List Bool).count true=1:=by cases t<;>rfl
   refine zM (EvW.t (rZ (vG hr.units (fv (zc 2 rfl ⟨[k == 0,k == 1,k == 2,k == 3,k == 4,k == 5],rfl,pE ⟨true,rfl,zf (eqk rfl rfl rfl rfl ?_)⟩⟩)))));rw[T];refine tj rfl (uB (vj (xI (ae (by rfl) nb.isinstance (by rfl) B.mV PyProof.Rows.Boot.«ValueError» (zc 3 rfl ⟨C,_,init,true,p,xc,u.v,⟨_,rfl,?_⟩⟩)))));refine zK rfl (zr ?_);refine zM (xI (yZ (by rfl) nb.isinstance (by rfl) m0 (zc 3 rfl ⟨C,_,init,_,p,xc,I,⟨_,rfl,?_⟩⟩)));refine zK (by cases t<;>rfl) (zr ?_);refine zM (xI (yZ (by rfl) nb.isinstance (by rfl) m3 (zc 3 rfl ⟨C,_,init,_,p,xc,L,⟨_,rfl,?_⟩⟩)));by_cases z:k=3
   .cases t with
    |r n=>exact yG rfl (xy 0 rfl (zU (zb (zt (zb (gD xc B.nr (zc 3 rfl ⟨_,_,rfl,rfl,ze ⟨_,rfl,zH7 rfl,q⟩⟩)))))))
    |_=>cases z
   .refine zK (by cases t<;>first|rfl|exact absurd rfl z) (zr ?_);refine xy 0 rfl (zU (zb (zx hr.one (λ_ _=>rfl) (EvL.d (zR ?_)))));refine zb (zt (zb (zt (zb (zt (zb (zt (zb (zt (zb (zt (ze ⟨_,rfl,zH7 rfl,?_⟩))))))))))));refine zh2 (zc 2 rfl ⟨[k == 0,k == 1,k == 2,k == 3,k == 4,k == 5],rfl,pE ⟨true,k,rfl,?_,?_,?_⟩⟩)
    .cases t<;>rfl
    .cases t<;>decide
    .cases t with
     |r n=>exact absurd rfl z
     |_=>exact ixk rfl rfl rfl (zb (yD (ze ⟨_,rfl,zH7 rfl,q⟩)))
end
open PyProof
abbrev kO :An:=top 78
abbrev cS :An:=top 79
def abc :Str:="abcdefghijklmnopqrstuvwxyz"
def cl (x:Str):List Nat:=x.cps.toList
def qA (x y:Str):cl (x++y)=cl x++cl y:=by unfold cl;rw[Str.cps_append,Array.toList_append]
def zx0 (x:Str):(cl x).length=x.length:=rfl
def zm8 {x:Str}{j:Nat}(h:j<=x.length):cl (Txt.slice x none (some (j:Int)))=(cl x).take j:=by
 have e:Txt.slice x none (some (j:Int))=_:=StrLaws.sliceText_to (x:=x) (j:=(j:Int)) ⟨by omega,by rw[zS7];have:x.cps.size=x.length:=rfl;omega⟩;rw[e];unfold cl;simp
def zk8 {x:Str}{j:Nat}(h:j<=x.length):cl (Txt.slice x (some (j:Int)) none)=(cl x).drop j:=by
 have e:Txt.slice x (some (j:Int)) none=_:=StrLaws.sliceText_from (x:=x) (i:=(j:Int)) ⟨by omega,by rw[zS7];have:x.cps.size=x.length:=rfl;omega⟩;rw[e];unfold cl;simp only[List.toList_toArray,zU3];rw[zU6];rw[zQ6];omega
def jw {i:Nat}(h:i<26):atI (cl abc) (i:Int)=some (97+i):=by
 have:∀i<26,atI (cl abc) ((i:Nat):Int)=some (97+i):=by decide +kernel
 exact this i h
def Low (x:Str):Prop:=∀c∈cl x,97<=c/\c<123
theorem ke :∀{ts:List Str},(∀t∈ts,Low t/\t.length=1)->Low (Str.join "" ts)/\(Str.join "" ts).length=ts.length
 |[],_=>⟨λc a=>absurd (show c∈([]:List Nat)from a) (by simp),rfl⟩
 |[x],h=>⟨(h x (by simp)).1,(h x (by simp)).2⟩
 |x::y::r,h=>by
  obtain⟨i1,i2⟩:=ke (ts:=y::r) λt ht=>h t (zI6 _ ht);obtain⟨d,b⟩:=h x (by simp);have e:Str.join "" (x::y::r)=x++""++Str.join "" (y::r):=rfl;rw[e]
  constructor
  .intro c a;rw[qA,qA,zM9,zM9]at a;rcases a with(a|a)|a
   .exact d c a
   .cases a
   .exact i1 c a
  .rw[zM2,zM2,i2,b,show("":Str).length=0 from rfl];simp only[zI7];omega
def zj2 {ts:List Str}(h:(ts.map (·.length)).sum<=5000):JoinOk "" ts=true:=by
 unfold JoinOk Builtin.Str.tooLong;rw[StrLaws.joinTotal,Bool.not_eq_true',zR7];have e:("":Str).length=0:=rfl;have:5000<=sizeLine:=by decide
 rw[e];omega
def Sgn (a:Nat)(x:Str)(c:Nat):Prop:=(cl x)[a]?=some c/\x.length<=10
structure Nms (ns:List Str):Prop where
 at':∃a f:Nat,∀k x,ns[k]?=some x->Sgn a x (97+(f+k) % 26)
theorem Nms.ne {ns:List Str}(h:Nms ns){i j:Nat}{x y:Str}(hi:ns[i]?=some x)(c:ns[j]?=some y)(ne:i≠j)(li:i<26)(e:j<26):x≠y:=by
 obtain⟨a,f,h⟩:=h.at';have d:=(h i x hi).1;have b:=(h j y c).1;rintro rfl;rw[d]at b;injection b with b;omega
def Nms.len {ns:List Str}(h:Nms ns){x:Str}(b:x∈ns):x.length<=10:=by
 obtain⟨a,f,h⟩:=h.at';obtain⟨i,hi⟩:=zR3 b;exact(h i x hi).2
def Nms.no {ns:List Str}(h:Nms ns){y:Str}(c:y=""\/y="A"):y∉ns:=by
 intro hm;obtain⟨a,f,h⟩:=h.at';obtain⟨i,hi⟩:=zR3 hm;have b:=(h i y hi).1;rcases c with rfl|rfl
 .have e:cl ""=[]:=rfl;rw[e]at b;cases b
 .have e:cl "A"=[65]:=by decide +kernel
  rw[e]at b
  match a,b with
  |0,b=>injection b with b;omega
def hZ :List A->(A->Prop)->Prop:=λas Q=>as=[.tape,.dat (.int 6)]/\∀ns:List Str,Nms ns->ns.length=6->Q (.own (ns.map .str))
def uP :List A->(A->Prop)->Prop:=λas Q=>∃m:Int,as=[.tape,.dat (.int m)]/\0<=m/\m<=30/\∀ds,zF ds->(ds.length:Int)<=m->Q (.own ds)
section
variable {P:Ah}{w:Ak}{K:Ae}{mg:Str->Option Ac}{base:Ao}
def bq :zo ["_law_row","_law_many"] ["_law_row","_law_many"] (zd cS):=.o
def jE {f:Ab}{fd:Ag}(F:Fun K "_law_some" "_law_some" cS f fd)(hm:mg "_law_some"=some (.ref f))(j:Binds K fd ["_law_row","_law_many"] [])(nb:NbT mg)(CD:Cal P w K mg base "_law_take" 1 wq)(CR:Cal P w K mg base "_law_rule" 4 iQ):Cal P w K mg base "_law_some" 5 uP:=by
 refine rq F hm j bq (λas Q h=>?_) (λcdv l outer s H E as Q hr h=>?_)
 .obtain⟨m,rfl,_⟩:=h;rfl
 .obtain⟨m,rfl,m0,m1,q⟩:=h;have a:(1000001:Int)<big:=by decide
  refine sI (vW ["_law_k","_law_row"] [none,some 0] (.one 0) (ub (by rfl) nb.range (zE CD (hr.mono (by decide)) (by rfl) (zB 0 rfl (zb (yt (zc 1 rfl (zf ⟨_,_,rfl,rfl,ze ⟨_,rfl,by omega,by omega,λv k g1=>⟨v,rfl,by omega,by omega,?_⟩⟩⟩))))))));refine⟨by rw[zH8,yv];omega,?_⟩;refine wR (λi acc=>zF acc/\acc.length<=i) ⟨λd hd=>by simp at hd,zI3 _⟩ (λi d acc hd ⟨c,b⟩=>⟨_,rfl,λC s2 g fp=>?_⟩) (λacc h=>?_)
  .refine qt ?_;rw[if_pos rfl];intro C s2 g fp;refine zE CR hr (by rfl) (zB 1 rfl (zb (zf (ze ⟨50,rfl,by decide,by decide,λd rd=>⟨λe he=>?_,by rw[zI1];exact Nat.add_le_add_right b 1⟩⟩))));rcases zM9.mp he with he|he
   .exact c e he
   .rw[zM0.mp he];exact rd
  .rw[zH8,yv]at h;exact q acc h.1 (by have:=h.2;omega)
end
def zC2 {w:Str}{A c:Nat}(h:A<w.length):cl (Txt.slice w none (some (A:Int))++(⟨#[c]⟩:Str)++Txt.slice w (some ((A+1:Nat):Int)) none)=(cl w).take A++c::(cl w).drop (A+1):=by
 rw[qA,qA,zm8 (by omega),zk8 (by omega),zN1];rfl
def zp8 {w n:Str}{A c:Nat}(h:A<w.length)(e:cl n=(cl w).take A++c::(cl w).drop (A+1)):(cl n)[A]?=some c/\n.length=w.length:=by
 have a:(cl w).length=w.length:=rfl
 constructor
 .rw[e,zJ2 (by rw[zL8];omega),zL8,zW1 (by omega),zM1];rfl
 .rw[<-zx0,e,zI1,zI7,zL8,zQ6];omega
def zg2 {n y:Str}{A c:Nat}(h:(cl n)[A]?=some c)(a:n.length+y.length<=10):Sgn A (n++y) c:=by
 refine⟨?_,by rw[zM2];exact a⟩;rw[qA,zJ4 (zH9.mp h).1];exact h
def zv2 {n:Str}{A c:Nat}(h:(cl n)[A]?=some c)(a:n.length<=10):Sgn A (Txt.slice n none (some ((A+1:Nat):Int))) c:=by
 have b:=(zH9.mp h).1;have hn:(cl n).length=n.length:=rfl;refine⟨?_,zJ1 (zV7 n _ _) a⟩;rw[zm8 (by omega),zT3 (zP0 A)];exact h
section
variable {P:Ah}{w:Ak}{K:Ae}{mg:Str->Option Ac}{base:Ao}
abbrev nNm :List Str:=["_law_row","_law_many","_law_letters","_law_size","_law_word","_law_at","_law_first","_law_found","_law_k","_law_name"]
def gr :zo nNm ["_law_row","_law_many"] (zd kO):=.o
def dF {f:Ab}{fd:Ag}(F:Fun K "_law_names" "_law_names" kO f fd)(hm:mg "_law_names"=some (.ref f))(hb:Binds K fd ["_law_row","_law_many"] [])(nb:NbT mg)(CD:Cal P w K mg base "_law_take" 1 wq):Cal P w K mg base "_law_names" 2 hZ:=by
 refine rq F hm hb gr (λas Q h=>?_) (λcdv A' outer s H E as Q hr h=>?_)
 .obtain⟨rfl,_⟩:=h;rfl
 .obtain⟨rfl,q⟩:=h;have nd:=gr.nd;have I:(1000001:Int)<big:=by decide
  have R:5000<=sizeLine:=by decide
  have la:abc.length=26:=by decide +kernel
  refine zL 2 nd (zt ?_);refine zL 3 nd (yt (zf (zE CD hr (by rfl) (zB 0 rfl (zb (zf (ze ⟨7,rfl,by decide,by decide,λv1 Y g1=>⟨_,_,rfl,rfl,?_⟩⟩)))))));obtain⟨sz,D⟩:∃sz:Nat,(1:Int)+v1=(sz:Nat):=⟨(1+v1).toNat,by omega⟩;rw[D];have z1:1<=sz:=by omega
  have z2:sz<=7:=by omega
  refine zL 4 nd (gq (zt ⟨"",rfl,EvL.d (vW ["_law_k","_law_letters","_law_row"] [none,some 2,some 0] (.one 0) (ub (by rfl) nb.range (zc 3 rfl ⟨(sz:Nat),rfl,by omega,by omega,?_⟩)))⟩));refine⟨by rw[zH8,yv];omega,?_⟩;refine wR (λi acc=>∃ts:List Str,acc=ts.map .str/\ts.length=i/\∀t∈ts,Low t/\t.length=1) ⟨[],rfl,rfl,λt ht=>by cases ht⟩ (λi d acc hd ⟨ts,e,U,T⟩=>⟨_,rfl,λC s2 Z fp=>?_⟩) (λacc h=>?_)
  .refine qt ?_;rw[if_pos rfl];intro C s2 Z fp;refine kY (λ_ _=>rfl) (zc 1 rfl (zE CD hr (by rfl) (zB 2 rfl (zb (zf (ze ⟨26,rfl,by decide,by decide,λv h g=>?_⟩))))));obtain⟨n,rfl⟩:=zN3 h;refine⟨abc,(n:Int),97+n,rfl,rfl,by omega,jw (by omega),ts++[⟨#[97+n]⟩],by rw[e,zN6];rfl,by rw[zI1,U];rfl,λt ht=>?_⟩;rcases zM9.mp ht with ht|ht
   .exact T t ht
   .rw[zM0.mp ht];refine⟨λc j=>?_,rfl⟩;have j:c∈([97+n]:List Nat):=j;rw[zM0.mp j];omega
  obtain⟨ts,rfl,p,ht⟩:=h;rw[zH8,yv,zU3]at p;obtain⟨N,u⟩:=ke ht;have b:(ts.map (·.length)).sum=ts.length:=by
   clear p N u
   induction ts with
   |nil=>rfl
   |cons x r X=>rw[zL7,List.sum_cons,X (λt h=>ht t (zI6 _ h)),(ht x (by simp)).2,zI7];omega
  refine⟨ts,rfl,zj2 (by rw[b];omega),?_⟩;rw[show Txt.join "" ts=Str.join "" ts from StrLaws.glued_eq_join _ _];rw[p]at u;generalize Str.join "" ts=wd at N u;clear ht b;refine zL 5 nd (zE CD hr (by rfl) (zB 0 rfl (zb (zc 3 rfl (ze ⟨(sz:Nat),rfl,by omega,by omega,λv2 O g2=>?_⟩)))));obtain⟨a,rfl⟩:=zN3 O;have J:a<wd.length:=by omega
  refine zL 6 nd (zE CD hr (by rfl) (zB 0 rfl (zb (zf (ze ⟨26,rfl,by decide,by decide,λv3 h3 g3=>?_⟩)))));obtain⟨f0,rfl⟩:=zN3 h3;refine yL 7 nd (zR (ze ⟨[],rfl,by decide,?_⟩));refine vX (pat:=.one 8) zQ1 rfl (zQ (i:=8) nd rfl (Or.inl rfl)) (ub (by rfl) nb.range (zc 1 rfl ⟨6,rfl,by decide,by decide,?_⟩));refine xr (λi L=>∃(ns:List Str) (z B:Option A),ns.length=i/\(∀k x,ns[k]?=some x->Sgn a x (97+(f0+k) % 26))/\L=[some .tape,some (.dat (.int 6)),some (.dat (.str abc)),some (.dat (.int (sz:Nat))),some (.dat (.str wd)),some (.dat (.int (a:Nat))),some (.dat (.int (f0:Nat))),some (.own (ns.map .str)),z,B]) ⟨[],none,none,rfl,λk x h=>absurd h (by simp),rfl⟩ ?_ ?_
  .rintro i d L hd ⟨ns,z,B,ln,o,rfl⟩;have hi:i<6:=by
    have:=(zH9.mp hd).1
    rwa [zH8,yv]at this
   rw[zJ8,rR (show i<(6:Int).toNat from hi)]at hd;cases hd;refine⟨_,rfl,?_⟩;rw[Int.zero_add];have j:(f0+i) % 26<26:=Nat.mod_lt _ (by decide);refine zL 9 nd (pJ (pJ (kQ (zc 4 rfl (xT (xY (zc 5 rfl ⟨_,rfl,_,rfl,by omega,?_⟩)))))));refine kY (λ_ _=>rfl) (zc 2 rfl (jC (yt (zc 6 rfl (zc 8 rfl ⟨_,_,rfl,rfl,zf ⟨_,_,rfl,rfl,by decide,abc,((f0+i) % 26:Nat),97+(f0+i) % 26,rfl,?_,by omega,jw j,?_⟩⟩)))))
   .show PyData.int _=PyData.int _
    congr 1
   refine⟨_,_,rfl,rfl,?_,?_⟩
   .have:=zV7 wd none (some (a:Int));show _+1<=_;omega
   refine kQ (zc 4 rfl (xY (yt (zc 5 rfl (zf ⟨_,_,rfl,rfl,_,rfl,xT ⟨_,rfl,by omega,_,_,rfl,rfl,?_,?_⟩⟩)))))
   .have Y:=zV7 wd none (some (a:Int));have O:=zV7 wd (some ((a:Int)+1)) none;rw[zM2];show _+1+_<=_;omega
   have M:=zC2 (w:=wd) (c:=97+(f0+i) % 26) J;rw[show((a:Int)+1)=((a+1:Nat):Int)from rfl];obtain⟨s1,s2⟩:=zp8 J M;generalize Txt.slice wd none (some (a:Int))++(⟨#[97+(f0+i) % 26]⟩:Str)++Txt.slice wd (some ((a+1:Nat):Int)) none=nm at s1 s2;clear M;have l:∀x:Str,Sgn a x (97+(f0+i) % 26)->∀k y,(ns++[x])[k]?=some y->Sgn a y (97+(f0+k) % 26):=λx m k y hk=>by
    rcases zV5 k ns.length with h|h
    .rw[zJ4 h]at hk;exact o k y hk
    .have G:=(zH9.mp hk).1;rw[zI1,zN0]at G;have e:k=ns.length:=by omega
     subst e;rw[zJ2 (zI3 _),zM1]at hk;cases hk;rw[ln];exact m
   refine yS 7 rfl (zx hr.one (λ_ _=>rfl) (EvL.d (zR (zb (zc 9 rfl (zb (pJ (zc 9 rfl ?_))))))));refine kY (λ_ _=>rfl) (zc 2 rfl (zE CD hr (by rfl) (zB 0 rfl (zb (zf (ze ⟨26,rfl,by decide,by decide,λv4 V g4=>?_⟩))))));obtain⟨n4,rfl⟩:=zN3 V;refine⟨abc,(n4:Int),97+n4,rfl,rfl,by omega,jw (by omega),_,_,rfl,rfl,by show nm.length+1<=_;omega,?_⟩;refine zb (kQ (zc 9 rfl (xT (xY (yt (zc 5 rfl (zf ⟨_,_,rfl,rfl,_,rfl,_,rfl,by omega,ze ⟨_,rfl,zH7 rfl,?_⟩⟩)))))));refine zE CD hr (by rfl) (zB 0 rfl (zb (zf (ze ⟨3,rfl,by decide,by decide,λv5 R S=>?_⟩))));refine mO (λd=>∃x:Str,d=.str x/\Sgn a x (97+(f0+i) % 26)) rfl R S ⟨⟨_,rfl,s1,by omega⟩,⟨_,rfl,zg2 s1 (by show nm.length+1<=_;omega)⟩,⟨_,rfl,zv2 s1 (by omega)⟩,trivial⟩ ?_;rintro _ ⟨x,rfl,m⟩;exact⟨by rw[zH8];omega,zr ⟨ns++[x],_,_,by rw[zI1,ln];rfl,l x m,by rw[zN6];rfl⟩⟩
  .rintro L ⟨ns,z,B,ln,o,rfl⟩;rw[zH8,yv]at ln;exact sL 7 rfl (q ns ⟨a,f0,o⟩ ln)
end
abbrev pT :An:=top 80
abbrev jc :An:=top 81
theorem sj {n:Nat}:∀{ds:List Aa},(∀d∈ds,d.depth<=n)->PyData.depthAll ds<=n
 |[],_=>zK6 _
 |d::r,h=>by
  have b:=h d (by simp);have a:=sj (ds:=r) λd hd=>h d (zI6 _ hd);simp only[PyData.depthAll];omega
def jB {ps:List Pr}(h:∀p∈ps,pR p)(a:ps.length<=4):yE 2000000 (.list (ps.map λp=>.list p.2)):=by
 refine yE.list (n:=480314) ⟨λd hd=>?_,λd hd=>?_⟩ ?_
 .obtain⟨p,hp,rfl⟩:=zT8.mp hd;refine yE.list (n:=20011) ⟨λd hd=>((h p hp).1 d hd).nice,λd hd=>by have:=((h p hp).1 d hd).dep;omega⟩ ?_;have:=zV9 (20011+2) (h p hp).2;omega
 .obtain⟨p,hp,rfl⟩:=zT8.mp hd;have:PyData.depthAll p.2<=6:=sj λd hd=>by have:=((h p hp).1 d hd).dep;omega
  simp only[PyData.depth];omega
 .have:=zV9 (480314+2) a;rw[zH8];exact zJ1 (Nat.add_le_add_right this 2) (by decide)
def kb (CI CB:Ab)(cs:Cs):Ph:=λas Q=>∃s rc ns bs ps x,as=[.inn s,.dat (.str x)]/\yA CI CB cs s rc ns bs ps/\x∉ns/\x.length<=10000/\Q (.res (.bool true) s)
def gL (CI CB:Ab)(cs:Cs):Ph:=λas Q=>∃s rc,∃ps:List Pr,as=[.inn s,.dat (.list (ps.map prD))]/\yA CI CB cs s rc (ps.map (·.1)) (ps.map (·.2)) []/\(∀p∈ps,pR p)/\(ps.map (·.1)).Nodup/\Q (.res (.bool true) s)
def cp {ps:List Pr}{p:Pr}(h:p∈ps)(nd:(ps.map (·.1)).Nodup):∃j:Nat,At (ps.map (·.1)) p.1 j/\(ps.map (·.2))[j]?=some p.2:=by
 obtain⟨j,a⟩:=zR3 h;refine⟨j,⟨by rw[zJ8,a];rfl,λi hi e=>?_⟩,by rw[zJ8,a];rfl⟩;have b:(ps.map (·.1))[j]?=some p.1:=by rw[zJ8,a];rfl
 obtain⟨l1,d⟩:=zH9.mp e;obtain⟨l2,c⟩:=zH9.mp b;exact absurd (d.trans c.symm) (List.pairwise_iff_getElem.mp nd i j l1 l2 hi)
section
variable {P:Ah}{w:Ak}{K:Ae}{mg:Str->Option Ac}{base:Ao}{cs:Cs}{CI CB:Ab}
def lB :zo ["_law_inn","_law_name","_law_refused","_law_deeds",""] ["_law_inn","_law_name"] (zd pT):=.o
def mY {f CN:Ab}{fd:Ag}(nb:NbT mg)(F:Fun K "_law_no_name" "_law_no_name" pT f fd)(hm:mg "_law_no_name"=some (.ref f))(u:Binds K fd ["_law_inn","_law_name"] [])(n:mg "NoName"=some (.ref CN))(p:XB K CN CN)(l:yM P w K mg base CI "rules_of" 4 (wz CI CB cs CN))(o:qK P w K mg base "_law_done" 13 (oQ CI CB cs)):qK P w K mg base "_law_no_name" 14 (kb CI CB cs):=by
 refine⟨f,fd,_,hm,F.kp,u,fnG F lB (λas Q h=>?_) (λcdv z outer s H E as Q hr h=>?_)⟩
 .obtain⟨s,rc,ns,bs,ps,x,rfl,_⟩:=h;rfl
 .obtain⟨s,rc,ns,bs,ps,x,rfl,st,b,c,q⟩:=h;have t:=st.C;subst t;have nd:=lB.nd;have j:leX [some (.inn s),some (.dat (.str x)),some (.dat (.bool false)),none,none] [some (.inn s),some (.dat (.str x)),some (.dat (.bool false)),none,none]:=leX.cons (.inr ⟨rfl,λa e=>by cases e;trivial⟩) (leX.cons (.inr ⟨rfl,λa e=>by cases e;trivial⟩) (leX.cons (.inr ⟨rfl,λa e=>by cases e;trivial⟩) (leX.cons (.inl rfl) (leX.cons (.inl rfl) leX.nil'))));have i:∀r:Fr,leX [some (.inn s),some (.dat (.str x)),some (.dat (.bool false)),none,none] [some (.inn s),some (.dat (.str x)),some (.dat (.bool false)),none,some (.exc r λ_=>True)]:=λr=>leX.cons (.inr ⟨rfl,λa e=>by cases e;trivial⟩) (leX.cons (.inr ⟨rfl,λa e=>by cases e;trivial⟩) (leX.cons (.inr ⟨rfl,λa e=>by cases e;trivial⟩) (leX.cons (.inl rfl) (leX.cons (.inl rfl) leX.nil'))));refine zL 2 nd (pE ?_);refine zp2 4 [some (.inn s),some (.dat (.str x)),some (.dat (.bool false)),none,none] (λd=>d=xD0 CN) rfl rfl rfl j (by rfl) n (λd e=>⟨CN,.inr e,p⟩) (λpins xe r m=>?_) (λpins a d e=>?_)
  .exact tu 0 (vU 0 4 rfl m rfl (i r) l (hr.mono (by decide)) (by rw[st.kv];rfl) (by rw[st.nm];decide) (zb (zc 1 rfl (ze ⟨s,rc,ns,bs,ps,x,rfl,st,b,c,rfl⟩))))
  .refine zL 2 nd (pE (zr ?_));refine zL 3 nd (EvD.imp (show EvD _ _ _ (λd=>d=.list [sC x (.list [.none]),sC x (.list []),gk x])from ?_) (λd e=>?_))
   .and_intros;rfl
   subst e;have k:∀d∈[sC x (.list [.none]),sC x (.list []),gk x],rT ns bs ps.isEmpty d (tl "no name"):=λd hd=>by
    simp only[zI8,zJ7,zM4]at hd;rcases hd with rfl|rfl|rfl
    .exact .lname b c
    .exact .lname b c
    .exact .tname b c
   refine xy 0 rfl (nI (zc 2 rfl ⟨true,rfl,rh rfl (og (uK hr.units (EvL.d (kU ["_law_deed","_law_inn"] [none,some 0] (.one 0) 0 1 rfl (yq (zc 3 rfl ⟨_,rfl,zH7 rfl,?_⟩))))))⟩));refine wg (g:=λd=>d) (f:=λ_=>tl "no name") [sC x (.list [.none]),sC x (.list []),gk x] [] (λd hd=>⟨_,rfl,λC s2 y fp Q' v=>xZ 1 rfl o hr (by rfl) (zb (zc 0 rfl (ze ⟨s,rc,ns,bs,ps,d,rfl,st,.inr ⟨tl "no name",k d hd,_,rfl,v⟩⟩)))⟩) ?_;refine EvL.d (oF (EvL.d (zR (zb (zU (zb (zt (zb (yD ?_)))))))));refine ze ⟨_,rfl,by decide,?_⟩;refine ze ⟨_,rfl,by decide,?_⟩;refine zf ⟨_,3,rfl,rfl,by decide,by decide,by decide,?_⟩;show qM (.list [tl "no name",tl "no name",tl "no name"]) _ _;exact eqk (by decide +kernel) (by decide +kernel) (by decide +kernel) (by decide +kernel) q
def fh :zo ["_law_inn","_law_pairs","_law_gone"] ["_law_inn","_law_pairs"] (zd jc):=.o
def iP :List Int:=[0,1,-1,1000000000000000000000000000000]
def dh :∀n∈iP,n.natAbs.log2<1920:=by
 intro n h;simp only[iP,zI8,zJ7,zM4]at h;rcases h with rfl|rfl|rfl|rfl<;>decide +kernel
def kl {f:Ab}{fd:Ag}(nb:NbT mg)(F:Fun K "_law_is_fresh" "_law_is_fresh" jc f fd)(hm:mg "_law_is_fresh"=some (.ref f))(z:Binds K fd ["_law_inn","_law_pairs"] [])(ST:yw P w K mg base CI "standing" 1 (tV CI CB cs))(u:yw P w K mg base CI "full" 1 (tV CI CB cs))(B:yw P w K mg base CI "rooms" 2 (tV CI CB cs))(o:yw P w K mg base CI "rules_of" 4 (uh CI CB cs))(k:qK P w K mg base "_law_done" 13 (oQ CI CB cs)):qK P w K mg base "_law_is_fresh" 14 (gL CI CB cs):=by
 refine⟨f,fd,_,hm,F.kp,z,fnG F fh (λas Q h=>?_) (λcdv D outer s H E as Q hr h=>?_)⟩
 .obtain⟨s,rc,ps,rfl,_⟩:=h;rfl
 .obtain⟨s,rc,ps,rfl,st,ok,i,q⟩:=h;have y:=st.C;subst y;have nd:=fh.nd;have t:ps.length<=4:=by have:=st.ln;rw[zH8,zH8]at this;omega
  have c:∀m:Str,yr (zi1 CB cs rc (ps.map (·.1)) (ps.map (·.2))) m=none->yr s.kvs m=none:=λm h=>by rw[st.kv];exact h
  have b:∀m:Str,m≠"past"->m≠s.nm:=λm h=>by rw[st.nm];exact h
  have A:∀Q':Bool->Prop,Q' true->qM (.tuple [.list [],.list [],.list []]) (.tuple [.list [],.list [],.list []]) Q':=λQ' q=>eqk (by decide +kernel) (by decide +kernel) rfl rfl q;refine zM (vG hr.units (zU (zb (tO 0 rfl ST (hr.mono (by decide)) (c _ rfl) (b _ (by decide)) ⟨s,rc,_,_,_,rfl,st,_,rfl,?_⟩))));refine zb (tO 0 rfl u (hr.mono (by decide)) (c _ rfl) (b _ (by decide)) ⟨s,rc,_,_,_,rfl,st,_,rfl,?_⟩);refine zb (tO 0 rfl B (hr.mono (by decide)) (c _ rfl) (b _ (by decide)) ⟨s,rc,_,_,_,rfl,st,_,rfl,ze ⟨_,rfl,zH7 rfl,?_⟩⟩);refine zU (zb (EvL.d (zR (ze ⟨_,rfl,zH7 rfl,?_⟩))));refine zb (EvL.d (zR (ze ⟨_,rfl,zH7 rfl,?_⟩)));refine zb (EvL.d (zR (ze ⟨_,rfl,zH7 rfl,ze ⟨_,rfl,zH7 rfl,?_⟩⟩)));refine A _ (zK rfl (zr ?_));have a:=jB ok t;refine zM (vG hr.units (EvL.d (kU ["_law_name","_law_rules","_law_inn"] [none,none,some 0] (.many [0,1]) 0 2 rfl (yq (zc 1 rfl ⟨_,rfl,by rw[zH8];omega,?_⟩)))));refine wg (g:=prD) (f:=λp=>.list p.2) ps [] (λp hp=>⟨_,rfl,λC s2 l fp Q' e=>?_⟩) ?_
  .obtain⟨j,x,v⟩:=cp hp i;exact wx 2 rfl o (hr.mono (by decide)) (c _ rfl) (b _ (by decide)) (zb (zc 0 rfl (ze ⟨s,rc,_,_,_,p.1,j,p.2,rfl,st,x,v,(ok p hp).1.rules,by have:=(ok p hp).2;omega,_,rfl,e⟩)))
  refine EvL.d (vW ["_law_name","_law_rules"] [none,none] (.many [0,1]) (yq (zc 1 rfl ⟨_,rfl,by rw[zH8];omega,?_⟩)));refine wg (g:=prD) (f:=λp=>.list p.2) ps [] (λp hp=>⟨_,rfl,λC s2 l fp Q' e=>zc 1 rfl e⟩) ?_;rw[List.nil_append];refine eqk a.shaped a.shaped a.nod a.nod ?_;rw[zU1 _ a.lay];refine zK rfl (zr ?_);refine zw7 2 ["_law_number","_law_inn"] [none,some 0] (.one 0) 0 1 rfl (zp3 (zU (zb (zf (zb (zf (zb (jz (zf ⟨1,rfl,?_⟩)))))))));refine zb (xE (r:=1000000000000000000000000000000) ⟨by decide,by decide,by decide⟩ (by decide) (ze ⟨_,rfl,zH7 rfl,_,rfl,zH7 rfl,?_⟩));show yR _ _ _ _ _ (iP.map PyData.int) [] _;refine wg (g:=PyData.int) (f:=λ_=>tl "no taken") iP [] (λn hn=>⟨_,rfl,λC s2 l fp Q' e=>?_⟩) ?_
  .refine xZ 1 rfl k hr (by rfl) (zb (zU (zb (zt (zb (zc 0 rfl ?_))))));refine ze ⟨_,rfl,zH7 rfl,?_⟩;exact ze ⟨s,rc,_,_,_,zm3 n,rfl,st,.inr ⟨_,.back (dh n hn),_,rfl,e⟩⟩
  show SvS _ (List.set _ 2 (some (.own [tl "no taken",tl "no taken",tl "no taken",tl "no taken"]))) _ _;refine xy 0 rfl (uk 2 rfl (nI (uK hr.units (zc 2 rfl (EvL.d (oF (EvL.d (zR (zb (zU (zb (zt (zb (yD ?_))))))))))))));refine ze ⟨_,rfl,by decide,?_⟩;refine ze ⟨_,rfl,by decide,?_⟩;refine zf ⟨_,4,rfl,rfl,by decide,by decide,by decide,?_⟩;refine eqk (by decide +kernel) (by decide +kernel) (by decide +kernel) (by decide +kernel) ⟨true,congrArg PyData.bool (by decide +kernel),rh rfl ?_⟩;refine og (uK hr.units (xZ 0 rfl k hr (by rfl) (zb (zU (zb (zt ?_))))));refine ze ⟨_,rfl,zH7 rfl,?_⟩;refine ze ⟨s,rc,_,_,_,gY,rfl,st,.inr ⟨_,.undo rfl,_,rfl,?_⟩⟩;refine zU (zb (zt (zb (yD (ze ⟨_,rfl,zH7 rfl,?_⟩)))));exact eqk (by decide +kernel) (by decide +kernel) (by decide +kernel) (by decide +kernel) ⟨rfl,q⟩
end
abbrev rB :An:=top 83
inductive jH :List Aa->Aa->Prop
 |rule {ds:List Aa}{n:Nat}:xO ds n->n<=900->jH ds (tlR n)
 |many {ds:List Aa}:zF ds->24<ds.length->ds.length<=900->jH ds (tl "many")
inductive qJ :List Pr->Aa->Prop
 |ok {ps:List Pr}:(∀p∈ps,pR p)->qJ ps okD
 |bad {pre post:List Pr}{p:Pr}{e:Aa}:(∀p∈pre,pR p)->jH p.2 e->qJ (pre++p::post) e
theorem jH.x {ds:List Aa}{e:Aa}(xs:Xs)(h:jH ds e):∃k C x,iO xs.CR xs.CT ds x/\TlX xs k C x e/\(k=3\/k=4):=by
 cases h with
 |rule b a=>exact⟨3,_,_,.rule b a,.r _,.inl rfl⟩
 |many b a c=>exact⟨4,_,_,.many b a c,.t,.inr rfl⟩
def bb :List A->(A->Prop)->Prop:=λas Q=>∃(rc:Int) (ps:List Pr) (e:Aa),as=[.dat (.int rc),.dat (.list (ps.map prD))]/\ps.length<=4/\qJ ps e/\Q (.dat e)
section
variable {P:Ah}{w:Ak}{K:Ae}{mg:Str->Option Ac}{base:Ao}{cs:Cs}{CI CB:Ab}
def qU :zo ["_law_rooms","_law_pairs","e",""] ["_law_rooms","_law_pairs"] (zd rB):=.o
def mJ {f S:Ab}{fd:Ag}{xs:Xs}(g:XH K mg S xs)(nb:NbT mg)(F:Fun K "_law_inn_told" "_law_inn_told" rB f fd)(hm:mg "_law_inn_told"=some (.ref f))(L:Binds K fd ["_law_rooms","_law_pairs"] [])(v:rD P w K mg base "Inn" 11 CI (aN CI CB cs))(M:jI P w K mg base "Inn" 11 CI (aG xs.CR xs.CT)):Cal P w K mg base "_law_inn_told" 13 bb:=by
 refine rq F hm L qU (λas Q h=>?_) (λcdv R outer s H E as Q hr h=>?_)
 .obtain⟨rc,ps,e,rfl,_⟩:=h;rfl
 .obtain⟨rc,ps,e,rfl,z,h,q⟩:=h;have nd:=qU.nd;have D:leX [some (.dat (.int rc)),some (.dat (.list (ps.map prD))),none,none] [some (.dat (.int rc)),some (.dat (.list (ps.map prD))),none,none]:=leX.cons (.inr ⟨rfl,λa e=>by cases e;trivial⟩) (leX.cons (.inr ⟨rfl,λa e=>by cases e;trivial⟩) (leX.cons (.inl rfl) (leX.cons (.inl rfl) leX.nil')));have l:∀r:Fr,leX [some (.dat (.int rc)),some (.dat (.list (ps.map prD))),none,none] [some (.dat (.int rc)),some (.dat (.list (ps.map prD))),none,some (.exc r λ_=>True)]:=λr=>leX.cons (.inr ⟨rfl,λa e=>by cases e;trivial⟩) (leX.cons (.inr ⟨rfl,λa e=>by cases e;trivial⟩) (leX.cons (.inl rfl) (leX.cons (.inl rfl) leX.nil')));refine lP 2 3 [some (.dat (.int rc)),some (.dat (.list (ps.map prD))),none,none] (λx=>∃k C e,TlX xs k C x e/\(k=3\/k=4)/\Q (.dat e)) rfl rfl nd rfl D (by rfl) g.mS (λx h=>?_) (λpins xe r B=>?_) (λpins a x T h=>?_)
  .obtain⟨k,C,e,t,_⟩:=h;exact⟨C,t.is,(g.of t).b⟩
  .cases h with
   |ok ok=>exact bA v (hr.mono (by decide)) (by rfl) (zc 0 rfl (zc 1 rfl ⟨rfl,⟨_,rfl⟩,λu=>⟨u,rc,ps,rfl,ok,z,λs' st=>⟨s',rfl,zr (xk (zU (zb (zt (zb (yD (ze ⟨_,rfl,zH7 rfl,q⟩)))))))⟩⟩⟩))
   |@bad pre post p e ok hb'=>
    obtain⟨k,C,x,I,G,J⟩:=hb'.x xs;exact fG (j:=3) B rfl (l r) M (hr.mono (by decide)) (by rfl) (zb (zc 0 rfl (zb (zc 1 rfl (ze λu=>⟨u,rc,pre,post,p,x,rfl,ok,z,I,k,C,e,G,J,q⟩)))))
  .obtain⟨k,C,e,t,i,q⟩:=h;have c:=t.is;have o:=g.of t;obtain⟨init,xc⟩:=o.x;obtain⟨N,m3,A⟩:=o.r;obtain⟨O,m4,y⟩:=o.m;refine hG 2 rfl ?_;refine zM (EvW.t (ku (xI (yZ (by rfl) nb.isinstance (by rfl) m3 (zc 2 rfl ⟨C,_,init,_,c,xc,A,⟨_,rfl,?_⟩⟩)))));rcases i with rfl|rfl
   .cases t with
    |r n=>
     refine rh rfl (oh (vj (xI (yZ (by rfl) nb.isinstance (by rfl) m4 (zc 2 rfl ⟨_,_,init,_,c,xc,y,⟨_,rfl,?_⟩⟩)))));exact yG rfl (xk (zU (zb (zt (zb (gD xc g.nr (zc 2 rfl ⟨_,_,rfl,rfl,ze ⟨_,rfl,zH7 rfl,q⟩⟩)))))))
   .cases t with
    |t=>
     refine tj rfl (zK rfl (zr ?_));refine xk (zU (zb (zx hr.one (λ_ _=>rfl) (EvL.d (zR (zb (zt (zb (zt (ze ⟨_,rfl,zH7 rfl,?_⟩))))))))));refine zh7 (by rfl) nb.int (nI (yZ (by rfl) nb.isinstance (by rfl) m4 (zc 2 rfl ⟨_,_,init,_,c,xc,y,⟨_,rfl,?_⟩⟩)));refine rh rfl (og (cT (yZ (by rfl) nb.isinstance (by rfl) m3 (zc 2 rfl ⟨_,_,init,_,c,xc,A,⟨_,rfl,⟨_,rfl,?_⟩⟩⟩))));exact ixk rfl rfl rfl (zb (yD (ze ⟨_,rfl,zH7 rfl,q⟩)))
end
abbrev oy :An:=top 84
def vB :Aa:=.tuple [.str "fee",.int 0,.int 9,.int 1]
def za4 :tM vB:=.of (by decide +kernel) (by decide) (by decide) (by decide) (by decide +kernel) ((wL (by decide) (by decide)).mono (by decide)) (by decide)
def cu {ds:List Aa}{n:Nat}(h:n<=ds.length)(d:Aa):uF ds (n:Int) d=ds.take n++d::ds.drop n:=by
 unfold uF;rw[if_neg (by omega),zU3,zW1 h]
def qh {ds post:List Aa}{n:Nat}{d:Aa}(rd:zF ds)(h:n<=ds.length)(b:xS d=false)(a:SeqAt.shaped d=true)(c:d.hasDict=false):xO (uF ds (n:Int) d++post) n:=by
 rw[cu h,zN1];exact⟨ds.take n,d,ds.drop n++post,rfl,λe he=>rd.rules e (zW0 he),b,a,c,by rw[zL8];omega⟩
def jd (d:Aa):Prop:=xS d=false/\SeqAt.shaped d=true/\d.hasDict=false
def vJ :jd .none:=⟨by decide +kernel,by decide +kernel,by decide +kernel⟩
def qZ :jd (.tuple [.str "price",.int 5,.int 4,.int 1]):=⟨by decide +kernel,by decide +kernel,by decide +kernel⟩
def zw4 :jd (.tuple [.str "go",.int 1,.int 2,.int 1]):=⟨by decide +kernel,by decide +kernel,by decide +kernel⟩
def iT :jd (.list [.str "fee",.int 1,.int 2,.int 1]):=⟨by decide +kernel,by decide +kernel,by decide +kernel⟩
def za5 :jd (.tuple []):=⟨by decide +kernel,by decide +kernel,by decide +kernel⟩
theorem qJ.app {ps:List Pr}{p:Pr}{e w:Aa}(h:qJ ps e)(g:(pR p/\w=e)\/jH p.2 w):(e=okD/\qJ (ps++[p]) w)\/(e≠okD/\qJ (ps++[p]) e):=by
 cases h with
 |ok h=>
  refine .inl ⟨rfl,?_⟩;rcases g with⟨g,rfl⟩|g
  .exact .ok λq a=>by
    rcases zM9.mp a with a|a
    .exact h q a
    .rw[zM0.mp a];exact g
  .exact .bad h g
 |@bad pre post b e h hb=>
  refine .inr ⟨?_,?_⟩
  .cases hb with
   |rule _ _=>intro z;injection z with z;injection z with z;injection z with z;exact absurd z (by decide +kernel)
   |many _ _ _=>intro z;injection z with z;injection z with z;injection z with z;exact absurd z (by decide +kernel)
  .rw[zN1,zR4];exact .bad h hb
structure Tw (e:Aa):Prop where
 sh:SeqAt.shaped e=true
 nd:e.hasDict=false
 eq:PyData.eqv e e=true
 ok:(e=okD/\PyData.eqv e okD=true)\/(e≠okD/\PyData.eqv e okD=false)
def gN (x:Str)(a:PyData.strOk x=true):Tw (tl x):=by
 refine⟨?_,rfl,?_,?_⟩
 .unfold SeqAt.shaped tl;simp[PyData.canLay0,PyData.canLayAll0,PyData.depth,PyData.depthAll,a]
 .exact zU1 _ (by simp[tl,PyData.canLay0,PyData.canLayAll0,a])
 .by_cases h:x="ok"
  .subst h;exact .inl ⟨rfl,by decide +kernel⟩
  .refine .inr ⟨λz=>?_,?_⟩
   .injection z with z;injection z with z;injection z with z;exact h z
   .simp[tl,okD,PyData.eqv,PyData.eqvAll,h]
def zz9 (n:Nat)(h:n<=900):Tw (tlR n):=by
 have hn:yE 2000 (.int (n:Int)):=wL (by omega) (by omega);refine⟨?_,rfl,?_,?_⟩
 .unfold SeqAt.shaped tlR;simp[PyData.canLay0,PyData.canLayAll0,PyData.depth,PyData.depthAll];decide +kernel
 .exact zU1 _ (by simp[tlR,PyData.canLay0,PyData.canLayAll0];decide +kernel)
 .have:tlR n≠okD:=by intro z;injection z with z;injection z with z;injection z with z;exact absurd z (by decide +kernel)
  exact .inr ⟨this,by simp[tlR,okD,tl,PyData.eqv,PyData.eqvAll]⟩
theorem qJ.tw {ps:List Pr}{e:Aa}(h:qJ ps e):Tw e:=by
 cases h with
 |ok _=>exact gN _ (by decide +kernel)
 |bad _ a=>
  cases a with
  |rule _ h=>exact zz9 _ h
  |many _ _ _=>exact gN _ (by decide +kernel)
theorem qu :∀{ds:List Aa},(∀d∈ds,noL d=true)->noLs ds=true
 |[],_=>rfl
 |d::r,h=>by
  have b:=h d (by simp);have a:=qu (ds:=r) λd hd=>h d (zI6 _ hd);simp[noLs,b,a]
def sv {d:Aa}(h:xS d=true):noL d=true:=by
 obtain⟨s',a,b,v,g,rfl⟩:=wF h;obtain⟨e,c,f⟩:=mF h;simp[noL,noLs,e,c,f]
theorem aY (k:Nat):(List.replicate k [vB]).flatten=List.replicate k vB:=by
 induction k with
 |zero=>rfl
 |succ k a=>rw[zO8,zQ2,a];rfl
def nB {ds:List Aa}(rd:zF ds)(k:Nat):zF (ds++List.replicate k vB):=zF.app rd λd hd=>by rw[List.eq_of_mem_replicate hd];exact za4
theorem zF.noLs {ds:List Aa}(rd:zF ds):noLs ds=true:=qu λd hd=>sv (rd d hd).rule
def cL :List A->(A->Prop)->Prop:=λas Q=>∃ns:List Str,as=[.tape,.dat (.list (ns.map .str))]/\Q (.dat (.bool true))
section
variable {P:Ah}{w:Ak}{K:Ae}{mg:Str->Option Ac}{base:Ao}
abbrev nIR :List Str:=["_law_row","_law_names_here","_law_pairs","_law_due","_law_name","_law_rules","_law_word","_law_way"]
def nZ :zo nIR ["_law_row","_law_names_here"] (zd oy):=.o
def iB {f:Ab}{fd:Ag}(F:Fun K "_law_inn_refused" "_law_inn_refused" oy f fd)(hm:mg "_law_inn_refused"=some (.ref f))(U:Binds K fd ["_law_row","_law_names_here"] [])(nb:NbT mg)(CD:Cal P w K mg base "_law_take" 1 wq)(J:Cal P w K mg base "_law_some" 5 uP)(G:Cal P w K mg base "_law_inn_told" 13 bb):Cal P w K mg base "_law_inn_refused" 14 cL:=by
 refine rq F hm U nZ (λas Q h=>?_) (λcdv A' outer s H E as Q hr h=>?_)
 .obtain⟨ns,rfl,_⟩:=h;rfl
 .obtain⟨ns,rfl,q⟩:=h;have nd:=nZ.nd;have D:(1000001:Int)<big:=by decide
  refine yL 2 nd (zR (ze ⟨[],rfl,by decide,?_⟩));refine zL 3 nd (zU (zb (zt (zb (yD (ze ⟨_,rfl,zH7 rfl,?_⟩))))));refine vX (pat:=.one 4) zQ1 rfl (zQ (i:=4) nd rfl (Or.inl rfl)) (yq (EvL.d (qg (zc 1 rfl (xT (xY (yt (zf (zE CD (hr.mono (by decide)) (by rfl) (zB 0 rfl (zb (zf (ze ⟨4,rfl,by decide,by decide,λv0 h0 Z=>⟨_,_,rfl,rfl,_,rfl,_,rfl,_,rfl,?_⟩⟩)))))))))))));obtain⟨m,C⟩:∃m:Nat,(1:Int)+v0=(m:Nat):=⟨(1+v0).toNat,by omega⟩;rw[C];have M:(L2.cutD (ns.map .str) none (some (m:Int))).length<=4:=zJ1 fX (by omega);have b:∀(i:Nat) d,(L2.cutD (ns.map PyData.str) none (some (m:Int)))[i]?=some d->∃x:Str,d=.str x:=λi d hd=>by
   obtain⟨x,_,e⟩:=zT8.mp (zk3 (zM6 hd));exact⟨x,e.symm⟩
  generalize L2.cutD (ns.map PyData.str) none (some (m:Int))=dl at M b ⊢;refine xr (λi L=>∃(ps:List Pr) (e:Aa) (v4 t v6 k:Option A),ps.length=i/\qJ ps e/\L=[some .tape,some (.dat (.list (ns.map .str))),some (.own (ps.map prD)),some (.dat e),v4,t,v6,k]) ⟨[],okD,none,none,none,none,rfl,.ok (λp hp=>by cases hp),rfl⟩ ?_ ?_
  .rintro i d L hd ⟨ps,e,v4,t,v6,k,lp,j,rfl⟩;obtain⟨x,rfl⟩:=b i d hd;have hi:i<dl.length:=(zH9.mp hd).1;refine⟨_,rfl,?_⟩;refine yL 5 nd (uE J (hr.mono (by decide)) (by rfl) (zB 0 rfl (zb (zf (ze ⟨3,rfl,by decide,by decide,λds rd X=>⟨ds,rfl,?_⟩⟩)))));refine zL 6 nd (zc 3 rfl ?_);refine zL 7 nd (zE CD (hr.mono (by decide)) (by rfl) (zB 0 rfl (zb (zf (ze ⟨5,rfl,by decide,by decide,λv R g1=>?_⟩)))));have S:ds.length<=3:=by omega
   refine tH (λL=>∃(rs:List Aa) (o:Aa) (k:Option A),(((zF rs/\rs.length<=24)/\o=e)\/jH rs o)/\rs.length<=900/\L=[some .tape,some (.dat (.list (ns.map .str))),some (.own (ps.map prD)),some (.dat e),some (.dat (.str x)),some (.own rs),some (.dat o),k]) ?_ ?_
   .refine zM (zZ hr.units (zc 7 rfl (zf (sV ?_))));refine va (λ_=>?_) (λ_=>?_)
    .refine zL 6 nd (uk 5 rfl (zU (zb (zt (zb (zE CD (hr.mono (by decide)) (by rfl) (zB 0 rfl (zb (yt (xj (by rfl) nb.len (zc 5 rfl ⟨_,rfl,zf ⟨_,_,rfl,rfl,ze ⟨_,rfl,by omega,by omega,λv2 O g2=>ze ⟨_,rfl,zH7 rfl,rfl,?_⟩⟩⟩⟩)))))))))));obtain⟨n,rfl⟩:=zN3 O;have hn:n<=ds.length:=by omega
     refine qX 5 rfl (zx hr.one (λ_ _=>rfl) (zc 6 rfl (zf (ixk rfl rfl (show atI [PyData.str "no rule",.int (n:Int)] 1=some (.int (n:Int))from rfl) ?_))));refine zx hr.one (λ_ _=>rfl) (EvL.d (zR ?_));and_intros;refine mO jd rfl (by assumption) (by assumption) ⟨vJ,qZ,iT,trivial⟩ ?_;rintro d ⟨V,T,N⟩;refine⟨_,rfl,by omega,by omega,by omega,zr (zr ⟨_,_,_,.inr (.rule (n:=n) ?_ (by omega)),by rw[uX];omega,rfl⟩)⟩;have:=qh (post:=[]) rd hn V T N
     rwa [zJ5]at this
    .refine zM (zn2 (zc 7 rfl (zf ⟨_,_,rfl,rfl,?_⟩)));refine va (λ_=>?_) (λ_=>?_)
     .refine zL 6 nd (zU (zb (zt (zb (yD (ze ⟨_,rfl,zH7 rfl,?_⟩))))));have r:24<ds.length+((25:Int)-ds.length).toNat:=by omega
      have hle:ds.length+((25:Int)-ds.length).toNat<=25:=by omega
      refine yL 5 nd (sU 5 rfl (xF (zc 5 rfl (EvL.d (oF (EvL.d (zR (zb (zU ?_)))))))));refine zb (zt (zb (zf (zb (zf (zb (zf (ze ⟨_,rfl,zH7 rfl,?_⟩))))))));refine ze ⟨_,rfl,zH7 rfl,qp (zf (xj (by rfl) nb.len (zc 5 rfl ⟨_,rfl,_,_,rfl,rfl,?_⟩)))⟩;refine⟨[vB],_,rfl,rfl,by omega,by omega,by rw[zN0];omega,?_⟩;rw[aY];refine⟨_,_,rfl,rfl,by rw[zL5];omega,?_,zr (zr (zr ⟨_,_,_,.inr (.many ?_ ?_ ?_),?_,rfl⟩))⟩
      .exact(nB rd _).noLs
      .exact nB rd _
      .rw[zI1,zL5];exact r
      .rw[zI1,zL5];omega
      .rw[zI1,zL5];omega
     .refine zM (zZ hr.units (zc 7 rfl (zf (sV ?_))));refine va (λ_=>?_) (λ_=>zr (zr (zr (zr ⟨ds,e,_,.inl ⟨⟨rd,by omega⟩,rfl⟩,by omega,rfl⟩))));refine zL 6 nd (uk 5 rfl (zU (zb (zt (zb (yt (zf (xj (by rfl) nb.len (zc 5 rfl ⟨_,rfl,_,_,rfl,rfl,ze ⟨_,rfl,zH7 rfl,rfl,?_⟩⟩)))))))));refine yL 5 nd (sU 5 rfl (xF (EvL.d (xF (zc 5 rfl (EvL.d (oF (EvL.d (zR (zb (zU ?_)))))))))));refine zb (zt (zb (zf (zb (zf (zb (zf (ze ⟨_,rfl,zH7 rfl,?_⟩))))))));refine ze ⟨_,rfl,zH7 rfl,zf ⟨[vB],25,rfl,rfl,by decide,by decide,by decide,?_⟩⟩;rw[aY];refine⟨_,_,rfl,rfl,by rw[zL5];show ds.length+25<=1000;omega,?_⟩;have a:(ds++List.replicate (25:Int).toNat vB).length=ds.length+25:=by rw[zI1,zL5];rfl
      have u:xO ((ds++List.replicate 25 vB)++[.none]) (25+ds.length):=⟨_,.none,[],rfl,(nB rd 25).rules,vJ.1,vJ.2.1,vJ.2.2,by rw[show(25:Nat)=(25:Int).toNat from rfl,a];show ds.length+25=25+ds.length;omega⟩;refine EvL.d (zR (zb (yD ?_)));refine ze ⟨[.none],rfl,zH7 rfl,ds++List.replicate 25 vB,[.none],rfl,rfl,?_,?_,?_⟩
      .have:=a;show(ds++List.replicate (25:Int).toNat vB).length+1<=1000;omega
      .refine qu λd hd=>?_;rcases zM9.mp hd with hd|hd
       .exact sv (nB rd _ d hd).rule
       .rw[zM0.mp hd];rfl
      .refine zr (zr (zr (zr ⟨(ds++List.replicate 25 vB)++[.none],tlR (25+ds.length),some (.dat (.int v)),.inr (.rule u (by omega)),?_,?_⟩)))
       .rw[zI1];have:=a;show(ds++List.replicate (25:Int).toNat vB).length+1<=900;omega
       .rw[show tlR (25+ds.length)=.tuple [.str "no rule",.int ((25:Int)+(ds.length:Nat))]from by unfold tlR;rw[Int.natCast_add];rfl];rfl
   .rintro L ⟨rs,o,I,g,Y,rfl⟩;refine nz 5 rfl ?_;refine yS 2 rfl (zU (zb (zc 4 rfl (zb (zc 5 rfl (ze ⟨_,rfl,zH7 rfl,by rw[zH8];omega,?_⟩))))));have tw:=j.tw;refine zM (zZ hr.units (zc 3 rfl (zU (zb (zt (zb (yD (ze ⟨_,rfl,zH7 rfl,eqk tw.sh (by decide +kernel) tw.nd (by decide +kernel) ?_⟩))))))));have c:(ps++[((x,rs):Pr)]).length=i+1:=by rw[zI1,lp];rfl
    have l:(ps++[((x,rs):Pr)]).map prD=ps.map prD++[.tuple [.str x,.list rs]]:=by rw[zN6];rfl
    rcases j.app (p:=(x,rs)) g with⟨B,y⟩|⟨B,y⟩
    .subst B;refine yG (by decide +kernel) (zL 3 nd (zc 6 rfl (zr (zr ⟨_,_,_,_,_,_,c,y,by rw[l];rfl⟩))))
    .rcases tw.ok with⟨z,_⟩|⟨_,z⟩
     .exact absurd z B
     .refine zK z (zr (zr ⟨_,_,_,_,_,_,c,y,by rw[l];rfl⟩))
  .rintro L ⟨ps,e,v4,t,v6,k,lp,j,rfl⟩;have tw:=j.tw;refine xk (uk 2 rfl (uK hr.units (zE G hr (by rfl) (zb (yt (zf (zE CD (hr.mono (by decide)) (by rfl) (zB 0 rfl (zb (zf (ze ⟨9,rfl,by decide,by decide,λv R g1=>⟨_,_,rfl,rfl,?_⟩⟩)))))))))));refine zb (zc 2 rfl (ze ⟨_,ps,e,rfl,by omega,j,zc 3 rfl (eqk tw.sh tw.sh tw.nd tw.nd ?_)⟩));show _/\Q (.dat (.bool (PyData.eqv e e)));rw[tw.eq];exact⟨rfl,q⟩
end
def cA (CI CB:Ab)(cs:Cs):Ph:=za2 CI CB cs
def iF (CI CB:Ab)(cs:Cs):Ph:=λas Q=>∃s rc ns bs ps x,∃j:Nat,∃b ds,as=[.inn s,.dat (sC x (.list ds))]/\yA CI CB cs s rc ns bs ps/\At ns x j/\bs[j]?=some b/\zF b/\zF ds/\b.length+ds.length<=24/\ps.length<900/\∀s',yA CI CB cs s' rc ns (bs.set j (b++ds)) (ps++[bs])->s'.a=s.a->s'.lp=s.lp->Q (.res okD s')
section
variable {P:Ah}{w:Ak}{K:Ae}{mg:Str->Option Ac}{base:Ao}{cs:Cs}{CI CB:Ab}
def eG {f:Ab}{fd:Ag}(i:IK K CI)(v:Meth K CI "lay" f)(F:Fun K "lay" "Inn.lay" pC f fd)(I:Binds K fd ["self","name","rules"] [])(B:yw P w K mg base CI "place_of" 1 (tD CI CB cs))(o:yw P w K mg base CI "put" 2 (iY CI CB cs))(CK:rL P w K mg base "Book" 9 [] (vt CB cs))(y:Cal P w K mg base "laid" 11 (ky CB cs)):bZ P w K mg base CI "lay" 12 (cA CI CB cs):=by
 refine⟨f,fd,_,i.c,v,I,zA2 F iE (by decide) (λa as d Q h=>?_) (λcdv O outer s H E u as l d Q r S hr h D=>?_)⟩
 .obtain⟨s,rc,ns,bs,ps,x,j,b,ds,e,_⟩:=h;injection e with _ e;have:=congrArg List.length e;rw[zI1]at this;simp only[zI7,zV6]at this;show as.length+2=3;omega
 .obtain⟨s0,rc,ns,bs,ps,x,j,b,ds,e,st,at',g,p,rd,A,hp,q⟩:=h;injection e with J e;cases J;obtain⟨rfl,e⟩:=List.append_inj' (s₁:=as) (t₁:=[.dat d]) (s₂:=[.dat (.str x)]) (t₂:=[.dat (.list ds)]) e rfl;cases e;obtain⟨g1,g2,g3,N,M⟩:=st.get;have G:=st.C;subst G;have nd:=iE.nd;refine zv5 (λL=>L=[some (.inn u),some (.dat (.str x)),some (.at l),some (.dat (.int (j:Nat)))]) ?_ ?_
  .exact zL 3 nd (wx 0 rfl B (hr.mono (by decide)) (by rw[st.kv];rfl) (by rw[st.nm];decide) (zb (zc 1 rfl (ze ⟨u,rc,ns,bs,ps,x,j,rfl,st,at',_,rfl,zr rfl⟩))))
  rintro L rfl;have nf:NoF [some (.inn u),some (.dat (.str x)),some (.at l),some (.dat (.int (j:Nat)))] 4:=λa z=>by cases z
  refine fJ 0 (dW 0 rfl o (hr.mono (by decide)) (by rw[st.kv];rfl) (by rw[st.nm];decide) (uY (zc 3 rfl ?_).t));refine uY (zj3 y (hr.mono (by decide)) (by rfl) (uY (zx hr.one (λ_ _=>rfl) (ym 0 rfl i.c i.n3 g3 (zc 3 rfl (ixk rfl rfl (ui g) ?_)))).t));refine uY (zt2 4 2 D rfl nf rfl (oY CK (hr.mono (by decide)) (by rfl) (zb (zc 2 rfl (ze ⟨ds,.inl rfl,rd.rules,by omega,?_⟩)))));refine iC ⟨b,ds,rfl,p,rd,A,?_⟩;exact iC ⟨u,rc,ns,bs,ps,b++ds,j,rfl,st,(zH9.mp g).1,hp,λs' k m n=>⟨_,s',rfl,m,n,nv ⟨_,rfl,q s' k m n⟩⟩⟩
def jo {f S:Ab}{fd:Ag}{xs:Xs}(B:IK K CI)(t:XH K mg S xs)(nb:NbT mg)(F:Fun K "_law_done" "_law_done" hV f fd)(hm:mg "_law_done"=some (.ref f))(v:Binds K fd ["_law_inn","_law_deed"] [])(y:bZ P w K mg base CI "lay" 12 (cA CI CB cs)):bp P w K mg base "_law_done" 13 (iF CI CB cs):=by
 refine⟨f,fd,_,hm,F.kp,v,zA2 F nu (by decide) (λa as d Q h=>?_) (λcdv D outer s H E u as l d Q r S hr h c=>?_)⟩
 .obtain⟨s,rc,ns,bs,ps,x,j,b,ds,e,_⟩:=h;injection e with _ e;have:=congrArg List.length e;rw[zI1]at this;simp only[zI7,zV6]at this;show as.length+2=2;omega
 .obtain⟨s0,rc,ns,bs,ps,x,j,b,ds,e,st,at',g,n,rd,o,hp,q⟩:=h;injection e with A e;cases A;obtain⟨rfl,e⟩:=List.append_inj' (s₁:=as) (t₁:=[.dat d]) (s₂:=[]) (t₂:=[.dat (sC x (.list ds))]) e rfl;cases e;have p:=st.C;subst p;have nd:=nu.nd;refine fm 3 4 rfl rfl nd rfl (by rfl) t.mS (λpins xe=>?_);refine jJ 2 1 c rfl rfl (zZ hr.units (zx hr.one (λ_ _=>rfl) (zc 1 rfl (zf (ixk rfl rfl rfl (zt (eqk (by decide +kernel) (by decide +kernel) rfl rfl ?_)))))));refine mL (by decide +kernel) (nv ?_);refine jJ 2 1 c rfl rfl (zZ hr.units (zx hr.one (λ_ _=>rfl) (zc 1 rfl (zf (ixk rfl rfl rfl (zt (eqk (by decide +kernel) (by decide +kernel) rfl rfl ?_)))))));refine mL (by decide +kernel) (nv ?_);refine jJ 2 1 c rfl rfl (zZ hr.units (zx hr.one (λ_ _=>rfl) (zc 1 rfl (zf (ixk rfl rfl rfl (zt (eqk (by decide +kernel) (by decide +kernel) rfl rfl ?_)))))));refine aa (by decide +kernel) ?_;refine aj 0 rfl (cN 0 (eW 0 2 1 c rfl (λa z=>by cases z) rfl rfl rfl y (hr.mono (by decide)) (by rw[st.kv];rfl) (by rw[st.nm];decide) ?_));refine zb (zx hr.one (λ_ _=>rfl) (zc 1 rfl (zf (ixk rfl rfl rfl (zb (zx hr.one (λ_ _=>rfl) (zc 1 rfl (zf (ixk rfl rfl rfl (ze ?_))))))))));exact⟨x,ds,rfl,u,rc,ns,bs,ps,x,j,b,ds,rfl,st,at',g,n,rd,o,hp,λs' i k m=>⟨_,s',rfl,k,m,q s' i k m⟩⟩
end
abbrev jt :An:=top 82
abbrev zG8 :List Str:=["_law_row","_law_inn","_law_pairs","_law_name","_law_rules","_law_some_here","_law_due","_law_bad","_law_found","_law_kept"]
def iW (CI CB:Ab)(cs:Cs):Ph:=λas Q=>∃s rc,∃ps:List Pr,as=[.tape,.inn s,.dat (.list (ps.map prD))]/\yA CI CB cs s rc (ps.map (·.1)) (ps.map (·.2)) []/\(∀p∈ps,pR p)/\(ps.map (·.1)).Nodup/\0<ps.length/\∀s',yA CI CB cs s' rc (ps.map (·.1)) (ps.map (·.2)) []->s'.a=s.a->s'.lp=s.lp->Q (.res (.bool true) s')
theorem oq.tw {b ds:List Aa}{e:Aa}(h:oq b ds e):Tw e/\e≠okD/\∃a v,e=.tuple [.str a,v]/\v.hasDict=false/\isBool v=false/\a≠("ok":Str):=by
 cases h with
 |@rule n h1 h2=>exact⟨zz9 _ h2,λz=>by injection z with z;injection z with z;injection z with z;exact absurd z (by decide +kernel),_,_,rfl,rfl,rfl,by decide +kernel⟩
 |many _ _ _=>exact⟨gN _ (by decide +kernel),λz=>by injection z with z;injection z with z;injection z with z;exact absurd z (by decide +kernel),_,_,rfl,rfl,rfl,by decide +kernel⟩
 |both _ _ _=>exact⟨gN _ (by decide +kernel),λz=>by injection z with z;injection z with z;injection z with z;exact absurd z (by decide +kernel),_,_,rfl,rfl,rfl,by decide +kernel⟩
section
variable {P:Ah}{w:Ak}{K:Ae}{mg:Str->Option Ac}{base:Ao}{cs:Cs}{CI CB:Ab}
def iK :zo zG8 ["_law_row","_law_inn","_law_pairs"] (zd jt):=.o
def lJ {f:Ab}{fd:Ag}(nb:NbT mg)(F:Fun K "_law_laid_right" "_law_laid_right" jt f fd)(hm:mg "_law_laid_right"=some (.ref f))(hb:Binds K fd ["_law_row","_law_inn","_law_pairs"] [])(CD:Cal P w K mg base "_law_take" 1 wq)(CS:Cal P w K mg base "_law_some" 5 uP)(RU:yw P w K mg base CI "rules_of" 4 (uh CI CB cs))(DO:qK P w K mg base "_law_done" 13 (oQ CI CB cs))(DL:bp P w K mg base "_law_done" 13 (iF CI CB cs)):bo P w K mg base "_law_laid_right" 14 (iW CI CB cs):=by
 refine⟨f,fd,_,hm,F.kp,hb,zG6 F iK (by decide) (λas Q h=>?_) (λcdv A' outer s H E as Q hr h=>?_)⟩
 .obtain⟨s,rc,ps,rfl,_⟩:=h;rfl
 .obtain⟨s,rc,ps,rfl,st,ok,J,p0,q⟩:=h;have hC:=st.C;subst hC;have nd:=iK.nd;have hl:ps.length<=4:=by have:=st.ln;rw[zH8,zH8]at this;omega
  have X:(1000001:Int)<big:=by decide
  refine zc8 (pat:=.many [3,4]) (yI (n:=2) (K:=K) rfl rfl (yo (zQ (i:=3) nd rfl (Or.inl rfl)) (yo (zQ (i:=4) nd rfl (Or.inl rfl)) (yY)))) (zx hr.one (λ_ _=>rfl) (zc 2 rfl (zE CD (hr.mono (by decide)) (by rfl) (zB 0 rfl (zb (xj (by rfl) nb.len (zc 2 rfl ⟨_,rfl,ze ⟨_,rfl,by rw[zH8];omega,by rw[zH8];omega,λv h1 g1=>?_⟩⟩)))))));rw[zH8]at g1;obtain⟨n,rfl⟩:=zN3 h1;have hn:n<ps.length:=by omega
  have r:ps[n]∈ps:=List.getElem_mem hn;refine ixk rfl rfl (show atI (ps.map prD) (n:Int)=some (prD ps[n])from sN (by rw[zJ8,zI5 hn];rfl)) ⟨_,rfl,?_⟩;generalize ps[n]=p at r ⊢;obtain⟨j,l,k⟩:=cp r J;obtain⟨x,lp⟩:=ok p r;refine yL 5 nd (uE CS (hr.mono (by decide)) (by rfl) (zB 0 rfl (zb (zx hr.one (λ_ _=>rfl) (EvL.d (zR ?_))))));refine zb (zf (zb (zf (ze ⟨_,rfl,zH7 rfl,?_⟩))));refine zE CD (hr.mono (by decide)) (by rfl) (zB 0 rfl (zb (zf (ze ⟨2,rfl,by decide,by decide,λv h g=>?_⟩))));refine mO (λd=>∃m:Int,d=.int m/\0<=m/\m<=30) rfl h g ⟨⟨3,rfl,by decide,by decide⟩,⟨30,rfl,by decide,by decide⟩,trivial⟩ ?_;rintro _ ⟨m,rfl,m0,m1⟩;refine ze ⟨m,rfl,m0,m1,λds rd N=>⟨ds,rfl,?_⟩⟩;have R:ds.length<=30:=by omega
  refine zL 6 nd (zU (zb (zt (zb (yD (ze ⟨_,rfl,zH7 rfl,?_⟩))))));refine tH (λL=>∃b,((b=okD/\p.2.length+ds.length<=24)\/(b=tl "many"/\24<p.2.length+ds.length))/\L=[some .tape,some (.inn s),some (.dat (.list (ps.map prD))),some (.dat (.str p.1)),some (.dat (.list p.2)),some (.own ds),some (.dat b),none,none,none]) ?_ ?_
  .refine zM (sW 5 rfl (EvW.t (rZ (pf (xj (by rfl) nb.len (zc 5 rfl ⟨_,rfl,zf ⟨_,_,rfl,rfl,?_⟩⟩))))));by_cases e:(24:Int)<(ds.length:Nat)
   .refine rh (zQ8 e) ?_;exact yG rfl (zL 6 nd (zU (zb (zt (zb (yD (ze ⟨_,rfl,zH7 rfl,zr (zr ⟨_,.inr ⟨rfl,by omega⟩,rfl⟩)⟩)))))))
   .refine tj (zM8 e) (uB (pf (yt (xj (by rfl) nb.len (zc 4 rfl ⟨_,rfl,xj (by rfl) nb.len (zc 5 rfl ⟨_,rfl,_,_,rfl,rfl,zf ⟨_,_,rfl,rfl,?_⟩⟩)⟩)))));refine va (λh=>zL 6 nd (zU (zb (zt (zb (yD (ze ⟨_,rfl,zH7 rfl,zr (zr ⟨_,.inr ⟨rfl,by omega⟩,rfl⟩)⟩))))))) (λh=>zr (zr ⟨_,.inl ⟨rfl,by omega⟩,rfl⟩))
  rintro L ⟨b,o,rfl⟩;refine tH (λL=>∃rs b Y,((zF rs/\b=okD/\p.2.length+rs.length<=24)\/oq p.2 rs b)/\rs.length<=900/\L=[some .tape,some (.inn s),some (.dat (.list (ps.map prD))),some (.dat (.str p.1)),some (.dat (.list p.2)),some (.own rs),some (.dat b),Y,none,none]) ?_ ?_
  .refine zM (zZ hr.units (zE CD (hr.mono (by decide)) (by rfl) (zB 0 rfl (zb (zf (ze ⟨3,rfl,by decide,by decide,λv h g=>zf (sV ?_)⟩))))));refine va (λ_=>?_) (λ_=>?_)
   .refine zL 7 nd (zE CD (hr.mono (by decide)) (by rfl) (zB 0 rfl (zb (uk 5 rfl (yt (xj (by rfl) nb.len (zc 5 rfl ⟨_,rfl,zf ⟨_,_,rfl,rfl,rfl,ze ⟨_,rfl,by omega,by omega,λv2 h2 g2=>?_⟩⟩⟩)))))));obtain⟨n2,rfl⟩:=zN3 h2;have O:n2<=ds.length:=by omega
    refine qX 5 rfl (zc 7 rfl ?_);refine zx hr.one (λ_ _=>rfl) (EvL.d (zR ?_));and_intros;refine mO jd rfl (by assumption) (by assumption) ⟨qZ,vJ,zw4,iT,za5,trivial⟩ ?_;rintro d ⟨b1,b2,b3⟩;refine⟨_,rfl,by omega,by omega,by omega,?_⟩;refine yS 5 rfl (yD ⟨by rw[uX];omega,?_⟩);refine zL 6 nd (zU (zb (zt (zb (zc 7 rfl (ze ⟨_,rfl,zH7 rfl,zr (zr ⟨_,_,_,.inr (.rule (n:=n2) (qh (post:=[.none]) rd O b1 b2 b3) (by omega)),?_,rfl⟩)⟩))))));rw[zI1,uX];show ds.length+1+1<=900;omega
   .refine zr (zr ⟨ds,b,none,?_,by omega,rfl⟩);rcases o with⟨rfl,h⟩|⟨rfl,h⟩
    .exact .inl ⟨rd,rfl,h⟩
    .by_cases e:24<ds.length
     .exact .inr (.many rd e (by omega))
     .exact .inr (.both rd (by omega) h)
  rintro L ⟨rs,b,Y,hg,a1,rfl⟩;clear o rd R N;rcases hg with⟨B,rfl,y⟩|V
  .have G:([]:List BkL).length<900:=by decide
   refine ao 1 8 5 nd (by decide) rfl rfl DL hr (by rfl) (zU (zb (zt (zb (zc 3 rfl (zb (zc 5 rfl (ze ⟨_,rfl,zH7 rfl,⟨_,rfl⟩,s,rc,_,_,_,p.1,j,p.2,rs,rfl,st,l,k,x,B,y,G,λs1 c ea Z=>⟨_,s1,rfl,ea,Z,?_⟩⟩))))))));refine zM (EvW.t (rZ (vG hr.units (zc 8 rfl (zc 6 rfl (eqk (by decide +kernel) (by decide +kernel) (by decide +kernel) (by decide +kernel) ?_))))));refine tj (by decide +kernel) (uB (xI (uN (by rfl) nb.isinstance (by rfl) nb.bool boot_bool (zx hr.one (λ_ _=>rfl) (zc 8 rfl (zf (ixk rfl rfl rfl ⟨false,rfl,rfl,_,rfl,?_⟩)))))));refine zK rfl (zr ?_);refine zM (vG hr.units (zx hr.one (λ_ _=>rfl) (zc 6 rfl (zf (ixk rfl rfl rfl (zt (eqk (by decide +kernel) (by decide +kernel) rfl rfl ?_)))))));refine zK (by decide +kernel) (zr ?_);refine yL 9 nd (sU 5 rfl (sS (by rfl) nb.list (zc 5 rfl ⟨rs,rfl,B.noLs,?_⟩)));refine yS 5 rfl (yD ⟨by omega,?_⟩);have nn:=(zF.app x B).nice (by rw[zI1];omega);have U:((ps.map (·.2)).set j (p.2++rs))[j]?=some (p.2++rs):=zJ9 (zH9.mp k).1;have M:yw P w K mg base s1.C "rules_of" 4 (uh s.C CB cs):=by rw[c.C];exact RU
   refine zh9 1 (zw6 (EvD.u (uk 9 rfl (uK hr.units (wx 1 rfl M (hr.mono (by decide)) (by rw[c.kv];rfl) (by rw[c.nm];decide) (zb (zc 3 rfl (ze ⟨s1,rc,_,_,_,p.1,j,p.2++rs,rfl,c,l,U,(zF.app x B).rules,by rw[zI1];omega,_,rfl,?_⟩))))))));refine EvL.d (xF (zc 4 rfl (zc 9 rfl ⟨_,_,rfl,rfl,by omega,eqk nn.shaped nn.shaped nn.nod nn.nod ⟨rfl,true,congrArg PyData.bool (zU1 _ nn.lay),rh rfl ?_⟩⟩)));refine zo3 (zu7 hr.units (EvG.u (zs3 1 rfl DO hr (by rfl) (zb (zU (zb (zt (ze ⟨_,rfl,zH7 rfl,?_⟩))))))));refine ze ⟨s1,rc,_,_,_,gY,rfl,c,.inl ⟨ps.map (·.2),[],.undo rfl (by rw[zK0]),λs2 S z A=>⟨_,s2,rfl,z,A,?_⟩⟩⟩;refine EvD.u (zU (zb (zt (zb (yD (ze ⟨_,rfl,zH7 rfl,?_⟩))))));exact eqk (by decide +kernel) (by decide +kernel) (by decide +kernel) (by decide +kernel) ⟨s2,rfl,q s2 S (z.trans ea) (A.trans Z)⟩
  .obtain⟨tw,a0,a,v,e',T,D,I⟩:=V.tw;refine nz 5 rfl ?_;refine zL 8 nd (xZ 1 rfl DO hr (by rfl) (zb (zU (zb (zt (zb (zc 3 rfl (zb (zc 5 rfl (ze ⟨_,rfl,zH7 rfl,ze ⟨s,rc,_,_,_,sC p.1 (.list rs),rfl,st,.inr ⟨_,.lay l k x lp V,_,rfl,?_⟩⟩⟩))))))))));refine zM (EvW.t (rZ (vG hr.units (zc 8 rfl (zc 6 rfl (eqk tw.sh tw.sh tw.nd tw.nd ?_))))));rw[tw.eq];subst e';refine tj rfl (uB (xI (uN (by rfl) nb.isinstance (by rfl) nb.bool boot_bool (zx hr.one (λ_ _=>rfl) (zc 8 rfl (zf (ixk rfl rfl (show atI [PyData.str a,v] 1=some v from rfl) ⟨_,T,rfl,_,rfl,?_⟩)))))));rw[D];refine zK rfl (zr ?_);refine zM (vG hr.units (zx hr.one (λ_ _=>rfl) (zc 6 rfl (zf (ixk rfl rfl (show atI [PyData.str a,v] 0=some (.str a)from rfl) (zt (iM ?_)))))));rw[zM8 I];have nn:=x.nice (by omega);refine yG rfl (xy 1 rfl (uK hr.units (wx 1 rfl RU (hr.mono (by decide)) (by rw[st.kv];rfl) (by rw[st.nm];decide) (zb (zc 3 rfl (ze ⟨s,rc,_,_,_,p.1,j,p.2,rfl,st,l,k,x.rules,by omega,_,rfl,zc 4 rfl (eqk nn.shaped nn.shaped nn.nod nn.nod ?_)⟩))))));rw[zU1 _ nn.lay];exact q s st rfl rfl
end
abbrev oj :An:=top 85
abbrev nLa :List Str:=["_law_script","_law_cell","_law_row","_law_names_here","_law_pairs","_law_handed","_law_inn","_law_other","_law_name","_law_rules","_law_turn"]
def dJ {X:Cx}{L α0:Ev}{E:yj}{b:List An}(c:α0.length=L.length)(le:∀(i:Nat) a,α0[i]?=some (some a)->L[i]?=some (some a))(h:SvS X α0 b E):SvS X L b E:=λF σ H D m r=>h F σ H D (m.forget c le) r
def zg9 {L:Ev}{n:Nat}{a:A}(c:L.length=n+2):∀(i:Nat) b,((none:Option A)::some a::List.replicate n none)[i]?=some (some b)->(L.set 1 (some a))[i]?=some (some b):=by
 intro i b h;rcases i with _|_|i
 .cases h
 .rw[zJ9 (by omega)];exact h
 .simp only[zU2,zM3]at h;split at h<;>cases h
def Nms.nodup {ns:List Str}(h:Nms ns)(e:ns.length=6)(m:Nat):(ns.take m).Nodup:=by
 rw[List.nodup_iff_pairwise_ne];refine List.pairwise_iff_getElem.mpr λi j hi c d=>?_;rw[zL8]at hi c;have a:i<ns.length:=by omega
 have b:j<ns.length:=by omega
 rw[List.getElem_take,List.getElem_take];exact h.ne (zI5 a) (zI5 b) (by omega) (by omega) (by omega)
section
variable {P:Ah}{w:Ak}{K:Ae}{mg:Str->Option Ac}{base:Ao}{cs:Cs}{CI CB:Ab}
def Nms.rest {ns:List Str}(h:Nms ns)(e:ns.length=6)(m:Nat){x:Str}(a:x∈ns.drop m++(["","A"]:List Str)):x∉ns.take m/\x.length<=10000:=by
 rcases zM9.mp a with a|a
 .refine⟨λc=>?_,by have:=h.len (List.mem_of_mem_drop a);omega⟩;obtain⟨i,hi⟩:=zR3 a;obtain⟨j,b⟩:=zR3 c;rw[List.getElem?_drop]at hi;have d:=(zH9.mp b).1;rw[zL8]at d;rw[zT3 (by omega)]at b;have li:=(zH9.mp hi).1;exact h.ne hi b (by omega) (by omega) (by omega) rfl
 .simp only[zI8,zJ7,zM4]at a;refine⟨λc=>h.no a (zW0 c),?_⟩;rcases a with rfl|rfl<;>decide +kernel
def zz8 :zo nLa ["_law_script"] (zd oj):=.o
def zw2 {f:Ab}{fd:Ag}(F:Fun K "law" "law" oj f fd)(nb:NbT mg)(J:Cal P w K mg base "_law_begin" 1 iU)(CD:Cal P w K mg base "_law_take" 1 wq)(CN:Cal P w K mg base "_law_names" 2 hZ)(CS:Cal P w K mg base "_law_some" 5 uP)(q:rD P w K mg base "Inn" 11 CI (aN CI CB cs))(IR:Cal P w K mg base "_law_inn_refused" 14 cL)(D:qK P w K mg base "_law_is_fresh" 14 (gL CI CB cs))(Y:qK P w K mg base "_law_no_name" 14 (kb CI CB cs))(LR:bo P w K mg base "_law_laid_right" 14 (iW CI CB cs)):zG P w K mg base CX0 15 f fd ["_law_script"] (lH K):=by
 refine zF2 (k:=14) (j:=1) F zz8 rfl (Or.inl rfl) rfl (Or.inl rfl) (λcdv A' outer s H E zs hr lz=>?_);have nd:=zz8.nd;have Q:(1000001:Int)<big:=by decide
 refine xr (λi L=>L.length=11) (by simp) ?_ ?_
 .intro i d L hd R;rw[zJ8,zL3]at hd;obtain⟨z,hz,rfl⟩:=hd;refine⟨_,rfl,?_⟩;refine dJ (α0:=none::some (.dat (.int z))::List.replicate 9 none) (by rw[zK0,R];rfl) (zg9 R) ?_;refine yL 2 nd (uE J (hr.mono (by decide)) (by rfl) (zb (zc 1 rfl (ze ⟨z,rfl,λx y y0 U=>⟨_,rfl,?_⟩⟩))));refine zu0 2 rfl y0 U ?_;refine yL 3 nd (uE CN (hr.mono (by decide)) (by rfl) (zB 2 rfl (zb (zf (ze ⟨rfl,λns hn B=>⟨_,rfl,?_⟩⟩)))));refine nz 3 rfl ?_;refine nE 4 ["_law_name","_law_row"] [none,some 2] (.one 0) (yq (EvL.d (qg (zc 3 rfl (xT (xY (yt (zf ?_))))))));refine zE CD (hr.mono (by decide)) (by rfl) (zB 2 rfl (zb (zf (ze ⟨4,rfl,by decide,by decide,λv0 h0 g0=>?_⟩))));obtain⟨m,hm⟩:∃m:Nat,(1:Int)+v0=(m:Nat):=⟨(1+v0).toNat,by omega⟩;refine⟨_,_,rfl,rfl,_,rfl,_,rfl,_,rfl,?_⟩;rw[hm];have a3:1<=m:=by omega
  have a1:m<=4:=by omega
  rw[pP (by rw[zH8,B];omega),<-List.map_take];have lt:(ns.take m).length=m:=by rw[zL8,B];omega
  refine⟨by rw[zH8,lt];omega,?_⟩;refine wR (λi acc=>∃b:List Pr,acc=b.map prD/\b.map (·.1)=(ns.take m).take i/\∀p∈b,pR p) ⟨[],rfl,rfl,λp hp=>by cases hp⟩ (λi d acc hd ⟨b,e1,o,e3⟩=>⟨_,rfl,λC s2 M fp=>?_⟩) (λacc h=>?_)
  .refine qt ?_;rw[if_pos rfl];intro C s2 M fp;rw[zJ8,zL3]at hd;obtain⟨nm,I,rfl⟩:=hd;refine zU (zb (zc 0 rfl (zb (EvL.d (uE CS (hr.mono (by decide)) (by rfl) (zB 1 rfl (zb (zx hr.one (λ_ _=>rfl) (EvL.d (zR ?_))))))))));refine zb (zf (zb (zf (ze ⟨_,rfl,zH7 rfl,?_⟩))));refine zE CD (hr.mono (by decide)) (by rfl) (zB 1 rfl (zb (zf (ze ⟨2,rfl,by decide,by decide,λv h g=>?_⟩))));refine mO (λd=>∃m:Int,d=.int m/\0<=m/\m<=24) rfl h g ⟨⟨2,rfl,by decide,by decide⟩,⟨24,rfl,by decide,by decide⟩,trivial⟩ ?_;rintro _ ⟨mm,rfl,m0,m1⟩;refine ze ⟨mm,rfl,m0,by omega,λds rd a0=>⟨ds,rfl,ze ⟨_,rfl,zH7 rfl,b++[(nm,ds)],?_,?_,?_⟩⟩⟩
   .rw[e1,zN6];rfl
   .rw[zN6,o,zS2,I];rfl
   .intro p hp;rcases zM9.mp hp with hp|hp
    .exact e3 p hp
    .rw[zM0.mp hp];exact⟨rd,by show ds.length<=24;omega⟩
  obtain⟨b,rfl,o,ok⟩:=h;rw[zH8,zU8]at o;have Z:b.length=m:=by rw[<-lt,<-o,zH8]
  have n:(b.map (·.1)).Nodup:=by rw[o];exact hn.nodup B m
  refine nz 4 rfl ?_;refine zr4 5 ["_law_name","_law_rules"] [none,none] (.many [0,1]) (yq (zc 4 rfl ⟨_,rfl,by rw[zH8];omega,?_⟩));refine vh (g:=prD) (f:=prD) b [] (λp hp=>⟨_,rfl,λC s2 M fp Q' q'=>zj4 (ju (zc 0 rfl ⟨rfl,zi3 (sS (by rfl) nb.list (zc 1 rfl ⟨p.2,rfl,(ok p hp).1.noLs,q'⟩))⟩))⟩) ?_;intro S;rw[List.nil_append];refine qV 6 5 nd q (hr.mono (by decide)) (by rfl) rfl (yt (zf (zE CD (hr.mono (by decide)) (by rfl) (zB 2 rfl (zb (zf (ze ⟨9,rfl,by decide,by decide,λv1 h1 g1=>⟨_,_,rfl,rfl,rfl,λu=>⟨u,_,b,rfl,ok,by omega,λs1 N=>⟨s1,rfl,?_⟩⟩⟩⟩)))))));refine qV 7 5 nd q (hr.mono (by decide)) (by rfl) rfl (yt (zf (zE CD (hr.mono (by decide)) (by rfl) (zB 2 rfl (zb (zf (ze ⟨9,rfl,by decide,by decide,λv2 h2 g2=>⟨_,_,rfl,rfl,rfl,λu=>⟨u,_,b,rfl,ok,by omega,λs2 r=>⟨s2,rfl,?_⟩⟩⟩⟩)))))));refine eP 5 8 9 rfl rfl (by decide) (by decide) (by decide) (show 8<11 by decide) (show 9<11 by decide) (λd hd=>?_) (by rw[zH8];omega) (λX O=>?_)
  .obtain⟨p,hp,rfl⟩:=zT8.mp hd;exact⟨p.1,p.2,rfl,(ok p hp).1.noLs,by have:=(ok p hp).2;omega⟩
  have a2:X.length<=4:=by rw[O,zH8];omega
  refine yS 5 rfl (zU (zb (zx hr.one (λ_ _=>rfl) (zc 3 rfl (zf ?_)))));refine ixk rfl rfl (show atI (ns.map PyData.str) (5:Nat)=some (.str (ns[5]'(by omega)))from sN (by rw[zJ8,zI5 (by omega)];rfl)) ?_;refine zb (EvL.d (zR (ze ⟨[],rfl,by decide,ze ⟨_,rfl,zH7 rfl,by omega,?_⟩⟩)));refine zM (vj (xI (zE IR hr (by rfl) (zB 2 rfl (zb (zc 3 rfl (ze ⟨ns,rfl,true,rfl,?_⟩)))))));refine zK rfl (zr ?_);refine tH (λL=>∃(l:List Aa) (a:zD) (v10:Option A),yA CI CB cs a (1+v1) (b.map (·.1)) (b.map (·.2)) []/\L=[none,some (.dat (.int z)),some .tape,some (.dat (.list (ns.map .str))),some (.dat (.list (b.map prD))),some (.own l),some (.inn a),some (.inn s2),none,none,v10]) ?_ ?_
  .refine vX (pat:=.one 10) zQ1 rfl (zQ (i:=10) nd rfl (Or.inl rfl)) (ub (by rfl) nb.range (zf ⟨_,rfl,by decide,by decide,?_⟩));refine xr (λi L=>∃(l:List Aa) (a:zD) (v10:Option A),yA CI CB cs a (1+v1) (b.map (·.1)) (b.map (·.2)) []/\L=[none,some (.dat (.int z)),some .tape,some (.dat (.list (ns.map .str))),some (.dat (.list (b.map prD))),some (.own l),some (.inn a),some (.inn s2),none,none,v10]) ⟨_,s1,none,N,rfl⟩ ?_ ?_
   .rintro i d L hd ⟨l,a,v10,c,rfl⟩;refine⟨_,rfl,?_⟩;refine zM (EvW.t (rZ (vj (xI (xZ 6 rfl D hr (by rfl) (zb (zc 4 rfl (ze ⟨a,_,b,rfl,c,ok,n,_,rfl,true,rfl,?_⟩))))))));refine tj rfl (uB (vj (xI (xZ 7 rfl D hr (by rfl) (zb (zc 4 rfl (ze ⟨s2,_,b,rfl,r,ok,n,_,rfl,true,rfl,?_⟩)))))));refine zK rfl (zr ?_);refine zM (pf (xj (by rfl) nb.len (EvL.d (kU ["_law_name","_law_inn"] [none,some 6] (.one 0) 6 1 rfl (yq (EvL.d (xF (EvL.d (qg (zc 3 rfl (xY (xj (by rfl) nb.len (zc 4 rfl ?_)))))))))))));refine⟨_,rfl,_,rfl,xT ⟨_,rfl,EvL.d (zR (zb (zt (zb (zt (ze ⟨_,rfl,zH7 rfl,?_⟩))))))⟩⟩;have T:L2.cutD (ns.map PyData.str) (some (((b.map prD).length:Nat):Int)) none++[.str "",.str "A"]=(ns.drop m++(["","A"]:List Str)).map PyData.str:=by rw[jK (by rw[zH8,zH8];omega),zH8,Z,zN6,List.map_drop];rfl
    have lL:(ns.drop m++(["","A"]:List Str)).length<=8:=by rw[zI1,zQ6];show _+2<=8;omega
    refine⟨_,_,rfl,rfl,?_,_,rfl,?_⟩
    .have:=congrArg List.length T;rw[zI1,zH8 (f:=PyData.str)]at this;show _+2<=1000;rw[show([PyData.str "",.str "A"]:List Aa).length=2 from rfl]at this;omega
    show _/\yR _ _ _ _ _ (L2.cutD (ns.map PyData.str) (some (((b.map prD).length:Nat):Int)) none++[.str "",.str "A"]) _ _;rw[T];refine⟨by rw[zH8];omega,?_⟩;refine wR (λi acc=>acc=[]) rfl (λi d acc hd e=>?_) (λacc e=>?_)
    .obtain⟨x,V,rfl⟩:=zT8.mp (zM6 hd);obtain⟨n1,n2⟩:=hn.rest B m V;rw[<-o]at n1;exact⟨_,rfl,λC s2 M fp=>zv3 (vj (xI (xZ 1 rfl Y hr (by rfl) (zb (zc 0 rfl (ze ⟨a,_,_,_,_,x,rfl,c,n1,n2,_,rfl,true,rfl,tj rfl e⟩))))))⟩
    subst e;refine⟨0,rfl,zf ⟨0,0,rfl,rfl,?_⟩⟩;refine zK rfl (zr ?_);refine zx3 (zr7 (zs5 (EvG.u (zc6 6 2 rfl rfl LR hr (by rfl) (zb (zc 4 rfl (ze ⟨a,_,b,rfl,c,ok,n,by omega,λs' G ea el=>⟨_,s',rfl,ea,el,true,rfl,?_⟩⟩)))))));exact zK rfl (zr (zr ⟨_,s',_,G,rfl⟩))
   .rintro L ⟨l,a,v10,c,rfl⟩;exact zr ⟨l,a,v10,c,rfl⟩
  rintro L ⟨l,a,v10,c,rfl⟩;refine zM (EvW.t (rZ (vj (xI (xZ 6 rfl D hr (by rfl) (zb (zc 4 rfl (ze ⟨a,_,b,rfl,c,ok,n,_,rfl,true,rfl,?_⟩))))))));refine tj rfl (uB (vj (xI (xZ 7 rfl D hr (by rfl) (zb (zc 4 rfl (ze ⟨s2,_,b,rfl,r,ok,n,_,rfl,true,rfl,?_⟩)))))));refine zK rfl (zr ?_);exact zr rfl
 .intro L _;exact xk (pE rfl)
end
def FnF (K:Ae)(f:Ab)(nm a:Str)(st:An):Prop:=∃fd,Fun K nm a st f fd
def mkF {K:Ae}{f:Ab}{nm a:Str}{st:An}{oc kV b pm cd ct:Ac}{od an:Option Ab}{sl:Array (Option Ac)}(l:K.lookup f=some ⟨oc,od,.func (PySem.W.fnOf nm a (yB st) (zJ st) (zd st) .none kV b pm an cd ct),sl⟩)(c:PySem.W.codeIn K cd a=true)(k:PySem.W.keepIn K (.ref f)=true):FnF K f nm a st:=⟨_,za8 l c k⟩
def FnG (K:Ae)(f:Ab)(nm:Str)(st:An):Prop:=PySem.W.nsIn K Aj nm=some (some (.ref f))/\FnF K f nm nm st
def mkG {K:Ae}{f:Ab}{nm:Str}{st:An}{oc kV b pm cd ct:Ac}{od an:Option Ab}{sl:Array (Option Ac)}(a:PySem.W.nsIn K Aj nm=some (some (.ref f)))(l:K.lookup f=some ⟨oc,od,.func (PySem.W.fnOf nm nm (yB st) (zJ st) (zd st) .none kV b pm an cd ct),sl⟩)(c:PySem.W.codeIn K cd nm=true)(k:PySem.W.keepIn K (.ref f)=true):FnG K f nm st:=⟨a,mkF l c k⟩
def FnF.get {K:Ae}{f:Ab}{nm a:Str}{st:An}(ps:List Str)(h:FnF K f nm a st)(b:∀(kV doc pm:Ac) (an:Option Ab) (cdv ct:Ac) (us:List Ac),us.length=ps.length->bindArgs (PySem.W.fnOf nm a (yB st) (zJ st) (zd st) .none kV doc pm an cdv ct) ⟨us,[]⟩=pure (ps.zip us)):∃fd,Fun K nm a st f fd/\Binds K fd ps []:=by
 obtain⟨fd,F⟩:=h;exact⟨fd,F,F.binds b⟩
def FnG.get {K:Ae}{h0:Ao}{mg:Str->Option Ac}{f:Ab}{nm:Str}{st:An}(ps:List Str)(h:FnG K f nm st)(X:K.In h0)(G:h0.Ns Aj mg)(b:∀(kV doc pm:Ac) (an:Option Ab) (cdv ct:Ac) (us:List Ac),us.length=ps.length->bindArgs (PySem.W.fnOf nm nm (yB st) (zJ st) (zd st) .none kV doc pm an cdv ct) ⟨us,[]⟩=pure (ps.zip us)):∃fd,mg nm=some (.ref f)/\Fun K nm nm st f fd/\Binds K fd ps []:=by
 obtain⟨a,fd,F⟩:=h;exact⟨fd,zL4 X G a,F,F.binds b⟩
def mkR {K:Ae}{C b gt ge a:Ab}(pg:PySem.W.plainGet K C Str.empty=true)(hd:PySem.W.hasDictIn K C=true)(po:PySem.W.plainOver K C=true)(sa:PySem.W.findIn K (.ref C) "__setattr__"=some (some (.builtin "object.__setattr__")))(n1:PySem.W.findIn K (.ref C) "first"=some none)(n2:PySem.W.findIn K (.ref C) "last"=some none)(n3:PySem.W.findIn K (.ref C) "worth"=some none)(mk:PySem.W.makesIn K C=true)(f1:PySem.W.findIn K (.ref C) "__init__"=some (some (.ref b)))(i1:PySem.W.isFn K (.ref b)=true)(f:PySem.W.keepIn K (.ref C)=true)(f2:PySem.W.findIn K (.ref C) "told"=some (some (.ref gt)))(i2:PySem.W.isFn K (.ref gt)=true)(k2:PySem.W.keepIn K (.ref gt)=true)(d:PySem.W.findIn K (.ref C) "tells"=some (some (.ref ge)))(e:PySem.W.isFn K (.ref ge)=true)(k3:PySem.W.keepIn K (.ref ge)=true)(f4:PySem.W.findIn K (.ref C) "word"=some (some (.ref a)))(g:PySem.W.isFn K (.ref a)=true)(c:PySem.W.keepIn K (.ref a)=true):vE K C b gt ge a:=⟨⟨pg,hd,po,sa⟩,n1,n2,n3,⟨mk,f1,i1,f⟩,⟨f2,i2,k2⟩,⟨d,e,k3⟩,⟨f4,g,c⟩⟩
theorem dG {K:Ae}{dT:Ab}{oc kV doc pm cdv ct:Ac}{od an:Option Ab}{n:Nat}{sl:Array (Option Ac)}(b:K.lookup dT=some ⟨oc,od,.seq #[.none] n,sl⟩):
  Binds K (PySem.W.fnOf "__init__" "Book.__init__" (yB yP) (zJ yP) (zd yP) (.ref dT) kV doc pm an cdv ct) ["self","rules"] [.none]:=λs us hk a=>by
 match us,(show us.length=1 by rw[zI1]at a;simpa using a)with
 |[u],_=>exact BindsTo.of_defaults (T:=dT) rfl (hk _ _ b) rfl rfl rfl
theorem tS {K:Ae}{dT:Ab}{oc kV doc pm cdv ct:Ac}{od an:Option Ab}{n:Nat}{sl:Array (Option Ac)}(b:K.lookup dT=some ⟨oc,od,.seq #[.none] n,sl⟩):
  Binds K (PySem.W.fnOf "__init__" "Book.__init__" (yB yP) (zJ yP) (zd yP) (.ref dT) kV doc pm an cdv ct) ["self","rules"] []:=λs us hk a=>by
 rw[zJ5]at a ⊢
 match us,a with
 |[u,v],_=>exact BindsTo.of_defaults (T:=dT) rfl (hk _ _ b) rfl rfl rfl
def zF9 {P:Str->Prop}(f:P "price")(b:P "come")(h:P "go")(d:P "least")(e:P "most")(g:P "deal")(c:P "fee"):∀u∈words,P u:=by
 intro u a;simp only[words,zI8,zJ7,zM4]at a;rcases a with rfl|rfl|rfl|rfl|rfl|rfl|rfl<;>assumption
def us1 {L:Type}{p:List L->Prop}(h:∀a,p [a])(us:List L)(b:us.length=1):p us:=by
 obtain⟨a,rfl⟩:=List.length_eq_one_iff.mp b;exact h a
theorem us2 {L:Type}{p:List L->Prop}(h:∀a b,p [a,b])(us:List L)(c:us.length=2):p us:=by
 cases us with
 |nil=>cases c
 |cons a us=>exact us1 (p:=λus=>p (a::us)) (h a) us (Nat.succ.inj c)
theorem us3 {L:Type}{p:List L->Prop}(h:∀a b c,p [a,b,c])(us:List L)(d:us.length=3):p us:=by
 cases us with
 |nil=>cases d
 |cons a us=>exact us2 (p:=λus=>p (a::us)) (h a) us (Nat.succ.inj d)
theorem us4 {L:Type}{p:List L->Prop}(h:∀a b c d,p [a,b,c,d])(us:List L)(e:us.length=4):p us:=by
 cases us with
 |nil=>cases e
 |cons a us=>exact us3 (p:=λus=>p (a::us)) (h a) us (Nat.succ.inj e)
def all_mk {l:PySem.W.OpenLaw}{w:Ak}{K:Ae}{h:Ao}{mg:Str->Option Ac}{fa f1 f2 f3 f4 f5 f6 f7 f8 f9 f10 f11 f12 f13 f14 f15 f16 f17 f18 f19 f20 f21 f22 f23 f24 f25 f26 f27 f28 f29 F E A h5 k2 t6 i0 l1 k9 p6 i k Q g m n q CB dT I b0 CI h0 z j4 e6 e2 C g4 a9 H B j6 D d9 V a c d b f R:Ab}(X:K.In h)(G:h.Ns Aj mg)(hfa:mg "law"=some (.ref fa))
  {od29 an29 odB anB odT:Option Ab} {sl29 slB slT:Array (Option Ac)} {oc29 kV29 dc29 pm29 ct29 cd29 ocB kVB dcB pmB ctB cdB ocT:Ac} {tk1 tk2 tk3 tk4:Tok} {nT:Nat}
  (q1:FnG K f1 "is_whole" oX)
  (q2:FnG K f2 "is_whole_within" pV)
  (q3:FnG K f3 "is_pair" aE)
  (q4:FnG K f4 "is_day" zr1)
  (q5:FnG K f5 "is_pair_of_days" cQ)
  (q6:FnG K f6 "is_stretch" qj)
  (q7:FnG K f7 "is_coins" jP)
  (q8:FnG K f8 "is_deal" oU)
  (q9:FnG K f9 "is_worth" iu)
  (q10:FnG K f10 "is_rule" oA)
  (q11:FnG K f11 "made" aT)
  (q12:FnG K f12 "rule_of" oZ)
  (q13:FnG K f13 "kept_rules" pj)
  (q14:FnG K f14 "laid" kh)
  (q15:FnG K f15 "dealt" je)
  (q16:FnG K f16 "_law_begin" jS)
  (q17:FnG K f17 "_law_take" zb2)
  (q18:FnG K f18 "_law_coins" pI)
  (q19:FnG K f19 "_law_worth" pQ)
  (q20:FnG K f20 "_law_rule" jF)
  (q21:FnG K f21 "_law_done" hV)
  (q22:FnG K f22 "_law_names" kO)
  (q23:FnG K f23 "_law_some" cS)
  (q24:FnG K f24 "_law_no_name" pT)
  (q25:FnG K f25 "_law_is_fresh" jc)
  (q26:FnG K f26 "_law_laid_right" jt)
  (q27:FnG K f27 "_law_inn_told" rB)
  (q28:FnG K f28 "_law_inn_refused" oy)
  (a29:PySem.W.nsIn K Aj "law"=some (some (.ref f29)))
  (l29:K.lookup f29=some ⟨oc29,od29,.func (PySem.W.fnOf "law" "law" (yB oj) (zJ oj) (zd oj) .none kV29 dc29 pm29 an29 cd29 ct29),sl29⟩)
  (c29:PySem.W.codeIn K cd29 "law"=true)
  (k29:PySem.W.keepIn K (.ref f29)=true)
  (aCPrice:PySem.W.nsIn K Aj "Price"=some (some (.ref i)))
  (aCCome:PySem.W.nsIn K Aj "Come"=some (some (.ref k)))
  (aCGo:PySem.W.nsIn K Aj "Go"=some (some (.ref Q)))
  (aCLeast:PySem.W.nsIn K Aj "Least"=some (some (.ref g)))
  (aCMost:PySem.W.nsIn K Aj "Most"=some (some (.ref m)))
  (aCDeal:PySem.W.nsIn K Aj "Deal"=some (some (.ref n)))
  (aCFee:PySem.W.nsIn K Aj "Fee"=some (some (.ref q)))
  (p7:vE K i F E A h5)
  (u5:vE K k F E A k2)
  (RGo:vE K Q F E A t6)
  (p5:vE K g F E A i0)
  (v7:vE K m F E A l1)
  (v4:vE K n F E A k9)
  (RFee:vE K q F E A p6)
  (q_init:FnF K F "__init__" "Rule.__init__" gp)
  (q_told:FnF K E "told" "Rule.told" bc)
  (z0:FnF K h5 "word" "Price.word" oM)
  (q_wCome:FnF K k2 "word" "Come.word" jk)
  (q_wGo:FnF K t6 "word" "Go.word" zt0)
  (y6:FnF K i0 "word" "Least.word" pM)
  (q_wMost:FnF K l1 "word" "Most.word" jj)
  (q_wDeal:FnF K k9 "word" "Deal.word" kK)
  (q_wFee:FnF K p6 "word" "Fee.word" zb5)
  (aCB:PySem.W.nsIn K Aj "Book"=some (some (.ref CB)))
  (y1:PySem.W.findIn K (.ref CB) "__init__"=some (some (.ref I)))
  (is_binit:PySem.W.isFn K (.ref I)=true)
  (k8:K.lookup I=some ⟨ocB,odB,.func (PySem.W.fnOf "__init__" "Book.__init__" (yB yP) (zJ yP) (zd yP) (.ref dT) kVB dcB pmB anB cdB ctB),slB⟩)
  (k4:PySem.W.codeIn K cdB "Book.__init__"=true)
  (k1:PySem.W.keepIn K (.ref I)=true)
  (lT:K.lookup dT=some ⟨ocT,odT,.seq #[.none] nT,slT⟩)
  (v9:PySem.W.findIn K (.ref CB) "rules"=some (some (.ref b0)))
  (v5:PySem.W.isFn K (.ref b0)=true)
  (q_brules:FnF K b0 "rules" "Book.rules" um)
  (pgB:PySem.W.plainGet K CB Str.empty=true)
  (hdB:PySem.W.hasDictIn K CB=true)
  (poB:PySem.W.plainOver K CB=true)
  (saB:PySem.W.findIn K (.ref CB) "__setattr__"=some (some (.builtin "object.__setattr__")))
  (mkB:PySem.W.makesIn K CB=true)
  (kcB:PySem.W.keepIn K (.ref CB)=true)
  (noB:PySem.W.findIn K (.ref CB) "kept"=some none)
  (aCI:PySem.W.nsIn K Aj "Inn"=some (some (.ref CI)))
  (y5:PySem.W.findIn K (.ref CI) "__init__"=some (some (.ref h0)))
  (is_Iinit:PySem.W.isFn K (.ref h0)=true)
  (q_Iinit:FnF K h0 "__init__" "Inn.__init__" vO)
  (l3:PySem.W.findIn K (.ref CI) "give_back"=some (some (.ref z)))
  (k3:PySem.W.isFn K (.ref z)=true)
  (m6:FnF K z "give_back" "Inn.give_back" ji)
  (fi_Ilay:PySem.W.findIn K (.ref CI) "lay"=some (some (.ref j4)))
  (is_Ilay:PySem.W.isFn K (.ref j4)=true)
  (q_Ilay:FnF K j4 "lay" "Inn.lay" pC)
  (fi_Itidy:PySem.W.findIn K (.ref CI) "tidy"=some (some (.ref e6)))
  (x7:PySem.W.isFn K (.ref e6)=true)
  (q_Itidy:FnF K e6 "tidy" "Inn.tidy" ig)
  (y0:PySem.W.findIn K (.ref CI) "undo"=some (some (.ref e2)))
  (is_Iundo:PySem.W.isFn K (.ref e2)=true)
  (q_Iundo:FnF K e2 "undo" "Inn.undo" rE)
  (o0:PySem.W.findIn K (.ref CI) "standing"=some (some (.ref C)))
  (l9:PySem.W.isFn K (.ref C)=true)
  (q0:FnF K C "standing" "Inn.standing" pW)
  (y7:PySem.W.findIn K (.ref CI) "full"=some (some (.ref g4)))
  (y4:PySem.W.isFn K (.ref g4)=true)
  (q_Ifull:FnF K g4 "full" "Inn.full" km)
  (u0:PySem.W.findIn K (.ref CI) "rooms"=some (some (.ref a9)))
  (w3:PySem.W.isFn K (.ref a9)=true)
  (q_Irooms:FnF K a9 "rooms" "Inn.rooms" pZ)
  (m3:PySem.W.findIn K (.ref CI) "rules_of"=some (some (.ref H)))
  (n3:PySem.W.isFn K (.ref H)=true)
  (r5:FnF K H "rules_of" "Inn.rules_of" wN)
  (m9:PySem.W.findIn K (.ref CI) "place_of"=some (some (.ref B)))
  (m1:PySem.W.isFn K (.ref B)=true)
  (o8:FnF K B "place_of" "Inn.place_of" uT)
  (fi_Iput:PySem.W.findIn K (.ref CI) "put"=some (some (.ref j6)))
  (is_Iput:PySem.W.isFn K (.ref j6)=true)
  (q_Iput:FnF K j6 "put" "Inn.put" aX)
  (m4:PySem.W.findIn K (.ref CI) "remember"=some (some (.ref D)))
  (l8:PySem.W.isFn K (.ref D)=true)
  (p4:FnF K D "remember" "Inn.remember" bE)
  (pgI:PySem.W.plainGet K CI Str.empty=true)
  (hdI:PySem.W.hasDictIn K CI=true)
  (poI:PySem.W.plainOver K CI=true)
  (saI:PySem.W.findIn K (.ref CI) "__setattr__"=some (some (.builtin "object.__setattr__")))
  (mkI:PySem.W.makesIn K CI=true)
  (kcI:PySem.W.keepIn K (.ref CI)=true)
  (j0:PySem.W.findIn K (.ref CI) "room_count"=some none)
  (v6:PySem.W.findIn K (.ref CI) "names"=some none)
  (v1:PySem.W.findIn K (.ref CI) "books"=some none)
  (w4:PySem.W.findIn K (.ref CI) "taken"=some none)
  (l4:PySem.W.findIn K (.ref CI) "following"=some none)
  (y3:PySem.W.findIn K (.ref CI) "past"=some none)
  (z1:PySem.W.nsIn K Aj "abs"=some none)
  (z2:PySem.W.nsIn K Aj "list"=some none)
  (z3:PySem.W.nsIn K Aj "len"=some none)
  (z4:PySem.W.nsIn K Aj "range"=some none)
  (z5:PySem.W.nsIn K Aj "min"=some none)
  (z6:PySem.W.nsIn K Aj "max"=some none)
  (z7:PySem.W.nsIn K Aj "sorted"=some none)
  (z8:PySem.W.nsIn K Aj "isinstance"=some none)
  (z9:PySem.W.nsIn K Aj "int"=some none)
  (z10:PySem.W.nsIn K Aj "bool"=some none)
  (z11:PySem.W.nsIn K Aj "str"=some none)
  (z12:PySem.W.nsIn K Aj "tuple"=some none)
  (z13:PySem.W.nsIn K Aj "all"=some none)
  (z14:PySem.W.nsIn K Aj "any"=some none)
  (z15:PySem.W.nsIn K Aj "repr"=some none)
  (z16:PySem.W.nsIn K Aj "zip"=some none)
  (z17:PySem.W.nsIn K Aj "enumerate"=some none)
  (z18:PySem.W.nsIn K Aj "reversed"=some none)
  (z19:PySem.W.nsIn K Aj "sum"=some none)
  (z20:PySem.W.nsIn K Aj "ValueError"=some none)
  (gi1:PySem.W.nsIn K Aj "LAST_DAY"=some (some (.int 1000000 tk1)))
  (gi2:PySem.W.nsIn K Aj "MOST_NIGHTS"=some (some (.int 14 tk2)))
  (gi3:PySem.W.nsIn K Aj "MOST_COINS"=some (some (.int 1000000000000 tk3)))
  (gi4:PySem.W.nsIn K Aj "MOST_RULES"=some (some (.int 24 tk4)))
  (aSt:PySem.W.nsIn K Aj "StayError"=some (some (.ref d9)))
  (aX_Off:PySem.W.nsIn K Aj "Off"=some (some (.ref V)))
  (r7:PySem.W.nsIn K Aj "NoTaken"=some (some (.ref a)))
  (t9:PySem.W.nsIn K Aj "NoName"=some (some (.ref c)))
  (u3:PySem.W.nsIn K Aj "NoRule"=some (some (.ref d)))
  (t3:PySem.W.nsIn K Aj "TooMany"=some (some (.ref b)))
  (w1:PySem.W.nsIn K Aj "NoDeed"=some (some (.ref f)))
  (fX_NoRule:PySem.W.findIn K (.ref d) "__init__"=some (some (.ref R)))
  (t8:PySem.W.typeIn K (.ref R)=some (.type "function"))
  (u1:FnF K R "__init__" "NoRule.__init__" rO)
  (uSt:za3 K d9=true)
  (s6:uH K a d9 none=true)
  (s8:PySem.W.keepIn K (.ref a)=true)
  (w8:uH K c d9 none=true)
  (u8:PySem.W.keepIn K (.ref c)=true)
  (w7:uH K d d9 (some (.ref R))=true)
  (w0:PySem.W.keepIn K (.ref d)=true)
  (r9:uH K b d9 none=true)
  (s2:PySem.W.keepIn K (.ref b)=true)
  (w5:uH K f d9 none=true)
  (u7:PySem.W.keepIn K (.ref f)=true)
  (L:PySem.W.findIn K (.ref d) "number"=some none)
  (a3:tY K a d9=true)
  (a8:tY K c d9=true)
  (a7:tY K d d9=true)
  (a4:tY K b d9=true)
  (a6:tY K f d9=true)
  (f0:tY K c c=true)
  (i7:PySem.W.kitOne K (.ref a) (.ref V)=some false)
  (b7:PySem.W.kitOne K (.ref a) (.ref a)=some true)
  (c9:PySem.W.kitOne K (.ref a) (.ref c)=some false)
  (d5:PySem.W.kitOne K (.ref a) (.ref d)=some false)
  (b4:PySem.W.kitOne K (.ref a) (.ref b)=some false)
  (c4:PySem.W.kitOne K (.ref a) (.ref f)=some false)
  (l0:PySem.W.kitOne K (.ref c) (.ref V)=some false)
  (c5:PySem.W.kitOne K (.ref c) (.ref a)=some false)
  (g2:PySem.W.kitOne K (.ref c) (.ref c)=some true)
  (g3:PySem.W.kitOne K (.ref c) (.ref d)=some false)
  (c1:PySem.W.kitOne K (.ref c) (.ref b)=some false)
  (e1:PySem.W.kitOne K (.ref c) (.ref f)=some false)
  (l2:PySem.W.kitOne K (.ref d) (.ref V)=some false)
  (c6:PySem.W.kitOne K (.ref d) (.ref a)=some false)
  (g7:PySem.W.kitOne K (.ref d) (.ref c)=some false)
  (h3:PySem.W.kitOne K (.ref d) (.ref d)=some true)
  (d8:PySem.W.kitOne K (.ref d) (.ref b)=some false)
  (g6:PySem.W.kitOne K (.ref d) (.ref f)=some false)
  (j1:PySem.W.kitOne K (.ref b) (.ref V)=some false)
  (b1:PySem.W.kitOne K (.ref b) (.ref a)=some false)
  (d0:PySem.W.kitOne K (.ref b) (.ref c)=some false)
  (d1:PySem.W.kitOne K (.ref b) (.ref d)=some false)
  (b2:PySem.W.kitOne K (.ref b) (.ref b)=some true)
  (c3:PySem.W.kitOne K (.ref b) (.ref f)=some false)
  (l5:PySem.W.kitOne K (.ref f) (.ref V)=some false)
  (d4:PySem.W.kitOne K (.ref f) (.ref a)=some false)
  (g0:PySem.W.kitOne K (.ref f) (.ref c)=some false)
  (g1:PySem.W.kitOne K (.ref f) (.ref d)=some false)
  (c2:PySem.W.kitOne K (.ref f) (.ref b)=some false)
  (e5:PySem.W.kitOne K (.ref f) (.ref f)=some true)
  (U:PySem.W.kitOne K (.ref a) (.type "ValueError")=some true)
  (a1:PySem.W.kitOne K (.ref c) (.type "ValueError")=some true)
  (a2:PySem.W.kitOne K (.ref d) (.type "ValueError")=some true)
  (Y:PySem.W.kitOne K (.ref b) (.type "ValueError")=some true)
  (a5:PySem.W.kitOne K (.ref f) (.type "ValueError")=some true):
  ∃fd:Ag,(∀(s:Af) (v:Ac),BindsTo s fd ⟨[v],[]⟩ [("_law_script",v)])/\∀base:Ao,K.In base->base.Ns Aj mg->zG l.prog w K mg base CX0 15 fa fd ["_law_script"] (lH K):=by
 have e:=hfa.symm.trans (zL4 X G a29);cases e;have nb:NbT mg:=⟨zK5 X G z1,zK5 X G z2,zK5 X G z3,zK5 X G z4,zK5 X G z5,zK5 X G z6,zK5 X G z7,zK5 X G z8,zK5 X G z9,zK5 X G z10,zK5 X G z11,zK5 X G z12,zK5 X G z13,zK5 X G z14,zK5 X G z15,zK5 X G z16,zK5 X G z17,zK5 X G z18,zK5 X G z19⟩;have n7:mg "ValueError"=none:=zK5 X G z20;obtain⟨_,s0,s9,r8⟩:=q1.get ["thing"] X G λ_ _ _ _ _ _=>us1 λ_=>rfl;obtain⟨_,d6,j,o⟩:=q2.get ["thing","lowest","highest"] X G λ_ _ _ _ _ _=>us3 λ_ _ _=>rfl;obtain⟨_,u9,c8,l6⟩:=q3.get ["thing"] X G λ_ _ _ _ _ _=>us1 λ_=>rfl;obtain⟨_,m_is_day,o4,b_is_day⟩:=q4.get ["thing"] X G λ_ _ _ _ _ _=>us1 λ_=>rfl;obtain⟨_,c0,J,d2⟩:=q5.get ["thing"] X G λ_ _ _ _ _ _=>us1 λ_=>rfl;obtain⟨_,m5,b8,n1⟩:=q6.get ["thing"] X G λ_ _ _ _ _ _=>us1 λ_=>rfl;obtain⟨_,s1,i4,s5⟩:=q7.get ["thing"] X G λ_ _ _ _ _ _=>us1 λ_=>rfl;obtain⟨_,u4,k5,u2⟩:=q8.get ["thing"] X G λ_ _ _ _ _ _=>us1 λ_=>rfl;obtain⟨_,t2,i6,t1⟩:=q9.get ["word","thing"] X G λ_ _ _ _ _ _=>us2 λ_ _=>rfl;obtain⟨_,v3,j8,u6⟩:=q10.get ["thing"] X G λ_ _ _ _ _ _=>us1 λ_=>rfl;obtain⟨_,m_made,x2,b_made⟩:=q11.get ["word","first","last","worth"] X G λ_ _ _ _ _ _=>us4 λ_ _ _ _=>rfl;obtain⟨_,t7,k7,w2⟩:=q12.get ["thing"] X G λ_ _ _ _ _ _=>us1 λ_=>rfl;obtain⟨_,N,M,O⟩:=q13.get ["things"] X G λ_ _ _ _ _ _=>us1 λ_=>rfl;obtain⟨_,x1,w9,x4⟩:=q14.get ["elder","newer"] X G λ_ _ _ _ _ _=>us2 λ_ _=>rfl;obtain⟨_,m_dealt,F_dealt,b_dealt⟩:=q15.get ["stays"] X G λ_ _ _ _ _ _=>us1 λ_=>rfl;obtain⟨_,o1,m7,n6⟩:=q16.get ["_law_cell"] X G λ_ _ _ _ _ _=>us1 λ_=>rfl;obtain⟨_,r0,e7,r6⟩:=q17.get ["_law_row","_law_base"] X G λ_ _ _ _ _ _=>us2 λ_ _=>rfl;obtain⟨_,m8,m2,m0⟩:=q18.get ["_law_row"] X G λ_ _ _ _ _ _=>us1 λ_=>rfl;obtain⟨_,n9,n0,n4⟩:=q19.get ["_law_row","_law_word"] X G λ_ _ _ _ _ _=>us2 λ_ _=>rfl;obtain⟨_,r4,p3,p9⟩:=q20.get ["_law_row","_law_day"] X G λ_ _ _ _ _ _=>us2 λ_ _=>rfl;obtain⟨_,h2,e0,e4⟩:=q21.get ["_law_inn","_law_deed"] X G λ_ _ _ _ _ _=>us2 λ_ _=>rfl;obtain⟨_,n2,n5,o2⟩:=q22.get ["_law_row","_law_many"] X G λ_ _ _ _ _ _=>us2 λ_ _=>rfl;obtain⟨_,r1,p0,p2⟩:=q23.get ["_law_row","_law_many"] X G λ_ _ _ _ _ _=>us2 λ_ _=>rfl;obtain⟨_,j2,i9,i8⟩:=q24.get ["_law_inn","_law_name"] X G λ_ _ _ _ _ _=>us2 λ_ _=>rfl;obtain⟨_,h9,h7,h8⟩:=q25.get ["_law_inn","_law_pairs"] X G λ_ _ _ _ _ _=>us2 λ_ _=>rfl;obtain⟨_,d7,d3,c7⟩:=q26.get ["_law_row","_law_inn","_law_pairs"] X G λ_ _ _ _ _ _=>us3 λ_ _ _=>rfl;obtain⟨_,h6,i1,i2⟩:=q27.get ["_law_rooms","_law_pairs"] X G λ_ _ _ _ _ _=>us2 λ_ _=>rfl;obtain⟨_,b6,b3,b5⟩:=q28.get ["_law_row","_law_names_here"] X G λ_ _ _ _ _ _=>us2 λ_ _=>rfl;have F_law:=za8 (st:=oj) l29 c29 k29;have b_law:=F_law.binds (ps:=["_law_script"]) λ_ _ _ _ _ _=>us1 λ_=>rfl;obtain⟨_,F_init,b_init⟩:=q_init.get ["self","first","last","worth"] λ_ _ _ _ _ _=>us4 λ_ _ _ _=>rfl;obtain⟨_,Z,T⟩:=q_told.get ["self"] λ_ _ _ _ _ _=>us1 λ_=>rfl;obtain⟨_,F_wPrice,x8⟩:=z0.get ["self"] λ_ _ _ _ _ _=>us1 λ_=>rfl;obtain⟨_,F_wCome,b_wCome⟩:=q_wCome.get ["self"] λ_ _ _ _ _ _=>us1 λ_=>rfl;obtain⟨_,F_wGo,b_wGo⟩:=q_wGo.get ["self"] λ_ _ _ _ _ _=>us1 λ_=>rfl;obtain⟨_,F_wLeast,y9⟩:=y6.get ["self"] λ_ _ _ _ _ _=>us1 λ_=>rfl;obtain⟨_,F_wMost,b_wMost⟩:=q_wMost.get ["self"] λ_ _ _ _ _ _=>us1 λ_=>rfl;obtain⟨_,F_wDeal,b_wDeal⟩:=q_wDeal.get ["self"] λ_ _ _ _ _ _=>us1 λ_=>rfl;obtain⟨_,F_wFee,b_wFee⟩:=q_wFee.get ["self"] λ_ _ _ _ _ _=>us1 λ_=>rfl;obtain⟨_,o3,o6⟩:=q_brules.get ["self"] λ_ _ _ _ _ _=>us1 λ_=>rfl;have TD:mG mg f1 f2 f3 f4 f5:=⟨nb.isinstance,nb.int,nb.bool,nb.tuple,nb.len,⟨tk1,zL4 X G gi1⟩,⟨tk2,zL4 X G gi2⟩,s0,d6,u9,m_is_day,c0⟩;have TR:kL mg f1 f2 f3 f4 f5 f6 f7 f8 f9 f10 f11 ⟨i,k,Q,g,m,n,q⟩:=⟨TD,⟨tk3,zL4 X G gi3⟩,m5,s1,u4,t2,v3,m_made,zL4 X G aCPrice,zL4 X G aCCome,zL4 X G aCGo,zL4 X G aCLeast,zL4 X G aCMost,zL4 X G aCDeal,zL4 X G aCFee⟩;have A7:aK K ⟨i,k,Q,g,m,n,q⟩ F E A h5 k2 t6 i0 l1 k9 p6:=⟨p7,u5,RGo,p5,v7,v4,RFee⟩;refine⟨PySem.W.fnOf "law" "law" (yB oj) (zJ oj) (zd oj) .none kV29 dc29 pm29 an29 cd29 ct29,λs v=>.of_eq rfl,λbase KX _=>?_⟩;have x3:=eK (P:=l.prog) (w:=w) (base:=base) j TD s9 r8;have x5:=zf7 (P:=l.prog) (w:=w) (base:=base) c8 TD;have G_day:=zo0 o4 TD x3 j.kp o;have G_days:=zi8 J TD x5 c8.kp l6 G_day o4.kp b_is_day;have v2:=kT b8 TD G_days J.kp d2;have G_coins:=dU i4 TR x3 j.kp o;have G_deal:=dn k5 TR x3 j.kp o x5 c8.kp l6;have G_worth:=aM i6 TR x3 j.kp o G_coins i4.kp s5 G_deal k5.kp u2;have G_rule:=di j8 TR v2 b8.kp n1 G_worth i6.kp t1;have G_made:=zg1 (P:=l.prog) (w:=w) (base:=base) x2 TR A7 F_init b_init;have y8:=dM k7 TR G_rule j8.kp u6 G_made x2.kp b_made;have CRO:Cal l.prog w K mg base "rule_of" 7 (vK ⟨i,k,Q,g,m,n,q⟩):=jX t7 k7.kp w2 y8;have CKe:Cal l.prog w K mg base "kept_rules" 8 (kG ⟨i,k,Q,g,m,n,q⟩):=za0 M N O nb ⟨tk4,zL4 X G gi4⟩ CRO;have cB:Cls K CB:=⟨pgB,hdB,poB,saB⟩;have GBI:=bK (pU (st:=yP) k8 k4 k1) cB noB CKe;have j3:mg "Book"=some (.ref CB):=zL4 X G aCB;have MkB:Mk K CB I:=⟨mkB,y1,is_binit,kcB⟩;have CBk:rL l.prog w K mg base "Book" 9 [] (vt CB ⟨i,k,Q,g,m,n,q⟩):=⟨CB,I,_,_,_,j3,MkB,tS lT,.nil,GBI⟩;have CBk0:rL l.prog w K mg base "Book" 9 [.non] (vt CB ⟨i,k,Q,g,m,n,q⟩):=⟨CB,I,_,_,_,j3,MkB,dG lT,.cons rfl .nil,GBI⟩;have OT:∀u∈words,sA l.prog w K mg base ((⟨i,k,Q,g,m,n,q⟩:Cs).of u) "told" 2 (jA ((⟨i,k,Q,g,m,n,q⟩:Cs).of u) u):=zF9 (by rw[lN];exact xH p7 T (ve Z p7 (eM F_wPrice) x8)) (by rw[gh];exact xH u5 T (ve Z u5 (af F_wCome) b_wCome)) (by rw[zn9];exact xH RGo T (ve Z RGo (zu8 F_wGo) b_wGo)) (by rw[mh];exact xH p5 T (ve Z p5 (ek F_wLeast) y9)) (by rw[gf];exact xH v7 T (ve Z v7 (aU F_wMost) b_wMost)) (by rw[gO];exact xH v4 T (ve Z v4 (ag F_wDeal) b_wDeal)) (by rw[cq];exact xH RFee T (ve Z RFee (ze8 F_wFee) b_wFee));have MR:sA l.prog w K mg base CB "rules" 3 (uj CB ⟨i,k,Q,g,m,n,q⟩):=⟨b0,_,_,cB,⟨v9,v5,o3.kp⟩,o6,eX o3 cB noB o6 OT⟩;have IC:IK K CI:=⟨⟨pgI,hdI,poI,saI⟩,j0,v6,v1,w4,l4,y3⟩;have MkI:Mk K CI h0:=⟨mkI,y5,is_Iinit,kcI⟩;have m_Inn:mg "Inn"=some (.ref CI):=zL4 X G aCI;obtain⟨_,t0,t4⟩:=q_Iinit.get ["self","rooms","books"] λ_ _ _ _ _ _=>us3 λ_ _ _=>rfl;obtain⟨_,b9,l7⟩:=m6.get ["self","number"] λ_ _ _ _ _ _=>us2 λ_ _=>rfl;have n8:Meth K CI "give_back" z:=⟨l3,k3,b9.kp⟩;obtain⟨_,j5,o9⟩:=q_Ilay.get ["self","name","rules"] λ_ _ _ _ _ _=>us3 λ_ _ _=>rfl;have r2:Meth K CI "lay" j4:=⟨fi_Ilay,is_Ilay,j5.kp⟩;obtain⟨_,s7,b_Itidy⟩:=q_Itidy.get ["self","name"] λ_ _ _ _ _ _=>us2 λ_ _=>rfl;have MI_tidy:Meth K CI "tidy" e6:=⟨fi_Itidy,x7,s7.kp⟩;obtain⟨_,j9,s4⟩:=q_Iundo.get ["self"] λ_ _ _ _ _ _=>us1 λ_=>rfl;have t5:Meth K CI "undo" e2:=⟨y0,is_Iundo,j9.kp⟩;obtain⟨_,h1,o7⟩:=q0.get ["self"] λ_ _ _ _ _ _=>us1 λ_=>rfl;have r3:Meth K CI "standing" C:=⟨o0,l9,h1.kp⟩;obtain⟨_,s3,b_Ifull⟩:=q_Ifull.get ["self"] λ_ _ _ _ _ _=>us1 λ_=>rfl;have MI_full:Meth K CI "full" g4:=⟨y7,y4,s3.kp⟩;obtain⟨_,o5,y2⟩:=q_Irooms.get ["self"] λ_ _ _ _ _ _=>us1 λ_=>rfl;have MI_rooms:Meth K CI "rooms" a9:=⟨u0,w3,o5.kp⟩;obtain⟨_,S,h4⟩:=r5.get ["self","name"] λ_ _ _ _ _ _=>us2 λ_ _=>rfl;have e9:Meth K CI "rules_of" H:=⟨m3,n3,S.kp⟩;obtain⟨_,a0,g5⟩:=o8.get ["self","name"] λ_ _ _ _ _ _=>us2 λ_ _=>rfl;have g9:Meth K CI "place_of" B:=⟨m9,m1,a0.kp⟩;obtain⟨_,x0,b_Iput⟩:=q_Iput.get ["self","place","book"] λ_ _ _ _ _ _=>us3 λ_ _ _=>rfl;have MI_put:Meth K CI "put" j6:=⟨fi_Iput,is_Iput,x0.kp⟩;obtain⟨_,g8,p1⟩:=p4.get ["self"] λ_ _ _ _ _ _=>us1 λ_=>rfl;have p8:Meth K CI "remember" D:=⟨m4,l8,g8.kp⟩;have e8:mg "StayError"=some (.ref d9):=zL4 X G aSt;have e3:mg "Off"=some (.ref V):=zL4 X G aX_Off;have r:mg "NoTaken"=some (.ref a):=zL4 X G r7;have p:mg "NoName"=some (.ref c):=zL4 X G t9;have y:mg "NoRule"=some (.ref d):=zL4 X G u3;have t:mg "TooMany"=some (.ref b):=zL4 X G t3;have x:mg "NoDeed"=some (.ref f):=zL4 X G w1;have i3:=XC.of s6;have j7:=XC.of w8;have k0:=XC.of w7;have i5:=XC.of r9;have k6:=XC.of w5;obtain⟨_,v8,v0⟩:=u1.get ["self","number"] λ_ _ _ _ _ _=>us2 λ_ _=>rfl;have CBg:=eF (P:=l.prog) (w:=w) (base:=base) m7 o1 n6;have CD:Cal l.prog w K mg base "_law_take" 1 wq:=bj r0 e7.kp r6 (zd9 e7);have CCo:=dE m2 m8 m0 CD;have CW:=fk n0 n9 n4 CD CCo;have CRl:=cx p3 r4 p9 nb CD CW;have CLd:=bt w9 x1 x4 CBk MR;have XT0:oi K mg "TooMany" b:=⟨t,s2,⟨_,i5.ok⟩⟩;have XN0:=zu4 (P:=l.prog) (w:=w) (base:=base) v8 v0 y e8 w0 t8 (XS.of uSt) k0 L;have CKT:=dm M N O nb ⟨tk4,zL4 X G gi4⟩ CRO XT0;have CKN:=fV M N O nb CRO XN0;have CKTX:=kX (pU (st:=yP) k8 k4 k1) j3 MkB (tS lT) CKT;have CKNX:=kf (pU (st:=yP) k8 k4 k1) j3 MkB (tS lT) CKN;have CLT:=eA w9 x1 x4 CKTX MR;have x6:oi K mg "NoName" c:=⟨p,u8,⟨_,j7.ok⟩⟩;have w6:oi K mg "NoTaken" a:=⟨r,s8,⟨_,i3.ok⟩⟩;have x9:oi K mg "NoDeed" f:=⟨x,u7,⟨_,k6.ok⟩⟩;have RM:=fO (P:=l.prog) (w:=w) (mg:=mg) (base:=base) (cs:=⟨i,k,Q,g,m,n,q⟩) (CB:=CB) IC p8 g8 p1;have PU:=eH IC MI_put x0 b_Iput RM;have PL:=nR (P:=l.prog) (w:=w) (mg:=mg) (base:=base) (cs:=⟨i,k,Q,g,m,n,q⟩) (CB:=CB) IC g9 a0 g5;have PX:=oJ (P:=l.prog) (w:=w) (mg:=mg) (base:=base) (cs:=⟨i,k,Q,g,m,n,q⟩) (CB:=CB) IC g9 a0 g5 x6;have TDX:=lZ IC MI_tidy s7 b_Itidy PX;have UN:=kB (P:=l.prog) (w:=w) (mg:=mg) (base:=base) (cs:=⟨i,k,Q,g,m,n,q⟩) (CB:=CB) IC t5 j9 s4;have UX:=lA (P:=l.prog) (w:=w) (mg:=mg) (base:=base) (cs:=⟨i,k,Q,g,m,n,q⟩) (CB:=CB) IC t5 j9 s4 x9;have BX:=lM (P:=l.prog) (w:=w) (mg:=mg) (base:=base) (cs:=⟨i,k,Q,g,m,n,q⟩) (CB:=CB) IC n8 b9 l7 nb w6;have RU:=qL IC e9 S h4 PL MR;have RX:=qk IC e9 S h4 PX MR;have LY:=dy IC r2 j5 o9 PL PU CBk CLd;have LX:=jY IC r2 j5 o9 PL PX PU CBk CKNX CKTX CLT;have ML:=eG IC r2 j5 o9 PL PU CBk CLd;have DEA:=eI (P:=l.prog) (w:=w) (base:=base) F_dealt m_dealt b_dealt nb;have ST:=mW (P:=l.prog) (w:=w) (mg:=mg) (base:=base) (cs:=⟨i,k,Q,g,m,n,q⟩) (CB:=CB) IC r3 h1 o7;have FU:=jg (P:=l.prog) (w:=w) (mg:=mg) (base:=base) (cs:=⟨i,k,Q,g,m,n,q⟩) (CB:=CB) IC MI_full s3 b_Ifull nb;have RO:=lU (cs:=⟨i,k,Q,g,m,n,q⟩) (CB:=CB) IC MI_rooms o5 y2 nb DEA;have KI:=bx IC m_Inn MkI t0 t4 CBk;have KXI:=fU IC m_Inn MkI t0 t4 CBk CKNX CKTX;have xh:XH K mg d9 ⟨a,c,d,b,f⟩:=⟨e8,n7,⟨XB.of a3,⟨_,i3⟩,⟨_,e3,i7⟩,⟨_,r,b7⟩,⟨_,p,c9⟩,⟨_,y,d5⟩,⟨_,t,b4⟩,⟨_,x,c4⟩,U⟩,⟨XB.of a8,⟨_,j7⟩,⟨_,e3,l0⟩,⟨_,r,c5⟩,⟨_,p,g2⟩,⟨_,y,g3⟩,⟨_,t,c1⟩,⟨_,x,e1⟩,a1⟩,⟨XB.of a7,⟨_,k0⟩,⟨_,e3,l2⟩,⟨_,r,c6⟩,⟨_,p,g7⟩,⟨_,y,h3⟩,⟨_,t,d8⟩,⟨_,x,g6⟩,a2⟩,⟨XB.of a4,⟨_,i5⟩,⟨_,e3,j1⟩,⟨_,r,b1⟩,⟨_,p,d0⟩,⟨_,y,d1⟩,⟨_,t,b2⟩,⟨_,x,c3⟩,Y⟩,⟨XB.of a6,⟨_,k6⟩,⟨_,e3,l5⟩,⟨_,r,d4⟩,⟨_,p,g0⟩,⟨_,y,g1⟩,⟨_,t,c2⟩,⟨_,x,e5⟩,a5⟩,L⟩;have DO:=eo IC xh nb e0 h2 e4 LY LX TDX UN UX BX;have DL:=jo IC xh nb e0 h2 e4 ML;have NN:=mY nb i9 j2 i8 p (XB.of f0) RX DO;have FR:=kl nb h7 h9 h8 ST FU RO RU DO;have SO:=jE p0 r1 p2 nb CD CRl;have NM:=dF n5 n2 o2 nb CD;have LRi:=lJ nb d3 d7 c7 CD SO RU DO DL;have IT:=mJ xh nb i1 h6 i2 KI KXI;have IR:=iB b3 b6 b5 nb CD SO IT;exact zw2 F_law nb CBg CD NM SO KI IR FR NN LRi
def walk {l:PySem.W.OpenLaw}{q:Ah}{loose:List Str}{j:(Str->Option Ac)->Ao->Prop}{e:Ak->Ao->Prop}{d:DefRec}{K:Params->Ae}(hn:l.most=some 63)(b:d.params.defaults=[])
  (i:∀(w:Ak) (h:Ao),e w h->(K w.params).In h)
  (F:∀(w:Ak) (mg:Str->Option Ac) (c:Ab) (h:Ao),(K w.params).In h->h.Ns Aj mg->mg d.name=some (.ref c)->
   ∃fd:Ag,(∀(s:Af) (u:Ac),BindsTo s fd ⟨[u],[]⟩ [("_law_script",u)])/\∀base:Ao,(K w.params).In base->base.Ns Aj mg->zG l.prog w (K w.params) mg base CX0 15 c fd ["_law_script"] (lH (K w.params))):
  PySem.W.WalkO q loose j e l.row.toRowW d [] (λf vs=>PySem.call f vs):=
 L2.zf5 (n:=63) (k:=15) (x:="_law_script") (CX:=λ_=>CX0) (sp:=λw=>lH (K w.params)) hn (by decide) b ⟨rfl,by decide,by decide,rfl⟩ i F (λ_ _ a ns m _ g=>⟨a,ns,rfl,g,m,trivial,λ_=>rfl⟩) λ_ _ _ _ _ z=>z
end K81
namespace PySem.W.Fast
def tw11032051790284168559:=Nat
def tw6731397945392469697:=Nat
def tw1142535703299877580:=Nat
def tw16747460592846995716:=Nat
def tw10132269541480689686:=Nat
def tw772015029378163660:=Nat
def tw9084328367493398547:=Nat
def tw11112112154169969408:=Nat
def tw15931620716691131824:=Nat
def tw4223963114100085811:=Nat
def tw12149979745665470611:=Nat
def tw12864858209795235973:=Nat
def tw15198386567272051342:=Nat
def tw5849213355178961920:=Nat
def tw10269366782342391933:=Nat
def tw11729003364588510955:=Nat
def tw17728529821974211319:=Nat
def tw7861297858114815957:=Nat
def tw12599280313051601351:=Nat
def tw14373972244650020394:=Nat
def tw10537891842919090872:=Nat
def tw10928734065152558595:=Nat
def tw5432723053651467741:=Nat
def tw15456416555959638633:=Nat
def tw2475796426545198750:=Nat
def tw12150001853417272305:=Nat
def tw12910809999379692947:=Nat
def tw6607598813857765729:=Nat
def tw10328126173499631431:=Nat
def tw15145339523223992428:=Nat
def tw15923895050900824975:=Nat
def tw12916194191748109763:=Nat
def tw13503293629500978914:=Nat
def tw8289650119047637851:=Nat
def tw4122593602741437532:=Nat
def tw17736218527306593181:=Nat
def tw5773698178330918781:=Nat
def tw3101460463754881408:=Nat
def tw6104885700600210086:=Nat
def tw4721425607887958898:=Nat
def tw2940802567574434512:=Nat
def tw16770752387606326003:=Nat
def tw12822792091081256701:=Nat
def tw16928887732638262140:=Nat
def tw13886614613901376160:=Nat
def tw2883476121679122177:=Nat
def tw4454339853784077861:=Nat
def tw1226344963060301941:=Nat
def tw2042113609937934164:=Nat
def tw15458617888795622399:=Nat
def tw2159476171348567666:=Nat
def tw11602603561935407512:=Nat
def tw1311573030820960920:=Nat
def tw5960422394483138185:=Nat
def tw1551231988457431601:=Nat
def tw10518498059582738813:=Nat
def tw14040878705765573612:=Nat
def tw14887037631019392236:=Nat
def tw5529348992231711872:=Nat
def tw9479341408670674399:=Nat
def tw6801612274094762210:=Nat
def tw9140792759769742193:=Nat
def tw3272597859972665544:=Nat
def tw16887916527708477603:=Nat
def tw4686127070676967709:=Nat
def tw17013007728294764545:=Nat
def tw2912201257336486554:=Nat
def tw10014922833077662803:=Nat
def tw6844898804085822399:=Nat
def tw3803800482118187341:=Nat
def tw10317886029595527591:=Nat
def tw12256833693055174087:=Nat
def tw10089412205894581696:=Nat
def tw18139647855410927255:=Nat
def tw9561078083303684251:=Nat
def tw14457828797855017819:=Nat
def tw13889105555571725787:=Nat
def tw8721361941879291176:=Nat
def tw221153548686337420:=Nat
def tw15619883012258098398:=Nat
def tw9700443592144245576:=Nat
def tw14306162142647229511:=Nat
def tw9911140769902117276:=Nat
def tw13124683386625019554:=Nat
def tw16799958185016961034:=Nat
def tw4096032566502084694:=Nat
def tw14189517049513764234:=Nat
def tw2822722402987908420:=Nat
def tw3824131083385385926:=Nat
def tw1947721801191686629:=Nat
def tw15857859944112340165:=Nat
def tw15310034695035951070:=Nat
def tw7864634337663628987:=Nat
def tw12802607194304595360:=Nat
def tw10224718561798922640:=Nat
def tw1779163190037449870:=Nat
def tw10095842423658719943:=Nat
def tw14422704256593713186:=Nat
def tw14665800268048406940:=Nat
def tw11445244971172183570:=Nat
def tw369974050364288618:=Nat
def tw9276527568946652362:=Nat
def tw3894930341302703290:=Nat
def tw16565847482973701585:=Nat
def tw17523995177320176250:=Nat
def tw10905092980134035225:=Nat
def tw2382931691107720687:=Nat
def tw17625599628959917789:=Nat
def tw1762530220893349304:=Nat
def tw11559649964694600899:=Nat
def tw4261472054231617156:=Nat
def tw1261586158126846594:=Nat
def tw12746046529118611996:=Nat
def tw18259511745879404181:=Nat
def tw14908076279475063739:=Nat
def tw8066571023230073183:=Nat
def tw353476972110129483:=Nat
def tw5972514756540564830:=Nat
def tw17124846482310116853:=Nat
def tw8922431201862790779:=Nat
def tw7161363408740189522:=Nat
def tw4422322514896399560:=Nat
def tw2606505142380255199:=Nat
def tw12049207579162192030:=Nat
def tw10042268007507764708:=Nat
def tw17850624968112504317:=Nat
def tw2643770731661064700:=Nat
def tw12970911097654706161:=Nat
def tw1963391542371264984:=Nat
def tw430150578519457480:=Nat
def tw8301289298263548169:=Nat
def tw7599321202742631548:=Nat
def tw1488619560520555536:=Nat
def tw18222684233627221848:=Nat
def tw13163590293814697847:=Nat
def tw11613561228818561911:=Nat
def tw5956529982940124703:=Nat
def tw8806637188977601937:=Nat
def tw13627585119216401370:=Nat
def tw6156547082439829938:=Nat
def tw6973016570679916740:=Nat
def tw13587617981677595698:=Nat
def tw9787189200125837124:=Nat
def tw12695112343731047638:=Nat
def tw6195696197731030405:=Nat
def tw2153164921542205184:=Nat
def tw11968126360424716690:=Nat
def tw17003112580903588764:=Nat
def tw14955784987000190305:=Nat
def tw3646243396654070834:=Nat
def tw10142899950452047369:=Nat
def tw8552487929022986863:=Nat
def tw6644219236894551969:=Nat
def tw4736162701783674372:=Nat
def tw10342818637066755381:=Nat
def tw9851830346859978287:=Nat
def tw4280428284641834950:=Nat
def tw14062201567845310422:=Nat
def tw16918277711162649595:=Nat
def tw17165220006215690039:=Nat
def tw16736171563253232387:=Nat
def tw10486488013691123198:=Nat
def tw9114886218496045508:=Nat
def tw2085324439706202681:=Nat
def tw547167594022706352:=Nat
def tw3758450852719838534:=Nat
def tw4630082038808107943:=Nat
def tw3505036817002237:=Nat
def tw15616380223984781135:=Nat
def tw7513363319384068608:=Nat
def tw12688892166276222449:=Nat
def tw7720077162318801303:=Nat
def tw18330776852640068086:=Nat
def tw538586928328459588:=Nat
def tw11727524749986066779:=Nat
def tw255715640120400927:=Nat
def tw455423448144205182:=Nat
def tw991347117788935074:=Nat
def tw13270212463778584975:=Nat
def tw15670356991471956011:=Nat
def tw7416281934496647612:=Nat
def tw4768176833149590855:=Nat
def tw15042163049469461809:=Nat
def tw17671154920391949018:=Nat
def tw1650946720578159099:=Nat
def tw15672610259044257003:=Nat
def tw6865565746196390983:=Nat
def tw8827389764775221723:=Nat
def tw1428600594425460391:=Nat
def tw5674145422368699015:=Nat
def tw4177787720997256509:=Nat
def tw15173552970372143178:=Nat
def tw3685320648241692776:=Nat
def tw8790583159443967888:=Nat
def tw17847888285128714469:=Nat
def tw14360164186453582023:=Nat
def tw5313446355424711168:=Nat
def tw13869123048086391267:=Nat
def tw8538150840219113394:=Nat
def tw10010125088992452673:=Nat
def tw7526417230839831543:=Nat
def tw16983474945132332510:=Nat
def tw662932015570084074:=Nat
def tw2094176496419640326:=Nat
def tw15353543163599207582:=Nat
def tw10180483101662528502:=Nat
def tw15550697561199122420:=Nat
def tw13221430564506236267:=Nat
def tw10490620780134743537:=Nat
def tw7315798097844621251:=Nat
def tw779708326402632214:=Nat
def tw12607642496309546911:=Nat
def tw16222870475708766875:=Nat
def tw7178241654022253019:=Nat
def tw18015118793912745452:=Nat
def tw732463893295665309:=Nat
def tw5792894284662375902:=Nat
def tw11535101131770213732:=Nat
def tw1106861113805964000:=Nat
def tw16000087918603447789:=Nat
def tw2961291105257646068:=Nat
def tw15029340100571061613:=Nat
def tw13145576114898299906:=Nat
def tw3564201106217869225:=Nat
def tw3226653258842528890:=Nat
def tw25041637777356023:=Nat
def tw5445625107318653418:=Nat
def tw17116149219580648815:=Nat
def tw11759850864117446253:=Nat
def tw7443532348133967571:=Nat
def tw1764272571960408712:=Nat
def tw5255578281937648623:=Nat
def tw15346758027888940060:=Nat
def tw6481920208434126167:=Nat
def tw10764692624702910233:=Nat
def tw8419651344528733543:=Nat
def tw2161633267395677594:=Nat
def tw18327116160433042202:=Nat
def tw16655870473514148427:=Nat
def tw16767106502904387241:=Nat
def tw15915147352506483039:=Nat
def tw14717821566845451183:=Nat
def tw8727577102020978478:=Nat
def tw8131205003122226328:=Nat
def tw11739075201355726215:=Nat
def tw9249771268660467673:=Nat
def tw3669337774827827156:=Nat
def tw903806040978779820:=Nat
def tw17812381233570425671:=Nat
def tw5057433134817238066:=Nat
def tw16688745558936618606:=Nat
def tw5982295428538213581:=Nat
def tw4673784786449433209:=Nat
def tw18316862666873484499:=Nat
def tw1930430641412987561:=Nat
def tw10226360345314225138:=Nat
def tw9195981261928122848:=Nat
def tw1293323313759901814:=Nat
def tw9400666849669038054:=Nat
def tw8103598190724156665:=Nat
def tw11339035220473251126:=Nat
def tw10767095193132186510:=Nat
def tw17863972477264365119:=Nat
def tw3684282589440433222:=Nat
def tw10147165748862173665:=Nat
def tw3461970170041774331:=Nat
def tw1652596256800644069:=Nat
def tw10047964409033045012:=Nat
def tw8878570217697097829:=Nat
def tw7105940608902943050:=Nat
def tw2636174482597467662:=Nat
def tw5405137652811464268:=Nat
def tw1258450840890510639:=Nat
def tw8082556772004356574:=Nat
def tw14971252870899912639:=Nat
def tw5863962969868511468:=Nat
def tw16752888808091464951:=Nat
def tw1655272925849949736:=Nat
def tw3094039213614427874:=Nat
def tw1865452952402317247:=Nat
def tw15092186298029956541:=Nat
def tw5120375186317558847:=Nat
def tw10017479988583396736:=Nat
def tw376332825585064379:=Nat
def tw16943276376858727100:=Nat
def tw6297048374183245035:=Nat
def tw6127850599427526139:=Nat
def tw17770263526684744027:=Nat
def tw4606033583148907985:=Nat
def tw15880871790731676297:=Nat
def tw11271574397379927981:=Nat
def tw17010407433713469495:=Nat
def tw11530426018893458488:=Nat
def tw7490463115348791514:=Nat
def tw6577764236915962435:=Nat
def tw9229690044225007176:=Nat
def tw6662943310743431655:=Nat
def tw8247349448716509359:=Nat
def tw16709332283205433629:=Nat
def tw12174239186510903553:=Nat
def tw10115176045533821123:=Nat
def tw2756941113472379635:=Nat
def tw1398923501896447872:=Nat
def tw10526735189404013235:=Nat
def tw7021979094060071096:=Nat
def tw11233704989055100034:=Nat
def tw11915610144690785690:=Nat
def tw5613320605948129725:=Nat
def tw12176432547403033761:=Nat
def tw3894364548483070199:=Nat
def tw7272047867807788532:=Nat
def tw16029462833039482094:=Nat
def tw613966779923302920:=Nat
def tw13804633514994966770:=Nat
def tw10815266067802469087:=Nat
def tw11623752921184298889:=Nat
def tw751265903423200059:=Nat
def tw540855742494995406:=Nat
def tw10578920215363031248:=Nat
def tw8305306469127133907:=Nat
def tw4234218363880948225:=Nat
def tw16339550700584293866:=Nat
def tw1872980057443042247:=Nat
def tw12734643808250789625:=Nat
def tw2001317616198814130:=Nat
def tw55981679423243379:=Nat
def tw11011087807144620781:=Nat
def tw10601524979971655386:=Nat
def tw16315634797107505560:=Nat
def tw3029165434279776673:=Nat
def tw13980143564543957776:=Nat
def tw3719347995419629417:=Nat
def tw11289411466849218146:=Nat
def tw7031539083222341522:=Nat
def tw6758261052471410675:=Nat
def tw12436322629106752968:=Nat
def tw6700605317474269970:=Nat
def tw9210745794014441199:=Nat
def tw13620954176212580153:=Nat
def tw11753954173403477812:=Nat
def tw13586785463999427701:=Nat
def tw192219482985009935:=Nat
def tw18217411927719554860:=Nat
def tw16374272723659995355:=Nat
def tw1571940994356844533:=Nat
def tw16351853015619108629:=Nat
def tw17125456449980294248:=Nat
def tw1826927303269966315:=Nat
def tw10743212109220765747:=Nat
def tw13095046561128343966:=Nat
def tw17780924114589877702:=Nat
def tw7169209934232393119:=Nat
def tw15986821746631536511:=Nat
def tw10601681870590042657:=Nat
def tw14710888076699668750:=Nat
def tw573495958630634823:=Nat
def tw1863856453564561374:=Nat
def tw16460857976573044085:=Nat
def tw14372705868059053810:=Nat
def tw3466591737109622230:=Nat
def tw12165035727249758844:=Nat
def tw2609594914277639503:=Nat
def tw18053212059492627008:=Nat
def tw14425858551854503680:=Nat
def tw13340742106538943192:=Nat
def tw2525345689614809650:=Nat
end PySem.W.Fast
open PySem PySem.W PyProof.Rows
set_option maxRecDepth 100000 in
theorem PySem.Challenge.cw_stayprice_k81_a_fresh_inn_holds : PySem.Challenge.rw_stayprice_k81_a_fresh_inn.Holds := by
 w_on;o_law;k_head;(case hw=>w_witness2)
 k_fill
 refine K81.walk (l:=PySem.Challenge.rw_stayprice_k81_a_fresh_inn) rfl rfl (λw h Y=>PySem.W.km_in_of Y) ?hF
 case hF=>
  intro w mg b h KX G a
  refine' K81.all_mk KX G a (K81.mkG ?_ ?_ ?_ ?_) (K81.mkG ?_ ?_ ?_ ?_) (K81.mkG ?_ ?_ ?_ ?_) (K81.mkG ?_ ?_ ?_ ?_) (K81.mkG ?_ ?_ ?_ ?_) (K81.mkG ?_ ?_ ?_ ?_) (K81.mkG ?_ ?_ ?_ ?_) (K81.mkG ?_ ?_ ?_ ?_) (K81.mkG ?_ ?_ ?_ ?_) (K81.mkG ?_ ?_ ?_ ?_) (K81.mkG ?_ ?_ ?_ ?_) (K81.mkG ?_ ?_ ?_ ?_) (K81.mkG ?_ ?_ ?_ ?_) (K81.mkG ?_ ?_ ?_ ?_) (K81.mkG ?_ ?_ ?_ ?_) (K81.mkG ?_ ?_ ?_ ?_) (K81.mkG ?_ ?_ ?_ ?_) (K81.mkG ?_ ?_ ?_ ?_) (K81.mkG ?_ ?_ ?_ ?_) (K81.mkG ?_ ?_ ?_ ?_) (K81.mkG ?_ ?_ ?_ ?_) (K81.mkG ?_ ?_ ?_ ?_) (K81.mkG ?_ ?_ ?_ ?_) (K81.mkG ?_ ?_ ?_ ?_) (K81.mkG ?_ ?_ ?_ ?_) (K81.mkG ?_ ?_ ?_ ?_) (K81.mkG ?_ ?_ ?_ ?_) (K81.mkG ?_ ?_ ?_ ?_) ?_ ?_ ?_ ?_ ?_ ?_ ?_ ?_ ?_ ?_ ?_ (K81.mkR ?_ ?_ ?_ ?_ ?_ ?_ ?_ ?_ ?_ ?_ ?_ ?_ ?_ ?_ ?_ ?_ ?_ ?_ ?_ ?_) (K81.mkR ?_ ?_ ?_ ?_ ?_ ?_ ?_ ?_ ?_ ?_ ?_ ?_ ?_ ?_ ?_ ?_ ?_ ?_ ?_ ?_) (K81.mkR ?_ ?_ ?_ ?_ ?_ ?_ ?_ ?_ ?_ ?_ ?_ ?_ ?_ ?_ ?_ ?_ ?_ ?_ ?_ ?_) (K81.mkR ?_ ?_ ?_ ?_ ?_ ?_ ?_ ?_ ?_ ?_ ?_ ?_ ?_ ?_ ?_ ?_ ?_ ?_ ?_ ?_) (K81.mkR ?_ ?_ ?_ ?_ ?_ ?_ ?_ ?_ ?_ ?_ ?_ ?_ ?_ ?_ ?_ ?_ ?_ ?_ ?_ ?_) (K81.mkR ?_ ?_ ?_ ?_ ?_ ?_ ?_ ?_ ?_ ?_ ?_ ?_ ?_ ?_ ?_ ?_ ?_ ?_ ?_ ?_) (K81.mkR ?_ ?_ ?_ ?_ ?_ ?_ ?_ ?_ ?_ ?_ ?_ ?_ ?_ ?_ ?_ ?_ ?_ ?_ ?_ ?_) (K81.mkF ?_ ?_ ?_) (K81.mkF ?_ ?_ ?_) (K81.mkF ?_ ?_ ?_) (K81.mkF ?_ ?_ ?_) (K81.mkF ?_ ?_ ?_) (K81.mkF ?_ ?_ ?_) (K81.mkF ?_ ?_ ?_) (K81.mkF ?_ ?_ ?_) (K81.mkF ?_ ?_ ?_) ?_ ?_ ?_ ?_ ?_ ?_ ?_ ?_ ?_ (K81.mkF ?_ ?_ ?_) ?_ ?_ ?_ ?_ ?_ ?_ ?_ ?_ ?_ ?_ (K81.mkF ?_ ?_ ?_) ?_ ?_ (K81.mkF ?_ ?_ ?_) ?_ ?_ (K81.mkF ?_ ?_ ?_) ?_ ?_ (K81.mkF ?_ ?_ ?_) ?_ ?_ (K81.mkF ?_ ?_ ?_) ?_ ?_ (K81.mkF ?_ ?_ ?_) ?_ ?_ (K81.mkF ?_ ?_ ?_) ?_ ?_ (K81.mkF ?_ ?_ ?_) ?_ ?_ (K81.mkF ?_ ?_ ?_) ?_ ?_ (K81.mkF ?_ ?_ ?_) ?_ ?_ (K81.mkF ?_ ?_ ?_) ?_ ?_ (K81.mkF ?_ ?_ ?_) ?_ ?_ ?_ ?_ ?_ ?_ ?_ ?_ ?_ ?_ ?_ ?_ ?_ ?_ ?_ ?_ ?_ ?_ ?_ ?_ ?_ ?_ ?_ ?_ ?_ ?_ ?_ ?_ ?_ ?_ ?_ ?_ ?_ ?_ ?_ ?_ ?_ ?_ ?_ ?_ ?_ ?_ ?_ ?_ ?_ (K81.mkF ?_ ?_ ?_) ?_ ?_ ?_ ?_ ?_ ?_ ?_ ?_ ?_ ?_ ?_ ?_ ?_ ?_ ?_ ?_ ?_ ?_ ?_ ?_ ?_ ?_ ?_ ?_ ?_ ?_ ?_ ?_ ?_ ?_ ?_ ?_ ?_ ?_ ?_ ?_ ?_ ?_ ?_ ?_ ?_ ?_ ?_ ?_ ?_ ?_ ?_ ?_ ?_ ?_ ?_ ?_ ?_
  all_goals try (show _=_;first|k_is|kernel_rfl)
