import PyProof.Rows.All
import Wide.All
import OpenK.AllK
import Wide.FinOn
import Lean
import PyProof.EqAt
import PyProof.EqKinds
import PyProof.TupleCall
import PyProof.AttrMissHeap
import PyProof.DictRoadsH
import KE.KDictOf
import PyProof.P3In
import PyProof.StrLoop
import PyProof.StrWalks
import PyProof.StrCalls2
import KE.KIntText
import PyProof.IsRules
import PyProof.ZipIter
import PyProof.TupleIter
import PyProof.WalksMore
import PyProof.StrBlockH
import PyProof.SliceStr2
import PyProof.Rows.StrInSeq3
import PySem.Challenge.RW_stayprice_k79_undone_to_the_beginning
set_option compiler.extract_closed false
set_option genSizeOf false
set_option bootstrap.genMatcherCode false
open PySem renaming PyData->A2,starEach->A3,Value->Bs,Addr->Ch,Shared->C1,mainGlobals->C2,wpAny->C3,model->C4,Program->C5,World->C6,Heap->C7,Stmt->Da,Around->Db,Expr->Dc,FuncData->Dd,Scope->De,Env->Df
open PySem.W renaming Frag->Cl
set_option maxHeartbeats 0
set_option linter.all false
set_option Elab.async false
open Option renaming some->J,none->D
open Bool renaming true->I,false->Za
open List renaming replicate->Zb
open Or renaming inl->Zc,inr->Zd
open False renaming elim->Ze
open PySem.Value renaming ref->Zf
open PySem.W renaming kitOne->Zg,keepIn->Zh,findIn->Zi,nsIn->Zj,isFn->Zk,fnOf->Zl,hasDictIn->Zm,emptyDict->Zn,codeIn->Zo,instObj->Zp,plainGet->Zq,plainOver->Zr,makesIn->Zs,typeIn->Zt,lookIn->Zu
open PySem renaming Str->Zv,sizeLine->Zw,backTo->Zx,keywordEach->Zy,foldedSetIterable->Zz,attributeBase->Z0,swapsWith->Z1,backToKw->Z4,compareOp->Z5,getMethod->Z6,Obj->Z7,standAt->Z8,holding->Z9,callWith->ZA,behindInMarks->ZB,Keyword->ZC,bootBuiltins->ZD,noteFrame->ZE,ExcBaseFacts->ZF,binaryOp->ZG,codeAny->ZH,rawInt->ZI,assignEach->ZJ,sliceBounds->ZK,excClassObj->ZL,letOwnedTupleGo->ZM,sysModules->Ya
open PyProof.Rows renaming envOfC->Yb,AllBare->Yc
open PySem.NameKind renaming free->Yd,cell->Ye
open PySem.SeqAt renaming shaped->Yf
open PySem.PyData renaming depthAll->Yg,canLayAll0->Yh,hasDict->Yi,canLay0->Yj,hasDictAll->Yk
open PySem.SetTable renaming below->aL,grown->hU,Probe->Dg,advance->DB,fits->DI
open PySem.Value renaming none->eH,type->eI,isStrOf->hX,int->iS,bool->BE,str->CH,builtin->Di,isInt_shape->Dr,isInt->DK
open PySem.Builtin.List renaming listExtendWith->eT,listSameRef->gM,listLengthHint->hB,listUpdate->hH,listItems->hL,listTooLong->kB
open PySem.Builtin.SmallTypes renaming ownedTupleIsFree->hP,ownedTupleHandOut->Dq
open Array renaming getD->hY,getD_eq_getD_getElem?->yp,getElem?_eq_none->CP,getElem?_toList->CW,toList_append->Dm,find?_toList->Dn,toList_push->Dw,size_push->DC
open PySem.SetTable.below renaming go->lS
open Bool renaming noConfusion->mU,and_false->CU,and_true->Dj,not_eq_true'->Dv,and_self->DG,or_true->DJ
open PySem.W renaming kla_obj->nH,tabObj->pF,kla_fn->xa,takerIn->CJ,findObj_own->Dk,callWith_K0->Dl,envX->Dp,specialIn->Ds,kitx_list->Dt,kitx_dict->Du,WalkO->DH
open Nat renaming lt_trichotomy->y2,log2_lt->CM,add_lt_add_right->Dh,le_succ_of_le->Dx,min_le_right->Dy,le_max_right->DA,le_max_left->DD
open Option renaming isSome_map->zz,isSome_iff_exists->CC,getD_none->Dz,map_none->DF
open Int renaming ne_of_gt->BW
noncomputable section
local macro_rules|`(tactic|trivial)=>`(tactic|first|exact Zc rfl|exact Zd (Zc rfl)|exact Zd (Zd rfl)|decide +kernel)
local macro_rules|`(tactic|symm)=>`(tactic|trivial)
local macro_rules|`(#[$x,*])=>`(⟨$x,*⟩)
local macro_rules|`(tactic|show $x)=>`(tactic|refine $x)
section
variable{t t1 t2 t3 t4 t5 t6:Sort _}{G:Prop}{p5 q5 r5 s5:t->t1->t2->t3->t4->Prop}{p0 q0 r0 s0 a0 b0:Prop}{p1 q1 r1:t->Prop}{p2 q2 r2 s2 a2 b2:t->t1->Prop}{p3 q3 r3 s3 a3 b3:t->t1->t2->Prop}{p4 q4 r4 s4 a4 b4:t->t1->t2->t3->Prop}
theorem wwi0(x:t)(y:t1)(z:t2)(h:p3 x y z)(i:q3 x y z)(j:r3 x y z):∃x y z,p3 x y z/\q3 x y z/\r3 x y z:=⟨x,y,z,h,i,j⟩
theorem wwi1(x:t)(y:t1)(h:p2 x y)(i:q2 x y)(j:r2 x y)(k:s2 x y):∃x y,p2 x y/\q2 x y/\r2 x y/\s2 x y:=⟨x,y,h,i,j,k⟩
theorem wwi2(x:t)(y:t1)(z:t2)(u:t3)(h:p4 x y z u)(i:q4 x y z u)(j:r4 x y z u)(k:s4 x y z u):∃x y z u,p4 x y z u/\q4 x y z u/\r4 x y z u/\s4 x y z u:=⟨x,y,z,u,h,i,j,k⟩
theorem wwi3(x:t)(y:t1)(z:t2)(h:p3 x y z)(i:q3 x y z)(j:r3 x y z)(k:s3 x y z):∃x y z,p3 x y z/\q3 x y z/\r3 x y z/\s3 x y z:=⟨x,y,z,h,i,j,k⟩
theorem wwi4(x:t)(y:t1)(h:p2 x y)(i:q2 x y)(j:r2 x y)(k:s2 x y)(l:a2 x y):∃x y,p2 x y/\q2 x y/\r2 x y/\s2 x y/\a2 x y:=⟨x,y,h,i,j,k,l⟩
theorem wwi5(x:t)(y:t1)(h:p2 x y)(i:q2 x y)(j:r2 x y)(k:s2 x y)(l:a2 x y)(m:b2 x y):∃x y,p2 x y/\q2 x y/\r2 x y/\s2 x y/\a2 x y/\b2 x y:=⟨x,y,h,i,j,k,l,m⟩
theorem wwi6(h:p0)(i:q0)(j:r0)(k:s0)(l:a0)(m:b0):p0/\q0/\r0/\s0/\a0/\b0:=⟨h,i,j,k,l,m⟩
theorem wwi7(x:t)(y:t1)(z:t2)(u:t3)(h:p4 x y z u)(i:q4 x y z u)(j:r4 x y z u)(k:s4 x y z u)(l:a4 x y z u):∃x y z u,p4 x y z u/\q4 x y z u/\r4 x y z u/\s4 x y z u/\a4 x y z u:=⟨x,y,z,u,h,i,j,k,l⟩
theorem wwi8(x:t)(y:t1)(z:t2)(h:p3 x y z)(i:q3 x y z)(j:r3 x y z)(k:s3 x y z)(l:a3 x y z):∃x y z,p3 x y z/\q3 x y z/\r3 x y z/\s3 x y z/\a3 x y z:=⟨x,y,z,h,i,j,k,l⟩
theorem Wv{p q:t->t1->t2->t3->t4->t5->t6->Prop}(k:∀a b c d e f g,p a b c d e f g->q a b c d e f g->G):(∃a b c d e f g,p a b c d e f g/\q a b c d e f g)->G:=λh=>h.elim λa i=>i.elim λb i=>i.elim λc i=>i.elim λd i=>i.elim λe i=>i.elim λf i=>i.elim λg i=>k a b c d e f g i.1 i.2
theorem Ww(k:∀a b c d e,p5 a b c d e->q5 a b c d e->r5 a b c d e->s5 a b c d e->G):(∃a b c d e,p5 a b c d e/\q5 a b c d e/\r5 a b c d e/\s5 a b c d e)->G:=λh=>h.elim λa i=>i.elim λb i=>i.elim λc i=>i.elim λd i=>i.elim λe i=>k a b c d e i.1 i.2.1 i.2.2.1 i.2.2.2
theorem Wx(k:∀a b c d e,p5 a b c d e->q5 a b c d e->r5 a b c d e->G):(∃a b c d e,p5 a b c d e/\q5 a b c d e/\r5 a b c d e)->G:=λh=>h.elim λa i=>i.elim λb i=>i.elim λc i=>i.elim λd i=>i.elim λe i=>k a b c d e i.1 i.2.1 i.2.2
theorem Wy(k:∀x y z u,p4 x y z u->q4 x y z u->r4 x y z u->G):(∃x y z u,p4 x y z u/\q4 x y z u/\r4 x y z u)->G:=λh=>h.elim λx i=>i.elim λy i=>i.elim λz i=>i.elim λu i=>k x y z u i.1 i.2.1 i.2.2
theorem Wz(k:p0->∀x y z,p3 x y z->q3 x y z->G):(p0/\∃x y z,p3 x y z/\q3 x y z)->G:=λh=>h.2.elim λx i=>i.elim λy i=>i.elim λz i=>k h.1 x y z i.1 i.2
theorem wwi9{p q:t->t1->t2->t3->t4->t5->t6->Prop}(a:t)(b:t1)(c:t2)(d:t3)(e:t4)(f:t5)(g:t6)(h:p a b c d e f g)(i:q a b c d e f g):∃a b c d e f g,p a b c d e f g/\q a b c d e f g:=⟨a,b,c,d,e,f,g,h,i⟩
theorem Wa(k:∀x,p1 x->q1 x->G):(∃x,p1 x/\q1 x)->G:=λh=>h.elim λx i=>k x i.1 i.2
theorem Wb(k:∀x,p1 x->G):(∃x,p1 x)->G:=λh=>h.elim λx i=>k x i
theorem Wc(k:p0->q0->G):(p0/\q0)->G:=λh=>k h.1 h.2
theorem Wd(k:∀x y,p2 x y->q2 x y->r2 x y->G):(∃x y,p2 x y/\q2 x y/\r2 x y)->G:=λh=>h.elim λx i=>i.elim λy j=>k x y j.1 j.2.1 j.2.2
theorem We(k:∀x,p1 x->q1 x->r1 x->G):(∃x,p1 x/\q1 x/\r1 x)->G:=λh=>h.elim λx i=>k x i.1 i.2.1 i.2.2
theorem Wf(k:p0->q0->r0->G):(p0/\q0/\r0)->G:=λh=>k h.1 h.2.1 h.2.2
theorem Wg(k:∀x y,p2 x y->G):(∃x y,p2 x y)->G:=λh=>h.elim λx i=>i.elim λy j=>k x y j
theorem Wh(k:∀x y,p2 x y->q2 x y->G):(∃x y,p2 x y/\q2 x y)->G:=λh=>h.elim λx i=>i.elim λy j=>k x y j.1 j.2
theorem Wi(k:∀x y z,p3 x y z->G):(∃x y z,p3 x y z)->G:=λh=>h.elim λx i=>i.elim λy j=>j.elim λz k0=>k x y z k0
theorem Wj(k:∀x y,p2 x y->q2 x y->r2 x y->s2 x y->G):(∃x y,p2 x y/\q2 x y/\r2 x y/\s2 x y)->G:=λh=>h.elim λx i=>i.elim λy j=>k x y j.1 j.2.1 j.2.2.1 j.2.2.2
theorem Wl(k:∀x y z,p3 x y z->q3 x y z->G):(∃x y z,p3 x y z/\q3 x y z)->G:=λh=>h.elim λx i=>i.elim λy j=>j.elim λz k0=>k x y z k0.1 k0.2
theorem Wm(k:∀x y z,p3 x y z->q3 x y z->r3 x y z->s3 x y z->G):(∃x y z,p3 x y z/\q3 x y z/\r3 x y z/\s3 x y z)->G:=λh=>h.elim λx i=>i.elim λy j=>j.elim λz k0=>k x y z k0.1 k0.2.1 k0.2.2.1 k0.2.2.2
theorem Wn(k:p0->q0->r0->s0->a0->G):(p0/\q0/\r0/\s0/\a0)->G:=λh=>k h.1 h.2.1 h.2.2.1 h.2.2.2.1 h.2.2.2.2
theorem Wo(k:∀x y z u,p4 x y z u->q4 x y z u->r4 x y z u->s4 x y z u->a4 x y z u->b4 x y z u->G):(∃x y z u,p4 x y z u/\q4 x y z u/\r4 x y z u/\s4 x y z u/\a4 x y z u/\b4 x y z u)->G:=λh=>h.elim λx i=>i.elim λy j=>j.elim λz k0=>k0.elim λu l=>k x y z u l.1 l.2.1 l.2.2.1 l.2.2.2.1 l.2.2.2.2.1 l.2.2.2.2.2
theorem Wp(k:∀x y,p2 x y->q2 x y->r2 x y->s2 x y->a2 x y->G):(∃x y,p2 x y/\q2 x y/\r2 x y/\s2 x y/\a2 x y)->G:=λh=>h.elim λx i=>i.elim λy j=>k x y j.1 j.2.1 j.2.2.1 j.2.2.2.1 j.2.2.2.2
theorem Wq(k:p0->q0->r0->s0->G):(p0/\q0/\r0/\s0)->G:=λh=>k h.1 h.2.1 h.2.2.1 h.2.2.2
theorem Wr(k:∀x y z,p3 x y z->q3 x y z->r3 x y z->G):(∃x y z,p3 x y z/\q3 x y z/\r3 x y z)->G:=λh=>h.elim λx i=>i.elim λy j=>j.elim λz k0=>k x y z k0.1 k0.2.1 k0.2.2
theorem Ws(k:p0->q0->∀x,p1 x->q1 x->G):(p0/\q0/\∃x,p1 x/\q1 x)->G:=λh=>h.2.2.elim λx i=>k h.1 h.2.1 x i.1 i.2
theorem Wt(k:p0->q0->r0->s0->a0->b0->G):(p0/\q0/\r0/\s0/\a0/\b0)->G:=λh=>k h.1 h.2.1 h.2.2.1 h.2.2.2.1 h.2.2.2.2.1 h.2.2.2.2.2
theorem Wu(k:∀x y z,p3 x y z->q3 x y z->r3 x y z->s3 x y z->a3 x y z->b3 x y z->G):(∃x y z,p3 x y z/\q3 x y z/\r3 x y z/\s3 x y z/\a3 x y z/\b3 x y z)->G:=λh=>h.elim λx i=>i.elim λy j=>j.elim λz k0=>k x y z k0.1 k0.2.1 k0.2.2.1 k0.2.2.2.1 k0.2.2.2.2.1 k0.2.2.2.2.2
end
open Lean Parser.Tactic in
def zZ(f:Ident)(x:Array Syntax)(e:Term):MacroM (TSyntax `tactic):=do
 if f.getId.toString.length != 2||!f.getId.toString.startsWith "W" then Macro.throwUnsupported
 let mut a:Array Ident:=.empty
 let mut b:Array (TSyntax `tactic):=.empty
 for z in x do
  let z:=if z.getNumArgs=1 then z[0] else z
  if z.isIdent&&(z.getId != `rfl) then a:=a.push ⟨z⟩ else
   let y:=mkIdentFrom z (.mkSimple s!"y✝{a.size}")
   a:=a.push y
   if z.isIdent then b:=b.push (<-`(tactic|subst $y:ident))
 if e.raw.isIdent&&e.raw.getId.isAtomic then `(tactic|(revert $(⟨e.raw⟩):ident;refine $f fun $a*=>?_;$b;*)) else `(tactic|(refine $f (fun $a*=>?_) $e;$b;*))
local macro_rules|`(tactic|have $f:ident $x*:=$e)=>zZ f (x.map (·.raw)) e
local macro_rules|`(#[$n:num,$x,*])=>`($(Lean.mkIdent (.mkSimple s!"wwi{n.getNat}")) $x*)
open Lean Parser.Tactic in
def zP:Nat->Term->MacroM (TSyntax `rcasesPat)
 |0,_=>Macro.throwUnsupported
 |n+1,s=>do match s with
  |`($i:ident)=>`(rcasesPat|$i:ident)
  |`(_)=>`(rcasesPat|_)
  |`(#[$x,*])=>do
   let y:Array (TSyntax `Lean.Parser.Tactic.rcasesPatLo)<-x.getElems.mapM fun z=>do let p<-zP n z;`(rcasesPatLo|$p:rcasesPat)
   `(rcasesPat|⟨$y,*⟩)
  |_=>Macro.throwUnsupported
local macro_rules|`(tactic|have $p:term:=$e)=>do
  let m<-zP 9 p
  `(tactic|obtain $m:rcasesPat:=$e)
namespace Lake
theorem Y{α:Sort u}{a:α}:a=a:=.refl a
local macro_rules|`(())=>`(by first|rfl|trivial|decide|lia|simp)
def D1z(_:1=1:=by first|rfl|intro _;rfl):=0
def D2z(_:1=1:=by symm):=0
def D3z(_:1=1:=by first|show Zc Y|show Zd Y|assumption|(intro _ _ _ _ i;first|show yq i Y (Zc Y)|show vc Y Y (by repeat (first|show uA|show xX (yq i Y<|Zc Y) ?_)))|(intro _ _ h;repeat first|(have#[rfl,_]:=h;rfl)|have#[_,h]:=h)):=0
local macro_rules|`(~~~$t)=>`(autoParam $t D1z._auto_1)
local macro_rules|`(‹$t›)=>`(autoParam $t D2z._auto_1)
local macro_rules|`(@&$t)=>`(autoParam $t D3z._auto_1)
local macro_rules(kind:=Lean.Parser.Command.declaration)|s=>do
 let m<-`(noncomputable def a:=0)
 if s.getPos?.isNone then Lean.Macro.throwUnsupported
 return (if [``Lean.Parser.Command.definition,``Lean.Parser.Command.abbrev].contains s[1].getKind&&s[0].getPos?.isNone&&!s[1][3][1].isOfKind ``Lean.Parser.Term.byTactic then s.setArg 0 m.raw[0] else s).rewriteBottomUp (·.setInfo .none)
def Ur:=@if_pos
def Us:=@if_neg
def Ut:=@absurd
def Uu:=@congrArg
abbrev Uo(j:PySem.Expr)(l:List PySem.Expr)(e:PySem.Env):Prop:=A3 (j::l) e=(Za,PySem.eval j e)::A3 l e
abbrev Uq(p:PySem.Pos)(l:List PySem.Expr)(e:PySem.Env):Prop:=(Zx p<|A3 l e).any (·.1)=Za
abbrev To:=Bs->C1->Prop
abbrev Tt:=Zv->Option Bs
abbrev Tu:=List (Ch×Z7)
abbrev Tv:=List (A2×A2)
abbrev Tz:=List (Int×Int)
abbrev TB:=List (Zv×Ch)
abbrev TC:=List (Zv×Bs)
abbrev TH:=List (List A2)
abbrev TJ:=List (Option Nat)
abbrev TL:=List A2
abbrev TN:=List Int
abbrev TQ:=List Bs
abbrev TR:=List Zv
abbrev TU:=List Ch
abbrev TZ:=List Df
abbrev T1:=List Dc
abbrev T3:=List ZC
abbrev T4:=List Nat
abbrev T5:=List Bool
abbrev T7:=Option Int
abbrev T8:=Option Bs
abbrev Ua:=Option Ch
abbrev Ub:=Option Bool
abbrev Uc:=Array Bs
abbrev Ud:=Array Nat
abbrev Ue:=A2->Prop
abbrev Uh:=C1->Prop
abbrev Uj:=Ch->Prop
abbrev Ul:=C7->Prop
abbrev Um:=Bool->Prop
abbrev Yl(x:Zv):Prop:=(x == ("__debug__":Zv))=Za
abbrev Ym(x:Zv):Prop:=(x == ("__classdict__":Zv))=Za
def DL:=@PySem.wpAny_bind
def D6:=@PySem.Heap.get?_push_of_some
def DZ:=@List.length_map
def Gh:=@List.getElem?_eq_getElem
def DX:=@PySem.wpAny_pure
def Gm:=@List.getElem?_eq_some_iff
def Gf:=@Nat.lt_of_lt_of_le
def D4:=@Nat.le_refl
def D7:=@List.mem_cons
def GB:=@PySem.Heap.get?_push_size
def GI:=@Nat.le_of_ble_eq_true
def GH:=@List.mem_cons_of_mem
def Gd:=@PySem.Heap.lt_size
def Gv:=@List.not_mem_nil
def GD:=@List.getElem?_map
def Gg:=@Nat.le_trans
def GJ:=@List.length_append
def G4:=@PySem.Heap.get?_update_other
def GN:=@List.mem_cons_self
def GS:=@List.size_toArray
def Gp:=@Nat.ne_of_lt
def Gu:=@Nat.le_of_eq
def GV:=@List.mem_singleton
def Gj:=@Nat.zero_le
def GU:=@Nat.le_add_right
def Hj:=@Option.map_eq_some_iff
def G3:=@List.length_cons
def Ha:=@Nat.lt_of_le_of_lt
def Hq:=@Bool.false_ne_true
def GW:=@List.map_cons
def HW:=@List.getD_eq_getElem?_getD
def G9:=@List.append_nil
def Hb:=@Option.some.inj
def HZ:=@List.getElem?_append_right
def HF:=@List.mem_of_getElem?
def Hd:=@decide_eq_false
def Gw:=@or_false
def Hs:=@List.lookup_cons
def HJ:=@PySem.W.mg_none_of
def He:=@PySem.W.mg_of
def Iv:=@List.getElem?_append_left
def Gx:=@Ne.symm
def Ht:=@List.length_set
def HG:=@Bool.and_eq_true
def Hv:=@PySem.wpAny_ite_split
def Hw:=@decide_eq_true
def Hf:=@PySem.sizeLine_eq
def Ih:=@Nat.add_lt_add_left
def Iw:=@List.getElem?_set_ne
def Hx:=@PySem.wpAny_holding
def IJ:=@PySem.Heap.get?_update_self
def Hk:=@PySem.wpAny_mono
def Hy:=@Nat.le_of_lt
def JA:=@PyProof.Rows.callWith_type1
def Ii:=@Nat.lt_succ_self
def H9:=@List.mem_append
def Ia:=@List.map_append
def IL:=@Bool.false_eq_true
def HI:=@Nat.le_succ
def Ib:=@Nat.lt_irrefl
def HX:=@Nat.lt_or_ge
def JB:=@List.mem_append_right
def Jp:=@List.length_reverse
def Jb:=@List.length_take
def JV:=@PySem.F.plainAttrs_list
def JC:=@PySem.Around.under_plainId
def IM:=@PySem.Heap.size_push
def IP:=@PySem.wpAny_seqItems
def Jf:=@List.getElem_mem
def Ij:=@List.map_map
def Ik:=@List.mem_map
def JD:=@PySem.mem_of_lookup
def J6:=@List.getElem?_replicate
def IQ:=@PySem.strLen_append
def Jg:=@PySem.W.kia_one
def JE:=@PySem.wpAny_Call_Name_kw
def Jh:=@List.find?_cons
def JF:=@PySem.wpAny_setField_rec
def J7:=@List.getElem?_set_self
def Jq:=@List.take_length
def Jr:=@PySem.wpAny_call_entry
def JW:=@beq_eq_false_iff_ne
def JG:=@Nat.lt_succ_of_lt
def JH:=@PySem.wpAny_newObj_type
def JI:=@decide_eq_true_eq
def JJ:=@List.take_add_one
def IS:=@Nat.sub_self
def Js:=@PySem.wpAny_updateSeq
def Iy:=@PySem.wpAny_field
def Jt:=@PySem.codeAny_builtin
def JX:=@PySem.W.callWith_K
def Kn:=@Nat.lt_add_of_pos_right
def Ko:=@PySem.wpAny_callSpecial?_slot
def JK:=@Nat.le_of_not_lt
def JL:=@List.all_eq_true
def J8:=@List.mem_of_mem_take
def Ji:=@PySem.plainId_quiet
def KN:=@Array.getElem?_eq_some_iff
def KP:=@PySem.F.excBase_ValueError
def Kp:=@PySem.F.plain_min_loop
def JY:=@Int.toNat_natCast
def JZ:=@PySem.wpAny_loadPart_at
def Iz:=@beq_iff_eq
def IA:=@PySem.wpAny_call
def KQ:=@List.drop_eq_getElem_cons
def JM:=@Nat.le_antisymm
def KR:=@PySem.F.plain_extend_loop
def KS:=@Array.getElem?_eq_getElem
def Kq:=@List.length_replicate
def Kr:=@PySem.F.slot_zip_next
def Ks:=@List.getElem?_eq_none
def Jj:=@Nat.ne_of_gt
def Jk:=@PySem.codeAny_mono
def Kt:=@List.mem_append_left
def J9:=@PySem.wpAny_truthy_bool
def Ic:=@if_false
def Ka:=@Nat.le_of_lt_succ
def Ku:=@Array.length_toList
def KU:=@PySem.wpAny_nextOf_list_item
def JN:=@PySem.wpAny_attempt
def Kb:=@List.length_drop
def KW:=@PySem.W.methodCall_KW
def KY:=@PySem.builtinLookup_eq_fast
def Kc:=@List.nil_append
def Kd:=@PyProof.Rows.get?_update_seq
def KZ:=@Bool.and_eq_true_iff
def Kv:=@PySem.wpAny_pyIter_list
def Kw:=@PySem.wpAny_setState_of
def K0:=@List.filterMap_cons
def K1:=@PySem.Heap.SameBut.update
def Il:=@if_true
def Kx:=@PySem.wpAny_askSetting
def JO:=@PySem.wpAny_letGo
def JP:=@PySem.wpAny_of_eq
def K2:=@PySem.Obj.data_mapFields
def Ky:=@PySem.wpAny_passesOwn
def KA:=@Bool.or_eq_true
def KC:=@List.length_nil
def Lr:=@PySem.Obj.isFreed_of_fields
def Ls:=@List.set_append_right
def K3:=@List.reverse_cons
def Lu:=@PySem.codeAny_call_builtin
def K4:=@List.drop_length
def K5:=@List.cons_append
def K6:=@Option.bind_some
def Ke:=@PySem.F.called_set
def Lv:=@PySem.wpAny_setEntries_of
def Mi:=@PySem.F.slot_list_index
def KD:=@List.any_cons
def Lw:=@PySem.Calls.spliced_cons
def K7:=@List.nodup_cons
def K8:=@PySem.wpAny_specialOf
def K9:=@PySem.typeLookup_type
def Lx:=@PySem.tupleKind_room_in1
def Ly:=@PySem.Code.quiet_builtin
def Mj:=@PySem.Calls.callWith_builtin
def Lz:=@List.append_assoc
def LA:=@of_decide_eq_true
def KG:=@Nat.lt_trans
def La:=@Bool.false_and
def Ml:=@List.length_singleton
def Mm:=@List.getElem?_toArray
def Mn:=@List.mem_iff_getElem?
def Mo:=@List.concat_eq_append
def Mp:=@PySem.Heap.get?_none_of_le
def Mq:=@Classical.not_forall
def LB:=@List.filter_cons
def Kf:=@PySem.wpAny_rule
def LC:=@PySem.wpAny_isInstance
def Lb:=@PySem.wpAny_standAt
def Lc:=@Bool.or_false
def Mr:=@List.take_succ_cons
def Ms:=@List.getElem_of_mem
def LD:=@PySem.wpAny_execs_nil
def LF:=@List.forIn_cons
def Ng:=@Classical.byContradiction
def LG:=@Array.Perm.refl
def LH:=@PySem.PassesOwn.never
def Nh:=@List.mem_of_find?_eq_some
def Mt:=@Int.natCast_nonneg
def Ld:=@List.map_nil
def Le:=@Nat.succ_pos
def Mu:=@Int.emod_lt_of_pos
def Mv:=@List.find?_eq_none
def LI:=@List.mem_range
def LJ:=@PyProof.Rows.joinParts_cons
def LK:=@PySem.SeqAt.eqv_refl
def Ni:=@Int.eq_ofNat_of_zero_le
def Nj:=@decide_eq_false_iff_not
def Nk:=@PySem.F.args_zip_next_1
def Nl:=@List.length_eq_zero_iff
def Mw:=@Classical.not_not
def Mx:=@List.foldl_append
def My:=@PySem.fits_of_scanBound
def Nm:=@List.take_of_length_le
def Nn:=@PySem.F.entry_zip_next
def Np:=@PySem.F.entry_min_loop
def LL:=@Bool.true_and
def Nq:=@List.getElem?_reverse
def Nr:=@PySem.F.slot_dict_get
def Nt:=@List.length_filter_le
def Nu:=@List.eq_nil_or_concat
def Mz:=@List.mem_filter
def MA:=@Bool.eq_iff_iff
def OY:=@PySem.wpAny_loadPart'
def Lf:=@Int.not_le
def Lg:=@PySem.call_meets
def LM:=@Nat.zero_add
def LN:=@PySem.wpAny_typeOf
def MB:=@Nat.min_eq_left
def MC:=@PySem.codeAny_of_tree
def Nv:=@List.replicate_succ'
def Nw:=@List.mem_of_mem_drop
def ME:=@Int.emod_nonneg
def Nx:=@PySem.W.plainGet_of
def Ny:=@List.map_congr_left
def MF:=@Nat.add_le_add
def MG:=@List.forIn_nil
def Nz:=@List.forIn_toArray
def MH:=@List.all_cons
def MI:=@Bool.false_or
variable {l N i5 j9 t7:Nat}
theorem MJ (h:l<N):N-(l+1)<N-l:=by lia
theorem OZ (h:0=l-N)(i:N<=l):N=l:=by lia
def O1 (h:l+1=N-i5):i5<N:=by omega
def MK (h:l+N=i5-j9):l=i5-(j9+N):=by omega
def O2 (h:(l:Int)<(N:Int)):l<N:=by omega
theorem ym9 :min l N+(N-l+i5)=N+i5:=by lia
def ym2 (h:l+64<N):l+1<N:=(KG (Ih () l) h)
theorem yo7 (h:l<=1000):((min N l:Nat):Int)<=1000:=by lia
def fh (h:l<64):l<=16777216:=(Hy<|KG h (by decide:(64:Nat)<(16777216:Nat)))
variable {L gi Ai Bc:Int}
theorem yp8 :L+gi=gi+L:=by lia
theorem yq0 (h:L<=gi)(i:Ai<=Bc):L+Ai<=Bc+gi:=by lia
theorem yo6 (h:(l:Int)=(N:Int)):l=N:=by lia
theorem yp3 (h:l<=N+i5)(i:N<=j9+t7):l<=j9+(i5+t7):=by lia
theorem yl1 (h:l<=N)(i:i5<=N):max l i5<=N:=by lia
def O3 (h:l<=7):l+1<=8:=(Ha h (by decide:(7:Nat)<(8:Nat)))
theorem O4 (h:l+N<=i5)(i:j9<=t7+N)(j:t7<=l):j9<=i5:=by lia
theorem ya9 (h:l+1+1<2):False:=by lia
def O5 (h:2<=l)(i:l=N):0<N:=(Gf (by decide:(0:Nat)<(2:Nat))<|Gg h<|Gu i)
theorem ba (h:l+(N+i5)<=j9):l+i5+N<=j9:=by lia
theorem O6 (h:l<N+1)(i:¬l=N):l<N:=by lia
theorem yj5 :l+(N+i5)=l+i5+N:=by lia
def yk2 (h:L<=gi):L+(((gi-L).toNat:Nat):Int)=gi:=by omega
theorem O7 (h:l+max N i5<j9):l+i5<j9:=by lia
theorem yb5 (h:l+N+i5=j9+N+t7):l+i5=j9+t7:=by lia
theorem yc2 (h:l+N=l+i5):¬i5<N:=by lia
theorem yi9 (h:0+l=N+1+i5):i5<l:=by lia
theorem yg0 (h:l+N=0+i5):¬i5<N:=by lia
theorem yf9 (h:l=N)(i:i5=j9):N+i5=j9+l:=by lia
def O8 (h:l-N=0)(i:N<=l):N=l:=by omega
def O9 (h:l-N=i5+1):N<l:=by omega
def NA (h:l-N=i5+j9):l-(N+j9)=i5:=by omega
theorem qX (h:l<N):N-1<N:=by lia
theorem yb8 (h:l<=N):(l:Int)-(N:Int)<=0:=by lia
theorem ye9 (h:l=16777216)(i:N<=l):¬(N:Int)≥2^63:=by lia
def yc6 (h:l=16777216)(i:N<=l):N<=1099511627776:=(Hy<|Ha i<|Ha (Gu h) (by decide:(16777216:Nat)<(1099511627776:Nat)))
theorem NB (h:l=16777216)(i:N=i5)(j:N<=l):(i5:Int)<2^63:=by lia
theorem Pa (h:l+3*(N+i5)+j9<t7):l+i5+3*N+j9<t7:=by lia
theorem Pb (h:l+16*(N+i5)+200<j9):l+i5+16*N+200<j9:=by lia
theorem yj9 (h:l=N)(i:N<=i5):l+(i5-l)=i5:=by lia
theorem NC (h:l<2^63)(i:L<(N:Int))(j:N<=l):L<2^63:=by lia
theorem ND (h:(-(l:Int))<=L)(i:l<=N)(j:N<2^63):(-(2^63))<=L:=by lia
theorem Pc (h:L<0):max 0 (min (L+gi) gi)=(((L+gi).toNat:Nat):Int):=by lia
theorem Pe :max 0 (min L (l:Int))=((min L.toNat l:Nat):Int):=by lia
theorem Pf (h:l<2^63)(i:N=i5)(j:N<=l):(i5:Int)<2^63:=by lia
theorem Pg (h:l+N<=i5)(i:l=j9)(j:N=t7):j9+t7<=i5:=by lia
theorem Pj (h:l<=N)(i:¬l=N):l<=N-1:=by lia
theorem Pk (h:l<1)(i:N<=l):N=0:=by lia
theorem Pl (h:l<1):l=0:=by lia
theorem dw (h:l<=N+i5+j9):l<=N+(j9+i5):=by lia
def Pm (h:l<N):N<=N-i5+N-1-l+i5:=by omega
def Pn (h:l<N)(i:i5<=l):i5+N-1-l<N:=by omega
theorem Po (h:l-N<=i5):l<=i5+N:=by lia
theorem Pp :¬(l<=N/\N<N):=by lia
def nC (h:l+1<=N+(0+1))(i:N<l+1):N=l:=by omega
theorem Pq (h:l+N<=i5+(j9+N)):l<=i5+j9:=by lia
def Pt :l<=l-N+(i5+N):=by omega
def Pu (h:l<N):0+N-1-i5<N:=by omega
def NF (h:l<=N+(i5-N))(i:N<=i5):l<=i5:=by omega
def Pw (h:l<N):l<=N-1:=by omega
theorem Px (h:l>1):l-1<l:=by lia
theorem bz (h:l<N)(i:N<=i5)(j:j9<=1+(N-1)):j9<=i5:=by lia
theorem Py (h:l<N+1)(i:i5<l):l-1<N:=by lia
def Pz (h:l<=1000):l<=16777216:=(Hy<|Ha h (by decide:(1000:Nat)<(16777216:Nat)))
def PB (h:l=N)(i:l<=100):N<=16777216:=(Hy<|Ha (Gu h.symm)<|Ha i (by decide:(100:Nat)<(16777216:Nat)))
def NG :l<l+5\/l+5<l:=(.inl<|Kn<|by decide)
def PC :l+4<l\/l<l+4:=(.inr<|Kn<|by decide)
def NH :l+4<l+5\/l+5<l+4:=(.inl<|Ih () l)
def NI :l+1<l+5\/l+5<l+1:=(.inl<|Ih () l)
def NJ :l+1<l+4\/l+4<l+1:=(.inl<|Ih () l)
def PD :l+4<l+1\/l+1<l+4:=(.inr<|Ih () l)
def NK :l+2<l+5\/l+5<l+2:=(.inl<|Ih () l)
def PF :l+2<l\/l<l+2:=(.inr<|Kn<|by decide)
def NL :l+2<l+4\/l+4<l+2:=(.inl<|Ih () l)
def PH :l+2<l+1\/l+1<l+2:=(.inr<|Ih () l)
def PJ :l+4<l+2\/l+2<l+4:=(.inr<|Ih () l)
def NM :l+5<l+4\/l+4<l+5:=(.inr<|Ih () l)
def PK :l+5<l+2\/l+2<l+5:=(.inr<|Ih () l)
def PM :l+5<l+1\/l+1<l+5:=(.inr<|Ih () l)
def PN :l+5<l\/l<l+5:=(.inr<|Kn<|by decide)
def NO :l<l+4\/l+4<l:=(.inl<|Kn<|by decide)
def PQ :l<l+2\/l+2<l:=(.inl<|Kn<|by decide)
def PR :l+1<l+2\/l+2<l+1:=(.inl<|Ih () l)
def NP :l+3<l+5\/l+5<l+3:=(.inl<|Ih () l)
def PV :l+3<l\/l<l+3:=(.inr<|Kn<|by decide)
def PY :l+3<l+1\/l+1<l+3:=(.inr<|Ih () l)
def PZ :l+3<l+2\/l+2<l+3:=(.inr<|Ih () l)
theorem P0 (h:(-(2^62))<=L):(-(2^63))<=L:=by lia
theorem P1 (h:L<2^62):L<2^63:=by lia
set_option maxRecDepth 100000
namespace L2
open PySem PySem.Spec PyProof.Rows
abbrev D8 :=Sum Int Zv
def nE :D8->Bs->Bool
 |.inl k,v=>DK k v
 |.inr x,v=>hX x v
def yn7 (w:C6):D8->Int
 |.inl k=>hashInt k
 |.inr x=>hashStr w x
theorem yi :∀{k:D8}{v:Bs},nE k v=I->(∃i t,k=Sum.inl i/\v=iS i t)\/(∃x t,k=Sum.inr x/\v=CH x t)
 |.inl i,v,h=>by have Wb t e:=Dr h;show .inl #[i,t,Y,e]
 |.inr x,v,h=>by have Wb t e:=Value.isStrOf_shape h;show .inr #[x,t,Y,e]
def zb5 (i:Int)(t:Tok):nE (.inl i) (.int i t)=I:=by simp[nE,DK]
def bR (x:Zv)(t:Tok):nE (.inr x) (.str x t)=I:=by simp[nE,hX]
def z33 (a b:Int):decide ((Sum.inl a:D8)=Sum.inl b)=(a == b):=by by_cases e:a=b;subst e;simp;have h:¬(Sum.inl a:D8)=Sum.inl b:=λq=>e<|Sum.inl.inj q;rw[Hd h];show(JW.mpr e).symm
def z04 (a b:Zv):decide ((Sum.inr a:D8)=Sum.inr b)=decide (a=b):=by by_cases e:a=b;subst e;simp;have h:¬(Sum.inr a:D8)=Sum.inr b:=λq=>e<|Sum.inr.inj q;rw[Hd h,Hd e]
def z71 (a:Int)(b:Zv):decide ((Sum.inl a:D8)=Sum.inr b)=Za:=Hd λq=>nomatch q
def z38 (a:Zv)(b:Int):decide ((Sum.inr a:D8)=Sum.inl b)=Za:=Hd λq=>nomatch q
def ye (c:C5)(w:C6):PySem.KeyKind c w D8 where
 is:=nE
 hash:=yn7 w
 inj:=λv a b g f=>by
  rcases yi g with⟨i,t,rfl,rfl⟩|⟨x,t,rfl,rfl⟩;rcases yi f with⟨j,u,rfl,e⟩|⟨y,u,rfl,e⟩;injection e with e1 _;rw[e1]
  show nomatch e;rcases yi f with⟨j,u,rfl,e⟩|⟨y,u,rfl,e⟩;show nomatch e
  injection e with e1 _;rw[e1]
 byValue:=λk v h=>by rcases yi h with⟨i,t,rfl,rfl⟩|⟨x,t,rfl,rfl⟩<;>rfl
 pyHash:=λd h=>by
  rcases yi d with⟨i,t,rfl,rfl⟩|⟨x,t,rfl,rfl⟩;show wpAny_pyHash_int h
  show wpAny_pyHash_str h
 eqBool:=λl d h=>by
  rcases yi l with⟨i,t,rfl,rfl⟩|⟨x,t,rfl,rfl⟩;rcases yi d with⟨j,u,rfl,rfl⟩|⟨y,u,rfl,rfl⟩;rw[z33]at h;show wpAny_eqBool_int h
  rw[z71]at h;show SeqAt.EqAt.int_str i t y u _ _ _ _ h;rcases yi d with⟨j,u,rfl,rfl⟩|⟨y,u,rfl,rfl⟩;rw[z38]at h;show SeqAt.EqAt.str_int x t j u _ _ _ _ h
  rw[z04]at h;show wpAny_eqBool_str h
 «strs»:=λk x t v h=>by
  rcases yi h with⟨i,u,rfl,e⟩|⟨y,u,rfl,e⟩;show nomatch e
  injection e with e1 _;subst e1;cases v<;>rfl
def kI (a:C5)(w:C6)(i:Int)(t:Tok):(ye a w).is (.inl i) (.int i t)=I:=zb5 i t
def kX (a:C5)(w:C6)(x:Zv)(t:Tok):(ye a w).is (.inr x) (.str x t)=I:=bR x t
inductive V where
 |non|bl (b:Bool)|int (i:Int)|str (x:Zv)|byt (b:Array UInt8)|flt (b:UInt64)|ref (a:Ch)|ty (n:String)
 deriving DecidableEq
abbrev Tw:=List (Zv×V)
abbrev Tx:=List (D8×V)
abbrev TM:=List V
abbrev T6:=Option V
def DT :V->Bs->Prop
 |.non,u=>u=eH
 |.bl b,u=>u=BE b
 |.int i,u=>∃t,u=iS i t
 |.str x,u=>∃t,u=CH x t
 |.byt b,u=>∃t,u=Value.bytes b t
 |.flt b,u=>∃t,u=Value.float b t
 |.ref a,u=>u=Zf a
 |.ty n,u=>u=eI n
abbrev DS :TM->TQ->Prop:=Paired DT
theorem DS.length {xs:TM}{us:TQ}(r:DS xs us):xs.length=us.length:=Paired.length r
theorem DS.get :∀{xs:TM}{us:TQ}{i:Nat}{x:V},DS xs us->xs[i]?=J x->∃u,us[i]?=J u/\DT x u
 |_,_,_,_,.nil,e=>by simp at e
 |_,_,0,_,.cons r _,e=>by simp at e;subst e;show#[_,Y,r]
 |_,_,i+1,x,.cons _ t,e=>by have Wa u b a:=DS.get t (by simpa using e);show#[u,by simpa using b,a]
theorem DS.set {x:V}{u:Bs}(r:DT x u):∀{xs:TM}{us:TQ} (i:Nat),DS xs us->DS (xs.set i x) (us.set i u)
 |_,_,_,.nil=>.nil
 |_,_,0,.cons _ t=>.cons r t
 |_,_,i+1,.cons q t=>.cons q<|DS.set r i t
variable {dU u0:TM}{g7 w8:TQ}
def DS.append(h:DS dU g7)(s:DS u0 w8):DS (dU++u0) (g7++w8):=by
 induction h with|nil=>show s|cons r _ a=>show .cons r a
theorem DS.take :∀{xs:TM}{us:TQ} (n:Nat),DS xs us->DS (xs.take n) (us.take n)
 |_,_,0,_=>.nil
 |_,_,_+1,.nil=>.nil
 |_,_,n+1,.cons r t=>.cons r<|DS.take n t
theorem DS.drop :∀{xs:TM}{us:TQ} (n:Nat),DS xs us->DS (xs.drop n) (us.drop n)
 |_,_,0,r=>r
 |_,_,_+1,.nil=>.nil
 |_,_,n+1,.cons _ t=>DS.drop n t
def vG :T6->T8->Prop
 |some v,some u=>DT v u
 |none,none=>True
 |_,_=>False
variable {u3 EO:Type}
def KV:List (u3×V)->List (u3×Bs)->Prop:=Paired λ(p:u3×V) (q:u3×Bs)=>p.1=q.1/\DT p.2 q.2
def kV :D8->V
 |.inl i=>.int i
 |.inr x=>.str x
inductive HO where
  |lst (xs:TM)
  |tup (xs:TM)
  |dK (kvs:Tx)|dT (kvs:List (List D8×V))
  |set (S:Int->Bool) (n:Nat)
  |ins (C dx:Ch) (fs:Tw)
  |own (x:Ch)
  |xd (fs:Tw)
  |met (f x:Ch)
  |rng (lo hi:Int)
  |frz (o:Z7) (u:HO)
  |tbl (ps:Uc)
  |ext (φ:Ul)
abbrev Hp :=Ch->Option HO
abbrev Ts:=Bool->Hp->Prop
abbrev Ui:=Hp->Prop
def upd (H:Hp)(a:Ch)(o:HO):Hp:=λb=>if b=a then J o else H b
variable {i x R oa:Ch}{j4 Er:HO}{m d7:Hp}
def zi:upd m i j4 i=J j4:=by unfold upd;rw[Ur Y]
def zg(h:x≠i):upd m i j4 x=m x:=by unfold upd;rw[Us h]
def uq:upd (upd m i j4) i Er=upd m i Er:=by funext b;unfold upd;split<;>rfl
def yb9(h:m i=J j4)(a:m x=J Er)(d:j4≠Er):i≠x:=by intro e;subst e;rw[h]at a;show d<|Hb a
def zk(h:m i=J j4)(a:m x=D):i≠x:=by intro e;subst e;rw[h]at a;cases a
section
variable (ZX:C5)(ZP:C6)
def yy (H:Hp)(h:C7)(a:Ch):HO->Prop
 |.lst xs=>xs.length<=Zw/\∃(b:TQ) (n:Nat),DS xs b/\h.get? a=J {cls:=.type "list",data:=.seq b.toArray n}
 |.tup xs=>xs.length<=Zw/\∃b:TQ,DS xs b/\IsTup h a b.toArray
 |.dK kvs=>kvs.length<=Zw/\(a == Ya)=Za/\∃d,KV kvs d/\h.DictOf (ye ZX ZP) a d
 |.dT kvs=>kvs.length<=Zw/\(a == Ya)=Za/\∃xs:List (List D8×Ch×Bs),
   Paired (λ(p:List D8×V) (q:List D8×Ch×Bs)=>p.1=q.1/\H q.2.1=J (.tup<|p.1.map kV)/\DT p.2 q.2.2) kvs xs/\
   ∃o i j,h.get? a=J o/\o.ExactDict/\o.data=.dict i j/\i.toList=xs.map (entryOfKey<|tupleKind<|ye ZX ZP)/\(xs.map (·.1)).Nodup
 |.set S n=>h.SetOf (intKind ZX ZP) a S n
 |.ins C dx fs=>H dx=J (.own a)/\fs.length<=1000/\dx≠a/\h.get? a=J (Zp C dx)/\
   ∃c,h.Ns1 dx c/\(∀f,vG (fs.lookup f) (c f))/\PySem.Within c (fs.map (·.1))
 |.own _=>∃o,h.get? a=J o
 |.xd fs=>∃c,h.Ns1 a c/\∀f,vG (fs.lookup f) (c f)
 |.rng lo hi=>∃t u v,h.get? a=J {cls:=.type "range",data:=.fields [.int lo t,.int hi u,.int 1 v].toArray}
 |.frz o u=>h.get? a=J o/\yy H h a u
 |.tbl ps=>h.get? a=J {cls:=.none,data:=.fields ps}
 |.met f x=>h.get? a=J (PySem.W.methodObj (.ref f)<|.ref x)
 |.ext φ=>φ h/\(∃o,h.get? a=J o)/\∀g e:C7,φ g->(∀o,g.get? a=J o->e.get? a=J o)->φ e
def GZ (H:Hp)(h:C7):Prop:=∀a o,H a=J o->yy ZX ZP H h a o
end
variable {E:C5}{s:C6}{v Au:C7}
theorem yy.lt (x:yy E s m v i j4):i<v.objs.size:=by
 cases j4 with|lst xs=>have Wc _ a:=x;have Wh _ _ _ e:=a;show Gd e|tup xs=>have Wc _ c:=x;have Wa _ _ p:=c;show p.lt|dK kvs=>have Ws _ _ _ _ g:=x;have Wl j4 _ _ e _:=g;show Gd e|dT kvs=>have Ws _ _ _ _ h:=x;have Wl j4 _ _ e _:=h;show Gd e|set S n=>have Wg j4 _ d:=x;have Wh _ _ e _:=d;show Gd e|ins C dx fs=>have Wn _ _ _ e _:=x;show Gd e|own y=>have Wb _ e:=x;show Gd e|xd fs=>have Wa _ j _:=x;have#[_,_,_,e,_]:=j;show Gd e|rng lo hi=>have Wi _ _ _ e:=x;show Gd e|frz ob u=>have Wc e _:=x;show Gd e|tbl ps=>show Gd (x)|met f y=>show Gd (x)|ext φ=>have Wf _ b _:=x;have#[_,e]:=b;show Gd e
def Paired.mapP{F G:u3->EO->Prop}{d:List u3}{c:List EO}(h:Paired F d c)(f:∀a b,F a b->G a b):Paired G d c:=by
 induction h with|nil=>show .nil|cons r _ e=>show .cons (f _ _ r) e
def yy.stay (x:yy E s m v i j4)(k:∀b u,(b=i\/m b=J (.own i))->v.get? b=J u->Au.get? b=J u)(W:∀b,m b=J (.own i)->d7 b=J (.own i)) (T:∀b xs,m b=J (.tup xs)->d7 b=J (.tup xs)):yy E s d7 Au i j4:=by
 induction j4 with|lst xs=>have Wc z N:=x;have Wh j n r e:=N;show#[z,j,n,r,k _ _ (.inl Y) e]|tup xs=>have Wc z M:=x;have Wa j r B:=M;have Wa a e c:=B;show#[z,j,r,#[a,k _ _ (.inl Y) e,c]]|dK kvs=>have Ws z y P r o:=x;have Wl a h g e c:=o;show#[z,y,#[P,r,#[a,h,g,k _ _ (.inl Y) e,c]]]|dT kvs=>have Ws z y xs r l:=x;have Wl a h g e c:=l;show#[z,y,#[xs,Paired.mapP r λp q z=>#[z.1,T _ _ z.2.1,z.2.2],#[a,h,g,k _ _ (.inl Y) e,c]]]|set S n=>have Wg a h A:=x;have Wh g t e c:=A;show#[a,h,#[g,t,k _ _ (.inl Y) e,c]]|ins C dx fs=>have Wf d z H:=x;have Ws U e K F r:=H;have#[L,h,g,V,c]:=F;show#[W _ d,z,U,#[k _ _ (.inl Y) e,K,#[L,h,g,k _ _ (.inr d) V,c],r]]|own y=>have Wb a e:=x;show#[a,k _ _ (.inl Y) e]|xd fs=>have Wa K G r:=x;have#[L,h,g,e,c]:=G;show#[K,#[L,h,g,k _ _ (.inl Y) e,c],r]|rng lo hi=>have Wi t u Q e:=x;show#[t,u,Q,k _ _ (.inl Y) e]|frz a u R=>have Wc e q:=x;show#[k _ _ (.inl Y) e,R q]|tbl ps=>show k i _ (.inl Y) x|met f y=>show k i _ (.inl Y) x|ext φ=>have Wf p w O:=x;have#[j4,e]:=w;show#[O _ _ p λj4 q=>k _ _ (.inl Y) q,#[j4,k _ _ (.inl Y) e],O]
theorem GZ.lt (x:GZ E s m v)(e:m i=J j4):i<v.objs.size:=(x i j4 e).lt
def GZ.fresh (x:GZ E s m v)(e:v.objs.size<=i):m i=D:=by
 cases q:m i with|none=>rfl|some u=>show Ut (Gf (x.lt q) e)<|Ib _
def GZ.kept (x:GZ E s m v)(k:∀b u,v.get? b=J u->Au.get? b=J u):GZ E s m Au:=λi j4 e=>(x i j4 e).stay (λb u _ q=>k b u q) (λ_ q=>q) λ_ _ q=>q
def GZ.laid{a:Ch}{o:HO} (x:GZ E s m v)(k:∀b u,v.get? b=J u->Au.get? b=J u)(i:v.objs.size<=a)(d:yy E s (upd m a o) Au a o):GZ E s (upd m a o) Au:=λb u e=>by have f:=x.fresh i;by_cases g:b=a;subst g;rw[zi]at e;cases e;show d;rw[zg g]at e;show(x b u e).stay (λc h _ q=>k c h q) (λc q=>by rw[zg (zk q f)];show q) λc xs q=>by rw[zg (zk q f)];show q
def Rd (H:Hp)(a:Ch)(u:HO):Prop:=H a=J u\/∃o,H a=J (.frz o u)
def Rd.ok(r:Rd m i j4)(x:GZ E s m v):yy E s m v i j4:=by
 rcases r with r|⟨o,r⟩;show x i j4 r
 have Wc _ q:=x i _ r;show q
def LO :Option HO->Prop
 |some (.lst _)=>True
 |some (.dK _)=>True
 |some (.dT _)=>True
 |some (.set _ _)=>True
 |some (.ins _ _ _)=>True
 |some (.ext _)=>True
 |_=>False
def GZ.write{h':C7}{x:Ch}{e:Ch} (A:GZ E s m v)(g:LO (m x))(t:e=x\/m e=J (.own x))(k:∀b u,b≠e->v.get? b=J u->h'.get? b=J u)(j:∃u,h'.get? e=J u)(l:yy E s (upd m x j4) h' x j4):GZ E s (upd m x j4) h':=λb u q=>by
 have d:∀c y,m c=J (.own y)->c≠x:=λc y r z=>by subst z;rw[r]at g;show g
 have f:∀c xs,m c=J (.tup xs)->c≠x:=λc xs r z=>by subst z;rw[r]at g;show g
 by_cases h:b=x;subst h;rw[zi]at q;cases q;show l;rw[zg h]at q;by_cases a:b=e;have p:m b=J (.own x):=by
  rcases t with z|z;show Ut (a.trans z) h
  rw[a];show z
 rw[q]at p;cases p;have Wb n w:=j;show#[n,by rw[a];show w];show(A b u q).stay (λc n i r=>k c n ?_ r) (λc r=>by rw[zg (d c b r)];show r) λc xs r=>by rw[zg (f c xs r)];show r
 rcases i with rfl|i;show a
 rintro rfl;rcases t with z|z;show d c b i z
 rw[i]at z;cases z;show h Y
structure Un (fs ex:TU)(H H':Hp)(h h':C7):Prop where
 keep:∀b o,h.get? b=J o->H b=D->b∉fs->b∉ex->h'.get? b=J o
 slot:∀b o,h.get? b=J o->H b=D->b∈fs->b∉ex->∃sl,h'.get? b=J {o with slots:=sl}
 free:∀b o,h.get? b=J o->H b=D->b∉ex->H' b=D
 there:∀b o,h.get? b=J o->b∉ex->∃o',h'.get? b=J o'
 tups:∀b xs,H b=J (.tup xs)->H' b=J (.tup xs)
 frzs:∀b o u,H b=J (.frz o u)->H' b=J (.frz o u)
 tbls:∀b ps,H b=J (.tbl ps)->∃more,H' b=J (.tbl<|ps++more)
variable {j7:Z7}{l8 Az:TU}
def Un.any (u:Un l8 Az m d7 v Au)(q:v.get? i=J j7)(n:m i=D)(a:i∉Az):∃c,Au.get? i=J {j7 with slots:=c}:=by by_cases b:i∈l8;show u.slot i j7 q n b a;show#[j7.slots,u.keep i j7 q n b a]
def Un.kept (k:∀b u,v.get? b=J u->Au.get? b=J u):Un l8 Az m m v Au:=
 #[λb a q _ _ _=>k b a q,λb a q _ _ _=>#[a.slots,k b a q],λ_ _ _ n _=>n,λb a q _=>#[a,k b a q],λ_ _ q=>q,λ_ _ _ q=>q,λ_ c q=>#[[].toArray,by rw[q];simp]]
def Un.refl :Un l8 Az m m v v:=Un.kept λ_ _ q=>q
def Un.laid{a:Ch}{o:HO} (k:∀b u,v.get? b=J u->Au.get? b=J u)(d:v.objs.size<=a)(c:m a=D):Un l8 Az m (upd m a o) v Au where
 keep:=λb u q _ _ _=>k b u q
 slot:=λb u q _ _ _=>#[u.slots,k b u q]
 free:=λb u q n _=>by rw[zg (Gp<|Gf (Gd q) d)];show n
 there:=λb u q _=>#[u,k b u q]
 tups:=λb xs q=>by rw[zg (zk q c)];show q
 frzs:=λb u xs q=>by rw[zg (zk q c)];show q
 tbls:=λb e q=>#[[].toArray,by rw[zg (zk q c),q];simp]
def Un.write{h':C7}{x:Ch}{e:Ch}{o:HO} (c:LO (m x))(i:e=x\/m e=J (.own x))(k:∀b u,b≠e->v.get? b=J u->h'.get? b=J u)(d:∃u,h'.get? e=J u):Un l8 Az m (upd m x o) v h':=by
 have h:∀b,m b=D->b≠x:=λb n z=>by subst z;rw[n]at c;show c
 have g:∀b,m b=D->b≠e:=λb n z=>by
  subst z;rcases i with r|r;show h b n r
  rw[n]at r;cases r
 have f:∀b u,m b=J u->¬LO (J u)->b≠x:=λb u q j z=>by subst z;rw[q]at c;show j c
 show#[λb u q n _ _=>k b u (g b n) q,λb u q n _ _=>#[u.slots,k b u (g b n) q],λb u q n _=>by rw[zg (h b n)];show n,λb u q _=>?_,
  λb xs q=>by rw[zg (f b _ q λz=>z)];show q,λb u xs q=>by rw[zg (f b _ q λz=>z)];show q,λb l q=>#[[].toArray,by rw[zg (f b _ q λz=>z),q];simp]]
 by_cases a:b=e;subst a;show d;show#[u,k b u a q]
def ML (h:C7)(H:Hp):TU:=(List.range h.objs.size).filter λa=>(H a).isSome
def oz (h:C7)(H:Hp):C7:=PySem.W.hideAll h<|ML h H
def zc2 (h:C7)(H:Hp):(oz h H).objs.size=h.objs.size:=PySem.W.hideAll_size _ _
def zC7(e:v.get? i=J j7)(n:m i=D):(oz v m).get? i=J j7:=
 PySem.W.hideAll_get _ e λa=>by have q:=(Mz.mp a).2;rw[n]at q;simp at q
def zI7(e:(oz v m).get? i=J j7):v.get? i=J j7/\m i=D:=by
 have a:=PySem.W.of_hideAll (ML v m) e;show#[a,?_];cases q:m i with|none=>rfl|some x=>have b:i∈ML v m:=Mz.mpr #[LI.mpr<|Gd a,by simp[q]];have z:(oz v m).get? i=D:=PySem.W.hideAll_none (ML v m) b;rw[z]at e;cases e
structure Mod (K:Cl)(mg:Tt)(base:C7):Prop where
 kin:K.In base
 glob:base.Ns C2 mg
 blt:∃mb,base.Ns builtinsNs mb/\∀x:Zv,x≠"__name__"->mb x=ZD x
 nolimit:base.NoLimit
structure Cx where
 prog:C5
 w:C6
 K:Cl
 mg:Tt
 base:C7
 A:Db
 N:TR
 s₀:C1
 H₀:Hp
 env:Df
 outer:TZ
 stack:TZ
 ex:TU
 fn:Zv->Bool
 calm:Bool
 pn:Tu
 xe:To
def Hc (l:TZ):TU:=l.filterMap (·.frame)
abbrev Cx.fs (X:Cx):TU:=Hc X.outer
def GO (a:De)(x:Zv):Prop:=a.names.lookup x=J .local\/a.names.lookup x=J .cell\/a.names.lookup x=J .free
def IT (a:De)(x:Zv):Prop:=a.names.lookup x=J .local\/a.names.lookup x=J .cell
def NQ (a:Df)(h:C7)(m:Tt)(x:Zv)(u:Bs):Prop:=
 (a.kindOf x=J .local/\m x=J u)\/((a.kindOf x=J .cell\/a.kindOf x=J .free)/\∃c,a.cells.lookup x=J c/\h.IsCell c (J u))
structure Cx.Ok (X:Cx):Prop where
 mod:Mod X.K X.mg X.base
 kind:X.env.scope.kind=.function
 glob:X.env.globals=C2
 blt:X.env.builtins=builtinsNs
 above:X.s₀.heap.objs.size<=X.env.locals
 inj:∀x y c,X.env.cells.lookup x=J c->X.env.cells.lookup y=J c->x=y
 has:∀x,(X.env.kindOf x=J .cell\/X.env.kindOf x=J .free)->∃c,X.env.cells.lookup x=J c
 cab:∀x c,X.fn x=I->X.env.cells.lookup x=J c->X.s₀.heap.objs.size<=c
 hd:X.calm=I->X.A.handled=D
 frames:X.A.frames=J X.stack
 stk:X.stack=X.outer\/(X.stack=X.env::X.outer/\X.env.frame=J X.env.locals)
 exf:∀b∈X.ex,b≠X.env.locals/\∀x c,X.env.cells.lookup x=J c->c≠b
 bs:∀b o,X.base.get? b=J o->X.s₀.heap.get? b=J o/\X.H₀ b=D
 bsz:X.base.objs.size<=X.s₀.heap.objs.size
 noex:∀b o,X.base.get? b=J o->b∉X.ex
 exfs:∀b∈X.ex,b∉X.fs
 funs:X.s₀.heap.FunFrames X.base X.outer
 frf:∀b∈X.fs,X.H₀ b=D
structure DM (X:Cx)(pins:Tu)(U:List (T6))(H:Hp)(s:C1):Prop where
 ok:X.Ok
 os:s.os=X.s₀.os
 bare:Yc s.gens
 base:Un X.fs X.ex X.H₀ H X.s₀.heap s.heap
 loc:∃m,s.heap.Ns X.env.locals m/\∀(i:Nat) (x:Zv) (v:V),X.N[i]?=J x->U[i]?=J (J v)->GO X.env.scope x->∃u,DT v u/\NQ X.env s.heap m x u
 cell:∀x c,X.env.cells.lookup x=J c->∃v,s.heap.IsCell c v
 free:H X.env.locals=D
 freeC:∀x c,X.env.cells.lookup x=J c->H c=D
 pin:∀p∈X.pn++pins,s.heap.get? p.1=J p.2/\H p.1=D/\p.1≠X.env.locals/\p.1∉X.fs/\∀v,p.2.data≠.cell v
 hok:GZ X.prog X.w H s.heap
 len:U.length=X.N.length
variable {f:Cx}
def Cx.Ok.nofr (b:f.Ok)(e:f.base.get? i=J j7):i∉f.fs:=λa=>by have:=(b.funs.mem a).1;rw[e]at this;cases this
variable {r A6:C1}{cC Eb:Tu}{u6:List (T6)}
theorem DM.bs (a:DM f cC u6 m r):∀b o,f.base.get? b=J o->r.heap.get? b=J o/\m b=D:=λb o e=>
 #[a.base.keep b o (a.ok.bs b o e).1 (a.ok.bs b o e).2 (a.ok.nofr e)<|a.ok.noex b o e,a.base.free b o (a.ok.bs b o e).1 (a.ok.bs b o e).2<|a.ok.noex b o e]
def DM.bk (a:DM f cC u6 m r):∀b o,f.base.get? b=J o->r.heap.get? b=J o:=λb o e=>(a.bs b o e).1
theorem DM.mod (a:DM f cC u6 m r):Mod f.K f.mg f.base:=a.ok.mod
def DM.kIn (a:DM f cC u6 m r):f.K.In r.heap:=a.ok.mod.kin.keeps a.bk
theorem DM.lt (I:DM f cC u6 m r):f.env.locals<r.heap.objs.size:=let⟨_,hn,_⟩:=I.loc;hn.lt
def DM.sz (a:DM f cC u6 m r):f.s₀.heap.objs.size<=r.heap.objs.size:=Gg a.ok.above<|Hy a.lt
def DM.nofs (b:DM f cC u6 m r)(h:r.heap.objs.size<=i):i∉f.fs:=λd=>by have Wc _ a:=b.ok.funs.mem d;have Wa o c _:=a;show Ut (Gf (Gd c)<|Gg b.sz h)<|Ib _
def DM.cne (h:DM f cC u6 m r):∀x c,f.env.cells.lookup x=J c->c≠f.env.locals:=λx c e z=>by have Wh v o i g:=h.cell x c e;have Wa l a _:=h.loc;have#[k,n,j,d,b,_]:=a;rw[z,d]at i;cases i;rw[b]at g;cases g
theorem DM.funs (c:DM f cC u6 m r):r.heap.FunFrames f.base f.outer:=by
 have g:∀l,(∀b∈Hc l,b∈f.fs)->f.s₀.heap.FunFrames f.base l->r.heap.FunFrames f.base l:=by
  intro l;induction l with|nil=>intro _ _;trivial|cons env u s=>intro i n;have Wf hk a p:=n;have#[L,o,hf,j,q,k]:=a;have h:=i L (by unfold Hc;rw[K0,hf];show GN);have Wb t e:=c.base.slot L o q (c.ok.frf L h) h λz=>c.ok.exfs L z h;show#[hk,#[1,L,_,hf,j,e,k],s (λb d=>i b<|by unfold Hc;rw[K0,hf];show GH _ d) p]
 show g f.outer (λ_ d=>d) c.ok.funs
theorem DM.stack (a:DM f cC u6 m r):r.heap.FunFrames f.base f.stack:=by
 rcases a.ok.stk with e|⟨e,hf⟩;rw[e];show a.funs
 rw[e];have Wa c b _:=a.loc;show .cons (by rw[a.ok.kind];decide) hf b ?_ a.funs;show Mp (Gg a.ok.bsz a.ok.above)
def DM.stkSub (c:DM f cC u6 m r):∀b∈Hc f.stack,b∈f.env.locals::f.fs:=λb a=>by
 rcases c.ok.stk with e|⟨e,hf⟩;rw[e]at a;show GH _ a
 rw[e]at a;unfold Hc at a;rw[K0,hf]at a;show a
def DM.stkFree (a:DM f cC u6 m r):∀b∈Hc f.stack,m b=D:=λb c=>by
 rcases D7.mp (a.stkSub b c)with e|c;rw[e];show a.free
 have Wc _ d:=a.ok.funs.mem c;have Wa o g _:=d;show a.base.free b o g (a.ok.frf b c) λz=>a.ok.exfs b z c
variable {x5:Array GenState}
def DM.step{t':Nat}{d':Drawn}{ch:TU}(a:DM f cC u6 m r)(s:∀b∈ch,(b∈f.ex\/f.s₀.heap.objs.size<=b)/\b≠f.env.locals/\(∀x c,f.env.cells.lookup x=J c->c≠b)/\∀p∈f.pn++cC,p.1≠b)(t:∀b o,b≠f.env.locals->b∉f.fs->b∉ch->r.heap.get? b=J o->m b=D->v.get? b=J o)(B:∀b o,b≠f.env.locals->b∈f.fs->b∉ch->r.heap.get? b=J o->m b=D->∃U,v.get? b=J {o with slots:=U}) (free:∀b o,b∉ch->r.heap.get? b=J o->m b=D->d7 b=D)(E:∀b o,b∉ch->r.heap.get? b=J o->∃L,v.get? b=J L)(N:∀b xs,m b=J (.tup xs)->d7 b=J (.tup xs)) (K:∀b o u,m b=J (.frz o u)->d7 b=J (.frz o u)) (P:∀b R,m b=J (.tbl R)->∃M,d7 b=J (.tbl<|R++M))(ns:∀F,r.heap.Ns f.env.locals F->v.Ns f.env.locals F) (V:GZ f.prog f.w d7 v) (hg:Yc x5):DM f cC u6 d7 {r with heap:=v,gens:=x5,drawn:=d',toks:=t'}:=by
 have Q:∀b o,f.s₀.heap.get? b=J o->b≠f.env.locals:=λb o e=>Gp<|Gf (Gd e) a.ok.above;have w:∀b o,f.s₀.heap.get? b=J o->b∉f.ex->b∉ch:=λb o e g C=>by
  rcases(s b C).1 with z|z;show g z
  show Ut (Gf (Gd e) z)<|Ib _
 have j:∀x c,f.env.cells.lookup x=J c->∀y,r.heap.IsCell c y->v.IsCell c y:=λx c e y S=>by have Wa o G T:=S;have h:c∉ch:=λz=>(s c z).2.2.1 x c e Y;by_cases Z:c∈f.fs;have Wb U q:=B c o (a.cne x c e) Z h G<|a.freeC x c e;show#[_,q,T];show#[o,t c o (a.cne x c e) Z h G<|a.freeC x c e,T]
 show#[a.ok,a.os,hg,#[λb o e n C g=>?_,λb o e n C g=>?_,λb o e n g=>?_,λb o e g=>?_,λb xs e=>N b xs<|a.base.tups b xs e,λb o xs e=>K b o xs<|a.base.frzs b o xs e,λb R e=>?_],?_,λx c e=>?_,?_,λx c e=>?_,λp hp=>?_,V,a.len];show t b o (Q b o e) C (w b o e g) (a.base.keep b o e n C g)<|a.base.free b o e n g;have Wb U A:=a.base.slot b o e n C g;have Wb W O:=B b _ (Q b o e) C (w b o e g) A<|a.base.free b o e n g;show#[W,O];have Wb L A:=a.base.there b o e g;show free b L (w b o e g) A<|a.base.free b o e n g;have Wb L A:=a.base.there b o e g;show E b L (w b o e g) A;have Wb m1 A:=a.base.tbls b R e;have Wb m2 O:=P b _ A;show#[m1++m2,by rw[O,Array.append_assoc]];have Wa F hn hl:=a.loc;show#[F,ns F hn,λi x y A O e3=>?_];have Wa u a0 l:=hl i x y A O e3;show#[u,a0,?_];rcases l with l|⟨k,c,e,z⟩;show .inl l
 show .inr #[k,c,e,j x c e _ z];have Wb y z:=a.cell x c e;show#[y,j x c e y z];have Wa F H _:=a.loc;have#[o,_,_,G,_]:=H;show free _ o (λz=>(s _ z).2.1 Y) G a.free;have Wh y o G T:=a.cell x c e;show free c o (λz=>(s c z).2.2.1 x c e Y) G<|a.freeC x c e;have Wn e n ne X d:=a.pin p hp;have h:p.1∉ch:=λz=>(s p.1 z).2.2.2 p hp Y;show#[t p.1 p.2 ne X h e n,free p.1 p.2 h e n,ne,X,d]
variable {l N:Nat}
def DM.un(d:DM f cC u6 m r)(u:Un f.fs [] m d7 r.heap v)(j:GZ f.prog f.w d7 v):DM f cC u6 d7 {r with heap:=v,toks:=l}:=by have Wa B c _:=id d.loc;have#[o,C,t,k,A]:=c;have Wb x s:=u.any k d.free ();show d.step (ch:=[]) (λ_ z=>nomatch z) (λb o _ h _ e n=>u.keep b o e n h<|by simp) (λb o _ h _ e n=>u.slot b o e n h<|by simp) (λb o _ e n=>u.free b o e n<|by simp) (λb o _ e=>u.there b o e<|by simp) u.tups u.frzs u.tbls (λw q=>by have Wl y i g a p:=q;rw[k]at a;cases a;show#[_,i,g,s,p]) j d.bare
variable {Aa:Drawn}
def DM.call(i:DM f cC u6 m r)(u:Un (Hc f.stack) l8 m d7 r.heap v)(q:GZ f.prog f.w d7 v)(hg:Yc x5)(d:∀b∈l8,(b∈f.ex\/f.s₀.heap.objs.size<=b)/\b≠f.env.locals/\(∀x c,f.env.cells.lookup x=J c->c≠b)/\∀p∈f.pn++cC,p.1≠b):DM f cC u6 d7 {r with heap:=v,gens:=x5,drawn:=Aa,toks:=l}:=by have Wa H h _:=id i.loc;have#[o,K,B,t,G]:=h;have Wb E s:=u.any t i.free λz=>(d _ z).2.1 Y;show i.step d (λb o s w a e n=>u.keep b o e n (λz=>(D7.mp<|i.stkSub b z).elim s w) a) (λb o _ _ a e n=>u.any e n a) (λb o a e n=>u.free b o e n a) (λb o a e=>u.there b o e a) u.tups u.frzs u.tbls (λC A=>by have Wl F k j g y:=A;rw[t]at g;cases g;show#[_,k,j,s,y]) q hg
def DM.turned(g:DM f cC u6 m r)(k:∀b o,b≠i->r.heap.get? b=J o->v.get? b=J o)(y:m i=D)(h:i≠f.env.locals)(A:i∈f.ex\/f.s₀.heap.objs.size<=i) (s:∀x c,f.env.cells.lookup x=J c->c≠i) (t:∀p∈f.pn++cC,p.1≠i):DM f cC u6 m {r with heap:=v,toks:=l}:=by
 have d:∀b u,m b=J u->b≠i:=λb u e z=>by rw[z,y]at e;cases e
 show g.step (ch:=[i]) (λb w=>?_) (λb o _ _ a e _=>k b o (λz=>a<|by simp[z]) e) (λb o _ _ a e _=>#[o.slots,k b o (λz=>a<|by simp[z]) e]) (λ_ _ _ _ n=>n)
  (λb o a e=>#[o,k b o (λz=>a<|by simp[z]) e]) (λ_ _ e=>e) (λ_ _ _ e=>e) (λb H e=>#[[].toArray,by rw[e];simp]) (λK B=>?_) (λb u e=>?_) g.bare
 have e:b=i:=by simpa using w
 subst e;show#[A,h,s,t];have Wl o G j F C:=B;show#[o,G,j,k _ o (Gx h) F,C];show(g.hok b u e).stay (λc E a q=>k c E ?_ q) (λ_ q=>q) λ_ _ q=>q;rcases a with z|z;rw[z];show d b u e
 show d c _ z
def DM.tok (a:DM f cC u6 m r)(t:Nat):DM f cC u6 m {r with toks:=t}:=a.un Un.refl a.hok
theorem DM.kept {t':Nat}(a:DM f cC u6 m r)(k:∀b u,r.heap.get? b=J u->v.get? b=J u):DM f cC u6 m {r with heap:=v,toks:=t'}:=a.un (Un.kept k)<|a.hok.kept k
theorem DM.laid {a:Ch}{o:HO}{t':Nat}(e:DM f cC u6 m r)(k:∀b u,r.heap.get? b=J u->v.get? b=J u)(c:r.heap.objs.size<=a)(d:yy f.prog f.w (upd m a o) v a o):DM f cC u6 (upd m a o) {r with heap:=v,toks:=t'}:=e.un (Un.laid k c<|e.hok.fresh c)<|e.hok.laid k c d
theorem DM.write{h':C7}{x e:Ch}{o:HO}{t':Nat}(g:DM f cC u6 m r)(d:LO (m x))(h:e=x\/m e=J (.own x))(k:∀b u,b≠e->r.heap.get? b=J u->h'.get? b=J u)(a:∃u,h'.get? e=J u)(c:yy f.prog f.w (upd m x o) h' x o):DM f cC u6 (upd m x o) {r with heap:=h',toks:=t'}:=g.un (Un.write d h k a)<|g.hok.write d h k a c
def DM.pins_of(a:DM f cC u6 m r)(h:∀p∈Eb,r.heap.get? p.1=J p.2/\m p.1=D/\p.1≠f.env.locals/\p.1∉f.fs/\∀v,p.2.data≠.cell v):DM f Eb u6 m r:=
 #[a.ok,a.os,a.bare,a.base,a.loc,a.cell,a.free,a.freeC,λp b=>(H9.mp b).elim (λz=>a.pin p<|Kt _ z)<|h p,a.hok,a.len]
variable {p H:Zv}{S m9:TR}
def pZ(c:S.Nodup)(a:S[l]?=J p)(b:S[N]?=J p):l=N:=by have Wb g d:=Gm.mp a;have Wb f e:=Gm.mp b;show(List.getElem_inj c).mp<|d.trans e.symm
variable {AG:Model}{y7:Unit->Uh}{e9 v8:V}{f9 m6 v7 j5 t8 x8 AA:Bs}{i6 nU:To}{d9:Db}
def oN(g:DM f cC u6 m r)(hN:f.N.Nodup)(M:f.N[l]?=J p)(v:IT f.env.scope p)(a3:DT e9 f9)
  (h:∀s',DM f cC (u6.set l<|J e9) m s'->(∃a,Heap.SameBut a r.heap s'.heap/\(a=f.env.locals\/f.env.cells.lookup p=J a))->y7 Unit.unit s') (hf:@&(f.fn p=I\/f.env.scope.names.lookup p=J .local)):C3 AG d9 (storeName f.env p f9) y7 i6 r:=by
 have Wa a4 T hl:=id g.loc;have L:(f.env.scope.kind == .class||(f.env.scope.kind == .module&&f.env.locals != f.env.globals))=Za:=by rw[g.ok.kind];rfl
 have A:l<u6.length:=by rw[g.len];show(Gm.mp M).1
 have F:=g.cne;have s:∀{a:Ch} {G:C7},(∃o,r.heap.get? a=J o/\m a=D)->Heap.SameBut a r.heap G->GZ f.prog f.w m G:=λ{a G} ha i b ob e=>by
  have Wa _ _ w:=ha;show(g.hok b ob e).stay (λc Q u q=>(i.2 c ?_).trans q) (λ_ q=>q) λ_ _ q=>q;rintro rfl;rcases u with rfl|u;rw[w]at e;cases e
  rw[w]at u;cases u
 rcases v with hk|hk;show wpAny_storeName_local hk T (λG U i=>?_) L;have Wl oL _ _ a0 _:=id T;show h _ #[g.ok,g.os,g.bare,#[λb o e n C v=>?_,λb o e n C v=>?_,g.base.free,λb o e v=>?_,g.base.tups,g.base.frzs,g.base.tbls],#[_,U,λj y v' t x e3=>?_],λy c e=>?_,g.free,g.freeC,λH hp=>?_,s #[oL,a0,g.free] i,by simpa using g.len] #[_,i,.inl Y]
 show(i.2 b<|Gp<|Gf (Gd e) g.ok.above).trans<|g.base.keep b o e n C v;have Wb V t:=g.base.slot b o e n C v;show#[V,(i.2 b<|Gp<|Gf (Gd e) g.ok.above).trans t];have Wb Z t:=g.base.there b o e v;show#[Z,(i.2 b<|Gp<|Gf (Gd e) g.ok.above).trans t];by_cases E:j=l;subst E;rw[M]at t;cases t;rw[J7 A]at x;cases x;show#[f9,a3,.inl #[hk,by simp]];rw[Iw (Gx E)]at x;have Wa u' W q:=hl j y v' t x e3;show#[u',W,?_];rcases q with⟨k,e⟩|⟨k,c,e,z⟩;show .inl #[k,?_];have:y≠p:=λe=>E<|pZ hN t<|e▸M;simp[this,e]
 show .inr #[k,c,e,z.sameBut i<|F y c e];have Wb Q z:=g.cell y c e;show#[Q,z.sameBut i<|F y c e];have Wn e n S X d:=g.pin H hp;show#[(i.2 H.1 S).trans e,n,S,X,d];have B:f.fn p=I:=by
  rcases hf with z|z;show z
  rw[z]at hk;cases hk
 have Wb c u:=g.ok.has p<|.inl hk;have Wb Q z:=g.cell p c u;show wpAny_storeName_cell g.ok.kind hk u z λG N i=>?_;have Wa oc K O:=id z;show h {r with heap:=G} #[g.ok,g.os,g.bare,#[λb o e n C v=>?_,λb o e n C v=>?_,g.base.free,λb o e v=>?_,g.base.tups,g.base.frzs,g.base.tbls],#[a4,T.sameBut i<|Gx<|F p c u,λj y v' t x e3=>?_],λy R e=>?_,g.free,g.freeC,λH hp=>?_,s #[oc,K,g.freeC p c u] i,by simpa using g.len] #[c,i,.inr u];show(i.2 b<|Gp<|Gf (Gd e)<|g.ok.cab p c B u).trans<|g.base.keep b o e n C v;have Wb V t:=g.base.slot b o e n C v;show#[V,(i.2 b<|Gp<|Gf (Gd e)<|g.ok.cab p c B u).trans t];have Wb Z t:=g.base.there b o e v;show#[Z,(i.2 b<|Gp<|Gf (Gd e)<|g.ok.cab p c B u).trans t];by_cases E:j=l;subst E;rw[M]at t;cases t;rw[J7 A]at x;cases x;show#[f9,a3,.inr #[.inl hk,c,u,N]];rw[Iw (Gx E)]at x;have Wa u' W q:=hl j y v' t x e3;show#[u',W,?_];rcases q with q|⟨k,R,e,z'⟩;show .inl q
 show .inr #[k,R,e,z'.sameBut i ?_];rintro rfl;show E<|pZ hN t<|g.ok.inj _ _ _ e u▸M;by_cases P:R=c;subst P;show#[_,N];have Wb w2 z2:=g.cell y R e;show#[w2,z2.sameBut i P];have Wn e n S X d:=g.pin H hp;show#[(i.2 H.1 ?_).trans e,n,S,X,d];intro q;rw[q,K]at e;show d Q<|by rw[<-(Hb e)];show O
def pD{v:V}(d:DM f cC u6 m r)(g:f.N.Nodup)(e:f.N[l]?=J p)(b:IT f.env.scope p)(c:DT v f9)
  (h:∀a,DM f cC (u6.set l<|J v) m a->y7 Unit.unit a) (hf:@&(f.fn p=I\/f.env.scope.names.lookup p=J .local)):C3 AG d9 (storeName f.env p f9) y7 i6 r:=
 oN d g e b c (λa i _=>h a i) hf
def DM.call'{ch:TU}(g:DM f cC u6 m r)(h:A6.os=r.os)(u:Un (Hc f.stack) ch m d7 r.heap A6.heap)(d:GZ f.prog f.w d7 A6.heap)(hg:Yc A6.gens)(a:∀b∈ch,(b∈f.ex\/f.s₀.heap.objs.size<=b)/\b≠f.env.locals/\(∀x c,f.env.cells.lookup x=J c->c≠b)/\∀p∈f.pn++cC,p.1≠b):DM f cC u6 d7 A6:=by have#[v,i,k,j,l]:=A6;have e:=h;subst e;show g.call u d hg a
abbrev XK :=Bs->Ua->Ui
abbrev St :=List<|T6
abbrev Tn:=St->Ch->Hp->Prop
abbrev Tr:=St->Hp->Prop
abbrev VK :=V->Ui
abbrev Tq:=Hp->VK->Prop
abbrev TE :=St->Tq
abbrev TT :=St->Hp->(Ts)->Prop
abbrev TA :=St->Hp->(TM->Ui)->Prop
structure HK where
 nx:Tr
 rt:VK
 bk:Tr:=λ_ _=>False
 ct:Tr:=λ_ _=>False
abbrev TS :=HK->Tr
def EP (X:Cx)(a:Tu)(U:St)(Q:VK)(u:Bs)(c:C1):Prop:=∃v b,DM X a U b c/\DT v u/\Q v b
def TP (X:Cx)(a:Tu)(U:St)(Q:Ts)(b:Bool)(d:C1):Prop:=∃c,DM X a U c d/\Q b c
def AP (X:Cx)(a:Tu)(U:St)(Q:TM->Ui)(d:TQ)(e:C1):Prop:=∃c b,DM X a U b e/\DS c d/\Q c b
def SP (X:Cx)(b:Tu)(d:HK)(f:Flow)(e:C1):Prop:=
 match f with
 |.next=>∃a c,DM X b a c e/\d.nx a c
 |.brk=>∃a c,DM X b a c e/\d.bk a c
 |.cont=>∃a c,DM X b a c e/\d.ct a c
 |.ret u=>∃v a c,DM X b a c e/\DT v u/\d.rt v c
def PE (X:Cx)(e:Dc)(t:TE):Prop:=
 ∀(a:Tu) (s:C1) (U:St) (H:Hp) (Q:VK),DM X a U H s->t U H Q->C3 (C4 X.prog X.w) X.A (eval e X.env) (EP X a U Q) X.xe s
def PT (X:Cx)(e:Dc)(t:TT):Prop:=
 ∀(a:Tu) (s:C1) (U:St) (H:Hp) (Q:Ts),DM X a U H s->t U H Q->C3 (C4 X.prog X.w) X.A (isTrue e X.env<|eval e X.env) (TP X a U Q) X.xe s
def PW (X:Cx)(e:Dc)(t:TT):Prop:=
 ∀(a:Sem Bs) (pins:Tu) (s:C1) (U:St) (H:Hp) (Q:Ts),DM X pins U H s->t U H Q->C3 (C4 X.prog X.w) X.A (isTrue e X.env a) (TP X pins U Q) X.xe s
variable {Ak Es:TT}{j w gV:Dc}
def PW.pt(h:PW f j Ak):PT f j Ak:=h _
def PA (X:Cx)(b:T1)(t:TA):Prop:=
 ∀(a:Pos) (pins:Tu) (s:C1) (U:St) (H:Hp) (Q:TM->Ui),DM X pins U H s->t U H Q->C3 (C4 X.prog X.w) X.A (spliced<|Zx a<|A3 b X.env) (AP X pins U Q) X.xe s
def PS (X:Cx)(c:Da)(t:TS):Prop:=
 ∀(a:Tu) (s:C1) (U:St) (H:Hp) (b:HK),DM X a U H s->t b U H->C3 (C4 X.prog X.w) X.A (exec c X.env) (SP X a b) X.xe s
def Hr (X:Cx)(c:List Da)(t:TS):Prop:=
 ∀(a:Tu) (s:C1) (U:St) (H:Hp) (b:HK),DM X a U H s->t b U H->C3 (C4 X.prog X.w) X.A (execs c X.env) (SP X a b) X.xe s
def D1{t:Sem u3}{Q b:u3->Uh}(h:C3 AG d9 t Q i6 r)(c:∀a r,Q a r->b a r):C3 AG d9 t b i6 r:=Hk h c λ_ _ x=>x
def NR (i:Nat):TE:=λU H Q=>∃v,U[i]?=J (J v)/\Q v H
def tC (v:V):TE:=λ_ H Q=>Q v H
variable {y K:Pos}
def zG {i:Nat}(q:f.N[i]?=J p)(o:GO f.env.scope p)(g:‹Yl p›)(j:‹Ym p›):PE f (.Name p y) (NR i):=by
 intro d s U H Q b h;have Wa v e h:=h;have Wa m n t:=b.loc;have Wa u r l:=t i p v q e o;have fin:EP f d U Q u s:=#[v,H,b,r,h];rcases l with⟨hk,hm⟩|⟨hk,c,k,a⟩;show wpAny_Name (wpAny_loadName_local b.ok.kind hk n hm fin) g
 rcases hk with hk|hk;show wpAny_Name (wpAny_loadName_cell b.ok.kind hk k a fin) g
 show wpAny_Name (wpAny_loadName_free b.ok.kind hk k a fin j) g
def yx {i j pos}:PE f (.Constant (.int i) j pos) (tC (.int i)):=λ_ _ _ H _ a h=>wpAny_Constant_int #[.int i,H,a.tok _,#[_,Y],h]
def yb2 {b j pos}:PE f (.Constant (.bool b) j pos) (tC (.bl b)):=λ_ _ _ H _ a h=>Constant_bool #[.bl b,H,a,Y,h]
def P2 {j pos}:PE f (.Constant .none j pos) (tC .non):=λ_ _ _ H _ a h=>Constant_none #[.non,H,a,Y,h]
def vC {x j pos}:PE f (.Constant (.str x) j pos) (tC (.str x)):=λ_ _ _ H _ a h=>Calls.Constant_str #[.str x,H,a.tok _,#[_,Y],h]
def Gl (X:Cx)(x:Zv):Prop:=X.env.kindOf x=J .globalImplicit
variable {B:St}
def yT(a:DM f cC B m r)(hg:Gl f p)(c:f.mg p=J f9)(h:nU f9 r)
  (b:‹Yl p›):C3 (C4 f.prog f.w) f.A (eval (.Name p y) f.env) nU i6 r:=
 Calls.Name_function_global a.ok.kind hg (Calls.loadGlobal_global (by rw[a.ok.glob];show a.mod.glob.keeps a.bk) c h) b
def xw(a:DM f cC B m r)(hg:Gl f p)(b:f.mg p=D)(g:ZD p=J f9)(h:nU f9 r)
  (d:‹p≠"__name__"›) (e:‹Yl p›):C3 (C4 f.prog f.w) f.A (eval (.Name p y) f.env) nU i6 r:=by have Wa j i c:=a.mod.blt;show Calls.Name_function_global a.ok.kind hg (Calls.loadGlobal_builtin (by rw[a.ok.glob];show a.mod.glob.keeps a.bk) b (by rw[a.ok.blt];show i.keeps a.bk) ((c p d).trans g) h) e
def eN{v:V}(hg:Gl f p)(b:f.mg p=J f9)(r:DT v f9)(c:‹Yl p›):PE f (.Name p y) (tC v):=
 λ_ _ _ H _ a h=>yT a hg b #[v,H,a,r,h] c
def eY(hg:Gl f p)(b:f.mg p=D)(e:ZD p=J f9)(r:DT e9 f9)(c:‹p≠"__name__"›)(d:‹Yl p›):PE f (.Name p y) (tC e9):=
 λ_ _ _ H _ a h=>xw a hg b e #[e9,H,a,r,h] c d
def tB (t:TE):TT:=λU H Q=>t U H λx a=>∃c,x=.bl c/\Q c a
variable {j3 v9 BO:TE}
def P4(h:PE f j j3)(k: ~~~(∀a,isTrue j f.env a=(do let v <-a;Z8 j.pos;Z9 [v] (truthy v)))):PT f j (tB j3):=by intro b s U H Q g hw;show isTrue_plain (D1 (h b s U H _ g hw) λv n c=>?_)<|k _;have Wd x e m l i:=c;have Wa d rfl q:=i;cases l;show J9 #[e,m,q]
def yo9 (t u:TT):TT:=λU H Q=>t U H λc a=>if c=I then u U a Q else Q Za a
def tOr (t u:TT):TT:=λU H Q=>t U H λc a=>if c=I then Q I a else u U a Q
def yn3 (t:TT):TT:=λU H Q=>t U H λc a=>Q (!c) a
def zP3 (d:PT f j Ak):PW f (.BoolOp .And [j] y) Ak:=by
 intro i a s U H Q b h;show isTrue_and<|D1 (d a s U H Q b h) λc g e=>?_;cases c with|true=>show isTrue_and_nil e|false=>show e
def P5 (d:PT f j Ak):PW f (.BoolOp .Or [j] y) Ak:=by
 intro i a s U H Q b h;show isTrue_or<|D1 (d a s U H Q b h) λc g e=>?_;cases c with|false=>show isTrue_or_nil e|true=>show e
variable {O:T1}
def z08 (n:PT f j Ak)(k:PW f (.BoolOp .And (w::O) y) Es):PW f (.BoolOp .And (j::w::O) y) (yo9 Ak Es):=by
 intro i a s U H Q l h;show isTrue_and<|D1 (n a s U H _ l h) λc m=>Wa λd g e=>?_;cases c with|true=>show k i a m U d Q g e|false=>show#[d,g,e]
def P6 (n:PT f j Ak)(k:PW f (.BoolOp .Or (w::O) y) Es):PW f (.BoolOp .Or (j::w::O) y) (tOr Ak Es):=by
 intro i a s U H Q l h;show isTrue_or<|D1 (n a s U H _ l h) λc m=>Wa λd g e=>?_;cases c with|true=>show#[d,g,e]|false=>show k i a m U d Q g e
def P7 (d:PT f j Ak):PT f (.UnaryOp .Not j y) (yn3 Ak):=by intro a s U H Q e h;show isTrue_not<|d a s U H (λc b=>Q (!c) b) e h
def yf6 (b d:TE):TE:=λU H Q=>b U H λx a=>∃c,x=.bl c/\if c=I then d U a Q else Q (.bl Za) a
def yn0 (b d:TE):TE:=λU H Q=>b U H λx a=>∃c,x=.bl c/\if c=I then Q (.bl I) a else d U a Q
def yc1 (b:TE):TE:=λU H Q=>b U H λx a=>∃c,x=.bl c/\Q (.bl<|!c) a
def P8 {op}(h:PE f j j3):PE f (.BoolOp op [j] y) j3:=λa s U H Q b hw=>BoolOp_one<|h a s U H Q b hw
def P9 (m:PE f j j3)(i:PE f (.BoolOp .And (w::O) y) v9):PE f (.BoolOp .And (j::w::O) y) (yf6 j3 v9):=by
 intro a s U H Q k h;show BoolOp_and<|D1 (m a s U H _ k h) λv l=>Wd λx e g n d=>?_;have Wa c rfl d:=d;cases n;show J9 ?_;cases c with|true=>show i a l U e Q g d|false=>show#[.bl Za,e,g,Y,d]
def yc4 (m:PE f j j3)(i:PE f (.BoolOp .Or (w::O) y) v9):PE f (.BoolOp .Or (j::w::O) y) (yn0 j3 v9):=by
 intro a s U H Q k h;show BoolOp_or<|D1 (m a s U H _ k h) λv l=>Wd λx e g n d=>?_;have Wa c rfl d:=d;cases n;show J9 ?_;cases c with|false=>show i a l U e Q g d|true=>show#[.bl I,e,g,Y,d]
def z09 (g:PE f j j3):PE f (.UnaryOp .Not j y) (yc1 j3):=by intro a s U H Q i h;show UnaryOp_<|D1 (g a s U H _ i h) λv m=>Wd λx e l k d=>?_;have Wa c rfl d:=d;cases k;show not_of<|J9 #[.bl<|!c,e,l,Y,d]
def tIf (t:TT)(b d:TE):TE:=λU H Q=>t U H λc a=>if c=I then b U a Q else d U a Q
def zv7(k:PT f gV Ak)(m:PE f j j3)(l:PE f w v9):PE f (.IfExp gV j w y) (tIf Ak j3 v9):=by
 intro a s U H Q n h;show wpAny_IfExp<|D1 (k a s U H _ n h) λd e=>Wa λc i g=>?_;cases d with|true=>show m a e U c Q i g|false=>show l a e U c Q i g
def D3 (K:Cl)(H:Hp)(a:Ch)(xs:TM):Prop:=
 Rd H a (.lst xs)\/
  ∃(o:Z7) (b:Uc) (n:Nat),K.lookup a=J o/\o.cls=.type "list"/\o.dict=D/\o.data=.seq b n/\b.size<=Zw/\DS xs b.toList
def HM (K:Cl)(H:Hp)(a:Ch)(xs:TM):Prop:=
 Rd H a (.tup xs)\/
  ∃(o:Z7) (b:Uc) (n:Nat),K.lookup a=J o/\o.cls=.type "tuple"/\o.data=.seq b n/\b.size<=Zw/\DS xs b.toList
def yp9 :Bs->T6
 |.none=>J .non
 |.bool b=>J<|.bl b
 |.int i _=>J<|.int i
 |.str x _=>J<|.str x
 |.bytes b _=>J<|.byt b
 |.float b _=>J<|.flt b
 |.ref a=>J<|.ref a
 |.type n=>J<|.ty n
 |_=>D
def DT.abs(r:DT e9 f9):yp9 f9=J e9:=by
 cases e9 with|non=>cases r;rfl|bl _=>cases r;rfl|int _=>have Wb t rfl:=r;rfl|str _=>have Wb t rfl:=r;rfl|byt _=>have Wb t rfl:=r;rfl|flt _=>have Wb t rfl:=r;rfl|ref _=>cases r;rfl|ty _=>cases r;rfl
def DT.inj(r:DT e9 f9)(q:DT v8 f9):e9=v8:=Hb<|r.abs.symm.trans q.abs
theorem DS.inj(h:DS dU g7)(k:DS u0 g7):dU=u0:=by
 induction h generalizing u0 with
 |nil=>cases k;rfl
 |cons r _ c=>cases k with|cons b a=>rw[r.inj b,c a]
def D3.of {K:Cl}(h:m i=J (.lst dU)):D3 K m i dU:=.inl<|.inl h
def HM.of {K:Cl}(h:m i=J (.tup dU)):HM K m i dU:=.inl<|.inl h
def DM.list (d:DM f cC B m r)(h:D3 f.K m i dU):∃a:TQ,DS dU a/\PlainL r.heap i a.toArray/\dU.length<=Zw:=by
 rcases h with h|⟨o,a,n,hk,j,hd,l,g,c⟩;have Wc z b:=h.ok d.hok;have Wh a n c e:=b;show#[a,c,#[1,_,n,e,Y,Y,Y],z]
 show#[a.toList,c,#[1,o,n,d.kIn i o hk,j,hd,by simpa using l],?_];have e:=c.length;simp only[Ku]at e;show Gg (Gu e) g
def DM.tuple{X:Cx}{d:Tu}{U:St}{H:Hp}{s:C1}{a:Ch}{xs:TM} (f:DM X d U H s)(h:HM X.K H a xs):∃b:TQ,DS xs b/\IsTup s.heap a b.toArray/\xs.length<=Zw:=by
 rcases h with h|⟨o,b,n,hk,i,j,g,r⟩;have Wc z c:=h.ok f.hok;have Wa b r p:=c;show#[b,r,p,z]
 show#[b.toList,r,#[o,f.kIn a o hk,i,#[n,by simpa using j]],?_];have e:=r.length;simp only[Ku]at e;show Gg (Gu e) g
def DM.list_inj (k:DM f cC B m r)(h:D3 f.K m i dU)(t:D3 f.K m i u0):dU=u0:=by
 have We g q b _:=k.list h;have#[o,n,e,_,_,d]:=b;have We c p a _:=k.list t;have#[v,u,j,_,_,l]:=a;rw[e]at j;cases j;rw[d]at l;injection l with s _;have:g=c:=by simpa using Uu Array.toList s
 subst this;show q.inj p
abbrev Cx.wish (X:Cx)(E:To):Cx:={X with xe:=E}
noncomputable abbrev Cx.nox (X:Cx):Cx:=X.wish λ_ _=>False
theorem Cx.Ok.wish(a:f.Ok)(E:To):(f.wish E).Ok:=
 #[a.mod,a.kind,a.glob,a.blt,a.above,a.inj,a.has,a.cab,a.hd,a.frames,a.stk,a.exf,a.bs,a.bsz,a.noex,a.exfs,a.funs,a.frf]
def Cx.Ok.unwish(a:(f.wish i6).Ok):f.Ok:=
 #[a.mod,a.kind,a.glob,a.blt,a.above,a.inj,a.has,a.cab,a.hd,a.frames,a.stk,a.exf,a.bs,a.bsz,a.noex,a.exfs,a.funs,a.frf]
theorem DM.wish (a:DM f cC B m r)(E:To):DM (f.wish E) cC B m r:=#[a.ok.wish E,a.os,a.bare,a.base,a.loc,a.cell,a.free,a.freeC,a.pin,a.hok,a.len]
theorem DM.unwish (a:DM (f.wish i6) cC B m r):DM f cC B m r:=#[a.ok.unwish,a.os,a.bare,a.base,a.loc,a.cell,a.free,a.freeC,a.pin,a.hok,a.len]
variable {Bg:HK}{BP:Flow}
theorem SP.unwish(h:SP (f.wish i6) cC Bg BP r):SP f cC Bg BP r:=by
 cases BP with|next=>have Wh a c b q:=h;show#[a,c,b.unwish,q]|brk=>have Wh a c b q:=h;show#[a,c,b.unwish,q]|cont=>have Wh a c b q:=h;show#[a,c,b.unwish,q]|ret u=>have Wr v a c b d q:=h;show#[0,v,a,c,b.unwish,d,q]
variable {Be Ec:TS}{i7 y8:List Da}
theorem Hr.nox(h:Hr f.nox i7 Be):Hr f i7 Be:=λcC r B m a b hw=>
 Hk (h cC r B m a (b.wish _) hw) (λ_ _ q=>q.unwish) λ_ _ z=>Ze z
def yc8 :TS:=λa U H=>a.nx U H
def Qa (t u:TS):TS:=λa U H=>t {a with nx:=u a} U H
def cD :Hr f [] yc8:=λ_ _ U H _ a h=>LD #[U,H,a,h]
variable {g8:Da}
def zt (i:PS f g8 Be)(d:Hr f i7 Ec):Hr f (g8::i7) (Qa Be Ec):=by
 intro a s U H b e h;show wpAny_execs_cons<|D1 (i a s U H {b with nx:=Ec b} e h) λk j q=>?_;cases k with|next=>have Wh c g l q:=q;show d a j c g b l q|ret v=>show q|brk=>show q|cont=>show q
def vq (e:PS f g8 Be):Hr f [g8] Be:=by
 intro a s U H b c h;show wpAny_execs_cons<|D1 (e a s U H b c h) λd g q=>?_;cases d with|next=>show LD q|ret v=>show q|brk=>show q|cont=>show q
def DM.quiet(a:DM f cC B m r):interactive f.env=Za:=by simp[interactive,a.ok.kind]
def yg1 (b:TE):TS:=λc U H=>b U H λ_ a=>c.nx U a
def vw (g:PE f j j3)(i: ~~~(Z1 j D y.line f.env=pure Za)):PS f (.Expr j y) (yg1 j3):=by intro a s U H m c h;show wpAny_Expr_any (D1 (g a s U H _ c h) λv l b=>by have Wd x d k n e:=b;show#[U,d,k,e]) c.quiet i
def yl6 (a:TE):TS:=λb U H=>a U H b.rt
def vh (g:PE f j j3):PS f (.Return (J j) y) (yl6 j3):=by intro a s U H m d h;show wpAny_Return_some (D1 (g a s U H _ d h) λv l b=>by have Wd x c k i e:=b;show#[0,x,U,c,k,i,e])
def yn2 (c:TT)(t u:TS):TS:=λd U H=>c U H λb a=>if b=I then t d U a else u d U a
def NS(l:PT f j Ak)(n:Hr f i7 Be)(m:Hr f y8 Ec):PS f (.If j i7 y8 y) (yn2 Ak Be Ec):=by
 intro a s U H g o h;show wpAny_If<|D1 (l a s U H _ o h) λd e=>Wa λc k i=>?_;cases d with|true=>show n a e U c g k i|false=>show m a e U c g k i
abbrev TG :=V->St->Hp->(Tr)->Prop
abbrev Kg :=TM->St->Hp->(Tr)->Prop
def PG (X:Cx)(a:Dc)(t:TG):Prop:=
 ∀(b:Tu) (s:C1) (U:St) (H:Hp) (v:V) (u:Bs) (Q:Tr),DM X b U H s->DT v u->t v U H Q->
  C3 (C4 X.prog X.w) X.A (assign a X.env u) (λ_ e=>∃c d,DM X b c d e/\Q c d) X.xe s
def LP (X:Cx)(d:T1)(t:Kg):Prop:=
 ∀(a:Tu) (s:C1) (U:St) (H:Hp) (vs:TM) (us:TQ) (Q:Tr),DM X a U H s->DS vs us->t vs U H Q->
  C3 (C4 X.prog X.w) X.A (assignInOrder ((ZJ d X.env).map (·.2)) us) (λ_ e=>∃b c,DM X a b c e/\Q b c) X.xe s
abbrev NU :=V->V->V->Hp->(Ui)->Prop
def Qb (X:Cx)(t:NU):Prop:=
 ∀(a:Tu) (s:C1) (U:St) (H:Hp) (o i v:V) (b c u:Bs) (Q:Ui),DM X a U H s->DT o b->DT i c->DT v u->t o i v H Q->
  C3 (C4 X.prog X.w) X.A (setItem b c u) (λ_ e=>∃d,DM X a U d e/\Q d) X.xe s
def nc (i:Nat):TG:=λv U H Q=>Q (U.set i<|J v) H
def yq(e:f.N.Nodup)(d:f.N[l]?=J p)(b:IT f.env.scope p)(hf:@&(f.fn p=I\/f.env.scope.names.lookup p=J .local)):PG f (.Name p y) (nc l):=by intro a s U H v u Q c r h;show wpAny_assign_Name<|pD c e d b r (λi g=>#[_,H,g,h]) hf
def NV :Kg:=λa U H Q=>a=[]/\Q U H
def bh (t:TG)(u:Kg):Kg:=λb U H Q=>∃v r,b=v::r/\t v U H λa c=>u r a c Q
def uA :LP f [] NV:=by intro a s U H d c Q b r h;have Wc e h:=h;subst e;cases r;show assignInOrder_nil #[U,H,b,h]
variable {Bv:TG}{Cm:Kg}
def xX(m:PG f j Bv)(e:LP f O Cm)
  (o: ~~~((ZJ (j::O) f.env).map (·.2)=assign j f.env::(ZJ O f.env).map (·.2))):LP f (j::O) (bh Bv Cm):=by
 intro a s U H t q Q i r h;have Wh v u k h:=h;subst k;cases r with|cons r g=>rw[o];show assignInOrder_cons<|D1 (m a s U H _ _ _ i r h) λ_ n=>Wh λc d p l=>?_;show e a n c d _ _ Q p g l
def LQ (K:Cl)(n:Nat)(t:Kg):TG:=λv U H Q=>∃a xs,v=.ref a/\HM K H a xs/\xs.length=n/\t xs U H Q
def z25(q:f.calm=I)(h:LP f O Cm)
  (m: ~~~((ZJ O f.env).length=N)) (g: ~~~((ZJ O f.env).findIdx? (·.1)=D)):PG f (.Tuple O l y) (LQ f.K N Cm):=by intro c s U H v u Q d r hw;have Wj a xs k w t hw:=hw;subst k;cases r;have We j i n x:=d.tuple w;show assign_Tuple_tuple (d.ok.hd q) n (by simp[m,<-t,i.length]) g λz p=>?_;show h c _ U H xs _ Q (d.kept λb o e=>p b o (Gp<|Gd e) e) (by simpa using i) hw
def Qd (to d:TE)(t:NU):TG:=λv U H Q=>to U H λo a=>d U a λi b=>t o i v b λc=>Q U c
def iB{t:NU}(N:PE f j j3)(p:PE f w v9)(z:Qb f t)
  (K: ~~~(∀v,assign (.Subscript j w y) f.env v=(do
   let b <-Z9 [v] (eval j f.env)
   let e <-Z9 [v,b] (eval w f.env)
   Z8 y
   Z9 [v,b,e] (setItem b e v)
   release [v,b,e] []))):PG f (.Subscript j w y) (Qd j3 v9 t):=by intro a s U H v u Q l r h;rw[K];show DL<|Hx<|D1 (N a s U H _ l h) λb F=>Wd λx C B L E=>?_;show DL<|Hx<|D1 (p a F U C _ B E) λe n=>Wd λm k i o G=>?_;show DL<|Lb<|DL<|Hx<|D1 (z a n U k x m v b e u _ i L o r G) λ_ O=>Wa λA q M=>?_;show wpAny_release #[U,A,q,M]
def NW (b:TE)(g:TG):TS:=λc U H=>b U H λx a=>g x U a c.nx
def gf(g:PE f w j3)(hg:PG f j Bv)(m: ~~~(swapsWithSole [j] w y.line f.env=pure Za))(hw: ~~~(swappedStores [j] w f.env=pure D))
  (i: ~~~((ZJ [j] f.env).map (·.2)=[assign j f.env])):PS f (.Assign [j] w y) (NW j3 Bv):=by intro a s U H o d h;show wpAny_Assign_stores (D1 (g a s U H _ d h) λv k b=>?_) m hw;have Wd x c n l e:=b;rw[i];show D1 (hg a k U c x v _ n l e) λ_ p q=>q
def vE {i:Nat}(l:f.N.Nodup)(o:f.N[i]?=J p)(m:IT f.env.scope p)(k:PE f j j3)(r: ~~~(Z1 j (J (.Name p K)) y.line f.env=pure Za))(hf:@&(f.fn p=I\/f.env.scope.names.lookup p=J .local)):
  PS f (.Assign [.Name p K] j y) (NW j3<|nc i):=by intro b s U H t e h;show wpAny_Assign_Name (D1 (k b s U H _ e h) λv x a=>?_) r;have Wd u c n q g:=a;show pD n l o m q (λw d=>#[_,c,d,g]) hf
def z05 (c:TT)(h:TS):TS:=λd U H=>∃W:Nat->Tr,(∃m,W m U H)/\∀m U H,W m U H->
 c U H λb e=>if b=I then ∃N:Tr,(∀a g,N a g->∃f,f<m/\W f a g)/\h {d with nx:=N,ct:=N,bk:=d.nx} U e else d.nx U e
def zi6(B:PassesOwn (C4 f.prog f.w) f.A f.env f.xe)(G:PT f j Ak)(M:Hr f i7 Be):PS f (.While j i7 [] y) (z05 Ak Be):=by
 intro c s U H S E h;have Wa W i turn:=h;have#[O,C]:=i;show wpAny_While<|codeAny_whileLoop (λn P=>∃k A,DM f c k A P/\W n k A) ?_ O #[U,H,E,C];rintro n Q ⟨d,z,K,L⟩;show Ky B<|D1 (G c Q d z _ K<|turn n d z L) λb F=>Wa λw u l=>?_;cases b with
 |true=>
  have Wa N x l:=l;rw[Ur Y];show Ky B<|D1 (M c F d w _ u l) λR T m=>?_;cases R with|next=>have Wh a g p o:=m;have Wa q t r:=x a g o;show#[q,t,#[a,g,p,r]]|cont=>have Wh a g p o:=m;have Wa q t r:=x a g o;show#[q,t,#[a,g,p,r]]|brk=>show m|ret v=>show m
 |false=>rw[Us Hq];show LD #[d,w,u,l]
structure It where
 go:Nat->Ui
 yld:Nat->Hp->V->Ui
 stop:Nat->Ui
def xH (X:Cx)(a:Tu)(H:Hp)(b:Ch):Prop:=
 H b=D/\b≠X.env.locals/\b∉X.fs/\(b∈X.ex\/X.s₀.heap.objs.size<=b)/\(∀x c,X.env.cells.lookup x=J c->c≠b)/\∀p∈X.pn++a,p.1≠b
def DM.fpOk{H':Hp}(b:DM f cC B m r)(a:r.heap.objs.size<=i)(g:H' i=D):xH f cC H' i:=by show#[6,g,Jj<|Gf b.lt a,b.nofs a,.inr<|Gg b.sz a,λx c e z=>?_,λp d z=>?_];have Wb v q:=b.cell x c e;show Ut (Gf q.lt<|by rw[z];show a)<|Ib _;show Ut (Gf (Gd (b.pin p d).1)<|by rw[z];show a)<|Ib _
structure HL (P:C5)(w:C6)(K:Cl)(tg:Dc)(a:It)(fp:TU)(it:Ch)(tn:Nat->Ul):Prop where
 mem:it∈fp
 obj:∀i h,tn i h->∀b∈fp,∃o,h.get? b=J o/\∀v,o.data≠.cell v
 keep:∀i h h',tn i h->(∀b∈fp,∀o,h.get? b=J o->h'.get? b=J o)->tn i h'
 item:∀(X:Cx),X.prog=P->X.w=w->X.K=K->X.calm=I->∀(i:Nat) (pins:Tu) (s:C1) (U:St) (H:Hp) (E:To),DM X pins U H s->(∀b∈fp,xH X pins H b)->tn i s.heap->a.go i H->
  C3 (C4 P w) X.A (pyNext<|.ref it) (λr s1=>∃u,r=J u/\
   C3 (C4 P w) X.A (ZM tg (.ref it) u) (λ_ s2=>∃x H',DM X pins U H' s2/\DT x u/\a.yld i H x H'/\tn (i+1) s2.heap/\∀b∈fp,H' b=D) E s1) E s
 done:∀(X:Cx),X.prog=P->X.w=w->X.K=K->X.calm=I->∀(i:Nat) (pins:Tu) (s:C1) (U:St) (H:Hp) (E:To),DM X pins U H s->(∀b∈fp,xH X pins H b)->tn i s.heap->a.stop i H->
  C3 (C4 P w) X.A (pyNext<|.ref it) (λr s1=>r=D/\DM X pins U H s1) E s
 self:∀(A:Db) (i:Nat) (s:C1) (Q:To) (E:To),tn i s.heap->Q (.ref it) s->C3 (C4 P w) A (pyIter<|.ref it) Q E s
abbrev TI :=St->Hp->(It->Ui)->Prop
def Qe (X:Cx)(a:Tu)(U:St)(g:Dc)(R:It->Ui)(c:Bs)(e:C1):Prop:=
 ∃(d:Ch) (fp:TU) (tn:Nat->Ul) (f:It) (H':Hp),c=.ref d/\DM X a U H' e/\HL X.prog X.w X.K g f fp d tn/\tn 0 e.heap/\(∀b∈fp,xH X a H' b)/\R f H'
def PI (X:Cx)(d b:Dc)(e:TI):Prop:=
 ∀(a:Tu) (s:C1) (U:St) (H:Hp) (R:It->Ui),DM X a U H s->e U H R->
  C3 (C4 X.prog X.w) X.A (eval b X.env) (λv c=>C3 (C4 X.prog X.w) X.A (pyIter v) (Qe X a U d R) X.xe c) X.xe s
variable {q5:String}{l7:Uc}
def oM(c:r.heap.get? i=J j7)(b:j7.cls=.type q5)(e:j7.data=.fields l7)(d:["enumerate","zip","dict_itemiterator","dict_reverseitemiterator","odict_iterator","itertools.zip_longest","itertools.pairwise"].contains q5=Za) (a:y7 Unit.unit r):C3 AG d9 (ZM j (.ref i) f9) y7 i6 r:=by
 unfold ZM;cases j<;>first
  |show DX a
  |(cases f9<;>first
    |show DX a
    |(show DL (wpAny_load c ?_)
      rw[b,e];change C3 AG d9 (if(["enumerate","zip","dict_itemiterator","dict_reverseitemiterator","odict_iterator","itertools.zip_longest","itertools.pairwise"].contains q5&&l7[0]? == J (ZI _))=I then _ else _) y7 i6 r;rw[Us (by intro h;rw[d,La]at h;cases h)];show DX a))
def Qf (K:Cl)(a:Ch):It:=
 #[λi H=>∃xs x,D3 K H a xs/\xs[i]?=J x,λi H x b=>b=H/\∀xs,D3 K H a xs->xs[i]?=J x,λi H=>∃xs,D3 K H a xs/\xs.length<=i]
def LR (b:Int)(n:Nat):It:=#[λi _=>i<n,λi H x a=>a=H/\x=.int (b+i),λi _=>n<=i]
variable {q:Cl}
def za8(a m:Ch):HL E s q j (Qf q a) [m] m (λi h=>h.IsListIter m a i) where
 mem:=by simp
 obj:=λi h f b l=>by
  have e:b=m:=by simpa using l
  subst e;have We o e c d:=f;show#[o,e,λv z=>by rw[d]at z;cases z]
 keep:=λi h O f k=>f.at λo e=>k m () o e
 item:=by intro X K hw A N i n T U H R g hf f hg;subst K hw A;have Wh xs x w t:=hg;have We C B p W:=g.list w;have Wa u Q S:=B.get t;have Wt y F f2 M L G:=hf m ();show wpAny_pyNext_list_item f p.isList (by simpa using Q) λO r V=>?_;have We o e c d:=id r;show#[u,Y,oM e c d () #[4,x,H,(g.turned (λb o l e=>(V.2 b l).trans e) y F M L G),S,#[Y,λys P=>by rw[g.list_inj P w];show t],r,λb l=>(hf b l).1]]
 done:=by intro X K hw A N i n T U H R g hf f hg;subst K hw A;have Wa xs w t:=hg;have We C B p W:=g.list w;have Wt y F f2 M L G:=hf m ();show wpAny_pyNext_list_end (g.ok.hd N) f p.isList (by simp;show Gg (Gu B.length.symm) t) λO Z=>#[Y,g.turned (λb o l e=>Z b o l e) y F M L G]
 self:=λ_ _ _ _ _ f h=>wpAny_pyIter_listiter f h
def gF(c:Ch)(m:Int)(n:Nat):HL E s q j (LR m n) [c] c (λi h=>IsRangeIter h c (m+(i:Nat)*1) ((n:Int)-(i:Nat)) 1) where
 mem:=by simp
 obj:=λi h a b f=>by
  have e:b=c:=by simpa using f
  subst e;show#[_,a,λv z=>by have O:=z;cases O]
 keep:=λi h w a k=>k c () _ a
 item:=by intro X B hw r u i d x U H M g hf a hg;subst B hw r;have Wt p y Q F C A:=hf c ();show(Walks.range (g.ok.hd u) c m 1 n).item i x _ _ hg a λv w L K l G=>?_;have Wb t rfl:=K;have N:DM X d U H {x with heap:=w,toks:=L}:=g.turned (λb o f e=>G b o (by simpa using f) e) p y F C A;show#[_,Y,oM l Y Y () #[4,.int<|m+i,H,N,#[t,?_],#[Y,Y],l,λb f=>(hf b f).1]];rw[Int.mul_one]
 done:=by intro X B hw r u i d x U H M g hf a hg;subst B hw r;have Wt p y Q F C A:=hf c ();show wpAny_pyNext_range_end (g.ok.hd u) a (by have:n<=i:=hg;show yb8 this) λw P=>#[Y,g.turned (λb o f e=>P b o f e) p y F C A]
 self:=λ_ _ _ _ _ a h=>wpAny_pyIter_rangeiter a h
def yi6 (K:Cl)(tl:TE):TI:=λU H R=>tl U H λx b=>∃a,x=.ref a/\(∃xs,D3 K b a xs)/\R (Qf K a) b
def zH9(u:PE f w j3):PI f j w (yi6 f.K j3):=by
 intro g s U H R r h;show D1 (u g s U H _ r h) λv k=>Wd λx l i y t=>?_;have We a e c q:=t;have#[xs,z]:=c;subst e;cases y;have We m A p B:=i.list z;show Kv p.isList #[k.heap.objs.size,[k.heap.objs.size],_,#[5,_,l,Y,i.kept λb o e=>D6 _ e,za8 a _,#[_,GB _ Y,Y,Y],λb n=>?_,q]];have e:b=k.heap.objs.size:=by simpa using n
 subst e;show i.fpOk (D4 _)<|i.hok.fresh<|D4 _
variable {Av BA BB:Tok}{L gi:Int}
theorem kr{R:It->Ui}(h:DM f cC B m r)(p:-(2 ^ 62)<=L)(c:L<2 ^ 62)(d:-(2 ^ 62)<=gi)(i:gi<2 ^ 62)(q:R (LR L (gi-L).toNat) m):C3 (C4 f.prog f.w) f.A (pyIter (.ref r.heap.objs.size)) (Qe f cC B j R) i6 {r with heap:=r.heap.push {cls:=.type "range",data:=.fields [.int L Av,.int gi BA,.int 1 BB].toArray},toks:=l}:=by
 show wpAny_pyIter_range (IsRange.new ..) (small_one p c d i) ?_;have a:DM f cC B m {r with heap:=r.heap.push {cls:=.type "range",data:=.fields [.int L Av,.int gi BA,.int 1 BB].toArray},toks:=l}:=h.kept λb o e=>D6 _ e;show#[(r.heap.push {cls:=.type "range",data:=.fields [.int L Av,.int gi BA,.int 1 BB].toArray}).objs.size,[(r.heap.push {cls:=.type "range",data:=.fields [.int L Av,.int gi BA,.int 1 BB].toArray}).objs.size],_,#[5,_,m,Y,a.kept λb o e=>D6 _ e,gF _ L (gi-L).toNat,?_,λb g=>?_,q]];have k:L+((0:Nat):Int)*1=L:=by simp
 have n:(((gi-L).toNat:Nat):Int)-((0:Nat):Int)=Builtin.Range.rangeSize L gi 1:=by rw[rangeSize_one];split<;>lia
 rw[k,n];show GB _ Y;have e:b=(r.heap.push {cls:=.type "range",data:=.fields [.int L Av,.int gi BA,.int 1 BB].toArray}).objs.size:=by simpa using g
 subst e;show a.fpOk (D4 _)<|a.hok.fresh<|D4 _
def ye7 (b:TA):TI:=λU H R=>b U H λc a=>∃j:Int,c=[.int j]/\-(2 ^ 62)<=j/\j<2 ^ 62/\R (LR 0 j.toNat) a
def yc5 (b:TA):TI:=λU H R=>b U H λc a=>∃i j:Int,c=[.int i,.int j]/\(-(2 ^ 62)<=i/\i<2 ^ 62/\-(2 ^ 62)<=j/\j<2 ^ 62)/\R (LR i (j-i).toNat) a
variable {k8:TA}
def zb7(hg:Gl f "range")(i:f.mg "range"=D)(l:PA f [w] k8)(n: ~~~(A3 [w] f.env=[(Za,eval w f.env)])):PI f j (.Call (.Name "range" y) [w] [] K) (ye7 k8):=by
 intro b s U H R d h;show Call_<|xw d hg i boot_range<|JA (D1 (l K b s U H _ d h) λu x a=>?_) n Y;have Wd v p o m c:=a;have#[z,e,c,k,q]:=c;subst e;cases m with|cons r g=>cases g;have Wb t rfl:=r;show call_range_1<|kr o () () c k<|by simpa using q
def zc4(hg:Gl f "range")(m:f.mg "range"=D)(o:PA f [w,gV] k8)(v: ~~~(A3 [w,gV] f.env=[(Za,eval w f.env),(Za,eval gV f.env)]))(a: ~~~(A3 [gV] f.env=[(Za,eval gV f.env)])):
  PI f j (.Call (.Name "range" y) [w,gV] [] K) (yc5 k8):=by
 intro b s U H R g h;show Call_ (xw g hg m boot_range<|JA (D1 (o K b s U H _ g h) λA E #[B,z,x,p,d]=>?_) (by rw[v,a])<|by rw[a];rfl);have#[i,F,e,#[d,n,u,k],q]:=d;subst e;cases p with
 |cons r c=>
  cases c with|cons l c=>cases c;have Wb t rfl:=r;have Wb C rfl:=l;show call_range_2<|kr x d n u k q
def yp7 (k:TI)(g:TG)(h:TS):TS:=λc U H=>k U H λd f=>∃W:Nat->Nat->Tr,(∃m,W 0 m U f)/\∀i m U H,W i m U H->
 (d.stop i H/\c.nx U H)\/(d.go i H/\∃N:Tr,(∀b a,N b a->∃e,e<m/\W (i+1) e b a)/\∀x a,d.yld i H x a->g x U a λσ2 j=>h {c with nx:=N,ct:=N,bk:=c.nx} σ2 j)
def pf (a:TU)(h:C7):Tu:=a.filterMap λb=>(h.get? b).map λo=>(b,o)
def vB(a:i∈l8)(e:v.get? i=J j7):(i,j7)∈pf l8 v:=List.mem_filterMap.mpr #[i,a,by rw[e];rfl]
def za2{p:Ch×Z7}(c:p∈pf l8 v):p.1∈l8/\v.get? p.1=J p.2:=by
 have Wa b d e:=List.mem_filterMap.mp c;cases q:v.get? b with|none=>rw[q]at e;cases e|some o=>rw[q]at e;have a:=Hb e;subst a;show#[d,q]
def DM.pinned(g:DM f cC B m r)(hf:∀b∈l8,xH f cC m b)(k:∀b∈l8,∃o,r.heap.get? b=J o/\∀v,o.data≠.cell v):DM f (cC++pf l8 r.heap) B m r:=
 g.pins_of λp i=>(H9.mp i).elim (λz=>g.pin p<|JB _ z) λz=>by have Wc c e:=za2 z;have Wq h j l _:=hf p.1 c;have Wa o a d:=k p.1 c;rw[e]at a;cases a;show#[e,h,j,l,d]
def DM.unpinned(a:DM f (cC++Eb) B m r):DM f cC B m r:=a.pins_of λp b=>a.pin p<|JB _<|Kt _ b
variable {Cn:TI}
def zZ6(M:PassesOwn (C4 f.prog f.w) f.A f.env f.xe)(hc:f.calm=I)(hi:PI f j w Cn)(hg:PG f j Bv)(t:Hr f i7 Be)
  (hs: ~~~(∀x,Zz w f.env x=pure x)):PS f (.For j w i7 [] y) (yp7 Cn Bv Be):=by
 intro c s U H a8 a6 h;show wpAny_For (D1 (hi c s U H _ a6 h) λv s1 h1=>D1 h1 λa4 s2 h2=>?_) hs;have Wg it R S:=h2;have Wm tn a7 H2 e I2 T O:=S;have Ws a3 f2 W P turn:=O;have#[m0,w0]:=P;subst e;have g:∀{A:Hp},(∀b∈R,A b=D)->∀b∈R,xH f c A b:=λhn b t=>#[hn b t,(f2 b t).2];show codeAny_forLoop_any (λn s'=>∃i z A,DM f c z A s'/\tn i s'.heap/\(∀b∈R,A b=D)/\W i n z A) ?_ m0 #[3,0,U,H2,I2,a3,λb t=>(f2 b t).1,w0];rintro n s3 ⟨i,l,X,I3,E,L,w3⟩;rcases turn i n l X w3 with⟨stop,qn⟩|⟨go,N,hN,step⟩;show Ky M<|D1 (T.done f Y Y Y hc i c s3 l X f.xe I3 (g L) E stop) λr s4=>Wc λhr I4=>?_;subst hr;show LD #[l,X,I4,qn]
 show Ky M<|D1 (T.item f Y Y Y hc i c s3 l X f.xe I3 (g L) E go) λr s4=>Wa λu hr h4=>?_;subst hr;show Ky M<|D1 h4 λ_ s5=>Wp λx H5 I5 r5 y5 C a0=>?_;show Ky M<|D1 (hg _ s5 l H5 x u _ (I5.pinned (g a0)<|T.obj _ _ C) r5<|step x H5 y5) λ_ s6=>Wh λZ H6 I6 q6=>?_;show Ky M<|D1 (t _ s6 Z H6 _ I6 q6) λa5 s7 B=>?_;have k:∀{a:St} {p:Hp},DM f (c++pf R s5.heap) a p s7->N a p->∃m,m<n/\∃i z A,DM f c z A s7/\tn i s7.heap/\(∀b∈R,A b=D)/\W i m z A:=λ{a p} q G=>by have Wa m' hm w7:=hN a p G;show#[m',hm,#[3,i+1,a,p,q.unpinned,T.keep _ _ _ C λb t o e=>(q.pin (b,o)<|JB _<|JB _<|vB t e).1,λb t=>?_,w7]];have Wa o e d:=T.obj _ _ C b t;show(q.pin (b,o)<|JB _<|JB _<|vB t e).2.1
 cases a5 with|next=>have Wh a p q G:=B;show k q G|cont=>have Wh a p q G:=B;show k q G|brk=>have Wh a p q B:=B;show#[a,p,q.unpinned,B]|ret v=>have Wr x7 a p q r7 B:=B;show#[0,x7,a,p,q.unpinned,r7,B]
abbrev R2 :=V->V->Tq
def GK (X:Cx)(f:Bs->Bs->Sem Bs)(r:R2):Prop:=
 ∀(a:Tu) (s:C1) (U:St) (H:Hp) (x y:V) (v u:Bs) (Q:VK),DM X a U H s->DT x v->DT y u->r x y H Q->
  C3 (C4 X.prog X.w) X.A (f v u) (EP X a U Q) X.xe s
def NX (X:Cx)(f:Bs->Sem Bs)(r:V->Tq):Prop:=
 ∀(a:Tu) (s:C1) (U:St) (H:Hp) (x:V) (v:Bs) (Q:VK),DM X a U H s->DT x v->r x H Q->
  C3 (C4 X.prog X.w) X.A (f v) (EP X a U Q) X.xe s
def yL (X:Cx)(f:Bs)(r:TM->Tq):Prop:=
 ∀(a:Tu) (s:C1) (U:St) (H:Hp) (xs:TM) (us:TQ) (Q:VK),DM X a U H s->DS xs us->r xs H Q->
  C3 (C4 X.prog X.w) X.A (call f us) (EP X a U Q) X.xe s
def yn4 (X:Cx)(r:V->Hp->(Ts)->Prop):Prop:=
 ∀(a:Tu) (s:C1) (U:St) (H:Hp) (x:V) (v:Bs) (Q:Ts),DM X a U H s->DT x v->r x H Q->
  C3 (C4 X.prog X.w) X.A (truthy v) (TP X a U Q) X.xe s
def MM (r:R2)(d b:TE):TE:=λU H Q=>d U H λx a=>b U a λy c=>r x y c Q
def tUn (r:V->Tq)(b:TE):TE:=λU H Q=>b U H λx a=>r x a Q
def rI (C:Int->Int->Prop)(g:Int->Int->V):R2:=λx y H Q=>∃i j,x=.int i/\y=.int j/\C i j/\Q (g i j) H
def IU (g:Int->Int->V):R2:=λx y H Q=>∃i j,x=.int i/\y=.int j/\Q (g i j) H
def rU (g:Int->V):V->Tq:=λx H Q=>∃i,x=.int i/\Q (g i) H
variable {BZ:Bs->Bs->Sem Bs}
def NY (t:PE f j j3)(l:PE f w v9){R:V->V->Ui}(n:DM f cC B m r)(h:j3 B m λx i=>v9 B i λy a=>R x y a)(hf:∀v u g x y a,DM f cC B a g->DT x v->DT y u->R x y a->C3 (C4 f.prog f.w) f.A (BZ v u) i6 f.xe g):C3 (C4 f.prog f.w) f.A (eval j f.env) (λv d=>C3 (C4 f.prog f.w) f.A (eval w f.env) (λu e=>C3 (C4 f.prog f.w) f.A (BZ v u) i6 f.xe e) f.xe d) f.xe r:=by show D1 (t cC r B m _ n h) λv p=>Wd λx i A z o=>?_;show D1 (l cC p B i _ A o) λu g=>Wd λy a k q s=>?_;show hf v u g x y a k z q s
variable {Co:Operator}{A4 Ee:R2}
def wq(n:GK f (ZG Co) A4)(l:PE f j j3)(g:PE f w v9):PE f (.BinOp j Co w y) (MM A4 j3 v9):=by intro a s U H Q e h;show wpAny_BinOp<|NY l g e h λv u k x i d b m c q=>n a k U d x i v u Q b m c q
def NZ {c:UnaryOp}{r:V->Tq}(m:NX f (unaryOp c) r)(k:PE f j j3):PE f (.UnaryOp c j y) (tUn r j3):=by intro a s U H Q e h;show UnaryOp_ (D1 (k a s U H _ e h) λv i b=>by have Wd x d n l g:=b;show m a i U d x v Q n l g)
variable {C8:Int->Int->Int}{Ef:Int->Int->Prop}
def MN(a:∀(i j:Int) (t u:Tok) (s:C1) (Q:To) (E:To),Ef i j->Q (.int (C8 i j) s.toks) {s with toks:=s.toks+1}->C3 (C4 f.prog f.w) f.A (BZ (.int i t)<|.int j u) Q E s):GK f BZ (rI Ef λi j=>.int<|C8 i j):=by intro b s U H x y v u Q d k c h;have Wj i j rfl rfl g q:=h;have Wb t rfl:=k;have Wb e rfl:=c;show a i j t e s _ _ g #[.int<|C8 i j,H,d.tok _,#[_,Y],q]
def Qg(a:∀(i j:Int) (t u:Tok) (s:C1) (Q:To) (E:To),Q (.int (C8 i j) s.toks) {s with toks:=s.toks+1}->C3 (C4 f.prog f.w) f.A (BZ (.int i t)<|.int j u) Q E s):GK f BZ (IU λi j=>.int<|C8 i j):=by intro b s U H x y v u Q d g c h;have Wd i j rfl rfl q:=h;have Wb t rfl:=g;have Wb e rfl:=c;show a i j t e s _ _ #[.int<|C8 i j,H,d.tok _,#[_,Y],q]
variable {Bw:Int->Int->Bool}
def MO(a:∀(i j:Int) (t u:Tok) (s:C1) (Q:To) (E:To),Q (.bool (Bw i j)) s->C3 (C4 f.prog f.w) f.A (BZ (.int i t) (.int j u)) Q E s):GK f BZ (IU λi j=>.bl (Bw i j)):=by intro b s U H x y v u Q d g c h;have Wd i j rfl rfl q:=h;have Wb t rfl:=g;have Wb e rfl:=c;show a i j t e s _ _ #[.bl<|Bw i j,H,d,Y,q]
def N0 (i j:Int):Prop:=0<=j/\j<=1000000/\i.natAbs<2 ^ 64
def MP (i j:Int):Prop:=(-(2 ^ 64)<i/\i<2 ^ 64)\/(-(2 ^ 64)<j/\j<2 ^ 64)
def MP.ok(h:MP L gi):IntMulOk L gi:=by
 rcases h with⟨a,b⟩|⟨a,b⟩;show .of_left<|intBits_le_64 a b
 show .of_right<|intBits_le_64 a b
def nX :GK f (ZG .Add) (IU λi j=>.int (i+j)):=Qg λ_ _ _ _ _ _ _ q=>add_int q
def z83 :GK f (ZG .Sub) (IU λi j=>.int (i-j)):=Qg λ_ _ _ _ _ _ _ q=>sub_int q
def lM :GK f (ZG .Mult) (rI MP λi j=>.int (i*j)):=MN λ_ _ _ _ _ _ _ a q=>mul_int q a.ok
def om :GK f (ZG .Mod) (rI (λ_ j=>0<j) λi j=>.int (i % j)):=MN λi j _ _ _ _ _ a q=>by show mod_int' (BW a)<|by rw[Int.fmod_eq_emod_of_nonneg i (Int.le_of_lt a)];show q
def z75 :GK f (ZG .Pow) (rI N0 λi j=>.int (i ^ j.toNat)):=MN λ_ _ _ _ _ _ _ a q=>pow_int_small a.1 a.2.1 a.2.2 q
def unI {c:Bs->Sem Bs}{g:Int->Int}(a:∀(i:Int) (t:Tok) (s:C1) (Q:To) (E:To),Q (.int (g i) s.toks) {s with toks:=s.toks+1}->C3 (C4 f.prog f.w) f.A (c<|.int i t) Q E s):NX f c (rU λi=>.int<|g i):=by intro b s U H x v Q d e h;have Wa i rfl q:=h;have Wb t rfl:=e;show a i t s _ _ #[.int<|g i,H,d.tok _,#[_,Y],q]
def gY :NX f (unaryOp .USub) (rU λi=>.int (-i)):=unI λ_ _ _ _ _ q=>neg_int q
def Qh :V->V->Bool
 |.non,.non=>I|.non,.int _=>I|.int _,.non=>I|.non,.bl _=>I|.bl _,.non=>I|.non,.str _=>I|.str _,.non=>I
 |.int _,.int _=>I|.bl _,.bl _=>I|.str _,.str _=>I|.byt _,.byt _=>I
 |.int _,.str _=>I|.str _,.int _=>I|.bl _,.str _=>I|.str _,.bl _=>I
 |_,_=>Za
def MQ :R2:=λx y H Q=>Qh x y=I/\Q (.bl<|decide<|x=y) H
def MS :R2:=λx y H Q=>Qh x y=I/\Q (.bl<|!decide (x=y)) H
def bD:decide (V.int L=V.int gi)=(L == gi):=by rw[MA];simp
variable {j8 Ba:Bool}
def Qi:decide (V.bl j8=V.bl Ba)=(j8 == Ba):=by rw[MA];simp
def di:decide (V.str p=V.str H)=(p == H):=by rw[MA];simp
variable {EH EI:Array UInt8}
def dX:decide (V.byt EH=V.byt EI)=(EH.toList == EI.toList):=by rw[MA];cases EH;cases EI;simp
variable {Ae:VK}
def zR(a:DM f cC B m r)(q:Ae (.bl j8) m)(e:j8=Ba):EP f cC B Ae (.bool Ba) r:=by subst e;show#[.bl j8,m,a,Y,q]
def Qj :GK f (Z5 .Eq) MQ:=by
 intro g s U H x y v u Q b e a h;have Wc d q:=h;cases x with
 |non=>
  cases e;cases y with|non=>cases a;show PySem.EqNone.eq_none_none (zR b q<|by simp)|bl j=>cases a;show PySem.EqNone.eq_none_bool (zR b q<|by simp)|int j=>have Wb c rfl:=a;show PySem.EqNone.eq_none_int (zR b q<|by simp)|str j=>have Wb c rfl:=a;show PySem.EqNone.eq_none_str (zR b q<|by simp)|_=>show Ut (d) Hq
 |bl i=>
  cases e;cases y with|non=>cases a;show PySem.EqNone.eq_bool_none (zR b q<|by simp)|bl j=>cases a;show eq_bool (zR b q Qi)|str j=>have Wb c rfl:=a;show PySem.EqMixed.eq_bool_str (zR b q<|by simp)|_=>show Ut (d) Hq
 |int i=>
  have Wb t rfl:=e;cases y with|non=>cases a;show PySem.EqNone.eq_int_none (zR b q<|by simp)|int j=>have Wb c rfl:=a;show eq_int (zR b q bD)|str j=>have Wb c rfl:=a;show PySem.EqMixed.eq_int_str (zR b q<|by simp)|_=>show Ut (d) Hq
 |str i=>
  have Wb t rfl:=e;cases y with|non=>cases a;show PySem.EqNone.eq_str_none (zR b q<|by simp)|bl j=>cases a;show PySem.EqMixed.eq_str_bool (zR b q<|by simp)|int j=>have Wb c rfl:=a;show PySem.EqMixed.eq_str_int (zR b q<|by simp)|str j=>have Wb c rfl:=a;show eq_str (zR b q di)|_=>show Ut (d) Hq
 |byt i=>
  have Wb t rfl:=e;cases y with|byt j=>have Wb c rfl:=a;show PySem.W.eq_bytes (zR b q dX)|_=>show Ut (d) Hq
 |_=>cases y<;>show Ut (d) Hq
def yc7 :GK f (Z5 .NotEq) MS:=by
 intro g s U H x y v u Q b e a h;have Wc d q:=h;cases x with
 |non=>
  cases e;cases y with|non=>cases a;show PySem.EqNone.ne_none_none (zR b q<|by simp)|bl j=>cases a;show PySem.EqNone.ne_none_bool (zR b q<|by simp)|int j=>have Wb c rfl:=a;show PySem.EqNone.ne_none_int (zR b q<|by simp)|str j=>have Wb c rfl:=a;show PySem.EqNone.ne_none_str (zR b q<|by simp)|_=>show Ut (d) Hq
 |bl i=>
  cases e;cases y with|non=>cases a;show PySem.EqNone.ne_bool_none (zR b q<|by simp)|bl j=>cases a;show ne_bool (zR b q<|Uu not Qi)|str j=>have Wb c rfl:=a;show PySem.EqMixed.ne_bool_str (zR b q<|by simp)|_=>show Ut (d) Hq
 |int i=>
  have Wb t rfl:=e;cases y with|non=>cases a;show PySem.EqNone.ne_int_none (zR b q<|by simp)|int j=>have Wb c rfl:=a;show ne_int (zR b q<|Uu not bD)|str j=>have Wb c rfl:=a;show PySem.EqMixed.ne_int_str (zR b q<|by simp)|_=>show Ut (d) Hq
 |str i=>
  have Wb t rfl:=e;cases y with|non=>cases a;show PySem.EqNone.ne_str_none (zR b q<|by simp)|bl j=>cases a;show PySem.EqMixed.ne_str_bool (zR b q<|by simp)|int j=>have Wb c rfl:=a;show PySem.EqMixed.ne_str_int (zR b q<|by simp)|str j=>have Wb c rfl:=a;show ne_str (zR b q<|Uu not di)|_=>show Ut (d) Hq
 |byt i=>
  have Wb t rfl:=e;cases y with|byt j=>have Wb c rfl:=a;show PySem.W.ne_bytes (zR b q<|Uu not dX)|_=>show Ut (d) Hq
 |_=>cases y<;>show Ut (d) Hq
def Qk :GK f (Z5 .Lt) (IU λi j=>.bl (decide (i<j))):=MO λ_ _ _ _ _ _ _ q=>lt_int q
def N1 :GK f (Z5 .LtE) (IU λi j=>.bl (decide (i<=j))):=MO λ_ _ _ _ _ _ _ q=>le_int q
def Ql :GK f (Z5 .Gt) (IU λi j=>.bl (decide (j<i))):=MO λ_ _ _ _ _ _ _ q=>gt_int q
def yh0 :GK f (Z5 .GtE) (IU λi j=>.bl (decide (j<=i))):=MO λ_ _ _ _ _ _ _ q=>ge_int q
def Qm :GK f (Z5 .Is) (λx y H Q=>y=.non/\Q (.bl (decide (x=.non))) H):=by
 intro a s U H x y v u Q d b c h;have Wc rfl q:=h;cases c;show is_none_gen<|zR d q ?_;cases x<;>first
  |(cases b;rfl)
  |(have Wb t rfl:=b;rfl)
def zO2 :GK f (Z5 .IsNot) (λx y H Q=>y=.non/\Q (.bl (!decide (x=.non))) H):=by
 intro a s U H x y v u Q d b c h;have Wc rfl q:=h;cases c;show isnot_none_gen<|zR d q ?_;cases x<;>first
  |(cases b;rfl)
  |(have Wb t rfl:=b;rfl)
variable {u7 Cp:CmpOp}
def yN (b:Dc)(h:‹u7≠.In›)(a:‹u7≠.NotIn›):ZB u7 b=Za:=by
 have c:(u7 == CmpOp.In)=Za:=by cases u7<;>first|rfl|show Ut Y h
 have d:(u7 == CmpOp.NotIn)=Za:=by cases u7<;>first|rfl|show Ut Y a
 cases b<;>simp[ZB,c,d]
def rZ(o:GK f (Z5 u7) A4)(m:PE f j j3)(g:PE f w v9)(l:ZB u7 w=Za):PE f (.Compare j [u7] [w] y) (MM A4 j3 v9):=by intro a s U H Q e h;show wpAny_Compare1 (NY m g e h λv u k x i d b n c q=>o a k U d x i v u Q b n c q) l
def yj6 (t:TE):TT:=λU H Q=>t U H λx a=>∃k,x=.bl k/\Q k a
def qc(d:GK f (Z5 u7) A4)(C:PE f j j3)(m:PE f w v9)(r:ZB u7 w=Za):PT f (.Compare j [u7] [w] y) (yj6 (MM A4 j3 v9)):=by
 intro a s U H Q l h;show wpAny_isTrue_Compare1 (D1 (C a s U H _ l h) λv t #[x,b,K,E,o]=>D1 (m a t U b _ K o) λu q #[n,g,c,A,B]=>
  D1 (d a q U g x n v u _ c E A B) λgV L #[z,i,F,p,k,e,G]=>?_) r
 subst e;cases p;show J9 #[i,F,G]
def z49 (r i:R2)(h d c:TE):TE:=λU H Q=>h U H λx b=>d U b λy e=>r x y e λz a=>∃k,z=.bl k/\
 (if k=I then c U a λg f=>i y g f Q else Q (.bl Za) a)
def zo8(X:GK f (Z5 u7) A4)(b:GK f (Z5 Cp) Ee)(S:PE f j j3)(K:PE f w v9)(C:PE f gV BO)
  (N:lastMarks [u7,Cp] [w,gV]=Za:=by with_unfolding_all rfl):PE f (.Compare j [u7,Cp] [w,gV] y) (z49 A4 Ee j3 v9 BO):=by
 intro a s U H Q q h;show Compare_chain (D1 (S a s U H _ q h) λv O #[x,F,E,V,M]=>chain_link (D1 (K a O U F _ E M) λu A #[c,p,o,g,P]=>
  D1 (X a A U p x c v u _ o V g P) λd T #[z,l,i,t,k,e,m]=>?_)) N
 subst e;cases t;show J9 ?_;cases k with|false=>show ite_ff #[.bl Za,l,i,Y,m]|true=>show ite_tt<|chain_last<|D1 (C a T U l _ i m) λr R #[W,L,G,B,n]=>b a R U L c W u r Q G g B n
def Qn (K:Cl)(x:V)(H:Hp)(k:Bool):Prop:=
 match x with
 |.non=>k=Za
 |.bl j=>k=j
 |.int i=>k=(i != 0)
 |.str y=>y.length<=Zw/\k=((y.length:Int) != 0)
 |.byt y=>y.size<=Zw/\k=((y.size:Int) != 0)
 |.ref p=>(∃xs,D3 K H p xs/\k=!xs.isEmpty)\/(∃xs,HM K H p xs/\k=!xs.isEmpty)\/∃a,H p=J (.dK a)/\k=!a.isEmpty
 |_=>False
def gh{a:List (u3×V)}{b:List (u3×Bs)}(r:KV a b):(!b.isEmpty)=!a.isEmpty:=by cases r<;>rfl
def pW(r:DS dU g7):(!g7.toArray.isEmpty)=!dU.isEmpty:=by cases r<;>simp
def qL :(Zw:Nat)<2 ^ 63:=by rw[Hf];decide
def z43 :yn4 f (λx H Q=>∃k,Qn f.K x H k/\Q k H):=by
 intro w s U H x v Q b c h;have Wa k e q:=h;have g:=Hf;cases x with
 |non=>cases c;have a:=e;subst a;show truthy_none #[H,b,q]
 |bl j=>cases c;have a:=e;subst a;show J9 #[H,b,q]
 |int i=>have Wb t rfl:=c;have a:=e;subst a;show PySem.P.truthy_int #[H,b,q]
 |str y=>have Wb t rfl:=c;have Wc n a:=e;subst a;show PySem.P.truthy_str (ye9 g n) #[H,b.tok _,q]
 |byt y=>have Wb t rfl:=c;have Wc n a:=e;subst a;show PySem.W.truthy_bytes (yc6 g n) #[H,b.tok _,q]
 |ref p=>
  cases c;have a:=e;rcases a with⟨xs,d,a⟩|⟨xs,d,a⟩|⟨kvs,d,a⟩;subst a;have We u r o l:=b.list d;show wpAny_truthy_list o.isList (by simp only[GS];show NB g r.length l) #[H,b.tok _,by rw[pW r];show q]
  subst a;have We u r o l:=b.tuple d;show truthy_tuple o (by simp only[GS];show NB g r.length l) #[H,b.tok _,by rw[pW r];show q];subst a;have Ws l z A r m:=b.hok p _ d;show wpAny_truthy_dict z m (NB g (Paired.length r) l) #[H,b.tok _,by rw[gh r];show q]
 |_=>show(e).elim
def zl2 (n:PE f j j3)(l:∀a,isTrue j f.env a=(do let v <-a;Z8 j.pos;Z9 [v] (truthy v))):
  PT f j (λU H Q=>j3 U H λx d=>∃k,Qn f.K x d k/\Q k d):=by intro b s U H Q g h;show isTrue_plain (D1 (n b s U H _ g h) λv m c=>by have Wd x e p o i:=c;show z43 b m U e x v Q p o i)<|l _
def G6(r:DS [e9] g7):∃u,g7=[u]/\DT e9 u:=by
 cases r with|cons a b=>cases b;show#[_,Y,a]
def Kh(r:DS [e9,v8] g7):∃u a,g7=[u,a]/\DT e9 u/\DT v8 a:=by
 cases r with
 |cons d b=>
  cases b with|cons c e=>cases e;show#[_,_,Y,d,c]
def ze5 (g:f.calm=I):yL f (.builtin "max") (λxs H Q=>∃i j,xs=[.int i,.int j]/\Q (.int (if j > i then j else i)) H):=by intro e s U H xs l Q d r h;have Wh i j rfl q:=h;have Wd u m rfl b a:=Kh r;have#[t,rfl]:=b;have#[n,rfl]:=a;show max_two_ints (d.ok.hd g) λp o k=>#[_,H,d.kept k,?_,q];by_cases c:j > i;rw[Ur c,Ur c];show#[_,Y];rw[Us c,Us c];show#[_,Y]
def za3 (g:f.calm=I):yL f (.builtin "min") (λxs H Q=>∃i j,xs=[.int i,.int j]/\Q (.int (if j<i then j else i)) H):=by intro e s U H xs l Q d r h;have Wh i j rfl q:=h;have Wd u m rfl a b:=Kh r;have#[t,rfl]:=a;have#[n,rfl]:=b;show min_two_ints (d.ok.hd g) λp o k=>#[_,H,d.kept k,?_,q];by_cases c:j<i;rw[Ur c,Ur c];show#[_,Y];rw[Us c,Us c];show#[_,Y]
structure iY (h:C7)(x dx C:Ch)(mA:Tt):Prop where
 obj:h.get? x=J (Zp C dx)
 ns:h.Ns1 dx mA
 ne:dx≠x
variable {C:Tt}
def oH(n:v.Ns1 i C):∃d,v.get? i=J d/\∀b,Zu b d=J (C b):=by
 have#[o,f,m,l,j,hk,_,k]:=n;show#[o,l,λb=>?_];have e:=k b;unfold nsFind findBy at e;rw[<-Dn]at e;unfold Zu;rw[j];dsimp only;split;rename_i y q;rw[q]at e;show Uu J e;rename_i q;rw[q]at e;have a:f.toList.any (·.refKey)=Za:=by rw[List.any_eq_false];intro y g;have Wg z t c:=hk y<|Array.mem_toList_iff.mp g;simp[DictEntry.refKey,c]
 have h:¬f.toList.any (·.refKey)=I:=by rw[a];show Hq
 rw[Us h];show Uu J e
def iY.look(c:iY v i x R C):∃b,PySem.W.InstAt v i (Zp R x) R (J b)/\∀a,Zu a b=J (C a):=
 let⟨b,ho,hl⟩:=oH c.ns
 #[b,#[c.obj,Y,Y,ho],hl]
def J0(X:q.In r.heap)(d:iY r.heap i x R C)(hg:Zq q R p=I)(b:Zm q R=I)(c:Zi q (.ref R) p=J D) (e:C p=J f9) (a:PySem.W.handedIn f9=I) (h:nU f9 {r with toks:=r.toks+1}):C3 (C4 E s) d9 (getAttr (.ref i) p j8) nU i6 r:=by have Wa j g f:=d.look;show PySem.W.get_value X g (Nx hg).1 (Dk b c Y<|by rw[f,e]) a h
variable {AB:Sem Bool}
def zr0{Q:Bs×TQ->Uh}(X:q.In r.heap)(b:iY r.heap i x R C)(hg:Zq q R p=I)(hf:Zi q (.ref R) p=J (J (.ref oa))) (e:Zk q (.ref oa)=I) (c:C p=D) (h:Q (.ref oa,[.ref i]) r):C3 (C4 E s) d9 (Z6 (.ref i) p AB) Q i6 r:=by have Wa a f d:=b.look;show PySem.W.method_fn X f (Nx hg).1 (Nx hg).2 hf (Iz.mp e) (by change(Zu p a).map (·.isSome)=J Za;rw[d,c];rfl) h
def zL2(X:q.In r.heap)(a:iY r.heap i x R C)(z:Zi q (.ref R) "__setattr__"=J (J (.builtin "object.__setattr__"))) (w:Zr q R=I) (u:CJ q R p=J D) (o:Zm q R=I)(hw:PySem.Within C S) (k:S.length<=Zw)(h:∀e,iY e i x R (λy=>if y=p then J f9 else C y)->Heap.SameBut x r.heap e->y7 Unit.unit {r with heap:=e,toks:=r.toks+2}):C3 (C4 E s) d9 (setAttr (.ref i) p f9) y7 i6 r:=by have Wa F m G:=a.look;show PySem.W.set_plain X m z<|PySem.W.osa_open X m w u λb=>?_;have Wa B v g:=PySem.W.any_some o;show DL<|DX<|DL<|DL<|wpAny_loadPart a.obj<|DL<|PySem.W.Looks.here (PySem.W.looks_clsIn X v) ?_;rw[g];show DX<|DL<|DX<|DL<|wpAny_nsSet1 a.ns λe d c=>?_;have Wr A t n j f l:=d.count<|PySem.Within.cons p f9 hw;show DL (wpAny_lookBehind j (by rw[f];show pastItsLine_dict<|Gg l<|by rw[G3];show MF k<|D4 _) ?_);show DX<|h _ #[(c.2 _<|Gx a.ne).trans a.obj,d,a.ne] c
variable {A5:Result->Uh}{C9:TC}
def jX{f:Ch}(X:q.In r.heap)(a:Zs q i=I)(b:Zi q (.ref i) "__init__"=J (J (.ref f))) (hf:Zt q (.ref f)=J (.type "function"))(h:ZH (C4 E s) (d9.under (.builtin "type.__call__" #[.ref i::g7,C9])) (.call (.ref f) #[.ref (r.heap.objs.size+1)::g7,C9]) (PySem.W.InitBack (r.heap.objs.size+1) A5) {r with heap:=(r.heap.push Zn).push<|Zp i r.heap.objs.size}):ZH (C4 E s) d9 (.call (.ref i) #[g7,C9]) A5 r:=by have#[c,g,d,t,e]:=r;show PySem.W.make_core (PySem.W.makes_of X a) (PySem.W.looks_findIn X b) (λself=>PySem.W.bind_fn X self hf) (.inl Y) h
def yZ (f:Zv)(v:V):Tw->Tw
 |[]=>[(f,v)]
 |(g,x)::r=>if g=f then(g,v)::r else(g,x)::yZ f v r
theorem sX (f g:Zv)(v:V):∀b:Tw,(yZ f v b).lookup g=if g=f then J v else b.lookup g
 |[]=>by change List.lookup g [(f,v)]=_;by_cases h:g=f;have a:(g == f)=I:=Iz.mpr h;simp only[List.lookup,a,Ur h];have a:=JW.mpr h;simp only[List.lookup,a,Us h]
 |(k,x)::r=>by rw[show yZ f v ((k,x)::r)=(if k=f then(k,v)::r else(k,x)::yZ f v r)from Y];by_cases hk:k=f;rw[Ur hk];by_cases h:g=k;have a:=Iz.mpr h;simp only[List.lookup,a,Ur (h.trans hk)];have a:=JW.mpr h;simp only[List.lookup,a,Us (λe:g=f=>h<|e.trans hk.symm)];rw[Us hk];by_cases h:g=k;have a:=Iz.mpr h;simp only[List.lookup,a,Us (λe:g=f=>hk<|h.symm.trans e)];have a:=JW.mpr h;simp only[List.lookup,a];show(sX f g v r)
theorem sj (f:Zv)(v:V):∀a:Tw,f∈(yZ f v a).map (·.1)/\∀g,g∈a.map (·.1)->g∈(yZ f v a).map (·.1)
 |[]=>#[by simp[yZ],λg h=>by simp at h]
 |(k,x)::r=>by
  have Wc c b:=sj f v r;rw[show yZ f v ((k,x)::r)=(if k=f then(k,v)::r else(k,x)::yZ f v r)from Y];by_cases hk:k=f;rw[Ur hk];subst hk;show#[by simp,λg h=>by simpa using h];rw[Us hk];show#[?_,λg h=>?_];rw[GW];show GH _ c;rw[GW]at h ⊢;rcases D7.mp h with e|e;show D7.mpr<|.inl e
  show GH _<|b g e
theorem sU (f:Zv)(v:V):∀a:Tw,(yZ f v a).length<=a.length+1
 |[]=>by simp[yZ]
 |(k,x)::r=>by have b:=sU f v r;rw[show yZ f v ((k,x)::r)=(if k=f then(k,v)::r else(k,x)::yZ f v r)from Y];by_cases hk:k=f;rw[Ur hk,G3,G3];show GU _ _;rw[Us hk,G3,G3];show MF b<|D4 _
def vG.some_of {v:V}{o:T8}(r:vG (J v) o):∃u,o=J u/\DT v u:=by
 cases o with|none=>show(r).elim|some u=>show#[u,Y,r]
variable {u5:T8}
def vG.none_of(r:vG D u5):u5=D:=by
 cases u5 with|none=>rfl|some u=>show(r).elim
def oR(r:DT e9 f9):PySem.W.handedIn f9=I:=by
 cases e9 with|non=>cases(r);rfl|bl b=>cases(r);rfl|int i=>have Wb t e:=(r);cases e;rfl|str x=>have Wb t e:=(r);cases e;rfl|byt b=>have Wb t e:=(r);cases e;rfl|flt b=>have Wb t e:=(r);cases e;rfl|ref a=>cases(r);rfl|ty n=>cases(r);rfl
variable {o9:Tw}
def rJ (c:GZ E s m v)(e:m i=J (.ins x R o9)):∃a,iY v i R x a/\(∀f,vG (o9.lookup f) (a f))/\PySem.Within a (o9.map (·.1))/\o9.length<=1000/\m R=J (.own i):=by have Wn d z h g b:=(c i _ e);have We a n r q:=b;show#[a,#[g,n,h],#[r,q,z,d]]
structure GP (K:Cl)(C:Ch):Prop where
 pg:Zq K C Zv.empty=I
 hd:Zm K C=I
 po:Zr K C=I
 sa:Zi K (.ref C) "__setattr__"=J (J<|.builtin "object.__setattr__")
def GP.get(c:GP q i)(f:Zv):Zq q i f=I:=c.pg
def zL (K:Cl)(C:Ch)(f:Zv):Prop:=Zi K (.ref C) f=J D
def zL.taker(n:zL q i p):CJ q i p=J D:=by unfold CJ;rw[show Zi q (.ref i) p=J D from n];rfl
structure Ge (K:Cl)(C:Ch)(m:Zv)(f:Ch):Prop where
 at_:Zi K (.ref C) m=J (J<|.ref f)
 fn:Zk K (.ref f)=I
 kp:Zh K (.ref f)=I
def gu(a:DM f cC B m r)(e:m i=J (.ins x R o9))(c:GP f.K x)(n:zL f.K x p)(l:o9.lookup p=J e9)(h:∀u d,DM f cC B m d->DT e9 u->nU u d):C3 (C4 f.prog f.w) d9 (getAttr (.ref i) p j8) nU i6 r:=by have#[k,O,g,_,_,_]:=rJ a.hok e;have Wa u j b:=vG.some_of (by rw[<-l];show g p);show J0 a.kIn O (c.get p) c.hd n j (oR b)<|h u _ (a.tok _) b
def xZ{Q:Bs×TQ->Uh}(a:DM f cC B m r)(e:m i=J (.ins x R o9))(c:GP f.K x)(k:Ge f.K x p oa)(l:o9.lookup p=D)(h:Q (.ref oa,[.ref i]) r):C3 (C4 f.prog f.w) d9 (Z6 (.ref i) p AB) Q i6 r:=by have#[g,O,b,_,_,_]:=rJ a.hok e;have d:=vG.none_of (by rw[<-l];show b p);show zr0 a.kIn O (c.get p) k.at_ k.fn d h
theorem iW(d:DM f cC B m r)(e:m i=J (.ins x R o9))(c:GP f.K x)(n:zL f.K x p)(E:o9.length<1000)(t:DT e9 f9)(h:∀j,DM f cC B (upd m i (.ins x R (yZ p e9 o9))) j->y7 Unit.unit j):C3 (C4 f.prog f.w) d9 (setAttr (.ref i) p f9) y7 i6 r:=by
 have#[y,O,A,k,_,l]:=rJ d.hok e;have w:(o9.map (·.1)).length<=Zw:=by rw[DZ,Hf];lia
 show zL2 d.kIn O c.sa c.po n.taker c.hd k w λC a v=>h _ ?_;have u:∃o,C.get? R=J o:=let⟨o,_,_,e',_⟩:=a.ns;#[o,e'];show d.write (by rw[e];show True.intro) (.inr l) (λb q s z=>(v.2 b s).trans z) u ?_;show#[by rw[zg O.ne];show l,?_,O.ne,a.obj,#[_,a.ns,λg=>?_,λg hg=>?_]];have:=sU p e9 o9;show Gg this E;rw[sX];by_cases q:g=p;rw[Ur q,Ur q];show t;rw[Us q,Us q];show A g;by_cases q:g=p;rw[q];show(sj p e9 o9).1;show(sj p e9 o9).2 g<|k g λz=>hg ?_;change(if g=p then J f9 else y g)=D;rw[Us q];show z
def DM.made{C:Ch} (g:DM f cC B m r):DM f cC B (upd (upd m r.heap.objs.size (.own (r.heap.objs.size+1))) (r.heap.objs.size+1) (.ins C r.heap.objs.size [])) {r with heap:=(r.heap.push Zn).push<|Zp C r.heap.objs.size}:=by
 have a:(r.heap.push Zn).get? r.heap.objs.size=J Zn:=GB r.heap Y;have i:((r.heap.push Zn).push<|Zp C r.heap.objs.size).get? (r.heap.objs.size+1)=J (Zp C r.heap.objs.size):=by have:=GB (r.heap.push Zn) (o:=Zp C r.heap.objs.size) Y;rwa [IM]at this
 have j:(r.heap.push Zn).Ns r.heap.objs.size (λ_=>D):=#[3,Zn,[].toArray,_,a,Y,(λe h=>Ut h<|by simp),λ_=>Y];show(g.laid (o:=.own<|r.heap.objs.size+1) (t':=r.toks) (λb u q=>D6 _ q) (D4 _) #[_,a]).laid (λb u q=>D6 _ q) (Gu<|IM _ _) ?_;have c:r.heap.objs.size≠r.heap.objs.size+1:=Gp<|Ii _;show#[by rw[zg c,zi],Gj _,c,i,#[λ_=>D,(Heap.Ns1.of_empty j).at λo q=>D6 _ q,λ_=>True.intro,λy d=>Ut Y d]]
variable {q0:Df}
def cp(b:Z0 j p q0 (eval j q0)=eval j q0)(h:C3 (C4 E s) d9 (eval j q0) (λo a=>C3 (C4 E s) d9 (getAttr o p I) nU i6 a) i6 r):C3 (C4 E s) d9 (eval (.Attribute j p y) q0) nU i6 r:=
 Attribute_any_ h (by rw[arm_eval_Attribute,b])
def yo4 (K:Cl)(e:TE)(f:Zv):TE:=λU H Q=>e U H λx b=>∃a C d c v,x=.ref a/\b a=J (.ins C d c)/\GP K C/\zL K C f/\c.lookup f=J v/\Q v b
def ym0 (K:Cl)(i h:TE)(f:Zv):TS:=λg U H=>h U H λy e=>i U e λx d=>∃a C c b,x=.ref a/\d a=J (.ins C c b)/\GP K C/\zL K C f/\b.length<1000/\
 g.nx U (upd d a<|.ins C c<|yZ f y b)
def pO (r:PE f j j3)(m:Z0 j p f.env (eval j f.env)=eval j f.env):PE f (.Attribute j p y) (yo4 f.K j3 p):=by intro g s U H Q o h;show cp m<|D1 (r g s U H _ o h) λu K=>Wd λx i B A b=>?_;have Wg a C e:=b;have Wu E G v t w c n l q:=e;subst t;obtain rfl:u=Zf a:=A;show gu B w c n l λL F k z=>#[v,i,k,z,q]
def xV (v:PE f j j3)(k:PE f w v9)(E:Z1 w (J (.Attribute j p K)) y.line f.env=pure Za):PS f (.Assign [.Attribute j p K] w y) (ym0 f.K j3 v9 p):=by intro b s U H M i h;show plainObj_wpAny_Assign_Attribute (D1 (k b s U H _ i h) λu r #[N,d,F,g,q]=>D1 (v b r U d _ F q) λo O #[x,L,e,B,a,C,G,P,m,z,c,n,l,t]=>?_) E;subst m;obtain rfl:o=Zf a:=B;show iW e z c n l g λQ A=>#[U,_,A,t]
def zU6(w:PE f j j3)(v:DM f cC B m r)
  (h:j3 B m λx n=>∃a C s o g,x=.ref a/\n a=J (.ins C s o)/\GP f.K C/\Ge f.K C H g/\o.lookup H=D/\
   ∀i,DM f cC B n i->C3 (C4 f.prog f.w) f.A (ZA y (.ref g) [.ref a] (Zx y<|A3 O f.env) (Z4 y<|Zy [] f.env)) i6 f.xe i)
  (z:eval (.Call (.Attribute j H K) O [] y) f.env=(do
   let ov <-eval j f.env
   Z8 K.atName
   let(p,first) <-Z9 [ov] (Z6 ov H AB)
   ZA y p first (Zx y<|A3 O f.env) (Z4 y<|Zy [] f.env))):
  C3 (C4 f.prog f.w) f.A (eval (.Call (.Attribute j H K) O [] y) f.env) i6 f.xe r:=by show KW (D1 (w cC r B m _ v h) λu i d=>?_) z;have Wd x n t F b:=d;have Wg a C e:=b;have Wu s o g A E c k l q:=e;subst A;obtain rfl:u=Zf a:=F;show xZ t E c k l<|q i t
inductive tH (K:Cl)(H:Hp):V->Bs->Prop where
 |non:tH K H .non (.type "NoneType")
 |bl (x:Bool):tH K H (.bl x) (.type "bool")
 |int (i:Int):tH K H (.int i) (.type "int")
 |str (x:Zv):tH K H (.str x) (.type "str")
 |flt (x:UInt64):tH K H (.flt x) (.type "float")
 |lst {a:Ch}{xs:TM} (e:H a=J (.lst xs)):tH K H (.ref a) (.type "list")
 |frz {a:Ch}{o:Z7}{xs:TM} (e:H a=J (.frz o (.lst xs))):tH K H (.ref a) (.type "list")
 |tup {a:Ch}{xs:TM} (e:H a=J (.tup xs)):tH K H (.ref a) (.type "tuple")
 |dK {a:Ch}{kvs:Tx} (e:H a=J (.dK kvs)):tH K H (.ref a) (.type "dict")
 |dT {a:Ch}{kvs:List (List D8×V)} (e:H a=J (.dT kvs)):tH K H (.ref a) (.type "dict")
 |ins {a C dx:Ch}{fs:Tw} (e:H a=J (.ins C dx fs)) (cl:GP K C) (ha:Zi K (.ref C) "__class__"=J (J (.builtin "object.__class__")))
   (hn:Ds K (.builtin "object.__class__") "__get__"=J (J<|.builtin "getset_descriptor.__get__")) (htk:PySem.W.takesIn K (.builtin "object.__class__")=J I)
   (hm:PySem.W.mroIn K C (.type "object")=J I):tH K H (.ref a) (.ref C)
def bQ(b:DM f cC B m r)(c:DT e9 m6)(u:tH f.K m e9 v7)(e:Zg f.K v7 f9=J j8)(h:∀w,nU (.bool j8) {r with toks:=w}):C3 (C4 f.prog f.w) d9 (call (.builtin "isinstance") [m6,f9]) nU i6 r:=by
 cases u with|non=>cases(c);show Jg PySem.W.kitx_none b.kIn True.intro e (λz=>nomatch z) h|bl y=>cases(c);show Jg PySem.W.kitx_bool b.kIn True.intro e (λz=>nomatch z) h|int i=>have Wb v7 q:=(c);cases q;show Jg PySem.W.kitx_int b.kIn True.intro e (λz=>nomatch z) h|str y=>have Wb v7 q:=(c);cases q;show Jg PySem.W.kitx_str b.kIn True.intro e (λz=>nomatch z) h|flt y=>have Wb v7 q:=(c);cases q;show Jg PySem.W.kitx_float b.kIn True.intro e (λz=>nomatch z) h|@lst a xs ea=>cases(c);have Wc _ s:=(b.hok a _ ea);have Wh _ n _ d:=s;show Jg Dt b.kIn #[_,d,Y] e (λz=>nomatch z) h|@frz a ob xs ea=>cases(c);have Wf _ _ k:=(b.hok a _ ea);have Wh _ n _ d:=k;show Jg Dt b.kIn #[_,d,Y] e (λz=>nomatch z) h|@tup a xs ea=>cases(c);have Wc _ j:=(b.hok a _ ea);have Wa _ _ p:=j;have We o d g _:=p;show Jg PySem.W.kitx_tuple b.kIn #[o,d,g] e (λz=>nomatch z) h|@dK a kvs ea=>cases(c);have Ws _ _ A _ p:=(b.hok a _ ea);have Wr o x t d g _:=p;show Jg Du b.kIn #[o,d,g.1] e (λz=>nomatch z) h|@dT a kvs ea=>cases(c);have Ws _ _ xs _ l:=(b.hok a _ ea);have Wr o x t d g _:=l;show Jg Du b.kIn #[o,d,g.1] e (λz=>nomatch z) h|@ins a C dx fs ea cl ha hn htk hm=>cases(c);have Wa E O _:=rJ b.hok ea;have Wa F v _:=O.look;show Jg (PySem.W.kitx_own (cl.get _) cl.hd ha hn htk hm) b.kIn v e (λz=>nomatch z) h
structure zH (k:Nat)(A:Db):Prop where
 hd:A.handled=D
 dp:A.depth+3*k+5<recursionLimit
 un:A.units+16*k+200<cLine
 gd:A.guards=J []
theorem zH.mono(r:zH N d9)(h:l<=N):zH l d9:=#[r.hd,by have:=r.dp;lia,by have:=r.un;lia,r.gd]
theorem zH.deeper(r:zH (l+1) d9)(a:Df):zH l (d9.deeper a):=
 #[r.hd,by have:=r.dp;change d9.depth+1+3*l+5<_;show Pa this,by have:=r.un;change d9.units+3+16*l+200<_;lia,r.gd]
theorem zH.in1(r:zH (l+1) d9):zH l d9.in1:=
 #[r.hd,by have:=r.dp;change d9.depth+3*l+5<_;lia,by have:=r.un;change d9.units+1+16*l+200<_;show Pb this,r.gd]
def fB:(d9.under (.builtin "type.__call__" #[.ref i::g7,C9])).depth=d9.depth+1:=by first|rfl|simp[Around.under,Code.weight,Code.isCreation,Code.isGuard,Code.isCaller,Code.frames,Code.isFrame,guardIds]
def iA:(d9.under (.builtin "type.__call__" #[.ref i::g7,C9])).units=d9.units+1:=by first|rfl|simp[Around.under,Code.cUnits,Code.frames,Code.isFrame]
def kO:(d9.under (.builtin "type.__call__" #[.ref i::g7,C9])).guards=d9.guards:=by first|rfl|simp[Around.under,Code.guards,Code.isGuard,guardIds,pushGuards]
def zH.make(r:zH (l+1) d9)(C:Ch)(a:TQ)(b:TC):zH l (d9.under (.builtin "type.__call__" #[.ref C::a,b])):=
 #[r.hd,by have:=r.dp;rw[fB];show Pa this,by have:=r.un;rw[iA];show Pb this,(kO).trans r.gd]
theorem zH.depth(r:zH l d9):d9.depth<recursionLimit:=by have:=r.dp;show Ha (GU _ _)<|Ha (GU _ _) this
theorem zH.units(r:zH l d9):d9.units+64<cLine:=by have:=r.un;lia
def Qo :TA:=λ_ H Q=>Q [] H
def yg5 (d:TE)(c:TA):TA:=λU H Q=>d U H λx a=>c U a λxs b=>Q (x::xs) b
def zI :PA f [] Qo:=λ_ _ _ _ H Q a h=>Calls.spliced_nil #[[],H,a,.nil,h]
def zo (o:PE f j j3)(p:PA f O k8)(r: ~~~Uo j O f.env):PA f (j::O) (yg5 j3 k8):=by intro y a s U H Q i h;rw[r];show Lw<|D1 (o a s U H _ i h) λu m=>Wd λx d t q k=>?_;show D1 (p y a m U d _ t k) λv w c=>by have Wd xs g e l n:=c;show#[x::xs,g,e,.cons q l,n]
def yq2 (t:TA):TE:=λU H Q=>t U H λxs a=>xs.length<=Zw/\∀p,a p=D->Q (.ref p) (upd a p<|.tup xs)
def yo1 (t:TA):TE:=λU H Q=>t U H λxs a=>xs.length<=Zw/\∀p,a p=D->Q (.ref p) (upd a p<|.lst xs)
def ml {x1}(h:PA f O k8):PE f (.Tuple O x1 y) (yq2 k8):=by intro a s U H Q i k;show wpAny_Tuple_spliced (D1 (h y a s U H _ i k) λg c #[xs,e,d,r,z,q]=>#[by rw[<-r.length];show z,?_]);show#[.ref c.heap.objs.size,upd e c.heap.objs.size<|.tup xs,d.laid (λb u j=>D6 _ j) (D4 _) ?_,Y,q _<|d.hok.fresh<|D4 _];show#[z,g,r,#[_,GB _ Y,Y,#[_,Y]]]
def nZ (h:PA f O k8):PE f (.List O y) (yo1 k8):=by intro a s U H Q i k;show wpAny_List_spliced (D1 (h y a s U H _ i k) λg c #[xs,e,d,r,z,q]=>#[by rw[<-r.length];show z,?_]);show#[.ref c.heap.objs.size,upd e c.heap.objs.size<|.lst xs,d.laid (λb u j=>D6 _ j) (D4 _) ?_,Y,q _<|d.hok.fresh<|D4 _];show#[z,g,0,r,GB _ Y]
abbrev Sp :=TM->Hp->VK->XK->Prop
abbrev JQ :=TZ->Hp->C1->XK->To
structure sH (P:C5)(w:C6)(K:Cl)(mg:Tt)(base:C7)(A:Db)(outer:TZ)(s:C1)(H:Hp):Prop where
 frames:A.frames=J outer
 mod:Mod K mg base
 bs:∀b o,base.get? b=J o->s.heap.get? b=J o/\H b=D
 bsz:base.objs.size<=s.heap.objs.size
 funs:s.heap.FunFrames base outer
 frf:∀b∈Hc outer,H b=D
 hok:GZ P w H s.heap
 bare:Yc s.gens
def CE (a:TZ)(P:C5)(w:C6)(H:Hp)(s:C1)(Q:VK)(u:Bs)(b:C1):Prop:=
 ∃v c,b.os=s.os/\Yc b.gens/\Un (Hc a) [] H c s.heap b.heap/\GZ P w c b.heap/\DT v u/\Q v c
def CR (c:JQ)(a:TZ)(P:C5)(w:C6)(H:Hp)(s:C1)(Q:VK)(E:XK)(r:Result)(b:C1):Prop:=
 match r with
 |.ok (.ret u)=>CE a P w H s Q u b
 |.ok _=>False
 |.error e=>c a H s E e b
structure zX (P:C5)(w:C6)(K:Cl)(mg:Tt)(base:C7)(CX:JQ)(k:Nat)(f:Ch)(fd:Dd)(ps:TR)(sp:Sp):Prop where
 len:∀vs H Q E,sp vs H Q E->vs.length=ps.length
 run:∀(A:Db) (outer:TZ) (s:C1) (H:Hp) (args:Args) (us:TQ) (vs:TM) (Q:VK) (E:XK),zH k A->sH P w K mg base A outer s H->BindsTo s fd args (ps.zip us)->DS vs us->sp vs H Q E->
  ZH (C4 P w) A (.call (.ref f) args) (CR CX outer P w H s Q E) s
variable {t9 ER:Sp}{An:JQ}{e7:Dd}
def zX.imp(F:zX E s q C v An l i e7 S t9)(h:∀b H Q c,ER b H Q c->t9 b H Q c):zX E s q C v An l i e7 S ER:=
 #[λb H Q c m=>F.len b H Q c<|h _ _ _ _ m,λA a g H d e b Q c n k f j o=>F.run A a g H d e b Q c n k f j<|h _ _ _ _ o]
variable {x6:TZ}
def sH.make(e:sH E s q C v d9 x6 r m)(b:Ch)(a:TQ)(c:TC):sH E s q C v (d9.under (.builtin "type.__call__" #[.ref b::a,c])) x6 r m:=#[by first|show e.frames|(simpa[Around.under,Code.envs,Code.isFrame,pushEnvs]using e.frames),e.mod,e.bs,e.bsz,e.funs,e.frf,e.hok,e.bare]
theorem sH.in1(e:sH E s q C v d9 x6 r m):sH E s q C v d9.in1 x6 r m:=#[e.frames,e.mod,e.bs,e.bsz,e.funs,e.frf,e.hok,e.bare]
def DM.env0 (a:DM f cC B m r):sH f.prog f.w f.K f.mg f.base f.A f.stack r m:=
 #[a.ok.frames,a.ok.mod,a.bs,Gg a.ok.bsz a.sz,a.stack,a.stkFree,a.hok,a.bare]
def DM.after(k:DM f cC B m r)(h:CE f.stack f.prog f.w m r Ae f9 A6):EP f cC B Ae f9 A6:=by have#[v,n,j,a,l,e,i,q]:=h;have#[o,g,d,t,c]:=A6;obtain rfl:c=r.os:=j;show#[v,n,k.call l e a (λb z=>Ut z<|by simp),i,q]
def yf8 (d:Sp)(a:TM)(E:XK)(t:TA):TE:=λU H Q=>t U H λc b=>d (c++a) b Q E
def Qp (C:Ch)(m:Zv)(h:Sp)(b:TM)(E:XK)(i:TE)(t:TA):TE:=λU H Q=>i U H λx c=>∃a e d,x=.ref a/\c a=J (.ins C e d)/\d.lookup m=D/\
 t U c λf g=>h (x::(f++b)) g Q E
def yd4 (C:Ch)(f:Sp)(c:TM)(E:XK)(t:TA):TE:=λU H Q=>t U H λe b=>∀x a,b x=D->b a=D->a≠x->
 f (.ref x::(e++c)) (upd (upd b a<|.own x) x<|.ins C a []) (λv d=>v=.non/\Q (.ref x) d) E
def DQ (K:Cl)(c:Dd)(a:TR)(b:TQ):Prop:=
 ∀(s:C1) (us:TQ),K.In s.heap->(us++b).length=a.length->BindsTo s c #[us,[]] (a.zip<|us++b)
def DQ.all(h:∀a:TQ,a.length=S.length->bindArgs e7 #[a,[]]=pure (S.zip a)):DQ q e7 S []:=λs a _ b=>by rw[G9]at b ⊢;show .of_eq<|h a b
def G0 (b:JQ)(X:Cx)(E:XK):Prop:=∀(a:Tu) (U:St) (H:Hp) (s:C1) (e:Bs) (s':C1),DM X a U H s->b X.stack H s E e s'->X.xe e s'
variable {Ab:XK}
def mO{vs:TM}(F:zX f.prog f.w f.K f.mg f.base An l i e7 S t9)(p:zH l f.A)(e:DQ f.K e7 S g7)(g:DS dU g7)(n:G0 An f Ab)(b:DM f cC B m r) (c:DS vs w8) (h:t9 (vs++dU) m Ae Ab):C3 (C4 f.prog f.w) f.A (call (.ref i) w8) (EP f cC B Ae) f.xe r:=by
 have d:=c.append g;have o:(w8++g7).length=S.length:=by rw[<-d.length];show F.len _ _ _ _ h
 show IA<|Jk (F.run f.A f.stack r m #[w8,[]] (w8++g7) (vs++dU) Ae Ab p b.env0 (e r w8 b.kIn o) d h) λc k a=>?_;cases c with
 |error j=>show n cC B m r j k b a
 |ok fl=>
  cases fl with|ret u=>show b.after a|next=>show Ze a|brk=>show Ze a|cont=>show Ze a
def tG (F:zX f.prog f.w f.K f.mg f.base An l i e7 S t9)(v:zH l f.A)(hg:Gl f p)(t:f.mg p=J (.ref i))(hk:Zh f.K (.ref i)=I)(k:DQ f.K e7 S g7)(m:DS dU g7)(o:G0 An f Ab)
  (u:PA f (j::O) k8) (d:‹Yl p›) (n: ~~~Uo j O f.env) (e: ~~~Uq K O f.env):
  PE f (.Call (.Name p y) (j::O) [] K) (yf8 t9 dU Ab k8):=by intro b s U H Q c h;show JE<|yT c hg t (JX c.ok.mod.kin hk (D1 (u K b s U H _ c h) λx A a=>?_) n e) d;have Wd z w g r q:=a;show#[g.kIn,mO F v k m o g r q]
def nM(P:PE f w j3)(c:GP f.K x)(z:Ge f.K x H i)(F:zX f.prog f.w f.K f.mg f.base An l i e7 S t9)(X:zH l f.A)(N:DQ f.K e7 S g7)(A:DS dU g7)(G:G0 An f Ab)(W:PA f (j::O) k8)
  (k: ~~~Uo j O f.env) (m: ~~~Uq y O f.env)
  (R: ~~~(eval (.Call (.Attribute w H K) (j::O) [] y) f.env=(do
   let ov <-eval w f.env
   Z8 K.atName
   let(i,first) <-Z9 [ov] (Z6 ov H AB)
   ZA y i first (Zx y<|A3 (j::O) f.env) (Z4 y<|Zy [] f.env)))):
  PE f (.Call (.Attribute w H K) (j::O) [] y) (Qp x H t9 dU Ab j3 k8):=by intro b s U E Q t h;show KW (D1 (P b s U E _ t h) λu T d=>?_) R;have Wd p M v Z e:=d;have Wm a dx fs B L C q:=e;subst B;obtain rfl:u=Zf a:=Z;show xZ v L c z C<|JX t.ok.mod.kin z.kp (D1 (W y b T U M _ v q) λus s2 g=>?_) k m;have Wd o H2 n r V:=g;show#[n.kIn,mO (vs:=.ref a::o) F X N A G n (.cons Y r) V]
def pM(r:PE f j j3)(c:GP f.K x)(k:Ge f.K x H i)(F:zX f.prog f.w f.K f.mg f.base An l i e7 S t9)(C:zH l f.A)(m:DQ f.K e7 S g7)(n:DS dU g7)(A:G0 An f Ab)
  (t: ~~~(eval (.Call (.Attribute j H K) [] [] y) f.env=(do
   let ov <-eval j f.env
   Z8 K.atName
   let(i,first) <-Z9 [ov] (Z6 ov H AB)
   ZA y i first (Zx y<|A3 [] f.env) (Z4 y<|Zy [] f.env)))):
  PE f (.Call (.Attribute j H K) [] [] y) (Qp x H t9 dU Ab j3 Qo):=by intro e s U z Q o h;show KW (D1 (r e s U z _ o h) λu N b=>?_) t;have Wd p G g E d:=b;have Wm a L M v B w q:=d;subst v;obtain rfl:u=Zf a:=E;show xZ g B c k w<|Dl g.kIn k.kp<|mO (vs:=[.ref a]) F C m n A g (.cons Y .nil) q
structure Mk (K:Cl)(C f:Ch):Prop where
 makes:Zs K C=I
 init:Zi K (.ref C) "__init__"=J (J<|.ref f)
 fn:Zk K (.ref f)=I
 kp:Zh K (.ref C)=I
def zw6(M:Mk f.K x i)(F:zX f.prog f.w f.K f.mg f.base An l i e7 S t9)(E:zH (l+1) f.A)(o:DQ f.K e7 S g7)(s:DS dU g7)(z:G0 An f Ab) (e:DM f cC B m r) (g:DS u0 w8)(h:∀b c,m b=D->m c=D->c≠b->t9 (.ref b::(u0++dU)) (upd (upd m c (.own b)) b (.ins x c [])) (λv p=>v=.non/\Ae (.ref b) p) Ab):C3 (C4 f.prog f.w) f.A (call (.ref x) w8) (EP f cC B Ae) f.xe r:=by
 have n:=h (r.heap.objs.size+1) r.heap.objs.size (e.hok.fresh<|HI _) (e.hok.fresh<|D4 _)<|Gp<|Ii _;have d:=DM.made (C:=x) e;have k:DS (V.ref (r.heap.objs.size+1)::(u0++dU)) (Zf (r.heap.objs.size+1)::(w8++g7)):=.cons Y<|g.append s;have A:(Zf (r.heap.objs.size+1)::w8++g7).length=S.length:=by have j:=k.length;rw[F.len _ _ _ _ n]at j;show j.symm
 show IA (jX e.kIn M.makes M.init (Iz.mp M.fn) (Jk (F.run _ f.stack _ _ #[Zf (r.heap.objs.size+1)::w8,[]] (Zf (r.heap.objs.size+1)::(w8++g7)) _ _ Ab (E.make x w8 [])
  (d.env0.make x w8 []) (o _ (Zf (r.heap.objs.size+1)::w8) d.kIn A) k n) λg y a=>?_))
 cases g with
 |error j=>show z cC B _ _ j y d a
 |ok fl=>
  cases fl with|ret u=>have Wj v t G q w H:=d.after a;subst w;show#[q,#[V.ref<|r.heap.objs.size+1,t,G,Y,H]]|next=>show Ze a|brk=>show Ze a|cont=>show Ze a
def mJ (M:Mk f.K x i)(F:zX f.prog f.w f.K f.mg f.base An l i e7 S t9)(v:zH (l+1) f.A)(hg:Gl f p)(t:f.mg p=J (.ref x))(k:DQ f.K e7 S g7)(m:DS dU g7)(o:G0 An f Ab)
  (u:PA f (j::O) k8) (d:‹Yl p›) (n: ~~~Uo j O f.env) (e: ~~~Uq K O f.env):
  PE f (.Call (.Name p y) (j::O) [] K) (yd4 x t9 dU Ab k8):=by intro b s U H Q c h;show JE<|yT c hg t (JX c.ok.mod.kin M.kp (D1 (u K b s U H _ c h) λz B a=>?_) n e) d;have Wd A w g r q:=a;show#[g.kIn,zw6 M F v k m o g r q]
structure zq (N P:TR)(sc:De):Prop where
 kind:sc.kind=.function
 co:sc.isCoroutine=Za
 gen:sc.isGenerator=Za
 nd:N.Nodup
 pre:N.take P.length=P
 par:∀x∈P,sc.names.lookup x=J .local\/sc.names.lookup x=J .cell
 nofree:∀y∈sc.names,y.2≠.free
theorem oP {b:Zv->Option NameKind}{x:Zv}:∀{a:TC}{m:Tt},(∀v,(x,v)∉a)->bindL b a m x=m x
 |[],_,_=>rfl
 |(n,v)::r,m,h=>by
  unfold bindL;rw[oP λw hw=>h w<|GH _ hw];split;have:x≠n:=by rintro rfl;show h v GN
  simp[this];rfl
theorem nh {b:Zv->Option NameKind}{x:Zv}:∀{a:TC}{m:Tt},(∀v,(x,v)∉a)->bindC b a m x=m x
 |[],_,_=>rfl
 |(n,v)::r,m,h=>by
  unfold bindC;rw[nh λw hw=>h w<|GH _ hw];split;rfl;have:x≠n:=by rintro rfl;show h v GN
  simp[this]
theorem nG {a:Zv->Option NameKind}{x:Zv}{v:Bs}:∀{P:TR}{vs:TQ}{i:Nat}{m:Tt},P.Nodup->P[i]?=J x->vs[i]?=J v->a x=J .local->
  bindL a (P.zip vs) m x=J v
 |[],_,_,_,_,h,_,_=>by simp at h
 |_::_,[],_,_,_,_,h,_=>by simp at h
 |p::P,w::vs,0,m,nd,c,b,hk=>by simp at c b;subst c;subst b;change bindL a ((p,w)::P.zip vs) m p=_;unfold bindL;rw[oP λv d=>(K7.mp nd).1 (List.of_mem_zip d).1,Ur hk];simp
 |p::P,w::vs,i+1,m,nd,c,b,hk=>by change bindL a ((p,w)::P.zip vs) m x=_;unfold bindL;show nG (i:=i) (K7.mp nd).2 (by simpa using c) (by simpa using b) hk
theorem nJ {a:Zv->Option NameKind}{x:Zv}{v:Bs}:∀{P:TR}{vs:TQ}{i:Nat}{m:Tt},P.Nodup->P[i]?=J x->vs[i]?=J v->a x≠J .local->
  bindC a (P.zip vs) m x=J v
 |[],_,_,_,_,h,_,_=>by simp at h
 |_::_,[],_,_,_,_,h,_=>by simp at h
 |p::P,w::vs,0,m,nd,c,b,hk=>by simp at c b;subst c;subst b;change bindC a ((p,w)::P.zip vs) m p=_;unfold bindC;rw[nh λv d=>(K7.mp nd).1 (List.of_mem_zip d).1,Us hk];simp
 |p::P,w::vs,i+1,m,nd,c,b,hk=>by change bindC a ((p,w)::P.zip vs) m x=_;unfold bindC;show nJ (i:=i) (K7.mp nd).2 (by simpa using c) (by simpa using b) hk
def start (N:TR)(a:TM):St:=a.map J++Zb (N.length-a.length) D
def yQ (j:JQ)(P:C5)(w:C6)(K:Cl)(i:Tt)(d:C7)(N:TR)(c:Zv)(a:De)(f:Ch)(h:Bs)(A:Db)(b:TZ)(s:C1)(H:Hp)(E:XK):Cx where
 prog:=P
 w:=w
 K:=K
 mg:=i
 base:=d
 A:=A.deeper (Yb c a s.heap.objs.size f h)
 N:=N
 s₀:=s
 H₀:=H
 env:=Yb c a s.heap.objs.size f h
 outer:=b
 stack:=Yb c a s.heap.objs.size f h::b
 ex:=[]
 calm:=I
 fn:=λ_=>I
 pn:=[]
 xe:=λe l=>C3 (C4 P w) (A.deeper<|Yb c a s.heap.objs.size f h) (leaving (Yb c a s.heap.objs.size f h) e) (λ_ g=>j b H s E e g) (λk g=>j b H s E k g) l
variable {e8:De}
def kQ(h:e8.names.lookup p=J .cell):∃c,(cellsFrom l e8.names []).lookup p=J c:=CC.mp<|PySem.W.cellsFrom_some e8.names l [] (.inl h)
def bM(j:zq S m9 e8) (M:d9.handled=D) (f:sH E s q C v d9 x6 r m) (F:dU.length=m9.length) (O:DS dU g7)(x:InCallC r r.heap.objs.size (bindL (Yb p e8 r.heap.objs.size i f9).kindOf (m9.zip g7) λ_=>D) (cellsFrom (r.heap.objs.size+1) e8.names []) (bindC (Yb p e8 r.heap.objs.size i f9).kindOf (m9.zip g7) λ_=>D) A6):DM (yQ An E s q C v S p e8 i f9 d9 x6 r m Ab) [] (start S dU) m A6:=by
 have B:m9.length<=S.length:=by have:=Uu List.length j.pre;rw[Jb]at this;show Gg (Gu this.symm)<|Dy _ _
 have Wh A R rfl hk:=x.done;have l:∀b:Ch,b∉(yQ An E s q C v S p e8 i f9 d9 x6 r m Ab).ex:=λb z=>Ut (show b∈([]:TU)from z) ();show#[#[f.mod,j.kind,Y,Y,D4 _,λy z c A d=>?_,λy g=>?_,λy c _ h=>?_,λ_=>M,Around.frames_deeper f.frames,.inr #[Y,Y],λb z=>Ut z<|l b,f.bs,f.bsz,λb _ _=>l b,λb z=>Ut z<|l b,f.funs,f.frf],
  rfl,f.bare,Un.kept hk,#[_,x.toInCall.ns,λw y N A d Q=>?_],λy c h=>#[_,x.cell y c h],f.hok.fresh<|D4 _,λy c h=>?_,λK n=>Ut (show K∈([]:Tu)from n) (),f.hok.kept hk,?_]
 show name_of_addr x.apart (JD A)<|JD d;have g:=g;rcases g with g|g;show kQ g
 show Ut Y<|j.nofree _<|JD g;show Hy<|x.above y c<|JD h;have t:w<dU.length:=by unfold start at d;by_cases t:w<dU.length;show t;rw[HZ (by simpa using t)]at d;rw[J6]at d;split at d<;>cases d
 have P:dU[w]?=J N:=by
  unfold start at d;rw[Iv (by simpa using t),GD]at d;cases e:dU[w]? with|none=>rw[e]at d;cases d|some a=>rw[e]at d;cases d;rfl
 have Wa u G L:=O.get P;have n:m9[w]?=J y:=by rw[<-j.pre,List.getElem?_take_of_lt (Gf t<|Gu F)];show A
 have o:m9.Nodup:=by rw[<-j.pre];show j.nd.sublist<|List.take_sublist _ _
 show#[u,L,?_];rcases j.par y (HF n)with k|k;show .inl #[k,nG o n G k]
 have#[c,e]:=kQ k;show .inr #[.inl k,c,e,?_];have H:=x.cell y c e;rw[nJ o n G (by change e8.names.lookup y≠_;rw[k];decide)]at H;show H;show f.hok.fresh<|Hy<|x.above y c<|JD h;unfold start;rw[GJ,DZ,Kq];show yj9 F B
variable {w5 AH:Ua}{Ao:Arguments}{Br:Array (T8)}
def ji{a:C7}
 (Z:q.lookup i=J #[AA,AH,.func (Zl p H Ao i7 e8 f9 m6 v7 j5 w5 t8 x8),Br]) (O:Zo q t8 H=I) (M:zq S m9 e8)
  (len:∀g f Q j,t9 g f Q j->g.length=m9.length)
  (B:∀(A:Db) (c:TZ) (k:C1) (f:Hp) (g:TM) (Q:VK) (j:XK),zH l (A.deeper<|Yb H e8 k.heap.objs.size i t8)->t9 g f Q j->
   ∃t,Hr (yQ An E s q C a S H e8 i t8 A c k f j) i7 t/\t {nx:=λ_ m=>Q .non m,rt:=Q} (start S g) f):
  zX E s q C a An (l+1) i (Zl p H Ao i7 e8 f9 m6 v7 j5 w5 t8 x8) m9 t9:=by
 show#[len,λA c k f T us g Q j R G hb r L=>?_];have KX:=G.mod.kin.keeps λb o e=>(G.bs b o e).1;have z:∀y∈m9.zip us,e8.names.lookup y.1=J .local\/(e8.names.lookup y.1=J .cell/\((cellsFrom (k.heap.objs.size+1) e8.names []).lookup y.1).isSome=I):=λK W=>by
  have#[n,v]:=K;rcases M.par n (List.of_mem_zip W).1 with d|d;show .inl d
  show .inr #[d,PySem.W.cellsFrom_some _ _ _<|.inl d]
 show codeAny_call_function R.depth (KX _ _ Z) Y M.co M.gen Y (PySem.W.codeRec_of KX O) (hb _ _ _ _ (wpAny_newFunctionEnv_cells M.kind z λa0 he U x=>?_));subst he;show#[(G.mod.nolimit.keeps λb o e=>(G.bs b o e).1).keeps x.toInCall.keep,codeAny_func ?_];have Wa t ht hq:=B A c k f g Q j (R.deeper _) L;have X:DM (yQ An E s q C a S H e8 i t8 A c k f j) [] (start S g) f U:=bM M R.hd G (len _ _ _ _ L) r x;show Hk (ht [] U (start S g) f _ X hq) (λfl P F=>?_) λe P F=>F;have fin:∀{h:St} {m:Hp} {v:V} {u:Bs},DM (yQ An E s q C a S H e8 i t8 A c k f j) [] h m P->DT v u->Q v m->CE c E s f k Q u P:=
  λ{h m v u} w N d=>#[5,v,m,w.os,w.bare,w.base,w.hok,N,d]
 cases fl with|ret u=>have Wr v h m w N d:=F;show fin w N d|next=>have Wh h m w d:=F;show fin (v:=V.non) w Y d|brk=>have Wh _ _ _ d:=F;show Ze d|cont=>have Wh _ _ _ d:=F;show Ze d
def Qq (r:TM->Tq)(t:TA):TE:=λU H Q=>t U H λb a=>r b a Q
variable {Cq:TM->Tq}
def wt (n:yL f (.builtin q5) Cq)(hg:Gl f p)(o:f.mg p=D)(l:ZD p=J (.builtin q5))(r:PA f (j::O) k8)(k:‹p≠"__name__"›)(c:‹Yl p›)
  (he: ~~~Uo j O f.env) (hpl: ~~~Uq K O f.env):PE f (.Call (.Name p y) (j::O) [] K) (Qq Cq k8):=by intro a s U H Q d h;show JE<|xw d hg o l ?_ k c;show PyProof.Rows.callWith_builtin1 (D1 (r K a s U H _ d h) λg q b=>by have Wd i e u t m:=b;show n a q U e i g Q u t m) he hpl
def yX (n:yL f (.type q5) Cq)(hg:Gl f p)(o:f.mg p=D)(l:ZD p=J (.type q5))(r:PA f (j::O) k8)(k:‹p≠"__name__"›)(c:‹Yl p›)
  (he: ~~~Uo j O f.env) (hpl: ~~~Uq K O f.env):PE f (.Call (.Name p y) (j::O) [] K) (Qq Cq k8):=by intro a s U H Q d h;show JE<|xw d hg o l ?_ k c;show JA (D1 (r K a s U H _ d h) λg q b=>by have Wd i e u t m:=b;show n a q U e i g Q u t m) he hpl
end L2
namespace HT
open PySem PyProof.Rows
section
open PySem.SeqAt
open PySem.AutoSeq1 (wpAny_loadPart')
open PySem.MeetsSeq PySem.MeetsSeq2 PySem.MeetsSeq3
end
def sIx (n d:Nat):T7->Nat
 |none=>d
 |some v=>if v<0 then(v+(n:Int)).toNat else min v.toNat n
def tE (n d:Nat):sIx n d D=d:=Y
def mK (n d k:Nat):sIx n d (J (k:Int))=min k n:=by change(if(k:Int)<0 then((k:Int)+n).toNat else min (k:Int).toNat n)=min k n;rw[Us (Int.not_lt.2<|Mt _),JY]
end HT
namespace L2
open PySem PySem.Spec PyProof.Rows
abbrev TO :=St->Hp->(T7->Ui)->Prop
def PO (X:Cx)(e:Option Dc)(t:TO):Prop:=
 ∀(a:Tu) (s:C1) (U:St) (H:Hp) (Q:T7->Ui),DM X a U H s->t U H Q->
  C3 (C4 X.prog X.w) X.A (evalPart e X.env) (λu c=>∃o b,DM X a U b c/\IsPart u o/\Q o b) X.xe s
def zP8 :TO:=λ_ H Q=>Q D H
def yk5 (t:TE):TO:=λU H Q=>t U H λx a=>∃i,x=.int i/\Q (J i) a
def Hz {ns:TN}:∀{us:TQ},DS (ns.map V.int) us->IntsAre us ns:=by
 induction ns with
 |nil=>intro us r;rw[Ld]at r;cases r;show .nil
 |cons n ns c=>
  intro us r;rw[GW]at r;cases r with|cons b a=>have Wb t e:=b;subst e;show .cons n t<|c a
variable {f:Cx}
def zJ4 :PO f D zP8:=by intro a s U H Q b h;rw[evalPart_none];show DX #[D,H,b,.none,h]
variable {j3 v9:TE}{j w gV:Dc}
def rM (h:PE f j j3):PO f (J j) (yk5 j3):=by intro b s U H Q d hw;rw[evalPart_some];show D1 (h b s U H _ d hw) λu l=>Wd λx c g k e=>?_;have Wa i rfl q:=e;have Wb t rfl:=k;show#[J i,c,g,.int i t,q]
variable {BG Ca:Option Dc}
def N2 (X:Cx)(r:V->T7->T7->Tq):Prop:=
 ∀(a:Tu) (s:C1) (U:St) (H:Hp) (x:V) (v c b:Bs) (BG Ca:T7) (sl:Ch) (Q:VK),DM X a U H s->DT x v->s.heap.IsSliceOf sl c b .none->IsPart c BG->IsPart b Ca->r x BG Ca H Q->
  ∃T d,typeLookup (.type T) "__getitem__"=pure (J<|.builtin d)/\s.TypeIs v T/\C3 (C4 X.prog X.w) X.A (getItem v<|.ref sl) (EP X a U Q) X.xe s
def tSl (r:V->T7->T7->Tq)(c:TE)(tl d:TO):TE:=λU H Q=>c U H λx a=>tl U a λl b=>d U b λu e=>r x l u e Q
variable {y K:Pos}{ES ET:TO}
def kL {r:V->T7->T7->Tq}(N:N2 f r)(G:PE f j j3)(O:PO f BG ES)(t:PO f Ca ET):PE f (.Subscript j (.Slice BG Ca D K) y) (tSl r j3 ES ET):=by intro a s U H Q n h;show Subscript_<|D1 (G a s U H _ n h) λv L #[x,A,z,P,E]=>wpAny_Slice<|D1 (O a L U A _ z E) λe o #[l,m,i,k,M]=>D1 (t a o U m _ i M) λd c #[u,g,w,B,R]=>?_;rw[evalPart_none];show DX ?_;have C:DM f a U g {c with heap:=c.heap.push {cls:=.type "slice",data:=.fields [e,d,.none].toArray}}:=w.kept λb S q=>D6 _ q;have Wd T W p F hg:=N a {c with heap:=c.heap.push {cls:=.type "slice",data:=.fields [e,d,.none].toArray}} U g x v e d l u c.heap.objs.size Q C P (Heap.IsSliceOf.new ..) k B R;show tail_any F p hg<|by with_unfolding_all rfl
def jK (xs:TM)(a b:T7):TM:=(xs.drop<|HT.sIx xs.length 0 a).take<|HT.sIx xs.length xs.length b-HT.sIx xs.length 0 a
def jb (xs:TM)(b a:T7):(jK xs b a).length<=xs.length:=by unfold jK;rw[Jb,Kb];show Gg (Dy _ _)<|Nat.sub_le _ _
def Ju (n:Nat)(i:Int):Option Nat:=if 0<=i then(if i<n then J i.toNat else D)else if -(n:Int)<=i then J (i+n).toNat else D
variable {u3:Type}
def atI(xs:List u3)(i:Int):Option u3:=(Ju xs.length i).bind λj=>xs[j]?
variable {l N:Nat}{L:Int}
theorem bj(h:Ju l L=J N):seqIndex? L l=J N/\N<l/\-(l:Int)<=L/\L<l:=by unfold Ju at h;by_cases b:0<=L;rw[Ur b]at h;by_cases a:L<l;rw[Ur a]at h;show#[by rw[seqIndex_of b a,(Hb h)],by lia,by lia,a];rw[Us a]at h;cases h;rw[Us b]at h;by_cases a:-(l:Int)<=L;rw[Ur a]at h;show#[by rw[seqIndex_neg (Lf.1 b) a,(Hb h)],by lia,a,(Int.lt_of_lt_of_le (Lf.1 b)<|Mt _)];rw[Us a]at h;cases h
def lZ{xs:List u3}{v:u3}(h:atI xs L=J v):∃j,seqIndex? L xs.length=J j/\xs[j]?=J v/\j<xs.length/\-(xs.length:Int)<=L/\L<xs.length:=by
 unfold atI at h;cases e:Ju xs.length L with|none=>rw[e]at h;cases h|some j=>rw[e]at h;have Wq d a b c:=bj e;show#[j,d,#[h,a,b,c]]
def uj{xs:List u3}{v:u3}(h:xs[l]?=J v):atI xs (l:Int)=J v:=by
 have e:Ju xs.length l=J l:=by unfold Ju;rw[Ur (Mt _),Ur (Int.ofNat_lt.2<|(Gm.mp h).1)];simp
 unfold atI;rw[e];show h
def rT (b:Dc):Prop:=∀o i,subscripted b Za o i=operate [o,i] (getItem o i)
def Jv (X:Cx)(r:R2):Prop:=
 ∀(b a:Dc) (pins:Tu) (s:C1) (U:St) (H:Hp) (x y:V) (v u:Bs) (Q:VK),DM X pins U H s->DT x v->DT y u->r x y H Q->
  subscripted a Za v u=operate [v,u] (getItem v u)->C3 (C4 X.prog X.w) X.A (subscriptTail b a v u) (EP X pins U Q) X.xe s
def N3 (X:Cx)(b:String)(r:V->TM->Tq):Prop:=
 ∀(a:Tu) (s:C1) (U:St) (H:Hp) (x:V) (xs:TM) (v:Bs) (us:TQ) (Q:VK),DM X a U H s->DT x v->DS xs us->r x xs H Q->
  C3 (C4 X.prog X.w) X.A (call (.builtin b) (v::us)) (EP X a U Q) X.xe s
variable {A4 Ee:R2}
def Jv.or(h:Jv f A4)(j:Jv f Ee):Jv f (λx y H Q=>A4 x y H Q\/Ee x y H Q):=by
 intro b a c s U H x y v u Q e g d q i;rcases q with q|q;show h b a c s U H x y v u Q e g d q i
 show j b a c s U H x y v u Q e g d q i
def vV(m:Jv f A4)(l:PE f j j3)(g:PE f w v9)(o:rT w):PE f (.Subscript j w y) (MM A4 j3 v9):=by intro a s U H Q e h;show Subscript_<|NY l g e h λv u k x i d b n c q=>m j w a k U d x i v u Q b n c q<|o _ _
def Qr (K:Cl):R2:=λx y H Q=>∃p xs i v,x=.ref p/\y=.int i/\D3 K H p xs/\atI xs i=J v/\Q v H
def Qs (K:Cl):R2:=λx y H Q=>∃p xs i v,x=.ref p/\y=.int i/\HM K H p xs/\atI xs i=J v/\Q v H
def Qt :R2:=λx y H Q=>∃z i c,x=.str z/\y=.int i/\z.length<=Zw/\atI z.cps.toList i=J c/\Q (.str #[[c].toArray]) H
variable {k8:TA}{u9:V->TM->Tq}
theorem xA :Jv f (Qr f.K):=by
 intro k e b s U H x y v u Q r M G h A;have Wg p xs a:=h;have Wp i z rfl rfl N K q:=a;cases M;have Wb k8 rfl:=G;have We l u9 g B:=r.list N;have#[j,d,F,O,t,C]:=lZ K;have Wa w E n:=u9.get F;have L:=u9.length;have o:=qL;have fin:EP f b U Q w s:=#[z,H,r,n,q];by_cases c:0<=i;have m:i.toNat=j:=by rw[seqIndex_of c C]at d;show Hb d
 show item_listR g.isList c (NC o C B) (by rw[m];simpa using E) fin A;have m:(i+(l.toArray.size:Int)).toNat=j:=by rw[seqIndex_neg (Lf.1 c) t]at d;rw[GS,<-L];show Hb d
 show subscriptTail_builtinR g.isList.typeIs slot_list_getitem.lookup
  (wpAny_getItem_list_neg g.isList (Lf.1 c) (by rw[GS]<;>lia) (ND t B o) (by rw[m];simpa using E) #[Y,fin]) A
def Qu :Jv f (Qs f.K):=by
 intro d c b s U H x y v u Q l G A h o;have Wg p xs a:=h;have Wp i z rfl rfl K B q:=a;cases G;have Wb k8 rfl:=A;have We t u9 g m:=l.tuple K;have#[j,C,r,L,n,E]:=lZ B;have Wa w F e:=u9.get r;have k:=qL;have fin:EP f b U Q w s:=#[z,H,l,e,q];show subscriptTail_builtinR g.typeIs slot_tuple_getitem.lookup
  (getItem_tuple g (ND n m k) (NC k E m) (by rw[GS,<-u9.length];show C) (by simpa using F) #[Y,fin]) o
theorem z29 :Jv f Qt:=by
 intro b a e s U H x y v u Q l w k h A;have#[z,i,c,rfl,rfl,E,m,q]:=h;have Wb k8 rfl:=w;have Wb C rfl:=k;have#[j,d,g,B,p,o]:=lZ m;have t:z.cps.toList.length=z.length:=by simp[Zv.length]
 rw[t]at d p o;have F:=qL;show tail_any (typeIs_str s z k8) slot_str_getitem.lookup (getItem_str (by have n:decide (i < -(2 ^ 63:Int))=Za:=Hd ();have r:decide (i≥2 ^ 63)=Za:=Hd ();rw[n,r,Lc]) (by rw[d];simpa using g) #[.str #[[c].toArray],H,l.tok _,#[_,Y],q]) A
def rIx (K:Cl):R2:=λx y H Q=>Qr K x y H Q\/Qs K x y H Q\/Qt x y H Q
def z89 :Jv f (rIx f.K):=xA.or<|Qu.or z29
def gK (a:TQ)(n j:Nat)(u:Bs):Z7.mapSeq (·.setIfInBounds j u) {cls:=.type "list",data:=.seq a.toArray n}={cls:=.type "list",data:=.seq (a.set j u).toArray n}:=by simp[Z7.mapSeq]
theorem DM.lst{X:Cx}{c:Tu}{U:St}{H:Hp}{s:C1}{p:Ch}{xs:TM}(d:DM X c U H s)(h:H p=J (.lst xs)):∃(a:TQ) (n:Nat),DS xs a/\s.heap.get? p=J {cls:=.type "list",data:=.seq a.toArray n}/\xs.length<=Zw:=by have Wc z b:=d.hok p _ h;have Wh a n r e:=b;show#[a,n,r,e,z]
variable {r:C1}{B:St}{i:Ch}{m:Hp}{cC:Tu}{dU u0:TM}{g7 w8:TQ}
def DM.lstUpd{a:Z7->Z7}(e:DM f cC B m r)(h:m i=J (.lst dU))(g:r.heap.get? i=J {cls:=.type "list",data:=.seq g7.toArray l}) (hf:a {cls:=.type "list",data:=.seq g7.toArray l}={cls:=.type "list",data:=.seq w8.toArray N}) (b:DS u0 w8) (c:u0.length<=Zw) (t:Nat):DM f cC B (upd m i<|.lst u0) {r with heap:=r.heap.update i a,toks:=t}:=by
 have w:(r.heap.update i a).get? i=J {cls:=.type "list",data:=.seq w8.toArray N}:=by rw[IJ a g (by rw[hf]<;>rfl),hf]
 show e.write (by rw[h];trivial) (.inl Y) (λj u d q=>(G4 _ _<|Gx d).trans q) #[_,w] ?_;show#[c,w8,N,b,w]
def Qv :V->V->V->Hp->(Ui)->Prop:=λj i v H Q=>∃p xs k a,j=.ref p/\i=.int k/\H p=J (.lst xs)/\Ju xs.length k=J a/\Q (upd H p<|.lst<|xs.set a v)
def HA :Qb f Qv:=by
 intro d s U H j i v K F u Q x C B A h;have Wg p xs c:=h;have Wp k a rfl rfl z E q:=c;cases C;have Wb k8 rfl:=B;have Wd b n u9 t o:=x.lst z;have Wq e G l m:=bj E;have r:=u9.length;have w:=qL;have y:DM f d U (upd H p<|.lst<|xs.set a v) {s with heap:=s.heap.update p (Z7.mapSeq (·.setIfInBounds a u))}:=
  x.lstUpd z t (gK b n a u) (u9.set A a) (by rw[Ht];show o) s.toks
 by_cases g:0<=k;have hk:k.toNat=a:=by rw[seqIndex_of g m]at e;show Hb e
 show PySem.W.ki_setAt t g (NC w m o) (by rw[GS,<-r];show m) (by rw[hk];show#[_,y,q]);have hk:(k+(b.toArray.size:Int)).toNat=a:=by rw[seqIndex_neg (Lf.1 g) l]at e;rw[GS,<-r];show Hb e
 show PySem.W.ki_setBack t (Lf.1 g) (by rw[GS,<-r];show l) (ND l o w)<|by rw[hk];show#[_,y,q]
def mD (b a:T7)(n:Nat):(ZK b a D n).1=((HT.sIx n 0 b:Nat):Int)/\(ZK b a D n).2.1=((HT.sIx n n a:Nat):Int)/\(ZK b a D n).2.2=1:=by
 show#[?_,?_,Y];cases b with|none=>simp[ZK,HT.sIx]|some i=>simp only[ZK,HT.sIx,Dz,show 1 > 0 by decide,Il];by_cases h:i<0;simp only[h,Il]<;>show Pc h;simp only[h,Ic]<;>show Pe
 cases a with|none=>simp[ZK,HT.sIx]|some i=>simp only[ZK,HT.sIx,Dz,show 1 > 0 by decide,Il];by_cases h:i<0;simp only[h,Il]<;>show Pc h;simp only[h,Ic]<;>show Pe
def oB (a:TQ)(b c:T7):slicePick a.toArray b c D=((a.drop (HT.sIx a.length 0 b)).take (HT.sIx a.length a.length c-HT.sIx a.length 0 b)).toArray:=by have Wf f d e:=mD b c a.toArray.size;unfold slicePick;rw[f,d,e];simp only[sliceRange_one,pick_run,GS]<;>rfl
def yo0 (K:Cl):V->T7->T7->Tq:=λx c b H Q=>∃a xs,x=.ref a/\D3 K H a xs/\∀p,H p=D->Q (.ref p) (upd H p<|.lst<|jK xs c b)
def cU :N2 f (yo0 f.K):=by intro g s U H x v y r c i u Q b o p k l h;have Wd j xs rfl n q:=h;cases o;have We m u9 d e:=b.list n;have a:=u9.length;show#["list",_,slot_list_getitem.lookup,d.isList.typeIs,?_];show wpAny_getItem_list_slice d.isList p k l .none () ?_ (by rw[GS]<;>show Gg (Gu a.symm) e);rw[oB,<-a];show#[.ref s.heap.objs.size,_,b.laid (λw t q=>D6 _ q) (D4 _) ?_,Y,q _<|b.hok.fresh<|D4 _];show#[Gg (jb xs c i) e,_,0,(u9.drop<|HT.sIx xs.length 0 c).take<|HT.sIx xs.length xs.length i-HT.sIx xs.length 0 c,GB _ Y]
def uG :V->Bool
 |.non=>I
 |.bl _=>I
 |.int _=>I
 |.str _=>I
 |_=>Za
def Jw :V->V->Bool
 |.non,.non=>I
 |.bl j,.bl w=>j == w
 |.bl j,.int w=>(if j then 1 else 0)==w
 |.int j,.bl w=>j == (if w then 1 else 0)
 |.int j,.int w=>j == w
 |.str j,.str w=>j == w
 |_,_=>Za
variable {e9 v8:V}{f9 m6:Bs}{d9:Db}
def z51(c:DT e9 f9)(a:DT v8 m6)(e:uG e9=I)(d:uG v8=I):SeqAt.EqAt d9 r f9 m6 (Jw e9 v8):=by
 cases e9 with
 |non=>
  cases c;cases v8 with|non=>cases a;show SeqAt.EqAt.same _|bl w=>cases a;show SeqAt.EqAt.none_bool w|int w=>have Wb k8 rfl:=a;show SeqAt.EqAt.none_int w k8|str w=>have Wb k8 rfl:=a;show SeqAt.EqAt.none_str w k8|_=>show Ut (d) Hq
 |bl j=>
  cases c;cases v8 with|non=>cases a;show SeqAt.EqAt.bool_none j|bl w=>cases a;show SeqAt.EqAt.bool_bool j w|int w=>have Wb k8 rfl:=a;show SeqAt.EqAt.bool_int j w k8|str w=>have Wb k8 rfl:=a;show SeqAt.EqAt.bool_str j w k8|_=>show Ut (d) Hq
 |int j=>
  have Wb b rfl:=c;cases v8 with|non=>cases a;show SeqAt.EqAt.int_none j b|bl w=>cases a;show SeqAt.EqAt.int_bool j b w|int w=>have Wb k8 rfl:=a;show SeqAt.EqAt.int_int j b w k8|str w=>have Wb k8 rfl:=a;show SeqAt.EqAt.int_str j b w k8|_=>show Ut (d) Hq
 |str j=>
  have Wb b rfl:=c;cases v8 with|non=>cases a;show SeqAt.EqAt.str_none j b|bl w=>cases a;show SeqAt.EqAt.str_bool j b w|int w=>have Wb k8 rfl:=a;show SeqAt.EqAt.str_int j b w k8|str w=>have Wb k8 rfl:=a;show SeqAt.EqAt.str_str j b w k8|_=>show Ut (d) Hq
 |_=>show Ut (e) Hq
def IB (x:V)(u:Bs):Bool:=match u with
 |.none=>Jw .non x
 |.bool j=>Jw (.bl j) x
 |.int i _=>Jw (.int i) x
 |.str z _=>Jw (.str z) x
 |_=>Za
def Qw(r:DT v8 f9)(f:uG v8=I):IB e9 f9=Jw v8 e9:=by
 cases v8 with|non=>cases r;rfl|bl j=>cases r;rfl|int i=>have Wb k8 rfl:=r;rfl|str z=>have Wb k8 rfl:=r;rfl|_=>show Ut (f) Hq
def rO(h:DS dU g7)(f:dU.all uG=I):g7.any (IB e9)=dU.any λy=>Jw y e9:=by
 induction h with|nil=>rfl|cons u9 _ a=>rw[MH,HG]at f;rw[KD,KD,Qw u9 f.1,a f.2]
theorem vU {A:Db}{s:C1}{x:V}{v:Bs}(c:DT x v)(b:uG x=I):∀{xs:TM}{us:TQ},DS xs us->xs.all uG=I->∀u∈us,SeqAt.EqAt A s u v (IB x u)
 |_,_,.nil,_=>λu a=>by cases a
 |y::xs,u::us,.cons u9 k8,f=>λd a=>by
  rw[MH,HG]at f;rcases D7.mp a with rfl|a;rw[Qw u9 f.1];show z51 u9 c f.1 b
  show vU c b k8 f.2 d a
def MT (x:V)(xs:TM):Bool:=xs.any λy=>Jw y x
def LS (K:Cl)(a:Bool):R2:=λx y H Q=>∃p xs,y=.ref p/\(D3 K H p xs\/HM K H p xs)/\uG x=I/\xs.all uG=I/\Q (.bl<|if a then !MT x xs else MT x xs) H
def aG :GK f (Z5 .In) (LS f.K Za):=by
 intro i s U H x y v u Q c j k h;have Wp p xs rfl b g d q:=h;cases k;rcases b with b|b;have We a u9 e l:=c.list b;show SeqAt.in_listAt (IB x) e.isList (λw hw=>vU j g u9 d w<|by simpa using hw) #[.bl _,H,c,Y,?_];rw[show a.toArray.any (IB x)=a.any (IB x) by simp,rO u9 d];show q
 have We a u9 e l:=c.tuple b;show SeqAt.in_tupleAt (IB x) e (λw hw=>vU j g u9 d w<|by simpa using hw) #[.bl _,H,c,Y,?_];rw[show a.toArray.any (IB x)=a.any (IB x) by simp,rO u9 d];show q
def lR :GK f (Z5 .NotIn) (LS f.K I):=by
 intro i s U H x y v u Q c j k h;have Wp p xs rfl b g d q:=h;cases k;rcases b with b|b;have We a u9 e l:=c.list b;show SeqAt.notIn_listAt (IB x) e.isList (λw hw=>vU j g u9 d w<|by simpa using hw) #[.bl _,H,c,Y,?_];rw[show a.toArray.any (IB x)=a.any (IB x) by simp,rO u9 d];show q
 have We a u9 e l:=c.tuple b;show SeqAt.notIn_tupleAt (IB x) e (λw hw=>vU j g u9 d w<|by simpa using hw) #[.bl _,H,c,Y,?_];rw[show a.toArray.any (IB x)=a.any (IB x) by simp,rO u9 d];show q
def tU :yL f (.builtin "len") (λxs H Q=>∃p b,xs=[.ref p]/\(D3 f.K H p b\/HM f.K H p b)/\Q (.int b.length) H):=by
 intro l s U H xs n Q d u9 h;have Wd p b rfl c q:=h;have Wa u rfl m:=G6 u9;cases m;have k:=qL;rcases c with c|c;have We e i g j:=d.list c;have a:=i.length;show Calls.call_len_list g.isList (by simp only[GS]<;>show Pf k a j) #[.int b.length,H,d.tok _,#[s.toks+1,by rw[GS,a]],q]
 have We e i g j:=d.tuple c;have a:=i.length;show len_tuple g (by simp only[GS]<;>show Pf k a j) #[.int b.length,H,d.tok _,#[s.toks+1,by rw[GS,a]],q]
def vp :yL f (.type "list") (λxs H Q=>∃p d,xs=[.ref p]/\(D3 f.K H p d\/HM f.K H p d)/\∀l,H l=D->Q (.ref l) (upd H l (.lst d))):=by
 intro o s U H xs E Q v u9 h;have Wd p d rfl r q:=h;have Wa u rfl C:=G6 u9;cases C;have fin:∀a,DS d a->d.length<=Zw->∀c i,(∀b B,s.heap.get? b=J B->c.get? b=J B)->
   c.get? s.heap.objs.size=J {cls:=.type "list",dict:=D,data:=.seq a.toArray i,slots:=[].toArray}->EP f o U Q (.ref s.heap.objs.size) {s with heap:=c}:=λa e g c i t w=>
  #[.ref s.heap.objs.size,_,v.laid t (D4 _)<|show yy f.prog f.w _ c _ (.lst d)from#[g,a,i,e,w],Y,q _<|v.hok.fresh<|D4 _]
 rcases r with r|r;have We a e x g:=v.list r;have We j A z k:=x.isList;have Wb n y:=k;show call_list_seq p (.inl Y) A z y (λc i t w=>fin a e g c i t w)<|by simp only[GS]<;>show Gg (Gu e.length.symm) g
 have We a e x g:=v.tuple r;have We j A z m:=x;have Wb n y:=m;show call_list_seq p (.inr Y) A z y (λc i t w=>fin a e g c i t w)<|by simp only[GS]<;>show Gg (Gu e.length.symm) g
def oy :yL f (.type "tuple") (λxs H Q=>∃p c,xs=[.ref p]/\((D3 f.K H p c/\∀l,H l=D->Q (.ref l) (upd H l (.tup c)))\/(HM f.K H p c/\Q (.ref p) H))):=by
 intro a s U H xs v Q e u9 h;have Wh p c rfl h:=h;have Wa u rfl r:=G6 u9;cases r;rcases h with⟨hq,q⟩|⟨hq,q⟩;have We b k i m:=e.list hq;have d:=k.length;show call_tuple_list i.isList (λg t=>?_) (by simp only[GS]<;>show Gg (Gu d.symm) m);have n:DM f a U H {s with heap:=g}:=e.kept (t':=s.toks) t;have o:DM f a U (upd H g.objs.size<|.tup c) {s with heap:=g.push {cls:=.type "tuple",data:=.seq b.toArray}}:=
  n.laid (t':=s.toks) (λj w gV=>D6 _ gV) (D4 _) (show yy f.prog f.w _ _ _ (.tup c)from#[m,b,k,IsTup.new _ _])
 show#[.ref g.objs.size,_,o,Y,q _<|n.hok.fresh<|D4 _];have We b k i m:=e.tuple hq;show call_tuple_same i #[.ref p,H,e,Y,q]
def N4 (K:Cl)(T:String)(x:V)(H:Hp):Prop:=match x with
 |.str _=>T="str"
 |.int _=>T="int"
 |.ref p=>(T="list"/\∃xs,D3 K H p xs)\/(T="tuple"/\∃o,K.lookup p=J o/\o.cls=.type "tuple"/\o.dict=D)\/
   (T="dict"/\((∃a,H p=J (.dK a))\/∃a,H p=J (.dT a)))\/(T="set"/\∃S n,H p=J (.set S n))
 |_=>False
variable {q5 Bb:String}
def Qx(d:DM f cC B m r)(o:DT e9 f9)(k:N4 f.K q5 e9 m):r.TypeIs f9 q5/\∀a,f9=.ref a->∃t,r.heap.get? a=J t/\t.dict=D:=by
 cases e9 with
 |str z=>have Wb k8 rfl:=o;cases(k);show#[typeIs_str r z k8,λ_ w=>nomatch w]
 |int i=>have Wb k8 rfl:=o;cases(k);show#[typeIs_int r i k8,λ_ w=>nomatch w]
 |ref p=>
  cases o;rcases k with⟨rfl,xs,hq⟩|⟨rfl,j,hk,v,l⟩|⟨rfl,hk⟩|⟨rfl,S,n,hk⟩;have We u _ s _:=d.list hq;show#[s.isList.typeIs,λa w=>?_];cases w;have Wj j n w c l _:=s;show#[j,w,l]
  show#[#[j,d.kIn p j hk,v],λa w=>?_];cases w;show#[j,d.kIn _ j hk,l];have z:∃j,r.heap.get? p=J j/\j.ExactDict:=by
   rcases hk with⟨kvs,hk⟩|⟨kvs,hk⟩;have Ws _ _ _ _ e:=d.hok p _ hk;have Wr j _ _ w b _:=e;show#[j,w,b]
   have Ws _ _ _ _ g:=d.hok p _ hk;have Wr j _ _ w b _:=g;show#[j,w,b]
  have Wa j w b:=z;show#[#[j,w,b.1],λa q=>?_];cases q;show#[j,w,b.2.1];have Wg j _ h:=d.hok p _ hk;have Wd _ _ w b _:=h;show#[#[j,w,b.1],λa q=>?_];cases q;show#[j,w,b.2.1]
 |_=>show Ze k
def yn9 (K:Cl)(T:String)(r:V->TM->Tq)(to:TE):TE:=λU H Q=>to U H λx a=>N4 K T x a/\r x [] a Q
def tBM (K:Cl)(T:String)(r:V->TM->Tq)(to:TE)(t:TA):TE:=λU H Q=>to U H λx a=>N4 K T x a/\t U a λxs b=>r x xs b Q
variable {p:Zv}
def Qy (q:PlainAttrs q5)(d:Slot q5 p Bb)(g:typeOf (.builtin Bb)=pure (.type "method_descriptor"))(t:N3 f Bb u9)(z:PE f j j3)
  (c: ~~~(Z0 j p f.env (eval j f.env)=eval j f.env)) (b: ~~~((y.endLine == K.line)=I)):PE f (.Call (.Attribute j p y) [] [] K) (yn9 f.K q5 u9 j3):=by intro a s U H Q n h;show wpAny_Call_method0_late c b<|D1 (z a s U H _ n h) λv u=>Wj λx l k i w o=>?_;have Wc r m:=Qx k i w;show#[5,q5,Bb,q,d,g,r,m,Mj Y<|PySem.evalArgs_none<|t a u U l x [] v [] Q k i .nil o]
variable {O:T1}
def qB (M:PlainAttrs q5)(k:Slot q5 p Bb)(l:typeOf (.builtin Bb)=pure (.type "method_descriptor"))(P:N3 f Bb u9)(V:PE f j j3)(T:PA f (w::O) k8)
  (d: ~~~(Z0 j p f.env (eval j f.env)=eval j f.env))
  (i: ~~~(((Zx K<|A3 (w::O) f.env).all (λx=>!x.1)&&(Z4 K<|Zy [] f.env).all (λx=>x.1.isSome)
   &&decide ((w::O).length+([]:T3).length+(if([]:T3).isEmpty then 0 else 1)<30))=I))
  (c: ~~~((y.endLine == K.line)=I)) (C: ~~~Uo w O f.env) (b: ~~~Uq K O f.env):
  PE f (.Call (.Attribute j p y) (w::O) [] K) (tBM f.K q5 u9 j3 k8):=by intro a s U H Q u h;show wpAny_Call_method_late d i c Y<|D1 (V a s U H _ u h) λv R=>Wj λx E n o B L=>?_;have Wc N F:=Qx n o B;show#[5,q5,Bb,M,k,l,N,F,?_];have m:=T K a R U E _ n L;rw[C]at m ⊢;show Mj (by change(Za||(Zx K<|A3 O f.env).any (·.1))=Za;rw[b]<;>rfl)<|Calls.evalArgs_plain<|D1 m λG z e=>by have Wd t r q A S:=e;show P a z U r x t v G Q q o A S
/- xs.append(e),list.index on a module's tuple .. are N3 facts of 06m -/
def KH (X:Cx)(b:String)(r:V->TM->Tq):Prop:=
 ∀(a:Tu) (s:C1) (U:St) (H:Hp) (x:V) (xs:TM) (v:Bs) (us:TQ) (Q:VK),DM X a U H s->DT x v->DS xs us->r x xs H Q->
  C3 (C4 X.prog X.w) X.A (call (.builtin b) (v::us)) (EP X a U Q) X.xe s
def DS.one(h:DS [e9] g7):∃u,g7=[u]/\DT e9 u:=by
 cases h with|cons r q=>cases q;show#[_,Y,r]
def DS.two(h:DS [e9,v8] g7):∃u v,g7=[u,v]/\DT e9 u/\DT v8 v:=by
 cases h with
 |cons r q=>
  cases q with|cons q z=>cases z;show#[_,_,Y,r,q]
theorem DS.zero :∀{a:TQ},DS [] a->a=[]
 |_,.nil=>rfl
theorem DS.dropLast(h:DS dU g7):DS dU.dropLast g7.dropLast:=by
 induction h with
 |nil=>show .nil
 |cons r t a=>
  cases t with|nil=>show .nil|cons q b=>show .cons r a
theorem ff(l:List u3):l.eraseIdx (l.length-1)=l.dropLast:=by
 induction l with
 |nil=>rfl
 |cons a r c=>
  cases r with
  |nil=>rfl
  |cons b r=>
   have e:(a::b::r).length-1=((b::r).length-1)+1:=by have f:(a::b::r).length=r.length+2:=Y;have d:(b::r).length=r.length+1:=Y;lia
   rw[e,List.eraseIdx_cons_succ,c]
   all_goals rfl
variable {CG:Uc->Uc}
def DM.lset {its':TQ}(c:DM f cC B m r)(b:m i=J (.lst dU))(e:r.heap.get? i=J {cls:=.type "list",data:=.seq g7.toArray l}) (hf:CG g7.toArray=its'.toArray) (d:DS u0 its') (h:u0.length<=Zw):DM f cC B (upd m i<|.lst u0) {r with heap:=r.heap.update i<|Z7.mapSeq CG,toks:=N}:=by have q:=PySem.IsL.update e CG;rw[hf]at q;show c.write (by rw[b];trivial) (.inl Y) (λj u a g=>(G4 r.heap (Z7.mapSeq CG)<|Gx a).trans g) #[_,q] ?_;show#[h,its',_,d,q]
def DM.lnew(c:DM f cC B m r)(a:DS dU g7)(b:dU.length<=Zw):DM f cC B (upd m r.heap.objs.size (.lst dU)) {r with heap:=r.heap.push {cls:=.type "list",data:=.seq g7.toArray},toks:=l}:=
 c.laid (λ_ _ q=>D6 _ q) (D4 _) #[b,g7,0,a,GB _ Y]
theorem DM.fresh (a:DM f cC B m r):m r.heap.objs.size=D:=a.hok.fresh<|D4 _
def DM.lstM (g:DM f cC B m r)(d:m i=J (.lst dU)):dU.length<=Zw/\∃(a:TQ) (n:Nat),DS dU a/\dU.length=a.length/\r.heap.get? i=J {cls:=.type "list",data:=.seq a.toArray n}:=by have Wc z b:=g.hok i _ d;have Wh a n c e:=b;show#[z,a,n,c,#[c.length,e]]
def zn6(h:l<=Zw):kB l=Za:=by unfold kB;show Hd<|Nat.not_lt_of_le h
def zL3 :V->TM->Tq:=λx a H Q=>∃l xs y,x=.ref l/\a=[y]/\H l=J (.lst xs)/\xs.length<Zw/\Q .non (upd H l<|.lst<|xs++[y])
def sI{X:Cx} :KH X "list.append" zL3:=by intro f s U H x o v m Q b k g h;have#[l,xs,y,rfl,rfl,c,d,q]:=h;cases k;have Wa u rfl j:=g.one;have#[z,a,n,r,i,e]:=b.lstM c;show Lg F.slot_list_append #[_,e,Y] F.entry_list_append (F.args_list_append_2 _ _) (PySem.list_append l a.toArray n u<|by rw[GS];show Hy<|Ha (Gu i.symm) d) #[e,?_];show#[.non,_,b.lset c e () (r.append<|.cons j .nil) ?_,Y,q];rw[GJ,Ml];show d
def zK3 :V->TM->Tq:=λx c H Q=>∃l b xs a,x=.ref l/\c=[.ref b]/\H l=J (.lst xs)/\H b=J (.lst a)/\xs.length+a.length<=Zw/\Q .non (upd H l<|.lst<|xs++a)
def aM :KH f "list.extend" zK3:=by
 intro o s U H x G v L Q i C w h;have Wo l b xs K rfl rfl k y m q:=h;cases C;have Wa u rfl B:=w.one;cases B;have#[z,c,n,r,p,e]:=i.lstM k;have#[M,a,t,A,j,E]:=i.lstM y;have g:c.toArray.size+a.toArray.size<=Zw:=by rw[GS,GS];show Pg m p j
 have d:¬(!c.toArray.isEmpty&&kB (c.toArray.size+a.toArray.size))=I:=by rw[zn6 g,CU];show Hq
 show Lg F.slot_list_extend #[_,e,Y] F.entry_list_extend (F.args_list_extend_2 _ _)
  (AutoSeq1.list_extend_list_list_0 l c.toArray n b a.toArray t d (by rw[GS];show Gg (Gu p.symm) z)<|Gg g<|GU _ _) #[e,E,?_]
 show#[.non,_,i.lset k e () (r.append A) ?_,Y,q];rw[GJ];show m
def yn8 :V->TM->Tq:=λx a H Q=>∃l xs y,x=.ref l/\a=[]/\H l=J (.lst xs)/\xs[xs.length-1]?=J y/\Q y (upd H l<|.lst xs.dropLast)
def Qz :KH f "list.pop" yn8:=by
 intro i s U H x A v w Q d t m h;have#[l,xs,y,rfl,rfl,g,k,q]:=h;cases t;have c:=m.zero;subst c;have#[z,a,n,r,j,e]:=d.lstM g;have Wa u o p:=r.get k;have b:a.toArray[a.toArray.size-1]?=J u:=by change a.toArray[a.length-1]?=J u;rw[<-CW,<-j];show o
 show Lg F.slot_list_pop #[_,e,Y] F.entry_list_pop (F.args_list_pop_1 _) (MeetsSeq.list_pop_last l a.toArray n u b<|by rw[GS];show Gg (Gu j.symm) z) #[e,?_];show#[y,_,d.lset (its':=a.dropLast) g e ?_ r.dropLast ?_,p,q];change a.toArray.eraseIdxIfInBounds (a.toArray.size-1)=a.dropLast.toArray;rw[GS,List.eraseIdxIfInBounds_toArray,ff];rw[List.length_dropLast];show Gg (Nat.sub_le _ _) z
def yp4 :R2:=λx y H Q=>∃l b xs a,x=.ref l/\y=.ref b/\H l=J (.lst xs)/\H b=J (.lst a)/\xs.length+a.length<=Zw/\∀p,H p=D->Q (.ref p) (upd H p<|.lst<|xs++a)
def ya2 :GK f (ZG .Add) yp4:=by
 intro j s U H x y v u Q d B k h;have Wo l b xs F rfl rfl m o i q:=h;cases B;cases k;have#[z,c,n,r,t,e]:=d.lstM m;have#[E,a,C,p,g,w]:=d.lstM o;show PySem.P.add_list e w ?_ (by rw[GS,GS];show Pg i t g);have A:c.toArray++a.toArray=(c++a).toArray:=by simp
 rw[A];show#[.ref _,_,d.lnew (r.append p) (by rw[GJ];show i),Y,q _ d.fresh]
end L2
namespace Att
open PySem PySem.W PySem.Calls PyProof.Rows
variable {EU:Params}{v:C7}
def rC:∀(c:TN) (d:TQ),WellAll EU v d (c.map WData.int)->IntsAre d c:=by
 intro c;induction c with
 |nil=>intro d w;rw[Ld]at w;cases w;show .nil
 |cons n c e=>
  intro d w;rw[GW]at w;cases w with|cons a b=>cases a;show .cons _ _<|e _ b
variable {l:Nat}{Cr:OpenLaw}{g7:TQ}
def za4(s:Cr.most=J l){b:List WData}(c:Cr.row.toRowW.claim.pre b=I) (j:WellAll EU v g7 b):∃a k e,g7=[Zf a]/\b=[WData.list (e.map WData.int)]/\v.get? a=J {cls:=.type "list",data:=.seq k.toArray}/\IntsAre k e/\e.length<=l:=by
 have m:Cr.pre.holds [] {args:=b}=I:=(pre_splitW c).2;have Wd d r rfl t n:=hasAllW_cons<|(pre_splitW c).1;obtain rfl:=hasAllW_nil n;have Wa xs rfl o:=hasW_list t;have Wb e rfl:=items_int o;have g:e.length<=l:=by
  unfold OpenLaw.pre at m;have i:(WTm.not<|.lt (.lit<|.int l)<|.len<|.arg 0).holds [] {args:=[.list (e.map .int)]}=I:=by have i:=(holds_andW m).1;rw[s]at i;show i
  have h:=condW_of i<|w_not<|w_lt w_lit<|w_len_list<|w_arg Y;rw[DZ]at h;show JK λq=>?_;first
   |(rw[Hw ((Int.ofNat_lt.2 q))]at h;show Ut h ())
   |(simp at h;omega)
 cases j with
 |cons p u=>
  cases u;cases p with|list w f=>show#[8,_,_,e,Y,Y,w,rC e _ f,g]
def ao (l:OpenLaw)(a:List WData):l.row.toRowW.claim.post a (.bool I) a=I:=
 postW_of
  (show WShape.has [] (.bool I) .bool=I by first|rfl|decide|simp[WShape.has,WShape.arms,WShape.armsAll])
  (w_eq_bool (w_res Y) w_lit) Y
variable {CQ:(Tt)->Ul}{E:C5}{BH:C6->Ul}{Bh:DefRec}{S:TR}
def attach_call
  (L:Cr.most=J l) (z:Bh.params.defaults=[])
  (j:∀(w:C6) (c b:C1) (n x:Tt) (m:Ch) (o:Z7) (t p e:Bs) (a:Ch) (g:TQ) (q:TN),
   Ground E S [] CQ w c n x b.heap->BH w b.heap->
   b.heap.get? m=J o->o.data=.func (docDef Bh.name Bh.params Bh.body Bh.scope t p e)->b.heap.CodeRec p Bh.name->n Bh.name=J (.ref m)->
   b.heap.get? a=J {cls:=.type "list",data:=.seq g.toArray}->IntsAre g q->q.length<=l->b.gens=[].toArray->
   ZH (C4 Cr.prog w) callerA (.call (.ref m) #[[.ref a],[]]) (λr s=>r=.ok (.ret<|.bool I)/\OldK b.heap s.heap/\s.os=b.os/\Yc s.gens) b):
  WalkO E S CQ BH Cr.row.toRowW Bh [] (λf g=>PySem.call f g):=by intro w c b n x G Q m o t p e N kV V M u B y hg A F W h C H v U;obtain rfl:N=.none:=Dflts.none B z;obtain rfl:kV=.none:=Dflts.noKw B;have#[a,g,q,rfl,rfl,i,d,k]:=za4 L h v;show enter_call<|Jk (j w c b n x m o t p e a g q G Q V (fd_plain M) u y i d k hg) λr s O=>?_;have Wq rfl R K P:=O;show#[.inl #[8,.bool I,.bool I,[],Y,λ_=>Y,.bool I,ao Cr _,λ_=>#[List.Pairwise.nil,λ_ T=>(nomatch T)]],R,K,P]
end Att
namespace L2
open PySem PySem.Spec PyProof.Rows
variable {i9:TN}{g7:TQ}
def aK(h:IntsAre g7 i9):DS (i9.map V.int) g7:=by
 induction h with|nil=>show .nil|cons n t _ a=>show .cons #[t,Y] a
def DW (s:Da)(j:Nat):Da:=match s with
 |.ClassDef _ _ _ body _ _ _ _ _ _ _=>body.getD j<|.Pass #[(0),0,0,0]
 |_=>.Pass #[(0),0,0,0]
def yg (s:Da):Arguments:=match s with
 |.FunctionDef _ a _ _ _ _ _ _ _ _=>a
 |_=>{posonlyargs:=[],args:=[],vararg:=D,kwonlyargs:=[],kw_defaults:=[],kwarg:=D,defaults:=[]}
def zA (s:Da):List Da:=match s with
 |.FunctionDef _ _ b _ _ _ _ _ _ _=>b
 |_=>[]
def zb (s:Da):De:=match s with
 |.FunctionDef _ _ _ _ _ _ sc _ _ _=>sc
 |_=>{kind:=.function,names:=[],isGenerator:=Za,isCoroutine:=Za}
abbrev GA :JQ:=λ_ _ _ _ _ _=>False
abbrev E0 :XK:=λ_ _ _=>False
variable {f:Cx}
def we:G0 GA f E0:=λ_ _ _ _ _ _ _ h=>h.elim
structure Gi (K:Cl)(x qual:Zv)(st:Da)(f:Ch)(fd:Dd):Prop where
 ex:∃(oc:Bs) (od:Ua) (kV doc pm:Bs) (an:Ua) (cdv ct:Bs) (osl:Array (T8)),
  fd=Zl x qual (yg st) (zA st) (zb st) .none kV doc pm an cdv ct/\K.lookup f=J #[oc,od,.func fd,osl]/\Zo K cdv qual=I
 kp:Zh K (.ref f)=I
variable {l N:Nat}{E:C5}{q:Cl}{t9:Sp}{g8:Da}{p H:Zv}{C:Tt}{s:C6}{i x R oa Aw Bo Bz:Ch}{e7:Dd}{v:C7}{S m9:TR}
def Gi.ok{N:TR}(F:Gi q p H g8 i e7)(u:zq N S (zb g8))(len:∀c e Q f,t9 c e Q f->c.length=S.length)(d:∀(b:Bs) (A:Db) (a:TZ) (k:C1) (e:Hp) (c:TM) (Q:VK) (f:XK),zH l (A.deeper (Yb H (zb g8) k.heap.objs.size i b))->t9 c e Q f-> ∃t,Hr (yQ GA E s q C v N H (zb g8) i b A a k e f).nox (zA g8) t/\t {nx:=λ_ o=>Q .non o,rt:=Q} (start N c) e):zX E s q C v GA (l+1) i e7 S t9:=by have Wi G L kV j:=F.ex;have Wi z B M g:=j;have Wr b K w rfl r n:=g;show ji r n u len λA a k e c Q f y m=>?_;have Wa t h x:=d b A a k e c Q f y m;show#[t,h.nox,x]
def Gi.binds{ps:TR}(F:Gi q p H g8 i e7)
  (h:∀(kV a e:Bs) (g:Ua) (b f:Bs) (us:TQ),us.length=ps.length->bindArgs (Zl p H (yg g8) (zA g8) (zb g8) .none kV a e g b f) #[us,[]]=pure (ps.zip us)):DQ q e7 ps []:=by have Wi l n kV c:=F.ex;have Wi a e g d:=c;have Wr b f j rfl m k:=d;show .all<|h kV a e g b f
variable {w5 AH:Ua}{f9 m6 v7 j5 t8 x8:Bs}{Br:Array (T8)}
def lQ{st:Da}(l:q.lookup i=J #[f9,w5,.func (Zl p H (yg st) (zA st) (zb st) .none m6 v7 j5 AH t8 x8),Br])
  (c:Zo q t8 H=I) (k:Zh q (.ref i)=I):Gi q p H st i (Zl p H (yg st) (zA st) (zb st) .none m6 v7 j5 AH t8 x8):=#[#[f9,w5,m6,#[v7,j5,AH,#[0,t8,x8,Br,Y,l,c]]],k]
def yu(h:l<=1000):l<Zw:=Ha h<|by decide
variable {y K fC k9:Pos}
def pv (i:Nat)(b: ~~~(f.N[i]?=J p))(d:‹GO f.env.scope p›)(c:‹Yl p›)
  (a:‹Ym p›):PE f (.Name p y) (NR i):=zG b d c a
variable {AL BC EV:Prop}
def uW(h:BC):if Za=I then AL else BC:=by rw[Us Hq];show h
def sJ(h:AL):if I=I then AL else BC:=by rw[Ur Y];show h
def yp2[Decidable AL](a:AL->BC)(b:¬AL->EV):if AL then BC else EV:=by by_cases h:AL;rw[Ur h];show a h;rw[Us h];show b h
def zv (H a:Hp):Prop:=∀b o,H b=J o->a b=J o
def zv.refl (H:Hp):zv H H:=λ_ _ h=>h
variable {m d7 Bi B6:Hp}
def zv.trans(a:zv m d7)(b:zv d7 Bi):zv m Bi:=λc o h=>b c o<|a c o h
def uX (a:TB):List (Zv×NameKind)->TB->TB
 |[],acc=>acc
 |(n,k)::r,acc=>uX a r (if k=.free then(n,(a.lookup n).getD 0)::acc else acc)
variable {e8 Eg:De}{q0:Df}
def uE(h:∀y∈e8.names,y.2=.free->∃c,q0.cells.lookup y.1=J c):closureFor e8 q0=pure (uX q0.cells e8.names []):=by
 have e:∀d b,(∀y∈d,y.2=.free->∃c,q0.cells.lookup y.1=J c)->
   (forIn d b λx r=>(if(x.2 == Yd)=I then(do let a <-cellOf q0 x.1;pure (ForInStep.yield ((x.1,a)::r)))else pure (ForInStep.yield r):Sem (ForInStep<|List<|Zv×Ch)))=pure (uX q0.cells d b):=by
  intro d;induction d with
  |nil=>intro b _;rfl
  |cons y r l=>
   intro b g;have#[n,k]:=y;rw[LF];have j:∀z∈r,z.2=.free->∃c,q0.cells.lookup z.1=J c:=λz o=>g z<|GH _ o;by_cases hk:k=.free;subst hk;have Wb c i:=g (n,.free) GN Y;have m:cellOf q0 n=pure c:=by unfold cellOf;rw[i]
   have f:((Yd == Yd)=I):=Y;simp only[f,Il,m,pure_bind];rw[l _ j];change _=pure (uX q0.cells r (if Yd=Yd then(n,(q0.cells.lookup n).getD 0)::b else b));rw[Ur Y,i];rfl;have f:(k == Yd)=Za:=by simpa using hk
   simp only[f,IL,Ic,pure_bind];rw[l _ j];change _=pure (uX q0.cells r (if k=Yd then(n,(q0.cells.lookup n).getD 0)::b else b));rw[Us hk]
 have q:=e e8.names [] h;unfold closureFor;simp only[]at q ⊢;rw[show(forIn e8.names ([]:TB) λx r=>_)=_ from q];rfl
theorem jU {a:TB}:∀(d:List (Zv×NameKind)) (acc:TB),(∀y∈d,y.2=.free->∃c,a.lookup y.1=J c)->
  ∀x c,(x,c)∈uX a d acc->(x,c)∈acc\/((x,Yd)∈d/\a.lookup x=J c)
 |[],acc,_,x,c,h=>.inl h
 |(n,k)::r,acc,hy,x,c,h=>by
  have s:∀z∈r,z.2=.free->∃c,a.lookup z.1=J c:=λz j=>hy z<|GH _ j;have p:=h;rcases jU r _ s x c p with q|⟨i,o⟩;by_cases hk:k=.free
  rw[Ur hk]at q;rcases D7.mp q with e|q;have Wb t m:=hy (n,k) GN hk;have g:=Uu Prod.fst e;have f:=Uu Prod.snd e;have b:=m;rw[b]at f;have l:=f;subst g l hk;show .inr #[GN,b]
  show .inl q;rw[Us hk]at q;show .inl q;show .inr #[GH _ i,o]
theorem jM {a:TB}:∀(b:List (Zv×NameKind)) (acc:TB) (p:Zv×Ch),p∈acc->p∈uX a b acc
 |[],_,_,h=>h
 |(n,k)::r,acc,p,h=>by change p∈uX a r (if k=.free then(n,(a.lookup n).getD 0)::acc else acc);show jM r _ p ?_;split;show GH _ h;show h
theorem jk {a:TB}:∀(b:List (Zv×NameKind)) (acc:TB) (x:Zv),(x,Yd)∈b->∃c,(x,c)∈uX a b acc
 |[],_,_,h=>by simp at h
 |(n,k)::r,acc,x,h=>by
  change ∃c,(x,c)∈uX a r (if k=.free then(n,(a.lookup n).getD 0)::acc else acc);rcases D7.mp h with e|h;have d:x=n:=Uu Prod.fst e;have f:=Uu Prod.snd e;subst d f;rw[Ur Y];show#[_,jM r _ _ GN]
  show jk r _ x h
theorem HB {x:Zv}{c:Ch}:∀{l:TB},(x,c)∈l->∃d,l.lookup x=J d
 |[],h=>by simp at h
 |(n,a)::r,h=>by
  rw[Hs];cases e:x == n with
  |true=>show#[a,Y]
  |false=>
   rcases D7.mp h with q|q;have b:x=n:=Uu Prod.fst q;rw[b]at e;simp at e
   show HB q
structure yj (XN:TR)(xs:De)(N:TR)(imp:TJ)(scope:De):Prop where
 kind:scope.kind=.function
 nd:N.Nodup
 nocell:∀y∈scope.names,y.2≠.cell
 locs:∀y∈scope.names,y.2=.local->scope.names.lookup y.1=J .local
 frees:∀y∈scope.names,y.2=.free->xs.names.lookup y.1=J .cell\/xs.names.lookup y.1=J .free
 len:imp.length=N.length
 impsB:((imp.zip N).all λp=>match p.1 with|none=>I|some j=>XN[j]? == J p.2&&scope.names.lookup p.2 == J .free)=I
variable {j6:TJ}
def yj.imps(c:yj S e8 m9 j6 Eg):∀(i j:Nat),j6[i]?=J (J j)->∃x,m9[i]?=J x/\S[j]?=J x/\Eg.names.lookup x=J .free:=by
 intro i j h;have e:i<m9.length:=by rw[<-c.len];show((Gm.mp h).1)
 have b:=Gh e;have d:(J j,m9[i])∈j6.zip m9:=by
  have f:(j6.zip m9)[i]?=J (J j,m9[i]):=by rw[List.getElem?_zip_eq_some];show#[h,b]
  show HF f
 have a:=(JL.mp c.impsB _ d);rw[HG]at a;show#[m9[i],b,eq_of_beq a.1,eq_of_beq a.2]
def xl (a:TJ)(U:St):St:=a.map λo=>o.bind λj=>(U[j]?).bind id
variable {B AD:St}{e9:V}
def zb9(h:(xl j6 B)[l]?=J (J e9)):∃j,j6[l]?=J (J j)/\B[j]?=J (J e9):=by
 unfold xl at h;rw[GD]at h;cases e:j6[l]? with
 |none=>rw[e]at h;cases h
 |some o=>
  rw[e]at h;have b:=Hb h;cases o with
  |none=>cases b
  |some j=>
   have a:(B[j]?).bind id=J e9:=b;cases e2:B[j]? with|none=>rw[e2]at a;cases a|some w=>rw[e2]at a;have c:w=J e9:=a;show#[j,Y,by rw[e2,c]]
def Cx.comp (X:Cx)(N:TR)(a:De)(C:Ch)(c:C1)(d:Hp)(b:TU):Cx where
 prog:=X.prog
 w:=X.w
 K:=X.K
 mg:=X.mg
 base:=X.base
 A:=X.A
 N:=N
 s₀:=c
 H₀:=d
 env:=compEnvC a (uX X.env.cells a.names []) C X.env
 outer:=X.stack
 stack:=X.stack
 ex:=b
 fn:=λ_=>Za
 calm:=X.calm
 pn:=[]
 xe:=λ_ _=>False
theorem uZ {c:Df}:∀{a:List (Zv×NameKind)}{x:Zv},
  (a.map λ(n,k)=>if(k == Yd&&c.scope.kind == .function&&c.kindOf n == J .cell)then(n,Ye)else(n,k)).lookup x=J .cell\/
  (a.map λ(n,k)=>if(k == Yd&&c.scope.kind == .function&&c.kindOf n == J .cell)then(n,Ye)else(n,k)).lookup x=J .free->
  (∀y∈a,y.2≠.cell)->(x,Yd)∈a
 |[],x,h,_=>by simp at h
 |(n,k)::r,x,h,hc=>by
  have m:=@uZ c r x;rw[GW]at h;dsimp only at h;by_cases i:x=n;subst i;by_cases hk:k=.free;subst hk;show GN;have f:(k == Yd)=Za:=by simpa using hk
  simp only[f,La,IL,Ic,Hs,beq_self_eq_true,Il]at h;rcases h with h|h;have e:=Hb h;show Ut e<|hc (x,k) GN
  have e:=Hb h;show Ut e hk;have g:(x == n)=Za:=by simpa using i
  have d:∀b l,List.lookup x ((if b=I then(n,Ye)else(n,k))::l)=l.lookup x:=λb l=>by cases b<;>simp[Hs,g]
  rw[d]at h;show GH _<|m h λy j=>hc y<|GH _ j
theorem sW {a:Df}:∀{c:List (Zv×NameKind)}{x:Zv},c.lookup x=J .free->
  (c.map λ(n,k)=>if(k == Yd&&a.scope.kind == .function&&a.kindOf n == J .cell)then(n,Ye)else(n,k)).lookup x=J .cell\/
  (c.map λ(n,k)=>if(k == Yd&&a.scope.kind == .function&&a.kindOf n == J .cell)then(n,Ye)else(n,k)).lookup x=J .free
 |[],x,h=>by simp at h
 |(n,k)::r,x,h=>by
  have g:=@sW a r x;rw[GW];dsimp only;rw[Hs]at h;cases hx:x == n with
  |true=>rw[hx]at h;have e:=Hb h;subst e;by_cases f:(Yd == Yd&&a.scope.kind == .function&&a.kindOf n == J .cell)=I;left;rw[Ur f];simp[Hs,hx];right;rw[Us f];simp[Hs,hx]
  |false=>
   rw[hx]at h;have d:∀b l,List.lookup x ((if b=I then(n,Ye)else(n,k))::l)=l.lookup x:=λb l=>by cases b<;>simp[Hs,hx]
   rw[d];show g h
variable {r A6:C1}{cC Eb:Tu}
def uM (d:DM f cC B m r)(b:yj f.N f.env.scope S j6 e8):∀y∈e8.names,y.2=.free->∃c,f.env.cells.lookup y.1=J c:=λy a hk=>d.ok.has y.1<|b.frees y a hk
def xQ (b:DM f cC B m r)(a:yj f.N f.env.scope S j6 e8)(h:(uX f.env.cells e8.names []).lookup p=J i):(p,Yd)∈e8.names/\f.env.cells.lookup p=J i:=by
 rcases jU e8.names [] (uM b a) p i (JD h)with q|q;show Ut q<|by simp
 show q
def tD (d:DM f cC B m r)(b:yj f.N f.env.scope S j6 e8)(h:(p,Yd)∈e8.names):∃c,(uX f.env.cells e8.names []).lookup p=J c:=by have#[c,a]:=jk e8.names [] p h;show HB a
variable {l8:TU}
def zr8(a:DM f cC B m r)(s:yj f.N f.env.scope S j6 e8)(hf:∀b∈l8,xH f cC m b)(ho:∀b∈l8,∃o,r.heap.get? b=J o)(g:x=r.heap.objs.size) (H:i=r.heap.objs.size+1) (t:∀b o,r.heap.get? b=J o->v.get? b=J o) (hn:v.Ns i C)(hl:v.get? x=J {cls:=.type "list",data:=.seq ([]:TQ).toArray N}):DM (f.comp S e8 i r m l8) [] (xl j6 B) (upd m x<|.lst []) {r with heap:=v,toks:=l}:=by
 have fa:m x=D:=a.hok.fresh (by rw[g];show D4 _);have L:i≠x:=by rw[H,g];show Nat.succ_ne_self _
 have Q:∀n c,f.env.cells.lookup n=J c->c<r.heap.objs.size:=λn c e=>by have Wb G q:=a.cell n c e;show q.lt
 show#[#[a.ok.mod,s.kind,a.ok.glob,a.ok.blt,?above,?inj,?has,?cab,a.ok.hd,a.ok.frames,.inl Y,?exf,λb o e=>a.bs b o e,Gg a.ok.bsz a.sz,?noex,?exfs,a.stack,a.stkFree],
  rfl,a.bare,Un.laid t (by rw[g];show D4 _) fa,#[C,hn,?loc],?cell,?free,?freeC,λp hp=>Ut (show p∈([]:Tu)from hp) (),a.hok.laid t (by rw[g];show D4 _) #[Gj _,[],N,.nil,hl],?len]
 case above=>change r.heap.objs.size<=i;rw[H];show HI _
 case inj=>show λn y c v h2=>a.ok.inj n y c (xQ a s v).2 (xQ a s h2).2
 case has=>show λn hx=>tD a s<|uZ hx s.nocell
 case cab=>show λn c h _=>Ut h<|by change ¬(Za=I);simp
 case exf=>intro b w;have Wb o T:=ho b w;show#[?_,λn c e=>(hf b w).2.2.2.2.1 n c (xQ a s e).2];rw[H];show Gp<|JG<|Gd T
 case noex=>
  intro b o e w;rcases(hf b w).2.2.2.1 with z|z;show a.ok.noex b o e z
  show Ut (Gf (Gd e)<|Gg a.ok.bsz z)<|Ib _
 case exfs=>
  intro b w hz;rcases D7.mp (a.stkSub b hz)with e|e;show(hf b w).2.1 e
  show(hf b w).2.2.1 e
 case loc=>
  intro X n G Z e2 e3;have Wa j q1 q2:=zb9 e2;have We y n1 n2 K:=s.imps X j q1;have P:(f.comp S e8 i r m l8).N[X]?=J y:=n1;rw[P]at Z;have M:=Hb Z;subst M;have E:=s.frees (y,.free) (JD K) Y;have Wa mX a3 R:=a.loc;have Wa u a4 a0:=R j y G n2 q2<|.inr E;show#[u,a4,?_];rcases a0 with⟨k,_⟩|⟨k,c,e,z⟩;have W:f.env.scope.names.lookup y=J .local:=k;rcases E with z|z;have A:=z;rw[W]at A;cases A
  have A:=z;rw[W]at A;cases A;have Wb d V:=tD a s<|JD K;have F:=(xQ a s V).2;rw[e]at F;have O:=Hb F;subst O;show .inr #[sW K,c,V,z.keeps t]
 case cell=>intro n c e;have Wb G q:=a.cell n c (xQ a s e).2;show#[G,q.keeps t]
 case free=>change upd m x _ i=D;rw[zg L];show a.hok.fresh<|by rw[H];show HI _
 case freeC=>intro n c e;have U:=(xQ a s e).2;rw[zg (by rw[g];show Gp<|Q n c U)];show a.freeC n c U
 case len=>unfold xl;rw[DZ];show s.len
def za7(d:DM f cC B m r)(hf:∀b∈l8,xH f cC m b)(c:DM (f.comp S e8 i r m l8) Eb AD d7 A6):DM f cC B d7 A6:=
 d.call' c.os c.base c.hok c.bare λb a=>#[(hf b a).2.2.2.1,(hf b a).2.1,(hf b a).2.2.2.2.1,(hf b a).2.2.2.2.2]
variable {A5:Result->Uh}{j w gV:Dc}{d9:Db}{O:T1}
def lJ(d:Nat->Uh)
  (turn:∀n b,d n b->C3 (C4 E s) d9 (pyNext f9) (λr f=>match r with
   |none=>A5 (.ok .next) f
   |some v=>C3 (C4 E s) d9 (ZM w f9 v) (λ_ k=>C3 (C4 E s) d9 (assign w q0 v) (λ_ q=>
     C3 (C4 E s) d9 (forIn O I λc r=>if r=I then do let e <-isTrue c q0 (eval c q0);pure (ForInStep.yield e)else pure (ForInStep.yield r)) (λe g=>
      if e=I then C3 (C4 E s) d9 (eval j q0) (λx i=>
       C3 (C4 E s) d9 (call (.builtin "list.append") [m6,x]) (λ_ o=>∃m,m<n/\d m o) (λ_ _=>False) i) (λ_ _=>False) g
      else ∃m,m<n/\d m g) (λ_ _=>False) q) (λ_ _=>False) k) (λ_ _=>False) f) (λ_ _=>False) b)
  (n:Nat) (h:d n b):ZH (C4 E s) d9 (.compLoop (.ListComp j [#[w,gV,O,0]] e8 y) 0 f9 m6 q0) A5 b:=by
 show codeAny_loop Y d (λn b z=>?_) n h;change C3 _ d9 ((compTurn (.ListComp j [#[w,gV,O,0]] e8 y) 0 f9 m6 q0).onRaise (λx=>do ZE x q0;theTreesLotGoes x)) _ _ b;show wpAny_noted ?_;rw[compTurn_list];show DL<|Lb<|DL<|Hk (turn n b z) (λr f l=>?_) λ_ _ a=>Ze a;cases r with
 |none=>show DX l
 |some v=>
  show DL<|Hk l (λ_ k t=>DL<|Hk t (λ_ q u=>DL<|Hk u (λe g p=>?_) λ_ _ a=>Ze a) λ_ _ a=>Ze a) λ_ _ a=>Ze a;cases e with|false=>show DX #[Y,p]|true=>show DL<|DL<|Hk p (λx i A=>DL<|Hk A (λ_ o B=>DX<|DX #[Y,B]) λ_ _ a=>Ze a) λ_ _ a=>Ze a
def vR (b:Cx)(d:T1)(t:TT):Prop:=
 ∀(a:Tu) (s:C1) (U:St) (H:Hp) (Q:Ts),DM b a U H s->t U H Q->
  C3 (C4 b.prog b.w) b.A (forIn d I λc r=>if r=I then do let ok <-isTrue c b.env (eval c b.env);pure (ForInStep.yield ok)else pure (ForInStep.yield r)) (TP b a U Q) b.xe s
def N5 :TT:=λ_ H Q=>Q I H
def eZ:vR f [] N5:=λ_ _ _ H _ a h=>wpAny_tests_nil #[H,a,h]
variable {Ak:TT}
def zP9(h:PT f j Ak):vR f [j] Ak:=λa s U H Q b q=>wpAny_tests_one<|h a s U H Q b q
def bA (j:It)(b:Ch)(g:TG)(t:TT)(u:TE)(k:St)(s:Hp)(Q:VK):Prop:=
 ∃W:Nat->Nat->TM->Tr,(∃m,W 0 m [] k s)/\∀i m d τ e,W i m d τ e->
  (j.stop i e/\Q (.ref b) e)\/(j.go i e/\∃N:TM->Tr,(∀h f p,N h f p->∃l,l<m/\W (i+1) l h f p)/\
   ∀x o,j.yld i e x o->g x τ o λa r=>t a r λc q=>
    if c=I then u a q λy n=>n b=J (.lst d)/\d.length<Zw/\N (d++[y]) a (upd n b<|.lst<|d++[y])else N d a q)
def jf (f:TI)(b:TJ)(g:TG)(d:TT)(e:TE):TE:=λU H Q=>f U H λh c=>∀a,c a=D->bA h a g d e (xl b U) (upd c a<|.lst []) Q
variable {BQ:Nat->Ul}{j3:TE}{Bv:TG}{Ae:VK}{i6:To}
def qT{b9:It}{RR:Bs->Ch->Result->Uh}(hc:f.calm=I) (b7:yj f.N f.env.scope S j6 e8) (hg:∀C r m l8,PG (f.comp S e8 C r m l8) gV Bv) (ht:∀C r m l8,vR (f.comp S e8 C r m l8) O Ak) (he:∀C r m l8,PE (f.comp S e8 C r m l8) j j3)(I2:DM f cC B m r) (T:HL f.prog f.w f.K gV b9 l8 i BQ) (Q:BQ 0 r.heap) (f2:∀b∈l8,xH f cC m b)(hW:∀c,m c=D->bA b9 c Bv Ak j3 (xl j6 B) (upd m c (.lst [])) Ae)(b8:∀a C q U a7,DM f cC B q U->U.heap.Ns C a7->xH f cC q C->Ae (.ref a) q->RR (.ref a) C (.ok .next) U):C3 (C4 f.prog f.w) f.A (newList []) (λc s3=>C3 (C4 f.prog f.w) f.A (newFunctionEnv e8 f.env.globals (uX f.env.cells e8.names []) [] f.env.qual D .none (J f.env)) (λH s4=> ZH (C4 f.prog f.w) f.A (.compStart (.ListComp j [#[gV,w,O,0]] e8 y) 0 (.ref i) c {H with scope:=relabel e8 f.env}) (RR c H.locals) s4) i6 s3) i6 r:=by
 show JH (wpAny_newFunctionEnv b7.nocell (by intro a6 hy;simp at hy) (λh1 l h=>?_) b7.kind);dsimp only at l h ⊢;generalize N:r.heap.push {cls:=.type "list",dict:=D,data:=.seq ([]:TQ).toArray}=HH at l h ⊢;have hC:HH.objs.size=r.heap.objs.size+1:=by rw[<-N,IM]
 have a0:r.heap.objs.size≠HH.objs.size:=by rw[hC];show Gp<|Ii _
 have P:∀b o,r.heap.get? b=J o->h1.get? b=J o:=λb o e=>h.extBut b o (by rw[hC];show Gp<|JG<|Gd e)<|D6 _<|N▸D6 _ e;have a4:=h.extBut _ _ a0<|D6 _<|N▸GB _ Y;have Wa W b1 turn:=hW r.heap.objs.size I2.fresh;have#[m0,w0]:=b1;generalize bc:HH.objs.size=C at l h hC a0 ⊢;have ho:∀b∈l8,∃o,r.heap.get? b=J o:=λb s=>let⟨o,e,_⟩:=T.obj 0 _ Q b s;#[o,e];generalize g:r.heap.objs.size=c at *;have L:∀s3:C1,s3={r with heap:=h1,toks:=r.toks+([]:TC).length}->
   ZH (C4 f.prog f.w) f.A (.compLoop (.ListComp j [#[gV,w,O,0]] e8 y) 0 (.ref i) (.ref c) (f.comp S e8 C r m l8).env) (RR (.ref c) C) s3:=by
  rintro s3 rfl;have I3:DM (f.comp S e8 C r m l8) [] (xl j6 B) (upd m c<|.lst []) {r with heap:=h1,toks:=r.toks+([]:TC).length}:=
   zr8 I2 b7 f2 ho g.symm (by rw[hC,g]) P l a4
  have a8:∀b∈l8,upd m c (.lst []) b=D:=λb s=>by have Wb o e:=ho b s;rw[zg (by rw[<-g];show Gp<|Gd e)];show(f2 b s).1
  have t:∀{q:Hp},(∀b∈l8,q b=D)->∀b∈l8,xH (f.comp S e8 C r m l8) [] q b:=λhn b s=>by have Wc e1 e2:=I3.ok.exf b s;show#[6,hn b s,e1,I3.ok.exfs b s,.inl s,e2,λp hp=>Ut (show p∈([]:Tu)from hp)<|by simp]
  show lJ (λn U=>∃E G τ q,DM (f.comp S e8 C r m l8) [] τ q U/\BQ E U.heap/\(∀b∈l8,q b=D)/\W E n G τ q) ?_ m0
   #[2,0,[],_,_,I3,T.keep _ _ _ Q λb _ o e=>P b o e,a8,w0]
  rintro n s4 ⟨E,G,τ,H4,I4,Z,a5,w4⟩;rcases turn E n G τ H4 w4 with⟨stop,qn⟩|⟨go,NN,hN,step⟩;show Hk (T.done (f.comp S e8 C r m l8) Y Y Y hc E [] s4 τ H4 (λ_ _=>False) I4 (t a5) Z stop) (λbg s5 b2=>?_) λ_ _ z=>z;have Wc hr I5:=b2;subst hr;have Wa m5 ax _:=id I5.loc;show b8 c C H4 s5 m5 (za7 I2 f2 I5) ax (I2.fpOk (by rw[hC,g];show HI _) I5.free) qn
  show Hk (T.item (f.comp S e8 C r m l8) Y Y Y hc E [] s4 τ H4 (λ_ _=>False) I4 (t a5) Z go) (λbg s5 b5=>?_) λ_ _ z=>z;have Wa u hr h5:=b5;subst hr;show Hk h5 (λ_ s6 b4=>?_) λ_ _ z=>z;have Wp x H6 I6 r6 y6 M b6:=b4;show Hk (hg C r m l8 _ s6 τ H6 x u _ (I6.pinned (t b6)<|T.obj _ _ M) r6<|step x H6 y6) (λ_ s7 az=>?_) λ_ _ z=>z;have Wh k H7 I7 q7:=az;show Hk (ht C r m l8 _ s7 k H7 _ I7 q7) (λok s8 ay=>?_) λ_ _ z=>z;have Wa H8 I8 q8:=ay;have A:∀{F:TM} {K:Hp} {R:C1},DM (f.comp S e8 C r m l8) ([]++pf l8 s6.heap) k K R->NN F k K->∃a7,a7<n/\∃E G τ q,DM (f.comp S e8 C r m l8) [] τ q R/\BQ E R.heap/\(∀b∈l8,q b=D)/\W E a7 G τ q:=λ{F K R} I9 n9=>by have Wa m' hm w9:=hN F k K n9;show#[m',hm,#[2,E+1,F,k,K,I9.unpinned,T.keep _ _ _ M λb s o e=>(I9.pin (b,o)<|JB _<|JB _<|vB s e).1,λb s=>?_,w9]];have Wa o e d:=T.obj _ _ M b s;show(I9.pin (b,o)<|JB _<|JB _<|vB s e).2.1
  cases ok with
  |false=>
   have ab:NN G k H8:=by have z:=q8;rw[Us Hq]at z;show z
   rw[Us Hq];show A I8 ab
  |true=>rw[Ur Y]at q8 ⊢;show Hk (he C r m l8 _ s8 k H8 _ I8 q8) (λv R b0=>?_) λ_ _ z=>z;have Wp a6 K I9 r9 a9 z9 q9:=b0;show Hk (sI (X:=f.comp S e8 C r m l8) _ R k K (.ref c) [a6] (.ref c) [v] (λ_ a3=>a3=upd K c (.lst<|G++[a6])) I9 Y (.cons r9 .nil) #[8,c,G,a6,Y,Y,a9,z9,Y]) (λ_ bb ah=>?_) λ_ _ z=>z;have Wd _ a3 b3 _ au:=ah;subst au;show A b3 q9
 show codeAny_compStart_list (L _ Y)<|T.self f.A 0 _ _ _ (T.keep _ _ _ Q λb _ o e=>P b o e)<|L _ Y
variable {Cn:TI}
def N6 (z:f.calm=I)(i:yj f.N f.env.scope S j6 e8)(E:PI f gV w Cn)(hg:∀C d c g,PG (f.comp S e8 C d c g) gV Bv)(U:∀C d c g,vR (f.comp S e8 C d c g) O Ak)
  (V:∀C d c g,PE (f.comp S e8 C d c g) j j3) (G: ~~~(∀x,Zz w f.env x=pure x)):
  PE f (.ListComp j [#[gV,w,O,0]] e8 y) (jf Cn j6 Bv Ak j3):=by intro cC s B H Q n h;rw[eval_ListComp];show wpAny_comprehension_free Y G (uE<|uM n i) i.kind i.locs<|D1 (E cC s B H _ n h) λv s1 W=>D1 W λL d=>Wg λit g l=>?_;have Wu tn a0 c e p T k f2 hW:=l;subst e;show qT z i hg U V p T k f2 hW λa C P s' m F t Z q=>#[m,t,λh' R=>?_];have Wt A r g2 u N X:=Z;show#[.ref a,P,F.turned (λb o M e=>(R.2 b M).trans e) A r u N X,Y,q]
def zC4(U:f.calm=I)(i:yj f.N f.env.scope S j6 e8)(W:PI f gV w Cn)(hg:∀C d c g,PG (f.comp S e8 C d c g) gV Bv)(ht:∀C d c g,vR (f.comp S e8 C d c g) O Ak)
  (he:∀C d c g,PE (f.comp S e8 C d c g) j j3) (P:f.N.Nodup) (R:f.N[l]?=J p) (hl:IT f.env.scope p) (z: ~~~(Z1 (.ListComp j [#[gV,w,O,0]] e8 y) (J<|.Name p K) fC.line f.env=pure I))
  (hf:@&(f.fn p=I\/f.env.scope.names.lookup p=J .local)) (Z: ~~~(∀p,Zz w f.env p=pure p)):
  PS f (.Assign [.Name p K] (.ListComp j [#[gV,w,O,0]] e8 y) fC) (NW (jf Cn j6 Bv Ak j3)<|nc l):=by
 intro cC s B H a4 E h;rw[exec_Assign_Name_used _ _ _ _ z];show DL<|Lb<|DL<|DL (Hk (wpAny_comprehension_free Y Z (uE<|uM E i) i.kind i.locs<|D1 (W cC s B H _ E h) λv s1 h1=>D1 h1 λa0 d h2=>?_)
  (λ_ s' Q=>DX<|DX Q) λ_ _ e=>e)
 have Wg it g x:=h2;have Wu tn a5 c e L T n f2 hW:=x;subst e;show qT U i hg ht he L T n f2 hW λa C H' s' m X M a3 q=>?_;have Wt V A g2 N F g5:=a3;show wpAny_assign_Name<|oN X P R hl (show DT (.ref a) (.ref a)from Y) (λs4 I4 u=>?_) hf;have Wa G sb t:=u;have r:C≠G:=by
  rcases t with e|e;rw[e];show A
  show(F p G e).symm
 show#[m,M.sameBut sb r,λh' k=>#[_,H',I4.turned (λb o hb e=>(k.2 b hb).trans e) V A N F g5,q]]
mutual
inductive DV (H:Hp):V->A2->Prop where
 |non:DV H .non .none
 |bl (b:Bool):DV H (.bl b) (.bool b)
 |int (i:Int):DV H (.int i) (.int i)
 |str (x:Zv):DV H (.str x) (.str x)
 |lst {a:Ch}{xs:TM}{ds:TL}:H a=J (.lst xs)->Hg H xs ds->DV H (.ref a) (.list ds)
 |tup {a:Ch}{xs:TM}{ds:TL}:H a=J (.tup xs)->Hg H xs ds->DV H (.ref a) (.tuple ds)
inductive Hg (H:Hp):TM->TL->Prop where
 |nil:Hg H [] []
 |cons {x:V}{xs:TM}{d:A2}{ds:TL}:DV H x d->Hg H xs ds->Hg H (x::xs) (d::ds)
end
variable {BI:V->Ue}
def N7{m2:TM->TL->Prop}(g:BI .non .none)(e:∀b,BI (.bl b) (.bool b))(o:∀i,BI (.int i) (.int i))(k:∀x,BI (.str x) (.str x))(t:∀{a:Ch}{xs:TM}{c:TL},m a=J (.lst xs)->m2 xs c->BI (.ref a) (.list c)) (r:∀{a:Ch}{xs:TM}{c:TL},m a=J (.tup xs)->m2 xs c->BI (.ref a) (.tuple c)) (f:m2 [] []) (s:∀{x:V}{xs:TM}{d:A2}{c:TL},BI x d->m2 xs c->m2 (x::xs) (d::c)):(∀x d,DV m x d->BI x d)/\∀xs c,Hg m xs c->m2 xs c:=by let j:=λx d (_:DV m x d)=>BI x d;let M2:=λx d (_:Hg m x d)=>m2 x d;have l:=λ{a} {xs} {c} (q:m a=J (.lst xs)) (_:Hg m xs c) (z:m2 xs c)=>t q z;have p:=λ{a} {xs} {c} (q:m a=J (.tup xs)) (_:Hg m xs c) (z:m2 xs c)=>r q z;have n:=λ{x} {xs} {d} {c} (_:DV m x d) (_:Hg m xs c) (y:BI x d) (z:m2 xs c)=>s y z;show#[λ_ _ h=>@DV.rec m j M2 g e o k l p f n _ _ h,λ_ _ h=>@Hg.rec m j M2 g e o k l p f n _ _ h]
def Hg.ind {H:Hp}{motive:(xs:TM)->(ds:TL)->Hg H xs ds->Prop}(nil:motive [] [] .nil)(cons:∀{x:V}{xs:TM}{d:A2}{ds:TL} (a:DV H x d) (r:Hg H xs ds),motive xs ds r->motive (x::xs) (d::ds) (.cons a r)){xs:TM}{ds:TL}(h:Hg H xs ds):motive xs ds h:=
 ((N7 (m2:=λxs ds=>∃h:Hg H xs ds,motive xs ds h) .non .bl .int .str (λq z=>.lst q z.1) (λq z=>.tup q z.1) #[.nil,nil] λa z=>#[.cons a z.1,cons a z.1 z.2]).2 _ _ h).2
def zN7 (E:DM f cC B m r):(∀x d,DV m x d->∀u,DT x u->∃e,Reads r.heap u d e)/\∀xs g,Hg m xs g->∀l,DS xs l->∃e,ReadsAll r.heap l g e:=by
 show N7 ?_ ?_ ?_ ?_ ?_ ?_ ?_ ?_;intro u c;cases(c);show#[_,.none];intro b u c;cases(c);show#[_,.bool b];intro i u c;have Wb t rfl:=(c);show#[_,.int i t];intro x u c;have Wb t rfl:=(c);show#[_,.str x t];intro a xs g A k u c;cases(c);have We s v p G:=E.list<|D3.of A;have We o C z q:=p.isList;have Wb n w:=q;have Wb e j:=k _ v;show#[_,.list C z w<|by simpa using j];intro a xs g A k u c;cases(c);have We s v p G:=E.tuple<|HM.of A;have We o C z y:=p;have Wb n w:=y;have Wb e j:=k _ v;show#[_,.tuple C z w<|by simpa using j];intro l c;cases c;show#[_,.nil];intro x xs d g h k l c;cases c with|cons c rs=>have Wb e j:=h _ c;have Wb H F:=k _ rs;show#[_,.cons j F]
variable {dc y4:A2}
def DV.reads (c:DM f cC B m r)(h:DV m e9 dc)(a:DT e9 f9):∃b,Reads r.heap f9 dc b:=(zN7 c).1 _ _ h _ a
def QB(e:zv m d7):(∀x d,DV m x d->DV d7 x d)/\∀xs a,Hg m xs a->Hg d7 xs a:=N7 .non .bl .int .str (λq=>.lst<|e _ _ q) (λq=>.tup<|e _ _ q) .nil .cons
def DV.same(e:zv m d7)(h:DV m e9 dc):DV d7 e9 dc:=(QB e).1 _ _ h
variable {T Af:TL}{dU u0:TM}
def Hg.same(e:zv m d7)(h:Hg m dU T):Hg d7 dU T:=(QB e).2 _ _ h
theorem Hg.length {H:Hp}{xs:TM}{ds:TL}(h:Hg H xs ds):xs.length=ds.length:=h.ind (motive:=λxs ds _=>xs.length=ds.length) Y λ_ _ z=>Uu (·+1) z
def MU :A2->String
 |.none=>"NoneType"
 |.bool _=>"bool"
 |.int _=>"int"
 |.str _=>"str"
 |.list _=>"list"
 |.tuple _=>"tuple"
 |.dict _=>"dict"
def DV.ty(h:DV m e9 dc):tH q m e9 (.type (MU dc)):=by
 cases h with|non=>show .non|bl b=>show .bl b|int i=>show .int i|str e9=>show .str e9|lst e _=>show .lst e|tup e _=>show .tup e
def isInt :A2->Bool
 |.int _=>I
 |.bool _=>I
 |_=>Za
def Hm :A2->Bool
 |.bool _=>I
 |_=>Za
def LU :A2->Bool
 |.str _=>I
 |_=>Za
def isList :A2->Bool
 |.list _=>I
 |_=>Za
def zN0 :A2->Bool
 |.tuple _=>I
 |_=>Za
def MV (T:String)(d:A2):Ub:=
 if T="int" then J (isInt d)else if T="bool" then J (Hm d)else if T="str" then J (LU d)else if T="list" then J (isList d)else if T="tuple" then J (zN0 d)else D
def N8 (t T:String):Ub:=if(eI t == eI T)=I then J I else if PySem.W.kitMeta T=I then(fastBuiltinMro t).map (·.contains (eI T))else D
def zg2 (K:Cl)(t T:String):Zg K (.type t) (.type T)=N8 t T:=Y
def zo5 :(["NoneType","bool","int","str","list","tuple"].all λt=>["int","bool","str","list","tuple"].all λT=> N8 t T == J (if T="int" then t == "int"||t == "bool" else t == T))=I:=by symm
variable {q5:String}{j8 Ba:Bool}
def yl2 (K:Cl)(h:DV m e9 dc)(e:MV q5 dc=J j8):Zg K (.type (MU dc)) (.type q5)=J j8:=by
 rw[zg2];have a:∀t∈["NoneType","bool","int","str","list","tuple"],∀q5∈["int","bool","str","list","tuple"],N8 t q5=J (if q5="int" then t == "int"||t == "bool" else t == q5):=λt f q5 d=>
  eq_of_beq (JL.mp (JL.mp zo5 t f) q5 d)
 have c:MU dc∈["NoneType","bool","int","str","list","tuple"]:=by cases h<;>simp[MU]
 unfold MV at e;split at e;rename_i b;subst b;rw[a _ c "int" ()];cases e;cases h<;>rfl;split at e;rename_i b;subst b;rw[a _ c "bool" ()];cases e;cases h<;>rfl;split at e;rename_i b;subst b;rw[a _ c "str" ()];cases e;cases h<;>rfl;split at e;rename_i b;subst b;rw[a _ c "list" ()];cases e;cases h<;>rfl;split at e;rename_i b;subst b;rw[a _ c "tuple" ()];cases e;cases h<;>rfl;cases e
def QC :R2:=λx y H Q=>∃d e,DV H x d/\DV H y e/\Yf d=I/\Yf e=I/\Q (.bl<|PyData.eqv d e) H
def QD :R2:=λx y H Q=>∃d e,DV H x d/\DV H y e/\Yf d=I/\Yf e=I/\Q (.bl<|!PyData.eqv d e) H
def QE (m:f.A.units+64<cLine):GK f (Z5 .Eq) QC:=by intro b s U H x y v u Q a o g h;have Wp d e i j k n q:=h;have Wb r l:=i.reads a o;have Wb p c:=j.reads a g;show SeqAt.compareEq_shaped l c k n m #[.bl _,H,a,Y,q]
def z03 (m:f.A.units+64<cLine):GK f (Z5 .NotEq) QD:=by intro b s U H x y v u Q a o g h;have Wp d e i j k n q:=h;have Wb r l:=i.reads a o;have Wb p c:=j.reads a g;show SeqAt.compareNe_shaped l c k n m #[.bl _,H,a,Y,q]
def zC3 :yL f (.builtin "isinstance") (λxs H Q=>∃x T t b,xs=[x,.ty T]/\tH f.K H x t/\Zg f.K t (.type T)=J b/\Q (.bl b) H):=by intro c s U H xs k Q a r h;have#[x,T,t,b,rfl,j,e,q]:=h;have Wd u v rfl i d:=DS.two r;cases(d);show bQ a i j e λg=>#[.bl b,H,a.tok g,Y,q]
def bP :yL f (.builtin "isinstance") (λxs H Q=>∃x T d b,xs=[x,.ty T]/\DV H x d/\MV T d=J b/\Q (.bl b) H):=by intro a s U H xs g Q i r h;have#[x,T,d,b,e,c,j,q]:=h;show zC3 a s U H xs g Q i r #[2,x,T,_,b,e,c.ty,yl2 f.K c j,q]
def QF (i j:Int):Prop:=0<j/\j.natAbs.log2<9000
def ph :GK f (ZG .FloorDiv) (rI QF λi j=>.int (i / j)):=MN λi j _ _ _ _ _ a q=>by have b:=a.1;show floordiv_int (BW b) ?_<|.inl<|PyProof.noPylong_of_log2 a.2;rw[Int.fdiv_eq_ediv_of_nonneg _ (Int.le_of_lt b)];show q
noncomputable abbrev big :Int:=115792089237316195423570985008687907853269984665640564039457584007913129639936
variable {L gi:Int}
theorem ID(d:0<L)(h:L<big):L.natAbs.log2<9000:=by
 have b:L.natAbs≠0:=by lia
 have a:L.natAbs<2 ^ 256:=by
  have e:2 ^ 256=115792089237316195423570985008687907853269984665640564039457584007913129639936:=by symm
  rw[e];unfold big at h;lia
 have c:=(CM b).mpr a;lia
def jQ :yL f (.type "range") (λxs H Q=>∃i j:Int,xs=[.int i,.int j]/\∀p,H p=D->Q (.ref p) (upd H p (.rng i j))):=by intro g s U H xs l Q d r h;have Wh i j rfl q:=h;have Wd u v rfl a c:=DS.two r;have#[t,rfl]:=a;have#[k,rfl]:=c;show call_range_2 #[.ref s.heap.objs.size,_,d.laid (o:=.rng i j) (λb u e=>D6 _ e) (D4 _) #[t,k,s.toks,GB _ Y],Y,q _<|d.hok.fresh<|D4 _]
def zJ (a:Int)(n:Nat):TN:=(List.range n).map λi=>a+(i:Nat)
def zB (a:Int)(n:Nat):(zJ a n).length=n:=by simp[zJ]
def xy(h:N<l):(zJ L l)[N]?=J (L+(N:Nat)):=by simp[zJ,h]
variable {l7:Uc}
def oC(h:ItemsOf (λi v=>∃t,v=.int (L+i*1) t) l7 l):DS ((zJ L l).map V.int) l7.toList:=by
 have Wc g k:=h;have e:∀xs a,xs.length=a.length->(∀(i:Nat) x u,xs[i]?=J x->a[i]?=J u->DT x u)->DS xs a:=by
  intro xs;induction xs with
  |nil=>intro a d _;cases a with|nil=>show .nil|cons _ _=>simp at d
  |cons x xs q=>
   intro a d j;cases a with|nil=>simp at d|cons u a=>show .cons (j 0 x u Y Y)<|q a (by simpa using d) λi m o b c=>j (i+1) m o (by simpa using b)<|by simpa using c
 show e _ _ ?_ λi x u b c=>?_;rw[DZ,zB];simp[g];rw[GD]at b;have p:i<l:=by have:=(Gm.mp c).1;simp[g]at this;show this
 rw[xy p]at b;have f:=Hb b;subst f;have Wb t n:=k i u (by simpa using c);show#[t,?_];rw[n,Int.mul_one]
theorem oo (v:f.calm=I):yL f (.type "list") (λxs H Q=>∃(p:Ch) (a b:Int),xs=[.ref p]/\H p=J (.rng a b)/\(-(2 ^ 62)<=a/\a<2 ^ 62/\-(2 ^ 62)<=b/\b<2 ^ 62)/\(b-a).toNat<=Zw/\(b-a).toNat<=2 ^ 24/\ ∀l,H l=D->Q (.ref l) (upd H l (.lst ((zJ a (b-a).toNat).map V.int)))):=by intro k s U H xs K Q d r h;have Wu p a b rfl B g y i q:=h;have#[n,A,z,m]:=g;have Wa u rfl w:=DS.one r;cases(w);have Wi t L E e:=(d.hok p _ B);show call_list_range (d.ok.hd v) e (small_one n A z m) (by rw[rangeSize_one];split<;>lia) i λG F c x hk C j=>?_;show#[.ref s.heap.objs.size,_,d.laid (o:=.lst<|(zJ a (b-a).toNat).map V.int) hk (D4 _) #[by rw[DZ,zB];show y,c.toList,x,oC j,by simpa using C],Y,q _<|d.hok.fresh<|D4 _]
def fb (X:Cx)(body:List Da):TS:=λa U H=>∃t,Hr X body t/\t a U H
variable {i7 y8 Cb:List Da}
def zC:Hr f i7 (fb f i7):=λa s U H b c #[t,p,q]=>p a s U H b c q
variable {Bg:HK}
def rY(M:Tr)(r:∃t,PS f g8 t/\t {Bg with nx:=M} B m)(n:∀b g,M b g->∃t,Hr f i7 t/\t Bg b g):∃t,Hr f (g8::i7) t/\t Bg B m:=by
 have Wa k x q:=r;show#[λd b g=>d=Bg/\b=B/\g=m,?_,Y,Y,Y];intro a s b g d o h;have Wf p y v:=h;subst p y v;have i:Hr f (g8::i7) (Qa k λj σ2 c=>j=d/\M σ2 c):=zt x λa s σ2 c j l #[e,A]=>by subst e;have Wa C u w:=n σ2 c A;show u a s σ2 c _ l w
 show i a s _ _ _ o ?_;change k {d with nx:=λσ2 c=>d=d/\M σ2 c} _ _;have e:(λ(σ2:St) (c:Hp)=>d=d/\M σ2 c)=M:=by funext σ2 c;show propext #[λz=>z.2,λz=>#[Y,z]]
 rw[e];show q
def zz4 (a:TN)(b d:T7):∃c:TN,jK (a.map V.int) b d=c.map V.int/\c.length<=a.length:=by show#[(a.drop<|HT.sIx (a.map V.int).length 0 b).take<|HT.sIx (a.map V.int).length (a.map V.int).length d-HT.sIx (a.map V.int).length 0 b,?_,?_];unfold jK;rw[List.map_take,List.map_drop];rw[Jb,Kb];omega
def yl3 (a:TN):Prop:=∃x y:Int,a=[x,y]/\0<=y/\y<4294967296
structure xu (H:Hp)(t b c:Ch):Prop where
 ex:∃(n:Int) (bs cs:TN),(b=t/\c=t)/\H t=J (.lst<|bs.map V.int)/\H b=J (.lst<|bs.map V.int)/\H c=J (.lst<|cs.map V.int)/\yl3 bs/\n=0
def N9 (t b:Ch)(H c:Hp):Prop:=∀a,a≠t->a≠b->c a=H a
def QG :Sp:=λa H Q _=>∃(t b c:Ch) (many:Int),a=[.ref t,.int many]/\xu H t b c/\0<many/\many<big/\
 ∀(v:Int) (H':Hp),0<=v->v<many->xu H' t b c->N9 t b H H'->Q (.int v) H'
def xu.free(T:xu m i x R)(h:m oa=D):oa≠i/\oa≠x/\oa≠R:=by have Wu n d g j a b c e f:=T.ex;show#[(zk a h).symm,(zk b h).symm,(zk c h).symm]
def xu.off(T:xu m i x R)(h:∀a,a=i\/a=x\/a=R->d7 a=m a):xu d7 i x R:=by have Wu n b g k d e j c f:=T.ex;show#[n,b,g,k,by rw[h i (.inl Y)];show d,by rw[h x (.inr<|.inl Y)];show e,by rw[h R (.inr<|.inr Y)];show j,c,f]
variable {j4:HO}
def zw1(T:xu m i x R)(h:oa≠i/\oa≠x/\oa≠R):xu (upd m oa j4) i x R:=
 T.off λa b=>zg<|b.elim (λe=>e▸h.1.symm) λb=>b.elim (λe=>e▸h.2.1.symm) λe=>e▸h.2.2.symm
def zd3(T:xu m i x R)(s:zv m d7):xu d7 i x R:=by have Wu n a f h c d g b e:=T.ex;show#[n,a,f,h,s _ _ c,s _ _ d,s _ _ g,b,e]
def zP{o:HO}(h:m i=D):zv m (upd m i o):=λb u e=>by rw[zg (zk e h)];show e
def yI :Ch:=(456:Nat)
def vf :Zv:="cheapest_first.<locals>.<lambda>"
def vW (x:Ch):Prop:=x=yI
def sY (c:Ch):HO:=.ext λh=>h.CodeRec (.ref c) vf
structure D9 (H:Hp):Prop where
 ex:∃ps:Uc,H yI=J (.tbl ps)/\TriplesOk ps.toList/\∀pos cv,codeAmong pos ps.toList=J cv->∃c,cv=.ref c/\H c=J (sY c)
def qm(T:D9 m)(h:∀a o,(∀xs,o≠.lst xs)->m a=J o->d7 a=J o):D9 d7:=by have We j g i k:=T.ex;show#[j,h _ _ (λxs z=>nomatch z) g,i,λb e d=>?_];have Wa c rfl f:=k b e d;show#[c,Y,h _ _ (λxs z=>nomatch z) f]
def Hh (H:Hp)(l:Ch):Prop:=∀o,H l=J o->o≠sY l/\∀a,o≠.tbl a
def zH4(T:D9 m)(h:Hh m i):D9 (upd m i j4):=by
 have We e b k l:=T.ex;have n:yI≠i:=λz=>by rw[z]at b;show(h _ b).2 e Y
 show#[e,by rw[zg n];show b,k,λa g f=>?_];have Wa c rfl d:=l a g f;have j:c≠i:=λz=>by subst z;show(h _ d).1 Y
 show#[c,Y,by rw[zg j];show d]
def zd2:∀a,HO.tbl l7≠HO.tup a:=λ_ z=>by cases z
def rL(T:D9 m)(h:vW i):∃o,m i=J o/\(∀a,o≠.tup a)/\∀xs,o≠.lst xs:=by have Wa c b _:=T.ex;show#[_,by rw[h];show b,zd2,λ_ z=>by cases z]
def xT(h:m i=J (.lst dU)):Hh m i:=λo e=>by rw[h]at e;cases e;show#[(λz=>by cases z),λa z=>by cases z]
variable {r8:Tx}
def qh(h:m i=J (.dK r8)):Hh m i:=λo e=>by rw[h]at e;cases e;show#[(λz=>by cases z),λa z=>by cases z]
variable {o9:Tw}
def ve(h:m i=J (.ins x R o9)):Hh m i:=λo e=>by rw[h]at e;cases e;show#[(λz=>by cases z),λa z=>by cases z]
def tN(T:D9 m)(h:m i=D):¬vW i:=λz=>by have Wa o e _:=rL T z;rw[h]at e;cases e
def zJ6(T:D9 m)(g:m i=J (.lst dU))(d:m x=J (.lst u0))(b:N9 i x m d7):D9 d7:=qm T λa o c e=>by
 have h:a≠i:=λz=>by rw[z,g]at e;cases e;show c _ Y
 have f:a≠x:=λz=>by rw[z,d]at e;cases e;show c _ Y
 rw[b a h f];show e
def z67(T:D9 m)(h:zv m d7):D9 d7:=qm T λa o _ e=>h a o e
structure yt (n:Nat)(d:A2):Prop where
 shw:d.showable=I
 nod:d.hasDict=Za
 dep:d.depth<=8
 len:d.shown.length<=n
 lay:d.canLay0=I
def yt.mono(h:yt l dc)(e:l<=N):yt N dc:=#[h.shw,h.nod,h.dep,Gg h.len e,h.lay]
theorem sV :∀(a:TR) (k:Nat) (acc:Zv),(textFrom k acc a).length<=acc.length+piled a
 |[],_,acc=>by rw[piled_nil];show D4 _
 |t::r,k,acc=>by
  have h:=sV r (k+1)<|acc++(if k > 0 then ", " else "":String)++t;rw[piled_cons];have c:(Zv.ofString (if k > 0 then ", " else "":String)).length<=2:=by split;show Gu Y;show Gj _
  have d:=IQ (acc++Zv.ofString (if k > 0 then ", " else "":String)) t;have b:=IQ acc<|Zv.ofString (if k > 0 then ", " else "":String);change(textFrom (k+1) (acc++Zv.ofString (if k > 0 then ", " else "":String)++t) r).length<=_;lia
theorem kh (a:TR):(listText a).length<=piled a+2:=by unfold listText;rw[IQ];have h:=sV a 0<|Zv.ofString "[";have c:(Zv.ofString "[").length=1:=Y;have b:(Zv.ofString "]").length=1:=Y;lia
theorem ma (a:TR):(tupleText a).length<=piled a+3:=by
 cases a with
 |nil=>decide +kernel
 |cons t r=>
  have h:=join_length_add (t::r) ();unfold tupleText;rw[IQ,IQ];have b:(Zv.ofString "(").length=1:=Y;have c:(Zv.ofString (if(t::r).length == 1 then ",)" else ")":String)).length<=2:=by split;show Gu Y;show Hy<|show 1<2 by decide
  lia
theorem ub {n:Nat}:∀(a:TL),(∀d∈a,yt n d)->piled (PyData.shownAll a)<=a.length*(n+2)
 |[],_=>Gj _
 |d::r,h=>by have f:=(h d GN).len;have c:=ub r λe b=>h e<|GH _ b;change piled (d.shown::PyData.shownAll r)<=_;rw[piled_cons,G3,Nat.succ_mul];lia
structure yz (n:Nat)(ds:TL):Prop where
 all:∀d∈ds,yt n d
 dep:∀d∈ds,d.depth<=7
theorem yz.parts {n:Nat}:∀{f:TL},yz n f->PyData.showableAll f=I/\Yk f=Za/\Yg f<=7/\Yh f=I
 |[],_=>#[Y,Y,Gj _,Y]
 |d::r,h=>by have Wq a b c e:=yz.parts #[λx g=>h.all x<|GH _ g,λx g=>h.dep x<|GH _ g];have i:=h.all d GN;show#[?_,?_,?_,?_];simp only[PyData.showableAll,i.shw,a,DG];simp only[Yk,i.nod,b,Bool.or_self];simp only[Yg];show yl1 (h.dep d GN) c;simp only[Yh,i.lay,e,DG]
theorem yt.list {n:Nat}(h:yz n T)(e:T.length*(n+2)+2<=l):yt l (.list T):=by have Wq a b c f:=h.parts;show#[by simp only[PyData.showable,a],by simp only[Yi,b],by simp only[PyData.depth];show O3 c,?_,by simp only[Yj,f]];show O4 e (kh<|PyData.shownAll T)<|ub T h.all
theorem yt.tuple {n m:Nat}{d:TL}(h:yz n d)(e:d.length*(n+2)+3<=m):yt m (.tuple d):=by have Wq a b c f:=h.parts;show#[by simp only[PyData.showable,a],by simp only[Yi,b],by simp only[PyData.depth];show O3 c,?_,by simp only[Yj,f]];show O4 e (ma<|PyData.shownAll d)<|ub d h.all
theorem zC5(c:-big<L)(d:L<big):L.natAbs.log2<1920:=by
 by_cases a:L.natAbs=0;rw[a];decide;have b:L.natAbs<2 ^ 256:=by
  have e:2 ^ 256=115792089237316195423570985008687907853269984665640564039457584007913129639936:=by symm
  rw[e];unfold big at c d;lia
 have f:=(CM a).mpr b;lia
theorem yt.int(b:-big<L)(c:L<big):yt 2000 (.int L):=by have a:=zC5 b c;show#[by simp only[PyData.showable,JI];show a,Y,Gj _,?_,Y];have:=int_text_len_1921 a;change(Zv.ofString<|toString L).length<=2000;lia
theorem yt.none :yt 2000 .none:=#[Y,Y,Gj _,by symm,Y]
theorem yt.bool (b:Bool):yt 2000 (.bool b):=#[Y,Y,Gj _,by cases b<;>decide +kernel,Y]
theorem yt.shaped(h:yt l dc):Yf dc=I:=by unfold Yf;rw[h.lay,LL,JI];have:=h.dep;lia
def ym1 :A2->Bool
 |.int _=>I
 |_=>Za
def xC (b a:Int):A2->Bool
 |.int i=>decide (b<=i)&&decide (i<=a)
 |_=>Za
def QH :A2->Bool
 |.tuple ds=>decide<|(ds.length:Int)=2
 |_=>Za
abbrev Lh :A2->Bool:=xC 0 1000000
def yq4 :A2->Bool
 |.tuple [a,b]=>Lh a&&Lh b
 |_=>Za
def Oa :A2->T7
 |.tuple [.int a,.int b]=>if Lh (.int a)&&Lh (.int b)then J (b-a)else D
 |_=>D
def tK (d:A2):Bool:=match Oa d with
 |some k=>decide<|0<=k
 |none=>Za
def sub (p:Uj)(H:Hp):Hp:=λa=>open Classical in if p a then H a else D
def zf {p:Uj}(h:sub p m i=J j4):p i/\m i=J j4:=by unfold sub at h;split at h;rename_i a;show#[a,h];cases h
def zr {p:Uj}(a:p i)(h:m i=J j4):sub p m i=J j4:=by unfold sub;rw[Ur a];show h
variable {Aj Et:Uj}
def zj(h:∀a o,Aj a->m a=J o->Et a/\d7 a=J o):zv (sub Aj m) (sub Et d7):=λa o e=>by have Wc c d:=zf e;have Wc f b:=h a o c d;show zr f b
def wX:zv (sub Aj m) m:=λ_ _ e=>(zf e).2
def yz.snoc(h:yz l T)(c:yt l dc)(d:dc.depth<=7):yz l (T++[dc]):=
 #[λe a=>(H9.mp a).elim (h.all e) λz=>by rw[GV.mp z];show c,λe a=>(H9.mp a).elim (h.dep e) λz=>by rw[GV.mp z];show d]
def yz.nil:yz l []:=#[λd a=>by simp at a,λd a=>by simp at a]
def yz.two(c:yt l dc)(b:yt l y4)(a:dc.depth<=7)(d:y4.depth<=7):yz l [dc,y4]:=(yz.nil.snoc c a).snoc b d
def uB (X:Cx)(e:Dc):TE:=λU H Q=>∃t,PE X e t/\t U H Q
def zh :PE f j (uB f j):=λa s U H Q c b=>by have Wa t p q:=b;show p a s U H Q c q
def Oc (X:Cx)(e:Dc):TT:=λU H Q=>∃t,PT X e t/\t U H Q
def yK :PT f j (Oc f j):=λa s U H Q c b=>by have Wa t p q:=b;show p a s U H Q c q
def QI (X:Cx)(a:T1):TA:=λU H Q=>∃t,PA X a t/\t U H Q
def yb :PA f O (QI f O):=λb a s U H Q d c=>by have Wa t p q:=c;show p b a s U H Q d q
def wm :D8->A2
 |.inl i=>.int i
 |.inr x=>.str x
def Hl (a C:Ch)(d:Ua):HO:=.ext λh=>∃o b,h.get? a=J o/\o.cls=.ref C/\o.dict=d/\o.data=.fields b
mutual
inductive AV (H:Hp):V->A2->Prop where
 |non:AV H .non .none
 |bl (b:Bool):AV H (.bl b) (.bool b)
 |int (i:Int):AV H (.int i) (.int i)
 |str (x:Zv):AV H (.str x) (.str x)
 |lst {a:Ch}{xs:TM}{ds:TL}:H a=J (.lst xs)->D2 H xs ds->AV H (.ref a) (.list ds)
 |tup {a:Ch}{xs:TM}{ds:TL}:H a=J (.tup xs)->D2 H xs ds->AV H (.ref a) (.tuple ds)
 |ins {a C dx:Ch}{fs:Tw}{ds:Tv}:H a=J (.ins C dx fs)->GF H fs ds->AV H (.ref a) (.dict ((.int (C:Nat),.none)::ds))
 |dk {a:Ch}{o:Z7}{kvs:Tx}{ds:Tv}:H a=J (.frz o (.dK kvs))->Gq H kvs ds->AV H (.ref a) (.dict ((.none,.none)::ds))
 |dt {a:Ch}{o:Z7}{kvs:List (List D8×V)}{ds:Tv}:H a=J (.frz o (.dT kvs))->Jx H kvs ds->AV H (.ref a) (.dict ((.none,.bool I)::ds))
 |xc {a C dx:Ch}{fs:Tw}{ds:Tv}:H a=J (Hl a C (J dx))->H dx=J (.xd fs)->GF H fs ds->AV H (.ref a) (.dict ((.int (C:Nat),.bool I)::ds))
 |xn {a C:Ch}:H a=J (Hl a C D)->AV H (.ref a) (.dict [(.int (C:Nat),.bool Za)])
inductive D2 (H:Hp):TM->TL->Prop where
 |nil:D2 H [] []
 |cons {x:V}{xs:TM}{d:A2}{ds:TL}:AV H x d->D2 H xs ds->D2 H (x::xs) (d::ds)
inductive GF (H:Hp):Tw->Tv->Prop where
 |nil:GF H [] []
 |cons {f:Zv}{x:V}{fs:Tw}{d:A2}{ds:Tv}:AV H x d->GF H fs ds->GF H ((f,x)::fs) ((.str f,d)::ds)
inductive Gq (H:Hp):Tx->Tv->Prop where
 |nil:Gq H [] []
 |cons {k:D8}{x:V}{fs:Tx}{d:A2}{ds:Tv}:AV H x d->Gq H fs ds->Gq H ((k,x)::fs) ((wm k,d)::ds)
inductive Jx (H:Hp):List (List D8×V)->Tv->Prop where
 |nil:Jx H [] []
 |cons {k:List D8}{x:V}{fs:List (List D8×V)}{d:A2}{ds:Tv}:AV H x d->Jx H fs ds->Jx H ((k,x)::fs) ((.tuple (k.map wm),d)::ds)
end
def bZ{m1:V->Ue}{m2:TM->TL->Prop}{m3:Tw->Tv->Prop}{m4:Tx->Tv->Prop}{m5:List (List D8×V)->Tv->Prop}(s:m1 .non .none) (L:∀b,m1 (.bl b) (.bool b)) (G:∀i,m1 (.int i) (.int i)) (N:∀x,m1 (.str x) (.str x))(c5:∀{a xs c},m a=J (.lst xs)->m2 xs c->m1 (.ref a) (.list c)) (U:∀{a xs c},m a=J (.tup xs)->m2 xs c->m1 (.ref a) (.tuple c))(c7:∀{a C n e c},m a=J (.ins C n e)->m3 e c->m1 (.ref a) (.dict ((.int (C:Nat),.none)::c))) (T:∀{a o l c},m a=J (.frz o (.dK l))->m4 l c->m1 (.ref a) (.dict ((.none,.none)::c)))(X:∀{a o l c},m a=J (.frz o (.dT l))->m5 l c->m1 (.ref a) (.dict ((.none,.bool I)::c))) (S:∀{a C n e c},m a=J (Hl a C (J n))->m n=J (.xd e)->m3 e c->m1 (.ref a) (.dict ((.int (C:Nat),.bool I)::c)))(g:∀{a C},m a=J (Hl a C D)->m1 (.ref a) (.dict [(.int (C:Nat),.bool Za)]))(r:m2 [] []) (W:∀{x xs d c},m1 x d->m2 xs c->m2 (x::xs) (d::c)) (t:m3 [] []) (Z:∀{f x e d c},m1 x d->m3 e c->m3 ((f,x)::e) ((.str f,d)::c))(E:m4 [] []) (k4:∀{k x e d c},m1 x d->m4 e c->m4 ((k,x)::e) ((wm k,d)::c)) (F:m5 [] []) (k5:∀{k x e d c},m1 x d->m5 e c->m5 ((k,x)::e) ((.tuple (k.map wm),d)::c)):(∀x d,AV m x d->m1 x d)/\(∀x d,D2 m x d->m2 x d)/\(∀x d,GF m x d->m3 x d)/\(∀x d,Gq m x d->m4 x d)/\∀x d,Jx m x d->m5 x d:=by have u:=λ{a} {xs} {c} (q:m a=J (.lst xs)) (_:D2 m xs c) (z:m2 xs c)=>c5 q z;have K:=λ{a} {xs} {c} (q:m a=J (.tup xs)) (_:D2 m xs c) (z:m2 xs c)=>U q z;have P:=λ{a C n} {e} {c} (q:m a=J (.ins C n e)) (_:GF m e c) (z:m3 e c)=>c7 q z;have v:=λ{a o} {e} {c} (q:m a=J (.frz o<|.dK e)) (_:Gq m e c) (z:m4 e c)=>T q z;have O:=λ{a o} {e} {c} (q:m a=J (.frz o<|.dT e)) (_:Jx m e c) (z:m5 e c)=>X q z;have j:=λ{a C n} {e} {c} (q:m a=J (Hl a C<|J n)) (q2:m n=J (.xd e)) (_:GF m e c) (z:m3 e c)=>S q q2 z;have Q:=λ{x} {xs} {d} {c} (_:AV m x d) (_:D2 m xs c) (y:m1 x d) (z:m2 xs c)=>W y z;have w:=λ{f} {x} {e} {d} {c} (_:AV m x d) (_:GF m e c) (y:m1 x d) (z:m3 e c)=>Z (f:=f) y z;have R:=λ{k} {x} {e} {d} {c} (_:AV m x d) (_:Gq m e c) (y:m1 x d) (z:m4 e c)=>k4 (k:=k) y z;have M:=λ{k} {x} {e} {d} {c} (_:AV m x d) (_:Jx m e c) (y:m1 x d) (z:m5 e c)=>k5 (k:=k) y z;let A:=λx d (_:AV m x d)=>m1 x d;let M2:=λx d (_:D2 m x d)=>m2 x d;let p:=λx d (_:GF m x d)=>m3 x d;let H:=λx d (_:Gq m x d)=>m4 x d;let B:=λx d (_:Jx m x d)=>m5 x d;show#[λ_ _ h=>@AV.rec m A M2 p H B s L G N u K P v O j g r Q t w E R F M _ _ h,λ_ _ h=>@D2.rec m A M2 p H B s L G N u K P v O j g r Q t w E R F M _ _ h,λ_ _ h=>@GF.rec m A M2 p H B s L G N u K P v O j g r Q t w E R F M _ _ h,λ_ _ h=>@Gq.rec m A M2 p H B s L G N u K P v O j g r Q t w E R F M _ _ h,λ_ _ h=>@Jx.rec m A M2 p H B s L G N u K P v O j g r Q t w E R F M _ _ h]
def D2.ind {H:Hp}{motive:(xs:TM)->(ds:TL)->D2 H xs ds->Prop}(nil:motive [] [] .nil)(cons:∀{x:V}{xs:TM}{d:A2}{ds:TL} (a:AV H x d) (r:D2 H xs ds),motive xs ds r->motive (x::xs) (d::ds) (.cons a r)){xs:TM}{ds:TL}(h:D2 H xs ds):motive xs ds h:=
 ((bZ (m2:=λxs ds=>∃h:D2 H xs ds,motive xs ds h) .non .bl .int .str (λq z=>.lst q z.1) (λq z=>.tup q z.1) .ins .dk .dt .xc .xn #[.nil,nil] (λa z=>#[.cons a z.1,cons a z.1 z.2]) .nil .cons .nil .cons .nil .cons).2.1 _ _ h).2
def GF.ind {H:Hp}{motive:(xs:Tw)->(ds:Tv)->GF H xs ds->Prop}(nil:motive [] [] .nil)(cons:∀{f:Zv}{x:V}{fs:Tw}{d:A2}{ds:Tv} (a:AV H x d) (r:GF H fs ds),motive fs ds r->motive ((f,x)::fs) ((.str f,d)::ds) (.cons a r)){xs:Tw}{ds:Tv}(h:GF H xs ds):motive xs ds h:=
 ((bZ (m3:=λxs ds=>∃h:GF H xs ds,motive xs ds h) .non .bl .int .str .lst .tup (λq z=>.ins q z.1) .dk .dt (λq s z=>.xc q s z.1) .xn .nil .cons #[.nil,nil] (λa z=>#[.cons a z.1,cons a z.1 z.2]) .nil .cons .nil .cons).2.2.1 _ _ h).2
def Gq.ind {H:Hp}{motive:(xs:Tx)->(ds:Tv)->Gq H xs ds->Prop}(nil:motive [] [] .nil)(cons:∀{k:D8}{x:V}{fs:Tx}{d:A2}{ds:Tv} (a:AV H x d) (r:Gq H fs ds),motive fs ds r->motive ((k,x)::fs) ((wm k,d)::ds) (.cons a r)){xs:Tx}{ds:Tv}(h:Gq H xs ds):motive xs ds h:=
 ((bZ (m4:=λxs ds=>∃h:Gq H xs ds,motive xs ds h) .non .bl .int .str .lst .tup .ins (λq z=>.dk q z.1) .dt .xc .xn .nil .cons .nil .cons #[.nil,nil] (λa z=>#[.cons a z.1,cons a z.1 z.2]) .nil .cons).2.2.2.1 _ _ h).2
def cH(e:zv m d7):(∀x d,AV m x d->AV d7 x d)/\(∀x d,D2 m x d->D2 d7 x d)/\(∀x d,GF m x d->GF d7 x d)/\(∀x d,Gq m x d->Gq d7 x d)/\∀x d,Jx m x d->Jx d7 x d:=by show bZ .non .bl .int .str (λa b=>.lst (e _ _ a) b) (λa b=>.tup (e _ _ a) b) (λa b=>.ins (e _ _ a) b) (λa b=>.dk (e _ _ a) b) (λa b=>.dt (e _ _ a) b) (λa c b=>.xc (e _ _ a) (e _ _ c) b) (λa=>.xn<|e _ _ a) .nil .cons .nil .cons .nil .cons .nil .cons
def AV.same(e:zv m d7)(h:AV m e9 dc):AV d7 e9 dc:=(cH e).1 _ _ h
def D2.same(e:zv m d7)(h:D2 m dU T):D2 d7 dU T:=(cH e).2.1 _ _ h
variable {p7:Tv}
def GF.same(e:zv m d7)(h:GF m o9 p7):GF d7 o9 p7:=(cH e).2.2.1 _ _ h
def Gq.same(e:zv m d7)(h:Gq m r8 p7):Gq d7 r8 p7:=(cH e).2.2.2.1 _ _ h
def QJ:(∀x d,AV m x d->d.hasDict=Za->DV m x d)/\(∀x d,D2 m x d->Yk d=Za->Hg m x d):=by
 have r:=bZ (m1:=λx d=>d.hasDict=Za->DV m x d) (m2:=λx d=>Yk d=Za->Hg m x d) (m3:=λ_ _=>True) (m4:=λ_ _=>True) (m5:=λ_ _=>True) (λ_=>.non) (λb _=>.bl b) (λi _=>.int i) (λx _=>.str x) (λc a h=>.lst c<|a<|by simpa only[Yi]using h) (λc a h=>.tup c<|a<|by simpa only[Yi]using h) (λ_ _ h=>by simp[Yi]at h) (λ_ _ h=>by simp[Yi]at h) (λ_ _ h=>by simp[Yi]at h) (λ_ _ _ h=>by simp[Yi]at h) (λ_ h=>by simp[Yi]at h) (λ_=>.nil)
  (λh a e=>by simp only[Yk,Bool.or_eq_false_iff]at e;show .cons (h e.1)<|a e.2) trivial (λ_ _=>trivial) trivial (λ_ _=>trivial) trivial (λ_ _=>trivial)
 show#[r.1,r.2.1]
def AV.dv(h:AV m e9 dc)(e:dc.hasDict=Za):DV m e9 dc:=QJ.1 _ _ h e
def D2.dv(h:D2 m dU T)(e:Yk T=Za):Hg m dU T:=QJ.2 _ _ h e
theorem D2.length {H:Hp}{xs:TM}{ds:TL}(h:D2 H xs ds):xs.length=ds.length:=h.ind (motive:=λxs ds _=>xs.length=ds.length) Y λ_ _ z=>Uu (·+1) z
def D2.append(h:D2 m dU T)(k:D2 m u0 Af):D2 m (dU++u0) (T++Af):=h.ind (motive:=λdU T _=>D2 m (dU++u0)<|T++Af) k λa _ z=>.cons a z
def D2.get(h:D2 m dU T)(e:T[l]?=J dc):∃x,dU[l]?=J x/\AV m x dc:=by
 induction h using D2.ind generalizing l with
 |nil=>simp at e
 |cons a _ b=>
  cases l with|zero=>show#[_,Y,Hb e▸a]|succ l=>show b e
theorem D2.take {H:Hp}{xs:TM}{b:TL}(n:Nat)(h:D2 H xs b):D2 H (xs.take n) (b.take n):=by
 induction h using D2.ind generalizing n with
 |nil=>cases n<;>show .nil
 |cons a _ c=>
  cases n with|zero=>show .nil|succ n=>show .cons a<|c n
theorem D2.drop(n:Nat)(h:D2 m dU T):D2 m (dU.drop n) (T.drop n):=by
 induction h using D2.ind generalizing n with
 |nil=>cases n<;>show .nil
 |cons a r b=>
  cases n with|zero=>show .cons a r|succ n=>show b n
theorem D2.set(a:AV m e9 dc)(i:Nat)(h:D2 m dU T):D2 m (dU.set i e9) (T.set i dc):=by
 induction h using D2.ind generalizing i with
 |nil=>show .nil
 |cons q r b=>
  cases i with|zero=>show .cons a r|succ i=>show .cons q<|b i
theorem D2.atI(h:D2 m dU T)(e:atI T L=J dc):∃x,L2.atI dU L=J x/\AV m x dc:=by
 unfold L2.atI at e ⊢;rw[h.length];cases q:Ju T.length L with|none=>rw[q]at e;cases e|some j=>rw[q]at e;show h.get e
def cutD (a:TL)(b c:T7):TL:=(a.drop<|HT.sIx a.length 0 b).take<|HT.sIx a.length a.length c-HT.sIx a.length 0 b
def D2.cut(h:D2 m dU T)(b a:T7):D2 m (jK dU b a) (cutD T b a):=by unfold jK cutD;rw[h.length];show(h.drop _).take _
mutual
def noL :A2->Bool
 |.list _=>Za
 |.dict ((.none,_)::_)=>Za
 |.dict kvs=>qD kvs
 |.tuple ds=>wx ds
 |_=>I
def wx :TL->Bool
 |[]=>I
 |d::r=>noL d&&wx r
def qD :Tv->Bool
 |[]=>I
 |(_,d)::r=>noL d&&qD r
end
def Ob :HO->Prop
 |.lst _=>True
 |.dK _=>True
 |.frz _ _=>True
 |_=>False
def QK(e:∀a o,¬Ob o->m a=J o->d7 a=J o):(∀x d,AV m x d->noL d=I->AV d7 x d)/\(∀x d,D2 m x d->wx d=I->D2 d7 x d)/\(∀x d,GF m x d->qD d=I->GF d7 x d)/\(∀x d,Gq m x d->qD d=I->Gq d7 x d):=by
 have r:=bZ (m1:=λx d=>noL d=I->AV d7 x d) (m2:=λx d=>wx d=I->D2 d7 x d) (m3:=λx d=>qD d=I->GF d7 x d) (m4:=λx d=>qD d=I->Gq d7 x d) (m5:=λ_ _=>True) (λ_=>.non) (λb _=>.bl b) (λi _=>.int i) (λx _=>.str x) (λ_ _ h=>by simp[L2.noL]at h) (λf c h=>.tup (e _ _ (λz=>z) f)<|c<|by simpa only[L2.noL]using h) (λf c h=>.ins (e _ _ (λz=>z) f)<|c<|by simpa[L2.noL,L2.qD]using h) (λ_ _ h=>by simp[L2.noL]at h) (λ_ _ h=>by simp[L2.noL]at h) (λf g c h=>.xc (e _ _ (λz=>z) f) (e _ _ (λz=>z) g)<|c<|by simpa[L2.noL,L2.qD]using h) (λf _=>.xn<|e _ _ (λz=>z) f) (λ_=>.nil)
  (λh c q=>by simp only[L2.wx,HG]at q;show .cons (h q.1)<|c q.2) (λ_=>.nil)
  (λh c q=>by simp only[L2.qD,HG]at q;show .cons (h q.1)<|c q.2) (λ_=>.nil)
  (λh c q=>by simp only[L2.qD,HG]at q;show .cons (h q.1)<|c q.2) trivial (λ_ _=>trivial)
 show#[r.1,r.2.1,r.2.2.1,r.2.2.2.1]
theorem AV.noL(e:∀a o,¬Ob o->m a=J o->d7 a=J o)(h:AV m e9 dc)(q:L2.noL dc=I):AV d7 e9 dc:=(QK e).1 _ _ h q
def D2.noL(e:∀a o,¬Ob o->m a=J o->d7 a=J o)(h:D2 m dU T)(q:wx T=I):D2 d7 dU T:=(QK e).2.1 _ _ h q
structure Fr where
 H0:Hp
 O0:Uj
 tp:Option (Ch×Ch×Ch)
structure zD where
 a:Ch
 lp:Ch
 C:Ch
 dx:Ch
 nm:Zv
 fs:Tw
 kvs:Tv
 xs:TM
 past:TL
 pl:Bool
def zD.tl (s:zD):Tw:=if s.pl then [(s.nm,.ref s.lp)]else []
structure xM (G H:Hp)(s:zD):Prop where
 ob:H s.a=J (.ins s.C s.dx<|s.fs++s.tl)
 fl:GF G s.fs s.kvs
 ls:s.pl=I->H s.lp=J (.lst s.xs)
 av:D2 G s.xs s.past
 ne:s.pl=I->s.a≠s.lp
 eq:s.pl=Za->s.lp=s.a
variable {G Ap:zD}
theorem xM.same(h:xM m Bi G)(g:zv m d7)(a:∀x o,x=G.a\/x=G.lp->Bi x=J o->B6 x=J o):xM d7 B6 G:=#[a _ _ (.inl Y) h.ob,h.fl.same g,λz=>a _ _ (.inr Y)<|h.ls z,h.av.same g,h.ne,h.eq]
def xM.obj(h:xM m d7 G)(a:i=G.a\/i=G.lp):∃o,d7 i=J o/\∀b,o≠.tup b:=by
 rcases a with rfl|rfl;show#[_,h.ob,λ_ z=>by cases z]
 cases z:G.pl with|true=>show#[_,h.ls z,λ_ z=>by cases z]|false=>rw[h.eq z];show#[_,h.ob,λ_ z=>by cases z]
inductive A where
 |dat (d:A2)
 |ow (c:A2)
 |deep (d:A2) (S:Uj)
 |tape
 |at(l:Ch)
 |exc (r:Fr) (q:Ue)
 |pin (l:Ch) (vs:TM) (ds:TL)
 |nst (l:Ch) (ls:TU) (dss:TH)
 |inn (s:zD)
 |res (d:A2) (s:zD)
abbrev Tj:=List A->(A->Prop)->Prop
abbrev TV:=List A
abbrev T9:=Option A
abbrev Ug:=A->Prop
@[reducible] def A.own (a:TL):A:=.ow<|.list a
abbrev xf (a:Tv):A2:=.dict ((.none,.none)::a)
@[reducible] def A.dic (a:Tv):A:=.ow<|xf a
abbrev Ev :=List<|T9
abbrev Uk:=Ev->Prop
def yS (o:HO):Prop:=∀a,o≠.tup a
def zZ:yS (.lst dU):=λ_ z=>by cases z
def Ob.notup(h:Ob j4):yS j4:=λa z=>by subst z;show h
def NT (F:Fr)(x:Ch):Prop:=(∀t b c,F.tp=J (t,b,c)->x≠t/\x≠b)/\¬vW x
def Kz (F:Fr)(H a:Hp):Prop:=∀x o,H x=J o->NT F x->a x=J o
structure zF (F:Fr)(H:Hp):Prop where
 tab:D9 H
 ot:∀x,vW x->F.O0 x
 all:∀t b c,F.tp=J (t,b,c)->xu H t b c/\F.O0 t/\F.O0 b/\F.O0 c
instance {F:Fr} {H:Hp}:CoeFun (zF F H) (λ_=>∀t b c,F.tp=J (t,b,c)->xu H t b c/\F.O0 t/\F.O0 b/\F.O0 c):=#[zF.all]
def zF.to {F F':Fr}(t:zF F m)(i:F'.tp=F.tp)(d:∀x,F.O0 x->F'.O0 x):zF F' m:=#[t.tab,λx h=>d x<|t.ot x h,λa b c e=>by have Wq k f g j:=t a b c<|i▸e;show#[k,d _ f,d _ g,d _ j]]
variable {z w6:Fr}
def zF.re(t:zF z m)(d:zF w6 d7)(f:w6.tp=z.tp):zF z d7:=#[d.tab,t.ot,λa b c e=>#[(d a b c<|f▸e).1,(t a b c e).2]]
theorem zF.upd(t:zF z m)(h:∀a b c,z.tp=J (a,b,c)->i≠a/\i≠b/\i≠c)(d:Hh m i):zF z (upd m i j4):=#[zH4 t.tab d,t.ot,λa b c e=>#[zw1 (t a b c e).1<|h a b c e,(t a b c e).2]]
def zF.updO(t:zF z m)(h:¬z.O0 i)(f:Hh m i):zF z (L2.upd m i j4):=t.upd (λa b c e=>#[λd=>h (by rw[d];show(t a b c e).2.1),λd=>h (by rw[d];show(t a b c e).2.2.1),λd=>h<|by rw[d];show(t a b c e).2.2.2]) f
def Fc (s:T6):A->Uj
 |.ow _,x=>s=J (.ref x)
 |.deep _ S,x=>S x
 |.nst l ls _,x=>x∈l::ls
 |.inn s,x=>x=s.a\/x=s.lp
 |_,_=>False
def MW :Ug
 |.inn _=>False
 |_=>True
def Ow (F:Fr)(O:Ev)(U:St)(x:Ch):Prop:=F.O0 x\/∃(i:Nat) (a:A) (s:T6),O[i]?=J (J a)/\U[i]?=J s/\Fc s a x
noncomputable abbrev Gz (F:Fr)(O:Ev)(U:St)(H:Hp):Hp:=sub (λx=>¬Ow F O U x) H
def tX (S:Uj)(G H:Hp):Hp:=λx=>open Classical in if S x then H x else match G x with
 |some (.lst _)=>D
 |o=>o
def va(h:zv m d7)(a:∀x o,Aj x->Bi x=J o->B6 x=J o):zv (tX Aj m Bi) (tX Aj d7 B6):=λx o e=>by
 unfold tX at e ⊢;by_cases z:Aj x;rw[Ur z]at e ⊢;show a x o z e;rw[Us z]at e ⊢;cases q:m x with|none=>rw[q]at e;cases e|some u=>rw[h _ _ q];rw[q]at e;show e
def qP(h:tX Aj m d7 i=J j4):(Aj i/\d7 i=J j4)\/(¬Aj i/\m i=J j4):=by unfold tX at h;by_cases z:Aj i;rw[Ur z]at h;show .inl #[z,h];rw[Us z]at h;split at h;cases h;show .inr #[z,h]
inductive yP (G:Hp):HO->A2->Prop where
 |lst {xs:TM}{ds:TL}:D2 G xs ds->yP G (.lst xs) (.list ds)
 |dk {kvs:Tx}{ds:Tv}:Gq G kvs ds->yP G (.dK kvs) (xf ds)
def yP.ob(h:yP m j4 dc):Ob j4:=by cases h<;>trivial
theorem yP.same(h:yP m j4 dc)(s:zv m d7):yP d7 j4 dc:=by
 cases h with|lst h=>show .lst (h.same s)|dk h=>show .dk<|h.same s
def yP.av(h:yP m j4 (.list T))(e:m i=J j4):AV m (.ref i) (.list T):=by
 cases h with|lst h=>show .lst e h
def yP.lst_inv(h:yP m j4 (.list T)):∃xs,j4=.lst xs/\D2 m xs T:=by cases h;show#[_,Y,by assumption]
def yP.dk_inv(h:yP m j4 (xf p7)):∃xs,j4=.dK xs/\Gq m xs p7:=by cases h;show#[_,Y,by assumption]
def yP.plain(h:yP m j4 dc)(e:d7 i=J j4):Hh d7 i:=by
 cases h with|lst h=>show xT e|dk h=>show qh e
structure J1 (r F:Fr)(H:Hp):Prop where
 tp:r.tp=F.tp
 o:∀x,r.O0 x->F.O0 x
 ok:zF r H
 k:Kz r r.H0 H
def vb (G H:Hp):TU->TH->Prop
 |[],[]=>True
 |a::ls,ds::dss=>(∃xs,H a=J (.lst xs)/\D2 G xs ds)/\vb G H ls dss
 |_,_=>False
theorem vb.same {G f H d:Hp}(g:zv G f):∀{c:TU}{dss:TH},(∀a∈c,∀o,H a=J o->d a=J o)->vb G H c dss->vb f d c dss
 |[],[],_,_=>trivial
 |a::c,ds::dss,h,⟨⟨xs,e,av⟩,r⟩=>#[#[xs,h a GN _ e,av.same g],vb.same g (λb i=>h b<|GH _ i) r]
 |[],_::_,_,z=>z.elim
 |_::_,[],_,z=>z.elim
theorem vb.obj {G H:Hp}:∀{c:TU}{dss:TH},vb G H c dss->∀a∈c,∃xs,H a=J (.lst xs)
 |[],_,_,_,h=>by cases h
 |b::c,ds::dss,⟨⟨xs,e,_⟩,r⟩,a,h=>by
  rcases D7.mp h with z|z;show#[xs,z▸e]
  show vb.obj r a z
 |_::_,[],z,_,_=>z.elim
theorem vb.avs {G H:Hp}{p:Uj}(g:zv G (sub p H)):∀{c:TU}{dss:TH},(∀a∈c,p a)->vb G H c dss->D2 (sub p H) (c.map .ref) (dss.map .list)
 |[],[],_,_=>.nil
 |a::c,ds::dss,h,⟨⟨xs,e,av⟩,r⟩=>.cons (.lst (zr (h a GN) e)<|av.same g)<|vb.avs g (λb d=>h b<|GH _ d) r
 |[],_::_,_,z=>z.elim
 |_::_,[],_,z=>z.elim
def xO (G:Hp)(F:Fr)(H:Hp)(s:T6):Ug
 |.dat d=>∃v,s=J v/\AV G v d
 |.ow c=>∃l o,s=J (.ref l)/\H l=J o/\yP G o c/\¬F.O0 l/\F.H0 l=D
 |.deep d S=>∃v,s=J v/\AV (tX S G H) v d/\∀x,S x->¬F.O0 x/\F.H0 x=D/\∃xs,H x=J (.lst xs)
 |.tape=>∃t b c,F.tp=J (t,b,c)/\s=J (.ref t)
 |.at l=>s=J (.ref l)
 |.exc r _=>J1 r F H
 |.pin l vs ds=>s=J (.ref l)/\G l=J (.lst vs)/\D2 G vs ds
 |.nst l ls dss=>s=J (.ref l)/\H l=J (.lst<|ls.map .ref)/\vb G H ls dss/\(l::ls).Nodup/\∀x∈l::ls,¬F.O0 x/\F.H0 x=D
 |.inn u=>s=J (.ref u.a)/\xM G H u/\∀x,x=u.a\/x=u.lp->¬F.O0 x/\F.H0 x=D
 |.res _ _=>False
structure M (F:Fr)(O:Ev)(U:St)(H:Hp):Prop where
 len:O.length=U.length
 ok:∀(i:Nat) (a:A) (s:T6),O[i]?=J (J a)->U[i]?=J s->xO (Gz F O U H) F H s a
 dj:∀(i j:Nat) (a b:A) (s t:T6) (x:Ch),O[i]?=J (J a)->O[j]?=J (J b)->U[i]?=J s->U[j]?=J t->Fc s a x->Fc t b x->i=j
 xd:∀(i:Nat) (r:Fr) (q:Ue),O[i]?=J (J<|.exc r q)->∀(j:Nat) (a:A) (s:T6) (x:Ch),O[j]?=J (J a)->U[j]?=J s->Fc s a x->r.H0 x=D
 tp:zF F H
 keep:Kz F F.H0 H
 oex:∀x,F.O0 x->∃o,H x=J o/\yS o
variable {Al Eh:Option L2.A}{n p8:Ev}
def M.at'(a:M z n B m)(e:n[l]?=J Al):∃s,B[l]?=J s:=by
 have:l<B.length:=by rw[<-a.len];show(Gm.mp e).1
 show#[_,Gh this]
variable {Ac:T6}{l9:L2.A}
def tF(h:xO m z d7 Ac l9)(f:Fc Ac l9 i):¬z.O0 i/\z.H0 i=D/\∃o,d7 i=J o/\yS o/\(MW l9->Ob o):=by
 cases l9 with
 |ow c=>have Wp l o j b a t k:=h;rw[f]at j;cases j;show#[t,k,#[o,b,a.ob.notup,λ_=>a.ob]]
 |deep d S=>have We v j b a:=h;have Wf w x p:=a i f;have Wb xs z3:=p;show#[w,x,#[_,z3,zZ,λ_=>trivial]]
 |dat d=>show f.elim
 |tape=>show f.elim
 |«at» l=>show f.elim
 |exc r q=>show f.elim
 |pin l vs ds=>show f.elim
 |nst l ls dss=>
  have Wn j b a t k:=h;have s:=f;show#[(k i s).1,(k i s).2,?_];rcases D7.mp s with g|g;show#[.lst<|ls.map .ref,g▸b,zZ,λ_=>trivial]
  have Wb xs e:=a.obj i g;show#[.lst xs,e,zZ,λ_=>trivial]
 |inn u=>have Wf j b a:=h;have Wa o e n:=b.obj f;show#[(a i f).1,(a i f).2,#[o,e,n,λg=>g.elim]]
 |res d u=>show h.elim
def J1.kz(l:J1 z w6 m)(k:Kz w6 m d7)(t:zF w6 d7):J1 z w6 d7:=#[l.tp,l.o,l.ok.re t l.tp.symm,λx o e n=>k x o (l.k x o e n) #[λa b c d=>n.1 a b c<|l.tp.trans d,n.2]]
theorem J1.none(l:J1 z w6 m)(h:m i=Option.none):z.H0 i=Option.none:=by
 cases q:z.H0 i with|none=>rfl|some o=>rw[l.k i o q #[λa b c e=>#[((l.ok a b c e).1.free h).1,((l.ok a b c e).1.free h).2.1],tN l.ok.tab h]]at h;cases h
def J2 :Ug
 |.exc _ _=>False
 |_=>True
def xO.stay(h:xO m z Bi Ac l9)(g:zv m d7)(hf:∀x o,Fc Ac l9 x->Bi x=J o->B6 x=J o/\¬w6.O0 x/\w6.H0 x=D)(A:w6.tp=z.tp)(C:∀r q,l9=.exc r q->J1 r z Bi->J1 r w6 B6):xO d7 w6 B6 Ac l9:=by
 cases l9 with
 |dat d=>have Wa v i a:=h;show#[v,i,a.same g]
 |ow c=>have Wp l o i a k w y:=h;have Wf n s z3:=hf l o i a;show#[4,l,o,i,n,k.same g,s,z3]
 |deep d S=>have We v i a k:=h;show#[v,i,a.same<|va g λx o f e=>(hf x o f e).1,λx f=>?_];have Wf _ _ p:=k x f;have Wb xs e:=p;have Wf n s z3:=hf x _ f e;show#[s,z3,#[xs,n]]
 |tape=>have Wl t b c e f:=h;show#[t,b,c,A.trans e,f]
 |«at» l=>show h
 |exc r q=>show C r q Y h
 |pin l vs ds=>show#[h.1,g _ _ h.2.1,h.2.2.same g]
 |nst l ls dss=>
  have Wn i a k w y:=h;show#[i,(hf l _ GN a).1,k.same g λl9 B o e=>(hf l9 o (GH _ B) e).1,w,λx j=>?_];rcases D7.mp j with f|f;show(hf x _ j<|f▸a).2
  have Wb xs e:=k.obj x f;show(hf x _ j e).2
 |inn u=>have Wf i a k:=h;show#[i,a.same g λx o j e=>(hf x o j e).1,λx j=>?_];have Wa o e _:=a.obj j;show(hf x o j e).2
 |res d u=>show h.elim
theorem M.dat (a:M z n B m)(i:Nat)(d:A2)(e:n[i]?=J (J (.dat d))):∃v,B[i]?=J (J v)/\AV (Gz z n B m) v d:=by have Wb s b:=a.at' e;have Wa v rfl h:=a.ok i _ s e b;show#[v,b,h]
def M.owc (a:M z n B m)(i:Nat)(c:A2)(e:n[i]?=J (J (.ow c))):∃l o,B[i]?=J (J (.ref l))/\m l=J o/\yP (Gz z n B m) o c/\¬z.O0 l/\z.H0 l=D:=by have Wb s b:=a.at' e;have Wh l o rfl h:=a.ok i _ s e b;show#[l,o,b,h]
theorem M.own (g:M z n B m)(i:Nat)(a:TL)(e:n[i]?=J (J (.own a))):∃l xs,B[i]?=J (J (.ref l))/\m l=J (.lst xs)/\D2 (Gz z n B m) xs a/\¬z.O0 l/\z.H0 l=D:=by have Wj l o h b c f:=g.owc i _ e;have Wa xs rfl d:=c.lst_inv;show#[1,l,xs,h,b,d,f]
theorem M.dic (g:M z n B m)(i:Nat)(a:Tv)(e:n[i]?=J (J (.dic a))):∃l xs,B[i]?=J (J (.ref l))/\m l=J (.dK xs)/\Gq (Gz z n B m) xs a/\¬z.O0 l/\z.H0 l=D:=by have Wj l o h b c f:=g.owc i _ e;have Wa xs rfl d:=c.dk_inv;show#[1,l,xs,h,b,d,f]
theorem M.deep (a:M z n B m)(i:Nat)(d:A2)(S:Uj)(e:n[i]?=J (J (.deep d S))):∃v,B[i]?=J (J v)/\AV (tX S (Gz z n B m) m) v d/\∀x,S x->¬z.O0 x/\z.H0 x=D/\∃xs,m x=J (.lst xs):=by have Wb s b:=a.at' e;have Wa v rfl h:=a.ok i _ s e b;show#[v,b,h]
def M.tvar (a:M z n B m)(i:Nat)(e:n[i]?=J (J .tape)):∃t b c,z.tp=J (t,b,c)/\B[i]?=J (J (.ref t)):=by have Wb s d:=a.at' e;have Wl t b c h rfl:=a.ok i _ s e d;show#[t,b,c,h,d]
def M.atv (a:M z n B m)(i:Nat)(l:Ch)(e:n[i]?=J (J (.at l))):B[i]?=J (J (.ref l)):=by have Wb s b:=a.at' e;have:s=J (.ref l):=a.ok i _ s e b;rw[b,this]
variable {Q Ag:Ue}
def M.lnk (a:M z n B m)(e:n[l]?=J (J (.exc w6 Q))):J1 w6 z m:=by have Wb s b:=a.at' e;show a.ok l _ s e b
def Kz.refl :Kz z m m:=λ_ _ e _=>e
def Kz.trans (h:Kz z m d7)(k:Kz z d7 Bi):Kz z m Bi:=λx o e n=>k x o (h x o e n) n
def Kz.of_same (h:zv m d7):Kz z m d7:=λx o e _=>h x o e
def zF.same (t:zF z m)(h:zv m d7):zF z d7:=#[z67 t.tab h,t.ot,λa b c e=>#[zd3 (t a b c e).1 h,(t a b c e).2]]
def zF.nt (t:zF z m)(h:¬z.O0 i):NT z i:=#[λa b c e=>#[λd=>h<|d▸(t a b c e).2.1,λd=>h<|d▸(t a b c e).2.2.1],λd=>h<|t.ot i d]
def GL(h:¬Ow z n B i):¬z.O0 i:=λa=>h<|.inl a
def Kz.gz (k:Kz z m d7)(t:zF z m):zv (Gz z n B m) (Gz z n B d7):=zj λa o h e=>#[h,k a o e<|t.nt<|GL h]
def M.oex'{H:Hp} (t:zF z m)(k:Kz z H m)(h:∀x,z.O0 x->∃o,H x=J o/\yS o):∀x,z.O0 x->∃o,m x=J o/\yS o:=λx p=>by
 by_cases n:NT z x;have Wa o f d:=h x p;show#[o,k _ _ f n,d];by_cases j:vW x;have We o f d _:=rL t.tab j;show#[o,f,d];have:∃a b c,z.tp=J (a,b,c)/\¬(x≠a/\x≠b):=by show Ng λq=>n #[λa b c e=>(Ng λw=>q #[a,b,c,e,w]),j]
 have Wl a b c e w:=this;have#[n,s,v,_,l,r,u,_]:=(t a b c e).1.ex;by_cases g:x=a;show#[_,g▸l,zZ];by_cases i:x=b;show#[_,i▸r,zZ];show Ut #[g,i] w
theorem M.kz (b:M z n B m)(k:Kz z m d7)(t:zF z d7):M z n B d7 where
 len:=b.len
 ok:=λi a s c d=>(b.ok i a s c d).stay (k.gz b.tp) (λx o hf e=>by have Wf f g _:=tF (b.ok i a s c d) hf;show#[k x o e<|b.tp.nt f,f,g]) Y λr _ _ l=>l.kz k t
 dj:=b.dj
 xd:=b.xd
 tp:=t
 keep:=b.keep.trans k
 oex:=M.oex' t k b.oex
def M.ft (a:M z n B m)(b:n[l]?=J (J l9))(c:B[l]?=J Ac)(f:Fc Ac l9 i):¬z.O0 i/\z.H0 i=D/\∃o,m i=J o/\yS o/\(MW l9->Ob o):=tF (a.ok l l9 Ac b c) f
def M.owEx (b:M z n B m)(h:Ow z n B i):∃o,m i=J o/\yS o:=by
 rcases h with d|⟨j,a,s,e1,e,f⟩;show b.oex i d
 have Ws _ _ o g c:=b.ft e1 e f;show#[o,g,c.1]
def M.fresh (b:M z n B m)(h:m i=D):¬Ow z n B i:=λc=>by have Wa o a _:=b.owEx c;rw[h]at a;cases a
def M.fresh0 (a:M z n B m)(h:m i=D):z.H0 i=D:=by
 cases q:z.H0 i with|none=>rfl|some o=>rw[a.keep i o q (a.tp.nt λb=>a.fresh h<|.inl b)]at h;cases h
def M.old{F:Fr}{O:Ev}{U:St}{H:Hp} (m:M F O U H):zv (sub (λx=>¬F.O0 x) F.H0) (Gz F O U H):=λa o e=>by have Wc d c:=zf e;show zr ?_<|m.keep a o c<|m.tp.nt d;rintro(z|⟨i,b,s,g,h,f⟩);show d z;have Wf _ z _:=m.ft g h f;rw[c]at z;cases z
def Fr.up (F:Fr)(G:Hp):Fr:={F with H0:=λx=>(F.H0 x).or<|G x}
def mM(h:z.H0 i=J j4):(z.up m).H0 i=J j4:=by change(z.H0 i).or (m i)=J j4;rw[h];rfl
def eX(h:(z.up m).H0 i=D):z.H0 i=D:=by
 cases q:z.H0 i with|none=>rfl|some o=>rw[mM q]at h;cases h
theorem M.up (b:M z n B m):M (z.up (Gz z n B m)) n B m where
 len:=b.len
 ok:=λi a s d f=>(b.ok i a s d f).stay (λ_ _ e=>e) (λx o hf e=>by
  have Wf j g _:=b.ft d f hf;show#[e,j,?_];change(z.H0 x).or (Gz z n B m x)=D;rw[g];cases q:Gz z n B m x with
  |none=>rfl
  |some o=>show Ut (.inr #[0,i,a,s,d,f,hf]) (zf q).1) Y λr _ _ l=>#[l.tp,l.o,l.ok,l.k]
 dj:=b.dj
 xd:=b.xd
 tp:=b.tp.to Y λ_ k=>k
 keep:=λx o e h=>by
  have c:(z.H0 x).or (Gz z n B m x)=J o:=e;cases q:z.H0 x with|none=>rw[q,Option.none_or]at c;show(zf c).2|some o'=>rw[q]at c;cases c;show b.keep x _ q h
 oex:=b.oex
def M.down(b:M (z.up d7) n B m):M z n B m where
 len:=b.len
 ok:=λi a s c d=>(b.ok i a s c d).stay (λ_ _ e=>e) (λx o hf e=>by have Wf j f _:=b.ft c d hf;show#[e,j,eX f]) Y λr _ _ l=>#[l.tp,l.o,l.ok,l.k]
 dj:=b.dj
 xd:=b.xd
 tp:=b.tp.to Y λ_ g=>g
 keep:=λx o e h=>b.keep x o (mM e) h
 oex:=b.oex
def M.upold(b:M z p8 AD d7)(g:M (z.up (Gz z p8 AD d7)) n B m):zv (Gz z p8 AD d7) (Gz z n B m):=λa o e=>by
 have Wc c d:=zf e;have f:(z.up<|Gz z p8 AD d7).H0 a=J o:=by
  change(z.H0 a).or (Gz z p8 AD d7 a)=J o;cases q:z.H0 a with|none=>show e|some o'=>have:=b.keep a o' q<|b.tp.nt<|GL c;rw[d]at this;cases this;rfl
 show g.old a o<|zr (GL c) f
def yF (F:Fr)(O:Ev)(U:St)(H:Hp)(v:V)(a:Hp)(b:TL):Prop:=
 ∃l xs,v=.ref l/\H l=D/\a l=J (.lst xs)/\D2 (sub (λx=>¬Ow F O U x/\x≠l) a) xs b
def nV (F:Fr)(O:Ev)(U:St)(H:Hp)(v:V)(a:Hp)(c:A2):Prop:=
 ∃l o,v=.ref l/\H l=D/\a l=J o/\yP (sub (λx=>¬Ow F O U x/\x≠l) a) o c
theorem yF.c(h:yF z n B m e9 d7 T):nV z n B m e9 d7 (.list T):=by have Wj l xs c a b d:=h;show#[1,l,_,c,a,b,.lst d]
def yF.av(d:M z n B m)(h:yF z n B m e9 d7 T):AV (Gz z n B d7) e9 (.list T):=by have Wj l xs rfl f b c:=h;show .lst (zr (d.fresh f) b)<|c.same<|zj λa o h e=>#[h.1,e]
section
variable (ZV:Cx)(ZY:Ev)
def DP (e:Dc)(Q:Ue):Prop:=∀(F:Fr) (U:St) (H:Hp) (R:VK),M F ZY U H->(∀d v a,Q d->zF F a->Kz F H a->AV (Gz F ZY U a) v d->R v a)->uB ZV e U H R
def FA (e:Dc)(Q:TL->Prop):Prop:=∀(F:Fr) (U:St) (H:Hp) (R:VK),M F ZY U H->(∀b v a,Q b->zF F a->Kz F H a->yF F ZY U H v a b->R v a)->uB ZV e U H R
def Od (e:Dc)(Q:Ue):Prop:=∀(F:Fr) (U:St) (H:Hp) (R:VK),M F ZY U H->(∀c v a,Q c->zF F a->Kz F H a->nV F ZY U H v a c->R v a)->uB ZV e U H R
def GX (e:Dc)(Q:Um):Prop:=∀(F:Fr) (U:St) (H:Hp) (R:Ts),M F ZY U H->(∀b a,Q b->zF F a->Kz F H a->R b a)->Oc ZV e U H R
def lX (F:Fr)(G:Hp)(v:V):Ug
 |.dat d=>AV G v d
 |.tape=>∃t b c,F.tp=J (t,b,c)/\v=.ref t
 |_=>False
inductive zQ (F:Fr)(G:Hp):TM->TV->Prop where
 |nil:zQ F G [] []
 |cons {v:V}{vs:TM}{a:A}{as:TV}:lX F G v a->zQ F G vs as->zQ F G (v::vs) (a::as)
def G7 (d:T1)(Q:TV->Prop):Prop:=∀(F:Fr) (U:St) (H:Hp) (R:TM->Ui),M F ZY U H->(∀c b a,Q c->zF F a->Kz F H a->zQ F (Gz F ZY U a) b c->R b a)->QI ZV d U H R
end
theorem lX.to {F F':Fr}(s:zv m d7)(d:F'.tp=F.tp):∀{a:A},lX F m e9 a->lX F' d7 e9 a
 |.dat _,h=>AV.same s h
 |.tape,⟨t,b,c,e,z⟩=>#[t,b,c,d.trans e,z]
 |.ow _,h=>h
 |.deep _ _,h=>h
 |.at _,h=>h
 |.exc _ _,h=>h
 |.pin _ _ _,h=>h
 |.nst _ _ _,h=>h
 |.inn _,h=>h
 |.res _ _,h=>h
variable {p9:List L2.A}
theorem zQ.to {F F':Fr}(s:zv m d7)(a:F'.tp=F.tp)(h:zQ F m dU p9):zQ F' d7 dU p9:=by
 induction h with|nil=>show .nil|cons h _ b=>show .cons (h.to s a) b
def zQ.same(s:zv m d7)(h:zQ z m dU p9):zQ z d7 dU p9:=h.to s Y
theorem zQ.length {F:Fr}{G:Hp}:∀{vs:TM}{as:TV},zQ F G vs as->vs.length=as.length
 |_,_,.nil=>rfl
 |_,_,.cons _ r=>by rw[G3,G3,zQ.length r]
def A.d :A->A2
 |.dat d=>d
 |.ow c=>c
 |.deep d _=>d
 |.nst _ _ dss=>.list<|dss.map .list
 |.res d _=>d
 |_=>.none
def LV (F:Fr)(v:V)(a:Hp):Ug
 |.dat d=>AV (sub (λx=>¬F.O0 x) a) v d
 |.ow c=>∃l xs b,v=.ref l/\c=.list b/\F.H0 l=D/\¬F.O0 l/\a l=J (.lst xs)/\D2 (sub (λx=>¬F.O0 x/\x≠l) a) xs b
 |.deep d S=>AV (tX S (sub (λx=>¬F.O0 x) a) a) v d/\∀x,S x->¬F.O0 x/\F.H0 x=D/\∃xs,a x=J (.lst xs)
 |.nst l ls dss=>v=.ref l/\a l=J (.lst<|ls.map .ref)/\vb (sub (λx=>¬F.O0 x/\x∉l::ls) a) a ls dss/\(l::ls).Nodup/\∀x∈l::ls,¬F.O0 x/\F.H0 x=D
 |.res d u=>AV (sub (λx=>¬F.O0 x/\x≠u.a/\x≠u.lp) a) v d/\xM (sub (λx=>¬F.O0 x/\x≠u.a/\x≠u.lp) a) a u/\∀x,x=u.a\/x=u.lp->¬F.O0 x/\F.H0 x=D
 |_=>False
def yh (F:Fr)(v:V)(b:Hp)(a:A):Prop:=zF F b/\Kz F F.H0 b/\LV F v b a
def KI (φ:Tj):Sp:=λc H d _=>∃(F:Fr) (as:TV) (Q:Ug),F.H0=H/\zF F H/\(∀x,F.O0 x->∃o,H x=J o/\yS o)/\zQ F (sub (λx=>¬F.O0 x) H) c as/\φ as Q/\∀a v b,Q a->yh F v b a->d v b
def LV.to {F F':Fr}(r:LV F e9 m l9)(a:∀x,F'.O0 x->F.O0 x)(k:∀x,F.H0 x=D->F'.H0 x=D):LV F' e9 m l9:=by
 have s:zv (sub (λx=>¬F.O0 x) m) (sub (λx=>¬F'.O0 x) m):=zj λl9 o h e=>#[λz=>h<|a _ z,e];cases l9 with|dat d=>show AV.same s r|ow c=>have Wu l xs v f q b i p n:=r;show#[0,l,xs,v,f,q,#[k _ b,λz=>i<|a _ z,p,n.same<|zj λl9 o h e=>#[#[λz=>h.1<|a _ z,h.2],e]]]|deep d S=>have Wc f b:=r;show#[f.same<|va s λ_ _ _ e=>e,λx z=>?_];have Wf t y z3:=b x z;show#[λw=>t<|a _ w,k _ y,z3]|tape=>show r|«at» _=>show r|exc _ _=>show r|pin _ _ _=>show r|nst l ls dss=>have Wn f b i p n:=r;show#[f,b,i.same (zj λl9 o h e=>#[#[λz=>h.1<|a _ z,h.2],e]) λ_ _ _ e=>e,p,λx j=>#[λz=>(n x j).1<|a _ z,k _ (n x j).2]]|inn _=>show r|res d u=>have Wf f b i:=r;have g:zv (sub (λx=>¬F.O0 x/\x≠u.a/\x≠u.lp) m) (sub (λx=>¬F'.O0 x/\x≠u.a/\x≠u.lp) m):=zj λl9 o h e=>#[#[λz=>h.1<|a _ z,h.2],e];show#[f.same g,b.same g λ_ _ _ e=>e,λx j=>#[λz=>(i x j).1<|a _ z,k _ (i x j).2]]
structure zT where
 nx:Uk
 rt:Ug
 bk:Uk:=λ_=>False
 ct:Uk:=λ_=>False
structure nN (F:Fr)(E:zT)(b:HK):Prop where
 nx:∀O U H,M F O U H->E.nx O->b.nx U H
 rt:∀a v H,yh F v H a->E.rt a->b.rt v H
 bk:∀O U H,M F O U H->E.bk O->b.bk U H
 ct:∀O U H,M F O U H->E.ct O->b.ct U H
def D0 (X:Cx)(O:Ev)(a:List Da)(E:zT):Prop:=∀(F:Fr) (U:St) (H:Hp) (b:HK),M F O U H->nN F E b->fb X a b U H
variable {h9 Ei:zT}
theorem nN.up(e:nN z h9 Bg):nN (z.up m) h9 Bg where
 nx:=λO U H c q=>e.nx O U H c.down q
 bk:=λO U H c q=>e.bk O U H c.down q
 ct:=λO U H c q=>e.ct O U H c.down q
 rt:=λa v H r q=>e.rt a v H (by have Wf t k r:=r;show#[t.to Y λ_ b=>b,λx o e n=>k x o (mM e) n,r.to (λ_ b=>b) λx b=>eX b]) q
def FA.d (h:FA f n j (λa=>Q (.list a))):DP f n j Q:=λF U H R m k=>h F U H R m λa v b y t z c=>k _ v b y t z<|c.av m
def DP.imp(h:DP f n j Ag)(k:∀d,Ag d->Q d):DP f n j Q:=λF U H R m r=>h F U H R m λd v a y=>r d v a<|k d y
def zc (i:Nat)(g:n[i]?=J (J (.dat dc)))(q:Q dc)(h: ~~~(f.N[i]?=J p))(d:‹GO f.env.scope p›)
  (c:‹Yl p›) (a:‹Ym p›):DP f n (.Name p y) Q:=λF U H R m k=>by have Wa v e b:=m.dat i dc g;show#[_,zG h d c a,v,e,k dc v H q m.tp Kz.refl b]
def zw(q:Q (.int L)):DP f n (.Constant (.int L) l y) Q:=λF U H R m k=>#[_,yx,k _ _ H q m.tp Kz.refl<|.int L]
def dB(q:Q (.bool j8)):DP f n (.Constant (.bool j8) l y) Q:=λF U H R m k=>#[_,yb2,k _ _ H q m.tp Kz.refl<|.bl j8]
def wM(q:Q .none):DP f n (.Constant .none l y) Q:=λF U H R m k=>#[_,P2,k _ _ H q m.tp Kz.refl .non]
def zM(q:Q (.str p)):DP f n (.Constant (.str p) l y) Q:=λF U H R m k=>#[_,vC,k _ _ H q m.tp Kz.refl<|.str p]
def xj(hg:Gl f p)(a:∃t,f.mg p=J (.int L t))(q:Q (.int L))(b:‹Yl p›):DP f n (.Name p y) Q:=λF U H R m k=>by have Wb t a:=a;show#[_,eN hg a (show DT (.int L) (.int L t)from#[t,Y]) b,k _ _ H q m.tp Kz.refl<|.int L]
def qF {e:TE->TE->TE}(hf:PE f j (e (uB f w) (uB f gV)))(E:∀U H R,e (uB f w) (uB f gV) U H R↔uB f w U H (λx g=>uB f gV U g λy i=>e (tC x) (tC y) U i R))(h:DP f n w λx=>DP f n gV λy=>∀(F:Fr) (U:St) (H:Hp) (b c:V) (R:VK),M F n U H->AV (Gz F n U H) b x->AV (Gz F n U H) c y->(∀d v a,Q d->zF F a->Kz F H a->AV (Gz F n U a) v d->R v a)->e (tC b) (tC c) U H R):DP f n j Q:=λF U H R m k=>by show#[_,hf,(E U H R).mpr ?_];show h F U H _ m λx b g q A p G=>?_;have o:=m.kz p A;show q F U g _ o λy c i z r l u=>z F U i b c R (o.kz l r) (G.same<|l.gz o.tp) u λd v a B C s t=>k d v a B C ((p.trans l).trans s) t
def AV.int_inv(h:AV m e9 (.int L)):e9=.int L:=by cases h;rfl
def AV.bl_inv(h:AV m e9 (.bool j8)):e9=.bl j8:=by cases h;rfl
def AV.str_inv(h:AV m e9 (.str p)):e9=.str p:=by cases h;rfl
def AV.tup_inv(h:AV m e9 (.tuple T)):∃a xs,e9=.ref a/\m a=J (.tup xs)/\D2 m xs T:=by cases h;show#[_,_,Y,by assumption,by assumption]
def AV.lst_inv(h:AV m e9 (.list T)):∃a xs,e9=.ref a/\m a=J (.lst xs)/\D2 m xs T:=by cases h;show#[_,_,Y,by assumption,by assumption]
def AV.non_inv(h:AV m e9 .none):e9=.non:=by cases h;rfl
def AV.isnon(h:AV m e9 dc):decide (e9=.non)=(match dc with|.none=>I|_=>Za):=by cases h<;>simp
variable {Co:Operator}{Ef:Int->Int->Prop}{Eu:Int->Int->V}
def mG{gd:Int->Int->A2}(d:GK f (ZG Co) (rI Ef Eu))(hg:∀H i a,AV H (Eu i a) (gd i a))(h:DP f n j λx=>DP f n w λc=>∃i a,x=.int i/\c=.int a/\Ef i a/\Q (gd i a)):DP f n (.BinOp j Co w y) Q:=by show qF (wq d zh zh) (λ_ _ _=>Iff.rfl)<|h.imp λx h=>h.imp λc=>Wj λi a g o l q=>?_;subst g o;intro F U H r s R m p e k;cases p.int_inv;cases e.int_inv;show#[1,i,a,Y,Y,l,k _ _ H q m.tp Kz.refl<|hg _ i a]
variable {EW:Int->Int->A2}
def dG(d:GK f (ZG Co) (IU Eu))(hg:∀H i a,AV H (Eu i a) (EW i a))(h:DP f n j λx=>DP f n w λc=>∃i a,x=.int i/\c=.int a/\Q (EW i a)):DP f n (.BinOp j Co w y) Q:=by show qF (wq d zh zh) (λ_ _ _=>Iff.rfl)<|h.imp λx h=>h.imp λc=>Wd λi a g l p=>?_;subst g l;intro F U H q r R m o e k;cases o.int_inv;cases e.int_inv;show#[i,a,Y,Y,k _ _ H p m.tp Kz.refl<|hg _ i a]
def uO (h:DP f n j λx=>DP f n w λb=>∃i a,x=.int i/\b=.int a/\Q (.int (i+a))):DP f n (.BinOp j .Add w y) Q:=dG nX (λ_ _ _=>.int _) h
def QL (h:DP f n j λx=>DP f n w λb=>∃i a,x=.int i/\b=.int a/\Q (.int (i-a))):DP f n (.BinOp j .Sub w y) Q:=dG z83 (λ_ _ _=>.int _) h
def z80 (h:DP f n j λx=>DP f n w λb=>∃i a,x=.int i/\b=.int a/\MP i a/\Q (.int (i*a))):DP f n (.BinOp j .Mult w y) Q:=mG (gd:=λi a=>.int<|i*a) lM (λ_ _ _=>.int _) h
def z37 (h:DP f n j λx=>DP f n w λb=>∃i a,x=.int i/\b=.int a/\N0 i a/\Q (.int (i ^ a.toNat))):DP f n (.BinOp j .Pow w y) Q:=mG z75 (λ_ _ _=>.int _) h
def z69 (h:DP f n j λx=>DP f n w λb=>∃i a,x=.int i/\b=.int a/\0<a/\Q (.int (i % a))):DP f n (.BinOp j .Mod w y) Q:=mG (gd:=λi a=>.int<|i % a) om (λ_ _ _=>.int _) h
def zL7 (h:DP f n j λx=>DP f n w λb=>∃i a,x=.int i/\b=.int a/\QF i a/\Q (.int (i / a))):DP f n (.BinOp j .FloorDiv w y) Q:=mG (gd:=λi a=>.int<|i / a) ph (λ_ _ _=>.int _) h
def nQ {r:Int}(b:N0 L gi)(a:L ^ gi.toNat=r)(q:Q (.int r)):DP f n (.BinOp (.Constant (.int L) l K) .Pow (.Constant (.int gi) N fC) y) Q:=
 z37 (zw<|zw #[1,L,gi,Y,Y,b,a▸q])
def QM (h:DP f n j λx=>∃i,x=.int i/\Q (.int (-i))):DP f n (.UnaryOp .USub j y) Q:=λF U H R m k=>by show#[_,NZ gY zh,h F U H _ m λx g a d c b e=>?_];have Wa i rfl K:=d;cases e.int_inv;show#[i,Y,k _ _ a K c b<|.int _]
variable {u7 Cp:CmpOp}{Bw EX:Int->Int->Bool}
def cO(d:GK f (Z5 u7) (IU λi a=>.bl (Bw i a)))(l:ZB u7 w=Za)(h:DP f n j λx=>DP f n w λc=>∃i a,x=.int i/\c=.int a/\Q (.bool (Bw i a))):DP f n (.Compare j [u7] [w] y) Q:=by show qF (rZ d zh zh l) (λ_ _ _=>Iff.rfl)<|h.imp λx h=>h.imp λc=>Wd λi a g o q=>?_;subst g o;intro F U H r s R m p e k;cases p.int_inv;cases e.int_inv;show#[i,a,Y,Y,k _ _ H q m.tp Kz.refl<|.bl _]
def ye4 (h:DP f n j λx=>DP f n w λb=>∃i a,x=.int i/\b=.int a/\Q (.bool (decide (i<a)))):DP f n (.Compare j [.Lt] [w] y) Q:=cO Qk (yN _) h
def yd7 (h:DP f n j λx=>DP f n w λb=>∃i a,x=.int i/\b=.int a/\Q (.bool (decide (i<=a)))):DP f n (.Compare j [.LtE] [w] y) Q:=cO N1 (yN _) h
def vI :A2->Bool
 |.none=>I
 |_=>Za
def AV.non_iff(h:AV m e9 dc):decide (e9=.non)=vI dc:=by cases h<;>simp[vI]
def z74(h:DP f n j λx=>Q (.bool (vI x))):DP f n (.Compare j [.Is] [.Constant .none l K] y) Q:=λF U H R m k=>by show#[_,rZ Qm zh P2<|yN _,h F U H _ m λx g a d c b e=>#[Y,?_]];rw[e.non_iff];show k _ _ a d c b<|.bl _
def zy9(P:GK f (Z5 u7) (IU λi a=>.bl (Bw i a)))(c:GK f (Z5 Cp) (IU λi a=>.bl (EX i a)))(K:lastMarks [u7,Cp] [w,gV]=Za)(h:DP f n j λx=>DP f n w λo=>∃i a,x=.int i/\o=.int a/\(if Bw i a=I then DP f n gV λz=>∃k,z=.int k/\Q (.bool (EX a k))else Q (.bool Za))):DP f n (.Compare j [u7,Cp] [w,gV] y) Q:=λF U H R m k=>by
 show#[_,zo8 P c zh zh zh K,h F U H _ m λx S B E u e N=>?_];have q:=m.kz e u;show E F U B _ q λo V l L p d t=>?_;have Wd i a C M b:=L;subst C M;cases N.int_inv;cases t.int_inv;show#[i,a,Y,Y,_,Y,?_];cases hg:Bw i a with|true=>rw[hg]at b;show sJ ?_;show(by simpa using b:DP f n gV _) F U l _ (q.kz d p) λz T A O v G s=>?_;have Wa r rfl g:=O;cases s.int_inv;show#[a,r,Y,Y,k _ _ A g v ((e.trans d).trans G)<|.bl _]|false=>rw[hg]at b;show uW<|k _ _ l (by simpa using b) p (e.trans d)<|.bl _
variable {l6:Um}
def lY(h:DP f n j λx=>∃k,x=.bool k/\l6 k)(e: ~~~(∀a,isTrue j f.env a=(do let v <-a;Z8 j.pos;Z9 [v] (truthy v)))):GX f n j l6:=λF U H R m k=>by show#[_,P4 zh e,h F U H _ m λx l b d g c i=>?_];have Wa w rfl y:=d;cases i.bl_inv;show#[w,Y,k w b y g c]
def IE (r:R2)(x y:A2)(k:Bool):Prop:=∀(p:Uj) (H:Hp) (a b:V) (R:VK),AV (sub p H) a x->AV (sub p H) b y->R (.bl k) H->r a b H R
variable {A4:R2}
def vY(i:GK f (Z5 u7) A4)(s:ZB u7 w=Za)(h:DP f n j λx=>DP f n w λc=>∃k,IE A4 x c k/\l6 k):GX f n (.Compare j [u7] [w] y) l6:=λF U H R m k=>by show#[_,qc i zh zh s,h F U H _ m λx l g o v a z=>?_];have e:=m.kz a v;show o F U g _ e λc q b u p d t=>?_;have Wa w r K:=u;show r _ b l q _ (z.same<|d.gz e.tp) t #[w,Y,k w b K p<|a.trans d]
def zN1:IE (IU λL gi=>.bl (Bw L gi)) (.int L) (.int gi) (Bw L gi):=λy H c d R b a h=>by cases b.int_inv;cases a.int_inv;show#[L,gi,Y,Y,h]
def lA(k:GK f (Z5 u7) (IU λi a=>.bl (Bw i a)))(d:ZB u7 w=Za)(h:DP f n j λx=>DP f n w λc=>∃i a,x=.int i/\c=.int a/\l6 (Bw i a)):GX f n (.Compare j [u7] [w] y) l6:=
 vY k d (h.imp λx h=>h.imp λc b=>by have Wd i a e g K:=b;show#[_,by subst e g;show zN1,K])
def QN(h:DP f n j λx=>DP f n w λb=>∃i a,x=.int i/\b=.int a/\l6 (decide (i<a))):GX f n (.Compare j [.Lt] [w] y) l6:=lA Qk (yN _) h
def Oe(h:DP f n j λx=>DP f n w λb=>∃i a,x=.int i/\b=.int a/\l6 (decide (a<i))):GX f n (.Compare j [.Gt] [w] y) l6:=lA Ql (yN _) h
def yk1(h:DP f n j λx=>DP f n w λb=>∃i a,x=.int i/\b=.int a/\l6 (decide (a<=i))):GX f n (.Compare j [.GtE] [w] y) l6:=lA yh0 (yN _) h
def uN(h:DP f n j λx=>l6 (vI x)):GX f n (.Compare j [.Is] [.Constant .none l K] y) l6:=
 vY Qm (yN _) (h.imp λx h=>wM #[_,λK H c d R b a z=>#[a.non_inv,by rw[b.non_iff];show z],h])
def eS(h:DP f n j λx=>l6 (!vI x)):GX f n (.Compare j [.IsNot] [.Constant .none l K] y) l6:=
 vY zO2 (yN _) (h.imp λx h=>wM #[_,λK H c d R b a z=>#[a.non_inv,by rw[b.non_iff];show z],h])
def yl7 :A2->Ub
 |.none=>J Za
 |.bool j=>J j
 |.int i=>J<|i != 0
 |.list ds=>J<|!ds.isEmpty
 |.tuple ds=>J<|!ds.isEmpty
 |_=>D
theorem D2.isEmpty(h:D2 m dU T):dU.isEmpty=T.isEmpty:=by cases h<;>rfl
def zi9(h:DP f n j λx=>∃k,yl7 x=J k/\l6 k)(o: ~~~(∀b,isTrue j f.env b=(do let v <-b;Z8 j.pos;Z9 [v] (truthy v)))):GX f n j l6:=λF U H R m k=>by
 show#[_,zl2 zh o,h F U H _ m λx r e l p g q=>?_];have Wa w a y:=l;show#[w,?_,k w e y p g];cases q with|non=>cases a;rfl|bl z=>cases a;rfl|int i=>cases a;rfl|str s=>cases a|lst d c=>cases a;show .inl #[_,D3.of (zf d).2,by rw[c.isEmpty]]|tup d c=>cases a;show .inr (.inl #[_,HM.of (zf d).2,by rw[c.isEmpty]])|ins _ _=>cases a|dk _ _=>cases a|dt _ _=>cases a|xc _ _ _=>cases a|xn _=>cases a
def QO(h:GX f n j λk=>l6 (!k)):GX f n (.UnaryOp .Not j y) l6:=λF U H R m k=>by show#[_,P7 yK,h F U H _ m λw a d c b=>k _ a d c b]
def Im (X:Cx)(O:Ev)(e:Dc)(Q:Um):Prop:=∀(F:Fr) (U:St) (H:Hp) (R:Ts),M F O U H->(∀b a,Q b->zF F a->Kz F H a->R b a)->∃t,PW X e t/\t U H R
def yn5 (X:Cx)(e:Dc):TT:=λU H Q=>∃t,PW X e t/\t U H Q
def my :PW f j (yn5 f j):=λw a s U H Q c b=>by have Wa t y K:=b;show y w a s U H Q c K
theorem Im.t(h:Im f n j l6):GX f n j l6:=λF U H R m k=>by have Wa t y K:=h F U H R m k;show#[t,y.pt,K]
def rH(h:GX f n j l6):Im f n (.BoolOp .And [j] y) l6:=λF U H R m k=>#[_,zP3 yK,h F U H R m k]
def QP(h:GX f n j l6):Im f n (.BoolOp .Or [j] y) l6:=λF U H R m k=>#[_,P5 yK,h F U H R m k]
def QQ(h:GX f n j λk=>if k=I then Im f n (.BoolOp .And (w::O) y) l6 else l6 Za):Im f n (.BoolOp .And (j::w::O) y) l6:=λF U H R m k=>by
 show#[_,z08 yK my,h F U H _ m λgV b c d a=>?_];cases gV with|true=>show sJ ((by simpa using c:Im f n _ l6) F U b R (m.kz a d) λw e l g i=>k w e l g<|a.trans i)|false=>show uW<|k _ b (by simpa using c) d a
def QR(h:GX f n j λk=>if k=I then l6 I else Im f n (.BoolOp .Or (w::O) y) l6):Im f n (.BoolOp .Or (j::w::O) y) l6:=λF U H R m k=>by
 show#[_,P6 yK my,h F U H _ m λgV b c d a=>?_];cases gV with|false=>show uW ((by simpa using c:Im f n _ l6) F U b R (m.kz a d) λw e l g i=>k w e l g<|a.trans i)|true=>show sJ<|k _ b (by simpa using c) d a
def QS {op}(h:DP f n j Q):DP f n (.BoolOp op [j] y) Q:=λF U H R m k=>#[_,P8 zh,h F U H R m k]
def zZ5 (h:DP f n j λx=>∃k,x=.bool k/\if k=I then DP f n (.BoolOp .And (w::O) y) Q else Q (.bool Za)):DP f n (.BoolOp .And (j::w::O) y) Q:=λF U H R m k=>by
 show#[_,P9 zh zh,h F U H _ m λx r c a e b q=>?_];have Wa gV rfl a:=a;cases q.bl_inv;show#[gV,Y,?_];cases gV with|true=>show sJ (by simpa using a F U c R (m.kz b e) λd v g p i o l=>k d v g p i (b.trans o) l)|false=>show uW<|k _ _ c (by simpa using a) e b<|.bl _
def Of (h:DP f n j λx=>∃k,x=.bool k/\if k=I then Q (.bool I)else DP f n (.BoolOp .Or (w::O) y) Q):DP f n (.BoolOp .Or (j::w::O) y) Q:=λF U H R m k=>by
 show#[_,yc4 zh zh,h F U H _ m λx r c a e b q=>?_];have Wa gV rfl a:=a;cases q.bl_inv;show#[gV,Y,?_];cases gV with|false=>show uW (by simpa using a F U c R (m.kz b e) λd v g p i o l=>k d v g p i (b.trans o) l)|true=>show sJ<|k _ _ c (by simpa using a) e b<|.bl _
def z73 (h:DP f n j λx=>∃k,x=.bool k/\Q (.bool (!k))):DP f n (.UnaryOp .Not j y) Q:=λF U H R m k=>by show#[_,z09 zh,h F U H _ m λx g a d c b e=>?_];have Wa w rfl K:=d;cases e.bl_inv;show#[w,Y,k _ _ a K c b<|.bl _]
def mR (h:GX f n gV λk=>if k=I then DP f n j Q else DP f n w Q):DP f n (.IfExp gV j w y) Q:=λF U H R m k=>by
 show#[_,zv7 yK zh zh,h F U H _ m λx l o p a=>?_];cases x with|true=>show sJ (by simpa using o F U l R (m.kz a p) λd v b i c g e=>k d v b i c (a.trans g) e)|false=>show uW<|by simpa using o F U l R (m.kz a p) λd v b i c g e=>k d v b i c (a.trans g) e
def md (z:rT w)(h:DP f n j λx=>DP f n w λe=>∃b i d,x=.tuple b/\e=.int i/\atI b i=J d/\Q d):DP f n (.Subscript j w y) Q:=by show qF (vV Qu zh zh z) (λ_ _ _=>Iff.rfl)<|h.imp λx h=>h.imp λe=>Wm λb i d o s c u=>?_;subst o s;intro F U H A B R m t l k;have Wd j xs rfl r g:=t.tup_inv;cases l.int_inv;have Wa v q p:=g.atI c;show#[7,j,xs,i,v,Y,Y,HM.of (zf r).2,q,k d v H u m.tp Kz.refl p]
def LW (X:Cx)(O:Ev)(e:Option Dc)(Q:T7->Prop):Prop:=∀(F:Fr) (U:St) (H:Hp) (R:T7->Ui),M F O U H->(∀i a,Q i->zF F a->Kz F H a->R i a)->∃t,PO X e t/\t U H R
def yo3 (X:Cx)(e:Option Dc):TO:=λU H Q=>∃t,PO X e t/\t U H Q
variable {BG Ca:Option Dc}
def cW:PO f BG (yo3 f BG):=λa s U H Q c b=>by have Wa t y K:=b;show y a s U H Q c K
variable {Ew:T7->Prop}
def qg(q:Ew D):LW f n D Ew:=λF U H R m k=>#[_,zJ4,k _ H q m.tp Kz.refl]
def rX(h:DP f n j λx=>∃i,x=.int i/\Ew (J i)):LW f n (J j) Ew:=λF U H R m k=>by show#[_,rM zh,h F U H _ m λx g a d c b e=>?_];have Wa i rfl y:=d;cases e.int_inv;show#[i,Y,k _ a y c b]
def M.lay{O:Ev}{F:Fr}{U:St}{H:Hp}{l:Ch}{xs:TM}{c:TL}(m:M F O U H)(b:H l=D)(h:D2 (Gz F O U H) xs c):zF F (upd H l (.lst xs))/\Kz F H (upd H l (.lst xs))/\yF F O U H (.ref l) (upd H l (.lst xs)) c:=by show#[m.tp.same<|zP b,Kz.of_same<|zP b,#[1,l,xs,Y,b,zi,h.same<|zj λa o d e=>?_]];have:=zk e b;show#[#[d,this],by rw[zg this];show e]
variable {j2:TL->Prop}
def dP(h:DP f n j λx=>LW f n BG λl=>LW f n Ca λu=>∃c,x=.list c/\j2 (cutD c l u)):FA f n (.Subscript j (.Slice BG Ca D K) y) j2:=λF U H R m k=>by
 show#[_,kL cU zh cW cW,h F U H _ m λx X E N B s V=>?_];have p:=m.kz s B;show N F U E _ p λl v T w b=>?_;have e:=p.kz b w;show T F U v _ e λu Z W C d=>?_;have r:=e.kz d C;have Wa c rfl fC:=W;have Wd j xs rfl P G:=(V.same<|(b.gz p.tp).trans<|d.gz e.tp).lst_inv;show#[j,xs,Y,D3.of (zf P).2,λK S=>?_];have Wf t O A:=r.lay S<|G.cut l u;have q:=(s.trans b).trans d;have Wj a g M i Q L:=A;show k _ _ _ fC t (q.trans O) #[1,a,g,M,?_,Q,L];cases z:H a with|none=>rfl|some o=>rw[q a o z (m.tp.nt<|GL<|r.fresh i)]at i;cases i
def yF.back{O:Ev}{F:Fr}{U:St}{H a f:Hp}{v:V}{e:TL}(m:M F O U H)(k:Kz F H a)(l:zF F a)(h:yF F O U a v f e):yF F O U H v f e:=by
 have Wj b c i d j g:=h;show#[1,b,c,i,?_,j,g];cases z:H b with|none=>rfl|some o=>rw[k b o z (m.tp.nt<|GL<|(m.kz k l).fresh d)]at d;cases d
variable {CV:List L2.A->Prop}
def zm(q:CV []):G7 f n [] CV:=λF U H R m k=>#[_,zI,k _ _ H q m.tp Kz.refl .nil]
def zd(h:DP f n j λd=>G7 f n O λe=>CV (.dat d::e))(t: ~~~Uo j O f.env):G7 f n (j::O) CV:=λF U H R m k=>by show#[_,zo zh yb t,h F U H _ m λd v g o r a s=>?_];have c:=m.kz a r;show o F U g _ c λe u i q l b p=>k _ _ i q l (a.trans b)<|.cons (s.same<|b.gz c.tp) p
def wG(i:Nat)(v:n[i]?=J (J .tape))(h:G7 f n O λb=>CV (.tape::b))(o: ~~~(f.N[i]?=J p))(g:‹GO f.env.scope p›)
  (e:‹Yl p›) (a:‹Ym p›) (x: ~~~(A3 (.Name p y::O) f.env=(Za,eval (.Name p y) f.env)::A3 O f.env)):G7 f n (.Name p y::O) CV:=λF U H R m k=>by have Wl t j w q c:=m.tvar i v;show#[_,zo (zG o g e a) yb x,.ref t,c,h F U H _ m λb z d u l s r=>k _ _ d u l s<|.cons #[t,j,w,q,Y] r]
def datas :TV->Option (TL)
 |[]=>J []
 |.dat d::r=>(datas r).map (d::·)
 |_::_=>D
theorem zQ.datas(h:zQ z m dU p9)(e:L2.datas p9=J T):D2 m dU T:=by
 induction h generalizing T with
 |nil=>cases e;show .nil
 |@cons _ _ j p9 h _ ih=>
  cases j with|dat d=>have Wa O a rfl:=Hj.mp e;show .cons h (ih a)|tape=>cases e|_=>show h.elim
def yB(h:G7 f n O λe=>∃a,datas e=J a/\a.length<=1000/\Q (.tuple a)):DP f n (.Tuple O l y) Q:=λF U H R m k=>by show#[_,ml yb,h F U H _ m λe t s g d c q=>?_];have We a j p fC:=g;have r:=q.datas j;show#[by rw[r.length];show Hy<|yu p,λK b=>?_];show k _ _ _ fC (d.same<|zP b) (c.trans<|Kz.of_same<|zP b)<|.tup (zr ((m.kz c d).fresh b) zi)<|r.same<|zj λw o i j=>#[i,by rw[zg (zk j b)];show j]
def yC(h:G7 f n O λd=>∃a,datas d=J a/\a.length<=1000/\j2 a):FA f n (.List O y) j2:=λF U H R m k=>by show#[_,nZ yb,h F U H _ m λd t s g c b q=>?_];have We a j p fC:=g;have r:=q.datas j;show#[by rw[r.length];show Hy<|yu p,λK o=>?_];have Wf e i l:=(m.kz b c).lay o r;show k _ _ _ fC e (b.trans i)<|l.back m b c
def uT(h:DP f n j λx=>DP f n w λg=>∃b c,x=.list b/\g=.list c/\b.length+c.length<=1000/\j2 (b++c)):FA f n (.BinOp j .Add w y) j2:=λF U H R m k=>by show#[_,wq ya2 zh zh,h F U H _ m λx N v z u d L=>?_];have e:=m.kz d u;show z F U v _ e λg O M E i a t=>?_;have Wj b c rfl rfl G fC:=E;have Wd j xs rfl B o:=(L.same<|a.gz e.tp).lst_inv;have Wd w p rfl q l:=t.lst_inv;show#[2,j,w,xs,p,Y,Y,(zf B).2,#[(zf q).2,by rw[o.length,l.length];show Hy<|yu G,λK C=>?_]];have Wf r A s:=(e.kz a i).lay C<|o.append l;show k _ _ _ fC r ((d.trans a).trans A)<|s.back m (d.trans a) i
variable {Cq:TM->Tq}
def wQ(s:yL f (.builtin q5) Cq)(hg:Gl f p)(t:f.mg p=D)(o:ZD p=J (.builtin q5))
  (h:G7 f n (j::O) λg=>∀(F:Fr) (U:St) (H:Hp) (b:TM) (R:VK),M F n U H->zQ F (Gz F n U H) b g->(∀d v a,Q d->zF F a->Kz F H a->AV (Gz F n U a) v d->R v a)->Cq b H R)
  (l:‹p≠"__name__"›) (c:‹Yl p›) (he: ~~~Uo j O f.env) (hpl: ~~~Uq y O f.env):
  DP f n (.Call (.Name p K) (j::O) [] y) Q:=λF U H R m k=>by show#[_,wt s hg t o yb l c he hpl,h F U H _ m λg b i r x e A=>?_];show r F U i b R (m.kz e x) A λd v a z q w u=>k d v a z q (e.trans w) u
def zQ.one(h:zQ z m dU [.dat dc]):∃v,dU=[v]/\AV m v dc:=by cases h with|cons h r=>cases r;show#[_,Y,h]
def zQ.two(h:zQ z m dU [.dat dc,.dat y4]):∃v u,dU=[v,u]/\AV m v dc/\AV m u y4:=by cases h with|cons h r=>have Wa u rfl a:=r.one;show#[_,u,Y,h,a]
def ym7 :A2->T7
 |.list ds=>J ds.length
 |.tuple ds=>J ds.length
 |_=>D
def vZ (hg:Gl f "len")(o:f.mg "len"=D)(h:DP f n j λx=>∃d,ym7 x=J d/\Q (.int d))(e: ~~~Uo j [] f.env):
  DP f n (.Call (.Name "len" K) [j] [] y) Q:=by
 show wQ tU hg o PySem.boot_len (zd (h.imp λx b=>?_) e) (he:=e);have Wa d c fC:=b;show zm ?_;intro F U H p R m i k;have Wa v rfl l:=i.one;cases l with|lst g a=>cases c;rw[<-a.length]at fC;show#[_,_,Y,.inl<|D3.of (zf g).2,k _ _ H fC m.tp Kz.refl<|.int _]|tup g a=>cases c;rw[<-a.length]at fC;show#[_,_,Y,.inr<|HM.of (zf g).2,k _ _ H fC m.tp Kz.refl<|.int _]|_=>cases c
def z62 (r:f.calm=I)(hg:Gl f "max")(s:f.mg "max"=D)(h:DP f n j λx=>DP f n w λg=>∃i b,x=.int i/\g=.int b/\Q (.int (if b > i then b else i)))
  (c: ~~~Uo j [w] f.env) (e: ~~~Uo w [] f.env) (a: ~~~Uq y [w] f.env):
  DP f n (.Call (.Name "max" K) [j,w] [] y) Q:=by show wQ (ze5 r) hg s boot_max (zd (h.imp λx h=>zd (h.imp λg d=>?_) e) c) (he:=c) (hpl:=a);have Wd i b o t fC:=d;show zm ?_;intro F U H z R m l k;subst o t;have Wd v u rfl q p:=l.two;cases q.int_inv;cases p.int_inv;show#[i,b,Y,k _ _ H fC m.tp Kz.refl<|.int _]
def z28 (r:f.calm=I)(hg:Gl f "min")(s:f.mg "min"=D)(h:DP f n j λx=>DP f n w λg=>∃i b,x=.int i/\g=.int b/\Q (.int (if b<i then b else i)))
  (d: ~~~Uo j [w] f.env) (e: ~~~Uo w [] f.env) (a: ~~~Uq y [w] f.env):
  DP f n (.Call (.Name "min" K) [j,w] [] y) Q:=by show wQ (za3 r) hg s boot_min (zd (h.imp λx h=>zd (h.imp λg c=>?_) e) d) (he:=d) (hpl:=a);have Wd i b o t fC:=c;show zm ?_;intro F U H z R m l k;subst o t;have Wd v u rfl q p:=l.two;cases q.int_inv;cases p.int_inv;show#[i,b,Y,k _ _ H fC m.tp Kz.refl<|.int _]
def hV(hg:Gl f "isinstance")(s:f.mg "isinstance"=D)(e:Gl f p)(g:f.mg p=D)(v:ZD p=J (.type q5))
  (h:DP f n w λp=>∃k,p.hasDict=Za/\MV q5 p=J k/\Q (.bool k)) (c:‹p≠"__name__"›) (a:‹Yl p›)
  (b: ~~~(A3 [w,.Name p k9] f.env=(Za,eval w f.env)::A3 [.Name p k9] f.env)) (d: ~~~(A3 [.Name p k9] f.env=(Za,eval (.Name p k9) f.env)::A3 [] f.env)) (u: ~~~((Zx y<|A3 [.Name p k9] f.env).any (·.1)=Za)):
  DP f n (.Call (.Name "isinstance" K) [w,.Name p k9] [] y) Q:=λF U H R m k=>by show#[_,wt bP hg s boot_isinstance (zo zh (zo (eY e g v (show DT (.ty q5) (.type q5)from Y) c a) zI d) b) (he:=b),h F U H _ m λp q i r t l x=>?_];have We gV o j fC:=r;show#[2,q,q5,p,gV,Y,(x.dv o).same wX,j,k _ _ i fC t l<|.bl gV]
def vm :A2->Option (TL)
 |.list ds=>J ds
 |.tuple ds=>J ds
 |_=>D
def zP7(hg:Gl f "list")(t:f.mg "list"=D)(h:DP f n j λx=>∃b,vm x=J b/\j2 b)(g: ~~~Uo j [] f.env):
  FA f n (.Call (.Name "list" K) [j] [] y) j2:=λF U H R m k=>by
 show#[_,yX vp hg t boot_list (zo zh zI g) (he:=g),h F U H _ m λx w c q o d v=>?_];have Wa b e fC:=q;have fin:∀{xs:TM},D2 (Gz F n U c) xs b->∀l,c l=D->R (.ref l) (upd c l<|.lst xs):=λ{xs} a l u=>by have Wf p r s:=(m.kz d o).lay u a;show k _ _ _ fC p (d.trans r)<|s.back m d o
 cases v with|lst i a=>cases e;show#[_,_,Y,.inl<|D3.of (zf i).2,fin a]|tup i a=>cases e;show#[_,_,Y,.inr<|HM.of (zf i).2,fin a]|_=>cases e
variable {Cc:T5}
def D2.bools(h:D2 m dU (Cc.map .bool)):dU=Cc.map V.bl:=by
 induction Cc generalizing dU with
 |nil=>cases h;rfl
 |cons n ns b=>cases h with|cons h a=>rw[GW,b a,h.bl_inv]
variable {Bx:L2.A->Prop}{k7:List L2.A->(L2.A->Prop)->Prop}
def vg{as:TV}(d:M z n B m)(g:zQ z (Gz z n B m) dU as)(c:k7 as Bx)(f:∀a v e,Bx a->yh #[m,Ow z n B,z.tp] v e a->Ae v e) {E:XK}:KI k7 (dU++[]) m Ae E:=by show#[0,#[m,Ow z n B,z.tp],as,Bx,Y,?_,#[?_,?_,c,f]];show d.tp.to Y λ_ b=>.inl b;show λy b=>d.owEx b;rw[G9];show zQ.to (F:=z) (F':=#[m,Ow z n B,z.tp]) (λ_ _ j=>j) Y g
def yh.back{O:Ev}{F:Fr}{U:St}{H f:Hp}{v:V}{a:A}(m:M F O U H)(h:yh #[H,Ow F O U,F.tp] v f a):zF F f/\Kz F H f/\AV (Gz F O U f) v a.d:=by
 have Wf t q r:=h;show#[m.tp.re t Y,q,?_];cases a with
 |dat d=>show r
 |ow c=>have Wu l xs w rfl rfl k b g j:=r;show .lst (zr b g)<|j.same<|zj λa o h e=>#[h.1,e]
 |deep d S=>
  have Wc k b:=r;show k.same λx o e=>?_;rcases qP e with⟨p,i⟩|⟨_,i⟩;show zr (b x p).1 i
  show i
 |tape=>show r.elim
 |«at» _=>show r.elim
 |exc _ _=>show r.elim
 |pin _ _ _=>show r.elim
 |nst l ls dss=>have Wn rfl b g j n:=r;show .lst (zr (n l GN).1 b)<|g.avs (zj λa o h e=>#[h.1,e]) λa s=>(n a<|GH _ s).1
 |inn _=>show r.elim
 |res d u=>show AV.same (zj λa o h e=>#[h.1,e]) r.1
def zJ0 (G:zX f.prog f.w f.K f.mg f.base GA l i e7 S (KI k7))(C:zH l f.A)(hg:Gl f p)(x:f.mg p=J (.ref i))(hk:Zh f.K (.ref i)=I)(o:DQ f.K e7 S [])
  (h:G7 f n (j::O) λe=>k7 e λw=>Q w.d) (a:‹Yl p›) (s: ~~~Uo j O f.env) (b: ~~~Uq y O f.env):
  DP f n (.Call (.Name p K) (j::O) [] y) Q:=λF U H R m g=>by show#[_,tG G C hg x hk o .nil we yb a s b,h F U H _ m λe M L q z c E=>?_];have d:=m.kz c z;show vg d E q λw v r A B=>?_;have Wf k t u:=B.back d;show g _ v r A k (c.trans t) u
def zL6(G:zX f.prog f.w f.K f.mg f.base GA l i e7 S (KI k7))(T:zH l f.A)(hg:Gl f p)(Q:f.mg p=J (.ref i))(hk:Zh f.K (.ref i)=I)(C:DQ f.K e7 S [])
  (h:G7 f n (j::O) λo=>k7 o λw=>∃a,w=.own a/\j2 a) (c:‹Yl p›) (M: ~~~Uo j O f.env) (e: ~~~Uq y O f.env):
  FA f n (.Call (.Name p K) (j::O) [] y) j2:=λF U H R m r=>by show#[_,tG G T hg Q hk C .nil we yb c M e,h F U H _ m λo W X E g d V=>?_];have q:=m.kz d g;show vg q V E λw v L A k=>?_;have Wa a rfl fC:=A;have Wf t N _:=k.back q;have Wf _ _ b:=k;have Wu x xs s rfl z P Z u B:=b;cases z;show r a _ L fC t (d.trans N)<|yF.back m d g #[1,x,xs,Y,P,u,B]
def IV(h:∃y,n[l]?=J y):(n.set l Al)[l]?=J Al:=by have Wb y h:=h;rw[J7 (Gm.mp h).1]
def oh(h:l≠N):(n.set l Al)[N]?=n[N]?:=Iw h
def zx(h:(n.set l Al)[N]?=J Eh):(l=N/\Al=Eh)\/(l≠N/\n[N]?=J Eh):=by
 by_cases a:l=N;subst a;left;have b:l<n.length:=by have:=(Gm.mp h).1;rwa [Ht]at this
 rw[J7 b]at h;show#[Y,Hb h];right;rw[Iw a]at h;show#[a,h]
def M.put(q:M z n B m)(hf:∀s c x,B[l]?=J s->Al=J c->Fc s c x->∃a,n[l]?=J (J a)/\Fc s a x)
  (F:∀s c,l<n.length->B[l]?=J s->Al=J c->xO (Gz z (n.set l Al) B m) z m s c) (P:∀c,Al=J c->J2 c:=by intro c g;cases g;trivial):zv (Gz z n B m) (Gz z (n.set l Al) B m)/\M z (n.set l Al) B m:=by
 have H:zv (Gz z n B m) (Gz z (n.set l Al) B m):=zj λa o h j=>#[λg=>h (by
  rcases g with g|⟨i,c,s,p,e,f⟩;show .inl g
  rcases zx p with⟨rfl,g⟩|⟨K,b⟩;have Wa v C w:=hf s c a e g f;show .inr #[0,l,v,s,C,e,w]
  show .inr #[0,i,c,s,b,e,f]),j]
 have u:∀{i:Nat} {c:A} {s:T6} {x:Ch},(n.set l Al)[i]?=J (J c)->B[i]?=J s->Fc s c x->∃a,n[i]?=J (J a)/\Fc s a x:=λ{i c s x} p e f=>by
  rcases zx p with⟨rfl,g⟩|⟨K,b⟩;show hf s c x e g f
  show#[c,b,f]
 show#[H,by rw[Ht];show q.len,λi c s p e=>?_,λi k c d s t x p e C w R U=>?_,λi r y j T c s x p e f=>?_,q.tp,q.keep,q.oex];rcases zx p with⟨rfl,g⟩|⟨K,b⟩;show F s c ?_ e g;have:=(Gm.mp p).1
 rwa [Ht]at this;show(q.ok i c s b e).stay H (λx o f j=>#[j,(q.ft b e f).1,(q.ft b e f).2.1]) Y λ_ _ _ O=>O;have Wa v E G:=u p C R;have Wa Q N S:=u e w U;show q.dj i k v Q s t x E N C w G S;have Wa v E G:=u p e f;rcases zx j with⟨rfl,g⟩|⟨_,L⟩;show(P _ g).elim
 show q.xd i r y L T v s x E e G
def M.gave(k:M z n B m)(h:n[l]?=J (J l9))(e:B[l]?=J Ac)(f:Fc Ac l9 i)(o:∀c,Al=J c->¬Fc Ac c i):¬Ow z (n.set l Al) B i:=by
 rintro(d|⟨j,c,t,q,a,g⟩);show(k.ft h e f).1 d;rcases zx q with⟨rfl,d⟩|⟨p,b⟩;rw[e]at a;cases a;show o c d g
 show p<|k.dj l j l9 c Ac t i h b e a f g
def iF{b:A}(e:∀s x,¬Fc s b x):zv (Gz z n B m) (Gz z (n.set l (J b)) B m):=zj λw o h j=>#[λa=>h (by
 rcases a with a|⟨g,gV,s,e1,d,f⟩;show .inl a
 rcases zx e1 with⟨rfl,a⟩|⟨i,c⟩;cases a;show(e _ _ f).elim
 show .inr #[0,g,gV,s,c,d,f]),j]
def M.frz{O:Ev}{F:Fr}{U:St}{H:Hp}{i:Nat}{a:TL}(m:M F O U H)(g:O[i]?=J (J (.own a))):M F (O.set i (J (.dat (.list a)))) U H:=
 (m.put (λs k x _ z f=>by cases z;show f.elim) λs k _ e z=>by cases z;have Wp l o d h j p n:=m.owc i _ g;rw[d]at e;cases e;show#[.ref l,Y,(j.same<|iF (b:=.dat<|.list a) λ_ _ f=>f).av<|zr (m.gave g d Y λc z=>by cases z;show id) h]).2
def M.frzd(e:M z n B m)(h:n[l]?=J (J (.deep dc Aj))):M z (n.set l (J (.dat dc))) B m:=
 (e.put (λs t x _ a f=>by cases a;show f.elim) λs t _ b a=>by
  cases a;have We v g i u:=e.deep l dc Aj h;rw[g]at b;cases b;show#[v,Y,i.same λx o j=>?_];rcases qP j with⟨q,d⟩|⟨_,d⟩;show zr (e.gave h g q λw a=>by cases a;show id) d
  have Wc k p:=zf d;show zr (λy=>k ?_) p;rcases y with a|⟨r,w,s,e1,b,f⟩;show .inl a
  rcases zx e1 with⟨rfl,a⟩|⟨A,c⟩;cases a;show f.elim
  show .inr #[0,r,w,s,c,b,f]).2
def QT(g:M z n B m)(k:Kz z m d7)(y:n[l]?=J (J l9))(t:MW l9)(x:Ch)(o:HO)(r:¬Ob o)(h:Gz z (n.set l Al) B d7 x=J o):Gz z n B d7 x=J o:=by have Wc d b:=zf h;show zr ?_ b;rintro(w|⟨i,j,s,a,e,f⟩);show d<|.inl w;by_cases p:l=i;subst p;have Wf q A c:=g.ft a e f;have We C v _ u:=c;rw[y]at a;cases a;rw[k _ _ v (g.tp.nt q)]at b;cases b;show r<|u t;show d<|.inr #[0,i,j,s,by rw[oh p];show a,e,f]
def gZ(B:n[l]?=J (J l9))(o:MW l9)(w:∀F U H,M F n U H->M F (n.set l Al) U H)(h:FA f (n.set l Al) j λd=>wx d=I/\j2 d):FA f n j j2:=λF U H R m k=>
 h F U H R (w F U H m) λd v p y t a r=>by have Wj q xs s c g x:=r;show k d v p y.2 t a #[1,q,xs,s,c,g,x.noL (λl9 e hno z=>?_) y.1];have Wc b A:=zf z;have Wc i u:=zf<|QT m a B o l9 e hno<|zr b.1 A;show zr #[i,b.2] u
def zI5 (i:Nat)(b:n[i]?=J (J (.own T)))(h:DP f (n.set i (J (.dat (.list T)))) j λd=>noL d=I/\Q d):DP f n j Q:=λF U H R m k=>
 h F U H R (m.frz b) λd v c y t a r=>k d v c y.2 t a<|r.noL (QT m a b trivial) y.1
def wC(i:Nat)(a:n[i]?=J (J (.own T)))(h:GX f (n.set i (J (.dat (.list T)))) j l6):GX f n j l6:=λF U H R m k=>h F U H R (m.frz a) k
def bq(i:Nat)(a:n[i]?=J (J (.own T)))(h:FA f (n.set i (J (.dat (.list T)))) j λd=>wx d=I/\j2 d):FA f n j j2:=gZ a trivial (λ_ _ _ m=>m.frz a) h
def QU (p:Uj)(e:It)(f:TL)(G:Hp):Prop:=∀(i:Nat) (b:Hp) (q:Uj),zv G (sub q b)->
 (∀d,f[i]?=J d->e.go i b/\∀x c,e.yld i b x c->zv b c/\((∀a o,c a=J o->b a=D->q a)->AV (sub q c) x d))/\(f.length<=i->e.stop i b)
def LZ (X:Cx)(a e:Dc):TI:=λU H R=>∃t,PI X a e t/\t U H R
def sg:PI f j w (LZ f j w):=λa s U H R c b=>by have Wa t y K:=b;show y a s U H R c K
def HN (X:Cx)(O:Ev)(d e:Dc)(Q:TL->Prop):Prop:=∀(F:Fr) (U:St) (H:Hp) (R:It->Ui),M F O U H->
 (∀b c a,Q b->zF F a->Kz F H a->QU (λx=>¬Ow F O U x) c b (Gz F O U a)->R c a)->LZ X d e U H R
def yo(h:DP f n j λx=>∃b,x=.list b/\j2 b):HN f n gV j j2:=λF U H R m k=>by show#[_,zH9 zh,h F U H _ m λx E p t v q A=>?_];have Wa b rfl a:=t;have Wd w xs rfl e g:=A.lst_inv;show#[w,Y,#[xs,D3.of (zf e).2],k b _ p a v q λi B y s=>#[λd r=>?_,λz=>?_]];have Wa x l u:=g.get r;have o:=D3.of (K:=f.K) (zf<|s _ _ e).2;show#[#[xs,x,o,l],λG C=>Wc λj c=>?_];subst j;have:=c xs o;rw[l]at this;cases this;show#[zv.refl _,λ_=>u.same s];show#[xs,D3.of (zf<|s _ _ e).2,by rw[g.length];show z]
def oG:QU Aj (LR L l) ((zJ L l).map .int) m:=λi g y s=>#[λd b=>by
  rw[GD,Hj]at b;have Wa z a rfl:=b;have e:i<l:=by have:=(Gm.mp a).1;rwa [zB]at this
  rw[xy e]at a;cases a;show#[e,λx h f=>?_];have Wc rfl rfl:=f;show#[zv.refl _,λ_=>.int _],λc=>by
  rw[DZ,zB]at c;show c]
def sL(hg:Gl f "range")(l:f.mg "range"=D)(h:DP f n j λx=>∃a,x=.int a/\-(2 ^ 62)<=a/\a<2 ^ 62/\j2 ((zJ 0 a.toNat).map .int))(b: ~~~(A3 [j] f.env=[(Za,eval j f.env)])):
  HN f n w (.Call (.Name "range" K) [j] [] y) j2:=λF U H R m k=>by show#[_,zb7 hg l (zo zh zI b) b,h F U H _ m λx q c e o d p=>?_];have#[a,rfl,i,g,fC]:=e;cases p.int_inv;show#[a,Y,i,g,k _ _ c fC o d oG]
def nk(hg:Gl f "range")(r:f.mg "range"=D)(h:DP f n j λx=>DP f n w λe=>∃i a,x=.int i/\e=.int a/\(-(2 ^ 62)<=i/\i<2 ^ 62/\-(2 ^ 62)<=a/\a<2 ^ 62)/\j2 ((zJ i (a-i).toNat).map .int))
  (A: ~~~(A3 [j,w] f.env=[(Za,eval j f.env),(Za,eval w f.env)])) (b: ~~~(A3 [w] f.env=[(Za,eval w f.env)])) (c: ~~~Uo j [w] f.env):
  HN f n gV (.Call (.Name "range" K) [j,w] [] y) j2:=λF U H R m k=>by show#[_,zc4 hg r (zo zh (zo zh zI b) c) A b,h F U H _ m λx B g o v d z=>o F U g _ (m.kz d v) λe C l u p t s=>?_];have Wj i a rfl rfl q fC:=u;cases z.int_inv;cases s.int_inv;show#[i,a,Y,q,k _ _ l fC p (d.trans t) oG]
inductive GQ where
 |one (i:Nat)
 |many (is:T4)
 |nest (i:Nat) (is:T4)
def wJ :T4->TL->Ev->Option Ev
 |[],[],O=>J O
 |i::is,d::ds,O=>wJ is ds<|O.set i<|J<|.dat d
 |_,_,_=>D
def GQ.bind :GQ->A2->Ev->Option Ev
 |.one i,d,O=>J<|O.set i<|J<|.dat d
 |.many is,.tuple ds,O=>wJ is ds O
 |.nest i is,.tuple [d,.tuple ds],O=>wJ is ds<|O.set i<|J<|.dat d
 |_,_,_=>D
def MX :T4->Kg
 |[]=>NV
 |i::is=>bh (nc i)<|MX is
def rF (K:Cl):GQ->TG
 |.one i=>nc i
 |.many is=>LQ K is.length<|MX is
 |.nest i is=>LQ K 2<|bh (nc i)<|bh (LQ K is.length<|MX is) NV
def GQ.slots :GQ->T4
 |.one i=>[i]
 |.many is=>is
 |.nest i is=>i::is
def IF (O:Ev)(i:Nat):Bool:=match O[i]? with
 |some none=>I
 |_=>Za
def GQ.free (p:GQ)(O:Ev):Bool:=p.slots.all<|IF O
def M.store {i:Nat}{v:V}{b:A}(u:M z n B m)(t:zF z d7)(k:Kz z m d7)(P:∀x,Fc (J v) b x->m x=D)(N:xO (sub (λx=>¬Ow z n B x/\¬Fc (J v) b x) d7) z d7 (J v) b)(hx:‹J2 b›):M z (n.set i<|J b) (B.set i<|J v) d7:=by
 have L:∀{j:Nat} {c:A} {s:T6},(n.set i<|J b)[j]?=J (J c)->(B.set i<|J v)[j]?=J s->(i=j/\c=b/\s=J v)\/(i≠j/\n[j]?=J (J c)/\B[j]?=J s):=λ{j c s} F p=>by
  rcases zx F with⟨rfl,E⟩|⟨Z,R⟩;cases E;have hl:i<B.length:=by have:=(Gm.mp p).1;rwa [Ht]at this
  rw[J7 hl]at p;cases p;show .inl #[Y,Y,Y];rw[Iw Z]at p;show .inr #[Z,R,p]
 have ow:∀{y:Ch},Ow z (n.set i<|J b) (B.set i<|J v) y->Ow z n B y\/Fc (J v) b y:=λ{y} h=>by
  rcases h with E|⟨j,c,s,F,p,f⟩;show .inl<|.inl E
  rcases L F p with⟨_,rfl,rfl⟩|⟨_,O,g2⟩;show .inr f
  show .inl<|.inr #[0,j,c,s,O,g2,f]
 have O:zv (sub (λx=>¬Ow z n B x/\¬Fc (J v) b x) d7) (Gz z (n.set i<|J b) (B.set i<|J v) d7):=zj λa o h e=>#[λE=>(ow E).elim h.1 h.2,e];have g0:zv (Gz z n B m) (sub (λx=>¬Ow z n B x/\¬Fc (J v) b x) d7):=zj λa o h e=>#[#[h,λE=>by rw[P a E]at e;cases e],k a o e<|u.tp.nt<|GL h];show#[by rw[Ht,Ht];show u.len,λj c s F p=>?_,λj T c d s s' x F p h1 W S Q=>?_,λj r q e T c s x F p f=>?_,t,u.keep.trans k,(u.kz k t).oex];rcases L F p with⟨rfl,rfl,rfl⟩|⟨_,C,G⟩;show N.stay O (λx o f e=>by have Wf H K _:=tF N f;show#[e,H,K]) Y λ_ _ _ l=>l
 show(u.ok j c s C G).stay (g0.trans O) (λx o f e=>by have Wf H K _:=u.ft C G f;show#[k x o e<|u.tp.nt H,H,K]) Y λ_ _ _ l=>l.kz k t;have X:∀{j:Nat} {c:A} {s:T6},n[j]?=J (J c)->B[j]?=J s->Fc s c x->¬Fc (J v) b x:=λ{j c s} C G f g=>by have Ws _ _ o w _:=u.ft C G f;rw[P x g]at w;cases w
 rcases L F h1 with⟨rfl,rfl,rfl⟩|⟨_,C,G⟩;rcases L p W with⟨rfl,_⟩|⟨_,H,K⟩;rfl
 show Ut S<|X H K Q;rcases L p W with⟨rfl,rfl,rfl⟩|⟨_,H,K⟩;show Ut Q<|X C G S
 show u.dj j T c d s s' x C H G K S Q;rcases zx e with⟨rfl,E⟩|⟨_,U⟩;cases E;show hx.elim
 rcases L F p with⟨rfl,rfl,rfl⟩|⟨_,C,G⟩;show(u.lnk U).none<|P x f
 show u.xd j r q U T c s x C G f
theorem M.set(c:M z n B m)(d:AV (Gz z n B m) e9 dc):M z (n.set l (J (.dat dc))) (B.set l (J e9)) m:=
 c.store c.tp Kz.refl (λx b=>b.elim) #[e9,Y,d.same<|zj λa o h e=>#[#[h,λb=>b],e]]
def M.setC(c:M z n B m)(t:zF z d7)(k:Kz z m d7)(i:nV z n B m e9 d7 dc):M z (n.set l (J (.ow dc))) (B.set l (J e9)) d7:=by have Wj p o rfl d f g:=i;have q:=c.fresh d;show c.store t k (λx b=>?_) #[4,p,o,Y,f,g.same (zj λa o h e=>#[#[h.1,λb=>h.2<|by cases b;rfl],e]),GL q,c.fresh0 d];have j:=b;cases j;show d
def M.setOwn(a:M z n B m)(t:zF z d7)(k:Kz z m d7)(b:yF z n B m e9 d7 T):M z (n.set l (J (.own T))) (B.set l (J e9)) d7:=a.setC t k b.c
def M.wr{o:HO}(g:M z n B m)(hno:yS o)(C:z.O0 i)(x:∀t b c,z.tp=J (t,b,c)->i≠t/\i≠b/\i≠c)(O:z.H0 i=D)(k:Hh m i)(H:∀(L:Nat) r q,n[L]?=J (J (.exc r q))->r.H0 i=D):M z n B (upd m i o):=by
 have N:zv (Gz z n B m) (Gz z n B<|upd m i o):=zj λa u h e=>#[h,by rw[zg (λd=>h<|.inl<|by rw[d];show C)];show e];show#[g.len,λj c s v A=>?_,g.dj,g.xd,g.tp.upd x k,λy u e p=>?_,λy E=>?_];have:=g.ok j c s v A;cases c with|exc r q=>have l:=this;show#[l.tp,l.o,l.ok.upd (λa b c e=>x a b c<|l.tp▸e) k,λy u e p=>by rw[zg (zk e<|H j r q v)];show l.k y u e p]|_=>show this.stay N (λy u f e=>by have Wf w G _:=g.ft v A f;show#[by rw[zg (λd=>w<|by rw[d];show C)];show e,w,G]) Y λ_ _ d=>by cases d
 rw[zg (zk e O)];show g.keep y u e p;by_cases d:y=i;show#[o,by rw[d];show zi,hno];have Wa u K F:=g.oex y E;show#[u,by rw[zg d];show K,F]
def M.forget(g:M z n B m)(A:p8.length=n.length)(k:∀(i:Nat) a,p8[i]?=J (J a)->n[i]?=J (J a)):M z p8 B m:=by
 have C:∀{y:Ch},Ow z p8 B y->Ow z n B y:=λ{y} h=>by
  rcases h with t|⟨j,c,s,b,p,f⟩;show .inl t
  show .inr #[0,j,c,s,k _ _ b,p,f]
 have w:zv (Gz z n B m) (Gz z p8 B m):=zj λa o h e=>#[λt=>h<|C t,e];show#[A.trans g.len,λj c s b p=>(g.ok j c s (k _ _ b) p).stay w (λx o f e=>#[e,(g.ft (k _ _ b) p f).1,(g.ft (k _ _ b) p f).2.1]) Y λ_ _ _ l=>l,λj u c d s v x b p=>g.dj j u c d s v x (k _ _ b)<|k _ _ p,λj r q e u c s x b=>g.xd j r q (k _ _ e) u c s x<|k _ _ b,g.tp,g.keep,g.oex]
theorem sk {H:Hp}:∀{is:T4}{ds:TL}{O b:Ev}{U:St}{xs:TM}{R:Tr},wJ is ds O=J b->M z O U H->(∀G,zv (Gz z O U H) G->D2 G xs ds)->(∀l,M z b l H->R l H)->MX is xs U H R
 |[],[],O,b,U,xs,R,e,m,av,k=>by cases e;cases av _ (zv.refl _);show#[Y,k U m]
 |i::is,d::ds,O,b,U,xs,R,e,m,av,k=>by
  cases h:av _ (zv.refl _)with
  |@cons x xs _ _ h1 h2=>
   show#[x,xs,Y,?_];have q:zv (Gz z O U H) (Gz z (O.set i<|J<|.dat d) (U.set i<|J x) H):=zj λa o h e=>#[λg=>h (by
    rcases g with g|⟨j,c,s,e1,p,f⟩;show .inl g
    rcases zx e1 with⟨_,g⟩|⟨r,n⟩;cases g;show f.elim
    rw[Iw r]at p;show .inr #[0,j,c,s,n,p,f]),e]
   show sk e (m.set h1) (λG s=>h2.same<|q.trans s) k
 |[],_::_,_,_,_,_,_,e,_,_,_=>by cases e
 |_::_,[],_,_,_,_,_,e,_,_,_=>by cases e
variable {BR:T4}
def GQ.nest_inv(e:(GQ.nest l BR).bind dc n=J p8):∃b a,dc=.tuple [b,.tuple a]/\wJ BR a (n.set l (J (.dat b)))=J p8:=by
 cases dc with
 |tuple xs=>
  cases xs with
  |nil=>cases e
  |cons b r=>
   cases r with
   |nil=>cases e
   |cons c r=>
    cases r with
    |nil=>
     cases c with|tuple a=>show#[_,_,Y,e]|_=>cases e
    |cons _ _=>cases c<;>cases e
 |_=>cases e
def oX :∀{is:T4}{a:TL}{O b:Ev},wJ is a O=J b->a.length=is.length:=by
 intro is;induction is with
 |nil=>intro a O b h;cases a with|nil=>rfl|cons _ _=>cases h
 |cons i is c=>intro a O b h;cases a with|nil=>cases h|cons d a=>rw[G3,G3,c h]
variable {x9:GQ}
def rP{R:Tr}(e:x9.bind dc n=J p8)(v:M z n B m)(p:AV (Gz z n B m) e9 dc)(k:∀d,M z p8 d m->R d m):rF q x9 e9 B m R:=by
 cases x9 with
 |one i=>cases e;show k _<|v.set p
 |many is=>
  cases dc with|tuple A=>have Wd a xs rfl u l:=p.tup_inv;show#[1,a,xs,Y,HM.of (zf u).2,by rw[l.length];show oX e,sk e v (λG s=>l.same s) k]|_=>cases e
 |nest i is=>
  have Wh E A rfl e:=GQ.nest_inv e;have Wd a xs rfl u l:=p.tup_inv;cases l with
  |@cons x0 r _ _ z1 z2=>
   cases z2 with
   |@cons x1 r _ _ z3 z4=>
    cases z4;have H:zv (Gz z n B m) (Gz z (n.set i<|J<|.dat E) (B.set i<|J x0) m):=zj λa o h e=>#[λg=>h (by
     rcases g with g|⟨j,c,s,e1,x,f⟩;show .inl g
     rcases zx e1 with⟨_,g⟩|⟨K,t⟩;cases g;show f.elim
     rw[Iw K]at x;show .inr #[0,j,c,s,t,x,f]),e]
    have Wd b y rfl F w:=(z3.same H).tup_inv;show#[a,_,Y,HM.of (zf u).2,#[Y,_,_,Y,#[_,_,Y,#[1,b,y,Y,HM.of (zf F).2,by rw[w.length];show oX e,sk e (v.set z1) (λG s=>w.same s) λd C=>#[Y,k d C]]]]]
theorem qJ :∀{is:T4}{ds:TL}{O a:Ev},wJ is ds O=J a->a.length=O.length
 |[],[],_,_,e=>by cases e;rfl
 |i::is,d::ds,O,a,e=>by have:=qJ (is:=is) e;rwa [Ht]at this
 |[],_::_,_,_,e=>by cases e
 |_::_,[],_,_,e=>by cases e
theorem uS :∀{is:T4}{ds:TL}{O a:Ev}{j:Nat},wJ is ds O=J a->j∉is->a[j]?=O[j]?
 |[],[],_,_,_,e,_=>by cases e;rfl
 |i::is,d::ds,O,a,j,e,h=>by rw[uS (is:=is) (ds:=ds) e λz=>h<|GH _ z];show Iw λ(z:i=j)=>h<|by rw[<-z];show GN
 |[],_::_,_,_,_,e,_=>by cases e
 |_::_,[],_,_,_,e,_=>by cases e
theorem vA :∀{is:T4}{ds:TL}{O b:Ev}{j:Nat}{a:A},wJ is ds O=J b->b[j]?=J (J a)->(∀d,a≠.dat d)->O[j]?=J (J a)
 |[],[],_,_,_,_,e,h,_=>by cases e;show h
 |i::is,d::ds,O,b,j,a,e,h,hn=>by
  rcases zx (vA (is:=is) (ds:=ds) e h hn)with⟨_,z⟩|⟨_,z⟩;cases z;show Ut Y<|hn d
  show z
 |[],_::_,_,_,_,_,e,_,_=>by cases e
 |_::_,[],_,_,_,_,e,_,_=>by cases e
def GQ.is_ok(e:x9.bind dc n=J p8):∃is a,x9.slots=is/\wJ is a n=J p8:=by
 cases x9 with
 |one i=>cases e;show#[_,[dc],Y,Y]
 |many is=>
  cases dc with|tuple a=>show#[_,a,Y,e]|_=>cases e
 |nest i is=>have Wh b a rfl e:=GQ.nest_inv e;show#[_,b::a,Y,e]
def GQ.back{O:Ev}{c:Ev}{F:Fr}{U:St}{H:Hp}{b:GQ}{d:A2}(e:b.bind d O=J c)(g:b.free O=I)(m:M F c U H):M F O U H:=by have Wh is i rfl e:=GQ.is_ok e;show m.forget (qJ e).symm λj a h=>?_;by_cases f:j∈b.slots;have:=JL.mp g j f;unfold IF at this;rw[h]at this;cases this;rw[uS e f];show h
def Li (X:Cx)(O:Ev)(c:T1)(Q:Um):Prop:=∀(F:Fr) (U:St) (H:Hp) (R:Ts),M F O U H->(∀b a,Q b->zF F a->Kz F H a->R b a)->∃t,vR X c t/\t U H R
def QV (X:Cx)(a:T1):TT:=λU H R=>∃t,vR X a t/\t U H R
def mP:vR f O (QV f O):=λa s U H Q c b=>by have Wa t p q:=b;show p a s U H Q c q
def fw(q:l6 I):Li f n [] l6:=λF U H R m k=>#[_,eZ,k _ H q m.tp Kz.refl]
def pN(h:GX f n j l6):Li f n [j] l6:=λF U H R m k=>#[_,zP9 yK,h F U H R m k]
def L0 :T9->T9
 |some (.dat d)=>J<|.dat d
 |some .tape=>J .tape
 |_=>D
def ym (a:TJ)(O:Ev):Ev:=a.map λo=>o.bind λj=>(O[j]?).bind L0
def wR(h:(ym j6 n)[l]?=J (J l9)):∃j,j6[l]?=J (J j)/\n[j]?=J (J l9)/\((∃d,l9=.dat d)\/l9=.tape):=by
 unfold ym at h;rw[GD,Hj]at h;have Wa o e c:=h;cases o with
 |none=>cases c
 |some j=>
  have a:(n[j]?).bind L0=J l9:=c;cases q:n[j]? with
  |none=>rw[q]at a;cases a
  |some b=>
   rw[q]at a;cases b with
   |none=>cases a
   |some b=>
    cases b with|dat d=>cases a;show#[j,e,q,.inl #[d,Y]]|tape=>cases a;show#[j,e,q,.inr Y]|_=>cases a
def wa(a:j6[l]?=J (J N))(b:B[N]?=J (J e9)):(xl j6 B)[l]?=J (J e9):=by unfold xl;rw[GD,a];change J ((B[N]?).bind id)=_;rw[b];rfl
def yM (g:Ch->C1->Hp->TU->Cx)(a:GQ)(f:T1)(b:Dc)(e:Ev):TL->TL->(TL->Prop)->Prop
 |[],acc,Q=>Q acc
 |d::ds,acc,Q=>∃c,a.bind d e=J c/\∀C j i h,Li (g C j i h) c f λk=>if k=I then ∀C j i h,DP (g C j i h) c b λy=>yM g a f b e ds (acc++[y]) Q else yM g a f b e ds acc Q
def eC (c:Ch->C1->Hp->TU->Cx)(e:Dc):TE:=λU H Q=>∀C d b a,uB (c C d b a) e U H Q
def QW (d:Ch->C1->Hp->TU->Cx)(a:T1):TT:=λU H Q=>∀C e c b,QV (d C e c b) a U H Q
theorem cY(T:x9.free (ym j6 n)=I)(h:HN f n j w λL=>L.length<=1000/\yM (λC G u K=>f.comp S e8 C G u K) x9 O gV (ym j6 n) L [] j2)(F:Fr) (U:St) (H:Hp) (R:VK) (m:M F n U H) (k:∀L v X,j2 L->zF F X->Kz F H X->yF F n U H v X L->R v X):∃b4:Ch->C1->Hp->TU->Cx,b4=(λC G u K=>f.comp S e8 C G u K)/\jf (LZ f j w) j6 (rF f.K x9) (QW b4 O) (eC b4 gV) U H R:=by
 show#[_,Y,h F U H _ m λL c2 H1 bg t1 k1 b5 g l=>?_];have Wc hl q1:=bg;have m1:=m.kz k1 t1;let B:Fr:=#[H1,λx=>Ow F n U x\/x=g,F.tp];let Nd:Uk:=λp=>∀(V:Nat) a,p[V]?=J (J a)->(∃d,a=.dat d)\/a=.tape;have A:Nd (ym j6 n):=λV a z=>by have We _ _ _ b1:=wR z;show b1
 have a5:∀{p:Ev} {τ:St} {x:Ch},Nd p->(Ow B p τ x↔B.O0 x):=λ{p τ x} hh=>#[λz=>z.elim id λbc=>by
  have Wr V a s e1 e2 ay:=bc;rcases hh V a e1 with⟨d,rfl⟩|rfl;show ay.elim
  show ay.elim,.inl]
 have gz:∀{p ax:Ev} {E τ2:St} {H:Hp},Nd p->Nd ax->zv (Gz B p E H) (Gz B ax τ2 H):=λh1 h2=>zj λa o h e=>#[λz=>h<|(a5 h1).mpr<|(a5 h2).mp z,e];have bo:∀{u:Hp},zF F u->zF B u:=λt=>t.to Y λx z=>.inl<|.inl z;have a7:zv H1 (upd H1 g<|.lst []):=zP l;have b6:M B (ym j6 n) (xl j6 U) (upd H1 g<|.lst []):=by
  have g1:zv (Gz F n U H1) (Gz B (ym j6 n) (xl j6 U)<|upd H1 g<|.lst []):=λa o e=>by have Wc z1 z2:=zf e;have na:=zk z2 l;show zr (λz=>((a5 A).mp z).elim z1 na)<|by rw[zg na];show z2
  show#[by unfold ym xl;rw[DZ,DZ],λi a s e1 e2=>?_,λi V a b s t x e1 e2 _ _ ay=>?_,λi r q e=>(by rcases A i _ e with⟨d,ah⟩|ah<;>cases ah),bo<|t1.same a7,λx o e _=>a7 x o e,?_];have We V w1 w2 w3:=wR e1;rcases w3 with⟨d,rfl⟩|rfl;have Wa v g2 g3:=m1.dat V d w2;rw[wa w1 g2]at e2;cases e2;show#[v,Y,g3.same g1]
  have Wl t b c g2 g3:=m1.tvar V w2;rw[wa w1 g3]at e2;cases e2;show#[t,b,c,g2,Y];rcases A i a e1 with⟨d,rfl⟩|rfl;show ay.elim
  show ay.elim;rintro x (z|z);have:∃o,H1 x=J o/\yS o:=m1.owEx z;have Wa o ho hn:=this;show#[o,a7 _ _ ho,hn];show#[_,by rw[z];show zi,zZ]
 show#[λi b1 Z τ u=>b1=L.length-i/\i<=L.length/\∃N:TL,M B (ym j6 n) τ u/\u g=J (.lst Z)/\D2 (Gz B (ym j6 n) τ u) Z N/\N.length<=i/\yM (λC G u K=>f.comp S e8 C G u K) x9 O gV (ym j6 n) (L.drop i) N j2,
  #[L.length,by simp,#[Gj _,[],b6,#[zi,.nil,D4 _,q1]]],?_]
 rintro i b1 Z τ u ⟨rfl,hi,N,m2,ha,av,a6,cw⟩;have sG:zv (Gz F n U H1) (Gz B (ym j6 n) τ u):=λa o e=>by have Wc z1 z2:=zf e;show m2.old a o<|zr (λz=>z.elim z1<|zk z2 l) z2
 have Wc w1 w2:=b5 i u _ sG;by_cases Q:i<L.length;have hd:=Gh Q;rw[(KQ Q)]at cw;have Wa p eb body:=cw;have Wc go yl:=w1 _ hd;have P:Nd p:=λV a z=>by have Wh is c1 _ e:=GQ.is_ok eb;by_cases hn:∀d,a≠.dat d;show A V a<|vA e z hn;simp only[Mq,Mw]at hn;show .inl hn
 show .inr #[go,λa8 a9 X=>∃N:TL,M B (ym j6 n) a9 X/\X g=J (.lst a8)/\D2 (Gz B (ym j6 n) a9 X) a8 N/\N.length<=i+1/\yM (λC G u K=>f.comp S e8 C G u K) x9 O gV (ym j6 n) (L.drop<|i+1) N j2,
  λa8 a9 X b9=>by have#[b3,r1,r2,r3,r4,r5]:=b9;show#[L.length-(i+1),(MJ Q),Y,#[Q,b3,r1,#[r2,r3,r4,r5]]],λx H3 y=>?_]
 have Wc W b7:=yl x H3 y;show rP eb (m2.kz (Kz.of_same W)<|m2.tp.same W) (b7 λa o _ e=>m2.fresh e) λE m4 C G b8 K=>body C G b8 K B E H3 _ m4 λb H5 qb t5 k5=>?_;have m5:=m4.kz k5 t5;have b0:D2 (Gz B (ym j6 n) E H5) Z N:=av.same ((Kz.of_same W).gz m2.tp |>.trans ((gz (τ2:=E) A P).trans<|(k5.gz m4.tp).trans<|gz P A));have a4:NT B g:=#[λt b c e=>by have:=(t1 t b c e).1.free l;show#[this.1,this.2.1],tN t1.tab l];have az:=k5 _ _ (W _ _ ha) a4;cases b with
 |false=>
  have bb:yM (λC G u K=>f.comp S e8 C G u K) x9 O gV (ym j6 n) (L.drop<|i+1) N j2:=by simpa using qb
  show uW #[N,GQ.back eb T m5,#[az,b0,(Gg a6<|GU _ _),bb]]
 |true=>
  show sJ λC G a0 K=>?_;have qe:DP (f.comp S e8 C G a0 K) p gV λy=>yM (λC G u K=>f.comp S e8 C G u K) x9 O gV (ym j6 n) (L.drop<|i+1) (N++[y]) j2:=by have z:=qb;rw[Ur Y]at z;show z C G a0 K
  show qe B E H5 _ m5 λy v H6 qy t6 k6 r6=>?_;have au:=k6 _ _ az a4;have bt:Z.length<=i:=by rw[av.length];show a6
  have a3:B.O0 g:=.inr Y;have ab:∀t b c,B.tp=J (t,b,c)->g≠t/\g≠b/\g≠c:=λt b c e=>(t1 t b c e).1.free l;have m7:=(GQ.back eb T<|m5.kz k6 t6).wr (o:=.lst<|Z++[v]) zZ a3 ab l (xT au) (λi r q z=>by rcases A i _ z with⟨d,ah⟩|ah<;>cases ah);show#[au,yu (),#[N++[y],m7,#[zi,?_,by simp;show a6,qy]]];have b2:zv (Gz B (ym j6 n) E H6) (Gz B (ym j6 n) E<|upd H6 g<|.lst<|Z++[v]):=zj λa o h e=>#[h,by rw[zg (λz=>h<|.inl<|by rw[z];show a3)];show e];show((b0.same<|(gz (τ2:=E) A P).trans<|(k6.gz m5.tp).trans<|gz P A).append<|.cons (r6.same<|gz P A) .nil).same b2
 have e:=(JM hi<|JK Q);subst e;rw[K4]at cw;show .inl #[w2<|D4 _,k N _ u cw (m.tp.re m2.tp Y) (k1.trans m2.keep)<|yF.back m k1 t1 #[1,g,Z,Y,l,ha,av.same<|zj λa o h e=>#[#[λz=>h<|.inl<|.inl z,λz=>h<|.inl<|.inr z],e]]]
def QX{pat:GQ}(l:f.calm=I)(o:yj f.N f.env.scope S j6 e8)(e:pat.free (ym j6 n)=I)
  (hg:∀C c b d,PG (f.comp S e8 C c b d) j (rF f.K pat))
  (h:HN f n j w λi=>i.length<=1000/\yM (λC c b d=>f.comp S e8 C c b d) pat O gV (ym j6 n) i [] j2) (p: ~~~(∀x,Zz w f.env x=pure x)):
  FA f n (.ListComp gV [#[j,w,O,0]] e8 y) j2:=λF U H R m k=>by have Wa q rfl h:=cY e h F U H R m k;show#[_,N6 l o sg hg (λC c b d a s U H j2 g h=>mP a s U H j2 g<|h C c b d) (λC c b d a s U H j2 g h=>zh a s U H j2 g<|h C c b d) p,h]
def nN.then(h:nN z h9 Bg):nN z {h9 with nx:=λa=>D0 f a i7 h9} {Bg with nx:=fb f i7 Bg}:=
 #[λa b c m q=>q z b c Bg m h,h.rt,h.bk,h.ct]
def zu (q:h9.nx n):D0 f n [] h9:=λF U H a m h=>#[_,cD,h.nx _ _ _ m q]
def D0.imp(h:D0 f n i7 Ei)(c:∀n,Ei.nx n->h9.nx n)(g:∀a,Ei.rt a->h9.rt a)(e:∀n,Ei.bk n->h9.bk n)(b:∀n,Ei.ct n->h9.ct n):D0 f n i7 h9:=λF U H d m r=>
 h F U H d m #[λn U H m q=>r.nx n U H m<|c _ q,λa v H m q=>r.rt a v H m<|g _ q,λn U H m q=>r.bk n U H m<|e _ q,λn U H m q=>r.ct n U H m<|b _ q]
def zU (i:Nat)(g:f.N.Nodup)(h:DP f n j λd=>D0 f (n.set i (J (.dat d))) i7 h9)(o: ~~~(f.N[i]?=J p))(k:@&IT f.env.scope p)
  (s: ~~~(Z1 j (J<|.Name p K) y.line f.env=pure Za)) (hf:@&(f.fn p=I\/f.env.scope.names.lookup p=J .local)):D0 f n (.Assign [.Name p K] j y::i7) h9:=λF U H c m r=>by show#[_,zt (vE g o k zh s hf) zC,h F U H _ m λd v a e l b q=>e F _ a c ((m.kz b l).set q) r]
def wA (i:Nat)(k:f.N.Nodup)(h:FA f n j λa=>D0 f (n.set i (J (.own a))) i7 h9)(q: ~~~(f.N[i]?=J p))(l:@&IT f.env.scope p)
  (t: ~~~(Z1 j (J<|.Name p K) y.line f.env=pure Za)) (hf:@&(f.fn p=I\/f.env.scope.names.lookup p=J .local)):D0 f n (.Assign [.Name p K] j y::i7) h9:=λF U H e m r=>by show#[_,zt (vE k q l zh t hf) zC,h F U H _ m λd v b g o c s=>g F _ b e (m.setOwn o c s) r]
def QY (i:Nat){pat:GQ}(z:f.N.Nodup)(B:f.calm=I)(M:yj f.N f.env.scope S j6 e8)(e:pat.free (ym j6 n)=I)
  (hg:∀C c b d,PG (f.comp S e8 C c b d) j (rF f.K pat))
  (h:HN f n j w λg=>g.length<=1000/\yM (λC c b d=>f.comp S e8 C c b d) pat O gV (ym j6 n) g [] λg=>D0 f (n.set i<|J<|.own g) i7 h9)
  (E: ~~~(f.N[i]?=J p)) (A:@&IT f.env.scope p) (u: ~~~(Z1 (.ListComp gV [#[j,w,O,0]] e8 fC) (J<|.Name p K) y.line f.env=pure I))
  (hf:@&(f.fn p=I\/f.env.scope.names.lookup p=J .local)) (G: ~~~(∀p,Zz w f.env p=pure p)):
  D0 f n (.Assign [.Name p K] (.ListComp gV [#[j,w,O,0]] e8 fC) y::i7) h9:=λF U H x m r=>by have Wa N rfl h:=cY e h F U H (λv o=>fb f i7 x (U.set i<|J v) o) m λg v o q t k L=>q F _ o x (m.setOwn t k L) r;show#[_,zt (zC4 B M sg hg (λC c b d a s U H Q l h=>mP a s U H Q l<|h C c b d) (λC c b d a s U H Q l h=>zh a s U H Q l<|h C c b d) z E A u hf G) zC,h]
theorem yh.dat(b:M z n B m)(r:AV (Gz z n B m) e9 dc):yh z e9 m (.dat dc):=
 #[b.tp,b.keep,r.same<|zj λa o h j=>#[GL h,j]]
def xU (h:DP f n j λd=>h9.rt (.dat d)):D0 f n (.Return (J j) y::i7) h9:=λF U H i m r=>by show#[_,zt (vh zh) zC,h F U H _ m λd v g c b a e=>r.rt _ _ _ (yh.dat (m.kz a b) e) c]
def xP (h:FA f n j λc=>h9.rt (.own c)):D0 f n (.Return (J j) y::i7) h9:=λF U H u m r=>by show#[_,zt (vh zh) zC,h F U H _ m λd v t i p g s=>r.rt _ _ _ ?_ i];have Wj l xs k b e q:=s;show#[p,m.keep.trans g,#[0,l,xs,_,k,Y,#[m.fresh0 b,GL<|m.fresh b,e,q.same<|zj λa o h j=>#[#[GL h.1,h.2],j]]]]
def mQ (i:Nat)(d:n[i]?=J (J (.own T)))(q:h9.rt (.own T))(t: ~~~(f.N[i]?=J p))(s:‹GO f.env.scope p›)
  (k:‹Yl p›) (b:‹Ym p›):D0 f n (.Return (J<|.Name p K) y::i7) h9:=λF U H w m r=>by have Wp l xs c e g v u:=m.own i T d;show#[_,zt (vh<|zG t s k b) zC,.ref l,c,r.rt (.own T) _ _ #[m.tp,m.keep,#[0,l,xs,_,Y,Y,#[u,v,e,g.same<|zj λa o h j=>#[#[GL h,λz=>h<|by rw[z];show .inr #[0,i,_,_,d,c,Y]],j]]]] q]
def cz (i:Nat)(g:f.N.Nodup)(h:Od f n j λw=>D0 f (n.set i (J (.ow w))) i7 h9)(o: ~~~(f.N[i]?=J p))(k:@&IT f.env.scope p)
  (s: ~~~(Z1 j (J<|.Name p K) y.line f.env=pure Za)) (hf:@&(f.fn p=I\/f.env.scope.names.lookup p=J .local)):D0 f n (.Assign [.Name p K] j y::i7) h9:=λF U H c m r=>by show#[_,zt (vE g o k zh s hf) zC,h F U H _ m λd v a e l b q=>e F _ a c (m.setC l b q) r]
def yr(h:GX f n j λk=>D0 f n (if k=I then y8 else Cb) {h9 with nx:=λa=>D0 f a i7 h9}):D0 f n (.If j y8 Cb y::i7) h9:=λF U H g m r=>by
 show#[_,zt (NS yK zC zC) zC,h F U H _ m λk b e d c=>?_];cases k with|true=>show sJ (by simpa using e F U b _ (m.kz c d) r.then)|false=>show uW<|by simpa using e F U b _ (m.kz c d) r.then
def zJ8 (i:Nat)(b:n[i]?=J (J (.deep dc Aj)))(h:D0 f (n.set i (J (.dat dc))) i7 h9):D0 f n i7 h9:=λF U H a m r=>h F U H a (m.frzd b) r
def uP (i:Nat)(b:n[i]?=J (J (.own T)))(h:D0 f (n.set i (J (.dat (.list T)))) i7 h9):D0 f n i7 h9:=λF U H a m r=>h F U H a (m.frz b) r
def M.wrC(p:M z n B m)(C:n[l]?=J (J (.ow dc)))(w:B[l]?=J (J (.ref i)))(av:yP (Gz z n B m) j4 y4):M z (n.set l (J (.ow y4))) B (upd m i j4):=by
 have Wp l' o Z X W H h5:=p.owc l dc C;rw[w]at Z;cases Z;have F:∀{d:Nat} {a:A} {s:T6},(n.set l<|J<|.ow y4)[d]?=J (J a)->B[d]?=J s->(l=d/\a=.ow y4/\s=J (.ref i))\/(l≠d/\n[d]?=J (J a)):=λ{d a s} v e=>by
  rcases zx v with⟨rfl,g⟩|⟨G,c⟩;cases g;rw[w]at e;cases e;show .inl #[Y,Y,Y]
  show .inr #[G,c]
 have N:∀{y:Ch},Ow z (n.set l<|J<|.ow y4) B y->Ow z n B y:=λ{y} h=>by
  rcases h with g|⟨d,a,s,v,e,f⟩;show .inl g
  rcases F v e with⟨rfl,rfl,rfl⟩|⟨G,c⟩;show .inr #[0,l,_,_,C,w,f]
  show .inr #[0,d,a,s,c,e,f]
 have ol:Ow z n B i:=.inr #[0,l,_,_,C,w,Y];have gs:zv (Gz z n B m) (Gz z (n.set l<|J<|.ow y4) B<|upd m i j4):=zj λa o h j=>#[λg=>h<|N g,by rw[zg (λg=>h<|by rw[g];show ol)];show j];show#[by rw[Ht];show p.len,λd a s v e=>?_,λd L a b s t x v e R K Q S=>?_,λd r q j L a s x v e f=>?_,p.tp.updO H<|W.plain X,λy o j O=>?_,λy U=>?_];rcases F v e with⟨rfl,rfl,rfl⟩|⟨G,c⟩;show#[4,i,j4,Y,zi,av.same gs,H,h5]
 show(p.ok d a s c e).stay gs (λy u f j=>?_) Y λr q ea k=>#[k.tp,k.o,k.ok.updO (λg=>H<|k.o _ g)<|W.plain X,λy u j O=>?_];have Wf w1 w2 _:=p.ft c e f;show#[?_,w1,w2];rw[zg λg=>G<|p.dj l d _ a _ s i C c w e Y<|by rw[<-g];show f];show j;rw[zg (zk j<|p.xd d r q (by rw[<-ea];show c) l _ _ i C w Y)];show k.k y u j O;rcases F v R with⟨rfl,rfl,rfl⟩|⟨G,c⟩;rcases F e K with⟨rfl,_⟩|⟨P,E⟩;rfl
 show p.dj l L _ b _ t x C E w K Q S;rcases F e K with⟨rfl,rfl,rfl⟩|⟨P,E⟩;show p.dj d l a _ s _ x c C R w Q S
 show p.dj d L a b s t x c E R K Q S;rcases zx j with⟨_,g⟩|⟨_,T⟩;cases g
 rcases F v e with⟨rfl,rfl,rfl⟩|⟨_,c⟩;show p.xd d r q T l _ _ x C w f
 show p.xd d r q T L a s x c e f;rw[zg (zk j h5)];show p.keep y o j O;rw[zg (λg=>H<|by rw[<-g];show U)];show p.oex y U
def M.wrOwn(b:M z n B m)(d:n[l]?=J (J (.own T)))(a:B[l]?=J (J (.ref i)))(c:D2 (Gz z n B m) dU Af):M z (n.set l (J (.own Af))) B (upd m i (.lst dU)):=b.wrC d a<|.lst c
def wY (i:Nat)(u:n[i]?=J (J (.own T)))(h:DP f n j λd=>T.length<1000/\D0 f (n.set i (J (.own (T++[d])))) i7 h9)
  (B: ~~~(f.N[i]?=J p)) (A:‹GO f.env.scope p›) (z:‹Yl p›) (g:‹Ym p›)
  (b: ~~~(Z0 (.Name p K) "append" f.env (eval (.Name p K) f.env)=eval (.Name p K) f.env)) (w: ~~~Uo j [] f.env)
  (e: ~~~(((((Zx k9<|A3 [j] f.env).all λp=>!p.fst)&&(Z4 k9<|Zy [] f.env).all λp=>p.fst.isSome)&&decide (([j].length+([]:T3).length+if([]:T3).isEmpty=I then 0 else 1)<30))=I))
  (a: ~~~((fC.endLine == k9.line)=I)) (k: ~~~(Z1 (.Call (.Attribute (.Name p K) "append" fC) [j] [] k9) D y.line f.env=pure Za)):D0 f n (.Expr (.Call (.Attribute (.Name p K) "append" fC) [j] [] k9) y::i7) h9:=λF U H x m r=>by have Wp l xs t o q E M:=m.own i T u;show#[_,zt (vw (qB JV PySem.F.slot_list_append PySem.F.type_list_append sI (zG B A z g) (zo zh zI w) b e a w) k) zC,#[.ref l,t,.inl #[Y,#[_,D3.of o]],?_]];show h F U H _ m λd v L s C c G=>?_;show#[8,l,xs,v,Y,Y,c _ _ o<|m.tp.nt E,by rw[q.length];show yu<|Hy s.1,?_];show s.2 F U _ x ((m.kz c C).wrOwn u t<|(q.same<|c.gz m.tp).append<|.cons G .nil) r
def ae (i:Nat)(u:n[i]?=J (J (.own T)))(h:DP f n j λd=>∃e,d=.list e/\T.length+e.length<=1000/\D0 f (n.set i (J (.own (T++e)))) i7 h9)
  (L: ~~~(f.N[i]?=J p)) (G:‹GO f.env.scope p›) (E:‹Yl p›) (g:‹Ym p›)
  (c: ~~~(Z0 (.Name p K) "extend" f.env (eval (.Name p K) f.env)=eval (.Name p K) f.env)) (w: ~~~Uo j [] f.env)
  (o: ~~~(((((Zx k9<|A3 [j] f.env).all λp=>!p.fst)&&(Z4 k9<|Zy [] f.env).all λp=>p.fst.isSome)&&decide (([j].length+([]:T3).length+if([]:T3).isEmpty=I then 0 else 1)<30))=I))
  (a: ~~~((fC.endLine == k9.line)=I)) (s: ~~~(Z1 (.Call (.Attribute (.Name p K) "extend" fC) [j] [] k9) D y.line f.env=pure Za)):D0 f n (.Expr (.Call (.Attribute (.Name p K) "extend" fC) [j] [] k9) y::i7) h9:=λF U H O m r=>by have Wp l xs A x t N V:=m.own i T u;show#[_,zt (vw (qB JV PySem.F.slot_list_extend PySem.F.type_list_extend aM (zG L G E g) (zo zh zI w) c o a w) s) zC,#[.ref l,A,.inl #[Y,#[_,D3.of x]],?_]];show h F U H _ m λd v S P M k R=>?_;have We e rfl Q q:=P;have Wd b B rfl C z:=R.lst_inv;show#[2,l,b,xs,B,Y,Y,k _ _ x<|m.tp.nt N,#[(zf C).2,by rw[t.length,z.length];show Hy<|yu Q,?_]];show q F U _ O ((m.kz k M).wrOwn u A<|(t.same<|k.gz m.tp).append z) r
def z27 (i:Nat)(u:n[i]?=J (J (.own T)))(h:DP f n j λd=>DP f n w λs=>∃k a,s=.int k/\Ju T.length k=J a/\D0 f (n.set i (J (.own (T.set a d)))) i7 h9)
  (X: ~~~(f.N[i]?=J p)) (W:‹GO f.env.scope p›) (V:‹Yl p›) (C:‹Ym p›)
  (E: ~~~(swapsWithSole [.Subscript (.Name p K) w fC] j y.line f.env=pure Za)) (hw: ~~~(swappedStores [.Subscript (.Name p K) w fC] j f.env=pure D))
  (P: ~~~((ZJ [.Subscript (.Name p K) w fC] f.env).map (·.2)=[assign (.Subscript (.Name p K) w fC) f.env])) (g:PG f (.Subscript (.Name p K) w fC) (Qd (NR i) (uB f w) Qv):=by show iB (zG Y (by first|show Zc Y|show Zd (Zc Y)|show Zd<|Zd Y)) zh HA):
  D0 f n (.Assign [.Subscript (.Name p K) w fC] j y::i7) h9:=λF U H M m r=>by have Wp l xs x L o t h5:=m.own i T u;show#[_,zt (gf zh g E hw P) zC,h F U H _ m λd v G N B e R=>?_];have c:=m.kz e B;show#[.ref l,x,N F U G _ c λs Z S O z b A=>?_];have Wd k a rfl Q q:=O;cases A.int_inv;show#[7,l,xs,k,a,Y,Y,b _ _ (e _ _ L<|m.tp.nt t)<|m.tp.nt t,by rw[o.length];show Q,?_];show q F U _ M ((c.kz b z).wrOwn u x<|((o.same<|e.gz m.tp).same<|b.gz c.tp).set (R.same<|b.gz c.tp) a) r
def rh (X:Cx)(b:GQ)(body a:List Da)(E:zT):TL->Uk
 |[],n=>D0 X n a E
 |d::ds,n=>∃c,b.bind d n=J c/\D0 X c body {nx:=rh X b body a E ds,ct:=rh X b body a E ds,bk:=λe=>D0 X e a E,rt:=E.rt}
def lC {pat:GQ}(hp:PassesOwn (C4 f.prog f.w) f.A f.env f.xe)(W:f.calm=I)(hg:PG f w (rF f.K pat))(h:HN f n w gV λd=>rh f pat y8 i7 h9 d n)
  (hs: ~~~(∀x,Zz gV f.env x=pure x)):D0 f n (.For w gV y8 [] y::i7) h9:=λF U H E m r=>by show#[_,zt (zZ6 hp W sg hg zC hs) zC,h F U H _ m λd a3 C q1 Z k1 G=>?_];have P:=m.kz k1 Z;have B:nN (F.up<|Gz F n U C) h9 E:=r.up;show#[λi N k z=>N=d.length-i/\i<=d.length/\∃b,M (F.up<|Gz F n U C) b k z/\rh f pat y8 i7 h9 (d.drop i) b,#[d.length,by simp,#[Gj _,n,P.up,q1]],?_];rintro i N k z ⟨rfl,hi,b,t,v⟩;have Wc w1 V:=G i z _<|P.upold t;by_cases c:i<d.length;have R:=Gh c;rw[KQ c]at v;have Wa a0 eb y8:=v;have Wc Q T:=w1 _ R;show .inr #[Q,λg p=>∃b,M (F.up<|Gz F n U C) b g p/\rh f pat _ i7 h9 (d.drop<|i+1) b,λg p #[s,r1,X]=>#[d.length-(i+1),(MJ c),Y,#[c,s,r1,X]],λx O S=>?_];have Wc l K:=T x O S;show rP eb (t.kz (Kz.of_same l)<|t.tp.same l) (K λa o _ j=>t.fresh j) λL m4=>y8 _ L O _ m4 #[λe σ2 A u q=>#[e,u,q],B.rt,λe σ2 A u q=>q _ σ2 A E u B,λe σ2 A u q=>#[e,u,q]];have j:=(JM hi<|JK c);subst j;rw[K4]at v;show .inl #[V<|D4 _,v _ k z E t B]
def zW(P:Nat->Uk)(p:P 0 n)(q:∀i d n,T[i]?=J d->P i n->∃c,x9.bind d n=J c/\D0 f c y8 {nx:=P<|i+1,ct:=P<|i+1,bk:=λk=>D0 f k i7 h9,rt:=h9.rt})(o:∀n,P T.length n->D0 f n i7 h9):rh f x9 y8 i7 h9 T n:=by
 have h:∀g i n,g=T.length-i->i<=T.length->P i n->rh f x9 y8 i7 h9 (T.drop i) n:=by
  intro g;induction g with|zero=>intro i n e l y;have j:=(OZ e l);subst j;rw[K4];show o n y|succ g m=>intro i n e l y;have a:=(O1 e);rw[KQ a];have Wa c j b:=q i T[i] n (Gh a) y;show#[c,j,b.imp (λn y=>m (i+1) n (MK e) a y) (λ_ z=>z) (λ_ z=>z) λn y=>m (i+1) n (MK e) a y]
 show h _ 0 n Y (Gj _) p
theorem M.start{N:TR}(e:z.H0=m)(t:zF z m)(o:∀x,z.O0 x->∃u,m x=J u/\yS u)(B:zQ z (sub (λx=>¬z.O0 x) m) dU p9):M z (p9.map J++Zb (N.length-p9.length) D) (L2.start N dU) m:=by
 have g:∀{i:Nat} {a:A},(p9.map J++Zb (N.length-p9.length) D)[i]?=J (J a)->p9[i]?=J a:=λ{i a} h=>by
  rcases HX i p9.length with k|k;rw[Iv (by rw[DZ];show k),GD,Hj]at h;have Wa b w l:=h;cases l;show w
  rw[HZ (by rw[DZ];show k),J6]at h;split at h<;>cases h
 have p:∀{dU:TM} {p9:TV} {i:Nat} {a:A},zQ z (sub (λx=>¬z.O0 x) m) dU p9->p9[i]?=J a->∃v,dU[i]?=J v/\lX z (sub (λx=>¬z.O0 x) m) v a:=by
  intro dU p9 i a h;induction h generalizing i with
  |nil=>intro e;simp at e
  |cons h r K=>
   intro e;cases i with|zero=>simp at e;subst e;show#[_,Y,h]|succ i=>have Wa v w l:=K (by simpa using e);show#[v,by simpa using w,l]
 have H:∀{i:Nat} {v:V},dU[i]?=J v->(L2.start N dU)[i]?=J (J v):=λ{i v} h=>by unfold L2.start;rw[Iv (by rw[DZ];show((Gm.mp h).1)),GD,h];rfl
 have y:∀(i:Nat) a,(p9.map J++Zb (N.length-p9.length) D)[i]?=J (J a)->(∃d,a=.dat d)\/a=.tape:=λi a k=>by
  have Wa v _ h:=p B<|g k;cases a with|dat d=>show .inl #[d,Y]|tape=>show .inr Y|_=>show h.elim
 have O:zv (sub (λx=>¬z.O0 x) m) (Gz z (p9.map J++Zb (N.length-p9.length) D) (L2.start N dU) m):=zj λa o h e=>#[λk=>k.elim h λC=>by
  have Wr i b E n _ f:=C;rcases y i b n with⟨d,rfl⟩|rfl;show f.elim
  show f.elim,e]
 show#[by unfold L2.start;simp[B.length],λi a E n F=>?_,λi j a b E t x n _ _ _ f=>?_,λi r q k=>(by rcases y i _ k with⟨d,s⟩|s<;>cases s),t,λx P h _=>by rw[<-e];show h,o];have Wa v w l:=p B<|g n;rw[H w]at F;cases F;rcases y i a n with⟨d,rfl⟩|rfl;show#[v,Y,AV.same O l]
 have Wl L b c G rfl:=l;show#[L,b,c,G,Y];rcases y i a n with⟨d,rfl⟩|rfl;show f.elim
 show f.elim
def QZ(G:Gi q p H g8 i e7)(R:zq S m9 (zb g8))(k:∀c Q,k7 c Q->c.length=m9.length)(f:∀(d:Bs) (n:Db) (b:TZ) (u:C1) (j:Hp) (w:XK) (c:TV) (Q:Ug),zH l (n.deeper (Yb H (zb g8) u.heap.objs.size i d))->k7 c Q-> D0 (yQ GA E s q C v S H (zb g8) i d n b u j w).nox (c.map J++Zb (S.length-c.length) D) (zA g8) {nx:=λ_=>Q<|.dat .none,rt:=Q}):zX E s q C v GA (l+1) i e7 m9 (KI k7):=by show G.ok R (λN j Q w h=>?_) λd n b u j N V w T h=>?_;have Wu F c L _ _ _ x g _:=h;rw[x.length,k c _ g];have Wu F c L e t o x g B:=h;show f d n b u j w c L T g F _ j _ (M.start e t o x) #[λO U K m y=>B _ _ _ y #[m.tp,m.keep,.non],λa P K r y=>B a P K y r,λ_ _ _ _ z=>z.elim,λ_ _ _ _ z=>z.elim]
def DM.turnL {t':Nat}{ch:TU}(g:DM f cC B m r)(k:∀b o,b∉ch->r.heap.get? b=J o->v.get? b=J o)(hf:∀b∈ch,xH f cC m b):DM f cC B m {r with heap:=v,toks:=t'}:=by
 have d:∀b u,m b=J u->b∉ch:=λb u e z=>by rw[(hf b z).1]at e;cases e
 show g.step (λb i=>?_) (λb o _ _ a e _=>k b o a e) (λb o _ _ a e _=>#[o.slots,k b o a e]) (λ_ _ _ _ n=>n)
  (λb o a e=>#[o,k b o a e]) (λ_ _ e=>e) (λ_ _ _ e=>e) (λb C e=>#[[].toArray,by rw[e];simp]) (λE p=>?_) (λb u e=>?_) g.bare
 have Wt _ j _ x s l:=hf b i;show#[x,j,s,l];have Wl o A h y w:=p;show#[o,A,h,k _ o (λz=>(hf _ z).2.1 Y) y,w];show(g.hok b u e).stay (λc t a q=>k c t ?_ q) (λ_ q=>q) λ_ _ q=>q;rcases a with z|z;rw[z];show d b u e
 show d c _ z
def DM.turnLay {t':Nat}{ch:TU}{o:HO}(j:DM f cC B m r)(k:∀b o,b∉ch->r.heap.get? b=J o->v.get? b=J o)(hf:∀b∈ch,xH f cC m b)(p:r.heap.objs.size<=i)(l:yy f.prog f.w (upd m i o) v i o):DM f cC B (upd m i o) {r with heap:=v,toks:=t'}:=by
 have g:∀b u,m b=J u->b∉ch:=λb u e z=>by rw[(hf b z).1]at e;cases e
 have d:=j.hok.fresh p;have t:∀{b:Ch} {u:Z7},r.heap.get? b=J u->b≠i:=λe=>Gp<|Gf (Gd e) p;show j.step (λb h=>?_) (λb o _ _ a e _=>k b o a e) (λb o _ _ a e _=>#[o.slots,k b o a e]) (λb u _ e n=>by rw[zg (t e)];show n)
  (λb o a e=>#[o,k b o a e]) (λb xs e=>by rw[zg (zk e d)];show e) (λb u xs e=>by rw[zg (zk e d)];show e) (λb K e=>#[[].toArray,by rw[zg (zk e d),e];simp]) (λL y=>?_) (λb u e=>?_) j.bare
 have Wt _ w _ F A x:=hf b h;show#[F,w,A,x];have Wl o H s G E:=y;show#[o,H,s,k _ o (λz=>(hf _ z).2.1 Y) G,E];by_cases h:b=i;subst h;rw[zi]at e;cases e;show l;rw[zg h]at e;show(j.hok b u e).stay (λc C a q=>k c C ?_ q) (λc q=>by rw[zg (zk q d)];show q) λc xs q=>by rw[zg (zk q d)];show q
 rcases a with z|z;rw[z];show g b u e
 show g c _ z
def tW(h:l<N):(l:Ch)≠N:=Gp h
def L1(h:N<l):(l:Ch)≠N:=Jj h
theorem bF (n c d:Nat)(b:c<n)(a:d<n):ZipApart (n+4) (n+2) (n+3) n (n+1) c d where
 TIz:=tW ()
 TOz:=tW ()
 i1z:=tW ()
 i2z:=tW ()
 TITO:=tW ()
 TIi1:=L1 ()
 TIi2:=L1 ()
 TOi1:=L1 ()
 TOi2:=L1 ()
 i12:=tW (Ii _)
 l1z:=tW (Gf b<|GU _ _)
 l1TO:=tW (Gf b<|GU _ _)
 l1i1:=tW (b)
 l1i2:=tW (Gf b<|GU _ _)
 l2z:=tW (Gf a<|GU _ _)
 l2TO:=tW (Gf a<|GU _ _)
 l2i1:=tW (a)
 l2i2:=tW<|Gf a<|GU _ _
def Q0 (K:Cl)(b c:Ch):It:=
 #[λi H=>∃xs a x y,D3 K H b xs/\D3 K H c a/\xs[i]?=J x/\a[i]?=J y,
  λi H v d=>∃T x y,v=.ref T/\H T=D/\d=upd H T (.tup [x,y])/\(∀xs,D3 K H b xs->xs[i]?=J x)/\∀a,D3 K H c a->a[i]?=J y,
  λi H=>∃xs a,D3 K H b xs/\D3 K H c a/\(xs.length<=i\/a.length<=i)]
def Q1 (K:Cl)(l:Ch):It:=
 #[λi H=>∃xs x,D3 K H l xs/\xs[i]?=J x,
  λi H v a=>∃T x,v=.ref T/\H T=D/\a=upd H T (.tup [.int i,x])/\∀xs,D3 K H l xs->xs[i]?=J x,
  λi H=>∃xs,D3 K H l xs/\xs.length<=i]
def zg1(g:ZipApart i x R oa Aw Bo Bz):
  HL E s q (.Tuple O l y) (Q0 q Bo Bz) [i,x,R,oa,Aw] i (λw h=>IsZip h i x R .none/\IsPair h x (.ref oa) (.ref Aw)/\(∃a b,IsPair h R a b)/\h.IsListIter oa Bo w/\h.IsListIter Aw Bz w) where
 mem:=by simp
 obj:=λw h m b d=>by
  have Wn r n a9 W au:=m;have#[a,c,t]:=a9;have#[o1,e1,_,d1]:=W;have#[o2,e2,_,d2]:=au;simp only[D7,Gv,Gw]at d;rcases d with rfl|rfl|rfl|rfl|rfl;show#[_,r,λv i=>by cases(i)]
  show#[_,n,λv i=>by cases(i)];show#[_,t,λv i=>by cases(i)];show#[o1,e1,λv i=>by rw[d1]at i;cases i];show#[o2,e2,λv i=>by rw[d2]at i;cases i]
 keep:=λw h h' m k=>by have Wn r n a0 F K:=m;have#[a,c,t]:=a0;show#[k i () _ r,k x () _ n,#[a,c,k R () _ t],F.at λo e=>k oa () o e,K.at λo e=>k Aw () o e]
 item:=by
  intro X Z hw P hc w M G U H b0 f hf m hg;subst Z hw P;have#[xs,ys,ay,az,p,j,hx,hy]:=hg;have We L B V ab:=f.list p;have We N z S a7:=f.list j;have Wa u hu ru:=B.get hx;have Wa v hv rv:=z.get hy;have Wn r n ah F K:=m;have#[a,c,t]:=ah;show wpAny_pyNext_zip_item g r n t F K V.isList S.isList (by simpa using hu) (by simpa using hv) λh' a1 a2 a3 a4 a5 a6 hk=>#[_,Y,wpAny_letOwnedTupleGo_zip a1 λT b1 C=>?_];have a8:∀b o,b∉[i,x,R,oa,Aw]->G.heap.get? b=J o->T.get? b=J o:=λb o d e=>by simp only[D7,Gv,Gw,not_or]at d;show C.extBut _ _ d.1<|hk b o d.1 d.2.2.1 d.2.2.2.1 d.2.2.2.2 e
  have gT:=C.extBut _ _ (Jj<|Gd r) a5;have b3:=f.turnLay (t':=G.toks) (o:=.tup [ay,az]) a8 hf (D4 _) #[by change 2<=Zw;decide,[u,v],.cons ru<|.cons rv .nil,#[_,gT,Y,#[(0),Y]]];show#[4,.ref G.heap.objs.size,_,b3,Y,#[8,_,ay,az,Y,f.hok.fresh<|D4 _,Y,λzs hz=>by rw[f.list_inj hz p];show hx,λzs hz=>by rw[f.list_inj hz j];show hy],#[b1,C.extBut _ _ g.TIz<|hk _ _ g.TIz g.TITO g.TIi1 g.TIi2 n,#[u,v,C.extBut _ _ g.TOz a2],a3.extBut C.extBut g.i1z,a4.extBut C.extBut g.i2z],λb d=>?_];rw[zg];show(hf b d).1;have Wa o e _:=(show ∃o,G.heap.get? b=J o/\True from by
   simp only[D7,Gv,Gw]at d;have Wa o1 e1 _:=F;have Wa o2 e2 _:=K;rcases d with rfl|rfl|rfl|rfl|rfl;show#[_,r,trivial]
   show#[_,n,trivial];show#[_,t,trivial];show#[_,e1,trivial];show#[_,e2,trivial])
  show Gp (Gd e)
 done:=by intro X Z hw P hc w M G U H b0 f hf m hg;subst Z hw P;have Wd xs ys p j hl:=hg;have We L B V ab:=f.list p;have We N z S a7:=f.list j;have Wn r n ax F K:=m;have#[a,c,t]:=ax;show wpAny_pyNext_zip_end (f.ok.hd hc) g r n t F K V.isList S.isList (hl.imp (λi=>by simp;show Gg (Gu B.length.symm) i) λi=>by simp;show Gg (Gu z.length.symm) i) λh' hk=>#[Y,?_];show f.turnL (λb o d e=>by simp only[D7,Gv,Gw,not_or]at d;show hk b o d.1 d.2.2.1 d.2.2.2.1 d.2.2.2.2 e) hf
 self:=λA w G Q b0 m h=>wpAny_pyIter_zip m.1 h
def bI(F:i≠x):
  HL E s q (.Tuple O l y) (Q1 q R) [i,x] i (λe h=>(∃a,IsEnum h i x e a)/\h.IsListIter x R e) where
 mem:=by simp
 obj:=λe h f b c=>by
  have Wc L V:=f;have#[a,d]:=L;have#[o1,T,_,d1]:=V;simp only[D7,Gv,Gw]at c;rcases c with rfl|rfl;show#[_,d,λv z=>by cases(z)]
  show#[o1,T,λv z=>by rw[d1]at z;cases z]
 keep:=λe h h' f k=>by have Wc N m:=f;have#[a,d]:=N;show#[#[a,k i () _ d],m.at λo r=>k x () o r]
 item:=by
  intro X W hw K hc e G n U H a4 j hf f hg;subst W hw K;have Wh xs a7 g hx:=hg;have We B p P S:=j.list g;have Wa u hu ru:=p.get hx;have Wc C m:=f;have#[a,d]:=C;show wpAny_pyNext_enum_item d m P.isList (by simpa using hu) F λh' a1 a3 a5 a6 hk=>#[_,Y,wpAny_letOwnedTupleGo_enum a1 λM b1 Z=>?_];have a0:∀b o,b∉[i,x]->n.heap.get? b=J o->M.get? b=J o:=λb o c r=>by simp only[D7,Gv,Gw,not_or]at c;show Z.extBut _ _ c.1<|hk b o c.1 c.2 r
  have gT:=Z.extBut _ _ (Jj<|Gd d) a5;have a8:=j.turnLay (t':=n.toks+1) (o:=.tup [.int e,a7]) a0 hf (D4 _) #[by change 2<=Zw;decide,[.int e n.toks,u],.cons #[_,Y]<|.cons ru .nil,#[_,gT,Y,#[(0),Y]]];show#[4,.ref n.heap.objs.size,_,a8,Y,#[1,_,a7,Y,j.hok.fresh<|D4 _,Y,λzs hz=>by rw[j.list_inj hz g];show hx],#[#[u,by simpa using b1],a3.extBut Z.extBut F.symm],λb c=>?_];rw[zg];show(hf b c).1;have Wa o r _:=(show ∃o,n.heap.get? b=J o/\True from by
   simp only[D7,Gv,Gw]at c;have Wa o1 T _:=m;rcases c with rfl|rfl;show#[_,d,trivial]
   show#[_,T,trivial])
  show Gp (Gd r)
 done:=by intro X W hw K hc e G n U H a4 j hf f hg;subst W hw K;have Wa xs g hl:=hg;have We B p P S:=j.list g;have Wc w m:=f;have#[a,d]:=w;show wpAny_pyNext_enum_end (j.ok.hd hc) d m P.isList (by simp;show Gg (Gu p.length.symm) hl) λh' hk=>#[Y,?_];show j.turnL (λb o c r=>by simp only[D7,Gv,Gw,not_or]at c;show hk b o c.2 r) hf
 self:=λA e n Q a4 f h=>by have Wc t m:=f;have#[a,d]:=t;show wpAny_pyIter_enum d h
def yp0 (K:Cl)(f:TA):TI:=λU H R=>f U H λe a=>∃b c,e=[.ref b,.ref c]/\(∃xs,D3 K a b xs)/\(∃d,D3 K a c d)/\R (Q0 K b c) a
variable {k8:TA}
theorem z82(hg:Gl f "zip")(hm:f.mg "zip"=D)(ha:PA f [j,w] k8)(Q: ~~~(A3 [j,w] f.env=[(Za,eval j f.env),(Za,eval w f.env)]))(a: ~~~(A3 [w] f.env=[(Za,eval w f.env)])):
  PI f (.Tuple O l y) (.Call (.Name "zip" K) [j,w] [] fC) (yp0 f.K k8):=by
 intro d s U H R t h;show Call_ (xw t hg hm boot_zip<|JA (D1 (ha fC d s U H _ t h) λus g #[vs,S,b,r1,V]=>?_) (by rw[Q,a])<|by rw[a];rfl);have#[M,N,e,#[xs,m],#[ys,i],q]:=V;subst e;have Wd u v rfl P G:=DS.two r1;cases(P);cases(G);have We A Z C T:=b.list m;have We F X x a0:=b.list i;show call_zip_2 C.isList x.isList λh' B z2 z3 L W z6 hk=>wpAny_pyIter_zip B ?_;have k:M<g.heap.objs.size:=by have Wa o e _:=C.isList;show Gd e
 have p:N<g.heap.objs.size:=by have Wa o e _:=x.isList;show Gd e
 show#[_,_,_,#[5,_,S,Y,b.kept λw o e=>hk w o e,zg1<|bF _ _ _ k p,#[B,z2,#[_,_,z3],L,W],λw E=>?_,q]];simp only[D7,Gv,Gw]at E;have c:g.heap.objs.size<=w:=by
  have r:∀n w:Nat,n=g.heap.objs.size->(w=n+4\/w=n+2\/w=n+3\/w=n\/w=n+1)->n<=w:=λn w _ h=>by lia
  show r _ _ Y (by rcases E with z|z|z|z|z<;>simp[z])
 show b.fpOk c<|b.hok.fresh c
def yi1 (K:Cl)(c:TA):TI:=λU H R=>c U H λb a=>∃l,b=[.ref l]/\(∃xs,D3 K a l xs)/\R (Q1 K l) a
theorem zM2(hg:Gl f "enumerate")(L:f.mg "enumerate"=D)(M:PA f [j] k8)(B: ~~~(A3 [j] f.env=[(Za,eval j f.env)])):
  PI f (.Tuple O l y) (.Call (.Name "enumerate" K) [j] [] fC) (yi1 f.K k8):=by
 intro c s U H R m h;show Call_<|xw m hg L boot_enumerate<|JA (D1 (M fC c s U H _ m h) λT v g=>?_) B Y;have Wd P C d N F:=g;have We S e a q:=F;have#[xs,i]:=a;subst e;have Wa u rfl A:=DS.one N;cases(A);have We p G z E:=d.list i;show call_enumerate_list z.isList λQ r x V hk=>wpAny_pyIter_enum r ?_;show#[_,_,_,#[5,_,C,Y,d.kept λw o e=>hk w o e,bI<|L1<|Ii _,#[#[_,r],x],λw t=>?_,q]];simp only[D7,Gv,Gw]at t;have b:v.heap.objs.size<=w:=by
  have k:∀n w:Nat,n=v.heap.objs.size->(w=n+1\/w=n)->n<=w:=λn w _ h=>by lia
  show k _ _ Y t
 show d.fpOk b<|d.hok.fresh b
def L3 (a b:TL):TL:=List.zipWith (λd e=>.tuple [d,e]) a b
theorem z81{a:Pos}(hg:Gl f "zip")(hm:f.mg "zip"=D)(h:DP f n j λx=>DP f n w λg=>∃z A,x=.list z/\g=.list A/\j2 (L3 z A))
  (hs: ~~~(A3 [j,w] f.env=[(Za,eval j f.env),(Za,eval w f.env)])) (c: ~~~(A3 [w] f.env=[(Za,eval w f.env)])) (N: ~~~Uo j [w] f.env):
  HN f n (.Tuple O l y) (.Call (.Name "zip" a) [j,w] [] fC) j2:=λF U H R m k=>by
 show#[_,z82 hg hm (zo zh (zo zh zI c) N) hs c,h F U H _ m λx vx H1 q1 t1 X r1=>?_];have m1:=m.kz X t1;show q1 F U H1 _ m1 λg vy Q q2 t2 W r2=>?_;have Wd z A rfl rfl q:=q2;have Wd l1 xs rfl B g2:=(r1.same<|W.gz m1.tp).lst_inv;have Wd l2 C rfl G Z:=r2.lst_inv;show#[1,l1,l2,Y,#[xs,D3.of (zf B).2],#[C,D3.of (zf G).2],k _ _ Q q t2 (X.trans W) λi H3 a s=>#[λd b=>?_,λhl=>?_]];have s1:=D3.of (K:=f.K) (zf<|s _ _ B).2;have V:=D3.of (K:=f.K) (zf<|s _ _ G).2;unfold L3 at b;rw[List.getElem?_zipWith]at b;cases e1:z[i]? with
 |none=>rw[e1]at b;cases b
 |some d1=>
  cases e2:A[i]? with
  |none=>rw[e1,e2]at b;cases b
  |some d2=>
   rw[e1,e2]at b;cases b;have Wa P p E:=g2.get e1;have Wa S r L:=Z.get e2;show#[#[2,xs,C,P,S,s1,V,p,r],λv H4 g=>?_];have#[T,x,g,rfl,M,rfl,u,t]:=g;have u:=u _ s1;have t:=t _ V;rw[p]at u;cases u;rw[r]at t;cases t;show#[zP M,λfr=>?_];have gs:zv (Gz F n U Q) (sub a<|upd H3 T<|.tup [P,S]):=λj o e=>by have Wc z1 z2:=zf<|s j o e;show zr z1<|by rw[zg (zk z2 M)];show z2
   show .tup (zr (fr T _ zi M) zi)<|.cons (E.same gs)<|.cons (L.same gs) .nil
 show#[xs,C,D3.of (zf<|s _ _ B).2,D3.of (zf<|s _ _ G).2,?_];unfold L3 at hl;rw[List.length_zipWith,<-g2.length,<-Z.length]at hl;lia
def rf (n:Nat):TL->TL
 |[]=>[]
 |d::ds=>.tuple [.int n,d]::rf (n+1) ds
theorem xv :∀{a:TL}{n i:Nat}{d:A2},(rf n a)[i]?=J d->∃e,a[i]?=J e/\d=.tuple [.int ((n+i:Nat):Int),e]
 |[],n,i,d,h=>by simp[rf]at h
 |e::a,n,0,d,h=>by simp[rf]at h;show#[e,Y,by simp[<-h]]
 |e::a,n,i+1,d,h=>by simp only[rf,List.getElem?_cons_succ]at h;have Wa b f c:=xv h;show#[b,by simpa using f,by rw[c,Nat.add_assoc,Nat.add_comm 1 i]]
theorem xR :∀(a:TL) (n:Nat),(rf n a).length=a.length
 |[],_=>rfl
 |_::a,n=>by simp[rf,xR a (n+1)]
def tV{a:Pos}(hg:Gl f "enumerate")(hm:f.mg "enumerate"=D)(h:DP f n j λx=>∃t,x=.list t/\j2 (rf 0 t))(w: ~~~(A3 [j] f.env=[(Za,eval j f.env)])):
  HN f n (.Tuple O l y) (.Call (.Name "enumerate" a) [j] [] fC) j2:=λF U H R m k=>by
 show#[_,zM2 hg hm (zo zh zI w) w,h F U H _ m λx vx z W N V r1=>?_];have Wa t rfl q:=W;have Wd P xs rfl g A:=r1.lst_inv;show#[P,Y,#[xs,D3.of (zf g).2],k _ _ z q N V λi S a s=>#[λd G=>?_,λE=>?_]];have B:=D3.of (K:=f.K) (zf<|s _ _ g).2;have Wa e X rfl:=xv G;have Wa u b p:=A.get X;show#[#[xs,u,B,b],λv H4 L=>?_];have Wj T x rfl r rfl c:=L;have c:=c _ B;rw[b]at c;cases c;show#[zP r,λM=>?_];have Z:zv (Gz F n U z) (sub a<|upd S T<|.tup [.int i,u]):=λj o e=>by have Wc Q C:=zf<|s j o e;show zr Q<|by rw[zg (zk C r)];show C
 show .tup (zr (M T _ zi r) zi)<|.cons ?_<|.cons (p.same Z) .nil;rw[LM];show .int _;show#[xs,D3.of (zf<|s _ _ g).2,?_];rw[xR,<-A.length]at E;show E
structure DY (P:C5)(w:C6)(K:Cl)(mg:Tt)(base:C7)(x:Zv)(k:Nat)(φ:Tj):Prop where
 ex:∃f fd ps,mg x=J (.ref f)/\Zh K (.ref f)=I/\DQ K fd ps []/\zX P w K mg base GA k f fd ps (KI φ)
def wH (C:DY f.prog f.w f.K f.mg f.base p l k7)(g:zH l f.A)(hg:Gl f p)(h:G7 f n (j::O) λk=>k7 k λw=>Q w.d)
  (b:‹Yl p›) (i: ~~~Uo j O f.env) (a: ~~~Uq y O f.env):DP f n (.Call (.Name p K) (j::O) [] y) Q:=by have Wm r o q m c d e:=C.ex;show zJ0 e g hg m c d h b i a
def wK(C:DY f.prog f.w f.K f.mg f.base p l k7)(i:zH l f.A)(hg:Gl f p)(h:G7 f n (j::O) λm=>k7 m λw=>∃c,w=.own c/\j2 c)
  (b:‹Yl p›) (k: ~~~Uo j O f.env) (a: ~~~Uq y O f.env):FA f n (.Call (.Name p K) (j::O) [] y) j2:=by have Wm s q r o d e g:=C.ex;show zL6 g i hg o d e h b k a
def yq3(G:Gi q p H g8 i e7)(g:C p=J (.ref i))(j:DQ q e7 m9 [])(h:zq S m9 (zb g8))(c:∀b Q,k7 b Q->b.length=m9.length)(a:∀(d:Bs) (e:Db) (outer:TZ) (f:C1) (m:Hp) (k:XK) (b:TV) (Q:Ug),zH l (e.deeper (Yb H (zb g8) f.heap.objs.size i d))->k7 b Q-> D0 (yQ GA E s q C v S H (zb g8) i d e outer f m k).nox (b.map J++Zb (S.length-b.length) D) (zA g8) {nx:=λ_=>Q<|.dat .none,rt:=Q}):DY E s q C v p (l+1) k7:=
 #[i,e7,m9,g,G.kp,j,QZ G h c a]
def wc :Tj:=λa Q=>∃n:Int,a=[.tape,.dat (.int n)]/\0<n/\n<big/\∀v,0<=v->v<n->Q (.dat<|.int v)
variable {Ct:Ch->C1->Hp->TU->Cx}
def ni(P:Nat->TL->Prop)(x:P 0 Af)(z:∀i d Af,T[i]?=J d->P i Af->∃a,x9.bind d n=J a/\∀C g f h,Li (Ct C g f h) a O λk=>if k=I then ∀C g f h,DP (Ct C g f h) a j λy=>P (i+1) (Af++[y])else P (i+1) Af)(v:∀Af,P T.length Af->j2 Af):yM Ct x9 O j n T Af j2:=by
 have r:∀o i Af,o=T.length-i->i<=T.length->P i Af->yM Ct x9 O j n (T.drop i) Af j2:=by
  intro o;induction o with
  |zero=>intro i Af l s p;have e:=(OZ l s);subst e;rw[K4];show v Af p
  |succ o t=>
   intro i Af l s p;have c:=(O1 l);rw[KQ c];have Wa a e b:=z i T[i] Af (Gh c) p;show#[a,e,λC g f h F U H R m u=>b C g f h F U H R m λk w q=>u k w ?_];cases k with|true=>rw[Ur Y]at q ⊢;show λC g f h=>(q C g f h).imp λy p=>t (i+1) _ (MK l) c p|false=>rw[Us ()]at q ⊢;show t (i+1) _ (MK l) c q
 show r _ 0 Af Y (Gj _) x
def qp {acc:TL}(p:A2->Bool)(f:A2->A2)(k:∀d∈T,∃a,x9.bind d n=J a/\(∀C c b g (j2:Um),j2 (p d)->Li (Ct C c b g) a O j2)/\(p d=I->∀C c b g (j2:Ue),j2 (f d)->DP (Ct C c b g) a j j2))(h:j2 (acc++(T.filter p).map f)):yM Ct x9 O j n T acc j2:=by
 induction T generalizing acc with
 |nil=>change j2 acc;simpa using h
 |cons d T o=>
  have We a e m l:=k d GN;show#[a,e,λC c b g=>m C c b g _ ?_];have i:=λacc=>o (acc:=acc) λd h=>k d<|GH _ h;cases hp:p d with|true=>rw[Ur Y];show λC c b g=>l hp C c b g _<|i _ ?_;simpa[LB,hp]using h|false=>rw[Us ()];show i _ ?_;simpa[LB,hp]using h
def Q3(c:0<=L)(b:L<T.length):∃d,d∈T/\atI T L=J d:=by have Wb j rfl:=Ni c;have a:=(O2 b);show#[T[j],Jf a,uj<|Gh a]
abbrev zD.at (s:zD)(x:Ch):Prop:=x=s.a\/x=s.lp
noncomputable abbrev zD.un (s:zD)(H:Hp):Hp:=sub (λx=>x≠s.a/\x≠s.lp) H
theorem M.inn{i:Nat} (b:M z n B m)(c:n[i]?=J (J (.inn G))):B[i]?=J (J (.ref G.a))/\xM (Gz z n B m) m G/\∀x,G.at x->¬z.O0 x/\z.H0 x=D:=by have Wb v a:=b.at' c;have Wf rfl e d:=b.ok i _ v c a;show#[a,e,d]
def M.wrI{s':zD} (p:M z n B m)(C:n[l]?=J (J (.inn G)))(X:s'.a=G.a)(el:s'.lp=G.lp)(k:∀x o,m x=J o->NT z x->x≠G.a->x≠G.lp->d7 x=J o)(t:zF z d7)(h:xM (Gz z n B d7) d7 s'):M z (n.set l (J (.inn s'))) B d7:=by
 have Wf E h0 P:=p.inn C;have Q:∀{x v},Fc v (.inn s') x↔Fc v (.inn G) x:=λ{x v}=>by change x=s'.a\/x=s'.lp↔x=G.a\/x=G.lp;rw[X,el]
 have N:∀{j:Nat} {a:A} {v:T6},(n.set l<|J<|.inn s')[j]?=J (J a)->B[j]?=J v->(l=j/\a=.inn s'/\v=J (.ref G.a))\/(l≠j/\n[j]?=J (J a)):=λ{j a v} s i=>by
  rcases zx s with⟨rfl,d⟩|⟨F,g⟩;cases d;rw[E]at i;cases i;show .inl #[Y,Y,Y]
  show .inr #[F,g]
 have O:∀{y:Ch},Ow z (n.set l<|J<|.inn s') B y->Ow z n B y:=λ{y} h=>by
  rcases h with d|⟨j,a,v,s,i,f⟩;show .inl d
  rcases N s i with⟨rfl,rfl,rfl⟩|⟨F,g⟩;show .inr #[0,l,_,_,C,E,Q.mp f]
  show .inr #[0,j,a,v,g,i,f]
 have ol:∀{x},G.at x->Ow z n B x:=λf=>.inr #[0,l,_,_,C,E,f];have a3:zv (Gz z n B d7) (Gz z (n.set l<|J<|.inn s') B d7):=zj λa o h e=>#[λd=>h<|O d,e];have nj:∀{j:Nat} {a:A} {v:T6} {x:Ch},l≠j->n[j]?=J (J a)->B[j]?=J v->Fc v a x->x≠G.a/\x≠G.lp:=λF s i f=>#[λd=>F<|p.dj l _ _ _ _ _ _ C s E i (.inl d) f,λd=>F<|p.dj l _ _ _ _ _ _ C s E i (.inr d) f];show#[by rw[Ht];show p.len,λj a v s i=>?_,λj S a b v t x s i q1 R f1 f2=>?_,λj r q e S a v x s i f=>?_,t,λy o e w=>?_,?_];rcases N s i with⟨rfl,rfl,rfl⟩|⟨F,g⟩;show#[by rw[X],h.same a3 λ_ _ _ e=>e,λx d=>P x<|by rw[X,el]at d;show d]
 show(p.ok j a v g i).stay (zj λa o h e=>#[λd=>h<|O d,k a o e (p.tp.nt<|GL h) (λd=>h<|ol<|.inl d) λd=>h<|ol<|.inr d]) (λy u f e=>?_) Y λr q a0 L=>#[L.tp,L.o,L.ok.re t L.tp.symm,λy u e w=>?_];have Wf w1 w2 _:=p.ft g i f;have Wc W U:=nj F g i f;show#[k y u e (p.tp.nt w1) W U,w1,w2];have xd:=λx f=>p.xd j r q (by rw[<-a0];show g) l _ _ x C E f;show k y u (L.k y u e w) #[λa b c d=>w.1 a b c<|L.tp.trans d,w.2] (λd=>by rw[xd y (.inl d)]at e;cases e) λd=>by rw[xd y (.inr d)]at e;cases e
 rcases N s q1 with⟨rfl,rfl,rfl⟩|⟨F,g⟩;rcases N i R with⟨rfl,_⟩|⟨Z,K⟩;rfl
 show p.dj l S _ b _ t x C K E R (Q.mp f1) f2;rcases N i R with⟨rfl,rfl,rfl⟩|⟨Z,K⟩;show p.dj j l a _ v _ x g C q1 E f1<|Q.mp f2
 show p.dj j S a b v t x g K q1 R f1 f2;rcases zx e with⟨_,d⟩|⟨_,e'⟩;cases d
 rcases N s i with⟨rfl,rfl,rfl⟩|⟨_,g⟩;show p.xd j r q e' l _ _ x C E<|Q.mp f
 show p.xd j r q e' S a v x g i f;show k y o (p.keep y o e w) w (λd=>by rw[d,(P _<|.inl Y).2]at e;cases e) λd=>by rw[d,(P _<|.inr Y).2]at e;cases e
 show M.oex' (H:=G.un m) t (λx o e w=>?_) λx d=>?_;have Wc T e:=zf e;have#[W,U]:=T;show k x o e w W U;have Wa o e w:=p.oex x d;show#[o,zr #[λy=>(P x<|.inl y).1 d,λy=>(P x<|.inr y).1 d] e,w]
theorem yh.res (b:M z n B m)(c:n[l]?=J (J (.inn G)))(r:AV (Gz z n B m) e9 dc):yh z e9 m (.res dc G):=by have Wf d i f:=b.inn c;have g:zv (Gz z n B m) (sub (λx=>¬z.O0 x/\x≠G.a/\x≠G.lp) m):=zj λx o h e=>#[#[GL h,λa=>h<|.inr #[0,l,_,_,c,d,.inl a],λa=>h<|.inr #[0,l,_,_,c,d,.inr a]],e];show#[b.tp,b.keep,r.same g,i.same g λ_ _ _ e=>e,f]
def Ki (φ:Tj):Sp:=λc H d _=>∃(F:Fr) (s:zD) (us:TM) (as:TV) (Q:Ug),c=.ref s.a::us/\F.H0=s.un H/\zF F H/\(∀x,F.O0 x->∃o,H x=J o/\yS o)/\(∀x,s.at x->¬F.O0 x)/\xM (sub (λx=>¬F.O0 x/\x≠s.a/\x≠s.lp) H) H s/\zQ F (sub (λx=>¬F.O0 x/\x≠s.a/\x≠s.lp) H) us as/\φ (.inn s::as) Q/\∀a v b,Q a->yh F v b a->d v b
def M.startI{N:TR}(e:∀x o,z.H0 x=J o->m x=J o)(O:∀x,G.at x->z.H0 x=D)(t:zF z m)(o:∀x,z.O0 x->∃u,m x=J u/\yS u)(Z:∀x,G.at x->¬z.O0 x)(Q:xM (sub (λx=>¬z.O0 x/\x≠G.a/\x≠G.lp) m) m G)(E:zQ z (sub (λx=>¬z.O0 x/\x≠G.a/\x≠G.lp) m) dU p9):M z ((A.inn G::p9).map J++Zb (N.length-(A.inn G::p9).length) D) (L2.start N (.ref G.a::dU)) m:=by
 have g:∀{i:Nat} {a:A},((A.inn G::p9).map J++Zb (N.length-(A.inn G::p9).length) D)[i]?=J (J a)->(A.inn G::p9)[i]?=J a:=λ{i a} h=>by
  rcases HX i (A.inn G::p9).length with k|k;rw[Iv (by rw[DZ];show k),GD,Hj]at h;have Wa b y p:=h;cases p;show y
  rw[HZ (by rw[DZ];show k),J6]at h;split at h<;>cases h
 have w:∀{C:TM} {p9:TV} {i:Nat} {a:A},zQ z (sub (λx=>¬z.O0 x/\x≠G.a/\x≠G.lp) m) C p9->p9[i]?=J a->∃v,C[i]?=J v/\lX z (sub (λx=>¬z.O0 x/\x≠G.a/\x≠G.lp) m) v a:=by
  intro C p9 i a h;induction h generalizing i with
  |nil=>intro e;simp at e
  |cons h r R=>
   intro e;cases i with|zero=>simp at e;subst e;show#[_,Y,h]|succ i=>have Wa v y p:=R (by simpa using e);show#[v,by simpa using y,p]
 have H:∀{i:Nat} {v:V},(V.ref G.a::dU)[i]?=J v->(L2.start N (.ref G.a::dU))[i]?=J (J v):=λ{i v} h=>by unfold L2.start;rw[Iv (by rw[DZ];show((Gm.mp h).1)),GD,h];rfl
 have B:∀{i:Nat} {a:A} {v:T6},((A.inn G::p9).map J++Zb (N.length-(A.inn G::p9).length) D)[i]?=J (J a)->(L2.start N (.ref G.a::dU))[i]?=J v->(i=0/\a=.inn G/\v=J (.ref G.a))\/(∃u,v=J u/\lX z (sub (λx=>¬z.O0 x/\x≠G.a/\x≠G.lp) m) u a):=λ{i a v} n l=>by
  have h:=g n;cases i with|zero=>cases h;rw[H Y]at l;cases l;show .inl #[Y,Y,Y]|succ i=>have Wa u y p:=w E (by simpa using h);rw[H (by simpa using y)]at l;cases l;show .inr #[u,Y,p]
 have F:∀{v u:V} {a:A} {x:Ch},lX z (sub (λx=>¬z.O0 x/\x≠G.a/\x≠G.lp) m) u a->¬Fc (J v) a x:=λ{v u a x} h f=>by cases a<;>first|show f|show h
 have L:zv (sub (λx=>¬z.O0 x/\x≠G.a/\x≠G.lp) m) (Gz z ((A.inn G::p9).map J++Zb (N.length-(A.inn G::p9).length) D) (L2.start N (.ref G.a::dU)) m):=zj λx o h e=>#[λk=>k.elim h.1 λ⟨i,b,v,n,l,f⟩=>by
  rcases B n l with⟨_,rfl,rfl⟩|⟨u,rfl,k⟩;show f.elim h.2.1 h.2.2
  show F k f,e]
 show#[by unfold L2.start;simp[E.length],λi a v n l=>?_,λi j a b v u x n l U X S f2=>?_,λi r q k=>?_,t,λx W h _=>?_,o];rcases B n l with⟨_,rfl,rfl⟩|⟨u,rfl,k⟩;show#[Y,Q.same L λ_ _ _ e=>e,λx K=>#[Z x K,O x K]]
 cases a with|dat d=>show#[u,Y,AV.same L k]|tape=>have Wl T b c P rfl:=k;show#[T,b,c,P,Y]|_=>show k.elim
 rcases B n U with⟨rfl,rfl,rfl⟩|⟨_,rfl,k⟩;rcases B l X with⟨rfl,_⟩|⟨_,rfl,k⟩;rfl
 show(F k f2).elim;show(F k S).elim;intro j a v x n l f;show Ut (g k) (λh=>by
  cases i with
  |zero=>cases h
  |succ i=>have Wa _ _ s:=w E (by simpa using h);show s)
 show e x W h
def IW(G:Gi q p H g8 i e7)(a3:zq S m9 (zb g8))(u:∀d Q,k7 d Q->d.length=m9.length)(f:∀(c:Bs) (x:Db) (b:TZ) (n:C1) (j:Hp) (w:XK) (d:TV) (Q:Ug),zH l (x.deeper (Yb H (zb g8) n.heap.objs.size i c))->k7 d Q-> D0 (yQ GA E s q C v S H (zb g8) i c x b n j w).nox (d.map J++Zb (S.length-d.length) D) (zA g8) {nx:=λO=>∃L,O[0]?=J (J<|.inn L)/\Q (.res .none L),rt:=Q}):zX E s q C v GA (l+1) i e7 m9 (Ki k7):=by
 show G.ok a3 (λvs j Q w h=>?_) λc x b n j vs Qc w hr h=>?_;have Wg F n B:=h;have Wm us d X rfl _ _ N:=B;have Wt _ _ _ y g _:=N;rw[G3,y.length];show u _ _ g;have Wg F n P:=h;have Wm us d X rfl e t K:=P;have Wt o no hi y g V:=K;show f c x b _ j w _ X hr g F _ j _ (M.startI (λp o h=>(zf<|e▸h).2) (λp k=>by
  cases z:F.H0 p with
  |none=>rfl
  |some o=>have Wc T _:=zf<|e▸z;have#[n1,Z]:=T;rcases k with k|k;show Ut k n1;show Ut k Z) t o no hi y) #[λO U W m #[L,h0,R]=>V _ _ _ R<|yh.res m h0 .non,λa a0 W r R=>V a a0 W R r,λ_ _ _ _ z=>z.elim,λ_ _ _ _ z=>z.elim]
def xG (i:Nat)(e:n[i]?=J (J (.inn G)))(h:DP f n j λd=>h9.rt (.res d G)):D0 f n (.Return (J j) y::i7) h9:=λF U H l m r=>by show#[_,zt (vh zh) zC,h F U H _ m λd v k c b a g=>r.rt _ _ _ (yh.res (m.kz a b) e g) c]
noncomputable abbrev Fr.giv (F:Fr)(O:Ev)(U:St)(H:Hp)(s:zD):Fr:=#[s.un H,λx=>Ow F O U x/\x≠s.a/\x≠s.lp,F.tp]
def qZ (f:M z n B m)(c:n[l]?=J (J (.inn G)))(b:Hp):zv (Gz z n B b) (sub (λx=>¬(z.giv n B m G).O0 x/\x≠G.a/\x≠G.lp) b)/\zv (sub (λx=>¬(z.giv n B m G).O0 x/\x≠G.a/\x≠G.lp) b) (Gz z n B b):=by have Wf d i g:=f.inn c;show#[zj λx o h e=>#[#[λa=>h a.1,λa=>h<|.inr #[0,l,_,_,c,d,.inl a],λa=>h<|.inr #[0,l,_,_,c,d,.inr a]],e],zj λx o h e=>#[λa=>h.1 #[a,h.2],e]]
variable {Ab:XK}
def rn(c:M z n B m)(h:n[l]?=J (J (.inn G)))(k:zQ z (Gz z n B m) dU p9)(d:k7 (.inn G::p9) Bx)(j:∀a v i,Bx a->yh (z.giv n B m G) v i a->Ae v i):Ki k7 (.ref G.a::dU) m Ae Ab:=by have Wf p o f:=c.inn h;have Wc g _:=qZ c h m;show#[z.giv n B m G,G,#[3,dU,p9,Bx,Y,Y,c.tp.to Y λx b=>#[.inl b,λy=>(f x<|.inl y).1 b,λy=>(f x<|.inr y).1 b],#[6,λx b=>c.owEx b.1,λx b y=>b.elim y.2.1 y.2.2,o.same g λ_ _ _ e=>e,zQ.to (F:=z) (F':=z.giv n B m G) g Y k,d,j]]]
def yh.backI (d:M z n B m)(i:n[l]?=J (J (.inn G)))(s:Ap.a=G.a)(k:Ap.lp=G.lp)(h:yh (z.giv n B m G) e9 d7 (.res dc Ap)):M z (n.set l (J (.inn Ap))) B d7/\AV (Gz z (n.set l (J (.inn Ap))) B d7) e9 dc:=by
 have Wn t A r b E:=h;rw[s,k]at r b;have Wc _ g:=qZ d i d7;have w:=d.wrI i s k (λx o e C F y=>A x o (zr (p:=λx=>x≠G.a/\x≠G.lp) #[F,y] e) C) (d.tp.re t Y)<|b.same g λ_ _ _ e=>e;show#[w,(r.same g).same<|zj λx o h e=>#[λc=>h ?_,e]];have Wf H _ _:=d.inn i;rcases c with c|⟨j,a,u,e1,v,f⟩;show .inl c
 rcases zx e1 with⟨rfl,c⟩|⟨_,q⟩;cases c;show .inr #[0,_,_,_,i,v,by change x=G.a\/x=G.lp;rw[<-s,<-k];show f]
 show .inr #[0,j,a,u,q,v,f]
def iP (b:Da)(a:Df):execs [b] a=exec b a:=by
 rw[PySem.execs_cons];have:(λf:Flow=>(match f with|.next=>execs [] a|f=>pure f:Sem Flow))=pure:=by funext f;cases f<;>rfl
 show(Uu (λg=>exec b a >>= g) this).trans<|bind_pure _
def ug (P:Uk)(k:D0 f n [g8] {h9 with nx:=P})(i:∀a,P a->D0 f a i7 h9):D0 f n (g8::i7) h9:=λF U H e m r=>by show rY (λb c=>∃a,M F a b c/\P a) ?_ ?_;have Wa t y q:=k F U H {e with nx:=λb c=>∃a,M F a b c/\P a} m #[λa b c g z=>#[a,g,z],r.rt,r.bk,r.ct];show#[t,λd s U H e j h=>(by have:=y d s U H e j h;rw[iP]at this;show this),q];rintro b c ⟨a,g,z⟩;show i a z F b c e g r
def z96[Decidable AL](a:AL->D0 f n i7 h9)(b:¬AL->D0 f n y8 h9):D0 f n (if decide AL=I then i7 else y8) h9:=by by_cases h:AL;rw[Hw h];show a h;rw[Hd h];show b h
def yA(a:j8=I->D0 f n i7 h9)(b:j8=Za->D0 f n y8 h9):D0 f n (if j8=I then i7 else y8) h9:=by
 cases j8 with|true=>show a Y|false=>show b Y
def zG9:IE MQ (.int L) (.int gi) (decide (L=gi)):=λy H c d R b a h=>by cases b.int_inv;cases a.int_inv;show#[Y,?_];rw[show decide (V.int L=V.int gi)=decide (L=gi) by simp];show h
def zE4:IE MS (.int L) (.int gi) (!decide (L=gi)):=λy H c d R b a h=>by cases b.int_inv;cases a.int_inv;show#[Y,?_];rw[show decide (V.int L=V.int gi)=decide (L=gi) by simp];show h
def cR:IE MQ (.str p) (.str H) (decide (p=H)):=λy e c d R b a h=>by cases b.str_inv;cases a.str_inv;show#[Y,?_];rw[show decide (V.str p=V.str H)=decide (p=H) by simp];show h
def z68(i:GK f (Z5 u7) A4)(t:ZB u7 w=Za)(h:DP f n j λx=>DP f n w λc=>∃k,IE A4 x c k/\Q (.bool k)):DP f n (.Compare j [u7] [w] y) Q:=λF U H R m k=>by show#[_,rZ i zh zh t,h F U H _ m λx l g o z a A=>?_];have e:=m.kz a z;show o F U g _ e λc r b v p d u=>?_;have Wa w s q:=v;show s _ b l r _ (A.same<|d.gz e.tp) u<|k _ _ b q p (a.trans d)<|.bl w
def z87(h:DP f n j λx=>DP f n w λc=>∃i a,x=.str i/\c=.str a/\l6 (decide (i=a))):GX f n (.Compare j [.Eq] [w] y) l6:=
 vY Qj (yN _) (h.imp λx h=>h.imp λc b=>by have Wd i a d e q:=b;show#[_,by subst d e;show cR,q])
def zL8(b:∀l6:Um,l6 j8->GX f n j l6)(a:j8=I->∀l6:Um,l6 Ba->Im f n (.BoolOp .And (w::O) y) l6)(k:l6 (j8&&Ba)):Im f n (.BoolOp .And (j::w::O) y) l6:=by
 show QQ<|b _ ?_;cases j8 with|true=>rw[Ur Y];show a Y _ (by simpa using k)|false=>rw[Us ()];simpa using k
def M.park(b:M z n B m)(d:Kz z m d7)(o:zF z d7)(v:m i=D)(k:d7 i=J j4)(G:yS j4):M #[z.H0,λx=>z.O0 x\/x=i,z.tp] n B d7:=by
 have A:=b.kz d o;have C:zv (Gz z n B m) (Gz #[z.H0,λx=>z.O0 x\/x=i,z.tp] n B d7):=λy j4 a=>by have Wc l p:=zf a;show zr ?_<|d _ _ p<|b.tp.nt<|GL l;rintro((c|c)|⟨t,w,s,e,h,f⟩);show l<|.inl c;rw[c,v]at p;cases p;show l<|.inr #[0,t,w,s,e,h,f]
 show#[b.len,λt w s e h=>(b.ok t w s e h).stay C (λx j4 f j=>?_) Y λr q _ y=>?_,b.dj,b.xd,o.to Y λ_ a=>.inl a,λy j4 a E=>A.keep y j4 a E,λy a=>?_];have Wf u F _:=b.ft e h f;show#[d _ _ j<|b.tp.nt u,λc=>c.elim u (λc=>by rw[c,v]at j;cases j),F];have g:=y.kz d o;show#[g.tp,λx a=>.inl<|g.o x a,g.ok,g.k];rcases a with a|a;show A.oex y a
 show#[_,by rw[a];show k,G]
structure GY (mg:Tt):Prop where
 abs:mg "abs"=D
 list:mg "list"=D
 len:mg "len"=D
 range:mg "range"=D
 min:mg "min"=D
 max:mg "max"=D
 sorted:mg "sorted"=D
 isinstance:mg "isinstance"=D
 int:mg "int"=D
 bool:mg "bool"=D
 str:mg "str"=D
 tuple:mg "tuple"=D
 all:mg "all"=D
 any:mg "any"=D
 repr:mg "repr"=D
 zip:mg "zip"=D
 enumerate:mg "enumerate"=D
 reversed:mg "reversed"=D
 sum:mg "sum"=D
variable {Cm:Kg}
def vc(c:f.K=q)(b:f.calm=I)(h:LP f O Cm)
  (d: ~~~((ZJ O f.env).length=N)) (a: ~~~((ZJ O f.env).findIdx? (·.1)=D)):PG f (.Tuple O l y) (LQ q N Cm):=by subst c;show z25 b h d a
end L2
namespace SortA
open PySem PySem.W PyProof.Rows Lake
def run {O:Type}(b:Nat->Nat->Bool):KasT O->O
 |.ret a=>a
 |.ask i j k=>run b<|k<|b i j
theorem run_bind {O β:Type}(a:Nat->Nat->Bool)(f:O->KasT β):∀t:KasT O,run a (t.bind f)=run a (f (run a t))
 |.ret _=>rfl
 |.ask i j k=>run_bind a f<|k<|a i j
structure Ord (lt:Nat->Nat->Bool):Prop where
 irr:∀a,lt a a=Za
 tr:∀a b c,lt b a=Za->lt c b=Za->lt c a=Za
 asy:∀a b,lt a b=I->lt b a=Za
abbrev g (p:Ud)(i:Nat):Nat:=p.getD i 0
def Up (a:Nat->Nat->Bool)(p:Ud)(m:Nat):Prop:=∀i j,i<=j->j<m->a (g p j) (g p i)=Za
def Down (a:Nat->Nat->Bool)(p:Ud)(m:Nat):Prop:=∀i j,i<=j->j<m->a (g p i) (g p j)=Za
variable {l N:Nat}{i8 Cu:Ud}
def L4(h:i8[l]?=Cu[N]?):g i8 l=g Cu N:=by unfold g;rw[yp,yp,h]
variable {h8:Nat->Nat->Bool}
def Up.succ (O:Ord h8)(h:Up h8 i8 l)(d:0<l)(e:h8 (g i8 l) (g i8 (l-1))=Za):Up h8 i8 (l+1):=λi j a k=>by by_cases b:j<l;show h i j a b;have f:=(JM (Ka k)<|JK b);subst f;by_cases c:i=j;subst c;show O.irr _;show O.tr _ _ _ (h i (j-1) (Pj a c)<|qX d) e
def Down.succ (O:Ord h8)(h:Down h8 i8 l)(d:0<l)(e:h8 (g i8 (l-1)) (g i8 l)=Za):Down h8 i8 (l+1):=λi j a k=>by by_cases b:j<l;show h i j a b;have f:=(JM (Ka k)<|JK b);subst f;by_cases c:i=j;subst c;show O.irr _;show O.tr _ _ _ e<|h i (j-1) (Pj a c)<|qX d
def z22 (O:Ord h8)(p:Ud):Up h8 p 1:=λi j a b=>by rw[((Pk b a)),((Pl b))];show O.irr _
theorem iZ (O:Ord h8)(p:Ud):∀(f n:Nat),0<n->Up h8 p n->n<=run h8 (kas_asc p f n)/\run h8 (kas_asc p f n)<=n+f/\Up h8 p (run h8 (kas_asc p f n))/\
  (run h8 (kas_asc p f n)<n+f->h8 (g p<|run h8<|kas_asc p f n) (g p<|run h8 (kas_asc p f n)-1)=I)
 |0,n,_,h=>#[D4 _,D4 _,h,λz=>Ut z<|Ib _]
 |f+1,n,hn,h=>by
  change n<=run h8 ((λc=>if c=I then KasT.ret n else kas_asc p f (n+1))<|h8 (p.getD n 0)<|p.getD (n-1) 0)/\_;cases e:h8 (p.getD n 0) (p.getD (n-1) 0)with
  |true=>
   have i:run h8 (kas_asc p (f+1) n)=n:=by change run h8 ((λc=>if c=I then KasT.ret n else kas_asc p f (n+1))<|h8 (p.getD n 0)<|p.getD (n-1) 0)=n;rw[e];rfl
   rw[i];show#[D4 _,(GU _ _),h,λ_=>e]
  |false=>
   have i:run h8 (kas_asc p (f+1) n)=run h8 (kas_asc p f<|n+1):=by change run h8 ((λc=>if c=I then KasT.ret n else kas_asc p f (n+1))<|h8 (p.getD n 0)<|p.getD (n-1) 0)=_;rw[e];rfl
   rw[i];have Wq a b c d:=iZ O p f (n+1) (Le _)<|h.succ O hn e;show#[by change n<=run h8 (kas_asc p f<|n+1);show Gg (GU _ _) a,(dw b),c,λz=>d<|by lia]
def sR{i:Nat}(a:l<=i8.size)(k:Nat):g (kas_rev i8 i l) k=if i<=k/\k<l then g i8 (i+l-1-k)else g i8 k:=by have h:=getElem?_mirror_all (i:=i) a k;split;rename_i c;rw[Ur c]at h;show L4 h;rename_i c;rw[Us c]at h;show L4 h
def wo (p:Ud)(i j:Nat):(kas_rev p i j).size=p.size:=mirror_size _ _ _ _
def xg (p:Ud)(i j:Nat):(kas_rev p i j).Perm p:=mirror_perm _ _ _ _
def Eqv (c:Nat->Nat->Bool)(a b:Nat):Prop:=c a b=Za/\c b a=Za
def Down.eqv (O:Ord h8)(h:Down h8 i8 l)(e:∀k,k<l->Eqv h8 (g Cu k) (g i8 k)):Down h8 Cu l:=λi j a b=>
 O.tr _ _ _ (O.tr _ _ _ (e j b).2<|h i j a b) (e i<|Ha a b).1
def Last (c:Nat->Nat->Bool)(p:Ud)(n q:Nat):Prop:=∀a b,n<=a+(q+1)->a<n->n<=b+(q+1)->b<n->c (g p a) (g p b)=Za
def rev_last (O:Ord h8)(a:l<=i8.size)(b:N<l)(L:Last h8 i8 l N):∀k,k<l->Eqv h8 (g (kas_rev i8 (l-(N+1)) l) k) (g i8 k):=λk hk=>by rw[sR a];split;rename_i c;show#[L _ _ (Pm hk) (Pn c.2 c.1) (Po c.1) hk,L _ _ (Po c.1) hk (Pm hk)<|Pn c.2 c.1];show#[O.irr _,O.irr _]
theorem rS (O:Ord h8):∀(f:Nat) (p:Ud) (n q:Nat),q<n->n+f<=p.size->Down h8 p n->Last h8 p n q->
  ∃i m j,run h8 (kas_desc f p n q)=(i,m,j)/\n<=m/\m<=n+f/\i.size=p.size/\i.Perm p/\j<m/\Down h8 i m/\Last h8 i m j
 |0,p,n,q,hq,r,h,L=>#[0,p,n,q,Y,D4 _,#[6,D4 _,Y,LG _,hq,h,L]]
 |f+1,p,n,q,hq,r,h,L=>by
  cases e:h8 (p.getD n 0) (p.getD (n-1) 0)with
  |true=>
   by_cases u:q > 0;have k:run h8 (kas_desc (f+1) p n q)=run h8 (kas_desc f (kas_rev p (n-(q+1)) n) (n+1) 0):=by
    change run h8 ((λc=>if c=I then(if q > 0 then kas_desc f (kas_rev p (n-(q+1)) n) (n+1) 0 else kas_desc f p (n+1) 0)
     else .ask (p.getD (n-1) 0) (p.getD n 0) λd=>if d=I then .ret (p,n,q)else kas_desc f p (n+1) (q+1))<|h8 (p.getD n 0)<|p.getD (n-1) 0)=_
    rw[e];change run h8 (if q > 0 then _ else _)=_;rw[Ur u]
   have K:=rev_last O ((Gg (GU _ _) r):n<=p.size) hq L;have o:=h.eqv O K;have M:g (kas_rev p (n-(q+1)) n) n=g p n:=by rw[sR (Gg (GU _ _) r),Us (Pp)]
   have l:=o.succ O (Ha (Gj _) hq) (by rw[M];show O.tr _ _ _ (O.asy _ _ e) (K (n-1)<|qX hq).1);have Wm i m j a b c B:=rS O f (kas_rev p (n-(q+1)) n) (n+1) 0 (Le _) (by rw[wo];show ba r) l (λa b o l s x=>by rw[((nC o l)),((nC s x))];show O.irr _);have Wn w A t z y:=B;show#[0,i,m,j,k.trans a,(Gg (GU _ _) b),#[6,(dw c),by rw[w,wo],A.trans<|xg _ _ _,t,z,y]];have k:run h8 (kas_desc (f+1) p n q)=run h8 (kas_desc f p (n+1) 0):=by
    change run h8 ((λc=>if c=I then(if q > 0 then kas_desc f (kas_rev p (n-(q+1)) n) (n+1) 0 else kas_desc f p (n+1) 0)
     else .ask (p.getD (n-1) 0) (p.getD n 0) λd=>if d=I then .ret (p,n,q)else kas_desc f p (n+1) (q+1))<|h8 (p.getD n 0)<|p.getD (n-1) 0)=_
    rw[e];change run h8 (if q > 0 then _ else _)=_;rw[Us u]
   have Wm i m j a b c E:=rS O f p (n+1) 0 (Le _) (ba r) (h.succ O (Ha (Gj _) hq)<|O.asy _ _ e) (λa b o l s x=>by rw[((nC o l)),((nC s x))];show O.irr _);have Wn w A t z y:=E;show#[0,i,m,j,k.trans a,(Gg (GU _ _) b),#[6,(dw c),w,A,t,z,y]]
  |false=>
   cases e2:h8 (p.getD (n-1) 0) (p.getD n 0)with
   |true=>
    have k:run h8 (kas_desc (f+1) p n q)=(p,n,q):=by
     change run h8 ((λc=>if c=I then(if q > 0 then kas_desc f (kas_rev p (n-(q+1)) n) (n+1) 0 else kas_desc f p (n+1) 0)
      else .ask (p.getD (n-1) 0) (p.getD n 0) λd=>if d=I then .ret (p,n,q)else kas_desc f p (n+1) (q+1))<|h8 (p.getD n 0)<|p.getD (n-1) 0)=_
     rw[e];change run h8 ((λd=>if d=I then KasT.ret (p,n,q)else kas_desc f p (n+1) (q+1))<|h8 (p.getD (n-1) 0)<|p.getD n 0)=_;rw[e2];rfl
    show#[0,p,n,q,k,D4 _,#[6,(GU _ _),Y,LG _,hq,h,L]]
   |false=>
    have k:run h8 (kas_desc (f+1) p n q)=run h8 (kas_desc f p (n+1)<|q+1):=by
     change run h8 ((λc=>if c=I then(if q > 0 then kas_desc f (kas_rev p (n-(q+1)) n) (n+1) 0 else kas_desc f p (n+1) 0)
      else .ask (p.getD (n-1) 0) (p.getD n 0) λd=>if d=I then .ret (p,n,q)else kas_desc f p (n+1) (q+1))<|h8 (p.getD n 0)<|p.getD (n-1) 0)=_
     rw[e];change run h8 ((λd=>if d=I then KasT.ret (p,n,q)else kas_desc f p (n+1) (q+1))<|h8 (p.getD (n-1) 0)<|p.getD n 0)=_;rw[e2];rfl
    have N:Last h8 p (n+1) (q+1):=λa b o l s x=>by
     have v:∀a,n+1<=a+(q+1+1)->a<n+1->Eqv h8 (g p a) (g p<|n-1):=λa G H=>by by_cases C:a=n;rw[C];show#[e,e2];show#[L a (n-1) (Pq G) (O6 H C) (Pt)<|qX hq,L (n-1) a (Pt) (qX hq) (Pq G)<|O6 H C]
     show O.tr _ _ _ (v b s x).2 (v a o l).1
    have Wm i m j a b c F:=rS O f p (n+1) (q+1) (Dh hq _) (ba r) (h.succ O (Ha (Gj _) hq) e2) N;have Wn w A t z y:=F;show#[0,i,m,j,k.trans a,(Gg (GU _ _) b),#[6,(dw c),w,A,t,z,y]]
theorem ya4(c:l<=i8.size)(h:Down h8 i8 l):Up h8 (kas_rev i8 0 l) l:=λi j b a=>by rw[sR c,sR c,Ur (#[(Gj _),a]),Ur (#[(Gj _),(Ha b a)])];show h _ _ ()<|Pu a
theorem kf (O:Ord h8)(f:0<l)(e:l<=N)(g:N<=i8.size)(h:Down h8 i8 l):∃d m,run h8 (kas_tail3 l N i8)=(m,d)/\1<=m/\m<=N/\d.size=i8.size/\d.Perm i8/\Up h8 d m:=by have Wq a b c _:=iZ O (kas_rev i8 0 l) (N-l) l f<|ya4 (Gg e g) h;show#[5,kas_rev i8 0 l,run h8<|kas_asc (kas_rev i8 0 l) (N-l) l,?_,by lia,(NF b e),wo _ _ _,xg _ _ _,c];unfold kas_tail3;rw[run_bind];rfl
theorem rj (O:Ord h8){nrem:Nat}(F:0<l)(q:l+1<=nrem)(t:nrem<=i8.size)(h:Down h8 i8 (l+1)):∃c m,run h8 (kas_descPart l nrem i8)=(m,c)/\1<=m/\m<=nrem/\c.size=i8.size/\c.Perm i8/\Up h8 c m:=by have Wm C E B e A u n:=rS O (nrem-(l+1)) i8 (l+1) 0 (Le _) () h (λa b y v x z=>by rw[((nC y v)),((nC x z))];show O.irr _);have Wn d s o r w:=n;unfold kas_descPart;rw[run_bind,e];dsimp only;split;have#[c,m,k,j,g,i,f,p]:=kf O (Ha (Gj _) o) (NF u q) (by rw[wo];show Gg t<|Gu d.symm) (r.eqv O<|rev_last O () o w);show#[5,c,m,k,j,g,by rw[i,wo,d],(f.trans<|xg _ _ _).trans s,p];have#[c,m,k,j,g,i,f,p]:=kf O (Ha (Gj _) o) (NF u q) (Gg t<|Gu d.symm) r;show#[5,c,m,k,j,g,by rw[i,d],f.trans s,p]
theorem zn2 (O:Ord h8){p:Ud}(t:0<l)(s:l<=p.size):∃q m,run h8 (kas_count l p)=(m,q)/\1<=m/\m<=l/\q.size=p.size/\q.Perm p/\Up h8 q m:=by
 have Wq a b c d:=iZ O p (l-1) 1 ()<|z22 O p;unfold kas_count;rw[run_bind];generalize run h8 (kas_asc p (l-1) 1)=n at a b c d;by_cases u:n=l;rw[Ur (by rw[u];simp)];show#[5,p,n,Y,a,(Gu u),Y,LG _,c];rw[Us (by simpa using u)];have v:=d ();by_cases h:n > 1;rw[Ur h];cases e:h8 (p.getD 0 0) (p.getD (n-1) 0)with
 |true=>show#[5,p,n,?_,a,by lia,Y,LG _,c];change run h8 ((λc=>if c=I then KasT.ret (n,p)else kas_descPart n l (kas_rev p 0 n))<|h8 (p.getD 0 0)<|p.getD (n-1) 0)=_;rw[e];rfl
 |false=>
  have f:∀k,k<n->Eqv h8 (g p k) (g p 0):=λk hk=>#[c 0 k (Gj _) hk,O.tr _ _ _ (c k (n-1) (Pw hk)<|Px h) e];have y:Down h8 (kas_rev p 0 n) (n+1):=by
   have w:Down h8 (kas_rev p 0 n) n:=λi j o r=>by rw[sR (bz t s b),sR (bz t s b),Ur (#[(Gj _),(Ha o r)]),Ur (#[(Gj _),r])];show O.tr _ _ _ (f _<|by lia).2 (f _<|Pu r).1
   show w.succ O (Ha (Gj _) h) ?_;rw[sR (bz t s b),sR (bz t s b),Ur (),Us (Pp)];show O.tr _ _ _ (O.asy _ _ v)<|O.tr _ _ _ (f (n-1)<|Px h).2 (f _<|by lia).1
  have#[q,m,E,C,A,B,x,G]:=rj O (nrem:=l) (Ha (Gj _) h) () (by rw[wo];show s) y;show#[5,q,m,?_,C,A,by rw[B,wo],x.trans<|xg _ _ _,G];rw[<-E];change run h8 ((λc=>if c=I then KasT.ret (n,p)else kas_descPart n l (kas_rev p 0 n))<|h8 (p.getD 0 0)<|p.getD (n-1) 0)=_;rw[e];rfl
 rw[Us h];have z:=(JM (JK h) a);subst z;show rj O () () s ?_;have F:Down h8 p 1:=λi j o r=>by rw[((Pk r o)),((Pl r))];show O.irr _
 show F.succ O ()<|O.asy _ _ v
theorem qW (O:Ord h8){p:Ud}{k:Nat}(U:Up h8 p k):∀(f l r:Nat),r<=l+f->l<=r->r<=k->(∀i,i<l->h8 (g p k) (g p i)=Za)->(∀i,r<=i->i<k->h8 (g p k) (g p i)=I)->
  run h8 (kas_place p k f l r)<=k/\(∀i,i<run h8 (kas_place p k f l r)->h8 (g p k) (g p i)=Za)/\(∀i,run h8 (kas_place p k f l r)<=i->i<k->h8 (g p k) (g p i)=I)
 |0,l,r,m,h,d,ha,hb=>by change l<=k/\_;show#[(Gg h d),ha,λi x y=>hb i (by have:l<=i:=x;lia) y]
 |f+1,l,r,m,h,d,ha,hb=>by
  by_cases a:l≥r;have b:run h8 (kas_place p k (f+1) l r)=l:=by change run h8 (if l≥r then _ else _)=_;rw[Ur a];rfl
  rw[b];show#[(Gg h d),ha,λi x y=>hb i (Gg a x) y];cases e:h8 (p.getD k 0) (p.getD ((l+r) / 2) 0)with
  |true=>
   have b:run h8 (kas_place p k (f+1) l r)=run h8 (kas_place p k f l<|(l+r) / 2):=by change run h8 (if l≥r then _ else _)=_;rw[Us a];change run h8 ((λc=>if c=I then kas_place p k f l ((l+r) / 2)else kas_place p k f ((l+r) / 2+1) r)<|h8 (p.getD k 0)<|p.getD ((l+r) / 2) 0)=_;rw[e];rfl
   rw[b];show qW O U f l ((l+r) / 2) () () () ha λi x y=>?_;cases e3:h8 (g p k) (g p i)with|true=>rfl|false=>have j:=e;rw[(O.tr _ _ _ (U ((l+r) / 2) i x y) e3)]at j;cases j
  |false=>
   have b:run h8 (kas_place p k (f+1) l r)=run h8 (kas_place p k f ((l+r) / 2+1) r):=by change run h8 (if l≥r then _ else _)=_;rw[Us a];change run h8 ((λc=>if c=I then kas_place p k f l ((l+r) / 2)else kas_place p k f ((l+r) / 2+1) r)<|h8 (p.getD k 0)<|p.getD ((l+r) / 2) 0)=_;rw[e];rfl
   rw[b];show qW O U f ((l+r) / 2+1) r () () d (λi n=>O.tr _ _ _ (U i ((l+r) / 2) (Ka n)<|by lia) e) hb
theorem aq (O:Ord h8)(hk:l<i8.size)(q:N<=l)(U:Up h8 i8 l)(p:∀i,i<N->h8 (g i8 l) (g i8 i)=Za)(n:∀i,N<=i->i<l->h8 (g i8 l) (g i8 i)=I):Up h8 (bubble i8 l (l-N)) (l+1):=by
 have f:∀i,g (bubble i8 l<|l-N) i=if i=N then g i8 l else if N<i/\i<=l then g i8 (i-1)else g i8 i:=λi=>by
  have h:=getElem?_bubble hk (l-N) (Nat.sub_le _ _) i;have o:l-(l-N)=N:=by lia
  rw[o]at h;by_cases c:i=N;rw[Ur c]at h ⊢;show L4 h;rw[Us c]at h ⊢;by_cases k:N<i/\i<=l;rw[Ur k]at h ⊢;show L4 h;rw[Us k]at h ⊢;show L4 h
 intro i j a b;have e:g (bubble i8 l<|l-N) N=g i8 l:=by rw[f,Ur Y]
 have d:∀i,N<i->i<=l->g (bubble i8 l<|l-N) i=g i8 (i-1):=λi x y=>by rw[f,Us (Jj x),Ur #[x,y]]
 have m:∀i,i<N->g (bubble i8 l<|l-N) i=g i8 i:=λi x=>by rw[f,Us (Gp x),Us ()]
 rcases y2 i N with hi|hi|hi;rw[m i hi];rcases y2 j N with h|h|h;rw[m j h];show U _ _ (a)<|Gf h q
 rw[h,e];show p i hi;rw[d j h (Ka b)];show U _ _ ()<|Py b h;rw[hi,e];rcases y2 j N with h|h|h;show(Ib _<|Gf h<|Gg (Gu hi.symm) a).elim
 rw[h,e];show O.irr _;rw[d j h (Ka b)];show O.asy _ _<|n (j-1) (Pw h)<|Py b h;rw[d i hi (Ka<|Ha a b),d j (Gf hi a) (Ka b)];show U _ _ ()<|by lia
theorem Q4 (O:Ord h8):∀(f:Nat) (p:Ud) (k:Nat),0<k->k+f<=p.size->Up h8 p k->(run h8 (kas_bin f p k)).size=p.size/\(run h8 (kas_bin f p k)).Perm p/\Up h8 (run h8 (kas_bin f p k)) (k+f)
 |0,p,k,_,_,U=>#[Y,LG _,U]
 |f+1,p,k,hk,hs,U=>by
  have Wf a b c:=qW O U k 0 k (Nat.le_add_left _ _) (Gj _) (D4 _) (λi g=>(Ib _<|Ha (Gj _) g).elim) λi x y=>(Ib _<|Gf y x).elim;have d:run h8 (kas_bin (f+1) p k)=run h8 (kas_bin f (bubble p k<|k-run h8 (kas_place p k k 0 k))<|k+1):=by change run h8 ((kas_place p k k 0 k).bind _)=_;rw[run_bind]
  rw[d];have Wf x y z:=Q4 O f (bubble p k<|k-run h8 (kas_place p k k 0 k)) (k+1) (Le _) (by rw[bubble_size];show ba hs) (aq O () a U b c);have e:k+(f+1)=k+1+f:=yj5;rw[e];show#[by rw[x,bubble_size],y.trans<|bubble_perm _ _ _,z]
theorem zQ1 (O:Ord h8)(h:0<l):(run h8 (kas_sort l)).size=l/\(run h8 (kas_sort l)).Perm (List.range l).toArray/\Up h8 (run h8 (kas_sort l)) l:=by
 have#[p,m,e,a,b,c,d,u]:=zn2 O (p:=(List.range l).toArray) h ();unfold kas_sort;rw[run_bind,e];dsimp only;have g:p.size=l:=by rw[c];simp
 by_cases f:m<l;rw[Ur f];have i:max m 1=m:=by lia
 rw[i];have Wf x y z:=Q4 O (l-m) p m () () u;show#[by rw[x,g],y.trans d,?_];have e:m+(l-m)=l:=by lia
 rw[e]at z;show z;rw[Us f];have e:=(JM b<|JK f);subst e;show#[g,d,u]
end SortA
namespace SortA
open PySem PySem.W PyProof.Rows Lake
def wy {O:Type}(n:Nat)(P:O->Prop):KasT O->Prop
 |.ret a=>P a
 |.ask i j k=>i<n/\j<n/\∀b,wy n P (k b)
theorem wy.bind {O β:Type}{n:Nat}{P:O->Prop}{e:β->Prop}{f:O->KasT β}(d:∀a,P a->wy n e (f a)):∀t:KasT O,wy n P t->wy n e (t.bind f)
 |.ret a,h=>d a h
 |.ask i j k,⟨a,b,c⟩=>#[a,b,λx=>wy.bind d (k x)<|c x]
def Bd (n:Nat)(p:Ud):Prop:=∀x∈p,x<n
variable {l:Nat}{i8 Cu:Ud}
def Bd.get(h:Bd l i8)(b:0<l)(i:Nat):i8.getD i 0<l:=by
 by_cases a:i<i8.size;have e:i8.getD i 0=i8[i]:=by simp[hY,a]
 rw[e];show h _<|Array.getElem_mem a;have e:i8.getD i 0=0:=by simp[hY,a]
 rw[e];show b
def Bd.perm(h:Bd l i8)(e:Cu.Perm i8):Bd l Cu:=λx a=>h x<|e.mem_iff.mp a
theorem qS {n:Nat}{p:Ud}(B:Bd n p)(a:0<n):∀f k,wy n (λ_=>True) (kas_asc p f k)
 |0,_=>trivial
 |f+1,k=>#[B.get a _,B.get a _,λb=>by
  cases b with
  |true=>show trivial
  |false=>show qS B a f<|k+1]
theorem uv {n:Nat}(a:0<n):∀f (p:Ud) k q,Bd n p->wy n (λr:Array Nat×Nat×Nat=>Bd n r.1) (kas_desc f p k q)
 |0,_,_,_,B=>B
 |f+1,p,k,q,B=>#[B.get a _,B.get a _,λb=>by
  cases b with
  |true=>change wy n _<|if q > 0 then _ else _;split;show uv a f _ _ _<|B.perm<|xg _ _ _;show uv a f _ _ _ B
  |false=>
   show#[B.get a _,B.get a _,λb=>?_];cases b with
   |true=>show B
   |false=>show uv a f _ _ _ B]
def qI(B:Bd l i8)(b:0<l)(m r:Nat):wy l (λr:Nat×Ud=>Bd l r.2) (kas_tail3 m r i8):=by unfold kas_tail3;show wy.bind (λa _=>?_) _<|qS (B.perm<|xg _ _ _) b _ _;show B.perm<|xg _ _ _
def uC(B:Bd l i8)(b:0<l)(m r:Nat):wy l (λr:Nat×Ud=>Bd l r.2) (kas_descPart m r i8):=
 wy.bind (λa c=>by split;show qI (Bd.perm c<|xg _ _ _) b _ _;show qI c b _ _) _ (uv b _ _ _ _ B)
def gH(B:Bd l i8)(c:0<l)(r:Nat):wy l (λr:Nat×Ud=>Bd l r.2) (kas_count r i8):=
 wy.bind (λa _=>by
  split;show B;split;show#[B.get c _,B.get c _,λb=>?_];cases b with|true=>show B|false=>show uC (B.perm<|xg _ _ _) c _ _
  show uC B c _ _) _ (qS B c _ _)
theorem uR {n:Nat}{p:Ud}(B:Bd n p)(a:0<n)(k:Nat):∀f l r,wy n (λ_=>True) (kas_place p k f l r)
 |0,_,_=>trivial
 |f+1,l,r=>by
  change wy n _ (if l≥r then _ else _);split;show trivial;show#[B.get a _,B.get a _,λb=>?_];cases b with|true=>show uR B a k f _ _|false=>show uR B a k f _ _
theorem jt {n:Nat}(a:0<n):∀f (p:Ud) k,Bd n p->wy n (λ_=>True) (kas_bin f p k)
 |0,_,_,_=>trivial
 |f+1,p,k,B=>wy.bind (λl _=>jt a f _ _<|B.perm<|bubble_perm _ _ _) _<|uR B a k _ _ _
def ze6(b:0<l):wy l (λ_=>True) (kas_sort l):=
 wy.bind (λa d=>by split;show jt b _ _ _ d;trivial) _ (gH (λx c=>by simpa using c) b l)
theorem wp_run {O:Type}{n:Nat}{P:O->Prop}{d:Nat->Nat->(Bool->Uh)->Uh}{lt:Nat->Nat->Bool}{Q:O->Uh}{s:C1}(e:∀i j C,i<n->j<n->C (lt i j) s->d i j C s):
  ∀t:KasT O,wy n P t->Q (run lt t) s->t.kasWp d Q s
 |.ret _,_,h=>h
 |.ask i j k,⟨a,b,c⟩,h=>e i j _ a b<|wp_run e (k<|lt i j) (c _) h
def lx (p q:Int×Int):Bool:=decide<|p.1<q.1\/(p.1=q.1/\p.2<q.2)
def at2 (a:Tz)(i:Nat):Int×Int:=a.getD i (0,0)
theorem z54 (d:Tz):Ord λi j=>lx (at2 d i) (at2 d j) where
 irr:=λa=>by simp[lx]
 tr:=λa b c=>by unfold lx;generalize at2 d a=x;generalize at2 d b=y;generalize at2 d c=z;simp only[Nj];lia
 asy:=λa b=>by unfold lx;generalize at2 d a=x;generalize at2 d b=y;simp only[Nj,JI];lia
theorem iq (d:Tz)(h:0<d.length):∃f:T4,run (λi j=>lx (at2 d i) (at2 d j)) (kas_sort d.length)=f.toArray/\f.length=d.length/\(∀i∈f,i<d.length)/\(f.map (at2 d)).Perm d/\(f.map (at2 d)).Pairwise (λp q=>lx q p=Za):=by
 have Wf a b c:=zQ1 (z54 d) h;generalize run (λi j=>lx (at2 d i)<|at2 d j) (kas_sort d.length)=r at a b c;have e:(List.range d.length).map (at2 d)=d:=by apply List.ext_getElem;simp;intro i k o;simp[at2,o]
 have m:r.toList.Perm (List.range d.length):=by have:=Array.perm_iff_toList_perm.mp b;simpa using this
 show#[r.toList,by simp,#[by simpa using a,λi n=>by simpa using m.mem_iff.mp n,?_,?_]];have:=m.map<|at2 d;rw[e]at this;show this;rw[List.pairwise_map,List.pairwise_iff_getElem];intro i j n u l;have k:j<r.size:=by simpa using u
 have:=c i j (Hy l) (by rw[<-a];show k);have t:g r i=r.toList[i]:=by
  have:i<r.size:=by lia
  simp[g,hY,this]
 have s:g r j=r.toList[j]:=by simp[g,hY,k]
 rw[t,s]at this;show this
end SortA
namespace L2
open PySem PySem.Spec PySem.Calls PySem.W PyProof.Rows SortA
def Jl (h:C7):TQ->Tz->Prop
 |[],[]=>True
 |v::vs,p::ps=>(∃a o t u n,v=.ref a/\h.get? a=J o/\o.cls=.type "tuple"/\o.data=.seq [.int p.1 t,.int p.2 u].toArray n)/\Jl h vs ps
 |_,_=>False
theorem Jl.len {h:C7}:∀{vs:TQ}{ps:Tz},Jl h vs ps->vs.length=ps.length
 |[],[],_=>rfl
 |[],_::_,h=>h.elim
 |_::_,[],h=>h.elim
 |_::_,_::_,⟨_,h⟩=>by simp[Jl.len h]
theorem Jl.at {h:C7}:∀{vs:TQ}{ps:Tz} (i:Nat),Jl h vs ps->i<ps.length->∃a o t u n,vs.getD i eH=.ref a/\h.get? a=J o/\o.cls=.type "tuple"/\o.data=.seq [.int (at2 ps i).1 t,.int (at2 ps i).2 u].toArray n
 |[],[],_,_,hi=>by simp at hi
 |[],_::_,_,h,_=>h.elim
 |_::_,[],_,h,_=>h.elim
 |_::_,_::_,0,⟨x,_⟩,_=>x
 |_::_,_::_,i+1,⟨_,r⟩,hi=>by have Wg a o b:=Jl.at i r (by simpa using hi);have Wl t u n e q:=b;show#[a,o,#[t,u,n,by simpa using e,q]]
theorem Jl.tups {h:C7}:∀{d:TQ}{ps:Tz},Jl h d ps->∃b:TQ,KatTups h d b/\b.length=ps.length/\∀v∈b,∃i t,v=.int i t
 |[],[],_=>#[[],trivial,Y,λ_ h=>by simp at h]
 |[],_::_,h=>h.elim
 |_::_,[],h=>h.elim
 |_::_,p::_,⟨⟨a,o,t,u,n,e,g,f,hd⟩,r⟩=>by
  have We b x y z:=Jl.tups r;subst e;show#[.int p.1 t::b,KatTups.cons g f hd () x,by simp[y],λv c=>?_];rcases D7.mp c with rfl|c;show#[_,_,Y]
  show z v c
variable {l N:Nat}{j7 B7:Z7}{E:C5}{r:C1}{Av BA BB Ej:Tok}{i6:To}{s:C6}{Bp:Bool->Uh}{i x:Ch}{d9:Db}
def zn3{p q:Int×Int}(f:r.heap.get? i=J j7)(g:j7.data=.seq [.int p.1 Av,.int p.2 BA].toArray l)(d:r.heap.get? x=J B7)(j:B7.data=.seq [.int q.1 BB,.int q.2 Ej].toArray N)(h:Bp (lx p q) r):C3 (C4 E s) d9 (keyLt' (tuples' I) (.ref i) (.ref x)) Bp i6 r:=by
 show kat_lt f g d j<|kat_cons<|wpAny_eqBool_int ?_;by_cases e:p.1=q.1;have a:(p.1 == q.1)=I:=by simp[e]
 rw[a];show kat_yes<|kat_cons<|wpAny_eqBool_int ?_;by_cases b:p.2=q.2;have c:(p.2 == q.2)=I:=by simp[b]
 rw[c];show kat_yes<|kat_nil ?_;have:lx p q=Za:=by simp[lx,e,b]
 rw[this]at h;simpa using h;have c:(p.2 == q.2)=Za:=by simp[b]
 rw[c];show kat_no<|kat_one _ _<|wpAny_lt_int ?_;have:lx p q=decide (p.2<q.2):=by simp[lx,e]
 rw[this]at h;show h;have a:(p.1 == q.1)=Za:=by simp[e]
 rw[a];show kat_no<|oneLt_int ?_;have:lx p q=decide (p.1<q.1):=by simp[lx,e]
 rw[this]at h;show h
variable {tA EY:Tz}{g7:TQ}
theorem gX{prog:C5}{w:C6}{A:Db}(k:2<=g7.length)(P:Jl r.heap g7 tA){R:Ud->Uh}(L:∀d:T4,d.length=tA.length->(∀i∈d,i<tA.length)->(d.map (at2 tA)).Perm tA->(d.map (at2 tA)).Pairwise (λp q=>lx q p=Za)->R d.toArray r):C3 (C4 prog w) A (keyKind' g7.toArray) (λκ F=>(kas_sort g7.length).kasWp (kas_ask prog w A κ g7) R F) (λ_ _=>False) r:=by
 have We S t X f:=P.tups;have c:=P.len;show kat_kind (T:=.type "int") t () (λv l=>?_) () ?_;have Wg i t rfl:=f v l;show .now;have e:(eI "int" != eI "tuple")=I:=by decide
 rw[e];have#[d,z,K,G,x,B]:=iq tA<|O5 k c;rw[c];show wp_run (lt:=λi j=>lx (at2 tA i)<|at2 tA j) (λi j C f M N=>?_) _ (ze6<|O5 k c) ?_;have Wg a o g:=P.at i f;have Wm t u n s H _ E:=g;have Wg b V h:=P.at j M;have Wm U W Q O y _ m:=h;unfold kas_ask;rw[s,O];show zn3 H E y m N;rw[z];show L d K G x B
def J3 (d:TQ)(a:Tz)(c:TQ):Prop:=
 ∃b:T4,c=b.map (λi=>d.getD i eH)/\b.length=a.length/\(∀i∈b,i<a.length)/\(b.map<|at2 a).Perm a/\(b.map<|at2 a).Pairwise (λp q=>lx q p=Za)
def J3.len {vs:TQ}{ps:Tz}{out:TQ}(h:J3 vs ps out):out.length=ps.length:=by have We a rfl e _:=h;simp[e]
inductive Io (H:Hp):TM->Tz->Prop where
 |nil:Io H [] []
 |cons {a:Ch}{xs:TM}{p:Int×Int}{ps:Tz}:H a=J (.tup [.int p.1,.int p.2])->Io H xs ps->Io H (.ref a::xs) (p::ps)
def Io.len{H:Hp}{xs:TM}{ps:Tz}(h:Io H xs ps):xs.length=ps.length:=by
 induction h with|nil=>rfl|cons _ _ a=>simp[a]
variable {m d7:Hp}{dU u0:TM}
def Io.keep(k:∀a p q,m a=J (.tup [.int p,.int q])->d7 a=J (.tup [.int p,.int q]))(h:Io m dU tA):Io d7 dU tA:=by
 induction h with|nil=>show .nil|cons e _ b=>show .cons (k _ _ _ e) b
def Io.app(h:Io m dU tA)(a:Io m u0 EY):Io m (dU++u0) (tA++EY):=by
 induction h with|nil=>show a|cons e _ b=>show .cons e b
variable {B:St}{f:Cx}{cC:Tu}
def Io.prs (y:DM f cC B m r):∀{xs:TM}{d:Tz}{c:TQ},Io m xs d->DS xs c->Jl r.heap c d:=by
 intro xs d c h;induction h generalizing c with
 |nil=>intro b;cases b;trivial
 |@cons a xs p d e _ ih=>
  intro b;cases b with|cons b q=>cases(b);have Wc _ k:=(y.hok a _ e);have Wa s A g:=k;have We o C z l:=g;have Wb n w:=l;have Wd u v rfl i j:=DS.two A;have#[t,rfl]:=i;have#[x,rfl]:=j;show#[#[a,o,#[3,t,x,n,Y,C,z,w]],ih q]
def km(r:DS dU g7):∀i x,dU[i]?=J x->DT x (g7.getD i eH):=by
 induction r with
 |nil=>intro i x h;simp at h
 |cons e _ b=>
  intro i x h;cases i with|zero=>have a:=Hb (by simpa using h);subst a;show e|succ i=>show b i x<|by simpa using h
end L2
namespace Days
end Days
namespace L2
open PySem PySem.Spec PyProof.Rows Days
def L5 :Ev->Bool
 |[]=>I
 |some (.exc _ _)::_=>Za
 |_::r=>L5 r
theorem Q5 :∀{O:Ev}{j:Nat}{r:Fr}{q:Ue},L5 O=I->O[j]?≠J (J (.exc r q))
 |[],j,r,q,_,h=>by simp at h
 |a::O,j,r,q,e,h=>by
  cases j with
  |zero=>simp at h;subst h;cases e
  |succ j=>
   show Q5 (O:=O) (j:=j) (r:=r) (q:=q) ?_ (by simpa using h);cases a with
   |none=>show e
   |some a=>cases a<;>first|show e|cases e
def HC :A2->Bool
 |.none=>I
 |_=>Za
abbrev Kj (d:A2)(s:Zv):Bool:=PyData.eqv d<|.str s
abbrev sQ :A2->Bool:=xC 0 1000000000000
def qG :A2->Bool
 |.tuple [.int m,f]=>xC 2 14 (.int m)&&xC 1 (m-1) f
 |_=>Za
def yw (w v:A2):Bool:=
 if Kj w "price"=I then HC v||sQ v
 else if(Kj w "come"||Kj w "go")=I then Hm v
 else if(Kj w "least"||Kj w "most")=I then xC 1 14 v
 else if Kj w "deal"=I then HC v||qG v
 else Kj w "fee"&&sQ v
def wF :A2->Bool
 |.tuple [w,a,b,v]=>tK (.tuple [a,b])&&yw w v
 |_=>Za
abbrev DR :TR:=["price","come","go","least","most","deal","fee"]
def Q6 (x y z:V):Tw:=yZ "worth" z<|yZ "last" y<|yZ "first" x []
structure Cs where
 price:Ch
 come:Ch
 go:Ch
 least:Ch
 most:Ch
 deal:Ch
 fee:Ch
def Cs.of (c:Cs)(w:Zv):Ch:=
 if w="price" then c.price else if w="come" then c.come else if w="go" then c.go else if w="least" then c.least else if w="most" then c.most else if w="deal" then c.deal else c.fee
structure rD (K:Cl)(C fI fT fE fW:Ch):Prop where
 cl:GP K C
 nf:zL K C "first"
 nl:zL K C "last"
 nw:zL K C "worth"
 makes:Mk K C fI
 told:Ge K C "told" fT
 tells:Ge K C "tells" fE
 word:Ge K C "word" fW
variable {dc y4 EJ:A2}{p H m8 BJ Ek:Zv}
def vD(h:Kj dc p=I):dc=.str p:=by
 cases dc with|str x=>rw[eq_of_beq h]|_=>simp[PyData.eqv]at h
def jY(h:yw dc y4=I):∃s∈DR,dc=.str s:=by
 unfold yw at h;split at h;rename_i e;show#["price",by simp[DR],vD e];split at h;rename_i e;rcases(KA _ _).mp e with e|e;show#["come",by simp[DR],vD e]
 show#["go",by simp[DR],vD e];split at h;rename_i e;rcases(KA _ _).mp e with e|e;show#["least",by simp[DR],vD e]
 show#["most",by simp[DR],vD e];split at h;rename_i e;show#["deal",by simp[DR],vD e];rw[HG]at h;show#["fee",by simp[DR],vD h.1]
def rq(h:wF dc=I):∃(s:Zv) (a b v:A2),s∈DR/\dc=.tuple [.str s,a,b,v]:=by unfold wF at h;split at h;rename_i w a b v;rw[HG]at h;have Wa s c rfl:=jY h.2;show#[s,a,#[b,v,c,Y]];cases h
abbrev wO (C:Ch)(a:Tv):A2:=.dict ((.int (C:Nat),.none)::a)
def yn :Tv->Zv->Option A2
 |[],_=>D
 |(.str g,d)::r,f=>if f=g then J d else yn r f
 |_::r,f=>yn r f
theorem GF.get {H:Hp}:∀{a:Tw}{ds:Tv}{f:Zv}{d:A2},GF H a ds->yn ds f=J d->∃v,a.lookup f=J v/\AV H v d
 |_,_,f,d,.nil,e=>by cases e
 |_,_,f,d,.cons (f:=g) h r,e=>by
  rw[Hs];unfold yn at e;by_cases z:f=g;subst z;rw[Ur Y]at e;cases e;show#[_,by simp,h];rw[Us z]at e;have b:(f == g)=Za:=by simpa using z
  rw[b];show GF.get r e
variable {m d7 Bi B6:Hp}{p7:Tv}{o9:Tw}
theorem GF.none(h:GF m o9 p7)(e:yn p7 p=Option.none):o9.lookup p=Option.none:=by
 induction h using GF.ind with
 |nil=>rfl
 |@cons g _ _ _ _ h r ih=>
  rw[Hs];unfold yn at e;by_cases z:p=g;subst z;rw[Ur Y]at e;cases e;rw[Us z]at e;have a:(p == g)=Za:=by simpa using z
  rw[a];show ih e
variable {e9 v8 EK:V}{i x R oa:Ch}
def AV.ins_inv(h:AV m e9 (wO i p7)):∃a c b,e9=.ref a/\m a=J (.ins i c b)/\GF m b p7:=by
 generalize e:wO i p7=d at h;cases h with
 |@ins a C' c b ds' h1 h2=>
  injection e with e;injection e with e1 g;have j:(i:Int)=C':=by have:=Uu Prod.fst e1;injection this
  have f:=Int.ofNat.inj j;subst f g;show#[0,a,c,b,Y,h1,h2]
 |_=>cases e
variable {y K fC k9 Aq By BS BU BD Cv EZ Fb F7 F8:Pos}{Q Ag El:Ue}{f:Cx}{n p8:Ev}{j w gV:Dc}
def xY (c:GP f.K i)(m:zL f.K i p)(h:DP f n j λx=>∃b d,x=wO i b/\yn b p=J d/\Q d)(r: ~~~(Z0 j p f.env (eval j f.env)=eval j f.env)):DP f n (.Attribute j p y) Q:=λF U z R H k=>by show#[_,pO zh r,h F U z _ H λx E e t B o C=>?_];have Wd b d rfl hf q:=t;have Wr a g A rfl w l:=C.ins_inv;have Wa v s u:=l.get hf;show#[a,i,g,#[5,A,v,Y,(zf w).2,c,m,s,k d v e q B o u]]
structure xm (P:C5)(w:C6)(K:Cl)(mg:Tt)(base:C7)(C:Ch)(m:Zv)(k:Nat)(φ:Tj):Prop where
 ex:∃f fd ps,GP K C/\Ge K C m f/\DQ K fd ps []/\zX P w K mg base GA k f fd ps (KI φ)
variable {l N i5 j9 t7 A7:Nat}{AB:Sem Bool}{k7:List L2.A->(L2.A->Prop)->Prop}{O:T1}
def rG(M':xm f.prog f.w f.K f.mg f.base i H l k7)(hr:zH l f.A)(h:DP f n j λx=>∃b,x=wO i b/\yn b H=D/\G7 f n (w::O) λd=>k7 (.dat (wO i b)::d) λa=>Q a.d)
  (g: ~~~Uo w O f.env) (k: ~~~Uq y O f.env)
  (ht: ~~~(eval (.Call (.Attribute j H K) (w::O) [] y) f.env=(do
   let ov <-eval j f.env
   Z8 K.atName
   let(p,first) <-Z9 [ov] (Z6 ov H AB)
   ZA y p first (Zx y<|A3 (w::O) f.env) (Z4 y<|Zy [] f.env)))):DP f n (.Call (.Attribute j H K) (w::O) [] y) Q:=λF U N R o A=>by
 have Wm p fd ps c hm Z G:=M'.ex;show#[_,nM zh c hm G hr Z .nil we yb g k ht,h F U N _ o λx vx W q1 S r t=>?_];have We b rfl hf q:=q1;have m:=o.kz r S;have Wr a B gs rfl h1 X:=t.ins_inv;show#[3,a,B,gs,Y,(zf h1).2,X.none hf,q F U W _ m λd vs H2 q2 L e P=>?_];have s:=m.kz e L;have u:=vg (as:=.dat (wO i b)::d) (E:=E0) s (.cons (t.same<|e.gz m.tp) P) q2 λz v H' T V=>by have Wf C g2 M:=V.back s;show A _ v H' T C ((r.trans e).trans g2) M
 show u
def qv(O:xm f.prog f.w f.K f.mg f.base i H l k7)(X:zH l f.A)(h:DP f n j λx=>∃b,x=wO i b/\yn b H=D/\k7 [.dat (wO i b)] λa=>Q a.d)
  (P: ~~~(eval (.Call (.Attribute j H K) [] [] y) f.env=(do
   let ov <-eval j f.env
   Z8 K.atName
   let(p,first) <-Z9 [ov] (Z6 ov H AB)
   ZA y p first (Zx y<|A3 [] f.env) (Z4 y<|Zy [] f.env)))):DP f n (.Call (.Attribute j H K) [] [] y) Q:=λF U u R d o=>by
 have Wm p fd ps c W L G:=O.ex;show#[_,pM zh c W G X L .nil we P,h F U u _ d λx Z H1 M w e k=>?_];have We b rfl hf q:=M;have g:=d.kz e w;have Wr a r V rfl T C:=k.ins_inv;show#[3,a,r,V,Y,(zf T).2,C.none hf,?_];have m:=vg (as:=[.dat (wO i b)]) (E:=E0) g (.cons k .nil) q λz v N A B=>by have Wf s S t:=B.back g;show o _ v N A s (e.trans S) t
 show m
def MY (F:Fr)(v:V)(a:Hp)(d:A2):Prop:=zF F a/\Kz F F.H0 a/\AV (sub (λx=>¬F.O0 x/\∀xs,F.H0 x≠J (.lst xs)) a) v d
def HY (X:Cx)(O:Ev)(e:Dc)(Q:Ue):Prop:=∀(F:Fr) (U:St) (H:Hp) (R:VK),M F O U H->(∀d v a,Q d->zF F a->Kz F H a->AV (sub (λx=>¬Ow F O U x/\∀xs,H x≠J (.lst xs)) a) v d->R v a)->uB X e U H R
theorem HY.d (h:HY f n w Q):DP f n w Q:=λF U H R p k=>h F U H R p λd v b q t z r=>k d v b q t z<|r.same<|zj λa j h w=>#[h.1,w]
def MZ (C:Ch)(φ:Tj):Sp:=λb H c _=>∃(F:Fr) (as:TV) (Q:Ug) (x dx:Ch) (vs':TM) (H1:Hp),b=.ref x::vs'/\H1 x=D/\H1 dx=D/\dx≠x/\H=upd (upd H1 dx<|.own x) x (.ins C dx [])/\
 F.H0=H1/\zF F H1/\(∀y,F.O0 y->∃u,H1 y=J u/\yS u)/\zQ F (sub (λy=>¬F.O0 y) H1) vs' as/\φ as Q/\∀d a,Q (.dat d)->MY F (.ref x) a d->c .non a
structure vS (P:C5)(w:C6)(K:Cl)(mg:Tt)(base:C7)(x:Zv)(k:Nat)(dvs:TM)(φ:Tj):Prop where
 ex:∃C f fd ps ds,mg x=J (.ref C)/\Mk K C f/\DQ K fd ps ds/\DS dvs ds/\zX P w K mg base GA k f fd ps (MZ C φ)
variable {B AD:St}{Ae:VK}{Ab:XK}{Bx:L2.A->Prop}{z w6:Fr}{p9:List L2.A}{dU u0 Bj Fd:TM}
def ir(h:M z n B m)(o:zQ z (Gz z n B m) dU p9)(f:k7 p9 Bx)(k:∀d v b,Bx (.dat d)->MY #[m,Ow z n B,z.tp] v b d->Ae v b) (x a:Ch) (p:m x=D) (c:m a=D) (g:a≠x):MZ i k7 (.ref x::dU) (upd (upd m a (.own x)) x (.ins i a [])) (λv l=>v=.non/\Ae (.ref x) l) Ab:=by show#[#[m,Ow z n B,z.tp],p9,#[Bx,x,a,#[5,dU,m,Y,p,c,g,Y,#[6,Y,?_,?_,?_,f,λd b q r=>#[Y,k d _ b q r]]]]];show h.tp.to Y λ_ e=>.inl e;show λy e=>h.owEx e;show zQ.to (F:=z) (F':=#[m,Ow z n B,z.tp]) (λ_ _ j=>j) Y o
def MY.back{O:Ev}{F:Fr}{U:St}{H c b:Hp}{v:V}{d:A2}(m:M F O U H)(f:Kz F H c)(h:MY #[c,Ow F O U,F.tp] v b d):zF F b/\Kz F c b/\AV (sub (λx=>¬Ow F O U x/\∀xs,H x≠J (.lst xs)) b) v d:=by have Wf t g r:=h;show#[m.tp.re t Y,g,r.same<|zj λa o h e=>#[#[h.1,λxs z=>h.2 xs<|f _ _ z<|m.tp.nt<|GL h.1],e]]
def dh(N:vS f.prog f.w f.K f.mg f.base m8 l [] k7)(V:zH (l+1) f.A)(hg:Gl f m8)(h:G7 f n (j::O) λo=>k7 o λa=>Q a.d)
  (c:‹Yl m8›) (P: ~~~Uo j O f.env) (m: ~~~Uq y O f.env):HY f n (.Call (.Name m8 K) (j::O) [] y) Q:=λF U z R H q=>by have Wg i p k:=N.ex;have#[fd,Z,ds,T,hk,E,u,G]:=k;cases u;show#[_,mJ hk G V hg T E .nil we yb c P m,h F U z _ H λo X H1 L A g W=>?_];intro w r s b e;rw[G9];show ir (H.kz g A) W L (λd v M B C=>?_) w r s b e;have Wf t S x:=C.back H g;show q d v M B t (g.trans S) x
structure iX (K:Cl)(x qual:Zv)(st:Da)(dV:Bs)(f:Ch)(fd:Dd):Prop where
 ex:∃(oc:Bs) (od:Ua) (kV doc pm:Bs) (an:Ua) (cdv ct:Bs) (osl:Array (T8)),
  fd=Zl x qual (yg st) (zA st) (zb st) dV kV doc pm an cdv ct/\K.lookup f=J #[oc,od,.func fd,osl]/\Zo K cdv qual=I
 kp:Zh K (.ref f)=I
variable {w5 AH:Ua}{q:Cl}{f9 m6 v7 j5 t8 x8 AA:Bs}{Br:Array (T8)}
def dM{st:Da}(l:q.lookup i=J #[f9,w5,.func (Zl p H (yg st) (zA st) (zb st) m6 v7 j5 t8 AH x8 AA),Br])
  (c:Zo q x8 H=I) (k:Zh q (.ref i)=I):iX q p H st m6 i (Zl p H (yg st) (zA st) (zb st) m6 v7 j5 t8 AH x8 AA):=#[#[f9,w5,v7,#[j5,t8,AH,#[0,x8,AA,Br,Y,l,c]]],k]
variable {E:C5}{g8:Da}{C EL:Tt}{s:C6}{e7:Dd}{v Au:C7}{S m9:TR}
def yc0(G:iX q "__init__" p g8 f9 i e7)(bc:zq ("self"::H::S) ["self",H] (zb g8))(c:GP q x)(na:zL q x m8)(hb:zA g8=[.Assign [.Attribute (.Name "self" y) m8 K] j fC]) (X:∀k Q,k7 k Q->k.length=1)(a3:∀(B:Bs) (A':Db) (e:TZ) (T:C1) (a5:Hp) (a4:XK) (k:TV) (Q:Ug),zH l (A'.deeper (Yb p (zb g8) T.heap.objs.size i B))->k7 k Q-> FA (yQ GA E s q C v ("self"::H::S) p (zb g8) i B A' e T a5 a4).nox (D::k.map J++Zb S.length D) j λds=>wx ds=I/\Q (.dat (wO x [(.str m8,.list ds)])))(b7:∀(B:Bs) (A':Db) (e:TZ) (T:C1) (a5:Hp) (a4:XK),Z1 j (J (.Attribute (.Name "self" y) m8 K)) fC.line (yQ GA E s q C v ("self"::H::S) p (zb g8) i B A' e T a5 a4).nox.env=pure Za)(hv:GO (zb g8) "self"):zX E s q C v GA (l+1) i e7 ["self",H] (MZ x k7):=by
 have Wi oc od kV b3:=G.ex;have Wi bb pm an b6:=b3;have Wr B ct b9 rfl lk b5:=b6;show ji lk b5 bc (λvs a5 Q a4 h=>?_) λA' e T a5 vs Qc a4 hr h=>?_;have Wi F k Q' b8:=h;have Wo m O R H1 rfl _ _ _ _ ay:=b8;have Wt _ _ _ rv U _:=ay;rw[G3,rv.length,X k _ U];rfl;have Wi F k Q' b2:=h;have Wo m O R H1 rfl hy au a6 rfl az:=b2;have Wt rfl t o rv U kk:=az;rw[hb];show#[_,((vq<|xV (zG (i:=0) Y hv) zh<|b7 B A' e T _ a4).nox),?_];let F2:Fr:=#[F.H0,λz=>F.O0 z\/z=m\/z=O,F.tp];have s1:zv F.H0 (upd (upd F.H0 O<|.own m) m<|.ins x O []):=λa u w=>by rw[zg (zk w hy),zg (zk w au)];show w
 have a0:¬F.O0 m:=λz=>by have Wa u hu _:=o m z;rw[hy]at hu;cases hu
 have t2:zF F2 (upd (upd F.H0 O<|.own m) m<|.ins x O []):=(t.same s1).to Y λ_ z=>.inl z;have g:∀{f:Nat} {a:A},(D::k.map J++Zb S.length D:Ev)[f]?=J (J a)->∃N,f=N+1/\k[N]?=J a:=λ{f a} h=>by
  cases f with
  |zero=>simp at h
  |succ N=>
   show#[N,Y,?_];have h':(k.map J++Zb S.length D:Ev)[N]?=J (J a):=by simpa using h
   rcases HX N k.length with z|z;rw[Iv (by rw[DZ];show z),GD,Hj]at h';have Wa b h1 h2:=h';cases h2;show h1
   rw[HZ (by rw[DZ];show z),J6]at h';split at h'<;>cases h'
 have a8:∀{vs:TM} {k:TV} {f:Nat} {a:A},zQ F (sub (λH=>¬F.O0 H) F.H0) vs k->k[f]?=J a->∃P,vs[f]?=J P/\lX F (sub (λH=>¬F.O0 H) F.H0) P a:=by
  intro vs k f a h;induction h generalizing f with
  |nil=>intro j;simp at j
  |cons h r ih=>
   intro j;cases f with|zero=>simp at j;subst j;show#[_,Y,h]|succ f=>have Wa P h1 h2:=ih (by simpa using j);show#[P,by simpa using h1,h2]
 have gv:∀{N:Nat} {P:V},R[N]?=J P->(L2.start ("self"::H::S) (.ref m::R))[N+1]?=J (J P):=λ{N P} h=>by unfold L2.start;rw[Iv (by rw[DZ,G3];show Dh ((Gm.mp h).1) _),GD,List.getElem?_cons_succ,h];rfl
 have no:∀(f:Nat) a,(D::k.map J++Zb S.length D:Ev)[f]?=J (J a)->(∃d,a=.dat d)\/a=.tape:=λf a z=>by
  have Wa N _ hj:=g z;have Wa P _ h:=a8 rv hj;cases a with|dat d=>show .inl #[d,Y]|tape=>show .inr Y|_=>show h.elim
 have gs:zv (sub (λH=>¬F.O0 H) F.H0) (Gz F2 (D::k.map J++Zb S.length D) (L2.start ("self"::H::S) (.ref m::R))<|upd (upd F.H0 O<|.own m) m<|.ins x O []):=λa u w=>by
  have Wc z1 Z:=zf w;show zr ?_<|s1 _ _ Z;rintro((z|z|z)|⟨f,b,T,j,_,i⟩);show z1 z;rw[z,hy]at Z;cases Z;rw[z,au]at Z;cases Z;rcases no f b j with⟨d,rfl⟩|rfl;show i.elim
  show i.elim
 have m2:M F2 (D::k.map J++Zb S.length D) (L2.start ("self"::H::S) (.ref m::R)) (upd (upd F.H0 O<|.own m) m<|.ins x O []):=by
  show#[by unfold L2.start;simp[rv.length,(X k _ U)],λf a T e1 e2=>?_,λf N a b T t H e1 _ _ _ i=>?_,λf r w z=>(by rcases no f _ z with⟨d,s⟩|s<;>cases s),t2,λz u h _=>s1 z u h,λz hz=>?_];have Wa N rfl hj:=g e1;have Wa P h1 h2:=a8 rv hj;rw[gv h1]at e2;cases e2;rcases no _ a e1 with⟨d,rfl⟩|rfl;show#[P,Y,AV.same gs h2]
  have Wl t' b c h3 rfl:=h2;show#[t',b,c,h3,Y];rcases no f a e1 with⟨d,rfl⟩|rfl;show i.elim
  show i.elim;rcases hz with w|w|w;have Wa u hu hn:=o z w;show#[u,s1 _ _ hu,hn]
  show#[_,by rw[w];show zi,λ_ w=>by cases w];show#[_,by rw[w,zg a6];show zi,λ_ w=>by cases w]
 show a3 B A' e T _ a4 k Q' hr U F2 _ _ _ m2 λd P H2 qd t3 k3 r3=>?_;have Wj ax xs rfl L b0 b1:=r3;have Wc b4 qd:=qd;have ah:ax≠m:=λz=>by rw[z,zi]at L;cases L
 have a9:ax≠O:=λz=>by rw[z,zg a6,zi]at L;cases L
 have W:F.H0 ax=D:=by rw[zg ah,zg a9]at L;show L
 have ab:¬F.O0 ax:=λz=>by have Wa u hu _:=o ax z;rw[W]at hu;cases hu
 have a7:=k3 _ _ zi<|t.nt a0;show#[.ref m,Y,#[2,m,x,O,[],Y,a7,c,#[na,by change 0<1000;decide,?_]]];show kk _ _ qd #[(t.re t3 Y).updO a0<|ve a7,λz u h n=>?_,?_];rw[zg (zk h hy)];show k3 _ _ (s1 _ _ h) n;show AV.ins (zr #[a0,λxs z=>by rw[hy]at z;cases z] zi) (.cons (.lst (zr #[ab,λxs z=>by rw[W]at z;cases z]<|by rw[zg ah];show b0) ?_) .nil);show b1.noL (λa u hno z=>?_) b4;have Wc z1 Z:=zf z;have na:a≠m:=λs=>z1.1<|.inl<|.inr<|.inl s;show zr #[λs=>z1.1<|.inl<|.inl s,λxs s=>?_] (by rw[zg na];show Z);have:H2 a=J (.lst xs):=k3 _ _ (s1 _ _ s)<|t.nt λs=>z1.1<|.inl<|.inl s;rw[Z]at this;cases this;show hno trivial
variable {u3:Type}
def su(l:List u3)(x:Int)(y:u3):List u3:=l.take (if x<0 then(x+(l.length:Int)).toNat else min x.toNat l.length)++y::l.drop (if x<0 then(x+(l.length:Int)).toNat else min x.toNat l.length)
def zw0(l:List u3)(x:Int)(y:u3):(su l x y).length=l.length+1:=by unfold su;rw[GJ,G3,Jb,Kb];show ym9
def DS.ins {xs:TM}{a:TQ}{y:V}{u:Bs}(r:DS xs a)(b:DT y u)(i:Int):DS (su xs i y) (su a i u):=by unfold su;rw[r.length];show(r.take _).append<|.cons b<|r.drop _
def D2.ins {H:Hp}{xs:TM}{a:TL}{y:V}{d:A2}(r:D2 H xs a)(b:AV H y d)(i:Int):D2 H (su xs i y) (su a i d):=by unfold su;rw[r.length];show(r.take _).append<|.cons b<|r.drop _
def zO8 (l:TQ)(k:Nat)(y:Bs):(l.toArray.extract 0 k).push y++l.toArray.extract k=(l.take k++y::l.drop k).toArray:=by apply Array.toList_inj.mp;simp;show Nm<|by simp
def zD9 :V->TM->Tq:=λx a H Q=>∃l xs i y,x=.ref l/\a=[.int i,y]/\H l=J (.lst xs)/\-(2 ^ 63)<=i/\i<2 ^ 63/\xs.length<Zw/\Q .non (upd H l<|.lst<|su xs i y)
def aO :KH f "list.insert" zD9:=by
 intro m s U H x G v E Q e C p h;have#[l,xs,i,y,rfl,rfl,g,b]:=h;have Wq w o k q:=b;cases C;have Wd u c rfl B d:=p.two;have Wb t rfl:=B;have#[z,a,n,r,A,j]:=e.lstM g;show Lg F.slot_list_insert #[_,j,Y] F.entry_list_insert (F.args_list_insert_3 _ _ _)
  (PySem.AutoSeq1.list_insert_list_int_val_1 l a.toArray n i t c (by have:=fitsIndex_both w o;simp[this])<|by rw[GS];show Hy<|Ha (Gu A.symm) k) #[j,?_]
 show#[.non,_,e.lset (its':=su a i c) g j ?_ (r.ins d i) (by rw[zw0];show k),Y,q];change(a.toArray.extract 0<|if i<0 then(i+(a.toArray.size:Int)).toNat else min i.toNat a.toArray.size).push c++a.toArray.extract (if i<0 then(i+(a.toArray.size:Int)).toNat else min i.toNat a.toArray.size)=(su a i c).toArray;rw[zO8,GS];rfl
variable {h9:zT}{T:TL}{i7 y8 Cb:List Da}
def ze4 (i:Nat)(C:n[i]?=J (J (.own T)))(h:DP f n j λk=>DP f n w λd=>∃c,k=.int c/\-(2 ^ 63)<=c/\c<2 ^ 63/\T.length<1000/\D0 f (n.set i (J (.own (su T c d)))) i7 h9)
  (P: ~~~(f.N[i]?=J p)) (N:‹GO f.env.scope p›) (M:‹Yl p›) (s:‹Ym p›)
  (b: ~~~(Z0 (.Name p K) "insert" f.env (eval (.Name p K) f.env)=eval (.Name p K) f.env)) (E: ~~~Uo j [w] f.env) (g: ~~~Uo w [] f.env)
  (u: ~~~(((((Zx k9<|A3 [j,w] f.env).all λp=>!p.fst)&&(Z4 k9<|Zy [] f.env).all λp=>p.fst.isSome)&&decide (([j,w].length+([]:T3).length+if([]:T3).isEmpty=I then 0 else 1)<30))=I))
  (a: ~~~((fC.endLine == k9.line)=I)) (e: ~~~Uq k9 [w] f.env) (z: ~~~(Z1 (.Call (.Attribute (.Name p K) "insert" fC) [j,w] [] k9) D y.line f.env=pure Za)):D0 f n (.Expr (.Call (.Attribute (.Name p K) "insert" fC) [j,w] [] k9) y::i7) h9:=λF U H W m r=>by have Wp l xs L G A B h5:=m.own i T C;show#[_,zt (vw (qB JV PySem.F.slot_list_insert PySem.F.type_list_insert aO (zG P N M s) (zo zh (zo zh zI g) E) b u a E e) z) zC,?_];show#[.ref l,L,.inl #[Y,#[_,D3.of G]],?_];show h F U H _ m λk vk V X S t r1=>?_;have x:=m.kz t S;show X F U V _ x λd v H2 q2 O o R=>?_;have Z:=x.kz o O;have#[c,rfl,Q,b2,hl,q]:=q2;cases r1.int_inv;show#[2,l,xs,c,v,Y,Y,o _ _ (t _ _ G<|m.tp.nt B)<|m.tp.nt B,#[Q,b2,by rw[A.length];show yu<|Hy hl,?_]];show q F U _ W (Z.wrOwn C L<|(((A.same<|t.gz m.tp).same<|o.gz x.tp)).ins R c) r
def wU (f:Zv)(d:A2):Tv->Tv
 |[]=>[(.str f,d)]
 |(.str g,x)::r=>if g=f then(.str g,d)::r else(.str g,x)::wU f d r
 |p::r=>p::wU f d r
theorem GF.put {H:Hp}{f:Zv}{v:V}{d:A2}(a:AV H v d):∀{b:Tw}{ds:Tv},GF H b ds->GF H (yZ f v b) (wU f d ds)
 |_,_,.nil=>.cons a .nil
 |_,_,.cons (f:=g) h r=>by unfold yZ wU;by_cases z:g=f;rw[Ur z,Ur z];show .cons a r;rw[Us z,Us z];show .cons h<|GF.put a r
theorem ky {f:Zv}{v u:V}{r:Tw}:∀{a:Tw},a.lookup f=J u->yZ f v (a++r)=yZ f v a++r
 |[],h=>by cases h
 |(g,x)::a,h=>by change(if g=f then(g,v)::(a++r)else(g,x)::yZ f v (a++r))=(if g=f then(g,v)::a else(g,x)::yZ f v a)++r;by_cases z:g=f;rw[Ur z,Ur z];rfl;rw[Us z,Us z,ky (u:=u) (by rw[Hs]at h;rwa [show(f == g)=Za from JW.mpr<|Gx z]at h)];rfl
theorem kG {f:Zv}{u:V}{r:Tw}:∀{a:Tw},a.lookup f=J u->(a++r).lookup f=J u
 |[],h=>by cases h
 |(g,x)::a,h=>by rw[K5,Hs];rw[Hs]at h;split at h;show h;show kG h
theorem jE {f:Zv}{u:V}:∀{a:Tw},a.lookup f=D->(a++[(f,u)]).lookup f=J u
 |[],_=>by simp
 |(g,x)::a,h=>by rw[K5,Hs];rw[Hs]at h;split at h;cases h;show jE h
theorem dO {f g:Zv}{u:V}:∀{a:Tw},a.lookup f=D->f≠g->(a++[(g,u)]).lookup f=D
 |[],_,n=>by change List.lookup f [(g,u)]=D;rw[Hs,show(f == g)=Za from JW.mpr n];rfl
 |(k,x)::a,h,n=>by rw[K5,Hs];rw[Hs]at h;split at h;cases h;show dO h n
theorem GF.len {H:Hp}:∀{fs:Tw}{ds:Tv},GF H fs ds->fs.length=ds.length
 |_,_,.nil=>rfl
 |_,_,.cons _ r=>by rw[G3,G3,GF.len r]
def zD.tl_len (s:zD):s.tl.length<=1:=by unfold zD.tl;split<;>simp
variable {G Ap:zD}
def zD.tl_t(h:G.pl=I):G.tl=[(G.nm,.ref G.lp)]:=by unfold zD.tl;rw[Ur h]
def zD.tl_f {s:zD}(h:s.pl=Za):s.tl=[]:=by unfold zD.tl;rw[Us (by rw[h];show Hq)]
def xM.look(h:xM m d7 G)(a:G.pl=I)(hf:yn G.kvs G.nm=D):(G.fs++G.tl).lookup G.nm=J (.ref G.lp):=by rw[zD.tl_t a];show jE<|h.fl.none hf
def xM.look_m(h:xM m d7 G)(hf:yn G.kvs p=D)(a:p≠G.nm):(G.fs++G.tl).lookup p=D:=by
 cases z:G.pl with|true=>rw[zD.tl_t z];show dO (h.fl.none hf) a|false=>rw[zD.tl_f z,G9];show h.fl.none hf
noncomputable abbrev zD.put (s:zD)(f:Zv)(v:V)(d:A2):zD:={s with fs:=yZ f v s.fs,kvs:=wU f d s.kvs}
noncomputable abbrev zD.app (s:zD)(v:V)(d:A2):zD:={s with xs:=s.xs++[v],past:=s.past++[d]}
def uY{o:HO}(d:M z n B m)(a:n[l]?=J (J (.inn G)))(b:G.at i):zv (Gz z n B m) (Gz z n B (upd m i o)):=zj λy u h e=>#[h,by rw[zg λc=>h<|.inr #[0,l,_,_,a,(d.inn a).1,by change G.at y;rw[c];show b]];show e]
def zV (i:Nat)(t:n[i]?=J (J (.inn G)))(c:GP f.K G.C)(e:zL f.K G.C H)(hf:yn G.kvs H=J dc)(q:Q dc)(o: ~~~(f.N[i]?=J p))(j:‹GO f.env.scope p›)(h:‹Yl p›)(b:‹Ym p›)
  (g: ~~~(Z0 (.Name p y) H f.env (eval (.Name p y) f.env)=eval (.Name p y) f.env)):DP f n (.Attribute (.Name p y) H K) Q:=λF U r R m k=>by have Wf s d u:=m.inn t;have Wa v a l:=d.fl.get hf;show#[_,pO (zG o j h b) g,_,s,G.a,G.C,G.dx,_,v,Y,d.ob,c,e,kG a,k dc v r q m.tp Kz.refl l]
def vo (i:Nat)(k:n[i]?=J (J (.inn G)))(c:GP f.K G.C)(l:zL f.K G.C H)(hf:yn G.kvs H=J dc)(hk:G.kvs.length<900)(h:DP f n j λd=>∀v,D0 f (n.set i (J (.inn (G.put H v d)))) i7 h9)
  (t: ~~~(f.N[i]?=J p)) (s:‹GO f.env.scope p›) (q:‹Yl p›) (e:‹Ym p›)
  (E: ~~~(Z1 j (J<|.Attribute (.Name p K) H fC) y.line f.env=pure Za)):D0 f n (.Assign [.Attribute (.Name p K) H fC] j y::i7) h9:=λF U w M m r=>by show#[_,zt (xV (zG t s q e) zh E) zC,h F U w _ m λd v Q N B L P=>?_];have b:=m.kz L B;have Wf O a A:=b.inn k;have Wa u C _:=a.fl.get hf;show#[_,O,#[2,G.a,G.C,G.dx,_,Y,a.ob,c,#[l,by rw[GJ,a.fl.len];have:=G.tl_len;omega,?_]]];rw[ky C];have g:=uY (o:=.ins G.C G.dx<|yZ H v G.fs++G.tl) b k<|.inl Y;show N v F U _ M (b.wrI k Y Y (λp o j _ x _=>by rw[zg x];show j) (b.tp.updO (A _<|.inl Y).1<|ve a.ob) #[zi,(GF.put P a.fl).same g,λz=>by rw[zg (a.ne z).symm];show a.ls z,a.av.same g,a.ne,a.eq]) r
def zE2 (i:Nat)(l:n[i]?=J (J (.inn G)))(c:GP f.K G.C)(E:zL f.K G.C G.nm)(k:G.pl=I)(hf:yn G.kvs G.nm=D)(h:DP f n j λd=>G.past.length<1000/\∀v,D0 f (n.set i (J (.inn (G.app v d)))) i7 h9)(s:G.nm=H)
  (O: ~~~(f.N[i]?=J p)) (N:‹GO f.env.scope p›) (M:‹Yl p›) (t:‹Ym p›)
  (u: ~~~(Z0 (.Name p K) H f.env (eval (.Name p K) f.env)=eval (.Name p K) f.env))
  (e: ~~~(Z0 (.Attribute (.Name p K) H fC) "append" f.env (eval (.Attribute (.Name p K) H fC) f.env)=eval (.Attribute (.Name p K) H fC) f.env)) (A: ~~~Uo j [] f.env)
  (w: ~~~(((((Zx Aq<|A3 [j] f.env).all λp=>!p.fst)&&(Z4 Aq<|Zy [] f.env).all λp=>p.fst.isSome)&&decide (([j].length+([]:T3).length+if([]:T3).isEmpty=I then 0 else 1)<30))=I))
  (b: ~~~((k9.endLine == Aq.line)=I)) (x: ~~~(Z1 (.Call (.Attribute (.Attribute (.Name p K) H fC) "append" k9) [j] [] Aq) D y.line f.env=pure Za)):
  D0 f n (.Expr (.Call (.Attribute (.Attribute (.Name p K) H fC) "append" k9) [j] [] Aq) y::i7) h9:=λF U P S m r=>by subst s;have Wf C a z:=m.inn l;show#[_,zt (vw (qB JV PySem.F.slot_list_append PySem.F.type_list_append sI (pO (zG O N M t) u) (zo zh zI A) e w b A) x) zC,#[_,C,#[G.a,G.C,#[0,G.dx,_,.ref G.lp,Y,a.ob,#[c,E,a.look k hf,.inl #[Y,#[_,D3.of<|a.ls k]],?_]]]]];show h F U P _ m λd v V B Q R T=>?_;have q:=m.kz R Q;have Wf C a z:=q.inn l;show#[8,G.lp,G.xs,v,Y,Y,a.ls k,by rw[a.av.length];show yu<|Hy B.1,?_];have g:=uY (o:=.lst<|G.xs++[v]) q l<|.inr Y;show B.2 v F U _ S (q.wrI l Y Y (λp o j _ _ L=>by rw[zg L];show j) (q.tp.updO (z _<|.inr Y).1<|xT<|a.ls k) #[by rw[zg (a.ne k)];show a.ob,a.fl.same g,λ_=>zi,(a.av.same g).append<|.cons (T.same g) .nil,a.ne,a.eq]) r
structure oA (P:C5)(w:C6)(K:Cl)(mg:Tt)(base:C7)(x:Zv)(k:Nat)(φ:Tj):Prop where
 ex:∃f fd ps,mg x=J (.ref f)/\Zh K (.ref f)=I/\DQ K fd ps []/\zX P w K mg base GA k f fd ps (Ki φ)
structure yf (P:C5)(w:C6)(K:Cl)(mg:Tt)(base:C7)(C:Ch)(m:Zv)(k:Nat)(φ:Tj):Prop where
 ex:∃f fd ps,GP K C/\Ge K C m f/\DQ K fd ps []/\zX P w K mg base GA k f fd ps (Ki φ)
def HP (X:Cx)(O:Ev)(i:Nat)(e:Dc)(Q:A2->zD->Prop):Prop:=∀(F:Fr) (U:St) (H:Hp) (R:VK),M F O U H->(∀d b v a,Q d b->M F (O.set i<|J<|.inn b) U a->AV (Gz F (O.set i<|J<|.inn b) U a) v d->R v a)->uB X e U H R
variable {Al:Option L2.A}
def jH(h:n[l]?=J Al):n.set l Al=n:=by have Wb a e:=Gm.mp h;subst e;show List.set_getElem_self a
theorem Kz.giv(g:M z n B m)(j:n[l]?=J (J (.inn G)))(h:yh (z.giv n B m G) e9 d7 (.res dc G)):Kz z m d7:=λx o e i=>by
 have Wf _ a _:=g.inn j;have Wn _ f _ d _:=h;by_cases b:x=G.a;subst b;rw[a.ob]at e;cases e;show d.ob;by_cases c:x=G.lp;cases zp:G.pl with|true=>subst c;rw[a.ls zp]at e;cases e;show d.ls zp|false=>show Ut (c.trans<|a.eq zp) b
 show f x o (zr (p:=λx=>x≠G.a/\x≠G.lp) #[b,c] e) i
variable {Bk:A2->zD->Prop}
def iM{E:XK}(f:M z n B m)(g:n[l]?=J (J (.inn G)))(i:zQ z (Gz z n B m) dU p9)(e:k7 (.inn G::p9) λa=>∃d b,a=.res d b/\b.a=G.a/\b.lp=G.lp/\Bk d b)(k:∀d b v c,Bk d b->M z (n.set l (J (.inn b))) B c->AV (Gz z (n.set l (J (.inn b))) B c) v d->Ae v c):Ki k7 (.ref G.a::dU) m Ae E:=
 rn f g i e λa v c p r=>by have Wj d b rfl s o q:=p;have Wc h j:=r.backI f g s o;show k d b v c q h j
def eG{E:XK}(e:M z n B m)(c:n[l]?=J (J (.inn G)))(j:zQ z (Gz z n B m) dU p9)(f:k7 (.inn G::p9) λa=>∃d,a=.res d G/\Q d)(k:∀d v b,Q d->zF z b->Kz z m b->AV (Gz z n B b) v d->Ae v b):Ki k7 (.ref G.a::dU) m Ae E:=
 rn e c j f λa v b o h=>by have Wa d rfl q:=o;have Wc i g:=h.backI e c Y Y;rw[jH c]at g;show k d v b q i.tp (Kz.giv e c h) g
def uw (i:Nat)(g:n[i]?=J (J (.inn G)))(C:oA f.prog f.w f.K f.mg f.base p l k7)(X:zH l f.A)(hg:Gl f p)(h:G7 f n O λj=>k7 (.inn G::j) λa=>∃d,a=.res d G/\Q d)
  (x: ~~~(f.N[i]?=J H)) (w:‹GO f.env.scope H›) (u:‹Yl H›) (c:‹Ym H›)
  (b:‹Yl p›) (m: ~~~(A3 (.Name H y::O) f.env=(Za,eval (.Name H y) f.env)::A3 O f.env)) (e: ~~~Uq K O f.env):DP f n (.Call (.Name p fC) (.Name H y::O) [] K) Q:=λF U z R m8 o=>by have Wm a0 fd ps W M s B:=C.ex;show#[_,tG B X hg W M s .nil we (zo (zG x w u c) yb m) b m e,_,(m8.inn g).1,h F U z _ m8 λj N L S A k Z=>?_];change Ki k7 ((V.ref G.a::N)++[]) L R E0;rw[G9];show(eG (E:=E0) (m8.kz k A) g Z S λd v T q t P r=>o d v T q t (k.trans P) r)
def uQ (i:Nat)(k:n[i]?=J (J (.inn G)))(C:oA f.prog f.w f.K f.mg f.base p l k7)(N:zH l f.A)(hg:Gl f p)(h:G7 f n O λm=>k7 (.inn G::m) λa=>∃d b,a=.res d b/\b.a=G.a/\b.lp=G.lp/\Bk d b)
  (z: ~~~(f.N[i]?=J H)) (w:‹GO f.env.scope H›) (v:‹Yl H›) (g:‹Ym H›)
  (c:‹Yl p›) (j: ~~~(A3 (.Name H y::O) f.env=(Za,eval (.Name H y) f.env)::A3 O f.env)) (e: ~~~Uq K O f.env):HP f n i (.Call (.Name p fC) (.Name H y::O) [] K) Bk:=λF U B R m8 o=>by have Wm T S Q A r s M:=C.ex;show#[_,tG M N hg A r s .nil we (zo (zG z w v g) yb j) c j e,_,(m8.inn k).1,h F U B _ m8 λm t q x L u P=>?_];change Ki k7 ((V.ref G.a::t)++[]) q R E0;rw[G9];show(iM (E:=E0) (m8.kz u L) k P x o)
def uo (i:Nat)(q:n[i]?=J (J (.inn G)))(N:yf f.prog f.w f.K f.mg f.base G.C H l k7)(T:zH l f.A)(hf:yn G.kvs H=D)(Q:H≠G.nm)(h:G7 f n (j::O) λr=>k7 (.inn G::r) λa=>∃d b,a=.res d b/\b.a=G.a/\b.lp=G.lp/\Bk d b)
  (x: ~~~(f.N[i]?=J p)) (w:‹GO f.env.scope p›) (v:‹Yl p›) (e:‹Ym p›)
  (k: ~~~Uo j O f.env) (o: ~~~Uq K O f.env)
  (P: ~~~(eval (.Call (.Attribute (.Name p y) H fC) (j::O) [] K) f.env=(do
   let ov <-eval (.Name p y) f.env
   Z8 fC.atName
   let(s,first) <-Z9 [ov] (Z6 ov H AB)
   ZA K s first (Zx K<|A3 (j::O) f.env) (Z4 K<|Zy [] f.env)))):HP f n i (.Call (.Attribute (.Name p y) H fC) (j::O) [] K) Bk:=λF U z R g u=>by have Wm s X W c m L B:=N.ex;have Wf S t _:=g.inn q;show#[_,nM (zG x w v e) c m B T L .nil we yb k o P,_,S,G.a,G.dx,_,Y,t.ob,t.look_m hf Q,h F U z _ g λr us Z M A C V=>?_];rw[G9];show(iM (E:=E0) (g.kz C A) q V M u)
def wu (i:Nat)(o:n[i]?=J (J (.inn G)))(W:yf f.prog f.w f.K f.mg f.base G.C H l k7)(hr:zH l f.A)(hf:yn G.kvs H=D)(Z:H≠G.nm)(h:G7 f n (j::O) λs=>k7 (.inn G::s) λa=>∃d,a=.res d G/\Q d)
  (C: ~~~(f.N[i]?=J p)) (B:‹GO f.env.scope p›) (A:‹Yl p›) (b:‹Ym p›)
  (g: ~~~Uo j O f.env) (m: ~~~Uq K O f.env)
  (X: ~~~(eval (.Call (.Attribute (.Name p y) H fC) (j::O) [] K) f.env=(do
   let ov <-eval (.Name p y) f.env
   Z8 fC.atName
   let(w,first) <-Z9 [ov] (Z6 ov H AB)
   ZA K w first (Zx K<|A3 (j::O) f.env) (Z4 K<|Zy [] f.env)))):DP f n (.Call (.Attribute (.Name p y) H fC) (j::O) [] K) Q:=λF U L R e z=>by have Wm w fd ps c k P N:=W.ex;have Wf hl x _:=e.inn o;show#[_,nM (zG C B A b) c k N hr P .nil we yb g m X,_,hl,G.a,G.dx,_,Y,x.ob,x.look_m hf Z,h F U L _ e λs us H1 T M u r1=>?_];rw[G9];show(eG (E:=E0) (e.kz u M) o r1 T λd v V q t S r=>z d v V q t (u.trans S) r)
def tM (i:Nat)(k:n[i]?=J (J (.inn G)))(v:yf f.prog f.w f.K f.mg f.base G.C H l k7)(B:zH l f.A)(hf:yn G.kvs H=D)(z:H≠G.nm)(h:k7 [.inn G] λa=>∃d b,a=.res d b/\b.a=G.a/\b.lp=G.lp/\Bk d b)
  (x: ~~~(f.N[i]?=J p)) (u:‹GO f.env.scope p›) (t:‹Yl p›) (g:‹Ym p›)
  (w: ~~~(eval (.Call (.Attribute (.Name p y) H fC) [] [] K) f.env=(do
   let ov <-eval (.Name p y) f.env
   Z8 fC.atName
   let(m,first) <-Z9 [ov] (Z6 ov H AB)
   ZA K m first (Zx K<|A3 [] f.env) (Z4 K<|Zy [] f.env)))):HP f n i (.Call (.Attribute (.Name p y) H fC) [] [] K) Bk:=λF U L R j q=>by have Wm m M C c e s r:=v.ex;have Wf A o _:=j.inn k;show#[_,pM (zG x u t g) c e r B s .nil we w,_,A,G.a,G.dx,_,Y,o.ob,o.look_m hf z,?_];show(iM (E:=E0) j k .nil h q)
def sM (i:Nat)(j:n[i]?=J (J (.inn G)))(u:yf f.prog f.w f.K f.mg f.base G.C H l k7)(A:zH l f.A)(hf:yn G.kvs H=D)(x:H≠G.nm)(h:k7 [.inn G] λa=>∃d,a=.res d G/\Q d)
  (w: ~~~(f.N[i]?=J p)) (t:‹GO f.env.scope p›) (s:‹Yl p›) (e:‹Ym p›)
  (v: ~~~(eval (.Call (.Attribute (.Name p y) H fC) [] [] K) f.env=(do
   let ov <-eval (.Name p y) f.env
   Z8 fC.atName
   let(k,first) <-Z9 [ov] (Z6 ov H AB)
   ZA K k first (Zx K<|A3 [] f.env) (Z4 K<|Zy [] f.env)))):DP f n (.Call (.Attribute (.Name p y) H fC) [] [] K) Q:=λF U C R g o=>by have Wm k L B c b r q:=u.ex;have Wf z m _:=g.inn j;show#[_,pM (zG w t s e) c b q A r .nil we v,_,z,G.a,G.dx,_,Y,m.ob,m.look_m hf x,?_];show(eG (E:=E0) g j .nil h o)
def xB (i:Nat)(h:HP f n i j λd b=>Bk (.tuple [.str m8,d]) b)(o: ~~~(A3 [.Constant (.str m8) i5 fC,j] f.env=(Za,eval (.Constant (.str m8) i5 fC) f.env)::A3 [j] f.env))(c: ~~~Uo j [] f.env):HP f n i (.Tuple [.Constant (.str m8) i5 fC,j] N K) Bk:=λF U s R H l=>by show#[_,ml<|zo vC (zo zh zI c) o,h F U s _ H λd b v k q g r=>?_];show#[by change 2<=Zw;decide,λy e=>?_];have m:zv k (upd k y<|.tup [.str m8,v]):=zP e;show l _ b _ _ q (g.kz (Kz.of_same m)<|g.tp.same m)<|.tup (zr (g.fresh e) zi)<|.cons (.str _)<|.cons (r.same<|zj λa p t j=>#[t,by rw[zg (zk j e)];show j]) .nil
def zP4 (i b:Nat)(k:f.N.Nodup)(h:HP f n i j λd a=>D0 f ((n.set i (J (.inn a))).set b (J (.dat d))) i7 h9)(q: ~~~(f.N[b]?=J H))(m:@&IT f.env.scope H)
  (t: ~~~(Z1 j (J<|.Name H K) y.line f.env=pure Za)) (hf:@&(f.fn H=I\/f.env.scope.names.lookup H=J .local)):D0 f n (.Assign [.Name H K] j y::i7) h9:=λF U l e p r=>by show#[_,zt (vE k q m zh t hf) zC,h F U l _ p λd a v c g o s=>g F _ c e (o.set s) r]
variable {l9:L2.A}
def xE (i:Nat)(e:n[i]?=J (J l9))(h:HP f n i j λd a=>h9.rt (.res d a)):D0 f n (.Return (J j) y::i7) h9:=λF U H l p r=>by show#[_,zt (vh zh) zC,h F U H _ p λd a v k c b g=>r.rt _ _ _ (yh.res b (IV #[_,e]) g) c]
def wZ (i:Nat)(h:HP f n i j λ_ b=>D0 f (n.set i (J (.inn b))) i7 h9)(a: ~~~(Z1 j D y.line f.env=pure Za)):D0 f n (.Expr j y::i7) h9:=λF U H e p r=>by show#[_,zt (vw zh a) zC,h F U H _ p λd b v c k g l=>k F _ c e g r]
theorem D2.snoc_inv {G:Hp}{d:A2}:∀{b:TL}{xs:TM},D2 G xs (b++[d])->∃a v,xs=a++[v]/\D2 G a b/\AV G v d
 |[],_,.cons h .nil=>#[[],_,Y,.nil,h]
 |e::b,_,.cons h r=>by have Wd a v rfl f c:=D2.snoc_inv r;show#[_::a,v,Y,.cons h f,c]
abbrev zD.back (s:zD)(b:TM)(a:TL):zD:={s with xs:=b,past:=a}
def z94 (i:Nat)(t:n[i]?=J (J (.inn G)))(c:GP f.K G.C)(N:zL f.K G.C G.nm)(b:G.pl=I)(hf:yn G.kvs G.nm=D)(hp:G.past=T++[dc])(q:∀s,Bk dc (G.back s T))(w:G.nm=H)
  (S: ~~~(f.N[i]?=J p)) (Q:‹GO f.env.scope p›) (P:‹Yl p›) (A:‹Ym p›)
  (B: ~~~(Z0 (.Name p y) H f.env (eval (.Name p y) f.env)=eval (.Name p y) f.env))
  (r: ~~~(Z0 (.Attribute (.Name p y) H K) "pop" f.env (eval (.Attribute (.Name p y) H K) f.env)=eval (.Attribute (.Name p y) H K) f.env)) (l: ~~~((fC.endLine == k9.line)=I)):
  HP f n i (.Call (.Attribute (.Attribute (.Name p y) H K) "pop" fC) [] [] k9) Bk:=λF U E R m k=>by
 subst w;have Wf hl d V:=m.inn t;have C:=d.av;rw[hp]at C;have Wd s v e Z W:=C.snoc_inv;show#[_,Qy JV PySem.F.slot_list_pop PySem.F.type_list_pop Qz (pO (zG S Q P A) B) r l,#[_,hl,#[G.a,G.C,#[0,G.dx,_,.ref G.lp,Y,d.ob,#[c,N,d.look b hf,.inl #[Y,#[_,D3.of<|d.ls b]],?_]]]]];show#[8,G.lp,G.xs,v,Y,Y,d.ls b,by rw[e];simp,?_];have g:=uY (o:=.lst G.xs.dropLast) m t<|.inr Y;have X:=m.wrI (s':=G.back s T) t Y Y (λp o e _ _ O=>by rw[zg O];show e) (m.tp.updO (V _<|.inr Y).1<|xT<|d.ls b) #[by change upd E G.lp _ G.a=_;rw[zg (d.ne b)];show d.ob,d.fl.same g,λ_=>by change upd E G.lp _ G.lp=_;rw[zi,e,List.dropLast_concat],Z.same g,d.ne,d.eq];show k dc _ v _ (q s) X<|(W.same g).same<|zj λp o h e=>#[λz=>h ?_,e];rcases z with z|⟨j,a,u,e1,L,M⟩;show .inl z
 rcases zx e1 with⟨rfl,z⟩|⟨_,x⟩;cases z;show .inr #[0,_,_,_,t,L,M]
 show .inr #[0,j,a,u,x,L,M]
def ya5(w:f.A.units+64<cLine):GK f (Z5 .Eq) (λx y H Q=>∃l b xs,x=.ref l/\y=.ref b/\H l=J (.lst xs)/\H b=J (.lst [])/\Q (.bl xs.isEmpty) H):=by
 intro a s U H x y v u Q c i e h;have#[l,b,xs,rfl,rfl,g,d,q]:=h;cases xs with|nil=>show QE w a s U H _ _ v u Q c i e #[4,.list [],.list [],.lst g .nil,.lst d .nil,Y,Y,q]|cons z r=>have#[_,m,n,C,o,k]:=c.lstM g;have#[_,j,A,B,t,p]:=c.lstM d;obtain rfl:v=.ref l:=i;obtain rfl:u=.ref b:=e;show P.eq_list_lengths k p ?_ () #[.bl Za,H,c,Y,q];simp[<-o,<-t]
def za0(h:dU.length=T.length):dU.isEmpty=T.isEmpty:=by cases dU<;>cases T<;>simp_all
variable {l6:Um}
def kH(i:Nat)(w:f.A.units+64<cLine)(x:n[i]?=J (J (.inn G)))(c:GP f.K G.C)(o:zL f.K G.C G.nm)(a:G.pl=I)(hf:yn G.kvs G.nm=D)(q:l6 G.past.isEmpty)(e:G.nm=H)
  (t: ~~~(f.N[i]?=J p)) (s:‹GO f.env.scope p›) (r:‹Yl p›) (g:‹Ym p›)
  (d: ~~~(Z0 (.Name p K) H f.env (eval (.Name p K) f.env)=eval (.Name p K) f.env)):GX f n (.Compare (.Attribute (.Name p K) H fC) [.Eq] [.List [] k9] y) l6:=λF U l R m k=>by subst e;have Wf v b z:=m.inn x;show#[_,qc (ya5 w) (pO (zG t s r g) d) (nZ zI)<|yN _,?_];show#[_,v,#[G.a,G.C,#[0,G.dx,_,.ref G.lp,Y,b.ob,#[c,o,b.look a hf,by change 0<=Zw;decide,λj u=>?_]]]];have h:zv l (upd l j<|.lst []):=zP u;show#[3,G.lp,j,G.xs,Y,Y,h _ _<|b.ls a,#[zi,_,Y,?_]];rw[za0 b.av.length];show k _ _ q (m.tp.same h)<|Kz.of_same h
noncomputable abbrev zD.new (C x a:Ch):zD:=#[x,x,C,a,"",[],[],[],[],Za]
def M.growI (p:M z n B m)(E:n[l]?=J (J (.inn G)))(ea:Ap.a=G.a)(el:Ap.lp=G.lp\/m Ap.lp=D)(k:∀x o,m x=J o->NT z x->x≠G.a->x≠G.lp->d7 x=J o)(t:zF z d7)(h:xM (Gz z (n.set l (J (.inn Ap))) B d7) d7 Ap):M z (n.set l (J (.inn Ap))) B d7:=by
 have Wf K h0 P:=p.inn E;have Q:∀{x v},Fc v (.inn Ap) x->Fc v (.inn G) x\/m x=D:=λ{x v} f=>f.elim (λd=>.inl<|.inl<|d.trans ea) λd=>el.elim (λw=>.inl<|.inr<|d.trans w) λw=>.inr (by rw[d];show w);have O:∀{j:Nat} {a:A} {v:T6},(n.set l<|J<|.inn Ap)[j]?=J (J a)->B[j]?=J v->(l=j/\a=.inn Ap/\v=J (.ref G.a))\/(l≠j/\n[j]?=J (J a)):=λ{j a v} s i=>by
  rcases zx s with⟨rfl,d⟩|⟨L,g⟩;cases d;rw[K]at i;cases i;show .inl #[Y,Y,Y]
  show .inr #[L,g]
 have a0:∀{y:Ch},Ow z (n.set l<|J<|.inn Ap) B y->Ow z n B y\/m y=D:=λ{y} h=>by
  rcases h with d|⟨j,a,v,s,i,f⟩;show .inl<|.inl d
  rcases O s i with⟨rfl,rfl,rfl⟩|⟨L,g⟩;show(Q f).imp (λf=>.inr #[0,l,_,_,E,K,f]) id
  show .inl<|.inr #[0,j,a,v,g,i,f]
 have ol:∀{x},G.at x->Ow z n B x:=λf=>.inr #[0,l,_,_,E,K,f];have gs:=zj λa o h e=>#[λd=>(a0 d).elim h (λw=>by rw[w]at e;cases e),k a o e (p.tp.nt<|GL h) (λd=>h<|ol<|.inl d) λd=>h<|ol<|.inr d];have nj:∀{j:Nat} {a:A} {v:T6} {x:Ch},l≠j->n[j]?=J (J a)->B[j]?=J v->Fc v a x->x≠G.a/\x≠G.lp:=λL s i f=>#[λd=>L<|p.dj l _ _ _ _ _ _ E s K i (.inl d) f,λd=>L<|p.dj l _ _ _ _ _ _ E s K i (.inr d) f];have nn:∀{j:Nat} {a:A} {v:T6} {x:Ch},n[j]?=J (J a)->B[j]?=J v->Fc v a x->m x=D->False:=λs i f w=>by have Ws _ _ o e _:=p.ft s i f;rw[w]at e;cases e
 show#[by rw[Ht];show p.len,λj a v s i=>?_,λj U a b v t x s i T R S W=>?_,λj r q e U a v x s i f=>?_,t,λy o e C=>?_,?_];rcases O s i with⟨rfl,rfl,rfl⟩|⟨L,g⟩;show#[by rw[ea],h,λx d=>(Q (v:=D) d).elim (P x) λw=>#[GL<|p.fresh w,p.fresh0 w]]
 show(p.ok j a v g i).stay gs (λy u f e=>?_) Y λr q a4 N=>#[N.tp,N.o,N.ok.re t N.tp.symm,λy u e C=>?_];have Wf w1 w2 _:=p.ft g i f;have Wc n1 n2:=nj L g i f;show#[k y u e (p.tp.nt w1) n1 n2,w1,w2];have xd:=λx f=>p.xd j r q (by rw[<-a4];show g) l _ _ x E K f;show k y u (N.k y u e C) #[λa b c d=>C.1 a b c<|N.tp.trans d,C.2] (λd=>by rw[xd y (.inl d)]at e;cases e) λd=>by rw[xd y (.inr d)]at e;cases e
 rcases O s T with⟨rfl,rfl,rfl⟩|⟨L,g⟩;rcases O i R with⟨rfl,_⟩|⟨a3,F⟩;rfl
 show(Q S).elim (λf=>p.dj l U _ b _ t x E F K R f W) λw=>(nn F R W w).elim;rcases O i R with⟨rfl,rfl,rfl⟩|⟨a3,F⟩;show(Q W).elim (λf=>p.dj j l a _ v _ x g E T K S f) λw=>(nn g T S w).elim
 show p.dj j U a b v t x g F T R S W;rcases zx e with⟨_,d⟩|⟨_,X⟩;cases d
 rcases O s i with⟨rfl,rfl,rfl⟩|⟨_,g⟩;show(Q f).elim (λf=>p.xd j r q X l _ _ x E K f) λw=>(p.lnk X).none w
 show p.xd j r q X U a v x g i f;show k y o (p.keep y o e C) C (λd=>by rw[d,(P _<|.inl Y).2]at e;cases e) λd=>by rw[d,(P _<|.inr Y).2]at e;cases e
 show M.oex' (H:=G.un m) t (λx o e C=>?_) λx d=>?_;have Wc Z e:=zf e;have#[n1,n2]:=Z;show k x o e C n1 n2;have Wa o e C:=p.oex x d;show#[o,zr #[λy=>(P x<|.inl y).1 d,λy=>(P x<|.inr y).1 d] e,C]
theorem uV {f:Zv}{v:V}:∀{a:Tw},a.lookup f=D->yZ f v a=a++[(f,v)]
 |[],_=>rfl
 |(g,x)::a,h=>by rw[Hs]at h;change(if g=f then(g,v)::a else(g,x)::yZ f v a)=_;by_cases z:g=f;rw[show(f == g)=I by rw[z];simp]at h;cases h;rw[Us z,uV (by rwa [show(f == g)=Za from JW.mpr<|Gx z]at h)];rfl
theorem GF.snoc {G:Hp}{f:Zv}{v:V}{d:A2}(a:AV G v d):∀{c:Tw}{ds:Tv},GF G c ds->GF G (c++[(f,v)]) (ds++[(.str f,d)])
 |_,_,.nil=>.cons a .nil
 |_,_,.cons h r=>.cons h<|GF.snoc a r
noncomputable abbrev zD.add (s:zD)(f:Zv)(v:V)(d:A2):zD:={s with fs:=s.fs++[(f,v)],kvs:=s.kvs++[(.str f,d)]}
noncomputable abbrev zD.hold (s:zD)(f:Zv)(p:Ch):zD:={s with lp:=p,nm:=f,xs:=[],past:=[],pl:=I}
def dD (i:Nat)(l:n[i]?=J (J (.inn G)))(e:G.pl=Za)(c:GP f.K G.C)(q:zL f.K G.C H)(hf:yn G.kvs H=D)(hk:G.kvs.length<900)(h:DP f n j λd=>∀v,D0 f (n.set i (J (.inn (G.add H v d)))) i7 h9)
  (B: ~~~(f.N[i]?=J p)) (x:‹GO f.env.scope p›) (w:‹Yl p›) (k:‹Ym p›)
  (P: ~~~(Z1 j (J<|.Attribute (.Name p K) H fC) y.line f.env=pure Za)):D0 f n (.Assign [.Attribute (.Name p K) H fC] j y::i7) h9:=λF U C u m r=>by show#[_,zt (xV (zG B x w k) zh P) zC,h F U C _ m λd v Q A M t O=>?_];have b:=m.kz t M;have Wf N a L:=b.inn l;show#[_,N,#[2,G.a,G.C,G.dx,_,Y,a.ob,c,#[q,by rw[GJ,a.fl.len];have:=G.tl_len;omega,?_]]];rw[zD.tl_f e,G9,uV (a.fl.none hf)];have g:=uY (o:=.ins G.C G.dx<|G.fs++[(H,v)]) b l<|.inl Y;show A v F U _ u (b.wrI l Y Y (λp o j _ E _=>by rw[zg E];show j) (b.tp.updO (L _<|.inl Y).1<|ve a.ob) #[by rw[zi,zD.tl_f (s:=G.add H v d) e,G9],(GF.snoc O a.fl).same g,λz=>(by rw[e]at z;cases z),a.av.same g,a.ne,a.eq]) r
def zk9 (i:Nat)(s:n[i]?=J (J (.inn G)))(Q:G.pl=Za)(c:GP f.K G.C)(A:zL f.K G.C H)(hf:yn G.kvs H=D)(hk:G.kvs.length<900)(h:∀d,D0 f (n.set i (J (.inn (G.hold H d)))) i7 h9)
  (L: ~~~(f.N[i]?=J p)) (C:‹GO f.env.scope p›) (B:‹Yl p›) (u:‹Ym p›)
  (O: ~~~(Z1 (.List [] k9) (J<|.Attribute (.Name p K) H fC) y.line f.env=pure Za)):D0 f n (.Assign [.Attribute (.Name p K) H fC] (.List [] k9) y::i7) h9:=λF U q P m r=>by
 show#[_,zt (xV (zG L C B u) (nZ zI) O) zC,by change 0<=Zw;decide,λd b=>?_];have Wf w k N:=m.inn s;have l:zv q (upd q d<|.lst []):=zP b;have x:d≠G.a:=λz=>by rw[z,k.ob]at b;cases b
 show#[_,w,#[2,G.a,G.C,G.dx,_,Y,l _ _ k.ob,c,#[A,by rw[GJ,k.fl.len];have:=G.tl_len;omega,?_]]];rw[zD.tl_f Q,G9,uV (k.fl.none hf)];show h d F U _ P (m.growI s Y (.inr b) (λp o j _ M _=>by rw[zg M];show l p o j) ((m.tp.same l).updO (N _<|.inl Y).1<|ve<|l _ _ k.ob) ?_) r;have g:zv (Gz F n U q) (Gz F (n.set i<|J<|.inn<|G.hold H d) U<|upd (upd q d<|.lst []) G.a<|.ins G.C G.dx<|G.fs++[(H,.ref d)]):=zj λE o h j=>#[λz=>?_,by rw[zg λz=>h<|.inr #[0,i,_,_,s,w,.inl z]];show l E o j];show#[by rw[zi,zD.tl_t Y],k.fl.same g,λ_=>by rw[zg x,zi],.nil,λ_=>x.symm,λz=>by cases z];rcases z with z|⟨S,a,v,e1,R,e⟩;show h<|.inl z
 rcases zx e1 with⟨rfl,z⟩|⟨_,t⟩;cases z;rcases e with e|e;show h<|.inr #[0,_,_,_,s,w,.inl e]
 have e:=e;rw[e,b]at j;cases j;show h<|.inr #[0,S,a,v,t,R,e]
def Q7 (K:Cl)(a:Ch)(n:Nat):It:=
 #[λi H=>∃xs x,D3 K H a xs/\xs.length=n/\i<n/\xs[n-1-i]?=J x,λi H x b=>b=H/\∀xs,D3 K H a xs->xs[n-1-i]?=J x,λi H=>n<=i]
theorem zt6(a r:Ch)(n:Nat):HL E s q j (Q7 q a n) [r] r (λi h=>i<=n/\h.IsRevIter r a ((n:Int)-1-(i:Int))) where
 mem:=by simp
 obj:=λi h f b m=>by
  have e:b=r:=by simpa using m
  subst e;have Wc _ C:=f;have We o e c d:=C;show#[o,e,λv z=>by rw[d]at z;cases z]
 keep:=λi h P f k=>#[f.1,f.2.at λo e=>k r () o e]
 item:=by
  intro X K hw B O i w T U H S t hf f hg;subst K hw B;have Wj xs x V hl R N:=hg;have We a0 Z p hz:=t.list V;have Wa u hu ru:=Z.get N;have Wt y F f2 M L G:=hf r ();have e1:(n-1-i)=((n-1-i:Nat):Int):=by lia
  have g:=f.2;rw[e1]at g;show wpAny_pyNext_rev_item g p.isList (by simpa using hu) λP l sb=>?_;have We o e c d:=id l;have e2:(((n-1-i:Nat):Int)-1)=n-1-((i+1:Nat):Int):=by lia
  rw[e2]at l;show#[u,Y,oM e c d () #[4,x,H,(t.turned (λb o m e=>(sb.2 b m).trans e) y F M L G),ru,#[Y,λys W=>by rw[t.list_inj W V];show N],#[R,l],λb m=>(hf b m).1]]
 done:=by intro X K hw B O i w T U H S t hf f hg;subst K hw B;have R:=JM f.1 hg;have Wt y F f2 M L G:=hf r ();have g:=f.2;rw[show((n:Int)-1-i)=-1 by lia]at g;show wpAny_pyNext_rev_end (t.ok.hd O) g λP eb=>#[Y,t.turned (λb o m e=>eb b o m e) y F M L G]
 self:=λA i T Q S f h=>wpAny_pyIter_revIter f.2 h
def yl5 (K:Cl)(c:TA):TI:=λU H R=>c U H λb a=>∃l xs,b=[.ref l]/\D3 K a l xs/\R (Q7 K l xs.length) a
variable {k8:TA}
def z76(hg:Gl f "reversed")(z:f.mg "reversed"=D)(B:PA f [w] k8)(F: ~~~(A3 [w] f.env=[(Za,eval w f.env)])):PI f j (.Call (.Name "reversed" y) [w] [] K) (yl5 f.K k8):=by
 intro c s U H R p h;show Call_<|xw p hg z boot_reversed<|JA (D1 (B K c s U H _ p h) λG g k=>?_) F Y;have Wd L r i C x:=k;have Wd n xs e l q:=x;subst e;have Wa u rfl E:=DS.one C;cases(E);have We a m A t:=i.list l;show call_reversed_list A.isList ?_;have d:({g with heap:=g.heap.push<|revObj n<|(a.toArray.size:Int)-1}:C1).heap.IsRevIter g.heap.objs.size n ((xs.length:Int)-1-(0:Int)):=by show#[_,GB _ Y,Y,?_];change Data.fields _=_;rw[GS,m.length];simp
 show wpAny_pyIter_revIter d #[_,_,_,#[5,_,r,Y,i.kept λb o e=>D6 _ e,zt6 n _ xs.length,#[Gj _,d],λb v=>?_,q]];have e:b=g.heap.objs.size:=by simpa using v
 subst e;show i.fpOk (D4 _)<|i.hok.fresh<|D4 _
variable {j2:TL->Prop}
def z97{a:Pos}(hg:Gl f "reversed")(N:f.mg "reversed"=D)(h:DP f n w λx=>∃c,x=.list c/\j2 c.reverse)(r: ~~~(A3 [w] f.env=[(Za,eval w f.env)])):
  HN f n j (.Call (.Name "reversed" y) [w] [] a) j2:=λF U H R m k=>by
 show#[_,z76 hg N (zo zh zI r) r,h F U H _ m λx P G M C L O=>?_];have Wa c rfl q:=M;have Wd E xs rfl o e:=O.lst_inv;show#[E,xs,Y,D3.of (zf o).2,k _ _ G q C L λi Q y s=>#[λd g=>?_,λu=>?_]];have t:=D3.of (K:=f.K) (zf<|s _ _ o).2;have p:i<c.length:=by have:=(Gm.mp g).1;rwa [Jp]at this
 rw[Nq p]at g;have Wa A b l:=e.get g;rw[<-e.length]at b;show#[#[1,xs,A,t,Y,by rw[e.length];show p,b],λv S B=>?_];have Wc rfl z:=B;have:=z _ t;rw[b]at this;cases this;show#[zv.refl _,λ_=>l.same s];rw[Jp,<-e.length]at u;show u
def Lj (w:C6):List DictEntry->Tw->Prop:=Paired λe p=>e.hash=hashStr w p.1/\(∃t,e.key=.str p.1 t)/\DT p.2 e.val
def cA (K:Cl)(w:C6)(d:Ch)(a:Tw):Prop:=
 ∃b n,K.lookup d=J #[.type "dict",D,.dict b n,[].toArray]/\Lj w b.toList a/\(a.map (·.1)).Nodup
variable {BV:List DictEntry}
def oK(h:Lj s BV o9):Pairs (PySem.strKind E s) BV (List.zipWith (λe (p:Zv×V)=>(p.1,e.val)) BV o9):=by
 induction h with|nil=>show .nil|cons q _ c=>have Wf _ a _:=q;have#[t,b]:=a;show .cons (by rw[b];simp[PySem.strKind,hX]) Y c
def mj(h:Lj s BV o9):(List.zipWith (λe (p:Zv×V)=>(p.1,e.val)) BV o9).map (·.1)=o9.map (·.1):=by
 induction h with|nil=>rfl|cons _ _ a=>simp only[List.zipWith_cons_cons,GW,a]
def jn(h:Lj s BV o9):∀e∈BV,∃k,(PySem.strKind E s).is k e.key=I/\e.hash=(PySem.strKind E s).hash k:=by
 induction h with
 |nil=>intro e a;simp at a
 |@cons _ p _ _ q _ ih=>
  have Wf d b _:=q;have#[t,c]:=b;intro e a;rcases D7.mp a with rfl|a;show#[p.1,by rw[c];simp[PySem.strKind,hX],d]
  show ih e a
def zF8(b:Lj s BV o9)(h:o9.lookup p=J e9):∃u,valueAt (List.zipWith (λe (a:Zv×V)=>(a.1,e.val)) BV o9) p=J u/\DT e9 u:=by
 induction b with|nil=>simp at h|@cons e a _ _ k _ ih=>have#[y,z]:=a;by_cases q:p=y;subst q;simp only[List.lookup_cons_self,Option.some.injEq]at h;subst h;show#[e.val,by simp[valueAt],k.2.2];rw[Hs,JW.mpr q]at h;have Wa u d c:=ih h;show#[u,?_,c];rw[<-d];simp[valueAt,Jh,Gx q]
def Og (i:Dc):Prop:=∀b a,subscripted i Za b a=operate [b,a] (getItem b a)
variable {r A6:C1}{q5 Bb Cd Ex Ey Ez:String}{i6 nU:To}{q0:Df}{d9:Db}
def yo8(l:typeLookup (.type q5) "__getitem__"=pure (J (.builtin Bb))) (m:Og w)(h:C3 (C4 E s) d9 (eval j q0) (λo d=>C3 (C4 E s) d9 (eval w q0) (λi a=>a.TypeIs o q5/\C3 (C4 E s) d9 (getItem o i) nU i6 a) i6 d) i6 r):C3 (C4 E s) d9 (eval (.Subscript j w y) q0) nU i6 r:=by
 show Subscript_<|D1 h λo d f=>D1 f λi a=>Wc λk b=>?_;unfold subscriptTail;show DL ?_;rw[getitemInPython_of_ne k.not_modules];show DL<|K8 k l ?_;have fin:C3 (C4 E s) d9 (subscripted w Za o i) (λg c=>C3 (C4 E s) d9 (letTemporaryGo j o g >>= λ_=>pure g) nU i6 c) i6 a:=by rw[m o i];show wpAny_operating<|D1 b λg c e=>DL<|wpAny_letTemporaryGo<|DX e
 first
  |show DX (DL fin)
  |show DL (DX (DL fin))
  |show DL fin
variable {j3 v9 BO:TE}
def zh0(hg:Gl f p)(O:f.mg p=J (.ref i))(z:cA f.K f.w i o9)(C:PE f j j3)(E:Og j)(M:‹Yl p›):
  PE f (.Subscript (.Name p y) j K) (λU H Q=>j3 U H λo F=>∃x v,o=.str x/\o9.lookup x=J v/\Q v F):=by
 intro a s U H Q m h;show yo8 PySem.F.slot_dict_getitem.lookup E<|yT m hg O (D1 (C a s U H _ m h) λT B c=>?_) M;have Wd o w l L g:=c;have Wd x v S A P:=g;subst S;have Wb t rfl:=L;have Wd q n R b r:=z;have k:B.heap.DictOf (PySem.strKind f.prog f.w) i (List.zipWith (λe y=>(y.1,e.val)) q.toList o9):=
  #[0,_,q,n,l.kIn _ _ R,#[Y,Y,Y],#[Y,λe d=>jn b e (by simpa using d),oK b,by rw[mj b];show r]]
 have Wa u N G:=zF8 b A;show#[k.typeIs,wpAny_getItem_of (show(PySem.strKind f.prog f.w).is x (.str x t)=I by simp[PySem.strKind,hX]) k.mapOf N #[v,w,l.tok _,G,P]]
def JR :A2->T6
 |.none=>J .non
 |.bool b=>J<|.bl b
 |.int i=>J<|.int i
 |.str x=>J<|.str x
 |_=>Option.none
def z34(h:JR dc=J e9):AV m e9 dc:=by cases dc<;>simp[JR]at h<;>subst h<;>constructor
def zD5(hg:Gl f p)(r:f.mg p=J (.ref i))(g:cA f.K f.w i o9)(h:DP f n j λa=>∃x i v,a=.str x/\o9.lookup x=J v/\JR i=J v/\Q i)(u:Og j:=by show λ_ _=>Y)
  (e:‹Yl p›):DP f n (.Subscript (.Name p y) j K) Q:=λF U H R m k=>by show#[_,zh0 hg r g zh u e,h F U H _ m λa w b l s d t=>?_];have Wm x z v rfl o c q:=l;cases t.str_inv;show#[x,v,Y,o,k _ _ b q s d<|z34 c]
def wV :A2->Bool
 |.none=>I
 |.bool _=>I
 |.int _=>I
 |.str _=>I
 |_=>Za
def mq(h:AV m e9 dc)(f:wV dc=I):uG e9=I/\JR dc=J e9:=by cases h<;>first|show#[Y,Y]|cases f
def kF(h:D2 m dU T)(f:T.all wV=I):dU.all uG=I/\T.map JR=dU.map J:=by
 induction h using D2.ind with|nil=>show#[Y,Y]|cons h _ e=>rw[MH,HG]at f;have Wc d a:=mq h f.1;have Wc b c:=e f.2;show#[by rw[MH,d,b];rfl,by rw[GW,GW,a,c]]
def IX (x:A2)(a:TL):Bool:=a.any λy=>match JR y,JR x with
 |some u,some v=>Jw u v
 |_,_=>Za
theorem mh {v:V}{x:A2}(a:JR x=J v):∀{xs:TM}{ds:TL},ds.map JR=xs.map J->MT v xs=IX x ds
 |[],[],_=>rfl
 |[],_::_,e=>by cases e
 |_::_,[],e=>by cases e
 |u::xs,d::ds,e=>by rw[GW,GW]at e;injection e with e1 c;have b:=mh a c;unfold MT IX at b ⊢;rw[KD,KD,b,e1,a]
variable {j8 Ba:Bool}
def Q8(d:wV dc=I)(j:T.all wV=I):IE (LS f.K j8) dc (.list T) (if j8 then !IX dc T else IX dc T):=λy H n o R l b h=>by have Wd i xs rfl a e:=b.lst_inv;have Wc c k:=mq l d;have Wc m g:=kF e j;show#[4,i,xs,Y,.inl<|D3.of (zf a).2,c,m,?_];rw[mh k g];show h
def cQ{X:Cx}{neg:Bool}(d:wV dc=I)(i:T.all wV=I):IE (LS X.K neg) dc (.tuple T) (if neg then !IX dc T else IX dc T):=λy H m n R k b h=>by have Wd g xs rfl a e:=b.tup_inv;have Wc c j:=mq k d;have Wc l f:=kF e i;show#[4,g,xs,Y,.inr<|HM.of (zf a).2,c,l,?_];rw[mh j f];show h
theorem jh {β γ:Type}{f g:β->Option γ}:∀{l:List β},(∀x∈l,f x=g x)->l.filterMap f=l.filterMap g
 |[],_=>rfl
 |a::l,h=>by rw[K0,K0,h a GN,jh λx b=>h x<|GH _ b]
theorem zd9 (a:TQ):slicePick a.toArray D D (J (-1))=a.reverse.toArray:=by
 have b:∀(n:Nat),n=a.length->(List.filterMap (λx=>a.toArray[x]?)<|(List.range n).map λ(k:Nat)=>(((n:Int)-1)+(-1)*(k:Int)).toNat)=a.reverse:=by
  intro n c;have e:(List.filterMap (λx=>a.toArray[x]?)<|(List.range n).map λ(k:Nat)=>(((n:Int)-1)+(-1)*(k:Int)).toNat)=List.filterMap (λx=>a.reverse.toArray[x]?) ((List.range n).map λx=>0+x):=by rw[List.filterMap_map,List.filterMap_map];show jh λk hk=>?_;have hk:=LI.mp hk;change a.toArray[(((n:Int)-1)+(-1)*(k:Int)).toNat]?=a.reverse.toArray[0+k]?;rw[LM,Mm,Mm,Nq (Gf hk<|Gu c)];congr 1;lia
  rw[e,pick_run,List.drop_zero,show n=a.reverse.length by rw[Jp];show c];show Jq
 have h:=b a.length Y;unfold slicePick ZK sliceRange;simp only[Option.getD_some,GS,show ¬((-1:Int) > 0) by decide,Ic];have d:(if((a.length:Int)-1) > -1 then(((a.length:Int)-1) - -1 - -1-1) / - -1 else 0)=(a.length:Int):=by split;rw[show(- -1:Int)=1 from Y,Int.ediv_one];lia;lia
 rw[d,JY,h]
variable {g7 w8 B8 E1 E3 A8:TQ}
def DS.rev(h:DS dU g7):DS dU.reverse g7.reverse:=by
 induction h with|nil=>show .nil|cons a _ b=>rw[K3,K3];show b.append<|.cons a .nil
theorem D2.rev {H:Hp}:∀{xs:TM}{ds:TL},D2 H xs ds->D2 H xs.reverse ds.reverse
 |[],[],_=>.nil
 |x::xs,d::ds,r=>by
  cases r with|cons a b=>rw[K3,K3];show(D2.rev b).append<|.cons a .nil
def zG6 (N:PE f j j3):PE f (.Subscript j (.Slice D D (J (.UnaryOp .USub (.Constant (.int 1) l fC) k9)) K) y) (λU H Q=>j3 U H λx d=>∃a xs,x=.ref a/\D3 f.K d a xs/\∀p,d p=D->Q (.ref p) (upd d p (.lst xs.reverse))):=by intro c s U H Q A h;show Subscript_<|D1 (N c s U H _ A h) λv P=>Wd λx d E S L=>?_;show wpAny_Slice ?_;rw[evalPart_none];show DX<|DX<|D1 (rM (NZ gY yx) c P U d (λo M=>o=J (-1)/\M=d) E #[_,Y,#[_,Y,Y,Y]]) λz e=>Wj λo B u O G R=>?_;subst G R;have Wd a xs rfl C q:=L;cases S;have m:DM f c U B {e with heap:=e.heap.push {cls:=.type "slice",data:=.fields [.none,.none,z].toArray}}:=u.kept (t':=e.toks) λb w q=>D6 _ q;have We F r n t:=m.list C;have g:=r.length;show tail_any (T:="list") (ops:=[.ref a,.ref e.heap.objs.size]) n.isList.typeIs slot_list_getitem.lookup ?_ (by with_unfolding_all rfl);show wpAny_getItem_list_slice n.isList (Heap.IsSliceOf.new ..) .none .none O () ?_ (by rw[GS]<;>show Gg (Gu g.symm) t);rw[zd9];show#[.ref _,_,m.laid (t':=e.toks) (o:=.lst xs.reverse) (λb w q=>D6 _ q) (D4 _) ?_,Y,q _<|m.hok.fresh<|D4 _];show#[by rw[Jp];show t,_,0,r.rev,GB _ Y]
def zP0(h:DP f n j λx=>∃a,x=.list a/\j2 a.reverse):FA f n (.Subscript j (.Slice D D (J (.UnaryOp .USub (.Constant (.int 1) l fC) k9)) K) y) j2:=λF U H R m k=>by show#[_,zG6 zh,?_];show h F U H _ m λx w v g c b u=>?_;have t:=m.kz b c;have Wa a rfl q:=g;have Wd j xs rfl r d:=u.lst_inv;show#[j,xs,Y,D3.of (zf r).2,λp s=>?_];have Wf e i o:=t.lay s d.rev;show k _ _ _ q e (b.trans i)<|yF.back m b c o
def eM (T:Ch)(H:Hp):Prop:=∀b:Ch,H b=D\/b=T\/∃o xs,H b=J (.frz o<|.lst xs)
variable {t9:Sp}{l7 Bt BF:Uc}{An:JQ}{i9 Ce:TN}
def aa(KX:q.In r.heap) (M:r.heap.Ns C2 C) (f:r.heap.Ns builtinsNs EL) (a4:∀p:Zv,p≠"__name__"->EL p=ZD p) (X:r.heap.NoLimit) (hg:r.gens=[].toArray)(O:r.heap.get? x=J {cls:=.type "list",data:=.seq g7.toArray}) (hi:IntsAre g7 i9) (hl:i9.length<=Zw) (hr:zH l callerA)(P:r.heap.get? R=J (pF l7)) (ab:q.lookup R=D) (a8:isCodeTable r.heap R)(ah:∃t A,C "__builtins__"=J (.ref t)/\t≠builtinsNs/\r.heap.get? t=J A/\A.cls=.type "module"/\A.dict=J builtinsNs/\A.data=.plain)(F:∀c:C7,q.In c->c.Ns C2 C->c.BuiltinsAt C R->zX E s q C c An l i e7 [p] t9) (L:∀(ax:C1) (u:Bs),BindsTo ax e7 #[[u],[]] [(p,u)])(a6:∀H:Hp,eM R H->H R=J (.tbl l7)->D3 q H x (i9.map V.int)->t9 [.ref x] H (λv _=>v=.bl I) λ_ _ _=>False)(a7:∀H e g,An [] H r (λ_ _ _=>False) e g->False):ZH (C4 E s) callerA (.call (.ref i) #[[.ref x],[]]) (λN g=>N=.ok (.ret<|.bool I)/\OldK r.heap g.heap/\g.os=r.os/\Yc g.gens) r:=by
 have rv:=aK hi;have U:x≠R:=λz=>by rw[z,P]at O;cases O
 have B:∀H:Hp,eM R H->H R=J (.tbl l7)->D3 q H x (i9.map V.int)->GZ E s H r.heap->(∀b,H b≠D->b=x\/b=R)->(H x≠D->q.lookup x=D)->
   ZH (C4 E s) callerA (.call (.ref i) #[[.ref x],[]]) (λN g=>N=.ok (.ret<|.bool I)/\OldK r.heap g.heap/\g.os=r.os/\Yc g.gens) r:=by
  intro H hO S hS Q hA hK;have a:∀{b:Ch} {o:Z7},r.heap.get? b=J o->H b=D->(oz r.heap H).get? b=J o:=λe n=>zC7 e n;have a5:∀{b:Ch} {o:Z7} {es:Array DictEntry} {Z:Nat},r.heap.get? b=J o->o.data=.dict es Z->H b=D:=λ{b o es Z} e d=>by
   cases j:H b with
   |none=>rfl
   |some u=>
    rcases hA b (by rw[j];simp)with k|k;subst k;rw[O]at e;cases e;have d':=d;cases d'
    subst k;rw[P]at e;cases e;have d':=d;cases d'
  have w:∀{b:Ch} {m:Tt},r.heap.Ns b m->(oz r.heap H).Ns b m:=λ{b m} a9=>by have Wr o es Z e d N:=a9;show#[0,o,es,Z,a e<|a5 e d,d,N]
  have W:q.In (oz r.heap H):=λb o e=>a (KX b o e) (by
   cases j:H b with
   |none=>rfl
   |some u=>
    rcases hA b (by rw[j];simp)with k|k;subst k;rw[hK (by rw[j];simp)]at e;cases e
    subst k;rw[ab]at e;cases e)
  have hM:Mod q C (oz r.heap H):=#[W,w M,#[EL,w f,a4],let⟨mc,h1,h2⟩:=X;#[mc,w h1,h2]];have au:(oz r.heap H).BuiltinsAt C R:=by
   have#[t,A,b1,b2,K,b4,b5,b6]:=ah;have n1:t≠R:=λz=>by rw[z,P]at K;cases K;cases b4
   have n2:t≠x:=λz=>by rw[z,O]at K;cases K;cases b6
   have n3:t≠C2:=λz=>by have Wr o es Z e d _:=M;rw[z,e]at K;cases K;rw[d]at b6;cases b6
   show#[t,A,b1,b2,#[6,n3,n1,a K (by
    cases j:H t with
    |none=>rfl
    |some u=>
          rcases hA t (by rw[j];simp)with k|k;show Ut k n2
          show Ut k n1),b4,b5,b6]]
  have e0:sH E s q C (oz r.heap H) callerA [] r H:=#[Y,hM,λb o e=>zI7 e,Gu<|zc2 _ _,trivial,λb f=>Ut (show b∈([]:TU)from f) (),Q,.of_eq hg];show Jk ((F _ W (w M) au).run callerA [] r H #[[.ref x],[]] [.ref x] [.ref x] _ _ hr e0 (L r<|.ref x) (.cons Y .nil) (a6 H hO S hS)) λN g h=>?_;cases N with
  |error e=>show(a7 H e g h).elim
  |ok fl=>
   cases fl with
   |next=>show Ze h
   |brk=>show Ze h
   |cont=>show Ze h
   |ret u=>
    have#[v,H',os,a0,un,G,r',j]:=h;have q':=j;subst q';obtain rfl:u=BE I:=r';have T:∀b o,r.heap.get? b=J o->asItWas r.heap g.heap b o:=λb o e=>by
     cases j:H b with
     |none=>show .inl<|un.keep b o e j (by intro z;show Ut (show b∈([]:TU)from z)<|by simp)<|by simp
     |some u=>
      rcases hO b with z|z|⟨A,xs,z⟩;rw[j]at z;cases z
      subst z;have Wb a3 hm:=un.tbls _ _ S;rw[P]at e;cases e;show .inr<|.inl #[a8,Y,#[l7,a3,Y,(G _ _ hm)]];have z2:=un.frzs b A _ z;have Wc e1 _:=Q b _ z;have Wc e2 _:=G b _ z2;rw[e]at e1;cases e1;show .inl e2
    show#[Y,#[T,λb o e=>?_],os,a0];rcases T b o e with z|⟨_,_,_,_,_,z⟩|⟨_,_,⟨o',_,_,z,_⟩,_⟩;show#[_,z]
    show#[_,z];show#[_,z]
 cases hk:q.lookup x with|some o=>have e:=KX x o hk;rw[O]at e;cases e;show B (λb=>if b=R then J (.tbl l7)else D) (λb=>?_) (Ur Y) (.inr #[0,_,g7.toArray,_,hk,Y,#[Y,Y,by rw[GS,hi.length];show hl,by simpa using rv]]) (λb u z=>?_) (λb z=>?_) λz=>Ut (Us U) z;by_cases h:b=R;show .inr<|.inl h;show .inl<|Us h;by_cases h:b=R;have y:=(Ur h).symm.trans z;cases y;subst h;show P;have y:=(Us h).symm.trans z;cases y;by_cases h:b=R;show .inr h;show Ut (Us h) z|none=>show B (λb=>if b=R then J (.tbl l7)else if b=x then J (.frz {cls:=.type "list",data:=.seq g7.toArray}<|.lst<|i9.map V.int)else D) (λb=>?_) (Ur Y) (.inl<|.inr #[{cls:=.type "list",data:=.seq g7.toArray},(Us U).trans<|Ur Y]) (λb u z=>?_) (λb z=>?_) λ_=>hk;by_cases h:b=R;show .inr<|.inl h;by_cases f:b=x;show .inr<|.inr #[_,_,(Us h).trans<|Ur f];show .inl<|(Us h).trans<|Us f;by_cases h:b=R;have y:=(Ur h).symm.trans z;cases y;subst h;show P;have z:=(Us h).symm.trans z;by_cases f:b=x;have y:=(Ur f).symm.trans z;cases y;subst f;show#[O,by rw[DZ];show hl,#[g7,_,rv,O]];have y:=(Us f).symm.trans z;cases y;by_cases h:b=R;show .inr h;by_cases f:b=x;show .inl f;show Ut ((Us h).trans<|Us f) z
variable {CQ:(Tt)->Ul}{Bl:Params->Cl}{Am:PySem.W.OpenLaw}{BH:C6->Ul}{Bh:DefRec}
def zl7{b:Ch}{n k:Nat}{CX:C6->JQ}{sp:C6->Sp}{x:Zv}(R:Am.most=J n) (C:n<=Zw) (N:Bh.params.defaults=[]) (hr:zH k callerA)(Q:∀(w:C6) (h:C7),BH w h->(Bl w.params).In h) (K:∀(w:C6) (h:C7),BH w h->h.get? i=J (pF l7))(z:∀w:C6,(Bl w.params).lookup i=D) (p:∀w:C6,∃o l,(Bl w.params).lookup b=J o/\o.cls=.type "code"/\o.data=.fields l/\l[11]?=J (.ref i))(F:∀(w:C6) (g:Tt) (t:Ch) (h:C7),(Bl w.params).In h->h.Ns C2 g->g Bh.name=J (.ref t)-> ∃y:Dd,(∀(s:C1) (u:Bs),BindsTo s y #[[u],[]] [(x,u)])/\ ∀c:C7,(Bl w.params).In c->c.Ns C2 g->c.BuiltinsAt g i->zX Am.prog w (Bl w.params) g c (CX w) k t y [x] (sp w))(A:∀(w:C6) (H:Hp) (a:Ch) (r:TN),r.length<=n->eM i H->H i=J (.tbl l7)->D3 (Bl w.params) H a (r.map V.int)->sp w [.ref a] H (λv _=>v=.bl I) λ_ _ _=>False)(B:∀(w:C6) (H:Hp) (s:C1) (e:Bs) (L:C1),CX w [] H s (λ_ _ _=>False) e L->False):DH E S CQ BH Am.row.toRowW Bh [] (λf l=>PySem.call f l):=by show Att.attach_call R N λw O q g mb t o pm cd a3 a l r G P ho hd a0 M m j d hg=>?_;have KX:=Q w _ P;have Wj oc W T t3 t4 t5:=p w;have Wa y hb hF:=F w g t _ KX G.T.g M;show aa KX G.T.g G.T.b G.T.builtins G.T.nolimit hg m j (Gg d C) hr (K w _ P) (z w) #[3,b,oc,W,KX _ _ T,t3,t4,t5] G.T.bmain hF hb (λH U X Z=>A w H a r d U X Z) λH e L=>B w H q e L
def D9.same(T:D9 m)(h:∀a o,(∀xs,o≠.lst xs)->m a=J o->d7 a=J o):D9 d7:=qm T h
variable {cC:Tu}
def DM.tblMore(t:DM f cC B m r)(h:m i=J (.tbl l7))(k:∀b u,b≠i->r.heap.get? b=J u->v.get? b=J u)(e:v.get? i=J (pF (l7++Bt)))(C:d7 i=J (.tbl (l7++Bt))) (j:∀b,b≠i->b<r.heap.objs.size->d7 b=m b) (s:∀b o,r.heap.objs.size<=b->d7 b=J o->yy f.prog f.w d7 v b o):DM f cC B d7 {r with heap:=v,toks:=l}:=by
 have y:∀b,m b=D->b≠i:=λb n z=>by rw[z,h]at n;cases n
 have E:∀b o,m b=J o->(∀g,o≠.tbl g)->b≠i:=λb o q n z=>by rw[z,h]at q;cases q;show n _ Y
 have A:∀b o,m b=J o->b<r.heap.objs.size:=λb o q=>by
  rcases HX b r.heap.objs.size with z|z;show z
  rw[t.hok.fresh z]at q;cases q
 have d:∀b o,m b=J o->(∀g,o≠.tbl g)->d7 b=J o:=λb o q n=>by rw[j b (E b o q n) (A b o q)];show q
 show t.un #[λb o q n _ _=>k b o (y b n) q,λb o q n _ _=>#[o.slots,k b o (y b n) q],λb o q n _=>by rw[j b (y b n) (Gd q)];show n,λb o q _=>?_,λb xs q=>d b _ q (λ_ z=>by cases z),λb o u q=>d b _ q (λ_ z=>by cases z),λb g q=>?_] λb u q=>?_;by_cases z:b=i;show#[_,by rw[z];show e];show#[o,k b o z q];by_cases z:b=i;subst z;rw[h]at q;cases q;show#[Bt,C];show#[[].toArray,by rw[j b z (A b _ q),q];simp];by_cases z:b=i;subst z;rw[C]at q;cases q;show e;rcases HX b r.heap.objs.size with x|x;rw[j b z x]at q;show(t.hok b u q).stay (λc F p a=>k c F (λw=>?_) a) (λc a=>d c _ a λ_ z=>by cases z) λc xs a=>d c _ a λ_ z=>by cases z
 subst w;rcases p with rfl|p;show z Y
 rw[h]at p;cases p;show s b u x q
def Lk (f c:Ch)(e:Zv)(a:Arguments)(body:Dc)(b:De)(d:TB):HO:=
 .ext λh=>∃(i g:Bs),h.get? f=J (nH "<lambda>" e a body b d i c g)
def zK6(r:v.CodeRec (.ref i) vf):yy E s m v i (sY i):=by show#[r,?_,λj h p k=>?_];have Wg f o a:=r;have Wd e t c d _:=a;cases c;show#[o,d];have Wg f o b:=p;have Wd e t c d g:=b;cases c;show#[i,o,#[e,t,Y,k _ d,g]]
variable {e8 Eg:De}{Ao:Arguments}{Cf:TB}
def Q9(r:v.get? i=J (nH "<lambda>" p Ao j e8 Cf f9 x m6)):yy E s m v i (Lk i x p Ao j e8 Cf):=
 #[#[f9,m6,r],#[_,r],λe f b k=>by have Wg c a d:=b;show#[c,a,k _ d]]
variable {L gi:Int}
def fJ(l:TQ):TriplesOk l->codeAmong y (l++[ZI L,ZI gi,f9])=J m6->codeAmong y l=J m6\/m6=f9:=by
 induction l using TriplesOk.induct with|case1=>intro _ h;rw[Kc,ZI,ZI,codeAmong.eq_1]at h;split at h;cases h;show .inr Y;rw[codeAmong.eq_2 _ _ (by intro _ _ _ _ _ _ z;cases z)]at h;cases h|case2 i t j u d rest e=>intro a h;rw[TriplesOk.eq_2]at a;rw[K5,K5,K5,codeAmong.eq_1]at h;rw[codeAmong.eq_1];split at h;rename_i z;rw[Ur z];show .inl h;rename_i z;rw[Us z];show e a h|case3 t c b=>intro a;rw[TriplesOk.eq_3 t c b]at a;show a.elim
def zA2(g:DM f cC B m r)(F:closureFor e8 f.env=pure Cf)(P:f.env.globals=C2)(G:f.env.code=.ref i)(a3:PySem.W.CodeHd f.base i yI)(a4:f.base.BuiltinsAt f.mg yI) (a7:defaultsOf Ao f.env=([],[])) (hq:f.env.qual++("<lambda>":Zv)=vf) (Z:C2≠yI) (T:D9 m)(h:∀(R c:Ch) (H':Hp) (s':C1),DM f cC B H' s'->D9 H'->(∀a o,a≠yI->m a=J o->H' a=J o)->(∀a E,m a=J (.tbl E)->∃K,H' a=J (.tbl K))->m R=D->H' R=J (Lk R c vf Ao j e8 Cf)->H' c=J (sY c)->i6 (.ref R) s'):C3 (C4 f.prog f.w) f.A (eval (.Lambda Ao j e8 y) f.env) i6 f.xe r:=by
 show PySem.W.kla_eval a7 ?_;rw[hq];have We E V S t3:=T.ex;have X:=g.hok _ _ V;have hb:∀b o,f.base.get? b=J o->r.heap.get? b=J o:=λb o e=>(g.bs b o e).1;have p:PySem.W.CodeHd r.heap i yI:=by have Wi o vs f1 a6:=a3;have Wi f2 f3 f4 a0:=a6;have Wl f5 f6 f7 O n:=a0;show#[o,vs,f1,#[f2,f3,f4,#[f5,f6,f7,hb _ _ O,n]]]
 have w:r.heap.BuiltinsAt f.mg yI:=by have#[bm,o,O,n,e3,e4,e5,e6]:=a4;show#[5,bm,o,O,n,e3,e4,hb _ _ e5,e6]
 have M:r.heap.Ns C2 f.mg:=by have Wr o es ep e d a9:=g.ok.mod.glob;show#[0,o,es,ep,hb _ _ e,d,a9]
 cases hc:codeAmong y E.toList with
 |none=>
  show PySem.W.kla_makeFunction F P M G p X S hc Z w λc x v tk ex W l2 cr ht=>?_;have C:=Gd X;have U:=Hy<|Ha W l2;let q:Hp:=upd (upd (upd m v.objs.size<|Lk v.objs.size c vf Ao j e8 Cf) c<|sY c) yI<|.tbl<|E++[ZI ↑y.line,ZI ↑y.col,Zf c].toArray;have eP:q yI=J (.tbl<|E++[ZI ↑y.line,ZI ↑y.col,Zf c].toArray):=zi;have eC:q c=J (sY c):=by change upd _ _ _ _=_;rw[zg (Jj<|Gf C W),zi]
  have eF:q v.objs.size=J (Lk v.objs.size c vf Ao j e8 Cf):=by change upd _ _ _ _=_;rw[zg (Jj<|Gf C U),zg (Gp l2).symm,zi]
  have A:∀b,b≠yI->b<r.heap.objs.size->q b=m b:=λb L H=>by change upd _ _ _ _=_;rw[zg L,zg (Gp<|Gf H W),zg (Gp<|Gf H U)]
  have I1:DM f cC B q {r with heap:=v.push<|nH "<lambda>" vf Ao j e8 Cf ((f.mg "__name__").getD eH) c x,toks:=tk}:=by
   show g.tblMore V (λb u L e=>D6 _<|ex b u L e) (D6 _ ht) eP A λb o H e=>?_;by_cases z1:b=v.objs.size;subst z1;rw[eF]at e;cases e;show Q9<|GB _ Y;by_cases z2:b=c;subst z2;rw[eC]at e;cases e;have Wg c2 o a5:=cr;have Wd vs t O n e3:=a5;cases O;show zK6 #[_,o,#[vs,t,Y,D6 _ n,e3]];have L:b≠yI:=λz=>Ut H<|Nat.not_le_of_lt<|z▸C;have e':q b=m b:=by change upd _ _ _ _=_;rw[zg L,zg z2,zg z1]
   rw[e',g.hok.fresh H]at e;cases e
  have s:∀a o,a≠yI->m a=J o->q a=J o:=λa o no e=>by
   have la:a<r.heap.objs.size:=by
    rcases HX a r.heap.objs.size with z|z;show z
    rw[g.hok.fresh z]at e;cases e
   rw[A a no la];show e
  show h _ c q _ I1 #[_,eP,?_,λa8 cv N=>?_] s (λa K e=>?_) (g.hok.fresh U) eF eC;rw[Dm];show TriplesOk_snoc _ _ _ _ S;rw[Dm]at N;rcases fJ _ S N with z|z;have Wa c2 rfl n:=t3 _ _ z;show#[c2,Y,s _ _ (λz=>by rw[z,V]at n;cases n) n]
  show#[c,z,eC];by_cases za:a=yI;show#[_,by rw[za];show eP];show#[K,?_];rw[A a za (by
   rcases HX a r.heap.objs.size with z|z;show z
   rw[g.hok.fresh z]at e;cases e)]
  show e
 |some cv=>
  have Wa c rfl t4:=t3 _ _ hc;show PySem.W.kla_makeFunctionHit F P M G p X S hc w λx v tk k l=>?_;have hf:=g.hok.fresh l;have k2:∀b u,r.heap.get? b=J u->(v.push<|nH "<lambda>" vf Ao j e8 Cf ((f.mg "__name__").getD eH) c x).get? b=J u:=λb u e=>D6 _<|k b u e;have Q:∀a o,m a=J o->a≠v.objs.size:=λa o e z=>by rw[z,hf]at e;cases e
  show h _ c _ _ (g.laid k2 l<|Q9<|GB _ Y) (T.same λa o _ e=>by rw[zg (Q a o e)];show e) (λa o _ e=>by rw[zg (Q a o e)];show e) (λa K e=>#[K,by rw[zg (Q a _ e)];show e]) hf zi ?_;rw[zg (Q _ _ t4)];show t4
structure vd (x y:Zv)(params:Arguments)(scope:De):Prop where
 kind:scope.kind=.function
 co:scope.isCoroutine=Za
 gen:scope.isGenerator=Za
 px:scope.names.lookup x=J .local
 py:scope.names.lookup y=J .free
 nocell:∀z∈scope.names,z.2≠Ye
 only:∀z∈scope.names,z.2=Yd->z.1=y
 ne:x≠y
def jq (P:C5)(w:C6)(K:Cl)(g:Tt)(d:C7)(x y:Zv)(a:De)(f c e:Ch)(A:Db)(b:TZ)(s:C1)(H:Hp):Cx where
 prog:=P
 w:=w
 K:=K
 mg:=g
 base:=d
 A:=A.deeper (Dp vf a s.heap.objs.size f (.ref c) [(y,e)])
 N:=[x,y]
 s₀:=s
 H₀:=H
 env:=Dp vf a s.heap.objs.size f (.ref c) [(y,e)]
 outer:=b
 stack:=Dp vf a s.heap.objs.size f (.ref c) [(y,e)]::b
 ex:=[]
 calm:=I
 fn:=λ_=>Za
 pn:=[]
 xe:=λ_ _=>False
variable {x6:TZ}
def aW(S:vd p H Ao e8) (G:d9.handled=D) (g:sH E s q C v d9 x6 r m) (K:DT e9 f9) (O:DT v8 m6) (A:r.heap.IsCell R (J m6)) (y:m R=D)(M:Au.Ns r.heap.objs.size λz=>[(p,f9)].reverse.lookup z) (k:∀b o,r.heap.get? b=J o->Au.get? b=J o):DM (jq E s q C v p H e8 i x R d9 x6 r m) [] [J e9,J v8] m {r with heap:=Au,toks:=l}:=by
 have u:∀b:Ch,b∉(jq E s q C v p H e8 i x R d9 x6 r m).ex:=λb z=>Ut (show b∈([]:TU)from z) ();have j:∀z d,(jq E s q C v p H e8 i x R d9 x6 r m).env.cells.lookup z=J d->z=H/\d=R:=λz d h=>by have h:List.lookup z [(H,R)]=J d:=h;rw[Hs]at h;split at h;rename_i e;cases h;show#[eq_of_beq e,Y];cases h
 have w:(jq E s q C v p H e8 i x R d9 x6 r m).env.cells.lookup H=J R:=by change List.lookup H [(H,R)]=J R;simp[Hs]
 have c:Au.IsCell R (J m6):=by have Wa o L P:=A;show#[o,k _ _ L,P]
 show#[#[g.mod,S.kind,Y,Y,D4 _,λa b d f n=>(j a d f).1.trans (j b d n).1.symm,λz t=>?_,λz d hf _=>?_,λ_=>G,Around.frames_deeper g.frames,.inr #[Y,Y],λb z=>Ut z<|u b,g.bs,g.bsz,λb _ _=>u b,λb z=>Ut z<|u b,g.funs,g.frf],
  rfl,g.bare,Un.kept k,#[_,M,λB z T f n Q=>?_],λz d h=>?_,g.hok.fresh<|D4 _,λz d h=>?_,λF N=>Ut (show F∈([]:Tu)from N) (),g.hok.kept k,Y]
 have t:=t;rcases t with t|t;show Ut Y<|S.nocell _<|JD t
 have:z=H:=S.only _ (JD t) Y;subst this;show#[R,w];show Ut (hf) Hq;have f:([p,H]:TR)[B]?=J z:=f
 match B,f,n with
 |0,f,n=>cases f;cases n;show#[f9,K,.inl #[S.px,by simp[Hs]]]
 |1,f,n=>cases f;cases n;show#[m6,O,.inr #[.inr S.py,R,w,c]]
 |B+2,f,n=>simp at f
 have Wc rfl rfl:=j z d h;show#[_,c];have Wc rfl rfl:=j z d h;show y
def zG3(S:vd p H Ao e8) (u:zH l d9) (a:sH E s q C v d9 x6 r m) (hf:m i=J (Lk i x vf Ao j e8 [(H,R)])) (N:m x=J (sY x)) (h:r.heap.IsCell R (J m6)) (g:m R=D) (A:DT e9 f9) (P:DT v8 m6)(y:∀n c,bindArgs (xa "<lambda>" vf Ao j e8 [(H,R)] n (.ref x) c) #[[f9],[]]=pure [(p,f9)])(K:PE (jq E s q C v p H e8 i x R d9 x6 r m) j j3) (T:j3 [J e9,J v8] m Ae):ZH (C4 E s) d9 (.call (.ref i) #[[f9],[]]) (CR GA x6 E s m r Ae E0) r:=by have Wf f _ _:=a.hok _ _ hf;have#[n,c,U]:=f;show PySem.W.kla_callFunE u.depth U Y S.co S.gen Y ((a.hok _ _ N).1) ?_;rw[y];show DX<|wpAny_newFunctionEnv S.nocell (λz L=>?_) (λO V F=>?_) S.kind;rw[GV.mp L];show S.px;have t:∀b o,r.heap.get? b=J o->O.get? b=J o:=λb o e=>F.extBut b o (Gp<|Gd e)<|D6 _ e;show#[(a.mod.nolimit.keeps λb o e=>(a.bs b o e).1).keeps t,PySem.W.kla_codeExpr ?_];show Hk (K [] _ _ m _ (aW S u.hd a A P h g V t) T) (λW M k=>?_) λe M k=>k.elim;have Wd w B d G Q:=k;show#[5,w,B,d.os,d.bare,d.base,d.hok,G,Q]
open PySem.W SortA
def Oh (X:Cx)(a e:Hp)(c d:C1):Prop:=∀b o,c.heap.get? b=J o->a b=D->b∉Hc X.stack->d.heap.get? b=J o/\e b=D
structure Oi (X:Cx)(pins:Tu)(U:St)(H:Hp)(b kS:Ch)(e1:Nat)(ps:Tz)(i:Nat)(s':C1):Prop where
 ex:∃(H':Hp) (ks:TQ) (xs:TM) (e:Nat),DM X pins U H' s'/\(∀a o,H a=J o->H' a=J o)/\s'.heap.get? b=J (seqObj "list" [].toArray e1)/\s'.heap.get? kS=J (seqObj "list" ks.toArray e)/\H' b=D/\H' kS=D/\DS xs ks/\Io H' xs (ps.take i)
variable {tA:Tz}
theorem bJ{s:C1}{Q:PUnit->Uh}(E:g7.length=tA.length)(a0:g7.length<64)(nD:x∉Hc f.stack)(nK:R∉Hc f.stack)(M:x≠R)
  (fK:∀H',H' R=D->xH f cC H' R)
  (g:∀N v,g7[N]?=J v->∀n T,DM f cC B n T->(∀a o,m a=J o->n a=J o)->
   C3 (C4 f.prog f.w) d9 (call (.ref i) [v]) (λu h=>∃t d,u=.ref t/\DM f cC B d h/\(∀a o,n a=J o->d a=J o)/\d t=J (.tup [.int (at2 tA N).1,.int (at2 tA N).2])/\Oh f n d T h) (λ_ _=>False) T)
  (h0:Oi f cC B m x R l tA 0 s) (hQ:∀r,Oi f cC B m x R l tA g7.length r->Q PUnit.unit r):
  C3 (C4 f.prog f.w) d9 (forIn g7 PUnit.unit λc __s=>do
   let __do_lift <-(call (.ref i) [c]).attempt
   match __do_lift with
    |Except.ok k=>do
     hH (.ref R) λc=>c.push k
     pure (ForInStep.yield PUnit.unit)
    |Except.error e=>do
     rule "list.sort.key-raised"
     let made <-hL (.ref R)
     hH (.ref R) λc=>[].toArray
     letGo made.toList.reverse [e]
     hH (Zf x) λc=>g7.toArray
     throw e
     pure (ForInStep.yield PUnit.unit)) Q i6 s:=by
 show ksk_fold (Oi f cC B m x R l tA) g7 0 s h0 (λj c r hj O=>?_) (λr O=>hQ r<|by simpa using O);have Wo n S xs e I1 st eD eK fD H:=O.ex;have Wf U X L:=H;rw[LM]at L ⊢;have y:j<tA.length:=by rw[<-E];show(Gm.mp hj).1
 have F:S.length=j:=by rw[<-X.length,L.len,Jb];lia
 show DL<|JN<|Hk (g j c hj n r I1 st) (λu h hu=>?_) λ_ _ z=>z.elim;have Wp t d rfl I2 w Z kp:=hu;have Wc K P:=kp x _ eD fD nD;have Wc C A:=kp R _ eK U nK;show DL (listUpdate_at C Y (DX #[Y,?_]) (by rw[GS,F,Hf];lia)<|by rw[DC,GS,F,Hf];lia);obtain⟨G,hk⟩:∃G,(h.heap.update R<|Z7.mapSeq λc=>c.push<|Zf t).get? R=J (seqObj "list" (S++[Zf t]).toArray G):=by have:=Kd C λc=>c.push<|Zf t;rw[List.push_toArray]at this;show#[_,this]
 have W:∀b o,b∉[R]->h.heap.get? b=J o->(h.heap.update R<|Z7.mapSeq λc=>c.push<|Zf t).get? b=J o:=λb o nb q=>(G4 _ _<|Gx<|by simpa using nb).trans q;show#[d,S++[Zf t],xs++[V.ref t],G,I2.turnL W (λb hb=>by rw[GV.mp hb];show fK d A),λa o q=>w a o<|st a o q,W x _ (by simpa using M) K,hk,P,A,X.append<|.cons Y .nil,?_];rw[JJ,Gh y];show Io.app (L.keep λa p q z=>w _ _ z) ?_;have ea:at2 tA j=tA[j]:=by unfold at2;rw[HW,Gh y];rfl
 rw[ea]at Z;show .cons Z .nil
variable {E4:PySem.Fin->Uh}
theorem fg(U:DM f cC B m r)(ho:r.heap.get? x=J (seqObj "list" g7.toArray l))(k:g7.length=tA.length)(y:g7.length<64)(fD:m x=D)(nD:x∉Hc f.stack) (a6:∀F,F x=D->xH f cC F x)(T:∀N v,g7[N]?=J v->∀L W,DM f cC B L W->(∀a o,m a=J o->L a=J o)-> C3 (C4 f.prog f.w) d9 (call (.ref i) [v]) (λu s2=>∃t H2,u=.ref t/\DM f cC B H2 s2/\(∀a o,L a=J o->H2 a=J o)/\H2 t=J (.tup [.int (at2 tA N).1,.int (at2 tA N).2])/\Oh f L H2 W s2) (λ_ _=>False) W)(h:∀g F C c,J3 g7 tA g->DM f cC B F C->(∀a o,m a=J o->F a=J o)->C.heap.get? x=J (seqObj "list" g.toArray c)->F x=D->E4 (.done (.ret .none)) C):C3 (C4 f.prog f.w) d9 (ksk_tree x (.ref i) Za) E4 i6 r:=by
 have W:=K1 r.heap x<|Z7.mapSeq λ_=>([].toArray:Uc);obtain⟨e1,P⟩:∃e1,(r.heap.update x<|Z7.mapSeq λ_=>([].toArray:Uc)).get? x=J (seqObj "list" [].toArray e1):=#[_,Kd ho λ_=>[].toArray];have M:(r.heap.update x<|Z7.mapSeq λ_=>([].toArray:Uc)).objs.size=r.heap.objs.size:=Heap.size_update _ _ _;unfold ksk_tree;show DL<|listItems_at ho Y<|DL (listUpdate_at ho Y ?_ (by rw[GS,Hf];show fh y)<|Gj _);generalize ax:r.heap.update x (Z7.mapSeq λ_=>([].toArray:Uc))=h1 at W P M;show DL<|seqEpoch_at P Y<|DL (wpAny_newTuple ?_<|by change g7.length<=_;rw[Hf];show fh y);show DL<|wpAny_newList (Hx ?_)<|Gj _;have a5:(h1.push<|seqObj "tuple" g7.toArray 0).objs.size=r.heap.objs.size+1:=by rw[size_push',M]
 have S:((h1.push<|seqObj "tuple" g7.toArray 0).push<|seqObj "list" [].toArray 0).get? (h1.push<|seqObj "tuple" g7.toArray 0).objs.size=J (seqObj "list" [].toArray 0):=GB _ Y;have a0:((h1.push<|seqObj "tuple" g7.toArray 0).push<|seqObj "list" [].toArray 0).get? x=J (seqObj "list" [].toArray e1):=D6 _<|D6 _ P;have k1:∀b o,b∉[x]->r.heap.get? b=J o->((h1.push<|seqObj "tuple" g7.toArray 0).push<|seqObj "list" [].toArray 0).get? b=J o:=λb o H e=>
  D6 _ (D6 _<|(W.2 b<|by simpa using H).trans e)
 have I0:DM f cC B m {r with heap:=(h1.push<|seqObj "tuple" g7.toArray 0).push<|seqObj "list" [].toArray 0,toks:=r.toks}:=U.turnL k1 λb H=>by rw[GV.mp H];show a6 m fD
 generalize (h1.push<|seqObj "tuple" g7.toArray 0).push (seqObj "list" [].toArray 0)=h2 at S a0 k1 I0;generalize az:(h1.push<|seqObj "tuple" g7.toArray 0).objs.size=kS at a5 S;have lK:r.heap.objs.size<=kS:=by rw[a5];show HI _
 have fK:∀F,F kS=D->xH f cC F kS:=λF hn=>U.fpOk lK hn;have nK:(kS:Ch)∉Hc f.stack:=λz=>by
  rcases D7.mp (U.stkSub _ z)with q|q;show(U.fpOk (H':=λ_=>D) lK Y).2.1 q
  show(U.fpOk (H':=λ_=>D) lK Y).2.2.1 q
 have X:=Gp<|Gf (Gd ho) lK;unfold ksk_rest;show DL<|Kf ?_;rw[Nz];show DL<|bJ (s:={r with heap:=h2}) k y nD nK X fK T #[m,[],[],0,I0,λ_ _ q=>q,a0,S,fD,(U.hok.fresh lK),.nil,.nil] λC hI=>?_;have Wo L ks xs e I1 st eD eK a7 a8:=hI.ex;have Wf au rv pr:=a8;rw[k,Jq]at pr;have E:ks.length=g7.length:=by rw[<-rv.length,pr.len,k]
 show DL<|listItems_at eK Y ?_;unfold ksk_end;dsimp only;rw[Us ()];have O:∀(j:SortSt) (g:TQ),g.length<=64->J3 g7 tA g->failedOf j=D->(arrOf j).map (·.2)=g.toArray->C3 (C4 f.prog f.w) d9 (ksk_tail x Za e1 (.ref kS) j) E4 i6 C:=by
  intro j g lo V hf Z;unfold ksk_tail;dsimp only;rw[Z,hf];show DL (listUpdate_at eK Y ?_ (by rw[GS,E,Hf];show fh y)<|Gj _);have s3:=K1 C.heap kS<|Z7.mapSeq λ_=>([].toArray:Uc);have K:=(s3.2 x X).trans eD;have I3:DM f cC B L {C with heap:=C.heap.update kS<|Z7.mapSeq λ_=>([].toArray:Uc),toks:=C.toks}:=I1.turnL (ch:=[kS]) (λb o H q=>(s3.2 b<|by simpa using H).trans q) λb H=>by rw[GV.mp H];show fK L au
  generalize C.heap.update kS (Z7.mapSeq λ_=>([].toArray:Uc))=h3 at K I3;show DL<|JO<|DL<|seqEpoch_at K Y ?_;rw[Us ()];show DL (listUpdate_at K Y ?_ (Gj _)<|by rw[GS,Hf];lia);obtain⟨c4,ab⟩:∃c4,(h3.update x<|Z7.mapSeq λ_=>g.toArray).get? x=J (seqObj "list" g.toArray c4):=#[_,Kd K λ_=>g.toArray];simp only[bne_self_eq_false,IL,Ic];have I4:=I3.turnL (ch:=[x]) (t':=C.toks) (λb o H q=>((K1 h3 x<|Z7.mapSeq λ_=>g.toArray).2 b<|by simpa using H).trans q) λb H=>by rw[GV.mp H];show a6 L a7
  show DX<|h g L _ c4 V I4 st ab a7
 by_cases n:g7.toArray.size<2;rw[Ur n,Ur n];have hv:g7.length<2:=by simpa using n
 show DL<|DX<|DL<|DX ?_;dsimp only;have V:J3 g7 tA g7:=by
  match g7,tA,hv,k with
  |[],[],_,_=>show#[[],Y,#[Y,λ_ h=>by simp at h,.refl _,.nil]]
  |[v],[p],_,_=>show#[[0],Y,#[Y,λN h=>by simp at h;subst h;simp,.refl _,by simp]]
  |_::_::_,_,hv,_=>simp only[G3]at hv;show(ya9 hv).elim
 show O _ g7 () V Y ?_;rw[Us ()];apply Array.toList_inj.mp;rw[Array.toList_map,Array.toList_zip];show List.map_snd_zip<|Gu E.symm;rw[Us n,Us n,Us ()];have h2:2<=g7.length:=by simp at n;show n
 have ah:=gX (prog:=f.prog) (w:=f.w) (A:=d9) (by rw[E];show h2) (pr.prs I1 rv)
  (R:=λp G=>J3 g7 tA (p.toList.map λN=>g7.getD N eH)/\G=C) (λix a b c d=>#[#[ix,by simp,#[a,b,c,d]],Y])
 show DL<|Hk ah (λκ s0 hk=>?_) λ_ _ ay=>ay.elim;rw[E]at hk;show DL (Hk (kat_run (Q:=λj G=>∃p:Ud,p.size=g7.length/\arrOf j=p.map (kas_item<|ks.toArray.zip g7.toArray)/\failedOf j=D/\J3 g7 tA (p.toList.map λN=>g7.getD N eH)/\G=C)
  E h2 y (λp' j G a1 a2 a3 a4=>#[p',a1,a2,a3,a4]) hk) ?_ λ_ _ e=>e)
 rintro⟨⟨⟩,j⟩ G ⟨p,hp,a9,hf,V,rfl⟩;dsimp only;show O j _ (by rw[V.len,<-k];show Hy y) V hf<|kat_snds E a9
variable {j4:HO}
def DM.adopt(j:DM f cC B m r)(g:xH f cC m i)(h:yy f.prog f.w (upd m i j4) r.heap i j4):DM f cC B (upd m i j4) r:=by
 have d:∀b u,m b=J u->upd m i j4 b=J u:=λb u e=>by rw[zg (zk e g.1)];show e
 have:=j.step (t':=r.toks) (d':=r.drawn) (λb a=>by rw[GV.mp a];show#[g.2.2.2.1,g.2.1,g.2.2.2.2.1,g.2.2.2.2.2]) (λb u _ _ _ e _=>e) (λb u _ _ _ e _=>#[u.slots,e]) (λb u a e n=>by rw[zg (by simpa using a)];show n)
  (λb u _ e=>#[u,e]) (λb xs e=>d b _ e) (λb u xs e=>d b _ e) (λb l e=>#[[].toArray,by rw[d b _ e];simp]) (λo k=>k) (λb u e=>?_) j.bare
 show this;by_cases a:b=i;subst a;rw[zi]at e;cases e;show h;rw[zg a]at e;show(j.hok b u e).stay (λc v _ q=>q) (λc q=>d c _ q) λc xs q=>d c _ q
def mY{ps:Tz}(j:DM f cC B m r)(S:r.heap.IsList i g7.toArray)(C:g7.length=ps.length)(n:g7.length<64)(p:∀H v,g7[H]?=J v->∀G K,DM f cC B G K->(∀a o,m a=J o->G a=J o)-> C3 (C4 f.prog f.w) d9.in1.in1 (call (.ref x) [v]) (λu M=>∃t F,u=.ref t/\DM f cC B F M/\(∀a o,G a=J o->F a=J o)/\F t=J (.tup [.int (at2 ps H).1,.int (at2 ps H).2])/\Oh f G F K M) (λ_ _=>False) K)(h:∀w d g y c,r.heap.objs.size<=w->J3 g7 ps d->DM f cC B g y->(∀a o,m a=J o->g a=J o)->y.heap.get? w=J (seqObj "list" d.toArray c)->g w=D->xH f cC g w->nU (.ref w) y):C3 (C4 f.prog f.w) d9 (call (.builtin "sorted") [.ref i] [("key",.ref x)]) nU i6 r:=by
 show call_function_entry_kw kind_sorted plain_sorted entry_sorted (ksk_s1 _ _) ?_;unfold Builtin.«sorted»;show DL (DX ?_);show DL (collect_list S ?_ (by rw[Hf];show fh n));show DL (wpAny_newList ?_ (by rw[Hf];show fh n));have l:((r.heap.push (seqObj "list" [].toArray 0)).update r.heap.objs.size (Z7.mapSeq (·++g7.toArray))).objs.size=r.heap.objs.size+1:=by rw[Heap.size_update,size_push']
 have E:(((r.heap.push<|seqObj "list" [].toArray 0).update r.heap.objs.size (Z7.mapSeq (·++g7.toArray))).push<|seqObj "list" g7.toArray 0).get? (r.heap.objs.size+1)=J (seqObj "list" g7.toArray 0):=by rw[<-l];show GB _ Y
 have A:∀b o,r.heap.get? b=J o->(((r.heap.push<|seqObj "list" [].toArray 0).update r.heap.objs.size (Z7.mapSeq (·++g7.toArray))).push<|seqObj "list" g7.toArray 0).get? b=J o:=λb o q=>by have k:=Gd q;rw[Heap.get?_push_ne _ _ _ (by rw[l];show Gp<|JG k),Heap.get?_update_ne _ _ _ _ (Gp k),Heap.get?_push_ne _ _ _ (Gp k)];show q
 rw[l];have P:DM f cC B m {r with heap:=((r.heap.push<|seqObj "list" [].toArray 0).update r.heap.objs.size (Z7.mapSeq (·++g7.toArray))).push<|seqObj "list" g7.toArray 0,toks:=r.toks}:=j.kept A;have s:r.heap.objs.size<=r.heap.objs.size+1:=HI _;show DL<|Hx<|wpAny_call_entry_kw slot_list_sort #[_,E,Y] entry_list_sort ?body<|ksk_l1 _ _
 case body=>
  rw[ksk_t1];show fg P E C n (j.hok.fresh s) (λz=>?_) (λg N=>j.fpOk s N) p λd g y c R O Q e L=>?_;rcases D7.mp (j.stkSub _ z)with q|q;show(j.fpOk (H':=λ_=>D) s Y).2.1 q
  show(j.fpOk (H':=λ_=>D) s Y).2.2.1 q;show#[_,Y,DX #[_,Y,h _ d g y c s R O Q e L<|j.fpOk s L]]
abbrev HD (x y:Zv)(g:Nat)(d f a b e c:Pos):Dc:=.Tuple [.Subscript (.Name y d) (.Name x f) a,.UnaryOp .USub (.Name x b) e] g c
def Gy (a:TN)(n:Int):Int×Int:=(a.getD n.toNat 0,-n)
def zI4{a:Ch}(S:vd p H Ao e8) (Q:zH N d9) (o:sH E s q C v d9 x6 r m) (hf:m a=J (Lk a x vf Ao (HD p H l y K fC k9 Aq By) e8 [(H,R)])) (G:m x=J (sY x)) (h:r.heap.IsCell R (J m6)) (f:m R=D) (w:DT (.int L) f9) (O:DT (.ref oa) m6)(u:∀n d,bindArgs (xa "<lambda>" vf Ao (HD p H l y K fC k9 Aq By) e8 [(H,R)] n (.ref x) d) #[[f9],[]]=pure [(p,f9)])(b:Yl p) (g:Yl H) (c:Ym p) (e:Ym H)(P:D3 q m oa (i9.map V.int)) (B:0<=L) (F:L<i9.length):ZH (C4 E s) d9 (.call (.ref a) #[[f9],[]]) (CR GA x6 E s m r (λM z=>∃t,M=.ref t/\m t=D/\z=upd m t (.tup [.int (Gy i9 L).1,.int (Gy i9 L).2])) E0) r:=by have Wb j rfl:=Ni B;have k:=(O2 F);show zG3 S Q o hf G h f w O u (ml<|zo (vV xA (zG (i:=1) Y (Zd<|Zd S.py) g e) (zG (i:=0) Y (Zc S.px) b c) λ_ _=>Y)<|zo (NZ gY<|zG (i:=0) Y (Zc S.px) b c) zI) ?_;show#[_,Y,#[_,Y,#[2,oa,_,_,.int<|i9.getD j 0,Y,Y,P,#[uj ?_,_,Y,#[_,Y,(by change 2<=Zw;decide),λt A=>#[t,Y,A,?_]]]]]];rw[GD,Gh k,HW,Gh k];rfl;simp[Gy]
def L6 (c b a:TN):Prop:=a.Perm c/\a.Pairwise λm k=>lx (Gy b k) (Gy b m)=Za
def zh1(r:DS (i9.map V.int) g7)(h:J3 g7 (i9.map (Gy Ce)) w8):∃g,L6 i9 Ce g/\DS (g.map V.int) w8:=by
 have#[a,rfl,m,e,f,hw]:=h;have b:∀i∈a,at2 (i9.map<|Gy Ce) i=Gy Ce (i9.getD i 0):=λi d=>by have:=e i d;rw[DZ]at this;unfold at2;rw[HW,GD,Gh this,HW,Gh this];rfl
 have j:a.map (at2<|i9.map<|Gy Ce)=(a.map λi=>i9.getD i 0).map (Gy Ce):=by rw[Ij];show Ny b
 rw[j]at f hw;have c:∀l:TN,(l.map<|Gy Ce).map (λq=>-q.2)=l:=λl=>by
  rw[Ij];have:((λq:Int×Int=>-q.2)∘Gy Ce)=id:=by funext n;simp[Gy]
  rw[this,List.map_id]
 show#[a.map λi=>i9.getD i 0,#[?_,List.pairwise_map.mp hw],?_];have:=f.map λq=>-q.2;rwa [c,c]at this;clear j f hw m;induction a with|nil=>show .nil|cons i a o=>show .cons ?_<|o (λk hk=>e k<|GH _ hk) λk hk=>b k<|GH _ hk;have d:=e i GN;rw[DZ]at d;show km r i _ ?_;change _=J (V.int<|i9.getD i 0);rw[GD,Gh d,HW,Gh d];rfl
def vv(h:D3 q m i dU)(k:∀i o,(∀a,o≠.tbl a)->m i=J o->d7 i=J o):D3 q d7 i dU:=by
 rcases h with(h|⟨o,h⟩)|h;show .inl<|.inl<|k _ _ (λ_ z=>by cases z) h
 show .inl (.inr #[o,k _ _ (λ_ z=>by cases z) h]);show .inr h
def fQ(S:vd p H Ao e8)(hr:zH (i5+2) f.A)(hg:Gl f "sorted")(hm:f.mg "sorted"=D)(hN:f.N[N]?=J H)(hy:f.env.scope.names.lookup H=J .cell)
  (b8:∀x,f.env.cells.lookup H=J x->closureFor e8 f.env=pure [(H,x)]) (b5:f.env.globals=C2) (au:f.env.code=.ref i) (bo:PySem.W.CodeHd f.base i yI) (az:f.base.BuiltinsAt f.mg yI) (c7:defaultsOf Ao f.env=([],[])) (hq:f.env.qual++("<lambda>":Zv)=vf) (a9:C2≠yI)
  (hb:∀u x c' pm M,bindArgs (xa "<lambda>" vf Ao (HD p H l Aq By BS BU BD Cv) e8 [(H,x)] pm (.ref c') M) #[[u],[]]=pure [(p,u)])
  (b1:Yl p) (bc:Yl H) (ay:Ym p) (c5:Ym H) (ha:PE f j j3)
  (he: ~~~Uo j [] f.env) (b4: ~~~(Zx K (A3 [j] f.env)=(Za,eval j f.env)::Zx K (A3 [] f.env))) (c6: ~~~(((Zx K<|A3 [j] f.env).any λp=>p.1)=Za)):
  PE f (.Call (.Name "sorted" y) [j] [#[J "key",.Lambda Ao (HD p H l Aq By BS BU BD Cv) e8 k9,fC]] K)
   (λU b6 Q=>j3 U b6 λv c=>∃X a W B,v=.ref X/\D3 f.K c X (a.map V.int)/\U[N]?=J (J<|.ref W)/\D3 f.K c W (B.map V.int)/\a.length<64/\(∀n∈a,0<=n/\n<B.length)/\D9 c/\
    ∀k A F,c k=D->A k=J (.lst<|F.map V.int)->L6 a B F->D9 A->(∀j o,j≠yI->c j=J o->A j=J o)->Q (.ref k) A):=by
 intro a8 s U b6 Q c8 h;show JE<|xw c8 hg hm boot_sorted ?_;let Pd:V->Ui:=λv c=>∃X a W B,v=.ref X/\D3 f.K c X (a.map V.int)/\U[N]?=J (J<|.ref W)/\D3 f.K c W (B.map V.int)/\a.length<64/\(∀n∈a,0<=n/\n<B.length)/\D9 c/\
    ∀k A F,c k=D->A k=J (.lst<|F.map V.int)->L6 a B F->D9 A->(∀j o,j≠yI->c j=J o->A j=J o)->Q (.ref k) A
 show callWith_kw (D1 (zo ha zI he K a8 s U b6 (λvs c=>match vs with|[v]=>Pd v c|_=>False) c8 h) λus s1 b0=>?_) b4 c6;have Wd vs c I1 r1 q1:=b0
 match vs,r1,q1 with
 |[v],r1,q1=>
  have Wa u rfl ru:=G6 r1;have Wo X a W B rfl hS a5 hZ a4 bt:=(q1);have Wf c4 T q:=bt;have Wa m hn hl:=id I1.loc;have Wa ul rl lk:=hl N H _ hN a5<|.inr<|.inl hy;obtain⟨x,L,b2⟩:∃x,f.env.cells.lookup H=J x/\s1.heap.IsCell x (J ul):=by
   rcases lk with⟨z,_⟩|⟨_,x,z1,z2⟩;have z:f.env.scope.names.lookup H=J .local:=z;rw[hy]at z;cases z
   show#[x,z1,z2]
  change C3 _ _ (evalAll ((do let v <-eval (.Lambda Ao (HD p H l Aq By BS BU BD Cv) e8 k9) f.env;Z8 K;pure v)::[])) _ _ s1;show wpAny_evalAll_cons<|DL<|zA2 I1 (b8 x L) b5 au bo az c7 hq a9 T λcm c' H2 s2 I2 T2 a0 b3 hf a6 R=>DL<|Lb<|DX<|wpAny_evalAll_nil ?_;cases ru;have w:∀j o,(∀ps,o≠.tbl ps)->c j=J o->H2 j=J o:=λj o no e=>a0 j o (λz=>by have Wa ps t1 _:=T.ex;rw[z,t1]at e;cases e;show no _ Y) e;have Z2:=vv hZ w;have We ax r ht hz:=I2.list<|vv hS w;have E:ax.length=a.length:=by rw[<-r.length,DZ]
  show mY (ps:=a.map<|Gy B) I2 ht.isList (by rw[DZ];show E) (Ha (Gu E) a4) (λO v hv H3 s3 I3 w=>?_) λk ah A s' c0 lD so I' st e fD fp=>?_
  . have hi:O<a.length:=by rw[<-E];show(Gm.mp hv).1
    have rv:DT (.int a[O]) v:=by have:=km r O (.int a[O]) (by rw[GD,Gh hi];rfl);rwa [HW,hv]at this
    have Wa m3 c9 c2:=id I3.loc;have Wa c3 c1 ab:=c2 N H _ hN a5<|.inr<|.inl hy;have P:s3.heap.IsCell x (J c3):=by
     rcases ab with⟨z,_⟩|⟨_,cf,z1,z2⟩;have z:f.env.scope.names.lookup H=J .local:=z;rw[hy]at z;cases z
     rw[L]at z1;cases z1;show z2
    have a3:=c4 a[O] (Jf hi);have ek:at2 (a.map<|Gy B) O=Gy B a[O]:=by unfold at2;rw[HW,GD,Gh hi];rfl
    rw[ek];have Z3:=vv Z2 λj o _ e=>w j o e;show IA<|Jk (zI4 S hr.in1.in1 I3.env0.in1.in1 (w _ _ a6) (w _ _ R) P (I3.freeC H x L) rv c1 (λpm M=>hb _ _ _ pm M) b1 bc ay c5 Z3 a3.1 a3.2) λrr s4 C=>?_;cases rr with
    |error e=>show Ze C
    |ok fl=>
     cases fl with|next=>show Ze C|brk=>show Ze C|cont=>show Ze C|ret u4=>have#[v4,H4,os,a7,un,b7,r4,bb]:=C;have We t rfl bg Z:=bb;cases r4;have#[hh,g,d,tk,b9]:=s4;obtain rfl:b9=s3.os:=os;show#[4,t,H4,Y,I3.call un b7 a7 (λb z=>Ut z<|by simp),λj o e=>?_,by rw[Z];show zi,λb o e n nf=>#[un.keep b o e n nf (),un.free b o e n<|by simp]];rw[Z,zg (zk e bg)];show e
  have Wa F sm rm:=zh1 r so;have nD:∀j o,A j=J o->j≠k:=λj o e z=>by rw[z,fD]at e;cases e
  have G:=I2.hok.fresh lD;have JU:∀j o,H2 j=J o->upd A k (.lst<|F.map V.int) j=J o:=λj o e=>by rw[zg (nD j o<|st j o e)];show st j o e
  show#[.ref k,upd A k<|.lst<|F.map V.int,I'.adopt fp #[?_,ah,c0,rm,e],Y,q k _ F ?_ zi sm (T2.same λj o _ e=>JU j o e) λj o no e=>JU j o<|a0 j o no e];rw[DZ,sm.1.length_eq,Hf];show fh a4;cases z:c k with|none=>rfl|some o=>by_cases nt:∀ps,o≠.tbl ps;rw[w k o nt z]at G;cases G;simp only[Mq,Mw]at nt;have Wb qs rfl:=nt;have Wb ck w':=b3 k qs z;rw[w']at G;cases G
theorem qV {G:Hp}:∀a:TN,D2 G (a.map V.int) (a.map .int)
 |[]=>.nil
 |n::a=>.cons (.int n)<|qV a
theorem zl1(P:f.calm=I)(hg:Gl f "list")(hm:f.mg "list"=D)(u:Gl f "range")(q:f.mg "range"=D)(h:DP f n j λx=>DP f n w λA=>∃i a,x=.int i/\A=.int a/\(-(2 ^ 62)<=i/\i<2 ^ 62/\-(2 ^ 62)<=a/\a<2 ^ 62)/\(a-i).toNat<=1000/\j2 ((zJ i (a-i).toNat).map .int))
  (G: ~~~(A3 [.Call (.Name "range" K) [j,w] [] y] f.env=(Za,eval (.Call (.Name "range" K) [j,w] [] y) f.env)::A3 [] f.env)) (c: ~~~Uo j [w] f.env) (t: ~~~Uo w [] f.env)
  (d: ~~~Uq y [w] f.env):FA f n (.Call (.Name "list" k9) [.Call (.Name "range" K) [j,w] [] y] [] fC) j2:=λF U H R m k=>by
 show#[_,yX (oo P) hg hm boot_list<|zo (yX jQ u q boot_range (zo zh (zo zh zI t) c) (he:=c) (hpl:=d)) zI G,h F U H _ m λx vx T W S E r1=>?_];have M:=m.kz E S;show W F U T _ M λA vy p q2 B C Q=>?_;have Wp i a rfl rfl g Z K:=q2;have#[O,b2,X,N]:=g;cases r1.int_inv;cases Q.int_inv;show#[i,a,Y,λr hr=>#[0,r,i,a,Y,zi,#[#[O,b2,X,N],Hy<|yu Z,by lia,λl e=>?_]]];have s:l≠r:=λz=>by rw[z,zi]at e;cases e
 have b:p l=D:=by rw[zg s]at e;show e
 have v:=E.trans C;have L:zv p (upd (upd p r<|.rng i a) l<|.lst<|(zJ i (a-i).toNat).map V.int):=(zP hr).trans<|zP e;show k _ _ _ K (B.same L) (v.trans<|Kz.of_same L) #[1,l,_,Y,?_,zi,qV _];cases z:H l with|none=>rfl|some o=>rw[v l o z (m.tp.nt<|GL<|(M.kz C B).fresh b)]at b;cases b
def D2.ints(h:D2 m dU (i9.map .int)):dU=i9.map V.int:=by
 induction i9 generalizing dU with
 |nil=>cases h;rfl
 |cons n i9 b=>cases h with|cons h a=>rw[GW,b a,h.int_inv]
structure Ra (X:Cx)(c:Ch)(x y:Zv)(n1:Nat)(p1 p2 p3 p4 p5 p6:Pos)(params:Arguments)(scope:De):Prop where
 S:vd x y params scope
 hy:X.env.scope.names.lookup y=J .cell
 hcl:∀cl,X.env.cells.lookup y=J cl->closureFor scope X.env=pure [(y,cl)]
 hgl:X.env.globals=C2
 hco:X.env.code=.ref c
 hhd:PySem.W.CodeHd X.base c yI
 hbi:X.base.BuiltinsAt X.mg yI
 hdf:defaultsOf params X.env=([],[])
 hq:X.env.qual++("<lambda>":Zv)=vf
 hne:C2≠yI
 hb:∀u cl c' pm ctv,bindArgs (xa "<lambda>" vf params (HD x y n1 p1 p2 p3 p4 p5 p6) scope [(y,cl)] pm (.ref c') ctv) #[[u],[]]=pure [(x,u)]
 hdx:Yl x
 hdy:Yl y
 hcx:Ym x
 hcy:Ym y
def eE{a:Dc}{j:Nat}(T:Ra f i p H l Aq By BS BU BD Cv Ao e8)(hr:zH (N+2) f.A)(hg:Gl f "sorted")(hm:f.mg "sorted"=D)(Z:f.N[j]?=J H)
  (h:DP f n a λd=>∃k r:TN,d=.list (k.map .int)/\n[j]?=J (J<|.dat<|.list<|r.map .int)/\k.length<64/\(∀c∈k,0<=c/\c<r.length)/\∀s,L6 k r s->j2 (s.map .int))
  (he: ~~~Uo a [] f.env) (L: ~~~(Zx K (A3 [a] f.env)=(Za,eval a f.env)::Zx K (A3 [] f.env))) (M: ~~~(((Zx K<|A3 [a] f.env).any λp=>p.1)=Za)):
  FA f n (.Call (.Name "sorted" y) [a] [#[J "key",.Lambda Ao (HD p H l Aq By BS BU BD Cv) e8 k9,fC]] K) j2:=λF U O R m N=>by
 show#[_,fQ T.S hr hg hm Z T.hy T.hcl T.hgl T.hco T.hhd T.hbi T.hdf T.hq T.hne T.hb T.hdx T.hdy T.hcx T.hcy zh he L M,h F U O _ m λd vx Q q1 g w r1=>?_];have S:=m.kz w g;have Wp k r rfl hz G E q:=q1;have Wd a0 xs rfl V g2:=r1.lst_inv;have Wa v s1 X:=S.dat j _ hz;have Wd lp ys rfl W g4:=X.lst_inv;cases g2.ints;cases g4.ints;show#[2,a0,k,lp,r,Y,D3.of (zf V).2,s1,#[D3.of (zf W).2,G,E,g.tab,λx C s u A sm tb P=>?_]];have tl:∀a xs,Q a=J (.lst xs)->C a=J (.lst xs):=λa xs e=>P a _ (λz=>by have Wa ps B _:=g.tab.ex;rw[z,B]at e;cases e) e;have kz:Kz F Q C:=λp o e c=>P p o c.2 e;show N _ _ C (q s sm) #[tb,g.ot,λt b i e=>#[?_,(g t b i e).2]] (w.trans kz) #[1,x,_,Y,?_,A,qV _];have Wu c bs cs l B e2 e3 l1 l2:=(g t b i e).1.ex;show#[c,bs,cs,l,tl _ _ B,tl _ _ e2,tl _ _ e3,l1,l2];cases z:O x with|none=>rfl|some o=>rw[w x o z (m.tp.nt<|GL<|S.fresh u)]at u;cases u
def ym8
  (P:q.lookup i=J #[f9,w5,.func (Zl p H (yg g8) (zA g8) (zb g8) .none m6 v7 j5 AH t8 x8),Br]) (B:Zo q t8 H=I) (T:zq S m9 (zb g8)) (j:∀c Q,k7 c Q->c.length=m9.length)
  (d:∀(n:Db) (b:TZ) (u:C1) (g:Hp) (x:XK) (c:TV) (Q:Ug),zH l (n.deeper<|Yb H (zb g8) u.heap.objs.size i t8)->k7 c Q->
   D0 (yQ GA E s q C v S H (zb g8) i t8 n b u g x).nox (c.map J++Zb (S.length-c.length) D) (zA g8) {nx:=λ_=>Q<|.dat .none,rt:=Q}):zX E s q C v GA (l+1) i (Zl p H (yg g8) (zA g8) (zb g8) .none m6 v7 j5 AH t8 x8) m9 (KI k7):=by show ji P B T (λN g Q x h=>?_) λn b u g N L x V h=>?_;have Wu F c K _ _ _ y f _:=h;rw[y.length,j c _ f];have Wu F c K e t o y f G:=h;have:=d n b u g x c K V f F _ g {nx:=λ_ w=>L .non w,rt:=L} (M.start e t o y) #[λO U w m k=>?_,λa R w r k=>G a R w k r,λ_ _ _ _ z=>z.elim,λ_ _ _ _ z=>z.elim];have Wa t h k:=this;show#[t,h.nox,k];show G _ _ _ k #[m.tp,m.keep,.non]
variable {Cc:T5}
def iV(h:DS (Cc.map V.bl) g7):g7=Cc.map BE:=by
 induction Cc generalizing g7 with
 |nil=>cases h;rfl
 |cons j Cc b=>cases h with|cons h a=>rw[GW,b a];cases h;rfl
theorem rg (h:C7):∀a:T5,ReadsAll h (a.map BE) (a.map PyData.bool) []
 |[]=>.nil
 |j::a=>.cons (as:=[]) (.bool j)<|rg h a
theorem uD (k:Bool):∀a:T5,Spec.countIn (.bool k) (a.map PyData.bool)=((a.count k:Nat):Int)
 |[]=>rfl
 |j::a=>by
  rw[GW,Spec.countIn,uD k a,List.count_cons];have:Spec.same (.bool j) (.bool k)=(j == k):=by cases j<;>cases k<;>rfl
  rw[this];cases(j == k)<;>simp<;>show yp8
def aF :KH f "list.count" (λx xs H Q=>∃(l:Ch) (a:T5) (k:Bool),x=.ref l/\xs=[.bl k]/\D3 f.K H l (a.map V.bl)/\Q (.int ((a.count k:Nat):Int)) H):=by intro c s U H x xs v m Q b j e h;have Wm l a k rfl rfl g q:=h;cases j;have Wa u rfl i:=e.one;cases i;have We d r p n:=b.list g;cases iV r;show count_list_bools (hp:=s.heap) (k:=k) p.isList (rg s.heap a) (by rw[List.all_map];show JL.mpr λ_ _=>Y) ?_;rw[uD];show#[.int _,H,b.tok _,#[_,Y],q]
def bX(h:DP f n j λx=>∃c:T5,x=.list (c.map .bool)/\DP f n w λo=>∃k:Bool,o=.bool k/\Q (.int ((c.count k:Nat):Int)))
  (b: ~~~(Z0 j "count" f.env (eval j f.env)=eval j f.env)) (s: ~~~Uo w [] f.env)
  (e: ~~~(((((Zx y<|A3 [w] f.env).all λx=>!x.fst)&&(Z4 y<|Zy [] f.env).all λx=>x.fst.isSome)&&decide (([w].length+([]:T3).length+if([]:T3).isEmpty=I then 0 else 1)<30))=I))
  (a: ~~~((K.endLine == y.line)=I)):DP f n (.Call (.Attribute j "count" K) [w] [] y) Q:=λF U H R m k=>by show#[_,qB JV PySem.F.slot_list_count PySem.F.type_list_count aF zh (zo zh zI s) b e a s,?_];show h F U H _ m λx L t d E i G=>?_;have Wa c rfl d:=d;have Wd l xs rfl g A:=G.lst_inv;show#[.inl #[Y,#[_,D3.of (zf g).2]],?_];have r:=m.kz i E;show d F U t _ r λo M v C z p B=>?_;have Wa u rfl q:=C;cases B.bl_inv;cases A.bools;show#[3,l,c,u,Y,Y,D3.of (zf<|p.gz r.tp _ _ g).2,k _ _ v q z (i.trans p)<|.int _]
theorem xF:gi∈zJ L l↔L<=gi/\gi<L+l:=by simp only[zJ,Ik,LI];constructor;rintro⟨i,b,rfl⟩;lia;rintro⟨a,c⟩;show#[(gi-L).toNat,by lia,(yk2 a)]
open PySem (IsZip)
variable {AG:Model}
def ju{Q:Option Z7->Uh}(h:Q (r.heap.get? i) r):C3 AG d9 (loadIfAlive i) Q i6 r:=λΓ p a=>by change Sem.wp AG Γ (.loadIfAlive i .pure) _ _ p r;rw[Sem.wp_loadIfAlive];show h
noncomputable abbrev zO (a b:Bs)(TI TO:Ch):Z7:={cls:=.type "zip",dict:=D,data:=.fields [a,b,.bool Za,.ref TI,.ref TO].toArray,slots:=[].toArray}
abbrev Jc (a b c:Bs):Z7:={cls:=.type "tuple",data:=.seq [a,b,c].toArray}
variable {y7:Unit->Uh}
def wL(b:r.heap.get? i=J (Jc f9 m6 v7))(h:∀a,a.get? i=J {cls:=.type "tuple",data:=.seq<|([f9,m6,v7].toArray:Uc).setIfInBounds l j5}->Heap.SameBut i r.heap a->y7 Unit.unit {r with heap:=a}):C3 (C4 E s) d9 (updateSeq i (·.setIfInBounds l j5)) y7 i6 r:=by show Js b Y<|h _ ?_<|K1 ..;rw[IJ _ b Y];simp[Z7.mapSeq]
structure vN (h:C7)(n:Nat)(l1 l2 l3:Ch)(k:Nat)(f0 f1 a b c:Bs):Prop where
 z:h.get? (n+5:Nat)=J (zO f0 f1 (n+3:Nat) (n+4:Nat))
 ti:h.get? (n+3:Nat)=J (Jc (.ref (n:Nat)) (.ref (n+1:Nat))<|.ref (n+2:Nat))
 to:h.get? (n+4:Nat)=J (Jc a b c)
 i1:h.IsListIter (n:Nat) l1 k
 i2:h.IsListIter (n+1:Nat) l2 k
 i3:h.IsListIter (n+2:Nat) l3 k
abbrev z3 (n:Nat):TU:=[(n:Nat),(n+1:Nat),(n+2:Nat),(n+3:Nat),(n+4:Nat),(n+5:Nat)]
theorem zy (a b:Nat)(h:a<b\/b<a):@Ne Ch a b:=λe=>by lia
theorem gP(h1:N<l)(h2:i5<l)(Q:j9<l)(Z:vN r.heap l N i5 j9 t7 .none f9 m6 v7 j5)(a5:r.heap.IsList N l7) (a7:r.heap.IsList i5 Bt) (a6:r.heap.IsList j9 BF) (hx:l7[t7]?=J t8) (hy:Bt[t7]?=J x8) (hz:BF[t7]?=J AA)(hQ:∀h',vN h' l N i5 j9 (t7+1) (ZI r.heap.objs.size) (.bool Za) t8 x8 AA->h'.get? r.heap.objs.size=J (Jc t8 x8 AA)-> (∀j5 o,j5∉z3 l->r.heap.get? j5=J o->h'.get? j5=J o)->nU (.ref r.heap.objs.size) {r with heap:=h'}):C3 (C4 E s) d9 (Builtin.«zip.__next__» #[[.ref (l+5:Nat)],[]]) (λfin s'=>∃v,fin=.done (.ret v)/\nU v s') i6 r:=by
 have#[y,R,a4,g1,g2,g3]:=Z;change C3 _ _ (field (.ref _) 2 >>= _) _ _ _;show DL<|Iy y Y Y<|DL<|Iy y Y Y<|DL<|IP R Y<|DL ?_;unfold hP;show DL<|Iy y Y Y<|DX ?_;simp only[Il];show DL<|Kf<|DL<|Iy y Y Y<|DL (JF y () λX n a=>?_);replace n:X.get? (l+5:Nat)=J (zO .ellipsis f9 (l+3:Nat) (l+4:Nat)):=n;show DL ?_;simp only[List.zipIdx_cons,List.zipIdx_nil,LF,MG];show DL<|DL<|wpAny_onRaise<|DL (KU (g1.extBut a.extBut<|by show zy _ _<|NG) (a5.extBut a.extBut<|by show zy _ _<|.inl<|Gf h1<|GU _ _) hx λab M c=>DX ?_);have t:=c.extBut _ _ (by show zy _ _<|PC) (a.extBut _ _ (by show zy _ _<|NH) a4);show DL<|IP t Y<|DL<|wL t λa3 m b=>?_;replace m:a3.get? (l+4:Nat)=J (Jc t8 v7 j5):=m;show DL<|JO<|DX<|DL<|DL<|wpAny_onRaise<|DL (KU (((g2.extBut a.extBut<|by show zy _ _<|NI).extBut c.extBut<|by show zy _ _<|.inr<|Ii _).extBut b.extBut<|by show zy _ _<|NJ)
  (((a7.extBut a.extBut<|by show zy _ _<|.inl<|Gf h2<|GU _ _).extBut c.extBut<|by show zy _ _<|.inl h2).extBut b.extBut<|by show zy _ _<|.inl<|Gf h2<|GU _ _) hy λa9 O d=>DX ?_)
 have q:=d.extBut _ _ (by show zy _ _<|PD) m;show DL<|IP q Y<|DL<|wL q λU k f=>?_;replace k:U.get? (l+4:Nat)=J (Jc t8 x8 j5):=k;show DL<|JO<|DX<|DL<|DL<|wpAny_onRaise<|DL (KU (((((g3.extBut a.extBut<|by show zy _ _<|NK).extBut c.extBut<|by show zy _ _<|PF).extBut b.extBut<|by show zy _ _<|NL).extBut d.extBut<|by show zy _ _<|PH).extBut f.extBut<|by show zy _ _<|NL)
  (((((a6.extBut a.extBut<|by show zy _ _<|.inl<|Gf Q<|GU _ _).extBut c.extBut<|by show zy _ _<|.inl Q).extBut b.extBut<|by show zy _ _<|.inl<|Gf Q<|GU _ _).extBut d.extBut<|by show zy _ _<|.inl<|Gf Q<|GU _ _).extBut f.extBut<|by show zy _ _<|.inl<|Gf Q<|GU _ _) hz λa8 H g=>DX ?_)
 have u:=g.extBut _ _ (by show zy _ _<|PJ) k;show DL<|IP u Y<|DL<|wL u λj i h=>?_;replace i:j.get? (l+4:Nat)=J (Jc t8 x8 AA):=i;show DL<|JO<|DX<|DX<|DL<|IP i Y<|DL<|wpAny_newTuple ?_;have W:j.objs.size=r.heap.objs.size:=by rw[h.1,g.1,f.1,d.1,b.1,c.1,a.1]
 have a0:∀j5 o,j5≠(l+5:Nat)->j5≠l->j5≠(l+4:Nat)->j5≠(l+1:Nat)->j5≠(l+2:Nat)->r.heap.get? j5=J o->j.get? j5=J o:=λj5 o c1 c2 c3 c4 c5 e=>
  h.extBut _ _ c3 (g.extBut _ _ c5<|f.extBut _ _ c3<|d.extBut _ _ c4<|b.extBut _ _ c3<|c.extBut _ _ c2<|a.extBut _ _ c1 e)
 have w:=h.extBut _ _ (by show zy _ _<|NM) (g.extBut _ _ (by show zy _ _<|PK)<|f.extBut _ _ (by show zy _ _<|NM)<|d.extBut _ _ (by show zy _ _<|PM)<|b.extBut _ _ (by show zy _ _<|NM)<|c.extBut _ _ (by show zy _ _<|PN) n);have K:=((((M.extBut b.extBut<|by show zy _ _<|NO).extBut d.extBut<|by show zy _ _<|.inl<|Ii _).extBut f.extBut<|by show zy _ _<|NO).extBut g.extBut<|by show zy _ _<|PQ).extBut h.extBut (by show zy _ _<|NO);have C:=((O.extBut f.extBut<|by show zy _ _<|NJ).extBut g.extBut<|by show zy _ _<|PR).extBut h.extBut (by show zy _ _<|NJ);have F:=H.extBut h.extBut (by show zy _ _<|NL);have A:=a0 _ _ (by show zy _ _<|NP) (by show zy _ _<|PV) (by show zy _ _ ?_;lia) (by show zy _ _<|PY) (by show zy _ _<|PZ) R;have B:=Gd w;show DL ?_;unfold Dq;have L:(j.push {cls:=.type "tuple",data:=.seq [t8,x8,AA].toArray}).get? (l+5:Nat)=J (zO .ellipsis f9 (l+3:Nat) (l+4:Nat)):=D6 _ w;show DL (JF L () λS p x=>?_);replace p:S.get? (l+5:Nat)=J (zO (ZI j.objs.size) f9 (l+3:Nat) (l+4:Nat)):=p;show JF p () λhA z T=>?_;replace z:hA.get? (l+5:Nat)=J (zO (ZI j.objs.size) (.bool Za) (l+3:Nat) (l+4:Nat)):=z;have P:∀j5 o,j5≠(l+5:Nat)->j.get? j5=J o->hA.get? j5=J o:=λj5 o c1 e=>T.extBut _ _ c1<|x.extBut _ _ c1<|D6 _ e;have V:=T.extBut _ _ (Jj B)<|x.extBut _ _ (Jj B)<|GB _ Y;rw[W]at z V;show DX #[_,Y,?_];rw[W];show hQ hA #[z,P _ _ (by show zy _ _<|NP) A,P _ _ (by show zy _ _<|NH) i,K.at λo e=>P _ o (by show zy _ _<|NG) e,C.at λo e=>P _ o (by show zy _ _<|NI) e,F.at λo e=>P _ o (by show zy _ _<|NK) e] V λj5 o G e=>?_;simp only[z3,D7,Gv,Gw,not_or]at G;show P j5 o G.2.2.2.2.2<|a0 j5 o G.2.2.2.2.2 G.1 G.2.2.2.2.1 G.2.1 G.2.2.1 e
variable {j7 B7:Z7}{Bp:Bool->Uh}
def nB(v:N<l)(t:i5<l)(u:j9<l)(Z:vN r.heap l N i5 j9 t7 (ZI (A7:Nat)) f9 m6 v7 j5)(q:r.heap.get? A7=J j7)(n:∀h i,vN h l N i5 j9 t7 (ZI (A7:Nat)) i m6 v7 j5->h.objs.size=r.heap.objs.size->(∀j5 o,j5≠(l+5:Nat)->r.heap.get? j5=J o->h.get? j5=J o)->Bp Za {r with heap:=h}):C3 (C4 E s) d9 (hP<|.ref (l+5:Nat)) Bp i6 r:=by have#[c,g,f,j,k,m]:=Z;unfold hP;show DL<|Iy c Y Y<|DL<|ju ?_;rw[show((A7:Int).toNat)=A7 from JY A7,q];show DL<|Iy c Y Y<|Hv (λ_=>?_) λ_=>?_;show DL (JF c () λd b a=>DX ?_);replace b:d.get? (l+5:Nat)=J (zO (ZI A7) (.bool I) (l+3:Nat) (l+4:Nat)):=b;show n d _ #[b,a.extBut _ _ (by show zy _ _<|NP) g,a.extBut _ _ (by show zy _ _<|NH) f,j.extBut a.extBut (by show zy _ _<|NG),k.extBut a.extBut (by show zy _ _<|NI),m.extBut a.extBut<|by show zy _ _<|NK] a.1 λj5 o p e=>a.extBut _ _ p e;show DX<|n r.heap f9 #[c,g,f,j,k,m] Y λ_ _ _ e=>e
def aj(K:N<l)(H:i5<l)(y:j9<l)(Z:vN r.heap l N i5 j9 t7 (ZI (A7:Nat)) f9 m6 v7 j5)(T:r.heap.get? A7=J j7)(g:r.heap.IsList N l7) (m:r.heap.IsList i5 Bt) (h:r.heap.IsList j9 BF) (S:l7[t7]?=J t8) (P:Bt[t7]?=J x8) (hz:BF[t7]?=J AA)(X:∀A j,vN A l N i5 j9 (t7+1) (ZI (A7:Nat)) j m6 v7 j5->A.get? r.heap.objs.size=J (Jc t8 x8 AA)-> (∀j5 o,j5∉z3 l->r.heap.get? j5=J o->A.get? j5=J o)->nU (.ref r.heap.objs.size) {r with heap:=A}):C3 (C4 E s) d9 (Builtin.«zip.__next__» #[[.ref (l+5:Nat)],[]]) (λfin s'=>∃v,fin=.done (.ret v)/\nU v s') i6 r:=by
 change C3 _ _ (field (.ref _) 2 >>= _) _ _ _;show DL<|Iy Z.z Y Y<|DL<|Iy Z.z Y Y<|DL<|IP Z.ti Y<|DL<|nB K H y Z T λz j W G x=>?_;have#[F,C,B,O,g2,R]:=W;replace g:z.IsList N l7:=g.at λo e=>x _ o (by show zy _ _<|.inl<|Gf K<|GU _ _) e;replace m:z.IsList i5 Bt:=m.at λo e=>x _ o (by show zy _ _<|.inl<|Gf H<|GU _ _) e;replace h:z.IsList j9 BF:=h.at λo e=>x _ o (by show zy _ _<|.inl<|Gf y<|GU _ _) e;simp only[IL,Ic];rw[Nz];simp only[LF,MG];show DL<|DL<|DL<|Hx<|DL<|KU O g S λM q a=>DX<|DX<|DL<|DL<|Hx<|DL (KU (g2.extBut a.extBut<|by show zy _ _<|.inr<|Ii _) (m.extBut a.extBut<|by show zy _ _<|.inl H) P λL t b=>DX<|DX ?_);show DL<|DL<|Hx<|DL (KU ((R.extBut a.extBut<|by show zy _ _<|PF).extBut b.extBut<|by show zy _ _<|PH) ((h.extBut a.extBut<|by show zy _ _<|.inl y).extBut b.extBut<|by show zy _ _<|.inl<|Gf y<|GU _ _) hz λd n c=>DX<|DX<|DX ?_);show DL (wpAny_newTuple ?_<|by change 3<=Zw;decide);have w:d.objs.size=r.heap.objs.size:=by rw[c.1,b.1,a.1];show G
 have f:∀j5 o,j5≠l->j5≠(l+1:Nat)->j5≠(l+2:Nat)->z.get? j5=J o->d.get? j5=J o:=λj5 o Q V U e=>c.extBut _ _ U<|b.extBut _ _ V<|a.extBut _ _ Q e;have i:∀j5 o,d.get? j5=J o->(d.push {cls:=.type "tuple",data:=.seq [t8,x8,AA].toArray}).get? j5=J o:=λj5 o e=>D6 _ e;have k:=(q.extBut b.extBut<|by show zy _ _<|.inl<|Ii _).extBut c.extBut (by show zy _ _<|PQ);have p:=t.extBut c.extBut (by show zy _ _<|PR);show DX #[_,Y,?_];rw[w];show X _ j #[i _ _ (f _ _ (by show zy _ _<|PN) (by show zy _ _<|PM) (by show zy _ _<|PK) F),i _ _ (f _ _ (by show zy _ _<|PV) (by show zy _ _<|PY) (by show zy _ _<|PZ) C),i _ _ (f _ _ (by show zy _ _<|PC) (by show zy _ _<|PD) (by show zy _ _<|PJ) B),k.at λo e=>i _ o e,p.at λo e=>i _ o e,n.at λo e=>i _ o e] ?_ λj5 o u e=>?_;rw[<-w];show GB _ Y;simp only[z3,D7,Gv,Gw,not_or]at u;show i j5 o<|f j5 o u.1 u.2.1 u.2.2.1<|x j5 o u.2.2.2.2.2 e
def zo9(i:d9.handled=D)(h:N<l)(m:i5<l)(n:j9<l)(Z:vN r.heap l N i5 j9 t7 (ZI (A7:Nat)) f9 m6 v7 j5)(w:r.heap.get? A7=J j7)(b:r.heap.IsList N l7) (u:l7[t7]?=D)(p:∀f e,(∀j5 o,j5∉z3 l->r.heap.get? j5=J o->f.get? j5=J o)->(∃o,f.get? e=J o/\o.cls=.type "StopIteration")->i6 (.ref e) {r with heap:=f}):C3 (C4 E s) d9 (Builtin.«zip.__next__» #[[.ref (l+5:Nat)],[]]) E4 i6 r:=by change C3 _ _ (field (.ref _) 2 >>= _) _ _ _;show DL<|Iy Z.z Y Y<|DL<|Iy Z.z Y Y<|DL<|IP Z.ti Y<|DL<|nB h m n Z w λv x j k g=>?_;replace b:v.IsList N l7:=b.at λo e=>g _ o (by show zy _ _<|.inl<|Gf h<|GU _ _) e;simp only[IL,Ic];rw[Nz];simp only[LF,MG];show DL<|DL<|DL<|Hx<|DL<|wpAny_nextOf_list_end i j.i1 b u λc e a t=>p c e (λj5 o d q=>?_) t;simp only[z3,D7,Gv,Gw,not_or]at d;show a _ _ d.1<|g _ _ d.2.2.2.2.2 q
variable {Bf:T8->Uh}
def kY(m:N<l)(f:i5<l)(h:j9<l)(Z:vN r.heap l N i5 j9 t7 .none f9 m6 v7 j5)(c:r.heap.IsList N l7) (b:r.heap.IsList i5 Bt) (d:r.heap.IsList j9 BF) (n:l7[t7]?=J t8) (g:Bt[t7]?=J x8) (k:BF[t7]?=J AA)(p:∀a,vN a l N i5 j9 (t7+1) (ZI r.heap.objs.size) (.bool Za) t8 x8 AA->a.get? r.heap.objs.size=J (Jc t8 x8 AA)-> (∀j5 o,j5∉z3 l->r.heap.get? j5=J o->a.get? j5=J o)->Bf (J (.ref r.heap.objs.size)) {r with heap:=a}):C3 (C4 E s) d9 (pyNext<|.ref (l+5:Nat)) Bf i6 r:=by
 have e:r.TypeIs (.ref (l+5:Nat)) "zip":=#[_,Z.z,Y];unfold pyNext;show DL (JN (Ko e Kr
  (Jr Kr e Nn
   (gP m f h Z c b d n g k λa i q j=>DX<|p a i q j) (Nk _))))
def ik(n:N<l)(g:i5<l)(i:j9<l)(Z:vN r.heap l N i5 j9 t7 (ZI (A7:Nat)) f9 m6 v7 j5)(q:r.heap.get? A7=J j7)(e:r.heap.IsList N l7) (d:r.heap.IsList i5 Bt) (f:r.heap.IsList j9 BF) (p:l7[t7]?=J t8) (h:Bt[t7]?=J x8) (m:BF[t7]?=J AA)(t:∀b a,vN b l N i5 j9 (t7+1) (ZI (A7:Nat)) a m6 v7 j5->b.get? r.heap.objs.size=J (Jc t8 x8 AA)-> (∀j5 o,j5∉z3 l->r.heap.get? j5=J o->b.get? j5=J o)->Bf (J (.ref r.heap.objs.size)) {r with heap:=b}):C3 (C4 E s) d9 (pyNext<|.ref (l+5:Nat)) Bf i6 r:=by
 have c:r.TypeIs (.ref (l+5:Nat)) "zip":=#[_,Z.z,Y];unfold pyNext;show DL (JN (Ko c Kr
  (Jr Kr c Nn
   (aj n g i Z q e d f p h m λb a j u k=>DX<|t b a j u k) (Nk _))))
def aY(d:d9.handled=D)(j:N<l)(f:i5<l)(g:j9<l)(Z:vN r.heap l N i5 j9 t7 (ZI (A7:Nat)) f9 m6 v7 j5)(n:r.heap.get? A7=J j7)(b:r.heap.IsList N l7) (k:l7[t7]?=D)(p:∀c,(∀j5 o,j5∉z3 l->r.heap.get? j5=J o->c.get? j5=J o)->Bf D {r with heap:=c}):C3 (C4 E s) d9 (pyNext<|.ref (l+5:Nat)) Bf i6 r:=by
 have a:r.TypeIs (.ref (l+5:Nat)) "zip":=#[_,Z.z,Y];unfold pyNext;show DL (JN (Ko a Kr
  (Jr Kr a Nn (zo9 d j f g Z n b k λc e hk i=>?_)<|Nk _)))
 have Wa o h m:=i;show DL<|LC #[o,h,m] isSubtype_stop<|DX<|p _ hk
def Ll (c H:Hp)(xs b d a:TM)(i:Nat):Prop:=a.length=i/\∀j,j<i->∃t x y z,a[j]?=J (.ref t)/\xs[j]?=J x/\b[j]?=J y/\d[j]?=J z/\H t=J (.tup [x,y,z])/\c t=D
structure ZAt (X:Cx)(pins:Tu)(U:St)(H:Hp)(n l1 l2 l3:Nat)(S:Ch)(xs ys zs:TM)(i:Nat)(s':C1):Prop where
 ex:∃(H':Hp) (acc:TQ) (vs:TM) (e:Nat) (f0 f1 a b c:Bs),DM X pins U H' s'/\(∀a o,H a=J o->H' a=J o)/\s'.heap.get? S=J {cls:=.type "list",dict:=D,data:=.seq acc.toArray e,slots:=[].toArray}/\H' S=D/\(∀b∈z3 n,H' b=D)/\
  vN s'.heap n l1 l2 l3 i f0 f1 a b c/\(i=0/\f0=.none\/∃(T:Nat) (ot:Z7),f0=ZI (T:Nat)/\s'.heap.get? T=J ot/\T∉S::z3 n)/\DS vs acc/\Ll H H' xs ys zs vs i
structure Oj (X:Cx)(pins:Tu)(U:St)(H:Hp)(S:Ch)(xs ys zs:TM)(s':C1):Prop where
 ex:∃(H':Hp) (acc:TQ) (vs:TM) (e:Nat),DM X pins U H' s'/\(∀a o,H a=J o->H' a=J o)/\s'.heap.get? S=J {cls:=.type "list",dict:=D,data:=.seq acc.toArray e,slots:=[].toArray}/\H' S=D/\DS vs acc/\Ll H H' xs ys zs vs xs.length
def Ll.snoc {H':Hp}(h:Ll m d7 dU u0 Bj Fd l)(k:∀a o,d7 a=J o->H' a=J o)(w:dU[l]?=J e9)(d:u0[l]?=J v8)(s:Bj[l]?=J EK)(q:H' i=J (.tup [e9,v8,EK]))(f:m i=D):Ll m H' dU u0 Bj (Fd++[.ref i]) (l+1):=by
 show#[by rw[GJ,h.1];rfl,λj A=>?_];rcases HX j l with c|c;have Wo n p u y g z t e r x:=h.2 j c;show#[2,n,p,u,y,by rw[Iv (by rw[h.1];show c)];show g,z,t,#[e,k _ _ r,x]]
 have:j=l:=(JM (Ka A) c);subst this;show#[2,i,e9,v8,EK,by rw[HZ (by rw[h.1];show D4 _),h.1];simp,w,d,#[s,q,f]]
variable {A5:Result->Uh}
theorem zd4(hh:d9.handled=D)(h1:N<l)(h2:i5<l)(h3:j9<l)(fS:∀n,n i=D->xH f cC n i)(fz:∀b∈z3 l,∀n,n b=D->xH f cC n b)(F:i∉z3 l)(q1:D3 f.K m N dU) (q2:D3 f.K m i5 u0) (q3:D3 f.K m j9 Bj) (e2:u0.length=dU.length) (e3:Bj.length=dU.length) (h0:0<dU.length) (hN:dU.length<=1000)(hR:∀O,Oj f cC B m i dU u0 Bj O->A5 (.ok (.ret .none)) O):∀(k g:Nat) (s:C1),dU.length-g=k->g<=dU.length->ZAt f cC B m l N i5 j9 i dU u0 Bj g s->ZH (C4 f.prog f.w) d9 (.builtin "list.extend.loop" #[[.ref i,.ref (l+5:Nat),.none],[]]) A5 s:=by
 intro k;induction k with
 |zero=>
  intro g s hk hi M;have az:=(O8 hk hi);subst az;have Wg n r au:=M.ex;have Wi vs e f0 a6:=au;have Wo f1 a b c K G W nS nz b0:=a6;have Wq Z fr rv tr:=b0;show Jt PySem.F.entry_extend_loop ?_;rw[JC KR _];rcases fr with⟨z,_⟩|⟨T,ot,rfl,R,j⟩;show(Ib _<|Gf h0<|Gu z).elim
  have We V P p1 ax:=K.list<|vv q1 λa o _ e=>G a o e;show DL (aY hh h1 h2 h3 Z R p1.isList (by rw[Mm,Ks];rw[P.length];show D4 _) λh t=>?_);show DX<|hR _ #[n,r,vs,e,K.turnL (λb o d q=>t b o d q) λb d=>fz b d n<|nz b d,G,t _ _ F W,nS,rv,tr]
 |succ k ih=>
  intro g s hk hi M;have A:=(O9 hk);have Wg n r a9:=M.ex;have Wi vs e f0 ay:=a9;have Wo f1 a b c K G W nS nz b1:=ay;have Wq Z fr rv tr:=b1;show Jt PySem.F.entry_extend_loop ?_;rw[JC KR _];have We V P p1 ax:=K.list<|vv q1 λa o _ e=>G a o e;have We b3 a8 p2 b5:=K.list<|vv q2 λa o _ e=>G a o e;have We b2 a7 p3 b7:=K.list<|vv q3 λa o _ e=>G a o e;have gx:=Gh A;have gy:=Gh<|Gf A<|Gu e2.symm;have gz:=Gh<|Gf A<|Gu e3.symm;have Wa u hu ru:=P.get gx;have Wa v hv a5:=a8.get gy;have Wa w hw ab:=a7.get gz;have H:r.length=g:=by rw[<-rv.length,tr.1]
  have U:∀b∈z3 l,b<s.heap.objs.size:=λb d=>by
   have:∃o,s.heap.get? b=J o:=by
    simp only[z3,D7,Gv,Gw]at d;have Wa o1 q1 _:=Z.i1;have Wa o2 q2 _:=Z.i2;have Wa o3 q3 _:=Z.i3;rcases d with rfl|rfl|rfl|rfl|rfl|rfl;show#[_,q1]
    show#[_,q2];show#[_,q3];show#[_,Z.ti];show#[_,Z.to];show#[_,Z.z]
   have Wb o q:=this;show Gd q
  have L:∀h C E a' b' S,vN h l N i5 j9 (g+1) C E a' b' S->(∃(T:Nat) (ot:Z7),C=ZI T/\h.get? T=J ot/\T∉i::z3 l)->h.get? s.heap.objs.size=J (Jc u v w)->
    (∀c o,c∉z3 l->s.heap.get? c=J o->h.get? c=J o)->C3 (C4 f.prog f.w) d9.in1 (updateSeq i (·.push (.ref s.heap.objs.size)) >>= λ_=>again<|.builtin "list.extend.loop" #[[.ref i,.ref (l+5:Nat),.none],[]])
     (λfin O=>match fin with|.done b6=>A5 (.ok b6) O|.again S=>S.quiet=I/\ZH (C4 f.prog f.w) d9 S A5 O) (λe O=>A5 (.error e) O) {s with heap:=h}:=by
   intro h C E a' b' S y ⟨T,ot,hf,R,j⟩ Q t;have nT:=K.hok.fresh<|D4 _;have ah:m s.heap.objs.size=D:=by
    cases q:m s.heap.objs.size with|none=>rfl|some o=>rw[G _ _ q]at nT;cases nT
   have X:∀a o,n a=J o->upd n s.heap.objs.size (.tup [dU[g],u0[g],Bj[g]]) a=J o:=λa o q=>by rw[zg (zk q nT)];show q
   have b4:=K.turnLay (t':=s.toks) (o:=.tup [dU[g],u0[g],Bj[g]]) t (λb d=>fz b d n<|nz b d) (D4 _) #[by change 3<=Zw;decide,[u,v,w],.cons ru<|.cons a5<|.cons ab .nil,#[_,Q,Y,#[(0),Y]]];have a3:=t _ _ F W;have a0:upd n s.heap.objs.size (.tup [dU[g],u0[g],Bj[g]]) i=D:=by rw[zg (Gp<|Gd W)];show nS
   obtain⟨e',a4⟩:∃e',(h.update i (Z7.mapSeq (·.push (Zf s.heap.objs.size)))).get? i=J {cls:=.type "list",dict:=D,data:=.seq (r++[Zf s.heap.objs.size]).toArray e',slots:=[].toArray}:=by have:=Kd a3 λx=>x.push<|Zf s.heap.objs.size;rw[List.push_toArray]at this;show#[_,this]
   show DL<|Js a3 Y (DX #[Ji KR _,ih (g+1) _ (NA hk) A #[_,r++[.ref s.heap.objs.size],vs++[.ref s.heap.objs.size],e',C,E,a',b',S,
    b4.turnL (ch:=[i]) (λb o d q=>(G4 _ _<|Gx<|by simpa using d).trans q) (λb d=>by rw[GV.mp d];show fS _ a0),λa o q=>X _ _<|G a o q,a4,a0,λb d=>?_,?_,.inr #[T,ot,hf,?_,j],rv.append<|.cons (show DT (.ref s.heap.objs.size) (.ref s.heap.objs.size)from Y) .nil,tr.snoc X gx gy gz zi ah]])
    (by rw[GS,H,Hf];lia) (by change(r.toArray.push _).size<=Zw+1;rw[DC,GS,H,Hf];lia)
   rw[zg];show nz b d;show Gp<|U b d;have p:∀b o,b≠i->h.get? b=J o->(h.update i (Z7.mapSeq (·.push (Zf s.heap.objs.size)))).get? b=J o:=λb o d q=>(G4 _ _<|Gx d).trans q;simp only[z3,D7,Gv,Gw,not_or]at F;have Wt d1 d2 d3 d4 d5 d6:=F;show#[p _ _ (Gx d6) y.z,p _ _ (Gx d4) y.ti,p _ _ (Gx d5) y.to,y.i1.at λo q=>p _ o (Gx d1) q,y.i2.at λo q=>p _ o (Gx d2) q,y.i3.at λo q=>p _ o (Gx d3) q];show(G4 _ _ λz=>j<|by rw[<-z];show GN).trans R
  rcases fr with⟨_,rfl⟩|⟨T,ot,rfl,R,j⟩;show DL (kY h1 h2 h3 Z p1.isList p2.isList p3.isList (by simpa using hu) (by simpa using hv) (by simpa using hw) λh y Q t=>L h _ _ _ _ _ y #[s.heap.objs.size,_,Y,Q,?_] Q t);intro z;rcases D7.mp z with z|z;show Ut (Gd W)<|by rw[<-z];show Ib _
  show Ut (U _ z)<|Ib _;show DL<|ik h1 h2 h3 Z R p1.isList p2.isList p3.isList (by simpa using hu) (by simpa using hv) (by simpa using hw) λh E y Q t=>L h _ _ _ _ _ y #[T,ot,Y,t _ _ (λz=>j<|GH _ z) R,j] Q t
def pQ (a b c:Bs):checkTypeCall "zip" #[[a,b,c],[]]=pure Unit.unit :=by kernel_rfl
def ou (a b c:Bs):checkBuiltinCall "zip.__new__" #[[.type "zip",a,b,c],[]]=pure Unit.unit :=by kernel_rfl
def uI (a b c d:Bs):argsOk "object.__init__" #[[a,b,c,d],[]]:=by unfold argsOk;rw[signature?_of (n:=['_','_','t','i','n','i','_','_']) (by kernel_rfl) PySem.F.owner_object];kernel_rfl
def iy :typeLookup (.type "zip") "__len__"=pure D:=by rw[K9,KY];kernel_rfl
def kN :typeLookup (.type "zip") "__length_hint__"=pure D:=by rw[K9,KY];kernel_rfl
abbrev Hu (l:Ch):Z7:={cls:=.type "list_iterator",data:=.fields [.ref l,.int 0 0].toArray}
abbrev M0 (h:C7)(b c a:Ch):C7:=((h.push<|Hu b).push<|Hu c).push<|Hu a
abbrev M1 (h:C7)(a b c:Ch):C7:=(M0 h a b c).push<|Jc (.ref h.objs.size) (.ref (h.push<|Hu a).objs.size)<|.ref ((h.push<|Hu a).push<|Hu b).objs.size
abbrev M3 (h:C7)(b c a:Ch):C7:=(M1 h b c a).push<|Jc .none .none .none
abbrev Kk (h:C7)(b c a:Ch):C7:=(M3 h b c a).push<|zO .none (.bool Za) (M0 h b c a).objs.size (M1 h b c a).objs.size
theorem pI (a b c:Ch)(xs m r:Uc):Meets (Builtin.«zip.__new__» #[[.type "zip",.ref a,.ref b,.ref c],[]]) (λ_ R s=>s.heap.IsList a xs/\s.heap.IsList b m/\s.heap.IsList c r/\ R (.ok (.ret (.ref (M3 s.heap a b c).objs.size))) {s with heap:=Kk s.heap a b c}):=
 .of_wp λl w A R s h=>by have#[p,g,d,o,q]:=s;have Wq i e j h:=h;have n:=sub_zip;have k:Heap.IsList (Shared.heap #[p.push {cls:=.type "list_iterator",data:=.fields [.ref a,.int 0 0].toArray},g,d,o,q]) b m:=Heap.IsList.push e _;have f:Heap.IsList (Shared.heap #[(p.push {cls:=.type "list_iterator",data:=.fields [.ref a,.int 0 0].toArray}).push {cls:=.type "list_iterator",data:=.fields [.ref b,.int 0 0].toArray},g,d,o,q]) c r:=Heap.IsList.push (Heap.IsList.push j _) _;wp_walk using Kv i,Kv k,Kv f;show#[_,Y,h]
def iJ(g:r.heap.IsList i l7)(e:r.heap.IsList x Bt)(j:r.heap.IsList R BF)(h:∀b,vN b r.heap.objs.size i x R 0 .none (.bool Za) .none .none .none->b.objs.size=r.heap.objs.size+6->(∀c o,r.heap.get? c=J o->b.get? c=J o)->nU (.ref (r.heap.objs.size+5)) {r with heap:=b}):C3 (C4 E s) d9 (call (.type "zip") [.ref i,.ref x,.ref R]) nU i6 r:=by
 show callType_new PySem.F.called_zip () (pQ _ _ _) (ou _ _ _) (λm=>uI m _ _ _) PySem.F.entry_zip_new
  (pI i x R l7 Bt BF) #[g,e,j,?_]
 have l:(r.heap.push<|Hu i).objs.size=r.heap.objs.size+1:=IM ..;have n:((r.heap.push<|Hu i).push<|Hu x).objs.size=r.heap.objs.size+2:=by rw[IM,l]
 have a:(M0 r.heap i x R).objs.size=r.heap.objs.size+3:=by rw[IM,n]
 have k:(M1 r.heap i x R).objs.size=r.heap.objs.size+4:=by rw[IM,a]
 have f:(M3 r.heap i x R).objs.size=r.heap.objs.size+5:=by rw[IM,k]
 have w:(Kk r.heap i x R).objs.size=r.heap.objs.size+6:=by rw[IM,f]
 have d:(Kk r.heap i x R).get? (M3 r.heap i x R).objs.size=J _:=GB _ Y;have u:(Kk r.heap i x R).get? (M1 r.heap i x R).objs.size=J _:=D6 _<|GB _ Y;have p:(Kk r.heap i x R).get? (M0 r.heap i x R).objs.size=J _:=D6 _<|D6 _<|GB _ Y;have q:(Kk r.heap i x R).get? ((r.heap.push<|Hu i).push<|Hu x).objs.size=J _:=D6 _<|D6 _<|D6 _<|GB _ Y;have t:(Kk r.heap i x R).get? (r.heap.push<|Hu i).objs.size=J _:=D6 _<|D6 _<|D6 _<|D6 _<|GB _ Y;have v:(Kk r.heap i x R).get? r.heap.objs.size=J _:=D6 _<|D6 _<|D6 _<|D6 _<|D6 _<|GB _ Y;rw[f,k,a]at d;rw[k]at u;rw[a,n,l]at p;rw[n]at q;rw[l]at t;rw[f];show#[#[_,d,Y],h _ #[d,p,u,#[_,v,Y,Y],#[_,t,Y,Y],#[_,q,Y,Y]] w λc o y=>
  D6 _ (D6 _<|D6 _<|D6 _<|D6 _<|D6 _ y)]
theorem zc9(P:d9.handled=D)(h1:N<l)(V:i5<l)(Q:j9<l)(R:DM f cC B m r)(Z:vN r.heap l N i5 j9 0 .none (.bool Za) .none .none .none)(C:r.heap.get? i=J {cls:=.type "list",data:=.seq [].toArray})
  (F:m i=D) (U:∀b∈z3 l,m b=D) (H:∀y,y i=D->xH f cC y i) (X:∀b∈z3 l,∀y,y b=D->xH f cC y b) (w:i∉z3 l)
  (q1:D3 f.K m N dU) (q2:D3 f.K m i5 u0) (W:D3 f.K m j9 Bj) (e2:u0.length=dU.length) (e3:Bj.length=dU.length) (h0:0<dU.length) (S:dU.length<=1000)
  (hR:∀s,Oj f cC B m i dU u0 Bj s->A5 (.ok<|.ret .none) s):
  C3 (C4 f.prog f.w) d9.in1 (Builtin.«list.__init__» #[[.ref i,.ref (l+5:Nat)],[]])
   (λfin s=>match fin with|.done a4=>A5 (.ok a4) s|.again c'=>c'.quiet=I/\ZH (C4 f.prog f.w) d9 c' A5 s) (λe s=>A5 (.error e) s) r:=by
 have n:=w;simp only[z3,D7,Gv,Gw,not_or]at n;have Wt K O G M L A:=n;change C3 _ _ (do let old <-hL (.ref i);hH (.ref i) (λ_=>[].toArray);letGo old.toList.reverse;eT (.ref i) (.ref (l+5:Nat)) .none) _ _ r;show DL ?_;unfold hL;show DL<|IP C Y<|DX<|DL<|Js C Y ?_;obtain⟨t,d⟩:∃t,(r.heap.update i<|Z7.mapSeq λ_=>([].toArray:Uc)).get? i=J {cls:=.type "list",dict:=D,data:=.seq [].toArray t,slots:=[].toArray}:=#[_,Kd C λ_=>[].toArray];have c:∀b o,b≠i->r.heap.get? b=J o->(r.heap.update i<|Z7.mapSeq λ_=>([].toArray:Uc)).get? b=J o:=
  λb o k e=>(G4 _ _<|Gx k).trans e
 have v:vN (r.heap.update i<|Z7.mapSeq λ_=>([].toArray:Uc)) l N i5 j9 0 .none (.bool Za) .none .none .none:=#[c _ _ (Gx A) Z.z,c _ _ (Gx M) Z.ti,c _ _ (Gx L) Z.to,Z.i1.at λo q=>c _ o (Gx K) q,Z.i2.at λo q=>c _ o (Gx O) q,Z.i3.at λo q=>c _ o (Gx G) q];show DL<|JO ?_;have u:({r with heap:=r.heap.update i<|Z7.mapSeq λ_=>([].toArray:Uc)}:C1).TypeIs (.ref (l+5:Nat)) "zip":=#[_,v.z,Y];unfold eT;show DL<|LN u ?_;have T:gM (.ref i) (.ref (l+5:Nat))=Za:=by simp[gM];show A
 have b2:(eI "zip" == eI "list")=Za:=by decide
 have b3:(eI "zip" == eI "tuple")=Za:=by decide
 simp only[T,b2,b3,Lc,IL,Ic];show DL<|wpAny_pyIter_slot u PySem.F.slot_zip_iter<|Jr PySem.F.slot_zip_iter u PySem.F.entry_zip_iter ?_<|PySem.F.args_zip_iter_1 _;show DX #[_,Y,#["zip",_,u,Kr.lookup,DL<|Hx ?_]];unfold hB;show DL<|K8 u iy<|DL<|K8 u kN<|DX ?_;have z:∀(h:C7) (e:Nat),h.get? i=J {cls:=.type "list",dict:=D,data:=.seq [].toArray e,slots:=[].toArray}->(∀b o,b≠i->r.heap.get? b=J o->h.get? b=J o)->ZH (C4 f.prog f.w) d9 (.builtin "list.extend.loop" #[[.ref i,.ref (l+5:Nat),.none],[]]) A5 {r with heap:=h}:=by intro h e E a;show zd4 P h1 V Q H X w q1 q2 W e2 e3 h0 S hR dU.length 0 _ () (Gj _) #[m,[],[],e,.none,.bool Za,.none,.none,.none,R.turnL (ch:=[i]) (λb o k q=>a b o (by simpa using k) q) (λb k=>by rw[GV.mp k];show H m F),λ_ _ e=>e,E,F,U,?_,.inl #[Y,Y],.nil,Y,λj hj=>Ut hj<|Nat.not_lt_zero _];show#[a _ _ (Gx A) Z.z,a _ _ (Gx M) Z.ti,a _ _ (Gx L) Z.to,Z.i1.at λo q=>a _ o (Gx K) q,Z.i2.at λo q=>a _ o (Gx O) q,Z.i3.at λo q=>a _ o (Gx G) q]
 show Hv (λ_=>DL<|Kf ?_) λ_=>DX #[Ji KR _,z _ _ d c];show DL<|DL<|Js d Y ?_;obtain⟨a3,g⟩:∃t,((r.heap.update i<|Z7.mapSeq λ_=>([].toArray:Uc)).update i (Z7.mapSeq (·.push eH))).get? i=J {cls:=.type "list",dict:=D,data:=.seq [.none].toArray t,slots:=[].toArray}:=#[_,Kd d λx=>x.push eH];show Js g Y ?_;obtain⟨a0,p⟩:∃t,(((r.heap.update i<|Z7.mapSeq λ_=>([].toArray:Uc)).update i (Z7.mapSeq (·.push eH))).update i (Z7.mapSeq (·.pop))).get? i=J {cls:=.type "list",dict:=D,data:=.seq [].toArray t,slots:=[].toArray}:=#[_,Kd g λx=>x.pop];show DX #[Ji KR _,z _ _ p λb o k e=>(G4 _ _<|Gx k).trans<|(G4 _ _<|Gx k).trans<|c b o k e]
def pV(y:d9.handled=D)(K:N<l)(G:i5<l)(A:j9<l)(n:DM f cC B m r)(Z:vN r.heap l N i5 j9 0 .none (.bool Za) .none .none .none)(E:∀b∈z3 l,m b=D) (H:∀b∈z3 l,∀a,a b=D->xH f cC a b)(t:D3 f.K m N dU) (u:D3 f.K m i5 u0) (p:D3 f.K m j9 Bj) (M:u0.length=dU.length) (L:Bj.length=dU.length) (O:0<dU.length) (C:dU.length<=1000)(P:∀g k,r.heap.objs.size<=g->Oj f cC B m g dU u0 Bj k->(∀a,a g=D->xH f cC a g)->nU (.ref g) k):C3 (C4 f.prog f.w) d9 (call (.type "list") [.ref (l+5:Nat)]) nU i6 r:=by
 show callType_codes (Q₁:=λj c=>j=.ref r.heap.objs.size/\c={r with heap:=r.heap.push {cls:=.type "list",data:=.seq [].toArray}}) PySem.F.called_list (PySem.F.typeCall_list_1 _) PySem.F.entry_list_init
  (code_list_new _ #[Y,Y]) λj c i=>?_
 have Wc rfl rfl:=i;have w:(r.heap.push {cls:=.type "list",data:=.seq [].toArray}).get? r.heap.objs.size=J {cls:=.type "list",data:=.seq [].toArray}:=GB _ Y;have d:∀b o,r.heap.get? b=J o->(r.heap.push {cls:=.type "list",data:=.seq [].toArray}).get? b=J o:=λb o e=>D6 _ e;have v:∀a:Hp,a r.heap.objs.size=D->xH f cC a r.heap.objs.size:=λa h=>n.fpOk (D4 _) h;have s:r.heap.objs.size∉z3 l:=λx=>by
  have:∃o,r.heap.get? r.heap.objs.size=J o:=by
   simp only[z3,D7,Gv,Gw]at x;have Wa Q t _:=Z.i1;have Wa R u _:=Z.i2;have Wa S p _:=Z.i3;rcases x with z|z|z|z|z|z<;>rw[z]
   show#[_,t];show#[_,u];show#[_,p];show#[_,Z.ti];show#[_,Z.to];show#[_,Z.z]
  have Wb o q:=this;show Ut (Gd q)<|Ib _
 show#[#[_,w,Y],PySem.F.args_list_init_2 _ _,zc9 y K G A (n.kept d) #[d _ _ Z.z,d _ _ Z.ti,d _ _ Z.to,Z.i1.at λo q=>d _ o q,Z.i2.at λo q=>d _ o q,Z.i3.at λo q=>d _ o q] w (n.hok.fresh<|D4 _) E v H s t u p M L O C λk F=>#[Y,P _ k (D4 _) F v]]
theorem ki(hc:f.calm=I)(a6:Gl f "list")(S:f.mg "list"=D)(hg:Gl f "zip")(hm:f.mg "zip"=D)(ha:PA f [j,w,gV] k8)
  (H: ~~~(A3 [.Call (.Name "zip" y) [j,w,gV] [] k9] f.env=[(Za,eval (.Call (.Name "zip" y) [j,w,gV] [] k9) f.env)]))
  (hs: ~~~Uo j [w,gV] f.env) (a5: ~~~Uq k9 [w,gV] f.env):
  PE f (.Call (.Name "list" K) [.Call (.Name "zip" y) [j,w,gV] [] k9] [] fC) (λB m Q=>k8 B m λa g=>∃(t x p:Ch) (xs L N:TM),a=[.ref t,.ref x,.ref p]/\D3 f.K g t xs/\D3 f.K g x L/\D3 f.K g p N/\L.length=xs.length/\N.length=xs.length/\0<xs.length/\xs.length<=1000/\
   ∀c b a,g c=D->(∀j o,g j=J o->b j=J o)->b c=J (.lst a)->(∃s,(∀j o,s j=J o->j≠c/\b j=J o)/\Ll g s xs L N a xs.length)->Q (.ref c) b):=by
 intro cC r B m Q M h;show Call_<|xw M a6 S boot_list<|JA ?_ H Y;rw[H];show Lw<|Call_<|xw M hg hm boot_zip<|JA (D1 (ha k9 cC r B m _ M h) λus d W=>?_) hs a5;have Wd a g k i q1:=W;have Wg t x U:=q1;have Wo p xs L N e G A C e2 P:=U;have Wq e3 h0 hN q:=P;subst e;obtain⟨u,v,O,rfl,ru,rv,T⟩:∃u v O,us=[u,v,O]/\DT (.ref t) u/\DT (.ref x) v/\DT (.ref p) O:=by
  cases i with
  |cons j i=>
   cases i with
   |cons w i=>
    cases i with|cons gV i=>cases i;show#[3,_,_,_,Y,j,w,gV]
 cases(ru);cases(rv);cases(T);have We a8 b0 p1 az:=k.list G;have We ab au p2 ax:=k.list A;have We a9 ah p3 ay:=k.list C;show iJ p1.isList p2.isList p3.isList λh' Z sz hk=>?_;have a0:t<d.heap.objs.size:=by have Wa o e _:=p1.isList;show Gd e
 have R:x<d.heap.objs.size:=by have Wa o e _:=p2.isList;show Gd e
 have a7:p<d.heap.objs.size:=by have Wa o e _:=p3.isList;show Gd e
 have le:∀w∈z3 d.heap.objs.size,d.heap.objs.size<=w:=λw l=>by
  simp only[z3,D7,Gv,Gw]at l;have a3:∀n w:Nat,(w=n\/w=n+1\/w=n+2\/w=n+3\/w=n+4\/w=n+5)->n<=w:=λn w h=>by lia
  show a3 _ _ l
 have I2:DM f cC B g {d with heap:=h',toks:=d.toks}:=k.kept λw o e=>hk w o e;show Hk (show C3 _ _ (spliced []) (λa E=>a=[]/\E={d with heap:=h'}) f.xe {d with heap:=h'}from DX #[Y,Y]) (λa s2 hv=>?_) λ_ _ z=>z;have Wc rfl rfl:=hv;show pV (M.ok.hd hc) a0 R a7 I2 Z (λw l=>k.hok.fresh<|le w l) (λw l b hn=>k.fpOk (le w l) hn) G A C e2 e3 h0 hN λc s' lD ze fD=>?_;have Wo b a4 a e I' st hD nD X F:=ze.ex;have JU:∀j o,b j=J o->j≠c/\upd b c (.lst a) j=J o:=λj o q=>by
  have n:j≠c:=λz=>by rw[z,nD]at q;cases q
  show#[n,by rw[zg n];show q]
 show#[.ref c,upd b c<|.lst a,I'.adopt (fD b nD) #[?_,a4,e,X,hD],Y,q c _ a (I2.hok.fresh lD) (λj o q=>(JU j o<|st j o q).2) zi #[b,JU,F]];rw[F.1,Hf];show Pz hN
def M4 (a b c:A2):A2:=.tuple [a,b,c]
def vL :TL->TL->TL->TL
 |a::as,b::bs,c::cs=>M4 a b c::vL as bs cs
 |_,_,_=>[]
theorem sP :∀{d e f:TL},e.length=d.length->f.length=d.length->(vL d e f).length=d.length
 |[],_,_,_,_=>rfl
 |a::d,b::e,c::f,h,g=>by rw[vL,G3,G3,sP (by simpa using h) (by simpa using g)]
theorem sF :∀{e f g:TL}{j:Nat}{d:A2},(vL e f g)[j]?=J d->∃a b c,e[j]?=J a/\f[j]?=J b/\g[j]?=J c/\d=M4 a b c
 |[],_,_,j,d,h=>by simp[vL]at h
 |a::e,[],_,j,d,h=>by simp[vL]at h
 |a::e,b::f,[],j,d,h=>by simp[vL]at h
 |a::e,b::f,c::g,0,d,h=>by simp[vL]at h;show#[3,a,b,c,Y,Y,Y,h.symm]
 |a::e,b::f,c::g,j+1,d,h=>by have Wm x y z k m l i:=sF (by simpa[vL]using h);show#[3,x,y,z,by simpa using k,by simpa using m,by simpa using l,i]
theorem cb {G:Hp}:∀{b:TM}{ds:TL},b.length=ds.length->(∀(j:Nat) d,ds[j]?=J d->∃v,b[j]?=J v/\AV G v d)->D2 G b ds
 |[],[],_,_=>.nil
 |v::b,d::ds,f,h=>by have Wa i e a:=h 0 d Y;cases e;show .cons a<|cb (by simpa using f) λj g c=>h (j+1) g<|by simpa using c
def jC(hc:f.calm=I)(G:Gl f "list")(v:f.mg "list"=D)(hg:Gl f "zip")(hm:f.mg "zip"=D)
  (h:G7 f n [j,w,gV] λP=>∃b r l,P=[.dat (.list b),.dat (.list r),.dat (.list l)]/\r.length=b.length/\l.length=b.length/\0<b.length/\b.length<=1000/\j2 (vL b r l))
  (C: ~~~(A3 [.Call (.Name "zip" y) [j,w,gV] [] k9] f.env=[(Za,eval (.Call (.Name "zip" y) [j,w,gV] [] k9) f.env)]))
  (hs: ~~~Uo j [w,gV] f.env) (E: ~~~Uq k9 [w,gV] f.env):
  FA f n (.Call (.Name "list" K) [.Call (.Name "zip" y) [j,w,gV] [] k9] [] fC) j2:=λF U H R m k=>by
 show#[_,ki hc G v hg hm yb C hs E,h F U H _ m λP T Z q1 N s a=>?_];have m1:=m.kz s N;have Wu b r l rfl O L l0 lN q:=q1;cases a with
 |cons r1 a=>
  cases a with
  |cons r2 a=>
   cases a with
   |cons r3 a=>
    cases a;have Wd a1 xs rfl g1 A1:=AV.lst_inv r1;have Wd a2 ys rfl g2 S:=AV.lst_inv r2;have Wd a3 zs rfl g3 V:=AV.lst_inv r3;have c:=A1.length;show#[a1,a2,#[2,a3,xs,ys,zs,Y,D3.of (zf g1).2,D3.of (zf g2).2,#[6,D3.of (zf g3).2,(S.length.trans<|O.trans c.symm),(V.length.trans<|L.trans c.symm),(Gf l0<|Gu c.symm),(Gg (Gu c) lN),λp u T i Q A=>Wa λa4 sb g=>?_]]];have X:zv Z u:=λj o e=>Q j o e;show k _ _ u q (N.same X) (s.trans<|Kz.of_same X) #[1,p,T,Y,?_,A,?_];cases z:H p with|none=>rfl|some o=>rw[s p o z (m.tp.nt<|GL<|m1.fresh i)]at i;cases i
    have B:zv (Gz F n U Z) (sub (λx=>¬Ow F n U x/\x≠p) u):=zj λj o h e=>#[#[h,zk e i],Q j o e];show cb (by rw[g.1,sP O L];show c) λa0 d hd=>?_;have Wm d1 d2 d3 e1 e2 e3 rfl:=sF hd;have hj:a0<xs.length:=by rw[c];show(Gm.mp e1).1
    have Wo t x a5 z f1 f2 f3 f4 f5 f6:=g.2 a0 hj;have Wa x' M ax:=A1.get e1;have Wa y' ey ay:=S.get e2;have Wa z' W az:=V.get e3;rw[f2]at M;cases M;rw[f3]at ey;cases ey;rw[f4]at W;cases W;have Wc nt ht:=sb t _ f5;show#[_,f1,.tup (zr #[m1.fresh f6,nt] ht)<|.cons (ax.same B)<|.cons (ay.same B)<|.cons (az.same B) .nil]
def fj(h:DS (i9.map V.int) g7):∃a:List (Int×Tok),g7=a.map (λy=>iS y.1 y.2)/\a.map (·.1)=i9:=by
 induction i9 generalizing g7 with
 |nil=>cases h;show#[[],Y,Y]
 |cons n i9 e=>cases h with|cons h d=>have Wa a b c:=e d;have Wb t rfl:=h;show#[(n,t)::a,by rw[b];rfl,by rw[<-c];rfl]
def pJ (a:List (Int×Tok))(k:Nat):numAt a.toArray k=(a.map (·.1)).getD k 0:=by unfold numAt;rw[Mm,HW,GD]
theorem uc (a:List (Int×Tok)):∀k,k<=a.length->preSum (numAt a.toArray) k=((a.map (·.1)).take k).sum
 |0,_=>by simp[preSum]
 |k+1,h=>by
  have hk:k<(a.map (·.1)).length:=by rw[DZ];show Gf (Ii _) h
  rw[preSum,uc a k (Gg (GU _ _) h),pJ,JJ,Gh hk,List.sum_append,HW,Gh hk];simp
def KJ (a:TN):Prop:=∀k,k<=a.length->-(2 ^ 62)<=(a.take k).sum/\(a.take k).sum<2 ^ 62
def ak (p:f.calm=I):yL f (.builtin "sum") (λxs H Q=>∃(l:Ch) (c:TN),xs=[.ref l]/\D3 f.K H l (c.map V.int)/\(∀n∈c,-(2 ^ 62)<=n/\n<2 ^ 62)/\KJ c/\Q (.int c.sum) H):=by
 intro i s U H xs z Q d r h;have Wp l c rfl t k hf q:=h;have Wa u rfl x:=DS.one r;cases(x);have We m o y B:=d.list t;have Wa a rfl rfl:=fj o;have v:s.heap.IsList l (intItems a.toArray):=by have:=y.isList;rwa [show intItems a.toArray=(a.map λy=>iS y.1 y.2).toArray by simp[intItems]]
 show sum_intList (d.ok.hd p) v (λj w=>?_) λE C A hk=>?_;have b:j<a.length:=by simpa using w
 have hk:j<(a.map (·.1)).length:=by rw[DZ];show b
 rw[uc a (j+1) (b),pJ,HW,Gh hk];have g:=k _<|Jf hk;have e:=hf (j+1)<|hk;show#[#[?_,?_],?_,?_];change -(2 ^ 63)<=(a.map (·.1))[j];show P0 g.1;change(a.map (·.1))[j]<2 ^ 63;show P1 g.2;show P0 e.1;show P1 e.2;rw[show preSum (numAt a.toArray) a.toArray.size=(a.map (·.1)).sum by rw[GS,uc a a.length (D4 _),<-DZ,Jq]];show#[.int _,H,d.kept hk,#[_,Y],q]
def zN5(r:f.calm=I)(hg:Gl f "sum")(s:f.mg "sum"=D)(h:DP f n w λx=>∃a:TN,x=.list (a.map .int)/\(∀d∈a,-(2 ^ 62)<=d/\d<2 ^ 62)/\KJ a/\Q (.int a.sum))(c: ~~~Uo w [] f.env):
  DP f n (.Call (.Name "sum" y) [w] [] K) Q:=by show wQ (ak r) hg s boot_sum (zd (h.imp λx b=>?_) c) (he:=c);have#[a,l,g,hf,q]:=b;show zm ?_;intro F U H t R m i k;subst l;have Wa v rfl o:=i.one;have Wd j xs rfl p e:=o.lst_inv;cases e.ints;show#[4,j,a,Y,D3.of (zf p).2,g,hf,k _ _ H q m.tp Kz.refl<|.int _]
def vH :TN->T5->TN
 |z::zs,b::bs=>if b=I then vH zs bs else z::vH zs bs
 |_,_=>[]
theorem uu :∀{a:TN}{bs:T5}{z:Int},z∈vH a bs->z∈a
 |[],_,z,h=>by simp[vH]at h
 |y::a,[],z,h=>by simp[vH]at h
 |y::a,b::bs,z,h=>by
  rw[vH]at h;split at h;show GH _<|uu h;rcases D7.mp h with e|h;rw[e];show GN
  show GH _<|uu h
theorem nu :∀(a:TN) (bs:T5),(vH a bs).length<=a.length
 |[],_=>by simp[vH]
 |y::a,[]=>by simp[vH]
 |y::a,b::bs=>by rw[vH];have:=nu a bs;split;rw[G3];show Gg this<|GU _ _;rw[G3,G3];show MF this<|D4 _
theorem HQ :∀{ns:TN}{m:Int},0<=m->(∀n∈ns,0<=n/\n<=m)->0<=ns.sum/\ns.sum<=ns.length*m
 |[],m,_,_=>by simp
 |n::ns,m,h0,h=>by have Wc a b:=HQ h0 λx c=>h x<|GH _ c;have:=h n GN;rw[List.sum_cons,G3,Int.natCast_add,Int.add_mul];constructor;show Int.add_nonneg this.1 a;simp;show yq0 this.2 b
theorem fY(h:∀n∈i9,0<=n/\n<=1000000000000)(d:i9.length<=1000):KJ i9:=λk hk=>by
 have Wc a b:=HQ (ns:=i9.take k) () λn c=>h n<|J8 c;have:((i9.take k).length:Int)*1000000000000<=1000*1000000000000:=by apply Int.mul_le_mul_of_nonneg_right _ ();rw[Jb];show yo7 d
 lia
def Ol (p:Nat):A2->A2
 |.tuple [a,b,c]=>if p=1 then b else c
 |_=>.none
def rK :A2->Bool
 |.tuple [_,_,.bool b]=>b
 |_=>Za
theorem pL :∀{a:TL}{zs:TN}{bs:T5},zs.length=a.length->bs.length=a.length->((vL a (zs.map .int) (bs.map .bool)).filter λd=>!rK d).map (Ol 1)=(vH zs bs).map .int
 |[],[],[],_,_=>rfl
 |d::a,z::zs,b::bs,f,e=>by
  have c:=pL (by simpa using f) (by simpa using e);rw[GW,GW,vL,vH,LB];cases b with|true=>simpa[rK,M4]using c|false=>simp[rK,M4,Ol];show c
def Rb (d:A2):Prop:=d=.none\/∃a free:Nat,d=.tuple [.int a,.int free]/\0<free/\free<a/\a<64
variable {Ac:T6}{u5 E5 E6 E7 E8:T8}
section
variable {ZN:Type}[DecidableEq ZN]
def tT (a:List (ZN×V))(k:ZN):T6:=(a.find? λb=>decide<|b.1=k).map (·.2)
def G5 (a:List (ZN×V))(k:ZN)(v:V):List (ZN×V):=
 if(a.any λb=>decide<|b.1=k)=I then a.map (λb=>if b.1=k then(b.1,v)else b)else a++[(k,v)]
def tL {p:ZN×V}{r:List (ZN×V)}{k:ZN}(e:p.1=k):tT (p::r) k=J p.2:=by simp[tT,Jh,e]
def ud {p:ZN×V}{r:List (ZN×V)}{k:ZN}(e:¬p.1=k):tT (p::r) k=tT r k:=by simp[tT,Jh,e]
theorem qk (k:ZN):∀a:List (ZN×V),(a.any λb=>decide (b.1=k))=(tT a k).isSome
 |[]=>rfl
 |p::r=>by rw[KD];by_cases e:p.1=k;simp only[tL e,Hw e,Bool.true_or,Option.isSome_some];rw[ud e,Hd e,MI];show qk k r
theorem vO (a:List (ZN×V))(k:ZN)(v:V):(G5 a k v).length<=a.length+1:=by unfold G5;split;rw[DZ];show GU _ _;rw[GJ,G3,KC];lia
def vG.isSome_eq(r:vG Ac u5):Ac.isSome=u5.isSome:=by
 cases Ac with
 |none=>cases u5 with|none=>rfl|some _=>show(r).elim
 |some _=>cases u5 with|none=>show(r).elim|some _=>rfl
theorem vG.getD(r:vG Ac u5)(a:DT e9 f9):DT (Ac.getD e9) (u5.getD f9):=by
 cases Ac with
 |none=>cases u5 with|none=>show a|some _=>show(show False from r).elim
 |some _=>cases u5 with|none=>show(show False from r).elim|some _=>show r
def KV.val {a:List (ZN×V)}{d:List (ZN×Bs)}(r:KV a d)(k:ZN):vG (tT a k) (valueAt d k):=by
 unfold KV at r;induction r with
 |nil=>show True.intro
 |@cons p q ps qs h t ih=>
  have Wc f g:=h;by_cases e:p.1=k;have c:=f.symm.trans e;have b:valueAt (q::qs) k=J q.2:=by simp[valueAt,Jh,c]
  rw[tL e,b];show g;have c:¬q.1=k:=λz=>e<|f.trans z;have b:valueAt (q::qs) k=valueAt qs k:=by simp[valueAt,Jh,c]
  rw[ud e,b];show ih
theorem KV.any {a:List (ZN×V)}{c:List (ZN×Bs)}(r:KV a c)(k:ZN):(a.any λb=>decide (b.1=k))=c.any λb=>decide (b.1=k):=by
 unfold KV at r;induction r with|nil=>rfl|cons h t d=>rw[KD,KD,d,h.1]
def KV.repl {b:List (ZN×V)}{d:List (ZN×Bs)}(r:KV b d)(k:ZN)(g:DT e9 f9):KV (b.map λa=>if a.1=k then(a.1,e9)else a) (d.map λa=>if a.1=k then(a.1,f9)else a):=by
 unfold KV at r ⊢;induction r with|nil=>show .nil|@cons p q ps qs h t ih=>rw[GW,GW];show .cons ?_ ih;have Wc c f:=h;by_cases e:p.1=k;rw[Ur e,Ur (c.symm.trans e)];show#[c,g];rw[Us e,Us (λz=>e<|c.trans z)];show#[c,f]
def KV.put {a:List (ZN×V)}{b:List (ZN×Bs)}(r:KV a b)(k:ZN)(c:DT e9 f9):KV (G5 a k e9) (stored b k f9):=by unfold G5 stored;rw[r.any k];by_cases e:(b.any λd=>decide<|d.1=k)=I;rw[Ur e,Ur e];show r.repl k c;rw[Us e,Us e];show Paired.snoc r #[Y,c]
theorem KV.length {kvs:List (ZN×V)}{vs:List (ZN×Bs)}(r:KV kvs vs):kvs.length=vs.length:=Paired.length r
end
variable {AM:D8}
def qC(r:DT (kV AM) f9):(ye E s).is AM f9=I:=by
 cases AM with|inl i=>have Wb t e:=(r);subst e;show kI E s i t|inr x=>have Wb t e:=(r);subst e;show kX E s x t
theorem ny {P:C5}{w:C6}:∀{ks:List D8}{us:TQ},DS (ks.map kV) us->ItemsAre (ye P w) ks us
 |[],_,r=>by rw[Ld]at r;cases r;show .nil
 |k::ks,_,r=>by
  rw[GW]at r;cases r with|cons h t=>show .cons (qC h)<|ny t
abbrev KT (H:Hp):List (List D8×V)->List (List D8×Ch×Bs)->Prop:=Paired λp q=>p.1=q.1/\H q.2.1=J (.tup<|p.1.map kV)/\DT p.2 q.2.2
variable {BL:List (List D8×Ch×Bs)}{Bq:List (List D8×V)}
def KT.val(r:KT m Bq BL)(k:List D8):vG (tT Bq k) ((atKey BL k).map (·.2)):=by
 induction r with
 |nil=>show True.intro
 |@cons p q ps qs h t ih=>
  have Wf c _ d:=h;by_cases e:p.1=k;have a:=c.symm.trans e;have b:atKey (q::qs) k=J q.2:=by simp[atKey,Jh,a]
  rw[tL e,b];show d;have a:¬q.1=k:=λz=>e<|c.trans z;have b:atKey (q::qs) k=atKey qs k:=by simp[atKey,Jh,a]
  rw[ud e,b];show ih
def KT.repl(r:KT m Bq BL)(k:List D8)(f:DT e9 f9):KT m (Bq.map λb=>if b.1=k then(b.1,e9)else b) (BL.map (putAt k f9)):=by
 induction r with|nil=>show .nil|@cons p q ps qs h t ih=>rw[GW,GW];show .cons ?_ ih;have Wf a c d:=h;unfold putAt;by_cases e:p.1=k;rw[Ur e,Ur (a.symm.trans e)];show#[a,c,f];rw[Us e,Us (λz=>e<|a.trans z)];show#[a,c,d]
def KT.put(r:KT m Bq BL)(k:List D8)(b:m i=J (.tup (k.map kV)))(a:DT e9 f9):KT m (G5 Bq k e9) (storedH BL k i f9):=by
 have e:(Bq.any λc=>decide<|c.1=k)=(atKey BL k).isSome:=by rw[qk,(r.val k).isSome_eq,zz]
 unfold G5 storedH;rw[e];by_cases q:(atKey BL k).isSome=I;rw[Ur q,Ur q];show r.repl k a;rw[Us q,Us q];show Paired.snoc r #[Y,b,a]
def KT.keeps(r:KT m Bq BL)(c:∀b a,m b=J (.tup a)->d7 b=J (.tup a)):KT d7 Bq BL:=
 Paired.mapP r λ_ _ z=>#[z.1,c _ _ z.2.1,z.2.2]
def Rc(a:GZ E s m v)(e:Rd m i j4):yy E s m v i j4:=e.ok a
variable {r8:Tx}
def pC(b:GZ E s m v)(e:Rd m i (.dK r8)):r8.length<=Zw/\(i == Ya)=Za/\∃a,KV r8 a/\v.DictOf (ye E s) i a:=
 show yy E s m v i (.dK r8)from Rc b e
def Rf(b:GZ E s m v)(e:m i=J (.dK r8)):r8.length<=Zw/\(i == Ya)=Za/\∃a,KV r8 a/\v.DictOf (ye E s) i a:=pC b<|.inl e
def sr {f:List D8}(j:GZ E s m v)(e:m i=J (.tup (f.map kV))):(tupleKind (ye E s)).is v f i:=by have Wc _ a:=(j i _ e);have Wa c r d:=a;have We o k g b:=d;have Wb n h:=b;show#[3,o,c.toArray,n,k,g,h,by simpa using ny r]
def qR(f:GZ E s m v)(e:Rd m i (.dT Bq)):Bq.length<=Zw/\(i == Ya)=Za/\ ∃xs,KT m Bq xs/\v.DictOfH (tupleKind (ye E s)) i xs:=by
 have Ws z y xs r b:=(Rc f e);have#[o,w,h,k,g,j,u,n]:=b;show#[z,y,#[xs,r,#[0,o,w,h,k,g,#[j,u,λx a=>?_,n]]]];have d:∀{l:List (List D8×V)} {c:List (List D8×Ch×Bs)},KT m l c->∀x∈c,(tupleKind<|ye E s).is v x.1 x.2.1:=by
  intro l c q;induction q with
  |nil=>intro x a;show nomatch a
  |@cons p q ps qs hq t ih=>
   intro x a;rcases D7.mp a with e|a;subst e;show sr f<|by rw[<-hq.1];show hq.2.1
   show ih x a
 show d r x a
def yh2(a:GZ E s m v)(e:m i=J (.dT Bq)):Bq.length<=Zw/\(i == Ya)=Za/\ ∃xs,KT m Bq xs/\v.DictOfH (tupleKind (ye E s)) i xs:=qR a<|.inl e
def nL (H:Hp)(a:Ch)(y:V)(r:T6):Prop:=
 (∃c k,Rd H a (.dK c)/\y=kV k/\r=tT c k)\/∃c k b,Rd H a (.dT c)/\y=.ref b/\H b=J (.tup<|k.map kV)/\r=tT c k
def L7 (H:Hp)(a:Ch)(y v:V)(d:Hp):Prop:=
 (∃c k,H a=J (.dK c)/\y=kV k/\c.length<Zw/\d=upd H a (.dK<|G5 c k v))\/
 ∃c k b,H a=J (.dT c)/\y=.ref b/\H b=J (.tup<|k.map kV)/\c.length<Zw/\d=upd H a (.dT<|G5 c k v)
def L7.k(e:m i=J (.dK r8))(hl:r8.length<Zw):L7 m i (kV AM) e9 (upd m i (.dK (G5 r8 AM e9))):=.inl #[1,r8,AM,e,Y,hl,Y]
def DM.big (a:DM f cC B m r):Ya<r.heap.objs.size:=KG ()<|(a.mod.glob.keeps a.bk).lt
def zd7(w:d9.units+1<cLine)(j:DM f cC B m r)(g:nL m i e9 (J v8))(s:DT e9 f9)(h:∀d t,DM f cC B m t->DT v8 d->nU d t):C3 (C4 f.prog f.w) d9 (getItem (.ref i) f9) nU i6 r:=by
 rcases g with⟨kvs,k,e,q,l⟩|⟨kvs,k,b,e,q,x,l⟩;subst q;have Ws z u y a n:=pC j.hok e;have Wa d hw c:=vG.some_of (by rw[l];show a.val k);show wpAny_getItem_of (qC s) n.mapOf hw<|h d _ (j.tok _) c
 subst q;cases(s);have Ws z u xs a n:=qR j.hok e;have Wa d hw c:=vG.some_of (by rw[l];show a.val k);have Wa p v o:=Hj.mp hw;show wpAny_getItem_heap (Lx w) (sr j.hok x) n v ?_;rw[o];show h d _ (j.tok _) c
def yo2(s:d9.units+1<cLine)(c:DM f cC B m r)(g:nL m i e9 Ac)(o:DT e9 f9)(h:∀p,DM f cC B m p->nU (.bool Ac.isSome) p):C3 (C4 f.prog f.w) d9 (Z5 .In f9 (.ref i)) nU i6 r:=by
 rcases g with⟨kvs,k,e,n,l⟩|⟨kvs,k,b,e,n,t,l⟩;subst n;have Ws z j u a d:=pC c.hok e;show wpAny_in_of (qC o) j d.mapOf ?_;rw[<-(a.val k).isSome_eq,<-l];show h _<|c.tok _
 subst n;cases(o);have Ws z j xs a d:=qR c.hok e;show wpAny_in_heap (Lx s) (sr c.hok t) j d ?_;have q:=(a.val k).isSome_eq;rw[zz]at q;rw[<-q,<-l];show h _<|c.tok _
def zH8(s:d9.units+1<cLine)(c:DM f cC B m r)(g:nL m i e9 Ac)(o:DT e9 f9)(h:∀p,DM f cC B m p->nU (.bool (!Ac.isSome)) p):C3 (C4 f.prog f.w) d9 (Z5 .NotIn f9 (.ref i)) nU i6 r:=by
 rcases g with⟨kvs,k,e,n,l⟩|⟨kvs,k,b,e,n,t,l⟩;subst n;have Ws z j u a d:=pC c.hok e;show wpAny_notIn_of (qC o) j d.mapOf ?_;rw[<-(a.val k).isSome_eq,<-l];show h _<|c.tok _
 subst n;cases(o);have Ws z j xs a d:=qR c.hok e;show wpAny_notIn_heap (Lx s) (sr c.hok t) j d ?_;have q:=(a.val k).isSome_eq;rw[zz]at q;rw[<-q,<-l];show h _<|c.tok _
def lP(e:DM f cC B m r)(c:LO (m i))(h:Heap.SameBut i r.heap v)(g:∃q,v.get? i=J q)(a:yy f.prog f.w (upd m i j4) v i j4):DM f cC B (upd m i j4) {r with heap:=v,toks:=l}:=
 e.write c (.inl Y) (λb q d z=>(h.2 b d).trans z) g a
def Rg{b:List (D8×Bs)}(z:r8.length<=Zw)(d:(i == Ya)=Za)(a:KV r8 b)(c:v.DictOf (ye E s) i b):yy E s m v i (.dK r8):=#[z,d,#[b,a,c]]
def zc5(K:d9.units+1<cLine)(j:DM f cC B m r)(g:L7 m i e9 v8 d7)(y:DT e9 f9)(w:DT v8 m6)(h:∀C,DM f cC B d7 C->y7 Unit.unit C):C3 (C4 f.prog f.w) d9 (setItem (.ref i) f9 m6) y7 i6 r:=by
 rcases g with⟨kvs,k,e,u,l,v⟩|⟨kvs,k,b,e,u,E,l,v⟩;subst u v;have Ws z p G a o:=Rf j.hok e;have O:G.length<=Zw:=by rw[<-a.length];show z
 have t:(G5 kvs k v8).length<=Zw:=by have:=vO kvs k v8;show Gg this l
 show wpAny_setItem_pairs (qC y) o λx d s=>h _ ?_;have N:∃q,x.get? i=J q:=let⟨q,_,_,n,_⟩:=d;#[q,n];show lP j (by rw[e];show True.intro) s N<|Rg t p (a.put k w) d;subst u v;cases(y);have Ws z p xs a o:=yh2 j.hok e;have O:xs.length<=Zw:=by rw[<-Paired.length a];show z
 have t:(G5 kvs k v8).length<=Zw:=by have:=vO kvs k v8;show Gg this l
 show wpAny_setItem_heap (Lx K) (sr j.hok E) o λx d s=>h _ ?_;have Wu q Q M n L F H _ P:=d;show lP j (by rw[e];show True.intro) s #[q,n] #[t,p,#[_,(a.put k E w).keeps λc R A=>?_,#[8,q,Q,M,n,L,F,H,P]]];rw[zg (yb9 A e λz=>nomatch z)];show A
def jl(c:DM f cC B m r)(g:nL m i e9 Ac):r.TypeIs (.ref i) "dict":=by
 rcases g with⟨kvs,k,e,_,_⟩|⟨kvs,k,b,e,_,_,_⟩;have Ws _ _ d _ a:=pC c.hok e;show a.typeIs
 have Ws _ _ xs _ a:=qR c.hok e;show a.typeIs
def ye0 (g h f:TE):TS:=λe U H=>f U H λv c=>g U c λx d=>h U d λy i=>∃a b,x=.ref a/\L7 i a y v b/\e.nx U b
def zL9 (n:f.A.units+1<cLine)(N:PE f j j3)(o:PE f w v9)(k:PE f gV BO)(q:Z1 gV (J (.Subscript j w K)) y.line f.env=pure Za):PS f (.Assign [.Subscript j w K] gV y) (ye0 j3 v9 BO):=by intro b s U H R i h;show wpAny_Assign_Subscript (D1 (k b s U H _ i h) λr F #[v,z,t,e,E]=>D1 (N b F U z _ t E) λu m #[x,d,c,L,G]=>D1 (o b m U d _ c G) λP T #[O,Q,p,B,a,C,l,g,M]=>?_) q;subst l;obtain rfl:u=Zf a:=L;show zc5 n p g B e λS A=>#[U,C,A,M]
def jB(h:C7)(a:Ya<h.objs.size):yy E s m (h.push {cls:=.type "dict",data:=.dict [].toArray}) h.objs.size (.dK []):=
 #[Gj _,JW.mpr<|Gx<|Gp a,#[[],.nil,Heap.DictOf.new h]]
def z70 :TE:=λ_ H Q=>∀p,H p=D->Q (.ref p) (upd H p<|.dK [])
def zu0 :PE f (.Dict [] [] y) z70:=λc s U H Q b h=>
 wpAny_Dict_empty #[.ref s.heap.objs.size,_,b.laid (a:=s.heap.objs.size) (o:=.dK []) (t':=s.toks) (λ_ _ q=>D6 _ q) (D4 _)<|jB s.heap b.big,Y,h _<|b.hok.fresh<|D4 _]
def iR :List (TE×TE)->St->Hp->(List (V×V)->Ui)->Prop
 |[],_,H,Q=>Q [] H
 |(tk,tv)::r,U,H,Q=>tk U H λx a=>tv U a λy b=>iR r U b λc d=>Q ((x,y)::c) d
abbrev VV :List (V×V)->List (Bs×Bs)->Prop:=Paired λp q=>DT p.1 q.1/\DT p.2 q.2
def M5 (X:Cx)(e:Pos)(c:List (Option Dc))(a:T1)(d:List (TE×TE)):Prop:=
 ∀(b:Tu) (s:C1) (U:St) (H:Hp) (Q:List (V×V)->Ui),DM X b U H s->iR d U H Q->
  C3 (C4 X.prog X.w) X.A (evalPairs<|pairTrees c a X.env e) (λh i=>∃f g,DM X b U g i/\VV f h/\Q f g) X.xe s
def zK2:M5 f y [] [] []:=λa s U H Q b h=>pairTrees_nil_walk #[[],H,b,.nil,h]
variable {Cg:List (Option Dc)}{E9:List (TE×TE)}
def zC8(hk:PE f j j3)(o:PE f w v9)(t:M5 f y Cg O E9):M5 f y (J j::Cg) (w::O) ((j3,v9)::E9):=λa s U H Q i h=>
 pairTrees_cons_walk (D1 (hk a s U H _ i h) λu q #[x,c,B,z,m]=>D1 (o a q U c _ B m) λC p #[l,g,d,e,r]=>
  D1 (t a p U g _ d r) λF E #[k,n,v,b,A]=>#[(x,l)::k,n,v,.cons #[z,e] b,A])
def mn (c a:Tx):Tx:=a.foldl (λb d=>G5 b d.1 d.2) c
def KV.merge :∀{a:Tx}{d:List (D8×Bs)}{b:Tx}{c:List (D8×Bs)},KV a d->KV b c->KV (mn b a) (merged c d):=by
 intro a d b c r;unfold KV at r;induction r generalizing b c with
 |nil=>intro q;show q
 |@cons p q ps qs h t ih=>
  intro f;have e:KV (G5 b p.1 p.2) (stored c q.1 q.2):=by have:=f.put p.1 h.2;rw[<-h.1];show this
  show ih e
theorem uH :∀(b a:Tx),(mn a b).length<=a.length+b.length
 |[],a=>by change a.length<=a.length+0;show GU _ _
 |p::r,a=>by have c:=uH r<|G5 a p.1 p.2;rw[G3];show yp3 c<|vO a p.1 p.2
theorem pG {P:C5}{w:C6}:∀{d:Tx}{ws:List (Bs×Bs)},VV (d.map λf=>(kV f.1,f.2)) ws->∃e,Carries (ye P w) ws e/\KV d e
 |[],_,r=>by rw[Ld]at r;cases r;show#[[],True.intro,.nil]
 |p::d,_,r=>by
  rw[GW]at r;cases r with|@cons a b as bs h t=>have#[e,c,q]:=pG t;have#[i,g]:=b;show#[(p.1,g)::e,#[qC h.1,Y,c],.cons #[Y,h.2] q]
def yg3 (b:List (TE×TE)):TE:=λU H Q=>∀p,H p=D->iR b U (upd H p<|.dK []) λe c=>c p=J (.dK [])/\∃a:Tx,e=a.map (λd=>(kV d.1,d.2))/\a.length<=15/\Q (.ref p) (upd c p<|.dK<|mn [] a)
theorem zE3(h:M5 f y Cg O E9)(a:Cg.all (·.isSome)=I)(E:Cg.length=O.length)(G:Cg≠[])(k:Cg.length<=15):PE f (.Dict Cg O y) (yg3 E9):=by
 intro d s U H Q j q;show wpAny_Dict_walk (knd:=ye f.prog f.w) a E G k<|D1 (h d _ U _ _ (j.laid (λ_ _ q=>D6 _ q) (D4 _)<|jB s.heap j.big)<|q _<|j.hok.fresh<|D4 s.heap.objs.size) λP M i=>?_;have#[L,K,m,l,e,g,w,N,C]:=i;subst w;have#[t,c,v]:=pG l;have#[z,o,r,F,n]:=Rf m.hok e;cases F;show#[t,c,n,λp b u=>#[.ref s.heap.objs.size,_,?_,Y,C]];have A:(mn [] g).length<=Zw:=by have B:=uH g [];rw[KC]at B;rw[Hf];lia
 have x:∃q,p.get? s.heap.objs.size=J q:=let⟨q,_,_,hq,_⟩:=b;#[q,hq];show lP m (by rw[e];show True.intro) u x<|Rg A o (v.merge .nil) b
structure M2 (X:Cx)(o:Dc)(m:Zv)(apos:Pos)(e f:Dc)(cpos:Pos):Prop where
 base:Z0 o m X.env (eval o X.env)=eval o X.env
 few:((Zx cpos<|A3 [e,f] X.env).all (λx=>!x.1)&&(Z4 cpos<|Zy [] X.env).all (λx=>x.1.isSome)
  &&decide (([e,f]:T1).length+([]:T3).length+(if([]:T3).isEmpty then 0 else 1)<30))=I
 line:(apos.endLine == cpos.line)=I
 trees:Zx cpos (A3 [e,f] X.env)=[(Za,eval e X.env),(Za,eval f X.env)]
def Rh (H:Hp)(a:Ch):Prop:=(∃b,Rd H a (.dK b))\/∃b,Rd H a (.dT b)
def Ri(k:DM f cC B m r)(d:Rh m i):r.TypeIs (.ref i) "dict"/\(∀b,Zf i=.ref b->∃a,r.heap.get? b=J a/\a.dict=D)/\(i == Ya)=Za:=by
 rcases d with⟨kvs,e⟩|⟨kvs,e⟩;have Ws _ h l _ c:=pC k.hok e;show#[c.typeIs,λb q=>?_,h];cases q;have Wr a _ _ j g _:=c;show#[a,j,g.2.1]
 have Ws _ h xs _ c:=qR k.hok e;show#[c.typeIs,λb q=>?_,h];cases q;have Wr a _ _ j g _:=c;show#[a,j,g.2.1]
def z47(t:d9.units+1<cLine)(d:DM f cC B m r)(g:nL m i e9 Ac)(p:DT e9 f9)(o:DT v8 m6)(h:∀q s,DM f cC B m s->DT (Ac.getD v8) q->nU q s):C3 (C4 f.prog f.w) d9 (call (.builtin "dict.get") [.ref i,f9,m6]) nU i6 r:=by
 rcases g with⟨kvs,k,e,n,l⟩|⟨kvs,k,b,e,n,u,l⟩;subst n;have Ws z j v a c:=pC d.hok e;show call_meetsIn Nr c.typeIs PySem.F.entry_dict_get (PySem.F.args_dict_get_3 _ _ _) (meets_dict_get_default (ye f.prog f.w) i (qC p) j m6) #[_,c.mapOf,h _ _ (d.tok _) ?_];rw[l];show(a.val k).getD o
 subst n;cases(show f9=Zf b from p);have Ws z j xs a c:=qR d.hok e;show call_meetsIn Nr c.typeIs PySem.F.entry_dict_get (PySem.F.args_dict_get_3 _ _ _) (meetsH_dict_get_default (tupleKind<|ye f.prog f.w) i b j m6) #[Lx t,k,xs,sr d.hok u,#[c,h _ _ (d.tok _) ?_]];rw[l];show(a.val k).getD o
def ya3 (f g d:TE):TE:=λU H Q=>f U H λx b=>∃a,x=.ref a/\Rh b a/\g U b λy e=>d U e λz c=>∃o,nL c a y o/\Q (o.getD z) c
def zu6 (r:f.A.units+1<cLine)(P:PE f j j3)(F:PE f w v9)(hf:PE f gV BO)(m:M2 f j "get" y w gV K):PE f (.Call (.Attribute j "get" y) [w,gV] [] K) (ya3 j3 v9 BO):=by
 intro b s U H Q l h;show wpAny_Call_method m.base m.few m.line PySem.F.plainAttrs_dict Nr PySem.F.type_dict_get<|D1 (P b s U H _ l h) λu G #[x,A,e,N,a,o,d,E]=>?_;subst o;obtain rfl:u=Zf a:=N;have Wf q n _:=Ri e d;show#[q,n,?_];rw[m.trees];show Mj Y (Calls.evalArgs_plain (Lw (D1 (F b G U A _ e E) λV p #[S,k,i,C,L]=>
  Lw (D1 (hf b p U k _ i L) λT Z #[z,v,t,M,W,g,O]=>Calls.spliced_nil ?_))))
 show z47 r t g C M λR X B c=>#[_,v,B,c,O]
def Lm :A2->D8->Bool
 |.int i,.inl j=>decide<|i=j
 |.str x,.inr y=>decide<|x=y
 |_,_=>Za
def qK (k j:D8):Lm (wm k) j=decide (k=j):=by cases k<;>cases j<;>simp[Lm,wm]
def wW :Tv->D8->Option A2
 |[],_=>D
 |(p,d)::r,k=>if Lm p k=I then J d else wW r k
def IG (a:Tv)(k:D8)(d:A2):Tv:=
 if(wW a k).isSome=I then a.map (λp=>if Lm p.1 k=I then(p.1,d)else p)else a++[(wm k,d)]
theorem Gq.get {H:Hp}:∀{a:Tx}{ds:Tv}{k:D8}{d:A2},Gq H a ds->wW ds k=J d->∃v,tT a k=J v/\AV H v d
 |_,_,k,d,.nil,e=>by cases e
 |_,_,k,d,.cons (k:=j) h r,e=>by unfold wW at e;rw[qK]at e;by_cases z:j=k;rw[Hw z,Ur Y]at e;cases e;show#[_,tL z,h];rw[Hd z,Us ()]at e;rw[ud z];show Gq.get r e
theorem Gq.none(h:Gq m r8 p7)(e:wW p7 AM=Option.none):tT r8 AM=Option.none:=by
 induction h using Gq.ind with|nil=>rfl|@cons j _ _ _ _ h r ih=>unfold wW at e;rw[qK]at e;by_cases z:j=AM;rw[Hw z,Ur Y]at e;cases e;rw[Hd z,Us ()]at e;rw[ud z];show ih e
def Gq.some_iff(h:Gq m r8 p7)(k:D8):(tT r8 k).isSome=(wW p7 k).isSome:=by
 cases e:wW p7 k with|none=>rw[h.none e];rfl|some d=>have Wa v a _:=h.get e;rw[a];rfl
theorem Gq.length {H:Hp}{kvs:Tx}{ds:Tv}(h:Gq H kvs ds):kvs.length=ds.length:=h.ind (motive:=λxs ds _=>xs.length=ds.length) Y λ_ _ z=>Uu (·+1) z
theorem Gq.snoc {H:Hp}{k:D8}{v:V}{d:A2}(a:AV H v d):∀{c:Tx}{ds:Tv},Gq H c ds->Gq H (c++[(k,v)]) (ds++[(wm k,d)])
 |_,_,.nil=>.cons a .nil
 |_,_,.cons h r=>.cons h<|Gq.snoc a r
theorem Gq.repl {H:Hp}{k:D8}{v:V}{d:A2}(a:AV H v d):∀{b:Tx}{ds:Tv},Gq H b ds->Gq H (b.map λc=>if c.1=k then(c.1,v)else c) (ds.map λp=>if Lm p.1 k=I then(p.1,d)else p)
 |_,_,.nil=>.nil
 |_,_,.cons (k:=j) h r=>by rw[GW,GW];change Gq H ((if j=k then(j,v)else(j,_))::_) ((if Lm (wm j) k=I then(wm j,d)else(wm j,_))::_);rw[qK];by_cases z:j=k;rw[Ur z,Hw z,Ur Y];show .cons a<|Gq.repl a r;rw[Us z,Hd z,Us ()];show .cons h<|Gq.repl a r
def Gq.put(h:Gq m r8 p7)(a:AV m e9 dc):Gq m (G5 r8 AM e9) (IG p7 AM dc):=by unfold G5 IG;rw[qk,h.some_iff];split;show h.repl a;show h.snoc a
theorem Gq.at {H:Hp}{kvs:Tx}{ds:Tv}{i:Nat}{p:A2×A2}(h:Gq H kvs ds)(e:ds[i]?=J p):∃k v,kvs[i]?=J (k,v)/\p.1=wm k/\AV H v p.2:=by
 induction h using Gq.ind generalizing i with
 |nil=>simp at e
 |cons h _ a=>
  cases i with|zero=>show Hb e▸#[_,_,Y,Y,h]|succ i=>show a e
def dF(k:D8):AV m (kV k) (wm k):=by cases k with|inl i=>show .int i|inr x=>show .str x
def tS(h:AV m e9 (wm AM)):e9=kV AM:=by
 cases AM with|inl i=>show h.int_inv|inr x=>show h.str_inv
def AV.dk_inv(h:AV m e9 (xf p7)):∃a o b,e9=.ref a/\m a=J (.frz o (.dK b))/\Gq m b p7:=by
 generalize e:xf p7=d at h;cases h with|dk f c=>cases e;show#[0,_,_,_,Y,f,c]|_=>cases e
def zd1(h:m i=J (.frz j7 j4)):Hh m i:=by
 first
 |trivial
 |(intro v e;rw[h]at e;cases e;show#[(λz=>by cases z),λa z=>by cases z])
def Rj (X:Cx)(l:Ch):Prop:=∀o u,X.H₀ l≠J (.frz o u)
def DM.fz (g:DM f cC B m r)(h:m i=J (.dK r8)):Rj f i/\∃o,DM f cC B (upd m i (.frz o (.dK r8))) r:=by show#[(λo u z=>by rw[g.base.frzs _ _ _ z]at h;cases h),?_];have Ws z y l j a:=(g.hok i _ h);have Wl d n k e c:=a;show#[d,g.write (by rw[h];trivial) (.inl Y) (λb u _ q=>q) #[d,e] ?_];show#[e,z,#[y,l,j,#[d,n,k,e,c]]]
def DM.unfz(y:Rj f i)(a:DM f cC B m r)(h:m i=J (.frz j7 (.dK r8))):DM f cC B (upd m i (.dK r8)) r:=by
 have g:∀{b:Ch},m b=D->upd m i (.dK r8) b=D:=λ{b} e=>by rw[zg λz=>by rw[z,h]at e;cases e];show e
 show#[a.ok,a.os,a.bare,#[a.base.keep,a.base.slot,λb j q n k=>g<|a.base.free b j q n k,a.base.there,λb xs q=>?_,λb j u q=>?_,λb t q=>?_],a.loc,a.cell,g a.free,λx c e=>g<|a.freeC x c e,λp A=>?_,λb u q=>?_,a.len];have:=a.base.tups b xs q;rw[zg λz=>by rw[z,h]at this;cases this];show this;rw[zg λz=>by rw[z]at q;show y _ _ q];show a.base.frzs b j u q;have Wb d this:=a.base.tbls b t q;show#[d,by rw[zg λz=>by rw[z,h]at this;cases this];show this];have Wf v o s:=a.pin p A;show#[v,g o,s];have l:∀{b:Ch} {u:HO},yy f.prog f.w m r.heap b u->yy f.prog f.w (upd m i<|.dK r8) r.heap b u:=λ{b u} x=>x.stay (λ_ _ _ q=>q)
  (λc e=>by rw[zg λz=>by rw[z,h]at e;cases e];show e) λc xs e=>by rw[zg λz=>by rw[z,h]at e;cases e];show e
 by_cases z:b=i;subst z;rw[zi]at q;cases q;have Wc _ w:=(a.hok b _ h);show l w;rw[zg z]at q;show l<|a.hok b u q
def Rl{l:Ch}{kvs:Tx}(h:PE f j j3):PE f j (λU H Q=>H l=J (.dK kvs)/\∀o,j3 U (upd H l (.frz o (.dK kvs))) λv b=>b l=J (.frz o (.dK kvs))/\Q v (upd b l (.dK kvs))):=by intro a s U H Q g ⟨hl,q⟩;have Wc i d:=g.fz hl;have Wb o m:=d;show D1 (h a s U _ _ m<|q o) λu n=>Wj λv b e r j k=>?_;show#[v,_,e.unfz i j,r,k]
variable {Be:TS}
def z53(h:Hr f i7 Be):Hr f i7 (λc U H=>H i=J (.dK r8)/\∀o,Be c U (upd H i (.frz o (.dK r8)))):=by intro a s U H c d ⟨hl,q⟩;have Wc g b:=d.fz hl;have Wb o e:=b;show h a s U _ _ e<|q o
def M.fzk(g:M z n B m)(v:n[l]?=J (J (.dic p7)))(p:B[l]?=J (J (.ref i)))(L:m i=J (.dK r8)):M z (n.set l (J (.dat (xf p7)))) B (upd m i (.frz j7 (.dK r8))):=by
 have Wp l' K P N U C h5:=g.dic l p7 v;rw[p]at P;cases P;rw[L]at N;cases N;have Z:¬Ow z (n.set l<|J<|.dat<|xf p7) B i:=g.gave v p Y λc a=>by cases a;show id
 have ol:Ow z n B i:=.inr #[l,_,_,v,p,Y];have Q:zv (Gz z n B m) (Gz z (n.set l<|J<|.dat<|xf p7) B<|upd m i<|.frz j7<|.dK r8):=λx u j=>by have#[W,z2]:=zf<|iF (b:=.dat<|xf p7) (λ_ _ f=>f) x u j;show zr W<|by rw[zg λa=>(zf j).1<|by rw[a];show ol];show z2
 have R:=qh L;show#[by rw[Ht];show g.len,λo c s w h=>?_,λo G c d s t x w h q1 q2 O S=>?_,λo r q j G c s x w h f=>?_,g.tp.updO C R,λy u j A=>?_,λy H=>?_];rcases zx w with⟨rfl,a⟩|⟨F,e⟩;cases a;rw[p]at h;cases h;show#[_,Y,.dk (zr Z zi)<|U.same Q]
 show(g.ok o c s e h).stay Q (λy u f j=>?_) Y λr q X k=>#[k.tp,k.o,k.ok.updO (λa=>C<|k.o _ a) R,λy u j A=>?_];have Wf w1 V _:=g.ft e h f;show#[?_,w1,V];rw[zg λa=>F<|g.dj l o _ c _ s i v e p h Y<|by rw[<-a];show f];show j;rw[zg (zk j<|g.xd o r q (by rw[<-X];show e) l _ _ i v p Y)];show k.k y u j A;rcases zx w with⟨rfl,a⟩|⟨F,e⟩;cases a;show O.elim
 rcases zx h with⟨rfl,a⟩|⟨a0,E⟩;cases a;show S.elim
 show g.dj o G c d s t x e E q1 q2 O S;rcases zx j with⟨_,a⟩|⟨_,T⟩;cases a
 rcases zx w with⟨rfl,a⟩|⟨F,e⟩;cases a;show f.elim
 show g.xd o r q T G c s x e h f;rw[zg (zk j h5)];show g.keep y u j A;rw[zg (λa=>C<|by rw[<-a];show H)];show g.oex y H
def M.fzback(w:M z n B m)(A:n[l]?=J (J (.dic p7)))(y:B[l]?=J (J (.ref i)))(p:m i=J (.dK r8))(t:zF z d7) (k:Kz z (upd m i (.frz j7 (.dK r8))) d7):d7 i=J (.frz j7 (.dK r8))/\zF z (upd d7 i (.dK r8))/\Kz z m (upd d7 i (.dK r8))/\ ∀x u,¬Ob u->Gz z (n.set l (J (.dat (xf p7)))) B d7 x=J u->Gz z n B (upd d7 i (.dK r8)) x=J u:=by
 have Wp O o r h N v P:=w.dic l p7 A;rw[y]at r;cases r;rw[p]at h;cases h;have g:=k _ _ zi<|w.tp.nt v;show#[g,t.updO v<|zd1 g,λx u j G=>?_,λx u K j=>?_];by_cases a:x=i;subst a;rw[p]at j;cases j;show zi;rw[zg a];show k x u (by rw[zg a];show j) G;have Wc H e:=zf j;have F:x≠i:=λa=>by rw[a,g]at e;cases e;show K trivial
 show zr (λq=>H ?_) (by rw[zg F];show e);rcases q with a|⟨C,c,s,b,d,f⟩;show .inl a
 by_cases E:l=C;subst E;rw[A]at b;cases b;rw[y]at d;cases d;have L:=f;cases L;show Ut Y F;show .inr #[0,C,c,s,by rw[oh E];show b,d,f]
def zl5 (i:Nat)(c:n[i]?=J (J (.dic p7)))(h:DP f (n.set i (J (.dat (xf p7)))) j λd=>noL d=I/\Q d):DP f n j Q:=λF U H R m k=>by have Wp l a e b x A z:=m.dic i p7 c;show#[_,Rl (l:=l) (kvs:=a) zh,b,λo=>?_];show h F U _ _ (m.fzk c e b) λd v y q t p r=>?_;have Wq g u w s:=m.fzback c e b t p;show#[g,k d v _ q.2 u w<|r.noL s q.1]
def zk2(i:Nat)(b:n[i]?=J (J (.dic p7)))(h:FA f (n.set i (J (.dat (xf p7)))) j λd=>wx d=I/\j2 d):FA f n j j2:=λF U H R m k=>by
 have Wp l O s c Q S V:=m.dic i p7 b;show#[_,Rl zh,c,λo=>h F U _ _ (m.fzk b s c) λd v T q t G r=>?_];have Wq w M y K:=m.fzback b s c t G;have Wj e xs E a N C:=r;have g:e≠l:=λz=>by rw[z,zi]at a;cases a
 rw[zg g]at a;show#[w,k d v _ q.2 M y #[1,e,xs,E,a,by rw[zg g];show N,C.noL (λx u B z=>?_) q.1]];have Wc p A:=zf z;have Wc P L:=zf<|K x u B<|zr p.1 A;show zr #[P,p.2] L
def Rm (i:Nat)(b:n[i]?=J (J (.dic p7)))(h:D0 f (n.set i (J (.dat (xf p7)))) i7 h9):D0 f n i7 h9:=λF U H c m r=>by have Wp l e d a j k g:=m.dic i p7 b;show#[_,z53 zC,a,λo=>h F U _ c (m.fzk b d a) r]
def M.layC(b:M z n B m)(a:m i=D)(h:yP (Gz z n B m) j4 dc):zF z (upd m i j4)/\Kz z m (upd m i j4)/\nV z n B m (.ref i) (upd m i j4) dc:=by show#[b.tp.same<|zP a,Kz.of_same<|zP a,#[1,i,j4,Y,a,zi,h.same<|zj λw j4 c j=>?_]];have:=zk j a;show#[#[c,this],by rw[zg this];show j]
def zi4 (q:Q (xf [])):Od f n (.Dict [] [] y) Q:=λF U H R m k=>by show#[_,zu0,λl b=>?_];have Wf a c d:=m.layC b<|.dk .nil;show k _ _ _ q a c d
def dJ (i:Nat)(L:f.A.units+1<cLine)(u:n[i]?=J (J (.dic p7)))(h:DP f n j λd=>DP f n w λs=>∃k,s=wm k/\p7.length<1000/\D0 f (n.set i (J (.dic (IG p7 k d)))) i7 h9)
  (C: ~~~(f.N[i]?=J p)) (A:‹GO f.env.scope p›) (z:‹Yl p›) (c:‹Ym p›)
  (g: ~~~(Z1 j (J<|.Subscript (.Name p K) w fC) y.line f.env=pure Za)):
  D0 f n (.Assign [.Subscript (.Name p K) w fC] j y::i7) h9:=λF U H O m r=>by have Wp l T x N o t X:=m.dic i p7 u;show#[_,zt (zL9 L (zG C A z c) zh zh g) zC,h F U H _ m λd v M P G e S=>?_];have b:=m.kz e G;show#[.ref l,x,P F U M _ b λs W V Q B a E=>?_];have We k rfl R q:=Q;cases tS E;show#[l,_,Y,L7.k (a _ _ (e _ _ N<|m.tp.nt t)<|m.tp.nt t) (by rw[o.length];show yu<|Hy R),?_];show q F U _ O ((b.kz a B).wrC u x<|.dk<|((o.same<|e.gz m.tp).same<|a.gz b.tp).put<|S.same<|a.gz b.tp) r
def zf0 (h:DP f n w λi=>DP f n gV λd=>∃k,i=wm k/\Q (xf [(wm k,d)])):Od f n (.Dict [J w] [gV] y) Q:=λF U H R m A=>by
 show#[_,zE3 (zC8 zh zh zK2) Y Y (List.cons_ne_nil _ _) (by change 1<=15;decide),λl b=>?_];have e:zv H (upd H l<|.dK []):=zP b;have t:=m.park (Kz.of_same e) (m.tp.same e) b zi (λ_ z=>by cases z);show h _ U _ _ t λi O G K E g M=>?_;show K _ U G _ (t.kz g E) λd v N L B r C=>?_;have Wa k rfl q:=L;cases tS M;have s:=m.fresh b;have a:=m.tp.nt<|GL s;have u:=r _ _ (g _ _ zi a) a;show#[u,[(k,v)],Y,#[by change 1<=15;decide,?_]];show A _ _ _ q ((m.tp.re B Y).updO (GL s)<|qh u) (λx o j p=>?_) #[1,l,_,Y,b,zi,?_];have c:x≠l:=λz=>by rw[z,b]at j;cases j
 rw[zg c];show r _ _ (g _ _ (e _ _ j) p) p;show yP.dk<|Gq.cons (C.same<|zj λx o h j=>?_) .nil;have c:x≠l:=λz=>h<|.inl<|.inr z;show#[#[λz=>h<|z.elim (λz=>.inl<|.inl z) .inr,c],by rw[zg c];show j]
def L8 (o:Z7):Nat:=match o.data with
 |.dict _ ep=>ep
 |_=>0
def DM.fzAt(n:DM f cC B m r)(h:m i=J (.frz j7 (.dK r8))):r8.length<=Zw/\(i == Ya)=Za/\∃a,KV r8 a/\r.heap.DictAt (ye f.prog f.w) i a (L8 j7):=by
 have Wq g z y b:=(n.hok i _ h);have Wa a j c:=b;have Wm s q k e l d o:=c;rw[g]at e;cases e;have p:L8 j7=k:=by unfold L8;rw[d]
 rw[p];show#[z,y,#[a,j,#[1,j7,q,g,l,d,o]]]
theorem KV.at {kvs:Tx}{vs:List (D8×Bs)}(r:KV kvs vs):∀{i:Nat}{k:D8}{v:V},kvs[i]?=J (k,v)->∃u,vs[i]?=J (k,u)/\DT v u:=by
 unfold KV at r;induction r with
 |nil=>intro i k v e;simp at e
 |@cons p q ps qs h t ih=>
  intro i k v e;cases i with|zero=>simp at e;subst e;show#[q.2,?_,h.2];have a:k=q.1:=h.1;rw[a];rfl|succ i=>have Wa u a b:=ih (by simpa using e);show#[u,by simpa using a,b]
def dC(h:(ye E s).is AM f9=I):DT (kV AM) f9:=by
 rcases yi (h)with⟨i,t,rfl,rfl⟩|⟨x,t,rfl,rfl⟩;show#[t,Y]
 show#[t,Y]
def Rn (a:Ch)(o:Z7)(b:Tx):It:=#[λi H=>H a=J (.frz o<|.dK b)/\i<b.length,λi H x c=>c=H/\∃k v,b[i]?=J (k,v)/\x=kV k,λi H=>H a=J (.frz o<|.dK b)/\b.length<=i]
def Ro (a:Ch)(o:Z7)(b:Tx):It:=#[λi H=>H a=J (.frz o<|.dK b)/\i<b.length,λi H x c=>c=H/\∃k v,b[i]?=J (k,v)/\x=v,λi H=>H a=J (.frz o<|.dK b)/\b.length<=i]
def af(a n:Ch)(O:Z7)(g:Tx):HL E s q j (Rn a O g) [n] n (λi h=>h.IsKeyIter n a i g.length (L8 O)) where
 mem:=by simp
 obj:=λi h f b m=>by
  have e:b=n:=by simpa using m
  subst e;have We o e c d:=f;show#[o,e,λv z=>by rw[d]at z;cases z]
 keep:=λi h R f k=>f.at λo e=>k n () o e
 item:=by intro X K hw A Q i t a0 U H Z r hf f hg;subst K hw A;have Wc N B:=hg;have Ws _ _ T l x:=r.fzAt N;obtain⟨⟨k,v⟩,P⟩:∃p,g[i]?=J p:=#[g[i],Gh B];have Wa u W ru:=l.at P;have Wt y C f2 M L G:=hf n ();rw[l.length]at f ⊢;show wpAny_pyNext_dict_item f x W λF R hk w sb=>?_;have We o e c d:=id w;show#[F,Y,oM e c d () #[4,kV k,H,(r.turned (λb o m e=>(sb.2 b m).trans e) y C M L G),dC hk,#[Y,k,v,P,Y],w,λb m=>(hf b m).1]]
 done:=by intro X K hw A Q i t a0 U H Z r hf f hg;subst K hw A;have Wc N B:=hg;have Ws _ _ T l x:=r.fzAt N;have S:=l.length;have Wt y C f2 M L G:=hf n ();rw[S]at f;show wpAny_pyNext_dict_end (r.ok.hd Q) f x (Ks<|Gg (Gu S.symm) B) λR eb=>#[Y,r.turned (λb o m e=>eb b o m e) y C M L G]
 self:=λ_ _ _ _ _ f h=>wpAny_pyIter_keyiter f h
def zd0(a n:Ch)(N:Z7)(g:Tx):HL E s q j (Ro a N g) [n] n (λi h=>h.IsValIter n a i g.length (L8 N)) where
 mem:=by simp
 obj:=λi h f b m=>by
  have e:b=n:=by simpa using m
  subst e;have We o e c d:=f;show#[o,e,λv z=>by rw[d]at z;cases z]
 keep:=λi h Q f k=>f.at λo e=>k n () o e
 item:=by intro X G hw A P i t a0 U H W r hf f hg;subst G hw A;have Wc M B:=hg;have Ws _ _ S l x:=r.fzAt M;obtain⟨⟨k,v⟩,O⟩:∃p,g[i]?=J p:=#[g[i],Gh B];have Wa u T Z:=l.at O;have Wt y C f2 L K F:=hf n ();rw[l.length]at f ⊢;show wpAny_pyNext_values_item f x T λQ w sb=>?_;have We o e c d:=id w;show#[u,Y,oM e c d () #[4,v,H,(r.turned (λb o m e=>(sb.2 b m).trans e) y C L K F),Z,#[Y,k,v,O,Y],w,λb m=>(hf b m).1]]
 done:=by intro X G hw A P i t a0 U H W r hf f hg;subst G hw A;have Wc M B:=hg;have Ws _ _ S l x:=r.fzAt M;have R:=l.length;have Wt y C f2 L K F:=hf n ();rw[R]at f;show wpAny_pyNext_values_end (r.ok.hd P) f x (Ks<|Gg (Gu R.symm) B) λQ eb=>#[Y,r.turned (λb o m e=>eb b o m e) y C L K F]
 self:=λ_ _ _ _ _ f h=>wpAny_pyIter_valiter f h
def zO3(u:PE f w j3):PI f j w (λU H R=>j3 U H λx g=>∃a o c,x=.ref a/\g a=J (.frz o (.dK c))/\R (Rn a o c) g):=by
 intro d s U H R r h;show D1 (u d s U H _ r h) λv m=>Wd λx g i y t=>?_;have Wr a o c rfl z q:=t;cases y;have Ws _ A B l n:=i.fzAt z;show wpAny_pyIter_dict A n ?_;show#[m.heap.objs.size,[m.heap.objs.size],_,#[5,_,g,Y,i.kept λb o e=>D6 _ e,af a _ o c,#[_,GB _ Y,Y,by rw[l.length];rfl],λb p=>?_,q]];have e:b=m.heap.objs.size:=by simpa using p
 subst e;show i.fpOk (D4 _)<|i.hok.fresh<|D4 _
def zJ1(L:PE f w j3)(i: ~~~(Z0 w "values" f.env (eval w f.env)=eval w f.env))(g: ~~~((y.endLine == K.line)=I)):
  PI f j (.Call (.Attribute w "values" y) [] [] K) (λU H R=>j3 U H λx k=>∃a o c,x=.ref a/\k a=J (.frz o<|.dK c)/\R (Ro a o c) k):=by
 intro d s U H R B h;show wpAny_Call_method0_late i g<|D1 (L d s U H _ B h) λv l=>Wd λx k p M G=>?_;have Wr a o c rfl z q:=G;cases M;have Ws _ E A r t:=p.fzAt z;have Wf u C _:=Ri p<|.inl #[c,.inr #[o,z]];show#[5,"dict","dict.values",PySem.F.plainAttrs_dict,PySem.F.slot_dict_values,PySem.F.type_dict_values,u,C,Mj Y<|PySem.evalArgs_none<|call_meetsIn PySem.F.slot_dict_values u PySem.F.entry_dict_values (PySem.F.args_dict_values_1 _) (meets_dict_values (ye f.prog f.w) a E) #[#[A,t.dictOf],?_]];have m:DM f d U k {l with heap:=l.heap.push {cls:=.type "dict_values",data:=.fields [.ref a].toArray}}:=p.kept λb o e=>D6 _ e;show wpAny_pyIter_values #[_,GB _ Y,Y,Y] (t.push _) ?_;show#[(l.heap.push {cls:=.type "dict_values",data:=.fields [.ref a].toArray}).objs.size,[(l.heap.push {cls:=.type "dict_values",data:=.fields [.ref a].toArray}).objs.size],_,#[5,_,k,Y,m.kept λb o e=>D6 _ e,zd0 a _ o c,#[_,GB _ Y,Y,by rw[r.length];rfl],λb F=>?_,q]];have e:b=(l.heap.push {cls:=.type "dict_values",data:=.fields [.ref a].toArray}).objs.size:=by simpa using F
 subst e;show m.fpOk (D4 _)<|m.hok.fresh<|D4 _
def cE (h:DP f n j λx=>∃b,x=xf b/\j2 (b.map (·.1))):HN f n gV j j2:=λF U H R m k=>by show#[_,zO3 zh,h F U H _ m λx N A C z B G=>?_];have Wa b rfl q:=C;have Wr w o e rfl a r:=G.dk_inv;show#[0,w,o,e,Y,(zf a).2,k _ _ A q z B λi M O s=>#[λd g=>?_,λt=>?_]];rw[GD,Hj]at g;have Wa L E rfl:=g;have Wd K v p u S:=r.at E;show#[#[(zf<|s _ _ a).2,(Gm.mp p).1],λx Q y=>?_];have Wc rfl c:=y;have Wh P T l rfl:=c;rw[p]at l;cases l;show#[zv.refl _,λ_=>?_];rw[u];show dF _;rw[DZ]at t;show#[(zf<|s _ _ a).2,by rw[r.length];show t]
def zG1(h:DP f n j λx=>∃e,x=xf e/\j2 (e.map (·.2)))(b: ~~~(Z0 j "values" f.env (eval j f.env)=eval j f.env))(a: ~~~((y.endLine == K.line)=I)):
  HN f n gV (.Call (.Attribute j "values" y) [] [] K) j2:=λF U H R m k=>by show#[_,zJ1 zh b a,h F U H _ m λx S C L B G N=>?_];have Wa e rfl q:=L;have Wr w o l rfl c u:=N.dk_inv;show#[0,w,o,l,Y,(zf c).2,k _ _ C q B G λi Q V s=>#[λd p=>?_,λz=>?_]];rw[GD,Hj]at p;have Wa P M rfl:=p;have Wd O v t T E:=u.at M;show#[#[(zf<|s _ _ c).2,(Gm.mp t).1],λx X A=>?_];have Wc rfl g:=A;have Wh W Z r rfl:=g;rw[t]at r;cases r;show#[zv.refl _,λ_=>E.same s];rw[DZ]at z;show#[(zf<|s _ _ c).2,by rw[u.length];show z]
def oi (M:f.calm=I):yL f (.type "list") (λxs H j2=>∃a o d,xs=[.ref a]/\H a=J (.frz o (.dK d))/\∀l,H l=D->j2 (.ref l) (upd H l (.lst (d.map λy=>kV y.1)))):=by
 intro G s U H xs us j2 t r h;have Wr a o d rfl T q:=h;have Wa u rfl S:=G6 r;cases S;have Ws F P W g L:=t.fzAt T;show PySem.W.kdl_call (PySem.W.kdl_dict P) (t.ok.hd M) L (by rw[<-g.length];show F) λN tk b O R j z=>?_;show#[.ref s.heap.objs.size,_,t.laid R (D4 _) (show yy f.prog f.w _ N _ (.lst<|d.map λy=>kV y.1)from#[by rw[DZ];show F,b.toList,O,?_,by simpa using j]),Y,q _<|t.hok.fresh<|D4 _];have A:∀{i:TM} {e:TQ},i.length=e.length->(∀(c:Nat) x,i[c]?=J x->∃u,e[c]?=J u/\DT x u)->DS i e:=by
  intro i;induction i with
  |nil=>intro e m _;cases e with|nil=>show .nil|cons _ _=>simp at m
  |cons x i Q=>
   intro e m p;cases e with|nil=>simp at m|cons Z e=>have Wa u n C:=p 0 x Y;simp at n;subst n;show .cons C<|Q (by simpa using m) λc E w=>by simpa using p (c+1) E (by simpa using w)
 show A (by rw[DZ,g.length,Ku];show z.1.symm) λc x w=>?_;rw[GD,Hj]at w;have Wa B m rfl:=w;have#[k,v]:=B;have Wa X p _:=g.at m;have K:c<b.size:=by rw[z.1];show(Gm.mp p).1
 have Wh k' E n C:=z.2 c b[c] (by simp[K]);rw[p]at n;cases n;show#[b[c],by simp[K],dC C]
def zt2(h:Gq m r8 p7):D2 d7 (r8.map λy=>kV y.1) (p7.map (·.1)):=by
 induction h using Gq.ind with|nil=>show .nil|cons _ _ a=>show .cons (dF _) a
def zD3 (u:f.calm=I)(hg:Gl f "list")(v:f.mg "list"=D)(h:DP f n j λx=>∃a,x=xf a/\j2 (a.map (·.1)))(c: ~~~Uo j [] f.env):
  FA f n (.Call (.Name "list" K) [j] [] y) j2:=λF U H R m k=>by show#[_,yX (oi u) hg v boot_list (zo zh zI c) (he:=c),h F U H _ m λx C B r e b A=>?_];have Wa a rfl q:=r;have Wr w o d rfl g s:=A.dk_inv;show#[0,w,o,d,Y,(zf g).2,λl z=>?_];have Wf i t p:=(m.kz b e).lay z<|zt2 s;show k _ _ _ q i (b.trans t)<|p.back m b e
mutual
def IH :A2->A2->Ub
 |.int a,.int b=>J<|decide<|a<b
 |.str a,.str b=>J<|decide<|a.cps.toList<b.cps.toList
 |.tuple xs,.tuple ys=>gB xs ys
 |_,_=>D
def gB :TL->TL->Ub
 |[],[]=>J Za
 |[],_::_=>J I
 |_::_,[]=>J Za
 |x::xs,y::ys=>if PyData.eqv x y=I then gB xs ys else IH x y
end
def Om (A:Db)(s:C1)(x y:A2):Prop:=∀(v u:Bs) (as bs:TU) (r:Bool),Reads s.heap v x as->Reads s.heap u y bs->x.canLay0=I->y.canLay0=I->IH x y=J r->
 ∀(a:C5) (w:C6) (E:To) (Q:To),Q (.bool r) s->C3 (C4 a w) A (richCompare .Lt v u) Q E s
section
open PySem.SeqAt
open PySem.AutoSeq1 (wpAny_loadPart')
open PySem.MeetsSeq PySem.MeetsSeq2 PySem.MeetsSeq3
theorem ya0 (l b:Ch)(i c:Uc)(n n2:Nat)(dd a3:Ua)(sl a5:Array (T8))(xs H:TL)(z:Bool)(S:gB xs H=J z)(N:Yh xs=I)(a7:Yh H=I):Meets (Builtin.«tuple.__lt__» #[[.ref l,.ref b],[]]) (λA R s=>s.heap.get? l=J {cls:=.type "tuple",dict:=dd,data:=.seq i n,slots:=sl}/\s.heap.get? b=J {cls:=.type "tuple",dict:=a3,data:=.seq c n2,slots:=a5}/\ (∃M bs,ReadsAll s.heap i.toList xs M/\ReadsAll s.heap c.toList H bs)/\A.units+1+Yg xs<cLine/\(∀x∈xs,∀y,Om A.in1 s x y)/\R (.ok<|.ret<|.bool z) s):=
 .of_wp λq w A R s h=>by
  have#[V,g,d,tk,os]:=s;have Wt hl hb a6 hu L h:=h;have#[M,bs,r1,r2]:=a6;have f2:=AutoSeq1.sub_tuple_tuple;have z1:i.size=xs.length:=by simpa using SeqAt.ReadsAll.length _ _ _ r1
  have z2:c.size=H.length:=by simpa using SeqAt.ReadsAll.length _ _ _ r2
  wp_walk using OY hl,OY hb,wpAny_forIn_list _ (λr b s'=>b.1=D/\s'=#[V,g,d,tk,os]/\∃W X j k B t,r=W.zip X/\
   ReadsAll V W j B/\ReadsAll V X k t/\j.length+c.size=k.length+i.size/\gB j k=J z/\Yh j=I/\Yh k=I/\(∀x∈j,x∈xs)) _
  case turn=>
   rintro⟨y,x⟩ r b s' ⟨G,rfl,W,X,j,k,B,t,p,q1,Z,f,o,K,T,m⟩;cases q1 with
   |nil=>rw[List.zip_nil_left]at p;cases p
   |@cons v vs' d0 ds0 a1 a2 p1 O=>
    cases Z with
    |nil=>rw[List.zip_nil_right]at p;cases p
    |@cons u us' e0 es0 b1 b2 p2 C=>
     rw[List.zip_cons_cons]at p;injection p with a0 F;injection a0 with hy P;subst hy P;simp only[Yh,HG]at K T;have hd:d0.depth<=Yg xs:=by
      have U:=m d0 GN;clear L m h r1 S N z1;induction xs with
      |nil=>cases U
      |cons a M ih=>
       simp only[Yg];rcases D7.mp U with rfl|U;show DD _ _
       show Gg (ih ?_ U)<|DA _ _;simp only[Yg]at hu;have:=DA a.depth<|Yg M;show O7 hu
     have he:=SeqAt.eqAt_reads d0 e0 A.in1 #[V,g,d,tk,os] _ _ _ _ p1 p2 K.1 T.1 (by change A.units+1+min d0.depth e0.depth<cLine;lia);simp only[G3]at f;unfold gB at o;show DL<|he q w _ _ ?_;cases e:PyData.eqv d0 e0 with|true=>rw[e,Ur Y]at o;wp_walk;show#[Y,Y,#[_,_,#[2,_,_,_,_,F,O,C,#[(yb5 f),o,K.2,T.2,λx P=>m x<|GH _ P]]]]|false=>rw[e,Us ()]at o;have a4:=λE Q hq=>L d0 (m d0 GN) e0 _ _ _ _ z p1 p2 K.1 T.1 o q w E Q hq;wp_walk using a4;show#[_,Y,by simpa using h]
  case fin=>
   rintro⟨b1,b2⟩ s' ⟨G,rfl,W,X,j,k,B,t,p,q1,Z,f,o,K,T,m⟩;simp only at G;subst G;have hv:z=decide (i.size<c.size):=by
    cases q1 with
    |nil=>
     cases Z with|nil=>cases o;simp only[KC]at f;show(Hd<|yc2 f).symm|cons p2 C=>cases o;simp only[KC,G3]at f;show(Hw<|yi9 f).symm
    |cons p1 O=>
     cases Z with|nil=>cases o;simp only[KC,G3]at f;show(Hd<|yg0 f).symm|cons p2 C=>rw[List.zip_cons_cons]at p;cases p
   rw[hv]at h;wp_walk;show#[_,Y,by simpa[Builtin.Tuple.tupleCompareSizes]using h]
  case h=>show#[Y,Y,#[i.toList,c.toList,#[2,xs,H,M,bs,Y,r1,r2,#[(yf9 z1 z2),S,N,a7,λx P=>P]]]]
end
mutual
theorem oJ :∀(d:A2) (e:A2) (A:Db) (s:C1),A.units+d.depth<cLine->Om A s d e
 |.int a,e,A,s,i=>λv u j k r g f _ _ h c w E Q q=>by
  cases e with|int b=>cases h;cases g;cases f;show(PyProof.Rows.lt_int q:C3 (C4 c w) A (Z5 .Lt _ _) Q E s)|_=>cases h
 |.str a,e,A,s,i=>λv u j k r g f _ _ h c w E Q q=>by
  cases e with|str b=>cases h;cases g;cases f;show(lt_str q:C3 (C4 c w) A (Z5 .Lt _ _) Q E s)|_=>cases h
 |.tuple xs,e,A,s,i=>λv u j k r g f z C h c w E Q q=>by
  cases e with
  |tuple ys=>
   cases g with
   |@tuple a1 o1 vs n1 _ _ g1 g2 g3 g4=>
    cases f with
    |@tuple a2 o2 ws n2 _ _ k1 k2 k3 k4=>
     have#[F,y,p,B]:=o1;have#[t,m,n,o]:=o2;simp only at g2 g3 k2 k3;subst g2 g3 k2 k3;have l:A.units+1+Yg xs<cLine:=by simp only[PyData.depth]at i;lia
     show richCompare_meets_room #[_,g1,Y] #[_,k1,Y] PySem.F.slot_tuple_lt PySem.F.entry_tuple_lt (PySem.F.args_tuple_lt_2 _ _) (ya0 a1 a2 vs ws n1 n2 y m B o xs ys r h (by simpa only[Yj]using z)<|by simpa only[Yj]using C)
      #[6,g1,k1,#[_,_,g4,k4],l,ku xs A.in1 s<|l,show BE r≠Value.notImplemented/\Q (.bool r) s from#[(λx=>nomatch x),q]] (Ha (GU _ _) i)
  |_=>cases h
 |.none,e,A,s,i=>λv u j k r g f _ _ h=>by cases e<;>cases h
 |.bool _,e,A,s,i=>λv u j k r g f _ _ h=>by cases e<;>cases h
 |.list _,e,A,s,i=>λv u j k r g f _ _ h=>by cases e<;>cases h
 |.dict _,e,A,s,i=>λv u j k r g f _ _ h=>by cases e<;>cases h
theorem ku :∀(xs:TL) (A:Db) (s:C1),A.units+Yg xs<cLine->∀x∈xs,∀y,Om A s x y
 |[],A,s,b=>λx a=>by cases a
 |d::ds,A,s,b=>λx a y=>by simp only[Yg]at b;have c:=DD d.depth<|Yg ds;by_cases e:x=d;rw[e];show oJ d y A s ();show ku ds A s (O7 b) x ((D7.mp a).resolve_left e) y
end
def pU (a h:C7):Prop:=∀b o,a.get? b=J o->h.get? b=J o
def Oo (a:C5)(w:C6)(A:Db)(b:C7)(P:Nat->Bs->Prop)(c:Nat->Nat->Bool):Prop:=
 ∀i j x y (s:C1) (Q:To) (E:To),P i x->P j y->pU b s.heap->Q (.bool<|c i j) s->C3 (C4 a w) A (richCompare .Lt x y) Q E s
variable {BQ:Nat->Ul}{BM:Nat->Bs->Prop}{l8 Az:TU}
def aP (A:C7)(W:Walks E s d9.in1 i l8 Az l BM BQ)(p:Nat->Nat->Bool)(V:Oo E s d9.in1 A BM p)(d:Ch)(P:d∉l8)(N:A.get? d=D)(O:∀b∈Az,A.get? b=D):∀(k j:Nat) (a:C1) (x:Bs) (c:Nat),l-(j+1)=k->j+1<=l->BQ (j+1) a.heap->pU A a.heap->BM (argBest p j) x-> a.heap.get? d=J {cls:=.type "list",dict:=D,data:=.seq [x,x].toArray c,slots:=[].toArray}-> (∀y r C,BM (argBest p<|l-1) y->(∀b o,b∉Az->b≠d->a.heap.get? b=J o->r.get? b=J o)->A5 (.ok<|.ret y) {a with heap:=r,toks:=C})-> ZH (C4 E s) d9 (.builtin "min.loop" #[[.ref i,.none,.ref d],[]]) A5 a:=by
 have v:d∉Az:=λq=>P<|W.sub _ q;have S:(toString "min"++toString ".loop":String)="min.loop":=by decide
 intro k;induction k with
 |zero=>intro j a x c hk T H R F t G;have e:=(O8 hk T);show Jt Np ?_;rw[JC Kp _];show DL<|IP t Y ?_;change C3 _ d9.in1 (tryCatch (pyNext<|.ref i) _ >>= _) _ _ a;show DL<|wpAny_tryCatch<|W.done a _ _ (e▸H) λr C f=>?_;show DL<|Js (f d _ v t) Y<|DL<|JO<|DX<|G x _ C (by rw[<-e];show F) λb o n u q=>(G4 _ _<|Gx u).trans<|f b o n q
 |succ k Q=>
  intro j a x c hk T H R F t G;have K:=(O9 hk);show Jt Np ?_;rw[JC Kp _];show DL<|IP t Y ?_;change C3 _ d9.in1 (tryCatch (pyNext<|.ref i) _ >>= _) _ _ a;show DL<|wpAny_tryCatch<|W.item (j+1) a _ _ K H λy r C U w f=>?_;have m:=f d _ v t;have g:pU A r:=λb o q=>f b o (λz=>by rw[O b z]at q;cases q)<|R b o q;change C3 _ d9.in1 (tryCatch (Z9 [y,y] (richCompare .Lt y x >>= _)) _ >>= _) _ _ _;show DL<|wpAny_tryCatch<|Hx<|DL<|V (j+1) (argBest p j) y x _ _ _ U F g<|DL<|Hx<|J9<|DL<|JO<|DX ?_;cases hb:p (j+1) (argBest p j)with|true=>simp only[Il];show DL<|Js m Y<|DL<|JO ?_;rw[S];show DX #[Ji Kp _,Q (j+1) _ y _ (NA hk) K (W.frame _ _ _ w λb hf o q=>?_) (λb o q=>?_) (by simp only[argBest,hb,Il];show U) (IJ _ m Y) λz u h M L=>?_];show(G4 _ _ (λz:d=b=>P<|by rw[z];show hf)).trans q;show(G4 _ _ (λz:d=b=>by rw[<-z,N]at q;cases q)).trans<|g b o q;show G z u h M λb o n B q=>L b o n B ((G4 _ _<|Gx B).trans<|f b o n q)|false=>simp only[IL,Ic];show DL<|JO ?_;rw[S];show DX #[Ji Kp _,Q (j+1) _ x c (NA hk) K w g (by simp only[argBest,hb,IL,Ic];show F) m λz u h M L=>?_];show G z u h M λb o n B q=>L b o n B<|f b o n q
def eA (c:C7)(W:Walks E s d9.in1 i l8 Az l BM BQ)(m:Nat->Nat->Bool)(H:Oo E s d9.in1 c BM m)(a:Ch)(j:a∉l8)(e:c.get? a=D)(f:∀b∈Az,c.get? b=D)(x:0<l)(B:BQ 0 r.heap)(M:pU c r.heap)(A:r.heap.get? a=J {cls:=.type "list",dict:=D,data:=.seq [].toArray N,slots:=[].toArray})(L:∀y g w,BM (argBest m<|l-1) y->(∀b o,b∉Az->b≠a->r.heap.get? b=J o->g.get? b=J o)->A5 (.ok<|.ret y) {r with heap:=g,toks:=w}):ZH (C4 E s) d9 (.builtin "min.loop" #[[.ref i,.none,.ref a],[]]) A5 r:=by
 have p:a∉Az:=λq=>j<|W.sub _ q;have K:(toString "min"++toString ".loop":String)="min.loop":=by decide
 show Jt Np ?_;rw[JC Kp _];show DL<|IP A Y ?_;change C3 _ d9.in1 (tryCatch (pyNext<|.ref i) _ >>= _) _ _ r;show DL<|wpAny_tryCatch<|W.item 0 r _ _ x B λy g w O t h=>?_;have d:=h a _ p A;have n:pU c g:=λb o q=>h b o (λz=>by rw[f b z]at q;cases q)<|M b o q;change C3 _ d9.in1 (updateSeq a (λ_=>[y,y].toArray) >>= _) _ _ _;show DL<|Js d Y ?_;rw[K];show DX #[Ji Kp _,aP c W m H a j e f _ 0 _ y _ Y x (W.frame _ _ _ t λb hf o q=>?_) (λb o q=>?_) O (IJ _ d Y) λz C k G F=>?_];show(G4 _ _ (λz:a=b=>j<|by rw[z];show hf)).trans q;show(G4 _ _ (λz:a=b=>by rw[<-z,e]at q;cases q)).trans<|n b o q;show L z C k G λb o v u q=>F b o v u<|(G4 _ _<|Gx u).trans<|h b o v q
def zb8{bt:Nat->Nat->Bool}(j:d9.handled=D)(g:r.heap.IsList i l7)(p:0<l7.size)(m:Oo E s d9.in1 r.heap (λu v=>l7[u]?=J v) bt)(t:∀v d f,l7[argBest bt (l7.size-1)]?=J v->pU r.heap d->nU v {r with heap:=d,toks:=f}):C3 (C4 E s) d9 (call (.builtin "min") [.ref i]) nU i6 r:=by
 have n:(toString "min"++toString ".loop":String)="min.loop":=by decide
 have a:i<r.heap.objs.size:=by have Wa _ e _:=g;show Gd e
 show call_function_tree PySem.F.kind_min PySem.F.plain_min PySem.F.entry_min (PySem.F.args_min1 _)<|DL (JP (show Builtin.Builtins.bindParams "min" ["key","default"] 0 #[[],[]]=pure [D,D]from Y)<|DL<|DX<|DL<|Kv g ?_);show DL<|JH ?_;rw[n];have W:=Walks.list (prog:=E) (w:=s) (A:=d9.in1) j r.heap.objs.size i (Gp a) l7;have h:pU r.heap ((r.heap.push {cls:=.type "list_iterator",data:=.fields [.ref i,.int 0 0].toArray}).push {cls:=.type "list",data:=.seq [].toArray}):=λb o e=>D6 _<|D6 _ e;have c:(r.heap.push {cls:=.type "list_iterator",data:=.fields [.ref i,.int 0 0].toArray}).objs.size=r.heap.objs.size+1:=IM _ _;show DX #[Ji Kp _,eA r.heap W bt m _ (λq=>?_) (Mp<|by rw[c];show HI _) (λb l=>?_) p (W.frame 0 (r.heap.push {cls:=.type "list_iterator",data:=.fields [.ref i,.int 0 0].toArray}) _ #[#[_,GB _ Y,Y,Y],g.push _] λb _ o e=>D6 _ e) h (GB _ Y) λv d f pv k=>?_];rcases D7.mp q with z|z;rw[c]at z;show Ut z<|Nat.succ_ne_self _
 rw[GV,c]at z;show Ut a (by rw[<-z];show Nat.not_lt.mpr<|HI _);rw[GV.mp l];show Mp<|D4 _;show t v d f pv λb o e=>k b o (λz=>?_) (λz=>?_)<|h b o e;rw[GV.mp z]at e;show Ut (Gd e)<|Ib _;have:=Gd e;rw[z,c]at this;show Ut this<|Nat.not_lt.mpr<|HI _
def qj (a:TL)(i j:Nat):Bool:=match a[i]?,a[j]? with
 |some x,some y=>(IH x y).getD Za
 |_,_=>Za
def Ie :TL->A2
 |[]=>.none
 |d::ds=>ds.foldl (λb x=>if(IH x b).getD Za=I then x else b) d
def iO (d:A2)(a:TL)(x:A2):Ie (d::(a++[x]))=if(IH x (Ie (d::a))).getD Za=I then x else Ie (d::a):=by change List.foldl _ d (a++[x])=_;rw[Mx];rfl
def jd(a:T[l]?=J dc)(b:T[N]?=J y4):qj T l N=(IH dc y4).getD Za:=by unfold qj;rw[a,b]
def zA1 (a:TL):∀k,k<a.length->a[argBest (qj a) k]?=J (Ie (a.take (k+1))):=by
 intro k;induction k with
 |zero=>
  intro h;cases a with|nil=>simp at h|cons d a=>simp[argBest,Ie]
 |succ k f=>
  intro h;have b:=f<|Ha (GU _ _) h;cases a with
  |nil=>simp at h
  |cons d a=>
   have e:=Gh h;have g:(d::a).take (k+1+1)=d::(a.take k++[(d::a)[k+1]]):=by
    have hk:k<a.length:=by simpa using h
    rw[Mr,JJ,Gh hk];rfl
   have c:(d::a).take (k+1)=d::a.take k:=Mr;rw[g,iO,<-c];simp only[argBest];rw[(jd e b)];split;show e;show b
theorem sx {X:Cx}{a:Tu}{U:St}{H:Hp}{s:C1}(f:DM X a U H s):∀{xs:TM}{ds:TL}{us:TQ}{i:Nat}{d:A2},Hg H xs ds->DS xs us->ds[i]?=J d->∃u c,us[i]?=J u/\Reads s.heap u d c
 |_,_,_,_,_,.nil,_,e=>by simp at e
 |_,_,_,i,d,.cons hx hs,.cons (b:=u) ru rs,e=>by
  cases i with|zero=>simp at e;subst e;have Wb c k:=hx.reads f ru;show#[u,c,Y,k]|succ i=>have Wh j c h g:=sx f hs rs (by simpa using e);show#[j,c,by simpa using h,g]
def Oq (a:TL):Prop:=∀x∈a,∀y∈a,(IH x y).isSome=I
theorem zc0 (hc:f.calm=I)(hu:f.A.units+70<cLine):yL f (.builtin "min") (λxs H Q=>∃(l:Ch) (c:TM) (a:TL),xs=[.ref l]/\H l=J (.lst c)/\Hg H c a/\a≠[]/\Oq a/\(∀d∈a,d.canLay0=I/\d.depth<=60)/\∀(i:Nat) (v:V),c[i]?=J v->a[i]?=J (Ie a)->Q v H):=by
 intro R s U H xs us Q e r h;have Wm l c a rfl hl F t:=h;have Wq ne T N q:=t;have Wa u rfl rx:=G6 r;cases rx;have We g n W hz:=e.list<|D3.of hl;have w:=n.length;have o:=F.length;have S:=List.length_pos_iff.mpr ne;show zb8 (bt:=qj a) (e.ok.hd hc) W.isList (by simp;show Gf S<|Gu<|Eq.trans o.symm w) ?_ λv h' tk M p=>?_;intro i j x y Z Q2 E2 P K p q2;have b:i<a.length:=by have:=(KN.mp P).1;simp at this;show Gf this<|Gu<|Eq.trans w.symm o
 have E:j<a.length:=by have:=(KN.mp K).1;simp at this;show Gf this<|Gu<|Eq.trans w.symm o
 have O:=Gh b;have G:=Gh E;have Wh u1 a3 m C:=sx e F n O;have Wh u2 a0 X g4:=sx e F n G;have e1:u1=x:=by have:=P;simp at this;rw[m]at this;show Hb this
 have e2:u2=y:=by have:=K;simp at this;rw[X]at this;show Hb this
 subst e1 e2;have Wb L k:=CC.mp<|T _ (Jf b) _<|Jf E;have B:=N _<|Jf b;show oJ a[i] a[j] f.A.in1 Z (by change f.A.units+1+_<cLine;lia) _ _ _ _ L (Reads.keeps p C) (Reads.keeps p g4) B.1 (N _<|Jf E).1 k _ _ _ _ ?_;have:qj a i j=L:=by rw[jd O G,k];rfl
 rw[<-this];show q2;have A:=zA1 a (a.length-1)<|qX S;have e3:g.toArray.size-1=a.length-1:=by simp;lia
 rw[e3]at M;rw[show a.length-1+1=a.length by omega,Jq]at A;have z:g[argBest (qj a) (a.length-1)]?=J v:=by simpa using M
 have b:argBest (qj a) (a.length-1)<c.length:=by have:=(Gm.mp A).1;show Gf this<|Gu o.symm
 have Wa u' m C:=n.get<|Gh b;rw[z]at m;cases m;show#[_,H,e.kept p,C,q _ _ (Gh b) A]
def zJ7 (z:f.calm=I)(A:f.A.units+70<cLine)(hg:Gl f "min")(G:f.mg "min"=D)(h:DP f n j λx=>∃b,x=.list b/\b≠[]/\Yk b=Za/\Oq b/\(∀d∈b,d.canLay0=I/\d.depth<=60)/\Q (Ie b))(g: ~~~Uo j [] f.env):
  DP f n (.Call (.Name "min" K) [j] [] y) Q:=by show wQ (zc0 z A) hg G boot_min (zd (h.imp λx c=>?_) g) (he:=g);have Wa b B e:=c;have Wn L M p w q:=e;show zm ?_;intro F U H N R m t k;subst B;have Wa v rfl u:=t.one;have Wd a xs rfl E o:=u.lst_inv;show#[0,a,xs,b,Y,(zf E).2,#[(o.dv M).same wX,L,p,w,λi v s r=>?_]];have Wa O l C:=o.get r;rw[s]at l;cases l;show k _ _ H q m.tp Kz.refl C
def oq :TN->Int
 |[]=>0
 |z::zs=>zs.foldl (λb x=>if b<x then x else b) z
def bU (d:Int)(a:TN)(x:Int):oq (d::(a++[x]))=if oq (d::a)<x then x else oq (d::a):=by change List.foldl _ d (a++[x])=_;rw[Mx];rfl
def M6 (a:TN)(i j:Nat):Bool:=decide<|a.getD i 0 > a.getD j 0
def zO9(a:i9[l]?=J L)(b:i9[N]?=J gi):M6 i9 l N=decide (gi<L):=by unfold M6;rw[HW,HW,a,b];rfl
def zB5 (a:TN):∀k,k<a.length->a[argBest (M6 a) k]?=J (oq (a.take (k+1))):=by
 intro k;induction k with
 |zero=>
  intro h;cases a with|nil=>simp at h|cons d ds=>simp[argBest,oq]
 |succ k g=>
  intro h;have b:=g<|Ha (GU _ _) h;cases a with
  |nil=>simp at h
  |cons d ds=>
   have e:=Gh h;have f:(d::ds).take (k+1+1)=d::(ds.take k++[(d::ds)[k+1]]):=by
    have hk:k<ds.length:=by simpa using h
    rw[Mr,JJ,Gh hk];rfl
   have c:(d::ds).take (k+1)=d::ds.take k:=Mr;rw[f,bU,<-c];simp only[argBest];rw[(zO9 e b)];by_cases z:oq ((d::ds).take<|k+1)<(d::ds)[k+1];rw[Hw z,Ur Y,Ur z];show e;rw[Hd z,Us (),Us z];show b
theorem bG (K:f.calm=I):yL f (.builtin "max") (λxs H Q=>∃(l:Ch) (a:TN),xs=[.ref l]/\H l=J (.lst (a.map V.int))/\a≠[]/\Q (.int (oq a)) H):=by
 intro E s U H xs S Q p r h;have Wj l a rfl N M q:=h;have Wa u rfl O:=G6 r;cases O;have We c B m T:=p.list<|D3.of N;have w:=B.length;rw[DZ]at w;have F:=List.length_pos_iff.mpr M;have d:l<s.heap.objs.size:=by have Wa _ j _:=m.isList;show Gd j
 have g:∀i v,c.toArray[i]?=J v->∃t,v=iS (a.getD i 0) t:=λi v n=>by
  have e:c[i]?=J v:=by simpa using n
  have x:i<(a.map V.int).length:=by rw[DZ,w];show(Gm.mp e).1
  have Wa W y C:=B.get<|Gh x;rw[e]at y;cases y;rw[List.getElem_map]at C;have Wb t rfl:=C;show#[t,?_];rw[DZ]at x;rw[HW,Gh x];rfl
 show call_max_walk (Kv m.isList #[s.heap.objs.size,[s.heap.objs.size,l],[s.heap.objs.size],#[2,_,_,_,M6 a,Y,Walks.list (A:=f.A.in1) (p.ok.hd K) s.heap.objs.size l (Gp d) c.toArray,#[#[_,GB _ Y,Y,Y],m.isList.push _],#[λb k=>?_,by simp;show Gf F<|Gu w,CmpOf.ints_gt (λi=>a.getD i 0) g,λv R P n G=>?_]]]);rw[IM];rcases D7.mp k with z|z;rw[z];show Ii _
 rw[GV.mp z];show JG d;have Wb t rfl:=g _ _ n;have k:=zB5 a (a.length-1)<|qX F;rw[show a.length-1+1=a.length by omega,Jq]at k;have L:c.toArray.size-1=a.length-1:=by simp;lia
 rw[L];show#[.int<|oq a,H,p.kept λb o j=>G b o (λz=>?_)<|D6 _ j,#[t,?_],q];rw[GV.mp z]at j;show Ut (Gd j)<|Ib _;rw[HW,k];rfl
def D2.intsV(h:D2 m dU (i9.map .int)):dU=i9.map V.int:=by
 induction i9 generalizing dU with
 |nil=>cases h;rfl
 |cons n ns b=>cases h with|cons h a=>rw[GW,b a,h.int_inv]
def zM1 (r:f.calm=I)(hg:Gl f "max")(s:f.mg "max"=D)(h:DP f n j λx=>∃b:TN,x=.list (b.map .int)/\b≠[]/\Q (.int (oq b)))(c: ~~~Uo j [] f.env):
  DP f n (.Call (.Name "max" K) [j] [] y) Q:=by show wQ (bG r) hg s boot_max (zd (h.imp λx d=>?_) c) (he:=c);have We b l t q:=d;show zm ?_;intro F U H u R m i k;subst l;have Wa v rfl o:=i.one;have Wd a xs rfl p g:=o.lst_inv;have e:=(zf p).2;rw[g.intsV]at e;show#[1,a,b,Y,e,t,k _ _ H q m.tp Kz.refl<|.int _]
def fF :typeLookup (.type "list_reverseiterator") "__len__"=pure D:=by rw[K9,KY];kernel_rfl
def zj2 :typeLookup (.type "list_reverseiterator") "__length_hint__"=pure (J (.builtin "list_reverseiterator.__length_hint__")):=by rw[K9,KY];kernel_rfl
def zj1(c:r.TypeIs (.ref i) "list_reverseiterator")(h:Bp Za r):C3 (C4 E s) d9 (hB (.ref i)) Bp i6 r:=by
 unfold hB;show DL<|K8 c fF<|DL<|K8 c zj2 ?_;generalize a:("list_reverseiterator.__length_hint__":String)=id0
 wp_delta
 rw[show splitId id0=J ("list_reverseiterator","__length_hint__")from by subst a;decide +kernel];subst a;show DL (LC (b:=I) c (by rw[isSubtype_type];kernel_rfl) ?_);show Hv (λq=>Ut q<|by decide) λ_=>Hv (λ_=>?_) λq=>Ut () q;show Hv (λq=>Ut q<|by symm) λ_=>DX h
def oE{A:Db}(T:A.handled=D)(H:x≠i)(F:r.heap.IsRevIter i x ((l7.size:Int)-1))(Q:r.heap.IsList x l7)(V:l7.size<=Zw)(R:∀G y u c,(∀b o,b≠i->r.heap.get? b=J o->G.get? b=J o)->G.get? r.heap.objs.size=J {cls:=.type "list",dict:=D,data:=.seq u c,slots:=[].toArray}->ItemsOf (λa0 v=>l7[l7.size-1-a0]?=J v) u l7.size->nU (.ref r.heap.objs.size) {r with heap:=G,toks:=y}):C3 (C4 E s) A (call (.type "list") [.ref i]) nU i6 r:=by
 show callType_codes (Q₁:=λw g=>w=.ref r.heap.objs.size/\g={r with heap:=r.heap.push {cls:=.type "list",data:=.seq [].toArray}}) PySem.F.called_list (PySem.F.typeCall_list_1 _) PySem.F.entry_list_init
  (code_list_new _ #[Y,Y]) λw g p=>?_
 have Wc rfl rfl:=p;generalize f:r.heap.objs.size=S at R ⊢;have B:(r.heap.push {cls:=.type "list",data:=.seq [].toArray}).get? S=J {cls:=.type "list",data:=.seq [].toArray}:=by rw[<-f];show GB _ Y
 have W:∀b o,r.heap.get? b=J o->(r.heap.push {cls:=.type "list",data:=.seq [].toArray}).get? b=J o:=λb o e=>D6 _ e;have P:i≠S:=by have Wa o e _:=id F;rw[<-f];show Gp<|Gd e
 have Z:x≠S:=by have Wa o e _:=id Q;rw[<-f];show Gp<|Gd e
 have m:∀{b:Ch} {o:Z7},r.heap.get? b=J o->b≠S:=λe=>by rw[<-f];show Gp<|Gd e
 have K:S∉[i,x]:=by simp only[D7,Gv,Gw,not_or];show#[Gx P,Gx Z]
 show#[#[_,B,Y],PySem.F.args_list_init_2 _ _,?_];change C3 _ _ (do let old <-hL (.ref S);hH (.ref S) (λ_=>[].toArray);letGo old.toList.reverse;eT (.ref S) (.ref i) .none) _ _ _;show DL ?_;unfold hL;show DL<|IP B Y<|DX<|DL<|Js B Y ?_;obtain⟨e2,k⟩:∃U,((r.heap.push {cls:=.type "list",data:=.seq [].toArray}).update S<|Z7.mapSeq λ_=>([].toArray:Uc)).get? S=J {cls:=.type "list",dict:=D,data:=.seq [].toArray U,slots:=[].toArray}:=#[_,Kd B λ_=>[].toArray];have j:∀b o,r.heap.get? b=J o->((r.heap.push {cls:=.type "list",data:=.seq [].toArray}).update S<|Z7.mapSeq λ_=>([].toArray:Uc)).get? b=J o:=
  λb o e=>(G4 _ _<|Gx<|m e).trans<|W b o e
 show DL<|JO ?_;have N:({r with heap:=(r.heap.push {cls:=.type "list",data:=.seq [].toArray}).update S<|Z7.mapSeq λ_=>([].toArray:Uc)}:C1).TypeIs (.ref i) "list_reverseiterator":=Heap.IsRevIter.typeIs<|F.at λo e=>j _ o e;unfold eT;show DL<|LN N ?_;have X:gM (.ref S) (.ref i)=Za:=by simp[gM];show Gx P
 have b2:(eI "list_reverseiterator" == eI "list")=Za:=by decide
 have b3:(eI "list_reverseiterator" == eI "tuple")=Za:=by decide
 simp only[X,b2,b3,Lc,IL,Ic];show DL<|wpAny_pyIter_revIter (F.at λo e=>j _ o e)<|DL<|Hx<|zj1 N ?_;have L:∀h d y,h.get? S=J {cls:=.type "list",dict:=D,data:=.seq [].toArray d,slots:=[].toArray}->(∀b o,r.heap.get? b=J o->h.get? b=J o)->ZH (C4 E s) A.in1 (.builtin "list.extend.loop" #[[.ref S,.ref i,.none],[]]) (wants (λv C=>v=.none/\nU (.ref S) C) i6) {r with heap:=h,toks:=y}:=by
  intro h d y M a;show codeAny_extend_loopS (Walks.listRev (A:=A.in1.in1) T i x H l7).toS V S K .none l7.size 0 _ [].toArray d Y (Gj _) #[Gj _,by simpa using F.at λo e=>a _ o e,Q.at λo e=>a _ o e] M (ItemsOf.nil _) λC n c' O l t=>?_;rw[Moved.eq_with O];show#[Y,R C.heap C.toks n c' (λb o hb e=>O.heap b o (λz=>?_)<|a b o e) l t];rcases D7.mp z with z|z;show m e z
  show hb<|GV.mp z
 show Hv (λq=>Ut q<|by decide) λ_=>DX #[Ji KR _,L _ _ _ k j]
def iG(hc:f.calm=I)(S:Gl f "list")(M:f.mg "list"=D)(hg:Gl f "reversed")(hm:f.mg "reversed"=D)(ha:PA f [j] k8)
  (A: ~~~(A3 [.Call (.Name "reversed" y) [j] [] k9] f.env=[(Za,eval (.Call (.Name "reversed" y) [j] [] k9) f.env)])) (hs: ~~~(A3 [j] f.env=[(Za,eval j f.env)])):
  PE f (.Call (.Name "list" K) [.Call (.Name "reversed" y) [j] [] k9] [] fC) (λU H j2=>k8 U H λvs k=>∃(l:Ch) (xs:TM),vs=[.ref l]/\D3 f.K k l xs/\∀m,k m=D->j2 (.ref m) (upd k m<|.lst xs.reverse)):=by
 intro e s U H j2 P h;show Call_<|xw P S M boot_list<|JA ?_ A Y;rw[A];show Lw<|Call_<|xw P hg hm boot_reversed<|JA (D1 (ha k9 e s U H _ P h) λus n O=>?_) hs Y;have Wd vs k r r1 q1:=O;have Wd l xs rfl hq q:=q1;have Wa u rfl ru:=DS.one r1;cases(ru);have We d X N hz:=r.list hq;have i:=X.length;have G:l<n.heap.objs.size:=by have Wa o w _:=N.isList;show Gd w
 show call_reversed_list N.isList<|Calls.spliced_nil ?_;generalize C:n.heap.objs.size=it;have T:DM f e U k {n with heap:=n.heap.push<|revObj l<|(d.toArray.size:Int)-1}:=r.kept λb o w=>D6 _ w;have fI:∀L,L it=D->xH f e L it:=λL W=>by rw[<-C]at W ⊢;show r.fpOk (D4 _) W
 have nI:k it=D:=by rw[<-C];show r.hok.fresh<|D4 _
 show oE (r.ok.hd hc) (by rw[<-C];show Gp G) (by rw[<-C];show#[_,GB _ Y,Y,Y]) (N.isList.push _) (by simp;show Gg (Gu i.symm) hz) λh' tk a gV kp w Z=>?_;generalize hD:({n with heap:=n.heap.push<|revObj l<|(d.toArray.size:Int)-1}:C1).heap.objs.size=m at w ⊢;have t:(n.heap.push<|revObj l<|(d.toArray.size:Int)-1).objs.size<=m:=by rw[<-hD];show D4 _
 show#[.ref m,upd k m<|.lst xs.reverse,?_,Y,q m<|T.hok.fresh t];show T.turnLay (ch:=[it]) (λb o Q w=>kp b o (by simpa using Q) w) (λb Q=>by rw[GV.mp Q];show fI k nI) t #[by rw[Jp];show hz,a.toList,gV,?_,by simpa using w];have R:∀{p:TM} {g:TQ},p.length=g.length->(∀(c:Nat) x,p[c]?=J x->∃u,g[c]?=J u/\DT x u)->DS p g:=by
  intro p;induction p with
  |nil=>intro g F _;cases g with|nil=>show .nil|cons _ _=>simp at F
  |cons x p ih=>
   intro g F h2;cases g with|nil=>simp at F|cons a0 g=>have Wa u z1 z2:=h2 0 x Y;simp at z1;subst z1;show .cons z2<|ih (by simpa using F) λc x' v=>by simpa using h2 (c+1) x' (by simpa using v)
 have B:a.size=xs.length:=by rw[Z.1];simp;show i.symm
 show R (by rw[Jp];show B.symm) λc x v=>?_;have E:c<xs.length:=by have:=(Gm.mp v).1;rwa [Jp]at this
 rw[Nq E]at v;have Wa u g1 g2:=X.get v;have z:d.toArray[d.toArray.size-1-c]?=J (a[c]'()):=Z.2 c (a[c]'()) (by simp[show c<a.size by omega]);show#[a[c]'(Gf E<|Gu B.symm),by simp[show c<a.size by show Gf E<|Gu B.symm],?_];have e1:d.toArray.size-1-c=xs.length-1-c:=by simp;omega
 rw[e1]at z;have z':d[xs.length-1-c]?=J (a[c]'(Gf E<|Gu B.symm)):=by simpa using z
 rw[g1]at z';rw[<-Hb z'];show g2
theorem D2.reverse(h:D2 m dU T):D2 m dU.reverse T.reverse:=by
 induction h using D2.ind with|nil=>show .nil|cons h _ a=>rw[K3,K3];show a.append<|.cons h .nil
def fR (w:f.calm=I)(d:Gl f "list")(e:f.mg "list"=D)(hg:Gl f "reversed")(z:f.mg "reversed"=D)(h:DP f n j λx=>∃a,x=.list a/\j2 a.reverse)
  (c: ~~~(A3 [.Call (.Name "reversed" y) [j] [] k9] f.env=[(Za,eval (.Call (.Name "reversed" y) [j] [] k9) f.env)])) (i: ~~~(A3 [j] f.env=[(Za,eval j f.env)])):
  FA f n (.Call (.Name "list" K) [.Call (.Name "reversed" y) [j] [] k9] [] fC) j2:=λF U H R m k=>by show#[_,iG w d e hg z (zo zh zI i) c i,h F U H _ m λx E B t g b A=>?_];have Wa a rfl q:=t;have Wd l xs rfl o u:=A.lst_inv;show#[l,xs,Y,D3.of (zf o).2,λC s=>?_];have Wf p v r:=(m.kz b g).lay s u.reverse;show k _ _ _ q p (b.trans v)<|r.back m b g
def kM(L:PassesOwn (C4 f.prog f.w) f.A f.env f.xe)(P:Nat->Uk)(w:Nat)(O:P w n)(G:∀g n,P g n->GX f n j λb=>if b=I then D0 f n i7 {nx:=λa=>∃c,c<g/\P c a,ct:=λa=>∃c,c<g/\P c a,bk:=λa=>D0 f a y8 h9,rt:=h9.rt}else D0 f n y8 h9):D0 f n (.While j i7 [] y::y8) h9:=λF U H A m r=>by
 show#[_,zt (zi6 L yK zC) zC,#[λg d v=>∃a,M F a d v/\P g a,#[w,n,m,O],?_]];rintro g d v ⟨a,z,C⟩;show G g a C F d v _ z λb x q E K=>?_;have B:=z.kz K E;cases b with|true=>rw[Ur Y]at q ⊢;show#[λh k=>∃c,c<g/\∃i,M F i h k/\P c i,λh k #[c,p,l]=>#[c,p,l],?_];show q F d x _ B #[λe σ2 s o t=>by have Wa c p l:=t;show#[c,p,#[e,o,l]],r.rt,λe σ2 s o N=>N F σ2 s A o r,λe σ2 s o u=>by have Wa c p l:=u;show#[c,p,#[e,o,l]]]|false=>rw[Us ()]at q ⊢;show q F d x A B r
def jg (Q:Ue):TL->Prop
 |[]=>True
 |d::r=>Q d/\jg Q r
theorem jg.mem {Q:Ue}:∀{a:TL},jg Q a->∀d∈a,Q d
 |[],_,d,h=>by cases h
 |x::r,h,d,hd=>by
  rcases D7.mp hd with rfl|hd;show h.1
  show jg.mem h.2 d hd
def zK1(a:vm dc=J T)(c:0<=L)(f:L<T.length)(h:jg Q T):∃T i d,vm dc=J T/\PyData.int L=.int i/\atI T i=J d/\Q d:=by have Wa d b e:=Q3 c f;show#[3,T,L,d,a,Y,e,h.mem d b]
def zj5(P:Ue)(a:vm dc=J T)(c:0<=L)(f:L<T.length)(h:jg P T)(k:∀d,P d->Q d):∃T i d,vm dc=J T/\PyData.int L=.int i/\atI T i=J d/\Q d:=by have Wa d b e:=Q3 c f;show#[3,T,L,d,a,Y,e,k d<|h.mem d b]
variable {AL BC:Prop}
def Ot(a:j8=I->AL)(b:j8=Za->BC):if j8=I then AL else BC:=by
 cases j8 with|true=>show a Y|false=>show b Y
def tj:PyData.eqv (.int L) (.int gi)=decide (L=gi):=by change(L == gi)=_;by_cases h:L=gi<;>simp[h]
def zF1 (i:Nat)(u:f.N.Nodup)(h:HY f n j λd=>∀S,D0 f (n.set i (J (.deep d S))) i7 h9)(B: ~~~(f.N[i]?=J p))(x:@&IT f.env.scope p)
  (E: ~~~(Z1 j (J<|.Name p K) y.line f.env=pure Za)) (hf:@&(f.fn p=I\/f.env.scope.names.lookup p=J .local)):D0 f n (.Assign [.Name p K] j y::i7) h9:=λF U H s m r=>by
 show#[_,zt (vE u B x zh E hf) zC,?_];show h F U H _ m λd v b t l e C=>?_;have G:=m.kz e l;show t (λa=>H a=D/\∃xs,b a=J (.lst xs)) F _ b s (m.store l e (λa z=>z.1) #[v,Y,C.same λa o z=>?_,λa z=>#[GL<|m.fresh z.1,m.fresh0 z.1,z.2]]) r;have Wc k c:=zf z;unfold tX;by_cases w:H a=D/\∃xs,b a=J (.lst xs);rw[Ur w];show c;rw[Us w];have g:sub (λp=>¬Ow F n U p/\¬Fc (J v) (A.deep d λa=>H a=D/\∃xs,b a=J (.lst xs)) p) b a=J o:=zr #[k.1,w] c;rw[g];cases o with
 |lst xs=>
  exfalso;cases q:H a with|none=>show w #[q,#[xs,c]]|some o'=>have:=e a o' q<|m.tp.nt<|GL k.1;rw[c]at this;cases this;show k.2 xs q
 |_=>rfl
def Rp :R2:=λx y H R=>MQ x y H R\/QC x y H R
def Rq :R2:=λx y H R=>MS x y H R\/QD x y H R
def fZ(e:f.A.units+64<cLine):GK f (Z5 .Eq) Rp:=λc s U H x y v u Q b d a h=>h.elim (λh=>Qj _ _ _ _ _ _ _ _ _ b d a h) λh=>QE e _ _ _ _ _ _ _ _ _ b d a h
def Rr(e:f.A.units+64<cLine):GK f (Z5 .NotEq) Rq:=λc s U H x y v u Q b d a h=>h.elim (λh=>yc7 _ _ _ _ _ _ _ _ _ b d a h) λh=>z03 e _ _ _ _ _ _ _ _ _ b d a h
def zK5:IE MS (.str p) (.str H) (!decide (p=H)):=λc f d e R b a h=>by cases b.str_inv;cases a.str_inv;show#[Y,?_];rw[show decide (V.str p=V.str H)=decide (p=H) by simp];show h
def lO (x y:A2)(Q:Um):Prop:=∃k,IE Rp x y k/\IE Rq x y (!k)/\Q k
def rN(h:l6 (decide (L=gi))):lO (.int L) (.int gi) l6:=#[_,λp H b c R d a z=>.inl<|zG9 p H b c R d a z,λp H b c R d a z=>.inl<|zE4 p H b c R d a z,h]
def xi(h:l6 (decide (p=H))):lO (.str p) (.str H) l6:=#[_,λa f c d R e b z=>.inl<|cR a f c d R e b z,λa f c d R e b z=>.inl<|zK5 a f c d R e b z,h]
def Ip(c:Yf dc=I)(f:Yf y4=I)(e:dc.hasDict=Za)(d:y4.hasDict=Za)(h:l6 (PyData.eqv dc y4)):lO dc y4 l6:=
 #[_,λp H g i R b a z=>.inr #[4,dc,y4,(b.dv e).same wX,(a.dv d).same wX,c,f,z],λp H g i R b a z=>.inr #[4,dc,y4,(b.dv e).same wX,(a.dv d).same wX,c,f,z],h]
def lG (c:f.A.units+64<cLine)(h:DP f n j λx=>DP f n w λb=>lO x b λk=>Q (.bool k)):DP f n (.Compare j [.Eq] [w] y) Q:=z68 (fZ c) (yN _) (h.imp λx h=>h.imp λb a=>by have We k e _ q:=a;show#[k,e,q])
def xN (c:f.A.units+64<cLine)(h:DP f n j λx=>DP f n w λb=>lO x b l6):GX f n (.Compare j [.Eq] [w] y) l6:=vY (fZ c) (yN _) (h.imp λx h=>h.imp λb a=>by have We k e _ q:=a;show#[k,e,q])
def sA (c:f.A.units+64<cLine)(h:DP f n j λx=>DP f n w λb=>lO x b λk=>l6 (!k)):GX f n (.Compare j [.NotEq] [w] y) l6:=vY (Rr c) (yN _) (h.imp λx h=>h.imp λb a=>by have We k _ e q:=a;show#[!k,e,q])
def pj(e:j8=I)(h:AL):if j8=I then AL else BC:=by rw[Ur e];show h
def sT(e:j8=Za)(h:BC):if j8=I then AL else BC:=by rw[Us (by rw[e];decide)];show h
def yv(e:j8=I)(h:D0 f n i7 h9):D0 f n (if j8=I then i7 else y8) h9:=by rw[Ur e];show h
def yc(e:j8=Za)(h:D0 f n y8 h9):D0 f n (if j8=I then i7 else y8) h9:=by rw[Us (by rw[e];decide)];show h
def ym5 :R2:=λx y H Q=>∃a v,x=.ref a/\nL H a y (J v)/\Q v H
def zP2 (k:f.A.units+1<cLine):Jv f ym5:=λb a d s U H x y v u Q c l e h n=>by have Wd j z rfl g q:=h;cases l;show tail_any (jl c g) PySem.F.slot_dict_getitem.lookup (zd7 k c g e λo p m i=>#[z,H,m,i,q]) n
def iz (x y:A2)(Q:Ue):Prop:=(∃a i d,vm x=J a/\y=.int i/\atI a i=J d/\Q d)\/∃a k d,x=xf a/\y=wm k/\wW a k=J d/\Q d
def GR(a:vm dc=J T)(b:y4=.int L)(c:atI T L=J EJ)(h:Q EJ):iz dc y4 Q:=.inl #[3,T,L,EJ,a,b,c,h]
def yh5(h:Q dc):iz (.tuple (dc::T)) (.int 0) Q:=GR Y Y (uj Y) h
def ue(a:y4=wm AM)(b:wW p7 AM=J dc)(h:Q dc):iz (xf p7) y4 Q:=.inr #[3,p7,AM,dc,Y,a,b,h]
def nW(a:vm dc=J T)(b:0<=L)(c:L<T.length)(h:jg Q T):iz dc (.int L) Q:=.inl<|zK1 a b c h
def uF(P:Ue)(a:vm dc=J T)(b:0<=L)(c:L<T.length)(h:jg P T)(k:∀d,P d->Q d):iz dc (.int L) Q:=.inl<|zj5 P a b c h k
def zN (A:f.A.units+1<cLine)(B:rT w)(h:DP f n j λx=>DP f n w λr=>iz x r Q):DP f n (.Subscript j w y) Q:=by
 show qF (vV (z89.or<|zP2 A) zh zh B) (λ_ _ _=>Iff.rfl)<|h.imp λx h=>h.imp λr h=>?_;intro F U H G K R m p s k;rcases h with⟨ds,i,d,e1,rfl,b,hq⟩|⟨ds,t,d,rfl,rfl,a,hq⟩;cases s.int_inv;cases x with|list c=>cases e1;have Wd j xs rfl l g:=p.lst_inv;have Wa v a e:=g.atI b;show .inl (.inl #[7,j,xs,i,v,Y,Y,D3.of (zf l).2,a,k d v H hq m.tp Kz.refl e])|tuple c=>cases e1;have Wd j xs rfl l g:=p.tup_inv;have Wa v a e:=g.atI b;show .inl (.inr<|.inl #[7,j,xs,i,v,Y,Y,HM.of (zf l).2,a,k d v H hq m.tp Kz.refl e])|_=>cases e1
 have Wr j o q rfl u E:=p.dk_inv;have Wa v C z:=E.get a;cases tS s;show .inr #[j,v,Y,.inl #[q,t,.inr #[o,(zf u).2],Y,C.symm],k d v H hq m.tp Kz.refl z]
def M7 (K:Cl)(b:Bool):R2:=λx y H Q=>LS K b x y H Q\/∃a o,y=.ref a/\nL H a x o/\Q (.bl<|if b then !o.isSome else o.isSome) H
def z60 (e:f.A.units+1<cLine):GK f (Z5 .In) (M7 f.K Za):=λa s U H x y v u Q c d b h=>by
 rcases h with h|⟨j,o,rfl,g,q⟩;show aG a s U H x y v u Q c d b h
 cases b;show yo2 e c g d λk i=>#[.bl o.isSome,H,i,Y,q]
def aE (e:f.A.units+1<cLine):GK f (Z5 .NotIn) (M7 f.K I):=λa s U H x y v u Q c d b h=>by
 rcases h with h|⟨j,o,rfl,g,q⟩;show lR a s U H x y v u Q c d b h
 cases b;show zH8 e c g d λk i=>#[.bl<|!o.isSome,H,i,Y,q]
def aV (X:Cx)(x y:A2)(Q:Um):Prop:=∃k,IE (M7 X.K Za) x y k/\IE (M7 X.K I) x y (!k)/\Q k
def M8(e:wV dc=I)(g:T.all wV=I)(q:l6 (IX dc T)):aV f dc (.list T) l6:=
 #[_,λp H b c R d a h=>.inl<|Q8 e g p H b c R d a h,λp H b c R d a h=>.inl<|Q8 e g p H b c R d a h,q]
def yp1(e:wV dc=I)(g:T.all wV=I)(q:l6 (IX dc T)):aV f dc (.tuple T) l6:=
 #[_,λp H b c R d a h=>.inl<|cQ (X:=f) (neg:=Za) e g p H b c R d a h,λp H b c R d a h=>.inl<|cQ (X:=f) (neg:=I) e g p H b c R d a h,q]
def kU{k:D8}(e:dc=wm k)(q:l6 (wW p7 k).isSome):aV f dc (xf p7) l6:=by
 subst e;have g:∀p H b c,AV (sub p H) b (wm k)->AV (sub p H) c (xf p7)->∃a o,c=.ref a/\nL H a b o/\o.isSome=(wW p7 k).isSome:=λp H b c i d=>by have Wr a o n rfl r s:=d.dk_inv;cases tS i;show#[a,_,Y,.inl #[n,k,.inr #[o,(zf r).2],Y,Y],s.some_iff k]
 show#[_,λp H b c R i d h=>?_,λp H b c R i d h=>?_,q];have Wd a o j m l:=g p H b c i d;show .inr #[a,o,j,m,by rw[Us (),l];show h];have Wd a o j m l:=g p H b c i d;show .inr #[a,o,j,m,by rw[Ur Y,l];show h]
def fL (d:f.A.units+1<cLine)(h:DP f n j λx=>DP f n w λb=>aV f x b l6)(c: ~~~(ZB .In w=Za)):GX f n (.Compare j [.In] [w] y) l6:=
 vY (z60 d) c (h.imp λx h=>h.imp λb a=>by have We k e _ q:=a;show#[k,e,q])
def mw (d:f.A.units+1<cLine)(h:DP f n j λx=>DP f n w λb=>aV f x b λk=>l6 (!k))(c: ~~~(ZB .NotIn w=Za)):GX f n (.Compare j [.NotIn] [w] y) l6:=
 vY (aE d) c (h.imp λx h=>h.imp λb a=>by have We k _ e q:=a;show#[!k,e,q])
theorem zH.few(h:zH l d9):d9.units+70<cLine:=by have:=h.un;lia
def zH.one(h:zH l d9):d9.units+1<cLine:=by have:=h.units;show ym2 this
def yD (a:GQ)(h:HN f n j w λb=>rh f a y8 i7 h9 b n)(g:f.N.Nodup:=by assumption)(d:PassesOwn (C4 f.prog f.w) f.A f.env f.xe:=by show LH)(c: ~~~(f.calm=I))
  (hg:PG f j (rF f.K a):=by first|show yq (by assumption) Y (Zc Y)|show yq (by assumption) Y (Zd Y)|show vc Y Y (by repeat (first|show uA|show xX (by first|show yq (by assumption) Y (Zc Y)|show yq (by assumption) Y<|Zd Y) ?_)))
  (e: ~~~(∀x,Zz w f.env x=pure x)):D0 f n (.For j w y8 [] y::i7) h9:=lC d c hg h e
def Hn (xs:De)(y:Zv×NameKind):Bool:=match y.2 with
 |.free=>match xs.names.lookup y.1 with
  |some .cell=>I
  |some .free=>I
  |_=>Za
 |_=>I
def tm(h:Eg.names.all (Hn e8)=I):∀y∈Eg.names,y.2=.free->e8.names.lookup y.1=J .cell\/e8.names.lookup y.1=J .free:=λy a j=>by
 have:=JL.mp h y a;unfold Hn at this;rw[j]at this;cases z:e8.names.lookup y.1 with
 |none=>rw[z]at this;cases this
 |some k=>rw[z]at this;cases k<;>first|show .inl Y|show .inr Y|cases this
def sC (N:TR)(a:TJ)(b:GQ)(h:HN f n j w λl=>l.length<=1000/\yM (λC e d g=>f.comp N e8 C e d g) b O gV (ym a n) l [] j2)
  (m:‹N.Nodup›) (q: ~~~(e8.kind=.function)) (o:‹∀k∈e8.names,k.2≠.cell›) (p:‹∀k∈e8.names,k.2=.local->e8.names.lookup k.1=J .local›) (u: ~~~(e8.names.all (Hn f.env.scope)=I)) (s: ~~~(a.length=N.length))
  (t: ~~~(((a.zip N).all λK=>match K.1 with|none=>I|some v=>f.N[v]? == J K.2&&e8.names.lookup K.2 == J .free)=I)) (c: ~~~(b.free (ym a n)=I))
  (hg:@&(∀C e d g,N.Nodup->PG (f.comp N e8 C e d g) j (rF f.K b)))
  (r: ~~~(f.calm=I)) (z: ~~~(∀x,Zz w f.env x=pure x)):FA f n (.ListComp gV [#[j,w,O,0]] e8 y) j2:=QX r #[q,m,o,p,tm u,s,t] c (λC e d g=>hg C e d g m) h z
def qA (i:Nat)(N:TR)(a:TJ)(b:GQ)(h:HN f n j w λl=>l.length<=1000/\yM (λC e d g=>f.comp N e8 C e d g) b O gV (ym a n) l [] λl=>D0 f (n.set i (J (.own l))) i7 h9)
  (t:f.N.Nodup:=by assumption)
  (q:‹N.Nodup›) (u: ~~~(e8.kind=.function)) (r:‹∀m∈e8.names,m.2≠.cell›) (s:‹∀m∈e8.names,m.2=.local->e8.names.lookup m.1=J .local›) (B: ~~~(e8.names.all (Hn f.env.scope)=I)) (z: ~~~(a.length=N.length))
  (A: ~~~(((a.zip N).all λK=>match K.1 with|none=>I|some G=>f.N[G]? == J K.2&&e8.names.lookup K.2 == J .free)=I)) (c: ~~~(b.free (ym a n)=I))
  (hg:@&(∀C e d g,N.Nodup->PG (f.comp N e8 C e d g) j (rF f.K b)))
  (x: ~~~(f.calm=I))
  (E: ~~~(f.N[i]?=J p)) (v:@&IT f.env.scope p) (o: ~~~(Z1 (.ListComp gV [#[j,w,O,0]] e8 k9) (J<|.Name p fC) y.line f.env=pure I))
  (hf:@&(f.fn p=I\/f.env.scope.names.lookup p=J .local)) (F: ~~~(∀p,Zz w f.env p=pure p)):
  D0 f n (.Assign [.Name p fC] (.ListComp gV [#[j,w,O,0]] e8 k9) y::i7) h9:=QY i t x #[u,q,r,s,tm B,z,A] c (λC e d g=>hg C e d g q) h E v o hf F
section
variable {ZU:Ch->C1->Hp->TU->Cx}{pat:GQ}{ifs:T1}{elt:Dc}{α0:Ev}{ZO:Type}{ZS ZT:ZO->A2}{ZQ:List ZO}{acc:TL}{ZW:TL->Prop}
def tY (p:ZO->Bool)(ZT:ZO->A2)(i:∀x∈ZQ,∃a,pat.bind (ZS x) α0=J a/\(∀C c b f (ZW:Um),ZW (p x)->Li (ZU C c b f) a ifs ZW)/\(p x=I->∀C c b f (ZW:Ue),ZW (ZT x)->DP (ZU C c b f) a elt ZW))(g:ZW (acc++(ZQ.filter p).map ZT)):yM ZU pat ifs elt α0 (ZQ.map ZS) acc ZW:=by
 induction ZQ generalizing acc with
 |nil=>change ZW acc;simpa using g
 |cons d ds l=>
  have We a e k j:=i d GN;show#[a,e,λC c b f=>k C c b f _ ?_];have h:=λacc=>l (acc:=acc) λd g=>i d<|GH _ g;cases hp:p d with|true=>rw[Ur Y];show λC c b f=>j hp C c b f _<|h _ ?_;simpa[LB,hp]using g|false=>rw[Us ()];show h _ ?_;simpa[LB,hp]using g
def xp (ZT:ZO->A2)(i:∀x∈ZQ,∃a,pat.bind (ZS x) α0=J a/\∀C g e d (ZW:Ue),ZW (ZT x)->DP (ZU C g e d) a elt ZW)(f:ZW (acc++ZQ.map ZT)):yM ZU pat [] elt α0 (ZQ.map ZS) acc ZW:=
 tY (λ_=>I) ZT (λx b=>by have Wa a h c:=i x b;show#[a,h,λ_ _ _ _ _ k=>fw k,λ_=>c]) (by rw[List.filter_eq_self.mpr λ_ _=>Y];show f)
end
abbrev Gr :=Int×Int×Nat
abbrev TF:=List (Int×Gr)
abbrev Way :=Int×Int×Option Gr
def M9 (x y:Gr):Bool:=decide (x.1<y.1)||(decide (x.1=y.1)&&(decide (x.2.1<y.2.1)||(decide (x.2.1=y.2.1)&&decide (x.2.2<y.2.2))))
def IY (x y:Int×Gr):Bool:=decide (x.1<y.1)||(decide (x.1=y.1)&&M9 x.2 y.2)
def Ou :TF->Int×Gr
 |[]=>(0,0,0,0)
 |d::ds=>ds.foldl (λb x=>if IY x b=I then x else b) d
theorem yf4 {x y:Int×Gr}(h:IY x y=I):x.1<=y.1:=by unfold IY at h;simp only[KA,HG,JI]at h;lia
def yh6 {x y:Int×Gr}(h:¬IY x y=I):y.1<=x.1:=by unfold IY at h;simp only[KA,HG,JI,not_or]at h;show Int.not_lt.1 h.1
theorem Rt :∀(c:TF) (d:Int×Gr),(c.foldl (λb x=>if IY x b=I then x else b) d=d\/c.foldl (λb x=>if IY x b=I then x else b) d∈c)/\(c.foldl (λb x=>if IY x b=I then x else b) d).1<=d.1/\∀x∈c,(c.foldl (λb x=>if IY x b=I then x else b) d).1<=x.1
 |[],d=>#[.inl Y,Int.le_refl _,λx a=>by simp at a]
 |y::c,d=>by
  rw[List.foldl_cons];have Wf i f g:=Rt c<|if IY y d=I then y else d;by_cases h:IY y d=I;rw[Ur h]at i f g ⊢;have:=yf4 h;show#[.inr ?_,(Int.le_trans f this),λx a=>?_];rcases i with e|e;rw[e];show GN
  show GH _ e;rcases D7.mp a with rfl|a;show f
  show g x a;rw[Us h]at i f g ⊢;have:=yh6 h;show#[i.imp id λe=>GH _ e,f,λx a=>?_];rcases D7.mp a with rfl|a;show Int.le_trans f this
  show g x a
def zm3 {ds:TF}(h:ds≠[]):Ou ds∈ds:=by
 cases ds with
 |nil=>show Ut Y h
 |cons d ds=>
  rcases(Rt ds d).1 with e|e;change List.foldl _ d ds∈_;rw[e];show GN
  show GH _ e
def yY (W:List Way)(d:Int):Option (Int×Option Gr):=(W.find? λw=>decide<|w.1=d).map (·.2)
variable {BN:List Way}{CZ:Option Gr}
def Jd(h:yY BN L=J (gi,CZ)):(L,gi,CZ)∈BN:=by unfold yY at h;have Wa w hw e:=Hj.mp h;have a:=List.find?_some hw;rw[JI]at a;rw[show(L,gi,CZ)=w by rw[<-a,<-e]];show(Nh hw)
def Ov (W:List Way):TN:=W.map (·.2.1)
def lh (W:List Way)(a:Int)(d:Int):Int:=match yY W d with
 |some (x,_)=>x
 |none=>a
def oU (a:TL)(h:0<=L):cutD a (J L) D=a.drop L.toNat:=by
 have Wb n rfl:=Ni h;unfold cutD;rw[HT.mK,HT.tE,JY];rcases Nat.le_total n a.length with z|z;rw[MB z,Nm (by rw[Kb];show D4 _)]
 rw[Nat.min_eq_right z,List.drop_eq_nil_of_le (D4 _),List.drop_eq_nil_of_le z,List.take_nil]
theorem zp5 (a:TL):cutD a D (J (-1))=a.take (a.length-1):=by
 unfold cutD;rw[HT.tE];have:HT.sIx a.length a.length (J<|-1)=a.length-1:=by change(if(-1:Int)<0 then((-1:Int)+(a.length:Int)).toNat else min (-1:Int).toNat a.length)=_;rw[Ur ()];lia
 rw[this,List.drop_zero,Nat.sub_zero]
theorem zD2 (f:Int->Int)(c:Int)(n:Nat):L3 (cutD (((zJ c (n+1)).map f).map PyData.int) D (J (-1))) (cutD (((zJ c (n+1)).map f).map PyData.int) (J 1) D)=(zJ c n).map λd=>.tuple [.int (f d),.int (f (d+1))]:=by rw[zp5,oU _ ()];unfold L3;show List.ext_getElem? λj=>?_;rw[List.getElem?_zipWith];simp only[DZ,zB,List.getElem?_take,List.getElem?_drop,GD];by_cases h:j<n;rw[Ur (),xy (),xy h,show(1:Int).toNat+j=j+1 from by rw[Nat.add_comm];rfl,xy ()];change J _=J _;rw[show c+((j+1:Nat):Int)=c+j+1 by omega];rw[Us (),Ks (l:=zJ c n) (by rw[zB];show JK h)];rfl
def Ru (W:List Way):Int:=oq<|Ov W
def hW (W:List Way)(d:Int):Int:=lh W (Ru W) d
def zQ0(h:yY BN L=J (gi,CZ)):hW BN L=gi:=by unfold hW lh;rw[h]
def zH5(h:yY BN L=D):hW BN L=Ru BN:=by unfold hW lh;rw[h]
def wj (p:Gr):A2:=.tuple [.int p.1,.int p.2.1,.int p.2.2]
def Ox :Option Gr->A2
 |none=>.none
 |some p=>wj p
def rE (w:Way):A2×A2:=(.int w.1,.tuple [.int w.2.1,Ox w.2.2])
def uL (p:Int×Gr):A2:=.tuple [.int p.1,wj p.2]
theorem xJ (d:Int):∀W:List Way,wW (W.map rE) (.inl d)=(yY W d).map λp=>.tuple [.int p.1,Ox p.2]
 |[]=>rfl
 |w::W=>by rw[GW];unfold rE;rw[wW];unfold yY;rw[Jh];change(if decide (w.1=d)=I then _ else _)=_;by_cases h:w.1=d;rw[Hw h,Ur Y];rfl;rw[Hd h,Us ()];show xJ d W
def zz8(h:yY BN L=D):IG (BN.map rE) (.inl L) (.tuple [.int gi,Ox CZ])=(BN++[(L,gi,CZ)]).map rE:=by unfold IG;rw[xJ,h,DF,Us (),Ia];rfl
theorem zr4 (p q:Gr):PyData.eqv (wj p) (wj q)=decide (p=q):=by
 have#[a,b,n]:=p;have#[c,d,e]:=q;have:PyData.eqv (wj (a,b,n)) (wj (c,d,e))=(decide (a=c)&&(decide (b=d)&&(decide ((n:Int)=e)&&I))):=by rw[<-tj,<-tj,<-tj];rfl
 rw[this];by_cases h:a=c<;>by_cases f:b=d<;>by_cases g:n=e<;>simp[h,f,g]<;>lia
def zK4 (p q:Gr):IH (wj p) (wj q)=J (M9 p q):=by have#[a,b,n]:=p;have#[g,i,c]:=q;unfold wj IH;simp only[gB,tj,M9];by_cases f:a=g;subst f;by_cases d:b=i;subst d;by_cases e:(n:Int)=c;have:n=c:=(yo6 e);subst this;simp;simp only[decide_true,Il,Hd e,IL,Ic,IH,Int.lt_irrefl,decide_false,MI,LL];rw[show decide ((n:Int)<c)=decide (n<c) by by_cases h:n<c<;>simp[h]];simp only[decide_true,Il,Hd d,IL,Ic,IH,Int.lt_irrefl,decide_false,MI,LL,La,Lc];simp only[Hd f,IL,Ic,IH,La,Lc]
def Rv (p q:Int×Gr):IH (uL p) (uL q)=J (IY p q):=by have#[z,p]:=p;have#[y,q]:=q;unfold uL IH;simp only[gB,tj,IY,zr4];by_cases b:z=y;subst b;by_cases a:p=q;subst a;simp[M9];simp only[decide_true,Il,Hd a,IL,Ic,zK4,Int.lt_irrefl,decide_false,MI,LL];simp only[Hd b,IL,Ic,IH,La,Lc]
theorem zH3 :∀{a:TF},a≠[]->Ie (a.map uL)=uL (Ou a)
 |[],h=>Ut Y h
 |d::a,_=>by
  change List.foldl _ (uL d) (a.map uL)=uL (List.foldl _ d a);rename_i b;clear b;induction a generalizing d with|nil=>rfl|cons x a c=>rw[GW,List.foldl_cons,List.foldl_cons,Rv];change List.foldl _ (if IY x d=I then uL x else uL d) _=_;rw[<-c];split<;>rfl
def zm2 (b:TF):Oq (b.map uL):=λx a y c=>by have Wa p _ rfl:=Ik.mp a;have Wa q _ rfl:=Ik.mp c;rw[Rv];rfl
def zu4 (h:DP f n j λx=>DP f n w λb=>∃i a,x=.int i/\b=.int a/\(if decide (i<=a)=I then DP f n gV λz=>∃k,z=.int k/\Q (.bool (decide (a<=k)))else Q (.bool Za)))(c: ~~~(lastMarks [.LtE,.LtE] [w,gV]=Za)):DP f n (.Compare j [.LtE,.LtE] [w,gV] y) Q:=zy9 N1 N1 c h
def tQ(h:IntsAre g7 i9):DS (i9.map V.int) g7:=by
 induction h with|nil=>show .nil|cons n t _ a=>show .cons #[t,Y] a
def mE :yL f (.builtin "sorted") (λxs H Q=>∃(l:Ch) (e:TN),xs=[.ref l]/\H l=J (.lst (e.map V.int))/\e.length<64/\∀(g:Ch) (ys:TN),H g=D->ys.Perm e->ys.Pairwise (·<=·)->Q (.ref g) (upd H g (.lst (ys.map V.int)))):=by intro p s U H xs C Q i r h;have Wj l e rfl A c q:=h;have Wa u rfl B:=G6 r;cases B;have We a k v E:=i.list<|D3.of A;have n:=k.length;rw[DZ]at n;show sorted_ints (vs:=a) v.isList (Hz k) (Ha (Gu n.symm) c) λd b x t y=>?_;have Wb w z:=sortedAll_at s.heap a d;have m:s.heap.objs.size<=s.heap.objs.size+1:=HI _;show#[.ref<|s.heap.objs.size+1,_,i.laid (o:=.lst<|b.map V.int) (t':=s.toks) (λj o gV=>sortedAll_old gV) m #[?_,d.toList,w,tQ x,by simpa using z],Y,q _ b (i.hok.fresh m) t y];rw[DZ,t.length_eq,Hf];show fh c
def qU(hg:Gl f "sorted")(G:f.mg "sorted"=D)(h:DP f n j λx=>∃b:TN,x=.list (b.map .int)/\b.length<64/\∀a:TN,a.Perm b->a.Pairwise (·<=·)->j2 (a.map .int))(d: ~~~Uo j [] f.env):
  FA f n (.Call (.Name "sorted" K) [j] [] y) j2:=λF U H R m k=>by
 show#[_,wt mE hg G boot_sorted (zo zh zI d) (he:=d),?_];show h F U H _ m λx O z B p c M=>?_;have We b rfl e q:=B;have L:=m.kz c p;have Wd l xs rfl E A:=M.lst_inv;have o:=(zf E).2;rw[A.intsV]at o;show#[1,l,b,Y,o,e,λN a g i r=>?_];have u:D2 (Gz F n U z) (a.map V.int) (a.map .int):=by
  clear i r;induction a with|nil=>show .nil|cons t a w=>show .cons (.int t) w
 have Wf s C v:=L.lay g u;show k _ _ _ (q a i r) s (c.trans C)<|v.back m c p
abbrev kW (X:Cx)(P:C5)(w:C6)(K:Cl)(b:Tt)(a:C7):Prop:=X.prog=P/\X.w=w/\X.K=K/\X.mg=b/\X.base=a
def zK0 (e:DY E s q C v p l k7)(d:kW f E s q C v)(g:zH l f.A)(hg:Gl f p)(h:G7 f n (j::O) λk=>k7 k λa=>Q a.d)
  (c:‹Yl p›) (i: ~~~Uo j O f.env) (b: ~~~Uq y O f.env):DP f n (.Call (.Name p K) (j::O) [] y) Q:=by have Wn rfl rfl rfl rfl rfl:=d;show wH e g hg h c i b
def zN2(g:DY E s q C v p l k7)(e:kW f E s q C v)(i:zH l f.A)(hg:Gl f p)(h:G7 f n (j::O) λm=>k7 m λa=>∃d,a=.own d/\j2 d)
  (c:‹Yl p›) (k: ~~~Uo j O f.env) (b: ~~~Uq y O f.env):FA f n (.Call (.Name p K) (j::O) [] y) j2:=by have Wn rfl rfl rfl rfl rfl:=e;show wK g i hg h c k b
def zf1 (e:vS E s q C v p l [] k7)(d:kW f E s q C v)(g:zH (l+1) f.A)(hg:Gl f p)(h:G7 f n (j::O) λk=>k7 k λa=>Q a.d)
  (c:‹Yl p›) (i: ~~~Uo j O f.env) (b: ~~~Uq y O f.env):HY f n (.Call (.Name p K) (j::O) [] y) Q:=by have Wn rfl rfl rfl rfl rfl:=d;show dh e g hg h c i b
def zl9{b:Cx} (k:xm E s q C v i H l k7)(g:kW b E s q C v)(m:zH l b.A)(h:DP b n w λp=>∃d,p=wO i d/\yn d H=D/\G7 b n (j::O) λr=>k7 (.dat (wO i d)::r) λa=>Q a.d)
  (e: ~~~Uo j O b.env) (c: ~~~Uq y O b.env)
  (o: ~~~(eval (.Call (.Attribute w H K) (j::O) [] y) b.env=(do
   let ov <-eval w b.env
   Z8 K.atName
   let(f,first) <-Z9 [ov] (Z6 ov H AB)
   ZA y f first (Zx y<|A3 (j::O) b.env) (Z4 y<|Zy [] b.env)))):DP b n (.Call (.Attribute w H K) (j::O) [] y) Q:=by have Wn rfl rfl rfl rfl rfl:=g;show rG k m h e c o
def zc6{b:Cx} (e:xm E s q C v i H l k7)(d:kW b E s q C v)(g:zH l b.A)(h:DP b n j λp=>∃c,p=wO i c/\yn c H=D/\k7 [.dat (wO i c)] λa=>Q a.d)
  (k: ~~~(eval (.Call (.Attribute j H K) [] [] y) b.env=(do
   let ov <-eval j b.env
   Z8 K.atName
   let(f,first) <-Z9 [ov] (Z6 ov H AB)
   ZA y f first (Zx y<|A3 [] b.env) (Z4 y<|Zy [] b.env)))):DP b n (.Call (.Attribute j H K) [] [] y) Q:=by have Wn rfl rfl rfl rfl rfl:=d;show qv e g h k
structure Moved (fs:TU)(e:Ch)(ts:TU)(h h':C7):Prop where
 keep:∀b o,b≠e->b∉ts->b∉fs->h.get? b=J o->h'.get? b=J o
 slot:∀b o,b∈fs->h.get? b=J o->∃sl,h'.get? b=J {o with slots:=sl}
 exc:∀o vs,h.get? e=J o->o.data=.fields vs->∃o' vs',h'.get? e=J o'/\o'.cls=o.cls/\o'.dict=o.dict/\o'.data=.fields vs'
 there:∀b o,h.get? b=J o->∃o',h'.get? b=J o'
def IZ (h a:C7)(e T:Ch)(g:Bs):Prop:=
 ∃c d b f,h.get? e=J c/\c.data=.fields d/\d[1]?=J (.ref T)/\T≠e/\a.get? T=D/\h.get? T=J b/\b.data=.fields f/\f[3]?=J g
def Rw (h a:C7)(e:Ch)(b:TU):Prop:=
 (b=[]/\∃d c,h.get? e=J d/\d.data=.fields c/\c[1]?=J .none)\/∃T,b=[T]/\IZ h a e T .none
def rW(a:Au.FunFrames v x6)(b:i∈Hc x6):v.get? i=D/\∃o,Au.get? i=J o/\∀c,o.data≠.fields c:=a.mem b
def ux (o:Z7)(f:Uc->Uc):(o.mapFields f).cls=o.cls/\(o.mapFields f).dict=o.dict:=by have#[c,d,a,b]:=o;cases a<;>show#[Y,Y]
variable {CG:Uc->Uc}
def oZ(e:v.get? x=J j7)(c:j7.data=.fields l7)(f:∀b∈l8,b≠x):Moved l8 i [x] v (v.update x (Z7.mapFields CG)) where
 keep:=λb o _ a _ q=>by rw[G4 _ _ (λz=>a<|by rw[<-z];show GV.mpr Y)];show q
 slot:=λb o a q=>#[o.slots,by rw[G4 _ _ (Gx<|f b a)];show q]
 exc:=λo g q d=>by by_cases z:x=i;subst z;rw[e]at q;cases q;show#[1,_,_,IJ _ e<|Lr<|K2 c _,(ux _ _).1,(ux _ _).2,K2 c _];show#[1,o,g,by rw[G4 _ _ z];show q,Y,Y,d]
 there:=λb o q=>by by_cases z:x=b;subst z;show#[_,IJ _ e<|Lr<|K2 c _];show#[o,by rw[G4 _ _ z];show q]
def zE5{l:TZ}(w:r.heap.FunFrames v l)(hk:v.StaysIn r.heap)(F:IZ r.heap v i x f9)(h:∀d,Moved (Hc l) i [x] r.heap d->IZ d v i x (w5.elim .none λf=>ZI f)->d.FunFrames v l->v.StaysIn d->d.objs.size=r.heap.objs.size->y7 Unit.unit {r with heap:=d}):C3 AG d9 (setFlight (.ref i) w5) y7 i6 r:=by have Wo E B G C t s u j p k:=F;have Wf g a A:=k;have e:3<C.size:=(KN.mp A).1;unfold setFlight;show DL<|Iy t s u ?_;rw[Ur (show(Zf x != eH)=I from by simp)];show wpAny_setField g a e (h _ (oZ g a λb c z=>?_) ?_ ?_ ?_<|by simp);have Wc _ n:=rW w c;have Wa o y m:=n;rw[z,g]at y;cases y;show m _ a;show#[2,E,B,_,_,by rw[G4 _ _ j];show t,s,u,#[j,p,IJ _ g<|Lr<|K2 a _,K2 a _,by simp[e]]];show w.of_keeps λb o c m=>#[o,?_,Y];rw[G4 _ _ (λz=>by subst z;rw[g]at c;cases c;show m _ a)];show c;intro b o q;rw[G4 _ _ (λz=>by subst z;rw[p]at q;cases q)];show hk b o q
def Rx{s:C1}
  (U:d9.frames=J (q0::x6)) (H:s.heap.FunFrames v (q0::x6)) (hf:q0.frame=J i) (G:s.heap.get? x=J j7) (O:v.StaysIn s.heap) (L:v.get? x=D) (F:j7.data=.fields l7) (C:1<l7.size)
  (h:∀y T,Moved (Hc (q0::x6)) x [] s.heap y->s.heap.objs.size<=T->IZ y v x T (ZI i)->y.FunFrames v (q0::x6)->v.StaysIn y->y7 Unit.unit {s with heap:=y}):
  C3 AG d9 (do let a <-frameOf q0;let u <-entryPlaceOf i j8;let b <-EntryCells.newEntry f9 a .none (ZI i) .none u;setField (.ref x) 1 b) y7 i6 s:=by
 have p:x∉Hc (q0::x6):=λN=>by have Wc _ P:=rW H N;have Wa o E M:=P;rw[G]at E;injection E with E;subst E;show M l7 F
 show DL<|wpAny_frameOf_fun U H hf λc e=>?_;show DL<|wpAny_entryPlaceOf λu R=>?_;unfold EntryCells.newEntry newFields;show DL<|JH ?_<|R.sizeOk5 _ _ _ _ _;have k:c.get? x=J j7:=(e.2.1 x p).trans G;have m:v.StaysIn c:=λb o t=>(e.2.1 b λN=>by rw[(rW H N).1]at t;cases t).trans<|O b o t;generalize S:({cls:=.type "traceback",dict:=D,data:=.fields ([f9,.ref i,.none,ZI i,.none]++(if u.isEmpty then Zb 6 eH else u)).toArray}:Z7)=ob;have B:ob.data=.fields ([f9,.ref i,.none,ZI i,.none]++(if u.isEmpty then Zb 6 eH else u)).toArray:=by rw[<-S]
 have l:=D6 (h:=c) ob k;show wpAny_setField l F C ?_;have w:c.objs.size≠x:=Jj<|Gd k;have g:=K2 F (·.setIfInBounds 1 (Zf c.objs.size));have j:=IJ (Z7.mapFields (·.setIfInBounds 1 (Zf c.objs.size))) l<|Lr g;have r:((c.push ob).update x (Z7.mapFields (·.setIfInBounds 1 (Zf c.objs.size)))).get? c.objs.size=J ob:=
  (G4 (c.push ob) (Z7.mapFields (·.setIfInBounds 1 (Zf c.objs.size)))<|Gx w).trans (GB c<|Lr B)
 have f:∀b o,b≠x->c.get? b=J o->((c.push ob).update x (Z7.mapFields (·.setIfInBounds 1 (Zf c.objs.size)))).get? b=J o:=λb o Q n=>by rw[G4 _ _ (Gx Q)];show D6 _ n
 show h _ c.objs.size #[λb o n _ hf q=>f b o n<|(e.2.1 b hf).trans q,λb o n q=>?_,λo W q d=>?_,λb o q=>?_] (by rw[e.1];show D4 _) #[2,_,_,ob,_,j,g,by simp[C],#[w,m.fresh,r,B,by simp]] ?_ (λb o q=>f b o (λz=>by rw[z,L]at q;cases q)<|m b o q);have Wb K A:=e.2.2 b o q;show#[K,f b _ (λz=>p<|z▸n) A];rw[G]at q;cases q;show#[1,_,_,j,(ux _ _).1,(ux _ _).2,g];by_cases z:b=x;subst z;show#[_,j];have Wb K A:=e.2.2 b o q;show#[_,f b _ z A];show H.of_keeps λb o n V=>?_;have Wb K A:=e.2.2 b o n;show#[_,f b _ (λz=>by subst z;rw[G]at n;cases n;show V _ F) A,Y]
def yg9(g:d9.frames=J (q0::x6)) (K:r.heap.FunFrames v (q0::x6)) (hf:q0.frame=J i) (n:v.StaysIn r.heap) (j:v.get? x=D) (a0:Rw r.heap v x l8)(h:∀e T,Moved (Hc (q0::x6)) x l8 r.heap e->r.heap.objs.size<=T->IZ e v x T (ZI i)->e.FunFrames v (q0::x6)->v.StaysIn e->y7 Unit.unit {r with heap:=e}):C3 AG d9 (ZE (.ref x) q0) y7 i6 r:=by
 rcases a0 with⟨rfl,oe,vs,he,hd,m⟩|⟨T,rfl,oe,vs,oT,tv,he,hd,m,hne,hb,f,a,L⟩;unfold ZE;simp only[hf];show DL<|Iy he hd m ?_;rw[Us ()];show Rx g K hf he n j hd (KN.mp m).1 h
 unfold ZE;simp only[hf];show DL<|Iy he hd m ?_;rw[Ur (show(Zf T != eH)=I from by simp)];show DL<|Iy f a L ?_;rw[Us (show ¬((eH == ZI i)=I)from by simp[ZI])];show DL<|wpAny_setField f a (KN.mp L).1 ?_;have y:∀b∈Hc (q0::x6),b≠T:=λb c z=>by have Wc _ F:=rW K c;have Wa o O w:=F;rw[z,f]at O;cases O;show w _ a
 have p:Moved (Hc (q0::x6)) x [T] r.heap (r.heap.update T (Z7.mapFields (·.setIfInBounds 3 eH))):=oZ f a y;show Rx (s:={r with heap:=r.heap.update T (Z7.mapFields (·.setIfInBounds 3 eH))}) g ?_ hf (show(r.heap.update T (Z7.mapFields (·.setIfInBounds 3 eH))).get? x=J oe by rw[G4 _ _ hne];show he) ?_ j hd (KN.mp m).1 λe M t E Q S X=>?_;show K.of_keeps λb o c w=>#[o,?_,Y];rw[G4 _ _ (λz=>by subst z;rw[f]at c;cases c;show w _ a)];show c;intro b o q;change(r.heap.update T _).get? b=J o;rw[G4 _ _ (λz=>by subst z;rw[hb]at q;cases q)];show n b o q;show h e M #[λb o l q2 N q=>t.keep b o l () N<|p.keep b o l q2 N q,λb o l q=>?_,λo B q d=>?_,λb o q=>?_] (by have E:(r.heap.update T _).objs.size<=M:=E;simpa using E) Q S X;have Wb sl k:=p.slot b o l q;have Wb C G:=t.slot b _ l k;show#[C,G];have Wj A u k P R W:=p.exc o B q d;have Wj U H G V Z f2:=t.exc A u k W;show#[1,U,H,G,V.trans P,Z.trans R,f2];have Wb A k:=p.there b o q;show t.there b A k
def zB2(hf:q0.frame=J i)(j:IZ r.heap v x R (ZI i))(h:y7 Unit.unit r):C3 AG d9 (ZE (.ref x) q0) y7 i6 r:=by have Wo m o l p f d k g n a:=j;have Wf e b c:=a;show wpAny_noteFrame_inFlight hf f d k e b c h
def GZ.moved (x:GZ E s m v)(j:Moved l8 i Az v Au)(h:∀b∈l8,m b=D)(g:∀b∈Az,m b=D)(e:∃C d,m i=J (Hl i C d)):GZ E s m Au:=λa o q=>by
 have Wg C d e:=e;by_cases z:a=i;subst z;rw[e]at q;cases q;have Wf k _ w:=x _ _ e;have#[o,B,K,y,A,L]:=k;have Wj t f l H G F:=j.exc o B K L;show#[#[1,t,f,l,H.trans y,G.trans A,F],#[t,l],w];have r:∀{b:Ch} {u:HO},m b=J u->b∉l8:=λ{b u} c q=>by rw[h b q]at c;cases c
 have p:∀{b:Ch} {u:HO},m b=J u->b∉Az:=λ{b u} c q=>by rw[g b q]at c;cases c
 show(x a o q).stay (λb u c n=>?_) (λ_ q=>q) λ_ _ q=>q;rcases c with rfl|c;show j.keep _ _ z (p q) (r q) n
 show j.keep _ _ (λz=>?_) (p c) (r c) n;rw[z,e]at c;cases c
def Ho (P:C5)(w:C6)(c:C7):JQ:=λb H s E e g=>∃a T f,e=.ref a/\g.os=s.os/\Yc g.gens/\Un (Hc b) [] H f s.heap g.heap/\GZ P w f g.heap/\(∃C d,f a=J (Hl a C d))/\f T=D/\s.heap.get? T=D/\IZ g.heap c a T .none/\E (.ref a) D f
inductive Fl (X:Cx)(H:Hp)(h:C7)(a:Ch):Prop where
 |new {oe:Z7}{vs:Uc}:h.get? a=J oe->oe.data=.fields vs->vs[1]?=J .none->Fl X H h a
 |old {T:Ch}:H T=D->X.s₀.heap.get? T=D->(∀p∈X.pn,p.1≠T)->IZ h X.base a T .none->Fl X H h a
 |here {T:Ch}:H T=D->X.s₀.heap.get? T=D->(∀p∈X.pn,p.1≠T)->IZ h X.base a T (ZI X.env.locals)->Fl X H h a
def XE (X:Cx)(R:Tn):To:=λe s=>∃U H a,e=.ref a/\DM X [] U H s/\(∃C d,H a=J (Hl a C d))/\Fl X H s.heap a/\R U a H
def DM.nopins (a:DM f cC B m r):DM f [] B m r:=a.pins_of λp b=>by cases b
def DM.basex (a:DM f cC B m r)(h:m i≠D):f.base.get? i=D:=by
 cases q:f.base.get? i with|none=>rfl|some o=>show Ut (a.bs i o q).2 h
theorem DM.moved(a:DM f cC B m r)(A:f.stack=f.env::f.outer)(s:Moved (Hc f.stack) i l8 r.heap v)(ha:∃C d,m i=J (Hl i C d))(j:∀T∈l8,m T=D/\f.s₀.heap.get? T=D/\(∀p∈f.pn++cC,p.1≠T)/\∃o E,r.heap.get? T=J o/\o.data=.fields E):DM f cC B m {r with heap:=v}:=by
 have t:m i≠D:=by have Wg C d z:=ha;rw[z];simp
 have hf:f.env.frame=J f.env.locals:=by
  rcases a.ok.stk with z|⟨_,z⟩;rw[A]at z;show Ut (Uu List.length z)<|by simp
  show z
 have H:∀b∈Hc f.stack,b=f.env.locals\/b∈f.fs:=λb h=>by
  rw[A]at h;unfold Hc at h;rw[List.filterMap_cons_some hf]at h;rcases D7.mp h with z|z;show .inl z
  show .inr z
 have W:∀{b:Ch} {o:Z7},r.heap.get? b=J o->(∀E,o.data≠.fields E)->b∉l8:=λ{b o} q n z=>by have Wq _ _ _ L:=j b z;have Wh o' E Z d:=L;rw[q]at Z;cases Z;show n E d
 have Wa mm hn hl:=id a.loc;have Wr oL es ep V Q R:=id hn;have P:∃G,v.get? f.env.locals=J {oL with slots:=G}:=s.slot _ _ (by rw[A];unfold Hc;rw[List.filterMap_cons_some hf];show GN) V;have O:v.Ns f.env.locals mm:=by have Wb G z:=P;show#[0,_,es,ep,z,Q,R]
 have g:∀{x:Zv} {c:Ch} {y:T8},f.env.cells.lookup x=J c->r.heap.IsCell c y->v.IsCell c y:=λ{x c y} e M=>by have Wa U w N:=M;by_cases z:c∈Hc f.stack;have Wb G z':=s.slot c U z w;show#[_,z',N];show#[U,s.keep c U (λz=>t<|z▸a.freeC x c e) (W w λE q=>by rw[N]at q;cases q) z w,N]
 have un:Un f.fs f.ex f.H₀ m f.s₀.heap v:=by
  have u:=a.base;have K:∀{b:Ch} {o:Z7},f.s₀.heap.get? b=J o->f.H₀ b=D->b∉f.ex->b≠i:=λ{b o} q n l z=>t<|z▸u.free b o q n l;have nt:∀{b:Ch} {o:Z7},f.s₀.heap.get? b=J o->b∉l8:=λ{b o} q z=>by rw[(j b z).2.1]at q;cases q
  have nl:∀{b:Ch} {o:Z7},f.s₀.heap.get? b=J o->b≠f.env.locals:=λ{b o} q=>Gp<|Gf (Gd q) a.ok.above;show#[λb o q n h l=>s.keep b o (K q n l) (nt q) (λz=>(H b z).elim (nl q) h)<|u.keep b o q n h l,λb o q n h l=>?_,u.free,λb o q l=>?_,u.tups,u.frzs,u.tbls];have Wb G F:=u.slot b o q n h l;by_cases z:b∈Hc f.stack;have Wb S X:=s.slot b _ z F;show#[S,X];show#[G,s.keep b _ (K q n l) (nt q) z F];have Wb o' F:=u.there b o q l;show s.there b o' F
 show#[a.ok,a.os,a.bare,un,#[mm,O,λa0 x y F X e3=>?_],λx c e=>?_,a.free,a.freeC,λp hp=>?_,a.hok.moved s a.stkFree (λb h=>(j b h).1) ha,a.len];have Wa u a3 q:=hl a0 x y F X e3;show#[u,a3,?_];rcases q with q|⟨k,c,e,z⟩;show .inl q
 show .inr #[k,c,e,g e z];have Wb y z:=a.cell x c e;show#[y,g e z];have Wn e n K nf d:=a.pin p hp;show#[s.keep _ _ (λz=>t<|z▸n) (λz=>(j _ z).2.2.1 p hp Y) (λz=>(H _ z).elim K nf) e,n,K,nf,d]
def Fl.beg (n:Fl f m r.heap i):(∃h,Rw r.heap f.base i h/\∀T∈h,m T=D/\f.s₀.heap.get? T=D/\(∀p∈f.pn,p.1≠T)/\∃o j,r.heap.get? T=J o/\o.data=.fields j)\/∃T,m T=D/\f.s₀.heap.get? T=D/\(∀p∈f.pn,p.1≠T)/\IZ r.heap f.base i T (ZI f.env.locals):=by
 cases n with|new d b c=>show .inl #[[],.inl #[Y,_,_,d,#[b,c]],λT a=>by cases a]|@old T d b c h4=>show .inl #[[T],.inr #[T,Y,h4],λq a=>?_];rw[GV]at a;subst a;have Wo _ _ l k _ _ _ _ _ e:=h4;have Wf a g _:=e;show#[d,b,#[c,l,k,a,g]]|@here T d b c h4=>show .inr #[T,d,b,c,h4]
def DM.stkf (b:DM f cC B m r)(a:f.stack=f.env::f.outer):f.env.frame=J f.env.locals:=by
 rcases b.ok.stk with z|⟨_,z⟩;rw[a]at z;show Ut (Uu List.length z)<|by simp
 show z
def DM.stays (a:DM f cC B m r):f.base.StaysIn r.heap:=a.bk
def DM.note(c:DM f [] B m r)(a:f.stack=f.env::f.outer)(l:∃C d,m i=J (Hl i C d))(G:Fl f m r.heap i)(h:∀e T,DM f [] B m {r with heap:=e}->m T=D->f.s₀.heap.get? T=D->(∀p∈f.pn,p.1≠T)->IZ e f.base i T (ZI f.env.locals)->y7 Unit.unit {r with heap:=e}):C3 AG f.A (ZE (.ref i) f.env) y7 i6 r:=by
 have g:m i≠D:=by have Wg C d z:=l;rw[z];simp
 have hf:=c.stkf a;rcases G.beg with⟨ts,F,u⟩|⟨T,x,q,s,n⟩;show yg9 (by rw[<-a];show c.ok.frames) (by rw[<-a];show c.stack) hf c.stays (c.basex g) F λe T E j v _ _=>?_;have w:DM f [] B m {r with heap:=e}:=c.moved a (by rw[a];show E) l λT A=>by have Wq t y H o:=u T A;show#[t,y,λp k=>H p (by simpa using k),o]
 show h e T w (c.hok.fresh j) (Mp<|Gg c.sz j) (λp k z=>?_) v;have:=Gd (c.pin p<|by simpa using k).1;rw[z]at this;show Ut this<|Nat.not_lt.mpr j;show zB2 hf n (by have:=h r.heap T c x q s n;show this)
def DM.flight{fo:Ua}(c:DM f cC B m r)(e:f.stack=f.env::f.outer)(w:∃C d,m i=J (Hl i C d))(t:m x=D)(n:f.s₀.heap.get? x=D)(o:∀p∈f.pn++cC,p.1≠x)(k:IZ r.heap f.base i x f9)(h:∀a,DM f cC B m {r with heap:=a}->IZ a f.base i x (fo.elim .none λu=>ZI u)->y7 Unit.unit {r with heap:=a}):C3 AG d9 (setFlight (.ref i) fo) y7 i6 r:=by show zE5 (l:=f.stack) c.stack c.stays k λa y s _ _ _=>h a (c.moved e y w λz b=>?_) s;rw[GV]at b;subst b;have Wo _ _ v q _ _ _ _ _ j:=k;have Wf b g _:=j;show#[t,n,#[o,v,q,b,g]]
variable {Ax:Tn}
def z35(a:f.stack=f.env::f.outer):PassesOwn (C4 f.prog f.w) f.A f.env (XE f Ax):=by rintro e r ⟨B,m,i,rfl,j,d,t,s⟩;show j.note a d t λz T u k g h l=>?_;have#[y,v,x,w,p,n,o,_]:=id l;change C3 _ _ _ _ _ _;show DL<|Iy p n o ?_;rw[Us ()];rw[j.stkf a];show u.flight a d k g (by simpa using h) l λq c b=>?_;show#[8,B,m,i,Y,c,d,.here k g h b,s]
def rV(j:f.ex=[])(d:DM f cC B m r)(h:Ho f.prog f.w f.base f.stack m r Ab f9 A6)(t:∀a c,Ab (.ref a) D c->Ax B a c):XE f Ax f9 A6:=by
 have Wu a T c rfl A hg u i g:=h;have Wn x v k n e:=g;have y:DM f cC B c A6:=d.call' (ch:=[]) A u i hg λb s=>by cases s
 show#[8,B,c,a,Y,y.nopins,x,.old v ?_ (λp w z=>?_) n,t a c e];cases q:f.s₀.heap.get? T with|none=>rfl|some o=>exfalso;have Wb C l:=d.base.there T o q (by rw[j];simp);rw[k]at l;cases l
 have:=(d.pin p<|Kt _ w).1;rw[z,k]at this;cases this
def Hr.wishx(h:Hr (f.wish i6) i7 Be)(k:∀e s,i6 e s->f.xe e s):Hr f i7 Be:=λa s U H b c hw=>
 Hk (h a s U H b (c.wish _) hw) (λ_ _ q=>q.unwish) λe s z=>k e s z
def eV(h:XE (yQ (Ho E s v) E s q C v S p e8 i f9 d9 x6 r m Ab) (λ_ a H=>Ab (.ref a) D H) m6 A6):(yQ (Ho E s v) E s q C v S p e8 i f9 d9 x6 r m Ab).xe m6 A6:=by have#[U,H,a,rfl,j,d,o,l]:=h;change C3 _ _ (leaving _ _) _ _ _;unfold leaving;show DL<|j.note Y d o λu T t f e g n=>?_;show t.flight (fo:=D) Y d f e (by simpa using g) n λk b c=>?_;show#[8,a,T,H,Y,b.os,b.bare,b.base,#[6,b.hok,d,f,e,c,l]]
def Gi.okX(F:Gi q p H g8 i e7)(x:zq S m9 (zb g8))(len:∀g d Q f,t9 g d Q f->g.length=m9.length)(j:∀(c:Bs) (A:Db) (b:TZ) (k:C1) (d:Hp) (g:TM) (Q:VK) (f:XK),zH l (A.deeper (Yb H (zb g8) k.heap.objs.size i c))->t9 g d Q f-> ∃t,Hr ((yQ (Ho E s v) E s q C v S H (zb g8) i c A b k d f).wish (XE (yQ (Ho E s v) E s q C v S H (zb g8) i c A b k d f) λ_ a d=>f (.ref a) D d)) (zA g8) t/\t {nx:=λ_ w=>Q .non w,rt:=Q} (start S g) d):zX E s q C v (Ho E s v) (l+1) i e7 m9 t9:=by have Wi P N kV m:=F.ex;have Wi K L O o:=m;have Wr c M y rfl u n:=o;show ji u n x len λA b k d g Q f G r=>?_;have Wa t h B:=j c A b k d g Q f G r;show#[t,h.wishx λe k z=>eV z,B]
abbrev vM (C t:Ch)(d:Ua):Z7:={cls:=.ref C,dict:=d,data:=.fields [.ref t,.none,.none,.none,.bool Za,.none].toArray}
def xI (h:C7)(C:Ch)(a:TQ):C7:=(h.push {cls:=.type "tuple",data:=.seq a.toArray}).push<|vM C h.objs.size D
variable {x5:Array GenState}{EA:Ub}{Ad:OsState}{Aa:Drawn}{EB:Fin->Uh}
theorem hJ (u:ZF Bb Cd Ez E3)(h:B8.contains (.type Bb)=I)(F:ZF q5 Ex Ey B8)(T:OwnTail v B8 w8)(m:v.get? i=J (ZL p H i x g7 w8 j8 S E1 Ba EA w5 u5 E5 E6 E7 E8 Cd)) (y:v.Ns x C) (A:C "__init__"=J (.ref R))(t:v.get? R=J j7) (n:j7.cls=.type "function")(G:C3 (C4 E s) d9 (call (.ref R) (.ref (v.objs.size+1)::A8)) (λr w=>r=.none/\EB (.done (.ret (.ref (v.objs.size+1)))) w) i6 #[xI v i A8,x5,Aa,l,Ad]) (f:A8.length<=Zw):C3 (C4 E s) d9 (Builtin.«type.__call__» #[.ref i::A8,[]]) EB i6 #[v,x5,Aa,l,Ad]:=by
 repeat (first|with_reducible show JZ m ?_|with_reducible show wpAny_madeBy_exc m ?_|wp_step)
 show codeAny_call_builtin_code (Ly _ u.quiet)<|wpAny_check_new_subU u h T m<|codeAny_exc_new_subU u h F T m ?_ f;change C3 _ _ _ _ _ #[xI v i A8,x5,Aa,l,Ad];have a:∀b o,v.get? b=J o->(xI v i A8).get? b=J o:=λb o e=>D6 _<|D6 _ e;have c:=a _ _ m;have d:=a _ _ t;have g:(xI v i A8).Ns x C:=let⟨o,es,ep,e,r⟩:=y;#[o,es,ep,a _ _ e,r];have j:(xI v i A8).get? (v.objs.size+1)=J (vM i v.objs.size D):=by unfold xI;heap_get
 have q:(Zf i::w8).contains (.ref i)=I:=by simp
 have k:=T.keeps a;unfold isInstance
 repeat (first|with_reducible show JZ j ?_|(with_reducible show wpAny_isSubtype_exc c ?_;rw[q])|wp_step)
 change C3 _ _ (typeLookup (.ref i) _) _ _ _;show wpAny_typeLookup_tail c g k F.mroIs F.init.lookup ?_;rw[A];show Hx<|DL ?_;unfold bindSpecial;show DL<|LN (T:="function") #[_,d,n] ?_;rw[Ur ()];show DX (DL (Hk G (λr w z=>?_) λ_ _ B=>B));have Wc rfl K:=z
 wp_walk
 show K
theorem yg2 (g:ZF Bb Cd Ez E3)(e:B8.contains (.type Bb)=I)(F:ZF q5 Ex Ey B8)(T:OwnTail v B8 w8)(b:v.get? i=J (ZL p H i x g7 w8 j8 S E1 Ba EA w5 u5 E5 E6 E7 E8 Cd)) (f:v.Ns x C) (h:C "__init__"=J (.ref R))(c:v.get? R=J j7) (d:j7.cls=.type "function")(j:C3 (C4 E s) (d9.under (.builtin "type.__call__" #[.ref i::A8,[]])) (call (.ref R) (.ref (v.objs.size+1)::A8)) (λr k=>r=.none/\nU (.ref (v.objs.size+1)) k) i6 #[xI v i A8,x5,Aa,l,Ad]) (a:A8.length<=Zw):C3 (C4 E s) d9 (call (.ref i) A8) nU i6 #[v,x5,Aa,l,Ad]:=by
 have n:=tc_lookup;have m:=tc_bind<|.ref i;have o:(#[v,x5,Aa,l,Ad]:C1).TypeIs (.ref i) "type":=#[_,b,Y];show IA<|MC ?_;change C3 _ _ (callAny (.ref i) _) _ _ _
 repeat (any_goals (first|assumption|with_reducible show JZ b ?_|wp_step))
 show#[Y,?_];show codeAny_call_builtin_at (Ly _<|by symm) entry_typeCall<|wpAny_check_type_call_sub b<|hJ g e F T b f h c d j a
variable {EM:Flow->Uh}
theorem z30{nm:Zv}{q:Zv}{C:Ch}{N:Ch}{bs:TQ}{bm:TQ}{hdct:Bool}{sn:TR}{sub:TQ}{ab:Bool}{col:Ub}{dd:Ua}{k0:T8}{k1:T8}{k2:T8}{k3:T8}{k5:T8}{newId:String}{x:Sem Bs}(b:bm.contains (.type "BaseException")=I)(i:d9.handled=D)(h:C3 AG d9 x (λv a=>∃e t d,v=.ref e/\a.heap.get? C=J (ZL nm q C N bs bm hdct sn sub ab col dd k0 k1 k2 k3 k5 newId)/\a.heap.get? e=J (vM C t d)/\i6 (.ref e) a) i6 r):C3 AG d9 (raiseStmt q0 (J x) D) EM i6 r:=by
 have f:(Zf C::bm).contains (.type "BaseException")=I:=by rw[List.contains_cons,b,DJ]
 unfold raiseStmt;show DL<|Hk h (λv a c=>?_) λ_ _ x=>x;have Wm e t d rfl g k j:=c;have#[m,x5,d,l,Ad]:=a
 repeat (first|with_reducible show JZ k ?_|with_reducible show JZ g ?_|(with_reducible show wpAny_isSubtype_exc g ?_;rw[f])|wp_step)
 show wpAny_raiseNew_none i j
open Builtin Builtin.ObjectAttr
def Jy :TQ:=[.type "ValueError",.type "Exception",.type "BaseException",.type "object"]
def xx (K:Frag)(C S:Ch)(a:T8):Bool:=match K.lookup C with
 |some ⟨.type "type",_,.cls cd,sl⟩=>(match sl.toList with
  |[_,_,_,_,J (.builtin n),_]=>cd.mro == .ref C::.ref S::Jy&&n == "ValueError.__new__"&&!cd.hasDel&&cd.hasDict&&tailIn K Jy (.ref S::Jy)&&nsOkIn K cd.ns&&nsIn K cd.ns "__init__" == J a
  |_=>Za)
 |_=>Za
variable {Ay:Frag}
def zp9(X:Ay.In v)(G:v.Ns i C)(e:nsIn Ay i p=J u5):C p=u5:=by
 cases u5 with|none=>show ns_none_of X G e|some u5=>have Wm o m j g a _ hf:=G;unfold nsIn at e;split at e;rename_i c d f l k q;have:=X _ _ q;rw[g]at this;cases this;cases a;split at e;rename_i h b;cases e;rw[<-hf];unfold nsFind findBy;rw[<-Dn,b];rfl;split at e<;>cases e;cases e
def yR(X:Ay.In v)(q:xx Ay i x u5=I):∃t u N r p sub s a o k f d h m C,v.get? i=J (ZL t u i N r (.ref x::Jy) I p sub s a o k f d h m "ValueError.__new__")/\v.Ns N C/\C "__init__"=u5/\OwnTail v Jy (.ref x::Jy)/\∃c,clsIn Ay i=J c/\c.hasDict=I/\c.mro=.ref i::.ref x::Jy/\Ay.lookup i=J (ZL t u i N r (.ref x::Jy) I p sub s a o k f d h m "ValueError.__new__"):=by
 unfold xx at q;split at q;rename_i o c A z;split at q;rename_i k f d h n m B;simp only[HG,Iz,Dv]at q;have Wc w g:=q;have#[#[#[#[#[E,F],b],j],L],e]:=w;have#[t,r,H,K,u,M,p,sub,s,a,G]:=c;dsimp only at E b e g j;subst E b F j;have y:A=[k,f,d,h,J (.builtin "ValueError.__new__"),m].toArray:=by have#[l]:=A;simp only at B;rw[B]
 subst y;have N:=Heap.Ns.of_isNs<|isNs_of_in X e;show#[t,u,K,r,p,sub,s,a,o,k,f,d,h,m,_,X _ _ z,N,zp9 X N g,tail_of_in X L,_,by unfold clsIn;rw[z],Y,Y,z];cases q;cases q
theorem gU(X:Ay.In v)(q:xx Ay i x u5=I)(g:v.get? R=J (vM i oa w5))(k:g7.length<=1000)(m:∀f j,(∀b o,b≠R->v.get? b=J o->f.get? b=J o)->f.get? R=J (vM i j w5)->nU .none #[f,x5,Aa,l,Ad]):C3 (C4 E s) d9 (call (.builtin "ValueError.__init__") (.ref R::g7)) nU i6 #[v,x5,Aa,l,Ad]:=by
 have Wi K L N a:=yR X q;have Wi t G sub d:=a;have Wi w p r e:=d;have Wi M u H c:=e;have#[y,P,C,n,A,O,T,_]:=c;have F:=KP;have B:g7.length<=Zw:=by rw[Hf];show Pz k
 show IA<|Lu F.init.plain F.initEntry<|wpAny_check_init_subU F T n g Y ?_;unfold Builtin.«BaseException.__init__»;wp_walk;show m _ v.objs.size (λb o h z=>?_) ?_;rw[G4 _ _ (Gx h)];show D6 _ z;rw[IJ _ (D6 _ g) Y];rfl
variable {Em:Option Z7}
def cx(e:v.get? x=J j7)(d:j7.cls=.ref i)(a:∃c,j7.data=.fields c)(b:match j7.dict,Em with
  |some w5,some o=>v.get? w5=J o
  |none,none=>True
  |_,_=>False):InstAt v x j7 i Em:=#[e,d,by have Wb c a:=a;unfold notCls;rw[a],b]
def yn1{a:C6}(X:Ay.In v)(q:xx Ay i x u5=I)(t:findIn Ay (.ref i) "__setattr__"=J (J (.builtin "object.__setattr__")))(H:findIn Ay (.ref i) p=J D)(j:v.get? R=J (vM i oa D))(Q:∀h u F,v.objs.size<=u->(∀b o,b≠R->v.get? b=J o->h.get? b=J o)->h.get? R=J (vM i oa (J u))->h.Ns1 u (λy=>if y=p then J f9 else D)->y7 Unit.unit #[h,x5,Aa,F,Ad]):C3 (C4 E a) d9 (setAttr (.ref R) p f9) y7 i6 #[v,x5,Aa,l,Ad]:=by
 have#[nm,qn,N,bs,W,sub,ab,K,S,k0,k1,Z,k3,k5,mN,hC,V,hi,T,U,e,g,d,_]:=yR X q;have r:InstAt v R (vM i oa D) i D:=cx j Y #[_,Y] trivial;show set_plain (s:=#[v,x5,Aa,l,Ad]) X r t ?_;have k:=PySem.F.store_object;have sub:Looks (C4 E a) v (isInstance (.ref R)<|.type "object") I:=r.type.andThen (looks_mroIn X<|by unfold mroIn;rw[e,K6,d]<;>rfl);show Lu k.slot.plain k.entry<|@check_slot (C4 E a) _ _ #[v,x5,Aa,l+1,Ad] "object.__setattr__" "object" "__setattr__" (.ref R) [.str p l,f9] [] _ k.kind k.split sub (k.args (.ref R) (.str p l) f9) ?_;have P:Looks (C4 E a) v (mroOf<|.ref i) (.ref i::.ref x::Jy):=d▸(looks_clsIn X e).andThen .now;rw[osa_eq,refuse_eq];show DL<|DL<|r.type.at<|DL<|P.at ?_;rw[refuseLoop_ref,refuseLoop_ref,show refuseLoop (.ref R) "__setattr__" Jy=pure Unit.unit from PySem.F.store_ValueError.passes _];show DX<|DL<|r.type.at<|DL<|(looks_findIn X H).at<|DL<|DX ?_;change C3 _ _ (storeInOwnDict (.ref R) (.ref i) (.str p l) p f9 Za) _ _ _;show DL<|DX<|DL<|DL<|JZ j<|DL<|(looks_clsIn X e).at ?_;rw[g];have c:(v.push {cls:=.type "dict",data:=.dict [].toArray}).get? R=J (vM i oa D):=D6 _ j;have n:R≠v.objs.size:=Gp<|Gd j;show DL<|wpAny_alloc'<|DL<|wpAny_update' c<|DX ?_;generalize f:((v.push {cls:=.type "dict",data:=.dict [].toArray}).update R λo=>{cls:=o.cls,dict:=J v.objs.size,data:=o.data,slots:=o.slots})=h1;have G:h1.get? v.objs.size=J {cls:=.type "dict",data:=.dict [].toArray}:=by rw[<-f];show(Heap.get?_update_ne _ _ _ _ n.symm).trans<|Heap.get?_push_at Y Y
 have A:h1.Ns v.objs.size (λ_=>D):=#[3,_,[].toArray,_,G,Y,λR j=>Ut j (),λ_=>Y];change C3 _ _ (storeInDict v.objs.size (.str p l) p f9) _ _ _;unfold storeInDict newKeyGuard;show DL<|DX<|DL<|wpAny_nsSet1 (Heap.Ns1.of_empty A) λh m t=>?_;have Wr oD M L C B w:=m.count<|Within.cons p f9 Within.nil;show DL (wpAny_lookBehind C (by rw[B];show pastItsLine_dict<|Gg w<|by rw[G3,KC,Hf];show MF (Gj _)<|D4 _) ?_);show DX<|Q h v.objs.size _ (D4 _) (λb o O z=>?_) ?_ m;show(t.2 b<|Gp<|Gd z).trans ?_;rw[<-f];show(Heap.get?_update_ne _ _ _ _ O).trans<|D6 _ z;show(t.2 R n).trans ?_;rw[<-f];show IJ _ c Y
structure XC (K:Frag)(C S:Ch)(init:T8):Prop where
 ok:xx K C S init=I
 sa:findIn K (.ref C) "__setattr__"=J (J<|.builtin "object.__setattr__")
 ga:findIn K (.ref C) "__getattribute__"=J (J<|.builtin "BaseException.__getattribute__")
 gt:findIn K (.ref C) "__getattr__"=J D
 cl:findIn K (.ref C) "__class__"=J (J<|.builtin "object.__class__")
 cg:specialIn K (.builtin "object.__class__") "__get__"=J (J<|.builtin "getset_descriptor.__get__")
 ct:takesIn K (.builtin "object.__class__")=J I
variable {Av:Tok}
def kK(X:Ay.In v)(c:XC Ay i x u5)(f:InstAt v R j7 i Em)
  (n:C3 (C4 E s) d9.in1 (Builtin.«object.__getattribute__» #[[.ref R,.str p Av],[]]) (λfin h=>match fin with|.done (.ret j)=>C3 (C4 E s) d9 (handedOut j) nU i6 h|_=>False) (λ_ _=>False) #[v,x5,Aa,l,Ad]):
  C3 (C4 E s) d9 (getAttrBy (.ref R) (.str p Av) j8 Ba) nU i6 #[v,x5,Aa,l,Ad]:=by
 have#[G,H,N,y,t,sub,B,k,o,K,A,u,C,M,F,L,r,w,T,q,b,e,a,_]:=yR X c.ok;have g:=PySem.F.attr_ValueError;unfold getAttrBy;show Hx<|DL<|f.type.at<|DL<|(looks_findIn X c.ga).at ?_;have d:(Di "BaseException.__getattribute__" == Di "object.__getattribute__")=Za:=by symm
 dsimp only;rw[d,CU,Us ()];have m:Looks (C4 E s) v (hookBefore<|.ref i) D:=looks_hook X (by rw[Ur (show onTheHeap (.ref i)=I from Y)];show c.gt);show DL<|m.at<|DL<|JN<|Hx ?_;unfold callGetattribute;rw[show(Ba&&onTheHeap (Di "BaseException.__getattribute__"))=Za from CU _,Us ()];unfold boundAndCalled;rw[g.ga.bind];show DL<|DX ?_;have sub:Looks (C4 E s) v (isInstance (.ref R)<|.type "BaseException") I:=f.type.andThen (looks_mroIn X<|by unfold mroIn;rw[b,K6,a]<;>rfl);change C3 _ _ (call (.builtin "BaseException.__getattribute__") [.ref R,.str p Av]) _ _ _;show IA (Lu g.ga.plain PySem.F.entry_bexc_ga<|@check_slot (C4 E s) _ _ #[v,x5,Aa,l,Ad] "BaseException.__getattribute__" "BaseException" "__getattribute__" (.ref R) [.str p Av] [] _ () () sub (PySem.F.args_bexc_ga (.ref R)<|.str p Av) ?_);show Hk n (λfin h z=>?_) λ_ _ z=>z.elim;rcases fin with(_|_|_|_)|_<;>first|show z|show z.elim
def yd5(X:Ay.In v)(c:XC Ay i x u5)(a:InstAt v R j7 i (J B7))(hf:findObj Ay i (J B7) p=J (.value f9))(b:handedIn f9=I)(d:nU f9 #[v,x5,Aa,l+1,Ad]):C3 (C4 E s) d9 (getAttr (.ref R) p j8) nU i6 #[v,x5,Aa,l,Ad]:=by unfold getAttr;show DL<|wpAny_mkText<|kK X c a ?_;unfold Builtin.«object.__getattribute__»;show DL<|DX<|DL<|DX<|DL<|a.type.at<|DL<|(looks_find X a hf).at<|DX ?_;change C3 _ _ (handedOut f9) _ _ _;rw[handedOut_of b];show DX d
def zZ2{a:C6}{ox:Z7}{od:Option Z7}(X:Ay.In v)(c:XC Ay i x u5)(e:InstAt v R ox i od)(h:Bf (J (.ref i)) #[v,x5,Aa,l+1,Ad]):C3 (C4 E a) d9 (getAttr? (.ref R) "__class__") Bf i6 #[v,x5,Aa,l,Ad]:=by
 have#[y,z,N,m,u,sub,o,j,k,B,n,w,p,F,t,C,r,A,T,q,d,f,b,_]:=yR X c.ok;have hf:findObj Ay i od "__class__"=J (.bind (.builtin "getset_descriptor.__get__")<|.builtin "object.__class__"):=by unfold findObj;rw[d,K6,c.cl,K6];dsimp only;rw[c.cg,K6];dsimp only;rw[c.ct];rfl
 unfold getAttr? getAttrBy?;show DL<|wpAny_mkText<|DL<|JN<|kK X c e ?_;unfold Builtin.«object.__getattribute__»;show DL<|DX<|DL<|DX<|DL<|e.type.at<|DL<|(looks_find X e hf).at ?_;change C3 _ _ (bindTo _ _ _ _) _ _ _;have g:mroIn Ay i (.type "object")=J I:=by unfold mroIn;rw[d,K6,b]<;>rfl
 show DL<|Hx<|IA<|class_get (s:=#[v,x5,Aa,l+1,Ad]) (ox:=ox) (od:=od) X e g<|DX<|handed_on Y<|DX h
def zm8(c:XC Ay i x u5):KitX Ay (.ref R) (.ref i) (λv=>InstAt v R j7 i Em) where
 ty:=λ_ _ _ b=>b.type
 it:=λ_ _ X _=>by have Wi G H N a:=yR X c.ok;have Wi A w sub g:=a;have Wi B e t m:=g;have Wi K C y o:=m;have Wl E L F p _:=o;intro O Q S P k q;unfold isType loadHead;show DL (wpAny_loadPart (k _ _ p)<|DX q)
 ne:=λv u t z n M X f=>by have Wi G H N h:=yR X c.ok;have Wi A w sub r:=h;have Wi B e t d:=r;have Wi K C y j:=d;have Wl E L F p _:=j;show Bool.eq_false_iff.mpr λq=>?_;have R:i=u:=Zf.inj<|Iz.mp q;subst R;cases(show Data.cls _=Data.seq _ _ from Uu Z7.data<|Hb<|p.symm.trans f)
 ca:=λ{_ _ _ _ _ s} X b k=>by have#[v,x5,Aa,l,Ad]:=s;show zZ2 X c b k
structure XB (K:Frag)(C B:Ch):Prop where
 ty:typeIn K (.ref B)=J (.type "type")
 be:mroIn K B (.type "BaseException")=J I
 sub:mroIn K C (.ref B)=J I
def ya1(X:Ay.In v)(b:XB Ay i R)(e:InstAt v x j7 i Em)(n:Bp I #[v,x5,Aa,l,Ad]):C3 (C4 E s) d9 (excMatches (.ref x) (.ref R)) Bp i6 #[v,x5,Aa,l,Ad]:=by
 have j:Looks (C4 E s) v (isType<|.ref R) I:=by have Wa r a _:=Option.bind_eq_some_iff.mp b.be;unfold clsIn at a;split at a;rename_i z t d f c;intro p w y u k q;unfold isType loadHead;show DL<|wpAny_loadPart (k _ _<|X _ _ c)<|DX q;cases a
 have m:Looks (C4 E s) v (isExcClass<|.ref R) I:=j.andThen (by rw[Ur Y];show looks_mroIn X b.be);have g:Looks (C4 E s) v (isInstance (.ref R)<|.type "tuple") Za:=(looks_typeIn X b.ty).andThen<|Looks.of_pure tc_notTuple;have o:=looks_mroIn (M:=C4 E s) X b.sub;have h:=e.type (M:=C4 E s);unfold excMatches;show DL<|g.at ?_;rw[Us ()];show DL<|DX ?_;simp only[LF,MG];show DL<|DL<|DL<|m.at<|DX<|DX<|DL<|h.at<|DL<|DL<|DL<|o.at<|DX<|DX<|DX n
def HR (a C:Ch)(d:Ua):HO:=.ext λh=>∃t,h.get? a=J (vM C t d)
def fG(e:v.get? i=J (vM x R w5)):yy E s m v i (HR i x w5):=#[#[R,e],#[_,e],λ_ _ a k=>by have Wb R e:=a;show#[R,k _ e]]
def DM.xat (a:DM f cC B m r)(e:m i=J (HR i x w5)):∃t,r.heap.get? i=J (vM x t w5):=(a.hok i _ e).1
def zp4(e:m i=J j4):upd m i j4=m:=by funext b;unfold upd;split;rename_i z;rw[z,e];rfl
def DM.xthaw{a:Ch} (c:DM f cC B m r)(e:m i=J (HR i a w5)):DM f cC B (upd m i (Hl i a w5)) r:=by have Wb t h:=c.xat e;have:=c.write (x:=i) (e:=i) (o:=Hl i a w5) (h':=r.heap) (t':=r.toks) (by rw[e];show True.intro) (.inl Y) (λ_ _ _ q=>q) #[_,h] #[#[1,_,_,h,Y,Y,Y],#[_,h],λ_ _ b k=>by have Wh o g j d:=b;show#[o,g,k _ j,d]];show this
def gJ(e:PE f j j3):PE f (.FormattedValue j (-1) D y) (λB m Q=>j3 B m λx a=>∃i:Int,x=.int i/\i.natAbs.log2<1920/\Q (.str (toString i)) a):=by intro cC r B m Q d h;show FormattedValue_plain<|D1 (e cC r B m _ d h) λu o=>Wd λx a n l b=>?_;have We i g k q:=b;subst g;have Wb t rfl:=(show ∃t,u=iS i t from l);show formatField_int_small k #[.str<|toString i,a,n.tok _,#[_,Y],q]
def tJ (t:TE)(k:Zv->TE):TE:=λB m Q=>t B m λx b=>∃a,x=.str a/\a.length<=10000/\k a B b Q
theorem kA(N:PE f j j3)(K:PE f w v9)(s:PE f gV BO):PE f (.JoinedStr [j,w,gV] y) (tJ j3 λx=>tJ v9 λg=>tJ BO λz=>λ_ m Q=>Q (.str (Zv.empty++x++g++z)) m):=by
 intro cC r B m Q o h;show PyProof.Rows.JoinedStr_many<|LJ<|D1 (N cC r B m _ o h) λu M=>Wd λx F E P d=>?_;have We a p lx L:=d;subst p;have Wb W rfl:=(show ∃t,u=CH a t from P);have S:Zv.empty.length=0:=Y;show#[by rw[IQ,Hf];lia,LJ<|D1 (K cC M B F _ E L) λu q #[g,n,k,H,b,O,T,G]=>?_];subst O;have Wb U rfl:=(show ∃t,u=CH b t from H);show#[by rw[IQ,IQ,Hf];lia,LJ<|D1 (s cC q B n _ k G) λu Z #[z,C,v,R,c,A,V,l]=>?_];subst A;have Wb X rfl:=(show ∃t,u=CH c t from R);have i:(Zv.empty++a++b++c).length<=Zw:=by rw[IQ,IQ,IQ,Hf];lia
 show#[i,joinParts_nil #[.str<|Zv.empty++a++b++c,C,v.tok _,#[_,Y],l] i]
theorem lu(h:L.natAbs.log2<1920):(Zv.ofString (toString L)).length<=10000:=by have e:=int_text_length_le (k:=1920) () h;rw[PySem.ofString_length];lia
structure XS (K:Cl)(S:Ch):Prop where
 rd:PySem.W.readsIn K S (.type "type")=I
 fi:PySem.W.findCls K (.ref S) (.type "type") "__init__"=J (.val<|.builtin "ValueError.__init__")
 ga:Ds K (.ref S) "__getattribute__"=J (J<|.builtin "type.__getattribute__")
theorem kJ{l:Cx}{C:Ch}{init:T8}(hg:Gl l p)(W:l.mg p=J (.ref i))(xs:XS l.K i)(c:xx l.K C i init=I)(Z:PA l (j::O) k8)(s:‹Yl p›)
  (z: ~~~Uo j O l.env) (E: ~~~Uq y O l.env)
  (ht: ~~~(eval (.Call (.Attribute (.Name p K) "__init__" fC) (j::O) [] y) l.env=(do
   let ov <-eval (.Name p K) l.env
   Z8 fC.atName
   let(f,first) <-Z9 [ov] (Z6 ov "__init__" AB)
   ZA y f first (Zx y<|A3 (j::O) l.env) (Z4 y<|Zy [] l.env)))):
  PE l (.Call (.Attribute (.Name p K) "__init__" fC) (j::O) [] y) (λB m Q=>k8 B m λL n=>∃a g d,L=.ref a::g/\g.length<=100/\n a=J (HR a C d)/\Q .non n):=by
 intro cC r B m Q k h;show KW (pl:=AB) (yT k hg W ?_ s) ht;show PySem.W.method_cls k.kIn xs.ga (PySem.W.cls_value k.kIn xs.rd xs.fi () ?_);show PyProof.Rows.callWith_builtin1 (D1 (Z y cC _ B m _ (k.tok<|r.toks+1) h) λS X F=>?_) z E;have Wd L n w G A:=F;have Wm a g d V lr v q:=A;subst V;have Wb t P:=w.xat v;cases G with|@cons _ u _ S r0 G=>obtain rfl:u=Zf a:=r0;have#[h1,g1,d1,R,o1]:=X;show gU w.kIn c P (by have:=G.length;lia) λM U hk N=>?_;have H:=w.write (x:=a) (e:=a) (o:=HR a C d) (h':=M) (t':=R) (by rw[v];show True.intro) (.inl Y) (λb u T q=>hk b u T q) #[_,N]<|fG N;rw[zp4 v]at H;show#[.non,n,H,Y,q]
def DM.xput(s:DM f cC B m r)(d:m i=J (HR i x D))(h:r.heap.objs.size<=R)(hk:∀b o,b≠i->r.heap.get? b=J o->v.get? b=J o)(u:v.get? i=J (vM x oa (J R)))(A:v.Ns1 R (λz=>if z=p then J f9 else D))(C:DT e9 f9):DM f cC B (upd (upd m R (.xd [(p,e9)])) i (HR i x (J R))) {r with heap:=v,toks:=l}:=by
 have hf:m R=D:=s.hok.fresh h;have H:R≠i:=λz=>by rw[z,d]at hf;cases hf
 have y:∀{b:Ch} {o:Z7},r.heap.get? b=J o->b≠R:=λ{b o} q z=>Ut (Gd q) (by rw[z];show Nat.not_lt.mpr h);have k:∀{b:Ch},m b=D->b≠i:=λ{b} n z=>by rw[z,d]at n;cases n
 have F:∀{b:Ch} {o:HO},m b=J o->b≠R:=λ{b o} q z=>by rw[z,hf]at q;cases q
 have a:∀{b:Ch} {o:HO},m b=J o->b≠i->(upd (upd m R<|.xd [(p,e9)]) i<|HR i x<|J R) b=J o:=λ{b o} q z=>by rw[zg z,zg (F q)];show q
 show s.un #[λb o q n _ _=>hk b o (k n) q,λb o q n _ _=>#[o.slots,hk b o (k n) q],λb o q n _=>by rw[zg (k n),zg (y q)];show n,λb o q _=>?_,λb xs q=>a q (λz=>by rw[z,d]at q;cases q),λb o f9 q=>a q (λz=>by rw[z,d]at q;cases q),λb G q=>#[[].toArray,by rw[Array.append_empty];show a q λz=>by rw[z,d]at q;cases q]] λb o q=>?_;by_cases z:b=i;subst z;show#[_,u];show#[o,hk b o z q];by_cases z:b=i;subst z;rw[zi]at q;cases q;show fG u;rw[zg z]at q;by_cases w:b=R;subst w;rw[zi]at q;cases q;show#[_,A,λg=>?_];change vG (([(p,e9)]:Tw).lookup g) (if g=p then J f9 else D);by_cases t:g=p;subst t;rw[Ur Y];simp only[Hs,beq_self_eq_true];show C;rw[Us t];have:(g == p)=Za:=by simpa using t
 simp only[Hs,this,List.lookup_nil];trivial;rw[zg w]at q;show(s.hok b o q).stay (λc E j e=>hk c E ?_ e) (λc e=>a e λz=>by rw[z,d]at e;cases e) λc xs e=>a e (λz=>by rw[z,d]at e;cases e);rcases j with rfl|j;show z
 intro z3;rw[z3,d]at j;cases j
def dg(S:PE f j j3)(E:PE f w v9)(c:XC f.K i x u5)(A:Zi f.K (.ref i) p=J D)(L: ~~~(Z1 w (J (.Attribute j p K)) y.line f.env=pure Za)):
  PS f (.Assign [.Attribute j p K] w y) (λs B m=>v9 B m λo n=>j3 B n λv g=>∃a,v=.ref a/\g a=J (HR a i D)/\∀d,g d=D->d≠a->s.nx B (upd (upd g d<|.xd [(p,o)]) a<|HR a i<|J d)):=by intro cC r B m s C h;show plainObj_wpAny_Assign_Attribute (D1 (E cC r B m _ C h) λu Q #[o,n,M,N,q]=>D1 (S cC Q B n _ M q) λP G #[v,g,e,U,a,F,l,R]=>?_) L;subst F;obtain rfl:P=Zf a:=U;have Wb t H:=e.xat l;have#[Z,g2,d2,V,X]:=G;show yn1 e.kIn c.ok c.sa A H λW d T b hk O k=>#[B,_,e.xput l b hk O k N,R d (e.hok.fresh b) λz=>?_];have:=e.hok.fresh b;rw[z,l]at this;cases this
theorem jc (t:ZF Bb Cd Ez E3)(j:B8.contains (.type Bb)=I)(F:ZF q5 Ex Ey B8)(T:OwnTail v B8 w8)(k:v.get? i=J (ZL p H i x g7 w8 j8 S E1 Ba EA w5 u5 E5 E6 E7 E8 Cd)) (w:v.Ns x C) (m:C "__init__"=D)(z:∀q y,(∀b o,v.get? b=J o->q.get? b=J o)->q.get? (v.objs.size+1)=J (vM i y D)->EB (.done (.ret (.ref (v.objs.size+1)))) #[q,x5,Aa,l,Ad]) (g:A8.length<=Zw):C3 (C4 E s) d9 (Builtin.«type.__call__» #[.ref i::A8,[]]) EB i6 #[v,x5,Aa,l,Ad]:=by
 repeat (first|with_reducible show JZ k ?_|with_reducible show wpAny_madeBy_exc k ?_|wp_step)
 show codeAny_call_builtin_code (Ly _ t.quiet)<|wpAny_check_new_subU t j T k<|codeAny_exc_new_subU t j F T k ?_ g;change C3 _ _ _ _ _ #[xI v i A8,x5,Aa,l,Ad];have c:∀b o,v.get? b=J o->(xI v i A8).get? b=J o:=λb o e=>D6 _<|D6 _ e;have a:=c _ _ k;have h:(xI v i A8).Ns x C:=let⟨o,es,ep,e,r⟩:=w;#[o,es,ep,c _ _ e,r];have d:(xI v i A8).get? (v.objs.size+1)=J (vM i v.objs.size D):=by unfold xI;heap_get
 have n:(Zf i::w8).contains (.ref i)=I:=by simp
 have f:=T.keeps c;unfold isInstance
 repeat (first|with_reducible show JZ d ?_|(with_reducible show wpAny_isSubtype_exc a ?_;rw[n])|wp_step)
 change C3 _ _ (typeLookup (.ref i) _) _ _ _;show wpAny_typeLookup_tail a h f F.mroIs F.init.lookup ?_;rw[m];show Hx<|DL<|JP (F.init.bind _)<|DL<|IA<|Lu F.init.plain F.initEntry<|wpAny_check_init_subU F f a d Y ?_
 wp_walk
 show z _ (xI v i A8).objs.size (λb o u=>?_) ?_
 .rw[G4 _ _ (Jj<|JG<|Gd u)];show D6 _ (c _ _ u)
 .rw[IJ _ (D6 _ d) Y];rfl
theorem z95 (h:ZF Bb Cd Ez E3)(e:B8.contains (.type Bb)=I)(F:ZF q5 Ex Ey B8)(T:OwnTail v B8 w8)(c:v.get? i=J (ZL p H i x g7 w8 j8 S E1 Ba EA w5 u5 E5 E6 E7 E8 Cd)) (g:v.Ns x C) (f:C "__init__"=D)(k:∀d j,(∀b o,v.get? b=J o->d.get? b=J o)->d.get? (v.objs.size+1)=J (vM i j D)->nU (.ref (v.objs.size+1)) #[d,x5,Aa,l,Ad]) (a:A8.length<=Zw):C3 (C4 E s) d9 (call (.ref i) A8) nU i6 #[v,x5,Aa,l,Ad]:=by
 have m:=tc_lookup;have q:=tc_bind<|.ref i;have n:(#[v,x5,Aa,l,Ad]:C1).TypeIs (.ref i) "type":=#[_,c,Y];show IA<|MC ?_;change C3 _ _ (callAny (.ref i) _) _ _ _
 repeat (any_goals (first|assumption|with_reducible show JZ c ?_|wp_step))
 show#[Y,?_];show codeAny_call_builtin_at (Ly _<|by symm) entry_typeCall<|wpAny_check_type_call_sub c<|jc h e F T c g f k a
def DM.xmade {h':C7}(c:DM f cC B m r)(hk:∀b o,r.heap.get? b=J o->h'.get? b=J o)(a:h'.get? (r.heap.objs.size+1)=J (vM i x D)):DM f cC B (upd m (r.heap.objs.size+1) (HR (r.heap.objs.size+1) i D)) {r with heap:=h'}:=
 c.laid (t':=r.toks) hk (HI _) (fG a)
def jF{X:Cx} (c:xx X.K x R (J (.ref i))=I)(G:Zt X.K (.ref i)=J (.type "function"))(kp:Zh X.K (.ref x)=I)(F:zX X.prog X.w X.K X.mg X.base GA l i e7 S t9)(hr:zH (l+1) X.A)(hg:Gl X p)(hm:X.mg p=J (.ref x))(hb:DQ X.K e7 S [])
  (ha:PA X (j::O) k8) (E:‹Yl p›) (he: ~~~Uo j O X.env) (a3: ~~~Uq K O X.env):
  PE X (.Call (.Name p y) (j::O) [] K) (λB m Q=>k8 B m λz H1=>z.length<=100/\∀a,H1 a=D->t9 (.ref a::z) (upd H1 a<|HR a x D) (λv H2=>v=.non/\Q (.ref a) H2) E0):=by
 intro cC r B m Q Z h;show JE<|yT Z hg hm ?_ E;show JX (h₀:=X.base) Z.ok.mod.kin kp (D1 (ha K cC r B m _ Z h) λk s1 W=>?_) he a3;have Wj z H1 s A lv q:=W;show#[s.kIn,?_];have Wi nm qn N U:=yR s.kIn c;have Wi bs sn sub L:=U;have Wi ab a4 dd a0:=L;have Wi k0 k1 k2 M:=a0;have#[k3,k5,mN,hC,hN,hi,T,_]:=M;have Wa oI lI cI:=Hj.mp G;have P:=s.kIn _ _ lI;have hl:=A.length;have hq:=q (s1.heap.objs.size+1)<|s.hok.fresh<|HI _;have#[e,g,d,tk,os]:=s1;show yg2 KP () KP T hC hN hi P cI ?_ (by change k.length<=_;rw[Hf];show PB hl lv);have t:∀b o,e.get? b=J o->(xI e x k).get? b=J o:=λb o j=>D6 _<|D6 _ j;have w:(xI e x k).get? (e.objs.size+1)=J (vM x e.objs.size D):=by unfold xI;heap_get
 have C:=s.xmade (h':=xI e x k) t w;have r2:DS (V.ref (e.objs.size+1)::z) (Zf (e.objs.size+1)::k):=.cons Y A;have H:(Zf (e.objs.size+1)::k++[]).length=S.length:=by have j:=r2.length;rw[F.len _ _ _ _ hq]at j;rw[G9];show j.symm
 have n:=hb _ (Zf (e.objs.size+1)::k) C.kIn H;rw[G9]at n;show IA<|Jk (F.run _ X.stack _ _ #[Zf (e.objs.size+1)::k,[]] _ _ _ E0 (hr.make x k []) (C.env0.make x k []) n r2 hq) λA s' f=>?_;cases A with
 |error j=>show(f:False).elim
 |ok fl=>
  cases fl with|ret u=>have Wj v H' I3 rv ev q3:=C.after f;subst ev;show#[rv,#[V.ref<|e.objs.size+1,H',I3,Y,q3]]|next=>show Ze f|brk=>show Ze f|cont=>show Ze f
def zd5{X:Cx} (c:xx X.K i x D=I)(F:Zh X.K (.ref i)=I)(hg:Gl X p)(M:X.mg p=J (.ref i))
  (R:PA X (j::O) k8) (f:‹Yl p›) (o: ~~~Uo j O X.env) (u: ~~~Uq K O X.env):
  PE X (.Call (.Name p y) (j::O) [] K) (λB m Q=>k8 B m λw n=>w.length<=100/\∀a,n a=D->Q (.ref a) (upd n a<|HR a i D)):=by intro cC r B m Q e h;show JE<|yT e hg M ?_ f;show JX (h₀:=X.base) e.ok.mod.kin F (D1 (R K cC r B m _ e h) λH z l=>?_) o u;have Wj w n b P G q:=l;show#[b.kIn,?_];have Wi nm qn N s:=yR b.kIn c;have Wi bs sn sub v:=s;have Wi ab E W k:=v;have Wi k0 k1 k2 t:=k;have#[k3,k5,mN,V,A,C,T,_]:=t;have S:=P.length;have U:=q (z.heap.objs.size+1)<|b.hok.fresh<|HI _;have#[L,g,d,Z,os]:=z;show z95 KP () KP T V A C (λh' t' hk o=>?_) (by change H.length<=_;rw[Hf];show PB S G);show#[.ref<|L.objs.size+1,_,b.xmade hk o,Y,U]
def qw(c:xx f.K i x u5=I)(O:f.calm=I)(R:PE (f.wish (XE f Ax)) j j3):PS (f.wish (XE f Ax)) (.Raise (J j) D y) (λP B m=>j3 B m λp n=>∃a d,p=.ref a/\n a=J (HR a i d)/\Ax B a (upd n a (Hl a i d))):=by intro cC r B m P e h;change C3 _ _ (do Z8 y;raiseStmt f.env (J (do let v <-eval j f.env;Z8 y;pure v)) D) _ _ _;have#[F,U,N,w,s,sub,A,b,o,H,z,t,E,K,Z,hC,W,X,T,_,_,_,_,M]:=yR e.kIn c;show DL<|Lb<|z30 (C:=i) (nm:=F) (q:=U) (N:=N) (bs:=w) (bm:=.ref x::Jy) (hdct:=I) (sn:=s) (sub:=sub) (ab:=A) (col:=b) (dd:=o) (k0:=H) (k1:=z) (k2:=t) (k3:=E) (k5:=K) (newId:="ValueError.__new__") (T.hasType KP.hasBase) (e.ok.hd O)<|DL<|D1 (R cC r B m _ e h) λv s1=>Wd λp n l V k=>?_;have Wd a d L u S:=k;show DL<|Lb<|DX ?_;subst L;obtain rfl:v=Zf a:=V;have Wb Q G:=l.xat u;show#[3,a,Q,d,Y,l.kIn _ _ M,G,#[8,B,_,a,Y,(l.xthaw u).unwish.nopins,#[i,d,zi],.new G Y Y,S]]
abbrev Cx.held (X:Cx)(a:Tu):Cx:={X with pn:=X.pn++a}
noncomputable abbrev Cx.suite (X:Cx)(a:Ch):Cx:={X with A:=X.A.mark<|J<|.ref a,calm:=Za,xe:=λ_ _=>False}
theorem DM.held (a:DM f cC B m r):DM (f.held cC) [] B m r:=
 #[#[a.ok.mod,a.ok.kind,a.ok.glob,a.ok.blt,a.ok.above,a.ok.inj,a.ok.has,a.ok.cab,a.ok.hd,a.ok.frames,a.ok.stk,a.ok.exf,a.ok.bs,a.ok.bsz,a.ok.noex,a.ok.exfs,a.ok.funs,a.ok.frf],a.os,a.bare,a.base,a.loc,a.cell,a.free,a.freeC,λp b=>a.pin p (by simpa using b),a.hok,a.len]
def DM.unheld (a:DM (f.held cC) [] B m r):DM f cC B m r:=
 #[#[a.ok.mod,a.ok.kind,a.ok.glob,a.ok.blt,a.ok.above,a.ok.inj,a.ok.has,a.ok.cab,a.ok.hd,a.ok.frames,a.ok.stk,a.ok.exf,a.ok.bs,a.ok.bsz,a.ok.noex,a.ok.exfs,a.ok.funs,a.ok.frf],a.os,a.bare,a.base,a.loc,a.cell,a.free,a.freeC,λp b=>a.pin p (by simpa using b),a.hok,a.len]
theorem DM.suite{a:Ch} (b:DM f cC B m r):DM (f.suite a) cC B m r:=
 #[#[b.ok.mod,b.ok.kind,b.ok.glob,b.ok.blt,b.ok.above,b.ok.inj,b.ok.has,b.ok.cab,(λz=>nomatch z),b.ok.frames,b.ok.stk,b.ok.exf,b.ok.bs,b.ok.bsz,b.ok.noex,b.ok.exfs,b.ok.funs,b.ok.frf],b.os,b.bare,b.base,b.loc,b.cell,b.free,b.freeC,b.pin,b.hok,b.len]
def DM.unsuite (b:DM f [] B m r)(a:DM (f.suite i) cC AD d7 A6):DM f cC AD d7 A6:=
 #[b.ok,a.os,a.bare,a.base,a.loc,a.cell,a.free,a.freeC,a.pin,a.hok,a.len]
variable {Bg:HK}{BP:Flow}
theorem SP.held(h:SP ((f.held cC).wish i6) [] Bg BP r):SP f cC Bg BP r:=by
 cases BP with|next=>have Wh a c b q:=h;show#[a,c,b.unwish.unheld,q]|brk=>have Wh a c b q:=h;show#[a,c,b.unwish.unheld,q]|cont=>have Wh a c b q:=h;show#[a,c,b.unwish.unheld,q]|ret u=>have Wr v a c b d q:=h;show#[0,v,a,c,b.unwish.unheld,d,q]
def DM.gone(a:DM f cC B m r)(T:f.N.Nodup)(N:f.N[l]?=J p)(hl:f.env.scope.names.lookup p=J .local)(h:∀O,DM f cC (B.set l D) m O->y7 Unit.unit O):C3 AG d9 (do bindName f.env p .none;unbindBehindTheSuite f.env p y) y7 i6 r:=by
 have Wa a0 L G:=id a.loc;have u:(f.env.scope.kind == .class||(f.env.scope.kind == .module&&f.env.locals != f.env.globals))=Za:=by rw[a.ok.kind];rfl
 have s:l<B.length:=by rw[a.len];show(Gm.mp N).1
 have w:=a.cne;show wpAny_nameGoes_keeps hl L u λh' v C g=>?_;have Wl oL _ _ Z _:=id L;have E:∀{b:Ch} {o:Z7},f.s₀.heap.get? b=J o->b≠f.env.locals:=λ{b o} e=>Gp<|Gf (Gd e) a.ok.above;show h _ #[a.ok,a.os,a.bare,#[λb o e p F t=>(g.2 b<|E e).trans<|a.base.keep b o e p F t,λb o e p F t=>?_,a.base.free,λb o e t=>?_,a.base.tups,a.base.frzs,a.base.tbls],#[_,C,λj i v' n A W=>?_],λi c e=>?_,a.free,a.freeC,λK X=>?_,λb Q e=>?_,by simpa using a.len];have Wb R n:=a.base.slot b o e p F t;show#[R,(g.2 b<|E e).trans n];have Wb V n:=a.base.there b o e t;show#[V,(g.2 b<|E e).trans n];by_cases H:j=l;subst H;rw[J7 s]at A;cases A;rw[Iw (Gx H)]at A;have Wa u' S q:=G j i v' n A W;show#[u',S,?_];rcases q with⟨k,e⟩|⟨k,c,e,z⟩;show .inl #[k,?_];have:i≠p:=λe=>H<|pZ T n<|e▸N;simp[this,e]
 show .inr #[k,c,e,z.sameBut g<|w i c e];have Wb M z:=a.cell i c e;show#[M,z.sameBut g<|w i c e];have Wn e p P U d:=a.pin K X;show#[(g.2 K.1 P).trans e,p,P,U,d];show(a.hok b Q e).stay (λc M x q=>(g.2 c ?_).trans q) (λ_ q=>q) λ_ _ q=>q;rintro rfl;rcases x with rfl|x;rw[a.free]at e;cases e
 rw[a.free]at x;cases x
def DM.caught{X:Cx}{o:List ExceptHandler}(c:X.stack=X.env::X.outer)(h:XE X Ax f9 r)(k:∀U H a T g,DM X [] U H g->(∃C d,H a=J (Hl a C d))->Ax U a H->H T=D->X.s₀.heap.get? T=D->(∀p∈X.pn,p.1≠T)->IZ g.heap X.base a T .none->C3 (C4 X.prog X.w) X.A (handleBy (.ref a) X.env o) EM i6 g):C3 (C4 X.prog X.w) X.A (ZE f9 X.env) (λ_ e=>C3 (C4 X.prog X.w) X.A (setFlight f9 D) (λ_ b=>C3 (C4 X.prog X.w) X.A (handleBy f9 X.env o) EM i6 b) i6 e) i6 r:=by have#[U,H,a,rfl,q,j,BP,t]:=h;show q.note c j BP λw T v n l m u=>?_;show v.flight (fo:=D) c j n l (by simpa using m) u λs i f=>?_;show k U H a T _ i j t n l m f
def cy(b:GZ E s m v)(e:m i=J (Hl i x w5))(p:∀a,w5=J a->∃l,m a=J (.xd l)):∃t c,PySem.W.InstAt v i t x c/\c.isSome=w5.isSome:=by
 have Wc d _:=b i _ e;have#[o,j,k,g,h,n]:=d;cases w5 with|none=>show#[o,D,cx k g #[j,n] (by rw[h];trivial),Y]|some a=>have Wb l r:=p a Y;have Wa w f _:=b a _ r;have#[c,y,u,q,_]:=f;show#[o,J c,cx k g #[j,n] (by rw[h];show q),Y]
def bu (K:Cl)(B:Ch)(R:Tn):Prop:=∀U a H,R U a H->∃C d,H a=J (Hl a C d)/\(∀b,d=J b->∃c,H b=J (.xd c))/\XB K C B
def zg0 {R:Tn}(F:f.stack=f.env::f.outer)(B:f.N.Nodup)(E:f.N[l]?=J H)(A:f.env.scope.names.lookup H=J .local)(hg:Gl f p)(hm:f.mg p=J (.ref i))(hR:bu f.K i R)(L:‹Yl p›):
  PS f (.Try i7 [.ExceptHandler (J<|.Name p y) (J H) (g8::y8) K] [] [] fC) (λw U M=>(∀b,fb ((f.held b).wish<|XE (f.held b) R) i7 w U M)/\
   ∀b a j x,R j a x->fb ((f.held b).suite a) (g8::y8) {nx:=λc g=>w.nx (c.set l D) g,rt:=w.rt,bk:=λc g=>w.bk (c.set l D) g,ct:=λc g=>w.ct (c.set l D) g} (j.set l<|J<|.ref a) x):=by
 rintro b s U M w a4 ⟨h1,h2⟩;have Wa tb pb qb:=h1 b;show wpAny_Try_except<|Hk (pb [] s U M w (a4.held.wish _) qb) (λO s1 hf=>?_) λe s1 hx=>?_
 . have hf:=SP.held hf;cases O with|next=>show LD hf|brk=>show hf|cont=>show hf|ret u=>show hf
 show DM.caught (X:=f.held b) F hx λj x a T s' G ha r t1 t2 t3 N=>?_;have Wd C d hc hd xb:=hR j a x r;show wpAny_handleBy_cons (codeAny_handlers_test<|yT (G.suite (a:=a)) hg hm ?_ L) (by intro q;cases q);have Wh ox od a3 _:=cy G.hok hc hd;have#[h',g',d',a5,a0]:=s';show ya1 G.kIn xb a3<|codeAny_handlers_suite_as<|G.flight (fo:=D) F ha t1 t2 (by simpa using t3) N λZ h _=>?_;show pD h B E (Zc A) (v:=.ref a) Y (λV Q=>?_)<|.inr A;have Wa ts W q2:=h2 b a j x r;show Hk (W [] V _ x _ Q.suite q2) (λO s3 hf=>?_) λ_ _ z=>(z:False).elim;cases O with|next=>have Wh n t k o:=hf;show(h.unsuite k).gone B E A λP m=>#[_,t,m.unheld,o]|brk=>have Wh n t k o:=hf;show(h.unsuite k).gone B E A λP m=>#[_,t,m.unheld,o]|cont=>have Wh n t k o:=hf;show(h.unsuite k).gone B E A λP m=>#[_,t,m.unheld,o]|ret u=>have Wr v n t k S o:=hf;show(h.unsuite k).gone B E A λP m=>#[0,v,_,t,m.unheld,S,o]
def xD (C:Ch)(a:Tv):A2:=.dict ((.int (C:Nat),.bool I)::a)
def HU (C:Ch):A2:=.dict [(.int (C:Nat),.bool Za)]
def AV.xc_inv (h:AV m e9 (xD i p7)):∃a b c,e9=.ref a/\m a=J (Hl a i (J b))/\m b=J (.xd c)/\GF m c p7:=by
 generalize e:xD i p7=d at h;cases h with
 |@xc a C' b c ds' h1 h2 h3=>
  unfold xD at e;injection e with e;injection e with e1 f;injection e1 with e1 _;injection e1 with e1;have:i=C':=by exact_mod_cast e1
  subst this;subst f;show#[3,a,b,c,Y,h1,h2,h3]
 |_=>simp[xD]at e
def AV.xn_inv (h:AV m e9 (HU i)):∃a,e9=.ref a/\m a=J (Hl a i D):=by
 generalize e:HU i=d at h;cases h with
 |@xn a C' h1=>
  unfold HU at e;injection e with e;injection e with e1 b;injection e1 with e1 _;injection e1 with e1;have:i=C':=by exact_mod_cast e1
  subst this;show#[a,Y,h1]
 |_=>simp[HU]at e
def Kl (C:Ch)(d:A2):Prop:=(∃a,d=xD C a)\/d=HU C
def Kl.at {G:Hp}{v:V}{C:Ch}{d:A2}(x:Kl C d)(h:AV G v d):∃a b,v=.ref a/\G a=J (Hl a C b)/\∀y,b=J y->∃f,G y=J (.xd f):=by
 rcases x with⟨f,rfl⟩|rfl;have Wm a b g rfl c i _:=h.xc_inv;show#[a,J b,Y,c,λy e=>by cases e;show#[g,i]]
 have Wa a rfl c:=h.xn_inv;show#[a,D,Y,c,λy e=>by cases e]
def M.reidx(p:M z n B m)(f:Nat->Nat)(G:p8.length=AD.length)(hf:∀(k:Nat) a s,p8[k]?=J (J a)->AD[k]?=J s->n[f k]?=J (J a)/\B[f k]?=J s)(inj:∀(k A:Nat) a a',p8[k]?=J (J a)->p8[A]?=J (J a')->f k=f A->k=A):M z p8 AD m:=by
 have P:∀{y:Ch},Ow z p8 AD y->Ow z n B y:=λ{y} h=>by
  rcases h with E|⟨i,c,s,g,j,u⟩;show .inl E
  have Wc b t:=hf i c s g j;show .inr #[0,_,c,s,b,t,u]
 have N:zv (Gz z n B m) (Gz z p8 AD m):=zj λa o h e=>#[λE=>h<|P E,e];show#[G,λi c s g j=>?_,λi v c d s F x g j L H K O=>?_,λi r q e v c s x g j u=>?_,p.tp,p.keep,p.oex];have Wc b t:=hf i c s g j;show(p.ok _ c s b t).stay N (λx o u e=>#[e,(p.ft b t u).1,(p.ft b t u).2.1]) Y λ_ _ _ l=>l;have Wc b t:=hf i c s g L;have Wc w C:=hf v d F j H;show inj i v c d g j<|p.dj _ _ c d s F x b w t C K O;have:i<AD.length:=by rw[<-G];show(Gm.mp e).1
 have Wc b _:=hf i _ _ e<|Gh this;have Wc w C:=hf v c s g j;show p.xd _ r q b _ c s x w C u
theorem qE(h:(n++[Al])[l]?=J (J l9)):(l<n.length/\n[l]?=J (J l9))\/(l=n.length/\Al=J l9):=by
 rcases HX l n.length with z|z;rw[Iv z]at h;show .inl #[z,h]
 rw[HZ z]at h;obtain⟨j,a⟩:∃j,l-n.length=j:=#[_,Y];rw[a]at h;cases j with|zero=>simp at h;show .inr #[by lia,h]|succ j=>simp at h
def M.grow (c:M z n B m):M z (n++[D]) (B++[D]) m:=by
 have d:=c.len;show c.reidx id (by rw[GJ,GJ,d];rfl) (λk a s f b=>?_) λ_ _ _ _ _ _ e=>e;rcases qE f with⟨g,e⟩|⟨_,e⟩;show#[e,by rw[Iv (Gf g<|Gu d)]at b;show b]
 cases e
def M.snoc {v:V}{b:A}{H':Hp}(u:M z n B m)(t:zF z H')(k:Kz z m H')(E:∀x,Fc (J v) b x->m x=D)(d:xO (sub (λx=>¬Ow z n B x/\¬Fc (J v) b x) H') z H' (J v) b)(G:‹J2 b›):M z (n++[J b]) (B++[J v]) H':=by
 have q:=u.len;have w:=u.grow;have H:∀{y:Ch},Ow z (n++[D]) (B++[D]) y->Ow z n B y:=λ{y} h=>by
  rcases h with g|⟨i,c,s,p,j,fo⟩;show .inl g
  rcases qE p with⟨g,e⟩|⟨_,e⟩;show .inr #[0,i,c,s,e,by rw[Iv (Gf g<|Gu q)]at j;show j,fo]
  cases e
 have r:=w.store (i:=n.length) (v:=v) (b:=b) t k E (d.stay (zj λa o h e=>#[#[λg=>h.1<|H g,h.2],e]) (λx o f e=>by have Wf C F _:=tF d f;show#[e,C,F]) Y λ_ _ _ l=>l) G;have p:(n++[D]).set n.length (J b)=n++[J b]:=by rw[Ls _ _ (D4 _),IS]<;>rfl
 have j:(B++[D]).set n.length (J v)=B++[J v]:=by rw[Ls _ _ (Gu q.symm),q,IS]<;>rfl
 rw[p,j]at r;show r
def M.len'(a:M z (n++[Al]) (B++[Ac]) m):n.length=B.length:=by have:=a.len;rw[GJ,GJ]at this;show Nat.add_right_cancel this
theorem M.lastAt(p:M z (n++[J l9]) (B++[J e9]) m):M z (n.set l (J l9)) (B.set l (J e9)) m:=by
 have g:=p.len';have b:∀{k:Nat} {a:A},(n.set l<|J l9)[k]?=J (J a)->k<n.length/\((k=l/\a=l9)\/(k≠l/\n[k]?=J (J a))):=λ{k a} e=>by
  have hk:=(Gm.mp e).1;rw[Ht]at hk;rcases zx e with⟨rfl,f⟩|⟨d,c⟩;cases f;show#[hk,.inl #[Y,Y]]
  show#[hk,.inr #[λw=>d w.symm,c]]
 show p.reidx (λk=>if k=l then n.length else k) (by rw[Ht,Ht];show g) (λk a s r i=>?_) λk o a u e q f=>?_;have Wc hk j:=b r;obtain⟨rfl,rfl⟩|⟨h,e⟩:=j;rw[Ur Y];rw[J7 (Gf hk<|Gu g)]at i;cases i;show#[by rw[HZ (D4 _),IS]<;>rfl,by rw[HZ (Gu g.symm),g,IS]<;>rfl]
 rw[Us h];rw[Iw (λw=>h w.symm)]at i;show#[by rw[Iv hk];show e,by rw[Iv (Gf hk<|Gu g)];show i];have v:=(b e).1;have t:=(b q).1;by_cases d:k=l;by_cases c:o=l;show d.trans c.symm;rw[Ur d,Us c]at f;lia;by_cases c:o=l;rw[Us d,Ur c]at f;lia;rw[Us d,Us c]at f;show f
variable {Aj Et:Uj}
def uz(h:m i=J j4)(b:¬Aj i)(a:∀xs,j4≠.lst xs):tX Aj m d7 i=J j4:=by unfold tX;rw[Us b,h];cases j4<;>first|rfl|show Ut Y<|a _
def Ry(h:tX Aj (sub Et m) m i=J j4):m i=J j4:=by
 rcases qP h with⟨_,z⟩|⟨_,z⟩;show z
 show(zf z).2
structure Iq (X:Cx)(r:Fr)(αh:Ev)(q:Ue):Prop where
 ex:∃(X0:Cx) (R:Tn),X=X0.wish (XE X0 R)/\X0.stack=X0.env::X0.outer/\X0.ex=[]/\∀U d S a H',M r (αh++[J (.deep d S)]) (U++[J (.ref a)]) H'->q d->R U a H'
def Iq.own(x:Iq f z n Q):PassesOwn (C4 f.prog f.w) f.A f.env f.xe:=by have Wd b R rfl a _:=x.ex;show z35 a
theorem M.exc {j:Nat}{q:Ue}(g:M z n B m)(N:n[j]?=J D):M z (n.set j (J (.exc z q))) B m:=by
 have p:∀{i:Nat} {c:A},(n.set j<|J<|.exc z q)[i]?=J (J c)->(i=j/\c=.exc z q)\/n[i]?=J (J c):=λ{i c} e=>by
  rcases zx e with⟨rfl,k⟩|⟨_,w⟩;cases k;show .inl #[Y,Y]
  show .inr w
 have L:∀{y:Ch},Ow z (n.set j<|J<|.exc z q) B y->Ow z n B y:=λ{y} h=>by
  rcases h with k|⟨i,c,s,b,d,f⟩;show .inl k
  rcases p b with⟨_,rfl⟩|b;show f.elim
  show .inr #[0,i,c,s,b,d,f]
 have H:zv (Gz z n B m) (Gz z (n.set j<|J<|.exc z q) B m):=zj λa o h e=>#[λk=>h<|L k,e];show#[by rw[Ht];show g.len,λi c s b d=>?_,λi r c K s G x b d F C t u=>?_,λi E v e r c s x b d f=>?_,g.tp,g.keep,g.oex];rcases p b with⟨_,rfl⟩|b;show#[Y,λ_ k=>k,g.tp,g.keep]
 show(g.ok i c s b d).stay H (λx o f e=>#[e,(g.ft b d f).1,(g.ft b d f).2.1]) Y λ_ _ _ l=>l;rcases p b with⟨_,rfl⟩|b;show t.elim
 rcases p d with⟨_,rfl⟩|d;show u.elim
 show g.dj i r c K s G x b d F C t u;rcases p b with⟨_,rfl⟩|b;show f.elim
 rcases p e with⟨_,k⟩|e;cases k;show(g.ft b d f).2.1
 show g.xd i E v e r c s x b d f
def M.back{F:Fr}{O:Ev}{b:Ev}{U:St}{H:Hp}{j:Nat}{r:Fr}{q:Ue}(m:M F O U H)(p:O[j]?=J (J (.exc r q)))(C:b.length=O.length)(k:∀(i:Nat) a,b[i]?=J (J a)->O[i]?=J (J a)/\J2 a):M r b U H:=by
 have l:=m.lnk p;have E:∀{y:Ch},Ow r b U y->Ow F O U y:=λ{y} h=>by
  rcases h with z|⟨i,c,s,g,n,f⟩;show .inl<|l.o y z
  show .inr #[0,i,c,s,(k _ _ g).1,n,f]
 have B:zv (Gz F O U H) (Gz r b U H):=zj λa o h e=>#[λz=>h<|E z,e];show#[C.trans m.len,λi c s g n=>?_,λi u c d s w x g n=>m.dj i u c d s w x (k _ _ g).1 (k _ _ n).1,λi v t e=>((k _ _ e).2:False).elim,l.ok,l.k,λx A=>m.oex x<|l.o x A];show(m.ok i c s (k _ _ g).1 n).stay B (λx o f e=>#[e,λz=>(m.ft (k _ _ g).1 n f).1<|l.o x z,m.xd j r q p i c s x (k _ _ g).1 n f]) l.tp λv t z=>?_;subst z;show((k _ _ g).2:False).elim
def Gk :Ev->Uk:=λb O=>b.length=O.length/\∀(i:Nat) a,b[i]?=J (J a)->O[i]?=J (J a)/\J2 a
def Gk.nil(h:l=n.length):Gk (Zb l D) n:=#[by rw[Kq];show h,λi a e=>by rw[J6]at e;split at e<;>cases e]
def Gk.cons {x y:T9}{c O:Ev}(h:x=D\/(x=y/\∀a,x=J a->J2 a))(r:Gk c O):Gk (x::c) (y::O):=#[by rw[G3,G3,r.1],λi a e=>by
 cases i with
 |zero=>
  simp at e;rcases h with h|⟨g,d⟩;rw[h]at e;cases e
  subst g;subst e;show#[Y,d _ Y]
 |succ i=>simpa using r.2 i a (by simpa using e)]
def Gk.nil' :Gk [] []:=#[Y,λi a e=>by simp at e]
def Gk.snoc{b:A}(h:Gk n p8)(c:J2 b):Gk (n++[J b]) (p8++[J b]):=#[by rw[GJ,GJ,h.1],λi a e=>by
 rcases qE e with⟨z,e⟩|⟨z,e⟩;rw[Iv (by rw[<-h.1];show z)];show h.2 i a e
 cases e;rw[z,h.1,HZ (D4 _),IS];show#[Y,c]]
def M.backS(e:M z (n++[J l9]) (B++[J e9]) m)(c:n[l]?=J (J (.exc w6 Q)))(b:Gk p8 n)(d:J2 l9):M w6 (p8++[J l9]) (B++[J e9]) m:=by
 have a:(n++[J l9])[l]?=J (J<|.exc w6 Q):=by rw[Iv (Gm.mp c).1];show c
 show e.back a (b.snoc d).1 (b.snoc d).2
def sy(a:M z (n++[J (.deep dc Aj)]) (B++[J (.ref i)]) m):LV z (.ref i) m (.deep dc Aj):=by have We v b c d:=a.deep n.length dc Aj (by rw[HZ (D4 _),IS]<;>rfl);rw[a.len',HZ (D4 _),IS]at b;cases b;show#[c.same<|va (zj λi o h e=>#[GL h,e]) λ_ _ _ e=>e,d]
def L9 (φ:TV->(Ug)->(Ue)->Prop):Sp:=λc H e E=>∃(F:Fr) (as:TV) (Q:Ug) (q:Ue),F.H0=H/\zF F H/\(∀x,F.O0 x->∃o,H x=J o/\yS o)/\zQ F (sub (λx=>¬F.O0 x) H) c as/\φ as Q q/\(∀a v b,Q a->yh F v b a->e v b)/\∀d S a b,q d->yh F (.ref a) b (.deep d S)->E (.ref a) D b
variable {Ar:List L2.A->(L2.A->Prop)->(Ue)->Prop}
theorem fnX(G:Gi q p H g8 i e7)(R:zq (S++[m8]) m9 (zb g8))(a3:m9.length<=S.length)(n:∀b Q f,Ar b Q f->b.length=m9.length)(u:∀(g:Bs) (y:Db) (c:TZ) (z:C1) (w:Hp) (x:XK) (b:TV) (Q:Ug) (f:Ue) (r:Fr) (xe:To),zH l (y.deeper (Yb H (zb g8) z.heap.objs.size i g))->Ar b Q f->Iq ((yQ (Ho E s v) E s q C v (S++[m8]) H (zb g8) i g y c z w x).wish xe) r (Zb (S.length+1) D) f-> D0 ((yQ (Ho E s v) E s q C v (S++[m8]) H (zb g8) i g y c z w x).wish xe) ((b.map J++Zb (S.length-b.length) D)++[J (.exc r λ_=>True)]) (zA g8) {nx:=λ_=>Q<|.dat .none,rt:=Q}):zX E s q C v (Ho E s v) (l+1) i e7 m9 (L9 Ar):=by
 show G.okX R (λZ w Q x h=>?_) λg y c z w Z Qc x hr h=>?_;have Wo F b X f _ _ _ K k _:=h;rw[K.length,n b _ _ k];have#[F,b,X,f,e,t,o,L]:=h;have Wq K k T kx:=L;have hl:=n b _ _ k;have m:=M.start (N:=S++[m8]) e t o K;have ea:b.map J++Zb ((S++[m8]).length-b.length) D=(b.map J++Zb (S.length-b.length) D)++[D]:=by rw[GJ,Ml,show S.length+1-b.length=(S.length-b.length)+1 by omega,Nv,Lz]
 rw[ea]at m;have W:(b.map J++Zb (S.length-b.length) (D:T9)).length=S.length:=by rw[GJ,DZ,Kq];lia
 have V:=m.exc (j:=S.length) (q:=λ_=>True) (by rw[HZ (),W,IS]<;>rfl);have es:((b.map J++Zb (S.length-b.length) (D:T9))++[D]).set S.length (J<|A.exc F λ_=>True)=(b.map J++Zb (S.length-b.length) D)++[J (.exc F λ_=>True)]:=by rw[Ls _ _ (),W,IS]<;>rfl
 rw[es]at V;show u g y c z w x b X f F _ hr k #[_,_,Y,Y,Y,λU d R a B P qd=>kx d R a B qd #[P.tp,P.keep,sy P]] F _ w _ V #[λO U B m f=>?_,λa a0 B r f=>T a a0 B f r,λ_ _ _ _ m8=>m8.elim,λ_ _ _ _ m8=>m8.elim];show T _ _ _ f #[m.tp,m.keep,.non]
structure gN (P:C5)(w:C6)(K:Cl)(mg:Tt)(base:C7)(x:Zv)(k:Nat)(φ:TV->(Ug)->(Ue)->Prop):Prop where
 ex:∃f fd ps,mg x=J (.ref f)/\Zh K (.ref f)=I/\DQ K fd ps []/\zX P w K mg base (Ho P w base) k f fd ps (L9 φ)
def Rz (C:Ch)(c:Zv):Sp:=λd H e _=>∃(a:Ch) (i:Int),d=[.ref a,.int i]/\i.natAbs.log2<1920/\H a=J (HR a C D)/\∀b,H b=D->b≠a->e .non (upd (upd H b<|.xd [(c,.int i)]) a<|HR a C<|J b)
structure Oy (P:C5)(w:C6)(K:Cl)(mg:Tt)(base:C7)(x:Zv)(k:Nat)(C:Ch)(fl:Zv):Prop where
 m:mg x=J (.ref C)
 kp:Zh K (.ref C)=I
 ex:∃S f fd ps,xx K C S (J<|.ref f)=I/\Zt K (.ref f)=J (.type "function")/\DQ K fd ps []/\zX P w K mg base GA k f fd ps (Rz C fl)
structure Ma (K:Cl)(mg:Tt)(x:Zv)(C:Ch):Prop where
 m:mg x=J (.ref C)
 kp:Zh K (.ref C)=I
 ex:∃S,xx K C S D=I
def aI{e:Dc}{j:Nat} (xo:Iq f z p8 Q)(Z:f.calm=I)(x:Oy f.prog f.w f.K f.mg f.base p l i H)(hr:zH (l+1) f.A)(hg:Gl f p)(hj:n[j]?=J (J (.exc z Ag)))(le:Gk p8 n)(h:DP f n e λd=>∃k:Int,d=.int k/\k.natAbs.log2<1920/\Q (xD i [(.str H,.int k)]))
  (w:‹Yl p›) (L: ~~~Uo e [] f.env):D0 f n (.Raise (J<|.Call (.Name p y) [e] [] K) D fC::i7) h9:=λF U W a0 m rr=>by
 have Wj M R rfl h1 h2 T:=xo.ex;have#[S,a3,fd,ps,c,hf,hb,G]:=x.ex;show#[_,zt (qw c Z<|jF (X:=M.wish<|XE M R) c hf x.kp G hr hg x.m hb (zo zh zI L) w L) zC,?_];show h F U W _ m λd v u q1 t1 k1 r1=>?_;have We k rfl hi qi:=q1;cases r1.int_inv;show#[GI Y,λa O=>#[1,a,k,Y,hi,zi,λdx B t=>#[Y,a,J dx,Y,#[zi,?_]]]];have A:=m.kz k1 t1;rw[uq];have s:u dx=D:=by rw[zg t]at B;show B
 generalize r:upd (upd (upd u a<|HR a i D) dx<|HO.xd [(H,.int k)]) a (Hl a i<|J dx)=H3;have E:zv u H3:=λq o e=>by
  have C:q≠a:=λg=>by rw[g,O]at e;cases e
  have yd:q≠dx:=λg=>by rw[g,s]at e;cases e
  rw[<-r,zg C,zg yd,zg C];show e
 have N:∀q,u q=D->¬Ow F n U q/\¬Fc (J<|.ref a) (.deep (xD i [(.str H,.int k)]) λ_=>False) q:=λq P=>#[A.fresh P,λg=>g];have V:=A.snoc (v:=.ref a) (b:=.deep (xD i [(.str H,.int k)]) λ_=>False) (H':=H3) (A.tp.same E) (Kz.of_same E) (λp g=>g.elim) #[_,Y,.xc (dx:=dx) (fs:=[(H,.int k)]) (uz (zr (N a O)<|by rw[<-r];show zi) (λg=>g) λxs g=>by cases g) (uz (zr (N dx s)<|by rw[<-r,zg t];show zi) (λg=>g) λxs g=>by cases g)<|.cons (.int k) .nil,λp g=>g.elim];show T U _ _ a H3 (V.backS hj le trivial) qi
def uy{e:Dc}{j:Nat} (N:Iq f z p8 Q)(B:f.calm=I)(l:Ma f.K f.mg p i)(hg:Gl f p)(M:n[j]?=J (J (.exc z Ag)))(C:Gk p8 n)(h:DP f n e λ_=>Q (HU i))
  (k:‹Yl p›) (t: ~~~Uo e [] f.env):D0 f n (.Raise (J<|.Call (.Name p y) [e] [] K) D fC::i7) h9:=λF U H V m O=>by
 have Wj u R rfl W T x:=N.ex;have Wb S c:=l.ex;show#[_,zt (qw c B<|zd5 (X:=u.wish<|XE u R) c l.kp hg l.m (zo zh zI t) k t) zC,?_];show h F U H _ m λd v q L E G Z=>?_;show#[GI Y,λa w=>#[a,D,Y,zi,?_]];have r:=m.kz G E;rw[uq];have s:zv q (upd q a<|Hl a i D):=λP o e=>by rw[zg (λg=>by rw[g,w]at e;cases e)];show e
 have A:=r.snoc (v:=.ref a) (b:=.deep (HU i) λ_=>False) (H':=upd q a<|Hl a i D) (r.tp.same s) (Kz.of_same s) (λp g=>g.elim) #[_,Y,.xn (uz (zr #[r.fresh w,λg=>g] zi) (λg=>g) λxs g=>by cases g),λp g=>g.elim];show x U _ _ a _ (A.backS M C trivial) L
def ja(t:f.ex=[])(F:zX f.prog f.w f.K f.mg f.base (Ho f.prog f.w f.base) l i e7 S t9)(N:zH l f.A)(hg:Gl f p)(L:f.mg p=J (.ref i))(hk:Zh f.K (.ref i)=I)(C:DQ f.K e7 S [])
  (M:PA (f.wish<|XE f Ax) (j::O) k8) (q:‹Yl p›) (G: ~~~Uo j O f.env) (w: ~~~Uq K O f.env):
  PE (f.wish<|XE f Ax) (.Call (.Name p y) (j::O) [] K) (λU r Ag=>k8 U r λm v=>∃E:XK,(∀a x,E (.ref a) D x->Ax U a x)/\t9 m v Ag E):=by
 intro d s U r Ag o h;show JE<|yT o hg L ?_ q;show JX (h₀:=f.base) o.ok.mod.kin hk (D1 (M K d s U r _ o h) λg A n=>?_) G w;have Wd m v c z k:=n;have Wa E B Q:=k;show#[c.kIn,?_];have P:(g++[]).length=S.length:=by rw[G9,<-z.length];show F.len _ _ _ _ Q
 have b:=C A g c.kIn P;rw[G9]at b;show IA<|Jk (F.run f.A f.stack A v #[g,[]] g m Ag E N c.env0 b z Q) λz R e=>?_;cases z with
 |error j=>show rV t c.unwish e B
 |ok H=>
  cases H with|ret u=>show c.after e|next=>show Ze e|brk=>show Ze e|cont=>show Ze e
def ua{as:TV}{QA:Ug}(g:M w6 n B m)(P:n[l]?=J (J (.exc z Ag)))(O:Gk p8 n)(x:∀B d S a c,M z (p8++[J (.deep d S)]) (B++[J (.ref a)]) c->Q d->Ax B a c)(G:zQ w6 (Gz w6 n B m) dU as)(s:Ar as QA Q)(t:∀a v c,QA a->yh #[m,Ow w6 n B,w6.tp] v c a->Ae v c):∃E:XK,(∀a c,E (.ref a) D c->Ax B a c)/\L9 Ar dU m Ae E:=by
 show#[λv _ c=>∃a,v=.ref a/\∃d S,Q d/\yh #[m,Ow w6 n B,w6.tp] (.ref a) c (.deep d S),λa c q=>?_,#[2,#[m,Ow w6 n B,w6.tp],as,QA,Q,Y,g.tp.to Y λ_ f=>.inl f,λy f=>g.owEx f,#[zQ.to (F:=w6) (F':=#[m,Ow w6 n B,w6.tp]) (λ_ _ j=>j) Y G,s,t,λd S a c r i=>#[a,Y,#[d,S,r,i]]]]];have Wa R j k:=q;have Wh d S r i:=k;cases j;have Wf w H _:=i.back g;have Wq _ _ K h:=i;have L:=g.snoc (v:=.ref a) (b:=.deep d S) (H':=c) w H (λe f=>(h e f).2.1) #[_,Y,K.same λe o j=>?_,λe f=>#[GL (h e f).1,g.fresh0 (h e f).2.1,(h e f).2.2]];show x B d S a c (L.backS P O trivial) r;unfold tX at j ⊢;by_cases f:S e;rw[Ur f]at j ⊢;show j;rw[Us f]at j ⊢;cases Q:sub (λe=>¬Ow w6 n B e) c e with|none=>rw[Q]at j;cases j|some u=>have Wc C N:=zf Q;rw[zr (p:=λe=>¬Ow w6 n B e/\¬Fc (J<|V.ref a) (.deep d S) e) #[C,f] N];rw[Q]at j;show j
def zH7{b:Dc}{j:Nat} (W:Iq f z p8 Q)(T:n[j]?=J (J (.exc z Ag)))(t:Gk p8 n)(C:gN f.prog f.w f.K f.mg f.base p l Ar)(S:zH l f.A)(hg:Gl f p)(h:G7 f n (b::O) λe=>Ar e (λa=>El a.d) Q)
  (c:‹Yl p›) (N: ~~~Uo b O f.env) (d: ~~~Uq K O f.env):DP f n (.Call (.Name p y) (b::O) [] K) El:=λF U H Rk m k=>by have Wj X0 R rfl h1 E q:=W.ex;have Wm a0 fd Z r B A G:=C.ex;show#[_,ja E G S hg r B A yb c N d,?_];show h F U H _ m λe X H1 L u g V=>?_;have i:=m.kz g u;show ua i T t q V L λa v M w x=>?_;have Wf o P s:=x.back i;show k _ v M w o (g.trans P) s
def zN9{b:Dc}{j:Nat}(xo:Iq f z p8 Q)(hj:n[j]?=J (J (.exc z Ag)))(E:Gk p8 n)(C:gN f.prog f.w f.K f.mg f.base p l Ar)(hr:zH l f.A)(hg:Gl f p)(h:G7 f n (b::O) λq=>Ar q (λa=>∃c,a=.own c/\j2 c) Q)
  (d:‹Yl p›) (X: ~~~Uo b O f.env) (i: ~~~Uq K O f.env):FA f n (.Call (.Name p y) (b::O) [] K) j2:=λF U H Rk m s=>by have Wj X0 R rfl h1 N w:=xo.ex;have Wm a0 fd ps x M L T:=C.ex;show#[_,ja N T hr hg x M L yb d X i,?_];show h F U H _ m λq vs H1 V k e r1=>?_;have r:=m.kz e k;show ua r hj E w r1 V λa v W G o=>?_;have Wa c rfl qd:=G;have Wf u Z _:=o.back r;have Wf _ _ g:=o;have Wu A xs t rfl B P w2 S w4:=g;cases B;show s c _ W qd u (e.trans Z)<|yF.back m e k #[1,A,xs,Y,P,S,w4]
def RA(G:Gi q p H g8 i e7)(n:C p=J (.ref i))(m:DQ q e7 m9 [])(o:zq (S++[m8]) m9 (zb g8))(h:m9.length<=S.length)(d:∀c Q e,Ar c Q e->c.length=m9.length)(a:∀(b:Bs) (f:Db) (outer:TZ) (g:C1) (j:Hp) (k:XK) (c:TV) (Q:Ug) (e:Ue) (r:Fr) (xe:To),zH l (f.deeper (Yb H (zb g8) g.heap.objs.size i b))->Ar c Q e->Iq ((yQ (Ho E s v) E s q C v (S++[m8]) H (zb g8) i b f outer g j k).wish xe) r (Zb (S.length+1) D) e-> D0 ((yQ (Ho E s v) E s q C v (S++[m8]) H (zb g8) i b f outer g j k).wish xe) ((c.map J++Zb (S.length-c.length) D)++[J (.exc r λ_=>True)]) (zA g8) {nx:=λ_=>Q<|.dat .none,rt:=Q}):gN E s q C v p (l+1) Ar:=
 #[i,e7,m9,n,G.kp,m,fnX G o h d a]
def iL (F:Fr)(s:zD)(d:A2)(S:Uj)(a:Ch)(b:Hp):Prop:=M F [J (.inn s),J (.deep d S)] [J (.ref s.a),J (.ref a)] b
def Oz (φ:TV->(Ug)->(Ue)->Prop):Sp:=λc H e E=>∃(F:Fr) (s:zD) (us:TM) (as:TV) (Q:Ug) (q:Ue),c=.ref s.a::us/\F.H0=s.un H/\zF F H/\(∀x,F.O0 x->∃o,H x=J o/\yS o)/\(∀x,s.at x->¬F.O0 x)/\xM (sub (λx=>¬F.O0 x/\x≠s.a/\x≠s.lp) H) H s/\zQ F (sub (λx=>¬F.O0 x/\x≠s.a/\x≠s.lp) H) us as/\φ (.inn s::as) Q q/\(∀a v b,Q a->yh F v b a->e v b)/\∀d S a b,q d->iL F s d S a b->E (.ref a) D b
def iL.of{n:Nat}(d:M z ((J (.inn G)::Zb n D)++[J (.deep dc Aj)]) (B++[J (.ref i)]) m):iL z G dc Aj i m:=by
 have f:=d.len;simp only[GJ,G3,Kq,KC]at f;have h:((J (A.inn G)::Zb n D)++[J (.deep dc Aj)])[0]?=J (J<|.inn G):=Y;have j:=(d.inn h).1;show d.reidx (λk=>if k=0 then 0 else n+1) Y (λk b v a c=>?_) (λk g b l a c e=>?_)
 match k with
 |0=>cases a;cases c;show#[Y,j]
 |1=>cases a;cases c;show#[?_,?_];rw[HZ ()];simp;change(B++[J (.ref i)])[n+1]?=_;rw[HZ (),show n+1-B.length=0 by omega];rfl
 |k+2=>cases a
 match k,g with
 |0,0=>rfl
 |1,1=>rfl
 |0,1=>simp at e
 |1,0=>simp at e
 |k+2,_=>cases a
 |_,k+2=>cases c
def Ln(G:Gi q p H g8 i e7)(X:zq (S++[m8]) m9 (zb g8))(a4:m9.length<=S.length)(n:∀k Q c,Ar k Q c->k.length=m9.length)(w:∀(f:Bs) (B:Db) (b:TZ) (K:C1) (x:Hp) (z:XK) (u:zD) (k:TV) (Q:Ug) (c:Ue) (r:Fr) (xe:To),zH l (B.deeper (Yb H (zb g8) K.heap.objs.size i f))->Ar (.inn u::k) Q c->Iq ((yQ (Ho E s v) E s q C v (S++[m8]) H (zb g8) i f B b K x z).wish xe) r (J (.inn u)::Zb S.length D) c-> D0 ((yQ (Ho E s v) E s q C v (S++[m8]) H (zb g8) i f B b K x z).wish xe) (((A.inn u::k).map J++Zb (S.length-(A.inn u::k).length) D)++[J (.exc r λ_=>True)]) (zA g8) {nx:=λO=>∃W,O[0]?=J (J<|.inn W)/\Q (.res .none W),rt:=Q}):zX E s q C v (Ho E s v) (l+1) i e7 m9 (Oz Ar):=by
 show G.okX X (λvs x Q z h=>?_) λf B b K x vs Qc z hr h=>?_;have Wg F u P:=h;have Wo us k Q' c rfl _ _ _ _ T:=P;have Wq _ R g _:=T;rw[G3,R.length];show n _ _ _ g;have Wg F u Z:=h;have Wo us k Q' c rfl e t o no a0:=Z;have Wn hi R g kk kx:=a0;have hl:=n _ _ _ g;have m:=M.startI (N:=S++[m8]) (λp o h=>(zf<|e▸h).2) (λp y=>by
  cases m8:F.H0 p with
  |none=>rfl
  |some o=>have Wc V _:=zf<|e▸m8;have#[n1,n2]:=V;rcases y with y|y;show Ut y n1;show Ut y n2) t o no hi R
 generalize hA:(A.inn u::k)=bs at m g hl;have ea:bs.map J++Zb ((S++[m8]).length-bs.length) D=(bs.map J++Zb (S.length-bs.length) D)++[D]:=by rw[GJ,Ml,show S.length+1-bs.length=(S.length-bs.length)+1 by omega,Nv,Lz]
 rw[ea]at m;have el:(bs.map J++Zb (S.length-bs.length) D).length=S.length:=by rw[GJ,DZ,Kq];omega
 have mx:=m.exc (j:=S.length) (q:=λ_=>True) (by rw[HZ (),el,IS]<;>rfl);have es:((bs.map J++Zb (S.length-bs.length) D)++[D]).set S.length (J<|A.exc F λ_=>True)=(bs.map J++Zb (S.length-bs.length) D)++[J (.exc F λ_=>True)]:=by rw[Ls _ _ (),el,IS]<;>rfl
 rw[es]at mx;subst hA;show w f B b K x z u k Q' c F _ hr g #[_,_,Y,Y,Y,λU d X a L mr qd=>kx d X a L qd<|iL.of mr] F _ x _ mx #[λO U L m #[W,h0,c]=>kk _ _ _ c<|yh.res m h0 .non,λa a3 L r c=>kk a a3 L c r,λ_ _ _ _ m8=>m8.elim,λ_ _ _ _ m8=>m8.elim]
def iL.back{O:Ev}{F:Fr}{U:St}{H:Hp}{c:Hp}{i:Nat}{s:zD}{d:A2}{S:Uj}{a:Ch} (m:M F O U H)(C:O[i]?=J (J (.inn s)))(b:iL (F.giv O U H s) s d S a c):M F (O++[J (.deep d S)]) (U++[J (.ref a)]) c:=by
 have b:=b;have Wf G q E:=m.inn C;have Wf _ A _:=b.inn (i:=0) Y;have We v e B r:=b.deep 1 d S Y;cases e;have t:∀x,S x->¬s.at x:=λx z w=>by have:=b.dj 0 1 _ _ _ _ x Y Y Y Y w z;cases this
 have j:∀x,S x->H x=D:=λx z=>by
  cases y:H x with|none=>rfl|some o=>have:s.un H x=J o:=zr #[λw=>t x z<|.inl w,λw=>t x z<|.inr w] y;have u:=(r x z).2.1;rw[show(F.giv O U H s).H0 x=J o from this]at u;cases u
 have k:Kz F H c:=λx o e n=>by
  by_cases f:x=s.a;subst f;rw[q.ob]at e;cases e;show A.ob;by_cases l:x=s.lp;cases zp:s.pl with|true=>subst l;rw[q.ls zp]at e;cases e;show A.ls zp|false=>show Ut (l.trans<|q.eq zp) f
  show b.keep x o (zr (p:=λx=>x≠s.a/\x≠s.lp) #[f,l] e) n
 have g:zv (Gz (F.giv O U H s) [J (.inn s),J (.deep d S)] [J (.ref s.a),J (.ref a)] c) (sub (λx=>¬Ow F O U x/\¬Fc (J<|V.ref a) (.deep d S) x) c):=zj λx o h e=>#[#[λz=>h ?_,λz=>h<|.inr #[0,1,_,_,Y,Y,z]],e];show m.snoc (m.tp.re b.tp Y) k (λx z=>j x z) #[_,Y,B.same<|va g λ_ _ _ e=>e,λx z=>#[GL<|m.fresh<|j x z,m.fresh0<|j x z,(r x z).2.2]];by_cases w:s.at x;show .inr #[0,0,_,_,Y,Y,w];show .inl #[z,λy=>w<|.inl y,λy=>w<|.inr y]
def vn(f:M z n B m)(k:n[l]?=J (J (.inn G)))(t:n[N]?=J (J (.exc w6 Q)))(s:Gk p8 n)(q:∀B d S a b,M w6 (p8++[J (.deep d S)]) (B++[J (.ref a)]) b->Ag d->Ax B a b)(r:zQ z (Gz z n B m) dU p9)(j:Ar (.inn G::p9) Bx Ag)(p:∀a v b,Bx a->yh (z.giv n B m G) v b a->Ae v b):∃E:XK,(∀a b,E (.ref a) D b->Ax B a b)/\Oz Ar (.ref G.a::dU) m Ae E:=by have Wf A u o:=f.inn k;have Wc g _:=qZ f k m;show#[λv _ b=>∃a,v=.ref a/\∃d S,Ag d/\iL (z.giv n B m G) G d S a b,λa b #[w,e,d,S,i,h]=>?_,#[z.giv n B m G,G,#[7,dU,p9,Bx,Ag,Y,Y,f.tp.to Y λx c=>#[.inl c,λy=>(o x<|.inl y).1 c,λy=>(o x<|.inr y).1 c],λx c=>f.owEx c.1,#[6,λx c y=>c.elim y.2.1 y.2.2,u.same g λ_ _ _ e=>e,zQ.to (F:=z) (F':=z.giv n B m G) g Y r,j,p,λd S a b i h=>#[a,Y,d,S,i,h]]]]];cases e;show q B d S a b ((h.back f k).backS t s trivial) i
def jm(B:f.ex=[])(he:PE (f.wish (XE f Ax)) w j3)(c:GP f.K i)(W:Ge f.K i p x)(F:zX f.prog f.w f.K f.mg f.base (Ho f.prog f.w f.base) l x e7 S t9)(hr:zH l f.A)(hb:DQ f.K e7 S [])
  (ha:PA (f.wish<|XE f Ax) (j::O) k8) (G: ~~~Uo j O f.env) (L: ~~~Uq y O f.env)
  (ht: ~~~(eval (.Call (.Attribute w p K) (j::O) [] y) f.env=(do
   let ov <-eval w f.env
   Z8 K.atName
   let(x,first) <-Z9 [ov] (Z6 ov p AB)
   ZA y x first (Zx y<|A3 (j::O) f.env) (Z4 y<|Zy [] f.env)))):
  PE (f.wish<|XE f Ax) (.Call (.Attribute w p K) (j::O) [] y) (λU H Q=>j3 U H λX o=>∃a M A,X=.ref a/\o a=J (.ins i M A)/\A.lookup p=D/\k8 U o λn v=>∃E:XK,(∀a V,E (.ref a) D V->Ax U a V)/\t9 (.ref a::n) v Q E):=by
 intro b s U H Q N h;show KW (D1 (he b s U H _ N h) λu s1 d=>?_) ht;have Wd X o T rx t:=d;have Wm a M A Z ea a0 q:=t;subst Z;obtain rfl:u=Zf a:=rx;show xZ T ea c W a0<|JX N.ok.mod.kin W.kp (D1 (ha y b s1 U o _ T q) λk R z=>?_) G L;have Wd n v e r C:=z;have Wa E hE q:=C;show#[e.kIn,?_];have P:DS (.ref a::n) (.ref a::k):=.cons Y r;have hl:((.ref a::k:TQ)++[]).length=S.length:=by rw[G9,<-P.length];show F.len _ _ _ _ q
 have g:=hb R (.ref a::k) e.kIn hl;rw[G9]at g;show IA<|Jk (F.run f.A f.stack R v #[.ref a::k,[]] (.ref a::k) (.ref a::n) Q E hr e.env0 g P q) λr s' m=>?_;cases r with
 |error j=>show rV B e.unwish m hE
 |ok fl=>
  cases fl with|ret u=>show e.after m|next=>show Ze m|brk=>show Ze m|cont=>show Ze m
structure yO (P:C5)(w:C6)(K:Cl)(mg:Tt)(base:C7)(C:Ch)(m:Zv)(k:Nat)(φ:TV->(Ug)->(Ue)->Prop):Prop where
 ex:∃f fd ps,GP K C/\Ge K C m f/\DQ K fd ps []/\zX P w K mg base (Ho P w base) k f fd ps (Oz φ)
def vT (i a0:Nat)(g:n[i]?=J (J (.inn G)))(xo:Iq f z p8 Ag)(hj:n[a0]?=J (J (.exc z Q)))(M:Gk p8 n)(M':yO f.prog f.w f.K f.mg f.base G.C p l Ar)(hr:zH l f.A)(hf:yn G.kvs p=D)(hm:p≠G.nm)(h:G7 f n (j::O) λr=>Ar (.inn G::r) (λa=>∃d b,a=.res d b/\b.a=G.a/\b.lp=G.lp/\Bk d b) Ag)
  (E: ~~~(f.N[i]?=J H)) (B:‹GO f.env.scope H›) (A:‹Yl H›) (e:‹Ym H›)
  (m: ~~~Uo j O f.env) (q: ~~~Uq K O f.env)
  (ht: ~~~(eval (.Call (.Attribute (.Name H y) p fC) (j::O) [] K) f.env=(do
   let ov <-eval (.Name H y) f.env
   Z8 fC.atName
   let(t,first) <-Z9 [ov] (Z6 ov p AB)
   ZA K t first (Zx K<|A3 (j::O) f.env) (Z4 K<|Zy [] f.env)))):HP f n i (.Call (.Attribute (.Name H y) p fC) (j::O) [] K) Bk:=λF U L Rk k w=>by have Wj X0 R rfl h1 W x:=xo.ex;have Wm t fd ps c o hb X:=M'.ex;have Wf hl u _:=k.inn g;show#[_,jm W (zG E B A e) c o X hr hb yb m q ht,_,hl,G.a,G.dx,_,Y,u.ob,u.look_m hf hm,h F U L _ k λr us H1 q1 P k1 r1=>?_];have s:=k.kz k1 P;show vn s g hj M x r1 q1 λa v H' S T=>by have Wj d b rfl V el N:=S;have Wc Z C:=T.backI s g V el;show w d b v H' N Z C
def fN(r:∀d,Q d->∃C,Kl C d/\XB q C i):bu q i (λU a H=>∃d S,M z (n++[J (.deep d S)]) (U++[J (.ref a)]) H/\Q d):=λU a H c=>by have Wh d S m o:=c;have Wa C p b:=r d o;have Wc j _:=sy m;have Wd s f e k g:=p.at j;cases e;show#[C,f,Ry k,λy e=>by have Wb l h:=g y e;show#[l,Ry h],b]
def nO(e:(n.set l D)[N]?=J (J l9)):n[N]?=J (J l9):=by
 rcases zx e with⟨_,z⟩|⟨_,z⟩;cases z
 show z
def M.drop{j:Nat}(b:M z n B m):M z (n.set j D) B m:=b.forget (by rw[Ht]) λl a e=>nO e
def M.dropS(u:M z n B m):M z (n.set l D) (B.set l D) m:=by
 have q:=u.drop (j:=l);have r:∀{i:Nat} {a:A} {s:T6},(n.set l D)[i]?=J (J a)->(B.set l D)[i]?=J s->B[i]?=J s:=λ{i a s} b g=>by
  by_cases k:l=i;subst k;rcases zx b with⟨_,k⟩|⟨k,_⟩;cases k
  show Ut Y k;rw[Iw k]at g;show g
 have H:∀{y:Ch},Ow z (n.set l D) (B.set l D) y->Ow z (n.set l D) B y:=λ{y} h=>by
  rcases h with k|⟨i,c,s,b,g,f⟩;show .inl k
  show .inr #[0,i,c,s,b,r b g,f]
 have x:zv (Gz z (n.set l D) B m) (Gz z (n.set l D) (B.set l D) m):=zj λa o h e=>#[λk=>h<|H k,e];show#[by rw[Ht,Ht];show u.len,λi c s b g=>(q.ok i c s b<|r b g).stay x (λp o f e=>#[e,(q.ft b (r b g) f).1,(q.ft b (r b g) f).2.1]) Y λ_ _ _ E=>E,λi t c d s G p b g F w=>q.dj i t c d s G p b g (r b F)<|r g w,λi C v e t c s p b g=>q.xd i C v e t c s p b<|r b g,q.tp,q.keep,q.oex]
def zB8 (o j:Nat)(k:Ev)(q:Ue)(s:f.stack=f.env::f.outer)(v:f.ex=[])(B:f.N.Nodup)(P:n[j]?=J D)(V:Gk k n)(hg:Gl f p)(N:f.mg p=J (.ref i))(Q:∀d,q d->∃C,Kl C d/\XB f.K C i)
  (L:∀(c:Tu) (xe:To) (r:Fr),Iq ((f.held c).wish xe) r k q->D0 ((f.held c).wish xe) (n.set j<|J<|.exc r λ_=>True) i7 {nx:=λb=>D0 f (b.set j D) Cb h9,rt:=h9.rt,bk:=λb=>h9.bk<|b.set j D,ct:=λb=>h9.ct<|b.set j D})
  (G:∀(c:Tu) (a:Ch) d S,q d->D0 ((f.held c).suite a) (k.set o<|J<|.deep d S) (g8::y8) {nx:=λb=>D0 f (b.set o D) Cb h9,rt:=h9.rt,bk:=λb=>h9.bk<|b.set o D,ct:=λb=>h9.ct<|b.set o D})
  (E: ~~~(f.N[o]?=J H)) (T: ~~~(f.env.scope.names.lookup H=J .local)) (t:‹Yl p›):
  D0 f n (.Try i7 [.ExceptHandler (J<|.Name p y) (J H) (g8::y8) K] [] [] fC::Cb) h9:=λF U u A m l=>by show#[_,zt (zg0 (R:=λU a u=>∃d S,M F (k++[J (.deep d S)]) (U++[J (.ref a)]) u/\q d) s B E T hg N (fN Q) t) zC,λc=>?_,λc a e h O=>?_];show L c _ F #[_,_,Y,s,v,λU d S a h w x=>#[d,S,w,x]] F U u _ (m.exc P) #[λb e h g z=>?_,l.rt,λb e h g z=>l.bk _ _ _ g.drop z,λb e h g z=>l.ct _ _ _ g.drop z];show z F e h A g.drop l;have Wh d S w x:=O;show G c a d S x F _ h _ w.lastAt #[λb e h g z=>?_,l.rt,λb e h g z=>l.bk _ _ _ g.dropS z,λb e h g z=>l.ct _ _ _ g.dropS z];show z F _ h A g.dropS l
inductive Mb (K:Cl)(H:Hp):V->Ch->Prop where
 |mk {a C S:Ch}{d:Ua}{init:T8} (e:H a=J (Hl a C d)) (hd:∀dx,d=J dx->∃fs,H dx=J (.xd fs)) (c:XC K C S init):Mb K H (.ref a) C
def pd(a:DM f cC B m r)(l:DT e9 m6)(b:Mb f.K m e9 i)(e:Zg f.K (.ref i) f9=J j8)(h:∀g,nU (.bool j8) {r with toks:=g}):C3 (C4 f.prog f.w) d9 (call (.builtin "isinstance") [m6,f9]) nU i6 r:=by
 cases b with|@mk j i x d u5 k hd xc=>cases(show m6=Zf j from l);have Wh n o c _:=cy a.hok k hd;show Jg (zm8 xc) a.kIn c e (λz=>nomatch z) h
def aC :yL f (.builtin "isinstance") (λxs H Q=>∃x B C b,xs=[x,.ref B]/\Mb f.K H x C/\Zg f.K (.ref C) (.ref B)=J b/\Q (.bl b) H):=by intro c s U H xs k Q a r h;have#[x,B,C,b,rfl,j,e,q]:=h;have Wd u v rfl i d:=DS.two r;cases(show v=Zf B from d);show pd a i j e λg=>#[.bl b,H,a.tok g,Y,q]
def iC :yL f (.builtin "isinstance") (λxs H Q=>∃x T C b,xs=[x,.ty T]/\Mb f.K H x C/\Zg f.K (.ref C) (.type T)=J b/\Q (.bl b) H):=by intro c s U H xs k Q a r h;have#[x,T,C,b,rfl,j,e,q]:=h;have Wd u v rfl i d:=DS.two r;cases(show v=eI T from d);show pd a i j e λg=>#[.bl b,H,a.tok g,Y,q]
def RB {G:Hp}(b:Kl i dc)(c:XC f.K i x u5)(h:AV (sub Aj m) e9 dc):Mb f.K m e9 i:=by have Wd j k rfl d a:=b.at h;show .mk (zf d).2 (λy e=>by have Wb g z:=a y e;show#[g,(zf z).2]) c
def wD(hg:Gl f "isinstance")(A:f.mg "isinstance"=D)(l:Gl f p)(o:f.mg p=J (.ref i))(h:DP f n j λd=>∃C S a b,Kl C d/\XC f.K C S a/\Zg f.K (.ref C) (.ref i)=J b/\Q (.bool b))
  (r:‹Yl p›) (s: ~~~(A3 [j,.Name p K] f.env=(Za,eval j f.env)::A3 [.Name p K] f.env)) (t: ~~~(A3 [.Name p K] f.env=(Za,eval (.Name p K) f.env)::A3 [] f.env)) (g: ~~~((Zx fC<|A3 [.Name p K] f.env).any (·.1)=Za)):
  DP f n (.Call (.Name "isinstance" y) [j,.Name p K] [] fC) Q:=λF U H R m k=>by show#[_,wt aC hg A boot_isinstance (zo zh (zo (eN (v:=.ref i) l o Y r) zI t) s) (he:=s) (hpl:=g),?_];show h F U H _ m λd x u z B w E=>?_;have#[C,S,a,b,p,c,e,q]:=z;show#[2,x,i,C,b,Y,RB (G:=u) p c E,e,k _ _ u q B w<|.bl b]
def zy5(hg:Gl f "isinstance")(A:f.mg "isinstance"=D)(i:Gl f p)(l:f.mg p=D)(w:ZD p=J (.type q5))(h:DP f n j λd=>∃C S a b,Kl C d/\XC f.K C S a/\Zg f.K (.ref C) (.type q5)=J b/\Q (.bool b))(v:‹p≠"__name__"›)
  (o:‹Yl p›) (r: ~~~(A3 [j,.Name p K] f.env=(Za,eval j f.env)::A3 [.Name p K] f.env)) (s: ~~~(A3 [.Name p K] f.env=(Za,eval (.Name p K) f.env)::A3 [] f.env)) (g: ~~~((Zx fC<|A3 [.Name p K] f.env).any (·.1)=Za)):
  DP f n (.Call (.Name "isinstance" y) [j,.Name p K] [] fC) Q:=λF U H R m k=>by show#[_,wt iC hg A boot_isinstance (zo zh (zo (eY i l w (show DT (.ty q5) (.type q5)from Y) v o) zI s) r) (he:=r) (hpl:=g),?_];show h F U H _ m λd x t z B u E=>?_;have#[C,S,a,b,p,c,e,q]:=z;show#[2,x,q5,C,b,Y,RB (G:=t) p c E,e,k _ _ t q B u<|.bl b]
def ze1(o:f.ex=[])(T:PE (f.wish (XE f Ax)) w j3)(c:GP f.K i)(B:Ge f.K i p x)(F:zX f.prog f.w f.K f.mg f.base (Ho f.prog f.w f.base) l x e7 S t9)(W:zH l f.A)(R:DQ f.K e7 S [])
  (V: ~~~(eval (.Call (.Attribute w p K) [] [] y) f.env=(do
   let ov <-eval w f.env
   Z8 K.atName
   let(x,first) <-Z9 [ov] (Z6 ov p AB)
   ZA y x first (Zx y<|A3 [] f.env) (Z4 y<|Zy [] f.env)))):
  PE (f.wish<|XE f Ax) (.Call (.Attribute w p K) [] [] y) (λU H Q=>j3 U H λG k=>∃a v n,G=.ref a/\k a=J (.ins i v n)/\n.lookup p=D/\∃E:XK,(∀a A,E (.ref a) D A->Ax U a A)/\t9 [.ref a] k Q E):=by
 intro e s U H Q L h;show KW (D1 (T e s U H _ L h) λu C d=>?_) V;have Wd G k b Z m:=d;have Wm a v n M O N t:=m;have Wa E P q:=t;subst M;obtain rfl:u=Zf a:=Z;show xZ b O c B N ?_;have z:DS [.ref a] [.ref a]:=.cons Y .nil;have X:([.ref a]++[]:TQ).length=S.length:=by rw[G9,<-z.length];show F.len _ _ _ _ q
 show Dl b.kIn B.kp<|IA<|Jk (F.run f.A f.stack C k #[[.ref a],[]] [.ref a] [.ref a] Q E W b.env0 (R C [.ref a] b.kIn X) z q) λr s' g=>?_;cases r with
 |error j=>show rV o b.unwish g P
 |ok fl=>
  cases fl with|ret u=>show b.after g|next=>show Ze g|brk=>show Ze g|cont=>show Ze g
def bL (i j:Nat)(g:n[i]?=J (J (.inn G)))(xo:Iq f z p8 Ag)(hj:n[j]?=J (J (.exc z Q)))(A:Gk p8 n)(S:yO f.prog f.w f.K f.mg f.base G.C p l Ar)(hr:zH l f.A)(hf:yn G.kvs p=D)(X:p≠G.nm)(h:Ar [.inn G] (λa=>∃d b,a=.res d b/\b.a=G.a/\b.lp=G.lp/\Bk d b) Ag)
  (x: ~~~(f.N[i]?=J H)) (u:‹GO f.env.scope H›) (t:‹Yl H›) (e:‹Ym H›)
  (V: ~~~(eval (.Call (.Attribute (.Name H y) p fC) [] [] K) f.env=(do
   let ov <-eval (.Name H y) f.env
   Z8 fC.atName
   let(o,first) <-Z9 [ov] (Z6 ov p AB)
   ZA K o first (Zx K<|A3 [] f.env) (Z4 K<|Zy [] f.env)))):HP f n i (.Call (.Attribute (.Name H y) p fC) [] [] K) Bk:=λF U a0 Rk k r=>by have Wj X0 R rfl h1 M s:=xo.ex;have Wm o fd ps c m P N:=S.ex;have Wf Z q _:=k.inn g;show#[_,ze1 M (zG x u t e) c m N hr P V,_,Z,G.a,G.dx,_,Y,q.ob,q.look_m hf X,?_];show vn k g hj A s .nil h λa v T C E=>by have Wj d b rfl L W B:=C;have Wc O w:=E.backI k g L W;show r d b v T B O w
def nA (i a0:Nat)(b:n[i]?=J (J (.inn G)))(xo:Iq f z p8 Ag)(hj:n[a0]?=J (J (.exc z Q)))(N:Gk p8 n)(M':yO f.prog f.w f.K f.mg f.base G.C p l Ar)(hr:zH l f.A)(hf:yn G.kvs p=D)(hm:p≠G.nm)(h:G7 f n (j::O) λt=>Ar (.inn G::t) (λa=>∃d,a=.res d G/\El d) Ag)
  (L: ~~~(f.N[i]?=J H)) (E:‹GO f.env.scope H›) (C:‹Yl H›) (e:‹Ym H›)
  (k: ~~~Uo j O f.env) (o: ~~~Uq K O f.env)
  (ht: ~~~(eval (.Call (.Attribute (.Name H y) p fC) (j::O) [] K) f.env=(do
   let ov <-eval (.Name H y) f.env
   Z8 fC.atName
   let(w,first) <-Z9 [ov] (Z6 ov p AB)
   ZA K w first (Zx K<|A3 (j::O) f.env) (Z4 K<|Zy [] f.env)))):DP f n (.Call (.Attribute (.Name H y) p fC) (j::O) [] K) El:=λF U M Rk g A=>by have Wj X0 R rfl h1 V B:=xo.ex;have Wm w fd ps c m Z W:=M'.ex;have Wf hl x _:=g.inn b;show#[_,jm V (zG L E C e) c m W hr Z yb k o ht,_,hl,G.a,G.dx,_,Y,x.ob,x.look_m hf hm,h F U M _ g λt us H1 q1 S u r1=>?_];have q:=g.kz u S;show vn q b hj N B r1 q1 λa v H' T s=>by have Wa d rfl P:=T;have Wc X r:=s.backI q b Y Y;rw[jH b]at r;show A d v H' P X.tp (u.trans<|Kz.giv q b s) r
def Hi (X:Cx)(O:Ev)(e:Dc)(Q:A2->Uk):Prop:=∀(F:Fr) (U:St) (H:Hp) (R:VK),M F O U H->(∀d a v b,Q d a->M F a U b->AV (Gz F a U b) v d->R v b)->uB X e U H R
def J4 (X:Cx)(O:Ev)(e:Dc)(Q:Bool->Uk):Prop:=∀(F:Fr) (U:St) (H:Hp) (R:Ts),M F O U H->(∀b a c,Q b a->M F a U c->R b c)->Oc X e U H R
def J5 (X:Cx)(O:Ev)(e:Dc)(Q:Bool->Uk):Prop:=∀(F:Fr) (U:St) (H:Hp) (R:Ts),M F O U H->(∀b a c,Q b a->M F a U c->R b c)->∃t,PW X e t/\t U H R
variable {AN Fe:A2->Uk}
def DP.u (h:DP f n j λd=>AN d n):Hi f n j AN:=λF U H R m k=>h F U H R m λd v b q t a r=>k d n v b q (m.kz a t) r
def HP.u(h:HP f n l j λd a=>AN d (n.set l (J (.inn a)))):Hi f n j AN:=λF U H R m k=>h F U H R m λd a v c q b r=>k d _ v c q b r
variable {Bm:Bool->Uk}
def z24 (h:Hi f n j λd c=>∃b,d=.bool b/\Bm b c)(i: ~~~(∀a,isTrue j f.env a=(do let v <-a;Z8 j.pos;Z9 [v] (truthy v)))):J4 f n j Bm:=λF U H R m k=>by show#[_,P4 zh i,h F U H _ m λd c v e g l o=>?_];have Wa b rfl q:=g;cases o.bl_inv;show#[b,Y,k b c e q l]
def z58 (h:J4 f n j λw a=>Bm (!w) a):J4 f n (.UnaryOp .Not j y) Bm:=λF U H R m k=>#[_,P7 yK,h F U H _ m λw a b d c=>k _ a b d c]
theorem J5.t (h:J5 f n j Bm):J4 f n j Bm:=λF U H R m k=>by have Wa t y q:=h F U H R m k;show#[t,y.pt,q]
def fP (h:J4 f n j Bm):J5 f n (.BoolOp .Or [j] y) Bm:=λF U H R m k=>#[_,P5 yK,h F U H R m k]
def OA (h:J4 f n j λk a=>if k=I then Bm I a else J5 f a (.BoolOp .Or (w::O) y) Bm):J5 f n (.BoolOp .Or (j::w::O) y) Bm:=λF U H R m k=>by
 show#[_,P6 yK my,h F U H _ m λgV a b c d=>?_];cases gV with|false=>show uW ((by simpa using c:J5 f a _ Bm) F U b R d k)|true=>show sJ<|k _ a b (by simpa using c) d
def z92 {op}(h:Hi f n j AN):Hi f n (.BoolOp op [j] y) AN:=λF U H R m k=>#[_,P8 zh,h F U H R m k]
def z48 (h:Hi f n j λx a=>∃k,x=.bool k/\if k=I then Hi f a (.BoolOp .And (w::O) y) AN else AN (.bool Za) a):Hi f n (.BoolOp .And (j::w::O) y) AN:=λF U H R m k=>by
 show#[_,P9 zh zh,h F U H _ m λx a g c b d e=>?_];have Wa gV rfl b:=b;cases e.bl_inv;show#[gV,Y,?_];cases gV with|true=>show sJ (by simpa using b F U c R d k)|false=>show uW<|k _ a _ c (by simpa using b) d<|.bl _
def Hi.keep (h:Hi f n j AN)(F:Fr)(U:St)(H:Hp)(R:VK)(m:M F n U H)(k:∀d a v b,AN d a->M F a U b->zv (Gz F n U H) (Gz F a U b)->AV (Gz F a U b) v d->R v b):uB f j U H R:=
 h (F.up<|Gz F n U H) U H R m.up λd a v b q c r=>k d a v b q c.down (m.upold c) r
variable {A4:R2}{u7:CmpOp}
def zZ0(g:GK f (Z5 u7) A4)(t:ZB u7 w=Za)(h:Hi f n j λx b=>Hi f b w λd a=>∃k,IE A4 x d k/\Bm k a):J4 f n (.Compare j [u7] [w] y) Bm:=λF U H R m k=>by show#[_,qc g zh zh t,h F U H _ m λx b i e l z A=>Hi.keep l F U e _ z λd a o c v p r u=>?_];have Wa w s q:=v;show s _ c i o _ (A.same r) u #[w,Y,k w a c q p]
def z98(g:GK f (Z5 u7) A4)(t:ZB u7 w=Za)(h:Hi f n j λx b=>Hi f b w λd a=>∃k,IE A4 x d k/\AN (.bool k) a):Hi f n (.Compare j [u7] [w] y) AN:=λF U H R m k=>by show#[_,rZ g zh zh t,h F U H _ m λx b i e l z A=>Hi.keep l F U e _ z λd a o c v p r u=>?_];have Wa w s q:=v;show s _ c i o _ (A.same r) u<|k _ a _ c q p<|.bl w
def Hi.imp(h:Hi f n j AN)(w:∀d a,AN d a->Fe d a):Hi f n j Fe:=λF U H R m k=>h F U H R m λd a v c q b r=>k d a v c (w d a q) b r
def pE (d:f.A.units+64<cLine)(h:Hi f n w λx b=>Hi f b gV λc a=>lO x c λk=>Bm (!k) a):J4 f n (.Compare w [.NotEq] [gV] y) Bm:=zZ0 (Rr d) (yN _) (h.imp λx _ h=>h.imp λc _ z=>by have We k _ j q:=z;show#[!k,j,q])
def RC (d:f.A.units+64<cLine)(h:Hi f n w λx b=>Hi f b gV λc a=>lO x c λk=>AN (.bool k) a):Hi f n (.Compare w [.Eq] [gV] y) AN:=z98 (fZ d) (yN _) (h.imp λx _ h=>h.imp λc _ z=>by have We k j _ q:=z;show#[k,j,q])
def iH(h:J4 f n j λk a=>D0 f a (if k=I then y8 else Cb) {h9 with nx:=λb=>D0 f b i7 h9}):D0 f n (.If j y8 Cb y::i7) h9:=λF U H g m r=>by
 show#[_,zt (NS yK zC zC) zC,h F U H _ m λk a c e d=>?_];cases k with|true=>show sJ (by simpa using e F U c _ d r.then)|false=>show uW<|by simpa using e F U c _ d r.then
def zI1 (i:Nat)(h:Hi f n j λd a=>∃b,a[i]?=J (J (.inn b))/\h9.rt (.res d b)):D0 f n (.Return (J j) y::i7) h9:=λF U H o m r=>by show#[_,zt (vh zh) zC,h F U H _ m λd a v l c e k=>by have Wa b g q:=c;show r.rt _ _ _ (yh.res e g k) q]
def jA (h:Hi f n j λd _=>h9.rt (.dat d)):D0 f n (.Return (J j) y::i7) h9:=λF U H i m r=>by show#[_,zt (vh zh) zC,h F U H _ m λd a v g c b e=>r.rt _ _ _ (yh.dat b e) c]
def dq (b:Nat)(i:f.N.Nodup)(h:Hi f n j λd a=>D0 f (a.set b (J (.dat d))) i7 h9)(o: ~~~(f.N[b]?=J p))(k:@&IT f.env.scope p)
  (s: ~~~(Z1 j (J<|.Name p K) y.line f.env=pure Za)) (hf:@&(f.fn p=I\/f.env.scope.names.lookup p=J .local)):D0 f n (.Assign [.Name p K] j y::i7) h9:=λF U H e m r=>by show#[_,zt (vE i o k zh s hf) zC,h F U H _ m λd a v c g l q=>g F _ c e (l.set q) r]
def RD (i:Nat)(c:n[i]?=J (J (.own (T++[dc]))))(q:AN dc (n.set i (J (.own T))))
  (G: ~~~(f.N[i]?=J p)) (E:‹GO f.env.scope p›) (C:‹Yl p›) (e:‹Ym p›)
  (b: ~~~(Z0 (.Name p y) "pop" f.env (eval (.Name p y) f.env)=eval (.Name p y) f.env)) (a: ~~~((K.endLine == fC.line)=I)):
  Hi f n (.Call (.Attribute (.Name p y) "pop" K) [] [] fC) AN:=λF U H R m k=>by
 have Wp l xs r s B Q S:=m.own i _ c;have Wd A v rfl M L:=B.snoc_inv;show#[_,Qy JV PySem.F.slot_list_pop PySem.F.type_list_pop Qz (zG G E C e) b a,#[_,r,.inl #[Y,#[_,D3.of s]],?_]];show#[8,l,_,v,Y,Y,s,by simp,?_];have N:Ow F n U l:=.inr #[0,i,_,_,c,r,Y];have g:zv (Gz F n U H) (Gz F (n.set i<|J<|.own T) U<|upd H l<|.lst (A++[v]).dropLast):=zj λP o h j=>#[λz=>h ?_,by rw[zg λz=>h<|by rw[z];show N];show j];show k dc _ v _ q (m.wrOwn c r<|by rw[List.dropLast_concat];show M)<|L.same g;rcases z with z|⟨O,w,u,e1,t,x⟩;show .inl z
 rcases zx e1 with⟨rfl,z⟩|⟨_,d⟩;cases z;show .inr #[0,_,_,_,c,t,x]
 show .inr #[0,O,w,u,d,t,x]
def xW (a:TJ)(O:Ev)(b:Nat)(s:zD):Ev:=(ym a O).set b<|J<|.inn s
def cM(h:G.at i\/m i=D):G.un m i=D:=by
 cases q:G.un m i with
 |none=>rfl
 |some o=>
  have Wc w e:=zf q;rcases h with h|h;show(h.elim w.1 w.2).elim
  rw[h]at e;cases e
variable {x9:GQ}{j6:TJ}
theorem zw9(h0:n[l]?=J (J (.inn G)))(bo:j6[N]?=J (J l))(L:x9.free (xW j6 n N G)=I)(h:HN f n j w λZ=>Z.length<=1000/\yM (λC T K W=>f.comp S e8 C T K W) x9 O gV (xW j6 n N G) Z [] j2)(F:Fr) (U:St) (H:Hp) (R:VK) (m:M F n U H) (k:∀Z v H',j2 Z->zF F H'->Kz F H H'->yF F n U H v H' Z->R v H'):∃d0:Ch->C1->Hp->TU->Cx,d0=(λC T K W=>f.comp S e8 C T K W)/\jf (LZ f j w) j6 (rF f.K x9) (QW d0 O) (eC d0 gV) U H R:=by
 show#[_,Y,h F U H _ m λZ d7 H1 c9 t1 k1 d1 s E=>?_];have Wc hl q1:=c9;have m1:=m.kz k1 t1;have Wf bg a7 b9:=m1.inn h0;have b4:∀{x:Ch},G.at x->Ow F n U x:=λz=>.inr #[0,l,_,_,h0,bg,z];have b2:∀{x:Ch},G.at x->∃o,H1 x=J o/\∀ts,o≠.tup ts:=λz=>a7.obj z;have b7:∀{x:Ch},G.at x->x≠s:=λz e=>by have Wa o e1 _:=b2 z;rw[e,E]at e1;cases e1
 let P:Fr:=#[G.un H1,λx=>(Ow F n U x/\x≠G.a/\x≠G.lp)\/x=s,F.tp];have c8:∀{x:Ch},G.at x->¬P.O0 x:=λ{x} z a0=>a0.elim (λa0=>z.elim a0.2.1 a0.2.2)<|b7 z;let Nd:Uk:=λB=>B[N]?=J (J<|.inn G)/\∀a3 a,a3≠N->B[a3]?=J (J a)->(∃d,a=.dat d)\/a=.tape;have ck:N<(ym j6 n).length:=by unfold ym;rw[DZ];show((Gm.mp bo).1)
 have g:Nd (xW j6 n N G):=#[J7 ck,λa3 a Q z=>by unfold xW at z;rw[Iw (Gx Q)]at z;have We _ _ _ b6:=wR z;show b6];have a4:∀{B:Ev} {τ:St} {x:Ch},Nd B->B.length=τ.length->(Ow P B τ x↔Ow F n U x\/x=s):=λ{B τ x} hh ln=>#[λz=>by
  rcases z with(z|z)|⟨a3,a,u,e1,e2,ab⟩;show .inl z.1
  show .inr z;by_cases Q:a3=N;subst Q;rw[hh.1]at e1;cases e1;show .inl<|b4 ab;rcases hh.2 a3 a Q e1 with⟨d,rfl⟩|rfl;show ab.elim
  show ab.elim,λz=>by
  by_cases a0:G.at x;have Q:N<τ.length:=by rw[<-ln];show(Gm.mp hh.1).1
  show .inr #[0,N,_,_,hh.1,Gh Q,a0];show .inl<|z.elim (λz=>.inl #[z,λe=>a0<|.inl e,λe=>a0<|.inr e]) .inr]
 have gz:∀{B b1:Ev} {X c1:St} {H:Hp},Nd B->Nd b1->B.length=X.length->b1.length=c1.length->zv (Gz P B X H) (Gz P b1 c1 H):=λh1 h2 l1 l2=>zj λa o h e=>#[λz=>h<|(a4 h1 l1).mpr<|(a4 h2 l2).mp z,e];have cf:∀{K:Hp},zF F K->zF P K:=λt=>t.to Y λx z=>.inl #[.inl z,λe=>(b9 x<|.inl e).1 z,λe=>(b9 x<|.inr e).1 z];have a9:zv H1 (upd H1 s<|.lst []):=zP E;have li:(xW j6 n N G).length=(xl j6 U).length:=by unfold xW ym xl;rw[Ht,DZ,DZ]
 have d2:M P (xW j6 n N G) (xl j6 U) (upd H1 s<|.lst []):=by
  have g1:zv (Gz F n U H1) (Gz P (xW j6 n N G) (xl j6 U)<|upd H1 s<|.lst []):=λa o e=>by have Wc z1 z2:=zf e;have na:=zk z2 E;show zr (λz=>((a4 g li).mp z).elim z1 na)<|by rw[zg na];show z2
  have fo:∀{i:Nat} {a:A} {u:T6} {x:Ch},(xW j6 n N G)[i]?=J (J a)->Fc u a x->i=N:=λ{i a u x} e ab=>Ng λhn=>by
   rcases g.2 i a hn e with⟨d,rfl⟩|rfl;show ab
   show ab
  show#[li,λi a u e1 e2=>?_,λi a3 a b u t x e1 e2 _ _ ab f'=>(fo e1 ab).trans (fo e2 f').symm,λi r q e=>?_,cf<|t1.same a9,λx o e _=>a9 x o (zf (p:=λx=>x≠G.a/\x≠G.lp) e).2,?_];by_cases Q:i=N;subst Q;rw[g.1]at e1;cases e1;rw[wa bo bg]at e2;cases e2;show#[Y,a7.same g1 λx o _ e=>a9 x o e,λx z=>#[c8 z,cM<|.inl z]];have az:=e1;unfold xW at az;rw[Iw (Gx Q)]at az;have We a3 w1 w2 w3:=wR az;rcases w3 with⟨d,rfl⟩|rfl;have Wa v g2 g3:=m1.dat a3 d w2;rw[wa w1 g2]at e2;cases e2;show#[v,Y,g3.same g1]
  have Wl t b c g2 g3:=m1.tvar a3 w2;rw[wa w1 g3]at e2;cases e2;show#[t,b,c,g2,Y];by_cases Q:i=N;subst Q;rw[g.1]at e;cases e;rcases g.2 i _ Q e with⟨d,a0⟩|a0<;>cases a0
  rintro x (z|z);have Wa o ho hn:=m1.owEx z.1;show#[o,a9 _ _ ho,hn];show#[_,by rw[z];show zi,zZ]
 show#[λi b6 ys τ K=>b6=Z.length-i/\i<=Z.length/\∃ad:TL,M P (xW j6 n N G) τ K/\K s=J (.lst ys)/\D2 (Gz P (xW j6 n N G) τ K) ys ad/\ad.length<=i/\yM (λC T K W=>f.comp S e8 C T K W) x9 O gV (xW j6 n N G) (Z.drop i) ad j2,
  #[Z.length,by simp,#[Gj _,[],d2,#[zi,.nil,D4 _,q1]]],?_]
 rintro i b6 ys τ K ⟨rfl,hi,ad,m2,ha,av,b0,cw⟩;have sG:zv (Gz F n U H1) (Gz P (xW j6 n N G) τ K):=λa o e=>by have Wc z1 z2:=zf e;show m2.old a o<|zr (λz=>z.elim (λz=>z1 z.1)<|zk z2 E)<|zr (p:=λx=>x≠G.a/\x≠G.lp) #[λe=>z1<|b4<|.inl e,λe=>z1<|b4<|.inr e] z2
 have Wc w1 w2:=d1 i K _ sG;by_cases a6:i<Z.length;have hd:=Gh a6;rw[(KQ a6)]at cw;have Wa B eb body:=cw;have Wc go yl:=w1 _ hd;have a5:Nd B:=by
  have Wh is d6 e0 e:=GQ.is_ok eb;have c5:N∉is:=λz=>by have:=JL.mp L N<|e0▸z;unfold IF at this;rw[g.1]at this;cases this
  show#[by rw[uS e c5];show g.1,λa3 a Q z=>?_];by_cases hn:∀d,a≠.dat d;show g.2 a3 a Q<|vA e z hn;simp only[Mq,Mw]at hn;show .inl hn
 show .inr #[go,λb3 b5 H'=>∃ad:TL,M P (xW j6 n N G) b5 H'/\H' s=J (.lst b3)/\D2 (Gz P (xW j6 n N G) b5 H') b3 ad/\ad.length<=i+1/\yM (λC T K W=>f.comp S e8 C T K W) x9 O gV (xW j6 n N G) (Z.drop<|i+1) ad j2,
  λb3 b5 H' c7=>by have#[c4,r1,r2,r3,r4,r5]:=c7;show#[Z.length-(i+1),(MJ a6),Y,#[a6,c4,r1,#[r2,r3,r4,r5]]],λx H3 y=>?_]
 have Wc a8 d3:=yl x H3 y;show rP eb (m2.kz (Kz.of_same a8)<|m2.tp.same a8) (d3 λa o _ e=>m2.fresh e) λX m4 C T c6 W=>body C T c6 W P X H3 _ m4 λb H5 qb t5 k5=>?_;have m5:=m4.kz k5 t5;have c2:=av.same ((Kz.of_same a8).gz m2.tp |>.trans ((gz g a5 m2.len m4.len).trans<|(k5.gz m4.tp).trans<|gz a5 g m4.len (GQ.back eb L m4).len));have au:NT P s:=#[λt b c e=>by have:=(t1 t b c e).1.free E;show#[this.1,this.2.1],tN t1.tab E];have bt:=k5 _ _ (a8 _ _ ha) au;cases b with
 |false=>
  have d4:yM (λC T K W=>f.comp S e8 C T K W) x9 O gV (xW j6 n N G) (Z.drop<|i+1) ad j2:=by simpa using qb
  show uW #[ad,GQ.back eb L m5,#[bt,c2,(Gg b0<|GU _ _),d4]]
 |true=>
  show sJ λC T ax W=>?_;have qe:DP (f.comp S e8 C T ax W) B gV λy=>yM (λC T K W=>f.comp S e8 C T K W) x9 O gV (xW j6 n N G) (Z.drop<|i+1) (ad++[y]) j2:=by have z:=qb;rw[Ur Y]at z;show z C T ax W
  show qe P X H5 _ m5 λy v H6 qy t6 k6 r6=>?_;have bc:=k6 _ _ bt au;have d5:ys.length<=i:=by rw[av.length];show b0
  have ah:P.O0 s:=.inr Y;have b8:∀t b c,P.tp=J (t,b,c)->s≠t/\s≠b/\s≠c:=λt b c e=>(t1 t b c e).1.free E;have ay:P.H0 s=D:=cM<|.inr E;have m7:=(GQ.back eb L<|m5.kz k6 t6).wr (o:=.lst<|ys++[v]) zZ ah b8 ay (xT bc) (λi r q z=>by by_cases Q:i=N;subst Q;rw[g.1]at z;cases z;rcases g.2 i _ Q z with⟨d,a0⟩|a0<;>cases a0);show#[bc,yu (),#[ad++[y],m7,#[zi,?_,by simp;show b0,qy]]];have c3:zv (Gz P (xW j6 n N G) X H6) (Gz P (xW j6 n N G) X<|upd H6 s<|.lst<|ys++[v]):=zj λa o h e=>#[h,by rw[zg (λz=>h<|.inl<|by rw[z];show ah)];show e];have lb:=(GQ.back eb L m5).len;show((c2.same<|(gz g a5 lb m5.len).trans<|(k6.gz m5.tp).trans<|gz a5 g m5.len lb).append<|.cons (r6.same<|gz a5 g m5.len lb) .nil).same c3
 have e:=(JM hi<|JK a6);subst e;rw[K4]at cw;have bb:=(m2.inn g.1).2.1;have cm:Kz F H1 K:=λx o e b6=>by
  by_cases za:x=G.a;subst za;rw[a7.ob]at e;cases e;show bb.ob;by_cases zl:x=G.lp;cases zp:G.pl with|true=>subst zl;rw[a7.ls zp]at e;cases e;show bb.ls zp|false=>show Ut (zl.trans<|a7.eq zp) za
  show m2.keep x o (zr (p:=λx=>x≠G.a/\x≠G.lp) #[za,zl] e) b6
 show .inl #[w2<|D4 _,k ad _ K cw (m.tp.re m2.tp Y) (k1.trans cm)<|yF.back m k1 t1 #[1,s,ys,Y,E,ha,av.same<|zj λa o h e=>#[#[λz=>h<|(a4 g m2.len).mpr<|.inl z,λz=>h<|(a4 g m2.len).mpr<|.inr z],e]]]
def z90 (N:TR)(a:TJ)(g:GQ)(t r:Nat)(S:n[t]?=J (J (.inn G)))(h:HN f n j w λu=>u.length<=1000/\yM (λC d c e=>f.comp N e8 C d c e) g O gV (xW a n r G) u [] j2)
  (s: ~~~(a[r]?=J (J t))) (v:‹N.Nodup›) (M: ~~~(e8.kind=.function)) (L:‹∀o∈e8.names,o.2≠.cell›) (z:‹∀o∈e8.names,o.2=.local->e8.names.lookup o.1=J .local›) (E: ~~~(e8.names.all (Hn f.env.scope)=I)) (P: ~~~(a.length=N.length))
  (B: ~~~(((a.zip N).all λp=>match p.1 with|none=>I|some Q=>f.N[Q]? == J p.2&&e8.names.lookup p.2 == J .free)=I)) (i: ~~~(g.free (xW a n r G)=I))
  (hg:@&(∀C d c e,N.Nodup->PG (f.comp N e8 C d c e) j (rF f.K g)))
  (A: ~~~(f.calm=I)) (K: ~~~(∀x,Zz w f.env x=pure x)):FA f n (.ListComp gV [#[j,w,O,0]] e8 y) j2:=λF U H R m k=>by have Wa T rfl h:=zw9 S s i h F U H R m k;show#[_,N6 A #[M,v,L,z,tm E,P,B] sg (λC d c e=>hg C d c e v) (λC d c e b G U H j2 q h=>mP b G U H j2 q<|h C d c e) (λC d c e b G U H j2 q h=>zh b G U H j2 q<|h C d c e) K,h]
def jr(b:DM f cC B m r)(e:m R=J (Hl R i (J oa)))(E:m oa=J (.xd o9))(c:XC f.K i x u5)(n:Zi f.K (.ref i) p=J D)(l:o9.lookup p=J e9)(h:∀u y,DM f cC B m y->DT e9 u->nU u y):C3 (C4 f.prog f.w) d9 (getAttr (.ref R) p j8) nU i6 r:=by
 have Wc j _:=b.hok R _ e;have#[U,C,P,O,A,H]:=j;have Wa F M S:=b.hok oa _ E;have Wa G W V:=oH M;have Wa u K w:=vG.some_of (v:=e9) (o:=F p) (by rw[<-l];show S p);have Q:PySem.W.InstAt r.heap R U i (J G):=cx P O #[C,H] (by rw[A];show W);have#[nm,qn,N,bs,sn,sub,ab,L,X,k0,k1,k2,k3,k5,mN,hC,hN,hi,T,Z,k,a,s,_]:=yR b.kIn c.ok;have z:Zm f.K i=I:=by unfold Zm;rw[k];show a
 have q:=h u _ (b.tok<|r.toks+1) w;have#[h0,g,d,t,os]:=r;show yd5 b.kIn c Q (Dk z n Y<|by rw[V,K]) (oR w) q
def zP5(c:XC f.K i x u5)(n:Zi f.K (.ref i) p=J D)(G:PE f j j3)(F:Z0 j p f.env (eval j f.env)=eval j f.env):PE f (.Attribute j p y) (λU H Q=>j3 U H λr b=>∃a e k v,r=.ref a/\b a=J (Hl a i (J e))/\b e=J (.xd k)/\k.lookup p=J v/\Q v b):=by intro d s U H Q w h;show cp F<|D1 (G d s U H _ w h) λu M=>Wd λr b E K m=>?_;have Wg a e o:=m;have Wp k v A B z l q:=o;subst A;obtain rfl:u=Zf a:=K;show jr E B z c n l λN L t C=>#[v,b,t,C,q]
def bf (c:XC f.K i x u5)(A:Zi f.K (.ref i) p=J D)(h:DP f n j λe=>∃b d,e=xD i b/\yn b p=J d/\Q d)(t: ~~~(Z0 j p f.env (eval j f.env)=eval j f.env)):DP f n (.Attribute j p y) Q:=λF U H R m k=>by show#[_,zP5 c A zh t,?_];show h F U H _ m λe K g w E s G=>?_;have Wd b d rfl hf q:=w;have Wm a l C rfl B o r:=G.xc_inv;have Wa v u z:=r.get hf;show#[7,a,l,C,v,Y,(zf B).2,(zf o).2,u,k d v g q E s z]
variable {Ff:Df->Sem Bool}
def zA7{a:Tt}(G:Gi q "__init__" p g8 i e7)(V:zq ["self",H] ["self",H] (zb g8))
  (F:zA g8=[.Expr (.Call (.Attribute (.Name "StayError" y) "__init__" K) [.Name "self" fC,.JoinedStr [.Constant (.str BJ) l k9,.FormattedValue (.Name H Aq) (-1) D By,.Constant (.str Ek) N BS] BU] [] BD) Cv,.Assign [.Attribute (.Name "self" EZ) m8 Fb] (.Name H F7) F8])
  (hg:(zb g8).names.lookup ("StayError":Zv)=J .globalImplicit) (S:a "StayError"=J (.ref R)) (xs:XS q R) (f:XC q x R u5) (L:Zi q (.ref x) m8=J D) (M:BJ.length<=10000) (z:Ek.length<=10000)
 (m:∀b:Df,eval (.Call (.Attribute (.Name "StayError" y) "__init__" K) [.Name "self" fC,.JoinedStr [.Constant (.str BJ) l k9,.FormattedValue (.Name H Aq) (-1) D By,.Constant (.str Ek) N BS] BU] [] BD) b=(do
   let ov <-eval (.Name "StayError" y) b
   Z8 K.atName
   let(i,first) <-Z9 [ov] (Z6 ov "__init__"<|Ff b)
   ZA BD i first (Zx BD<|A3 [.Name "self" fC,.JoinedStr [.Constant (.str BJ) l k9,.FormattedValue (.Name H Aq) (-1) D By,.Constant (.str Ek) N BS] BU] b) (Z4 BD<|Zy [] b)))
  (n:GO (zb g8) "self") (o:GO (zb g8) H) (j:‹Yl H›) (d:‹Ym H›):zX E s q a v GA 1 i e7 ["self",H] (Rz x m8):=by show G.ok V (λB P Q T h=>?_) λU A e W P B Q T X h=>?_;have Wh BJ c rfl _:=h;rfl;have Wj g c rfl t r k:=h;rw[F];show#[_,zt (vw<|kJ (C:=x) (init:=u5) hg S xs f.ok (zo (zG (i:=0) Y n)<|zo (kA vC (gJ<|zG (i:=1) Y o j d) vC) zI) (ht:=m _))<|vq<|dg (zG (i:=0) Y n) (zG (i:=1) Y o j d) f L,?_];show#[_,Y,BJ,Y,M,_,Y,c,Y,t,_,Y,lu t,Ek,Y,z,g,_,D,Y,GI Y,r,?_];show#[_,Y,#[_,Y,#[g,Y,r,λu O w=>k u O w]]]
def RF (C:Ch)(d:Zv):Sp:=λe H f _=>∃(a l:Ch) (xs:TM),e=[.ref a,.ref l]/\H a=J (HR a C D)/\H l=J (.lst xs)/\∀c b,H c=D->(upd H c<|.lst xs) b=D->b≠a->f .non (upd (upd (upd H c<|.lst xs) b<|.xd [(d,.ref c)]) a<|HR a C<|J b)
structure OB (P:C5)(w:C6)(K:Cl)(mg:Tt)(base:C7)(x:Zv)(k:Nat)(C:Ch)(fl:Zv):Prop where
 m:mg x=J (.ref C)
 kp:Zh K (.ref C)=I
 ex:∃S f fd ps,xx K C S (J<|.ref f)=I/\Zt K (.ref f)=J (.type "function")/\DQ K fd ps []/\zX P w K mg base GA k f fd ps (RF C fl)
def bH{e:Dc}{j:Nat} (xo:Iq f z p8 Q)(hc:f.calm=I)(O:OB f.prog f.w f.K f.mg f.base p l i H)(hr:zH (l+1) f.A)(hg:Gl f p)(hj:n[j]?=J (J (.exc z Ag)))(le:Gk p8 n)(h:DP f n e λd=>∃M,d=.list M/\wx M=I/\Q (xD i [(.str H,.list M)]))
  (N:‹Yl p›) (he: ~~~Uo e [] f.env):D0 f n (.Raise (J<|.Call (.Name p y) [e] [] K) D fC::i7) h9:=λF U a3 a5 m rr=>by
 have Wj Z R rfl h1 h2 h3:=xo.ex;have#[S,a4,fd,ps,c,hf,hb,G]:=O.ex;show#[_,zt (qw c hc<|jF (X:=Z.wish<|XE Z R) c hf O.kp G hr hg O.m hb (zo zh zI he) N he) zC,?_];show h F U a3 _ m λd v B q1 t1 k1 r1=>?_;have We M rfl nl qi:=q1;have Wd a0 xs rfl g1 g2:=r1.lst_inv;have C:=m.kz k1 t1;have A:B a0=J (.lst xs):=(zf g1).2;show#[GI Y,λa V=>#[3,a,a0,xs,Y,zi,by rw[zg (λg=>by rw[g,V]at A;cases A)];show A,λr dx t u L=>#[Y,a,J dx,Y,#[zi,?_]]]];rw[uq];have s:r≠a:=λg=>by rw[g,zi]at t;cases t
 have w:dx≠r:=λg=>by rw[g,zi]at u;cases u
 have k:B r=D:=by rw[zg s]at t;show t
 have E:B dx=D:=by rw[zg w,zg L]at u;show u
 generalize x:upd (upd (upd (upd B a<|HR a i D) r<|.lst xs) dx<|HO.xd [(H,.ref r)]) a (Hl a i<|J dx)=H3;have s3:∀q,q≠a->q≠dx->q≠r->H3 q=B q:=λq ya yd yl=>by rw[<-x,zg ya,zg yd,zg yl,zg ya]
 have ea:H3 a=J (Hl a i<|J dx):=by rw[<-x];show zi
 have ed:H3 dx=J (HO.xd [(H,.ref r)]):=by rw[<-x,zg L];show zi
 have el:H3 r=J (.lst xs):=by rw[<-x,zg s,zg w.symm];show zi
 have T:zv B H3:=λq o e=>by rw[s3 q (λg=>by rw[g,V]at e;cases e) (λg=>by rw[g,E]at e;cases e) (λg=>by rw[g,k]at e;cases e)];show e
 have m3:=C.snoc (v:=.ref a) (b:=.deep (xD i [(.str H,.list M)]) λq=>q=r) (H':=H3) (C.tp.same T) (Kz.of_same T) (λq g=>by rw[show q=r from g];show k)
  #[_,Y,.xc (dx:=dx) (fs:=[(H,.ref r)]) (uz (zr #[C.fresh V,λg=>s (show a=r from g).symm] ea) (λg=>s g.symm) λxs g=>by cases g) (uz (zr #[C.fresh E,λg=>w g] ed) w λxs g=>by cases g)
   (.cons (.lst (xs:=xs) (by unfold tX;rw[Ur Y];show el) (g2.noL (λq o ho e=>by
    have Wc w1 P:=zf e;have W:q≠r:=λg=>by rw[g,k]at P;cases P
    show uz (zr #[w1,W]<|T _ _ P) W λxs g=>by rw[g]at ho;show ho trivial) nl)) .nil),λq g=>by have g:q=r:=g;rw[g];show#[GL<|C.fresh k,C.fresh0 k,#[xs,el]]]
 show h3 U _ _ a H3 (m3.backS hj le trivial) qi
def zc7{a:Tt}{b:Ch}(G:Gi q "__init__" p g8 b e7)(U:zq ["self",H] ["self",H] (zb g8))
  (W:zA g8=[.Expr (.Call (.Attribute (.Name "StayError" y) "__init__" K) [.Name "self" fC,.Constant (.str BJ) l k9] [] Aq) By,.Assign [.Attribute (.Name "self" BS) m8 BU] (.Call (.Name "list" BD) [.Name H Cv] [] EZ) Fb])
  (hg:(zb g8).names.lookup ("StayError":Zv)=J .globalImplicit) (j:(zb g8).names.lookup ("list":Zv)=J .globalImplicit) (m:a "list"=D) (Z:a "StayError"=J (.ref R)) (xs:XS q R) (r:XC q x R u5) (F:Zi q (.ref x) m8=J D)
 (t:∀c:Df,eval (.Call (.Attribute (.Name "StayError" y) "__init__" K) [.Name "self" fC,.Constant (.str BJ) l k9] [] Aq) c=(do
   let ov <-eval (.Name "StayError" y) c
   Z8 K.atName
   let(b,first) <-Z9 [ov] (Z6 ov "__init__"<|Ff c)
   ZA Aq b first (Zx Aq<|A3 [.Name "self" fC,.Constant (.str BJ) l k9] c) (Z4 Aq<|Zy [] c)))
  (u:GO (zb g8) "self") (O:GO (zb g8) H) (M:‹Yl H›) (e:‹Ym H›):zX E s q a v GA 1 b e7 ["self",H] (RF x m8):=by show G.ok U (λL N Q S h=>?_) λT A f a0 N L Q S hr h=>?_;have Wl BJ o xs rfl _:=h;rfl;have Wm n o B rfl g hl k:=h;rw[W];show#[_,zt (vw<|kJ (C:=x) (init:=u5) hg Z xs r.ok (zo (zG (i:=0) Y u)<|zo vC zI) (ht:=t _))<|vq<|dg (zG (i:=0) Y u) (yX vp j m boot_list<|zo (zG (i:=1) Y O M e) zI) r F,?_];show#[_,Y,#[3,n,_,D,Y,GI Y,g,?_]];show#[_,Y,#[o,B,Y,.inl<|D3.of hl,λP d=>#[_,Y,#[n,Y,?_,λw X V=>k P w d X V]]]];rw[zg (λz=>by rw[<-z,g]at d;cases d)];show g
def vP (K:Frag)(C S:Ch)(a:T8):Bool:=xx K C S a&&findIn K (.ref C) "__setattr__" == J (J<|.builtin "object.__setattr__")&&findIn K (.ref C) "__getattribute__" == J (J<|.builtin "BaseException.__getattribute__")&&findIn K (.ref C) "__getattr__" == J D&&findIn K (.ref C) "__class__" == J (J<|.builtin "object.__class__")&&specialIn K (.builtin "object.__class__") "__get__" == J (J<|.builtin "getset_descriptor.__get__")&&takesIn K (.builtin "object.__class__")==J I
def XC.of {K:Frag}(h:vP K i x u5=I):XC K i x u5:=by simp only[vP,HG,Iz]at h;have Wc a g:=h;have#[#[#[#[#[j,b],d],f],c],e]:=a;show#[j,b,d,f,c,e,g]
def OD (K:Frag)(S:Ch):Bool:=readsIn K S (.type "type")&&(match findCls K (.ref S) (.type "type") "__init__" with|some (.val v)=>v == .builtin "ValueError.__init__"|_=>Za)&&specialIn K (.ref S) "__getattribute__" == J (J<|.builtin "type.__getattribute__")
def XS.of {K:Frag}(h:OD K i=I):XS K i:=by simp only[OD,HG,Iz]at h;have Wc b c:=h;have#[d,a]:=b;show#[d,?_,c];split at a;rename_i v e;rw[e,Iz.mp a];cases a
def rA (K:Frag)(C B:Ch):Bool:=typeIn K (.ref B)==J (.type "type")&&mroIn K B (.type "BaseException")==J I&&mroIn K C (.ref B)==J I
def XB.of {K:Frag}(h:rA K i x=I):XB K i x:=by simp only[rA,HG,Iz]at h;show#[h.1.1,h.1.2,h.2]
def iX.okX(F:iX q p H g8 f9 i e7)(x:zq S m9 (zb g8))(len:∀g d Q f,t9 g d Q f->g.length=m9.length)(j:∀(c:Bs) (A:Db) (b:TZ) (k:C1) (d:Hp) (g:TM) (Q:VK) (f:XK),zH l (A.deeper (Yb H (zb g8) k.heap.objs.size i c))->t9 g d Q f-> ∃t,Hr ((yQ (Ho E s v) E s q C v S H (zb g8) i c A b k d f).wish (XE (yQ (Ho E s v) E s q C v S H (zb g8) i c A b k d f) λ_ a d=>f (.ref a) D d)) (zA g8) t/\t {nx:=λ_ w=>Q .non w,rt:=Q} (start S g) d):zX E s q C v (Ho E s v) (l+1) i e7 m9 t9:=by have Wi P N kV m:=F.ex;have Wi K L O o:=m;have Wr c M y rfl u n:=o;show ji u n x len λA b k d g Q f G r=>?_;have Wa t h B:=j c A b k d g Q f G r;show#[t,h.wishx λe k z=>eV z,B]
theorem ym4(G:iX q p H g8 f9 i e7)(P:zq (S++[m8]) m9 (zb g8))(a3:m9.length<=S.length)(n:∀b Q f,Ar b Q f->b.length=m9.length)(u:∀(g:Bs) (y:Db) (c:TZ) (z:C1) (w:Hp) (x:XK) (b:TV) (Q:Ug) (f:Ue) (r:Fr) (xe:To),zH l (y.deeper (Yb H (zb g8) z.heap.objs.size i g))->Ar b Q f->Iq ((yQ (Ho E s v) E s q C v (S++[m8]) H (zb g8) i g y c z w x).wish xe) r (Zb (S.length+1) D) f-> D0 ((yQ (Ho E s v) E s q C v (S++[m8]) H (zb g8) i g y c z w x).wish xe) ((b.map J++Zb (S.length-b.length) D)++[J (.exc r λ_=>True)]) (zA g8) {nx:=λ_=>Q<|.dat .none,rt:=Q}):zX E s q C v (Ho E s v) (l+1) i e7 m9 (L9 Ar):=by
 show G.okX P (λZ w Q x h=>?_) λg y c z w Z Qc x hr h=>?_;have Wo F b X f _ _ _ K k _:=h;rw[K.length,n b _ _ k];have#[F,b,X,f,e,t,o,R]:=h;have Wq K k T kx:=R;have hl:=n b _ _ k;have m:=M.start (N:=S++[m8]) e t o K;have ea:b.map J++Zb ((S++[m8]).length-b.length) D=(b.map J++Zb (S.length-b.length) D)++[D]:=by rw[GJ,Ml,show S.length+1-b.length=(S.length-b.length)+1 by omega,Nv,Lz]
 rw[ea]at m;have W:(b.map J++Zb (S.length-b.length) (D:T9)).length=S.length:=by rw[GJ,DZ,Kq];lia
 have V:=m.exc (j:=S.length) (q:=λ_=>True) (by rw[HZ (),W,IS]<;>rfl);have es:((b.map J++Zb (S.length-b.length) (D:T9))++[D]).set S.length (J<|A.exc F λ_=>True)=(b.map J++Zb (S.length-b.length) D)++[J (.exc F λ_=>True)]:=by rw[Ls _ _ (),W,IS]<;>rfl
 rw[es]at V;show u g y c z w x b X f F _ hr k #[_,_,Y,Y,Y,λU d P a B L qd=>kx d P a B qd #[L.tp,L.keep,sy L]] F _ w _ V #[λO U B m f=>?_,λa a0 B r f=>T a a0 B f r,λ_ _ _ _ m8=>m8.elim,λ_ _ _ _ m8=>m8.elim];show T _ _ _ f #[m.tp,m.keep,.non]
structure dz (P:C5)(w:C6)(K:Cl)(mg:Tt)(base:C7)(x:Zv)(k:Nat)(φ:TV->(Ue)->Prop):Prop where
 ex:∃C f fd ps,mg x=J (.ref C)/\Mk K C f/\DQ K fd ps []/\zX P w K mg base (Ho P w base) k f fd ps (L9 λas _ q=>∃as',as=.dat (wO C [])::as'/\φ as' q)
def zB4{b:Cx}(N:b.ex=[])(t:Mk b.K i x)(F:zX b.prog b.w b.K b.mg b.base (Ho b.prog b.w b.base) l x e7 S t9)(hr:zH (l+1) b.A)(hg:Gl b p)(hm:b.mg p=J (.ref i))(hb:DQ b.K e7 S [])
  (ha:PA (b.wish<|XE b Ax) (j::O) k8) (L:‹Yl p›) (he: ~~~Uo j O b.env) (P: ~~~Uq K O b.env):
  PE (b.wish<|XE b Ax) (.Call (.Name p y) (j::O) [] K) (λU M Ag=>k8 U M λA r=>∀g o,r g=D->r o=D->o≠g->∃E:XK,(∀a w,E (.ref a) D w->Ax U a w)/\t9 (.ref g::A) (upd (upd r o<|.own g) g<|.ins i o []) (λv W=>v=.non/\Ag (.ref g) W) E):=by
 intro n s U M Ag G h;show JE<|yT G hg hm ?_ L;show JX (h₀:=b.base) G.ok.mod.kin t.kp (D1 (ha K n s U M _ G h) λe d B=>?_) he P;have Wd A r m z Q:=B;show#[m.kIn,?_];have Wa E hE T:=Q (d.heap.objs.size+1) d.heap.objs.size (m.hok.fresh<|HI _) (m.hok.fresh<|D4 _)<|Gp<|Ii _;have q:=DM.made (C:=i) m;have R:DS (V.ref (d.heap.objs.size+1)::A) (Zf (d.heap.objs.size+1)::e):=.cons Y z;have hl:(Zf (d.heap.objs.size+1)::e++[]).length=S.length:=by rw[G9,<-R.length];show F.len _ _ _ _ T
 have k:=hb _ (Zf (d.heap.objs.size+1)::e) q.kIn hl;rw[G9]at k;show IA (jX (f:=x) m.kIn t.makes t.init (Iz.mp t.fn) (Jk (F.run _ b.stack _ _ #[Zf (d.heap.objs.size+1)::e,[]] (Zf (d.heap.objs.size+1)::e) _ _ E (hr.make i e [])
  (q.env0.make i e []) k R T) λz s' c=>?_))
 cases z with
 |error j=>show rV N q.unwish c hE
 |ok H=>
  cases H with|ret u=>have Wj v w Z X ev q3:=q.after c;subst ev;show#[X,#[V.ref<|d.heap.objs.size+1,w,Z,Y,q3]]|next=>show Ze c|brk=>show Ze c|cont=>show Ze c
variable {Fg:List L2.A->(Ue)->Prop}
def jx{b:Dc}{j:Nat} (xo:Iq f z p8 Q)(hj:n[j]?=J (J (.exc z Ag)))(B:Gk p8 n)(C:dz f.prog f.w f.K f.mg f.base p l Fg)(Z:zH (l+1) f.A)(hg:Gl f p)(h:G7 f n (b::O) λc=>Fg c Q)
  (e:‹Yl p›) (W: ~~~Uo b O f.env) (k: ~~~Uq K O f.env):DP f n (.Call (.Name p y) (b::O) [] K) El:=λF U H Rk m kk=>by
 have Wj X0 R rfl h1 P x:=xo.ex;have#[i,a0,fd,ps,A,N,L,T]:=C.ex;show#[_,zB4 P N T Z hg A L yb e W k,?_];show h F U H _ m λc vs u V E S r1=>?_;have q:=m.kz S E;intro t r s d M;have g:zv u (upd (upd u r<|.own t) t<|.ins i r []):=λa o b=>by rw[zg (zk b s),zg (zk b d)];show b
 have X:=q.kz (Kz.of_same g)<|q.tp.same g;show ua (as:=.dat (wO i [])::c) (QA:=λ_=>False) X hj B x (.cons ?_<|r1.same ?_) #[c,Y,V] λa v H' G=>G.elim;show .ins (zr (q.fresh s) zi) .nil;show zj λa o w b=>#[w,g a o b]
def zI2(i:Nat)(h:DP f n j λ_=>False)(g: ~~~(f.N[i]?=J p))(e:‹GO f.env.scope p›)(b:‹Yl p›)(a:‹Ym p›)
  (l: ~~~(Z1 j (J<|.Attribute (.Name p K) H fC) y.line f.env=pure Za)):D0 f n (.Assign [.Attribute (.Name p K) H fC] j y::i7) h9:=λF U k o m z=>by show#[_,zt (xV (zG g e b a) zh l) zC,?_];show h F U k _ m λd v q c=>c.elim
def u8(k:p.length<=10000)(c:H.length<=10000)(h:DP f n j λd=>∃i:Int,d=.int i/\i.natAbs.log2<1920/\∀t:Zv,Ag (.str t)):DP f n (.JoinedStr [.Constant (.str p) N y,.FormattedValue j (-1) D K,.Constant (.str H) i5 fC] k9) Ag:=λF U o R m l=>by show#[_,kA vC (gJ zh) vC,?_];show#[p,Y,k,?_];show h F U o _ m λd v b g q e r=>?_;have We i rfl a Q:=g;cases r.int_inv;show#[i,Y,a,#[_,Y,lu a,#[H,Y,c,l _ _ b (Q _) q e<|.str _]]]
noncomputable abbrev Gn (F:Fr)(O:Ev)(U:St)(H a:Hp):Hp:=sub (λx=>¬Ow F O U x/\∀xs,H x≠J (.lst xs)) a
def sv (f:Ch->C1->Hp->TU->Cx)(a:GQ)(b:Dc)(e:Ev):TL->TL->(TL->Prop)->Prop
 |[],acc,Q=>Q acc
 |d::ds,acc,Q=>∃c,a.bind d e=J c/\∀C i h g,HY (f C i h g) c b λy=>sv f a b e ds (acc++[y]) Q
def mB (h:DP f n j λd=>noL d=I/\Q d):HY f n j Q:=λF U H R m k=>h F U H R m λd v e q t a r=>k d v e q.2 t a<|r.noL (λx o g z=>by have Wc b c:=zf z;show zr #[b,λxs y=>?_] c;have:=a x _ y<|m.tp.nt<|GL b;rw[c]at this;cases this;show g trivial) q.1
def cq (h:FA f n j λa=>wx a=I/\Q (.list a)):HY f n j Q:=λF U H R m k=>h F U H R m λa v s q t b r=>by have Wj l xs rfl c g p:=r;show k _ _ s q.2 t b (.lst (zr #[m.fresh c,λxs z=>by rw[c]at z;cases z] g)<|p.noL (λx o i z=>?_) q.1);have Wc d e:=zf z;show zr #[d.1,λxs y=>?_] e;have:=b x _ y<|m.tp.nt<|GL d.1;rw[e]at this;cases this;show i trivial
def rQ(b:M z n B m)(k:Kz z m d7)(s:∀x o,¬Ow z n B x->Bi x=J o->B6 x=J o):zv (Gn z n B d7 Bi) (Gn z n B m B6):=zj λx o h j=>#[#[h.1,λxs a=>h.2 xs<|k x _ a<|b.tp.nt<|GL h.1],s x o h.1 j]
def cJ(h:HY f n j λx=>HY f n w λs=>Q (.tuple [x,s]))(B: ~~~Uo j [w] f.env)(i: ~~~Uo w [] f.env):HY f n (.Tuple [j,w] l y) Q:=λF U H R m k=>by show#[_,ml<|zo zh (zo zh zI i) B,h F U H _ m λx u t v G e L=>?_];have c:=m.kz e G;show v F U t _ c λs A r E g b C=>?_;show#[by change 2<=Zw;decide,λK p=>?_];have d:zv r (upd r K<|.tup [u,A]):=zP p;have a:=e.trans<|b.trans<|Kz.of_same d;show k _ _ _ E (g.same d) a<|.tup (zr #[(c.kz b g).fresh p,λxs z=>?_] zi)<|.cons (L.same<|rQ m Kz.refl λz o l q=>d z o<|b z o q<|c.tp.nt<|GL l)<|.cons (C.same<|rQ m e λz o _ q=>d z o q) .nil;have:=a K _ z<|m.tp.nt<|GL<|(c.kz b g).fresh p;rw[zi]at this;cases this
def zz9(a5:x9.free (ym j6 n)=I)(h:HN f n j w λN=>N.length<=1000/\sv (λC T A Z=>f.comp S e8 C T A Z) x9 gV (ym j6 n) N [] j2)(F:Fr) (U:St) (H:Hp) (R:VK) (m:M F n U H) (k:∀N v X,j2 N->zF F X->Kz F H X->AV (Gn F n U H X) v (.list N)->R v X):∃bc:Ch->C1->Hp->TU->Cx,bc=(λC T A Z=>f.comp S e8 C T A Z)/\jf (LZ f j w) j6 (rF f.K x9) N5 (eC bc gV) U H R:=by
 show#[_,Y,h F U H _ m λN bt K b9 t1 k1 b2 p l=>?_];have Wc hl q1:=b9;have m1:=m.kz k1 t1;let u:Fr:=#[K,λx=>Ow F n U x\/x=p,F.tp];let Nd:Uk:=λg=>∀(Q:Nat) a,g[Q]?=J (J a)->(∃d,a=.dat d)\/a=.tape;have G:Nd (ym j6 n):=λQ a z=>by have We _ _ _ az:=wR z;show az
 have E:∀{g:Ev} {τ:St} {x:Ch},Nd g->(Ow u g τ x↔u.O0 x):=λ{g τ x} hh=>#[λz=>z.elim id λb8=>by
  have Wr Q a s e1 e2 au:=b8;rcases hh Q a e1 with⟨d,rfl⟩|rfl;show au.elim
  show au.elim,.inl]
 have gz:∀{g L:Ev} {B a0:St} {H:Hp},Nd g->Nd L->zv (Gz u g B H) (Gz u L a0 H):=λh1 h2=>zj λa o h e=>#[λz=>h<|(E h1).mpr<|(E h2).mp z,e];have bb:∀{A:Hp},zF F A->zF u A:=λt=>t.to Y λx z=>.inl<|.inl z;have a6:zv K (upd K p<|.lst []):=zP l;have b3:M u (ym j6 n) (xl j6 U) (upd K p<|.lst []):=by
  have g1:zv (Gz F n U K) (Gz u (ym j6 n) (xl j6 U)<|upd K p<|.lst []):=λa o e=>by have Wc z1 z2:=zf e;have na:=zk z2 l;show zr (λz=>((E G).mp z).elim z1 na)<|by rw[zg na];show z2
  show#[by unfold ym xl;rw[DZ,DZ],λi a s e1 e2=>?_,λi Q a b s t x e1 e2 _ _ au=>?_,λi r q e=>(by rcases G i _ e with⟨d,a4⟩|a4<;>cases a4),bb<|t1.same a6,λx o e _=>a6 x o e,?_];have We Q w1 w2 w3:=wR e1;rcases w3 with⟨d,rfl⟩|rfl;have Wa v g2 g3:=m1.dat Q d w2;rw[wa w1 g2]at e2;cases e2;show#[v,Y,g3.same g1]
  have Wl t b c g2 g3:=m1.tvar Q w2;rw[wa w1 g3]at e2;cases e2;show#[t,b,c,g2,Y];rcases G i a e1 with⟨d,rfl⟩|rfl;show au.elim
  show au.elim;rintro x (z|z);have Wa o ho hn:=m1.owEx z;show#[o,a6 _ _ ho,hn];show#[_,by rw[z];show zi,zZ]
 show#[λi az ys τ A=>az=N.length-i/\i<=N.length/\∃P:TL,M u (ym j6 n) τ A/\A p=J (.lst ys)/\D2 (Gn u (ym j6 n) τ K A) ys P/\P.length<=i/\sv (λC T A Z=>f.comp S e8 C T A Z) x9 gV (ym j6 n) (N.drop i) P j2,
  #[N.length,by simp,#[Gj _,[],b3,#[zi,.nil,D4 _,q1]]],?_]
 rintro i az ys τ A ⟨rfl,hi,P,m2,ha,av,ah,cw⟩;have sG:zv (Gz F n U K) (Gz u (ym j6 n) τ A):=λa o e=>by have Wc z1 z2:=zf e;show m2.old a o<|zr (λz=>z.elim z1<|zk z2 l) z2
 have Wc w1 w2:=b2 i A _ sG;have gn:∀{g L:Ev} {B a0:St} {A H3:Hp},Nd g->Nd L->zF u A->Kz u A H3->zv (Gn u g B K A) (Gn u L a0 K H3):=λ{g L B a0 A H3} n1 n2 t k=>zj λx o h e=>#[#[λz=>h.1<|(E n1).mpr<|(E n2).mp z,h.2],k x o e<|t.nt<|GL h.1];by_cases O:i<N.length;have hd:=Gh O;rw[(KQ O)]at cw;have Wa g eb body:=cw;have Wc go yl:=w1 _ hd;have V:Nd g:=λQ a z=>by have Wh is bo _ e:=GQ.is_ok eb;by_cases hn:∀d,a≠.dat d;show G Q a<|vA e z hn;simp only[Mq,Mw]at hn;show .inl hn
 show .inr #[go,λa7 a8 X=>∃P:TL,M u (ym j6 n) a8 X/\X p=J (.lst a7)/\D2 (Gn u (ym j6 n) a8 K X) a7 P/\P.length<=i+1/\sv (λC T A Z=>f.comp S e8 C T A Z) x9 gV (ym j6 n) (N.drop<|i+1) P j2,
  λa7 a8 X b6=>by have#[b1,r1,r2,r3,r4,r5]:=b6;show#[N.length-(i+1),(MJ O),Y,#[O,b1,r1,#[r2,r3,r4,r5]]],λx H3 y=>?_]
 have Wc W b4:=yl x H3 y;show rP eb (m2.kz (Kz.of_same W)<|m2.tp.same W) (b4 λa o _ e=>m2.fresh e) λB m4=>?_;unfold N5;dsimp only;rw[Ur Y];have ay:NT u p:=#[λt b c e=>by have:=(t1 t b c e).1.free l;show#[this.1,this.2.1],tN t1.tab l];have b5:D2 (Gn u g B K H3) ys P:=av.same<|gn G V m2.tp<|Kz.of_same W;show λC T ax Z=>body C T ax Z u B H3 _ m4 λy v H6 qy t6 k6 r6=>?_;have ab:=k6 _ _ (W _ _ ha) ay;have bg:ys.length<=i:=by rw[av.length];show ah
 have a3:u.O0 p:=.inr Y;have a9:∀t b c,u.tp=J (t,b,c)->p≠t/\p≠b/\p≠c:=λt b c e=>(t1 t b c e).1.free l;have m7:=(GQ.back eb a5<|m4.kz k6 t6).wr (o:=.lst<|ys++[v]) zZ a3 a9 l (xT ab) (λi r q z=>by rcases G i _ z with⟨d,a4⟩|a4<;>cases a4);show#[ab,yu (),#[P++[y],m7,#[zi,?_,by simp;show ah,qy]]];have b0:zv (Gn u g B K H6) (Gn u (ym j6 n) B K<|upd H6 p<|.lst<|ys++[v]):=zj λa o h e=>#[#[λz=>h.1<|(E V).mpr<|(E G).mp z,h.2],by rw[zg (λz=>h.1<|.inl<|by rw[z];show a3)];show e];have b7:AV (Gn u g B K H6) v y:=r6.same<|zj λa o h e=>#[#[h.1,λxs z=>h.2 xs<|m4.keep a _ z<|m4.tp.nt<|GL h.1],e];show((b5.same<|gn V V m4.tp k6).append<|.cons b7 .nil).same b0;have e:=(JM hi<|JK O);subst e;rw[K4]at cw;show .inl #[w2<|D4 _,k P _ A cw (m.tp.re m2.tp Y) (k1.trans m2.keep)<|.lst (zr #[m1.fresh l,λxs z=>?_] ha)<|av.same<|zj λa o h e=>#[#[λz=>h.1<|.inl<|.inl z,λxs z=>h.2 xs<|k1 a _ z<|m.tp.nt λa4=>h.1<|.inl<|.inl<|.inl a4],e]];have:=k1 p _ z<|m.tp.nt<|GL<|m1.fresh l;rw[l]at this;cases this
def RG (N:TR)(a:TJ)(e:GQ)(h:HN f n j w λl=>l.length<=1000/\sv (λC c b d=>f.comp N e8 C c b d) e gV (ym a n) l [] λl=>Q (.list l))
  (z:‹N.Nodup›) (S: ~~~(e8.kind=.function)) (M:‹∀u∈e8.names,u.2≠.cell›) (A:‹∀u∈e8.names,u.2=.local->e8.names.lookup u.1=J .local›) (K: ~~~(e8.names.all (Hn f.env.scope)=I)) (T: ~~~(a.length=N.length))
  (G: ~~~(((a.zip N).all λp=>match p.1 with|none=>I|some V=>f.N[V]? == J p.2&&e8.names.lookup p.2 == J .free)=I)) (g: ~~~(e.free (ym a n)=I))
  (hg:@&(∀C c b d,N.Nodup->PG (f.comp N e8 C c b d) j (rF f.K e)))
  (E: ~~~(f.calm=I)) (L: ~~~(∀x,Zz w f.env x=pure x)):HY f n (.ListComp gV [#[j,w,[],0]] e8 y) Q:=λF U H R m k=>by have Wa W rfl h:=zz9 g h F U H R m λl v P q t O r=>k _ v P q t O r;show#[_,N6 E #[S,z,M,A,tm K,T,G] sg (λC c b d=>hg C c b d z) (λC c b d=>eZ) (λC c b d o s U H Q B h=>zh o s U H Q B<|h C c b d) L,h]
def Fr.nl (F:Fr):Fr:={F with O0:=λx=>F.O0 x\/∃xs,F.H0 x=J (.lst xs)}
def Na (F:Fr)(X:Cx)(O:Ev)(a:List Da)(E:zT):Prop:=∀(U:St) (H:Hp) (b:HK),M F O U H->nN F E b->fb X a b U H
def D0.at{X:Cx}{O:Ev}{E:zT}{sts:List Da}{r:Fr} (h:D0 X O sts E):Na r X O sts E:=λU H b m a=>h r U H b m a
def M.addF(b:M z n B m)(c:n[l]?=J (J (.inn G)))(d:G.pl=Za)(h:AV (Gz z n B m) e9 dc):M z (n.set l (J (.inn (G.add p e9 dc)))) B (upd m G.a (.ins G.C G.dx (G.fs++[(p,e9)]))):=by have Wf k a f:=b.inn c;have g:=uY (o:=.ins G.C G.dx<|G.fs++[(p,e9)]) b c<|.inl Y;show b.wrI c Y Y (λx o j _ i _=>by rw[zg i];show j) (b.tp.updO (f _<|.inl Y).1<|ve a.ob) #[by rw[zi,zD.tl_f (s:=G.add p e9 dc) d,G9],(GF.snoc h a.fl).same g,λe=>(by rw[d]at e;cases e),a.av.same g,a.ne,a.eq]
def M.unl(d:M z.nl n B m)(F:zF z z.H0)(H:L5 n=I)(v:n[l]?=J (J (.at i)))(A:AV (sub (λx=>¬z.O0 x) z.H0) (.ref i) dc):M z (n.set l (J (.dat dc))) B m:=by
 have s:M z n B m:=by have C:zv (Gz z.nl n B m) (Gz z n B m):=zj λx o h j=>#[λb=>h<|b.elim (λb=>.inl<|.inl b) .inr,j];show#[d.len,λr a G e g=>(d.ok r a G e g).stay C (λx u f j=>?_) Y λK q E _=>Ut (E▸e)<|Q5 H,d.dj,d.xd,F.re d.tp Y,d.keep,λy t=>d.oex y<|.inl t];have Wf k p _:=d.ft e g f;show#[j,λb=>k<|.inl b,p]
 show(s.put (λG c x _ b f=>by cases b;show f.elim) (λG c _ j b=>by
  cases b;rw[(d.atv l i v)]at j;cases j;show#[_,Y,A.same λx o w=>?_];have Wc k p:=s.old x o w |> zf;show zr (λb=>k ?_) p;rcases b with b|⟨r,a,G,e,g,f⟩;show .inl b
  rcases zx e with⟨_,b⟩|⟨_,b⟩;cases b;show f.elim
  show .inr #[0,r,a,G,b,g,f])).2
def mT (l b:Nat)(t0:zF z z.H0)(ne:L5 n=I)(x:n[b]?=J (J (.at i)))(P:AV (sub (λp=>¬z.O0 p) z.H0) (.ref i) dc)(w:n[l]?=J (J (.inn G)))(A:G.pl=Za)(c:GP f.K G.C)(L:zL f.K G.C H)(hf:yn G.kvs H=D)(hk:G.kvs.length<900)(h:HY f (n.set b (J (.dat dc))) j λd=>∀v,Na z.nl f (n.set l (J (.inn (G.add H v d)))) i7 h9)
  (Q: ~~~(f.N[l]?=J p)) (N:‹GO f.env.scope p›) (M:‹Yl p›) (k:‹Ym p›)
  (T: ~~~(Z1 j (J<|.Attribute (.Name p K) H fC) y.line f.env=pure Za)):Na z.nl f n (.Assign [.Attribute (.Name p K) H fC] j y::i7) h9:=λU R X m F=>by
 show#[_,zt (xV (zG Q N M k) zh T) zC,?_];have q:=m.unl t0 ne x P;show h z U R _ q λd v V Z S W r1=>?_;have B:=m.kz W<|m.tp.re S Y;have r:AV (Gz z.nl n U V) v d:=r1.same<|zj λO o g j=>#[λe=>?_,j];have Wf hl s hx:=B.inn w;show#[_,hl,#[2,G.a,G.C,G.dx,_,Y,s.ob,c,#[L,by rw[GJ,s.fl.len];have:=G.tl_len;omega,?_]]];rw[zD.tl_f A,G9,uV (s.fl.none hf)];show Z v U _ X (B.addF w A r) F;rcases e with(e|⟨xs,e⟩)|⟨E,a,u,e1,e2,t⟩;show g.1<|.inl e
 show g.2 xs<|q.keep O _ e<|q.tp.nt<|GL g.1;by_cases C:b=E;subst C;rw[x]at e1;cases e1;show t;show g.1<|.inr #[0,E,a,u,by rw[Iw C];show e1,e2,t]
def RH (C:Ch)(φ:Tj):Sp:=λe H f _=>∃(F:Fr) (a d:A2) (v1:V) (l:Ch) (Q:Ug) (x dx:Ch) (H1:Hp),e=[.ref x,v1,.ref l]/\H1 x=D/\H1 dx=D/\dx≠x/\H=upd (upd H1 dx<|.own x) x (.ins C dx [])/\
 F.H0=H1/\zF F H1/\(∀y,F.O0 y->∃u,H1 y=J u/\yS u)/\noL a=I/\AV (sub (λy=>¬F.O0 y) H1) v1 a/\AV (sub (λy=>¬F.O0 y) H1) (.ref l) d/\φ [.inn (.new C x dx),.dat a,.dat d] Q/\∀b c,b.a=x->Q (.res .none b)->yh F.nl .non c (.res .none b)->f .non c
def yq1(G:Gi q p H g8 i e7)(ay:zq S m9 (zb g8))(R:m9.length=3)(hN:3<=S.length)(P:∀(K:Bs) (A':Db) (f:TZ) (ah:C1) (a4:Hp) (a0:XK) (L X:A2) (g:Ch) (Q:Ug) (u:zD) (r:Fr),zH l (A'.deeper (Yb H (zb g8) ah.heap.objs.size i K))->k7 [.inn u,.dat L,.dat X] Q->u.pl=Za->u.kvs=[]->u.C=x->zF r r.H0->AV (sub (λy=>¬r.O0 y) r.H0) (.ref g) X-> Na r.nl (yQ GA E s q C v S H (zb g8) i K A' f ah a4 a0).nox ([J (.inn u),J (.dat L),J (.at g)]++Zb (S.length-3) D) (zA g8) {nx:=λO=>∃s',s'.a=u.a/\O[0]?=J (J<|.inn s')/\Q (.res .none s'),rt:=λ_=>False}):zX E s q C v GA (l+1) i e7 m9 (RH x k7):=by
 show G.ok ay (λvs a4 Q a0 h=>?_) λK A' f ah a4 vs Qc a0 hr h=>?_;have Wi F L X a9:=h;have Wi M g Q' a5:=a9;have Wl y k H1 rfl _:=a5;show R.symm;have#[F,L,X,M,g,Q',y,k,H1,rfl,T,ab,ax,rfl,rfl,t,o,nq,a3,a6,au,kk]:=h;have s1:zv F.H0 (upd (upd F.H0 k<|.own y) y<|.ins x k []):=λa u N=>by rw[zg (zk N T),zg (zk N ab)];show N
 have a8:¬F.O0 y:=λz=>by have Wa u hu _:=o y z;rw[T]at hu;cases hu
 show P K A' f _ _ a0 L X g Q' (.new x y k) F hr au Y Y Y t a6 _ _ _ ?_ #[λO U H' m #[s',ea,h0,N]=>kk s' _ ea N<|yh.res m h0 .non,λ_ _ _ _ z=>z.elim,λ_ _ _ _ z=>z.elim,λ_ _ _ _ z=>z.elim];have e0:L2.start S [.ref y,M,.ref g]=[J (.ref y),J M,J (.ref g)]++Zb (S.length-3) D:=Y;rw[e0];have k3:∀{c:Nat} {a:A} {u:T6},(([J (A.inn<|.new x y k),J (.dat L),J (.at g)]:Ev)++Zb (S.length-3) D)[c]?=J (J a)->(([J (V.ref y),J M,J (.ref g)]:St)++Zb (S.length-3) D)[c]?=J u->(c=0/\a=.inn (.new x y k)/\u=J (.ref y))\/(a=.dat L/\u=J M)\/(a=.at g/\u=J (.ref g)):=λ{c a u} w B=>by
  match c with
  |0=>cases w;cases B;show .inl #[Y,Y,Y]
  |1=>cases w;cases B;show .inr<|.inl #[Y,Y]
  |2=>cases w;cases B;show .inr<|.inr #[Y,Y]
  |c+3=>have d:(Zb (S.length-3) D)[c]?=J (J a):=w;rw[J6]at d;split at d<;>cases d
 have gs:zv (sub (λp=>¬F.nl.O0 p/\p≠y)<|upd (upd F.H0 k<|.own y) y<|.ins x k []) (Gz F.nl ([J (A.inn<|.new x y k),J (.dat L),J (.at g)]++Zb (S.length-3) D) ([J (V.ref y),J M,J (.ref g)]++Zb (S.length-3) D)<|upd (upd F.H0 k<|.own y) y<|.ins x k []):=zj λp o h e=>#[λz=>by
  rcases z with z|⟨c,a,u,w,B,i⟩;show h.1 z
  rcases k3 w B with⟨_,rfl,rfl⟩|⟨rfl,rfl⟩|⟨rfl,rfl⟩;show i.elim h.2 h.2
  show i;show i,e]
 have a7:∀p,(zD.new x y k).at p->p=y:=λp W=>W.elim id id;show#[by simp,λc a u w B=>?_,λc j a b u u' z w B g1 g2 f1 f2=>?_,λc r N e=>?_,(t.same s1).to Y λ_ z=>.inl z,λp o e _=>s1 p o e,λp W=>?_];rcases k3 w B with⟨_,rfl,rfl⟩|⟨rfl,rfl⟩|⟨rfl,rfl⟩;show#[Y,#[by change upd _ y _ y=_;rw[zi];rfl,.nil,(λz=>by cases z),.nil,(λz=>by cases z),λ_=>Y],λp W=>?_];rw[a7 p W];show#[λz=>?_,T];rcases z with z|⟨xs,z⟩;show a8 z
 rw[T]at z;cases z;show#[M,Y,(a3.noL (λp o ho e=>?_) nq).same gs];have Wc z1 z2:=zf e;show zr #[λz=>?_,zk z2 T]<|s1 p o z2;rcases z with z|⟨xs,z⟩;show z1 z
 rw[z2]at z;cases z;show ho trivial;rfl;have Z:∀{c:Nat} {a:A} {u:T6} {z:Ch},(([J (A.inn<|.new x y k),J (.dat L),J (.at g)]:Ev)++Zb (S.length-3) D)[c]?=J (J a)->(([J (V.ref y),J M,J (.ref g)]:St)++Zb (S.length-3) D)[c]?=J u->Fc u a z->c=0:=λ{c a u z} w B i=>by
  rcases k3 w B with⟨h,_⟩|⟨rfl,rfl⟩|⟨rfl,rfl⟩;show h
  show i.elim;show i.elim
 show(Z w g1 f1).trans (Z B g2 f2).symm;intro j a u p w B i
 match c with
 |0=>cases e
 |1=>cases e
 |2=>cases e
 |c+3=>have d:(Zb (S.length-3) (D:T9))[c]?=J (J<|.exc r N):=e;rw[J6]at d;split at d<;>cases d
 rcases W with z|⟨xs,z⟩;have Wa u hu n:=o p z;show#[u,s1 _ _ hu,n]
 show#[_,s1 _ _ z,zZ]
structure eh (P:C5)(w:C6)(K:Cl)(mg:Tt)(base:C7)(x:Zv)(k:Nat)(C:Ch)(φ:Tj):Prop where
 ex:∃f fd ps,mg x=J (.ref C)/\Mk K C f/\DQ K fd ps []/\zX P w K mg base GA k f fd ps (RH C φ)
def zb1 (a5 b:Nat)(hN:f.N.Nodup)(M':eh f.prog f.w f.K f.mg f.base p l i k7)(hr:zH (l+1) f.A)(hg:Gl f p)(C:n[b]?=J (J (.deep (.list T) Aj)))(h:DP f n j λB=>noL B=I/\∀u:zD,k7 [.inn u,.dat B,.dat (.list T)] λa=>∃Z,a=.res .none Z/\D0 f (n.set a5 (J (.inn Z))) i7 h9)
  (W: ~~~(f.N[b]?=J H)) (V:‹GO f.env.scope H›) (M:‹Yl H›) (o:‹Ym H›)
  (hj: ~~~(f.N[a5]?=J m8)) (hx:@&IT f.env.scope m8)
  (hs: ~~~(Z1 (.Call (.Name p y) [j,.Name H k9] [] K) (J<|.Name m8 Aq) fC.line f.env=pure Za)) (hf:@&(f.fn m8=I\/f.env.scope.names.lookup m8=J .local))
  (N:‹Yl p›) (he: ~~~(A3 [j,.Name H k9] f.env=(Za,eval j f.env)::A3 [.Name H k9] f.env)) (a0: ~~~(A3 [.Name H k9] f.env=(Za,eval (.Name H k9) f.env)::A3 [] f.env)) (a3: ~~~((Zx K<|A3 [.Name H k9] f.env).any (·.1)=Za)):D0 f n (.Assign [.Name m8 Aq] (.Call (.Name p y) [j,.Name H k9] [] K) fC::i7) h9:=λF U a6 a8 m r=>by
 have Wm a9 fd ps hm hk X G:=M'.ex;show#[_,zt (vE hN hj hx (mJ hk G hr hg hm X .nil we (zo zh (zo (zG W V M o) zI a0) he) N he a3) hs hf) zC,h F U a6 _ m λB v1 H1 q1 t1 k1 r1=>?_];have x:=m.kz k1 t1;have We v R av hS:=x.deep b _ Aj C;have Wd a4 xs rfl _ _:=av.lst_inv;have L:=x.frzd C;have Wa v' s P:=L.dat b _<|IV #[_,C];rw[R]at s;cases s;show#[.ref a4,R,λy' dx hy S O=>?_];have sf:∀p,Ow F (n.set b<|J<|.dat<|.list T) U p->Ow F n U p:=λp z=>by
  rcases z with z|⟨A,a,u,g,k,t⟩;show .inl z
  rcases zx g with⟨_,z⟩|⟨_,z⟩;cases z;show t.elim
  show .inr #[0,A,a,u,z,k,t]
 show#[#[H1,Ow F (n.set b<|J<|.dat<|.list T) U,F.tp],B,.list T,v1,a4,_,y',dx,H1,Y,hy,S,O,Y,Y,L.tp.to Y λ_ z=>.inl z,λp z=>L.owEx z,q1.1,(r1.same<|zj λp H h e=>#[λz=>h<|sf p z,e]),P,(q1.2<|.new i y' dx),λZ H' ea qa ra=>#[Y,?_]];have Wa a7 j q:=qa;cases j;have Wn t2 k2 _ hi c:=ra;subst ea;show q F _ H' a8 (x.store (x.tp.re t2 Y) k2 (λz E=>(c z E).2) #[Y,hi.same (zj λa H h e=>#[#[λz=>?_,λz=>z.elim h.2.1 h.2.2],e]) λ_ _ _ e=>e,λz E=>#[λw=>(c z E).1<|.inl<|.inl w,x.fresh0 (c z E).2]]) r;rcases z with z|⟨A,a',u,g,k,t⟩;show h.1<|.inl<|.inl z
 by_cases d:b=A;subst d;rw[C]at g;cases g;rw[R]at k;cases k;have Wf _ _ Q:=hS a t;have Wb zs ez:=Q;show h.1<|.inr #[zs,ez];show h.1<|.inl<|.inr #[0,A,a',u,by rw[Iw d];show g,k,t]
section
variable {prog:C5}{ZP:C6}{ZZ:Type}[DecidableEq ZZ](knd:KeyKind prog ZP ZZ)
variable {knd}
end
def yg7 :T9->T9
 |some .tape=>D
 |some (.exc _ _)=>D
 |a=>a
def wb (O:Ev):Ev:=O.map yg7
def OE :Ug
 |.tape=>False
 |.exc _ _=>False
 |_=>True
def xS(h:(wb n)[l]?=J (J l9)):n[l]?=J (J l9)/\OE l9:=by
 unfold wb at h;rw[GD,Hj]at h;have Wa b c a:=h;cases b with|none=>cases a|some b=>cases b<;>cases a<;>show#[c,trivial]
def xO.to{F F':Fr}(s:OE l9)(h:xO m F Bi Ac l9)(g:zv m d7)(hf:∀x o,Fc Ac l9 x->Bi x=J o->B6 x=J o/\¬F'.O0 x/\F'.H0 x=D):xO d7 F' B6 Ac l9:=by
 cases l9 with
 |dat d=>have Wa v b a:=h;show#[v,b,a.same g]
 |ow c=>have Wp l o b a i p t:=h;have Wf k n z3:=hf l o b a;show#[4,l,o,b,k,i.same g,n,z3]
 |deep d S=>have We v b a i:=h;show#[v,b,a.same<|va g λx o z e=>(hf x o z e).1,λx z=>?_];have Wf _ _ j:=i x z;have Wb xs e:=j;have Wf k n z3:=hf x _ z e;show#[n,z3,#[xs,k]]
 |tape=>show s.elim
 |«at» l=>show h
 |exc r q=>show s.elim
 |pin l vs ds=>show#[h.1,g _ _ h.2.1,h.2.2.same g]
 |nst l ls dss=>
  have Wn b a i p t:=h;show#[b,(hf l _ GN a).1,i.same g λl9 w o e=>(hf l9 o (GH _ w) e).1,p,λx f=>?_];rcases D7.mp f with z|z;show(hf x _ f<|z▸a).2
  have Wb xs e:=i.obj x z;show(hf x _ f e).2
 |inn u=>have Wf b a i:=h;show#[b,a.same g λx o f e=>(hf x o f e).1,λx f=>?_];have Wa o e _:=a.obj f;show(hf x o f e).2
 |res d u=>show h.elim
def Tp (F:Fr)(x:Ch):Prop:=∃t b c,F.tp=J (t,b,c)/\(x=t\/x=b\/x=c)
noncomputable instance RI (F:Fr)(x:Ch):Decidable (Tp F x):=Classical.propDecidable _
def Fr.row (F:Fr)(H:Hp)(l:Ch):Fr:=#[λx=>if Tp F x then H x else F.H0 x,λx=>F.O0 x\/x=l,J (l,l,l)]
def Tp.own (t:zF z m)(h:Tp z i):z.O0 i:=by
 have Wl a b c e d:=h;have Wq _ j f g:=t a b c e;rcases d with d|d|d;rw[d];show j
 rw[d];show f;rw[d];show g
theorem Tp.lst{F:Fr}{H:Hp} (t:zF F H){x:Ch}(h:Tp F x):∃xs,H x=J (.lst xs):=by
 have Wl a b c e z:=h;have#[n,i,k,j,d,g,f,_]:=(t a b c e).1.ex;rcases z with z|z|z;rw[z];show#[_,d]
 rw[z];show#[_,g];rw[z];show#[_,f]
def Tp.noTab (t:zF z m)(h:Tp z i):¬vW i:=λb=>by have We o e _ n:=rL t.tab b;have Wb xs a:=Tp.lst t h;rw[e]at a;cases a;show n _ Y
def jO (t:zF z m)(h:(z.row m i).H0 x=D):z.H0 x=D:=by have a:(if Tp z x then m x else z.H0 x)=D:=h;split at a;rename_i q;have Wb xs e:=Tp.lst t q;rw[e]at a;cases a;show a
theorem M.row(i:M z n B m)(C:n[l]?=J (J (.own [.int L,.int gi])))(X:0<=gi)(h1:gi<4294967296):∃k,z.H0 k=D/\¬z.O0 k/\M (z.row m k) ((wb n).set l (J .tape)) B m:=by
 have Wp k xs E x e3 T V:=i.own l _ C;have R:xs=[.int L,.int gi]:=by
  cases e3 with
  |cons a r=>
   cases r with|cons b r=>cases r;rw[a.int_inv,b.int_inv]
 subst R;have g:∀{j:Nat} {a:A},((wb n).set l<|J .tape)[j]?=J (J a)->(l=j/\a=.tape)\/(l≠j/\n[j]?=J (J a)/\OE a):=λ{j a} e=>by
  rcases zx e with⟨d,w⟩|⟨d,w⟩;cases w;show .inl #[d,Y]
  have Wc v u:=xS w;show .inr #[d,v,u]
 have S:∀{d:Ch},Ow (z.row m k) ((wb n).set l<|J .tape) B d->Ow z n B d:=λ{d} h=>by
  rcases h with(h|h)|⟨j,a,s,v,u,K⟩;show .inl h
  rw[h];show .inr #[0,l,_,_,C,E,Y];rcases g v with⟨_,q⟩|⟨_,q,_⟩;subst q;show K.elim
  show .inr #[0,j,a,s,q,u,K]
 have gs:zv (Gz z n B m) (Gz (z.row m k) ((wb n).set l<|J .tape) B m):=zj λa o h e=>#[λd=>h<|S d,e];show#[k,V,T,?_,λj a s F p=>?_,λj j' a b s t d F p U P N O=>?_,λj r q e=>?_,#[i.tp.tab,λL h=>.inl<|i.tp.ot L h,λt b c e=>?_],λd o e Q=>?_,λd Z=>?_];rw[Ht];unfold wb;rw[DZ];show i.len;rcases g F with⟨d,q⟩|⟨hj,q,G⟩;subst d q;rw[E]at p;cases p;show#[k,k,k,Y,Y]
 show(i.ok j a s q p).to G gs λL o f e=>?_;have Wf H W _:=i.ft q p f;show#[e,λd=>d.elim H λd=>hj (i.dj l j _ _ _ _ L C q E p (by rw[d];show Y) f),?_];change(if Tp z L then m L else z.H0 L)=D;rw[Us λd=>H<|Tp.own i.tp d];show W;rcases g F with⟨_,q⟩|⟨_,v,_⟩;subst q;show N.elim
 rcases g p with⟨_,q⟩|⟨_,u,_⟩;subst q;show O.elim
 show i.dj j j' a b s t d v u U P N O;rcases g e with⟨_,q⟩|⟨_,_,G⟩;cases q
 show G.elim;cases e;show#[#[(0),[L,gi],[L,gi],#[Y,Y],x,x,x,#[L,gi,Y,X,h1],Y],.inr Y,.inr Y,.inr Y];have y:(if Tp z d then m d else z.H0 d)=J o:=e;split at y;show y;rename_i q;show i.keep d o y #[λt b c w=>#[λgi=>q #[t,b,c,w,.inl gi],λgi=>q #[t,b,c,w,.inr<|.inl gi]],Q.2];rcases Z with d|d;show i.oex _ d
 show#[_,by rw[d];show x,zZ]
def zF.unrow (t:zF z m)(s:¬z.O0 i)(n:D9 d7)(k:Kz (z.row m i) (z.row m i).H0 d7):zF z d7:=#[n,t.ot,λa b c e=>by have Wq p j l r:=t a b c e;show#[p.off λd o=>?_,j,l,r];have f:Tp z d:=#[a,b,c,e,o];have h:d≠i:=λq=>s (by rw[<-q];show(Tp.own t f));have Wb xs g:=Tp.lst t f;rw[g];show k d _ ?_ #[λu v x w=>by cases w;show#[h,h],Tp.noTab t f];change(if Tp z d then m d else z.H0 d)=J _;rw[Ur f];show g]
def Kz.unrow (c:M z n B m)(d:z.H0 i=D)(k:Kz (z.row m i) (z.row m i).H0 d7):Kz z z.H0 d7:=λx o e a=>by
 have b:x≠i:=λq=>by rw[q,d]at e;cases e
 show k x o ?_ #[λf g h w=>by cases w;show#[b,b],a.2];change(if Tp z x then m x else z.H0 x)=J o;split;show c.keep x o e a;show e
theorem M.unrow (p:M z n B m)(H:z.H0 i=D)(E:¬z.O0 i)(d:M (z.row m i) p8 AD d7):M z (wb p8) AD d7:=by
 have F:∀{c:Ch},Ow z (wb p8) AD c->Ow (z.row m i) p8 AD c:=λ{c} h=>by
  rcases h with h|⟨j,a,s,g,A,v⟩;show .inl<|.inl h
  show .inr #[0,j,a,s,(xS g).1,A,v]
 have C:zv (Gz (z.row m i) p8 AD d7) (Gz z (wb p8) AD d7):=zj λa o h e=>#[λc=>h<|F c,e];show#[?_,λj a s l k=>?_,λj G a b s t c l k=>d.dj j G a b s t c (xS l).1 (xS k).1,λj r q e=>?_,p.tp.unrow E d.tp.tab d.keep,Kz.unrow p H d.keep,λc y=>d.oex c<|.inl y];unfold wb;rw[DZ];show d.len;have Wc g K:=xS l;show(d.ok j a s g k).to K C λx o f e=>?_;have Wf u w _:=d.ft g k f;show#[e,λc=>u<|.inl c,jO p.tp w];show(xS e).2.elim
theorem yh.unrow(b:M z n B m)(d:z.H0 i=D)(c:¬z.O0 i)(r:yh (z.row m i) e9 d7 l9):yh z e9 d7 l9:=by have Wf t k r:=r;show#[b.tp.unrow c t.tab k,Kz.unrow b d k,r.to (λ_ a=>.inl a) λx a=>jO b.tp a]
def z46 (i:Nat)(s:n[i]?=J (J (.own [.int L,.int gi])))(t:0<=gi)(p:gi<4294967296)(h:D0 f ((wb n).set i (J .tape)) i7 {nx:=λb=>h9.nx<|wb b,rt:=h9.rt,bk:=λb=>h9.bk<|wb b,ct:=λb=>h9.ct<|wb b}):D0 f n i7 h9:=λF U H k m r=>by have We l j e o:=m.row s t p;show h _ U H k o #[λb d g c q=>r.nx _ _ _ (m.unrow j e c) q,λa v g z q=>r.rt a v g (z.unrow m j e) q,λb d g c q=>r.bk _ _ _ (m.unrow j e c) q,λb d g c q=>r.ct _ _ _ (m.unrow j e c) q]
def Mc (H:Hp):Fr:=#[H,vW,D]
def M.zero(f:D9 m)(n:l=B.length):M (Mc m) (Zb l D) B m:=by
 have d:∀i a,(Zb l (D:T9))[i]?≠J (J a):=λi a z=>by rw[J6]at z;split at z<;>cases z
 show#[by rw[Kq];show n,λi a s e=>Ut e<|d i _,λi j a b s t u e=>Ut e<|d i _,λi r q e=>Ut e<|d i _,#[f,λ_ h=>h,λt b c e=>by (cases e)],λ_ _ e _=>e,λx k=>by have We o p g _:=rL f k;show#[o,p,g]]
def zK9 (hg:Gl f "tuple")(r:f.mg "tuple"=D)(h:DP f n w λx=>∃b,x=.list b/\Q (.tuple b))(c: ~~~Uo w [] f.env):
  DP f n (.Call (.Name "tuple" y) [w] [] K) Q:=λF U H R m k=>by show#[_,yX oy hg r boot_tuple (zo zh zI c) (he:=c),?_];show h F U H _ m λx A v i e d u=>?_;have Wa b rfl q:=i;have t:=m.kz d e;have Wd l xs rfl p g:=u.lst_inv;show#[_,xs,Y,.inl #[D3.of (zf p).2,λz a=>?_]];show k _ _ _ q (e.same<|zP a) (d.trans<|Kz.of_same<|zP a)<|.tup (xs:=xs) (zr (t.fresh a) zi)<|g.same<|zj λj o s w=>#[s,by rw[zg (zk w a)];show w]
theorem D2.strs {H:Hp}:∀{xs:TM}{ts:TR},D2 H xs (ts.map .str)->xs=ts.map V.str
 |_,[],.nil=>rfl
 |_,j::bs,.cons h r=>by rw[h.str_inv,D2.strs r];rfl
def HE (k:Bool):Bs->Bool
 |.bool b=>b == k
 |_=>Za
def cG(h:l<=Zw):(l:Int)<2 ^ 63-1:=by rw[Hf]at h;omega
def zI6 :KH f "list.index" (λx xs H Q=>∃(l:Ch) (c:TR) (k:Zv) (j:Nat),x=.ref l/\xs=[.str k]/\H l=J (.lst (c.map V.str))/\c[j]?=J k/\(∀i<j,c[i]?≠J k)/\Q (.int (j:Nat)) H):=by
 intro K s U H x xs v us Q F Z O h;have Wo l c k j rfl rfl P M hno q:=h;cases Z;have Wa u rfl S:=O.one;have Wb t rfl:=S;have#[z,a,n,r,L,e]:=F.lstM P;have g:∀(i:Nat) w,c[i]?=J w->∃b,a[i]?=J (.str w b):=λi w hw=>by have Wa w' d X:=r.get (show(c.map V.str)[i]?=J (.str w) by rw[GD,hw];rfl);have Wb b rfl:=X;show#[b,d]
 have o:c.length=a.length:=by rw[<-L,DZ]
 have W:j<a.length:=by rw[<-o];show(Gm.mp M).1
 have E:∀w∈a,∃i y b,c[i]?=J y/\a[i]?=J w/\w=.str y b:=λw hw=>by
  have Wb i C:=Mn.mp hw;have p:i<c.length:=by rw[o];show(Gm.mp C).1
  have Wb b d:=g i _<|Gh p;rw[C]at d;show#[0,i,_,b,Gh p,C,Hb d]
 show Lg Mi #[_,e,Y] PySem.F.entry_list_index (PySem.F.args_list_index_2 _ _)
  (MeetsSeq.list_index l a.toArray n (.str k t) (isStrOf k) (λy N=>?_) j (by simpa using W) (cG<|by rw[L]at z;omega) ?_ λm G B=>?_) #[e,#[.int _,H,F.tok _,#[_,Y],q]]
 have Wr i R b _ _ rfl:=E y (by simpa using N);show eqGives_str R k b t;have Wb b d:=g j k M;have:a[j]=.str k b:=(Gm.mp d).2;simp[this,isStrOf];have A:m<c.length:=by rw[o];simpa using G
 have Wb b d:=g m _<|Gh A;have:a[m]'(by simpa using G)=.str c[m] b:=(Gm.mp d).2;have T:c[m]≠k:=λz=>hno m B (by rw[Gh A,z]);simp[this,isStrOf,T]
def zO0 :KH f "list.index" (λx xs H Q=>∃(l:Ch) (b:T5) (k:Bool) (j:Nat),x=.ref l/\xs=[.bl k]/\H l=J (.lst (b.map V.bl))/\b[j]?=J k/\(∀i<j,b[i]?≠J k)/\Q (.int (j:Nat)) H):=by
 intro F s U H x xs v W Q B O L h;have Wo l b k j rfl rfl M K hno q:=h;cases O;have Wa u rfl N:=L.one;cases N;have#[z,a,n,r,G,e]:=B.lstM M;have c:∀(i:Nat) w,b[i]?=J w->a[i]?=J (.bool w):=λi w hw=>by have Wa T o S:=r.get (show(b.map V.bl)[i]?=J (.bl w) by rw[GD,hw];rfl);cases S;show o
 have d:b.length=a.length:=by rw[<-G,DZ]
 have P:j<a.length:=by rw[<-d];show(Gm.mp K).1
 have t:∀w∈a,∃y,w=.bool y:=λw hw=>by
  have Wb i C:=Mn.mp hw;have A:i<b.length:=by rw[d];show(Gm.mp C).1
  have o:=c i _<|Gh A;rw[C]at o;show#[_,Hb o]
 show Lg Mi #[_,e,Y] PySem.F.entry_list_index (PySem.F.args_list_index_2 _ _)
  (SeqAt.list_indexAt l a.toArray n D [].toArray (.bool k) (HE k) j (by simpa using P) (cG<|by rw[G]at z;omega) ?_ λm E p=>?_) #[e,λw hw=>?_,#[.int _,H,B.tok _,#[_,Y],q]]
 have:a[j]=.bool k:=(Gm.mp<|c j k K).2;simp[this,HE];have g:m<b.length:=by rw[d];simpa using E
 have:a[m]'(by simpa using E)=.bool b[m]:=(Gm.mp<|c m _<|Gh g).2;have R:b[m]≠k:=λz=>hno m p (by rw[Gh g,z]);simp[this,HE,R];have Wb y rfl:=t w (by simpa using hw);show SeqAt.EqAt.bool_bool y k
def zF0(h:DP f n j λx=>∃c:TR,x=.list (c.map .str)/\DP f n w λp=>∃(k:Zv) (d:Nat),p=.str k/\c[d]?=J k/\(∀i<d,c[i]?≠J k)/\Q (.int (d:Nat)))
  (b: ~~~(Z0 j "index" f.env (eval j f.env)=eval j f.env)) (s: ~~~Uo w [] f.env)
  (o: ~~~(((((Zx y<|A3 [w] f.env).all λx=>!x.fst)&&(Z4 y<|Zy [] f.env).all λx=>x.fst.isSome)&&decide (([w].length+([]:T3).length+if([]:T3).isEmpty=I then 0 else 1)<30))=I))
  (a: ~~~((K.endLine == y.line)=I)):DP f n (.Call (.Attribute j "index" K) [w] [] y) Q:=λF U H R m k=>by show#[_,qB JV Mi PySem.F.type_list_index zI6 zh (zo zh zI s) b o a s,h F U H _ m λx O E g C t N=>?_];have Wa c rfl g:=g;have Wd l xs rfl e G:=N.lst_inv;show#[.inl #[Y,#[_,D3.of (zf e).2]],?_];have u:=m.kz t C;show g F U E _ u λp P z L A r B=>?_;have Wj v d rfl M hno q:=L;cases B.str_inv;rw[G.strs]at e;show#[2,l,c,v,d,Y,Y,(zf<|r.gz u.tp _ _ e).2,#[M,hno,k _ _ z q A (t.trans r)<|.int _]]
def zJ5(h:DP f n j λx=>∃c:T5,x=.list (c.map .bool)/\DP f n w λp=>∃(k:Bool) (d:Nat),p=.bool k/\c[d]?=J k/\(∀i<d,c[i]?≠J k)/\Q (.int (d:Nat)))
  (b: ~~~(Z0 j "index" f.env (eval j f.env)=eval j f.env)) (s: ~~~Uo w [] f.env)
  (g: ~~~(((((Zx y<|A3 [w] f.env).all λx=>!x.fst)&&(Z4 y<|Zy [] f.env).all λx=>x.fst.isSome)&&decide (([w].length+([]:T3).length+if([]:T3).isEmpty=I then 0 else 1)<30))=I))
  (a: ~~~((K.endLine == y.line)=I)):DP f n (.Call (.Attribute j "index" K) [w] [] y) Q:=λF U H R m k=>by show#[_,qB JV Mi PySem.F.type_list_index zO0 zh (zo zh zI s) b g a s,h F U H _ m λx O E e C t N=>?_];have Wa c rfl e:=e;have Wd l xs rfl o G:=N.lst_inv;show#[.inl #[Y,#[_,D3.of (zf o).2]],?_];have u:=m.kz t C;show e F U E _ u λp P z L A r B=>?_;have Wj v d rfl M hno q:=L;cases B.bl_inv;cases G.bools;show#[2,l,c,v,d,Y,Y,(zf<|r.gz u.tp _ _ o).2,#[M,hno,k _ _ z q A (t.trans r)<|.int _]]
def zq.o(g: ~~~(e8.kind=.function))(a: ~~~(e8.isCoroutine=Za))(c: ~~~(e8.isGenerator=Za))(e:‹S.Nodup›)(b: ~~~(S.take m9.length=m9))(d:‹∀x∈m9,e8.names.lookup x=J .local\/e8.names.lookup x=J .cell›)(f:‹∀y∈e8.names,y.2≠.free›):zq S m9 e8:=#[g,a,c,e,b,d,f]
abbrev Ph :=TV->(Ug)->Prop
def D5 (K:Cl)(d:Tt)(x:Zv)(b:Da)(c:TR):Prop:=∃f a,Gi K x x b f a/\d x=J (.ref f)/\DQ K a c []
def yk(N:TR)(G:D5 q C p g8 S)
  (d:∀(f:Ch) (b:Bs) (g:Db) (a:TZ) (i:C1) (H:Hp) (j:XK) (c:TV) (Q:Ug),N.Nodup->zH l (g.deeper<|Yb p (zb g8) i.heap.objs.size f b)->k7 c Q->
   D0 (yQ GA E s q C v N p (zb g8) f b g a i H j).nox (c.map J++Zb (N.length-c.length) D) (zA g8) {nx:=λ_=>Q<|.dat .none,rt:=Q})
  (k:zq N S (zb g8):=by show .o) (e:@&(∀c Q,k7 c Q->c.length=S.length)):DY E s q C v p (l+1) k7:=by have Wd f r F n m:=G;show yq3 F n m k e λb g a i H j c Q o h=>d f b g a i H j c Q k.nd o h
def oV(N:TR)(c:GP q i)(o:Ge q i p x)(F:Gi q p H g8 x e7)(r:DQ q e7 S [])
  (e:∀(b:Bs) (g:Db) (a:TZ) (j:C1) (k:Hp) (m:XK) (d:TV) (Q:Ug),N.Nodup->zH l (g.deeper<|Yb H (zb g8) j.heap.objs.size x b)->k7 d Q->
   D0 (yQ GA E s q C v N H (zb g8) x b g a j k m).nox (d.map J++Zb (N.length-d.length) D) (zA g8) {nx:=λ_=>Q<|.dat .none,rt:=Q})
  (n:zq N S (zb g8):=by show .o) (f:@&(∀d Q,k7 d Q->d.length=S.length)):xm E s q C v i p (l+1) k7:=
 #[x,e7,S,c,o,r,QZ F n f λb g a j k m d Q t h=>e b g a j k m d Q n.nd t h]
def kD(z:PE f j j3)(q:PE f w v9):PE f (.JoinedStr [j,w] y) (tJ j3 λx=>tJ v9 λe=>λ_ H Q=>Q (.str (Zv.empty++x++e)) H):=by
 intro a s U H Q p h;show PyProof.Rows.JoinedStr_many<|LJ<|D1 (z a s U H _ p h) λu v=>Wd λx k C B b=>?_;have We d r lx t:=b;subst r;have Wb L rfl:=(B);have E:Zv.empty.length=0:=Y;show#[by rw[IQ,Hf];omega,LJ<|D1 (q a v U k _ C t) λu K #[e,o,m,n,g,A,F,l]=>?_];subst A;have Wb G rfl:=(n);have i:(Zv.empty++d++g).length<=Zw:=by rw[IQ,IQ,Hf];omega
 show#[i,joinParts_nil #[.str<|Zv.empty++d++g,o,m.tok _,#[_,Y],l] i]
def zL0(i:PE f j j3):PE f (.FormattedValue j (-1) D y) (λU H Q=>j3 U H λx c=>∃z:Zv,x=.str z/\z.length<=10000/\Q (.str z) c):=by intro b s U H Q g h;show FormattedValue_plain<|D1 (i b s U H _ g h) λu p=>Wd λx c a l e=>?_;have We z k n q:=e;subst k;have Wb t rfl:=(l);show formatField_str (λm o=>#[.str z,c,#[a.ok,a.os,a.bare,a.base,a.loc,a.cell,a.free,a.freeC,a.pin,a.hok,a.len],#[_,Y],q])<|by rw[Hf];omega
def zk1(g:p.length<=10000)(h:DP f n j λd=>∃i:Int,d=.int i/\i.natAbs.log2<1920/\∀t:Zv,Q (.str t)):DP f n (.JoinedStr [.Constant (.str p) l y,.FormattedValue j (-1) D K] fC) Q:=λF U H R m k=>by show#[_,kD vC<|gJ zh,#[p,Y,g,?_]];show h F U H _ m λd v b e o c r=>?_;have We i rfl a q:=e;cases r.int_inv;show#[i,Y,a,#[_,Y,lu a,k _ _ b (q _) o c<|.str _]]
def aB(g:p.length<=10000)(h:DP f n j λd=>∃z:Zv,d=.str z/\z.length<=10000/\∀t:Zv,Q (.str t)):DP f n (.JoinedStr [.Constant (.str p) l y,.FormattedValue j (-1) D K] fC) Q:=λF U H R m k=>by show#[_,kD vC<|zL0 zh,#[p,Y,g,?_]];show h F U H _ m λd v b e i c o=>?_;have We z rfl a q:=e;cases o.str_inv;show#[z,Y,a,#[z,Y,a,k _ _ b (q _) i c<|.str _]]
end L2
namespace SetW
open PySem PyProof.Rows
abbrev Up (xs:Ud):Prop:=xs.toList.Pairwise (·<·)
def Lo (t:SetTable):Prop:=t.plain=I->Up t.place
variable {l N i5 j9 t7 A7:Nat}{i8:Ud}
def Up.lt(h:Up i8)(hij:l<N)(hj:N<i8.size):i8[l]'(KG hij hj)<i8[N]:=by have:=List.pairwise_iff_getElem.mp h l N (by simpa using KG hij hj) (by simpa using hj) hij;simpa using this
theorem qO {xs:Ud}(h:Up xs)(j:Nat):∀f b a,a-b<=f->b<=a->a<=xs.size->(∀i (n:i<xs.size),i<b->xs[i]<j)->(∀i (n:i<xs.size),a<=i->j<=xs[i])->
  aL.go xs j f b a<=xs.size/\(∀i (n:i<xs.size),i<aL.go xs j f b a->xs[i]<j)/\(∀i (n:i<xs.size),aL.go xs j f b a<=i->j<=xs[i])
 |0,b,a,hf,hle,m,k,g=>by
  have e:b=a:=by lia
  subst e;show#[m,k,g]
 |f+1,b,a,hf,hle,m,k,g=>by
  unfold aL.go;by_cases d:b<a;rw[Ur d];have o:(b+a) / 2<xs.size:=by lia
  have q:xs.getD ((b+a) / 2) j=xs[(b+a) / 2]:=by simp[hY,o]
  dsimp only;rw[q];by_cases l:xs[(b+a) / 2]<j;rw[Ur l];show qO h j f ((b+a) / 2+1) a () () m (λi c p=>?_) g;rcases HX i ((b+a) / 2)with z|z;show KG (h.lt z o) l
  have e:i=(b+a) / 2:=by lia
  subst e;show l;rw[Us l];show qO h j f b ((b+a) / 2) () () () k λi c p=>?_;rcases HX ((b+a) / 2) i with z|z;have:=h.lt z c
  lia;have e:i=(b+a) / 2:=by lia
  subst e;lia;rw[Us d];have e:b=a:=by lia
  subst e;show#[m,k,g]
theorem tZ(h:Up i8)(j:Nat):aL i8 j<=i8.size/\(∀i (a:i<i8.size),i<aL i8 j->i8[i]<j)/\(∀i (a:i<i8.size),aL i8 j<=i->j<=i8[i]):=
 qO h j i8.size 0 i8.size () (Gj _) (D4 _) (λi _ z=>Ut z<|Nat.not_lt_zero _) (λi a z=>Ut a<|by lia)
theorem aD(h:Up i8)(d:l<i8.size):aL i8 i8[l]=l:=by
 have Wf a b c:=tZ h i8[l];rcases HX l (aL i8 i8[l])with z|z;have:=b l d z
 lia;rcases HX (aL i8 i8[l]) l with y|y;have f:=c _ ()<|D4 _;have e:=h.lt y d
 lia;lia
theorem gI(h:Up i8)(d:l<i8.size):aL i8 (i8[l]+1)=l+1:=by
 have Wf a b c:=tZ h<|i8[l]+1;rcases HX l (aL i8<|i8[l]+1)with z|z;rcases HX (l+1) (aL i8<|i8[l]+1)with y|y;have f:=b (l+1) () y;have e:=h.lt (Ii l)<|show l+1<i8.size by lia
 lia;lia;have:=c l d z;lia
theorem ef(h:Up i8):aL i8 0=0:=by
 have Wf a b c:=tZ h 0;rcases HX 0 (aL i8 0)with z|z;have:=b 0 () z
 lia;lia
def Off (t:SetTable)(j:Nat):Prop:=t.place[aL t.place j]?≠J j
variable {n8 A9:SetTable}
def Off.notin(h:Off n8 l)(u:Up n8.place):l∉n8.place.toList:=λz=>by
 have#[i,c,e]:=Ms z;have a:i<n8.place.size:=by simpa using c
 have b:n8.place[i]=l:=by simpa using e
 have:=aD u a;rw[b]at this;show h<|by rw[this,KS a,b]
def jj(h:∀i,n8.slot l≠.live i):Off n8 l:=λz=>by show h (aL n8.place l) ?_;unfold SetTable.slot;simp only[z,beq_self_eq_true,Il]
theorem sD {t:SetTable}{g:Nat->Int}{c:Int}:∀f (p:Dg) {j:Nat}{d:Option Nat},(∀x,p.dummy=J x->Off t x)->SetTable.probe.go t g c f p=J (.empty j d)->Off t j/\∀x,d=J x->Off t x
 |0,p,j,d,_,e=>by cases e
 |f+1,p,j,d,h,e=>by
  unfold SetTable.probe.go at e;split at e;rename_i b;cases e;show#[jj (λi z=>by rw[b]at z;cases z),h];rename_i b;show sD f _ (λx a=>?_) e;have:∀q:Dg,(t.advance q).dummy=q.dummy:=λq=>by unfold DB;split<;>rfl
  rw[this]at a;cases a;show jj λi z=>by rw[b]at z;cases z
  rename_i i b;have:∀q:Dg,(t.advance q).dummy=q.dummy:=λq=>by unfold DB;split<;>rfl
  split at e;cases e;show sD f _ (λx a=>by rw[this]at a;show h x a) e
variable {j8 Ba:Bool}{L:Int}
def zA6(e:n8.freeSlot L=J (l,j8)):Off n8 l:=by
 unfold SetTable.freeSlot at e;split at e;rename_i g d c;cases e;have Wc f b:=sD _ _ (λx a=>by unfold SetTable.probeStart at a;cases a) c;cases d with|none=>show f|some x=>show b x Y
 cases e
theorem bW(h:Up i8)(n:l∉i8.toList):Up (SetTable.insertAt i8 (aL i8 l) l):=by
 have Wf a b c:=tZ h l;have j:∀y∈i8.toList.take (aL i8 l),y<l:=λy d=>by have#[i,f,e]:=Ms d;rw[Jb]at f;rw[List.getElem_take]at e;have:=b i (by simp at f;lia) ();simp at e;lia
 have k:∀y∈i8.toList.drop (aL i8 l),l<y:=λy d=>by
  have o:y≠l:=λz=>n<|z▸Nw d;have#[i,f,e]:=Ms d;rw[Kb]at f;rw[List.getElem_drop]at e;have m:i<i8.size-aL i8 l:=by simpa using f
  have:=c (aL i8 l+i) () ();simp at e;lia
 unfold Up;rw[SetTable.toList_insertAt,List.pairwise_append];show#[h.sublist<|List.take_sublist _ _,List.pairwise_cons.mpr #[k,h.sublist<|List.drop_sublist _ _],λy d z g=>?_];rcases D7.mp g with rfl|g;show j y d
 show KG (j y d)<|k z g
def zN4(c:Array (Int×Bs))(h:Int)(x:Bs)(r:Lo n8):Lo (layNew n8 c h x).2.1/\(layNew n8 c h x).2.1.led=n8.led:=by unfold layNew;split;rename_i j b hf;dsimp only;unfold SetTable.orStandIn;split;show#[λa=>bW (r a)<|(zA6 hf).notin<|r a,Y];show#[λa=>mU<|a,Y];show#[λa=>mU<|a,Y]
def bO(f:Array (Int×Bs))(n:Nat):Lo (relayAll n8 f n).2.1/\(relayAll n8 f n).2.1.led=n8.led:=by
 unfold relayAll;split;rename_i i c b;unfold SetTable.relaid SetTable.laid at b;cases ho:SetTable.layClean (SetTable.sizeAbove n-1) (f.map (·.1))with
 |none=>rw[ho]at b;cases b
 |some owner=>
  rw[ho]at b;cases b;dsimp only;split;show#[λ_=>?_,Y];change(List.toArray _).toList.Pairwise (·<·);rw[List.toList_toArray];have d:∀(l:T4),l.Pairwise (·<·)->((l.filterMap λj=>(owner.getD j D).map λy=>(j,y)).map (·.1)).Pairwise (·<·):=by
   intro l h;rw[List.map_filterMap];show List.Pairwise.sublist ?_ h;have:∀l:T4,(l.filterMap λj=>Option.map (λx:Nat×Nat=>x.1)<|(owner.getD j D).map λy=>(j,y)).Sublist l:=by
    intro l;induction l with
    |nil=>show .slnil
    |cons a l g=>
     rw[K0];cases owner.getD a D with|none=>show g.cons _|some y=>show g.cons_cons _
   show this l
  show d _ List.pairwise_lt_range;show#[λe=>mU<|e,Y]
 show#[λe=>mU<|e,Y]
structure HV (prog:C5)(w:C6)(o:Z7)(S:Int->Bool)(n:Nat)(b:Bool)(es:Array (Int×Bs))(ep:Nat)(t:SetTable):Prop where
 ex:o.ExactSet
 dt:o.data=.set es ep t
 el:ElemsOf (intKind prog w) es.toList
 mem:∀k,S k=I↔∃e∈es.toList,(intKind prog w).is k e.2=I
 sb:es.size<scanBound
 fit:t.fits es.size=I
 sz:es.size=n
 led:t.led=b
 ris:Lo t
def Wk (c:C5)(w:C6)(h:C7)(a:Ch)(S:Int->Bool)(n:Nat)(b:Bool):Prop:=∃o e d t,h.get? a=J o/\HV c w o S n b e d t
variable {E:C5}{s:C6}{i x R:Ch}{v Au:C7}{As Cw:Int->Bool}
def Wk.keep(k:∀o,v.get? i=J o->Au.get? i=J o)(x:Wk E s v i As l j8):Wk E s Au i As l j8:=by have Wg o d a:=x;have Wh b t c r:=a;show#[o,d,#[b,t,k o c,r]]
def Wk.congr(x:Wk E s v i As l j8)(e:∀k,As k=Cw k)(a:l=N):Wk E s v i Cw N j8:=by have:As=Cw:=funext e;subst this a;show x
variable {j7 B7:Z7}{o8 y3:Array (Int×Bs)}
def HV.put(j:v.get? i=J j7)(x:HV E s j7 As l j8 o8 N n8)(g:ElemsOf (intKind E s) y3.toList) (d:∀k,Cw k=I↔∃e∈y3.toList,(intKind E s).is k e.2=I) (h:y3.size<scanBound) (c:A9.fits y3.size=I) (b:A9.led=Ba) (a:Lo A9):∃f,(v.update i (Z7.putSet y3 A9)).get? i=J f/\HV E s f Cw y3.size Ba y3 (N+1) A9:=by show#[{j7 with data:=.set y3 (N+1) A9},?_,x.ex,Y,g,d,h,c,Y,b,a];have:=IJ (Z7.putSet y3 A9) j (by rw[putSet_of y3 A9 x.dt];rfl);rwa [putSet_of y3 A9 x.dt]at this
variable {r:C1}{i6 nU:To}{d9:Db}
theorem dR {g:Bool->Sem Unit}(hg:∀(d:Bool) (b:C1) (H:Unit->Uh),H Unit.unit b->C3 (C4 E s) d9 (g d) H i6 b)(B:r.heap.get? i=J j7) (x:HV E s j7 As l j8 o8 N n8) (G:ElemsOf (intKind E s) y3.toList) (m:∀k,Cw k=I↔∃e∈y3.toList,(intKind E s).is k e.2=I) (F:y3.size<scanBound) (y:A9.fits y3.size=I) (n:A9.led=j8) (o:Lo A9) {R:Ub->Uh} (h:∀z,Heap.SameBut i r.heap z->Wk E s z i Cw y3.size j8->R (J I) {r with heap:=z}):C3 (C4 E s) d9 (storeSet i y3 A9 >>= λ_=>if(!Ba&&A9.tooFull)=I then(g (relayAll A9 y3<|hU y3.size).2.2 >>= λ_=>storeSet i (relayAll A9 y3<|hU y3.size).1 (relayAll A9 y3<|hU y3.size).2.1 >>= λ_=>pure<|J I)else pure (J I)) R i6 r:=by
 show DL<|wpAny_storeSet_of B x.dt ?_<|My F;have Wa L c t:=x.put B G m F y n o;have a:=K1 r.heap i<|Z7.putSet y3 A9;split;have#[p,w]:=bO y3<|hU y3.size;have f:=relayAll_perm A9 y3<|hU y3.size;have A:=relayAll_fits A9 y3<|hU y3.size;generalize relayAll A9 y3 (hU y3.size)=Z at p w f A;have#[j,O,P]:=Z;dsimp only at p w f A ⊢;have K:j.size=y3.size:=by rw[<-Ku,f.length_eq,Ku]
 show DL (hg _ _ _<|DL<|wpAny_storeSet_of c t.dt ?_<|My<|by lia);have Wa M v C:=t.put c (G.perm f) (λk=>(m k).trans #[λ⟨e,u,q⟩=>#[e,f.mem_iff.mpr u,q],λ⟨e,u,q⟩=>#[e,f.mem_iff.mp u,q]]) () A (w.trans n) p;rw[K]at C;show DX<|h _ (a.trans<|K1 _ i _) #[M,j,#[_,O,v,C]];show DX<|h _ a #[L,y3,#[_,A9,c,t]]
variable {Av:Tok}{Bp:Bool->Uh}
theorem z39{a:Int}(x:Wk E s r.heap i As l j8)(M:l+1<scanBound)(h:∀c,Heap.SameBut i r.heap c->Wk E s c i (λj=>As j||decide (j=a)) (if As a then l else l+1) j8->∀Q,Bp Q {r with heap:=c}):C3 (C4 E s) d9 (setAddHashed i (.int a Av)<|(intKind E s).hash a) Bp i6 r:=by
 have Wg o u P:=x;have Wh T t C x:=P;have f:(intKind E s).is a (.int a Av)=I:=intKind_is _ _ _ _;have F:(iS a Av).scannable=I:=Y;unfold setAddHashed setAddHashedIn;show Hx<|DL<|Kw C x.dt x.fit ?_;dsimp only;rw[byScan_of F x.sb x.el,Ur Y];unfold setAddByScan;show DL<|DL<|Kf<|DL<|wpAny_setScan_of f C x.dt x.fit x.el ?_;cases hr:List.findIdx? (λe=>(intKind E s).is a e.2) u.toList with
 |some j=>have Wa W O _:=List.findIdx?_eq_some_iff_getElem.mp hr;have g:=(x.mem a).mpr #[_,Jf W,O];show DX<|DX ?_;have q:=h r.heap (Heap.SameBut.refl i r.heap) #[o,u,T,t,C,x.ex,x.dt,x.el,λS=>by rw[KA,JI,<-x.mem S];show#[λz=>z.elim id λe=>e▸g,.inl],x.sb,x.fit,by rw[g];show x.sz,x.led,x.ris];cases r;show q _
 |none=>
  have g:As a=Za:=by
   cases hk:As a with|false=>rfl|true=>have Wa e U V:=(x.mem a).mp hk;have:=List.findIdx?_eq_none_iff.mp hr e U;rw[V]at this;cases this
  have Wc G H:=zN4 u ((intKind E s).hash a) (.int a Av) x.ris;have p:=layNew_perm t u ((intKind E s).hash a)<|.int a Av;have K:=layNew_fits t u ((intKind E s).hash a)<|.int a Av;dsimp only;generalize layNew t u ((intKind E s).hash a) (.int a Av)=L at G H p K;have#[n,t1,Z,X]:=L;dsimp only at G H p K ⊢;rw[Dw]at p;have N:n.size=l+1:=by rw[<-Ku,p.length_eq,GJ,Ku,x.sz];rfl
  have A:=(x.el.push f F).perm p;have k:=mem_push_iff f x.mem p;have fin:∀c,Heap.SameBut i r.heap c->Wk E s c i (λj=>As j||decide (j=a)) n.size j8->∀Q,Bp Q {r with heap:=c}:=λc w y=>by have:=h c w;rw[g]at this;show this<|y.congr (λ_=>Y) N
  show DL ?_;have R:∀d b B,B Unit.unit b->C3 (C4 E s) d9 (match d with|true=>rule "set.scan.the-table-gave-way"|false=>pure Unit.unit ) B i6 b:=λd b B m=>by cases d;show DX m;show Kf m
  show R _ _ _ ?_;have v:n.size<scanBound:=by lia
  split;rw[show hashByValue 8 (iS a Av)=pure I from Y];show DL<|DX ?_;simp only[Il];show dR ?_ C x A k v K (H.trans x.led) G λc w y=>DX<|fin c w y _;intro d b B m;cases d<;>first|show DX m|show Kf m
  show DL<|DX ?_;simp only[Il];show dR ?_ C x A k v K (H.trans x.led) G λc w y=>DX<|fin c w y _;intro d b B m;cases d<;>first|show DX m|show Kf m
def xK (w:C6):Bool:=!w.params.followText "set-order"
abbrev rB (w:C6):Z7:={cls:=.type "set",dict:=D,data:=.set [].toArray 0 (.fresh 0 0<|xK w)}
def zJ2:HV E s (rB s) (λ_=>Za) 0 (xK s) [].toArray 0 (.fresh 0 0 (xK s)):=
 #[#[Y,Y,Y],Y,λe a=>by simp at a,λk=>by simp,by decide,by rfl,Y,Y,λ_=>.nil]
theorem z01{a:C5}{E:To} (v:Bs){Q₁:To}(h:Q₁ (.ref r.heap.objs.size) {r with heap:=r.heap.push<|rB s}):ZH (C4 a s) d9 (.call (.builtin "set.__new__") #[[.type "set",v],[]]) (wants Q₁ E) r:=by show MC<|DL<|JP (F.newCall_set_1 v)<|DX #[Ji F.plain_set_new _,Jt F.entry_set_new ?_];rw[JC F.plain_set_new _];unfold Builtin.«set.__new__» Builtin.Frozenset.newClass;have b:=sub_set_self;have#[c,g,d,f,e]:=r;dsimp only;wp_walk;show Kx<|DX ?_;simp only[newObj];show DL<|wpAny_alloc<|DX<|DX h
variable {EC:Nat->Uh}{BM:Nat->Bs->Prop}{Fh:Array GenState->Array GenState->Prop}{A5:Result->Uh}{l8 Az:TU}
theorem zF9 (W:WalksS E s d9.in1 i l8 Az Fh l BM EC)(S:Ch)(w:S∉l8)(b:Nat->Int)(n:∀a v,BM a v->∃t,v=.int (b a) t)(U:l+1<scanBound):∀(k a:Nat) (f:C1),l-a=k->a<=l->EC a f->Wk E s f.heap S (λj=>(firstMet b a).any (· == j)) (firstMet b a).length j8-> (∀m,Moved (S::Az) Fh f m->Wk E s m.heap S (λj=>(firstMet b l).any (· == j)) (firstMet b l).length j8->A5 (.ok (.ret .none)) m)-> ZH (C4 E s) d9 (.builtin "set.update.loop" #[[.ref S,.ref i],[]]) A5 f:=by
 have C:S∉Az:=λh=>w<|W.sub _ h;have d:∀c∈Az,c∈S::Az:=λc p=>GH _ p;intro k;induction k with
 |zero=>
  intro a f hk P g x K;have e:a=l:=by lia
  subst e;show Jt F.entry_set_update_loop ?_;rw[JC F.plain_set_update_loop _];show DL<|W.done f _ _ g λm B=>DX<|K m (B.mono d)<|x.keep λo L=>B.heap S _ C L
 |succ k Q=>
  intro a f hk P g x K;have q:a<l:=by lia
  show Jt F.entry_set_update_loop ?_;rw[JC F.plain_set_update_loop _];show DL<|W.item a f _ _ q g λv m T u B=>?_;have Wb t rfl:=n a v T;show DL<|Hx ?_;unfold setAdd;show Hx<|DL<|(intKind E s).pyHash (intKind_is _ _ _ _) ?_;have A:(firstMet b a).length+1<scanBound:=by have:=firstMet_length_le b a;lia
  show z39 (x.keep λo L=>B.heap S _ C L) A λO G N r=>?_;have M:Wk E s O S (λj=>(firstMet b<|a+1).any (· == j)) (firstMet b<|a+1).length j8:=N.congr (λj=>by rw[firstMet_succ,step_any]) (by rw[firstMet_succ,step_length]);show DX #[Ji F.plain_set_update_loop _,Q (a+1) _ () q (W.frame _ m _ _ u (HI _) λc p o e=>?_) M λH y R=>?_];rw[G.2 c λz=>w<|by rw[<-z];show p];show e;show K H (Moved.trans W.gtrans ((B.mono d).then_heap (HI _) λc o p e=>?_) y) R;rw[G.2 c λz=>p<|by rw[z];show GN];show e
variable {l7:Uc}{i9:TN}
theorem z42{a:C5}(hh:d9.handled=D)(hl:r.heap.IsList i l7)(hi:IntsAre l7.toList i9)(hb:l7.size+1<scanBound)(h:∀(f:C7) (B:Nat),Wk a s f r.heap.objs.size (λj=>(firstMet (λd=>i9.getD d 0) l7.size).any (· == j)) (firstMet (λd=>i9.getD d 0) l7.size).length (xK s)-> (∀c o,c<r.heap.objs.size->r.heap.get? c=J o->f.get? c=J o)->nU (.ref r.heap.objs.size) {r with heap:=f,toks:=B}):C3 (C4 a s) d9 (call (.type "set") [.ref i]) nU i6 r:=by
 have Wg c tl V:=Ke.mro;have P:=Ke.made;have U:=Ke.sub;show IA<|MC ?_;change C3 _ _ (callAny (.type "set") _) _ _ _;show DX #[Ly _ (),Jt F.entry_type_call ?_];rw[Around.under_plain (weight_type_call_type "set" [.ref i] []) Y];have h1:=Ke.notType;have h2:=Ke.canCreate;have a7:=F.typeCall_set_1<|.ref i
 repeat (any_goals (first|assumption|wp_step))
 show Jk (z01 (.ref i) (E:=i6) (Q₁:=λT l=>T=.ref r.heap.objs.size/\l={r with heap:=r.heap.push<|rB s}) #[Y,Y]) λC l Q=>?_;cases C with
 |error e=>show Q
 |ok fl=>
  cases fl with
  |ret T=>
   have Wc rfl rfl:=Q;have Z:(r.heap.push<|rB s).get? r.heap.objs.size=J (rB s):=GB _ Y;have hT:Shared.TypeIs {r with heap:=r.heap.push<|rB s} (.ref r.heap.objs.size) "set":=#[_,Z,Y];have a6:=Ke.init.lookup;have a4:=Ke.init.bind<|.ref r.heap.objs.size
   repeat (any_goals (first|assumption|wp_step))
   show Jk (Lu (R:=wants (λC k=>C=.none/\∃f B,k={r with heap:=f,toks:=B}/\Wk a s f r.heap.objs.size (λj=>(firstMet (λd=>i9.getD d 0) l7.size).any (· == j)) (firstMet (λd=>i9.getD d 0) l7.size).length (xK s)/\
     (∀c o,c<r.heap.objs.size->r.heap.get? c=J o->f.get? c=J o)) i6) Ke.init.plain F.entry_set_init<|check_set_init_1 hT ?_) λw k b=>?_
   have We ol A z H:=hl;have Wb nl q:=H;have#[a3,n,L,g]:=ol;simp only at z q;subst z q;have p:(r.heap.push<|rB s).get? i=J {cls:=.type "list",dict:=n,data:=.seq l7 nl,slots:=g}:=D6 _ A;have a0:=F.sub_list_set;have X:=F.sub_list_frozenset;have a5:(eI "list" == eI "dict")=Za:=by decide
   have u:(r.heap.push<|rB s).IsList i l7:=#[_,p,Y,#[nl,Y]];unfold Builtin.«set.__init__» noKeywords Builtin.Frozenset.updateFrom;generalize K:pyIter=PI;wp_walk;subst K;show Kv u<|DL<|wpAny_runValue ?_;have t:i<r.heap.objs.size:=Gd A;have O:(r.heap.push<|rB s).objs.size=r.heap.objs.size+1:=IM _ _;have y:i≠(r.heap.push<|rB s).objs.size:=by rw[O];show Gp<|JG t
   have N:r.heap.objs.size∉[(r.heap.push<|rB s).objs.size,i]:=by rw[O];simp only[D7,Gv,Gw,not_or];show#[Gp<|Ii _,Jj t]
   show zF9 ((Walks.list (by simp[hh]) _ i y l7).toS) r.heap.objs.size N (λd=>i9.getD d 0) (λd v hv=>IntsAre.int_at hi d v<|by rw[CW];show hv) hb (l7.size-0) 0 _ () (Gj _)
    #[#[_,GB _ Y,Y,Y],u.push _] #[rB s,_,#[_,_,D6 _ Z,zJ2]] λs' G x=>?_
   have#[f,g',d',S,M]:=s';have eg:g'=r.gens:=G.gens;have ed:d'=r.drawn:=G.drawn;have eo:M=r.os:=G.os;subst eg ed eo;show DX<|DX #[Y,f,S,Y,#[x,λc o W e=>?_]];show G.heap c o ?_<|D6 _<|D6 _ e;rw[O];simp only[D7,Gv,Gw,not_or];show#[Gp W,Gp<|JG W];cases w with
   |error e=>show b
   |ok m=>
    cases m with
    |ret C=>
     have#[rfl,f,B,rfl,x,hk]:=b
     repeat (any_goals (first|assumption|wp_step))
     show h _ _ x hk
    |_=>show b.elim
  |_=>show Q.elim
theorem uU {O:Type}:∀(l:List O) (i:Nat) (x:O),l[i]?=J x->(x::l.eraseIdx i).Perm l
 |[],i,x,h=>by simp at h
 |a::l,0,x,h=>by simp at h;subst h;show .refl _
 |a::l,i+1,x,h=>by
  have b:l[i]?=J x:=by simpa using h
  show(List.Perm.swap a x<|l.eraseIdx i).trans<|(uU l i x b).cons a
theorem dN {O:Type}(next:Nat->Nat):∀(f k:Nat) (left:List O) (out:Array O),left.length=f->(pickOrder.go next f k left out).toList.Perm (out.toList++left)
 |0,k,left,out,e=>by rw[Nl.mp e,G9];show .refl _
 |f+1,k,left,out,e=>by
  unfold pickOrder.go;have a:next k % left.length<left.length:=Nat.mod_lt _<|by lia
  rw[Gh a];dsimp only;show(dN next f (k+1) _ _<|by rw[List.length_eraseIdx];split<;>lia).trans ?_;rw[Dw,Lz];show List.Perm.append_left _<|uU left _ _<|Gh a
variable {u3:Type}
def sO(next:Nat->Nat)(xs:Array u3):(pickOrder next xs).toList.Perm xs.toList:=by
 have:=dN next xs.size 0 xs.toList [].toArray ()
 simpa[pickOrder]using this
variable {AG:Model}
def za1{a:Source}(b:l≠0)(h:∀i d,i<l->EC i {r with drawn:=d}):C3 AG d9 (choose a l) EC i6 r:=λ_ _ _=>#[b,h _ _<|Nat.mod_lt _<|Nat.pos_of_ne_zero b]
theorem df {O:Type}:∀(n:Nat) (xs:List O) {a:C1}{Q:List O->Uh},xs.length=n->(∀b d,b.Perm xs->Q b {a with drawn:=d})->C3 (C4 E s) d9 (drawOrder n xs) Q i6 a
 |0,xs,a,Q,e,h=>by rw[Nl.mp e]at h;cases a;show DX<|h [] _ (.refl _)
 |n+1,[],a,Q,e,h=>by cases e
 |n+1,x::xs,a,Q,e,h=>by unfold drawOrder;show DL (za1 () λi g c=>?_);rw[Gh c];dsimp only;show DL (df n _ (by rw[List.length_eraseIdx,Ur c];simp at e ⊢;lia) λb d f=>DX ?_);show h _ d<|(f.cons _).trans<|uU _ _ _<|Gh c
def yG :Slot "set_iterator" "__next__" "set_iterator.__next__":=
 .of (owner:="set_iterator") (n:="__next__") (by rw[K9,KY];kernel_rfl) () () () (by first|show .inl ()|show .inr<|by symm) (by rw[isSubtype_type];kernel_rfl)
def ur :entryFor table "set_iterator.__next__"=J Builtin.«set_iterator.__next__»:=entryFor_of_fast<|by kernel_rfl
def tI (a:Bs):argsOk "set_iterator.__next__" #[[a],[]]:=by unfold argsOk;kernel_rfl
def zc8 :entryFor table "set.__iter__"=J Builtin.«frozenset.__iter__»:=entryFor_alias (id':="frozenset.__iter__") (by kernel_rfl) Y ()<|by kernel_rfl
abbrev Hu (f:Bs)(i:Nat)(a:Ch)(n b:Nat):Z7:={cls:=.type "set_iterator",data:=.fields [f,.int i 0,.ref a,.int n 0,.int b 0].toArray}
variable {Bf:T8->Uh}{f9:Bs}
def zF5(c:r.heap.get? i=J (Hu (.int t7 0) l x N i5))(a:r.heap.get? x=J j7)(f:HV E s j7 As j9 j8 o8 i5 n8)(j:o8.size=N)(p:∀(k:Db) (g:To) (d:Option (Bs×Nat)->Uh),d (J (f9,A7)) r->C3 (C4 E s) k (setNext x t7 l i5) d g r)(m:∀b,b.get? i=J (Hu (.int A7 0) (l+1) x N i5)->Heap.SameBut i r.heap b->Bf (J f9) {r with heap:=b}):C3 (C4 E s) d9 (pyNext<|.ref i) Bf g r:=by have e:r.TypeIs (.ref i) "set_iterator":=#[_,c,Y];unfold pyNext;show DL<|JN<|Ko e yG<|Jr yG e ur ?_<|tI _;unfold Builtin.«set_iterator.__next__»;show DL (JP ()<|DL<|wpAny_fieldsOf c Y<|DL<|Lv a f.dt f.fit ?_);rw[j];show Hv (λz=>Ut z<|by simp) λ_=>DL<|p _ _ _<|DL (JF c () λu n q=>DL<|JF n () λh t o=>?_);show DX #[f9,Y,DX<|m h t<|q.trans o]
def z65(h:d9.handled=D)(b:r.heap.get? i=J (Hu (.int t7 0) l x N i5))(a:r.heap.get? x=J j7)(f:HV E s j7 As j9 j8 o8 i5 n8)(k:o8.size=N)(o:∀(m:Db) (g:To) (c:Option (Bs×Nat)->Uh),c D r->C3 (C4 E s) m (setNext x t7 l i5) c g r)(n:∀d,Heap.ExtBut i r.heap d->Bf D {r with heap:=d}):C3 (C4 E s) d9 (pyNext<|.ref i) Bf g r:=by have e:r.TypeIs (.ref i) "set_iterator":=#[_,b,Y];unfold pyNext;show DL<|JN<|Ko e yG<|Jr yG e ur ?_<|tI _;unfold Builtin.«set_iterator.__next__»;show DL (JP ()<|DL<|wpAny_fieldsOf b Y<|DL<|Lv a f.dt f.fit ?_);rw[k];show Hv (λz=>Ut z<|by simp) λ_=>DL<|o _ _ _ ?_;show DL (JF b () λq p j=>DL ?_);simp only[newExc,newTuple];show DL (JH ?_<|by size_fits);show DL (JP (by first|rfl|(simp only[firstArgMember];rfl)) ?_);show JH ?_ (by size_fits);simp only[raiseNew];show DL<|wpAny_handled ?_;rw[show d9.in1.handled=D from h];show DL<|DX<|wpAny_throw ?_;show DL<|LC #[_,GB _ Y,Y] isSubtype_stop ?_;show DX<|n _<|(j.extBut.push _).push _
def zl3{u:Tok}{e:Int×Bs}(c:r.heap.get? i=J (Hu (.ref R) l x N i5))(f:r.heap.get? R=J B7)(d:B7.data=.seq l7 t7)(a:r.heap.get? x=J j7)(b:HV E s j7 As j9 j8 o8 i5 n8)(k:o8.size=N)(o:l7[l]?=J (.int A7 u)) (m:o8[A7]?=J e)(q:∀g,g.get? i=J (Hu (.ref R) (l+1) x N i5)->Heap.SameBut i r.heap g->Bf (J e.2) {r with heap:=g}):C3 (C4 E s) d9 (pyNext<|.ref i) Bf i6 r:=by have h:r.TypeIs (.ref i) "set_iterator":=#[_,c,Y];unfold pyNext;show DL<|JN<|Ko h yG<|Jr yG h ur ?_<|tI _;unfold Builtin.«set_iterator.__next__»;show DL (JP ()<|DL<|wpAny_fieldsOf c Y<|DL<|Lv a b.dt b.fit ?_);rw[k];show Hv (λz=>Ut z<|by simp) λ_=>DL<|IP f d ?_;dsimp only;rw[JY,o];dsimp only;unfold setNextDrawn;show DL<|DL<|Kw a b.dt b.fit ?_;dsimp only;rw[JY,JY];show Hv (λz=>Ut z<|by simp) λ_=>?_;rw[m];show DX<|DL (JF c () λj p n=>?_);show DX #[e.2,Y,DX<|q j p n]
def zK7(h:d9.handled=D)(d:r.heap.get? i=J (Hu (.ref R) l x N i5))(c:r.heap.get? R=J B7)(b:B7.data=.seq l7 t7)(a:r.heap.get? x=J j7)(g:HV E s j7 As j9 j8 o8 i5 n8)(k:o8.size=N)(o:l7[l]?=D) (m:∀e,Heap.ExtBut i r.heap e->Bf D {r with heap:=e}):C3 (C4 E s) d9 (pyNext<|.ref i) Bf i6 r:=by have f:r.TypeIs (.ref i) "set_iterator":=#[_,d,Y];unfold pyNext;show DL<|JN<|Ko f yG<|Jr yG f ur ?_<|tI _;unfold Builtin.«set_iterator.__next__»;show DL (JP ()<|DL<|wpAny_fieldsOf d Y<|DL<|Lv a g.dt g.fit ?_);rw[k];show Hv (λz=>Ut z<|by simp) λ_=>DL<|IP c b ?_;dsimp only;rw[JY,o];show DL (JF d () λu j p=>DL<|JF j () λt q n=>?_);show DL ?_;simp only[newExc,newTuple];show DL (JH ?_<|by size_fits);show DL (JP (by first|rfl|(simp only[firstArgMember];rfl)) ?_);show JH ?_ (by size_fits);simp only[raiseNew];show DL<|wpAny_handled ?_;rw[show d9.in1.handled=D from h];show DL<|DX<|wpAny_throw ?_;show DL<|LC #[_,GB _ Y,Y] isSubtype_stop ?_;show DX<|m _<|((p.trans n).extBut.push _).push _
theorem gA (a:r.heap.get? i=J j7)(x:HV E s j7 As i5 j8 o8 N n8)(h:xK s=I)(f:j8=I)(e:(!n8.plain&&decide (o8.size > 1))=Za)(k:l<o8.size)(c:Db)(d:To)(b:Option (Bs×Nat)->Uh)(n:aL n8.place j9=l)(q:∀(j:l<n8.place.size),b (J (o8[l].2,n8.place[l]+1)) r):C3 (C4 E s) c (setNext i j9 l N) b d r:=by
 have m:s.params.followText "set-order"=Za:=by simpa[xK]using h
 have g:n8.place.size=o8.size:=by have:=x.fit;simp only[DI,HG,Iz]at this;show this.1
 unfold setNext;show DL<|Kw a x.dt x.fit ?_;dsimp only;unfold setsByText;show DL<|DL<|Kx<|DX<|Hv (λz=>Ut z<|by change ¬(s.params.followText "set-order"=I);rw[m];decide) λ_=>?_;show Hv (λz=>Ut (show(!n8.plain&&decide (o8.size > 1))=I from z)<|by rw[e];decide) λ_=>?_;show DL<|(?_:C3 (C4 E s) c (if(!n8.led&&!o8.isEmpty)=I then unsupported "set:maker-not-led" else pure Unit.unit ) _ d r);rw[(x.led.trans f)];show DX ?_;rw[n,KS k,KS (show l<n8.place.size by lia)];show DX<|q<|by lia
def zd8 (a:r.heap.get? i=J j7)(x:HV E s j7 As i5 j8 o8 N n8)(g:xK s=I)(f:j8=I)(e:(!n8.plain&&decide (o8.size > 1))=Za)(c:Db)(d:To)(b:Option (Bs×Nat)->Uh)(j:aL n8.place j9=o8.size)(q:b D r):C3 (C4 E s) c (setNext i j9 l N) b d r:=by
 have h:s.params.followText "set-order"=Za:=by simpa[xK]using g
 unfold setNext;show DL<|Kw a x.dt x.fit ?_;dsimp only;unfold setsByText;show DL<|DL<|Kx<|DX<|Hv (λz=>Ut z<|by change ¬(s.params.followText "set-order"=I);rw[h];decide) λ_=>?_;show Hv (λz=>Ut (show(!n8.plain&&decide (o8.size > 1))=I from z)<|by rw[e];decide) λ_=>?_;show DL<|(?_:C3 (C4 E s) c (if(!n8.led&&!o8.isEmpty)=I then unsupported "set:maker-not-led" else pure Unit.unit ) _ d r);rw[(x.led.trans f)];show DX ?_;rw[j,CP (D4 _)];show DX q
def ng (a:r.heap.get? i=J j7)(x:HV E s j7 As i5 j8 o8 N n8)(f:xK s=Za)(d:Db)(g:To)(b:Option (Bs×Nat)->Uh)(q:b (((pickOrder (s.params.setOrder i N) o8)[l]?).map λe=>(e.2,j9)) r):C3 (C4 E s) d (setNext i j9 l N) b g r:=by
 have c:s.params.followText "set-order"=I:=by simpa[xK]using f
 unfold setNext;show DL<|Kw a x.dt x.fit ?_;dsimp only;unfold setsByText;show DL<|DL<|Kx<|DX<|Hv (λ_=>?_) λz=>Ut c z;show Hv (λz=>Ut z<|by simp) λ_=>?_;unfold setWalk;show DL<|DL<|Kw a x.dt x.fit ?_;dsimp only;unfold setsByText;show DL<|DL<|Kx<|DX<|Hv (λ_=>?_) λz=>Ut c z;show DL<|Kx<|DX<|DX q
def jS :Slot "set_iterator" "__iter__" "set_iterator.__iter__":=
 .of (owner:="set_iterator") (n:="__iter__") (by rw[K9,KY];kernel_rfl) () () () (by first|show .inl ()|show .inr<|by symm) (by rw[isSubtype_type];kernel_rfl)
def ai :entryFor table "set_iterator.__iter__"=J Builtin.«dict_keyiterator.__iter__»:=entryFor_alias (id':="dict_keyiterator.__iter__") (by kernel_rfl) Y ()<|by kernel_rfl
def zv1 (a:Bs):argsOk "set_iterator.__iter__" #[[a],[]]:=by unfold argsOk;kernel_rfl
def cS(b:r.heap.get? i=J (Hu f9 i5 x l N))(q:nU (.ref i) r):C3 (C4 E s) d9 (pyIter (.ref i)) nU i6 r:=by have a:r.TypeIs (.ref i) "set_iterator":=#[_,b,Y];show wpAny_pyIter_slot a jS<|Jr jS a ai ?_<|zv1 _;show DX #[_,Y,#["set_iterator",_,a,yG.lookup,q]]
variable {g7:TQ}
theorem RJ (B:d9.handled=D)(p:x≠i)(y:HV E s j7 As i5 j8 o8 N n8)(t:o8.size=l)(H:g7.length=l)(g:Nat->Nat)
  (C:∀(b:Nat) (a:C1) (m:Db) (f:To) (j:Option (Bs×Nat)->Uh),a.heap.get? x=J j7->(F:b<g7.length)->j (J (g7[b],g (b+1))) a->C3 (C4 E s) m (setNext x (g b) b N) j f a)
  (G:∀(a:C1) (m:Db) (f:To) (j:Option (Bs×Nat)->Uh),a.heap.get? x=J j7->j D a->C3 (C4 E s) m (setNext x (g l) l N) j f a):
  Walks E s d9 i [i,x] [i] l (λb v=>g7[b]?=J v) (λb h=>h.get? i=J (Hu (.int (g b) 0) b x l N)/\h.get? x=J j7) where
 sub:=λc n=>by simp at n;simp[n]
 frame:=λb h o d k=>#[k i () _ d.1,k x () _ d.2]
 item:=λb a Q f F d r=>zF5 d.1 d.2 y t (λm f j q=>C b a m f j d.2 () q) λo e w=>by cases a;show r _ o _ (Gh<|by lia) #[e,by rw[w.2 x p];show d.2] λc u n e=>by rw[w.2 c λz=>n<|by simp[z]];show e
 done:=λa Q f d r=>z65 B d.1 d.2 y t (λm f j q=>G a m f j d.2 q) λo e=>by cases a;show r o _ λc u n A=>e c u (λz=>n<|by simp[z]) A
 self:=λb a Q f d q=>cS d.1 q
variable {BR:T4}
theorem yi7(B:d9.handled=D)(r:x≠i)(n:R≠i)(y:HV E s j7 As i5 j8 o8 N n8)(o:o8.size=l)(C:BR.length=l)(hk:∀k∈BR,k<l)(f:B7.data=.seq (BR.map λk=>iS (k:Nat) 0).toArray j9):
  Walks E s d9 i [i,x,R] [i] l (λb v=>(BR.map λk=>(o8.getD k (0,.none)).2)[b]?=J v) (λb h=>h.get? i=J (Hu (.ref R) b x l N)/\h.get? x=J j7/\h.get? R=J B7) where
 sub:=λj9 d=>by simp at d;simp[d]
 frame:=λb h m a k=>#[k i () _ a.1,k x () _ a.2.1,k R () _ a.2.2]
 item:=λb j Q w F a t=>by
  have c:b<BR.length:=by lia
  have g:BR[b]<o8.size:=by rw[o];show hk _<|Jf c
  show zl3 (u:=0) a.1 a.2.2 f a.2.1 y o (by simp[c]) (KS g) λm e p=>?_;cases j;show t _ m _ ?_ #[e,by rw[p.2 x r];show a.2.1,by rw[p.2 R n];show a.2.2] λj9 u d e=>by rw[p.2 j9 λz=>d<|by simp[z]];show e
  rw[GD,Gh c];simp[hY,g]
 done:=λj Q w a t=>zK7 B a.1 a.2.2 f a.2.1 y o (by simp[C]) λm e=>by cases j;show t m _ λj9 u d A=>e j9 u (λz=>d<|by simp[z]) A
 self:=λb j Q w a q=>cS a.1 q
def aH (t:SetTable):Nat->Nat
 |0=>0
 |i+1=>t.place.getD i 0+1
def Wkd (b:C5)(w:C6)(h:C7)(f a:Ch)(N n:Nat)(d:TQ):Prop:=∀A:Db,A.handled=D->∃e St,Walks b w A f e [f] n (λi v=>d[i]?=J v) St/\St 0 h/\(∀c∈e,c=a\/N<=c)/\f∈e
theorem zO5(b:r.heap.get? i=J j7)(x:HV E s j7 As N (xK s) o8 l n8)(h:∀(p:Ch) (h':C7) d (g7:TQ),(∀c u,r.heap.get? c=J u->h'.get? c=J u)->r.heap.objs.size<=p->g7.Perm (o8.toList.map (·.2))->Wkd E s h' p i r.heap.objs.size o8.size g7->nU (.ref p) {r with heap:=h',drawn:=d}):C3 (C4 E s) d9 (pyIter<|.ref i) nU i6 r:=by
 have O:r.TypeIs (.ref i) "set":=#[_,b,x.ex.1];have j:=Gd b;show wpAny_pyIter_slot O F.slot_set_iter<|Jr F.slot_set_iter O zc8 ?_<|F.args_set_iter_1 _;unfold Builtin.«frozenset.__iter__»;show DL (JP ()<|DL ?_);unfold Builtin.Frozenset.sizeOf;show DL<|Lv b x.dt x.fit<|DX<|DL ?_;unfold setDrawn;show DL<|Kw b x.dt x.fit ?_;dsimp only;unfold setsByText;show DL<|DL<|Kx<|DX<|DX ?_;have W:=My x.sb;show Hv (λK=>?_) λK=>?_;show DL (df _ _ () λA d C=>?_);have R:A.length=o8.size:=by rw[C.length_eq,List.length_range]
 show DL (wpAny_newTuple ?_<|by rw[DZ];lia);generalize G:(r.heap.push {cls:=.type "tuple",data:=.seq (A.map λ(a:Nat)=>ZI a).toArray}).objs.size=p;have B:p=r.heap.objs.size+1:=by rw[<-G];show IM _ _
 have Q:∀c u,r.heap.get? c=J u->(r.heap.push {cls:=.type "tuple",data:=.seq (A.map λ(a:Nat)=>ZI a).toArray}).get? c=J u:=λc u e=>D6 _ e;show DL<|wpAny_setEpoch_of (Q _ _ b) x.dt x.fit<|DL<|JH<|DX #[_,Y,#["set_iterator",_,#[_,GB _ Y,Y],yG.lookup,?_]];dsimp only;rw[G];have m:∀c u,r.heap.get? c=J u->((r.heap.push {cls:=.type "tuple",data:=.seq (A.map λ(a:Nat)=>ZI a).toArray}).push<|Hu (.ref r.heap.objs.size) 0 i o8.size l).get? c=J u:=λc u e=>D6 _<|Q c u e;show h p _ d (A.map λk=>(o8.getD k (0,.none)).2) m (by rw[B];show HI _) ?_ (λd9 v=>#[1,_,_,yi7 v (by rw[B];show Gp<|JG j) (by rw[B];show Gp<|Ii _) x Y R (λk hk=>LI.mp<|C.mem_iff.mp hk) Y,#[by rw[<-G];show GB _ Y,m _ _ b,D6 _<|GB _ Y],λc z=>?_,by simp]);have e:o8.toList.map (·.2)=(List.range o8.size).map λk=>(o8.getD k (0,.none)).2:=by
  show List.ext_getElem () λa H V=>?_;have:a<o8.size:=by simpa using H
  simp[hY,this]
 rw[e];show C.map _;simp only[D7,Gv,Gw]at z;rcases z with rfl|rfl|rfl;rw[B];show .inr<|HI _
 show .inl Y;show .inr<|D4 _;show DL<|DX<|DL<|wpAny_setEpoch_of b x.dt x.fit<|DL<|JH<|DX #[_,Y,#["set_iterator",_,#[_,GB _ Y,Y],yG.lookup,?_]];have m:∀c u,r.heap.get? c=J u->(r.heap.push<|Hu (.int 0 0) 0 i o8.size l).get? c=J u:=λc u e=>D6 _ e;have w:∀c∈[r.heap.objs.size,i],c=i\/r.heap.objs.size<=c:=λc z=>by
  simp only[D7,Gv,Gw]at z;rcases z with rfl|rfl;show .inr<|D4 _
  show .inl Y
 cases hw:xK s with
 |false=>
  have q:=h r.heap.objs.size _ r.drawn ((pickOrder (s.params.setOrder i l) o8).toList.map (·.2)) m (D4 _) ((sO _ _).map _) (λd9 v=>#[1,_,_,RJ v (Gp j) x Y (by rw[DZ,(sO _ o8).length_eq];simp) (λ_=>0) (λa r n i6 o e t q=>ng e x hw n i6 o ?_) λr n i6 o e q=>ng e x hw n i6 o ?_,#[GB _ Y,m _ _ b],w,by simp]);show q;have f:a<(pickOrder (s.params.setOrder i l) o8).size:=by simpa using t
  rw[KS f];simpa using q;rw[CP (by have:=(sO (s.params.setOrder i l) o8).length_eq;simp at this;lia)];show q
 |true=>
  have S:s.params.followText "set-order"=Za:=by simpa[xK]using hw
  have L:¬((!s.params.followText "set-order"&&(!n8.plain&&decide (o8.size > 1)))=I):=K;rw[S]at L;have g:(!n8.plain&&decide (o8.size > 1))=Za:=by simpa using L
  have T:n8.place.size=o8.size:=by have:=x.fit;simp only[DI,HG,Iz]at this;show this.1
  have M:Up n8.place:=by
   cases hp:n8.plain with
   |true=>show x.ris hp
   |false=>
    rw[hp]at g;have:o8.size<=1:=by simpa using g
    unfold Up;have H:n8.place.toList.length<=1:=by simp;lia
    match U:n8.place.toList,H with
    |[],_=>show .nil
    |[y],_=>show List.pairwise_singleton _ _
  have P:∀a (t:a<=o8.size),aL n8.place (aH n8 a)=a:=λa t=>by
   cases a with
   |zero=>show ef M
   |succ a=>
    have f:a<n8.place.size:=by lia
    have e:aH n8 (a+1)=n8.place[a]+1:=by simp[aH,hY,f]
    rw[e];show gI M f
  have q:=h r.heap.objs.size _ r.drawn (o8.toList.map (·.2)) m (D4 _) (.refl _) (λd9 v=>#[1,_,_,RJ v (Gp j) x Y () (aH n8) (λa r n i6 o e t q=>gA e x hw hw g (by simpa using t) n i6 o (P a<|by simp at t;lia) λf=>?_) λr n i6 o e q=>zd8 e x hw hw g n i6 o (P _<|D4 _) q,#[GB _ Y,m _ _ b],w,by simp]);show q;have e:aH n8 (a+1)=n8.place[a]+1:=by simp[aH,hY,f]
  rw[e]at q;simpa using q
def zr5(c:r.TypeIs (.ref i) "set")(h:Bp Za r):C3 (C4 E s) d9 (hB (.ref i)) Bp i6 r:=by
 unfold hB;show DL<|K8 c F.slot_set_len.lookup ?_;generalize a:("set.__len__":String)=id0
 wp_delta
 rw[show splitId id0=J ("set","__len__")from by subst a;decide +kernel];subst a;show DL (LC (b:=I) c (by rw[isSubtype_type];kernel_rfl) ?_);show Hv (λq=>Ut q<|by decide) λ_=>Hv (λ_=>?_) λq=>Ut () q;show DL<|LN c<|DX h
theorem je {Q:TQ->Uh}(X:d9.handled=D)(f:r.heap.get? i=J j7)(x:HV E s j7 As N (xK s) o8 l n8)(h:∀(K:C7) d (T:Nat) (a:TQ),r.heap.objs.size<K.objs.size->(∀c u,r.heap.get? c=J u->K.get? c=J u)->a.Perm (o8.toList.map (·.2))->Q a {r with heap:=K,drawn:=d,toks:=T}):C3 (C4 E s) d9 (collect<|.ref i) Q i6 r:=by
 unfold collect;show DL<|wpAny_runValue<|Jt F.entry_proto_collect ?_;rw[JC F.plain_proto_collect _];show DL<|JH<|DX #[Ji F.plain_list_iadd _,Jt F.entry_list_iadd ?_];rw[JC F.plain_list_iadd _];change C3 _ d9.in1 (eT (.ref r.heap.objs.size) (.ref i)<|.ref r.heap.objs.size) _ _ _;generalize t:r.heap.objs.size=L;have v:∀c u,r.heap.get? c=J u->(r.heap.push {cls:=.type "list",data:=.seq ([]:TQ).toArray}).get? c=J u:=λc u e=>D6 _ e;have m:(r.heap.push {cls:=.type "list",data:=.seq ([]:TQ).toArray}).get? L=J {cls:=.type "list",data:=.seq ([]:TQ).toArray}:=by rw[<-t];show GB _ Y
 have j:(r.heap.push {cls:=.type "list",data:=.seq ([]:TQ).toArray}).objs.size=L+1:=by rw[<-t];show IM _ _
 generalize a0:r.heap.push {cls:=.type "list",data:=.seq ([]:TQ).toArray}=O at v m j;have V:i≠L:=by rw[<-t];show Gp<|Gd f
 unfold eT;show DL<|LN #[_,v _ _ f,x.ex.1] ?_;have b1:gM (.ref L) (.ref i)=Za:=by simp[gM,Gx V]
 show Hv (λz=>Ut z<|by rw[b1];decide) λ_=>?_;show DL<|zO5 (v _ _ f) x λa3 U d a H hI S Z=>DL<|Hx<|zr5 #[_,H _ _<|v _ _ f,x.ex.1]<|Hv (λ_=>DL<|Kf ?_) λq=>Ut () q;show DL ?_;have p:=H _ _ m;show DL<|Js p Y ?_;have n:=IJ (Z7.mapSeq (·.push eH)) p Y;show Js n Y ?_;have w:∀c u,c≠L->U.get? c=J u->((U.update L (Z7.mapSeq (·.push eH))).update L (Z7.mapSeq (·.pop))).get? c=J u:=λc u B e=>(G4 _ _<|Gx B).trans<|(G4 _ _<|Gx B).trans e;have Wj fp St W w0 wf wI:=Z d9.in1 (by simp[X]);have y:L∉fp:=λz=>by
  rcases wf L z with e|e;show V e.symm
  have R:=e;rw[j]at R;show Ut R<|Nat.not_succ_le_self _
 show DX #[Ji F.plain_extend_loop _,codeAny_extend_loopS W.toS (My x.sb) _ y _ o8.size 0 _ _ _ Y (Gj _) (W.frame 0 _ _ w0 λc B u e=>w c u (λz=>y<|z▸B) e) (IJ (Z7.mapSeq (·.pop)) n Y) (ItemsOf.nil _) λG k c' P A b=>?_];show DL<|wpAny_load A ?_;have lo:a.length=o8.size:=by rw[S.length_eq];simp
 have ea:k.toList=a:=by
  show List.ext_getElem? λC=>?_;rcases HX C o8.size with hi|hi;have O:C<k.size:=by rw[b.1];show hi
  have:=b.2 C k[C] (KS O);rw[this];simp[O];rw[Ks (by simp[b.1];show hi),Ks ()]
 have M:∀{c:Ch} {u:Z7},r.heap.get? c=J u->c<L:=λe=>by rw[<-t];show Gd e
 have q:=h G.heap G.drawn G.toks a (by rw[t];show Gd A) (λc u e=>P.heap c u (λz=>?_)<|w c u (Gp<|M e)<|H _ _<|v _ _ e) S;show DX ?_;rw[ea];have#[hp,g,dr,T,os]:=G;have eg:=P.gens;have eo:=P.os;subst eg eo;show q;simp only[D7,Gv,Gw]at z;rcases z with z|z;show Gp (M e) z
 have o:=hI;rw[j]at o;have:=M e;rw[z]at this;show Ut (Gf (JG this) o)<|Ib _
theorem jI :∀{F a:TN},F.Nodup->(∀k∈F,k∈a)->a.length=F.length->a.Perm F
 |[],a,_,_,e=>by rw[Nl.mp e]
 |k::F,a,nd,sb,e=>by have hk:=sb k GN;have b:=List.perm_cons_erase hk;have Wc g d:=K7.mp nd;have f:=jI d (λj c=>(List.mem_erase_of_ne (λz:j=k=>g<|z▸c)).mpr<|sb j<|GH _ c) (by have:=b.length_eq;simp only[G3]at this e;lia);show b.trans<|f.cons k
theorem met_nodup (a:Nat->Int):∀n,(firstMet a n).Nodup
 |0=>.nil
 |n+1=>by rw[firstMet_succ];unfold step_dedup;split;show met_nodup a n;rename_i h;rw[List.nodup_append];show#[met_nodup a n,by simp,λx b y c e=>?_];rw[GV.mp c]at e;show h<|List.any_eq_true.mpr #[x,b,by simp[e]]
theorem cF{prog:C5}{w:C6} :∀(l:List (Int×Bs)),(∀e∈l,∃k,(intKind prog w).is k e.2=I)->∃b:TN,IntsAre (l.map (·.2)) b/\∀k,k∈b↔∃e∈l,(intKind prog w).is k e.2=I
 |[],_=>#[[],.nil,λk=>by simp]
 |e::l,h=>by
  have Wa b f c:=cF l λx a=>h x<|GH _ a;have Wb k hk:=h e GN;have Wb n8 d:=Dr hk;show#[k::b,?_,λj=>?_];rw[GW,d];show .cons k n8 f;rw[D7,c];constructor;rintro(rfl|⟨x,a,q⟩);show#[e,GN,hk];show#[x,GH _ a,q];rintro⟨x,a,q⟩;rcases D7.mp a with rfl|a;show .inl<|(intKind prog w).inj _ _ _ q hk
  show .inr #[x,a,q]
def bS :∀{e d:TQ}{a:TN},d.Perm e->IntsAre e a->∃b,IntsAre d b/\b.Perm a:=by
 intro e d a p;induction p generalizing a with
 |nil=>intro h;show#[a,h,.refl _]
 |cons x p r=>
  intro h;cases h with|cons k n8 h=>have Wa b g c:=r h;show#[k::b,.cons k n8 g,c.cons k]
 |swap x y l=>
  intro h;cases h with
  |cons k n8 h=>
   cases h with|cons m o h=>show#[m::k::_,.cons m o<|.cons k n8 h,.swap k m _]
 |trans p1 p2 j i=>intro h;have Wa b g c:=i h;have Wa f n q:=j g;show#[f,n,q.trans c]
theorem fA(A:d9.handled=D)(o:r.heap.get? i=J j7)(x:HV E s j7 As N (xK s) o8 l n8)(hF:i9.Nodup)(G:∀k,As k=i9.any (· == k))(W:N=i9.length)(U:i9.length<64)(h:∀(n:C7) d (j:Nat) (L:Ch) (out:Uc) (c:Nat) (ns:TN),r.heap.objs.size<=L->(∀c u,r.heap.get? c=J u->n.get? c=J u)->n.get? L=J (seqObj "list" out c)->IntsAre out.toList ns->ns.Perm i9->ns.Pairwise (·<=·)->nU (.ref L) {r with heap:=n,drawn:=d,toks:=j}):C3 (C4 E s) d9 (call (.builtin "sorted") [.ref i]) nU i6 r:=by
 have Wa t q O:=cF (prog:=E) (w:=s) o8.toList x.el.keys;have V:t.length=o8.size:=by have:=IntsAre.length q;simp at this;lia
 have y:t.Perm i9:=jI hF (λk hk=>(O k).mpr<|(x.mem k).mp<|by rw[G];show List.any_eq_true.mpr #[k,hk,by simp]) (by rw[V,x.sz,W]);show Calls.call_function_entry kind_sorted plain_sorted entry_sorted (args_sorted1 _) ?_;unfold Builtin.«sorted»;show DL (m:=checkCount "sorted" 1 1 _)<|DX<|DL (je (by simp[A]) o x λp d j a R P z=>?_);have Wa K H C:=bS z q;have B:a.length<64:=by have:=z.length_eq;have:=y.length_eq;simp at *;lia
 show DL<|wpAny_newList ?_;have b:(p.push<|seqObj "list" a.toArray 0).get? p.objs.size=J (seqObj "list" a.toArray 0):=GB _ Y;show DL<|Hx<|Jr slot_list_sort #[_,b,Y] entry_list_sort (list_sort_tree b H B λout g Q M T=>#[_,Y,?_])<|args_list_sort _;have Wb e S:=sortedHeap_at (out:=out) b;show DX #[_,Y,h _ d j p.objs.size out e g (Hy R) (λc u F=>?_) S Q (M.trans<|C.trans y) T];have v:=P c u F;have f:=Gd v;rw[sortedHeap_old (Gp f) (by rw[size_push'];show JG f)];show D6 _ v
end SetW
namespace L2
open PySem PySem.Spec PyProof.Rows SetW
abbrev vF (a:TN):TN:=firstMet (λi=>a.getD i 0) a.length
variable {r:C1}{f:Cx}{m d7:Hp}{cC:Tu}{u6:List (T6)}
def DM.drw(a:DM f cC u6 m r)(d:Drawn):DM f cC u6 m {r with drawn:=d}:=#[a.ok,a.os,a.bare,a.base,a.loc,a.cell,a.free,a.freeC,a.pin,a.hok,a.len]
def SW (P:C5)(w:C6)(o:Z7)(a:TN):Prop:=∃c b t,HV P w o (λk=>(vF a).any (· == k)) (vF a).length (xK w) c b t
variable {j w gV Eo:Dc}
theorem zb6 (B:f.calm=I):yL f (.type "set") (λxs H Q=>∃(l:Ch) (a:TN),xs=[.ref l]/\H l=J (.lst (a.map V.int))/\a.length<1000/\∀(e:Ch) (o:Z7),H e=D->SW f.prog f.w o a->Q (.ref e) (upd H e (.frz o (.set (λk=>(vF a).any (· == k)) (vF a).length)))):=by
 intro w s U H xs L Q c r h;have Wj l a rfl E C q:=h;have Wa u rfl F:=G6 r;cases F;have We g i A M:=c.list<|D3.of E;have m:=i.length;rw[DZ]at m;have v:g.toArray.size=a.length:=by simp[m]
 show z42 (c.ok.hd B) A.isList (by simpa using Hz i) (by rw[v];unfold scanBound;lia) λK G n hk=>?_;rw[v]at n;have Wg o z d:=n;have Wh p t y x:=d;show#[.ref s.heap.objs.size,_,c.laid (o:=.frz o<|.set _ _) (λb u j=>hk b u (Gd j) j) (D4 _) #[y,#[2,o,z,p,t,y,x.ex,x.dt,#[x.el,x.mem,x.sb,x.fit,x.sz]]],Y,q _ o (c.hok.fresh<|D4 _) #[z,p,t,x]]
theorem kb (y:f.calm=I):yL f (.builtin "sorted") (λxs H Q=>∃(l:Ch) (o:Z7) (u:HO) (a:TN),xs=[.ref l]/\H l=J (.frz o u)/\SW f.prog f.w o a/\(a.length<1000/\(vF a).length<64)/\∀(e:Ch) (ys:TN),H e=D->ys.Perm (vF a)->ys.Pairwise (·<=·)->Q (.ref e) (upd H e (.lst (ys.map V.int)))):=by intro p s U H xs O Q b r h;have Wg l o j:=h;have Wp u a rfl K i G q:=j;have#[R,N,t,x]:=i;have Wa v rfl A:=G6 r;cases A;have P:(vF a).length<=a.length:=firstMet_length_le _ _;show fA (b.ok.hd y) ((b.hok l _ K).1) x (met_nodup _ _) (λ_=>Y) Y () λM d w L g c k n C z E m F=>?_;have B:=b.laid (o:=.lst<|k.map V.int) (t':=w) C n #[by rw[DZ,m.length_eq,Hf];lia,g.toList,c,tQ E,by simpa using z];show#[.ref L,_,B.drw d,Y,q _ k (b.hok.fresh n) m F]
variable {L gi:Int}{i9:TN}
def dQ:L∈vF i9↔L∈i9:=by
 have b:L∈vF i9↔(vF i9).any (· == L)=I:=by simp
 rw[b,firstMet_any];simp only[List.any_eq_true,Ik,LI,Iz];constructor;rintro⟨x,⟨i,a,rfl⟩,rfl⟩;rw[HW,Gh a];show Jf a;intro hk;have#[i,a,j]:=Ms hk;show#[L,#[i,a,by rw[HW,Gh a];show j],Y]
variable {y K fC k9 Aq:Pos}{n:Ev}{j2:TL->Prop}
theorem fc(G:f.calm=I)(r:Gl f "sorted")(s:f.mg "sorted"=D)(hg:Gl f "set")(hm:f.mg "set"=D)(h:DP f n j λx=>∃c:TN,x=.list (c.map .int)/\(c.length<1000/\(vF c).length<64)/\∀d:TN,(∀k,k∈d↔k∈c)->d.Pairwise (·<·)->d.length<=c.length->j2 (d.map .int))
  (t: ~~~Uo j [] f.env) (v: ~~~(A3 [.Call (.Name "set" K) [j] [] y] f.env=(Za,eval (.Call (.Name "set" K) [j] [] y) f.env)::A3 [] f.env)):
  FA f n (.Call (.Name "sorted" fC) [.Call (.Name "set" K) [j] [] y] [] k9) j2:=λF U H R m k=>by
 show#[_,wt (kb G) r s boot_sorted<|zo (yX (zb6 G) hg hm PyProof.Rows.boot_set (zo zh zI t) (he:=t)) zI v,h F U H _ m λx vx Z q1 L M r1=>?_];have We c rfl u q:=q1;have m1:=m.kz M L;have Wd l xs rfl h1 h2:=r1.lst_inv;have w:=(zf h1).2;rw[h2.intsV]at w;show#[1,l,c,Y,w,by lia,λB o e W=>?_];have E:=L.same (zP (o:=.frz o (.set (λk=>(vF c).any (· == k)) (vF c).length)) e);have i:=M.trans (Kz.of_same (zP (o:=.frz o (.set (λk=>(vF c).any (· == k)) (vF c).length)) e));show#[7,B,o,_,c,Y,zi,W,u,λl2 d p g N=>?_];have C:d.length<=c.length:=by rw[g.length_eq];show firstMet_length_le _ _
 have O:=g.nodup_iff.mpr<|met_nodup _ _;have A:d.Pairwise (·<·):=by have:=N.and O;show this.imp λ{a b} z=>by lia
 have Q:D2 (Gz F n U (upd Z B (.frz o (.set (λk=>(vF c).any (· == k)) (vF c).length)))) (d.map V.int) (d.map .int):=by
  clear g N O A C;induction d with|nil=>show .nil|cons S d X=>show .cons (.int S) X
 have Wf P g2 T:=(m.kz i E).lay p Q;show k _ _ _ (q d (λa0=>g.mem_iff.trans dQ) A C) P (i.trans g2)<|T.back m i E
def RK (a:Tw):It:=#[λi _=>i<a.length,λi H x b=>b=H/\∃p,a[i]?=J p/\x=.str p.1,λi _=>a.length<=i]
def pX (K:Cl)(w:C6)(d:Ch)(a:Tw)(n:Nat):Prop:=∃b,K.lookup d=J #[.type "dict",D,.dict b n,[].toArray]/\Lj w b.toList a/\(a.map (·.1)).Nodup
def pX.at {K:Cl}{P:C5}{w:C6}{d:Ch}{tb:Tw}{n:Nat}(hd:pX K w d tb n){h:C7}(k:K.In h):∃a:TC,h.DictAt (PySem.strKind P w) d a n/\a.map (·.1)=tb.map (·.1):=by have We i g b f:=hd;show#[_,#[5,_,i,k _ _ g,#[Y,Y,Y],Y,λe c=>jn b e (by simpa using c),oK b,by rw[mj b];show f],mj b]
variable {l N:Nat}{E:C5}{q:Cl}{s:C6}{i x:Ch}{o9:Tw}
theorem gQ(V:pX q s i o9 l)(n:Ch):HL E s q j (RK o9) [n] n (λa h=>h.IsKeyIter n i a o9.length l) where
 mem:=by simp
 obj:=λa h g b m=>by
  have e:b=n:=by simpa using m
  subst e;have We o e c G:=g;show#[o,e,λv z=>by rw[G]at z;cases z]
 keep:=λa h X g k=>by have Wa o e r:=g;show#[o,k n () o e,r]
 item:=by
  intro f Q hw L W a B a3 U H a0 u hf g hg;subst Q hw L;have#[d,O,F]:=V.at u.kIn;have C:d.length=o9.length:=by have:=Uu List.length F;simpa using this
  have M:a<o9.length:=hg;have A:a<d.length:=by lia
  have Wt K N f2 T R P:=hf n ();rw[<-C]at g;show wpAny_pyNext_dict_item g O (k:=d[a].1) (Gh A) λy X hk p sb=>?_;have We o e c G:=id p;rw[C]at p;have ew:d[a].1=o9[a].1:=by
   have Z:(d.map (·.1))[a]?=(o9.map (·.1))[a]?:=by rw[F]
   rw[GD,GD,Gh A,Gh M]at Z;simpa using Z
  have w:∃t,y=.str o9[a].1 t:=by
   rw[ew]at hk;cases y with
   |str x t=>
    have S:(x == o9[a].1)=I:=by simpa[PySem.strKind,hX]using hk
    show#[t,by rw[eq_of_beq S]]
   |_=>simp[PySem.strKind,hX]at hk
  have Wb t rfl:=w;show#[_,Y,oM e c G () #[.str o9[a].1,H,(u.turned (λb o m e=>(sb.2 b m).trans e) K N T R P),#[t,Y],#[Y,_,Gh M,Y],p,λb m=>(hf b m).1]]
 done:=by
  intro f Q hw L W a B a3 U H a0 u hf g hg;subst Q hw L;have#[d,O,F]:=V.at u.kIn;have C:d.length=o9.length:=by have:=Uu List.length F;simpa using this
  have M:o9.length<=a:=hg;have Wt K N f2 T R P:=hf n ();rw[<-C]at g;show wpAny_pyNext_dict_end (u.ok.hd W) g O (Ks<|by lia) λX eb=>#[Y,u.turned (λb o m e=>eb b o m e) K N T R P]
 self:=λ_ _ _ _ _ g h=>wpAny_pyIter_keyiter g h
variable {p H:Zv}
def zf3(hg:Gl f p)(r:f.mg p=J (.ref i))(g:pX f.K f.w i o9 l)(t:(i == Ya)=Za)(c:‹Yl p›):PI f j (.Name p y) (λ_ H R=>R (RK o9) H):=by
 intro k s U H R a h;show yT a hg r ?_ c;have#[d,m,q]:=g.at a.kIn;have n:d.length=o9.length:=by have:=Uu List.length q;simpa using this
 show wpAny_pyIter_dict t m ?_;rw[n];show#[s.heap.objs.size,[s.heap.objs.size],_,_,H,Y,a.kept λb o e=>D6 _ e,gQ g _,#[_,GB _ Y,Y,Y],λb c=>?_,h];rw[GV.mp c];show a.fpOk (D4 _)<|a.hok.fresh<|D4 _
def zw7(hg:Gl f p)(r:f.mg p=J (.ref i))(b:pX f.K f.w i o9 l)(u:(i == Ya)=Za)(q:j2 (o9.map λy=>.str y.1))(h:‹Yl p›):HN f n j (.Name p y) j2:=λF U H R m k=>by
 show#[_,zf3 hg r b u h,k _ _ H q m.tp Kz.refl λg w y s=>#[λi b=>?_,λt=>?_]];rw[GD,Hj]at b;have Wa e d rfl:=b;show#[(Gm.mp d).1,λx z o=>?_];have Wc rfl c:=o;have Wa v a rfl:=c;rw[d]at a;cases a;show#[zv.refl _,λ_=>.str _];have:o9.length<=g:=by simpa using t
 show this
def yo5 (K:Cl)(a:Ch)(xs:TM):Prop:=∃(o:Z7) (b:Uc) (n:Nat),K.lookup a=J o/\o.cls=.type "list"/\o.dict=D/\o.data=.seq b n/\b.size<=Zw/\DS xs b.toList
def Ir (K:Cl)(H:Hp)(a:Ch)(xs:TM):Prop:=(∃o,H a=J (.frz o<|.lst xs))\/yo5 K a xs
variable {dU:TM}
def Ir.sq(h:Ir q m i dU):D3 q m i dU:=h.elim (λ⟨o,e⟩=>.inl<|.inr #[o,e]) .inr
def qQ (K:Cl):Sp:=λc H Q _=>∃(a:Ch) (ns:TN),c=[.ref a]/\Ir K H a (ns.map V.int)/\ns.length<=63/\D9 H/\∀b,Q (.bl I) b
def lV (K:Cl):Sp:=λc H Q _=>∃(a:Ch) (ns:TN) (k:Int),c=[.ref a,.int k]/\Ir K H a (ns.map V.int)/\0<=k/\ns.length<=63/\D9 H/\∀z b,(∀x o,H x=J o->¬vW x->b x=J o)->D9 b->Q (.int z) b
variable {B:St}
def DM.sc (a:DM f cC B m r)(h:Ir f.K f.H₀ i dU):Ir f.K m i dU:=h.imp (λ⟨o,e⟩=>#[o,a.base.frzs _ _ _ e]) id
def zF3 (e:Ir f.K f.H₀ i dU):yL f (.builtin "len") (λa m Q=>a=[.ref i]/\Q (.int dU.length) m):=by intro cC r B m a d Q b c h;show tU cC r B m a d Q b c #[i,dU,h.1,.inl (DM.sc b e).sq,h.2]
def yc3 (j:Ir f.K f.H₀ i dU):Jv f (λx y m Q=>∃c v,x=.ref i/\y=.int c/\atI dU c=J v/\Q v m):=by intro b a cC r B m x y v u Q d n e h o;have Wj c z g l k q:=h;show xA b a cC r B m x y v u Q d n e #[7,i,dU,c,z,g,l,(DM.sc d j).sq,k,q] o
variable {z:Fr}
def M.note {i:Nat}{b:A}(h:M z n B m)(p:∀s x,¬Fc s b x)(N:J2 b)(C:∀s,B[i]?=J s->xO (Gz z (n.set i (J b)) B m) z m s b):M z (n.set i (J b)) B m:=by
 have O:zv (Gz z n B m) (Gz z (n.set i<|J b) B m):=iF p;show#[by rw[Ht];show h.len,λj c s o l=>?_,λj E c d s t x o l L P F H=>?_,λj r q e E c s x o l f=>?_,h.tp,h.keep,h.oex];rcases zx o with⟨rfl,g⟩|⟨G,a⟩;cases g;show C s l
 show(h.ok j c s a l).stay O (λy u f e=>#[e,(h.ft a l f).1,(h.ft a l f).2.1]) Y λr q _ k=>k;rcases zx o with⟨rfl,g⟩|⟨G,a⟩;cases g;show(p _ _ F).elim
 rcases zx l with⟨rfl,g⟩|⟨v,w⟩;cases g;show(p _ _ H).elim
 show h.dj j E c d s t x a w L P F H;rcases zx e with⟨rfl,g⟩|⟨G,K⟩;cases g;show N.elim
 rcases zx o with⟨rfl,g⟩|⟨v,a⟩;cases g;show(p _ _ f).elim
 show h.xd j r q K E c s x a l f
def zF.offT(t:zF z m)(j:D9 d7)(k:∀x o,m x=J o->¬vW x->d7 x=J o):zF z d7:=#[j,t.ot,λa b c e=>by have Wq p h i l:=t a b c e;show#[p.off λg n=>?_,h,i,l];have f:Tp z g:=#[a,b,c,e,n];have Wb xs d:=Tp.lst t f;rw[d];show k g _ d<|Tp.noTab t f]
variable {Q:Ue}
def zv6 (b:Nat)(c:n[b]?=J (J (.at i)))(q:Ir f.K f.H₀ i (i9.map V.int))(hg:Gl f "len")(r:f.mg "len"=D)(h:Q (.int i9.length))(o: ~~~(f.N[b]?=J p))(g:‹GO f.env.scope p›)
  (e:‹Yl p›) (a:‹Ym p›) (l: ~~~(A3 [.Name p fC] f.env=(Za,eval (.Name p fC) f.env)::A3 [] f.env)):DP f n (.Call (.Name "len" K) [.Name p fC] [] y) Q:=λF U H R m k=>by show#[_,wt (zF3 q) hg r PySem.boot_len<|zo (zG o g e a) zI l,?_];have Wb s d:=m.at' c;have j:=m.ok b _ s c d;subst j;show#[.ref i,d,Y,?_];rw[DZ];show k _ _ H h m.tp Kz.refl<|.int _
def zE7 (d:Nat)(g:n[d]?=J (J (.at i)))(A:Ir f.K f.H₀ i (i9.map V.int))(b:rT j)(h:DP f n j λe=>∃k:Int,e=.int k/\0<=k/\k<i9.length/\∀z,Q (.int z))(x: ~~~(f.N[d]?=J p))(u:‹GO f.env.scope p›)
  (t:‹Yl p›) (c:‹Ym p›):DP f n (.Subscript (.Name p K) j y) Q:=λF U H R m k=>by
 show#[_,vV (yc3 A) (zG x u t c) zh b,?_];have Wb s b:=m.at' g;have v:=m.ok d _ s g b;subst v;show#[.ref i,b,h F U H _ m λe L l w C r G=>?_];have#[a,rfl,E,B,q]:=w;cases G.int_inv;have o:a.toNat<i9.length:=by omega
 show#[1,a,.int i9[a.toNat],Y,Y,?_,k _ _ l (q _) C r<|.int _];unfold atI Ju;rw[Ur E,DZ,Ur B];change(i9.map V.int)[a.toNat]?=_;rw[GD,Gh o];rfl
variable {t9:Sp}{k8:TA}{Ab:XK}{An:JQ}{e7:Dd}{O:T1}{S:TR}
def zA3 (F:zX f.prog f.w f.K f.mg f.base An l i e7 S t9)(w:zH l f.A)(hg:Gl f p)(t:f.mg p=J (.ref i))(hk:Zh f.K (.ref i)=I)(m:DQ f.K e7 S [])(o:G0 An f Ab)
  (v:PA f (j::O) k8) (d:‹Yl p›) (n: ~~~Uo j O f.env) (e: ~~~Uq K O f.env):
  PE f (.Call (.Name p y) (j::O) [] K) (λU H Q=>k8 U H λk b=>∀a s,DM f a U b s->t9 (k++[]) b Q Ab):=by intro a s U H Q c h;show JE<|yT c hg t (JX c.ok.mod.kin hk (D1 (v K a s U H _ c h) λx u #[k,b,g,r,q]=>#[g.kIn,?_]) n e) d;show mO F w m .nil o g r<|q a u g
def zH1 (c:Nat)(G:zX f.prog f.w f.K f.mg f.base GA 1 x e7 S (lV f.K))(hr:zH 1 f.A)(hg:Gl f p)(hm:f.mg p=J (.ref x))(hk:Zh f.K (.ref x)=I)(P:DQ f.K e7 S [])(r:n[c]?=J (J (.at i)))(Z:Ir f.K f.H₀ i (i9.map V.int))(hl:i9.length<=63)
  (h:DP f n j λg=>∃k:Int,g=.int k/\0<=k/\∀z,Q (.int z)) (L: ~~~(f.N[c]?=J H)) (E:‹GO f.env.scope H›)
  (B:‹Yl H›) (b:‹Ym H›) (a:‹Yl p›) (v: ~~~(A3 [.Name H fC,j] f.env=(Za,eval (.Name H fC) f.env)::A3 [j] f.env)) (d: ~~~Uo j [] f.env) (e: ~~~Uq y [j] f.env):
  DP f n (.Call (.Name p K) [.Name H fC,j] [] y) Q:=λF U M R m k=>by show#[_,zA3 G hr hg hm hk P we (zo (zG L E B b) (zo zh zI d) v) a v e,?_];have Wb s u:=m.at' r;have T:=m.ok c _ s r u;subst T;show#[.ref i,u,h F U M _ m λg vy H1 W l O r1=>?_];have We A rfl k0 q:=W;cases r1.int_inv;intro w s C;show#[0,i,i9,A,Y,DM.sc C Z,#[k0,hl,l.tab,λz X t N=>k _ _ X (q z) (l.offT N t) (O.trans λp o j H=>t p o j H.2)<|.int _]]
variable {g8:Da}{C:Tt}{v:C7}
def yn6{f:Ch}(G:Gi q "law" "law" g8 f e7)(A:zq ("_law_script"::S) ["_law_script"] (zb g8))(g:∀(d:Bs) (m:Db) (c:TZ) (j:C1) (H:Hp) (n:XK) (a:Ch) (k:TN),zH l (m.deeper (Yb "law" (zb g8) j.heap.objs.size f d))->k.length<=63->Ir q H a (k.map V.int)-> D0 (yQ GA E s q C v ("_law_script"::S) "law" (zb g8) f d m c j H n).nox (J (.at a)::Zb S.length D) (zA g8) {nx:=λ_=>False,rt:=λa=>a=.dat (.bool I)}):zX E s q C v GA (l+1) f e7 ["_law_script"] (qQ q):=by show G.ok A (λp H Q n h=>?_) λd m c j H p L n F h=>?_;have Wh a k rfl _:=h;rfl;have Wp a k rfl B t o y:=h;have u:M (Mc H) (Zb (S.length+1) D) (L2.start ("_law_script"::S) [.ref a]) H:=M.zero o (by unfold L2.start;simp);show g d m c j H n a k F t B (Mc H) _ H _ (u.note (i:=0) (b:=.at a) (λj x z=>z) trivial λj e=>(Hb e).symm) #[λ_ _ _ _ z=>z.elim,λz K w r e=>?_,λ_ _ _ _ z=>z.elim,λ_ _ _ _ z=>z.elim];cases e;have Wf _ _ r:=r;rw[AV.bl_inv r];show y w
def yd3(G:Gi q p p g8 i e7)(S:zq ["_law_script","_law_k"] ["_law_script","_law_k"] (zb g8))(l:∀(f:Bs) (w:Db) (d:TZ) (j:C1) (H:Hp) (u:XK) (a:Ch) (m:TN) (g:Int),zH 0 (w.deeper (Yb p (zb g8) j.heap.objs.size i f))->m.length<=63->Ir q H a (m.map V.int)->0<=g-> D0 (yQ GA E s q C v ["_law_script","_law_k"] p (zb g8) i f w d j H u).nox [J (.at a),J (.dat (.int g))] (zA g8) {nx:=λ_=>False,rt:=λb=>∃z,b=.dat (.int z)}):zX E s q C v GA 1 i e7 ["_law_script","_law_k"] (lV q):=by show G.ok S (λA H Q u h=>?_) λf w d j H A U u R h=>?_;have Wl a m k rfl _:=h;rfl;have Wu a m g rfl F K y L P:=h;have B:M (Mc H) (Zb 2 D) (L2.start ["_law_script","_law_k"] [.ref a,.int g]) H:=M.zero L (by unfold L2.start;simp);show l f w d j H u a m g R y F K (Mc H) _ H _ ((B.note (i:=0) (b:=.at a) (λj p z=>z) trivial λj e=>(Hb e).symm).note (i:=1) (b:=.dat<|.int g) (λj p z=>z) trivial λj e=>#[.int g,(Hb e).symm,.int _]) #[λ_ _ _ _ z=>z.elim,λz T O r e=>?_,λ_ _ _ _ z=>z.elim,λ_ _ _ _ z=>z.elim];have Wb z rfl:=e;have Wf x N r:=r;cases AV.int_inv r;show P z O (λp o e n=>N p o e #[(λt b c s=>by cases s),n]) x.tab
def zC9 (hu:f.A.units+1<cLine)(h:DP f n j λx=>∃i,x=xf i/\DP f n w λu=>DP f n gV λz=>∃k,u=wm k/\Q ((wW i k).getD z))(m2:M2 f j "get" K w gV y:=by show#[Y,Y,Y,Y]):DP f n (.Call (.Attribute j "get" K) [w,gV] [] y) Q:=λF U H R m k=>by
 show#[_,zu6 hu zh zh zh m2,h F U H _ m λx vx H1 p Z C L=>?_];have Wa i rfl p:=p;have r:=m.kz C Z;have Wr j o s rfl N g2:=L.dk_inv;show#[j,Y,.inl #[s,.inr #[o,(zf N).2]],p F U H1 _ r λu vy O q2 P l W=>?_];have c:=r.kz l P;show q2 F U O _ c λz V B q3 A E S=>?_;have Wa g rfl q:=q3;cases tS W;have Wr a' G a M e b:=((L.same<|l.gz r.tp).same<|E.gz c.tp).dk_inv;cases M;have t:=(C.trans l).trans E;cases Eo:wW i g with
 |some d=>have Wa v w1 T:=b.get Eo;rw[Eo]at q;show#[J v,.inl #[a,g,.inr #[G,(zf e).2],Y,w1.symm],k d v B q A t T]
 |none=>
  have X:tT a g=D:=by have:=b.some_iff (k:=g);rw[Eo]at this;simpa using this
  rw[Eo]at q;show#[D,.inl #[a,g,.inr #[G,(zf e).2],Y,X.symm],k z V B q A t S]
def yd1 (l:Ir f.K f.H₀ i dU):N2 f (λx c b H j2=>x=.ref i/\∀p,H p=D->j2 (.ref p) (upd H p (.lst (jK dU c b)))):=by intro a s U H x v m e c b k j2 d n o g j h;show cU a s U H x v m e c b k j2 d n o g j #[i,dU,h.1,(DM.sc d l).sq,h.2]
def zJ9(a:TN):D2 m (a.map V.int) (a.map .int):=by
 induction a with|nil=>show .nil|cons y ys b=>show .cons (.int y) b
def zF6 (c:Nat)(d:n[c]?=J (J (.at i)))(u:Ir f.K f.H₀ i (i9.map V.int))(h:∀a:TN,a.length<=i9.length->j2 (a.map .int))(v: ~~~(f.N[c]?=J p))(o:‹GO f.env.scope p›)
  (j:‹Yl p›) (b:‹Ym p›):FA f n (.Subscript (.Name p K) (.Slice (J<|.Constant (.int L) l fC) (J<|.Constant (.int gi) N k9) D Aq) y) j2:=λF U H R m k=>by show#[_,kL (yd1 u) (zG v o j b) (rM yx)<|rM yx,?_];have Wb s e:=m.at' d;have q:=m.ok c _ s d e;subst q;have Wa a z w:=zz4 i9 (J L)<|J gi;show#[.ref i,e,#[L,Y,#[gi,Y,Y,λK x=>?_]]];rw[z];have Wf g r t:=m.lay x<|zJ9 a;show k _ _ _ (h a w) g r t
def spJ (C:Ch)(φ:Tj):Sp:=λb H c _=>∃(F:Fr) (as:TV) (Q:Ug) (x dx:Ch) (vs':TM) (H1:Hp),b=.ref x::vs'/\H1 x=D/\H1 dx=D/\dx≠x/\H=upd (upd H1 dx<|.own x) x (.ins C dx [])/\
 F.H0=H1/\zF F H1/\(∀y,F.O0 y->∃u,H1 y=J u/\yS u)/\zQ F (sub (λy=>¬F.O0 y) H1) vs' as/\φ as Q/\∀d a,Q (.dat d)->yh F (.ref x) a (.dat d)->c .non a
structure OF (P:C5)(w:C6)(K:Cl)(mg:Tt)(base:C7)(x:Zv)(k:Nat)(φ:Tj):Prop where
 ex:∃C f fd ps,mg x=J (.ref C)/\Mk K C f/\DQ K fd ps []/\zX P w K mg base GA k f fd ps (spJ C φ)
variable {k7:List L2.A->(L2.A->Prop)->Prop}
def zI8(P:OF f.prog f.w f.K f.mg f.base p l k7)(W:zH (l+1) f.A)(hg:Gl f p)(h:G7 f n (j::O) λe=>k7 e λa=>Q a.d)
  (c:‹Yl p›) (S: ~~~Uo j O f.env) (k: ~~~Uq y O f.env):DP f n (.Call (.Name p K) (j::O) [] y) Q:=λF U H R m s=>by have#[C,a0,fd,Z,V,hk,L,G]:=P.ex;show#[_,mJ hk G W hg V L .nil we yb c S k,h F U H _ m λe w i M A r X=>?_];intro q t u b g;rw[G9];have o:=m.kz r A;show#[#[i,Ow F n U,F.tp],e,#[λa=>Q a.d,q,t,#[5,w,i,Y,u,b,g,Y,#[6,Y,o.tp.to Y λ_ z=>.inl z,λq z=>o.owEx z,zQ.to (F:=F) (F':=#[i,Ow F n U,F.tp]) (λ_ _ j=>j) Y X,M,λd N B E=>#[Y,?_]]]]];have Wf v T x:=E.back o;show s d _ N B v (r.trans T) x
end L2
set_option maxHeartbeats 4000000
namespace K79
open PySem PySem.Spec PyProof.Rows L2
def Fn (i:Nat):Da:=PySem.Challenge.pw_stayprice_k79_undone_to_the_beginning.main.body.getD i<|.Pass #[(0),0,0,0]
abbrev OG :Da:=Fn 73
abbrev RL :Da:=Fn 72
def mi :Ph:=λa Q=>∃c:Int,a=[.dat (.int c)]/\∀x y:Int,0<=y->y<4294967296->Q (.own [.int x,.int y])
def iE :zq ["_law_row","_law_base","_law_found","_law_number"] ["_law_row","_law_base"] (zb OG):=.o
variable {E:C5}{q:Cl}{C:Tt}{s:C6}{i:Ch}{e7:Dd}{v:C7}
theorem zE0{e:Ch}(F:Gi q "_law_take" "_law_take" OG e e7):zX E s q C v GA 1 e e7 ["_law_row","_law_base"] QG:=by
 show F.ok iE (λN H Q R h=>?_) λS A w a0 H N Q R hr h=>?_;have Wg t b o:=h;have Wh c d rfl _:=o;rfl;have Wg t b K:=h;have Wp c d rfl r f p k:=K;have#[n,bs,cs,#[V,T],j,hb,Z,#[x,y,rfl,P,W],X]:=r;rw[V,T]at k;have j:=j;show rY (λU M=>U=[J (.ref t),J (.int d),D,D]/\H=M)
  #[_,NS (qc Ql (vV xA (pv 0) yx λ_ _=>Y) yx<|yN _)
   (zt (vE (i:=2) iE.nd Y (Zc Y)<|wq om (vV xA (pv 0) yx λ_ _=>Y)<|pv 1)
   (zt (gf (wq ph (vV xA (pv 0) yx λ_ _=>Y)<|pv 1)<|iB (pv 0) yx HA)
   (vq<|vh<|pv 2))) cD,?_] ?_
 show#[_,Y,#[7,t,_,0,_,Y,Y,D3.of j,Y,#[_,_,Y,Y,_,Y,yp2 (λ_=>?_) λ_=>#[Y,Y]]]];show#[_,Y,#[2,t,_,0,_,Y,Y,D3.of j,#[Y,_,Y,#[1,_,_,Y,Y,f,#[_,Y,#[2,t,_,0,_,Y,Y,D3.of j,#[Y,_,Y,#[1,_,_,Y,Y,#[f,(ID f p)],?_]]]]]]]];show#[_,Y,#[2,t,_,0,0,Y,Y,j,#[Y,_,Y,k _ _ (ME _<|BW f) (Mu _ f) #[(0),[x / d,y],[x / d,y],#[Y,Y],zi,zi,zi,#[_,_,Y,P,W],Y] λa B h2=>by rw[zg B]]]];rintro U M ⟨rfl,rfl⟩;show rY (λU m=>∃z:Int,0<=z/\z<2147483647/\U=[J (.ref t),J (.int d),D,D]/\m=upd H t (.lst [.int x,.int z]))
  #[_,gf (wq om (wq nX (wq lM (vV xA (pv 0) yx λ_ _=>Y) yx) yx) yx)<|iB (pv 0) yx HA,?_] ?_
 show#[_,Y,t,_,1,_,Y,Y,D3.of j,Y,_,_,Y,Y,.inl #[by lia,by lia],_,_,Y,Y,_,_,Y,Y,(by change 0<2147483647;decide),?_];show#[_,Y,#[7,t,_,1,1,Y,Y,j,Y,#[_,ME _ (),Mu _ (),Y,Y]]];rintro U m ⟨z,O,z1,rfl,l⟩;have g:m t=J (.lst [.int x,.int z]):=by rw[l];show zi
 have G:N9 t t H m:=λa B _=>by rw[l,zg B]
 clear l;show rY (λU L=>∃u:Int,U=[J (.ref t),J (.int d),D,J (.int u)]/\m=L)
  #[_,vE (i:=3) iE.nd Y (Zc Y)<|wq om (wq nX (wq nX (wq lM (vV xA (pv 0) yx λ_ _=>Y)<|vV xA (pv 0) yx λ_ _=>Y)<|wq lM yx<|vV xA (pv 0) yx λ_ _=>Y) yx) yx,?_] ?_
 show#[_,Y,t,_,1,_,Y,Y,D3.of g,Y,_,Y,t,_,1,_,Y,Y,D3.of g,Y,_,_,Y,Y,.inl #[by lia,by lia],_,Y,t,_,1,_,Y,Y,D3.of g,Y,_,_,Y,Y,.inl #[by decide,by decide],_,_,Y,Y,_,_,Y,Y,_,_,Y,Y,(by change 0<2147483629;decide),_,Y,Y];rintro U L ⟨u,rfl,rfl⟩;show#[_,vq<|vh<|wq om (wq ph (pv 3) yx)<|pv 1,#[_,Y,#[_,_,Y,Y,#[#[by decide,by symm],_,Y,#[1,_,_,Y,Y,f,?_]]]]];show k _ _ (ME _<|BW f) (Mu _ f) #[(0),[x,z],[x,z],#[Y,Y],g,g,g,#[_,_,Y,O,by lia],Y] G
def zf2(K:C "_law_take"=J (.ref i))(hk:Zh q (.ref i)=I)(x:DQ q e7 ["_law_row","_law_base"] [])(G:zX E s q C v GA 1 i e7 ["_law_row","_law_base"] QG):DY E s q C v "_law_take" 1 wc:=by
 show#[i,e7,_,K,hk,x,G.imp λO H Q S h=>?_];have Wu F T X rfl t o l f j:=h;have#[n,rfl,N,B,M]:=f;cases l with|cons a1 r=>have Wl d b c e rfl:=a1;have Wa P rfl m:=r.one;cases m.int_inv;show#[7,d,b,c,n,Y,(t d b c e).1,N,B,λz W p w TA a=>j _ _ _ (M z p w) #[#[(by have Wm _ _ _ _ A L _:=(t d b c e).1.ex;show zJ6 t.tab A L a),t.ot,λV R U g=>?_],λy u k n=>?_,.int z]];rw[e]at g;cases g;show#[TA,(t d b c e).2];rw[a y (n.1 _ _ _ e).1 (n.1 _ _ _ e).2];show k
theorem bY{P:C5}{w:C6}{base:C7} (F:D5 q C "_law_begin" RL ["_law_cell"]):DY P w q C base "_law_begin" 1 mi:=by show yk ["_law_cell"] F λ_ _ _ _ _ _ _ _ Q d e h=>?_;have Wa c rfl a:=h;show yr (yk1<|zc 0 Y<|nQ (r:=1000000000000000000) #[by decide,by decide,by decide] () #[_,_,Y,Y,z96 (λ_=>?_) λ_=>zu ?_]);show xP (yC<|zd<|QL<|zc 0 Y<|nQ (r:=1000000000000000000) #[by decide,by decide,by decide] () #[_,_,Y,Y,zd<|zw<|zm #[_,Y,GI Y,a _ _ ()<|by decide]]);show xP (yC<|zd<|zw<|zd<|uO<|z69<|zc 0 Y<|zw #[1,_,_,Y,Y,by decide,zw #[_,_,Y,Y,zm #[_,Y,GI Y,?_]]]);have f:=ME c (show 2147483629≠0 by decide);have b:=Mu c (show 0<2147483629 by decide);show a _ _ ()<|by lia
end K79
local macro_rules
 |`(tactic|exists [$f])=>`(tactic|((with_reducible show $f ?hk ?_);case hk=>first|rfl|decide +kernel))
 |`(tactic|exists ($f,$a))=>do let n<-(List.range 18).toArray.mapM fun i=>`(tactic|show $f $(Lean.quote i) $a ?_);`(tactic|first $[|$n:tactic]*)
 |`(tactic|exists $f,*)=>do let n<-f.getElems.mapM fun f=>`(tactic|with_reducible show $f ?_);`(tactic|first $[|$n:tactic]*)
 |`(tactic|specialize $f:ident $x)=>`(tactic|with_reducible change $f _ _ $x _)
 |`(tactic|specialize $p)=>`(tactic|with_reducible change $p)
set_option hygiene false in
local macro_rules
 |`(tactic| rfl')=>`(tactic| repeat (first
  |(specialize DP _;first
   |(specialize DP (.Name ..);exists (zc,Y))
   |(specialize DP (.Constant ..);exists zw,zM,dB,wM)
   |(specialize DP (.BinOp (.Constant (.int 10) ..) .Pow (.Constant (.int 6) ..) _);show nQ (r:=1000000) #[by decide,by decide,by decide] () ?_)
   |(specialize DP (.BinOp (.Constant (.int 10) ..) .Pow (.Constant (.int 12) ..) _);show nQ (r:=1000000000000) #[by decide,by decide,by decide] () ?_)
   |(specialize DP (.BinOp _ .Add (.Subscript _ (.Slice _ _ D _) _) _);show FA.d (uT ?_))
   |(specialize DP (.BinOp (.Call (.Attribute _ "rules" _) ..) .Add _ _);show FA.d (uT ?_))
   |exists uO,QL,zL7,z80,QM,z73,yB
   |(specialize DP (.Subscript _ (.Slice _ _ D _) _);show FA.d (dP ?_))
   |(specialize DP (.Subscript ..);show zN hr.one (fun _ _=>Y) ?_)
   |(specialize DP (.List ..);show FA.d (yC ?_))
   |(specialize DP (.Call (.Name "len" _) ..);show vZ () nb.len ?_)
   |(specialize DP (.Call (.Name "min" _) [_,_] ..);show z28 Y () nb.min ?_)
   |(specialize DP (.Call (.Name "max" _) [_,_] ..);show z62 Y () nb.max ?_)
   |(specialize DP (.Call (.Name "isinstance" _) ..);first|show hV () nb.isinstance () nb.int boot_int ?_|show hV () nb.isinstance () nb.bool boot_bool ?_|show hV () nb.isinstance () nb.tuple boot_tuple ?_)
   |(specialize DP (.Call (.Name ..) ..);first|show zK0 (by with_reducible assumption) (by show#[Y,Y,Y,Y,Y]) (hr.mono ()) () ?_|show HY.d (zf1 (by with_reducible assumption) (by show#[Y,Y,Y,Y,Y]) (hr.mono ()) () ?_))
   |(specialize DP (.Call (.Attribute ..) (_::_) ..);show zl9 (by with_reducible assumption) (by show#[Y,Y,Y,Y,Y]) (hr.mono ()) ?_)
   |(specialize DP (.Call (.Attribute ..) [] ..);show zc6 (by with_reducible assumption) (by show#[Y,Y,Y,Y,Y]) (hr.mono ()) ?_)
   |(specialize DP (.Compare _ [_] _ _);first|exists ye4,yd7,z74|(specialize DP (.Compare _ [.Eq] _ _);show lG hr.units ?_))
   |(specialize DP (.Compare _ [_,_] _ _);show zu4 ?_)
   |(specialize DP (.BoolOp ..);exists zZ5,Of,QS)
   |exists mR)
  |(specialize G7 _;first
   |exists zm
   |(specialize G7 (.Name "_law_row" _::_);exists (wG,Y))
   |show zd ?_)
  |(specialize GX _;first
   |(specialize GX (.Compare _ [_] _ _);first|exists QN,Oe,uN,eS|(specialize GX (.Compare _ [.Eq] _ _);show xN hr.units ?_)|(specialize GX (.Compare _ [.NotEq] _ _);show sA hr.units ?_)|(specialize GX (.Compare _ [.In] _ _);show fL hr.one ?_)|(specialize GX (.Compare _ [.NotIn] _ _);show mw hr.one ?_))
   |exists QO
   |(specialize GX (.BoolOp ..);exists Im.t)
   |show zi9 ?_)
  |(specialize FA _;first
   |exists yC
   |(specialize FA (.Call (.Name ..) ..);show zN2 (by with_reducible assumption) (by show#[Y,Y,Y,Y,Y]) (hr.mono ()) () ?_))
  |(specialize Im _;exists QQ,QR,rH,QP)
  |(specialize LW _;exists qg,rX)
  |((specialize iz _ _ _);first
   |show GR Y Y Y ?_
   |show yh5 ?_)
  |(specialize aV _;first
   |show yp1 Y Y ?_)
  |((specialize lO _ _ _);first
   |exists rN,xi
   |show Ip Y Y Y Y ?_)
  |(specialize D0 _;first
   |((specialize D0 _ (List.set _ _ _) _ _);dsimp only[List.set])
   |(specialize D0 (zA _);change D0 _ _ (_::_) _)
   |(specialize D0 (.Assign [.Name _ _] (.List [] _) _::_);exists (wA,nd))
   |(specialize D0 (.Assign [.Name _ _] _ _::_);exists (zU,nd))
   |(specialize D0 (.Expr (.Call (.Attribute _ "append" _) ..) _::_);exists (wY,Y))
   |(specialize D0 (.Return (J (.Name ..)) _::_);exists (mQ,Y))
   |exists xU,yr,zu
   |exists [yv]
   |exists [yc])
  |((specialize wc _ _);show#[_,rfl,by first|decide|lia,by first|decide|(change _<big;unfold big;lia),fun _ _ _=>?_])
  |exists [pj]
  |exists [sT]
  |show#[_,_,Y,Y,?_]
  |show#[_,Y,GI Y,?_]
  |show#[_,Y,Y,?_]
  |show#[_,Y,?_]))
namespace K79
open PySem PySem.Spec PyProof.Rows L2
abbrev gp :Da:=Fn 3
abbrev lE :Da:=Fn 4
abbrev RN :Da:=Fn 5
abbrev RO :Da:=Fn 6
abbrev OH :Da:=Fn 7
abbrev pT :Da:=Fn 8
abbrev RP :Da:=DW (Fn 22) 0
abbrev RQ :Da:=DW (Fn 22) 2
abbrev RS :Da:=DW (Fn 22) 3
abbrev zM8 :Da:=DW (Fn 23) 0
abbrev zZ7 :Da:=DW (Fn 24) 0
abbrev ym6 :Da:=DW (Fn 25) 0
abbrev zO7 :Da:=DW (Fn 26) 0
abbrev z57 :Da:=DW (Fn 27) 0
abbrev zZ9 :Da:=DW (Fn 28) 0
abbrev yb7 :Da:=DW (Fn 29) 0
abbrev fq :Da:=Fn 31
abbrev bp :Da:=Fn 32
abbrev iU :Da:=Fn 33
abbrev nY :Da:=Fn 34
abbrev RT :Da:=Fn 35
abbrev mL :Da:=Fn 36
def sS (d:A2):yw (.str "price") d=(HC d||sQ d):=Y
def gL (d:A2):yw (.str "come") d=Hm d:=Y
def zt3 (d:A2):yw (.str "go") d=Hm d:=Y
def jP (d:A2):yw (.str "least") d=xC 1 14 d:=Y
def gg (d:A2):yw (.str "most") d=xC 1 14 d:=Y
def hG (d:A2):yw (.str "deal") d=(HC d||qG d):=Y
def bE (d:A2):yw (.str "fee") d=sQ d:=Y
variable {dc y4:A2}{L gi Ai Bc Ea Fi Fj:Int}
def zS(h:xC L gi dc=I):∃i,dc=.int i/\L<=i/\i<=gi:=by
 cases dc with|int i=>show#[i,Y,LA (KZ.mp h).1,LA (KZ.mp h).2]|_=>cases h
def G1(h:Hm dc=I):∃b,dc=.bool b:=by
 cases dc with|bool b=>show#[b,Y]|_=>cases h
def sN(h:qG dc=I):∃m f:Int,dc=.tuple [.int m,.int f]/\2<=m/\m<=14/\1<=f/\f<=m-1:=by unfold qG at h;split at h;have Wc i a:=KZ.mp h;have We _ rfl c g:=zS a;have We _ e d b:=zS i;cases e;show#[4,_,_,Y,d,b,c,g];cases h
variable {j8:Bool}
def none_or(h:(HC dc||j8)=I):dc=.none\/j8=I:=by
 cases dc with|none=>show .inl Y|_=>show .inr h
theorem yV(h:wF dc=I):∃(s:Zv) (i j:Int) (v:A2),s∈DR/\dc=.tuple [.str s,.int i,.int j,v]/\0<=i/\i<=j/\j<=1000000/\yw (.str s) v=I:=by have Wg s a d:=rq h;have Wh b v o rfl:=d;have Wc c f:=KZ.mp<|h;unfold tK Oa at c;split at c;rename_i k e;split at e;rename_i z;cases z;split at e;rename_i q;cases e;have Wc m r:=KZ.mp q;have We _ g p t:=zS m;have We _ n u l:=zS r;cases g;cases n;have:=LA c;show#[2,s,_,_,v,o,Y,p,#[(),l,f]];cases e;cases e;cases c
variable {p H:Zv}
def vt(a:p∈DR)(h:yw (.str p) dc=I):dc.hasDict=Za/\noL dc=I:=by
 have w:∀{d c:Int},xC d c dc=I->dc.hasDict=Za/\noL dc=I:=λz=>by have Wa _ rfl _:=zS z;show#[Y,Y]
 have b:Hm dc=I->dc.hasDict=Za/\noL dc=I:=λz=>by have Wb _ rfl:=G1 z;show#[Y,Y]
 simp only[DR,D7,Gv,Gw]at a;rcases a with rfl|rfl|rfl|rfl|rfl|rfl|rfl;rcases none_or h with rfl|h;show#[Y,Y]
 show w h;show b h;show b h;show w h;show w h;rcases none_or h with rfl|h;show#[Y,Y]
 have Wh _ _ rfl _:=sN h;show#[Y,Y];show w h
def RU :Ph:=λa Q=>∃i:Int,a=[.dat (.int i)]/\Q (.dat<|.bool I)
def Md :Ph:=λc Q=>∃i b a:Int,c=[.dat (.int i),.dat (.int b),.dat (.int a)]/\b<=i/\i<=a/\Q (.dat<|.bool I)
def Nb :Ph:=λa Q=>∃i j:Int,a=[.dat (.tuple [.int i,.int j])]/\Q (.dat<|.bool I)
def OI :Ph:=λa Q=>∃i:Int,a=[.dat (.int i)]/\0<=i/\i<=1000000/\Q (.dat<|.bool I)
def Me :Ph:=λa Q=>∃i j:Int,a=[.dat (.tuple [.int i,.int j])]/\0<=i/\i<=j/\j<=1000000/\Q (.dat<|.bool I)
def RV :Ph:=λa Q=>∃d,a=[.dat d]/\sQ d=I/\Q (.dat<|.bool I)
def RW :Ph:=λa Q=>∃d,a=[.dat d]/\qG d=I/\Q (.dat<|.bool I)
def RX :Ph:=λa Q=>∃s d,a=[.dat (.str s),.dat d]/\s∈DR/\yw (.str s) d=I/\Q (.dat<|.bool I)
def RY :Ph:=λa Q=>∃d,a=[.dat d]/\wF d=I/\Q (.dat<|.bool I)
variable {E:C5}{q:Cl}{C:Tt}{s:C6}{v:C7}
def zH0 (F:D5 q C "is_whole" gp ["thing"])(nb:GY C):DY E s q C v "is_whole" 1 RU:=by show yk ["thing"] F λ_ _ _ _ _ _ _ _ Q nd hr h=>?_;have Wa i rfl a:=h;rfl';show a
def fH{P:C5}{w:C6}{base:C7} (F:D5 q C "is_whole_within" lE ["thing","lowest","highest"])(e:DY P w q C base "is_whole" 1 RU):DY P w q C base "is_whole_within" 2 Md:=by show yk ["thing","lowest","highest"] F λ_ _ _ _ _ _ _ _ Q nd hr h=>?_;have Wm i f d rfl c a b:=h;rfl';show pj (Hw c) ?_;rfl';rw[Hw a];show b
def zf8{P:C5}{w:C6}{base:C7} (F:D5 q C "is_pair" RN ["thing"])(nb:GY C):DY P w q C base "is_pair" 1 Nb:=by show yk ["thing"] F λ_ _ _ _ _ _ _ _ Q nd hr h=>?_;have Wh i j rfl a:=h;rfl';show a
def zc3 (F:D5 q C "is_day" RO ["thing"])(c:∃t,C "LAST_DAY"=J (.int 1000000 t))(e:DY E s q C v "is_whole_within" 2 Md):DY E s q C v "is_day" 3 OI:=by show yk ["thing"] F λ_ _ _ _ _ _ _ _ Q nd hr h=>?_;have#[i,rfl,d,a,b]:=h;rfl';show xj () c<|zm #[3,_,_,_,Y,d,a,b]
theorem zi2 (F:D5 q C "is_pair_of_days" OH ["thing"])(e:DY E s q C v "is_pair" 1 Nb)(f:DY E s q C v "is_day" 3 OI):DY E s q C v "is_pair_of_days" 4 Me:=by show yk ["thing"] F λ_ _ _ _ _ _ _ _ Q nd hr h=>?_;have Wp i j rfl c d a b:=h;rfl';show#[_,_,Y,?_];rfl';show#[c,(),?_];rfl';show#[(),a,b]
def jo (F:D5 q C "is_stretch" pT ["thing"])(e:DY E s q C v "is_pair_of_days" 4 Me):DY E s q C v "is_stretch" 5 Me:=by show yk ["thing"] F λ_ _ _ _ _ _ _ _ Q nd hr h=>?_;have Wp i j rfl d a b c:=h;rfl';show#[4,_,_,Y,d,a,b,?_];rfl';rw[Hw a];show c
def ke (F:D5 q C "is_coins" fq ["thing"])(c:∃t,C "MOST_COINS"=J (.int 1000000000000 t))(f:DY E s q C v "is_whole_within" 2 Md):DY E s q C v "is_coins" 3 RV:=by show yk ["thing"] F λ_ _ _ _ _ _ _ _ Q nd hr h=>?_;have We d rfl h b:=h;have We i rfl e a:=zS h;rfl';show xj () c<|zm #[3,_,_,_,Y,e,a,b]
def fU (F:D5 q C "is_deal" bp ["thing"])(c:∃t,C "MOST_NIGHTS"=J (.int 14 t))(k:DY E s q C v "is_pair" 1 Nb)(j:DY E s q C v "is_whole_within" 2 Md):DY E s q C v "is_deal" 3 RW:=by show yk ["thing"] F λ_ _ _ _ _ _ _ _ Q nd hr h=>?_;have We d rfl h i:=h;have Wp m f rfl e a b g:=sN h;rfl';show#[_,_,Y,?_];rfl';show xj () c<|zm #[3,_,_,_,Y,e,a,?_];rfl';show#[3,_,_,_,Y,b,g,i]
def jG (F:D5 q C "is_worth" iU ["word","thing"])(nb:GY C)(g:∃t,C "MOST_NIGHTS"=J (.int 14 t))(l:DY E s q C v "is_whole_within" 2 Md)(n:DY E s q C v "is_coins" 3 RV)(o:DY E s q C v "is_deal" 3 RW):DY E s q C v "is_worth" 4 RX:=by
 show yk ["word","thing"] F λ_ _ _ _ _ _ _ _ Q nd hr h=>?_;have Wj k d rfl j h a:=h;simp only[DR,D7,Gv,Gw]at j;rcases j with rfl|rfl|rfl|rfl|rfl|rfl|rfl
 . rcases none_or h with rfl|h
   . rfl';show a
   have Wa i rfl _:=zS h;rfl';show#[h,a]
 . have Wb b rfl:=G1 h;rfl';show a
 . have Wb b rfl:=G1 h;rfl';show a
 . have We i rfl e c:=zS h;rfl';show xj () g<|zm #[3,_,_,_,Y,e,c,a]
 . have We i rfl e c:=zS h;rfl';show xj () g<|zm #[3,_,_,_,Y,e,c,a]
 . rcases none_or h with rfl|h
   . rfl';show a
   have Wh m f rfl _:=sN h;rfl';show#[h,a]
 rfl';show#[h,a]
def iQ (F:D5 q C "is_rule" nY ["thing"])(nb:GY C)(n:DY E s q C v "is_stretch" 5 Me)(l:DY E s q C v "is_worth" 4 RX):DY E s q C v "is_rule" 6 RY:=by show yk ["thing"] F λ_ _ _ _ _ _ _ _ Q nd hr h=>?_;have We d rfl h g:=h;have Wo k i j m b rfl f c e a:=yV h;rfl';show#[I,by simp[Yi,Yk,((vt b a).1)],Y,?_];rfl';show#[4,_,_,Y,f,c,e,?_];rfl';show#[1,_,_,Y,b,a,g]
def rp (C:Ch)(a b v:A2):A2:=wO C [(.str "first",a),(.str "last",b),(.str "worth",v)]
def uf (c:Cs):A2->A2
 |.tuple [.str s,a,b,v]=>rp (c.of s) a b v
 |_=>.none
def kn (C:Ch):Ph:=λc Q=>∃a b v,c=[.dat a,.dat b,.dat v]/\noL a=I/\noL b=I/\noL v=I/\Q (.dat<|rp C a b v)
def RZ (d:Cs):Ph:=λc Q=>∃s a b v,c=[.dat (.str s),.dat a,.dat b,.dat v]/\s∈DR/\noL a=I/\noL b=I/\noL v=I/\Q (.dat<|rp (d.of s) a b v)
def qN (b:Cs):Ph:=λa Q=>∃d,a=[.dat d]/\wF d=I/\Q (.dat<|uf b d)
def gE (C:Ch)(w:Zv):Ph:=λc Q=>∃a b v,c=[.dat (rp C a b v)]/\Q (.dat<|.tuple [.str w,a,b,v])
def mW (C:Ch)(w:Zv):Ph:=λc Q=>∃a b v,c=[.dat (rp C a b v)]/\Q (.dat<|.str w)
def oj (C:Ch):Ph:=λd Q=>∃(a b c:Int) (v:A2),d=[.dat (rp C (.int a) (.int b) v),.dat (.int c)]/\Q (.dat<|.bool<|decide (a<=c)&&decide (c<=b))
def zy2{cs:Cs} (F:D5 q C "made" RT ["word","first","last","worth"])(o:vS E s q C v "Price" 1 [] (kn cs.price))(r:vS E s q C v "Come" 1 [] (kn cs.come))(l:vS E s q C v "Go" 1 [] (kn cs.go))(n:vS E s q C v "Least" 1 [] (kn cs.least))(i:vS E s q C v "Most" 1 [] (kn cs.most))(j:vS E s q C v "Deal" 1 [] (kn cs.deal))(m:vS E s q C v "Fee" 1 [] (kn cs.fee)):DY E s q C v "made" 3 (RZ cs):=by show yk ["word","first","last","worth"] F λ_ _ _ _ _ _ _ _ Q nd hr h=>?_;have Wo k a b p rfl c f d e g:=h;simp only[DR,D7,Gv,Gw]at c;rcases c with rfl|rfl|rfl|rfl|rfl|rfl|rfl<;>rfl'<;>show#[8,_,_,_,Y,f,d,e,g]
variable {g9:Cs}
def gC{P:C5}{w:C6}{base:C7} (F:D5 q C "rule_of" mL ["thing"])(CR:DY P w q C base "is_rule" 6 RY)(k:DY P w q C base "made" 3 (RZ g9)):DY P w q C base "rule_of" 7 (qN g9):=by show yk ["thing"] F λ_ _ _ _ _ _ _ _ Q nd hr h=>?_;have We d rfl h c:=h;have Wo s i j v a rfl g e f b:=yV h;rfl';show#[h,?_];rfl';show#[2,_,_,_,_,Y,a,Y,#[Y,(vt a b).2,c]]
variable {i x R oa Aw Bo Fm Fo Fp Fq AO AQ AR AS AU AW AX A0 Fs Cy Ep Ah ED Bu EE Bn AE AI AJ AF AY AK EF EG Bz Ft Fu Fv:Ch}{e7 Fw:Dd}
def xr(j:rD q i x R oa Aw)(hm:C p=J (.ref i))(F:Gi q "__init__" "Rule.__init__" RP x e7)(hb:DQ q e7 ["self","first","last","worth"] []):vS E s q C v p 1 [] (kn i):=by
 show#[i,x,e7,_,[],hm,j.makes,hb,.nil,F.ok (N:=["self","first","last","worth"]) .o (λW H Q a3 h=>?_) λa4 A w a7 H W Q a3 hr h=>?_];have Wi _ as _ K:=h;have Wo _ _ _ _ rfl _ _ _ _ L:=K;have Wt _ _ _ c r _:=L;have#[a,b,a0,rfl,_]:=r;show Uu (·+1) c.length;have Wi G as Q' O:=h;have Wo f g a5 H1 rfl M hx hn rfl l:=O;have Wt rfl t o c B U:=l;have#[a,b,a0,rfl,n1,X,Z,a6]:=B;cases c with
 |cons r1 c=>cases c with
  |cons r2 c=>cases c with
   |cons r3 c=>
    cases c;rename_i p y z;show#[_,zt (xV (pv 0) (pv 1) Y)<|zt (xV (pv 0) (pv 2) Y)<|vq<|xV (pv 0) (pv 3) Y,_,Y,_,Y,f,i,g,[],Y,zi,j.cl,j.nf,by decide,_,Y,_,Y,f,i,g,_,Y,zi,j.cl,j.nl,(show 1<1000 by decide),_,Y,_,Y,f,i,g,yZ "last" y<|yZ "first" p [],Y,zi,j.cl,j.nw,(show 2<1000 by decide),?_];rw[uq,uq,uq];have m:zv G.H0 (upd (upd G.H0 g<|.own f) f<|.ins i g<|Q6 p y z):=λa o e=>by rw[zg (zk e M),zg (zk e hx)];show e
    have k:∀{u:V} {d:A2},AV (sub (λy=>¬G.O0 y) G.H0) u d->noL d=I->AV (sub (λy=>¬G.O0 y/\∀xs,G.H0 y≠J (.lst xs))<|upd (upd G.H0 g<|.own f) f<|.ins i g<|Q6 p y z) u d:=λh n=>h.noL (λa o ho e=>by have Wc e1 T:=zf e;show zr #[e1,λxs S=>by rw[T]at S;cases S;show ho trivial]<|m _ _ T) n;show U _ _ a6 #[t.same m,Kz.of_same m,.ins (zr #[λe=>?_,λxs e=>by rw[M]at e;cases e] zi)<|.cons (k r1 n1)<|.cons (k r2 X)<|.cons (k r3 Z) .nil];have Wa u P _:=o f e;rw[M]at P;cases P
variable {l N:Nat}{y K fC k9 Aq By:Pos}{g8:Da}
def xt(c:rD q i R oa Aw x)(F:Gi q "word" H g8 x e7)(d:DQ q e7 ["self"] [])(S:zq ["self"] ["self"] (zb g8))(e:zA g8=[.Return (J (.Constant (.str p) l y)) K]):xm E s q C v i "word" 1 (mW i p):=by show oV ["self"] c.cl c.word F d (λ_ _ _ _ _ _ _ Q nd hr h=>?_) S;have Wl a b g rfl f:=h;rw[e];show xU<|zM f
def xq(c:rD q i R x oa Aw)(F:Gi q "told" "Rule.told" RQ x e7)(d:DQ q e7 ["self"] [])(W:xm E s q C v i "word" 1 (mW i p)):xm E s q C v i "told" 2 (gE i p):=by show oV ["self"] c.cl c.told F d λ_ _ _ _ _ _ _ Q nd hr h=>?_;have Wl a b f rfl e:=h;rfl';show#[_,_,_,Y,zd<|xY c.cl c.nf<|zc 0 Y #[_,_,Y,Y,zd<|xY c.cl c.nl<|zc 0 Y #[_,_,Y,Y,zd<|xY c.cl c.nw<|zc 0 Y #[_,_,Y,Y,zm #[_,Y,GI Y,e]]]]]
def yH(c:rD q i R oa x Aw)(F:Gi q "tells" "Rule.tells" RS x e7)(f:DQ q e7 ["self","day"] []):xm E s q C v i "tells" 1 (oj i):=by show oV ["self","day"] c.cl c.tells F f λ_ _ _ _ _ _ _ Q nd hr=>Wg λa b e=>?_;have Wh g j rfl d:=e;rfl';show xY c.cl c.nf<|zc 0 Y #[_,_,Y,Y,?_];rfl';show Ot (λz=>?_) λz=>?_;rw[z,LL]at d;show xY c.cl c.nl<|zc 0 Y #[_,_,Y,Y,_,Y,d];rw[z,La]at d;show d
abbrev bB :Da:=Fn 40
abbrev yW :Da:=DW (Fn 39) 0
abbrev tw :Da:=DW (Fn 39) 1
abbrev du :Da:=DW (Fn 39) 2
abbrev R0 :Da:=Fn 30
def yE (C:Ch)(b:Cs)(a:TL):A2:=wO C [(.str "kept",.list (a.map<|uf b))]
def G2 (a:TL):Prop:=∀d∈a,wF d=I/\Yf d=I/\d.hasDict=Za
def R1 (c:Cs):Ph:=λb Q=>∃a,b=[.dat (.list a)]/\G2 a/\a.length<=24/\Q (.own<|a.map<|uf c)
def vX (C:Ch)(c:Cs):Ph:=λb Q=>∃a,(b=[.dat (.list a)]\/(b=[.dat .none]/\a=[]))/\G2 a/\a.length<=24/\Q (.dat<|yE C c a)
def ui (C:Ch)(c:Cs):Ph:=λb Q=>∃a,b=[.dat (yE C c a)]/\G2 a/\a.length<=1000/\Q (.own a)
def vj {cs:Cs}(h:wF dc=I):∃(s:Zv) (a b v:A2),s∈DR/\dc=.tuple [.str s,a,b,v]/\uf cs dc=rp (cs.of s) a b v:=by have Wg s a c:=rq h;have Wh b v d rfl:=c;show#[s,a,#[b,v,d,Y,Y]]
def zm1 :De:=match zA tw with
 |[.Return (J (.ListComp _ _ sc _)) _]=>sc
 |_=>zb tw
def Lp :Tw:=[("price",.non),("come",.bl I),("go",.bl I),("least",.int 1),("most",.int 14),("deal",.non),("fee",.int 0)]
def gD (x:Zv):A2:=if x="price"\/x="deal" then .none else if x="come"\/x="go" then .bool I else if x="least" then .int 1 else if x="most" then .int 14 else .int 0
def zY9(h:p∈DR):∃v,Lp.lookup p=J v/\JR (gD p)=J v:=by
 simp only[DR,D7,Gv,Gw]at h;rcases h with rfl|rfl|rfl|rfl|rfl|rfl|rfl;show#[.non,(),()]
 show#[.bl I,(),()];show#[.bl I,(),()];show#[.int 1,(),()];show#[.int 14,(),()];show#[.non,(),()];show#[.int 0,(),()]
theorem zj0 (x:Zv):yt 5000 (gD x):=by
 have b:0<big:=by symm
 have c:14<big:=by symm
 have a:∀i:Int,0<=i->i<=14->yt 5000 (.int i):=λi d e=>(yt.int ()<|()).mono ();unfold gD;split;show yt.none.mono ();split;show(yt.bool _).mono ();split;show a _ () ();split;show a _ () ();show a _ ()<|()
def R3 (w:Zv)(c:Int):A2->Bool
 |.tuple [.str x,.int a,.int b,_]=>decide (x=w)&&(decide (a<=c)&&decide (c<=b))
 |_=>Za
def br :A2->A2
 |.tuple [_,_,_,v]=>v
 |_=>.none
def uJ (b:TL)(w:Zv)(a:Int):A2:=match b.reverse.find? (R3 w a)with
 |some d=>br d
 |none=>gD w
theorem qH {p:A2->Bool}{e:A2}:∀{l:TL}{i:Nat},(∀j<i,∀d,l[j]?=J d->p d=Za)->l[i]?=J e->p e=I->l.find? p=J e
 |[],i,_,h,_=>by simp at h
 |d::l,0,_,h,q=>by simp at h;subst h;simp[Jh,q]
 |d::l,i+1,a,h,q=>by have c:=a 0 (Le _) d Y;rw[Jh,c];show qH (λj f x b=>a (j+1) (Nat.succ_lt_succ f) x<|by simpa using b) (by simpa using h) q
variable {T Af:TL}
def zN8 {p:A2->Bool}(h:∀(j:Nat) d,T[j]?=J d->p d=Za):T.find? p=D:=by rw[Mv];intro x a;have Wb j b:=Mn.mp a;rw[h j x b];simp
def bw :Tj:=λa Q=>∃x,a=[.dat (.str x)]/\x∈DR/\Q (.dat<|gD x)
def lW (C:Ch)(d:Cs):Tj:=λc Q=>∃b x a,c=[.dat (yE C d b),.dat (.str x),.dat (.int a)]/\G2 b/\x∈DR/\Q (.dat<|uJ b x a)
theorem zw3 (F:D5 q C "kept_rules" bB ["things"])(nb:GY C)(x:∃t,C "MOST_RULES"=J (.int 24 t))(p:DY E s q C v "rule_of" 7 (qN g9)):DY E s q C v "kept_rules" 8 (R1 g9):=by
 show yk ["things","kept","number","thing","rule"] F λ_ _ _ _ _ _ _ _ Q nd hr h=>?_;have#[c,rfl,n,z,w]:=h;rfl';show yD (.many [2,3])<|tV () nb.enumerate<|zc 0 Y<|#[_,Y,zW (λi O=>∃j g f,O=[J (.dat<|.list c),J (.own<|(c.take i).map<|uf g9),j,g,f]) #[D,D,D,Y] ?_ ?_]
 . intro i d O o u8;have Wi j g f rfl:=u8;have Wa e l rfl:=xv o;have m:=(n e<|HF l).1;have A:=(Gm.mp l).1;have Wg r a k:=vj (cs:=g9) m;have Wd b u B rfl y:=k;have e:(c.take<|i+1).map (uf g9)=(c.take i).map (uf g9)++[uf g9 (.tuple [.str r,a,b,u])]:=by rw[JJ,l,Ia];rfl
   rw[e];show#[_,Y,?_];rfl';show#[m,?_];rfl';show#[by rw[DZ,Jb];lia,?_];rfl';show#[_,_,_,Y]
 intro O u8;have Wi j g f rfl:=u8;rw[xR,Jq];show yr (wC 1 Y<|Oe<|vZ () nb.len<|zc 1 Y #[_,Y,xj () x #[_,_,Y,Y,yc (Hd ?_) ?_]]);rw[DZ];lia;rfl';show w
def kP(e:G2 T):wx (T.map (uf g9))=I:=by
 induction T with|nil=>rfl|cons d r j=>have f:=(e d GN).1;have#[k,a,b,v,l,rfl,h]:=vj f;have Wo _ _ _ _ c g _ _ _ hw:=yV f;cases g;rw[GW,h];simp only[wx,(j λx i=>e x<|GH _ i),Dj];simp[rp,wO,noL,qD,((vt c hw).2)]
def yp5 :zq ["self","rules"] ["self","rules"] (zb yW):=.o
variable {f9 m6 v7 j5 t8 x8 EN F9 FC FD FE FF Fx FG AA Fy Fz F0:Bs}
def zg5(F:iX q "__init__" "Book.__init__" yW f9 i e7)(c:GP q x)(l:zL q x "kept")(f:DY E s q C v "kept_rules" 8 (R1 g9)):zX E s q C v GA 9 i e7 ["self","rules"] (MZ x (vX x g9)):=by
 show yc0 F yp5 c l Y (λn Q h=>?_) (λo p b r H t n Q hr h=>?_) (λ_ _ _ _ _ _=>Y)<|Zc Y;have Wa k d _:=h;obtain h|⟨h,_⟩:=d<;>rw[h]<;>rfl
 have#[k,e,a,g,j]:=h;obtain h|⟨h,m⟩:=e;subst h;show wK f hr ()<|zd<|mR<|uN<|zc 1 Y<|uW<|zc 1 Y<|zm #[_,Y,a,g,#[_,Y,kP a,j]]
 subst h m;show wK f hr ()<|zd<|mR<|uN<|zc 1 Y<|sJ<|FA.d<|yC<|zm #[_,Y,GI Y,zm #[[],Y,a,g,#[_,Y,kP a,j]]]
def R4 :yj ["self"] (zb tw) ["rule"] [D] zm1:=#[Y,(),(),(),(),Y,()]
def gS(c:GP q x)(r:zL q x "kept")(o:Ge q x "rules" i)(F:Gi q "rules" "Book.rules" tw i e7)(u:DQ q e7 ["self"] [])(O:∀g∈DR,xm E s q C v (g9.of g) "told" 2 (gE (g9.of g) g)):xm E s q C v x "rules" 3 (ui x g9):=by
 show oV ["self"] c o F u λ_ _ _ _ _ _ _ Q nd hr h=>?_;have#[n,rfl,p,A,B]:=h;show xP<|QX (pat:=.one 0) Y R4 Y (λ_ _ _ _=>yq R4.nd Y<|Zc Y)<|yo<|xY c r<|zc 0 Y #[_,_,Y,Y,#[_,Y,by rw[DZ];show A,?comp]]
 case comp=>show ni (λm f=>f=n.take m) Y ?_ λf h=>?_;rintro m d f k rfl;rw[GD,Hj]at k;have Wa e l rfl:=k;have Wg y a j:=vj (cs:=g9) (p e<|HF l).1;have Wd b K G rfl H:=j;show#[_,Y,λx w t z=>fw ?_];rw[Ur Y];show λx w t z=>qv (O y G) hr<|zc 0 Y #[_,Y,Y,#[_,_,_,Y,?_]];rw[JJ,l];rfl;rw[DZ,Jq]at h;rw[h];show B
def aZ(F:D5 q C "usual" R0 ["word"])(b:C "USUAL"=J (.ref i))(e:cA q s i Lp):DY E s q C v "usual" 1 bw:=by show yk ["word"] F λ_ _ _ _ _ _ _ _ Q nd hr h=>?_;have We x rfl a f:=h;have Wa d g c:=zY9 a;show xU<|zD5 () b e<|zc 0 Y #[3,x,gD x,d,Y,g,c,f]
theorem fk{P:C5}{base:C7}(c:GP q x)(B:zL q x "kept")(L:Ge q x "tells_of" i)(F:Gi q "tells_of" "Book.tells_of" du i e7)(N:DQ q e7 ["self","word","day"] [])(nb:GY C)(G:DY P s q C base "usual" 1 bw)(S:∀u∈DR,xm P s q C base (g9.of u) "word" 1 (mW (g9.of u) u))(E:∀u∈DR,xm P s q C base (g9.of u) "tells" 1 (oj (g9.of u)))(y:∀u∈DR,GP q (g9.of u)/\zL q (g9.of u) "worth"):xm P s q C base x "tells_of" 2 (lW x g9):=by
 show oV ["self","word","day","rule"] c L F N λ_ _ _ _ _ _ _ Q nd hr h=>?_;have Wm w t m rfl M K g:=h;show yD (.one 3) (z97 () nb.reversed<|xY c B<|zc 0 Y #[_,_,Y,Y,#[_,Y,zW (λo O=>(∃p,O=[J (.dat<|yE x g9 w),J (.dat<|.str t),J (.dat<|.int m),p])/\∀j<o,∀d,w.reverse[j]?=J d->R3 t m d=Za) #[#[D,Y],λj A=>Ut A<|Nat.not_lt_zero _] ?_ ?_]]);rintro o d O l ⟨⟨p,rfl⟩,hno⟩;rw[<-List.map_reverse,GD,Hj]at l;have Wa e r rfl:=l;have Wo u a b v n rfl _ _ _ _:=yV (M e<|List.mem_reverse.mp<|HF r).1;show#[_,Y,?_];show yr (Im.t (zL8 (λ_ k=>z87<|qv (S u n) hr<|zc 3 Y #[_,Y,Y,#[_,_,_,Y,zc 1 Y #[_,_,Y,Y,k]]])
  (λT _ k=>rH<|lY<|rG (E u n) hr<|zc 3 Y #[_,Y,Y,zd<|zc 2 Y<|zm #[_,_,#[_,_,Y,#[_,Y,k]]]]) ?_))
 show yA (λh=>?_) λh=>?_;show xU<|xY (y u n).1 (y u n).2<|zc 3 Y #[_,_,Y,Y,?_];unfold uJ at g;rw[(qH hno r h)]at g;show g;show zu<|zu #[#[_,Y],λj A H f=>?_];rcases HX j o with z|z;show hno j z H f
 have:j=o:=by lia
 subst this;rw[r]at f;cases f;show h;rintro O ⟨⟨p,rfl⟩,hno⟩;show xU (wH G (hr.mono<|()) ()<|zd<|zc 1 Y<|zm #[t,Y,K,?_]);have R:=zN8 λj d l=>hno j (by have:=(Gm.mp l).1;rw[Jp,DZ];rwa [Jp]at this) d l;unfold uJ at g;rw[R]at g;show g
structure wN (d:A2):Prop where
 rule:wF d=I
 nice:yt 20011 d
 dep:d.depth<=2
 wn:yt 5000 (br d)
def zK (a:TL):Prop:=∀d∈a,wN d
def oW(h:p∈DR):yt 2000 (.str p):=by simp only[DR,D7,Gv,Gw]at h;rcases h with rfl|rfl|rfl|rfl|rfl|rfl|rfl<;>show#[Y,Y,Gj _,(),()]
theorem wN.of(g:p∈DR)(j:0<=L)(k:L<=gi)(h:gi<=1000000)(hw:yw (.str p) dc=I)(b:yt 5000 dc)(i:dc.depth<=1):wN (.tuple [.str p,.int L,.int gi,dc]):=by
 have d:1000001<big:=by decide
 have c:-big<0:=by decide
 have e:yz 5000 [.str p,.int L,.int gi,dc]:=by
  constructor;intro x a;simp only[D7,Gv,Gw]at a;rcases a with rfl|rfl|rfl|rfl;show(oW g).mono<|()
  show(yt.int ()<|()).mono ();show(yt.int ()<|()).mono ();show b;intro x a;simp only[D7,Gv,Gw]at a;rcases a with rfl|rfl|rfl|rfl;show Gj _
  show Gj _;show Gj _;lia
 show#[?_,yt.tuple e (by change 4*(5000+2)+3<=20011;decide),?_,b];change(tK (.tuple [.int L,.int gi])&&yw (.str p) dc)=I;rw[hw,Dj];unfold tK Oa;have f:(Lh (.int L)&&Lh (.int gi))=I:=by change((decide (0<=L)&&decide (L<=1000000))&&(decide (0<=gi)&&decide (gi<=1000000)))=I;simp only[HG,JI];lia
 simp only[f,Il,JI];lia;simp only[PyData.depth,Yg];lia
def zK.rules(h:zK T):G2 T:=λd a=>#[(h d a).rule,(h d a).nice.shaped,(h d a).nice.nod]
abbrev cj :Da:=Fn 74
abbrev cc :Da:=Fn 75
abbrev R5 :Da:=Fn 76
abbrev R6 :Da:=Fn 77
abbrev R7 :Da:=Fn 78
def Gs(a:L<=Ai)(b:Ai<=gi):xC L gi (.int Ai)=I:=by change(decide (L<=Ai)&&decide (Ai<=gi))=I;rw[Hw a,Hw b];rfl
theorem qM(a:-2000000000000<=L)(b:L<=2000000000000):yt 2000 (.int L):=yt.int (by unfold big;lia)<|by unfold big;lia
def eJ :Ph:=λa Q=>a=[.tape]/\∀z:Int,0<=z->z<=1000000000000->Q (.dat<|.int z)
def kR :Ph:=λb Q=>∃a,b=[.tape,.dat (.str a)]/\a∈DR/\∀d,yw (.str a) d=I->yt 5000 d->d.depth<=1->Q (.dat d)
def Ed (y x:Int):Prop:=(0<=x/\x<=14)\/x=61\/(y-3<=x/\x<=y+22)\/(y+58<=x/\x<=y+69)\/x=1000000\/x=1000001
def OJ (y:Int):Ue
 |.tuple [_,.int a,.int b,_]=>Ed y a/\Ed y (b+1)
 |_=>False
def mH :Ph:=λa Q=>∃y:Int,a=[.tape,.dat (.int y)]/\0<=y/\y<=999990/\∀d,wN d->OJ y d->Q (.dat d)
def R8 :Ph:=λa Q=>a=[.tape]/\∀z:Int,0<=z->z<=999990->Q (.dat<|.int z)
def lF :Ph:=λa Q=>∃y:Int,a=[.tape,.dat (.int y)]/\0<=y/\y<=999990/\∀c g:Int,y<=c->c<=y+3->c<g->g<=c+14->g<=1000000->Q (.dat<|.tuple [.int c,.int g])
theorem zb0 (F:D5 q C "_law_coins" cj ["_law_row"])(b:DY E s q C v "_law_take" 1 wc):DY E s q C v "_law_coins" 2 eJ:=by
 show yk ["_law_row","_law_few_here","_law_many","_law_great"] F λ_ _ _ _ _ _ _ _ Q nd hr h=>?_;have Wc rfl a:=h;rfl';show#[.inl #[(),()],?_];rfl';show#[.inr #[(),()],?_];rfl';show#[.inl #[(),()],?_];rfl';show#[#[(),()],nW Y () (by change _<5;lia) ?_]
 repeat show#[a _ () (),?_]
 trivial
theorem ar (F:D5 q C "_law_worth" cc ["_law_row","_law_word"])(l:DY E s q C v "_law_take" 1 wc)(k:DY E s q C v "_law_coins" 2 eJ):DY E s q C v "_law_worth" 3 kR:=by
 show yk ["_law_row","_law_word","_law_many","_law_free","_law_coins_here"] F λ_ _ _ _ _ _ _ _ Q nd hr h=>?_;have We e rfl hw c:=h;have f:∀z:Int,0<=z->z<=1000000000000->yw (.str e) (.int z)=I->Q (.dat<|.int z):=λz a b h=>c _ h ((qM ()<|()).mono<|())<|Gj _;have j:yw (.str e) .none=I->Q (.dat .none):=λh=>c _ h (yt.none.mono<|())<|Gj _;have g:∀b,yw (.str e) (.bool b)=I->Q (.dat<|.bool b):=λb h=>c _ h ((yt.bool _).mono<|())<|Gj _;simp only[DR,D7,Gv,Gw]at hw;rcases hw with rfl|rfl|rfl|rfl|rfl|rfl|rfl<;>rfl'
 . show#[Y,λz a b=>?_];rfl';show yA (λ_=>?_) λ_=>?_<;>rfl';show j Y;show f z a b<|Gs a b
 show g _ Y;show g _ Y
 iterate 2
  .refine uF (λd=>∃z:Int,d=.int z/\0<z/\z<=14) Y (by assumption) (by assumption) #[#[_,Y,(),()],#[_,Y,(),()],trivial] ?_;rintro _ ⟨z,rfl,_,_⟩;rfl';show f _ () ()<|Gs ()<|()
 . show uF (λd=>∃z:Int,d=.int z/\0<z/\z<=13) Y (by assumption) (by assumption) #[#[_,Y,(),()],#[_,Y,(),()],trivial] ?_;rintro _ ⟨z,rfl,_,_⟩;rfl';have n:∀{i:Int},0<=i->i<=14->yt 2000 (.int i):=λ_ _=>qM () ();show nW Y (by assumption) (by assumption) ?_
   iterate 2 show#[c _ (KZ.mpr #[Gs () (),Gs ()<|()]) (yt.tuple (yz.two (n ()<|()) (n ()<|()) (Gj _)<|Gj _)<|by change 2*(2000+2)+3<=5000;decide)<|D4 _,?_]
   show#[j Y,trivial]
 show#[Y,λz a b=>?_];rfl';show f z a b<|Gs a b
theorem ye6(g:0<=L)(k:L<=999990)(d:-3<=gi/\gi<=8\/gi=-L)(i:0<=Ai/\Ai<=13\/Ai=60\/Ai=1000000)(b: ~~~(Bc=if(if L+gi > 0 then L+gi else 0)<1000000 then if L+gi > 0 then L+gi else 0 else 1000000))(a: ~~~(Ea=if Bc+Ai<1000000 then Bc+Ai else 1000000)):0<=Bc/\Bc<=Ea/\Ea<=1000000/\Ed L Bc/\Ed L (Ea+1):=by
 have h:(Bc=0\/(L-3<=Bc/\Bc<=L+8))/\0<=Bc/\Bc<=999998:=by
  have:∀m,m=(if L+gi > 0 then L+gi else 0)->(m=0\/(L-3<=m/\m<=L+8))/\0<=m/\m<=999998:=λm e=>by rw[e];split<;>lia
  rw[Ur ()]at b;rw[b];show(this _ Y)
 clear b d;have Wf j c f:=h;unfold Ed;by_cases z:Bc+Ai<1000000;rw[Ur z]at a;subst a;show#[c,(),(),(),()];rw[Us z]at a;subst a;show#[c,(),(),(),.inr<|.inr<|.inr<|.inr<|.inr Y]
theorem zt9 (F:D5 q C "_law_rule" R5 ["_law_row","_law_day_here"])(nb:GY C)(A:DY E s q C v "_law_take" 1 wc)(t:DY E s q C v "_law_worth" 3 kR):DY E s q C v "_law_rule" 4 mH:=by
 show yk ["_law_row","_law_day_here","_law_word","_law_ahead","_law_first","_law_last"] F λ_ _ _ _ _ _ _ _ Q nd hr h=>?_;have#[y,rfl,i,o,l]:=h;rfl';show uF (λd=>∃x,d=.str x/\x∈DR) Y (by assumption) (by assumption) ?_ ?_
 . repeat show#[#[_,Y,by simp[DR]],?_]
   trivial
 intro _ u8;have Wa u rfl hw:=u8;rfl';show uF (λd=>∃z:Int,d=.int z/\(-3<=z/\z<=8\/z=-y)) Y (by assumption) (by assumption) #[#[_,Y,.inl #[(),()]],#[_,Y,.inl #[(),()]],#[_,Y,.inr Y],#[_,Y,.inl #[(),()]],trivial] ?_;intro _ u8;have Wa w rfl j:=u8;rfl';show uF (λd=>∃z:Int,d=.int z/\(0<=z/\z<=13\/z=60\/z=1000000)) Y (by assumption) (by assumption) #[6,#[_,Y,.inl #[(),()]],#[_,Y,.inl #[(),()]],#[_,Y,.inl #[(),()]],#[_,Y,.inr<|.inl Y],#[_,Y,.inr<|.inr Y],trivial] ?_;intro _ u8;have Wa p rfl n:=u8;rfl';show#[hw,λr m e b=>?_];rfl';have Wn c k g a f:=ye6 i o j n;show l _ (wN.of hw c k g m e b) #[a,f]
theorem zt0 (F:D5 q C "_law_stay" R7 ["_law_row","_law_day_here"])(nb:GY C)(f:DY E s q C v "_law_take" 1 wc):DY E s q C v "_law_stay" 2 lF:=by
 show yk ["_law_row","_law_day_here","_law_come","_law_nights"] F λ_ _ _ _ _ _ _ _ Q nd hr h=>?_;have#[y,rfl,b,g,a]:=h;rfl';show#[#[(),()],uF (λd=>∃z:Int,d=.int z/\0<=z/\z<=13) Y () (by change _<2;lia) #[#[_,Y,(),()],#[_,Y,(),()],trivial] ?_];intro _ u8;have We z rfl e c:=u8;rfl';show a _ _ ?_ ?_ ?_ ?_ ?_<;>repeat split
 all_goals lia
theorem zG8 (F:D5 q C "_law_day" R6 ["_law_row"])(b:DY E s q C v "_law_take" 1 wc):DY E s q C v "_law_day" 2 R8:=by
 show yk ["_law_row"] F λ_ _ _ _ _ _ _ _ Q nd hr h=>?_;have Wc rfl a:=h;rfl';show nW Y (by assumption) (by assumption) ?_
 repeat show#[a _ () (),?_]
 trivial
def zK.app(h:zK T)(b:zK Af):zK (T++Af):=λx a=>by
 rcases H9.mp a with a|a;show h x a
 show b x a
def zK.nil :zK []:=λx a=>by simp at a
def zo1(a:0<=L)(b:L<=1000000000000):sQ (.int L)=I:=Gs a b
theorem aA(a:0<=L)(e:L<=gi)(b:gi<=1000000)(c:0<=Ai)(d:Ai<=1000000000000):wN (.tuple [.str "price",.int L,.int gi,.int Ai]):=
 wN.of (by simp[DR]) a e b (by rw[sS,zo1 c d,DJ]) ((qM ()<|()).mono<|()) (Gj _)
abbrev cu :Da:=Fn 41
def R9 (C:Ch)(c:Cs):Ph:=λd Q=>∃a b,d=[.dat (yE C c a),.dat (yE C c b)]/\zK a/\zK b/\a.length+b.length<=24/\Q (.dat<|yE C c<|a++b)
theorem zj9(F:D5 q C "laid" cu ["elder","newer"])(j:vS E s q C v "Book" 9 [] (vX i g9))(g:xm E s q C v i "rules" 3 (ui i g9)):DY E s q C v "laid" 11 (R9 i g9):=by show yk ["elder","newer"] F λ_ _ _ _ _ _ _ _ Q nd hr h=>?_;have Wp a d rfl b c e f:=h;rfl';show#[b.rules,(),?_];rfl';show#[c.rules,(),#[1,a,d,Y,Y,(),?_]];rfl';show#[a++d,.inl Y,(b.app c).rules,by rw[GJ];show e,f]
abbrev dH :Da:=Fn 9
def si :Ph:=λa Q=>∃c g:Int,a=[.dat (.tuple [.int c,.int g])]/\-100<=c/\c<g/\g<=c+500/\c<=1000100/\Q (.own<|(zJ c (g-c).toNat).map .int)
theorem iN{P:C5}{w:C6}{base:C7} (F:D5 q C "nights_of" dH ["stay"])(nb:GY C):DY P w q C base "nights_of" 1 si:=by show yk ["stay"] F λ_ _ _ _ _ _ _ _ Q nd hr h=>?_;have#[c,g,rfl,f,b,d,e,a]:=h;show xP<|zl1 Y () nb.list () nb.range<|md (λ_ _=>Y)<|zc 0 Y<|zw<|#[3,_,_,_,Y,Y,Y,md (λ_ _=>Y)<|zc 0 Y<|zw<|#[3,_,_,_,Y,Y,Y,#[4,_,_,Y,Y,#[(),(),(),()],(),a]]]
abbrev yU :Da:=Fn 43
def oS :Arguments×De:=match zA yU with
 |[.Return (J (.Call _ _ [⟨_,.Lambda ps _ sc _,_⟩] _)) _]=>(ps,sc)
 |_=>(yg yU,zb yU)
def zP1 :zq ["prices","places"] ["prices","places"] (zb yU):=.o
def yd9 :vd "place" "prices" oS.1 oS.2:=#[Y,Y,Y,Y,Y,(),(),()]
variable {r:C1}{Ab:XK}{m d7:Hp}{d9:Db}{x6:TZ}
def z41(b:PySem.W.codeHdIn q x yI=I)(KX:q.In v)(a:v.BuiltinsAt C yI):
  Ra (yQ GA E s q C v ["prices","places"] "cheapest_first" (zb yU) i (.ref x) d9 x6 r m Ab).nox x "place" "prices" l y K fC k9 Aq By oS.1 oS.2 where
 S:=yd9
 hy:=Y
 hcl:=λc h=>by
  have e:oS.2.names=[(("prices":Zv),Yd),(("place":Zv),NameKind.local)]\/oS.2.names=[(("place":Zv),NameKind.local),(("prices":Zv),Yd)]:=by symm
  unfold closureFor;rcases e with e|e<;>rw[e]<;>simp[cellOf,h]
 hgl:=Y
 hco:=Y
 hhd:=PySem.W.codeHd_of_K KX b
 hbi:=a
 hdf:=Y
 hq:=Y
 hne:=by decide
 hb:=λu c g f d=>Y
 hdx:=by decide
 hdy:=by decide
 hcx:=by decide
 hcy:=by decide
def lL :Ph:=λd Q=>∃a b:TN,d=[.dat (.list<|b.map .int),.dat (.list<|a.map .int)]/\a.length<64/\(∀n∈a,0<=n/\n<b.length)/\∀c,L6 a b c->Q (.own<|c.map .int)
variable {w5 AH FH F1 FI FJ FK:Ua}{Br FL FN FO:Array (T8)}
def bK(n:q.lookup i=J #[f9,w5,.func (Zl "cheapest_first" "cheapest_first" (yg yU) (zA yU) (zb yU) .none m6 v7 j5 AH (.ref x) t8),Br])(f:Zo q (.ref x) "cheapest_first"=I)(u:Zh q (.ref i)=I)
  (o:C "cheapest_first"=J (.ref i)) (m:DQ q (Zl "cheapest_first" "cheapest_first" (yg yU) (zA yU) (zb yU) .none m6 v7 j5 AH (.ref x) t8) ["prices","places"] []) (nb:GY C) (e:PySem.W.codeHdIn q x yI=I) (KX:q.In v) (a:v.BuiltinsAt C yI):DY E s q C v "cheapest_first" 3 lL:=by show#[i,_,_,o,u,m,ym8 n f zP1 (λr Q h=>by have Wh k g rfl _:=h;rfl) λw b y H z r Q hr h=>?_];have Wj k g rfl d c p:=h;show xP<|eE (j:=0) (z41 e KX a) hr () nb.sorted Y<|zc 1 Y #[4,k,g,Y,Y,d,c,λl t=>p l t]
abbrev cT :Da:=Fn 44
def pS :Ph:=λc Q=>∃(a:TN) (d:A2),c=[.dat (.list<|a.map .int),.dat d]/\a.length<=500/\Rb d/\∀b:T5,b.length=a.length->Q (.own<|b.map .bool)
def aT (a:TN):wx (a.map .int)=I:=by
 induction a with|nil=>rfl|cons n a b=>rw[GW,wx,b];rfl
theorem fO (F:D5 q C "marked" cT ["prices","deal"])(nb:GY C)(P:DY E s q C v "cheapest_first" 3 lL):DY E s q C v "marked" 4 pS:=by
 show yk ["prices","deal","marks","bundle","place","rank","other"] F λ_ _ N _ _ _ _ _ Q nd hr h=>?_;have Wj c d rfl G h H:=h;show qA 2 ["price"] [D] (.one 0) (yo<|zc 0 Y #[_,Y,by rw[DZ];lia,xp (λ_=>.bool Za) (λ_ _=>#[_,Y,λ_ _ _ _ _ k=>dB k]) ?_]);rw[Kc,show c.map (λ_=>PyData.bool Za)=(c.map λ_=>Za).map .bool by simp];have f:(c.map λ_=>Za).length=c.length:=by simp
 generalize (c.map λ_=>Za)=a at f;rcases h with rfl|⟨many,free,rfl,f0,R,M⟩<;>rfl'
 show H a f;show yD (.one 4) (sL () nb.range ?_);rfl';show#[by lia,by rw[DZ];lia,?_];show zW (λi O=>∃(a:T5) (b:TN) (p l o:T9),a.length=c.length/\b.length<many/\(∀n∈b,0<=n/\n<c.length)/\O=[J (.dat<|.list<|c.map .int),J (.dat<|.tuple [.int many,.int free]),J (.own<|a.map .bool),J (.own<|b.map .int),p,l,o]) #[a,[],#[3,D,D,D,f,by simp;lia,by simp,Y]] ?_ ?_
 . intro i d O j u8;have Ww a b p l o f y g rfl:=u8;rw[GD,Hj]at j;have Wa z u rfl:=j;have u:=xF.mp<|HF u;rw[DZ]at u;show#[_,Y,wY 3 Y<|zc 4 Y #[by rw[DZ];lia,?_]];have g:∀n∈b++[z],0<=n/\n<c.length:=λn h=>by
    rcases H9.mp h with h|h;show g n h
    rw[GV.mp h];lia
   rw[show b.map PyData.int++[PyData.int z]=(b++[z]).map .int by simp];have y:(b++[z]).length<=many:=by simp;lia
   generalize b++[z]=b at g y;show yr<|wC 3 Y ?_;rfl';show yA (λh=>?_) λh=>?_
   . show yD (.many [5,6]) (tV () nb.enumerate<|FA.d<|bq 3 Y ?_);rfl';show#[1,b,c,Y,by lia,g,λL K=>#[_,Y,#[aT L,_,Y,zW (λr O=>∃a t x,a.length=c.length/\O=[J (.dat<|.list<|c.map .int),J (.dat<|.tuple [.int many,.int free]),J (.own<|a.map .bool),J (.own<|b.map .int),J (.dat<|.int z),t,x]) #[a,l,o,f,Y] ?_ ?_]]]
     . intro r d O j u8;have Wl a t x f rfl:=u8;have Wa e B rfl:=xv j;rw[GD,Hj]at B;have Wa m w rfl:=B;have w:=g m<|K.1.mem_iff.mp<|HF w;show#[_,Y,z27 2 Y ?_];rfl';show#[_,m.toNat,Y,?_,zu #[a.set m.toNat<|decide<|((0+r:Nat):Int)<free,_,_,by rw[Ht,f],by rw[List.map_set]<;>rfl]];unfold Ju;rw[Ur w.1,Ur (by rw[DZ];lia)]
     intro O u8;have Wl a t x f rfl:=u8;rfl';show#[a,[],#[3,_,_,_,f,by simp;lia,by simp,Y]]
   have h:=of_decide_eq_false h;rfl';show#[a,b,#[3,_,_,_,f,by simp at h;lia,g,Y]]
 intro O u8;have Ww a b p l o f _ _ rfl:=u8;rfl';show H a f
inductive Km :Ue
 |non:Km .none
 |pri:Km (.tuple [.str "price",.int 5,.int 4,.int 1])
 |fee:Km (.tuple [.str "fee",.int 1,.int 2,.bool I])
def aR (d:A2):Ph:=λa Q=>a=[.dat d]/\Q (.dat<|.bool Za)
def Sa :Ph:=λa Q=>a=[.dat (.tuple [.int 5,.int 4])]/\Q (.dat<|.bool I)
def Sb :Ph:=λa Q=>∃x y,a=[.dat (.bool I),x,y]/\Q (.dat<|.bool Za)
def Sd :Ph:=λa Q=>a=[.dat (.str "fee"),.dat (.bool I)]/\Q (.dat<|.bool Za)
def Se :Ph:=λa Q=>∃d,a=[.dat d]/\Km d/\Q (.dat<|.bool Za)
def cN :Ph:=λa Q=>∃d,a=[.dat d]/\Km d/\Q (.dat .none)
def OK (CR b:Ch)(a:TL)(q:Ue):Prop:=∃g:Nat,a.length<=900/\g<=a.length/\(∀d∈a.take g,wF d=I)/\((g=a.length/\24<g/\q (HU b))\/∃d,a[g]?=J d/\Km d/\q (xD CR [(.str "number",.int g)]))
def cV (CR c:Ch):TV->(Ug)->(Ue)->Prop:=λb _ q=>∃a,b=[.dat (.list a)]/\OK CR c a q
def lB (CR c:Ch):TV->(Ue)->Prop:=λb q=>∃a,b=[.dat (.list a)]/\OK CR c a q
def dI (C:Ch)(c:Cs)(e:Ch):TV->(Ug)->(Ue)->Prop:=λd _ q=>∃a b,d=[.dat (yE C c a),.dat (yE C c b)]/\zK a/\zK b/\a.length<=24/\b.length<=24/\24<a.length+b.length/\q (HU e)
abbrev OL :Da:=DW (Fn 12) 0
def zP6 (F:D5 q C "is_whole" gp ["thing"])(nb:GY C):DY E s q C v "is_whole" 1 (aR (.bool I)):=by show yk ["thing"] F λ_ _ _ _ _ _ _ _ Q nd hr h=>?_;have Wc rfl a:=h;rfl';show a
def zO1 (F:D5 q C "is_whole_within" lE ["thing","lowest","highest"])(b:DY E s q C v "is_whole" 1 (aR (.bool I))):DY E s q C v "is_whole_within" 2 Sb:=by show yk ["thing","lowest","highest"] F λ_ _ _ _ _ _ _ _ Q nd hr h=>?_;have Wh x y rfl a:=h;rfl';show#[Y,?_];rfl';show a
def zI9 (F:D5 q C "is_coins" fq ["thing"])(b:∃t,C "MOST_COINS"=J (.int 1000000000000 t))(c:DY E s q C v "is_whole_within" 2 Sb):DY E s q C v "is_coins" 3 (aR (.bool I)):=by show yk ["thing"] F λ_ _ _ _ _ _ _ _ Q nd hr h=>?_;have Wc rfl a:=h;rfl';show xj () b<|zm #[_,_,Y,a]
def zM7 (F:D5 q C "is_worth" iU ["word","thing"])(b:DY E s q C v "is_coins" 3 (aR (.bool I))):DY E s q C v "is_worth" 4 Sd:=by show yk ["word","thing"] F λ_ _ _ _ _ _ _ _ Q nd hr h=>?_;have Wc rfl a:=h;rfl';show#[Y,a]
def z72 (F:D5 q C "is_pair_of_days" OH ["thing"])(c:DY E s q C v "is_pair" 1 Nb)(b:DY E s q C v "is_day" 3 OI):DY E s q C v "is_pair_of_days" 4 Sa:=by show yk ["thing"] F λ_ _ _ _ _ _ _ _ Q nd hr h=>?_;have Wc rfl a:=h;rfl';show#[_,_,Y,?_];rfl';show#[(),(),?_];rfl';show#[(),(),a]
def zx9 (F:D5 q C "is_stretch" pT ["thing"])(b:DY E s q C v "is_pair_of_days" 4 Sa):DY E s q C v "is_stretch" 5 (aR (.tuple [.int 5,.int 4])):=by show yk ["thing"] F λ_ _ _ _ _ _ _ _ Q nd hr h=>?_;have Wc rfl a:=h;rfl';show#[Y,?_];rfl';show a
def zG2 (F:D5 q C "is_rule" nY ["thing"])(nb:GY C)(e:DY E s q C v "is_stretch" 5 Me)(c:DY E s q C v "is_stretch" 5 (aR (.tuple [.int 5,.int 4])))(f:DY E s q C v "is_worth" 4 Sd):DY E s q C v "is_rule" 6 Se:=by
 show yk ["thing"] F λ_ _ _ _ _ _ _ _ Q nd hr h=>?_;have We d rfl b a:=h;induction b with|non=>rfl';show a|pri=>rfl';show#[Y,?_];rfl';show a|fee=>clear c;rfl';show#[4,_,_,Y,(),(),(),?_];rfl';show#[Y,?_];rfl';show a
def zc1 (F:D5 q C "rule_of" mL ["thing"])(CR:DY E s q C v "is_rule" 6 Se):DY E s q C v "rule_of" 7 cN:=by show yk ["thing"] F λ_ _ _ _ _ _ _ _ Q nd hr h=>?_;have We d rfl b a:=h;rfl';show#[b,Za,Y,yv Y ?_];rfl';show a
def ye2 :zq ["self","number"] ["self","number"] (zb OL):=.o
def z99(F:Gi q "__init__" "NoRule.__init__" OL i e7)(c:DQ q e7 ["self","number"] [])(b:C "NoRule"=J (.ref x))(e:C "StayError"=J (.ref R))(f:Zh q (.ref x)=I)(hf:Zt q (.ref i)=J (.type "function"))(xs:XS q R)(a:XC q x R (J (.ref i)))(d:Zi q (.ref x) "number"=J D):Oy E s q C v "NoRule" 1 x "number":=
 #[b,f,R,i,e7,_,a.ok,hf,c,zA7 F ye2 Y Y e xs a d () () (λ_=>Y) (Zc Y)<|Zc Y]
def Sf :zq ((["things","kept","number","thing","rule"]:TR)++[("":Zv)]) ["things"] (zb bB):=.o
theorem aQ(F:Gi q "kept_rules" "kept_rules" bB i e7)(hm:C "kept_rules"=J (.ref i))(hb:DQ q e7 ["things"] [])(nb:GY C)(K:∃t,C "MOST_RULES"=J (.int 24 t))(A:DY E s q C v "rule_of" 7 (qN g9))(w:DY E s q C v "rule_of" 7 cN)(XN:Oy E s q C v "NoRule" 1 x "number")(XT:Ma q C "TooMany" R):gN E s q C v "kept_rules" 8 (cV x R):=by
 show RA F hm hb Sf () (λW Q a0 h=>?_) λX A' y a4 H a3 W Q a0 r xe hr h B=>?_;have Wa m rfl _:=h;rfl;have Wa m rfl p:=h;have#[g,hu,lg,Z,L]:=p;have nd:=Sf.nd;show wA 1 nd (yC<|zm<|#[_,Y,GI Y,lC (pat:=.many [2,3]) B.own Y (vc Y Y<|xX (yq nd Y<|Zc Y)<|xX (yq nd Y<|Zc Y)<|uA)<|tV () nb.enumerate<|zc 0 Y<|#[_,Y,?_]]);show zW (λc O=>c<=g/\∃l n k,O=[J (.dat<|.list m),J (.own<|(m.take c).map<|uf g9),l,n,k,J (.exc r λ_=>True)]/\L5 [l,n,k]=I) #[Gj _,#[D,D,D,Y,Y]] ?_ ?_;intro c d O S u8;have Wz N l n k rfl ne:=u8;have Wa e o rfl:=xv S;have hi:=(Gm.mp o).1;show#[_,Y,?_];by_cases T:c<g;have P:=Z e (HF<|show(m.take g)[c]?=J e by rw[List.getElem?_take_of_lt T];show o);show zU 4 nd (wH A hr ()<|zd<|zc 3 Y<|zm #[_,Y,P,yr<|uN<|zc 4 Y ?_]);have#[M,a,b,G,hs,rfl,U]:=vj P;show yc (by rw[U]<;>rfl)<|zu<|wY 1 Y (zc 4 Y #[by rw[DZ,Jb];lia,?_]);show zu #[(),#[J<|.dat<|.int ((0+c:Nat):Int),J<|.dat<|.tuple [.str M,a,b,G],J<|.dat<|uf g9<|.tuple [.str M,a,b,G],?_,Y]];rw[JJ,o,Ia];rfl;have ig:c=g:=by lia
 subst ig;rcases L with⟨z,_⟩|⟨b,f,bad,u⟩;lia
 rw[o]at f;cases f;show zU 4 nd (wH w hr ()<|zd<|zc 3 Y<|zm #[_,Y,bad,yr<|uN<|zc 4 Y ?_]);show yv Y<|aI (j:=5) B Y XN (hr.mono<|()) () Y (Gk.nil Y) (zc 2 Y #[((0+c:Nat):Int),Y,by
  have:(((0+c:Nat):Int).natAbs).log2<64:=by by_cases e:((0+c:Nat):Int).natAbs=0;rw[e];decide;show(CM e).mpr<|()
  lia,by rw[LM];show u])
 intro O u8;have Wz N l n k rfl ne:=u8;rw[xR]at N ⊢;rw[Jq];rcases L with⟨rfl,V,u⟩|⟨b,f,_⟩;show yr (wC 1 Y<|Oe<|vZ () nb.len<|zc 1 Y #[_,Y,xj () K #[_,_,Y,Y,?_]]);show yv (Hw<|by rw[DZ];lia)<|uy (j:=5) B Y XT () Y (Gk.nil Y)<|u8 () ()<|xj () K #[(24),Y,(),λ_=>u]
 have:=(Gm.mp f).1;lia
def yk7 :zq ((["self","rules"]:TR)++[("":Zv)]) ["self","rules"] (zb yW):=.o
def gk{P:C5}{w:C6}{base:C7}(F:iX q "__init__" "Book.__init__" yW f9 i e7)(l:C "Book"=J (.ref x))(k:Mk q x i)(g:DQ q e7 ["self","rules"] [])(e:gN P w q C base "kept_rules" 8 (cV R oa)):dz P w q C base "Book" 9 (lB R oa):=by show#[x,i,e7,_,l,k,g,ym4 F yk7 () (λn Q m h=>?_) λo t c s H E n Q m r u hr h p=>?_];have Wa b rfl a:=h;have Wa f rfl _:=a;rfl;have Wa b rfl d:=h;have Wa f rfl z:=d;show zI2 0<|FA.d<|zN9 (j:=2) p Y (Gk.nil Y) e hr ()<|zd<|mR<|uN<|zc 1 Y<|uW<|zc 1 Y<|zm #[f,Y,z]
def Sg :zq ((["elder","newer"]:TR)++[("":Zv)]) ["elder","newer"] (zb cu):=.o
theorem ze3(F:Gi q "laid" "laid" cu i e7)(t:C "laid"=J (.ref i))(m:DQ q e7 ["elder","newer"] [])(n:dz E s q C v "Book" 9 (lB R oa))(G:xm E s q C v x "rules" 3 (ui x g9)):gN E s q C v "laid" 11 (dI x g9 oa):=by show RA F t m Sg () (λw Q u h=>?_) λy A b B H M w Q u r L hr h z=>?_;have Wh a e rfl _:=h;rfl;have Wd a e rfl f c:=h;have Wn g p l K o:=c;have nd:=Sg.nd;show xU (jx (j:=2) z Y (Gk.nil Y) n hr ()<|zd ?_);rfl';show#[f.rules,(),?_];rfl';show#[g.rules,(),#[1,a,e,Y,Y,(),?_]];rfl';show#[(a++e).length,by rw[GJ];lia,D4 _,λd k=>((f.app g).rules d<|J8 k).1,.inl #[Y,by rw[GJ];lia,o]]
abbrev Si :Da:=DW (Fn 58) 0
abbrev me :Da:=DW (Fn 58) 1
def Sj (a:Ch)(b:A2)(c:TN):A2:=wO a [(.str "book",b),(.str "nights",.list (c.map .int))]
def zE (c:TN)(b:TL)(x:Zv)(a:Int):A2:=if x="price"/\a∈c then .none else uJ b x a
def Jm (c b:Ch)(d:Cs)(e:TN)(a:TL):A2:=Sj c (yE b d a) e
def Sk (c:Ch):Ph:=λd Q=>∃b a,d=[.dat b,.dat (.list<|a.map .int)]/\Q (.dat<|Sj c b a)
def tO (e d:Ch)(g:Cs):Ph:=λf Q=>∃b c x a,f=[.dat (Jm e d g c b),.dat (.str x),.dat (.int a)]/\G2 b/\x∈DR/\Q (.dat<|zE c b x a)
def oY (b:TN):(b.map PyData.int).all wV=I:=by rw[JL];intro d a;have Wa x _ rfl:=Ik.mp a;rfl
variable {i9:TN}
def eW:IX (.int L) (i9.map .int)=decide (L∈i9):=by
 induction i9 with|nil=>rfl|cons a r c=>have e:IX (.int L) ((a::r).map PyData.int)=(decide (a=L)||IX (.int L) (r.map .int)):=Y;rw[e,c];by_cases h:a=L;subst h;simp;have b:L≠a:=λz=>h z.symm;simp[h,b]
def jR(c:GP q i)(n1:zL q i "book")(n2:zL q i "nights")(hm:C "ClosedBook"=J (.ref i))(mk:Mk q i x)(F:Gi q "__init__" "ClosedBook.__init__" Si x e7)(hb:DQ q e7 ["self","book","nights"] [])(nb:GY C):OF E s q C v "ClosedBook" 1 (Sk i):=by
 show#[i,x,e7,_,hm,mk,hb,F.ok (N:=["self","book","nights"]) .o (λvs H Q a0 h=>?_) λa3 A P a6 H vs Q a0 hr h=>?_];have Wi _ as _ M:=h;have Wo _ _ _ _ rfl _ _ _ _ S:=M;have Wt _ _ _ k B _:=S;have#[b,ns,rfl,_]:=B;show Uu (·+1) k.length;have Wi G as Q' R:=h;have Wo p d a4 H1 rfl w V hn rfl U:=R;have Wt rfl t o k T kk:=U;have#[b,ns,rfl,a5]:=T;cases k with
 |cons r1 k=>cases k with
  |cons r2 k=>
   cases k;rename_i j y;have Wd K xs rfl h1 h2:=AV.lst_inv r2;have f:=(zf h1).2;have r:K≠p:=λz=>by rw[z,w]at f;cases f
   have O:K≠d:=λz=>by rw[z,V]at f;cases f
   show#[_,zt (xV (pv 0) (pv 1) Y) (vq<|xV (pv 0) (yX vp () nb.list boot_list<|zo (pv 2) zI Y) Y),_,Y,_,Y,p,i,d,[],Y,zi,c,n1,by decide,_,Y,K,xs,Y,.inl (D3.of<|by rw[zg r,zg r,zg O];show f),λl m=>?_];have g:p≠l:=λz=>by rw[<-z,zi]at m;cases m
   have n:G.H0 l=D:=by rw[zg g.symm,zg g.symm]at m;by_cases z:l=d;rw[z,zi]at m;cases m;rwa [zg z]at m
   show#[_,Y,#[2,p,i,d,[("book",j)],Y,by rw[zg g];show zi,c,#[n2,(show 1<1000 by decide),?_]]];have L:zv G.H0 (upd (upd (upd (upd (upd G.H0 d<|.own p) p<|.ins i d []) p<|.ins i d [("book",j)]) l<|.lst xs) p<|.ins i d [("book",j),("nights",.ref l)]):=λa u e=>by rw[zg (zk e w),zg (zk e n),zg (zk e w),zg (zk e w),zg (zk e V)];show e
   have Z:∀{a:Ch},G.H0 a=D->¬G.O0 a:=λ{a} e z=>by have Wa u W _:=o a z;rw[e]at W;cases W
   have X:zv (sub (λj=>¬G.O0 j) G.H0) (sub (λj=>¬G.O0 j)<|upd (upd (upd (upd (upd G.H0 d<|.own p) p<|.ins i d []) p<|.ins i d [("book",j)]) l<|.lst xs) p<|.ins i d [("book",j),("nights",.ref l)]):=zj λa u ha e=>#[ha,L _ _ e];show kk _ _ a5 #[t.same L,Kz.of_same L,.ins (zr (Z w) zi)<|.cons (AV.same X r1)<|.cons (.lst (zr (Z n)<|by rw[zg g.symm];show zi)<|h2.same X) .nil]
def yq5 :zq ["self","word","day"] ["self","word","day"] (zb me):=.o
def ia(c:GP q i)(o:zL q i "book")(j:zL q i "nights")(k:Ge q i "tells_of" R)(F:Gi q "tells_of" "ClosedBook.tells_of" me R e7)(m:DQ q e7 ["self","word","day"] [])(n:xm E s q C v x "tells_of" 2 (lW x g9)):xm E s q C v i "tells_of" 3 (tO i x g9):=by
 show oV ["self","word","day"] c k F m λ_ _ _ _ _ _ _ Q nd hr h=>?_;have#[g,e,d,a,rfl,l,p,b]:=h;unfold zE at b;by_cases h:d="price"/\a∈e
 . rw[Ur h]at b;rfl';show pj (Hw h.1)<|rH<|fL hr.one<|zc 2 Y<|xY c j<|zc 0 Y #[_,_,Y,Y,M8 Y (oY e) ?_];rw[eW,Hw h.2];show yv Y<|xU<|wM b
 rw[Us h]at b;show ug (λO=>O=[J (.dat<|Jm i x g9 e g),J (.dat<|.str d),J (.dat<|.int a)]) ?_ ?_
 . rfl';by_cases f:d="price";show pj (Hw f)<|rH<|fL hr.one<|zc 2 Y<|xY c j<|zc 0 Y #[_,_,Y,Y,M8 Y (oY e) ?_];rw[eW,Hd λz=>h #[f,z]];show yc Y<|zu<|zu Y;show sT (Hd f)<|yc Y<|zu<|zu Y
 rintro O rfl;show xU<|rG n (hr.mono<|())<|xY c o<|zc 0 Y #[_,_,Y,Y,#[_,Y,Y,zd<|zc 1 Y<|zd<|zc 2 Y<|zm #[3,g,d,a,Y,l,p,b]]]
abbrev jz :Da:=Fn 48
abbrev Sl :Da:=Fn 49
abbrev Sm :Da:=Fn 50
def aw(h:p∈DR):yw (.str p) (gD p)=I:=by simp only[DR,D7,Gv,Gw]at h;rcases h with rfl|rfl|rfl|rfl|rfl|rfl|rfl<;>decide +kernel
def yJ {ns:TN}(h:∀d∈T,wF d=I){x:Zv}(c:x∈DR)(a:Int):yw (.str x) (zE ns T x a)=I:=by unfold zE;split;rename_i z;rw[z.1];rfl;unfold uJ;split;rename_i d e;have Wo u i j v f rfl _ _ _ hw:=yV<|h d<|List.mem_reverse.mp<|Nh e;have:=List.find?_some e;have b:(decide (u=x)&&(decide (i<=a)&&decide (a<=j)))=I:=this;rw[HG,JI]at b;rw[<-b.1];show hw;show aw c
def Jn :A2->Bool
 |.bool b=>!b
 |_=>Za
def GG :A2->Int
 |.int i=>i
 |_=>0
section
variable {ns:TN}{ds:TL}(ZR:∀d∈ds,wF d=I)(day:Int)
include ZR
def z40 :∃b,zE ns ds "come" day=.bool b:=G1<|by rw[<-gL];show yJ ZR (by simp[DR]) day
def yl8 :∃b,zE ns ds "go" day=.bool b:=G1<|by rw[<-zt3];show yJ ZR (by simp[DR]) day
def zL5 :∃i,zE ns ds "least" day=.int i/\1<=i/\i<=14:=zS<|by rw[<-jP];show yJ ZR (by simp[DR]) day
def z26 :∃i,zE ns ds "most" day=.int i/\1<=i/\i<=14:=zS<|by rw[<-gg];show yJ ZR (by simp[DR]) day
def yd0 :∃i,zE ns ds "fee" day=.int i/\0<=i/\i<=1000000000000:=zS (by have:=yJ (ns:=ns) ZR (x:="fee") (by simp[DR]) day;rw[bE]at this;show this)
def zN3 :zE ns ds "price" day=.none\/∃i,zE ns ds "price" day=.int i/\0<=i/\i<=1000000000000:=by
 have:=yJ (ns:=ns) ZR (x:="price") (by simp[DR]) day;rw[sS,KA]at this;rcases this with z|z;left;cases e:zE ns ds "price" day with|none=>rfl|_=>rw[e]at z;cases z
 show .inr<|zS z
end
def pB (x:Zv)(d:Int):A2:=.tuple [.str x,.int d]
def wz (b:TN)(a:TL)(c:Int)(n:Nat):TL:=((zJ c n).filter λz=>vI<|zE b a "price" z).map<|pB "price"
def HS (b:Bool)(d:A2):TL:=if b=I then [d]else []
def vQ (b:TN)(a:TL)(c g:Int):TL:=wz b a c (g-c).toNat++HS (Jn<|zE b a "come" c) (pB "come" c)++HS (Jn<|zE b a "go" g) (pB "go" g)++HS (decide<|g-c<GG (zE b a "least" c)) (pB "least" c)++HS (decide<|GG (zE b a "most" c)<g-c) (pB "most" c)
def tq (b:Bool)(d:A2):(HS b d).length<=1:=by unfold HS;split<;>simp
def sZ (b:TN)(a:TL)(c:Int)(n:Nat):(wz b a c n).length<=n:=by unfold wz;rw[DZ];have:=Nt (λz=>vI<|zE b a "price" z)<|zJ c n;rw[zB]at this;show this
def So (e d:Ch)(h:Cs):Ph:=λf Q=>∃b a c g,f=[.dat (Jm e d h b a),.dat (.tuple [.int c,.int g])]/\G2 a/\-100<=c/\c<g/\g<=c+100/\c<=1000100/\Q (.own<|vQ b a c g)
def zM6 :De:=match zA jz with
 |[_,_,.Assign _ (.ListComp _ _ sc _) _,_,_,_,_,_]=>sc
 |_=>zb jz
def Sq :yj ["book","stay","come","go","told"] (zb jz) ["night","book"] [D,J 0] zM6:=#[Y,(),(),(),(),Y,()]
def jL (b:TN)(a:TL)(c:TN)(f:A2->Bool)(hf:∀z,f (.int z)=vI (zE b a "price" z))(g:A2->A2)(hg:∀z,g (.int z)=pB "price" z):((c.map PyData.int).filter f).map g=(c.filter λz=>vI (zE b a "price" z)).map (pB "price"):=by rw[List.filter_map,Ij];have d:(f∘PyData.int)=λz=>vI (zE b a "price" z):=funext hf;have e:(g∘PyData.int)=pB "price":=funext hg;rw[d,e]
def Sr :A2->Int
 |.int z=>z
 |_=>0
abbrev lq (d b:Ch)(e:Cs)(f:TN)(a:TL)(c g:Int)(l:TL):List (T9):=[J (.dat<|Jm d b e f a),J (.dat<|.tuple [.int c,.int g]),J (.dat<|.int c),J (.dat<|.int g),J (.own l)]
theorem zB0(F:D5 q C "bars" jz ["book","stay"])(T:DY E s q C v "nights_of" 1 si)(N:xm E s q C v i "tells_of" 3 (tO i x g9)):DY E s q C v "bars" 4 (So i x g9):=by
 show yk ["book","stay","come","go","told"] F λ_ _ _ _ _ _ _ _ Q nd hr h=>?_;have#[e,a,c,g,rfl,j,W,X,U,V,t]:=h;have n:∀d∈a,wF d=I:=λd u=>(j d u).1;show zU 2 nd<|md (λ_ _=>Y)<|zc 1 Y<|zw<|#[_,_,_,Y,Y,Y,zU 3 nd<|md (λ_ _=>Y)<|zc 1 Y<|zw<|#[_,_,_,Y,Y,Y,?_]];show ug (·=lq i x g9 e a c g (wz e a c (g-c).toNat)) ?_ ?_
 . show QY 4 (pat:=.one 0) nd Y Sq Y (λ_ _ _ _=>yq Sq.nd Y (by first|show Zc Y|show Zd Y))<|yo<|FA.d<|wK T (hr.mono<|()) ()<|zd<|zc 1 Y<|zm<|#[c,g,Y,(),(),(),(),#[_,Y,#[_,Y,#[by rw[DZ,zB];lia,?comp]]]]
   case comp=>show qp (λd=>vI<|zE e a "price"<|Sr d) (λd=>pB "price"<|Sr d) (λd u=>?_) ?_;have#[z,_,rfl]:=Ik.mp u;show#[_,Y,λL R M S Q k=>pN (uN<|rG N hr<|zc 1 Y #[_,Y,Y,zd<|zM<|zd<|zc 0 Y<|zm #[a,e,_,_,Y,j,by simp[DR],k]]),λ_ L R M S Q k=>yB<|zd<|zM<|zd<|zc 0 Y<|zm<|#[_,Y,GI Y,k]];show zu ?_;rw[Kc,jL e a _ _ (λ_=>Y) _ (λ_=>Y)];rfl
 rintro O rfl;have P:=sZ e a c (g-c).toNat;have#[r,m]:=z40 n c;have#[p,o]:=yl8 n g;have#[f,y,_,_]:=zL5 n c;have#[w,K,_,_]:=z26 n c;have B:∀l b d k,l.length<=k->(l++HS b d).length<=k+1:=λl b d k h=>by have:=tq b d;rw[GJ];lia
 have G:=B _ (Jn<|zE e a "come" c) (pB "come" c) _ P;have H:=B _ (Jn<|zE e a "go" g) (pB "go" g) _ G;have A:=B _ (decide<|g-c<GG (zE e a "least" c)) (pB "least" c) _ H;unfold vQ at t;rw[m,o,y,K]at t;rw[m,o,y]at A;rw[m,o]at H;rw[m]at G;show ug (·=lq i x g9 e a c g (wz e a c (g-c).toNat++HS (Jn<|.bool r) (pB "come" c))) ?_ ?_
 . rfl';show#[a,e,_,_,Y,j,by simp[DR],#[r,by rw[m];rfl,?_]];induction r<;>rfl';show#[(),zu<|zu Y];show Uu (lq i x g9 e a c g) (G9 _).symm
 rintro O rfl;generalize wz e a c (g-c).toNat++HS (Jn<|.bool r) (pB "come" c)=acc at *;show ug (·=lq i x g9 e a c g (acc++HS (Jn<|.bool p) (pB "go" g))) ?_ ?_
 . rfl';show#[a,e,_,_,Y,j,by simp[DR],#[p,by rw[o];rfl,?_]];induction p<;>rfl';show#[(),zu<|zu Y];show Uu (lq i x g9 e a c g) (G9 _).symm
 rintro O rfl;generalize acc++HS (Jn<|.bool p) (pB "go" g)=acc at *;show ug (·=lq i x g9 e a c g (acc++HS (decide<|g-c<f) (pB "least" c))) ?_ ?_
 . rfl';show#[a,e,_,_,Y,j,by simp[DR],#[_,f,Y,y,?_]];generalize decide (g-c<f)=b;induction b<;>rfl';show Uu (lq i x g9 e a c g) (G9 _).symm;show#[(),zu<|zu Y]
 rintro O rfl;change (acc++HS (decide<|g-c<f) (pB "least" c)).length<=_ at A;change Q (.own<|acc++HS (decide<|g-c<f) (pB "least" c)++_)at t;generalize acc++HS (decide<|g-c<f) (pB "least" c)=acc at *;show ug (·=lq i x g9 e a c g (acc++HS (decide<|w<g-c) (pB "most" c))) ?_ ?_
 . rfl';show#[a,e,_,_,Y,j,by simp[DR],#[_,w,Y,K,?_]];generalize decide (w<g-c)=b;induction b<;>rfl';show Uu (lq i x g9 e a c g) (G9 _).symm;show#[(),zu<|zu Y]
 rintro O rfl;show mQ 4 Y t
theorem zx1(h:qG dc=I):∃a free:Nat,dc=.tuple [.int a,.int free]/\0<free/\free<a/\a<64:=by unfold qG at h;split at h;rename_i m r;rw[HG]at h;have We i e f g:=zS h.1;have We j b d c:=zS h.2;subst b;injection e with e;subst e;show#[1,m.toNat,j.toNat,?_,(),(),()];rw[show((m.toNat:Nat):Int)=m by lia,show((j.toNat:Nat):Int)=j by lia];cases h
def zZ3(h:∀d∈T,wF d=I)(a:Int):Rb (zE i9 T "deal" a):=by
 have:=yJ (ns:=i9) h (x:="deal") (by simp[DR]) a;rw[hG,KA]at this;rcases this with z|z;left;cases e:zE i9 T "deal" a with|none=>rfl|_=>rw[e]at z;cases z
 show .inr<|zx1 z
def zK.all(h:zK T):∀d∈T,wF d=I:=λd a=>(h d a).rule
def Lq (b:TN)(a:TL)(c g:Int):Prop:=∀z,c<=z->z<g->vI (zE b a "price" z)=Za
def dZ (b:TN)(a:TL)(c:Int):Int:=GG<|zE b a "fee" c
def pP(h:zK T)(s:Lq i9 T L gi)(b:L<=Ai)(c:Ai<gi):zE i9 T "price" Ai=.int (GG (zE i9 T "price" Ai))/\0<=GG (zE i9 T "price" Ai)/\GG (zE i9 T "price" Ai)<=1000000000000:=by
 rcases zN3 h.all Ai with e|⟨i,e,a,i1⟩;have:=s Ai b c;rw[e]at this;cases this
 rw[e];show#[Y,a,i1]
def zM5(h:zK T)(c:Int):zE i9 T "fee" c=.int (dZ i9 T c)/\0<=dZ i9 T c/\dZ i9 T c<=1000000000000:=by have#[i,e,a,b]:=yd0 h.all c;unfold dZ;rw[e];show#[Y,a,b]
def vK (c g:Int):Prop:=0<=c/\c<g/\g<=c+14/\g<=1000000
def gG (b:TN)(a:TL)(c g:Int):Bool:=(vQ b a c g).isEmpty
variable {u3:Type}
def wB{a b:List u3}:(a++b).isEmpty=(a.isEmpty&&b.isEmpty):=by cases a<;>rfl
def qf:(HS j8 dc).isEmpty=!j8:=by cases j8<;>rfl
theorem zH6:gG i9 T L gi=I↔Lq i9 T L gi/\Jn (zE i9 T "come" L)=Za/\Jn (zE i9 T "go" gi)=Za/\¬gi-L<GG (zE i9 T "least" L)/\¬GG (zE i9 T "most" L)<gi-L:=by
 unfold gG vQ;rw[wB,wB,wB,wB,qf,qf,qf,qf];have:(wz i9 T L (gi-L).toNat).isEmpty=I↔Lq i9 T L gi:=by unfold wz Lq;rw[List.isEmpty_iff,List.map_eq_nil_iff,List.filter_eq_nil_iff];show#[λh z b c=>?_,λh z a=>?_];have:=h z (xF.mpr #[b,()]);simpa using this;have a:=xF.mp a;rw[h z a.1 ()];decide
 simp only[HG,this,Dv,Nj,and_assoc]
def zt8(h:gG i9 T L gi=I):Lq i9 T L gi:=(zH6.mp h).1
theorem kg(d:L<=gi)(h:dc∈vQ i9 T L gi):∃(x:Zv) (z:Int),dc=pB x z/\x∈DR/\L<=z/\z<=gi:=by
 unfold vQ at h;simp only[H9]at h;have a:∀{b:Bool} {x:Zv} {z:Int},dc∈HS b (pB x z)->dc=pB x z:=λ{b x z} h=>by cases b;simp[HS]at h;simpa[HS]using h
 rcases h with(((h|h)|h)|h)|h;have Wa z c rfl:=Ik.mp h;have c:=xF.mp (Mz.mp c).1;show#[1,_,z,Y,by simp[DR],c.1,()]
 show#[1,_,L,a h,by simp[DR],(),()];show#[1,_,gi,a h,by simp[DR],(),()];show#[1,_,L,a h,by simp[DR],(),()];show#[1,_,L,a h,by simp[DR],(),()]
theorem dS{z:Int}(c:p∈DR)(d:-100<=z)(e:z<=2000000):yt 5000 (pB p z)/\(pB p z).depth<=1:=by
 have b:2000001<big:=by decide
 have a:-big<(-100:Int):=by decide
 show#[yt.tuple (yz.two (oW c) (yt.int ()<|()) (Gj _)<|Gj _) (by change 2*(2000+2)+3<=5000;decide),by simp[pB,PyData.depth,Yg]]
theorem zm6 {ns:TN}{ds:TL}{c g:Int}:(vQ ns ds c g).length<=(g-c).toNat+4:=by unfold vQ;simp only[GJ];have e:=sZ ns ds c (g-c).toNat;have f:=tq (Jn<|zE ns ds "come" c)<|pB "come" c;have a:=tq (Jn<|zE ns ds "go" g)<|pB "go" g;have b:=tq (decide<|g-c<GG (zE ns ds "least" c))<|pB "least" c;have d:=tq (decide<|GG (zE ns ds "most" c)<g-c)<|pB "most" c;lia
theorem oQ(h:vK L gi):yt Zw (.list (vQ i9 T L gi)):=by
 have Wq m l j o:=h;show yt.list (n:=5000) #[λd f=>?_,λd f=>?_] ?_;have Wj x z rfl e a b:=kg () f;show(dS e ()<|()).1;have Wj x z rfl e a b:=kg () f;have:=(dS e (z:=z) ()<|()).2;lia;have i:(vQ i9 T L gi).length*(5000+2)<=18*(5000+2):=Nat.mul_le_mul_right _ (by have:=zm6 (ns:=i9) (ds:=T) (c:=L) (g:=gi);lia);have k:18*(5000+2)+2<=Zw:=by decide
 lia
def zM3:PyData.eqv (.list T) (.list [])=T.isEmpty:=by cases T<;>rfl
def Ss (d b:Ch)(f:Cs):Ph:=λe Q=>∃(a:TN) (ds:TL) (c g:Int),e=[.dat (Jm d b f a ds),.dat (.tuple [.int c,.int g])]/\zK ds/\vK c g/\Q (.dat<|.bool<|gG a ds c g)
theorem zM0(F:D5 q C "can_be_had" Sl ["book","stay"])(j:DY E s q C v "bars" 4 (So i x g9)):DY E s q C v "can_be_had" 5 (Ss i x g9):=by show yk ["book","stay"] F λ_ _ l _ _ _ _ _ Q nd hr h=>?_;have#[d,a,c,g,rfl,e,b,f]:=h;have Wq o m k n:=id b;rfl';show#[2,d,a,c,g,Y,e.rules,(),#[(),(),(),?_]];rfl';show Ip (oQ b).shaped Y (oQ b).nod Y<|by rw[show PyData.eqv (A.own<|vQ d a c g).d (.list [])=gG d a c g from zM3];show f
abbrev Su :Da:=Fn 45
abbrev Sv :Da:=Fn 46
def Sw (c b:Ch)(e:Cs):Ph:=λd Q=>∃(a:TN) (ds:TL) (zs:TN) (pr:Int->Int),d=[.dat (Jm c b e a ds),.dat (.list<|zs.map .int)]/\G2 ds/\zs.length<=900/\(∀z∈zs,zE a ds "price" z=.int (pr z))/\Q (.own<|(zs.map pr).map .int)
def Sx (d b:Ch)(f:Cs):Ph:=λe Q=>∃(a:TN) (ds:TL) (c g:Int),e=[.dat (Jm d b f a ds),.dat (.tuple [.int c,.int g])]/\zK ds/\vK c g/\Lq a ds c g/\∀(x:Int) (r:TL),Q (.dat<|.tuple (.int x::r))
def Sy (d b:Ch)(f:Cs):Ph:=λe Q=>∃(a:TN) (ds:TL) (c g:Int),e=[.dat (Jm d b f a ds),.dat (.tuple [.int c,.int g])]/\zK ds/\vK c g/\(gG a ds c g=I->∀x:Int,Q (.dat<|.int x))/\(gG a ds c g=Za->Q (.dat .none))
theorem z36(F:D5 q C "night_prices" Su ["book","nights"])(t:xm E s q C v i "tells_of" 3 (tO i x g9)):DY E s q C v "night_prices" 4 (Sw i x g9):=by
 show yk ["book","nights","prices","night","price"] F λ_ _ r _ _ _ _ _ Q nd hr=>Wg λl f a=>?_;have Wp k n rfl m u o p:=a;rfl';show yD (.one 3)<|yo<|zc 1 Y #[_,Y,zW (λg O=>∃e b:T9,O=[J (.dat<|Jm i x g9 l f),J (.dat<|.list<|k.map .int),J (.own<|((k.take g).map n).map .int),e,b]) #[D,D,Y] ?_ ?_]
 . intro g d O j u8;have Wg e b rfl:=u8;rw[GD,Hj]at j;have Wa z c rfl:=j;have w:=(Gm.mp c).1;show#[_,Y,zU 4 nd ?_];rfl';show#[2,f,l,_,_,Y,m,by simp[DR],?_];rw[o z (HF c)];rfl';show#[by rw[DZ,DZ,Jb];lia,?_];rfl';show#[_,_,by rw[JJ,c,Ia,Ia]<;>rfl]
 intro O u8;have Wg e b rfl:=u8;rw[DZ,Jq];rfl';show p
theorem zw8(F:D5 q C "bill" Sv ["book","stay"])(nb:GY C)(S:xm E s q C v i "tells_of" 3 (tO i x g9))(CN:DY E s q C v "nights_of" 1 si)(T:DY E s q C v "night_prices" 4 (Sw i x g9))(U:DY E s q C v "marked" 4 pS):DY E s q C v "bill" 6 (Sx i x g9):=by
 show yk ["book","stay","nights","prices","marks","fee","rows","paid"] F λ_ _ _ _ _ _ _ _ Q nd hr=>Wg λe f w=>?_;have Wp c g rfl l u A M:=w;have#[V,L,P,Z]:=u;have t:=l.rules;rfl';show#[5,c,g,Y,(),L,(),(),?_];generalize R:(g-c).toNat=n;have O:(zJ c n).length=n:=zB ..;rfl';show#[7,e,f,zJ c n,λz=>GG<|zE e f "price" z,Y,t,(),λz a=>(pP l A (xF.mp a).1 (by have:=(xF.mp a).2;lia)).1,?_];have p:∀z∈(zJ c n).map (λz=>GG<|zE e f "price" z),0<=z/\z<=1000000000000:=λz a=>by have Wa y r rfl:=Ik.mp a;have r:=xF.mp r;show(pP l A r.1<|()).2
 have H:=DZ (as:=zJ c n) λz=>GG<|zE e f "price" z;generalize (zJ c n).map (λz=>GG<|zE e f "price" z)=zs at p H;rfl';show#[2,f,e,_,_,Y,t,by simp[DR],?_];rfl';show#[1,zs,_,Y,(),zZ3 l.all c,λK W=>zU 5 nd ?_];rfl';show#[2,f,e,_,_,Y,t,by simp[DR],?_];rw[(zM5 l c).1];show zU 6 nd (FA.d<|jC Y () nb.list () nb.zip ?_);rfl';have m:(zs.map PyData.int).length=((zJ c n).map PyData.int).length:=by simp;lia
 have o:(K.map PyData.bool).length=((zJ c n).map PyData.int).length:=by simp;lia
 show#[0,_,_,_,Y,m,#[o,by simp;lia,by simp;lia,?_]];show zU 7 nd (zN5 Y () nb.sum<|FA.d<|sC ["row"] [D] (.one 0) (yo<|zc 6 Y #[_,Y,by rw[sP m o];simp;lia,?_]));show qp (λd=>!rK d) (Ol 1) (λd G=>?_) ?_
 . have Wb j N:=Mn.mp G;have Wm a0 y z X e2 B rfl:=sF N;rw[GD,Hj]at B;have Wa b _ rfl:=B;show#[_,Y,λ_ _ _ _ _ k=>pN ?_,λ_ _ _ _ _ _ k=>?_]<;>rfl';show k;show k
 rw[Kc,pL (by rw[DZ]at m;show m) (by rw[DZ]at o;show o)];show#[_,Y,λz a=>by have:=p z<|uu a;lia,fY (λz a=>p z<|uu a) (Gg (nu _ _)<|()),?_];rfl';show M _ _
def zE1(F:D5 q C "cost_or_none" Sm ["book","stay"])(o:DY E s q C v "can_be_had" 5 (Ss i x g9))(n:DY E s q C v "bill" 6 (Sx i x g9)):DY E s q C v "cost_or_none" 7 (Sy i x g9):=by
 show yk ["book","stay"] F λ_ _ _ _ _ _ _ _ Q nd hr=>Wg λj b a=>?_;have Wp c g rfl d f k l:=a;rfl';show#[2,j,b,c,g,Y,d,f,?_];rfl';show Ot (λe=>?_) (λe=>?_)<;>rfl'
 . show#[7,j,b,c,g,Y,d,f,zt8 e,λm r=>?_];rfl';show k e m
 show l e
abbrev Sz :Da:=Fn 52
abbrev SA :Da:=Fn 53
abbrev SD :Da:=Fn 54
abbrev SF :Da:=Fn 55
abbrev SG :Da:=Fn 56
abbrev bx :Da:=Fn 59
abbrev SH :Da:=Fn 60
def uk (b:TH):Prop:=∀a∈b,zK a
def aX (b a:Ch)(d:Cs)(e:TN)(c:TH):A2:=.list<|c.map<|Jm b a d e
structure JS (c:Int)(k:Nat)(W:List L2.Way):Prop where
 len:W.length<=k+1
 bd:∀w∈W,c<=w.1/\w.1<=c+k/\yY W w.1=J w.2/\(w.1=c\/∃u∈W,∃n,u.1<w.1/\w.2.2=J (u.1,w.1,n))
 c0:∃w∈W,w.1=c
def SI (c b:Ch)(e:Cs):Ph:=λd Q=>∃(f:TN) (a:TH) (W:List L2.Way) (day:Int),d=[.dat (aX c b e f a),.dat (xf<|W.map rE),.dat (.int day)]/\uk a/\a.length<=8/\W.length<=20/\(∀w∈W,vK w.1 day/\yY W w.1=J w.2)/\
 ∀L:TF,(∀p∈L,∃w∈W,∃n,p.2=(w.1,day,n))->Q (.own<|L.map uL)
def SJ (d b:Ch)(f:Cs):Ph:=λe Q=>∃(h:TN) (a:TH) (c g:Int),e=[.dat (aX d b f h a),.dat (.tuple [.int c,.int g])]/\uk a/\a.length<=8/\vK c g/\∀W,JS c (g-c).toNat W->Q (.dat<|xf<|W.map rE)
def eQ :Ph:=λb Q=>∃(W:List L2.Way) (c g:Int),b=[.dat (xf<|W.map rE),.dat (.tuple [.int c,.int g])]/\JS c (g-c).toNat W/\vK c g/\(∃w∈W,w.1=g)/\∀a:List Gr,a.length<=14->Q (.own<|a.map wj)
def de :Ph:=λa Q=>∃(W:List L2.Way) (c g:Int),a=[.dat (xf<|W.map rE),.dat (.tuple [.int c,.int g])]/\JS c (g-c).toNat W/\vK c g/\∀b:TN,Q (.own<|b.map .int)
def KL (Q:Ue):Prop:=(∀a:TN,a.length<=15->Q (.tuple [.str "off",.list (a.map .int)]))/\∀(x:Int) (ps:List Gr) (a:TN),ps.length<=14->Q (.tuple [.str "had",.int x,.list (ps.map wj),.list (a.map .int)])
def SK (e b:Ch)(h:Cs):Ph:=λf Q=>∃(i:TN) (a:TH) (c g:Int),f=[.dat (aX e b h i a),.dat (.tuple [.int c,.int g])]/\uk a/\a.length<=8/\vK c g/\KL λd=>Q<|.dat d
def js (e b:Ch)(c:Cs):Ph:=λf Q=>∃(d:TN) (a:TH),f=[.dat (.list<|a.map<|yE b c),.dat (.list<|d.map .int)]/\a.length<=8/\Q (.own<|a.map<|Jm e b c d)
def dA (i b:Ch)(f:Cs):Ph:=λe Q=>∃(h:TN) (a:TH) (c g:Int),e=[.dat (.list<|a.map<|yE b f),.dat (.list<|h.map .int),.dat (.tuple [.int c,.int g])]/\uk a/\a.length<=8/\vK c g/\KL λd=>Q<|.dat d
def pY{f:u3->A2}(h:∀x,noL (f x)=I)(l:List u3):wx (l.map f)=I:=by
 induction l with|nil=>rfl|cons x l a=>rw[GW,wx,h x,a]<;>rfl
def pH{f:u3->A2}(h:∀x,(f x).hasDict=Za)(l:List u3):Yk (l.map f)=Za:=by
 induction l with|nil=>rfl|cons x l a=>rw[GW,Yk,h x,a]<;>rfl
variable {Cz:L2.Way}{Ci:List L2.Way}
def zo4(h:Cz.1≠L):yY (Ci++[Cz]) L=yY Ci L:=by unfold yY;rw[List.find?_append,List.find?_cons_of_neg (by simpa using h)];simp
theorem JS.none(h:JS L l Ci):JS L (l+1) Ci:=#[by have:=h.len;lia,λw hw=>by have Wf b c a:=h.bd w hw;show#[b,(),a],h.c0]
theorem JS.add(h:JS L l Ci)(hw:Cz∈Ci):JS L (l+1) (Ci++[(L+1+l,gi,J (Cz.1,L+1+l,N))]):=by
 have c:∀v∈Ci,v.1≠L+1+l:=λv a=>by have:=(h.bd v a).2.1;lia
 have Wa u b e:=h.c0;show#[by have:=h.len;simp;lia,λv a=>?_,u,Kt _ b,e];rcases H9.mp a with a|a;have Wq g i d f:=h.bd v a;show#[g,(),(zo4 (c v a).symm).trans d,f.imp id ?_];rintro⟨u,b,z⟩;show#[u,Kt _ b,z]
 rw[GV.mp a];have:=(h.bd Cz hw).2.1;show#[by change L<=L+1+l;lia,by change L+1+l<=_;lia,?_,.inr #[Cz,Kt _ hw,#[N,by change Cz.1<L+1+l;lia,Y]]];unfold yY;rw[List.find?_append,Mv.mpr λv a=>by simpa using c v a];simp
theorem zF4 (F:D5 q C "arrivals" Sz ["books","ways","day"])(nb:GY C)(Z:DY E s q C v "cost_or_none" 7 (Sy i x g9)):DY E s q C v "arrivals" 8 (SI i x g9):=by
 show yk ["books","ways","day","found","begin","number","book","coins"] F λ_ _ V _ _ _ _ _ Q nd hr h=>?_;have Wo t y W a rfl K U X M P:=h;rfl';show yD (.one 4)<|cE<|zc 1 Y #[_,Y,zW (λw O=>∃L r b f g,L.length<=w*8/\(∀p∈L,∃s∈W,∃n,p.2=(s.1,a,n))/\O=[J (.dat<|aX i x g9 t y),J (.dat<|xf<|W.map rE),J (.dat<|.int a),J (.own<|L.map uL),r,b,f,g]) #[[],D,#[0,D,D,D,by simp,by simp,Y]] ?_ ?_]
 . intro w d O o u8;have Wx L r b f g k c rfl:=u8;rw[GD,GD,Option.map_map,Hj]at o;have Wa u z rfl:=o;have A:=HF z;have T:=(Gm.mp z).1;show#[_,Y,yD (.many [5,6])<|tV () nb.enumerate<|zc 0 Y #[_,Y,zW (λj O=>∃L b f g,L.length<=w*8+j/\(∀p∈L,∃s∈W,∃n,p.2=(s.1,a,n))/\O=[J (.dat<|aX i x g9 t y),J (.dat<|xf<|W.map rE),J (.dat<|.int a),J (.own<|L.map uL),J (.dat<|.int u.1),b,f,g]) #[L,b,#[f,g,k,c,Y]] ?_ ?_]]
   . intro j d O o u8;have Wy L b f g k c rfl:=u8;have Wa e G rfl:=xv o;rw[GD,Hj]at G;have Wa B l rfl:=G;have hj:=(Gm.mp l).1;have Wc N S:=M u A;show#[_,Y,zU 7 nd ?_];rfl';show#[7,t,B,u.1,a,Y,K B<|HF l,N,λH R=>?_,λH=>?_]<;>rfl'
     . show ue Y (by rw[xJ,S]<;>rfl) ?_;rfl';show#[by rw[DZ];lia,?_];rfl';show#[L++[(u.2.1+R,(u.1,a,j))],_,#[_,_,by simp;lia,λp m=>?_,by rw[Ia,LM]<;>rfl]];rcases H9.mp m with m|m;show c p m
       rw[GV.mp m];show#[u,A,#[j,Y]]
     show#[L,_,#[_,_,by lia,c,Y]]
   intro O u8;have Wy L b f g k c rfl:=u8;rw[xR,DZ]at k;rfl';show#[L,_,#[0,_,_,_,by lia,c,Y]]
 intro O u8;have Wx L r b f g k c rfl:=u8;rfl';show P L c
theorem z88 (F:D5 q C "least_ways" SA ["books","stay"])(nb:GY C)(CA:DY E s q C v "arrivals" 8 (SI i x g9)):DY E s q C v "least_ways" 9 (SJ i x g9):=by
 show yk ["books","stay","ways","day","found"] F λ_ _ A' _ _ _ _ _ Q nd hr=>Wg λH B o=>?_;have Wp c g rfl S T j U:=o;have#[X,cg,V,g2]:=j;show cz 2 nd<|zf0 ?_;rfl';show#[.inl c,Y,yD (.one 3)<|nk () nb.range ?_];rfl';show#[#[(),(),(),()],zW (λb O=>∃W y k,JS c b W/\O=[J (.dat<|aX i x g9 H B),J (.dat<|.tuple [.int c,.int g]),J (.dic<|W.map rE),y,k]) #[[(c,0,D)],D,D,#[(),?_,_,GV.mpr Y,Y],Y] ?_ ?_];intro s hw;rw[GV.mp hw];show#[Int.le_refl _,(),by simp[yY],.inl Y]
 . intro b d O f u8;have Wl W y k a rfl:=u8;rw[GD,Hj]at f;have Wa z t rfl:=f;have G:=(Gm.mp t).1;rw[zB]at G;rw[xy G]at t;cases t;have wl:=a.len;show#[_,Y,zU 4 nd<|FA.d<|zk2 2 Y ?_];rfl';show#[2,H,B,W,c+1+b,Y,S,T,#[(),λu R=>?_,λL P=>#[_,Y,pY (λ_=>Y) _,?_]]];have Wq h1 Z M _:=a.bd u R;show#[#[(),(),(),()],M];rfl';cases L with
   |nil=>rfl';show#[W,_,_,a.none,Y]
   |cons p r=>
    show yv Y<|dJ 2 hr.one Y (zJ7 Y hr.few () nb.min ?_);rfl';show#[(),pH (λ_=>Y) _,zm2 _,λd f=>?_,?_];have Wa p _ rfl:=Ik.mp f;show#[Y,by simp[uL,wj,PyData.depth,Yg]];rw[zH3 ()];have K:=zm3 (ds:=p::r) ();generalize Ou (p::r)=m at K;have#[a0,m]:=m;have Wa A l w:=P _ K;have Wb n e:=w;have e:=e;subst e;rfl';show#[.inl<|c+1+b,Y,by rw[DZ];lia,?_];rfl';have N:yY W (c+1+b)=D:=by unfold yY;rw[Mv.mpr λA l=>by have:=(a.bd A l).2.1;simp;lia]<;>rfl
    show#[_,_,_,a.add l,by rw[<-zz8 N]<;>rfl]
 intro O u8;have Wl W y k a rfl:=u8;rw[DZ,zB,show(g+1-(c+1)).toNat=(g-c).toNat by lia]at a;show Rm 2 Y ?_;rfl';show U W a
theorem zG7 (F:D5 q C "cut_of" SD ["ways","stay"])(nb:GY C):DY E s q C v "cut_of" 1 eQ:=by
 show yk ["ways","stay","backwards","day","part"] F λ_ _ P _ _ _ _ _ Q nd hr h=>?_;have#[W,c,g,rfl,w,i,f,B]:=h;have#[M,R,K,S]:=i;have#[t,r,e]:=f;rfl';show kM LH (λm O=>∃(j:T9) (u:L2.Way) (a:List Gr),O=[J (.dat<|xf<|W.map rE),J (.dat<|.tuple [.int c,.int g]),J (.own<|a.map wj),J (.dat<|.int u.1),j]/\u∈W/\u.1-c<=m/\a.length+m<=14) 14 #[3,D,t,[],by rw[e]<;>rfl,r,by lia,by simp] ?_;intro m O u8;have Wm j u a rfl z p H:=u8;have Wq N L G h:=w.bd u z;rfl';show Ot (λb=>?_) λb=>?_
 . have b:u.1≠c:=by simpa using b
   obtain⟨m,rfl⟩:∃k,m=k+1:=#[m-1,by lia];rcases h with e|⟨y,hy,n,o,e⟩;show Ut e b
   have#[d,x,l]:=u;obtain rfl:l=J (y.1,d,n):=e;have o:=o;have p:=p;rfl';show ue Y (by rw[xJ,show yY W d=_ from G]<;>rfl) ?_;rfl';show#[by rw[DZ];lia,?_];rfl';show#[m,by lia,#[3,_,y,a++[(y.1,d,n)],by rw[Ia]<;>rfl,hy,by lia,by simp;lia]]
 show xP (bq 2 Y<|fR Y () nb.list () nb.reversed ?_);rfl';rw[<-List.map_reverse];show#[pY (λ_=>Y) _,B _<|by rw[Jp];lia]
theorem zb4 (F:D5 q C "paper_of" SF ["ways","stay"])(nb:GY C):DY E s q C v "paper_of" 1 de:=by
 show yk ["ways","stay","highest","heights"] F λ_ _ _ _ _ _ _ _ Q nd hr h=>?_;have Wm W c g rfl b a j:=h;have#[x,o,l,t]:=a;have r:=b.len;show zU 2 nd (zM1 Y () nb.max<|FA.d<|sC ["way"] [D] (.one 0) (zG1 ?_));rfl';show#[by rw[DZ,DZ];lia,?_];rw[Ij];show xp (λu=>.int u.2.1) (λu w=>#[_,Y,λ_ _ _ _ _ k=>?_]) ?_
 . rfl';show k
 show#[Ov W,by unfold Ov;rw[Ij]<;>rfl,λe=>?_,?_];have Wa s hw _:=b.c0;rw[List.map_eq_nil_iff.mp e]at hw;cases hw;generalize m:(g-c).toNat=n;show qA 3 ["day","ways","highest"] [D,J 0,J 2] (.one 0) (nk () nb.range ?_);rfl';show#[#[(),(),(),()],by rw[DZ,zB];lia,?_];rw[show(g+1-c).toNat=n+1 by lia];show xp (λd=>.int<|hW W d) (λd i=>#[_,Y,λ_ _ _ _ _ k=>?_]) ?_
 . rfl';show kU (k:=.inl d) Y ?_;rw[xJ];cases e:yY W d with|none=>rfl';rw[zH5 e]at k;show k|some p=>rfl';show ue Y (by rw[xJ,e]<;>rfl) ?_;rfl';rw[zQ0 e]at k;show k
 show uP 3 Y<|xP (sC ["lower","higher"] [D,D] (.many [0,1]) (z81 () nb.zip ?_));rfl';have f:(zJ c<|n+1).map (λd=>PyData.int<|hW W d)=((zJ c<|n+1).map<|hW W).map PyData.int:=by rw[Ij]<;>rfl
 rw[Kc,f,zD2];show#[by rw[DZ,zB];lia,?_];show xp (λd=>.int<|hW W (d+1)-hW W d) (λd i=>#[_,Y,λ_ _ _ _ _ k=>?_]) ?_
 . rfl';show k
 have:=j<|(zJ c n).map λd=>hW W (d+1)-hW W d;rw[Ij]at this;show this
theorem zt1 (F:D5 q C "best" SG ["books","stay"])(nb:GY C)(A:DY E s q C v "least_ways" 9 (SJ i x g9))(y:DY E s q C v "cut_of" 1 eQ)(B:DY E s q C v "paper_of" 1 de):DY E s q C v "best" 10 (SK i x g9):=by
 show yk ["books","stay","ways"] F λ_ _ _ _ _ _ _ _ Q nd hr h=>?_;have Wo r m c g rfl o j a f n:=h;have Wq G w t z:=id a;rfl';show#[7,r,m,c,g,Y,o,j,a,λW b=>?_];rfl';show kU (k:=.inl g) Y ?_;rw[xJ];cases e:yY W g with|none=>show yv Y (xU<|yB<|zd<|zM<|zd<|FA.d<|zD3 Y () nb.list<|zc 2 Y #[_,Y,zm #[_,Y,GI Y,?_]]);have:=f (W.map (·.1)) (by rw[DZ];have:=b.len;lia);rw[Ij]at this ⊢;show this|some p=>have l:∃s∈W,s.1=g:=#[_,Jd e,Y];show yc Y<|zu ?_;rfl';show ue Y (by rw[xJ,e]<;>rfl) ?_;rfl';show#[8,W,c,g,Y,b,a,l,λu d=>?_];rfl';show#[3,W,c,g,Y,b,a,λH=>?_];rfl';show n _ _ _ d
theorem eB (F:D5 q C "closed" bx ["books","nights"])(c:OF E s q C v "ClosedBook" 1 (Sk i)):DY E s q C v "closed" 3 (js i x g9):=by show yk ["books","nights"] F λ_ _ _ _ _ _ _ _ Q nd hr h=>?_;have Wd b e rfl g d:=h;show xP (sC ["book","nights"] [D,J 1] (.one 0) (yo<|zc 0 Y #[_,Y,by rw[DZ];lia,?_]));show xp (λa=>Jm i x g9 b a) (λa f=>#[_,Y,λ_ _ _ _ _ k=>zI8 c hr ()<|zd<|zc 0 Y<|zd<|zc 1 Y<|zm #[_,b,Y,k]]) d
def aS (F:D5 q C "best_without" SH ["books","nights","stay"])(l:DY E s q C v "closed" 3 (js i x g9))(CE:DY E s q C v "best" 10 (SK i x g9)):DY E s q C v "best_without" 11 (dA i x g9):=by show yk ["books","nights","stay"] F λ_ _ _ _ _ _ _ _ Q nd hr=>Wg λe b a=>?_;have Wp c g rfl j d k f:=a;rfl';show#[e,b,Y,d,?_];rfl';show#[7,e,b,c,g,Y,j,d,k,f]
abbrev SM :Da:=Fn 65
abbrev SN :Da:=Fn 66
abbrev SO :Da:=Fn 67
structure RE (y:Int)(ds:TL):Prop where
 ok:zK ds
 ed:∀d∈ds,OJ y d
theorem RE.app(h:RE L T)(k:RE L Af):RE L (T++Af):=#[h.ok.app k.ok,λd z=>(H9.mp z).elim (h.ed d)<|k.ed d]
theorem RE.nil:RE L []:=#[.nil,λd z=>by cases z]
def RE.sub(h:RE L T)(k:∀d∈Af,d∈T):RE L Af:=#[λd z=>h.ok d<|k d z,λd z=>h.ed d<|k d z]
def Nc (y:Int):TN:=zJ 0 15++[61,1000000,1000001]++zJ (y-3) 26++zJ (y+58) 12
theorem zG0(h:∀n∈i9,Ed L n):(vF i9).length<64:=by
 have:(vF i9).length<=(Nc L).length:=List.Nodup.length_le_of_subset (SetW.met_nodup (λi=>i9.getD i 0) i9.length) λk hk=>by have:=h k<|dQ.mp hk;unfold Nc;simp only[H9,xF,D7,Gv,Gw];unfold Ed at this;lia
 have l:(Nc L).length=56:=by unfold Nc;simp[zB]
 lia
def eR :Ph:=λb Q=>∃y a x,b=[.dat (.list a),.dat (.str x)]/\RE y a/\a.length<=48/\∀c:TN,Q (.own<|c.map .int)
def SQ (C:Ch)(d:Cs):Ph:=λe Q=>∃y a c,e=[.dat (yE C d a),.dat (yE C d c)]/\RE y a/\RE y c/\a.length+c.length<=48/\Q (.dat .none)/\∀x b,Q (.dat<|.tuple [.str x,.int b])
def SR (C:Ch)(c:Cs):Ph:=λd Q=>∃y a,d=[.dat (yE C c a)]/\RE y a/\a.length<=24/\∀b,RE y b->b.length<=a.length->Q (.dat<|yE C c b)
def og(b:zK T)(x:Zv)(a:Int):yt 5000 (uJ T x a):=by unfold uJ;split;rename_i d e;show(b d<|List.mem_reverse.mp<|Nh e).wn;show zj0 x
def zv3 :(Lp.map λp=>PyData.str p.1)=DR.map .str:=Y
theorem bV (F:D5 q C "edges" SM ["rules","word"])(nb:GY C)(w:C "set"=D):DY E s q C v "edges" 1 eR:=by
 show yk ["rules","word","found","rule"] F λ_ _ A _ _ _ _ _ Q nd hr h=>?_;have Wm y p x rfl k G z:=h;show wA 2 nd<|yC ?_;rfl';show yD (.one 3)<|yo<|zc 0 Y #[_,Y,?_];show zW (λi O=>∃c j,c.length<=1+2*i/\(∀n∈c,Ed y n)/\O=[J (.dat<|.list p),J (.dat<|.str x),J (.own<|c.map .int),j]) #[[0],D,D4 _,λn e=>by rw[GV.mp e];show .inl #[(),()],Y] ?_ ?_
 . intro i d O l u8;have Wd c j r f rfl:=u8;have K:=(Gm.mp l).1;have o:=HF l;have m:=k.ed d o;have Wg u a g:=yV (k.ok d o).rule;have Wd b B H rfl _:=g;show#[_,Y,?_];rfl';show yA (λ_=>ae 2 Y<|FA.d<|yC ?_) (λ_=>zu<|zu #[c,_,(),f,Y]);rfl';show#[by rw[DZ];change c.length+2<=1000;lia,zu<|zu #[c++[a,b+1],_,by rw[GJ];change c.length+2<=_;lia,λn e=>?_,by rw[Ia];rfl]];rcases H9.mp e with e|e;show f n e
   simp only[D7,Gv,Gw]at e;rcases e with rfl|rfl;show m.1
   show m.2
 intro O u8;have Wd c j r f rfl:=u8;show uP 2 Y<|xP<|fc Y () nb.sorted () w<|zc 2 Y #[c,Y,#[(),zG0 f],λt _ _ _=>z t]
theorem zN6(F:D5 q C "unlike" SN ["one","other"])(H:C "USUAL"=J (.ref x))(L:pX q s x Lp l)(P:(x == Ya)=Za)(CE:DY E s q C v "edges" 1 eR)(V:xm E s q C v i "rules" 3 (ui i g9))(T:xm E s q C v i "tells_of" 2 (lW i g9)):DY E s q C v "unlike" 4 (SQ i g9):=by
 show yk ["one","other","rules","word","day"] F λ_ _ U _ _ _ _ _ Q nd hr h=>?_;have Wu z c b rfl n o N K M:=h;have#[m,u]:=n;have#[k,B]:=o;rfl';show#[m.rules,(),?_];rfl';show#[k.rules,(),#[1,c,b,Y,Y,(),?_]];show yD (.one 3) (zw7 () H L P ?_);rw[zv3];show zW (λG O=>∃p a:T9,O=[J (.dat<|yE i g9 c),J (.dat<|yE i g9 b),J (.dat<|.list<|c++b),p,a]) #[D,D,Y] ?_ ?_
 . intro G d O f u8;have Wg p a rfl:=u8;rw[GD,Hj]at f;have Wa e w rfl:=f;have g:=HF w;show#[_,Y,?_];show yD (.one 4) (yo<|FA.d<|wK CE (hr.mono<|()) ()<|zd<|zc 2 Y<|zd<|zc 3 Y<|zm #[3,z,c++b,e,Y,RE.app #[m,u] #[k,B],by rw[GJ];show N,λR=>#[_,Y,#[_,Y,?_]]]);show zW (λj O=>∃a:T9,O=[J (.dat<|yE i g9 c),J (.dat<|yE i g9 b),J (.dat<|.list<|c++b),J (.dat<|.str e),a]) #[_,Y] ?_ ?_
   . intro j d O f u8;have Wb a rfl:=u8;rw[GD,Hj]at f;have Wa y S rfl:=f;show#[_,Y,?_];rfl';show#[3,c,e,y,Y,m.rules,g,?_];rfl';show#[3,b,e,y,Y,k.rules,g,?_];have t:=og m e y;have r:=og k e y;show Ip t.shaped r.shaped t.nod r.nod<|yA (λ_=>?_) λ_=>zu<|zu #[_,Y];rfl';show M e y
   intro O u8;have Wb a rfl:=u8;show zu #[_,_,Y]
 intro O u8;have Wg p a rfl:=u8;rfl';show K
def zu1 (a:TL)(n:Nat):L2.cutD a (J ((n:Nat):Int)) D=a.drop n:=by rw[oU _ (Mt _),JY]
theorem zp0(F:D5 q C "tidied" SO ["book"])(nb:GY C)(A:DY E s q C v "unlike" 4 (SQ i g9))(y:vS E s q C v "Book" 9 [] (vX i g9))(B:xm E s q C v i "rules" 3 (ui i g9)):DY E s q C v "tidied" 11 (SR i g9):=by
 show yk ["book","rules","left","place","rule"] F λ_ _ w _ _ _ _ _ Q nd hr h=>?_;have Wj l c rfl g G u:=h;rfl';show#[g.ok.rules,(),?_];rfl';show yD (.many [3,4])<|tV () nb.enumerate<|zc 1 Y #[_,Y,zW (λb O=>∃a m k,RE l a/\a.length<=b/\O=[J (.dat<|yE i g9 c),J (.dat<|.list c),J (.own a),m,k]) #[0,[],D,D,RE.nil,D4 _,Y] ?_ ?_]
 . intro b d O r u8;have Wr a m k f j rfl:=u8;have Wa e n rfl:=xv r;have H:=(Gm.mp n).1;show#[_,Y,?_];have o:RE l (a++c.drop (b+1)):=f.app<|g.sub λd z=>Nw z;have p:(a++c.drop (b+1)).length<=24:=by rw[GJ,Kb];lia
   show yr<|wC 2 Y<|eS ?_;rfl';rw[show(((0+b:Nat):Int)+1)=((b+1:Nat):Int) by lia,zu1];show#[by rw[GJ]at p;lia,?_];rfl';show#[a++c.drop (b+1),.inl Y,o.ok.rules,(),?_];rfl';show#[0,l,c,a++c.drop (b+1),Y,g,#[o,(),?_,λx t=>?_]];show yc Y (zu<|zu #[0,a,_,_,f,(),Y]);show yv Y<|wY 2 Y<|zc 4 Y #[(),zu<|zu #[0,a++[e],_,_,f.app (g.sub λd z=>by rw[GV.mp z];show(HF n)),by rw[GJ];show Nat.add_le_add_right j 1,Y]]
 intro O u8;have Wr a m k f j rfl:=u8;rw[xR]at j;show uP 2 Y ?_;rfl';show#[a,.inl Y,f.ok.rules,(),u a f j]
abbrev fV :Da:=DW (Fn 69) 0
abbrev fX :Da:=DW (Fn 69) 1
abbrev gr :Da:=DW (Fn 69) 2
abbrev pK :Da:=DW (Fn 69) 3
abbrev jV :Da:=DW (Fn 69) 4
abbrev qY :Da:=DW (Fn 69) 5
abbrev pA :Da:=DW (Fn 69) 6
abbrev mF :Da:=DW (Fn 69) 7
abbrev gq :Da:=DW (Fn 69) 8
abbrev sE :Da:=DW (Fn 69) 10
abbrev tf :Da:=DW (Fn 69) 11
abbrev OM :Da:=DW (Fn 69) 12
abbrev ON :Da:=DW (Fn 69) 13
abbrev OO :=List<|TL
structure En where
 n:Int
 c:Int
 g:Int
 k:Int
 ps:List Gr
def Mf (e:En):A2:=.tuple [.int e.n,.tuple [.int e.c,.int e.g],.int e.k,.tuple (e.ps.map wj)]
structure Sn where
 bs:OO
 tk:List En
 fo:Int
def mZ (a:Ch)(c:Cs)(b:OO):A2:=.list<|b.map<|yE a c
def Mg (a:List En):A2:=.list<|a.map Mf
def Mh (a:Ch)(c:Cs)(b:Int)(d:TR)(p:Sn):Tv:=[(.str "room_count",.int b),(.str "names",.list (d.map .str)),(.str "books",mZ a c p.bs),(.str "taken",Mg p.tk),(.str "following",.int p.fo)]
def OP (a:Ch)(b:Cs)(p:Sn):A2:=.tuple [mZ a b p.bs,Mg p.tk,.int p.fo]
structure zY (CI CB:Ch)(cs:Cs)(s:zD)(rc:Int)(ns:TR)(p:Sn)(ps:List Sn):Prop where
 C:s.C=CI
 nm:s.nm="past"
 pl:s.pl=I
 kv:s.kvs=Mh CB cs rc ns p
 pa:s.past=ps.map (OP CB cs)
structure IK (K:Cl)(CI:Ch):Prop where
 c:GP K CI
 n1:zL K CI "room_count"
 n2:zL K CI "names"
 n3:zL K CI "books"
 n4:zL K CI "taken"
 n5:zL K CI "following"
 n6:zL K CI "past"
def At (a:TR)(x:Zv)(j:Nat):Prop:=a[j]?=J x/\∀i<j,a[i]?≠J x
def dE (e c:Ch)(f:Cs):Ph:=λh Q=>∃s d g p b,h=[.inn s]/\zY e c f s d g p b/\b.length<900/\∀a,zY e c f a d g p (b++[p])->a.a=s.a->a.lp=s.lp->Q (.res .none a)
def dY (g b:Ch)(d:Cs):Ph:=λi Q=>∃s f h p c e,∃j:Nat,i=[.inn s,.dat (.int j),.dat (yE b d e)]/\zY g b d s f h p c/\j<p.bs.length/\p.bs.length<=4/\c.length<900/\∀a,zY g b d a f h {p with bs:=p.bs.set j e} (c++[p])->a.a=s.a->a.lp=s.lp->Q (.res .none a)
def tR (f b:Ch)(g:Cs):Ph:=λe Q=>∃s d a p c x,∃j:Nat,e=[.inn s,.dat (.str x)]/\zY f b g s d a p c/\At a x j/\Q (.res (.int j) s)
def uh (g b:Ch)(h:Cs)(c:Ch):TV->(Ug)->(Ue)->Prop:=λf _ q=>∃s e a p d x,f=[.inn s,.dat (.str x)]/\zY g b h s e a p d/\x∉a/\x.length<=10000/\q (HU c)
def SS (f b:Ch)(g:Cs):Ph:=λi Q=>∃s e h p d c,i=[.inn s]/\zY f b g s e h p (d++[c])/\∀a,zY f b g a e h c d->a.a=s.a->a.lp=s.lp->Q (.res .none a)
def cX (d a:Ch)(f:Cs)(e:Ch):TV->(Ug)->(Ue)->Prop:=λc _ q=>∃s b g p,c=[.inn s]/\zY d a f s b g p []/\q (HU e)
def SU (f c:Ch)(h:Cs):Ph:=λi Q=>∃s d g p b,∃n:Int,i=[.inn s,.dat (.int n)]/\zY f c h s d g p b/\p.tk.length<=900/\(p.tk.filter λe=>!decide (e.n=n)).length≠p.tk.length/\b.length<900/\∀a,zY f c h a d g {p with tk:=p.tk.filter λe=>!decide (e.n=n)} (b++[p])->a.a=s.a->a.lp=s.lp->Q (.res .none a)
def dW (g a:Ch)(h:Cs)(b:Ch):TV->(Ug)->(Ue)->Prop:=λf _ q=>∃s d i p c,∃n:Int,f=[.inn s,.dat (.int n)]/\zY g a h s d i p c/\p.tk.length<=900/\(p.tk.filter λe=>!decide (e.n=n)).length=p.tk.length/\n.natAbs.log2<1920/\q (HU b)
def nv (g c:Ch)(h:Cs):Ph:=λf Q=>∃s e a p d x,∃j:Nat,∃b,f=[.inn s,.dat (.str x)]/\zY g c h s e a p d/\At a x j/\p.bs[j]?=J b/\G2 b/\b.length<=1000/\Q (.res (.list b) s)
def SV (h f:Ch)(i:Cs):Ph:=λk Q=>∃s g e p d x,∃j:Nat,∃b a,k=[.inn s,.dat (.str x),.dat (.list a)]/\zY h f i s g e p d/\At e x j/\p.bs[j]?=J b/\zK b/\zK a/\b.length+a.length<=24/\p.bs.length<=4/\d.length<900/\∀c,zY h f i c g e {p with bs:=p.bs.set j<|b++a} (d++[p])->c.a=s.a->c.lp=s.lp->Q (.res .none c)
def SX (CR c:Ch)(b a:TL)(q:Ue):Prop:=OK CR c a q\/(zK a/\a.length<=24/\24<b.length+a.length/\q (HU c))
def SY (i d:Ch)(k:Cs)(e CR l:Ch):TV->(Ug)->(Ue)->Prop:=λh _ q=>∃s g a p f x c,h=[.inn s,.dat (.str x),.dat (.list c)]/\zY i d k s g a p f/\((x∉a/\x.length<=10000/\q (HU e))\/∃j:Nat,∃b,At a x j/\p.bs[j]?=J b/\zK b/\b.length<=24/\SX CR l b c q)
def cK (h f:Ch)(i:Cs):Ph:=λk Q=>∃y s g d p c x,∃j:Nat,∃b,k=[.inn s,.dat (.str x)]/\zY h f i s g d p c/\At d x j/\p.bs[j]?=J b/\RE y b/\b.length<=24/\p.bs.length<=4/\c.length<900/\∀e a,RE y e->e.length<=24->zY h f i a g d {p with bs:=p.bs.set j e} (c++[p])->a.a=s.a->a.lp=s.lp->Q (.res .none a)
variable {y9 BY C0:Sn}{G Ap Cj:zD}{B9:List Sn}{S:TR}
def zY.get(h:zY i x g9 G L S y9 B9):yn G.kvs "room_count"=J (.int L)/\yn G.kvs "names"=J (.list (S.map .str))/\yn G.kvs "books"=J (mZ x g9 y9.bs)/\yn G.kvs "taken"=J (Mg y9.tk)/\yn G.kvs "following"=J (.int y9.fo):=by rw[h.kv];show#[Y,Y,Y,Y,Y]
def jv (x:Zv):wV (.str x)=I:=Y
def nF (b:TR):(b.map PyData.str).all wV=I:=by rw[JL];intro d a;have Wa x _ rfl:=Ik.mp a;rfl
def eU:IX (.str p) (S.map .str)=decide (p∈S):=by
 induction S with|nil=>rfl|cons a r c=>have e:IX (.str p) ((a::r).map PyData.str)=(Jw (.str a) (.str p)||IX (.str p) (r.map .str)):=Y;rw[e,c,show Jw (V.str a) (V.str p)=decide (a=p)from(show(a == p)=decide (a=p)from by by_cases z:a=p<;>simp[z])];by_cases h:a=p;subst h;simp;have b:p≠a:=λz=>h z.symm;simp[h,b]
def yh4 :zq ["self"] ["self"] (zb ON):=.o
theorem zd6{P:C5}{w:C6}{mg:Tt}{base:C7}{cs:Cs}{CB:Ch}(b:IK q i)(n:Ge q i "remember" x)(F:Gi q "remember" "Inn.remember" ON x e7)(o:DQ q e7 ["self"] []):yf P w q mg base i "remember" 1 (dE i CB cs):=by show#[x,e7,_,b.c,n,o,IW F yh4 (λk Q h=>?_) λl A e s H E k Q hr h=>?_];have Wg s g c:=h;have Wl m p f rfl _:=c;rfl;have Wg s g d:=h;have Wm m p f rfl a C u:=d;have Wn z B j r t:=a.get;have y:=a.C;subst y;show zE2 0 Y b.c (by rw[a.nm];show b.n6) a.pl (by rw[a.nm,a.kv];rfl) (yB<|zd<|zV 0 Y b.c b.n3 j<|zd<|zV 0 Y b.c b.n4 r<|zd<|zV 0 Y b.c b.n5 t<|zm #[_,Y,GI Y,?_]) a.nm;show#[by rw[a.pa,DZ];lia,λv=>zu #[_,Y,u _ #[a.C,a.nm,a.pl,a.kv,?_] Y Y]];change s.past++[_]=_;rw[a.pa,Ia];rfl
def yg4 :zq ["self","place","book"] ["self","place","book"] (zb OM):=.o
def iK(h:l<=T.length):cutD T D (J (l:Int))=T.take l:=by unfold L2.cutD;rw[HT.mK,HT.tE,MB h,List.drop_zero,Nat.sub_zero]
theorem S0(h:l<=T.length):cutD T (J (l:Int)) D=T.drop l:=by unfold L2.cutD;rw[HT.mK,HT.tE,MB h,Nm (by rw[Kb];lia)]
def z07{a:List u3}{x:u3}(h:l<a.length):a.take l++[x]++a.drop (l+1)=a.set l x:=by rw[List.set_eq_take_append_cons_drop,Ur h];simp
theorem bT(m:IK q i)(K:Ge q i "put" R)(F:Gi q "put" "Inn.put" OM R e7)(L:DQ q e7 ["self","place","book"] [])(CR:yf E s q C v i "remember" 1 (dE i x g9)):yf E s q C v i "put" 2 (dY i x g9):=by
 show#[R,e7,_,m.c,K,L,IW F yg4 (λA Q h=>?_) λB V k g H U A Q hr h=>?_];have Wg g t n:=h;have Wg w p o:=n;have Wl r G j rfl _:=o;rfl;have Wi g t w l:=h;have Wo p r G j rfl b O z M N:=l;have P:=b.C;subst P;show wZ 0 (tM 0 Y CR hr (by rw[b.kv];rfl) (by rw[b.nm];decide) #[g,t,#[3,w,p,r,Y,b,M,λd a u y=>#[1,_,d,Y,u,y,?_]]]);have Wn S X f W Z:=a.get;have c:GP q d.C:=by rw[a.C];show m.c
 have e:zL q d.C "books":=by rw[a.C];show m.n3
 show vo 0 Y c e f (by rw[a.kv];change 5<900;decide)<|FA.d<|uT<|FA.d<|uT<|FA.d<|dP<|zV 0 Y c e f<|qg<|rX<|zc 1 Y #[_,Y,#[_,Y,?_]];show FA.d<|yC<|zd<|zc 2 Y<|zm #[_,Y,GI Y,#[1,_,_,Y,Y,?_,?_]];rw[iK (by rw[DZ];lia),Jb,DZ];simp;lia;show FA.d<|dP<|zV 0 Y c e f<|rX<|uO<|zc 1 Y<|zw #[_,_,Y,Y,_,Y,qg #[_,Y,#[1,_,_,Y,Y,?_,λT=>zu #[_,Y,N _ ?_ ?_ ?_]]]];rw[show(j+1)=((j+1:Nat):Int)from Y,iK (by rw[DZ];lia),S0 (by rw[DZ];lia)];simp;lia;show#[a.C,a.nm,a.pl,?_,a.pa];change wU "books" _ d.kvs=_;rw[a.kv,show(j+1)=((j+1:Nat):Int)from Y,iK (by rw[DZ];lia),S0 (by rw[DZ];lia),z07 (by rw[DZ];show O),<-List.map_set];rfl;show u;show y
def zF7 :zq ["self","name"] ["self","name"] (zb tf):=.o
def jD{P:C5}{w:C6}{mg:Tt}{base:C7}{cs:Cs}{CB:Ch}(b:IK q i)(u:Ge q i "place_of" x)(F:Gi q "place_of" "Inn.place_of" tf x e7)(v:DQ q e7 ["self","name"] []):yf P w q mg base i "place_of" 1 (tR i CB cs):=by show#[x,e7,_,b.c,u,v,IW F zF7 (λr Q h=>?_) λt C e s H E r Q hr h=>?_];have Wg s o k:=h;have Wg d p c:=k;have Wl n g j rfl _:=c;rfl;have Wi s o d f:=h;have#[p,n,g,j,rfl,l,a,y]:=f;have Wn A m B G K:=l.get;have z:=l.C;subst z;show yr<|mw hr.one<|zc 1 Y<|zV 0 Y b.c b.n2 m<|M8 (jv g) (nF d) ?_;rw[eU,Hw (HF a.1)];show yc Y<|zu<|xG 0 Y ?_;show zF0<|zV 0 Y b.c b.n2 m #[d,Y,zc 1 Y #[1,g,j,Y,a.1,a.2,y]]
def zg8 :zq ((["self","name"]:TR)++[("":Zv)]) ["self","name"] (zb tf):=.o
def nP{P:C5}{w:C6}{mg:Tt}{base:C7}{cs:Cs}{CB:Ch}{CN:Ch}(f:IK q i)(z:Ge q i "place_of" x)(F:Gi q "place_of" "Inn.place_of" tf x e7)(B:DQ q e7 ["self","name"] [])(A:Ma q mg "NoName" CN):yO P w q mg base i "place_of" 1 (uh i CB cs CN):=by show#[x,e7,_,f.c,z,B,Ln F zg8 () (λv Q G h=>?_) λy O d s H E u v Q G r T hr h L=>?_];have Wi s n k c:=h;have Wl p m g rfl _:=c;rfl;have Wi s n k b:=h;have#[p,m,g,e,l,t,lx,o]:=b;cases e;have Wn M C N R S:=l.get;have K:=l.C;subst K;show yr<|mw hr.one<|zc 1 Y<|zV 0 Y f.c f.n2 C<|M8 (jv g) (nF k) ?_;rw[eU,Hd t];show yv Y<|uy (j:=2) L Y A () Y (Gk.cons (.inr #[Y,λa e=>by cases e;trivial])<|Gk.nil Y)<|aB ()<|zc 1 Y #[g,Y,lx,λ_=>o]
def rR{a:OO}(h:a[l]?=J T):atI (a.map (yE i g9)) (l:Int)=J (yE i g9 T):=uj<|by rw[GD,h];rfl
def S1 :zq ["self","before"] ["self"] (zb pA):=.o
def fM(d:IK q i)(w:Ge q i "undo" R)(F:Gi q "undo" "Inn.undo" pA R e7)(y:DQ q e7 ["self"] []):yf E s q C v i "undo" 1 (SS i x g9):=by
 show#[R,e7,_,d.c,w,y,IW F S1 (λr Q h=>?_) λt O g b H N r Q hr h=>?_];have Wi b n u e:=h;have Wl p l k rfl _:=e;rfl;have Wi b n u f:=h;have Wr p l k rfl a A:=f;have B:=a.C;subst B;have c:=a.nm;have j:zL q b.C b.nm:=by rw[c];show d.n6
 have hf:yn b.kvs b.nm=D:=by rw[c,a.kv];rfl
 have m:b.past=l.map (OP x g9)++[OP x g9 k]:=by rw[a.pa,Ia];rfl
 have z:b.past.isEmpty=Za:=by rw[m];simp
 show yr<|kH 0 hr.units Y d.c j a.pl hf ?_ c;rw[z];show yc Y<|zu<|zP4 0 1 S1.nd<|z94 0 Y d.c j a.pl hf m (λG=>?_) c;have Wn K T o S U:=a.get;show vo 0 Y d.c d.n3 o (by change b.kvs.length<900;rw[a.kv];change 5<900;decide)<|zN hr.one (λ_ _=>Y)<|zc 1 Y<|zw<|GR Y Y (Y) λM=>?_;show vo 0 Y d.c d.n4 (by change yn (wU _ _ b.kvs) _=_;rw[a.kv];rfl) (by change(wU _ _ b.kvs).length<900;rw[a.kv];change 5<900;decide)<|zN hr.one (λ_ _=>Y)<|zc 1 Y<|zw<|GR Y Y (Y) λL=>?_;show vo 0 Y d.c d.n5 (by change yn (wU _ _<|wU _ _ b.kvs) _=_;rw[a.kv];rfl) (by change(wU _ _<|wU _ _ b.kvs).length<900;rw[a.kv];change 5<900;decide)<|zN hr.one (λ_ _=>Y)<|zc 1 Y<|zw<|GR Y Y (Y) λP=>?_;show zu #[_,Y,A _ #[Y,c,a.pl,?_,Y] Y Y];change wU _ _ (wU _ _<|wU _ _ b.kvs)=_;rw[a.kv];rfl
def zO4 :zq ((["self","before"]:TR)++[("":Zv)]) ["self"] (zb pA):=.o
def jN {CD:Ch}(f:IK q i)(m:Ge q i "undo" R)(F:Gi q "undo" "Inn.undo" pA R e7)(n:DQ q e7 ["self"] [])(G:Ma q C "NoDeed" CD):yO E s q C v i "undo" 1 (cX i x g9 CD):=by show#[R,e7,_,f.c,m,n,Ln F zO4 () (λy Q w h=>?_) λz L d l H N u y Q w r M hr h B=>?_];have Wg l o g:=h;have Wh K p rfl _:=g;rfl;have Wg l o k:=h;have Wd K p e c t:=k;cases e;have A:=c.C;subst A;have b:=c.nm;show yr (kH 0 hr.units Y f.c (by rw[b];show f.n6) c.pl (by rw[b,c.kv];rfl) ?_ b);rw[c.pa];show yv Y<|uy (j:=2) B Y G () Y (Gk.cons (.inr #[Y,λa e=>by cases e;trivial])<|Gk.nil Y)<|zM t
def ze2 :zq ["self","name"] ["self","name"] (zb sE):=.o
def oF(m:IK q i)(K:Ge q i "rules_of" R)(F:Gi q "rules_of" "Inn.rules_of" sE R e7)(M:DQ q e7 ["self","name"] [])(y:yf E s q C v i "place_of" 1 (tR i x g9))(X:xm E s q C v x "rules" 3 (ui x g9)):yf E s q C v i "rules_of" 4 (nv i x g9):=by show#[R,e7,_,m.c,K,M,IW F ze2 (λA Q h=>?_) λB T f e H S A Q hr h=>?_];have Wg e t k:=h;have Wi u p r o:=k;have Wl w j b rfl _:=o;rfl;have Wg e t c:=h;have Wg u p l:=c;have#[r,w,j,b,rfl,a,g,d]:=l;have Wq n L G N:=d;have Wn P V z U W:=a.get;have O:=a.C;subst O;show xG 0 Y ?_;rfl';show zV 0 Y m.c m.n3 z ?_;show wu 0 Y y (hr.mono<|by decide) (by rw[a.kv];rfl) (by rw[a.nm];decide)<|zd<|zc 1 Y<|zm #[e,t,u,#[2,p,r,w,j,Y,a,g,#[_,Y,GR Y Y (rR n) ?_]]];show#[_,Y,Y,#[b,Y,L,G,N]]
def S2 :zq ["self","name","rules","place"] ["self","name","rules"] (zb jV):=.o
theorem ze7(w:IK q i)(T:Ge q i "lay" R)(F:Gi q "lay" "Inn.lay" jV R e7)(V:DQ q e7 ["self","name","rules"] [])(L:yf E s q C v i "place_of" 1 (tR i x g9))(M:yf E s q C v i "put" 2 (dY i x g9))(CK:vS E s q C v "Book" 9 [] (vX x g9))(CL:DY E s q C v "laid" 11 (R9 x g9)):yf E s q C v i "lay" 12 (SV i x g9):=by show#[R,e7,_,w.c,T,V,IW F S2 (λP Q h=>?_) λS A' t m H a0 P Q hr h=>?_];have Wi m o r f:=h;have Wi p n K d:=f;have Wl j b l rfl _:=d;rfl;have Wg m o c:=h;have Wi r p n e:=c;have Wo K j b l rfl a u k U g:=e;have Wn A X O W Z:=g;have Wn g1 g2 N g4 g5:=a.get;have hC:=a.C;subst hC;show zU 3 S2.nd (wu 0 Y L (hr.mono<|by decide) (by rw[a.kv];rfl) (by rw[a.nm];decide)<|zd<|zc 1 Y<|zm #[m,o,r,#[2,p,n,K,j,Y,a,u,#[_,Y,?_]]]);show wZ 0 (uo 0 Y M (hr.mono<|by decide) (by rw[a.kv];rfl) (by rw[a.nm];decide) ?_);rfl';show zV 0 Y w.c w.n3 N ?_;rfl';show GR Y Y (rR k) ?_;rfl';show#[l,.inl Y,A.rules,by lia,?_];rfl';show#[4,b,l,Y,U,A,X,?_];rfl';show#[m,o,#[r,p,n,#[5,b++l,j,Y,a,(Gm.mp k).1,O,W,λG y z B=>#[1,_,G,Y,z,B,zu #[_,Y,Z G y z B]]]]]
def S3 :zq ((["self","name","rules","place"]:TR)++[("":Zv)]) ["self","name","rules"] (zb jV):=.o
def iu(B:IK q i)(Z:Ge q i "lay" R)(F:Gi q "lay" "Inn.lay" jV R e7)(hb:DQ q e7 ["self","name","rules"] [])(O:yf E s q C v i "place_of" 1 (tR i x g9))(PX:yO E s q C v i "place_of" 1 (uh i x g9 oa))(P:yf E s q C v i "put" 2 (dY i x g9))(CK:vS E s q C v "Book" 9 [] (vX x g9))(U:dz E s q C v "Book" 9 (lB Aw Bo))(t:gN E s q C v "laid" 11 (dI x g9 Bo)):yO E s q C v i "lay" 12 (SY i x g9 oa Aw Bo):=by
 show#[R,e7,_,B.c,Z,hb,Ln F S3 () (λV Q a0 h=>?_) λW A' z M H a3 u V Q a0 r xe hr h L=>?_];have Wg M n l:=h;have Wg w p k:=l;have Wl m K d rfl _:=k;rfl;have Wg M n g:=h;have Wg w p f:=g;have Wr m K y e c h:=f;cases e;have Wn g1 g2 S g4 g5:=c.get;have hC:=c.C;subst hC;have nd:=S3.nd;rcases h with⟨T,lx,o⟩|⟨j,b,at',G,rb,X,A⟩;show zU 3 nd<|nA 0 4 Y L Y (Gk.cons (.inr #[Y,λa e=>by cases e;trivial])<|Gk.nil Y) PX (hr.mono<|()) (by rw[c.kv];rfl) (by rw[c.nm];decide)<|zd<|zc 1 Y<|zm #[_,n,#[7,w,p,m,K,Y,c,T,lx,o]]
 show zU 3 nd (wu 0 Y O (hr.mono<|()) (by rw[c.kv];rfl) (by rw[c.nm];decide)<|zd<|zc 1 Y<|zm #[_,n,w,#[2,p,m,K,j,Y,c,at',#[_,Y,?_]]]);show wZ 0 (uo 0 Y P (hr.mono<|()) (by rw[c.kv];rfl) (by rw[c.nm];decide)<|zd<|zc 3 Y<|zd ?_);show zH7 (j:=4) L Y (Gk.cons (.inr #[Y,λa e=>by cases e;trivial])<|Gk.nil Y) t (hr.mono<|()) ()<|zd<|zN hr.one (λ_ _=>Y)<|zV 0 Y B.c B.n3 S<|zc 3 Y<|GR Y Y (rR G)<|zd ?_;rcases A with A|⟨rd,N,h2,o⟩;show jx (j:=4) L Y (Gk.cons (.inr #[Y,λa e=>by cases e;trivial])<|Gk.nil Y) U (hr.mono<|()) ()<|zd<|zc 2 Y<|zm #[y,Y,A]
 rfl';show#[y,.inl Y,rd.rules,N,?_];rfl';show#[b,y,Y,rb,#[rd,X,N,h2,o]]
def S4 :zq ["self","name","place"] ["self","name"] (zb qY):=.o
theorem iD(u:IK q i)(V:Ge q i "tidy" R)(F:Gi q "tidy" "Inn.tidy" qY R e7)(X:DQ q e7 ["self","name"] [])(L:yf E s q C v i "place_of" 1 (tR i x g9))(M:yf E s q C v i "put" 2 (dY i x g9))(CT:DY E s q C v "tidied" 11 (SR x g9)):yf E s q C v i "tidy" 12 (cK i x g9):=by show#[R,e7,_,u.c,V,X,IW F S4 (λS Q h=>?_) λT A' r l H a3 S Q hr h=>?_];have Wi y l n f:=h;have Wi o p m c:=f;have Wl G j b rfl _:=c;rfl;have Wg y l e:=h;have Wi n o p g:=e;have Wo m G j b rfl a t k W d:=g;have Wq U P Z a0:=d;have Wn g1 g2 O g4 g5:=a.get;have hC:=a.C;subst hC;show zU 2 S4.nd (wu 0 Y L (hr.mono<|by decide) (by rw[a.kv];rfl) (by rw[a.nm];decide)<|zd<|zc 1 Y<|zm #[l,n,o,#[2,p,m,G,j,Y,a,t,#[_,Y,?_]]]);show wZ 0 (uo 0 Y M (hr.mono<|by decide) (by rw[a.kv];rfl) (by rw[a.nm];decide) ?_);rfl';show zV 0 Y u.c u.n3 O ?_;rfl';show GR Y Y (rR k) ?_;rfl';show#[1,y,b,Y,W,U,λK N le=>?_];rfl';show#[l,n,#[o,p,m,#[5,K,j,Y,a,(Gm.mp k).1,P,Z,λB w z A=>#[1,_,B,Y,z,A,zu #[_,Y,a0 K B N () w z A]]]]]
def cn :zq ((["self","name","place"]:TR)++[("":Zv)]) ["self","name"] (zb qY):=.o
def jW(z:IK q i)(n:Ge q i "tidy" R)(F:Gi q "tidy" "Inn.tidy" qY R e7)(o:DQ q e7 ["self","name"] [])(t:yO E s q C v i "place_of" 1 (uh i x g9 oa)):yO E s q C v i "tidy" 2 (uh i x g9 oa):=by show#[R,e7,_,z.c,n,o,Ln F cn () (λB Q A h=>?_) λG M f g H O u B Q A r N hr h L=>?_];have Wi g k m c:=h;have Wl p j l rfl _:=c;rfl;have Wi g k m b:=h;have#[p,j,l,e,d,y,lx,w]:=b;cases e;have K:=d.C;subst K;show zU 2 cn.nd<|nA 0 3 Y L Y (Gk.cons (.inr #[Y,λa e=>by cases e;trivial])<|Gk.nil Y) t hr (by rw[d.kv];rfl) (by rw[d.nm];decide)<|zd<|zc 1 Y<|zm #[u,k,#[7,m,p,j,l,Y,d,y,lx,w]]
def S5 :zq ["self","number","left"] ["self","number"] (zb pK):=.o
def cP :zq ((["self","number","left"]:TR)++[("":Zv)]) ["self","number"] (zb pK):=.o
theorem iw(b:IK q i)(G:Ge q i "give_back" R)(F:Gi q "give_back" "Inn.give_back" pK R e7)(K:DQ q e7 ["self","number"] [])(nb:GY C)(CR:yf E s q C v i "remember" 1 (dE i x g9)):yf E s q C v i "give_back" 2 (SU i x g9):=by
 show#[R,e7,_,b.c,G,K,IW F S5 (λA Q h=>?_) λB V l j H U A Q hr h=>?_];have Wi j o t c:=h;have Wl p m n rfl _:=c;rfl;have Wg j o d:=h;have Wo t p m n rfl f tl S N O:=d;have Wn y L z g M:=f.get;have P:=f.C;subst P;have nd:=S5.nd;show qA 2 ["entry","number"] [D,J 1] (.one 0) (yo<|zV 0 Y b.c b.n4 g #[_,Y,by rw[DZ];lia,?_]);show tY (λe:En=>!decide (e.n=n)) Mf (λe _=>#[_,Y,λ_ _ _ _ _ k=>pN ?_,λ_ _ _ _ _ _ k=>zc 0 Y k]) ?_
 . rfl';show k
 rw[Kc];show yr (wC 2 Y<|xN hr.units<|vZ () nb.len<|zc 2 Y #[_,Y,vZ () nb.len<|zV 0 Y b.c b.n4 g #[_,Y,rN ?_]]);show yc (Hd<|by rw[DZ,DZ];lia)<|zu ?_;show uP 2 Y ?_;show wZ 0 (tM 0 Y CR (hr.mono<|by decide) (by rw[f.kv];rfl) (by rw[f.nm];decide) #[j,o,#[3,t,p,m,Y,f,N,λw a r u=>#[1,_,w,Y,r,u,?_]]]);have Wn y L z g M:=a.get;show vo 0 Y (by rw[a.C];show b.c) (by rw[a.C];show b.n4) g (by rw[a.kv];change 5<900;decide)<|zc 2 Y λT=>zu #[_,Y,O _ #[a.C,a.nm,a.pl,?_,a.pa] r u];change wU "taken" _ w.kvs=_;rw[a.kv];rfl
theorem jJ {CK:Ch}(d:IK q i)(K:Ge q i "give_back" R)(F:Gi q "give_back" "Inn.give_back" pK R e7)(L:DQ q e7 ["self","number"] [])(nb:GY C)(g:Ma q C "NoTaken" CK):yO E s q C v i "give_back" 2 (dW i x g9 CK):=by
 show#[R,e7,_,d.c,K,L,Ln F cP () (λA Q M h=>?_) λB V f m H U u A Q M r Z hr h P=>?_];have Wi m y G b:=h;have Wl p w n rfl _:=b;rfl;have Wg m y c:=h;have Wo G p w n e l tl t N z:=c;cases e;have Wn S W T o X:=l.get;have O:=l.C;subst O;have nd:=cP.nd;show qA 2 ["entry","number"] [D,J 1] (.one 0) (yo<|zV 0 Y d.c d.n4 o #[_,Y,by rw[DZ];lia,?_]);show tY (λe:En=>!decide (e.n=n)) Mf (λe _=>#[_,Y,λ_ _ _ _ _ k=>pN ?_,λ_ _ _ _ _ _ k=>zc 0 Y k]) ?_
 . rfl';show k
 rw[Kc];show yr (wC 2 Y<|xN hr.units<|vZ () nb.len<|zc 2 Y #[_,Y,vZ () nb.len<|zV 0 Y d.c d.n4 o #[_,Y,rN ?_]]);show yv (Hw<|by rw[DZ,DZ,t])<|uy (j:=3) P Y g () Y (Gk.cons (.inr #[Y,λa e=>by cases e;trivial])<|Gk.nil Y)<|zk1 ()<|zc 1 Y #[n,Y,N,λ_=>z]
def JT (p:Int×Int):A2×A2:=(.int p.1,.int p.2)
def kZ (W:Tz)(d:Int):Option (Int×Int):=W.find? λp=>decide<|p.1=d
def bump (W:Tz)(d:Int):Tz:=match kZ W d with
 |some v=>W.map λp=>if p.1=d then(p.1,v.2+1)else p
 |none=>W++[(d,1)]
def gR (W:Tz)(e:En):Tz:=(zJ e.c (e.g-e.c).toNat).foldl bump W
def kT (a:Int)(b:List En):TN:=((b.foldl gR []).filter λp=>decide<|p.2=a).map (·.1)
theorem mI (d:Int):∀W:Tz,wW (W.map JT) (.inl d)=(kZ W d).map λp=>.int p.2
 |[]=>rfl
 |w::W=>by
  rw[GW];unfold JT;rw[wW];unfold kZ;rw[Jh];change(if decide (w.1=d)=I then _ else _)=_;cases decide (w.1=d)with|true=>rfl|false=>show mI d W
variable {tA:Tz}
def z06(h:(((wW (tA.map JT) (.inl L)).getD (.int 0))=.int gi)):IG (tA.map JT) (.inl L) (.int (gi+1))=(bump tA L).map JT:=by
 unfold IG bump;rw[mI]at h ⊢;cases e:kZ tA L with|none=>rw[e]at h;cases h;rw[DF,Us (),Ia];rfl|some v=>rw[e]at h;have h:=h;cases h;rw[Option.map_some,Ur (show(J<|PyData.int v.2).isSome=I from Y)];rw[Ij,Ij];show Ny λp _=>?_;change(if decide (p.1=L)=I then(PyData.int p.1,PyData.int (v.2+1))else JT p)=JT (if p.1=L then(p.1,v.2+1)else p);by_cases z:p.1=L;rw[Ur (Hw z),Ur z];rfl;rw[Us (by rw[Hd z];decide),Us z]
def KO (y:Int)(W:Tz):Prop:=(W.map (·.1)).Nodup/\∀d∈W.map (·.1),y<=d/\d<y+17
def KO.len {y:Int}{W:Tz}(h:KO y W):W.length<=17:=by have:=List.Nodup.length_le_of_subset h.1 (λd a=>xF.mpr (h.2 d a):∀d∈W.map (·.1),d∈zJ y 17);rwa [DZ,zB]at this
theorem KO.bump(h:KO L tA)(j:L<=gi)(k:gi<L+17):KO L (bump tA gi):=by
 unfold K79.bump;cases e:kZ tA gi with
 |some v=>
  have:(tA.map λp=>if p.1=gi then(p.1,v.2+1)else p).map (·.1)=tA.map (·.1):=by rw[Ij];show Ny λp _=>?_;change(if p.1=gi then(p.1,v.2+1)else p).1=p.1;split<;>rfl
  unfold KO;simp only[this];show h
 |none=>
  have i:gi∉tA.map (·.1):=λz=>by have Wa p d rfl:=Ik.mp z;have:=Mv.mp e p d;simp at this
  unfold KO;simp only[Ia,GW,Ld];show#[List.nodup_append.mpr #[h.1,(),λa g b f=>?_],λx c=>?_];rw[GV.mp f];show λz=>i<|z▸g;rcases H9.mp c with c|c;show h.2 x c
  rw[GV.mp c];show#[j,k]
theorem KO.days {y:Int}:∀(a:TN) {W:Tz},KO y W->(∀d∈a,y<=d/\d<y+17)->KO y (a.foldl K79.bump W)
 |[],_,h,_=>h
 |d::a,_,h,k=>KO.days a (h.bump (k d GN).1 (k d GN).2) λx b=>k x<|GH _ b
theorem Ja :∀{W:Tz}{p:Int×Int},(W.map (·.1)).Nodup->p∈W->kZ W p.1=J p
 |v::W,p,nd,a=>by
  rw[GW]at nd;have Wc c b:=K7.mp nd;unfold kZ;rw[Jh];rcases D7.mp a with rfl|a;rw[Hw Y]
  rw[Hd λz:v.1=p.1=>c<|z▸List.mem_map_of_mem a];show Ja b a
def iI (y:Int)(e:En):Prop:=y<=e.c/\e.c<e.g/\e.g<=y+17/\e.g<=1000000/\e.ps.length<=14
theorem iI.nights{e:En}(h:iI L e):∀d∈zJ e.c (e.g-e.c).toNat,L<=d/\d<L+17:=λd a=>by have:=xF.mp a;have Wq f b c _:=h;lia
theorem KO.ents {y:Int}:∀(a:List En) {W:Tz},KO y W->(∀e∈a,iI y e)->KO y (a.foldl gR W)
 |[],_,h,_=>h
 |e::a,_,h,k=>KO.ents a (h.days _ (k e GN).nights) λx b=>k x<|GH _ b
def JU (e:En):A2:=.tuple [.int e.n,.tuple [.int e.c,.int e.g],.int e.k,.list (e.ps.map wj)]
def cL (f a:Ch)(g:Cs):Ph:=λd Q=>∃s c h p b,d=[.inn s]/\zY f a g s c h p b/\p.tk.length<=900/\(∀e∈p.tk,e.ps.length<=14)/\Q (.res (.list<|p.tk.map JU) s)
def gW (g c:Ch)(h:Cs):Ph:=λf Q=>∃y s b i p d,f=[.inn s]/\zY g c h s b i p d/\0<=y/\p.tk.length<=900/\(∀e∈p.tk,iI y e)/\∀a:TN,a.Perm (kT b p.tk)->a.Pairwise (·<=·)->Q (.res (.list<|a.map .int) s)
def zL4 :zq ["self"] ["self"] (zb mF):=.o
theorem jw(d:IK q i)(j:Ge q i "standing" R)(F:Gi q "standing" "Inn.standing" mF R e7)(l:DQ q e7 ["self"] [])(nb:GY C):yf E s q C v i "standing" 1 (cL i x g9):=by show#[R,e7,_,d.c,j,l,IW F zL4 (λt Q h=>?_) λu A c g H N t Q hr h=>?_];have Wg g o a:=h;have Wl y p m rfl _:=a;rfl;have Wg g o b:=h;have#[y,p,m,rfl,f,tl,G,r]:=b;have Wn z K L n M:=f.get;have w:=f.C;subst w;show xG 0 Y (FA.d<|sC ["number","stay","coins","cut"] [D,D,D,D] (.many [0,1,2,3]) (yo<|zV 0 Y d.c d.n4 n #[_,Y,by rw[DZ];lia,?_]));show xp JU (λe B=>#[_,Y,λ_ _ _ _ _ k=>yB<|zd<|zc 0 Y<|zd<|zc 1 Y<|zd<|zc 2 Y<|zd<|FA.d<|zP7 () nb.list<|zc 3 Y #[_,Y,zm #[_,Y,GI Y,k]]]) r
def S6 :zq ["self","stays_on","entry","night"] ["self"] (zb gq):=.o
theorem iT{P:C5}{w:C6}{mg:Tt}{base:C7}{cs:Cs}{CB:Ch}(l:IK q i)(Z:Ge q i "full" x)(F:Gi q "full" "Inn.full" gq x e7)(hb:DQ q e7 ["self"] [])(nb:GY mg)(CN:DY P w q mg base "nights_of" 1 si):yf P w q mg base i "full" 2 (gW i CB cs):=by
 show#[x,e7,_,l.c,Z,hb,IW F S6 (λT Q h=>?_) λU A' t s H E T Q hr h=>?_];have Wi y s n u:=h;have Wl X p S rfl _:=u;rfl;have Wg y s B:=h;have Wo n X p S rfl L y0 tl o C:=B;have Wn N g2 g3 g4 g5:=L.get;have hC:=L.C;subst hC;have nd:=S6.nd;show cz 1 nd<|zi4<|lC (pat:=.one 2) LH Y (yq nd Y<|Zc Y)<|yo<|zV 0 Y l.c l.n4 g4 #[_,Y,?_];show zW (λm O=>∃r b:T9,O=[J (.inn s),J (.dic<|((p.tk.take m).foldl gR []).map JT),r,b]) #[D,D,Y] ?_ ?_;intro m d O a u8;have Wg r b rfl:=u8;rw[GD,Hj]at a;have Wa e M rfl:=a;have G:=o e<|HF M;have Wn e1 e2 e3 e4 e5:=id G;have f:KO y ((p.tk.take m).foldl gR []):=KO.ents _ #[by simp,λd a=>by cases a] λg c=>o g<|J8 c;show#[_,Y,?_];generalize hW:(p.tk.take m).foldl gR []=W at f;show lC (pat:=.one 3) LH Y (yq nd Y<|Zc Y) (yo<|FA.d<|wK CN hr ()<|zd<|zN hr.one (λ_ _=>Y)<|zc 2 Y<|zw<|GR Y Y Y<|zm #[4,e.c,e.g,Y,by lia,e2,by lia,#[by lia,_,Y,#[_,Y,zW (λj O=>∃b:T9,O=[J (.inn s),J (.dic<|(((zJ e.c (e.g-e.c).toNat).take j).foldl bump W).map JT),J (.dat<|Mf e),b]) #[_,Y] ?_ ?_]]]);intro j d O a u8;have Wb b rfl:=u8;rw[GD,Hj]at a;have Wa z hz rfl:=a;have K:=f.days ((zJ e.c (e.g-e.c).toNat).take j) λg c=>G.nights g<|J8 c;have lj:=K.len;show#[_,Y,?_];rw[JJ,hz,Mx];generalize ((zJ e.c (e.g-e.c).toNat).take j).foldl bump W=V at K lj;show dJ 1 hr.one Y<|zl5 1 Y<|uO<|zC9 hr.one<|zc 1 Y #[_,Y,zc 3 Y<|zw #[.inl z,Y,?_]];have R:∃g,(wW (V.map JT)<|.inl z).getD (.int 0)=.int g:=by
  rw[mI];cases kZ V z with|none=>show#[_,Y]|some v=>show#[_,Y]
 have Wb g c:=R;rw[c];show zw #[1,_,_,Y,Y,Y,zc 3 Y #[.inl z,Y,by rw[DZ];lia,zu #[J<|.dat<|.int z,?_]]];rw[z06 c];rfl;intro O u8;have Wb b rfl:=u8;rw[DZ,Jq,<-hW];show zu #[J<|.dat<|Mf e,b,?_];rw[JJ,M,Mx];rfl;intro O u8;have Wg r b rfl:=u8;rw[DZ,Jq];have f:KO y (p.tk.foldl gR []):=KO.ents _ #[by simp,λd a=>by cases a] o;have kl:=f.len;unfold kT at C;generalize p.tk.foldl gR []=W at f kl C;show Rm 1 Y (xG 0 Y<|FA.d<|qU () nb.sorted<|FA.d<|z90 ["night","stays_on","self"] [D,J 1,J 0] (.one 0) 0 2 Y (cE<|zc 1 Y #[_,Y,by rw[DZ,DZ];lia,?_]));rw[Ij];show tY (λp:Int×Int=>decide<|p.2=n) (λp=>.int p.1) (λp hp=>#[_,Y,λ_ _ _ _ _ k=>pN ?_,λ_ _ _ _ _ _ k=>zc 0 Y k]) ?_;show xN hr.units (zN hr.one (λ_ _=>Y)<|zc 1 Y<|zc 0 Y<|ue Y (by rw[mI,Ja f.1 hp];rfl)<|zV 2 Y l.c l.n1 N<|rN ?_);show k;show#[(W.filter λp=>decide<|p.2=n).map (·.1),by rw[Kc,Ij];rfl,?_,C];rw[DZ];show Ha (Nt _ _)<|by lia
abbrev OQ :Da:=DW (Fn 14) 0
def S7 (b:Ch)(a:TN):A2:=xD b [(.str "days",.list (a.map .int))]
def eO (i a:Ch)(k:Cs):Ph:=λh Q=>∃y s f j p b c g,h=[.inn s,.dat (.tuple [.int c,.int g])]/\zY i a k s f j p b/\0<=y/\p.tk.length<=900/\(∀e∈p.tk,iI y e)/\uk p.bs/\p.bs.length<=8/\vK c g/\KL λd=>Q<|.res d s
def S8 (f b:Ch)(h:Cs)(j:Ch):TV->(Ug)->(Ue)->Prop:=λl Q q=>∃y s d i p a c g,l=[.inn s,.dat (.tuple [.int c,.int g])]/\zY f b h s d i p a/\0<=y/\p.tk.length<=900/\(∀e∈p.tk,iI y e)/\uk p.bs/\p.bs.length<=8/\vK c g/\a.length<900/\(∀m:TN,q (S7 j m))/\∀(k:Int) (cut:List Gr) s',cut.length<=14->zY f b h s' d i #[p.bs,p.tk++[#[p.fo,c,g,k,cut]],p.fo+1] (a++[p])->s'.a=s.a->s'.lp=s.lp->Q (.res (.int p.fo) s')
abbrev Pr :=Zv×TL
def prD (p:Pr):A2:=.tuple [.str p.1,.list p.2]
def S9 (c a:Ch)(d:Cs):Tj:=λb Q=>∃(u:zD) (rc:Int) (ps:List Pr),b=[.inn u,.dat (.int rc),.dat (.list<|ps.map prD)]/\(∀p∈ps,zK p.2/\p.2.length<=24)/\ps.length<=4/\∀s,zY c a d s rc (ps.map (·.1)) #[ps.map (·.2),[],0] []->Q (.res .none s)
theorem uK {n:Ch->C1->Hp->TU->Cx}{b:GQ}{c:Dc}{d:Ev}{T:Type}{g f:T->A2}:∀(e:List T) (acc:TL) {Q:TL->Prop},(∀t∈e,∃a,b.bind (g t) d=J a/\∀C k i l (m:Ue),m (f t)->HY (n C k i l) a c m)->Q (acc++e.map f)->sv n b c d (e.map g) acc Q
 |[],acc,Q,_,q=>by rw[Ld,G9]at q;show q
 |t::e,acc,Q,h,q=>by have Wa a r o:=h t ();show#[a,r,λC k i l=>o C k i l _<|uK e _ (λp j=>h p<|GH _ j) ?_];rw[Lz];show q
def gO (a:TN):wx (a.map .int)=I:=pY (λ_=>Y) a
def yj3 :zq ["self","rooms","books"] ["self","rooms","books"] (zb fV):=.o
theorem zi0(a:IK q i)(G:C "Inn"=J (.ref i))(B:Mk q i R)(F:Gi q "__init__" "Inn.__init__" fV R e7)(z:DQ q e7 ["self","rooms","books"] [])(A:vS E s q C v "Book" 9 [] (vX x g9)):eh E s q C v "Inn" 11 i (S9 i x g9):=by
 show#[R,e7,_,G,B,z,yq1 F yj3 Y () λy W g Z H V q1 T l Q u r hr h c hk M j f=>?_];have Wm u' P k e m hl L:=h;cases e;subst M;show mT 0 2 j Y Y f Y c a.c a.n1 (by rw[hk];rfl) (by rw[hk];change 0<900;decide)<|mB<|zc 1 Y #[Y,λS=>?_];show mT 0 2 j Y Y f Y c a.c a.n2 (by change yn (u.kvs++_) _=D;rw[hk];rfl) (by change(u.kvs++_).length<900;rw[hk];change 1<900;decide) (RG ["pair"] [D] (.one 0) (yo<|zc 2 Y #[_,Y,by rw[DZ];lia,?_]));show uK k [] (λp b=>#[_,Y,λn t o w K d=>mB<|zN hr.one (λ_ _=>Y)<|zc 0 Y<|zw<|GR Y Y (Y) #[Y,d]]) ?_;intro O;show mT 0 2 j Y Y f Y c a.c a.n3 (by change yn ((u.kvs++_)++_) _=D;rw[hk];rfl) (by change((u.kvs++_)++_).length<900;rw[hk];change 2<900;decide) (RG ["pair"] [D] (.one 0) (yo<|zc 2 Y #[_,Y,by rw[DZ];lia,?_]));show uK k [] (λp b=>#[_,Y,λn t o w K d=>dh A hr ()<|zd<|zN hr.one (λ_ _=>Y)<|zc 0 Y<|zw<|GR Y Y (Y)<|zm #[p.2,.inl Y,(m p b).1.rules,(m p b).2,d]]) ?_;intro X;show D0.at (dD 0 Y c a.c a.n4 (by change yn (((u.kvs++_)++_)++_) _=D;rw[hk];rfl) (by change(((u.kvs++_)++_)++_).length<900;rw[hk];change 3<900;decide)<|FA.d<|yC<|zm #[[],Y,(),λN=>?_]);show dD 0 Y c a.c a.n5 (by change yn ((((u.kvs++_)++_)++_)++_) _=D;rw[hk];rfl) (by change((((u.kvs++_)++_)++_)++_).length<900;rw[hk];change 4<900;decide)<|zw λU=>?_;show zk9 0 Y c a.c a.n6 (by change yn (((((u.kvs++_)++_)++_)++_)++_) _=D;rw[hk];rfl) (by change(((((u.kvs++_)++_)++_)++_)++_).length<900;rw[hk];change 5<900;decide) λp=>zu #[_,?e,Y,L _ #[?_,?_,?_,?_,?_]]
 case e=>rfl
 rfl;rfl;rfl
 rotate_left
 rfl;change(((((u.kvs++_)++_)++_)++_)++_)=_;rw[hk];unfold Mh mZ Mg;rw[Ij,Ij];rfl
def ym3 :zq ["self","stay"] ["self","stay"] (zb fX):=.o
def ib(k:IK q i)(N:Ge q i "best" oa)(F:Gi q "best" "Inn.best" fX oa e7)(O:DQ q e7 ["self","stay"] [])(z:yf E s q C v i "full" 2 (gW i x g9))(u:DY E s q C v "best_without" 11 (dA R x g9)):yf E s q C v i "best" 12 (eO i x g9):=by show#[oa,e7,_,k.c,N,O,IW F ym3 (λK Q h=>?_) λL W f d H V K Q hr h=>?_];have Wg y d b:=h;have Wi o r p e:=b;have Wl n c g rfl _:=e;rfl;have Wg y d l:=h;have Wg o r m:=l;have Wo p n c g rfl a B tl A j:=m;have Wq G M P S:=j;have Wn U Z w X g5:=a.get;have T:=a.C;subst T;show xG 0 Y<|wH u (hr.mono<|by decide) ()<|zd<|zV 0 Y k.c k.n3 w<|zd<|sM 0 Y z (hr.mono<|by decide) (by rw[a.kv];rfl) (by rw[a.nm];decide) #[y,d,#[2,o,r,p,n,Y,a,B,#[tl,A,λt _ _=>#[_,Y,zd<|zc 1 Y<|zm #[7,t,p.bs,c,g,Y,G,M,P,S]]]]]
def yp6 :zq ["self","days"] ["self","days"] (zb OQ):=.o
def zG4(nb:GY C)(F:Gi q "__init__" "Off.__init__" OQ i e7)(c:DQ q e7 ["self","days"] [])(b:C "Off"=J (.ref x))(e:C "StayError"=J (.ref R))(f:Zh q (.ref x)=I)(hf:Zt q (.ref i)=J (.type "function"))(xs:XS q R)(a:XC q x R (J (.ref i)))(d:Zi q (.ref x) "days"=J D):OB E s q C v "Off" 1 x "days":=
 #[b,f,R,i,e7,_,a.ok,hf,c,zc7 F yp6 Y Y Y nb.list e xs a d (λ_=>Y) (Zc Y)<|Zc Y]
def eL :zq ((["self","stay","told","number"]:TR)++[("":Zv)]) ["self","stay"] (zb gr):=.o
theorem jZ(n:IK q i)(hM:Ge q i "take" R)(F:Gi q "take" "Inn.take" gr R e7)(hb:DQ q e7 ["self","stay"] [])(nb:GY C)(X:yf E s q C v i "best" 12 (eO i x g9))(CR:yf E s q C v i "remember" 1 (dE i x g9))(XO:OB E s q C v "Off" 1 oa "days"):yO E s q C v i "take" 13 (S8 i x g9 oa):=by
 show#[R,e7,_,n.c,hM,hb,Ln F eL () (λas Q M h=>?_) λa3 A' G T H a4 u as Q M r xe hr h xo=>?_];have Wg y T N:=h;have Wi t B p w:=N;have Wl o c g rfl _:=w;rfl;have Wg y T L:=h;have Wg t B z:=L;have Wo p o c g e d y0 tl ok l:=z;have Wt bo bl sb W Z M:=l;cases e;have hC:=d.C;subst hC;have nd:=eL.nd;show zU 2 nd (wu 0 Y X (hr.mono<|()) (by rw[d.kv];rfl) (by rw[d.nm];decide)<|zd<|zc 1 Y<|zm #[y,_,#[t,B,#[7,p,o,c,g,Y,d,y0,tl,#[6,ok,bo,bl,sb,λA zl=>#[_,Y,?_],λk K A cl=>#[_,Y,?_]]]]]);show yr<|xN hr.units<|zN hr.one (λ_ _=>Y)<|zc 2 Y<|zw<|GR Y Y Y<|zM<|xi<|yv Y<|bH (j:=4) xo Y XO (hr.mono<|()) () Y (Gk.cons (.inr #[Y,λa e=>by cases e;trivial])<|Gk.nil Y)<|zN hr.one (λ_ _=>Y)<|zc 2 Y<|zw<|GR Y Y Y #[_,Y,gO A,Z A];show yr<|xN hr.units<|zN hr.one (λ_ _=>Y)<|zc 2 Y<|zw<|GR Y Y Y<|zM<|xi<|yc Y<|zu<|wZ 0 (tM 0 Y CR (hr.mono<|()) (by rw[d.kv];rfl) (by rw[d.nm];decide) #[_,t,#[3,B,p,o,Y,d,W,λf b S V=>#[1,_,f,Y,S,V,?_]]]);have Wn g1 g2 g3 U g5:=b.get;have m:GP q f.C:=by rw[b.C];show n.c
 have O:zL q f.C "taken":=by rw[b.C];show n.n4
 have P:zL q f.C "following":=by rw[b.C];show n.n5
 show zU 3 nd<|zV 0 Y m P g5<|vo 0 Y m O U (by rw[b.kv];change 5<900;decide)<|FA.d<|uT<|zV 0 Y m O U<|FA.d<|yC<|zd<|yB<|zd<|zc 3 Y<|zd<|zc 1 Y<|zd<|zN hr.one (λ_ _=>Y)<|zc 2 Y<|zw<|GR Y Y Y<|zd<|zK9 () nb.tuple<|zN hr.one (λ_ _=>Y)<|zc 2 Y<|zw<|GR Y Y Y ?_;show#[_,Y,zm #[_,Y,GI Y,zm #[_,Y,GI Y,#[1,_,_,Y,Y,by rw[DZ];change p.tk.length+1<=1000;lia,λa0=>?_]]]];show vo 0 Y m P (by change yn (wU _ _ f.kvs) _=_;rw[b.kv];rfl) (by change(wU _ _ f.kvs).length<900;rw[b.kv];change 5<900;decide)<|uO<|zc 3 Y<|zw #[_,_,Y,Y,λa0=>?_];show xG 0 Y<|zc 3 Y<|M k K _ cl #[b.C,b.nm,b.pl,?_,b.pa] S V;change wU _ _ (wU _ _ f.kvs)=_;rw[b.kv];unfold Mh Mg;rw[Ia];rfl
abbrev Ta :Da:=Fn 79
abbrev Tb :Da:=Fn 80
def Jo :TR:=["main","late","maina","x"]
inductive gj (y:Int)(ds:TL):Prop
 |ok:RE y ds->ds.length<=25->gj y ds
 |bad {es:TL}{g:Nat}{d:A2}:RE y es->es.length<=25->Km d->g<=es.length->ds=es.take g++d::es.drop g->gj y ds
inductive xk (y:Int):Ue
 |take {c g:Int}:y<=c->c<=y+3->c<g->g<=c+14->g<=1000000->xk y (.tuple [.str "take",.tuple [.int c,.int g]])
 |back {n:Int}:-1000<=n->n<=1000->xk y (.tuple [.str "back",.int n])
 |lay {x:Zv}{ds:TL}{b:Int}:x∈Jo->gj y ds->-1<=b->b<=25->xk y (.tuple [.str "lay",.str x,.list ds,.int b])
 |tidy {x:Zv}:x∈Jo->xk y (.tuple [.str "tidy",.str x])
 |undo:xk y (.tuple [.str "undo"])
def Tc :Ph:=λb Q=>∃y m:Int,b=[.tape,.dat (.int y),.dat (.int m)]/\0<=y/\y<=999990/\0<=m/\m<=3/\∀a,RE y a->a.length<=4->Q (.own a)
def Td :Ph:=λa Q=>∃(y:Int) (ns:TN),a=[.tape,.dat (.int y),.dat .none,.dat (.list<|ns.map .int)]/\0<=y/\y<=999990/\ns.length<64/\(∀n∈ns,-1000<=n/\n<=1000)/\∀d,xk y d->Q (.dat d)
def RE.snoc(h:RE L T)(a:wN dc)(b:OJ L dc):RE L (T++[dc]):=h.app #[λe z=>by rw[GV.mp z];show a,λe z=>by rw[GV.mp z];show b]
theorem zI0 (F:D5 q C "_law_few" Ta ["_law_row","_law_day_here","_law_most"])(nb:GY C)(r:DY E s q C v "_law_take" 1 wc)(CR:DY E s q C v "_law_rule" 4 mH):DY E s q C v "_law_few" 5 Tc:=by
 show yk ["_law_row","_law_day_here","_law_most","_law_rules","_law_k"] F λ_ _ _ _ _ _ _ _ Q nd hr h=>?_;have#[y,m,rfl,k,t,o,p,l]:=h;show wA 3 nd<|yC<|zm #[_,Y,GI Y,ug (λO=>∃a:TL,RE y a/\a.length<=1/\O=[J .tape,J (.dat<|.int y),J (.dat<|.int m),J (.own a),D]) ?_ ?_]
 . rfl';show yA (λ_=>?_) (λ_=>?_)<;>rfl'
   . show#[by simp,?_];rfl';show#[_,RE.nil.snoc (aA () () () ()<|by lia) #[.inl #[by decide,by decide],.inr<|.inr<|.inr<|.inr<|.inr Y],by simp,Y]
   show#[[],RE.nil,by simp,Y]
 intro O u8;have We a b c rfl:=u8;show yD (.one 4) (sL () nb.range ?_);rfl';show#[by lia,by lia,zW (λi O=>∃a e,RE y a/\a.length<=1+i/\O=[J .tape,J (.dat<|.int y),J (.dat<|.int m),J (.own a),e]) #[a,D,b,c,Y] ?_ ?_]
 . intro i d O g u8;have Wd a e b c rfl:=u8;have n:=(Gm.mp g).1;rw[DZ,zB]at n;show#[_,Y,?_];rfl';show#[k,by lia,λd f j=>#[by lia,zu #[_,_,b.snoc f j,by simp;lia,Y]]]
 intro O u8;have Wd a e b c rfl:=u8;rw[DZ,zB]at c;show mQ 3 Y<|l a b<|by lia
theorem zj4 (F:D5 q C "_law_deed" Tb ["_law_row","_law_day_here","_law_rules","_law_taken"])(nb:GY C)(X:DY E s q C v "_law_take" 1 wc)(CR:DY E s q C v "_law_rule" 4 mH)(CS:DY E s q C v "_law_stay" 2 lF):DY E s q C v "_law_deed" 5 Td:=by
 show yk ["_law_row","_law_day_here","_law_rules","_law_taken","_law_way","_law_name","_law_numbers","_law_many","_law_some","_law_bad","_law_k"] F λ_ _ _ _ _ _ _ _ Q nd hr h=>?_;have#[y,B,rfl,V,y1,L,N,m]:=h;rfl';show#[#[by decide,by symm],uF (λd=>∃z:Int,d=.int z/\0<=z/\z<=3) Y () (by change _<2;lia) #[#[_,Y,by lia,by lia],#[_,Y,by lia,by lia],trivial] ?_];intro _ u8;have We z rfl z0 z1:=u8;rfl';show uF (λd=>∃x,d=.str x/\x∈Jo) Y () (by change _<4;lia) #[#[_,Y,by simp[Jo]],#[_,Y,by simp[Jo]],#[_,Y,by simp[Jo]],#[_,Y,by simp[Jo]],trivial] ?_;intro _ u8;have Wa x rfl A:=u8;rfl';show yA (λ_=>?_) λ_=>?_
 . rfl';show#[by lia,by lia,λc g a b d e f=>?_];rfl';show m _<|.take a b d e f
 rfl';show yA (λ_=>?_) λ_=>?_
 . show wA 6 nd (uT<|FA.d<|qU () nb.sorted<|zc 3 Y #[B,Y,L,λl t _=>FA.d<|yC ?_]);rfl';rename_i p v0 v1;show#[by rw[DZ,t.length_eq];simp;lia,?_];have H:∀n∈l++[p,-1],-1000<=n/\n<=1000:=λn h=>by
    rcases H9.mp h with z|z;show N n<|t.mem_iff.mp z
    simp only[D7,Gv,Gw]at z;lia
   rw[show l.map PyData.int++_=(l++[p,-1]).map .int by rw[Ia];rfl];show uP 6 Y ?_;rfl';have K:(l++[p,-1]).length<=66:=by rw[GJ,t.length_eq];simp;lia
   show#[by simp;lia,by rw[DZ];unfold big;lia,λk Z G=>?_];have hk:k.toNat<(l++[p,-1]).length:=by rw[DZ]at G;lia
   have e:k=((k.toNat:Nat):Int):=by lia
   rw[e];show GR Y Y (uj<|by rw[GD,Gh hk];rfl)<|zm #[_,Y,GI Y,m _<|.back ?_ ?_];show(H _<|Jf hk).1;show(H _<|Jf hk).2
 rfl';show yA (λ_=>?_) λ_=>?_
 . rfl';show#[#[by decide,by symm],uF (λd=>∃n:Int,d=.int n/\0<=n/\n<=25) Y () (by change _<2;lia) #[#[_,Y,by lia,by lia],#[_,Y,by lia,by lia],trivial] ?_];intro _ u8;have We n rfl n0 n1:=u8;show qA 8 ["_law_k","_law_row","_law_day_here"] [D,J 0,J 1] (.one 0) (sL () nb.range<|zc 7 Y #[n,Y,by lia,by lia,#[by rw[DZ,zB];lia,?_]]);show ni (λi j=>RE y j/\j.length=i) #[RE.nil,Y] ?_ ?_;intro i d j hd u8;have Wc r rfl:=u8;show#[_,Y,λM R P U=>fw ?_];rw[Ur Y];intro M R P U;show wH CR (hr.mono<|by decide) () (wG 1 Y<|zd<|zc 2 Y<|zm #[y,Y,V,y1,λd a b=>#[r.snoc a b,by simp]]);intro j u8;have Wc r o:=u8;have o:j.length<=25:=by rw[o,DZ,zB];lia
   show zU 9 nd<|QM<|zw #[_,Y,ug (λO=>∃u b w,gj y u/\-1<=b/\b<=25/\O=[J .tape,J (.dat<|.int y),J (.dat .none),J (.dat<|.list<|B.map .int),w,J (.dat<|.str x),D,J (.dat<|.int n),J (.own u),J (.dat<|.int b),D]) ?_ ?_]
   . rfl';show yA (λ_=>?_) λ_=>?_
     . show zU 9 nd (wH X (hr.mono<|by decide) ()<|wG 0 Y<|zd<|zI5 8 Y<|uO<|vZ () nb.len<|zc 8 Y #[_,Y,zw #[1,_,_,Y,Y,Y,zm #[_,Y,by lia,by unfold big;lia,λk Z G=>?_]]]);show ze4 8 Y<|zc 9 Y ?_;rfl';show uF (λd=>Km d) Y () (by change _<3;lia) #[.pri,.non,.fee,trivial] ?_;rintro d W;show#[k,Y,#[by lia,by lia,by lia,zu<|zu #[3,_,k,_,.bad r o W (g:=k.toNat) () ?_,by lia,by lia,Y]]];unfold su;rw[Us (),MB ()]
     show zu<|zu #[3,_,_,_,.ok r o,by decide,by decide,Y]
   intro O u8;have Wm u b w K S T rfl:=u8;show uP 8 Y ?_;rfl';show m _<|.lay A K S T
 rfl';show yA (λ_=>?_) λ_=>?_
 . rfl';show m _<|.tidy A
 rfl';show m _ .undo
abbrev OR :Da:=Fn 81
def tl (w:Zv):A2:=.tuple [.str w,.none]
def OS (v:A2):A2:=.tuple [.str "ok",v]
def G8 :TR:=["main","late"]
structure II (y:Int)(m:Nat)(p:Sn):Prop where
 ln:p.bs.length=2
 bk:∀b∈p.bs,RE y b/\b.length<=24
 tk:∀e∈p.tk,iI y e/\0<=e.n/\e.n<p.fo
 f0:0<=p.fo
 f1:p.fo<=m
 tl:p.tk.length<=m
inductive Jz (y:Int)(p:Sn):A2->A2->Sn->Prop
 |take {c g k:Int}{cut:List Gr}:cut.length<=14->y<=c->c<g->g<=y+17->g<=1000000->Jz y p (.tuple [.str "take",.tuple [.int c,.int g]]) (.int p.fo) #[p.bs,p.tk++[#[p.fo,c,g,k,cut]],p.fo+1]
 |back {n:Int}:Jz y p (.tuple [.str "back",.int n]) .none {p with tk:=p.tk.filter λe=>!decide (e.n=n)}
 |book {d:A2}{j:Nat}{es:TL}:(∀z,d≠.tuple [.str "take",z])->RE y es->es.length<=24->Jz y p d .none {p with bs:=p.bs.set j es}
theorem II.done(h:II L l y9)(k:Jz L y9 dc y4 BY):II L (l+1) BY:=by
 have g:=h.f0;have j:=h.f1;have i:=h.tl;induction k with
 |take a b c e f=>
  show#[h.ln,h.bk,λx d=>?_,by change 0<=y9.fo+1;lia,by change y9.fo+1<=_;lia,by rw[GJ];simp;lia];rcases H9.mp d with z|z;have Wf u y4 w:=h.tk x z;show#[u,y4,by change x.n<y9.fo+1;lia]
  rw[GV.mp z];show#[#[b,c,e,f,a],g,by change y9.fo<y9.fo+1;lia]
 |back=>show#[h.ln,h.bk,λx d=>h.tk x (Mz.mp d).1,g,by change y9.fo<=_;lia,Gg (Nt _ _)<|()]
 |book _ a b=>show#[by rw[Ht];show h.ln,λx d=>(List.mem_or_eq_of_mem_set d).elim (h.bk x) λz=>by rw[z];show#[a,b],h.tk,g,by change y9.fo<=_;lia,Dx i]
theorem Te(h:p∈Jo):(∃j:Nat,j<2/\At G8 p j)\/(p∉G8/\p.length<=10000):=by
 simp only[Jo,D7,Gv,Gw]at h;rcases h with rfl|rfl|rfl|rfl;show .inl #[(0),(),Y,λi a=>by lia]
 show .inl #[(1),(),Y,λi a=>by rw[show i=0 by lia];decide];show .inr #[(),()];show .inr #[(),()]
theorem zO6{q:Ue}(k:II L l y9)(u:p∈Jo)(r:gj L T)(w:∀n:Nat,q (xD i [(.str "number",.int n)]))(o:q (HU x)):(∃(j:Nat) (b:TL),At G8 p j/\y9.bs[j]?=J b/\RE L b/\RE L T/\b.length+T.length<=24)\/(p∉G8/\p.length<=10000)\/∃(j:Nat) (b:TL),At G8 p j/\y9.bs[j]?=J b/\RE L b/\b.length<=24/\SX i x b T q:=by
 rcases Te u with⟨j,s,at'⟩|z;have a:y9.bs[j]?=J (y9.bs[j]'(by rw[k.ln];show s)):=Gh _;have Wc c m:=k.bk _<|HF a;cases r with
 |ok rd ld=>by_cases v:T.length<=24;by_cases h:(y9.bs[j]'(by rw[k.ln];show s)).length+T.length<=24;show .inl #[4,j,_,at',a,c,rd,h];show .inr (.inr #[4,j,_,at',a,c,m,.inr #[rd.ok,v,(),o]]);show .inr<|.inr #[4,j,_,at',a,c,m,.inl #[T.length,(),D4 _,λd f=>(rd.ok d<|J8 f).rule,.inl #[Y,(),o]]]
 |@bad es g d rd ld bd hg e=>
  have r:T.length=es.length+1:=by rw[e];simp;lia
  have t:(es.take g).length=g:=by rw[Jb];lia
  show .inr (.inr #[4,j,_,at',a,c,m,.inl #[g,(),(),λd f=>(rd.ok d ?_).rule,.inr #[d,?_,bd,w g]]]);rw[e,List.take_append_of_le_length ()]at f;show J8<|J8 f;rw[e,HZ (),t,IS];rfl
 show .inr<|.inl z
structure Xs where
 CO:Ch
 CK:Ch
 CN:Ch
 CR:Ch
 CT:Ch
 CD:Ch
inductive Iu (xs:Xs):Nat->Ch->A2->Ue
 |o (zs:TN):Iu xs 0 xs.CO (S7 xs.CO zs) (.tuple [.str "off",.list (zs.map .int)])
 |k:Iu xs 1 xs.CK (HU xs.CK) (tl "no taken")
 |n:Iu xs 2 xs.CN (HU xs.CN) (tl "no name")
 |r (n:Nat):Iu xs 3 xs.CR (xD xs.CR [(.str "number",.int n)]) (.tuple [.str "no rule",.int n])
 |t:Iu xs 4 xs.CT (HU xs.CT) (tl "many")
 |d:Iu xs 5 xs.CD (HU xs.CD) (tl "no deed")
variable {AZ:Xs}
def Iu.is(h:Iu AZ l i dc y4):Kl i dc:=by
 induction h with|o n=>show .inl #[_,Y]|r n=>show .inl #[_,Y]|_=>show .inr Y
structure KX (K:Cl)(mg:Tt)(S C:Ch)(k:Nat):Prop where
 b:XB K C S
 x:∃init,XC K C S init
 o:∃B,mg "Off"=J (.ref B)/\Zg K (.ref C) (.ref B)=J (k == 0)
 t:∃B,mg "NoTaken"=J (.ref B)/\Zg K (.ref C) (.ref B)=J (k == 1)
 n:∃B,mg "NoName"=J (.ref B)/\Zg K (.ref C) (.ref B)=J (k == 2)
 r:∃B,mg "NoRule"=J (.ref B)/\Zg K (.ref C) (.ref B)=J (k == 3)
 m:∃B,mg "TooMany"=J (.ref B)/\Zg K (.ref C) (.ref B)=J (k == 4)
 d:∃B,mg "NoDeed"=J (.ref B)/\Zg K (.ref C) (.ref B)=J (k == 5)
 v:Zg K (.ref C) (.type "ValueError")=J I
structure XH (K:Cl)(mg:Tt)(S:Ch)(xs:Xs):Prop where
 mS:mg "StayError"=J (.ref S)
 mV:mg "ValueError"=D
 o:KX K mg S xs.CO 0
 k:KX K mg S xs.CK 1
 n:KX K mg S xs.CN 2
 r:KX K mg S xs.CR 3
 t:KX K mg S xs.CT 4
 d:KX K mg S xs.CD 5
 nr:Zi K (.ref xs.CR) "number"=J D
 dy:Zi K (.ref xs.CO) "days"=J D
def XH.of {K:Cl}(h:XH K C i AZ)(t:Iu AZ l x dc y4):KX K C i x l:=by
 induction t with|o=>show h.o|k=>show h.k|n=>show h.n|r=>show h.r|t=>show h.t|d=>show h.d
def vJ :A2:=.tuple [.str "undo"]
def gc (g e:Ch)(h:Cs)(xs:Xs):Ph:=λl Q=>∃y m s f p b d,l=[.inn s,.dat d]/\zY g e h s f G8 p b/\0<=y/\II y m p/\m<=800/\b.length<900/\xk y d/\(d≠vJ->(∀k C x t,Iu xs k C x t->((∃z,d=.tuple [.str "take",z])->k=0)->Q (.res t s))/\∀v i a,Jz y p d v i->zY g e h a f G8 i (b++[p])->a.a=s.a->a.lp=s.lp->Q (.res (OS v) a))/\(d=vJ->(b=[]->Q (.res (tl "no deed") s))/\∀j c a,b=c++[j]->zY g e h a f G8 j c->a.a=s.a->a.lp=s.lp->Q (.res (OS .none) a))
def xk.hd(h:xk L dc):∃u r,dc=.tuple (.str u::r):=by induction h<;>show#[_,_,Y]
def Tf :zq ["_law_inn","_law_deed_here","_law_kinds","e",""] ["_law_inn","_law_deed_here"] (zb OR):=.o
theorem aJ{P:C5}{w:C6}{mg:Tt}{base:C7}{cs:Cs}{CB:Ch}(IC:IK q i)(xh:XH q mg R AZ)(nb:GY mg)(F:Gi q "_law_done" "_law_done" OR x e7)(hm:mg "_law_done"=J (.ref x))(Z:DQ q e7 ["_law_inn","_law_deed_here"] [])(TK:yO P w q mg base i "take" 13 (S8 i CB cs AZ.CO))(BK:yf P w q mg base i "give_back" 2 (SU i CB cs))(BX:yO P w q mg base i "give_back" 2 (dW i CB cs AZ.CK))(LY:yf P w q mg base i "lay" 12 (SV i CB cs))(LX:yO P w q mg base i "lay" 12 (SY i CB cs AZ.CN AZ.CR AZ.CT))(TY:yf P w q mg base i "tidy" 12 (cK i CB cs))(TX:yO P w q mg base i "tidy" 2 (uh i CB cs AZ.CN))(UN:yf P w q mg base i "undo" 1 (SS i CB cs))(UX:yO P w q mg base i "undo" 1 (cX i CB cs AZ.CD)):oA P w q mg base "_law_done" 14 (gc i CB cs AZ):=by
 show#[x,e7,_,hm,F.kp,Z,IW F Tf (λas Q h=>?_) λah A' a6 s H E as Q hr h=>?_];have Wg y m a8:=h;have Wg s O a5:=a8;have Wl p U d rfl _:=a5;rfl;have Wi y m s ab:=h;have Wo O p U d rfl L y0 T ay a7:=ab;have Wq W hd q1 q2:=a7;have hC:=L.C;subst hC;have nd:=Tf.nd;have lx:Gk [J (.inn s),J (.dat d),D,D,D] [J (.inn s),J (.dat d),D,D,D]:=Gk.cons (.inr #[Y,λa e=>by cases e;trivial]) (Gk.cons (.inr #[Y,λa e=>by cases e;trivial])<|Gk.cons (.inl Y)<|Gk.cons (.inl Y)<|Gk.cons (.inl Y) Gk.nil');have M:∀r:Fr,Gk [J (.inn s),J (.dat d),D,D,D] [J (.inn s),J (.dat d),D,D,J (.exc r λ_=>True)]:=λr=>Gk.cons (.inr #[Y,λa e=>by cases e;trivial]) (Gk.cons (.inr #[Y,λa e=>by cases e;trivial])<|Gk.cons (.inl Y)<|Gk.cons (.inl Y)<|Gk.cons (.inl Y) Gk.nil');have v:∀m:Zv,yn (Mh CB cs O G8 p) m=D->yn s.kvs m=D:=λm h=>by rw[L.kv];show h
 have l:∀m:Zv,m≠"past"->m≠s.nm:=λm h=>by rw[L.nm];show h
 show zB8 3 4 [J (.inn s),J (.dat d),D,D,D] (λN=>∃k C e,Iu AZ k C N e/\Q (.res e s)) Y Y nd Y lx () xh.mS (λN h=>?_) (λa0 xe r xo=>?_) (λa0 a N S' h=>?_);have Wl k C e t _:=h;show#[C,t.is,(xh.of t).b];induction hd;iterate 4 all_goals try(show yr<|xN hr.units<|zN hr.one (λ_ _=>Y)<|zc 1 Y<|zw<|GR Y Y Y<|zM<|xi<|yA (λh=>?_) λh=>zu ?_;all_goals try show Ut h<|by symm)
 next c g a b e x f1=>have Wc qr qd:=q1 (by intro z;cases z);show xE 0 Y (xB 0<|vT 0 4 Y xo Y (M r) TK (hr.mono<|by decide) (v _ Y) (l _<|by decide)<|zd<|zN hr.one (λ_ _=>Y)<|zc 1 Y<|zw<|GR Y Y Y<|zm #[y,s,O,#[G8,p,U,#[5,c,g,Y,L,y0,Gg T.tl (),λe h=>(T.tk e h).1,#[6,λb h=>(T.bk b h).1.ok,by rw[T.ln];decide,#[by lia,e,x,f1],W,λzs=>#[(0),_,_,.o zs,qr _ _ _ _ (.o zs) λ_=>Y],λk ax K cl A B G=>#[1,_,K,Y,B,G,qd _ _ K (.take cl a e () f1) A B G]]]]])
 next n n0 n1 _=>
  have Wc qr qd:=q1 (by intro z;cases z);by_cases z:(p.tk.filter λe=>!decide (e.n=n)).length=p.tk.length;have lg:n.natAbs.log2<1920:=by
   rcases Nat.eq_zero_or_pos n.natAbs with z|z;rw[z];decide
   show Gf ((CM<|by lia).mpr<|show n.natAbs<2 ^ 10 by lia)<|by decide
  show xE 0 Y (xB 0<|vT 0 4 Y xo Y (M r) BX (hr.mono<|by decide) (v _ Y) (l _<|by decide)<|zd<|zN hr.one (λ_ _=>Y)<|zc 1 Y<|zw<|GR Y Y Y<|zm #[s,O,#[2,G8,p,U,n,Y,L,Gg T.tl (),#[z,lg,#[(1),_,_,.k,qr _ _ _ _ .k λ⟨z,e⟩=>by cases e]]]]);show xE 0 Y<|xB 0<|uo 0 Y BK (hr.mono<|by decide) (v _ Y) (l _<|by decide)<|zd<|zN hr.one (λ_ _=>Y)<|zc 1 Y<|zw<|GR Y Y Y<|zm #[s,O,#[2,G8,p,U,n,Y,L,Gg T.tl (),#[z,W,λK A B G=>#[1,_,K,Y,B,G,qd _ _ K .back A B G]]]]
 next N ds b hx hl b0 b1 _ _=>
  have Wc qr qd:=q1 (by intro z;cases z);have no:∀k C x' t,Iu AZ k C x' t->∃k C e,Iu AZ k C x' e/\Q (.res e s):=λk C x' t tt=>#[k,C,t,tt,qr _ _ _ _ tt λ⟨z,e⟩=>by cases e];rcases zO6 (q:=λN=>∃k C e,Iu AZ k C N e/\Q (.res e s)) T hx hl (λn=>no _ _ _ _<|.r n) (no _ _ _ _ .t)with⟨j,b',at',Z,rb,rd,ln⟩|n1|⟨j,b',at',Z,rb,lb,lw⟩;show xE 0 Y<|xB 0<|uo 0 Y LY (hr.mono<|by decide) (v _ Y) (l _<|by decide)<|zd<|zN hr.one (λ_ _=>Y)<|zc 1 Y<|zw<|GR Y Y Y<|zd<|zN hr.one (λ_ _=>Y)<|zc 1 Y<|zw<|GR Y Y Y<|zm #[s,O,#[G8,p,U,#[7,N,j,b',ds,Y,L,at',Z,#[6,rb.ok,rd.ok,ln,by rw[T.ln];decide,W,λK A B G=>#[1,_,K,Y,B,G,qd _ _ K (.book (λz e=>by cases e) (rb.app rd)<|by rw[GJ];show ln) A B G]]]]]
  show xE 0 Y (xB 0<|vT 0 4 Y xo Y (M r) LX (hr.mono<|by decide) (v _ Y) (l _<|by decide)<|zd<|zN hr.one (λ_ _=>Y)<|zc 1 Y<|zw<|GR Y Y Y<|zd<|zN hr.one (λ_ _=>Y)<|zc 1 Y<|zw<|GR Y Y Y<|zm #[s,O,#[G8,p,#[0,U,N,ds,Y,L,.inl #[n1.1,n1.2,no _ _ _ _ .n]]]]);show xE 0 Y<|xB 0<|vT 0 4 Y xo Y (M r) LX (hr.mono<|by decide) (v _ Y) (l _<|by decide)<|zd<|zN hr.one (λ_ _=>Y)<|zc 1 Y<|zw<|GR Y Y Y<|zd<|zN hr.one (λ_ _=>Y)<|zc 1 Y<|zw<|GR Y Y Y<|zm #[s,O,#[G8,p,#[0,U,N,ds,Y,L,.inr #[4,j,b',at',Z,rb.ok,lb,lw]]]]
 next N hx _ _ _=>
  have Wc qr qd:=q1 (by intro z;cases z);rcases Te hx with⟨j,hj,at'⟩|⟨n1,n2⟩;have Z:p.bs[j]?=J (p.bs[j]'(by rw[T.ln];show hj)):=Gh _;have Wc re rl:=T.bk _<|HF Z;show xE 0 Y<|xB 0<|uo 0 Y TY (hr.mono<|by decide) (v _ Y) (l _<|by decide)<|zd<|zN hr.one (λ_ _=>Y)<|zc 1 Y<|zw<|GR Y Y Y<|zm #[y,s,#[O,G8,p,#[2,U,N,j,_,Y,L,at',#[6,Z,re,rl,by rw[T.ln];decide,W,λes K a4 a9 A B G=>#[1,_,K,Y,B,G,qd _ _ K (.book (λz e=>by cases e) a4 a9) A B G]]]]]
  show xE 0 Y<|xB 0<|vT 0 4 Y xo Y (M r) TX (hr.mono<|by decide) (v _ Y) (l _<|by decide)<|zd<|zN hr.one (λ_ _=>Y)<|zc 1 Y<|zw<|GR Y Y Y<|zm #[s,O,#[7,G8,p,U,N,Y,L,n1,n2,#[(2),_,_,.n,qr _ _ _ _ .n λ⟨z,e⟩=>by cases e]]]
 next=>
  have Wc qn qu:=q2 Y;rcases Nu U with rfl|⟨au,p0,rfl⟩;show xE 0 Y<|xB 0<|bL 0 4 Y xo Y (M r) UX (hr.mono<|by decide) (v _ Y) (l _<|by decide) #[s,O,#[G8,p,Y,L,#[(5),_,_,.d,qn Y]]]
  show xE 0 Y<|xB 0<|tM 0 Y UN (hr.mono<|by decide) (v _ Y) (l _<|by decide) #[s,O,G8,#[0,p,_,_,Y,(Mo ..)▸L,λK A B G=>#[1,_,K,Y,B,G,qu _ _ K (Mo ..) A B G]]]
 have Wl k C e t a3:=h;have V:=t.is;have X:=xh.of t;have Wb f S:=X.x;have Wa B0 m0 e0:=X.o;have Wa B1 m1 e1:=X.t;have Wa B2 m2 e2:=X.n;have Wa B3 m3 e3:=X.r;have Wa B4 m4 e4:=X.m;have Wa B5 m5 e5:=X.d;show zJ8 3 Y ?_;show zU 2 nd (FA.d<|yC<|zd<|wD () nb.isinstance () m0<|zc 3 Y #[2,C,_,f,_,V,S,e0,?_]);show zd (wD () nb.isinstance () m1<|zc 3 Y #[2,C,_,f,_,V,S,e1,zd<|wD () nb.isinstance () m2<|zc 3 Y #[2,C,_,f,_,V,S,e2,?_]]);show zd (wD () nb.isinstance () m3<|zc 3 Y #[2,C,_,f,_,V,S,e3,zm #[_,Y,GI Y,zU 2 nd<|FA.d<|uT<|zc 2 Y<|FA.d<|yC<|zd<|wD () nb.isinstance () m4<|zc 3 Y #[2,C,_,f,_,V,S,e4,?_]]]);show zd (wD () nb.isinstance () m5<|zc 3 Y #[2,C,_,f,_,V,S,e5,zm #[_,Y,GI Y,#[1,_,_,Y,Y,GI Y,?_]]]);have hk:k<6:=by induction t<;>decide
 have hc:([k == 0,k == 1,k == 2,k == 3,k == 4,k == 5]:T5).count I=1:=by induction t<;>rfl
 show yr<|Im.t<|QR<|sA hr.units<|bX<|zc 2 Y #[[k == 0,k == 1,k == 2,k == 3,k == 4,k == 5],Y,dB #[I,Y,zw<|Ip Y Y Y Y ?_]];rw[hc];show sT Y (QP<|QO<|lY<|zy5 () nb.isinstance () xh.mV PyProof.Rows.Boot.«ValueError»<|zc 3 Y #[2,C,_,f,I,V,S,X.v,#[_,Y,yc Y<|zu ?_]]);show yr (lY<|wD () nb.isinstance () m0<|zc 3 Y #[2,C,_,f,_,V,S,e0,#[_,Y,?_]]);by_cases h0:k=0;induction t with|o zs=>show yv Y (xG 0 Y<|yB<|zd<|zM<|zd<|bf S xh.dy<|zc 3 Y #[_,_,Y,Y,zm #[_,Y,GI Y,a3]])|_=>cases h0
 show yc (by induction t<;>first|rfl|show Ut Y h0)<|zu ?_;show yr (lY<|wD () nb.isinstance () m3<|zc 3 Y #[2,C,_,f,_,V,S,e3,#[_,Y,?_]]);by_cases h3:k=3;induction t with|r n=>show yv Y (xG 0 Y<|yB<|zd<|zM<|zd<|bf S xh.nr<|zc 3 Y #[_,_,Y,Y,zm #[_,Y,GI Y,a3]])|_=>cases h3
 show yc (by induction t<;>first|rfl|show Ut rfl h3)<|zu ?_;show xG 0 rfl<|yB<|zd<|zN hr.one (λ_ _=>Y)<|FA.d<|yC<|zd<|zM<|zd<|zM<|zd<|zM<|zd<|zM<|zd<|zM<|zd<|zM<|zm #[_,Y,GI Y,?_];show zJ5<|zc 2 Y #[[k == 0,k == 1,k == 2,k == 3,k == 4,k == 5],Y,dB #[1,I,k,Y,?_,?_,?_]];induction t<;>rfl;induction t<;>decide;induction t with|r n=>show Ut Y h3|o n=>show Ut Y h0|_=>show GR Y Y Y<|zd<|wM<|zm #[_,Y,GI Y,a3]
abbrev OU :Da:=Fn 82
structure Sh (k:Nat)(d:A2):Prop where
 lay:d.canLay0=I
 nod:d.hasDict=Za
 dep:d.depth<=k
def Sh.all(h:∀d∈T,Sh l d):Yh T=I/\Yk T=Za/\Yg T<=l:=by
 induction T with|nil=>show#[Y,Y,Gj _]|cons d r i=>have Wf a b c:=i λe g=>h e<|GH _ g;have f:=h d GN;show#[?_,?_,?_];rw[Yh,f.lay,a];rfl;rw[Yk,f.nod,b];rfl;rw[Yg];show Nat.max_le.mpr #[f.dep,c]
theorem Sh.list {k:Nat}(h:∀d∈T,Sh k d):Sh (k+1) (.list T):=by have Wf a b c:=Sh.all h;show#[by simpa only[Yj]using a,by simpa only[Yi]using b,by simp only[PyData.depth];lia]
theorem Sh.tuple {k:Nat}{e:TL}(h:∀d∈e,Sh k d):Sh (k+1) (.tuple e):=by have Wf a b c:=Sh.all h;show#[by simpa only[Yj]using a,by simpa only[Yi]using b,by simp only[PyData.depth];lia]
theorem Sh.int(i:Int):Sh l (.int i):=#[Y,Y,Gj _]
theorem Sh.str(h:PyData.strOk p=I):Sh l (.str p):=#[h,Y,Gj _]
def Sh.mono(h:Sh l dc)(e:l<=N):Sh N dc:=#[h.lay,h.nod,Gg h.dep e]
theorem Sh.shaped(h:Sh l dc)(e:l<=64):Yf dc=I:=by unfold Yf;rw[h.lay,Hw (Gg h.dep e)];rfl
def Sh.ints {k:Nat}(a:TN):Sh (k+1) (.list (a.map .int)):=.list λd b=>by have Wa z _ rfl:=Ik.mp b;show .int z
theorem wN.sh(h:wN dc):Sh 60 dc:=#[h.nice.lay,h.nice.nod,by have:=h.nice.dep;lia]
def pe(h:zK T):Sh 61 (.list T):=.list λd a=>(h d a).sh
def zZ4 (e:En):Sh 60 (JU e):=(Sh.tuple (k:=3) λd a=>by
 simp only[D7,Gv,Gw]at a;rcases a with rfl|rfl|rfl|rfl;show .int _
 show(Sh.tuple (k:=0) λd a=>by simp only[D7,Gv,Gw]at a;rcases a with rfl|rfl<;>show .int _).mono ();show .int _;show(Sh.list (k:=1) λd a=>by have Wa p _ rfl:=Ik.mp a;show .tuple λd a=>by simp only[D7,Gv,Gw]at a;rcases a with rfl|rfl|rfl<;>show .int _).mono<|()).mono<|()
def Tg (c:Int)(d:List En):TN:=(kT c d).mergeSort λa b=>decide<|a<=b
theorem zf9{d:List En}(h:i9.Perm (kT L d))(s:i9.Pairwise (·<=·)):i9=Tg L d:=
 List.Perm.eq_of_pairwise (λa b _ _ f e=>by lia) s ((List.pairwise_mergeSort (λa b c f e=>by simp at *;lia) (λa b=>by simp;lia)<|kT L d).imp λh=>LA h) (h.trans (List.mergeSort_perm _ _).symm)
def tP (a:Int)(p:Sn):A2:=.tuple [.list (p.tk.map JU),.list ((Tg a p.tk).map .int),.list (p.bs.getD 0 []),.list (p.bs.getD 1 [])]
def tu {rc:Int}(h:II L l y9):Sh 62 (tP rc y9):=.tuple λd a=>by
 have c:∀j:Nat,zK (y9.bs.getD j []):=λj=>by
  rw[HW];cases e:y9.bs[j]? with|none=>show zK.nil|some b=>show(h.bk b<|HF e).1.ok
 simp only[D7,Gv,Gw]at a;rcases a with rfl|rfl|rfl|rfl;show .list λd a=>by have Wa e _ rfl:=Ik.mp a;show zZ4 e
 show(Sh.ints (k:=0) _).mono ();show pe<|c 0;show pe<|c 1
def eu (e b:Ch)(f:Cs):Ph:=λd Q=>∃y m s a p c,d=[.inn s]/\zY e b f s a G8 p c/\0<=y/\II y m p/\m<=800/\Q (.res (tP a p) s)
def z63 :zq ["_law_inn"] ["_law_inn"] (zb OU):=.o
theorem aN{P:C5}{w:C6}{mg:Tt}{base:C7}{cs:Cs}{CB:Ch}(IC:IK q i)(F:Gi q "_law_seen" "_law_seen" OU x e7)(U:mg "_law_seen"=J (.ref x))(o:DQ q e7 ["_law_inn"] [])(T:yf P w q mg base i "standing" 1 (cL i CB cs))(K:yf P w q mg base i "full" 2 (gW i CB cs))(C:yf P w q mg base i "rules_of" 4 (nv i CB cs)):oA P w q mg base "_law_seen" 5 (eu i CB cs):=by
 show#[x,e7,_,U,F.kp,o,IW F z63 (λO Q h=>?_) λR Z z s H E O Q hr h=>?_];have Wi y m s t:=h;have Wl g p k rfl _:=t;rfl;have Wg y m u:=h;have Wo s g p k rfl f M n S V:=u;have W:=f.C;subst W;have c:∀m:Zv,yn (Mh CB cs g G8 p) m=D->yn s.kvs m=D:=λm h=>by rw[f.kv];show h
 have d:∀m:Zv,m≠"past"->m≠s.nm:=λm h=>by rw[f.nm];show h
 have l:p.tk.length<=900:=Gg n.tl ();have o:∀j:Nat,j<2->p.bs[j]?=J (p.bs.getD j []):=λj A=>by rw[HW,Gh (by rw[n.ln];show A)];rfl
 have r:∀j:Nat,j<2->G2 (p.bs.getD j [])/\(p.bs.getD j []).length<=1000:=λj A=>by have Wc a b:=n.bk _<|HF<|o j A;show#[a.ok.rules,by lia]
 show xG 0 Y (yB<|zd<|sM 0 Y T (hr.mono<|by decide) (c _ Y) (d _<|by decide) #[s,g,#[3,G8,p,k,Y,f,l,#[λe v=>(n.tk e v).1.2.2.2.2,_,Y,zd<|sM 0 Y K (hr.mono<|by decide) (c _ Y) (d _<|by decide) #[y,s,#[2,g,G8,p,k,Y,f,M,#[l,λe v=>(n.tk e v).1,λX L G=>#[_,Y,?_]]]]]]]);rw[zf9 L G];show zd (wu 0 Y C (hr.mono<|by decide) (c _ Y) (d _<|by decide)<|zd<|zM<|zm #[s,g,G8,#[p,k,"main",#[5,0,_,Y,f,#[Y,λB N=>by lia],o 0 (),(r 0<|by decide).1,#[(r 0<|by decide).2,_,Y,?_]]]]);show zd<|wu 0 Y C (hr.mono<|by decide) (c _ Y) (d _<|by decide)<|zd<|zM<|zm #[s,g,G8,#[p,k,"late",#[5,1,_,Y,f,#[Y,λB N=>by rw[show B=0 by lia];decide],o 1 (),(r 1<|by decide).1,#[(r 1<|by decide).2,_,Y,zm #[_,Y,GI Y,V]]]]]
def OV (F:Fr)(l:Ch):Fr:=#[F.H0,λz=>F.O0 z\/z=l,F.tp]
variable {n:Ev}{j w:Dc}{z w6:Fr}{j4:HO}{Ck:L2.St}
def z23(e:M z n Ck m)(t:zF z d7)(k:Kz z m d7)(l:m i=D)(C:d7 i=J j4)(E:yS j4)(A:∀(f:Nat) r q,n[f]?≠J (J (.exc r q))):M (OV z i) n Ck d7 where
 len:=e.len
 ok:=λf a s g u=>(e.ok f a s g u).stay (zj λp j4 h j=>#[λd=>by
   rcases d with(d|d)|d;show h<|.inl d
   rw[d,l]at j;cases j;show h<|.inr d,k p j4 j<|e.tp.nt<|GL h]) (λp j4 hf j=>by have Wf o v _:=tF (e.ok f a s g u) hf;show#[k p j4 j<|e.tp.nt o,λd=>d.elim o (λd=>by rw[d,l]at j;cases j),v]) Y λr q j=>Ut (j▸g) (A f r q)
 dj:=e.dj
 xd:=e.xd
 tp:=#[t.tab,λp h=>.inl<|t.ot p h,λa b c j=>by have Wq w y x B:=t a b c j;show#[w,.inl y,.inl x,.inl B]]
 keep:=e.keep.trans k
 oex:=λp h=>by
  rcases h with h|rfl;show M.oex' t k e.oex p h
  show#[j4,C,E]
variable {dU:TM}
def zA9(s:zv m d7):∀{c:TL},zQ z m dU (c.map .dat)->zQ w6 d7 dU (c.map .dat):=by
 intro c h;induction c generalizing dU with
 |nil=>cases h;show .nil
 |cons d r e=>cases h with|cons a b=>show .cons (AV.same s a)<|e b
variable {Q:Ue}{f:Cx}{k7:List L2.A->(L2.A->Prop)->Prop}{O:T1}
def bN(C:DY f.prog f.w f.K f.mg f.base p l k7)(hr:zH l f.A)(hg:Gl f p)(hx:∀(i:Nat) r q,n[i]?≠J (J (.exc r q)))(h:FA f n j λds=>∃a b:Int,ds=[.int a,.int b]/\0<=b/\b<4294967296/\G7 f n O λP=>(∃W:TL,P=W.map .dat)/\k7 (.tape::P) λa=>∃d,a=.dat d/\Q d)
  (M:‹Yl p›) (he: ~~~Uo j O f.env) (a0: ~~~Uq y O f.env):DP f n (.Call (.Name p K) (j::O) [] y) Q:=λz Ck m R u kk=>by
 have Wm a4 fd ps c1 c2 c3 c4:=C.ex;show#[_,tG c4 hr hg c1 c2 c3 .nil we (zo zh yb he) M he a0,h z Ck m _ u λds v H1 q1 A k1 fr=>?_];have Wj a b rfl b0 b1 hA:=q1;have Wj k xs rfl T f2 f3:=fr;have ex:xs=[.int a,.int b]:=by
  cases f3 with
  |cons a r=>
   cases r with|cons b r=>cases r;rw[a.int_inv,b.int_inv]
 subst ex;have V:=u.fresh T;have nt:¬vW k:=λe=>V<|.inl<|u.tp.ot k e;have m3:=z23 u A k1 T f2 zZ hx;show hA (OV z k) Ck H1 _ m3 λP vs x q2 G N r2=>?_;have Wc U a3:=q2;have#[W,rfl]:=U;have E:=N k _ f2<|u.tp.nt<|GL V;have m4:=m3.kz N G;have sm:zv (Gz (OV z k) n Ck x) (sub (λe=>¬(Ow z n Ck e\/e=k)) x):=zj λa o h j=>#[λe=>by
  rcases e with e|e;rcases e with e|e;show h<|.inl<|.inl e
  show h<|.inr e;show h<|.inl<|.inr e,j]
 rw[G9];show#[0,#[x,λe=>Ow z n Ck e\/e=k,J (k,k,k)],.tape::W.map .dat,_,Y,#[G.tab,λe Z=>.inl<|.inl<|A.ot e Z,λt B c j=>?_],#[λe Z=>?_,.cons #[k,k,k,Y,Y]<|zA9 sm r2,a3,λr v d7 qa ra=>?_]];cases j;show#[#[(0),[a,b],[a,b],#[Y,Y],E,E,E,#[_,_,Y,b0,b1],Y],.inr Y,.inr Y,.inr Y];rcases Z with e|e;rcases e with e|e;show m4.owEx<|.inl<|.inl e
 show m4.owEx<|.inr e;rw[e];show#[_,E,zZ];have Wa d rfl q:=qa;have Wf r1 r3 H:=ra;have kz:∀e o,x e=J o->e≠k->¬vW e->d7 e=J o:=λe o j z1 z2=>r3 e o j #[λt B c F=>by cases F;show#[z1,z1],z2];have L:Kz z m d7:=λe o j s=>kz e o (N e o (k1 e o j s) s) (zk j T) s.2;show kk d v d7 q #[r1.tab,A.ot,λt B c F=>?_] L<|AV.same (zj λe o g j=>#[λw=>g<|.inl w,j]) H;have Wq w1 _ _ _:=G t B c F;have Wq _ w2 w3 w4:=A t B c F;show#[?_,w2,w3,w4];have Wu s bs cs S X e2 e3 l1 l2:=w1.ex;have#[rfl,rfl]:=S;have:=kz _ _ X (λe=>V<|.inl<|by rw[<-e];show w2) (λe=>by have Wa ps j _:=G.tab.ex;rw[e,j]at X;cases X);show#[s,bs,bs,#[Y,Y],this,this,this,l1,l2]
abbrev lH :Da:=Fn 83
def Th:PyData.eqv (.list T) (.list [])=T.isEmpty:=by cases T<;>simp[PyData.eqv,PyData.eqvAll]
def yl4 :T9->Bool
 |some (.exc _ _)=>Za
 |_=>I
def zC1(h:n.all yl4=I):∀(i:Nat) r q,n[i]?≠J (J (.exc r q)):=λi r q e=>by have:=JL.mp h _<|HF e;cases this
variable {h9:zT}{i7:List Da}
def ze0{α0:Ev}(d:α0.length=n.length)(b:∀(i:Nat) a,α0[i]?=J (J a)->n[i]?=J (J a))(h:D0 f α0 i7 h9):D0 f n i7 h9:=λF U H c m r=>h F U H c (m.forget d b) r
variable {Al Eh FP:Option L2.A}{l9 F3 F4 F5 F6:L2.A}
def fg8:∀(i:Nat) x,([J l9,J F3,J F4,J F5,J F6,D,D,D]:Ev)[i]?=J (J x)->([J l9,J F3,J F4,J F5,J F6,Al,Eh,FP]:Ev)[i]?=J (J x):=λi x h=>by
 rcases i with _|_|_|_|_|_|_|_|i
 iterate 5 show h
 iterate 3 cases h
 simp at h
theorem II.mono(h:II L l y9)(e:l<=N):II L N y9:=#[h.ln,h.bk,h.tk,h.f0,by have:=h.f1;lia,Gg h.tl e]
theorem gj.sh(h:gj L T):Sh 61 (.list T):=by
 induction h with
 |ok a _=>show pe a.ok
 |@bad es g d a _ b _ e=>
  rw[e];show .list λx c=>?_;rcases H9.mp c with z|z;show(a.ok x<|J8 z).sh
  rcases D7.mp z with rfl|z;induction b<;>show#[(),(),()]
  show(a.ok x<|Nw z).sh
theorem xk.sh(h:xk L dc):Sh 62 dc:=by
 have s:∀x:Zv,x∈(["take","back","lay","tidy","undo","main","late","maina","x"]:TR)->Sh 61 (.str x):=λx b=>.str (by
  have:∀x∈(["take","back","lay","tidy","undo","main","late","maina","x"]:TR),PyData.strOk x=I:=by symm
  show this x b)
 have n:∀{x:Zv},x∈Jo->Sh 61 (.str x):=λ{x} b=>s x (by simp only[Jo,D7,Gv,Gw]at b ⊢;rcases b with h|h|h|h<;>simp[h]);induction h with
 |take=>
  show .tuple λdc a=>?_;simp only[D7,Gv,Gw]at a;rcases a with rfl|rfl;show s _<|()
  show(Sh.tuple (k:=0) λdc a=>by simp only[D7,Gv,Gw]at a;rcases a with rfl|rfl<;>show .int _).mono<|()
 |back=>
  show .tuple λdc a=>?_;simp only[D7,Gv,Gw]at a;rcases a with rfl|rfl;show s _<|()
  show .int _
 |lay b c=>
  show .tuple λdc a=>?_;simp only[D7,Gv,Gw]at a;rcases a with rfl|rfl|rfl|rfl;show s _<|()
  show n b;show c.sh;show .int _
 |tidy b=>
  show .tuple λdc a=>?_;simp only[D7,Gv,Gw]at a;rcases a with rfl|rfl;show s _<|()
  show n b
 |undo=>show .tuple λdc a=>?_;simp only[D7,Gv,Gw]at a;rcases a with rfl;show s _<|()
def xk.cmp {y:Int}(h:xk y dc):(dc=vJ/\PyData.eqv dc vJ=I)\/(dc≠vJ/\PyData.eqv dc vJ=Za):=by
 induction h with|undo=>show .inl #[Y,LK _ (xk.undo (y:=y)).sh.lay]|_=>show .inr #[λz=>by unfold vJ at z;injection z with z;injection z with z;injection z with z;show Ut z (),by simp[PyData.eqv,PyData.eqvAll,vJ]]
structure Je (CI CB:Ch)(cs:Cs)(y rc:Int)(p:Sn)(s:zD)(i:Nat)(s':zD)(q:Sn)(ps:List Sn):Prop where
 st:zY CI CB cs s' rc G8 q ps
 a:s'.a=s.a
 l:s'.lp=s.lp
 qo:II y i q
 po:∀x∈ps,II y i x
 n:ps.length<=i
 h:(ps++[q]).head?=J p
def Iu.told(h:Iu AZ l i dc y4):∃w v,y4=.tuple [.str w,v]/\decide (w="ok")=Za:=by induction h<;>show#[_,_,Y,()]
theorem Je.mono (h:Je i x g9 L gi y9 G l Ap BY B9):Je i x g9 L gi y9 G (l+1) Ap BY B9:=#[h.st,h.a,h.l,h.qo.mono<|HI _,λa z=>(h.po a z).mono<|HI _,Dx h.n,h.h]
def Je.push (h:Je i x g9 L gi y9 G l Ap BY B9)(d:II L (l+1) C0)(b:zY i x g9 Cj gi G8 C0 (B9++[BY]))(a:Cj.a=Ap.a)(e:Cj.lp=Ap.lp):Je i x g9 L gi y9 G (l+1) Cj C0 (B9++[BY]):=#[b,a.trans h.a,e.trans h.l,d,λc z=>by
 rcases H9.mp z with z|z;show(h.po c z).mono<|HI _
 rw[GV.mp z];show h.qo.mono<|HI _,by rw[GJ];show Nat.succ_le_succ h.n,by
 have:=h.h;rw[List.head?_append,this];rfl]
theorem Je.pop(h:Je i x g9 L gi y9 G l Ap BY (B9++[C0]))(b:zY i x g9 Cj gi G8 C0 B9)(a:Cj.a=Ap.a)(d:Cj.lp=Ap.lp):Je i x g9 L gi y9 G l Cj C0 B9:=#[b,a.trans h.a,d.trans h.l,h.po _ (),λc z=>h.po c<|Kt _ z,by have:=h.n;rw[GJ]at this;lia,by
 have:=h.h;rw[List.head?_append]at this;cases e:(B9++[C0]).head? with
 |none=>simp at e
 |some z=>rw[e]at this;show this]
def Je.shs (h:Je i x g9 L gi y9 G l Ap BY B9):Sh 63 (.list (B9.map (tP gi))):=.list λd c=>by have Wa b a rfl:=Ik.mp c;show tu<|h.po b a
def jy (d b:Ch)(f:Cs):Ph:=λg Q=>∃y s c p,∃e:TN,g=[.inn s,.dat (.int y),.dat (.list<|e.map .int)]/\zY d b f s c G8 p []/\0<=y/\y<=999990/\II y 0 p/\e.length<=63/\∀a,zY d b f a c G8 p []->a.a=s.a->a.lp=s.lp->Q (.res (.bool I) a)
def jT :zq ["_law_inn","_law_day_here","_law_cells","_law_seen_here","_law_cell","_law_ahead","_law_deed_here","_law_told"] ["_law_inn","_law_day_here","_law_cells"] (zb lH):=.o
theorem kE(nb:GY C)(F:Gi q "_law_played" "_law_played" lH R e7)(hm:C "_law_played"=J (.ref R))(hb:DQ q e7 ["_law_inn","_law_day_here","_law_cells"] [])(a6:DY E s q C v "_law_begin" 1 mi)(DE:DY E s q C v "_law_deed" 5 Td)(X:oA E s q C v "_law_done" 14 (gc i x g9 AZ))(Z:oA E s q C v "_law_seen" 5 (eu i x g9)):oA E s q C v "_law_played" 15 (jy i x g9):=by
 show#[R,e7,_,hm,F.kp,hb,IW F jT (λas Q h=>?_) λa9 A' a4 s0 H au as Q hr h=>?_];have Wg y a0 a5:=h;have Wl l p W rfl _:=a5;rfl;have Wg y a0 a3:=h;have Wm l p W rfl st B a7:=a3;have Wq y1 io lz V:=a7;have nd:=jT.nd;show wA 3 nd<|yC<|zm #[_,Y,GI Y,yD (.one 4)<|yo<|zc 2 Y #[_,Y,?_]];show zW (λM O=>∃g V m L S T N,Je i x g9 y l p a0 M g V m/\O=[J (.inn g),J (.dat<|.int y),J (.dat<|.list<|W.map .int),J (.own<|m.map<|tP l),L,S,T,N]) #[a0,p,#[[],D,#[D,D,D,#[st,Y,Y,io,(λab h=>by cases h),D4 _,Y],Y]]] ?_ ?_
 . intro M d O hd u8;have Wv g r m L S T N c rfl:=u8;have hi:=(Gm.mp hd).1;rw[DZ]at hi;rw[GD,Hj]at hd;have Wa z hz rfl:=hd;have hn:=c.n;show#[_,Y,ze0 (α0:=[J (.inn g),J (.dat<|.int y),J (.dat<|.list<|W.map .int),J (.own<|m.map<|tP l),J (.dat<|.int z),D,D,D]) Y fg8 ?_];have U:=tu (rc:=l) c.qo;show zU 5 nd (uw 0 Y Z (hr.mono<|by decide) ()<|zm #[y,M,g,l,r,m,Y,c.st,B,c.qo,by lia,_,Y,zU 6 nd<|bN DE (hr.mono<|by decide) () (zC1 Y)<|wK a6 (hr.mono<|by decide) ()<|zd<|zc 4 Y<|zm #[z,Y,λa b b0 b1=>#[_,Y,#[1,a,b,Y,b0,b1,?_]]]]);show zd<|zc 1 Y<|zd<|wM<|zd<|FA.d<|sC ["_law_row"] [D] (.one 0) (yo<|zN hr.one (λ_ _=>Y)<|zc 5 Y<|zw<|GR Y Y Y #[_,Y,?_,?_]);have:=c.qo.tl;rw[DZ];lia;show xp (λe=>.int e.n) (λe he=>#[_,Y,λah s2 H2 fp Q k=>zN hr.one (λ_ _=>Y)<|zc 0 Y<|zw<|GR Y Y Y k]) ?_;show zm #[#[[_,_,_],Y],y,r.tk.map (·.n),by rw[Ij];rfl,#[B,y1,by rw[DZ];have:=c.qo.tl;lia,λn hn=>?_,λd dk=>#[d,Y,?_]]];have Wa e he rfl:=Ik.mp hn;have h1:=(c.qo.tk e he).2;have h2:=c.qo.f1;lia;show yr (sA hr.units<|zc 6 Y<|yB<|zd<|zM<|zm #[_,Y,GI Y,Ip (dk.sh.shaped<|by decide) () dk.sh.nod Y ?_]);rcases dk.cmp with⟨rfl,e⟩|⟨ne,e⟩
   . show yc (Uu not e) ?_;show yr (wC 3 Y<|sA hr.units<|zc 3 Y<|FA.d<|yC<|zm #[_,Y,GI Y,Ip (c.shs.shaped<|by decide) () c.shs.nod Y ?_]);rw[Th];rcases Nu m with rfl|⟨o,w,e⟩
     . show yc Y ?_
       repeat show zu ?_
       show#[9,g,r,[],_,_,_,_,c.mono,Y]
     rw[Mo]at e;subst e;show yv () ?_;show iH (J5.t<|OA<|pE hr.units<|HP.u<|uQ 0 Y X (hr.mono<|by decide) ()<|zd<|zc 6 Y<|zm #[y,M,g,#[2,l,r,_,vJ,Y,c.st,B,#[6,c.qo,by lia,by lia,.undo,λe=>Ut Y e,λ_=>#[λe=>Ut e (),λp1 P f e u G K=>#[1,_,f,Y,G,K,?_]]]]]);have Wc rfl e2:=List.append_inj' e Y;cases e2;show DP.u (yB<|zd<|zM<|zd<|wM<|zm #[_,Y,GI Y,Ip () () Y Y ?_]);show sT () ?_;have j:=tu (rc:=l) (c.po w<|by simp);show fP (pE hr.units<|DP.u<|uw 0 Y Z (hr.mono<|by decide) ()<|zm #[y,M,f,l,w,o,Y,u,B,c.po w (),by lia,_,Y,RD 3 (by change J (J<|A.own<|(o++[w]).map<|tP l)=_;rw[Ia];rfl)<|Ip (j.shaped<|by decide) (j.shaped<|by decide) j.nod j.nod ?_]);rw[LK _ j.lay];show yc Y ?_
     repeat show zu ?_
     show#[9,f,w,o,_,_,_,_,(c.pop u G K).mono,Y]
   show yv (Uu not e) ?_;show dq 7 nd<|HP.u<|uQ 0 Y X (hr.mono<|by decide) ()<|zd<|zc 6 Y<|zm #[y,M,g,#[2,l,r,m,d,Y,c.st,B,#[6,c.qo,by lia,by lia,dk,λ_=>#[λk ah ab t tx _=>?_,λa8 p' f dn u G K=>?_],λe=>Ut e ne]]]
   . have Wh s a8 rfl hw:=tx.told;show#[1,_,g,Y,Y,Y,yr<|xN hr.units<|zN hr.one (λ_ _=>Y)<|zc 7 Y<|zw<|GR Y Y Y<|zM<|xi ?_];show yc hw ?_;show yr (sA hr.units<|uw 0 Y Z (hr.mono<|by decide) ()<|zm #[y,M,g,l,r,m,Y,c.st,B,c.qo,by lia,_,Y,zc 5 Y<|Ip (U.shaped<|by decide) (U.shaped<|by decide) U.nod U.nod ?_]);rw[LK _ U.lay];show yc Y ?_
     repeat show zu ?_
     show#[9,g,r,m,_,_,_,_,c.mono,Y]
   show#[1,_,f,Y,G,K,yr<|xN hr.units<|zN hr.one (λ_ _=>Y)<|zc 7 Y<|zw<|GR Y Y Y<|zM<|xi ?_];show yv () ?_;show wY 3 Y<|zc 5 Y #[by rw[DZ];lia,?_]
   repeat show zu ?_
   show#[f,p',#[m++[r],_,#[_,_,_,c.push (c.qo.done dn) u G K,by rw[Ia];rfl]]]
 intro O u8;have Wv g r m L S T N c rfl:=u8;rw[DZ]at c;show kM LH (λn O=>∃g V m L S T N,(Je i x g9 y l p a0 W.length g V m/\m.length=n)/\O=[J (.inn g),J (.dat<|.int y),J (.dat<|.list<|W.map .int),J (.own<|m.map<|tP l),L,S,T,N]) m.length #[g,r,#[m,L,#[S,T,N,#[c,Y],Y]]] ?_;rintro n O ⟨g,r,m,L,S,T,N,⟨c,rfl⟩,rfl⟩;have hn:=c.n;show wC 3 Y (sA hr.units<|zc 3 Y<|FA.d<|yC<|zm #[_,Y,GI Y,Ip (c.shs.shaped<|by decide) () c.shs.nod Y ?_]);rw[Th];rcases Nu m with rfl|⟨o,w,e⟩;show sT Y ?_;have e:r=p:=by have:=c.h;injection this
 subst e;show zI1 0 (z48<|RC hr.units<|HP.u<|uQ 0 Y X (hr.mono<|by decide) ()<|zd<|yB<|zd<|zM<|zm #[_,Y,GI Y,zm #[y,_,g,#[2,l,r,[],vJ,Y,c.st,B,#[6,c.qo,by lia,by decide,.undo,λe=>Ut Y e,λ_=>#[λ_=>#[1,_,g,Y,Y,Y,DP.u<|yB<|zd<|zM<|zd<|wM<|zm #[_,Y,GI Y,Ip () () Y Y ?_]],λp1 P f e=>Ut e<|by simp]]]]]);show#[_,Y,pj () ?_];show z92 (RC hr.units<|HP.u<|uQ 0 Y X (hr.mono<|by decide) ()<|zd<|yB<|zd<|zM<|zm #[_,Y,GI Y,zm #[y,_,g,#[2,l,r,[],vJ,Y,c.st,B,#[6,c.qo,by lia,by decide,.undo,λe=>Ut Y e,λ_=>#[λ_=>#[1,_,g,Y,Y,Y,?_],λp1 P f e=>Ut e<|by simp]]]]]);show DP.u (yB<|zd<|zM<|zd<|wM<|zm #[_,Y,GI Y,Ip () () Y Y #[g,Y,?_]]);rw[show PyData.eqv (tl "no deed") _=I by symm];show V g c.st c.a c.l;rw[Mo]at e;subst e;show pj () ?_;show iH (J5.t<|OA<|pE hr.units<|HP.u<|uQ 0 Y X (hr.mono<|by decide) ()<|zd<|yB<|zd<|zM<|zm #[_,Y,GI Y,zm #[y,_,g,#[2,l,r,_,vJ,Y,c.st,B,#[6,c.qo,by lia,by lia,.undo,λe=>Ut Y e,λ_=>#[λe=>Ut e (),λp1 P f e u G K=>#[1,_,f,Y,G,K,?_]]]]]]);have Wc rfl e2:=List.append_inj' e Y;cases e2;show DP.u (yB<|zd<|zM<|zd<|wM<|zm #[_,Y,GI Y,Ip () () Y Y ?_]);show sT () ?_;have j:=tu (rc:=l) (c.po w<|by simp);show fP (pE hr.units<|DP.u<|uw 0 Y Z (hr.mono<|by decide) ()<|zm #[y,_,f,l,w,o,Y,u,B,c.po w (),by lia,_,Y,RD 3 (by change J (J<|A.own<|(o++[w]).map<|tP l)=_;rw[Ia];rfl)<|Ip (j.shaped<|by decide) (j.shaped<|by decide) j.nod j.nod ?_]);rw[LK _ j.lay];show yc Y ?_
 repeat show zu ?_
 show#[o.length,by rw[GJ];show Ii _,#[9,f,w,o,_,_,_,_,#[c.pop u G K,Y],Y]]
abbrev nR :Da:=Fn 84
abbrev OX :Da:=Fn 71
abbrev nLa :TR:=["_law_script","_law_row","_law_day_here","_law_books","_law_inn","_law_first","_law_cells","_law_some","_law_stay_here","_law_told"]
def zE8 (h:HY f n j λx=>HY f n w λr=>Q (.list [x,r]))(C: ~~~Uo j [w] f.env)(i: ~~~Uo w [] f.env):HY f n (.List [j,w] y) Q:=λF U H R m k=>by show#[_,nZ<|zo zh (zo zh zI i) C,h F U H _ m λx u t v K b L=>?_];have d:=m.kz b K;show v F U t _ d λr A q G g a E=>?_;show#[by change 2<=Zw;decide,λp c=>?_];have e:zv q (upd q p<|.lst [u,A]):=zP c;show k _ _ _ G (g.same e) (b.trans<|a.trans<|Kz.of_same e)<|.lst (zr #[(d.kz a g).fresh c,λxs z=>?_] zi)<|.cons (L.same<|rQ m Kz.refl λz o B l=>e z o<|a z o l<|d.tp.nt<|GL B)<|.cons (E.same<|rQ m b λz o _ l=>e z o l) .nil;have s:=b.trans a p _ z<|m.tp.nt<|GL<|(d.kz a g).fresh c;rw[c]at s;cases s
def pR(h:zK T):L2.wx T=I:=by
 induction T with|nil=>rfl|cons d r c=>have Wo u i j v a rfl _ _ _ hw:=yV (h d GN).rule;change(L2.wx [.str u,.int i,.int j,v]&&L2.wx r)=I;rw[(c λe b=>h e<|GH _ b),Dj];change(I&&(I&&(I&&(L2.noL v&&I))))=I;rw[(vt a hw).2];rfl
variable {l7:Uc}
def zp1(c:eM yI m)(a:m yI=J (.tbl l7))(b:D3 q m i dU):Ir q m i dU:=by
 rcases b with(h|h)|h;rcases c i with z|z|⟨o,ys,z⟩;rw[z]at h;cases h
 rw[z,a]at h;cases h;rw[z]at h;cases h;show .inl h;show .inr h
theorem zf5 (a:TN)(d c:T7):∃b:TN,cutD (a.map PyData.int) d c=b.map .int/\b.length<=a.length:=by show#[(a.drop _).take _,by unfold L2.cutD;rw[List.map_take,List.map_drop],?_];rw[Jb,Kb];lia
def yl9 :zq ["_law_script","_law_k"] ["_law_script","_law_k"] (zb OX):=.o
def zM4{P:C5}{w:C6}{base:C7}(F:Gi q "_law_cell_at" "_law_cell_at" OX i e7)(nb:GY C):zX P w q C base GA 1 i e7 ["_law_script","_law_k"] (lV q):=by show yd3 F yl9 (λe g b s H E a j f hr k c d=>yr<|QN<|zc 1 Y<|zv6 0 Y c () nb.len #[_,_,Y,Y,?_]);show yA (λh=>?_) λh=>zu ?_;show xU<|zE7 0 Y c (λ_ _=>Y)<|zc 1 Y #[f,Y,d,LA h,λz=>#[z,Y]];show xU<|zw #[_,Y]
def Ti :zq nLa ["_law_script"] (zb nR):=.o
theorem z02(F:Gi q "law" "law" nR R e7)(nb:GY C)(GC:zX E s q C v GA 1 oa Fw ["_law_script","_law_k"] (lV q))(mC:C "_law_cell_at"=J (.ref oa))(kC:Zh q (.ref oa)=I)(bC:DQ q Fw ["_law_script","_law_k"] [])(U:DY E s q C v "_law_begin" 1 mi) (CD:DY E s q C v "_law_take" 1 wc) (CY:DY E s q C v "_law_day" 2 R8) (CS:DY E s q C v "_law_stay" 2 lF) (CF:DY E s q C v "_law_few" 5 Tc) (Z:eh E s q C v "Inn" 11 i (S9 i x g9)) (DO:oA E s q C v "_law_done" 14 (gc i x g9 AZ)) (SE:oA E s q C v "_law_seen" 5 (eu i x g9)) (PL:oA E s q C v "_law_played" 15 (jy i x g9)):zX E s q C v GA 17 R e7 ["_law_script"] (qQ q):=by
 show yn6 F Ti λa0 A' Q a7 H a6 a ns hr hl sc=>?_;have nd:=Ti.nd;show wA 1 nd (wK U (hr.mono<|()) ()<|zd<|zH1 0 GC (hr.mono<|()) () mC kC bC Y sc hl<|zw #[(0),Y,(),λz=>zm #[z,Y,λa4 y y0 y1=>#[_,Y,z46 1 Y y0 y1 ?_]]]);show zU 2 nd (wH CY (hr.mono<|()) ()<|wG 1 Y<|zm #[Y,λy l z1=>?_]);clear y0 y1;show zF1 3 nd (zE8<|cJ<|mB<|zM #[Y,cq<|wK CF (hr.mono<|()) ()<|wG 1 Y<|zd<|zc 2 Y<|zd<|zw<|zm #[5,y,3,Y,l,z1,(),(),λG r1 l1=>#[G,Y,pR r1.ok,cJ<|mB<|zM #[Y,cq<|wK CF (hr.mono<|()) ()<|wG 1 Y<|zd<|zc 2 Y<|zd<|zw<|zm #[5,y,2,Y,l,z1,(),(),λB V l2=>#[B,Y,pR V.ok,?_]]]]]]);intro S;show zb1 4 3 nd Z (hr.mono<|()) () Y (uO<|zw<|wH CD (hr.mono<|()) ()<|wG 1 Y<|zd<|zw<|zm #[(2),Y,(),(),λr h1 g1=>#[1,_,_,Y,Y,Y,λu=>#[3,u,_,[("main",G),("late",B)],Y,?_,by change 2<=4;decide,λN f=>#[N,Y,?_]]]]);intro p hp;simp only[D7,Gv,Gw]at hp;rcases hp with rfl|rfl;show#[r1.ok,by change G.length<=24;lia]
 show#[V.ok,by change B.length<=24;lia];obtain⟨p,M⟩:∃p:Sn,p=#[[G,B],[],0]:=#[_,Y];have K:II y 0 p:=by
  rw[M];show#[Y,λb hb=>?_,(λe he=>by cases he),Int.le_refl _,Int.le_refl _,D4 _];simp only[D7,Gv,Gw]at hb;rcases hb with rfl|rfl;show#[r1,()]
  show#[V,()]
 have f0:p.fo=0:=by rw[M]
 have f:zY i x g9 N (1+r) G8 p []:=by rw[M];show f
 clear M;show zU 5 nd (uw 4 Y SE (hr.mono<|()) ()<|zm #[y,0,N,_,p,[],Y,f,l,K,(),_,Y,?_]);have w:=tu (rc:=1+r) K;show wA 6 nd<|zF6 0 Y sc λL lm=>uP 6 Y ?_;have Wa z3 e3 l3:=zf5 L D<|J 3;show yD (.one 7)<|yo<|FA.d<|yC<|zd<|zc 6 Y<|zd<|FA.d<|zP0<|zc 6 Y #[_,Y,zd<|FA.d<|dP<|zc 6 Y<|qg<|rX<|zw #[_,Y,#[_,Y,zm #[_,Y,#[GI Y,_,Y,?_]]]]];rw[e3,<-List.map_reverse];show zW (λa3 O=>∃n T,zY i x g9 n (1+r) G8 p []/\O=[J (.at a),J .tape,J (.dat<|.int y),J (.deep (.list [.tuple [.str "main",.list G],.tuple [.str "late",.list B]]) S),J (.inn n),J (.dat<|tP (1+r) p),J (.dat<|.list<|L.map .int),T,D,D]) #[N,D,f,Y] ?_ ?_
 . intro a3 d O hd u8;have Wh n T P rfl:=u8;obtain⟨j,rfl,lz⟩:∃j:TN,d=.list (j.map .int)/\j.length<=63:=by
    have:=HF hd;simp only[D7,Gv,Gw]at this;rcases this with rfl|rfl|rfl;show#[L,Y,()]
    show#[L.reverse,Y,by rw[Jp];lia];show#[z3,Y,()]
   show#[_,Y,iH<|J5.t<|OA<|z58<|z24<|HP.u<|uQ 4 Y PL (hr.mono<|()) ()<|zd<|zc 2 Y<|zd<|zc 7 Y<|zm #[y,n,_,p,j,Y,P,l,(),K,lz,λA m W X=>#[_,A,Y,W,#[X,I,Y,?_]]]];show sT Y (fP<|pE hr.units<|DP.u<|uw 4 Y SE (hr.mono<|()) ()<|zm #[y,0,A,_,p,[],Y,m,l,K,(),_,Y,DP.u<|zc 5 Y<|Ip (w.shaped<|()) (w.shaped<|()) w.nod w.nod ?_]);rw[LK _ w.lay];show yc Y ?_
   repeat show zu ?_
   show#[A,_,m,Y]
 intro O u8;have Wh n T P rfl:=u8;show zU 8 nd (wH CS (hr.mono<|()) ()<|wG 1 Y<|zd<|zc 2 Y<|zm #[y,Y,l,(),λc g c0 c1 g0 g1 g2=>dq 9 nd<|HP.u<|uQ 4 Y DO (hr.mono<|()) ()<|zd<|yB<|zd<|zM<|zd<|zc 8 Y<|zm #[_,Y,GI Y,zm #[y,0,n,#[2,_,p,[],_,Y,P,l,#[6,K,(),(),.take c0 c1 g0 g1 g2,λ_=>#[λk a5 a4 t tx hk=>?_,λr p' A dn m W X=>?_],λe=>by cases e]]]]]);have k0:=hk #[_,Y];obtain⟨j,rfl⟩:∃j:TN,t=.tuple [.str "off",.list (j.map .int)]:=by
  induction tx with|o j=>show#[j,Y]|_=>cases k0
 show#[1,_,n,Y,Y,Y,jA<|DP.u<|Of<|lG hr.units<|zN hr.one (λ_ _=>Y)<|zc 9 Y<|zw<|GR Y Y Y<|zM<|xi #[_,Y,pj () Y]];have e:r=.int 0:=by
  cases dn with|take=>rw[f0]|book h=>show Ut Y<|h _
 subst e;show#[1,_,A,Y,W,X,jA<|DP.u<|Of<|lG hr.units<|zN hr.one (λ_ _=>Y)<|zc 9 Y<|zw<|GR Y Y Y<|zM<|xi #[_,Y,sT () ?_]];show QS<|lG hr.units<|zc 9 Y<|yB<|zd<|zM<|zd<|zw<|zm #[_,Y,GI Y,Ip () () Y Y<|by rw[show PyData.eqv (OS<|.int 0) _=I by symm]]
def us1{p:List u3->Prop}(h:∀a,p [a])(b:List u3)(c:b.length=1):p b:=by have#[a,rfl]:=List.length_eq_one_iff.mp c;show h a
def us2{p:List u3->Prop}(h:∀a b,p [a,b])(c:List u3)(d:c.length=2):p c:=by
 cases c with|nil=>cases d|cons a c=>show us1 (p:=λc=>p (a::c)) (h a) c<|Nat.succ.inj d
def us3{p:List u3->Prop}(h:∀a b c,p [a,b,c])(d:List u3)(e:d.length=3):p d:=by
 cases d with|nil=>cases e|cons a d=>show us2 (p:=λd=>p (a::d)) (h a) d<|Nat.succ.inj e
def us4{p:List u3->Prop}(h:∀a b c d,p [a,b,c,d])(e:List u3)(f:e.length=4):p e:=by
 cases e with|nil=>cases f|cons a e=>show us3 (p:=λe=>p (a::e)) (h a) e<|Nat.succ.inj f
def Ig (K:Cl)(f:Ch)(d e:Zv)(b:Da)(c:TR):Prop:=∃a,Gi K d e b f a/\DQ K a c []
def mkF (l:q.lookup i=J #[f9,w5,.func (Zl p H (yg g8) (zA g8) (zb g8) .none m6 v7 j5 AH t8 x8),Br])(c:Zo q t8 H=I)(k:Zh q (.ref i)=I)
  (b:∀(m6 a j5:Bs) (AH:Ua) (cdv x8:Bs) (us:TQ),us.length=S.length->bindArgs (Zl p H (yg g8) (zA g8) (zb g8) .none m6 a j5 AH cdv x8) #[us,[]]=pure (S.zip us):=by intro _ _ _ _ _ _;first|exact K79.us1 λ_=>Y|exact K79.us2 λ_ _=>Y|exact K79.us3 λ_ _ _=>Y|exact K79.us4 λ_ _ _ _=>Y):Ig q i p H g8 S:=#[_,lQ l c k,(lQ l c k).binds b]
def mkG (X:q.In v)(G:v.Ns C2 C)(a:Zj q C2 p=J (J (.ref i)))(c:Ig q i p p g8 S):D5 q C p g8 S:=by have#[_,F,b]:=c;show#[i,_,F,He X G a,b]
def mkR(r:Zq q i Zv.empty=I)(b:Zm q i=I)(g:Zr q i=I)(o:Zi q (.ref i) "__setattr__"=J (J (.builtin "object.__setattr__")))(l:Zi q (.ref i) "first"=J D)(a:Zi q (.ref i) "last"=J D)(c:Zi q (.ref i) "worth"=J D)(h:Zs q i=I)(d:Zi q (.ref i) "__init__"=J (J (.ref x)))(j:Zk q (.ref x)=I)(t:Zh q (.ref i)=I)(n:Zi q (.ref i) "told"=J (J (.ref R)))(v:Zk q (.ref R)=I)(p:Zh q (.ref R)=I)(s:Zi q (.ref i) "tells"=J (J (.ref oa)))(u:Zk q (.ref oa)=I)(f:Zh q (.ref oa)=I)(m:Zi q (.ref i) "word"=J (J (.ref Aw)))(e:Zk q (.ref Aw)=I)(k:Zh q (.ref Aw)=I):rD q i x R oa Aw:=#[#[r,b,g,o],l,a,c,#[h,d,j,t],#[n,v,p],#[s,u,f],#[m,e,k]]
def ag(c:q.lookup i=J #[f9,w5,.seq [.none].toArray l,Br]):
  DQ q (Zl "__init__" "Book.__init__" (yg yW) (zA yW) (zb yW) (.ref i) m6 v7 j5 AH t8 x8) ["self","rules"] [.none]:=λs b hk a=>by
 match b,(show b.length=1 by rw[GJ]at a;simpa using a)with
 |[u],_=>show BindsTo.of_defaults (T:=i) Y (hk _ _ c) Y Y Y
def oO(b:q.lookup i=J #[f9,w5,.seq [.none].toArray l,Br]):
  DQ q (Zl "__init__" "Book.__init__" (yg yW) (zA yW) (zb yW) (.ref i) m6 v7 j5 AH t8 x8) ["self","rules"] []:=λs c hk a=>by
 rw[G9]at a ⊢
 match c,a with
 |[u,v],_=>show BindsTo.of_defaults (T:=i) Y (hk _ _ b) Y Y Y
def Nf {P:Zv->Prop}(h:P "price")(b:P "come")(d:P "go")(f:P "least")(c:P "most")(e:P "deal")(g:P "fee"):∀u∈DR,P u:=by intro u a;simp only[DR,D7,Gv,Gw]at a;rcases a with rfl|rfl|rfl|rfl|rfl|rfl|rfl<;>assumption
def MD (K:Cl)(C:Ch)(b e:Zv)(c:Da)(d:TR):Prop:=∃g a,Ge K C b g/\Gi K b e c g a/\DQ K a d []
def mkM(a:Zi q (.ref i) p=J (J (.ref x)))(b:Zk q (.ref x)=I)(c:Ig q x p H g8 S):MD q i p H g8 S:=by have#[d,F,e]:=c;show#[x,d,#[a,b,F.kp],F,e]
variable {Am:PySem.W.OpenLaw}{Av BA FQ FR FT FV BB Ej FW FX FY FZ Ga Gb:Tok}
def all_mk(X:q.In v)(G:v.Ns C2 C)(so:C "law"=J (.ref i))(d2:D5 q C "is_whole" gp ["thing"])(g:D5 q C "is_whole_within" lE ["thing","lowest","highest"])(j2:D5 q C "is_pair" RN ["thing"])(kd:D5 q C "is_day" RO ["thing"])(k:D5 q C "is_pair_of_days" OH ["thing"])(a4:D5 q C "is_stretch" pT ["thing"])(d1:D5 q C "is_coins" fq ["thing"])(iv:D5 q C "is_deal" bp ["thing"])(d4:D5 q C "is_worth" iU ["word","thing"])(eg:D5 q C "is_rule" nY ["thing"])(q4:D5 q C "made" RT ["word","first","last","worth"])(e3:D5 q C "rule_of" mL ["thing"])(gn:D5 q C "nights_of" dH ["stay"])(o2:D5 q C "usual" R0 ["word"])(a5:D5 q C "kept_rules" bB ["things"])(k5:D5 q C "laid" cu ["elder","newer"])(vi:Zj q C2 "cheapest_first"=J (J (.ref R)))(r9:q.lookup R=J #[f9,w5,.func (Zl "cheapest_first" "cheapest_first" (yg yU) (zA yU) (zb yU) .none m6 v7 j5 AH (.ref x) t8),Br])(rx:Zo q (.ref x) "cheapest_first"=I)(rv:Zh q (.ref R)=I)(m1:D5 q C "marked" cT ["prices","deal"])(dr:D5 q C "night_prices" Su ["book","nights"])(q1:D5 q C "bill" Sv ["book","stay"])(q3:D5 q C "bars" jz ["book","stay"])(f5:D5 q C "can_be_had" Sl ["book","stay"])(d8:D5 q C "cost_or_none" Sm ["book","stay"])(i9:D5 q C "arrivals" Sz ["books","ways","day"])(ey:D5 q C "least_ways" SA ["books","stay"])(lj:D5 q C "cut_of" SD ["ways","stay"])(i0:D5 q C "paper_of" SF ["ways","stay"])(qa:D5 q C "best" SG ["books","stay"])(l9:D5 q C "closed" bx ["books","nights"])(dm:D5 q C "best_without" SH ["books","nights","stay"])(m4:D5 q C "edges" SM ["rules","word"])(kk:D5 q C "unlike" SN ["one","other"])(k8:D5 q C "tidied" SO ["book"])(d5:D5 q C "_law_cell_at" OX ["_law_script","_law_k"])(ez:D5 q C "_law_begin" RL ["_law_cell"])(fe:D5 q C "_law_take" OG ["_law_row","_law_base"])(en:D5 q C "_law_coins" cj ["_law_row"])(ek:D5 q C "_law_worth" cc ["_law_row","_law_word"])(hc:D5 q C "_law_rule" R5 ["_law_row","_law_day_here"])(ie:D5 q C "_law_day" R6 ["_law_row"])(h4:D5 q C "_law_stay" R7 ["_law_row","_law_day_here"])(hp:D5 q C "_law_few" Ta ["_law_row","_law_day_here","_law_most"])(hg:D5 q C "_law_deed" Tb ["_law_row","_law_day_here","_law_rules","_law_taken"])(h6:D5 q C "_law_done" OR ["_law_inn","_law_deed_here"])(h2:D5 q C "_law_seen" OU ["_law_inn"])(ej:D5 q C "_law_played" lH ["_law_inn","_law_day_here","_law_cells"])(t2:Zj q C2 "law"=J (J (.ref oa)))(te:q.lookup oa=J #[x8,FH,.func (Zl "law" "law" (yg nR) (zA nR) (zb nR) .none AA Fy Fz F1 EN F0),FL])(u9:Zo q EN "law"=I)(v5:Zh q (.ref oa)=I)(mf:Zj q C2 "Price"=J (J (.ref AO)))(q7:Zj q C2 "Come"=J (J (.ref AQ)))(ra:Zj q C2 "Go"=J (J (.ref AR)))(n0:Zj q C2 "Least"=J (J (.ref AS)))(p9:Zj q C2 "Most"=J (J (.ref AU)))(qs:Zj q C2 "Deal"=J (J (.ref AW)))(r6:Zj q C2 "Fee"=J (J (.ref AX)))(V:rD q AO Aw Bo Bz Ft)(ck:rD q AQ Aw Bo Bz Fu)(k9:rD q AR Aw Bo Bz Fv)(U:rD q AS Aw Bo Bz Fm)(cm:rD q AU Aw Bo Bz Fo)(cf:rD q AW Aw Bo Bz Fp)(fa:rD q AX Aw Bo Bz Fq)(qn:Ig q Aw "__init__" "Rule.__init__" RP ["self","first","last","worth"])(q9:Ig q Bo "told" "Rule.told" RQ ["self"])(m9:Ig q Bz "tells" "Rule.tells" RS ["self","day"])(kq:Ig q Ft "word" "Price.word" zM8 ["self"])(mz:Ig q Fu "word" "Come.word" zZ7 ["self"])(r7:Ig q Fv "word" "Go.word" ym6 ["self"])(lk:Ig q Fm "word" "Least.word" zO7 ["self"])(m5:Ig q Fo "word" "Most.word" z57 ["self"])(n9:Ig q Fp "word" "Deal.word" zZ9 ["self"])(qq:Ig q Fq "word" "Fee.word" yb7 ["self"])(td:Zj q C2 "Book"=J (J (.ref A0)))(l0:Zi q (.ref A0) "__init__"=J (J (.ref Cy)))(lr:Zk q (.ref Cy)=I)(hl:q.lookup Cy=J #[F9,FI,.func (Zl "__init__" "Book.__init__" (yg yW) (zA yW) (zb yW) (.ref Fs) FC FD FE FJ Fx FF),FN])(hu:Zo q Fx "Book.__init__"=I)(i8:Zh q (.ref Cy)=I)(lT:q.lookup Fs=J #[FG,FK,.seq [.none].toArray l,FO])(lb:MD q A0 "rules" "Book.rules" tw ["self"])(ly:MD q A0 "tells_of" "Book.tells_of" du ["self","word","day"])(vx:Zq q A0 Zv.empty=I)(t9:Zm q A0=I)(vl:Zr q A0=I)(vk:Zi q (.ref A0) "__setattr__"=J (J (.builtin "object.__setattr__")))(x1:Zs q A0=I)(wd:Zh q (.ref A0)=I)(r5:Zi q (.ref A0) "kept"=J D)(u4:Zj q C2 "Inn"=J (J (.ref Ah)))(ll:Zi q (.ref Ah) "__init__"=J (J (.ref ED)))(kj:Zk q (.ref ED)=I)(mu:Ig q ED "__init__" "Inn.__init__" fV ["self","rooms","books"])(mv:MD q Ah "best" "Inn.best" fX ["self","stay"])(mc:MD q Ah "take" "Inn.take" gr ["self","stay"])(f6:MD q Ah "give_back" "Inn.give_back" pK ["self","number"])(pk:MD q Ah "lay" "Inn.lay" jV ["self","name","rules"])(nz:MD q Ah "tidy" "Inn.tidy" qY ["self","name"])(mr:MD q Ah "undo" "Inn.undo" pA ["self"])(g8:MD q Ah "standing" "Inn.standing" mF ["self"])(o5:MD q Ah "full" "Inn.full" gq ["self"])(gb:MD q Ah "rules_of" "Inn.rules_of" sE ["self","name"])(fv:MD q Ah "place_of" "Inn.place_of" tf ["self","name"])(pw:MD q Ah "put" "Inn.put" OM ["self","place","book"])(h8:MD q Ah "remember" "Inn.remember" ON ["self"])(t6:Zq q Ah Zv.empty=I)(vy:Zm q Ah=I)(u5:Zr q Ah=I)(sm:Zi q (.ref Ah) "__setattr__"=J (J (.builtin "object.__setattr__")))(t4:Zs q Ah=I)(w9:Zh q (.ref Ah)=I)(dc:Zi q (.ref Ah) "room_count"=J D)(j3:Zi q (.ref Ah) "names"=J D)(ix:Zi q (.ref Ah) "books"=J D)(j8:Zi q (.ref Ah) "taken"=J D)(ei:Zi q (.ref Ah) "following"=J D)(kc:Zi q (.ref Ah) "past"=J D)(w1:Zj q C2 "ClosedBook"=J (J (.ref Bu)))(la:Zi q (.ref Bu) "__init__"=J (J (.ref EE)))(l4:Zk q (.ref EE)=I)(ox:Ig q EE "__init__" "ClosedBook.__init__" Si ["self","book","nights"])(g6:MD q Bu "tells_of" "ClosedBook.tells_of" me ["self","word","day"])(wi:Zq q Bu Zv.empty=I)(vr:Zm q Bu=I)(w0:Zr q Bu=I)(s9:Zi q (.ref Bu) "__setattr__"=J (J (.builtin "object.__setattr__")))(w3:Zs q Bu=I)(um:Zh q (.ref Bu)=I)(f7:Zi q (.ref Bu) "book"=J D)(cw:Zi q (.ref Bu) "nights"=J D)(z1:Zj q C2 "abs"=J D)(z2:Zj q C2 "list"=J D)(z3:Zj q C2 "len"=J D)(z4:Zj q C2 "range"=J D)(z5:Zj q C2 "min"=J D)(z6:Zj q C2 "max"=J D)(z7:Zj q C2 "sorted"=J D)(z8:Zj q C2 "isinstance"=J D)(z9:Zj q C2 "int"=J D)(tv:Zj q C2 "bool"=J D)(vu:Zj q C2 "str"=J D)(w7:Zj q C2 "tuple"=J D)(w2:Zj q C2 "all"=J D)(w4:Zj q C2 "any"=J D)(x2:Zj q C2 "repr"=J D)(u1:Zj q C2 "zip"=J D)(ta:Zj q C2 "enumerate"=J D)(u7:Zj q C2 "reversed"=J D)(sf:Zj q C2 "sum"=J D)(v9:Zj q C2 "set"=J D)(t5:Zj q C2 "ValueError"=J D)(tx:Zj q C2 "LAST_DAY"=J (J (.int 1000000 Av)))(rk:Zj q C2 "MOST_NIGHTS"=J (J (.int 14 BA)))(rr:Zj q C2 "MOST_COINS"=J (J (.int 1000000000000 BB)))(ro:Zj q C2 "MOST_RULES"=J (J (.int 24 Ej)))(aU:Zj q C2 "USUAL"=J (J (.ref Ep)))(lU:q.lookup Ep=J #[.type "dict",D,.dict [#[L,.str "price" FW,.none],#[gi,.str "come" FX,.bool I],#[Ai,.str "go" FY,.bool I],#[Bc,.str "least" FZ,.int 1 FR],#[Ea,.str "most" Ga,.int 14 FT],#[Fi,.str "deal" Gb,.none],#[Fj,.str "fee" FQ,.int 0 FV]].toArray N,[].toArray])(u2:L=hashStr s "price")(w8:gi=hashStr s "come")(wk:Ai=hashStr s "go")(v8:Bc=hashStr s "least")(sd:Ea=hashStr s "most")(w6:Fi=hashStr s "deal")(u3:Fj=hashStr s "fee")(u6:PySem.W.codeHdIn q x yI=I)(tb:(Ep == Ya)=Za)(wg:Zj q C2 "StayError"=J (J (.ref Bn)))(qd:Zj q C2 "Off"=J (J (.ref AE)))(ig:Zj q C2 "NoTaken"=J (J (.ref AI)))(j0:Zj q C2 "NoName"=J (J (.ref AJ)))(ip:Zj q C2 "NoRule"=J (J (.ref AF)))(hs:Zj q C2 "TooMany"=J (J (.ref AY)))(ij:Zj q C2 "NoDeed"=J (J (.ref AK)))(qy:Zi q (.ref AF) "__init__"=J (J (.ref EF)))(j4:Zt q (.ref EF)=J (.type "function"))(k2:Ig q EF "__init__" "NoRule.__init__" OL ["self","number"])(s8:Zi q (.ref AE) "__init__"=J (J (.ref EG)))(qe:Zt q (.ref EG)=J (.type "function"))(q5:Ig q EG "__init__" "Off.__init__" OQ ["self","days"])(ri:OD q Bn=I)(pq:vP q AE Bn (J (.ref EG))=I)(q8:Zh q (.ref AE)=I)(hv:vP q AI Bn D=I)(ic:Zh q (.ref AI)=I)(k1:vP q AJ Bn D=I)(k0:Zh q (.ref AJ)=I)(ih:vP q AF Bn (J (.ref EF))=I)(j6:Zh q (.ref AF)=I)(hz:vP q AY Bn D=I)(i7:Zh q (.ref AY)=I)(j7:vP q AK Bn D=I)(il:Zh q (.ref AK)=I)(m:Zi q (.ref AF) "number"=J D)(c1:Zi q (.ref AE) "days"=J D)(bb:rA q AE Bn=I)(M:rA q AI Bn=I)(T:rA q AJ Bn=I)(S:rA q AF Bn=I)(K:rA q AY Bn=I)(Q:rA q AK Bn=I)(i4:Zg q (.ref AE) (.ref AE)=J I)(d9:Zg q (.ref AE) (.ref AI)=J Za)(e5:Zg q (.ref AE) (.ref AJ)=J Za)(ee:Zg q (.ref AE) (.ref AF)=J Za)(d6:Zg q (.ref AE) (.ref AY)=J Za)(ea:Zg q (.ref AE) (.ref AK)=J Za)(dd:Zg q (.ref AI) (.ref AE)=J Za)(a3:Zg q (.ref AI) (.ref AI)=J I)(au:Zg q (.ref AI) (.ref AJ)=J Za)(az:Zg q (.ref AI) (.ref AF)=J Za)(Z:Zg q (.ref AI) (.ref AY)=J Za)(ax:Zg q (.ref AI) (.ref AK)=J Za)(e7:Zg q (.ref AJ) (.ref AE)=J Za)(b2:Zg q (.ref AJ) (.ref AI)=J Za)(c9:Zg q (.ref AJ) (.ref AJ)=J I)(b8:Zg q (.ref AJ) (.ref AF)=J Za)(a9:Zg q (.ref AJ) (.ref AY)=J Za)(c2:Zg q (.ref AJ) (.ref AK)=J Za)(eb:Zg q (.ref AF) (.ref AE)=J Za)(b5:Zg q (.ref AF) (.ref AI)=J Za)(b9:Zg q (.ref AF) (.ref AJ)=J Za)(c6:Zg q (.ref AF) (.ref AF)=J I)(b1:Zg q (.ref AF) (.ref AY)=J Za)(c4:Zg q (.ref AF) (.ref AK)=J Za)(d7:Zg q (.ref AY) (.ref AE)=J Za)(a0:Zg q (.ref AY) (.ref AI)=J Za)(ah:Zg q (.ref AY) (.ref AJ)=J Za)(b0:Zg q (.ref AY) (.ref AF)=J Za)(W:Zg q (.ref AY) (.ref AY)=J I)(ay:Zg q (.ref AY) (.ref AK)=J Za)(ec:Zg q (.ref AK) (.ref AE)=J Za)(b3:Zg q (.ref AK) (.ref AI)=J Za)(bg:Zg q (.ref AK) (.ref AJ)=J Za)(c7:Zg q (.ref AK) (.ref AF)=J Za)(b4:Zg q (.ref AK) (.ref AY)=J Za)(c5:Zg q (.ref AK) (.ref AK)=J I)(ab:Zg q (.ref AE) (.type "ValueError")=J I)(y:Zg q (.ref AI) (.type "ValueError")=J I)(H:Zg q (.ref AJ) (.type "ValueError")=J I)(O:Zg q (.ref AF) (.type "ValueError")=J I)(o:Zg q (.ref AY) (.type "ValueError")=J I)(F:Zg q (.ref AK) (.type "ValueError")=J I):∃fd:Dd,(∀(x4:C1) (u0:Bs),BindsTo x4 fd #[[u0],[]] [("_law_script",u0)])/\∀a:C7,q.In a->a.Ns C2 C->a.BuiltinsAt C yI->zX Am.prog s q C a GA 17 i fd ["_law_script"] (qQ q):=by
 cases(so.symm.trans<|He X G t2);have nb:GY C:=#[HJ X G z1,HJ X G z2,HJ X G z3,HJ X G z4,HJ X G z5,HJ X G z6,HJ X G z7,HJ X G z8,HJ X G z9,HJ X G tv,HJ X G vu,HJ X G w7,HJ X G w2,HJ X G w4,HJ X G x2,HJ X G u1,HJ X G ta,HJ X G u7,HJ X G sf];have r3:C "set"=D:=HJ X G v9;have f3:C "ValueError"=D:=HJ X G t5;have#[_,_,et,er,eo]:=id a5;have#[_,_,q2,pb,q6]:=id k5;have bc:C "cheapest_first"=J (.ref R):=He X G vi;have b6:=lQ (st:=yU) r9 rx rv;have bo:=b6.binds (ps:=["prices","places"]) λ_ _ _ _ _ _=>us2 λ_ _=>Y;have#[_,_,E,da,dn]:=id d5;have#[_,_,bt,gw,h7]:=id fe;have#[_,_,gm,gx,fx]:=id h6;have#[_,_,fm,h1,hh]:=id h2;have#[_,_,e9,e4,e0]:=id ej;have m2:=lQ (st:=nR) te u9 v5;have vz:=m2.binds (ps:=["_law_script"]) λ_ _ _ _ _ _=>us1 λ_=>Y;have#[_,A,r]:=qn;have#[_,p,B]:=q9;have#[_,h,j]:=m9;have#[_,kl,ka]:=kq;have#[_,m3,p0]:=mz;have#[_,r2,r4]:=r7;have#[_,kx,l7]:=lk;have#[_,o6,p7]:=m5;have#[_,o1,nj]:=n9;have#[_,qu,qt]:=qq;have#[_,_,l8,lg,l5]:=lb;have#[_,_,l6,lz,ko]:=ly;show#[Zl "law" "law" (yg nR) (zA nR) (zb nR) .none AA Fy Fz F1 EN F0,λx4 u0=>.of_eq Y,λa KX _ t7=>?_];have q0:=fH (P:=Am.prog) (w:=s) (base:=a) g<|zH0 d2 nb;have qx:=zf8 (P:=Am.prog) (w:=s) (base:=a) j2 nb;have s7:=zc3 kd #[Av,He X G tx] q0;have r8:=jo a4<|zi2 k qx s7;have s6:=gC (P:=Am.prog) (w:=s) (base:=a) e3 (iQ eg nb r8<|jG d4 nb #[BA,He X G rk] q0 (ke d1 #[BB,He X G rr] q0)<|fU iv #[BA,He X G rk] qx q0)<|zy2 (cs:=#[AO,AQ,AR,AS,AU,AW,AX]) q4 (xr V (He X G mf) A r) (xr ck (He X G q7) A r) (xr k9 (He X G ra) A r) (xr U (He X G n0) A r) (xr cm (He X G p9) A r) (xr cf (He X G qs) A r)<|xr fa (He X G r6) A r;have cB:GP q A0:=#[vx,t9,vl,vk];have rz:=zg5 (dM (st:=yW) hl hu i8) cB r5<|zw3 a5 nb #[Ej,He X G ro] s6;have g0:C "Book"=J (.ref A0):=He X G td;have r0:Mk q A0 Cy:=#[x1,l0,lr,wd];have p8:vS Am.prog s q C a "Book" 9 [] (vX A0 #[AO,AQ,AR,AS,AU,AW,AX]):=#[A0,Cy,_,_,_,g0,r0,oO lT,.nil,rz];have x3:vS Am.prog s q C a "Book" 9 [.non] (vX A0 #[AO,AQ,AR,AS,AU,AW,AX]):=#[A0,Cy,_,_,_,g0,r0,ag lT,.cons Y .nil,rz];have OW:∀u∈DR,xm Am.prog s q C a ((#[AO,AQ,AR,AS,AU,AW,AX]:Cs).of u) "word" 1 (mW ((#[AO,AQ,AR,AS,AU,AW,AX]:Cs).of u) u):=Nf (xt V kl ka .o Y) (xt ck m3 p0 .o Y) (xt k9 r2 r4 .o Y) (xt U kx l7 .o Y) (xt cm o6 p7 .o Y) (xt cf o1 nj .o Y)<|xt fa qu qt .o Y;have OT:∀u∈DR,xm Am.prog s q C a ((#[AO,AQ,AR,AS,AU,AW,AX]:Cs).of u) "told" 2 (gE ((#[AO,AQ,AR,AS,AU,AW,AX]:Cs).of u) u):=Nf (xq V p B<|OW _<|by simp[DR]) (xq ck p B<|OW _<|by simp[DR]) (xq k9 p B<|OW _<|by simp[DR]) (xq U p B<|OW _<|by simp[DR]) (xq cm p B<|OW _<|by simp[DR]) (xq cf p B<|OW _<|by simp[DR]) (xq fa p B<|OW _<|by simp[DR]);have DU:cA q s Ep Lp:=#[_,N,lU,.cons #[u2,#[_,Y],Y]<|.cons #[w8,#[_,Y],Y]<|.cons #[wk,#[_,Y],Y]<|.cons #[v8,#[_,Y],#[_,Y]]<|.cons #[sd,#[_,Y],#[_,Y]]<|.cons #[w6,#[_,Y],Y]<|.cons #[u3,#[_,Y],#[_,Y]]<|.nil,()];have wh:∀u∈DR,xm Am.prog s q C a ((#[AO,AQ,AR,AS,AU,AW,AX]:Cs).of u) "tells" 1 (oj<|(#[AO,AQ,AR,AS,AU,AW,AX]:Cs).of u):=Nf (yH V h j) (yH ck h j) (yH k9 h j) (yH U h j) (yH cm h j) (yH cf h j)<|yH fa h j;have OC:∀u∈DR,GP q ((#[AO,AQ,AR,AS,AU,AW,AX]:Cs).of u)/\zL q ((#[AO,AQ,AR,AS,AU,AW,AX]:Cs).of u) "worth":=Nf (#[V.cl,V.nw]) (#[ck.cl,ck.nw]) (#[k9.cl,k9.nw]) (#[U.cl,U.nw]) (#[cm.cl,cm.nw]) (#[cf.cl,cf.nw])<|#[fa.cl,fa.nw];have ru:=fk (P:=Am.prog) (base:=a) cB r5 l6 lz ko nb (aZ o2 (He X G aU) DU) OW wh OC;have MR:=gS cB r5 l8 lg l5 OT;have v3:Mk q Ah ED:=#[t4,ll,kj,w9];have qz:C "Inn"=J (.ref Ah):=He X G u4;have#[_,o4,ov]:=mu;have#[_,_,n8,mm,o9]:=mv;have#[_,_,o8,n7,m8]:=mc;have#[_,_,a8,a7,a6]:=f6;have#[_,_,k4,k7,k3]:=pk;have#[_,_,ho,ht,hx]:=nz;have#[_,_,hj,i5,i6]:=mr;have#[_,_,gs,h5,gv]:=g8;have#[_,_,m7,o3,nq]:=o5;have#[_,_,g4,h9,g9]:=gb;have#[_,_,c8,c3,b7]:=fv;have#[_,_,pz,ql,qr]:=pw;have#[_,_,g5,g7,fu]:=h8;have th:Mk q Bu EE:=#[w3,la,l4,um];have ew:C "ClosedBook"=J (.ref Bu):=He X G w1;have#[_,mx,o7]:=ox;have#[_,_,fy,h3,gy]:=g6;have z:C "StayError"=J (.ref Bn):=He X G wg;have t:C "Off"=J (.ref AE):=He X G qd;have b:C "NoTaken"=J (.ref AI):=He X G ig;have e:C "NoName"=J (.ref AJ):=He X G j0;have d:C "NoRule"=J (.ref AF):=He X G ip;have c:C "TooMany"=J (.ref AY):=He X G hs;have f:C "NoDeed"=J (.ref AK):=He X G ij;have k6:=XC.of pq;have d3:=XC.of hv;have e8:=XC.of k1;have e6:=XC.of ih;have d0:=XC.of hz;have e2:=XC.of j7;have#[_,j1,j9]:=k2;have#[_,qi,qb]:=q5;have rb:=bY (P:=Am.prog) (w:=s) (base:=a) ez;have CD:DY Am.prog s q C a "_law_take" 1 wc:=zf2 gw bt.kp h7<|zE0 bt;have rm:=zt9 hc nb CD<|ar ek CD<|zb0 en CD;have ry:=zt0 h4 nb CD;have CN:=iN (P:=Am.prog) (w:=s) (base:=a) gn nb;have tc:DY Am.prog s q C a "cheapest_first" 3 lL:=bK r9 rx rv bc bo nb u6 KX t7;have se:DY Am.prog s q C a "marked" 4 pS:=fO m1 nb tc;have cZ:GP q Bu:=#[wi,vr,w0,s9];have r1:=ia cZ f7 cw fy h3 gy ru;obtain⟨_,DN⟩:∃n,pX q s Ep Lp n:=by have#[es,n,v]:=DU;show#[n,es,v]
 have rl:=gk (P:=Am.prog) (w:=s) (base:=a) (dM (st:=yW) hl hu i8) g0 r0 (oO lT)<|aQ et er eo nb #[Ej,He X G ro] s6 (zc1 e3<|zG2 eg nb r8 (zx9 a4<|z72 k qx s7)<|zM7 d4<|zI9 d1 #[BB,He X G rr]<|zO1 g<|zP6 d2 nb) (z99 j1 j9 d z j6 j4 (XS.of ri) e6 m) #[c,i7,#[_,d0.ok]];have IC:IK q Ah:=#[#[t6,vy,u5,sm],dc,j3,ix,j8,ei,kc];have RM:=zd6 (P:=Am.prog) (w:=s) (mg:=C) (base:=a) (cs:=#[AO,AQ,AR,AS,AU,AW,AX]) (CB:=A0) IC g5 g7 fu;have PU:=bT IC pz ql qr RM;have PL:=jD (P:=Am.prog) (w:=s) (mg:=C) (base:=a) (cs:=#[AO,AQ,AR,AS,AU,AW,AX]) (CB:=A0) IC c8 c3 b7;have PX:=nP (P:=Am.prog) (w:=s) (mg:=C) (base:=a) (cs:=#[AO,AQ,AR,AS,AU,AW,AX]) (CB:=A0) IC c8 c3 b7 (CN:=AJ) #[e,k0,#[_,e8.ok]];have FU:=iT (P:=Am.prog) (w:=s) (mg:=C) (base:=a) (cs:=#[AO,AQ,AR,AS,AU,AW,AX]) (CB:=A0) IC m7 o3 nq nb CN;have xh:XH q C Bn #[AE,AI,AJ,AF,AY,AK]:=#[z,f3,#[XB.of bb,#[_,k6],#[_,t,i4],#[_,b,d9],#[_,e,e5],#[_,d,ee],#[_,c,d6],#[_,f,ea],ab],#[XB.of M,#[_,d3],#[_,t,dd],#[_,b,a3],#[_,e,au],#[_,d,az],#[_,c,Z],#[_,f,ax],y],#[XB.of T,#[_,e8],#[_,t,e7],#[_,b,b2],#[_,e,c9],#[_,d,b8],#[_,c,a9],#[_,f,c2],H],#[XB.of S,#[_,e6],#[_,t,eb],#[_,b,b5],#[_,e,b9],#[_,d,c6],#[_,c,b1],#[_,f,c4],O],#[XB.of K,#[_,d0],#[_,t,d7],#[_,b,a0],#[_,e,ah],#[_,d,b0],#[_,c,W],#[_,f,ay],o],#[XB.of Q,#[_,e2],#[_,t,ec],#[_,b,b3],#[_,e,bg],#[_,d,c7],#[_,c,b4],#[_,f,c5],F],m,c1];have DO:=aJ (P:=Am.prog) (w:=s) (mg:=C) (base:=a) (cs:=#[AO,AQ,AR,AS,AU,AW,AX]) (CB:=A0) IC xh nb gm gx fx (jZ IC o8 n7 m8 nb (ib IC n8 mm o9 FU<|aS dm (eB l9<|jR cZ f7 cw ew th mx o7 nb)<|zt1 qa nb (z88 ey nb<|zF4 i9 nb<|zE1 d8 (zM0 f5<|zB0 q3 CN r1)<|zw8 q1 nb r1 CN (z36 dr r1) se) (zG7 lj nb)<|zb4 i0 nb) RM<|zG4 nb qi qb t z q8 qe (XS.of ri) k6 c1) (iw IC a8 a7 a6 nb RM) (jJ IC a8 a7 a6 nb (CK:=AI) #[b,ic,#[_,d3.ok]]) (ze7 IC k4 k7 k3 PL PU p8<|zj9 k5 p8 MR) (iu IC k4 k7 k3 PL PX PU p8 rl<|ze3 q2 pb q6 rl MR) (iD IC ho ht hx PL PU<|zp0 k8 nb (zN6 kk (He X G aU) DN tb (bV m4 nb r3) MR ru) p8 MR) (jW IC ho ht hx PX) (fM IC hj i5 i6)<|jN IC hj i5 i6 (CD:=AK) #[f,il,#[_,e2.ok]];have SE:=aN (P:=Am.prog) (w:=s) (mg:=C) (base:=a) (cs:=#[AO,AQ,AR,AS,AU,AW,AX]) (CB:=A0) IC fm h1 hh (jw IC gs h5 gv nb) FU<|oF IC g4 h9 g9 PL MR;show z02 m2 nb (zM4 (P:=Am.prog) (w:=s) (base:=a) E nb) da E.kp dn rb CD (zG8 ie CD) ry (zI0 hp nb CD rm) (zi0 IC qz v3 o4 ov p8) DO SE<|kE nb e9 e4 e0 rb (zj4 hg nb CD rm ry) DO SE
variable {CQ:(Tt)->Ul}{Bl:Params->Cl}{BH:C6->Ul}{Bh:DefRec}
def walk {l:PySem.W.OpenLaw}{c:Ch}(t:l.most=J 63)(j:Bh.params.defaults=[])(r:∀(w:C6) (h:C7),BH w h->(Bl w.params).In h) (i:∀(w:C6) (h:C7),BH w h->h.get? yI=J (pF [].toArray))(g:∀w:C6,(Bl w.params).lookup yI=D) (d:∀w:C6,∃o e,(Bl w.params).lookup c=J o/\o.cls=.type "code"/\o.data=.fields e/\e[11]?=J (.ref yI))(F:∀(w:C6) (mg:Tt) (p:Ch) (h:C7),(Bl w.params).In h->h.Ns C2 mg->mg Bh.name=J (.ref p)-> ∃m:Dd,(∀(s:C1) (u:Bs),BindsTo s m #[[u],[]] [("_law_script",u)])/\∀b:C7,(Bl w.params).In b->b.Ns C2 mg->b.BuiltinsAt mg yI->zX l.prog w (Bl w.params) mg b GA 17 p m ["_law_script"] (qQ (Bl w.params))):DH E S CQ BH l.row.toRowW Bh [] (λf e=>PySem.call f e):=
 L2.zl7 (n:=63) (k:=17) (x:="_law_script") (CX:=λ_=>GA) (sp:=λw=>qQ<|Bl w.params) t () j #[Y,(),(),Y] r i g d F (λ_ H a G B v q C=>#[a,G,Y,zp1 v q C,B,#[[].toArray,q,trivial,λA K y=>by cases y],λ_=>Y]) λ_ _ _ _ _ z=>z
end K79
end Lake
end
set_option genInjectivity false
structure PySem.W.Fast:Prop where(tw15713846119281447030 tw16829981463494622680 tw5507256257564346875 tw14310931208191158618 tw14702733070235852058 tw10713525594564902187 tw3853183077081678886 tw13047034554162996293 tw3532407418764550765 tw4287056785519719748 tw3120906699022422015 tw13946437710532134116 tw9739333732151665515 tw15428653466403516087 tw13188490201034926446 tw18155313753571043737 tw14828921377589576767 tw11222815397674746016 tw15430947114560856706 tw16296917271808032248 tw12994482541971762933 tw6476844222594225923 tw10981336325522001622 tw9853213104071461662 tw12609890938243578941 tw3184412747486407782 tw4234932691985280795 tw15977944222829736593 tw5253820426644145711 tw5733450969962324204 tw4106238355467457051 tw8249041460036909616 tw16118317511417881206 tw15065220961265534190 tw10220176736120906002 tw9016019177311478539 tw11751894997435066997 tw14566828743859677591 tw2970351238592743362 tw15241692067641211503 tw2576937435266534952 tw16608016627573609004 tw9406752434434913300 tw7793042459379993731 tw10413993368543257922 tw12728284675752799622 tw16656180615489674903 tw12832074343678570968 tw2051759880445831962 tw10916151605509408675 tw12676282834184632156 tw434331195898467051 tw3119096169213939557 tw18085715493345090509 tw17286566028103070144 tw5948576156308853613 tw18155561674527681862 tw8456231254764281709 tw8718607604475025647 tw13418693052291584942 tw9370052547049402254 tw17310504908816656331 tw7264834094050870531 tw2005787129807111503 tw5511677151805767604 tw16473772399207964739 tw7689901201981759338 tw10643213162045256930 tw11131011644804070747 tw17757239435547198681 tw7814633457327585978 tw14203787377392372058 tw4494308197946430472 tw9371959696012687641 tw6138004363922696569 tw1878412619977940258 tw8176891137741760236 tw14008601601417049482 tw2023210309233658842 tw11069253564786339815 tw18401295029023833249 tw2916207480815497070 tw798279944259105981 tw18404048270675870957 tw2208026943248007863 tw10422202110354465604 tw9455866434849232469 tw17398779680324151275 tw13473436893466042801 tw5743888379583355882 tw12800688714001115618 tw1075382047361140578 tw3450305495077224368 tw7091161249161435636 tw1121272570547132412 tw12654479352307336419 tw2870072728291446469 tw9579621332328404978 tw9906135034107648112 tw3702151351496178533 tw4977525565373029983 tw16432135764721600280 tw14949391972707934946 tw15164718395040575454 tw1107463586718640980 tw13290198620005922654 tw1631783445057453256 tw10962793184607606687 tw9911720325671842353 tw1815765796287733975 tw16105401212371382026 tw8041208425183163289 tw610837216112192474 tw4735801034268143117 tw14126324532984605071 tw1936929742074331739 tw13176495988070525305 tw11937177201497743405 tw10077792057602359139 tw8342403705878801809 tw4181982370600913016 tw9886059610507978424 tw17092031555440162452 tw5614377815855325792 tw15266389473473766181 tw1006028615687176349 tw4597263240762582263 tw1928362013513621664 tw12815571047736765747 tw12994466069257146932 tw12376025330591558049 tw756088393123432614 tw15682002070216534517 tw8518623436456468706 tw13820139012783812889 tw4792969147836814907 tw11403973790007148356 tw9986983461000973194 tw18115028010014484165 tw6272112359521008572 tw4268699595821091548 tw349991781087534042 tw15853097527866223072 tw18179356949680604631 tw15054773028033004119 tw12111158714217034086 tw2549903278846702615 tw14452719102766874057 tw3925737310966558269 tw7646343415807890203 tw15980988458370573526 tw11581938320441863423 tw356721091353112381 tw5185701710411480430 tw2248866789835637133 tw12386276634620717429 tw2562398546050024152 tw13032942857114033257 tw9810625487122891331 tw3773396030203621788 tw4463687074984532719 tw3392180717798031710 tw12428045962699066842 tw17168625223276309503 tw12292922646493231745 tw919255508783195256 tw6262176710254540348 tw12543242289867370230 tw17939509287772866287 tw13490130171725181609 tw12943376980262694519 tw14715089864468036036 tw14600180588175791473 tw17211360681517296639 tw8141663710927454235 tw1402625348958919836 tw2146390357540463424 tw14312330625801288312 tw1644962871898992515 tw15934459876811027721 tw16186623856780055343 tw15866810357796440378 tw5247184656135416768 tw6696930621020904435 tw17692245215324269475 tw4031421790296990027 tw2272319058317550365 tw12453223023069885746 tw2531402399978070215 tw4803135186044211621 tw17684225843677646806 tw3746721804389853940 tw15074322066818175471 tw7334727162087319531 tw6582053335425147134 tw5946928754159148356 tw11856632527378129956 tw5596398197460290031 tw13336982510996996999 tw17739382765260497936 tw8428759060517663461 tw2398946006967667448 tw239060844010914754 tw16733560323622761784 tw321442037298810315 tw6833096120732063497 tw7192082336804544872 tw61378402304306036 tw4394136051089175379 tw8535218008683136499 tw6314935818617837980 tw8160568820820095275 tw8873353961508250794 tw8059616379906089931 tw8464360752188745015 tw16037242767402461994 tw13142222138442064511 tw16528747111319651482 tw13776730904574673202 tw603708295956732628 tw10496896710541322607 tw4964254669757103372 tw2428881682351208242 tw187641692404011804 tw6874210087555739395 tw6286190487279531756 tw6143011631737388781 tw5222248341077615334 tw9521046616379872507 tw18290657129487514209 tw8765713881160051585 tw13574988711055825831 tw15487010411219884807 tw9541262847828659325 tw6289619240038811752 tw5255215311052359835 tw13624590949787656790 tw12290282211794800540 tw17896610362882496350 tw3888774202719532438 tw14492316578178569861 tw12136543766550022914 tw15105860964149191062 tw11661791561696598259 tw15319535562904740136 tw5321576762805421335 tw1890504011441425120 tw1332478348946423773 tw11239286543648307025 tw12475611115415043911 tw199480590894080329 tw11256996400970929862 tw4228127201011500369 tw17362495553719574398 tw17252591653244883183 tw9103914487694850647 tw8306183964878765569 tw7927772055562252196 tw7397942250780389916 tw3130676928389003915 tw18352609765168135959 tw14020384220965289701 tw12459846815782645673 tw12371250775792879096 tw17899626930158870896 tw10926916249358603968 tw2737062655357168926 tw7800460744457369003 tw7105426742120053226 tw5363765350355554014 tw4745506915463830502 tw3125536756609001988 tw1595909646179025486 tw14621876077861095980 tw11371339576676319655 tw17860128212666467952 tw10668978052605801031 tw8077831285535834088 tw17559691840914945988 tw11634186322425189845 tw7098256493880411350 tw16422343696985660637 tw4831794840284166648 tw17378887951453046934 tw6438031055349483416 tw11813406689069741668 tw6741704796475778548 tw8235569310813850360 tw13032104714818970993 tw12983121046422788813 tw151083403674442859 tw4441939181751166473 tw18429146110329179852 tw16848514045988168228 tw11483585936395531680 tw11300302140021535146 tw4853491678785849615 tw9581358053249067546 tw17881458526115309367 tw15746015681669459443 tw1312565071085125476 tw10364740515456358518 tw5254615341003566163 tw4574573368720081767 tw1906743624650969662 tw1792163309165113455 tw17895611800798670312 tw16449098572294680759 tw15698814520889452389 tw15619514284577660112 tw13735781436717328476 tw7938101744767072057 tw12433453010064683774 tw7804492308694535544 tw14683060100361007760 tw11302826770201635860 tw16896647987958234959 tw2510700431332890239 tw2213730392151971856 tw1548496642627802414 tw4248623298054751536 tw3661860531390730911 tw6948880866456558426 tw282441566522566444 tw14289921916678833569 tw2909864311170208293 tw18446170424410875794 tw13948354322378732147 tw3549534640863915356 tw17773199030351368436 tw7440913366471945911 tw4884912267954951535 tw12509054171711239043 tw3734729486042370142 tw7641580214137575297 tw18029019418904232355 tw16955413230341499471 tw14421956252189851079 tw8230278609540046194 tw12409157380279359474 tw18295443910772527463 tw15957067120602328730 tw10631869552231687135 tw394073543301652463 tw17520722635774487601 tw5898793768084781543 tw2695759050134947797 tw9044915250656192837 tw6888964654506719643 tw9902787555287269090 tw5517390362767801729 tw8641276368100670694 tw5728636979554543314 tw12286841956562702345 tw11879002750468914631 tw6201696490669731674 tw6140382317577668773 tw39008404041761113 tw2158278968773291107 tw13116320728674012861 tw12552332788639659011 tw13110763232778088600:True)
open PySem PySem.W PyProof.Rows Lake
set_option maxRecDepth 100000 in
theorem PySem.Challenge.cw_stayprice_k79_undone_to_the_beginning_holds : PySem.Challenge.rw_stayprice_k79_undone_to_the_beginning.Holds := by
 w_on;o_law;k_head;(case hw=>w_witness2)
 k_fill
 refine K79.walk (l:=PySem.Challenge.rw_stayprice_k79_undone_to_the_beginning) (c:=(460:Nat)) rfl rfl (λw h b=>PySem.W.km_in_of b) (λw h b=>PySem.W.km_tabs_of b _ (GV.mpr rfl)) ?hno ?htab ?hF
 case hno=>intro w;kernel_rfl
 case htab=>intro w;exact⟨_,_,by k_is,rfl,rfl,rfl⟩
 case hF=>
  intro w d e h KX G a
  refine' K79.all_mk KX G a ..
  all_goals try first|refine' K79.mkM ?_ ?_ (K79.mkF ..)|refine' K79.mkG KX G ?_ (K79.mkF ..)|refine' K79.mkR ..|refine' K79.mkF ..
  all_goals try (show _=_;first|k_is|kernel_rfl)
