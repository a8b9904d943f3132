import PyProof.Rows.All
import Wide.All
import OpenK.AllK
import Wide.FinOn
import PyProof.EqAt
import PyProof.EqKinds
import PyProof.TupleCall
import KE.BitLaws
import Open.SpecLaws
import KE.OsHead
import KE.OsGo
import KE.KSortTupG
import OpenK.KOwn
import KE.KLam
import KE.KRevIter
import PySem.Challenge.RW_grammarsight_s01_answers
set_option Elab.async false
set_option maxRecDepth 100000
set_option maxHeartbeats 0
set_option linter.all false
open PySem.W (Frag)
def ai:=@if_neg
def aj:=@if_pos
def ao:=@PySem.wpAny_bind
def aF:=@Nat.le_refl
def aG:=@Nat.le_trans
def aK:=@List.length_map
def aX:=@List.length_append
def aZ:=@List.mem_cons_self
def bg:=@List.mem_cons_of_mem
def bq:=@List.mem_cons
def bu:=@PySem.wpAny_pure
def bG:=@List.mem_map
def bO:=@List.getElem?_eq_getElem
def bT:=@List.length_cons
def bZ:=@decide_eq_false
def cz:=@PySem.Heap.get?_push_of_some
def cC:=@List.getD_eq_getElem?_getD
def cD:=@List.map_cons
def cE:=@List.mem_of_getElem?
def cF:=@List.mem_singleton
def cI:=@PySem.Heap.lt_size
def cM:=@Nat.zero_le
def cO:=@List.size_toArray
def cS:=@Ne.symm
def cT:=@decide_eq_true
def cU:=@List.getElem?_eq_some_iff
def cV:=@Bool.and_eq_true
def dP:=@Bool.false_ne_true
def eF:=@PySem.PassesOwn.never
def eZ:=@List.mem_append
def e8:=@congrArg
def fC:=@PySem.Heap.get?_push_size
def fK:=@List.getElem?_map
def fT:=@Nat.ne_of_lt
def fW:=@List.append_nil
def gc:=@PySem.F.plainAttrs_list
def gq:=@List.length_range
def gD:=@List.pairwise_cons
def gE:=@PySem.wpAny_field
def g7:=@Nat.lt_of_lt_of_le
def g8:=@PySem.wpAny_mono
def iO:=@List.mem_filter
def iP:=@List.mem_flatMap
def i9:=@List.length_replicate
def ja:=@List.take_length
def jw:=@PySem.Heap.size_push
def jx:=@List.any_cons
def jy:=@List.append_assoc
def jM:=@List.any_eq_true
def j7:=@List.getElem?_eq_none
def j8:=@List.flatMap_append
def j9:=@List.flatMap_cons
def kc:=@PySem.F.slot_list_append
def kP:=@Classical.byContradiction
def kR:=@PySem.mem_of_lookup
def kU:=@PySem.boot_len
def kW:=@PySem.F.type_list_append
def lZ:=@List.mem_range
def l0:=@Nat.lt_irrefl
def l5:=@PySem.wpAny_newObj_type
def l6:=@List.all_cons
def l7:=@List.lookup_cons
def m8:=@List.foldl_cons
def m9:=@Bool.eq_iff_iff
def nh:=@decide_eq_true_iff
def ni:=@beq_eq_false_iff_ne
def nj:=@PySem.Heap.get?_update_other
def oq:=@beq_self_eq_true
def ou:=@List.mem_append_right
def ow:=@List.take_zero
def oz:=@Int.toNat_natCast
def pI:=@List.map_map
def pJ:=@Bool.or_eq_true
def pK:=@beq_iff_eq
def pL:=@List.length_take
def pM:=@if_true
def pN:=@List.length_drop
def pO:=@List.mem_of_mem_take
def qH:=@Option.map_eq_some_iff
def qI:=@List.getElem?_replicate
def qJ:=@List.nodup_cons
def qK:=@List.map_append
def qL:=@List.mem_append_left
def qM:=@List.filter_cons
def qN:=@if_false
def qO:=@PySem.F.slot_list_extend
def qP:=@List.take_of_length_le
def qQ:=@List.drop_length
def rX:=@List.mem_filterMap
def rY:=@List.getElem?_set_self
def rZ:=@List.getElem?_range
def r8:=@List.getElem?_append_right
def r9:=@List.filterMap_cons
def sf:=@PySem.wpAny_of_eq
def sj:=@List.drop_eq_getElem_cons
def sr:=@List.length_take_le'
def uA:=@List.getElem?_set_ne
def uB:=@Nat.ne_of_gt
def uC:=@PySem.wpAny_truthy_bool
def uD:=@PySem.wpAny_Call_Name_kw
def uE:=@PySem.wpAny_call_entry
def uF:=@PySem.Heap.get?_update_self
def uG:=@List.find?_cons
def uH:=@PySem.wpAny_setField
def uI:=@PySem.Obj.data_mapFields
def uJ:=@PySem.F.type_list_extend
def v7:=@List.length_set
def wc:=@List.map_congr_left
def we:=@List.sum_cons
def wg:=@List.length_filter_le
def wj:=@PySem.wpAny_passesOwn
def wk:=@PySem.sizeLine_eq
def wm:=@Nat.le_of_eq
def wo:=@PySem.wpAny_callSpecial?_slot
def wz:=@List.replicate_succ
def wA:=@Bool.false_eq_true
def wB:=@Option.map_some
def wC:=@PySem.F.plain_min_loop
def wD:=@Bool.and_true
def wF:=@List.length_filterMap_le
def ze:=@List.all_eq_true
def zf:=@List.cons_append
def zg:=@Nat.add_assoc
def zh:=@List.getElem?_append_left
def zj:=@List.zip_cons_cons
def zk:=@Bool.false_or
def zl:=@List.drop_zero
def zm:=@Nat.le_of_lt
def zo:=@PySem.wpAny_holding
def zp:=@List.length_nil
def zq:=@List.map_nil
def zu:=@PySem.call_meets
def zw:=@PySem.wpAny_seqItems
def C1:=@Nat.le_antisymm
def C2:=@List.ext_getElem?
def C3:=@List.nil_append
def C4:=@Nat.sub_self
def C5:=@List.flatMap_map
def C6:=@PySem.wpAny_execs_nil
def C7:=@PyProof.Rows.callWith_type1
def C8:=@PySem.codeAny_mono
def C9:=@List.of_mem_zip
def Dc:=@PyProof.Rows.slot_tuple_getitem
def Dd:=@List.flatten_cons
def De:=@PySem.pushCells_keeps
def Df:=@PySem.wpAny_specialOf
def Dg:=@PySem.Obj.isFreed_of_fields
def Dh:=@PySem.Heap.SameBut.update
def Di:=@PySem.wpAny_setField_rec
def Dj:=@PySem.wpAny_letGo
def Dk:=@PySem.wpAny_attempt
def Dl:=@of_decide_eq_false
def Dm:=@of_decide_eq_true
def Dn:=@Array.getElem?_eq_some_iff
def Dq:=@PySem.isSubtype_type
def Dr:=@Nat.succ_le_succ
def Ds:=@List.flatMap_nil
def Dt:=@List.take_append_drop
def Jy:=@List.countP_cons
def Jz:=@Bool.or_true
def JA:=@Bool.or_eq_false_iff
def JB:=@Bool.true_or
def JC:=@Nat.sub_zero
def JD:=@Nat.le_succ
def JE:=@PySem.wpAny_standAt
def JF:=@Bool.false_and
def JG:=@PySem.wpAny_pyIter_tuple
def JH:=@Nat.lt_succ_self
def JI:=@PySem.W.callWith_K
def JJ:=@PySem.seqIndex_of
def JK:=@Nat.le_of_succ_le
def JL:=@Nat.lt_succ_of_lt
def JM:=@PySem.wpAny_pyIter_enum
def JN:=@PySem.F.slot_tuple_iterator_next
def JO:=@PySem.F.slot_enumerate_next
def JP:=@PySem.wpAny_isInstance
def JQ:=@PySem.wpAny_updateSeq
def JR:=@PySem.typeLookup_type
def JS:=@PySem.builtinLookup_eq_fast
def JT:=@PySem.wpAny_tryCatch
def JU:=@PySem.plainId_quiet
def JV:=@Nat.min_eq_left
def JW:=@List.mem_iff_getElem
def Ro:=@Nat.le_add_right
def Rp:=@List.pairwise_append
def Rq:=@Bool.true_and
def Rr:=@List.filter_append
def Rt:=@List.filter_congr
def Ru:=@List.filterMap_append
def Rv:=@Nat.pow_succ
def Rw:=@PySem.Heap.get?_none_of_le
def Rx:=@Array.length_toList
def Ry:=@PySem.wpAny_assign_Name
def Rz:=@PySem.W.plainGet_of
def RA:=@Option.isSome_iff_exists
def RB:=@PySem.SeqAt.EqAt.int_int
def RC:=@PySem.AutoSeq1.sub_tuple_tuple
def RD:=@PySem.wpAny_forIn_list
def RE:=@PySem.noFill_tuple_add
def RG:=@PySem.F.slot_tuple_add
def RH:=@PySem.F.entry_tuple_add
def RI:=@PySem.F.args_tuple_add_2
def RJ:=@Bool.and_false
def RK:=@PySem.F.slot_list_pop
def RL:=@PySem.SeqAt.eqAt_reads
def RM:=@PySem.F.excBase_Exception
def RN:=@List.nodup_nil
def RO:=@PySem.codeAny_builtin
def RP:=@PySem.F.entry_min_loop
def RQ:=@PySem.Around.under_plainId
def RS:=@List.filterMap_cons_some
def RT:=@List.foldl_append
def RU:=@List.all_nil
def RV:=@Nat.le_succ_of_le
def RW:=@List.mem_of_mem_drop
def RX:=@Option.some.injEq
def abP:=@List.countP_le_length
def abQ:=@decide_eq_false_iff_not
def abR:=@List.eq_nil_of_length_eq_zero
def abS:=@List.eq_nil_or_concat
def abT:=@List.concat_eq_append
def abU:=@PySem.W.cellsFrom_some
def abV:=@PySem.F.slot_tuple_lt
def abW:=@PySem.F.entry_tuple_lt
def abX:=@PySem.F.args_tuple_lt_2
def abY:=@Array.getElem?_toList
def abZ:=@List.range_succ_eq_map
def ab0:=@PySem.F.slot_dict_getitem
def ab1:=@PySem.W.length_le_weightAllW
def ab2:=@PySem.F.entry_tuple_iterator_next
def ab3:=@PySem.F.args_tuple_iterator_next_1
def ab4:=@List.filterMap_cons_none
def ab5:=@List.drop_eq_nil_of_le
def ab6:=@PySem.F.type_list_pop
namespace GS
open Vaglrb
variable{x l:List Nat}{p:Nat×Nat}{n k a b j i:Nat}{s E:List (Nat×Nat)}{C:(Nat->Prop)->Prop}{bytes:Bool}{g:Grammar}{r:Rule}{y:Sym}{steps:List (List Nat)}{v:List Bool}{rules:List Rule}{ys rest:List Sym}{B:Nat->Prop}
abbrev gF(l:List Nat):Prop:=l.Pairwise (· < ·)
theorem dQ{x:Nat}:Vaglrc.has x l=true↔x∈l:=by
 unfold Vaglrc.has;rw[jM];constructor
 .rintro⟨y,hy,e⟩
  have:y=x:=by simpa using e
  exact this▸hy
 .intro h
  exact⟨x,h,by simp⟩
theorem g9{x y:Nat}:∀{l:List Nat},y∈Vaglrc.put x l↔y=x\/y∈l
 |[]=>by simp[Vaglrc.put]
 |z::r=>by
  unfold Vaglrc.put;by_cases h1:x<z
  .rw[aj h1];simp
  .rw[ai h1]
   by_cases h2:(x==z)=true
   .rw[aj h2]
    have e:x=z:=by simpa using h2
    subst e;simp
   .rw[ai h2]
    rw[bq,g9 (l:=r),bq];constructor
    .rintro(h|h|h)
     .exact .inr (.inl h)
     .exact .inl h
     .exact .inr (.inr h)
    .rintro(h|h|h)
     .exact .inr (.inl h)
     .exact .inl h
     .exact .inr (.inr h)
theorem Du{x:Nat}:∀{l:List Nat},gF l->gF (Vaglrc.put x l)
 |[],_=>by simp[Vaglrc.put]
 |z::r,h=>by
  unfold Vaglrc.put;have hz:=(gD.mp h).1;have hr:=(gD.mp h).2;by_cases h1:x<z
  .rw[aj h1]
   refine gD.mpr ⟨λy hy=>?_,h⟩;rcases bq.mp hy with e|hy
   .exact e▸h1
   .exact Nat.lt_trans h1 (hz y hy)
  .rw[ai h1]
   by_cases h2:(x==z)=true
   .rw[aj h2];exact h
   .rw[ai h2]
    refine gD.mpr ⟨λy hy=>?_,Du hr⟩;rcases g9.mp hy with e|hy
    .have:¬x=z:=by simpa using h2
     omega
    .exact hz y hy
theorem su:∀{l m:List Nat},gF l->gF m->(∀x∈l,x∈m)->l.Sublist m
 |[],m,_,_,_=>List.nil_sublist m
 |x::l,[],_,_,h=>by have:=h x aZ;simp at this
 |x::l,y::m,hl,hm,h=>by
  have hl1:=(gD.mp hl).1;have hm1:=(gD.mp hm).1;by_cases e:x=y
  .subst e
   refine List.Sublist.cons₂ x (su (gD.mp hl).2 (gD.mp hm).2 λz hz=>?_);rcases bq.mp (h z (bg _ hz))with e|q
   .have:=hl1 z hz;omega
   .exact q
  .refine List.Sublist.cons y (su hl (gD.mp hm).2 λz hz=>?_)
   have hx:x∈m:=by
    rcases bq.mp (h x aZ)with q|q
    .exact absurd q e
    .exact q
   rcases bq.mp (h z hz)with q|q
   .rcases bq.mp hz with r|r
    .exact r▸hx
    .have h1:=hl1 z r
     have h2:=hm1 x hx;omega
   .exact q
theorem zx{m:List Nat}(hl:gF l)(hm:gF m)(h:∀x,x∈l↔x∈m):l=m:=by
 have a:=su hl hm λx hx=>(h x).mp hx;have b:=su hm hl λx hx=>(h x).mpr hx;exact a.eq_of_length (C1 a.length_le b.length_le)
theorem sC(n:Nat):gF (List.range n):=List.pairwise_lt_range
theorem qR{p:Nat->Bool}(h:gF l):gF (l.filter p):=h.sublist List.filter_sublist
structure Ok(n:Nat)(l:List Nat):Prop where
 asc:gF l
 lt:∀x∈l,x<n
theorem Ok.sub(h:Ok n l):l.Sublist (List.range n):=su h.asc (sC n) λx hx=>lZ.mpr (h.lt x hx)
theorem Ok.nil:Ok n []:=⟨by simp,by simp⟩
theorem Ok.put{x:Nat}(h:Ok n l)(hx:x<n):Ok n (Vaglrc.put x l):=⟨Du h.asc,λy hy=>by
 rcases g9.mp hy with e|q
 .exact e▸hx
 .exact h.lt y q⟩
theorem Ok.RY(h:Ok n l):l=(List.range n).filter (λa=>Vaglrc.has a l):=by
 refine zx h.asc (qR (sC n)) λx=>?_;rw[iO,lZ,dQ];exact⟨λq=>⟨h.lt x q,q⟩,λq=>q.2⟩
theorem uK(f:List Nat->List Nat):∀(k:Nat) (s:List Nat),rounds f (k+1) s=f (rounds f k s)
 |0,_=>rfl
 |k+1,s=>by
  show rounds f (k+1) (f s)=f (rounds f k (f s));exact uK f k (f s)
theorem wG{f:List Nat->List Nat}{s:List Nat}(h0:Ok n s)(hf:∀t,Ok n t->Ok n (f t))(hs:∀t,Ok n t->∀x∈t,x∈f t):
  Ok n (rounds f n s)/\f (rounds f n s)=rounds f n s:=by
 have ok:∀k,Ok n (rounds f k s):=by
  intro k
  induction k with
  |zero=>exact h0
  |succ k ih=>rw[uK];exact hf _ ih
 have grow:∀k,f (rounds f k s)=rounds f k s\/k<=(rounds f k s).length:=by
  intro k
  induction k with
  |zero=>exact .inr (cM _)
  |succ k ih=>
   rw[uK];by_cases e:f (rounds f k s)=rounds f k s
   .left;rw[e,e]
   .right
    rcases ih with ih|ih
    .exact absurd ih e
    .have sub:=su (ok k).asc (hf _ (ok k)).asc (hs _ (ok k))
     have aR:(rounds f k s).length<(f (rounds f k s)).length:=by
      rcases Nat.lt_or_ge (rounds f k s).length (f (rounds f k s)).length with q|q
      .exact q
      .exact absurd (sub.eq_of_length (C1 sub.length_le q)).symm e
     omega
 refine⟨ok n,?_⟩;rcases grow n with q|q
 .exact q
 .have e1:rounds f n s=List.range n:=(ok n).sub.eq_of_length (C1 (ok n).sub.length_le (by rw[gq];exact q))
  have sub:=su (ok n).asc (hf _ (ok n)).asc (hs _ (ok n));have l1:=sub.length_le;have l2:=(hf _ (ok n)).sub.length_le;rw[gq]at l2;exact(sub.eq_of_length (C1 l1 (by omega))).symm
theorem sE{f:List Nat->List Nat}{J:List Nat->Prop}(hf:∀t,J t->J (f t)):∀(k:Nat) {s:List Nat},J s->J (rounds f k s)
 |0,_,h=>h
 |k+1,_,h=>sE hf k (hf _ h)
theorem pP{α:Type}(step:List Nat->α->List Nat)(hs:∀l a,∀x∈l,x∈step l a):∀(as:List α) (l:List Nat),∀x∈l,x∈as.foldl step l
 |[],_,_,h=>h
 |a::as,l,x,h=>pP step hs as _ x (hs l a x h)
theorem kX{α β:Type}{J:β->Prop}(step:β->α->β):∀(as:List α) (l:β),(∀l a,a∈as->J l->J (step l a))->J l->J (as.foldl step l)
 |[],_,_,h=>h
 |a::as,l,hs,h=>kX step as _ (λl b hb=>hs l b (bg _ hb)) (hs l a aZ h)
theorem wH{α:Type}(step:List Nat->α->List Nat)(hs:∀l a,∀x∈l,x∈step l a):∀(as:List α) (l:List Nat),(∀x∈as.foldl step l,x∈l)->∀a∈as,∃l',(∀x∈l,x∈l')/\(∀x∈l',x∈l)/\∀x∈step l' a,x∈l
 |[],_,_,a,ha=>by simp at ha
 |b::as,l,h,a,ha=>by
  have h1:∀x∈step l b,x∈l:=λx hx=>h x (pP step hs as _ x hx);rcases bq.mp ha with e|ha
  .subst e;exact⟨l,λ_ q=>q,λ_ q=>q,h1⟩
  .obtain⟨l',q1,q2,q3⟩:=wH step hs as (step l b) (λx hx=>hs l b x (h x hx)) a ha
   exact⟨l',λx hx=>q1 x (hs l b x hx),λx hx=>h1 x (q2 x hx),λx hx=>h1 x (q3 x hx)⟩
structure ie(n:Nat)(C:(Nat->Prop)->Prop)(S:Nat->Prop):Prop where
 closed:C S
 below:∀P,C P->∀a,S a->P a
theorem ie.same{S T:Nat->Prop}(h:ie n C S)(k:ie n C T)(a:Nat):S a↔T a:=⟨h.below T k.closed a,k.below S h.closed a⟩
open Vaglrc (Sym Rule Grammar)
def sF(n:Nat):Sym->Prop
 | .non k=>k<n
 | .range lo hi=>lo<=hi/\hi<256
structure qS(n:Nat)(r:Rule):Prop where
 lhs:r.lhs<n
 rhs:∀y∈r.rhs,sF n y
 cA:r.rhs.length<=8
structure aS(g:Grammar):Prop where
 pos:0<g.nons
 nons:g.nons<=20
 cA:g.rules.length<=60
 rules:∀r∈g.rules,qS g.nons r
def AllIn(bytes:Bool)(P:Nat->Prop)(l:List Sym):Prop:=∀y∈l,match y with
 | .non k=>P k
 | .range _ _=>bytes=true
theorem Dv{s:List Nat}{l:List Sym}:allIn bytes s l=true↔AllIn bytes (· ∈s) l:=by
 unfold allIn AllIn;rw[ze];constructor
 .intro h y hy
  have q:=h y hy;cases y with
  |non k=>exact dQ.mp q
  |range lo hi=>exact q
 .intro h y hy
  have q:=h y hy;cases y with
  |non k=>exact dQ.mpr q
  |range lo hi=>exact q
theorem AllIn.mono{P Q:Nat->Prop}{l:List Sym}(h:AllIn bytes P l)(hpq:∀a,P a->Q a):AllIn bytes Q l:=λy hy=>by
 have q:=h y hy;cases y with
 |non k=>exact hpq k q
 |range lo hi=>exact q
def CD(g:Grammar)(bytes:Bool)(P:Nat->Prop):Prop:=∀r∈g.rules,AllIn bytes P r.rhs->P r.lhs
theorem JX(g:Grammar)(bytes:Bool)(s:List Nat)(l:List Nat)(r:Rule):∀x∈l,x∈(if allIn bytes s r.rhs then Vaglrc.put r.lhs l else l):=λx hx=>by
 split
 .exact g9.mpr (.inr hx)
 .exact hx
theorem RZ(G:aS g)(bytes:Bool){s:List Nat}(h:Ok g.nons s):Ok g.nons (deriveRound g bytes s):=by
 refine kX (J:=Ok g.nons) _ g.rules s (λl r hr hl=>?_) h;split
 .exact hl.put (G.rules r hr).lhs
 .exact hl
theorem R0(g:Grammar)(bytes:Bool)(s:List Nat):∀x∈s,x∈deriveRound g bytes s:=pP _ (JX g bytes s) g.rules s
theorem Dy(G:aS g)(bytes:Bool):Ok g.nons (rounds (deriveRound g bytes) g.nons [])/\deriveRound g bytes (rounds (deriveRound g bytes) g.nons [])=rounds (deriveRound g bytes) g.nons []:=
 wG Ok.nil (λ_ h=>RZ G bytes h) λt _=>R0 g bytes t
theorem JY(G:aS g)(bytes:Bool):ie g.nons (CD g bytes) (· ∈rounds (deriveRound g bytes) g.nons []):=by
 constructor
 .intro r hr h
  obtain⟨_,e⟩:=Dy G bytes;generalize rounds (deriveRound g bytes) g.nons []=t at e h⊢;obtain⟨l',q1,_,q3⟩:=wH _ (JX g bytes t) g.rules t (λx hx=>by unfold deriveRound at e;rw[e]at hx;exact hx) r hr;refine q3 r.lhs ?_;rw[aj (Dv.mpr h)];exact g9.mpr (.inl rfl)
 .intro P hP
  refine sE (J:=λt=>∀a∈t,P a) (λt ht=>?_) g.nons (by simp);refine kX (J:=λt=>∀a∈t,P a) _ g.rules t (λl r hr hl=>?_) ht;split
  .rename_i c
   intro a ha;rcases g9.mp ha with e|q
   .rw[e];exact hP r hr ((Dv.mp c).mono ht)
   .exact hl a q
  .exact hl
theorem R1(G:aS g):Ok g.nons (nullable g):=(Dy G false).1
theorem R4(G:aS g):ie g.nons (CD g false) (· ∈nullable g):=JY G false
theorem R5(G:aS g):Ok g.nons (productive g):=(Dy G true).1
theorem Dz(G:aS g):ie g.nons (CD g true) (· ∈productive g):=JY G true
theorem DA:r∈productiveRules g↔r∈g.rules/\AllIn true (· ∈productive g) r.rhs:=by
 unfold productiveRules;rw[iO,Dv]
theorem fL(h:r∈productiveRules g):r∈g.rules:=(DA.mp h).1
theorem jb{l:List Sym}:k∈nonsIn l↔Sym.non k∈l:=by
 unfold nonsIn;rw[rX];constructor
 .rintro⟨y,hy,e⟩
  cases y with
  |non j=>
        have:j=k:=by simpa using e
        exact this▸hy
  |range lo hi=>simp at e
 .intro h
  exact⟨_,h,rfl⟩
theorem DB{a:List Nat}{y:Nat}:∀{b:List Nat},y∈Vaglrc.union a b↔y∈a\/y∈b:=by
 unfold Vaglrc.union
 induction a with
 |nil=>intro b;simp
 |cons x r ih=>
  intro b;rw[m8,ih,g9,bq];constructor
  .rintro(h|h|h)
   .exact .inl (.inr h)
   .exact .inl (.inl h)
   .exact .inr h
  .rintro((h|h)|h)
   .exact .inr (.inl h)
   .exact .inl h
   .exact .inr (.inr h)
theorem R6{a b:List Nat}(hb:Ok n b)(ha:∀x∈a,x<n):Ok n (Vaglrc.union a b):=by
 unfold Vaglrc.union;exact kX (J:=Ok n) _ a b (λl x hx hl=>hl.put (ha x hx)) hb
def CR(g:Grammar)(P:Nat->Prop):Prop:=P 0/\∀r∈productiveRules g,P r.lhs->∀k,Sym.non k∈r.rhs->P k
theorem DC(l:List Nat)(r:Rule):∀x∈l,x∈(if Vaglrc.has r.lhs l then Vaglrc.union (nonsIn r.rhs) l else l):=λx hx=>by
 split
 .exact DB.mpr (.inr hx)
 .exact hx
theorem JZ(G:aS g):Ok g.nons (reachable g)/\reachRound (productiveRules g) (reachable g)=reachable g:=by
 refine wG ⟨by simp,λx hx=>?_⟩ (λt h=>?_) λt _=>pP _ DC _ t
 .have:x=0:=by simpa using hx
  exact this▸G.pos
 .refine kX (J:=Ok g.nons) _ _ t (λl r hr hl=>?_) h
  split
  .exact R6 hl λx hx=>(G.rules r (fL hr)).rhs _ (jb.mp hx)
  .exact hl
theorem DE(G:aS g):Ok g.nons (reachable g):=(JZ G).1
theorem J0(G:aS g):ie g.nons (CR g) (· ∈reachable g):=by
 constructor
 .refine⟨?_,λr hr h k hk=>?_⟩
  .exact sE (J:=λt=>0∈t) (λt ht=>pP _ DC _ t 0 ht) g.nons (by simp)
  .obtain⟨_,e⟩:=JZ G
   generalize reachable g=t at e h⊢;obtain⟨l',q1,_,q3⟩:=wH _ DC (productiveRules g) t (λx hx=>by unfold reachRound at e;rw[e]at hx;exact hx) r hr;refine q3 k ?_;rw[aj (dQ.mpr (q1 _ h))];exact DB.mpr (.inl (jb.mpr hk))
 .intro P hP
  refine sE (J:=λt=>∀a∈t,P a) (λt ht=>?_) g.nons (λa ha=>?_)
  .refine kX (J:=λt=>∀a∈t,P a) _ _ t (λl r hr hl=>?_) ht
   split
   .rename_i c
    intro a ha;rcases DB.mp ha with q|q
    .exact hP.2 r hr (hl _ (dQ.mp c)) a (jb.mp q)
    .exact hl a q
   .exact hl
  .have:a=0:=by simpa using ha
   exact this▸hP.1
theorem wI:a∈useful g↔a∈productive g/\a∈reachable g:=by
 unfold useful;rw[iO,dQ];exact And.comm
theorem wJ(G:aS g):Ok g.nons (useful g):=⟨qR (DE G).asc,λx hx=>(DE G).lt x (wI.mp hx).2⟩
theorem sG:r∈usefulRules g↔r∈productiveRules g/\r.lhs∈useful g:=by
 unfold usefulRules;rw[iO,dQ]
def CL(steps:List (Nat×Nat))(a:Nat)(P:Nat->Prop):Prop:=∀p∈steps,(p.1=a\/P p.1)->P p.2
theorem DF(l:List Nat)(p:Nat×Nat):∀x∈l,x∈(if Vaglrc.has p.1 l then Vaglrc.put p.2 l else l):=λx hx=>by
 split
 .exact g9.mpr (.inr hx)
 .exact hx
theorem R7(a:Nat)(l:List Nat)(p:Nat×Nat):∀x∈l,x∈(if p.1==a then Vaglrc.put p.2 l else l):=λx hx=>by
 split
 .exact g9.mpr (.inr hx)
 .exact hx
theorem qT{steps:List (Nat×Nat)}(hs:∀p∈steps,p.2<g.nons)(a:Nat):Ok g.nons (leads g steps a)/\stepRound steps (leads g steps a)=leads g steps a:=by
 refine wG ?_ (λt h=>?_) λt _=>pP _ DF _ t
 .refine kX (J:=Ok g.nons) _ steps [] (λl p hp hl=>?_) Ok.nil
  split
  .exact hl.put (hs p hp)
  .exact hl
 .refine kX (J:=Ok g.nons) _ _ t (λl p hp hl=>?_) h
  split
  .exact hl.put (hs p hp)
  .exact hl
theorem R8{steps:List (Nat×Nat)}:∀{l:List Nat} {p:Nat×Nat},p∈steps->p.1=a->p.2∈steps.foldl (λl p=>if p.1==a then Vaglrc.put p.2 l else l) l:=by
 induction steps with
 |nil=>intro l p hp;simp at hp
 |cons q r ih=>
  intro l p hp e;rw[m8];rcases bq.mp hp with z|z
  .subst z
   refine pP _ (R7 a) r _ _ ?_;rw[aj (by simpa using e)];exact g9.mpr (.inl rfl)
  .exact ih z e
theorem kY{steps:List (Nat×Nat)}(hs:∀p∈steps,p.2<g.nons)(a:Nat):ie g.nons (CL steps a) (· ∈leads g steps a):=by
 constructor
 .intro p hp h
  rcases h with h|h
  .refine sE (J:=λt=>p.2∈t) (λt ht=>pP _ DF _ t _ ht) g.nons ?_
   exact R8 hp h
  .obtain⟨_,e⟩:=qT hs a
   generalize leads g steps a=t at e h⊢;obtain⟨l',q1,_,q3⟩:=wH _ DF steps t (λx hx=>by unfold stepRound at e;rw[e]at hx;exact hx) p hp;refine q3 p.2 ?_;rw[aj (dQ.mpr (q1 _ h))];exact g9.mpr (.inl rfl)
 .intro P hP
  refine sE (J:=λt=>∀a∈t,P a) (λt ht=>?_) g.nons ?_
  .refine kX (J:=λt=>∀a∈t,P a) _ _ t (λl p hp hl=>?_) ht
   split
   .rename_i c
    intro b hb;rcases g9.mp hb with e|q
    .rw[e];exact hP p hp (.inr (hl _ (dQ.mp c)))
    .exact hl b q
   .exact hl
  .refine kX (J:=λt=>∀a∈t,P a) _ _ [] (λl p hp hl=>?_) (by simp)
   split
   .rename_i c
    intro b hb;rcases g9.mp hb with e|q
    .rw[e];exact hP p hp (.inl (by simpa using c))
    .exact hl b q
   .exact hl
theorem R9{t:List (Nat×Nat)}(hs:∀p∈s,p.2<g.nons)(h:∀p,p∈s↔p∈t)(a:Nat):leads g s a=leads g t a:=by
 have ht:∀p∈t,p.2<g.nons:=λp hp=>hs p ((h p).mpr hp);refine zx (qT hs a).1.asc (qT ht a).1.asc λx=>?_;exact ie.same (kY hs a) ⟨λp hp=>(kY ht a).closed p ((h p).mp hp),λP hP=>(kY ht a).below P λp hp=>hP p ((h p).mpr hp)⟩ x
def CG(g:Grammar)(P:Nat->Prop):Prop:=∀r∈productiveRules g,(∃y∈r.rhs,match y with| .non k=>P k| .range _ _=>True)->P r.lhs
theorem J1{rhs:List Sym}:(rhs.any (λy=>match y with| .non k=>Vaglrc.has k l| .range _ _=>true))=true↔∃y∈rhs,match y with| .non k=>k∈l| .range _ _=>True:=by
 rw[jM];constructor
 .rintro⟨y,hy,e⟩
  refine⟨y,hy,?_⟩;cases y with
  |non k=>exact dQ.mp e
  |range lo hi=>trivial
 .rintro⟨y,hy,e⟩
  refine⟨y,hy,?_⟩;cases y with
  |non k=>exact dQ.mpr e
  |range lo hi=>rfl
theorem J2(l:List Nat)(r:Rule):∀x∈l,x∈(if r.rhs.any (λy=>match y with| .non k=>Vaglrc.has k l| .range _ _=>true)then Vaglrc.put r.lhs l else l):=λx hx=>by
 split
 .exact g9.mpr (.inr hx)
 .exact hx
theorem J3(G:aS g):Ok g.nons (growing g)/\growRound (productiveRules g) (growing g)=growing g:=by
 refine wG Ok.nil (λt h=>?_) λt _=>pP _ J2 _ t;refine kX (J:=Ok g.nons) _ _ t (λl r hr hl=>?_) h;split
 .exact hl.put (G.rules r (fL hr)).lhs
 .exact hl
theorem Sa(G:aS g):Ok g.nons (growing g):=(J3 G).1
theorem J4(G:aS g):ie g.nons (CG g) (· ∈growing g):=by
 constructor
 .intro r hr h
  obtain⟨_,e⟩:=J3 G;generalize growing g=t at e h⊢;obtain⟨l',q1,_,q3⟩:=wH _ J2 (productiveRules g) t (λx hx=>by have q:x∈growRound (productiveRules g) t:=hx;rw[e]at q;exact q) r hr;refine q3 r.lhs ?_;rw[aj]
  .exact g9.mpr (.inl rfl)
  .obtain⟨y,hy,c⟩:=h
   refine J1.mpr ⟨y,hy,?_⟩;cases y with
   |non k=>exact q1 _ c
   |range lo hi=>trivial
 .intro P hP
  refine sE (J:=λt=>∀a∈t,P a) (λt ht=>?_) g.nons (by simp);refine kX (J:=λt=>∀a∈t,P a) _ _ t (λl r hr hl=>?_) ht;split
  .rename_i c
   intro b hb;rcases g9.mp hb with e|q
   .rw[e]
    obtain⟨y,hy,c⟩:=J1.mp c;refine hP r hr ⟨y,hy,?_⟩;cases y with
    |non k=>exact hl _ c
    |range lo hi=>trivial
   .exact hl b q
  .exact hl
section
variable{α:Type}(imp:α->List Sym->List α->α)
def ee(v:List α)(r:Rule):List α:=match v[r.lhs]? with
 |some k=>v.set r.lhs (imp k r.rhs v)
 |none=>v
def pass(rules:List Rule)(v:List α):List α:=rules.foldl (ee imp) v
def passes(rules:List Rule):Nat->List α->List α
 |0,v=>v
 |k+1,v=>pass imp rules (passes rules k v)
def Fix(rules:List Rule)(v:List α):Prop:=∀r∈rules,∀k,v[r.lhs]?=some k->imp k r.rhs v=k
theorem oA(v:List α)(r:Rule):(ee imp v r).length=v.length:=by
 unfold ee;split
 .rw[v7]
 .rfl
theorem DG:∀(rules:List Rule) (v:List α),(pass imp rules v).length=v.length
 |[],_=>rfl
 |r::rs,v=>by
  show(pass imp rs (ee imp v r)).length=_;rw[DG rs,oA]
theorem qU(rules:List Rule):∀(k:Nat) (v:List α),(passes imp rules k v).length=v.length
 |0,_=>rfl
 |k+1,v=>by
  show(pass imp rules (passes imp rules k v)).length=_;rw[DG,qU rules k]
theorem DH(v:List α)(r:Rule)(a:Nat):(ee imp v r)[a]?=if a=r.lhs then(v[a]?).map (λk=>imp k r.rhs v)else v[a]?:=by
 unfold ee;by_cases e:a=r.lhs
 .subst e
  rw[aj rfl];cases h:v[r.lhs]? with
  |none=>simp[h]
  |some k=>
   have aR:=(cU.mp h).1;simp[rY aR]
 .rw[ai e]
  cases h:v[r.lhs]? with
  |none=>rfl
  |some k=>simp[uA (cS e)]
theorem zy(r:Rule)(rs:List Rule)(v:List α):pass imp (r::rs) v=pass imp rs (ee imp v r):=rfl
theorem zA{J:List α->Prop}(rules:List Rule)(hs:∀v r,r∈rules->J v->J (ee imp v r)){v:List α}(h:J v):J (pass imp rules v):=
 kX (J:=J) _ rules v (λl a ha hl=>hs l a ha hl) h
theorem DI{J:List α->Prop}(rules:List Rule)(hs:∀v r,r∈rules->J v->J (ee imp v r)):∀(k:Nat) {v:List α},J v->J (passes imp rules k v)
 |0,_,h=>h
 |k+1,v,h=>by
  show J (pass imp rules (passes imp rules k v));exact zA imp rules hs (DI rules hs k h)
end
section
variable(bM:List Sym->List Bool->Bool)
abbrev bW:Bool->List Sym->List Bool->Bool:=λk ys v=>k||bM ys v
def cnt(v:List Bool):Nat:=v.countP id
theorem Sb(v:List Bool):cnt v<=v.length:=abP
theorem J5:∀(v:List Bool) (i:Nat) (b k:Bool),v[i]?=some k->cnt v<=cnt (v.set i (k||b))/\(k=false->b=true->cnt v<cnt (v.set i (k||b)))
 |[],i,b,k,h=>by simp at h
 |x::v,0,b,k,h=>by
  have e:x=k:=by simpa using h
  subst e;simp only[List.set_cons_zero,cnt,Jy,id];cases x<;>cases b<;>simp
 |x::v,i+1,b,k,h=>by
  have ih:=J5 v i b k (by simpa using h);simp only[List.set_cons_succ,cnt,Jy]at ih⊢;refine⟨by omega,λh1 h2=>?_⟩;have:=ih.2 h1 h2;omega
theorem Sd(v:List Bool)(r:Rule):cnt v<=cnt (ee (bW bM) v r)/\((∃k,v[r.lhs]?=some k/\bW bM k r.rhs v≠k)->cnt v<cnt (ee (bW bM) v r)):=by
 unfold ee;cases h:v[r.lhs]? with
 |none=>exact⟨aF _,λ⟨k,e,_⟩=>by cases e⟩
 |some k=>
  have q:=J5 v r.lhs (bM r.rhs v) k h;refine⟨q.1,λ⟨k',e,bI⟩=>?_⟩;cases e;refine q.2 ?_ ?_
  .cases k
   .rfl
   .exact absurd rfl bI
  .cases k
   .cases e:bM r.rhs v
    .exact absurd (by show(false||bM r.rhs v)=false;rw[e];rfl) bI
    .rfl
   .exact absurd rfl bI
theorem J6:∀(rules:List Rule) (v:List Bool),cnt v<=cnt (pass (bW bM) rules v)/\(cnt (pass (bW bM) rules v)=cnt v->Fix (bW bM) rules v)
 |[],v=>⟨aF _,λ_ r hr=>by simp at hr⟩
 |r::rs,v=>by
  have h1:=Sd bM v r;have h2:=J6 rs (ee (bW bM) v r);rw[zy];refine⟨aG h1.1 h2.1,λe=>?_⟩;have e1:¬∃k,v[r.lhs]?=some k/\bW bM k r.rhs v≠k:=λq=>by
   have:=h1.2 q;omega
  have e2:ee (bW bM) v r=v:=by
   unfold ee;cases h:v[r.lhs]? with
   |none=>rfl
   |some k=>
    have:bW bM k r.rhs v=k:=kP λz=>e1 ⟨k,h,z⟩;show v.set r.lhs (bW bM k r.rhs v)=v;rw[this];refine C2 λi=>?_;by_cases hi:i=r.lhs
    .subst hi
     rw[rY (cU.mp h).1,h]
    .rw[uA (cS hi)]
  rw[e2]at e h2;intro q hq k hk;rcases bq.mp hq with z|z
  .subst z
   exact kP λz=>e1 ⟨k,hk,z⟩
  .exact h2.2 e q z k hk
theorem Se(rules:List Rule)(v:List Bool):∃N,Fix (bW bM) rules (passes (bW bM) rules N v):=by
 have grow:∀k,(∃j,j<=k/\Fix (bW bM) rules (passes (bW bM) rules j v))\/k<=cnt (passes (bW bM) rules k v):=by
  intro k
  induction k with
  |zero=>exact .inr (cM _)
  |succ k ih=>
   rcases ih with⟨j,hj,z⟩|ih
   .exact .inl ⟨j,by omega,z⟩
   .have q:=J6 bM rules (passes (bW bM) rules k v)
    by_cases e:cnt (pass (bW bM) rules (passes (bW bM) rules k v))=cnt (passes (bW bM) rules k v)
    .exact .inl ⟨k,by omega,q.2 e⟩
    .right
     show k+1<=cnt (pass (bW bM) rules (passes (bW bM) rules k v));omega
 rcases grow (v.length+1)with⟨j,_,z⟩|q
 .exact⟨j,z⟩
 .have:=Sb (passes (bW bM) rules (v.length+1) v)
  rw[qU]at this;omega
def On(v:List Bool)(a:Nat):Prop:=v[a]?=some true
def cg(n:Nat)(l:List Nat):List Bool:=(List.range n).map λa=>Vaglrc.has a l
theorem pQ(h:a<n):(cg n l)[a]?=some (Vaglrc.has a l):=by
 unfold cg;rw[fK,rZ h];rfl
theorem l8:(cg n l).length=n:=by
 unfold cg;rw[aK,gq]
theorem DJ(hv:v.length=n)(h:∀a,a<n->(On v a↔a∈l)):v=cg n l:=by
 refine C2 λa=>?_;by_cases ha:a<n
 .rw[pQ ha]
  obtain⟨b,hb⟩:∃b,v[a]?=some b:=⟨_,bO (by omega)⟩;rw[hb];have q:=h a ha;unfold On at q;rw[hb]at q;cases b
  .have:¬a∈l:=λz=>by have:=q.mpr z;cases this
   cases e:Vaglrc.has a l
   .rfl
   .exact absurd (dQ.mp e) this
  .rw[dQ.mpr (q.mp rfl)]
 .rw[j7 (by omega),j7 (by rw[l8];omega)]
theorem DK{Su:(Nat->Prop)->List Sym->Prop}(hsu:∀v:List Bool,v.length=n->∀r∈rules,(bM r.rhs v=true↔Su (On v) r.rhs))(Sf:∀P Q:Nat->Prop,(∀a,P a->Q a)->∀ys,Su P ys->Su Q ys)(hC:∀P,C P↔∀r∈rules,Su P r.rhs->P r.lhs)(aR:∀r∈rules,r.lhs<n)(hF:Fix (bW bM) rules (passes (bW bM) rules j (List.replicate n false))):ie n C (On (passes (bW bM) rules j (List.replicate n false))):=by
 have hlen:(passes (bW bM) rules j (List.replicate n false)).length=n:=by rw[qU,i9]
 constructor
 .rw[hC]
  intro r hr hs;generalize passes (bW bM) rules j (List.replicate n false)=v at hF hlen hs⊢;have hs':=(hsu v hlen r hr).mpr hs;have hl:r.lhs<v.length:=by rw[hlen];exact aR r hr
  have q:=hF r hr _ (bO hl);unfold On;rw[bO hl];rw[<-q];show some (_||bM r.rhs v)=_;rw[hs',Jz]
 .intro P hP
  rw[hC]at hP;have key:((passes (bW bM) rules j (List.replicate n false)).length=n)/\∀a,On (passes (bW bM) rules j (List.replicate n false)) a->P a:=by
   refine DI (J:=λv:List Bool=>v.length=n/\∀a,On v a->P a) _ rules (λv r hr ⟨hl,hv⟩=>⟨by rw[oA];exact hl,λa ha=>?_⟩) j ⟨i9,λa ha=>?_⟩
   .unfold On at ha
    rw[DH]at ha;by_cases e:a=r.lhs
    .rw[aj e]at ha
     obtain⟨k,hk,hk2⟩:=qH.mp ha;by_cases hkt:k=true
     .exact hv a (by unfold On;rw[hk,hkt])
     .have hk3:bM r.rhs v=true:=by
       have e2:k=false:=by cases k<;>simp_all
       rw[e2]at hk2;simpa[bW]using hk2
      rw[e];exact hP r hr (Sf _ _ hv _ ((hsu v hl r hr).mp hk3))
    .rw[ai e]at ha
     exact hv a ha
   .unfold On at ha
    rw[qI]at ha;split at ha<;>simp at ha
  exact key.2
end
structure nk{W:Type}(le:W->W->Prop):Prop where
 refl:∀a,le a a
 trans:∀a b c,le a b->le b c->le a c
 Sg:∀a b,le a b->le b a->a=b
 total:∀a b,le a b\/le b a
def bN{W:Type}(le:W->W->Prop):Option W->Option W->Prop
 |_,none=>True
 |none,some _=>False
 |some a,some b=>le a b
section
variable{W:Type}{le:W->W->Prop}
theorem pR{x:Option W}:bN le x none:=by cases x<;>trivial
theorem pS(L:nk le)(x:Option W):bN le x x:=by
 cases x
 .trivial
 .exact L.refl _
theorem kZ(L:nk le){x y z:Option W}(h:bN le x y)(k:bN le y z):bN le x z:=by
 cases z with
 |none=>exact pR
 |some c=>
  cases y with
  |none=>exact k.elim
  |some b=>
   cases x with
   |none=>exact h.elim
   |some a=>exact L.trans a b c h k
theorem sH(L:nk le){x y:Option W}(h:bN le x y)(k:bN le y x):x=y:=by
 cases x with
 |none=>
  cases y with
  |none=>rfl
  |some b=>exact h.elim
 |some a=>
  cases y with
  |none=>exact k.elim
  |some b=>rw[L.Sg a b h k]
structure Rnd(le:W->W->Prop)(rules:List Rule)(ev:(Nat->Option W)->List Sym->Option W)(f f':Nat->Option W):Prop where
 le0:∀a,bN le (f' a) (f a)
 leR:∀r∈rules,bN le (f' r.lhs) (ev f r.rhs)
 is:∀a,f' a=f a\/∃r∈rules,r.lhs=a/\f' a=ev f r.rhs
variable{rules:List Rule}{ev:(Nat->Option W)->List Sym->Option W}
def Loc(ev:(Nat->Option W)->List Sym->Option W):Prop:=∀f f' ys,(∀k,Sym.non k∈ys->f k=f' k)->ev f ys=ev f' ys
def Sup(le:W->W->Prop)(ev:(Nat->Option W)->List Sym->Option W)(Go:(Nat->Option W)->Prop):Prop:=∀f ys w,Go f->ev f ys=some w->∀k,Sym.non k∈ys->bN le (f k) (some w)
theorem J7(L:nk le){f:Nat->Nat->Option W}(h:∀k,Rnd le rules ev (f k) (f (k+1)))(hij:i<=j)(a:Nat):bN le (f j a) (f i a):=by
 induction j with
 |zero=>
  have:i=0:=by omega
  subst this;exact pS L _
 |succ j ih=>
  by_cases e:i=j+1
  .subst e;exact pS L _
  .exact kZ L ((h j).le0 a) (ih (by omega))
theorem chain(L:nk le)(hl:Loc ev){Go:(Nat->Option W)->Prop}(hs:Sup le ev Go)(hn:∀r∈rules,r.lhs<n){f:Nat->Nat->Option W}(h:∀k,Rnd le rules ev (f k) (f (k+1)))(hG:∀k,Go (f k)):
  ∀(j a:Nat),f (j+1) a≠f j a->∃l:List Nat,l.Nodup/\l.length=j+1/\(∀b∈l,b<n)/\∀b∈l,∃i,i<=j/\f (i+1) b≠f i b/\bN le (f (i+1) b) (f (j+1) a):=by
 intro j
 induction j with
 |zero=>
  intro a ha;refine⟨[a],by simp,rfl,λb hb=>?_,λb hb=>⟨0,aF _,?_,?_⟩⟩
  .have e:b=a:=by simpa using hb
   rcases(h 0).is a with q|⟨r,hr,e2,_⟩
   .exact absurd q ha
   .rw[e,<-e2];exact hn r hr
  .have e:b=a:=by simpa using hb
   rw[e];exact ha
  .have e:b=a:=by simpa using hb
   rw[e];exact pS L _
 |succ j ih=>
  intro a ha;rcases(h (j+1)).is a with q|⟨r,hr,e2,e3⟩
  .exact absurd q ha
  .have bI:∃c,Sym.non c∈r.rhs/\f (j+1) c≠f j c:=by
    refine kP λz=>ha ?_;have e4:ev (f (j+1)) r.rhs=ev (f j) r.rhs:=hl _ _ _ λk hk=>kP λy=>z ⟨k,hk,y⟩;refine sH L ((h (j+1)).le0 a) ?_;rw[e3,e4,<-e2];exact(h j).leR r hr
   obtain⟨c,hc,dY⟩:=bI;obtain⟨w,hw⟩:∃w,f (j+2) a=some w:=by
    cases e:f (j+2) a with
    |some w=>exact⟨w,rfl⟩
    |none=>
     have q:=(h (j+1)).le0 a;refine absurd ?_ ha;show f (j+2) a=f (j+1) a;have q:bN le (f (j+2) a) (f (j+1) a):=q;rw[e]at q⊢;cases e5:f (j+1) a with
     |none=>rfl
     |some y=>rw[e5]at q;exact q.elim
   have hle:bN le (f (j+1) c) (f (j+2) a):=by
    rw[hw];refine hs (f (j+1)) r.rhs w (hG _) ?_ c hc;rw[<-e3];exact hw
   obtain⟨l,h1,h2,h3,h4⟩:=ih c dY;have Sh:a∉l:=λhm=>by
    obtain⟨i,hi,_,q2⟩:=h4 a hm;have s1:=J7 L h (i:=i+1) (j:=j+1) (by omega) a;exact ha (sH L ((h (j+1)).le0 a) (kZ L s1 (kZ L q2 hle)))
   refine⟨a::l,qJ.mpr ⟨Sh,h1⟩,by rw[bT,h2],λb hb=>?_,λb hb=>?_⟩
   .rcases bq.mp hb with e|q
    .rw[e,<-e2];exact hn r hr
    .exact h3 b q
   .rcases bq.mp hb with e|q
    .rw[e];exact⟨j+1,aF _,ha,pS L _⟩
    .obtain⟨i,hi,q1,q2⟩:=h4 b q
     exact⟨i,by omega,q1,kZ L q2 hle⟩
theorem J8:∀{l:List Nat},l.Nodup->(∀b∈l,b<n)->l.length<=n:=by
 induction n with
 |zero=>
  intro l _ h;cases l with
  |nil=>simp
  |cons a r=>exact absurd (h a aZ) (by omega)
 |succ n ih=>
  intro l hd h;have q:=ih (l:=l.filter (λb=>b != n)) (hd.sublist List.filter_sublist) λb hb=>by
   obtain⟨h1,h2⟩:=iO.mp hb;have:=h b h1;have:b≠n:=by simpa using h2
   omega
  have e:l.length<=(l.filter (λb=>b != n)).length+1:=by
   have hc:l.count n<=1:=List.nodup_iff_count.mp hd n;have s:l.length=l.countP (λb=>b != n)+l.count n:=by
    rw[List.length_eq_countP_add_countP (λb=>b != n),List.count]
    congr 1
    refine List.countP_congr λx _=>?_;simp
   rw[List.countP_eq_length_filter]at s;omega
  omega
theorem Si(L:nk le)(hl:Loc ev){Go:(Nat->Option W)->Prop}(hs:Sup le ev Go)(hn:∀r∈rules,r.lhs<n){f:Nat->Nat->Option W}(h:∀k,Rnd le rules ev (f k) (f (k+1)))(hG:∀k,Go (f k))(a:Nat):f (n+1) a=f n a:=by
 refine kP λz=>?_;obtain⟨l,h1,h2,h3,_⟩:=chain L hl hs hn h hG n a z;have:=J8 h1 h3;omega
abbrev at_(v:List (Option W)):Nat->Option W:=λa=>v.getD a none
variable{imp:Option W->List Sym->List (Option W)->Option W}
structure Imp(le:W->W->Prop)(ev:(Nat->Option W)->List Sym->Option W)(imp:Option W->List Sym->List (Option W)->Option W)(Go:(Nat->Option W)->Prop):Prop where
 le0:∀k ys v,Go (at_ v)->bN le (imp k ys v) k
 leR:∀k ys v,Go (at_ v)->bN le (imp k ys v) (ev (at_ v) ys)
 is:∀k ys v,Go (at_ v)->imp k ys v=k\/imp k ys v=ev (at_ v) ys
def J9(le:W->W->Prop)(ev:(Nat->Option W)->List Sym->Option W)(Go:(Nat->Option W)->Prop):Prop:=∀f f' ys,Go f->Go f'->(∀k,bN le (f k) (f' k))->bN le (ev f ys) (ev f' ys)
theorem zB{v:List (Option W)}(hr:r.lhs<v.length)(a:Nat):at_ (ee imp v r) a=if a=r.lhs then imp (at_ v a) r.rhs v else at_ v a:=by
 show(ee imp v r).getD a none=_;rw[cC,DH];by_cases e:a=r.lhs
 .rw[aj e,aj e]
  have ha:a<v.length:=by rw[e];exact hr
  show Option.getD (Option.map (λk=>imp k r.rhs v) v[a]?) none=imp (v.getD a none) r.rhs v;rw[cC,bO ha];rfl
 .rw[ai e,ai e]
  show Option.getD v[a]? none=v.getD a none;rw[cC]
section
variable{n:Nat}{Go:(Nat->Option W)->Prop}(L:nk le)(I:Imp le ev imp Go)(hm:J9 le ev Go)(hn:∀r∈rules,r.lhs<n)(k9:∀f r w,r∈rules->Go f->Go (λa=>if a=r.lhs then w else f a)\/(w≠f r.lhs/\w≠ev f r.rhs))
include L I hm hn k9
theorem DL{v:List (Option W)}(hr:r∈rules)(hv:v.length=n)(g:Go (at_ v)):Go (at_ (ee imp v r)):=by
 have e:at_ (ee imp v r)=λa=>if a=r.lhs then imp (at_ v r.lhs) r.rhs v else at_ v a:=by
  funext a
  rw[zB (by rw[hv];exact hn r hr)];by_cases e:a=r.lhs
  .rw[aj e,aj e,e]
  .rw[ai e,ai e]
 rw[e];rcases k9 (at_ v) r (imp (at_ v r.lhs) r.rhs v) hr g with q|⟨q1,q2⟩
 .exact q
 .rcases I.is (at_ v r.lhs) r.rhs v g with z|z
  .exact absurd z q1
  .exact absurd z q2
theorem Sj{M:Nat->Option W}(gM:Go M)(hM:∀r∈rules,bN le (M r.lhs) (ev M r.rhs)){v:List (Option W)}(hr:r∈rules)(hv:v.length=n)(g:Go (at_ v))(h:∀a,bN le (M a) (at_ v a))(a:Nat):bN le (M a) (at_ (ee imp v r) a):=by
 rw[zB (by rw[hv];exact hn r hr)];by_cases e:a=r.lhs
 .rw[aj e]
  rcases I.is (at_ v a) r.rhs v g with z|z
  .rw[z];exact h a
  .rw[z,e]
   exact kZ L (hM r hr) (hm M (at_ v) r.rhs gM g h)
 .rw[ai e];exact h a
theorem Ka{v:List (Option W)}(hr:r∈rules)(hv:v.length=n)(g:Go (at_ v))(a:Nat):bN le (at_ (ee imp v r) a) (at_ v a):=by
 rw[zB (by rw[hv];exact hn r hr)];by_cases e:a=r.lhs
 .rw[aj e];exact I.le0 _ _ _ g
 .rw[ai e];exact pS L _
theorem zC:∀(rs:List Rule),(∀r∈rs,r∈rules)->∀{v:List (Option W)},v.length=n->Go (at_ v)->(pass imp rs v).length=n/\Go (at_ (pass imp rs v))/\∀a,bN le (at_ (pass imp rs v) a) (at_ v a)
 |[],_,v,hv,g=>⟨hv,g,λa=>pS L _⟩
 |r::rs,hs,v,hv,g=>by
  have hr:=hs r aZ;have q:=zC rs (λq hq=>hs q (bg _ hq)) (v:=ee imp v r) (by rw[oA];exact hv) (DL L I hm hn k9 hr hv g);exact⟨q.1,q.2.1,λa=>kZ L (q.2.2 a) (Ka L I hm hn k9 hr hv g a)⟩
theorem Kc:∀(rs:List Rule),(∀r∈rs,r∈rules)->∀{v:List (Option W)},v.length=n->Go (at_ v)->∀f:Nat->Option W,Go f->(∀a,bN le (at_ v a) (f a))->∀r∈rs,bN le (at_ (pass imp rs v) r.lhs) (ev f r.rhs)
 |[],_,v,_,_,f,_,_,r,hr=>by simp at hr
 |q::rs,hs,v,hv,g,f,gf,hf,r,hr=>by
  have hq:=hs q aZ;have hs':∀r∈rs,r∈rules:=λz hz=>hs z (bg _ hz);have hv':(ee imp v q).length=n:=by rw[oA];exact hv
  have g':=DL L I hm hn k9 hq hv g;rw[zy];rcases bq.mp hr with e|z
  .subst e
   refine kZ L ((zC L I hm hn k9 rs hs' hv' g').2.2 r.lhs) ?_;rw[zB (by rw[hv];exact hn r hq),aj rfl];exact kZ L (I.leR _ _ _ g) (hm (at_ v) f r.rhs g gf hf)
  .exact Kc rs hs' hv' g' f gf (λa=>kZ L (Ka L I hm hn k9 hq hv g a) (hf a)) r z
theorem Sk{v:List (Option W)}{f f':Nat->Option W}(hv:v.length=n)(g:Go (at_ v))(gf:Go f)(R:Rnd le rules ev f f')(h:∀a,bN le (at_ v a) (f a))(a:Nat):bN le (at_ (pass imp rules v) a) (f' a):=by
 rcases R.is a with e|⟨r,hr,e1,e2⟩
 .rw[e]
  exact kZ L ((zC L I hm hn k9 rules (λ_ q=>q) hv g).2.2 a) (h a)
 .rw[e2,<-e1]
  exact Kc L I hm hn k9 rules (λ_ q=>q) hv g f gf h r hr
theorem Sl(hl:Loc ev)(hs:Sup le ev Go){f:Nat->Nat->Option W}(h:∀k,Rnd le rules ev (f k) (f (k+1)))(hG:∀k,Go (f k))(h0:∀a,f 0 a=none)(g0:Go (at_ (List.replicate n (none:Option W)))):
  (∃N,Fix imp rules (passes imp rules N (List.replicate n none)))/\∀j,Fix imp rules (passes imp rules j (List.replicate n none))->∀a,a<n->(passes imp rules j (List.replicate n none))[a]?=some (f n a):=by
 have st:∀a,f (n+1) a=f n a:=Si L hl hs hn h hG;have hM:∀r∈rules,bN le (f n r.lhs) (ev (f n) r.rhs):=λr hr=>by rw[<-st];exact(h n).leR r hr
 have base:∀j,(passes imp rules j (List.replicate n none)).length=n/\Go (at_ (passes imp rules j (List.replicate n none)))/\(∀a,bN le (f n a) (at_ (passes imp rules j (List.replicate n none)) a))/\∀a,bN le (at_ (passes imp rules j (List.replicate n none)) a) (f j a):=by
  intro j
  induction j with
  |zero=>
   have e:∀a,at_ (List.replicate n (none:Option W)) a=none:=λa=>by
    show(List.replicate n (none:Option W)).getD a none=none;rw[cC,qI];split<;>rfl
   refine⟨i9,g0,λa=>?_,λa=>?_⟩
   .show bN le _ (at_ (List.replicate n (none:Option W)) a)
    rw[e];exact pR
   .rw[h0];exact pR
  |succ j ih=>
   obtain⟨i1,i2,i3,i4⟩:=ih;have q:=zC L I hm hn k9 rules (λ_ q=>q) i1 i2;refine⟨q.1,q.2.1,?_,Sk L I hm hn k9 i1 i2 (hG j) (h j) i4⟩;have:=zA imp (J:=λv=>v.length=n/\Go (at_ v)/\∀a,bN le (f n a) (at_ v a)) rules (λv r hr ⟨z1,z2,z3⟩=>⟨by rw[oA];exact z1,DL L I hm hn k9 hr z1 z2,Sj L I hm hn k9 (hG n) hM hr z1 z2 z3⟩) (v:=passes imp rules j (List.replicate n none)) ⟨i1,i2,i3⟩;exact this.2.2
 have Kd:∀v:List (Option W),v.length=n->(∀a,at_ v a=f n a)->∀a,a<n->v[a]?=some (f n a):=λv hv e a ha=>by
  rw[<-e a];show v[a]?=some (v.getD a none);rw[cC,bO (by omega)];rfl
 constructor
 .refine⟨n,λr hr k hk=>?_⟩
  obtain⟨i1,i2,i3,i4⟩:=base n;have e:at_ (passes imp rules n (List.replicate n none))=f n:=funext λa=>sH L (i4 a) (i3 a)
  have ek:k=f n r.lhs:=by
   have:=Kd _ i1 (λa=>congrFun e a) r.lhs (hn r hr);rw[hk]at this;exact Option.some.inj this
  refine sH L (I.le0 _ _ _ i2) ?_;rcases I.is k r.rhs _ i2 with z|z
  .rw[z];exact pS L _
  .rw[z,e,ek];exact hM r hr
 .intro j hF
  obtain⟨i1,i2,i3,i4⟩:=base j;generalize passes imp rules j (List.replicate n none)=v at hF i1 i2 i3 i4⊢;have down:∀i a,bN le (at_ v a) (f i a):=by
   intro i
   induction i with
   |zero=>intro a;rw[h0];exact pR
   |succ i ih=>
    intro a;rcases(h i).is a with e|⟨r,hr,e1,e2⟩
    .rw[e];exact ih a
    .rw[e2,<-e1]
     refine kZ L ?_ (hm (at_ v) (f i) r.rhs i2 (hG i) ih);have aR:r.lhs<v.length:=by rw[i1];exact hn r hr
     have q:=hF r hr (at_ v r.lhs) (by show v[r.lhs]?=some (v.getD r.lhs none);rw[cC,bO aR];rfl);have z:=I.leR (at_ v r.lhs) r.rhs v i2;rw[q]at z;exact z
  exact Kd v i1 λa=>sH L (down n a) (i3 a)
end
end
abbrev WT:=Nat×List Nat
theorem zD:∀x:List Nat,lessText x x=false
 |[]=>rfl
 |a::x=>by
  unfold lessText;rw[ai (l0 a),ai (l0 a)];exact zD x
theorem Ke:∀{x y:List Nat},lessText x y=true->lessText y x=false
 |[],[],h=>by simp[lessText]at h
 |[],_::_,_=>rfl
 |_::_,[],h=>by simp[lessText]at h
 |a::x,b::y,h=>by
  unfold lessText at h⊢;by_cases h1:a<b
  .rw[ai (by omega),aj h1]
  .rw[ai h1]at h
   by_cases h2:b<a
   .rw[aj h2]at h;cases h
   .rw[ai h2]at h
    rw[ai h2,ai h1];exact Ke h
theorem Kf:∀{x y:List Nat},lessText x y=false->lessText y x=false->x=y
 |[],[],_,_=>rfl
 |[],_::_,h,_=>by simp[lessText]at h
 |_::_,[],_,h=>by simp[lessText]at h
 |a::x,b::y,h,k=>by
  unfold lessText at h k;by_cases h1:a<b
  .rw[aj h1]at h;cases h
  .rw[ai h1]at h
   by_cases h2:b<a
   .rw[aj h2]at k;cases k
   .rw[ai h2]at h
    rw[ai h2,ai h1]at k;rw[Kf h k,show a=b by omega]
theorem Kg:∀{x y z:List Nat},lessText y x=false->lessText z y=false->lessText z x=false
 |[],[],[],_,_=>rfl
 |[],[],_::_,_,_=>rfl
 |[],_::_,[],_,h=>by simp[lessText]at h
 |[],_::_,_::_,_,_=>rfl
 |_::_,[],_,h,_=>by simp[lessText]at h
 |_::_,_::_,[],_,h=>by simp[lessText]at h
 |a::x,b::y,c::z,h,k=>by
  unfold lessText at h k⊢;by_cases h1:b<a
  .rw[aj h1]at h;cases h
  .rw[ai h1]at h
   by_cases k1:c<b
   .rw[aj k1]at k;cases k
   .rw[ai k1]at k
    rw[ai (show¬c<a by omega)];by_cases h2:a<b
    .rw[aj (show a<c by omega)]
    .rw[ai h2]at h
     by_cases k2:b<c
     .rw[aj (show a<c by omega)]
     .rw[ai k2]at k
      rw[ai (show¬a<c by omega)];exact Kg h k
theorem Kh:∀{a c:List Nat} (b d:List Nat),a.length=c.length->lessText (a++b) (c++d)=(lessText a c||(decide (a=c)&&lessText b d))
 |[],[],b,d,_=>by simp[lessText]
 |x::a,[],_,_,h=>by simp at h
 |[],y::c,_,_,h=>by simp at h
 |x::a,y::c,b,d,h=>by
  have ih:=Kh (a:=a) (c:=c) b d (by simpa using h);have lc:∀(a b:Nat) (x y:List Nat),lessText (a::x) (b::y)=if a<b then true else if b<a then false else lessText x y:=λ_ _ _ _=>rfl
  rw[zf,zf,lc,lc];by_cases h1:x<y
  .rw[aj h1,aj h1];rfl
  .rw[ai h1,ai h1]
   by_cases h2:y<x
   .rw[aj h2,aj h2]
    have:¬(x::a=y::c):=λe=>by have:=(List.cons.inj e).1;omega
    rw[bZ this];rfl
   .rw[ai h2,ai h2,ih]
    have e:x=y:=by omega
    subst e
    congr 2
    simp
def ig(p q:WT):Prop:=p.1<q.1\/(p.1=q.1/\lessText q.2 p.2=false)
def fh(p q:WT):Bool:=decide (p.1<q.1)||(decide (p.1=q.1)&&lessText p.2 q.2)
theorem qV:nk ig:=by
 refine⟨λa=>.inr ⟨rfl,zD _⟩,λa b c h k=>?_,λa b h k=>?_,λa b=>?_⟩
 .rcases h with h|⟨h1,h2⟩<;>rcases k with k|⟨k1,k2⟩
  .exact .inl (by omega)
  .exact .inl (by omega)
  .exact .inl (by omega)
  .exact .inr ⟨by omega,Kg h2 k2⟩
 .rcases h with h|⟨h1,h2⟩<;>rcases k with k|⟨k1,k2⟩
  .omega
  .omega
  .omega
  .exact Prod.ext h1 (Kf k2 h2)
 .rcases Nat.lt_trichotomy a.1 b.1 with h|h|h
  .exact .inl (.inl h)
  .cases e:lessText b.2 a.2 with
   |false=>exact .inl (.inr ⟨h,e⟩)
   |true=>exact .inr (.inr ⟨h.symm,Ke e⟩)
  .exact .inr (.inl h)
theorem zE{p q:WT}:fh p q=false↔ig q p:=by
 unfold fh ig;rw[JA,abQ,Bool.and_eq_false_iff,abQ];constructor
 .rintro⟨h1,h2⟩
  rcases h2 with h2|h2
  .exact .inl (by omega)
  .by_cases e:q.1=p.1
   .exact .inr ⟨e,h2⟩
   .exact .inl (by omega)
 .rintro(h|⟨h1,h2⟩)
  .exact⟨by omega,.inl (by omega)⟩
  .exact⟨by omega,.inr h2⟩
theorem Sn{p q:WT}(h:fh p q=true):ig p q:=by
 rcases qV.total p q with k|k
 .exact k
 .rw[zE.mpr k]at h;cases h
def gr(f:Nat->Option WT):Sym->Option WT
 | .non k=>f k
 | .range lo _=>some (1,[lo])
def cW(f:Nat->Option WT):List Sym->Option WT
 |[]=>some (0,[])
 |y::r=>match gr f y,cW f r with
  |some p,some q=>some (p.1+q.1,p.2++q.2)
  |_,_=>none
def ir(p:WT):WT:=if p.1<=64 then p else(p.1,[])
def d7(f:Nat->Option WT)(ys:List Sym):Option WT:=(cW f ys).map ir
def jz(k found:Option WT):Option WT:=match found with
 |none=>k
 |some y=>match k with
  |none=>some y
  |some x=>some (if fh y x then y else x)
structure WF(p:WT):Prop where
 short:p.1<=64->p.2.length=p.1
 long:64<p.1->p.2=[]
def iQ(f:Nat->Option WT):Prop:=∀a w,f a=some w->WF w
theorem DM{f:Nat->Option WT}{r:List Sym}{p:WT}(h:cW f (y::r)=some p):∃u q,gr f y=some u/\cW f r=some q/\p=(u.1+q.1,u.2++q.2):=by
 unfold cW at h;cases e1:gr f y with
 |none=>rw[e1]at h;simp at h
 |some u=>
  cases e2:cW f r with
  |none=>rw[e1,e2]at h;simp at h
  |some q=>
   rw[e1,e2]at h;exact⟨u,q,rfl,rfl,by simpa using h.symm⟩
theorem DN{f:Nat->Option WT}{r:List Sym}{u q:WT}(h1:gr f y=some u)(h2:cW f r=some q):cW f (y::r)=some (u.1+q.1,u.2++q.2):=by
 rw[show cW f (y::r)=_ from rfl];unfold cW;rw[h1,h2]
theorem wK{f:Nat->Option WT}(g:iQ f){u:WT}(h:gr f y=some u):WF u:=by
 cases y with
 |non k=>exact g k u h
 |range lo hi=>
  have e:(1,[lo])=u:=by simpa[gr]using h
  subst e;exact⟨λ_=>rfl,λz=>absurd z (by show¬64<1;omega)⟩
theorem DP{f:Nat->Option WT}(g:iQ f):∀{ys:List Sym} {p:WT},cW f ys=some p->p.1<=64->p.2.length=p.1
 |[],p,h,_=>by
  have e:(0,[])=p:=by simpa[cW]using h
  subst e;rfl
 |y::r,p,h,hp=>by
  obtain⟨u,q,h1,h2,rfl⟩:=DM h;have a1:=(wK g h1).short (by have:u.1+q.1<=64:=hp;omega);have a2:=DP g h2 (by have:u.1+q.1<=64:=hp;omega);show(u.2++q.2).length=u.1+q.1;rw[aX,a1,a2]
theorem So{f:Nat->Option WT}(g:iQ f){p:WT}(h:cW f ys=some p):WF (ir p):=by
 unfold ir;by_cases e:p.1<=64
 .rw[aj e]
  exact⟨λ_=>DP g h e,λz=>absurd z (by omega)⟩
 .rw[ai e]
  exact⟨λz=>absurd z e,λ_=>rfl⟩
theorem wL{f:Nat->Option WT}(g:iQ f){w:WT}(h:d7 f ys=some w):WF w:=by
 obtain⟨p,hp,rfl⟩:=qH.mp h;exact So g hp
theorem Kl{f f':Nat->Option WT}:∀{ys:List Sym},(∀k,Sym.non k∈ys->f k=f' k)->cW f ys=cW f' ys
 |[],_=>rfl
 |y::r,h=>by
  have e1:gr f y=gr f' y:=by
   cases y with
   |non k=>exact h k aZ
   |range lo hi=>rfl
  have e2:=Kl (ys:=r) λk hk=>h k (bg _ hk);show(match gr f y,cW f r with|some p,some q=>some (p.1+q.1,p.2++q.2)|_,_=>none)=(match gr f' y,cW f' r with|some p,some q=>some (p.1+q.1,p.2++q.2)|_,_=>none);rw[e1,e2]
theorem Sq:Loc d7:=λf f' ys h=>by unfold d7;rw[Kl h]
theorem Km{f:Nat->Option WT}:∀{ys:List Sym} {p:WT},iQ f->cW f ys=some p->∀k,Sym.non k∈ys->∃u,f k=some u/\u.1<=p.1/\(u.1=p.1->p.1<=64->u.2=p.2)
 |[],_,_,_,k,hk=>by simp at hk
 |y::r,p,g,h,k,hk=>by
  obtain⟨u,q,h1,h2,rfl⟩:=DM h;rcases bq.mp hk with e|hk
  .subst e
   refine⟨u,h1,Ro _ _,λe hp=>?_⟩;have e:u.1=u.1+q.1:=e;have hp:u.1+q.1<=64:=hp;have:=DP g h2 (by omega);have:q.2=[]:=abR (by omega);show u.2=u.2++q.2;rw[this,fW]
  .obtain⟨u',a1,a2,a3⟩:=Km g h2 k hk
   refine⟨u',a1,by show u'.1<=u.1+q.1;omega,λe hp=>?_⟩;have e:u'.1=u.1+q.1:=e;have hp:u.1+q.1<=64:=hp;have:=(wK g h1).short (by omega);have:u.2=[]:=abR (by omega);show u'.2=u.2++q.2;rw[this,C3];exact a3 (by omega) (by omega)
theorem Ss:Sup ig d7 iQ:=λf ys w g h k hk=>by
 obtain⟨p,hp,rfl⟩:=qH.mp h;obtain⟨u,h1,h2,h3⟩:=Km g hp k hk;rw[h1];show ig u (ir p);unfold ir;by_cases e:p.1<=64
 .rw[aj e]
  by_cases q:u.1=p.1
  .exact .inr ⟨q,by rw[h3 q e];exact zD _⟩
  .exact .inl (by omega)
 .rw[ai e]
  by_cases q:u.1=p.1
  .refine .inr ⟨q,?_⟩
   rw[(g k u h1).long (by omega)];rfl
  .exact .inl (by show u.1<p.1;omega)
theorem Kn{p q:WT}(h:ig p q):p.1<=q.1:=by rcases h with h|⟨h,_⟩<;>omega
theorem Sv{p q:WT}(h:ig p q)(e:p.1=q.1):lessText q.2 p.2=false:=by
 rcases h with h|⟨_,h⟩
 .omega
 .exact h
theorem Sw{f f':Nat->Option WT}(h:∀k,bN ig (f k) (f' k)){q:WT}(hq:gr f' y=some q):∃p,gr f y=some p/\ig p q:=by
 cases y with
 |non k=>
  have z:=h k;rw[show f' k=some q from hq]at z;cases e:f k with
  |none=>rw[e]at z;exact z.elim
  |some p=>rw[e]at z;exact⟨p,e,z⟩
 |range lo hi=>exact⟨q,hq,qV.refl q⟩
theorem Ko{f f':Nat->Option WT}(g:iQ f)(g':iQ f')(h:∀k,bN ig (f k) (f' k)):∀{ys:List Sym} {q:WT},cW f' ys=some q->∃p,cW f ys=some p/\p.1<=q.1/\(p.1=q.1->q.1<=64->lessText q.2 p.2=false)
 |[],q,hq=>⟨q,hq,aF _,λ_ _=>zD _⟩
 |y::r,q,hq=>by
  obtain⟨u',q',h1,h2,rfl⟩:=DM hq;obtain⟨u,a1,a2⟩:=Sw h h1;obtain⟨p,b1,b2,b3⟩:=Ko g g' h h2;refine⟨_,DN a1 b1,?_,λe hle=>?_⟩
  .have:=Kn a2
   show u.1+p.1<=u'.1+q'.1;omega
  .have e:u.1+p.1=u'.1+q'.1:=e
   have hle:u'.1+q'.1<=64:=hle;have c1:=Kn a2;have c2:u.1=u'.1:=by omega
   have l1:=(wK g a1).short (by omega);have l2:=(wK g' h1).short (by omega);show lessText (u'.2++q'.2) (u.2++p.2)=false;rw[Kh q'.2 p.2 (by omega),Sv a2 c2,b3 (by omega) (by omega)];simp
theorem Sx:J9 ig d7 iQ:=λf f' ys g g' h=>by
 unfold d7;cases e:cW f' ys with
 |none=>exact pR
 |some q=>
  obtain⟨p,h1,h2,h3⟩:=Ko g g' h e;rw[h1];show ig (ir p) (ir q);unfold ir;by_cases hq:q.1<=64
  .rw[aj hq,aj (by omega)]
   by_cases z:p.1=q.1
   .exact .inr ⟨z,h3 z hq⟩
   .exact .inl (by omega)
  .rw[ai hq]
   by_cases z:p.1<=64
   .rw[aj z];exact .inl (by show p.1<q.1;omega)
   .rw[ai z]
    by_cases y:p.1=q.1
    .exact .inr ⟨y,rfl⟩
    .exact .inl (by show p.1<q.1;omega)
theorem Kp(k y:Option WT):bN ig (jz k y) k:=by
 cases y with
 |none=>exact pS qV _
 |some y=>
  cases k with
  |none=>trivial
  |some x=>
   show ig (if fh y x then y else x) x;cases e:fh y x with
   |true=>rw[aj rfl];exact Sn e
   |false=>rw[ai dP];exact qV.refl x
theorem Kq(k y:Option WT):bN ig (jz k y) y:=by
 cases y with
 |none=>exact pR
 |some y=>
  cases k with
  |none=>exact qV.refl y
  |some x=>
   show ig (if fh y x then y else x) y;cases e:fh y x with
   |true=>rw[aj rfl];exact qV.refl y
   |false=>rw[ai dP];exact zE.mp e
theorem DQ(k y:Option WT):jz k y=k\/jz k y=y:=by
 cases y with
 |none=>exact .inl rfl
 |some y=>
  cases k with
  |none=>exact .inr rfl
  |some x=>
   show some (if fh y x then y else x)=some x\/some (if fh y x then y else x)=some y;cases fh y x with
   |true=>exact .inr rfl
   |false=>exact .inl rfl
def pT(k:Option WT)(ys:List Sym)(v:List (Option WT)):Option WT:=jz k (d7 (at_ v) ys)
theorem Sy:Imp ig d7 pT iQ:=⟨λ_ _ _ _=>Kp _ _,λ_ _ _ _=>Kq _ _,λ_ _ _ _=>DQ _ _⟩
theorem Sz{f:Nat->Option WT}{w:Option WT}(g:iQ f):iQ (λa=>if a=r.lhs then w else f a)\/(w≠f r.lhs/\w≠d7 f r.rhs):=by
 by_cases h1:w=f r.lhs
 .left
  intro a u hu;have hu:(if a=r.lhs then w else f a)=some u:=hu;by_cases e:a=r.lhs
  .rw[aj e,h1]at hu;exact g _ u hu
  .rw[ai e]at hu;exact g a u hu
 .by_cases h2:w=d7 f r.rhs
  .left
   intro a u hu;have hu:(if a=r.lhs then w else f a)=some u:=hu;by_cases e:a=r.lhs
   .rw[aj e,h2]at hu;exact wL g hu
   .rw[ai e]at hu;exact g a u hu
  .exact .inr ⟨h1,h2⟩
section
variable{W:Type}{le:W->W->Prop}{ev:(Nat->Option W)->List Sym->Option W}{best:Option W->Option W->Option W}
theorem Kr(L:nk le)(b0:∀k y,bN le (best k y) k)(bR:∀k y,bN le (best k y) y)(bi:∀k y,best k y=k\/best k y=y)(f:Nat->Option W)(a:Nat):∀(rules:List Rule) (l:Option W),
  bN le (rules.foldl (λl r=>if r.lhs==a then best l (ev f r.rhs)else l) l) l/\(∀r∈rules,r.lhs=a->bN le (rules.foldl (λl r=>if r.lhs==a then best l (ev f r.rhs)else l) l) (ev f r.rhs))/\
  (rules.foldl (λl r=>if r.lhs==a then best l (ev f r.rhs)else l) l=l\/∃r∈rules,r.lhs=a/\rules.foldl (λl r=>if r.lhs==a then best l (ev f r.rhs)else l) l=ev f r.rhs)
 |[],l=>⟨pS L l,λr hr=>by simp at hr,.inl rfl⟩
 |q::rs,l=>by
  rw[m8];have ih:=Kr L b0 bR bi f a rs (if q.lhs==a then best l (ev f q.rhs)else l);by_cases e:q.lhs=a
  .have e':(q.lhs==a)=true:=by simpa using e
   rw[aj e']at ih⊢;obtain⟨i1,i2,i3⟩:=ih;refine⟨kZ L i1 (b0 _ _),λr hr hra=>?_,?_⟩
   .rcases bq.mp hr with z|z
    .subst z;exact kZ L i1 (bR _ _)
    .exact i2 r z hra
   .rcases i3 with z|⟨r,hr,h1,h2⟩
    .rcases bi l (ev f q.rhs)with y|y
     .left;rw[z];exact y
     .right;exact⟨q,aZ,e,by rw[z];exact y⟩
    .exact .inr ⟨r,bg _ hr,h1,h2⟩
  .have e':¬(q.lhs==a)=true:=by simpa using e
   rw[ai e']at ih⊢;obtain⟨i1,i2,i3⟩:=ih;refine⟨i1,λr hr hra=>?_,?_⟩
   .rcases bq.mp hr with z|z
    .subst z;exact absurd hra e
    .exact i2 r z hra
   .rcases i3 with z|⟨r,hr,h1,h2⟩
    .exact .inl z
    .exact .inr ⟨r,bg _ hr,h1,h2⟩
def pU(best:Option W->Option W->Option W)(ev:(Nat->Option W)->List Sym->Option W)(n:Nat)(rules:List Rule)(t:List (Option W)):List (Option W):=
 (List.range n).map (λa=>rules.foldl (λl r=>if r.lhs==a then best l (ev (at_ t) r.rhs)else l) (t.getD a none))
def jN(best:Option W->Option W->Option W)(ev:(Nat->Option W)->List Sym->Option W)(n:Nat)(rules:List Rule):Nat->List (Option W)
 |0=>(List.range n).map (λ_=>none)
 |k+1=>pU best ev n rules (jN best ev n rules k)
theorem sI(k:Nat):(jN best ev n rules k).length=n:=by
 cases k with
 |zero=>unfold jN;rw[aK,gq]
 |succ k=>unfold jN pU;rw[aK,gq]
theorem zF{t:List (Option W)}(h:a<n):at_ (pU best ev n rules t) a=rules.foldl (λl r=>if r.lhs==a then best l (ev (at_ t) r.rhs)else l) (t.getD a none):=by
 show(pU best ev n rules t).getD a none=_;unfold pU;rw[cC,fK,rZ h];rfl
theorem zG{t:List (Option W)}(h:t.length<=a):at_ t a=none:=by
 show t.getD a none=none;rw[cC,j7 h];rfl
theorem Ks(L:nk le)(b0:∀k y,bN le (best k y) k)(bR:∀k y,bN le (best k y) y)(bi:∀k y,best k y=k\/best k y=y)(hn:∀r∈rules,r.lhs<n)(k:Nat):
  Rnd le rules ev (at_ (jN best ev n rules k)) (at_ (jN best ev n rules (k+1))):=by
 have F:=λa=>Kr (ev:=ev) L b0 bR bi (at_ (jN best ev n rules k)) a rules ((jN best ev n rules k).getD a none);refine⟨λa=>?_,λr hr=>?_,λa=>?_⟩
 .by_cases ha:a<n
  .show bN le (at_ (pU best ev n rules (jN best ev n rules k)) a) _
   rw[zF ha];exact(F a).1
  .rw[zG (by rw[sI];omega)]
   rw[zG (by rw[sI];omega)];exact pR
 .show bN le (at_ (pU best ev n rules (jN best ev n rules k)) r.lhs) _
  rw[zF (hn r hr)];exact(F r.lhs).2.1 r hr rfl
 .by_cases ha:a<n
  .rcases(F a).2.2 with z|⟨r,hr,h1,h2⟩
   .left
    show at_ (pU best ev n rules (jN best ev n rules k)) a=_
    rw[zF ha];exact z
   .right
    refine⟨r,hr,h1,?_⟩;show at_ (pU best ev n rules (jN best ev n rules k)) a=_
    rw[zF ha];exact h2
  .left
   rw[zG (by rw[sI];omega),zG (by rw[sI];omega)]
end
abbrev wR(g:Grammar)(k:Nat):List (Option WT):=jN jz d7 g.nons g.rules k
theorem Ku(G:aS g)(k:Nat):Rnd ig g.rules d7 (at_ (wR g k)) (at_ (wR g (k+1))):=Ks qV Kp Kq DQ (λr hr=>(G.rules r hr).lhs) k
theorem wM{W:Type}{best:Option W->Option W->Option W}{ev:(Nat->Option W)->List Sym->Option W}(a:Nat):at_ (jN best ev n rules 0) a=none:=by
 show((List.range n).map (λ_=>(none:Option W))).getD a none=none;rw[cC,fK];cases (List.range n)[a]?<;>rfl
theorem sJ{g:Grammar}(G:aS g):∀k,iQ (at_ (wR g k))
 |0=>λa w h=>by rw[wM]at h;cases h
 |k+1=>λa w h=>by
  rcases(Ku G k).is a with z|⟨r,_,_,z⟩
  .rw[z]at h;exact sJ G k a w h
  .rw[z]at h;exact wL (sJ G k) h
theorem SA(G:aS g):(∃N,Fix pT g.rules (passes pT g.rules N (List.replicate g.nons none)))/\∀j,Fix pT g.rules (passes pT g.rules j (List.replicate g.nons none))->passes pT g.rules j (List.replicate g.nons none)=wR g g.nons:=by
 have q:=Sl qV Sy Sx (λr hr=>(G.rules r hr).lhs) (λf r w _ g'=>Sz g') Sq Ss (Ku G) (sJ G) wM (λa w h=>by
  have:at_ (List.replicate g.nons (none:Option WT)) a=none:=by
   show(List.replicate g.nons (none:Option WT)).getD a none=none;rw[cC,qI];split<;>rfl
  rw[this]at h;cases h)
 refine⟨q.1,λj hj=>C2 λa=>?_⟩;by_cases ha:a<g.nons
 .rw[q.2 j hj a ha]
  show some ((wR g g.nons).getD a none)=_;rw[cC,bO (by rw[sI];exact ha)];rfl
 .rw[j7 (by rw[qU,i9];omega),j7 (by rw[sI];omega)]
abbrev eU(o:Option WT):Option Nat:=o.map (·.1)
def cG(o:Option WT):Option Text:=match o with
 |none=>none
 |some p=>if p.1<=64 then some p.2 else none
theorem getD_map{α β:Type}(f:α->β)(t:List α)(a:Nat)(d:α):(t.map f).getD a (f d)=f (t.getD a d):=by
 rw[cC,cC,fK];cases t[a]?<;>rfl
theorem Kv(t:List (Option WT)):∀ys:List Sym,addAll (ys.map (symLength (t.map eU)))=eU (cW (at_ t) ys)
 |[]=>rfl
 |y::r=>by
  have ih:=Kv t r;have e:symLength (t.map eU) y=eU (gr (at_ t) y):=by
   cases y with
   |non k=>exact getD_map eU t k none
   |range lo hi=>rfl
  rw[cD,e];show addAll (eU (gr (at_ t) y)::r.map (symLength (t.map eU)))=eU (match gr (at_ t) y,cW (at_ t) r with|some p,some q=>some (p.1+q.1,p.2++q.2)|_,_=>none);cases e1:gr (at_ t) y with
  |none=>rfl
  |some u=>
   show(addAll (r.map (symLength (t.map eU)))).map (λm=>u.1+m)=_;rw[ih];cases cW (at_ t) r<;>rfl
theorem SD(o:Option WT):eU (o.map ir)=eU o:=by
 cases o with
 |none=>rfl
 |some p=>
  show some (ir p).1=some p.1;unfold ir;split<;>rfl
theorem SE(k y:Option WT):least (eU k) (eU y)=eU (jz k y):=by
 cases y with
 |none=>cases k<;>rfl
 |some y=>
  cases k with
  |none=>rfl
  |some x=>
   show some (if y.1<x.1 then y.1 else x.1)=some (if fh y x then y else x).1
   congr 1
   unfold fh;by_cases h1:y.1<x.1
   .rw[aj h1,cT h1];rfl
   .rw[ai h1,bZ h1]
    by_cases h2:y.1=x.1
    .rw[cT h2]
     cases lessText y.2 x.2
     .rfl
     .exact h2.symm
    .rw[bZ h2];rfl
theorem Kw(t:List (Option WT))(a:Nat):∀(rules:List Rule) (l:Option WT),
  rules.foldl (λl r=>if r.lhs==a then least l (addAll (r.rhs.map (symLength (t.map eU))))else l) (eU l)=eU (rules.foldl (λl r=>if r.lhs==a then jz l (d7 (at_ t) r.rhs)else l) l)
 |[],l=>rfl
 |r::rs,l=>by
  rw[m8,m8];have e:(if r.lhs==a then least (eU l) (addAll (r.rhs.map (symLength (t.map eU))))else eU l)=eU (if r.lhs==a then jz l (d7 (at_ t) r.rhs)else l):=by
   split
   .rw[Kv,<-SE]
    unfold d7;rw[SD]
   .rfl
  rw[e];exact Kw t a rs _
theorem Kx(g:Grammar):∀(k:Nat) (t:List (Option Nat)),lengthRounds g (k+1) t=lengthRound g (lengthRounds g k t)
 |0,_=>rfl
 |k+1,t=>by
  show lengthRounds g (k+1) (lengthRound g t)=lengthRound g (lengthRounds g k (lengthRound g t));exact Kx g k _
theorem Ky(g:Grammar):∀k,lengthRounds g k ((List.range g.nons).map (λ_=>none))=(wR g k).map eU
 |0=>by
  show(List.range g.nons).map (λ_=>(none:Option Nat))=((List.range g.nons).map (λ_=>(none:Option WT))).map eU;rw[pI];rfl
 |k+1=>by
  rw[Kx,Ky g k];show(List.range g.nons).map _=((List.range g.nons).map _).map eU;rw[pI];refine wc λa _=>?_;rw[show((wR g k).map eU).getD a none=eU ((wR g k).getD a none)from getD_map eU _ a none];exact Kw (wR g k) a g.rules _
theorem SG(g:Grammar)(a:Nat):leastLength g a=eU (at_ (wR g g.nons) a):=by
 unfold leastLength leastLengths;rw[Ky];exact getD_map eU _ a none
theorem join_none{t:List (Option WT)}(G:iQ (at_ t)):∀{ys:List Sym},joinAll (ys.map (symText (t.map cG)))=none->cW (at_ t) ys=none\/∃p,cW (at_ t) ys=some p/\64<p.1
 |[],h=>by simp[joinAll]at h
 |y::r,h=>by
  rw[cD]at h;cases e1:gr (at_ t) y with
  |none=>
   left
   unfold cW;rw[e1]
  |some u=>
   cases e2:cW (at_ t) r with
   |none=>
    left
    unfold cW;rw[e1,e2]
   |some q=>
    right
    refine⟨_,DN e1 e2,?_⟩;show 64<u.1+q.1;refine kP λz=>?_;have es:symText (t.map cG) y=some u.2:=by
     cases y with
     |non k=>
      show(t.map cG).getD k none=_;rw[show(t.map cG).getD k none=cG (t.getD k none)from getD_map cG t k none];rw[show t.getD k none=some u from e1];show(if u.1<=64 then some u.2 else none)=_;rw[aj (by omega)]
     |range lo hi=>
      have:(1,[lo])=u:=by simpa[gr]using e1
      subst this;rfl
    rw[es]at h;have h':(joinAll (r.map (symText (t.map cG)))).map (λy=>u.2++y)=none:=h;rcases join_none G (ys:=r) (by simpa using h')with w|⟨p,w,w2⟩
    .rw[e2]at w;cases w
    .rw[e2]at w;cases w;omega
theorem join_some{t:List (Option WT)}(G:iQ (at_ t)):∀{ys:List Sym} {y:Text},joinAll (ys.map (symText (t.map cG)))=some y->cW (at_ t) ys=some (y.length,y)
 |[],y,h=>by
  have:[]=y:=by simpa[joinAll]using h
  subst this;rfl
 |s::r,y,h=>by
  rw[cD]at h;cases e1:symText (t.map cG) s with
  |none=>rw[e1]at h;simp[joinAll]at h
  |some x=>
   rw[e1]at h;have h':(joinAll (r.map (symText (t.map cG)))).map (λy=>x++y)=some y:=h;obtain⟨z,hz,rfl⟩:=qH.mp h';have e2:gr (at_ t) s=some (x.length,x):=by
    cases s with
    |non k=>
     have jO:(t.map cG).getD k none=some x:=e1;rw[show(t.map cG).getD k none=cG (t.getD k none)from getD_map cG t k none]at jO;show t.getD k none=_;cases e3:t.getD k none with
     |none=>rw[e3]at jO;cases jO
     |some u=>
      rw[e3]at jO;have jO:(if u.1<=64 then some u.2 else none)=some x:=jO;by_cases hu:u.1<=64
      .rw[aj hu]at jO
       cases jO;rw[(G k u e3).short hu]
      .rw[ai hu]at jO;cases jO
    |range lo hi=>
     have:[lo]=x:=by simpa[symText]using e1
     subst this;rfl
   rw[DN e2 (join_some G hz)];rw[aX]
theorem SH{l:Option WT}{t:List (Option WT)}(G:iQ (at_ t))(hl:∀w,l=some w->WF w)(ys:List Sym):better (cG l) (joinAll (ys.map (symText (t.map cG))))=cG (jz l (d7 (at_ t) ys)):=by
 cases e:joinAll (ys.map (symText (t.map cG)))with
 |none=>
  have e0:better (cG l) none=cG l:=by cases cG l<;>rfl
  rw[e0];unfold d7;rcases join_none G e with w|⟨p,w,w2⟩
  .rw[w];rfl
  .rw[w]
   have ec:ir p=(p.1,[]):=by unfold ir;rw[ai (by omega)]
   show cG l=cG (jz l (some (ir p)));rw[ec];cases l with
   |none=>
    show(none:Option Text)=if p.1<=64 then _ else none
    rw[ai (by omega)]
   |some x=>
    show(if x.1<=64 then some x.2 else none)=cG (some (if fh (p.1,[]) x then(p.1,[])else x));by_cases hx:x.1<=64
    .have:fh (p.1,[]) x=false:=zE.mpr (.inl (by show x.1<p.1;omega))
     rw[this,ai dP];rfl
    .rw[ai hx]
     cases fh (p.1,[]) x
     .show none=if x.1<=64 then _ else _
      rw[ai hx]
     .show none=if p.1<=64 then _ else _
      rw[ai (by omega)]
 |some y=>
  have hr:=join_some G e;unfold d7;rw[hr];show better (cG l) (some y)=cG (jz l (some (ir (y.length,y))));unfold ir;by_cases hy:y.length<=64
  .rw[aj (show(y.length,y).1<=64 from hy)]
   have hs:¬SHOWN<y.length:=by unfold SHOWN;omega
   cases l with
   |none=>
    show(if SHOWN<y.length then none else some y)=if y.length<=64 then some y else none
    rw[ai hs,aj hy]
   |some x=>
    show better (if x.1<=64 then some x.2 else none) (some y)=cG (some (if fh (y.length,y) x then(y.length,y)else x));by_cases hx:x.1<=64
    .rw[aj hx]
     show(if SHOWN<y.length then some x.2 else if before y x.2 then some y else some x.2)=_;rw[ai hs];have el:=(hl x rfl).short hx;have eb:before y x.2=fh (y.length,y) x:=by
      unfold before fh;rw[el];by_cases h1:y.length=x.1
      .have hb:(y.length==x.1)=true:=by rw[h1];exact oq _
       rw[aj hb,bZ (show¬(y.length,y).1<x.1 from by show¬y.length<x.1;omega),cT (show(y.length,y).1=x.1 from h1)];simp
      .have hb:¬(y.length==x.1)=true:=λz=>h1 (by simpa using z)
       rw[ai hb,bZ (show¬(y.length,y).1=x.1 from h1)];simp
     rw[eb];cases fh (y.length,y) x with
     |false=>
      rw[ai dP,ai dP];show some x.2=if x.1<=64 then some x.2 else none
      rw[aj hx]
     |true=>
      rw[aj rfl,aj rfl];show some y=if y.length<=64 then some y else none
      rw[aj hy]
    .rw[ai hx]
     have:fh (y.length,y) x=true:=by
      unfold fh;rw[cT (show(y.length,y).1<x.1 by show y.length<x.1;omega)];rfl
     rw[this];show(if SHOWN<y.length then none else some y)=if y.length<=64 then some y else none
     rw[ai hs,aj hy]
  .rw[ai (show¬(y.length,y).1<=64 from hy)]
   have hs:SHOWN<y.length:=by unfold SHOWN;omega
   cases l with
   |none=>
    show(if SHOWN<y.length then none else some y)=if y.length<=64 then _ else none
    rw[aj hs,ai hy]
   |some x=>
    show better (if x.1<=64 then some x.2 else none) (some y)=cG (some (if fh (y.length,[]) x then(y.length,[])else x));by_cases hx:x.1<=64
    .rw[aj hx]
     have:fh (y.length,[]) x=false:=zE.mpr (.inl (by show x.1<y.length;omega));rw[this];show(if SHOWN<y.length then some x.2 else if before y x.2 then some y else some x.2)=if x.1<=64 then some x.2 else none
     rw[aj hs,aj hx]
    .rw[ai hx]
     show(if SHOWN<y.length then none else some y)=_;rw[aj hs];cases fh (y.length,[]) x
     .show none=if x.1<=64 then _ else _
      rw[ai hx]
     .show none=if y.length<=64 then _ else _
      rw[ai hy]
theorem Kz{t:List (Option WT)}(G:iQ (at_ t))(a:Nat):∀(rules:List Rule) (l:Option WT),(∀w,l=some w->WF w)->
  rules.foldl (λl r=>if r.lhs==a then better l (joinAll (r.rhs.map (symText (t.map cG))))else l) (cG l)=cG (rules.foldl (λl r=>if r.lhs==a then jz l (d7 (at_ t) r.rhs)else l) l)
 |[],l,_=>rfl
 |r::rs,l,hl=>by
  rw[m8,m8];have e:(if r.lhs==a then better (cG l) (joinAll (r.rhs.map (symText (t.map cG))))else cG l)=cG (if r.lhs==a then jz l (d7 (at_ t) r.rhs)else l):=by
   split
   .exact SH G hl _
   .rfl
  rw[e];refine Kz G a rs _ λw hw=>?_;split at hw
  .rcases DQ l (d7 (at_ t) r.rhs)with z|z
   .rw[z]at hw;exact hl w hw
   .rw[z]at hw;exact wL G hw
  .exact hl w hw
theorem KA(g:Grammar):∀(k:Nat) (t:List (Option Text)),textRounds g (k+1) t=textRound g (textRounds g k t)
 |0,_=>rfl
 |k+1,t=>by
  show textRounds g (k+1) (textRound g t)=textRound g (textRounds g k (textRound g t));exact KA g k _
theorem KC{g:Grammar}(G:aS g):∀k,textRounds g k ((List.range g.nons).map (λ_=>none))=(wR g k).map cG
 |0=>by
  show(List.range g.nons).map (λ_=>(none:Option Text))=((List.range g.nons).map (λ_=>(none:Option WT))).map cG;rw[pI];rfl
 |k+1=>by
  rw[KA,KC G k];show(List.range g.nons).map _=((List.range g.nons).map _).map cG;rw[pI];refine wc λa _=>?_;rw[show((wR g k).map cG).getD a none=cG ((wR g k).getD a none)from getD_map cG _ a none];exact Kz (sJ G k) a g.rules _ λw hw=>sJ G k a w hw
theorem SI(G:aS g)(a:Nat):leastText g a=cG (at_ (wR g g.nons) a):=by
 unfold leastText leastTexts;rw[KC G];exact getD_map cG _ a none
theorem SJ(G:aS g)(a:Nat):leastAnswer g a=match at_ (wR g g.nons) a with
  |none=>[1]
  |some p=>0::(p.1:Int)::(p.2.length:Int)::toInts p.2:=by
 unfold leastAnswer;rw[SG,SI G];cases e:at_ (wR g g.nons) a with
 |none=>rfl
 |some p=>
  show 0::(p.1:Int)::toInts (counted ((if p.1<=64 then some p.2 else none).getD []))=_;by_cases h:p.1<=64
  .rw[aj h];rfl
  .have e2:=((sJ G g.nons) a p e).long (by omega)
   rw[ai h];show 0::(p.1:Int)::toInts (counted [])=0::(p.1:Int)::(p.2.length:Int)::toInts p.2;rw[e2];rfl
def KD(grow:List Nat)(y:Sym):Bool:=match y with
 | .non k=>Vaglrc.has k grow
 | .range _ _=>true
def dR(grow:List Nat)(l:List Sym):Bool:=l.any (KD grow)
theorem wN(grow:List Nat)(s:Sym)(l:List Sym):dR grow (s::l)=(KD grow s||dR grow l):=rfl
theorem wO:(a,b)∈allPairs g↔∃r∈usefulRules g,r.lhs=a/\Sym.non b∈r.rhs:=by
 unfold allPairs;rw[iP];constructor
 .rintro⟨r,hr,h⟩
  obtain⟨k,hk,e⟩:=bG.mp h;cases e;exact⟨r,hr,rfl,jb.mp hk⟩
 .rintro⟨r,hr,rfl,h⟩
  exact⟨r,hr,bG.mpr ⟨b,jb.mpr h,rfl⟩⟩
theorem KG{grow:List Nat}{a b:Nat}:∀{pre:List Sym} {before post:List Sym},(dR grow before=true\/dR grow pre=true\/dR grow post=true)->(a,b)∈growIn grow a before (pre++.non b::post)
 |[],before,post,h=>by
  show(a,b)∈(if dR grow before||dR grow post then(a,b)::growIn grow a (.non b::before) post else growIn grow a (.non b::before) post);rw[aj]
  .exact aZ
  .rcases h with h|h|h
   .rw[h];rfl
   .cases h
   .rw[h,Jz]
 |s::pre,before,post,h=>by
  have ih:=KG (pre:=pre) (before:=s::before) (post:=post) (a:=a) (b:=b) (grow:=grow) (by
   rcases h with h|h|h
   .left
    rw[wN,h,Jz]
   .rw[wN,pJ]at h
    rcases h with h|h
    .left
     rw[wN,h,JB]
    .exact .inr (.inl h)
   .exact .inr (.inr h))
  cases s with
  |non k=>
   show(a,b)∈(if dR grow before||dR grow (pre++Sym.non b::post)then(a,k)::growIn grow a (Sym.non k::before) (pre++Sym.non b::post)else growIn grow a (Sym.non k::before) (pre++Sym.non b::post));split
   .exact bg _ ih
   .exact ih
  |range lo hi=>exact ih
theorem zH{grow:List Nat}{a:Nat}{p:Nat×Nat}:∀{l before:List Sym},p∈growIn grow a before l->p.1=a/\Sym.non p.2∈l
 |[],_,h=>by simp[growIn]at h
 | .non k::r,before,h=>by
  have h:p∈(if dR grow before||dR grow r then(a,k)::growIn grow a (.non k::before) r else growIn grow a (.non k::before) r):=h;split at h
  .rcases bq.mp h with e|h
   .subst e;exact⟨rfl,aZ⟩
   .have q:=zH h
    exact⟨q.1,bg _ q.2⟩
  .have q:=zH h
   exact⟨q.1,bg _ q.2⟩
 | .range lo hi::r,before,h=>by
  have h:p∈growIn grow a (.range lo hi::before) r:=h;have q:=zH h;exact⟨q.1,bg _ q.2⟩
theorem KH(h:p∈growPairs g):p∈allPairs g:=by
 unfold growPairs at h;obtain⟨r,hr,h⟩:=iP.mp h;have q:=zH h;have:p=(p.1,p.2):=rfl;rw[this];exact wO.mpr ⟨r,hr,q.1.symm,q.2⟩
theorem jc(h:r∈usefulRules g):r∈g.rules:=fL (sG.mp h).1
theorem zI(G:aS g)(h:r∈usefulRules g)(hk:Sym.non k∈r.rhs):k∈useful g:=by
 obtain⟨h1,h2⟩:=sG.mp h;refine wI.mpr ⟨(DA.mp h1).2 _ hk,?_⟩;exact(J0 G).closed.2 r h1 (wI.mp h2).2 k hk
theorem zJ(G:aS g):∀p∈allPairs g,p.2<g.nons:=λp hp=>by
 obtain⟨r,hr,_,h⟩:=wO.mp (show(p.1,p.2)∈allPairs g from hp);exact(G.rules r (jc hr)).rhs _ h
theorem pV(hs:∀p∈s,p.2<g.nons)(h:(a,b)∈s):b∈leads g s a:=(kY hs a).closed _ h (.inl rfl)
theorem DR(hs:∀p∈s,p.2<g.nons){c:Nat}(h:b∈leads g s a)(e:(b,c)∈s):c∈leads g s a:=(kY hs a).closed _ e (.inr h)
theorem zK(hs:∀p∈s,p.2<g.nons){c:Nat}(h:b∈leads g s a)(k:c∈leads g s b):c∈leads g s a:=
 (kY hs b).below (λx=>x∈leads g s a) (λp hp q=>by
  rcases q with q|q
  .exact DR hs (show p.1∈leads g s a by rw[q];exact h) hp
  .exact DR hs q hp) c k
theorem DS(G:aS g):endless g=(growPairs g).any (λp=>Vaglrc.has p.1 (leads g (allPairs g) p.2)):=by
 unfold endless;refine m9.mpr ?_;rw[jM,jM];constructor
 .rintro⟨p,hp,h⟩
  refine⟨p,hp,?_⟩;rw[pJ]at h;rcases h with h|h
  .have e:p.1=p.2:=by simpa using h
   refine dQ.mpr ?_;have:=KH hp;have q:=pV (zJ G) (show(p.1,p.2)∈allPairs g from this);rw[e]at q⊢;exact q
  .exact h
 .rintro⟨p,hp,h⟩
  exact⟨p,hp,by rw[h,Jz]⟩
def leN(a b:Nat):Prop:=b<=a
theorem zL:nk leN:=⟨λa=>aF a,λa b c h k=>aG k h,λa b h k=>C1 k h,λa b=>(Nat.le_total a b).symm⟩
def fU(f:Nat->Option Nat):Sym->Option Nat
 | .non k=>f k
 | .range _ _=>some 1
def fM(f:Nat->Option Nat)(ys:List Sym):Option Nat:=addAll (ys.map (fU f))
def wQ(l b:Option Nat):Option Nat:=match l,b with
 |some m,some n=>some (if m<n then n else m)
 |none,b=>b
 |a,none=>a
theorem SK(k y:Option Nat):bN leN (wQ k y) k:=by
 cases k with
 |none=>exact pR
 |some m=>
  cases y with
  |none=>exact aF m
  |some n=>
   show m<=(if m<n then n else m);split<;>omega
theorem SM(k y:Option Nat):bN leN (wQ k y) y:=by
 cases y with
 |none=>exact pR
 |some n=>
  cases k with
  |none=>exact aF n
  |some m=>
   show n<=(if m<n then n else m);split<;>omega
theorem SN(k y:Option Nat):wQ k y=k\/wQ k y=y:=by
 cases k with
 |none=>cases y<;>exact .inr rfl
 |some m=>
  cases y with
  |none=>exact .inl rfl
  |some n=>
   show some (if m<n then n else m)=some m\/some (if m<n then n else m)=some n;split
   .exact .inr rfl
   .exact .inl rfl
abbrev lR(g:Grammar)(k:Nat):List (Option Nat):=jN wQ fM g.nons (usefulRules g) k
theorem KI(g:Grammar)(rules:List Rule):∀(k:Nat) (t:List (Option Nat)),longestRounds g rules (k+1) t=longestRound g rules (longestRounds g rules k t)
 |0,_=>rfl
 |k+1,t=>by
  show longestRounds g rules (k+1) (longestRound g rules t)=longestRound g rules (longestRounds g rules k (longestRound g rules t));exact KI g rules k _
theorem SO(t:List (Option Nat)):symLength t=fU (at_ t):=by
 funext y
 cases y<;>rfl
theorem KJ(g:Grammar):∀k,longestRounds g (usefulRules g) k ((List.range g.nons).map (λ_=>none))=lR g k
 |0=>rfl
 |k+1=>by
  rw[KI,KJ g k];unfold longestRound;rw[SO];rfl
theorem SQ(g:Grammar):longest g=at_ (lR g g.nons) 0:=by
 unfold longest;rw[KJ]
theorem l9(G:aS g)(k:Nat):Rnd leN (usefulRules g) fM (at_ (lR g k)) (at_ (lR g (k+1))):=Ks zL SK SM SN (λr hr=>(G.rules r (jc hr)).lhs) k
theorem KL:∀{l:List (Option Nat)} {m:Nat},addAll l=some m->∃ns:List Nat,l=ns.map some/\m=ns.sum
 |[],m,h=>⟨[],rfl,by simpa[addAll]using h.symm⟩
 |none::l,m,h=>by simp[addAll]at h
 |some n::l,m,h=>by
  have h:(addAll l).map (λm=>n+m)=some m:=h;obtain⟨k,hk,rfl⟩:=qH.mp h;obtain⟨ns,h1,h2⟩:=KL hk;exact⟨n::ns,by rw[h1];rfl,by rw[we,h2]⟩
theorem KN:∀(l m:List (Option Nat)),addAll (l++m)=(addAll l).bind λx=>(addAll m).map λy=>x+y
 |[],m=>by
  show addAll m=(some 0).bind _;cases addAll m with
  |none=>rfl
  |some y=>simp
 |none::l,m=>rfl
 |some n::l,m=>by
  show(addAll (l++m)).map (λk=>n+k)=((addAll l).map (λk=>n+k)).bind _;rw[KN l m];cases addAll l with
  |none=>rfl
  |some x=>
   cases addAll m with
   |none=>rfl
   |some y=>simp[zg]
theorem DT{g:Grammar}(G:aS g):∀(k a m:Nat),at_ (lR g k) a=some m->0<m->a∈growing g
 |0,a,m,h,_=>by rw[wM]at h;cases h
 |k+1,a,m,h,hm=>by
  rcases(l9 G k).is a with z|⟨r,hr,e1,z⟩
  .rw[z]at h;exact DT G k a m h hm
  .rw[z]at h
   obtain⟨ns,h1,h2⟩:=KL h;rw[<-e1];refine(J4 G).closed r (sG.mp hr).1 ?_;refine kP λno=>?_;have KO:∀x∈ns,x=0:=λx hx=>by
    have:some x∈r.rhs.map (fU (at_ (lR g k))):=by rw[h1];exact bG.mpr ⟨x,hx,rfl⟩
    obtain⟨y,hy,ey⟩:=bG.mp this;cases y with
    |range lo hi=>exact absurd ⟨_,hy,trivial⟩ no
    |non c=>
     refine kP λhx0=>no ⟨_,hy,?_⟩;exact DT G k c x ey (by omega)
   have:ns.sum=0:=by
    clear h1 h2
    induction ns with
    |nil=>rfl
    |cons x ns ih=>rw[we,KO x aZ,ih λy hy=>KO y (bg _ hy)]
   omega
theorem DU{g:Grammar}(G:aS g){k m:Nat}:∀{ys:List Sym},dR (growing g) ys=false->fM (at_ (lR g k)) ys=some m->m=0
 |[],_,h=>by
  have:0=m:=by simpa[fM,addAll]using h
  exact this.symm
 |y::r,hm,h=>by
  rw[wN,JA]at hm;cases y with
  |range lo hi=>cases hm.1
  |non c=>
   unfold fM at h;rw[cD]at h;cases e:at_ (lR g k) c with
   |none=>rw[show fU (at_ (lR g k)) (.non c)=none from e]at h;cases h
   |some x=>
    rw[show fU (at_ (lR g k)) (.non c)=some x from e]at h;have h:(addAll (r.map (fU (at_ (lR g k))))).map (λm=>x+m)=some m:=h;obtain⟨z,hz,rfl⟩:=qH.mp h;have h1:=DU G (m:=z) hm.2 hz;have h2:x=0:=kP λq=>by
     have q1:=dQ.mpr (DT G k c x e (by omega));have q2:Vaglrc.has c (growing g)=false:=hm.1;rw[q1]at q2;cases q2
    omega
theorem KP(G:aS g){c:Nat}(hr:r∈usefulRules g)(hc:Sym.non c∈r.rhs)(hn:(r.lhs,c)∉growPairs g){m:Nat}(h:fM (at_ (lR g k)) r.rhs=some m):at_ (lR g k) c=some m:=by
 obtain⟨pre,post,e⟩:=List.append_of_mem hc;have no:¬(dR (growing g) pre=true\/dR (growing g) post=true):=λq=>hn (by
  unfold growPairs;refine iP.mpr ⟨r,hr,?_⟩;rw[e];exact KG (.inr q))
 have n1:dR (growing g) pre=false:=by
  cases q:dR (growing g) pre
  .rfl
  .exact absurd (.inl q) no
 have n2:dR (growing g) post=false:=by
  cases q:dR (growing g) post
  .rfl
  .exact absurd (.inr q) no
 rw[e]at h;unfold fM at h;rw[qK,KN]at h;cases e1:addAll (pre.map (fU (at_ (lR g k))))with
 |none=>rw[e1]at h;cases h
 |some x=>
  have x0:=DU G n1 (show fM (at_ (lR g k)) pre=some x from e1);rw[e1,cD]at h;cases e2:at_ (lR g k) c with
  |none=>rw[show fU (at_ (lR g k)) (.non c)=none from e2]at h;cases h
  |some y=>
   rw[show fU (at_ (lR g k)) (.non c)=some y from e2]at h;cases e3:addAll (post.map (fU (at_ (lR g k))))with
   |none=>
    have h:(some x).bind (λx=>((addAll (post.map (fU (at_ (lR g k))))).map (λm=>y+m)).map λy=>x+y)=some m:=h;rw[e3]at h;cases h
   |some z=>
    have z0:=DU G n2 (show fM (at_ (lR g k)) post=some z from e3);have h:(some x).bind (λx=>((addAll (post.map (fU (at_ (lR g k))))).map (λm=>y+m)).map λy=>x+y)=some m:=h;rw[e3]at h;have h:some (x+(y+z))=some m:=h;have:=Option.some.inj h
    congr 1
    omega
inductive Ch(g:Grammar):Nat->Nat->List Nat->Prop
 |one {a:Nat} (h:at_ (lR g 1) a≠at_ (lR g 0) a):Ch g 0 a [a]
 |more {j a c:Nat} {l:List Nat} (h:at_ (lR g (j+2)) a≠at_ (lR g (j+1)) a) {r:Rule} (hr:r∈usefulRules g) (e:r.lhs=a) (hc:Sym.non c∈r.rhs) {m:Nat} (hv:fM (at_ (lR g (j+1))) r.rhs=some m) (hm:at_ (lR g (j+2)) a=some m) (k:Ch g j c l):Ch g (j+1) a (a::l)
theorem Ch.len(h:Ch g j a l):l.length=j+1:=by
 induction h with
 |one=>rfl
 |more _ _ _ _ _ _ _ ih=>rw[bT,ih]
theorem Ch.lt(G:aS g)(h:Ch g j a l):∀b∈l,b<g.nons:=by
 induction h with
 | @one a h=>
  intro b hb;have e:b=a:=by simpa using hb
  subst e;rcases(l9 G 0).is b with z|⟨r,hr,e1,_⟩
  .exact absurd z h
  .rw[<-e1];exact(G.rules r (jc hr)).lhs
 |more _ hr e _ _ _ _ ih=>
  intro b hb;rcases bq.mp hb with z|z
  .rw[z,<-e];exact(G.rules _ (jc hr)).lhs
  .exact ih b z
theorem KQ{g:Grammar}(G:aS g):∀(j a:Nat),at_ (lR g (j+1)) a≠at_ (lR g j) a->∃l,Ch g j a l
 |0,a,h=>⟨[a],.one h⟩
 |j+1,a,h=>by
  rcases(l9 G (j+1)).is a with z|⟨r,hr,e1,e2⟩
  .exact absurd z h
  .obtain⟨m,hm⟩:∃m,at_ (lR g (j+2)) a=some m:=by
    cases e:at_ (lR g (j+2)) a with
    |some m=>exact⟨m,rfl⟩
    |none=>
     have q:bN leN (at_ (lR g (j+2)) a) (at_ (lR g (j+1)) a):=(l9 G (j+1)).le0 a;refine absurd ?_ h;show at_ (lR g (j+2)) a=at_ (lR g (j+1)) a
     rw[e]at q⊢;cases e5:at_ (lR g (j+1)) a with
     |none=>rfl
     |some y=>rw[e5]at q;exact q.elim
   have bI:∃c,Sym.non c∈r.rhs/\at_ (lR g (j+1)) c≠at_ (lR g j) c:=by
    refine kP λz=>h ?_;have e4:fM (at_ (lR g (j+1))) r.rhs=fM (at_ (lR g j)) r.rhs:=by
     unfold fM
     congr 1
     refine wc λy hy=>?_;cases y with
     |non k=>exact kP λw=>z ⟨k,hy,w⟩
     |range lo hi=>rfl
    refine sH zL ((l9 G (j+1)).le0 a) ?_;rw[e2,e4,<-e1];exact(l9 G j).leR r hr
   obtain⟨c,hc,dY⟩:=bI;obtain⟨l,hl⟩:=KQ G j c dY;exact⟨a::l,.more h hr e1 hc (by rw[<-e2];exact hm) hm hl⟩
theorem SR(G:aS g)(hE:endless g=false){c:Nat}(h:Ch g j c l):∀b∈l,c∈leads g (allPairs g) b->∃i,i<=j/\at_ (lR g (i+1)) b=at_ (lR g (j+1)) c/\(b=c\/b∈leads g (allPairs g) c):=by
 have no:∀p∈growPairs g,¬p.1∈leads g (allPairs g) p.2:=λp hp q=>by
  rw[DS G]at hE;have:=(jM (p:=λp=>Vaglrc.has p.1 (leads g (allPairs g) p.2))).mpr ⟨p,hp,dQ.mpr q⟩;rw[hE]at this;cases this
 induction h with
 | @one a h=>
  intro b hb _;have e:b=a:=by simpa using hb
  exact⟨0,aF _,by rw[e],.inl e⟩
 | @more j a c l h r hr e hc m hv hm k ih=>
  intro b hb lg;rcases bq.mp hb with z|z
  .exact⟨j+1,aF _,by rw[z],.inl z⟩
  .have hs:=zJ G
   have sL:(a,c)∈allPairs g:=wO.mpr ⟨r,hr,e,hc⟩;obtain⟨i,hi,e1,e2⟩:=ih b z (DR hs lg sL);have back:a∈leads g (allPairs g) c:=by
    rcases e2 with e2|e2
    .rw[<-e2];exact lg
    .exact zK hs e2 lg
   have ng:(r.lhs,c)∉growPairs g:=λq=>no _ q (by show r.lhs∈_;rw[e];exact back);have v:=KP G hr hc ng hv;refine⟨i,by omega,?_,.inr ?_⟩
   .rw[e1,v,hm]
   .rcases e2 with e2|e2
    .rw[e2];exact pV hs sL
    .exact zK hs (pV hs sL) e2
theorem SS:∀{j a:Nat} {l:List Nat},Ch g j a l->¬l.Nodup->∃j' a' l',Ch g j' a' (a'::l')/\a'∈l':=by
 intro j a l h
 induction h with
 |one=>intro n;exact absurd (by simp) n
 | @more j a c l h r hr e hc m hv hm k ih=>
  intro n;by_cases q:a∈l
  .exact⟨_,a,l,.more h hr e hc hv hm k,q⟩
  .exact ih λz=>n (qJ.mpr ⟨q,z⟩)
theorem KR(G:aS g)(hE:endless g=false)(a:Nat):at_ (lR g (g.nons+1)) a=at_ (lR g g.nons) a:=by
 refine kP λz=>?_;obtain⟨l,hl⟩:=KQ G g.nons a z;have nd:¬l.Nodup:=λq=>by
  have h1:=J8 q (hl.lt G);have h2:=hl.len;omega
 obtain⟨j,b,l',h,hb⟩:=SS hl nd;generalize hL:b::l'=L at h;cases h with
 |one=>cases hL;simp at hb
 | @more j _ c l h r hr e hc m hv hm k=>
  cases hL;have hs:=zJ G;have sL:(b,c)∈allPairs g:=wO.mpr ⟨r,hr,e,hc⟩;obtain⟨i,hi,e1,e2⟩:=SR G hE k b hb (pV hs sL);have back:b∈leads g (allPairs g) c:=by
   rcases e2 with e2|e2
   .rw[<-e2]at sL⊢
    exact pV hs sL
   .exact e2
  have ng:(r.lhs,c)∉growPairs g:=λq=>by
   rw[DS G]at hE;have:=(jM (p:=λp=>Vaglrc.has p.1 (leads g (allPairs g) p.2))).mpr ⟨_,q,dQ.mpr (show r.lhs∈leads g (allPairs g) c by rw[e];exact back)⟩;rw[hE]at this;cases this
  have v:=KP G hr hc ng hv;refine h (sH zL ((l9 G (j+1)).le0 b) ?_);have s1:=J7 (f:=λk=>at_ (lR g k)) zL (l9 G) (i:=i+1) (j:=j+1) (by omega) b;have e3:at_ (lR g (i+1)) b=at_ (lR g (j+2)) b:=by rw[e1,v,hm]
  show bN leN (at_ (lR g (j+1)) b) (at_ (lR g (j+2)) b);rw[<-e3];exact s1
theorem DV(G:aS g)(hE:endless g=false):∀a∈useful g,∃m,at_ (lR g g.nons) a=some m:=by
 have key:=(Dz G).below (λa=>a∈productive g/\(a∈useful g->∃m,at_ (lR g g.nons) a=some m)) (λr hr h=>by
  have hp:AllIn true (· ∈productive g) r.rhs:=h.mono λa q=>q.1;refine⟨(Dz G).closed r hr hp,λhu=>?_⟩;have gw:r∈usefulRules g:=sG.mpr ⟨DA.mpr ⟨hr,hp⟩,hu⟩;have:∃m,fM (at_ (lR g g.nons)) r.rhs=some m:=by
   have all:∀ys:List Sym,(∀y∈ys,y∈r.rhs)->∃m,fM (at_ (lR g g.nons)) ys=some m:=by
    intro ys
    induction ys with
    |nil=>intro _;exact⟨0,rfl⟩
    |cons y ys ih=>
     intro hs;obtain⟨m,hm⟩:=ih λz hz=>hs z (bg _ hz);have hy:=hs y aZ;cases y with
     |range lo hi=>
      refine⟨1+m,?_⟩;show(addAll (ys.map _)).map (λm=>1+m)=_;rw[show addAll (ys.map (fU (at_ (lR g g.nons))))=some m from hm];rfl
     |non k=>
      obtain⟨x,hx⟩:=(h _ hy).2 (zI G gw hy);refine⟨x+m,?_⟩;unfold fM;rw[cD,show fU (at_ (lR g g.nons)) (.non k)=some x from hx];show(addAll (ys.map _)).map (λm=>x+m)=_;rw[show addAll (ys.map (fU (at_ (lR g g.nons))))=some m from hm];rfl
   exact all r.rhs λy hy=>hy
  obtain⟨m,hm⟩:=this;have q:=(l9 G g.nons).leR r gw;rw[KR G hE,hm]at q;cases e:at_ (lR g g.nons) r.lhs with
  |none=>rw[e]at q;exact q.elim
  |some x=>exact⟨x,rfl⟩)
 exact λa ha=>(key a (wI.mp ha).1).2 ha
def valN(v:List Nat)(y:Sym):Nat:=match y with
 | .non k=>v.getD k 0
 | .range _ _=>1
def oB(v:List Nat)(ys:List Sym):Nat:=(ys.map (valN v)).sum
theorem KS(v:List Nat)(y:Sym)(r:List Sym):oB v (y::r)=valN v y+oB v r:=by unfold oB;rw[cD,we]
def fj(k:Nat)(ys:List Sym)(v:List Nat):Nat:=if k<oB v ys then oB v ys else k
theorem KU{v:List Nat}{f:Nat->Option Nat}:∀{ys:List Sym} {m:Nat},fM f ys=some m->(∀k m,Sym.non k∈ys->f k=some m->v.getD k 0<=m)->oB v ys<=m
 |[],m,h,_=>by show 0<=m;omega
 |y::r,m,h,hv=>by
  unfold fM at h;rw[cD]at h;cases e:fU f y with
  |none=>rw[e]at h;cases h
  |some x=>
   rw[e]at h;have h:(addAll (r.map (fU f))).map (λm=>x+m)=some m:=h;obtain⟨z,hz,rfl⟩:=qH.mp h;have ih:=KU (v:=v) hz λk m hk=>hv k m (bg _ hk);rw[KS];have:valN v y<=x:=by
    cases y with
    |non k=>exact hv k x aZ e
    |range lo hi=>
     have:1=x:=by simpa[fU]using e
     show 1<=x;omega
   omega
theorem DW{v:List Nat}{f:Nat->Option Nat}:∀{ys:List Sym} {m:Nat},fM f ys=some m->(∀k m,Sym.non k∈ys->f k=some m->m<=v.getD k 0)->m<=oB v ys
 |[],m,h,_=>by
  have:0=m:=by simpa[fM,addAll]using h
  omega
 |y::r,m,h,hv=>by
  unfold fM at h;rw[cD]at h;cases e:fU f y with
  |none=>rw[e]at h;cases h
  |some x=>
   rw[e]at h;have h:(addAll (r.map (fU f))).map (λm=>x+m)=some m:=h;obtain⟨z,hz,rfl⟩:=qH.mp h;have ih:=DW (v:=v) hz λk m hk=>hv k m (bg _ hk);rw[KS];have:x<=valN v y:=by
    cases y with
    |non k=>exact hv k x aZ e
    |range lo hi=>
     have:1=x:=by simpa[fU]using e
     show x<=1;omega
   omega
theorem zM{v:List Nat}(hr:r.lhs<v.length)(a:Nat):(ee fj v r).getD a 0=if a=r.lhs then fj (v.getD a 0) r.rhs v else v.getD a 0:=by
 rw[cC,DH];by_cases e:a=r.lhs
 .rw[aj e,aj e]
  have ha:a<v.length:=by rw[e];exact hr
  rw[cC,bO ha];rfl
 .rw[ai e,ai e,cC]
theorem KW(k:Nat)(ys:List Sym)(v:List Nat):k<=fj k ys v:=by unfold fj;split<;>omega
theorem KY(k:Nat)(ys:List Sym)(v:List Nat):oB v ys<=fj k ys v:=by unfold fj;split<;>omega
theorem DX{n:Nat}:∀(rs:List Rule),(∀r∈rs,r.lhs<n)->∀{v:List Nat},v.length=n->∀a,v.getD a 0<=(pass fj rs v).getD a 0
 |[],_,_,_,_=>aF _
 |r::rs,hs,v,hv,a=>by
  rw[zy];refine aG ?_ (DX rs (λq hq=>hs q (bg _ hq)) (by rw[oA];exact hv) a);rw[zM (by rw[hv];exact hs r aZ)];split
  .exact KW _ _ _
  .exact aF _
theorem KZ{n:Nat}:∀(rs:List Rule),(∀r∈rs,r.lhs<n)->∀{v:List Nat},v.length=n->∀(f:Nat->Option Nat),(∀a m,f a=some m->m<=v.getD a 0)->∀r∈rs,∀m,fM f r.rhs=some m->m<=(pass fj rs v).getD r.lhs 0
 |[],_,_,_,_,_,r,hr,_,_=>by simp at hr
 |q::rs,hs,v,hv,f,hf,r,hr,m,hm=>by
  have hq:=hs q aZ;have hs':∀r∈rs,r.lhs<n:=λz hz=>hs z (bg _ hz);have hv':(ee fj v q).length=n:=by rw[oA];exact hv
  rw[zy];rcases bq.mp hr with e|z
  .subst e
   refine aG ?_ (DX rs hs' hv' r.lhs);rw[zM (by rw[hv];exact hq),aj rfl];exact aG (DW hm λk m _ h=>hf k m h) (KY _ _ _)
  .refine KZ rs hs' hv' f (λa m h=>aG (hf a m h) ?_) r z m hm
   rw[zM (by rw[hv];exact hq)];split
   .exact KW _ _ _
   .exact aF _
theorem SV(G:aS g)(hE:endless g=false):
  (∃N,Fix fj (usefulRules g) (passes fj (usefulRules g) N (List.replicate g.nons 0)))/\
  ∀j,Fix fj (usefulRules g) (passes fj (usefulRules g) j (List.replicate g.nons 0))->∀a∈useful g,∃m,at_ (lR g g.nons) a=some m/\(passes fj (usefulRules g) j (List.replicate g.nons 0))[a]?=some m:=by
 have aR:∀r∈usefulRules g,r.lhs<g.nons:=λr hr=>(G.rules r (jc hr)).lhs;have hM:∀r∈usefulRules g,bN leN (at_ (lR g g.nons) r.lhs) (fM (at_ (lR g g.nons)) r.rhs):=λr hr=>by rw[<-KR G hE];exact(l9 G g.nons).leR r hr
 have inv1:∀v:List Nat,v.length=g.nons->(∀a m,at_ (lR g g.nons) a=some m->v.getD a 0<=m)->∀r∈usefulRules g,∀m,at_ (lR g g.nons) r.lhs=some m->oB v r.rhs<=m:=λv hv h r hr m hm=>by
  have q:=hM r hr;rw[hm]at q;cases e:fM (at_ (lR g g.nons)) r.rhs with
  |none=>
   refine absurd e ?_;have all:∀ys:List Sym,(∀y∈ys,y∈r.rhs)->fM (at_ (lR g g.nons)) ys≠none:=by
    intro ys
    induction ys with
    |nil=>intro _ h;cases h
    |cons y ys ih=>
     intro hs z;have i1:=ih λz hz=>hs z (bg _ hz);have hy:=hs y aZ;unfold fM at z i1;rw[cD]at z;cases e1:addAll (ys.map (fU (at_ (lR g g.nons))))with
     |none=>exact i1 e1
     |some x=>
      cases y with
      |range lo hi=>
       have z:(addAll (ys.map (fU (at_ (lR g g.nons))))).map (λm=>1+m)=none:=z;rw[e1]at z;cases z
      |non k=>
       obtain⟨y,hy2⟩:=DV G hE k (zI G hr hy);rw[show fU (at_ (lR g g.nons)) (.non k)=some y from hy2]at z;have z:(addAll (ys.map (fU (at_ (lR g g.nons))))).map (λm=>y+m)=none:=z;rw[e1]at z;cases z
   exact all r.rhs λy hy=>hy
  |some s=>
   rw[e]at q;have q:s<=m:=q;exact aG (KU e λk m _ hk=>h k m hk) q
 have base:∀j,(passes fj (usefulRules g) j (List.replicate g.nons 0)).length=g.nons/\(∀a m,at_ (lR g g.nons) a=some m->(passes fj (usefulRules g) j (List.replicate g.nons 0)).getD a 0<=m)/\∀a m,at_ (lR g j) a=some m->m<=(passes fj (usefulRules g) j (List.replicate g.nons 0)).getD a 0:=by
  intro j
  induction j with
  |zero=>
   refine⟨i9,λa m _=>?_,λa m h=>by rw[wM]at h;cases h⟩;show(List.replicate g.nons 0).getD a 0<=m;rw[cC,qI];split<;>exact cM _
  |succ j ih=>
   obtain⟨i1,i2,i3⟩:=ih;have st:=zA fj (J:=λv=>v.length=g.nons/\∀a m,at_ (lR g g.nons) a=some m->v.getD a 0<=m) (usefulRules g) (λv r hr ⟨z1,z2⟩=>⟨by rw[oA];exact z1,λa m h=>by
    rw[zM (by rw[z1];exact aR r hr)];split
    .rename_i e
     subst e;unfold fj;split
     .exact inv1 v z1 z2 r hr m h
     .exact z2 _ m h
    .exact z2 a m h⟩) (v:=passes fj (usefulRules g) j (List.replicate g.nons 0)) ⟨i1,i2⟩
   refine⟨st.1,st.2,λa m h=>?_⟩;show m<=(pass fj (usefulRules g) (passes fj (usefulRules g) j (List.replicate g.nons 0))).getD a 0;rcases(l9 G j).is a with z|⟨r,hr,e1,z⟩
   .rw[z]at h
    exact aG (i3 a m h) (DX _ aR i1 a)
   .rw[z]at h
    rw[<-e1];exact KZ _ aR i1 _ i3 r hr m h
 constructor
 .refine⟨g.nons,λr hr k hk=>?_⟩
  obtain⟨i1,i2,i3⟩:=base g.nons;obtain⟨m,hm⟩:=DV G hE r.lhs (sG.mp hr).2;have s:=inv1 _ i1 i2 r hr m hm;have h3:=i3 r.lhs m hm;rw[cC,hk]at h3;have h3:m<=k:=h3;generalize passes fj (usefulRules g) g.nons (List.replicate g.nons 0)=v at s⊢;unfold fj;rw[ai (by omega)]
 .intro j hF a ha
  obtain⟨i1,i2,i3⟩:=base j;generalize passes fj (usefulRules g) j (List.replicate g.nons 0)=v at hF i1 i2 i3⊢;have up:∀i a m,at_ (lR g i) a=some m->m<=v.getD a 0:=by
   intro i
   induction i with
   |zero=>intro a m h;rw[wM]at h;cases h
   |succ i ih=>
    intro a m h;rcases(l9 G i).is a with z|⟨r,hr,e1,z⟩
    .rw[z]at h;exact ih a m h
    .rw[z]at h
     have hl:r.lhs<v.length:=by rw[i1];exact aR r hr
     have q:=hF r hr (v.getD r.lhs 0) (by rw[cC,bO hl];rfl);rw[<-e1,<-q];exact aG (DW h λk m _=>ih k m) (KY _ _ _)
  obtain⟨m,hm⟩:=DV G hE a ha;refine⟨m,hm,?_⟩;have h1:=i2 a m hm;have h2:=up g.nons a m hm;have hl:a<v.length:=by rw[i1];exact(wJ G).lt a ha
  rw[cC,bO hl]at h1 h2;rw[bO hl]
  congr 1
  have h1:v[a]<=m:=h1;have h2:m<=v[a]:=h2;omega
structure Canon(l:List (Nat×Nat)):Prop where
 gap:l.Pairwise (λp q=>p.2+1<q.1)
 fit:∀p∈l,p.1<=p.2
def ef(l:List (Nat×Nat))(b:Nat):Prop:=∃p∈l,p.1<=b/\b<=p.2
theorem DY{l:List (Nat×Nat)}(h:Canon (p::l)):Canon l:=⟨(gD.mp h.gap).2,λq hq=>h.fit q (bg _ hq)⟩
theorem iu{l:List (Nat×Nat)}:ef (p::l) b↔(p.1<=b/\b<=p.2)\/ef l b:=by
 unfold ef;constructor
 .rintro⟨q,hq,h⟩
  rcases bq.mp hq with e|z
  .subst e;exact .inl h
  .exact .inr ⟨q,z,h⟩
 .rintro(h|⟨q,hq,h⟩)
  .exact⟨p,aZ,h⟩
  .exact⟨q,bg _ hq,h⟩
theorem sM{l:List (Nat×Nat)}(h:Canon (p::l))(c:ef l b):p.2+1<b:=by
 obtain⟨q,hq,h1,_⟩:=c;have:=(gD.mp h.gap).1 q hq;omega
theorem K0:∀{l m:List (Nat×Nat)},Canon l->Canon m->(∀b,ef l b↔ef m b)->l=m
 |[],[],_,_,_=>rfl
 |[],q::m,_,hm,h=>by
  have:ef ([]:List (Nat×Nat)) q.1:=(h q.1).mpr ⟨q,aZ,aF _,hm.fit q aZ⟩;obtain⟨_,z,_⟩:=this;simp at z
 |p::l,[],hl,_,h=>by
  have:ef ([]:List (Nat×Nat)) p.1:=(h p.1).mp ⟨p,aZ,aF _,hl.fit p aZ⟩;obtain⟨_,z,_⟩:=this;simp at z
 |p::l,q::m,hl,hm,h=>by
  have fp:=hl.fit p aZ;have fq:=hm.fit q aZ;have e1:p.1=q.1:=by
   have a:=iu.mp ((h p.1).mp (iu.mpr (.inl ⟨aF _,fp⟩)));have b:=iu.mp ((h q.1).mpr (iu.mpr (.inl ⟨aF _,fq⟩)));rcases a with a|a
   .rcases b with b|b
    .omega
    .have:=sM hl b;omega
   .have a':=sM hm a
    rcases b with b|b
    .omega
    .have:=sM hl b;omega
  have e2:p.2=q.2:=by
   rcases Nat.lt_trichotomy p.2 q.2 with z|z|z
   .have b:=iu.mp ((h (p.2+1)).mpr (iu.mpr (.inl ⟨by omega,by omega⟩)))
    rcases b with b|b
    .omega
    .have:=sM hl b;omega
   .exact z
   .have b:=iu.mp ((h (q.2+1)).mp (iu.mpr (.inl ⟨by omega,by omega⟩)))
    rcases b with b|b
    .omega
    .have:=sM hm b;omega
  have e:p=q:=Prod.ext e1 e2;subst e;rw[K0 (DY hl) (DY hm) λb=>?_];constructor
  .intro c
   rcases iu.mp ((h b).mp (iu.mpr (.inr c)))with z|z
   .have:=sM hl c;omega
   .exact z
  .intro c
   rcases iu.mp ((h b).mpr (iu.mpr (.inr c)))with z|z
   .have:=sM hm c;omega
   .exact z
theorem K1:∀{l:List Nat},gF l->Canon (rangesFrom l)/\∀b,ef (rangesFrom l) b↔b∈l
 |[],_=>⟨⟨by simp[rangesFrom],by simp[rangesFrom]⟩,λb=>⟨λ⟨_,h,_⟩=>by simp[rangesFrom]at h,λh=>by simp at h⟩⟩
 |b::l,h=>by
  obtain⟨h1,h2⟩:=gD.mp h;obtain⟨i1,i2⟩:=K1 h2;unfold rangesFrom;cases e:rangesFrom l with
  |nil=>
   rw[e]at i2;have en:l=[]:=by
    cases l with
    |nil=>rfl
    |cons x r=>
     obtain⟨_,z,_⟩:=(i2 x).mpr aZ;simp at z
   subst en;refine⟨⟨by simp,by simp⟩,λx=>?_⟩;rw[iu];constructor
   .rintro(q|⟨_,z,_⟩)
    .have:x=b:=by omega
     rw[this];exact aZ
    .simp at z
   .intro q
    have:x=b:=by simpa using q
    left;omega
  |cons p r=>
   rw[e]at i1 i2;obtain⟨lo,hi⟩:=p;have fp:lo<=hi:=i1.fit (lo,hi) aZ;have lob:b<lo:=h1 lo ((i2 lo).mp (iu.mpr (.inl ⟨aF _,fp⟩)));show Canon (if lo==b+1 then(b,hi)::r else(b,b)::(lo,hi)::r)/\_;by_cases c:lo=b+1
   .have c':(lo==b+1)=true:=by simpa using c
    show _/\∀x,ef (if lo==b+1 then(b,hi)::r else(b,b)::(lo,hi)::r) x↔_;rw[aj c'];refine⟨⟨gD.mpr ⟨(gD.mp i1.gap).1,(gD.mp i1.gap).2⟩,λq hq=>?_⟩,λx=>?_⟩
    .rcases bq.mp hq with z|z
     .subst z;show b<=hi;omega
     .exact i1.fit q (bg _ z)
    .rw[iu,bq,<-i2 x,iu]
     show(b<=x/\x<=hi)\/ef r x↔x=b\/(lo<=x/\x<=hi)\/ef r x;constructor
     .rintro(z|z)
      .by_cases q:x=b
       .exact .inl q
       .exact .inr (.inl ⟨by omega,z.2⟩)
      .exact .inr (.inr z)
     .rintro(z|z|z)
      .exact .inl ⟨by omega,by omega⟩
      .exact .inl ⟨by omega,z.2⟩
      .exact .inr z
   .have c':¬(lo==b+1)=true:=by simpa using c
    show _/\∀x,ef (if lo==b+1 then(b,hi)::r else(b,b)::(lo,hi)::r) x↔_;rw[ai c'];refine⟨⟨gD.mpr ⟨λq hq=>?_,i1.gap⟩,λq hq=>?_⟩,λx=>?_⟩
    .rcases bq.mp hq with z|z
     .subst z;show b+1<lo;omega
     .have:=(gD.mp i1.gap).1 q z
      show b+1<q.1;have:hi+1<q.1:=this;omega
    .rcases bq.mp hq with z|z
     .subst z;exact aF _
     .exact i1.fit q z
    .rw[iu,bq,<-i2 x]
     constructor
     .rintro(z|z)
      .have z:b<=x/\x<=b:=z
       exact .inl (by omega)
      .exact .inr z
     .rintro(z|z)
      .exact .inl ⟨by show b<=x;omega,by show x<=b;omega⟩
      .exact .inr z
def gG(acc:List (Nat×Nat))(p:Nat×Nat):List (Nat×Nat):=match acc.getLast? with
 |some q=>if p.1<=q.2+1 then acc.dropLast++[(q.1,max q.2 p.2)]else acc++[p]
 |none=>[p]
def joined(l:List (Nat×Nat)):List (Nat×Nat):=l.foldl gG []
theorem DZ{l m:List (Nat×Nat)}:ef (l++m) b↔ef l b\/ef m b:=by
 unfold ef;constructor
 .rintro⟨q,hq,h⟩
  rcases eZ.mp hq with z|z
  .exact .inl ⟨q,z,h⟩
  .exact .inr ⟨q,z,h⟩
 .rintro(⟨q,hq,h⟩|⟨q,hq,h⟩)
  .exact⟨q,qL _ hq,h⟩
  .exact⟨q,ou _ hq,h⟩
theorem zN:ef [p] b↔p.1<=b/\b<=p.2:=by
 rw[iu];exact⟨λh=>h.elim id λ⟨_,z,_⟩=>by simp at z,.inl⟩
theorem SW{acc:List (Nat×Nat)}(h:Canon acc)(hp:p.1<=p.2)(hs:∀q∈acc,q.1<=p.1):Canon (gG acc p)/\(∀b,ef (gG acc p) b↔ef acc b\/ef [p] b)/\∀q∈gG acc p,q.1<=p.1:=by
 rcases abS acc with e|⟨init,q,e⟩
 .subst e
  refine⟨⟨by simp[gG],λq hq=>?_⟩,λb=>?_,λq hq=>?_⟩
  .have:q=p:=by simpa[gG]using hq
   rw[this];exact hp
  .show ef [p] b↔_
   exact⟨.inr,λz=>z.elim (λ⟨_,z,_⟩=>by simp at z) id⟩
  .have:q=p:=by simpa[gG]using hq
   rw[this];exact aF _
 .rw[abT]at e
  subst e;have eL:(init++[q]).getLast?=some q:=by simp
  have eD:(init++[q]).dropLast=init:=by simp
  obtain⟨g1,_,g3⟩:=Rp.mp h.gap;have fq:=h.fit q (by simp);have sq:=hs q (by simp);unfold gG;rw[eL];dsimp only;by_cases c:p.1<=q.2+1
  .rw[aj c,eD]
   refine⟨⟨Rp.mpr ⟨g1,by simp,λx hx y hy=>?_⟩,λx hx=>?_⟩,λb=>?_,λx hx=>?_⟩
   .have:y=(q.1,max q.2 p.2):=by simpa using hy
    rw[this];exact g3 x hx q (by simp)
   .rcases eZ.mp hx with z|z
    .exact h.fit x (qL _ z)
    .have:x=(q.1,max q.2 p.2):=by simpa using z
     rw[this];show q.1<=max q.2 p.2;omega
   .rw[DZ,DZ,zN,zN,zN]
    show ef init b\/(q.1<=b/\b<=max q.2 p.2)↔(ef init b\/q.1<=b/\b<=q.2)\/p.1<=b/\b<=p.2;constructor
    .rintro(z|⟨z1,z2⟩)
     .exact .inl (.inl z)
     .by_cases y:b<=q.2
      .exact .inl (.inr ⟨z1,y⟩)
      .exact .inr ⟨by omega,by omega⟩
    .rintro((z|⟨z1,z2⟩)|⟨z1,z2⟩)
     .exact .inl z
     .exact .inr ⟨z1,by omega⟩
     .exact .inr ⟨by omega,by omega⟩
   .rcases eZ.mp hx with z|z
    .exact hs x (qL _ z)
    .have:x=(q.1,max q.2 p.2):=by simpa using z
     rw[this];exact sq
  .rw[ai c]
   refine⟨⟨Rp.mpr ⟨h.gap,by simp,λx hx y hy=>?_⟩,λx hx=>?_⟩,λb=>DZ,λx hx=>?_⟩
   .have:y=p:=by simpa using hy
    rw[this];rcases eZ.mp hx with z|z
    .have:=g3 x z q (by simp)
     omega
    .have:x=q:=by simpa using z
     rw[this];omega
   .rcases eZ.mp hx with z|z
    .exact h.fit x z
    .have:x=p:=by simpa using z
     rw[this];exact hp
   .rcases eZ.mp hx with z|z
    .exact hs x z
    .have:x=p:=by simpa using z
     rw[this];exact aF _
theorem K2:∀{l acc:List (Nat×Nat)},Canon acc->(∀p∈l,p.1<=p.2)->l.Pairwise (λp q=>p.1<=q.1)->(∀q∈acc,∀p∈l,q.1<=p.1)->Canon (l.foldl gG acc)/\∀b,ef (l.foldl gG acc) b↔ef acc b\/ef l b
 |[],acc,h,_,_,_=>⟨h,λb=>⟨.inl,λz=>z.elim id λ⟨_,z,_⟩=>by simp at z⟩⟩
 |p::l,acc,h,hf,hs,ha=>by
  obtain⟨s1,s2⟩:=gD.mp hs;obtain⟨j1,j2,j3⟩:=SW h (hf p aZ) λq hq=>ha q hq p aZ;obtain⟨i1,i2⟩:=K2 (l:=l) j1 (λq hq=>hf q (bg _ hq)) s2 λq hq x hx=>aG (j3 q hq) (s1 x hx);refine⟨i1,λb=>?_⟩;rw[m8,i2 b,j2 b,zN,iu];constructor
  .rintro((z|z)|z)
   .exact .inl z
   .exact .inr (.inl z)
   .exact .inr (.inr z)
  .rintro(z|z|z)
   .exact .inl (.inl z)
   .exact .inl (.inr z)
   .exact .inr z
theorem SX:Canon []:=⟨by simp,by simp⟩
theorem D7{l m:List (Nat×Nat)}(hp:s.Perm l)(hs:s.Pairwise (λp q=>p.1<=q.1))(hf:∀p∈l,p.1<=p.2)(hm:Canon m)(h:∀b,ef l b↔ef m b):joined s=m:=by
 obtain⟨j1,j2⟩:=K2 (l:=s) SX (λp hq=>hf p (hp.mem_iff.mp hq)) hs (by simp);refine K0 j1 hm λb=>?_;unfold joined;rw[j2 b,<-h b];constructor
 .rintro(⟨_,z,_⟩|⟨q,hq,z⟩)
  .simp at z
  .exact⟨q,hp.mem_iff.mp hq,z⟩
 .rintro⟨q,hq,z⟩
  exact .inr ⟨q,hp.mem_iff.mpr hq,z⟩
def bit(m:Mask)(i:Nat):Bool:=m.getD i false
theorem wU{a b:Mask}(ha:a.length=257)(hb:b.length=257):(either a b).length=257:=by
 unfold either;rw[aK,List.length_zip,ha,hb];rfl
theorem qW:∀{a b:Mask},a.length=b.length->∀i,bit (either a b) i=(bit a i||bit b i)
 |[],[],_,i=>by simp[bit,either]
 |[],_::_,h,_=>by simp at h
 |_::_,[],h,_=>by simp at h
 |x::a,y::b,h,0=>by simp[bit,either]
 |x::a,y::b,h,i+1=>by
  have ih:=qW (a:=a) (b:=b) (by simpa using h) i;unfold bit either at ih⊢;simpa using ih
theorem mh(i:Nat):bit noBytes i=false:=by
 unfold bit noBytes;rw[cC,qI];split<;>rfl
theorem pW:noBytes.length=257:=by unfold noBytes;rw[i9]
theorem SY(lo hi:Nat):(bytesOf lo hi).length=257:=by unfold bytesOf;rw[aK,gq]
theorem S0(lo hi i:Nat):bit (bytesOf lo hi) i=(decide (i<257)&&(decide (lo<=i)&&decide (i<=hi))):=by
 unfold bit bytesOf;rw[cC,fK];by_cases h:i<257
 .rw[rZ h,cT h];rfl
 .rw[j7 (by rw[gq];omega),bZ h];rfl
theorem S1:theEnd.length=257:=by unfold theEnd;rw[aX,i9];rfl
theorem S2(i:Nat):bit theEnd i=decide (i=256):=by
 unfold bit theEnd;rw[cC];by_cases h:i<256
 .rw[zh (by rw[i9];exact h),qI,aj h,bZ (by omega)];rfl
 .rw[r8 (by rw[i9];omega),i9]
  by_cases e:i=256
  .subst e;rfl
  .rw[bZ e,j7 (by simp;omega)];rfl
theorem K3:∀(k:Nat) (m:Mask),gF ((((List.range' k m.length).zip m).filterMap (λp=>if p.2 then some p.1 else none)))/\∀x,x∈((List.range' k m.length).zip m).filterMap (λp=>if p.2 then some p.1 else none)↔k<=x/\bit m (x-k)=true/\x<k+m.length
 |k,[]=>⟨by simp,λx=>by
  constructor
  .intro h;simp at h
  .rintro⟨_,_,h⟩;simp at h;omega⟩
 |k,c::m=>by
  obtain⟨i1,i2⟩:=K3 (k+1) m;rw[show(c::m).length=m.length+1 from rfl,List.range'_succ,zj,r9];have mem:∀x,(k+1<=x/\bit m (x-(k+1))=true/\x<k+1+m.length)↔(k+1<=x/\bit (c::m) (x-k)=true/\x<k+(m.length+1)):=λx=>by
   constructor
   .rintro⟨h1,h2,h3⟩
    refine⟨h1,?_,by omega⟩;rw[show x-k=(x-(k+1))+1 by omega];simpa[bit]using h2
   .rintro⟨h1,h2,h3⟩
    refine⟨h1,?_,by omega⟩;rw[show x-k=(x-(k+1))+1 by omega]at h2;simpa[bit]using h2
  cases c with
  |false=>
   refine⟨i1,λx=>?_⟩;show x∈((List.range' (k+1) m.length).zip m).filterMap (λp=>if p.2 then some p.1 else none)↔_;rw[i2 x,mem x];constructor
   .rintro⟨h1,h2,h3⟩;exact⟨by omega,h2,by omega⟩
   .rintro⟨h1,h2,h3⟩
    by_cases e:x=k
    .subst e
     rw[C4]at h2;simp[bit]at h2
    .exact⟨by omega,h2,by omega⟩
  |true=>
   constructor
   .show gF (k::((List.range' (k+1) m.length).zip m).filterMap (λp=>if p.2 then some p.1 else none))
    refine gD.mpr ⟨λy hy=>?_,i1⟩;have:=(i2 y).mp hy;omega
   .intro x
    show x∈k::((List.range' (k+1) m.length).zip m).filterMap (λp=>if p.2 then some p.1 else none)↔_;rw[bq,i2 x,mem x];constructor
    .rintro(h|⟨h1,h2,h3⟩)
     .subst h
      refine⟨aF _,?_,by omega⟩;rw[C4];rfl
     .exact⟨by omega,h2,by omega⟩
    .rintro⟨h1,h2,h3⟩
     by_cases e:x=k
     .exact .inl e
     .exact .inr ⟨by omega,h2,by omega⟩
theorem D8{m:Mask}(h:m.length=257):gF (inSet m)/\∀x,x∈inSet m↔bit m x=true:=by
 have q:=K3 0 m;rw[h]at q;unfold inSet;rw[List.range_eq_range'];refine⟨q.1,λx=>?_⟩;rw[q.2 x,JC];constructor
 .exact λz=>z.2.1
 .intro z
  refine⟨cM _,z,?_⟩;refine kP λy=>?_;unfold bit at z;rw[cC,j7 (by omega)]at z;cases z
theorem qX{m:Mask}(h:m.length=257):Canon (rangesOf m)/\∀b,ef (rangesOf m) b↔b<256/\bit m b=true:=by
 obtain⟨i1,i2⟩:=D8 h;obtain⟨j1,j2⟩:=K1 (l:=(inSet m).filter (λb=>decide (b<END))) (qR i1);refine⟨j1,λb=>?_⟩;unfold rangesOf;rw[j2 b,iO,i2 b,nh];exact And.comm
theorem S3{m:Mask}(h:m.length=257):hasEnd m=bit m 256:=by
 refine m9.mpr ?_;unfold hasEnd;rw[jM];constructor
 .rintro⟨x,hx,e⟩
  have:x=256:=by simpa[END]using e
  rw[<-this];exact((D8 h).2 x).mp hx
 .intro z
  exact⟨256,((D8 h).2 256).mpr z,rfl⟩
def CK(B:Nat->Prop)(E:List (Nat×Nat))(P:Nat->Prop):Prop:=(∀a,B a->P a)/\∀p∈E,P p.2->P p.1
theorem K4(hE:∀p∈E,p.2<g.nons):ie g.nons (CK B E) (λa=>∃c,(c=a\/c∈leads g E a)/\B c):=by
 constructor
 .refine⟨λa h=>⟨a,.inl rfl,h⟩,λp hp ⟨c,hc,hb⟩=>⟨c,.inr ?_,hb⟩⟩
  have e:=pV hE (show(p.1,p.2)∈E from hp);rcases hc with z|z
  .rw[z];exact e
  .exact zK hE e z
 .rintro P ⟨h1,h2⟩ a ⟨c,hc,hb⟩
  rcases hc with z|z
  .rw[<-z];exact h1 c hb
  .exact(kY hE a).below (λx=>P x->P a) (λp hp q hP=>by
    have:=h2 p hp hP;rcases q with q|q
    .rw[<-q];exact this
    .exact q this) c z (h1 c hb)
theorem K5{col:Nat->Nat->Prop}(zO:∀k a,col (k+1) a↔col k a\/B a\/∃c,(a,c)∈E/\col k c)(h0:∀a,col 0 a->B a)(hB:∀a,B a->a<n)(hE:∀p∈E,p.1<n){m:Nat}(hm:n<=m):ie n (CK B E) (col m):=by
 classical
 let F:List Nat->List Nat:=λs=>(List.range n).filter (λa=>decide (a∈s\/B a\/∃c,(a,c)∈E/\c∈s))
 have D9:∀s a,Ok n s->(a∈F s↔a∈s\/B a\/∃c,(a,c)∈E/\c∈s):=λs a hs=>by
  show a∈(List.range n).filter _↔_;rw[iO,lZ,nh];refine⟨λq=>q.2,λq=>⟨?_,q⟩⟩;rcases q with q|q|⟨c,q,_⟩
  .exact hs.lt a q
  .exact hB a q
  .exact hE _ q
 have nq:∀s,Ok n (F s):=λs=>⟨qR (sC n),λx hx=>lZ.mp (iO.mp hx).1⟩
 let s0:=(List.range n).filter (λa=>decide (col 0 a))
 have ok0:Ok n s0:=⟨qR (sC n),λx hx=>lZ.mp (iO.mp hx).1⟩;have S4:∀a,a∈s0↔col 0 a:=λa=>by
  show a∈(List.range n).filter _↔_;rw[iO,lZ,nh];exact⟨λq=>q.2,λq=>⟨hB a (h0 a q),q⟩⟩
 have okk:∀k,Ok n (rounds F k s0):=λk=>by
  cases k with
  |zero=>exact ok0
  |succ k=>rw[uK];exact nq _
 have Ea:∀k a,a∈rounds F k s0↔col k a:=by
  intro k
  induction k with
  |zero=>exact S4
  |succ k ih=>
   intro a;rw[uK,D9 _ _ (okk k),zO k a];constructor
   .rintro(q|q|⟨c,q1,q2⟩)
    .exact .inl ((ih a).mp q)
    .exact .inr (.inl q)
    .exact .inr (.inr ⟨c,q1,(ih c).mp q2⟩)
   .rintro(q|q|⟨c,q1,q2⟩)
    .exact .inl ((ih a).mpr q)
    .exact .inr (.inl q)
    .exact .inr (.inr ⟨c,q1,(ih c).mpr q2⟩)
 have st:=(wG ok0 (λt _=>nq t) λt ht x hx=>(D9 t x ht).mpr (.inl hx)).2;have stm:∀d,rounds F (n+d) s0=rounds F n s0:=by
  intro d
  induction d with
  |zero=>rfl
  |succ d ih=>rw[show n+(d+1)=(n+d)+1 from rfl,uK,ih,st]
 have em:rounds F m s0=rounds F n s0:=by
  have:=stm (m-n);rw[show n+(m-n)=m by omega]at this;exact this
 have K6:∀a,col m a\/B a\/(∃c,(a,c)∈E/\col m c)->col m a:=λa h=>by
  rw[<-Ea m a,em,<-st,D9 _ _ (okk n),<-em];rcases h with h|h|⟨c,h1,h2⟩
  .exact .inl ((Ea m a).mpr h)
  .exact .inr (.inl h)
  .exact .inr (.inr ⟨c,h1,(Ea m c).mpr h2⟩)
 constructor
 .exact⟨λa h=>K6 a (.inr (.inl h)),λp hp h=>K6 p.1 (.inr (.inr ⟨p.2,hp,h⟩))⟩
 .rintro P ⟨h1,h2⟩
  have all:∀k a,col k a->P a:=by
   intro k
   induction k with
   |zero=>exact λa h=>h1 a (h0 a h)
   |succ k ih=>
    intro a h;rcases(zO k a).mp h with q|q|⟨c,q1,q2⟩
    .exact ih a q
    .exact h1 a q
    .exact h2 _ q1 (ih c q2)
  exact all m
def leading(null:List Nat):List Sym->List Sym
 |[]=>[]
 |y::r=>if symNull null y then y::leading null r else[y]
def lq:Sym->Option (Nat×Nat)
 | .non _=>none
 | .range lo hi=>some (lo,hi)
theorem pX{null:List Nat}{y:Sym}:∀{l:List Sym},y∈leading null l->y∈l
 |[],h=>h
 |s::r,h=>by
  unfold leading at h;split at h
  .rcases bq.mp h with e|h
   .rw[e];exact aZ
   .exact bg _ (pX h)
  .have:y=s:=by simpa using h
   rw[this];exact aZ
def TOk(t:Sets):Prop:=∀m∈t,m.length=257
theorem iw{t:Sets}(h:TOk t)(a:Nat):(setOf t a).length=257:=by
 unfold setOf;rw[cC];cases e:t[a]? with
 |none=>exact pW
 |some m=>exact h m (cE e)
theorem Eb{t:Sets}(h:TOk t)(y:Sym):(symFirst t y).length=257:=by
 cases y with
 |non k=>exact iw h k
 |range lo hi=>exact SY lo hi
theorem pZ{null:List Nat}{t:Sets}(h:TOk t):∀l:List Sym,(rowFirst null t l).length=257
 |[]=>pW
 |y::r=>by
  unfold rowFirst;split
  .exact wU (Eb h y) (pZ h r)
  .exact Eb h y
theorem qY{null:List Nat}{t:Sets}(h:TOk t)(i:Nat):∀l:List Sym,bit (rowFirst null t l) i=true↔∃y∈leading null l,bit (symFirst t y) i=true
 |[]=>by
  show bit noBytes i=true↔_;rw[mh];exact⟨λz=>(by cases z),λ⟨_,z,_⟩=>(by simp[leading]at z)⟩
 |y::r=>by
  unfold rowFirst leading;split
  .rw[qW (by rw[Eb h,pZ h]),pJ,qY h i r]
   constructor
   .rintro(z|⟨x,hx,z⟩)
    .exact⟨y,aZ,z⟩
    .exact⟨x,bg _ hx,z⟩
   .rintro⟨x,hx,z⟩
    rcases bq.mp hx with e|hx
    .rw[e]at z;exact .inl z
    .exact .inr ⟨x,hx,z⟩
  .constructor
   .intro z;exact⟨y,aZ,z⟩
   .rintro⟨x,hx,z⟩
    have:x=y:=by simpa using hx
    rw[this]at z;exact z
theorem sN{t:Sets}(hi:i<257):bit (symFirst t y) i=true↔match y with| .non k=>bit (setOf t k) i=true| .range lo hi=>lo<=i/\i<=hi:=by
 cases y with
 |non k=>exact Iff.rfl
 |range lo hi'=>
  show bit (bytesOf lo hi') i=true↔lo<=i/\i<=hi';rw[S0,cT hi,Rq,cV,nh,nh]
theorem wV(f:Sets->Sets):∀(k:Nat) (t:Sets),setRounds f (k+1) t=f (setRounds f k t)
 |0,_=>rfl
 |k+1,t=>by
  show setRounds f (k+1) (f t)=f (setRounds f k (f t));exact wV f k (f t)
theorem sO{α:Type}{f:α->Mask}(hf:∀x,(f x).length=257){c:α->Bool}(i:Nat):∀(l:List α) (m:Mask),m.length=257->(l.foldl (λm x=>if c x then either (f x) m else m) m).length=257/\(bit (l.foldl (λm x=>if c x then either (f x) m else m) m) i=true↔bit m i=true\/∃x∈l,c x=true/\bit (f x) i=true)
 |[],m,hm=>⟨hm,⟨.inl,λz=>z.elim id λ⟨_,z,_⟩=>by simp at z⟩⟩
 |x::l,m,hm=>by
  rw[m8];by_cases e:c x=true
  .rw[aj e]
   obtain⟨h1,h2⟩:=sO hf i l (either (f x) m) (wU (hf x) hm);refine⟨h1,?_⟩;rw[h2,qW (by rw[hf x,hm]),pJ];constructor
   .rintro((z|z)|⟨y,hy,z⟩)
    .exact .inr ⟨x,aZ,e,z⟩
    .exact .inl z
    .exact .inr ⟨y,bg _ hy,z⟩
   .rintro(z|⟨y,hy,z⟩)
    .exact .inl (.inr z)
    .rcases bq.mp hy with q|hy
     .rw[q]at z;exact .inl (.inl z.2)
     .exact .inr ⟨y,hy,z⟩
  .rw[ai e]
   obtain⟨h1,h2⟩:=sO hf i l m hm;refine⟨h1,?_⟩;rw[h2];constructor
   .rintro(z|⟨y,hy,z⟩)
    .exact .inl z
    .exact .inr ⟨y,bg _ hy,z⟩
   .rintro(z|⟨y,hy,z⟩)
    .exact .inl z
    .rcases bq.mp hy with q|hy
     .rw[q]at z;exact absurd z.1 e
     .exact .inr ⟨y,hy,z⟩
theorem wW{f:Nat->Mask}:setOf ((List.range n).map f) a=if a<n then f a else noBytes:=by
 unfold setOf;rw[cC,fK];by_cases h:a<n
 .rw[rZ h,aj h];rfl
 .rw[j7 (by rw[gq];omega),ai h];rfl
def fR(g:Grammar)(k:Nat):Sets:=setRounds (firstRound g (nullable g) (productiveRules g)) k (noSets g)
theorem qZ(g:Grammar):∀k,TOk (fR g k)
 |0=>λm hm=>by
  obtain⟨a,_,e⟩:=bG.mp (show m∈(List.range g.nons).map (λ_=>noBytes)from hm);rw[<-e];exact pW
 |k+1=>λm hm=>by
  unfold fR at hm;rw[wV]at hm;obtain⟨a,_,e⟩:=bG.mp (show m∈(List.range g.nons).map _ from hm);rw[<-e];exact(sO (f:=λr:Rule=>rowFirst (nullable g) (fR g k) r.rhs) (λr=>pZ (qZ g k) _) 0 (productiveRules g) _ (iw (qZ g k) a)).1
def zP(g:Grammar)(i a:Nat):Prop:=∃r∈productiveRules g,r.lhs=a/\∃lo hi,Sym.range lo hi∈leading (nullable g) r.rhs/\lo<=i/\i<=hi
theorem S5(G:aS g)(hi:i<257)(hEm:∀a b,(a,b)∈E↔∃r∈productiveRules g,r.lhs=a/\Sym.non b∈leading (nullable g) r.rhs)(k a:Nat):
  bit (setOf (fR g (k+1)) a) i=true↔bit (setOf (fR g k) a) i=true\/zP g i a\/∃c,(a,c)∈E/\bit (setOf (fR g k) c) i=true:=by
 have e:fR g (k+1)=firstRound g (nullable g) (productiveRules g) (fR g k):=wV _ _ _;rw[e];unfold firstRound;rw[wW];by_cases ha:a<g.nons
 .rw[aj ha]
  rw[(sO (f:=λr:Rule=>rowFirst (nullable g) (fR g k) r.rhs) (c:=λr=>r.lhs==a) (λr=>pZ (qZ g k) _) i (productiveRules g) _ (iw (qZ g k) a)).2];constructor
  .rintro(z|⟨r,hr,z1,z2⟩)
   .exact .inl z
   .have z1:r.lhs=a:=by simpa using z1
    obtain⟨y,hy,z3⟩:=(qY (qZ g k) i r.rhs).mp z2;rw[sN hi]at z3;cases y with
    |non c=>exact .inr (.inr ⟨c,(hEm a c).mpr ⟨r,hr,z1,hy⟩,z3⟩)
    |range lo hi'=>exact .inr (.inl ⟨r,hr,z1,lo,hi',hy,z3⟩)
  .rintro(z|⟨r,hr,z1,lo,hi',z2,z3⟩|⟨c,z1,z2⟩)
   .exact .inl z
   .exact .inr ⟨r,hr,by simpa using z1,(qY (qZ g k) i r.rhs).mpr ⟨_,z2,(sN hi).mpr z3⟩⟩
   .obtain⟨r,hr,y1,y2⟩:=(hEm a c).mp z1
    exact .inr ⟨r,hr,by simpa using y1,(qY (qZ g k) i r.rhs).mpr ⟨_,y2,(sN hi).mpr z2⟩⟩
 .rw[ai ha,mh]
  have out:bit (setOf (fR g k) a) i=false:=by
   have l:(fR g k).length=g.nons:=by
    cases k with
    |zero=>show((List.range g.nons).map _).length=_;rw[aK,gq]
    |succ k=>
     have e:fR g (k+1)=firstRound g (nullable g) (productiveRules g) (fR g k):=wV _ _ _;rw[e];unfold firstRound;rw[aK,gq]
   unfold setOf;rw[cC,j7 (by omega)];exact mh i
  rw[out];constructor
  .intro z;cases z
  .rintro(z|⟨r,hr,z1,_⟩|⟨c,z1,_⟩)
   .cases z
   .exact absurd (by rw[<-z1];exact(G.rules r (fL hr)).lhs) ha
   .obtain⟨r,hr,y1,_⟩:=(hEm a c).mp z1
    exact absurd (by rw[<-y1];exact(G.rules r (fL hr)).lhs) ha
theorem K7{null:List Nat}{a b x:Nat}{h:Bool}:∀{l:List Sym} {hid:Bool},((x,b,h)∈leftIn null a hid l->x=a/\Sym.non b∈leading null l)
 |[],_,z=>by simp[leftIn]at z
 | .range lo hi::r,_,z=>by simp[leftIn]at z
 | .non k::r,hid,z=>by
  unfold leftIn at z;unfold leading;by_cases e:Vaglrc.has k null=true
  .rw[aj e]at z
   rw[aj (show symNull null (.non k)=true from e)];rcases bq.mp z with q|q
   .cases q;exact⟨rfl,aZ⟩
   .have:=K7 q
    exact⟨this.1,bg _ this.2⟩
  .rw[ai e]at z
   rw[ai (show¬symNull null (.non k)=true from e)];have q:(x,b,h)=(a,k,hid):=by simpa using z
   cases q;exact⟨rfl,aZ⟩
theorem K8{null:List Nat}{a b:Nat}:∀{l:List Sym} {hid:Bool},Sym.non b∈leading null l->∃h,(a,b,h)∈leftIn null a hid l
 |[],_,z=>by simp[leading]at z
 | .range lo hi::r,_,z=>by
  unfold leading at z;rw[ai (show¬symNull null (.range lo hi)=true from dP)]at z;simp at z
 | .non k::r,hid,z=>by
  unfold leftIn;unfold leading at z;by_cases e:Vaglrc.has k null=true
  .rw[aj e]
   rw[aj (show symNull null (.non k)=true from e)]at z;rcases bq.mp z with q|q
   .cases q;exact⟨hid,aZ⟩
   .obtain⟨h,hh⟩:=K8 (a:=a) (hid:=true) q
    exact⟨h,bg _ hh⟩
  .rw[ai e]
   rw[ai (show¬symNull null (.non k)=true from e)]at z;have q:Sym.non b=Sym.non k:=by simpa using z
   cases q;exact⟨hid,aZ⟩
theorem Ec:(a,b)∈leftPairs g↔∃r∈productiveRules g,r.lhs=a/\Sym.non b∈leading (nullable g) r.rhs:=by
 unfold leftPairs leftSteps;rw[bG];constructor
 .rintro⟨⟨x,y,h⟩,hm,e⟩
  obtain⟨r,hr,hh⟩:=iP.mp hm;cases e;have:=K7 hh;exact⟨r,hr,this.1.symm,this.2⟩
 .rintro⟨r,hr,rfl,hb⟩
  obtain⟨h,hh⟩:=K8 (a:=r.lhs) (hid:=false) hb;exact⟨(r.lhs,b,h),iP.mpr ⟨r,hr,hh⟩,rfl⟩
theorem wX(G:aS g):∀p∈leftPairs g,p.1<g.nons/\p.2<g.nons:=λp hp=>by
 obtain⟨r,hr,e,h⟩:=Ec.mp (show(p.1,p.2)∈leftPairs g from hp);exact⟨by rw[<-e];exact(G.rules r (fL hr)).lhs,(G.rules r (fL hr)).rhs _ (pX h)⟩
theorem jA(g:Grammar):TOk (firstOf g):=qZ g g.nons
theorem Ed(G:aS g)(hi:i<257)(a:Nat):bit (setOf (firstOf g) a) i=true↔∃c,(c=a\/c∈leads g (leftPairs g) a)/\zP g i c:=by
 have h1:ie g.nons (CK (zP g i) (leftPairs g)) (λa=>bit (setOf (fR g g.nons) a) i=true):=by
  refine K5 (col:=λk a=>bit (setOf (fR g k) a) i=true) (S5 G hi λa b=>Ec) (λa z=>?_) (λa ⟨r,hr,e,_⟩=>by rw[<-e];exact(G.rules r (fL hr)).lhs) (λp hp=>(wX G p hp).1) (aF _);have:setOf (fR g 0) a=noBytes:=by
   show setOf ((List.range g.nons).map _) a=_;rw[wW];split<;>rfl
  rw[this,mh]at z;cases z
 exact ie.same h1 (K4 λp hp=>(wX G p hp).2) a
def Place(g:Grammar)(r:Rule)(b:Nat)(rest:List Sym):Prop:=r∈usefulRules g/\∃pre,r.rhs=pre++Sym.non b::rest
theorem wY{null:List Nat}{first:Sets}(hF:TOk first){b:Nat}{outer:Mask}(ho:outer.length=257):∀l:List Sym,(afterIn null first b outer l).length=257
 |[]=>pW
 |s::r=>by
  unfold afterIn;refine wU ?_ (wY hF ho r);cases s with
  |range lo hi=>exact pW
  |non k=>
   dsimp only;split
   .split
    .exact wU (pZ hF r) ho
    .exact pZ hF r
   .exact pW
theorem zQ{null:List Nat}{first:Sets}(hF:TOk first){b:Nat}{outer:Mask}(ho:outer.length=257)(i:Nat):∀l:List Sym,bit (afterIn null first b outer l) i=true↔∃pre rest,l=pre++Sym.non b::rest/\(bit (rowFirst null first rest) i=true\/(rest.all (symNull null)=true/\bit outer i=true))
 |[]=>by
  show bit noBytes i=true↔_;rw[mh];constructor
  .intro z;cases z
  .rintro⟨pre,rest,e,_⟩;simp at e
 |s::r=>by
  have ih:=zQ hF ho i (b:=b) r (null:=null);have hl:=wY hF ho (null:=null) (b:=b) r;have S6:(∃pre rest,s::r=pre++Sym.non b::rest/\(bit (rowFirst null first rest) i=true\/(rest.all (symNull null)=true/\bit outer i=true)))↔(s=Sym.non b/\(bit (rowFirst null first r) i=true\/(r.all (symNull null)=true/\bit outer i=true)))\/bit (afterIn null first b outer r) i=true:=by
   rw[ih];constructor
   .rintro⟨pre,rest,e,h⟩
    cases pre with
    |nil=>
     have e:s::r=Sym.non b::rest:=e;cases e;exact .inl ⟨rfl,h⟩
    |cons x pre=>
     have e:s::r=x::(pre++Sym.non b::rest):=e;cases e;exact .inr ⟨pre,rest,rfl,h⟩
   .rintro(⟨e,h⟩|⟨pre,rest,e,h⟩)
    .exact⟨[],r,by rw[e];rfl,h⟩
    .exact⟨s::pre,rest,by rw[e];rfl,h⟩
  rw[S6];cases s with
  |range lo hi=>
   show bit (either noBytes (afterIn null first b outer r)) i=true↔_;rw[qW (by rw[pW,hl]),mh,zk];exact⟨.inr,λz=>z.elim (λq=>by cases q.1) id⟩
  |non k=>
   show bit (either (if k==b then(if r.all (symNull null)then either (rowFirst null first r) outer else rowFirst null first r)else noBytes) (afterIn null first b outer r)) i=true↔_;by_cases e:k=b
   .subst e
    rw[aj (oq k)];by_cases c:r.all (symNull null)=true
    .rw[aj c,qW (by rw[hl,wU (pZ hF r) ho]),qW (by rw[pZ hF r,ho]),pJ,pJ]
     constructor
     .rintro((z|z)|z)
      .exact .inl ⟨rfl,.inl z⟩
      .exact .inl ⟨rfl,.inr ⟨c,z⟩⟩
      .exact .inr z
     .rintro(⟨_,z|z⟩|z)
      .exact .inl (.inl z)
      .exact .inl (.inr z.2)
      .exact .inr z
    .rw[ai c,qW (by rw[hl,pZ hF r]),pJ]
     constructor
     .rintro(z|z)
      .exact .inl ⟨rfl,.inl z⟩
      .exact .inr z
     .rintro(⟨_,z|z⟩|z)
      .exact .inl z
      .exact absurd z.1 c
      .exact .inr z
   .rw[ai (by simpa using e),qW (by rw[pW,hl]),mh,zk]
    exact⟨.inr,λz=>z.elim (λq=>absurd (Sym.non.inj q.1) e) id⟩
def gR(g:Grammar)(k:Nat):Sets:=setRounds (followRound g (nullable g) (firstOf g) (usefulRules g)) k (followStart g)
theorem zR(g:Grammar)(k:Nat):gR g (k+1)=followRound g (nullable g) (firstOf g) (usefulRules g) (gR g k):=wV _ _ _
theorem oE(g:Grammar):∀k,TOk (gR g k)
 |0=>λm hm=>by
  obtain⟨a,_,e⟩:=bG.mp (show m∈(List.range g.nons).map _ from hm);rw[<-e];split
  .exact S1
  .exact pW
 |k+1=>λm hm=>by
  rw[zR]at hm;obtain⟨a,_,e⟩:=bG.mp (show m∈(List.range g.nons).map _ from hm);rw[<-e];exact(sO (f:=λr:Rule=>afterIn (nullable g) (firstOf g) a (setOf (gR g k) r.lhs) r.rhs) (c:=λ_=>true) (λr=>wY (jA g) (iw (oE g k) _) _) 0 (usefulRules g) _ (iw (oE g k) a)).1
theorem K9(g:Grammar)(k:Nat):(gR g k).length=g.nons:=by
 cases k with
 |zero=>show((List.range g.nons).map _).length=_;rw[aK,gq]
 |succ k=>rw[zR];unfold followRound;rw[aK,gq]
def Behind(g:Grammar)(i b:Nat):Prop:=∃r rest,Place g r b rest/\bit (rowFirst (nullable g) (firstOf g) rest) i=true
def Base(g:Grammar)(i b:Nat):Prop:=(i=256/\b=0/\0∈useful g)\/Behind g i b
theorem S7(G:aS g)(hEm:∀a b,(a,b)∈E↔∃r rest,Place g r a rest/\rest.all (symNull (nullable g))=true/\r.lhs=b)(h0:∀k a,(i=256/\a=0/\0∈useful g)->bit (setOf (gR g k) a) i=true)(k a:Nat):
  bit (setOf (gR g (k+1)) a) i=true↔bit (setOf (gR g k) a) i=true\/Base g i a\/∃c,(a,c)∈E/\bit (setOf (gR g k) c) i=true:=by
 rw[zR];unfold followRound;rw[wW];by_cases ha:a<g.nons
 .rw[aj ha]
  have q:=(sO (f:=λr:Rule=>afterIn (nullable g) (firstOf g) a (setOf (gR g k) r.lhs) r.rhs) (c:=λ_=>true) (λr=>wY (jA g) (iw (oE g k) _) _) i (usefulRules g) _ (iw (oE g k) a)).2;have e:(usefulRules g).foldl (λm x=>if(λ_=>true) x=true then either (afterIn (nullable g) (firstOf g) a (setOf (gR g k) x.lhs) x.rhs) m else m) (setOf (gR g k) a)=(usefulRules g).foldl (λl r=>either (afterIn (nullable g) (firstOf g) a (setOf (gR g k) r.lhs) r.rhs) l) (setOf (gR g k) a):=by
   congr 1
  rw[e]at q;rw[q];constructor
  .rintro(z|⟨r,hr,_,z⟩)
   .exact .inl z
   .obtain⟨pre,rest,e1,z2⟩:=(zQ (jA g) (iw (oE g k) _) i r.rhs).mp z
    rcases z2 with z2|⟨z2,z3⟩
    .exact .inr (.inl (.inr ⟨r,rest,⟨hr,pre,e1⟩,z2⟩))
    .exact .inr (.inr ⟨r.lhs,(hEm a r.lhs).mpr ⟨r,rest,⟨hr,pre,e1⟩,z2,rfl⟩,z3⟩)
  .rintro(z|(z|⟨r,rest,⟨hr,pre,e1⟩,z⟩)|⟨c,z1,z2⟩)
   .exact .inl z
   .exact .inl (h0 k a z)
   .exact .inr ⟨r,hr,rfl,(zQ (jA g) (iw (oE g k) _) i r.rhs).mpr ⟨pre,rest,e1,.inl z⟩⟩
   .obtain⟨r,rest,⟨hr,pre,e1⟩,y1,y2⟩:=(hEm a c).mp z1
    exact .inr ⟨r,hr,rfl,(zQ (jA g) (iw (oE g k) _) i r.rhs).mpr ⟨pre,rest,e1,.inr ⟨y1,by rw[y2];exact z2⟩⟩⟩
 .rw[ai ha,mh]
  have out:bit (setOf (gR g k) a) i=false:=by
   unfold setOf;rw[cC,j7 (by rw[K9];omega)];exact mh i
  have no:∀r rest,Place g r a rest->a<g.nons:=λr rest ⟨hr,pre,e⟩=>(G.rules r (jc hr)).rhs (.non a) (by rw[e];simp);rw[out];constructor
  .intro z;cases z
  .rintro(z|(z|⟨r,rest,z,_⟩)|⟨c,z1,_⟩)
   .cases z
   .exact absurd (by rw[z.2.1];exact G.pos) ha
   .exact absurd (no r rest z) ha
   .obtain⟨r,rest,y1,_⟩:=(hEm a c).mp z1
    exact absurd (no r rest y1) ha
def gQ(a:Nat):List Sym->List (Nat×Nat×List Sym)
 |[]=>[]
 | .non b::r=>(a,b,r)::gQ a r
 | .range _ _::r=>gQ a r
def places(g:Grammar):List (Nat×Nat×List Sym):=(usefulRules g).flatMap (λr=>gQ r.lhs r.rhs)
theorem Ef{a x b:Nat}{rest:List Sym}:∀{l:List Sym},(x,b,rest)∈gQ a l↔x=a/\∃pre,l=pre++Sym.non b::rest
 |[]=>by
  constructor
  .intro h;simp[gQ]at h
  .rintro⟨_,pre,e⟩;simp at e
 |s::r=>by
  have ih:=Ef (a:=a) (x:=x) (b:=b) (rest:=rest) (l:=r);have sp:(x=a/\∃pre,s::r=pre++Sym.non b::rest)↔(x=a/\s=Sym.non b/\r=rest)\/(x,b,rest)∈gQ a r:=by
   rw[ih];constructor
   .rintro⟨e0,pre,e⟩
    cases pre with
    |nil=>
     have e:s::r=Sym.non b::rest:=e;cases e;exact .inl ⟨e0,rfl,rfl⟩
    |cons y pre=>
     have e:s::r=y::(pre++Sym.non b::rest):=e;cases e;exact .inr ⟨e0,pre,rfl⟩
   .rintro(⟨e0,e1,e2⟩|⟨e0,pre,e⟩)
    .exact⟨e0,[],by rw[e1,e2];rfl⟩
    .exact⟨e0,s::pre,by rw[e];rfl⟩
  rw[sp];cases s with
  |range lo hi=>exact⟨.inr,λz=>z.elim (λq=>by cases q.2.1) id⟩
  |non k=>
   show(x,b,rest)∈(a,k,r)::gQ a r↔_;rw[bq];constructor
   .rintro(z|z)
    .cases z;exact .inl ⟨rfl,rfl,rfl⟩
    .exact .inr z
   .rintro(⟨e0,e1,e2⟩|z)
    .cases e1;subst e0 e2;exact .inl rfl
    .exact .inr z
theorem rf{x:Nat}:(x,b,rest)∈places g↔∃r,r.lhs=x/\Place g r b rest:=by
 unfold places;rw[iP];constructor
 .rintro⟨r,hr,h⟩
  obtain⟨e,pre,h2⟩:=Ef.mp h;exact⟨r,e.symm,hr,pre,h2⟩
 .rintro⟨r,e,hr,pre,h2⟩
  exact⟨r,hr,Ef.mpr ⟨e.symm,pre,h2⟩⟩
def nu(g:Grammar):List (Nat×Nat):=(places g).filterMap (λp=>if p.2.2.all (symNull (nullable g))then some (p.2.1,p.1)else none)
theorem Eg:(a,b)∈nu g↔∃r rest,Place g r a rest/\rest.all (symNull (nullable g))=true/\r.lhs=b:=by
 unfold nu;rw[rX];constructor
 .rintro⟨⟨x,y,rest⟩,hm,e⟩
  have e:(if rest.all (symNull (nullable g))then some (y,x)else none)=some (a,b):=e;split at e
  .rename_i c
   cases e;obtain⟨r,e2,hp⟩:=rf.mp hm;exact⟨r,rest,hp,c,e2⟩
  .cases e
 .rintro⟨r,rest,hp,c,e⟩
  refine⟨(b,a,rest),rf.mpr ⟨r,e,hp⟩,?_⟩;show(if rest.all (symNull (nullable g))then some (a,b)else none)=some (a,b);rw[aj c]
theorem zS(G:aS g):∀p∈nu g,p.1<g.nons/\p.2<g.nons:=λp hp=>by
 obtain⟨r,rest,⟨hr,pre,e⟩,_,e2⟩:=Eg.mp (show(p.1,p.2)∈nu g from hp);exact⟨(G.rules r (jc hr)).rhs (.non p.1) (by rw[e];simp),by rw[<-e2];exact(G.rules r (jc hr)).lhs⟩
theorem zT(g:Grammar)(a:Nat):(setOf (followOf g) a).length=257:=iw (oE g (g.nons+1)) a
theorem Eh(G:aS g)(i a:Nat):bit (setOf (followOf g) a) i=true↔∃c,(c=a\/c∈leads g (nu g) a)/\Base g i c:=by
 have st:∀a,bit (setOf (gR g 0) a) i=true↔(i=256/\a=0/\0∈useful g):=λa=>by
  show bit (setOf ((List.range g.nons).map _) a) i=true↔_;rw[wW];by_cases ha:a<g.nons
  .rw[aj ha]
   by_cases c:(a==0&&Vaglrc.has 0 (useful g))=true
   .rw[aj c,S2,nh]
    rw[cV]at c;have c1:a=0:=by simpa using c.1
    exact⟨λz=>⟨z,c1,dQ.mp c.2⟩,λz=>z.1⟩
   .rw[ai c,mh]
    constructor
    .intro z;cases z
    .rintro⟨_,z1,z2⟩
     refine absurd ?_ c;rw[z1,dQ.mpr z2];rfl
  .rw[ai ha,mh]
   constructor
   .intro z;cases z
   .rintro⟨_,z1,_⟩
    exact absurd (by rw[z1];exact G.pos) ha
 have keep:∀k a,bit (setOf (gR g k) a) i=true->bit (setOf (gR g (k+1)) a) i=true:=λk a h=>by
  rw[zR];unfold followRound;rw[wW];have ha:a<g.nons:=by
   refine kP λz=>?_;unfold setOf at h;rw[cC,j7 (by rw[K9];omega)]at h;have h:bit noBytes i=true:=h;rw[mh]at h;cases h
  rw[aj ha];exact((sO (f:=λr:Rule=>afterIn (nullable g) (firstOf g) a (setOf (gR g k) r.lhs) r.rhs) (c:=λ_=>true) (λr=>wY (jA g) (iw (oE g k) _) _) i (usefulRules g) _ (iw (oE g k) a)).2).mpr (.inl h)
 have h0:∀k a,(i=256/\a=0/\0∈useful g)->bit (setOf (gR g k) a) i=true:=by
  intro k
  induction k with
  |zero=>exact λa z=>(st a).mpr z
  |succ k ih=>exact λa z=>keep k a (ih a z)
 have h1:ie g.nons (CK (Base g i) (nu g)) (λa=>bit (setOf (gR g (g.nons+1)) a) i=true):=
  K5 (col:=λk a=>bit (setOf (gR g k) a) i=true) (S7 G (λa b=>Eg) h0) (λa z=>.inl ((st a).mp z)) (λa z=>by
   rcases z with z|⟨r,rest,⟨hr,pre,e⟩,_⟩
   .rw[z.2.1];exact G.pos
   .exact(G.rules r (jc hr)).rhs (.non a) (by rw[e];simp)) (λp hp=>(zS G p hp).1) (JD _)
 exact ie.same h1 (K4 λp hp=>(zS G p hp).2) a
theorem S8(G:aS g)(l:List Sym)(hl:∀y∈l,sF g.nons y):bit (rowFirst (nullable g) (firstOf g) l) 256=false:=by
 have noF:∀c,¬zP g 256 c:=λc ⟨r,hr,_,lo,hi,h1,h2,h3⟩=>by
  have:=(G.rules r (fL hr)).rhs _ (pX h1);have:hi<256:=this.2;omega
 cases e:bit (rowFirst (nullable g) (firstOf g) l) 256 with
 |false=>rfl
 |true=>
  obtain⟨y,hy,z⟩:=(qY (jA g) 256 l).mp e;rw[sN (by omega)]at z;cases y with
  |range lo hi=>
   have:=hl _ (pX hy);have:hi<256:=this.2;omega
  |non k=>
   obtain⟨c,_,hc⟩:=(Ed G (by omega) k).mp z;exact absurd hc (noF c)
theorem zU(G:aS g)(h:Place g r b rest):∀y∈rest,sF g.nons y:=λy hy=>by
 obtain⟨hr,pre,e⟩:=h;exact(G.rules r (jc hr)).rhs y (by rw[e];simp[hy])
theorem end_is(G:aS g)(a:Nat):hasEnd (setOf (followOf g) a)=(Vaglrc.has 0 (useful g)&&(a==0||Vaglrc.has 0 (leads g (nu g) a))):=by
 rw[S3 (zT g a)];refine m9.mpr ?_;rw[Eh G,cV,pJ];constructor
 .rintro⟨c,h1,h2⟩
  rcases h2 with⟨_,e,hu⟩|⟨r,rest,hp,z⟩
  .subst e
   refine⟨dQ.mpr hu,?_⟩;rcases h1 with h1|h1
   .left;rw[<-h1];rfl
   .right;exact dQ.mpr h1
  .rw[S8 G rest (zU G hp)]at z;cases z
 .rintro⟨h1,h2⟩
  refine⟨0,?_,.inl ⟨rfl,rfl,dQ.mp h1⟩⟩;rcases h2 with h2|h2
  .left
   have:a=0:=by simpa using h2
   exact this.symm
  .right;exact dQ.mp h2
def sP(g:Grammar)(a:Nat):List (Nat×Nat):=(productiveRules g).flatMap (λr=>if r.lhs==a then(leading (nullable g) r.rhs).filterMap lq else[])
def iy(g:Grammar)(a:Nat):List (Nat×Nat):=rangesOf (setOf (firstOf g) a)
theorem Ei:p∈sP g a↔∃r∈productiveRules g,r.lhs=a/\Sym.range p.1 p.2∈leading (nullable g) r.rhs:=by
 unfold sP;rw[iP];constructor
 .rintro⟨r,hr,h⟩
  split at h
  .rename_i c
   obtain⟨y,hy,e⟩:=rX.mp h;cases y with
   |non k=>cases e
   |range lo hi=>cases e;exact⟨r,hr,by simpa using c,hy⟩
  .simp at h
 .rintro⟨r,hr,e,h⟩
  refine⟨r,hr,?_⟩;rw[aj (by simpa using e)];exact rX.mpr ⟨_,h,rfl⟩
theorem La(G:aS g):∀p∈sP g a,p.1<=p.2/\p.2<256:=λp hp=>by
 obtain⟨r,hr,_,h⟩:=Ei.mp hp;exact(G.rules r (fL hr)).rhs _ (pX h)
def nv{α:Type}(parts:Nat->List α)(a:Nat)(led:List Nat):List α:=parts a++led.flatMap parts
theorem uL{α:Type}{parts:Nat->List α}{led:List Nat}{x:α}:x∈nv parts a led↔∃c,(c=a\/c∈led)/\x∈parts c:=by
 unfold nv;rw[eZ,iP];constructor
 .rintro(h|⟨c,h1,h2⟩)
  .exact⟨a,.inl rfl,h⟩
  .exact⟨c,.inr h1,h2⟩
 .rintro⟨c,h1|h1,h2⟩
  .rw[<-h1];exact .inl h2
  .exact .inr ⟨c,h1,h2⟩
theorem S9(G:aS g)(a:Nat)(hp:s.Perm (nv (sP g) a (leads g (leftPairs g) a)))(hs:s.Pairwise (λp q=>p.1<=q.1)):joined s=iy g a:=by
 obtain⟨c1,c2⟩:=qX (iw (jA g) a);refine D7 hp hs (λp h=>?_) c1 λb=>?_
 .obtain⟨c,_,h2⟩:=uL.mp h
  exact(La G p h2).1
 .unfold iy at*
  rw[c2 b];constructor
  .rintro⟨p,h,z1,z2⟩
   obtain⟨c,h1,h2⟩:=uL.mp h;have:=(La G p h2).2;refine⟨by omega,(Ed G (by omega) a).mpr ⟨c,h1,?_⟩⟩;obtain⟨r,hr,e,h3⟩:=Ei.mp h2;exact⟨r,hr,e,p.1,p.2,h3,z1,z2⟩
  .rintro⟨hb,z⟩
   obtain⟨c,h1,r,hr,e,lo,hi,h3,z1,z2⟩:=(Ed G (by omega) a).mp z;exact⟨(lo,hi),uL.mpr ⟨c,h1,Ei.mpr ⟨r,hr,e,h3⟩⟩,z1,z2⟩
def oF(g:Grammar)(l:List Sym):List (Nat×Nat):=(leading (nullable g) l).filterMap lq++(nonsIn (leading (nullable g) l)).flatMap (iy g)
theorem Lb{l:List Sym}(hl:∀y∈l,sF g.nons y):ef (oF g l) b↔b<256/\bit (rowFirst (nullable g) (firstOf g) l) b=true:=by
 constructor
 .rintro⟨p,hp,z1,z2⟩
  rcases eZ.mp hp with h|h
  .obtain⟨y,hy,e⟩:=rX.mp h
   cases y with
   |non k=>cases e
   |range lo hi=>
    cases e;have:hi<256:=(hl _ (pX hy)).2;have z2:b<=hi:=z2;exact⟨by omega,(qY (jA g) b l).mpr ⟨_,hy,(sN (by omega)).mpr ⟨z1,z2⟩⟩⟩
  .obtain⟨k,hk,h2⟩:=iP.mp h
   obtain⟨q1,q2⟩:=((qX (iw (jA g) k)).2 b).mp ⟨p,h2,z1,z2⟩;exact⟨q1,(qY (jA g) b l).mpr ⟨_,jb.mp hk,(sN (by omega)).mpr q2⟩⟩
 .rintro⟨hb,z⟩
  obtain⟨y,hy,z⟩:=(qY (jA g) b l).mp z;rw[sN (by omega)]at z;cases y with
  |range lo hi=>exact⟨(lo,hi),qL _ (rX.mpr ⟨_,hy,rfl⟩),z⟩
  |non k=>
   obtain⟨p,hp,z⟩:=((qX (iw (jA g) k)).2 b).mpr ⟨hb,z⟩;exact⟨p,ou _ (iP.mpr ⟨k,jb.mpr hy,hp⟩),z⟩
def uM(g:Grammar)(b:Nat):List (Nat×Nat):=(places g).flatMap (λp=>if p.2.1==b then oF g p.2.2 else[])
theorem Ej{q:Nat×Nat}:q∈uM g b↔∃r rest,Place g r b rest/\q∈oF g rest:=by
 unfold uM;rw[iP];constructor
 .rintro⟨⟨x,y,rest⟩,hm,h⟩
  dsimp only at h;split at h
  .rename_i c
   have c:y=b:=by simpa using c
   subst c;obtain⟨r,_,hp⟩:=rf.mp hm;exact⟨r,rest,hp,h⟩
  .simp at h
 .rintro⟨r,rest,hp,h⟩
  refine⟨(r.lhs,b,rest),rf.mpr ⟨r,rfl,hp⟩,?_⟩;dsimp only;rw[aj (oq b)];exact h
theorem Tc{l:List Sym}(hl:∀y∈l,sF g.nons y):∀p∈oF g l,p.1<=p.2:=λp hp=>by
 rcases eZ.mp hp with h|h
 .obtain⟨y,hy,e⟩:=rX.mp h
  cases y with
  |non k=>cases e
  |range lo hi=>cases e;exact(hl _ (pX hy)).1
 .obtain⟨k,_,h2⟩:=iP.mp h
  exact(qX (iw (jA g) k)).1.fit p h2
theorem Td(G:aS g)(a:Nat)(hp:s.Perm (nv (uM g) a (leads g (nu g) a)))(hs:s.Pairwise (λp q=>p.1<=q.1)):joined s=rangesOf (setOf (followOf g) a):=by
 obtain⟨c1,c2⟩:=qX (zT g a);refine D7 hp hs (λp h=>?_) c1 λb=>?_
 .obtain⟨c,_,h2⟩:=uL.mp h
  obtain⟨r,rest,dS,h3⟩:=Ej.mp h2;exact Tc (zU G dS) p h3
 .rw[c2 b]
  constructor
  .rintro⟨p,h,z⟩
   obtain⟨c,h1,h2⟩:=uL.mp h;obtain⟨r,rest,dS,h3⟩:=Ej.mp h2;obtain⟨q1,q2⟩:=(Lb (zU G dS)).mp ⟨p,h3,z⟩;exact⟨q1,(Eh G b a).mpr ⟨c,h1,.inr ⟨r,rest,dS,q2⟩⟩⟩
  .rintro⟨hb,z⟩
   obtain⟨c,h1,h2⟩:=(Eh G b a).mp z;rcases h2 with⟨e,_⟩|⟨r,rest,dS,h3⟩
   .omega
   .obtain⟨p,h4,z⟩:=(Lb (zU G dS)).mpr ⟨hb,h3⟩
    exact⟨p,uL.mpr ⟨c,h1,Ej.mpr ⟨r,rest,dS,h4⟩⟩,z⟩
theorem Lc{l:List (Nat×Nat)}(hp:s.Perm l)(hs:s.Pairwise (λp q=>p.1<=q.1))(h:Canon l):joined s=l:=D7 hp hs h.fit h λ_=>Iff.rfl
section
variable{β:Type}
def aL(n:Nat)(l:List (Nat×List β)):List (List β):=(List.range n).map (λa=>l.flatMap (λp=>if p.1==a then p.2 else[]))
theorem gH{l:List (Nat×List β)}:(aL n l).length=n:=by unfold aL;rw[aK,gq]
theorem oG{l:List (Nat×List β)}(h:a<n):(aL n l)[a]?=some (l.flatMap (λp=>if p.1==a then p.2 else[])):=by
 unfold aL;rw[fK,rZ h];rfl
theorem uN:aL n ([]:List (Nat×List β))=List.replicate n []:=by
 unfold aL;refine C2 λi=>?_;rw[fK,qI];by_cases h:i<n
 .rw[rZ h,aj h];rfl
 .rw[j7 (by rw[gq];omega),ai h];rfl
theorem uO{l:List (Nat×List β)}{xs ys:List β}(h:(aL n l)[k]?=some ys):aL n (l++[(k,xs)])=(aL n l).set k (ys++xs):=by
 have hk:k<n:=by have:=(cU.mp h).1;rw[gH]at this;exact this
 rw[oG hk]at h;have h:=Option.some.inj h;refine C2 λi=>?_;by_cases hi:i<n
 .rw[oG hi,j8]
  by_cases e:i=k
  .subst e
   rw[rY (by rw[gH];exact hi),<-h];simp
  .rw[uA (cS e),oG hi]
   have:¬(k==i)=true:=by simpa using cS e
   simp[this];exact λz=>absurd z.symm e
 .rw[j7 (by rw[gH];omega),j7 (by rw[v7,gH];omega)]
end
def pairsOf(steps:List (List Nat)):List (Nat×Nat):=(List.range steps.length).flatMap (λa=>(steps.getD a []).map (λb=>(a,b)))
theorem zV:(a,b)∈pairsOf steps↔∃l,steps[a]?=some l/\b∈l:=by
 unfold pairsOf;rw[iP];constructor
 .rintro⟨x,hx,h⟩
  obtain⟨y,hy,e⟩:=bG.mp h;cases e;have aR:=lZ.mp hx;refine⟨steps[a],bO aR,?_⟩;rw[cC,bO aR]at hy;exact hy
 .rintro⟨l,h1,h2⟩
  refine⟨a,lZ.mpr (cU.mp h1).1,bG.mpr ⟨b,?_,rfl⟩⟩;rw[cC,h1];exact h2
theorem zW{l:List (Nat×List Nat)}(hl:∀p∈l,p.1<n):(a,b)∈pairsOf (aL n l)↔∃xs,(a,xs)∈l/\b∈xs:=by
 rw[zV];constructor
 .rintro⟨ys,h1,h2⟩
  have ha:a<n:=by have:=(cU.mp h1).1;rw[gH]at this;exact this
  rw[oG ha]at h1;cases h1;obtain⟨p,hp,h⟩:=iP.mp h2;split at h
  .rename_i c
   have c:p.1=a:=by simpa using c
   refine⟨p.2,?_,h⟩;rw[<-c];exact hp
  .simp at h
 .rintro⟨xs,h1,h2⟩
  refine⟨_,oG (hl _ h1),iP.mpr ⟨(a,xs),h1,?_⟩⟩;dsimp only;rw[aj (oq a)];exact h2
structure jB(n:Nat)(steps:List (List Nat)):Prop where
 len:steps.length=n
 lt:∀l∈steps,∀b∈l,b<n
theorem jB.pairs(h:jB n steps):∀p∈pairsOf steps,p.2<n:=λp hp=>by
 obtain⟨l,h1,h2⟩:=zV.mp (show(p.1,p.2)∈pairsOf steps from hp);exact h.lt l (cE h1) p.2 h2
theorem zX{l:List (Nat×List Nat)}(h:∀p∈l,∀b∈p.2,b<n):jB n (aL n l):=by
 refine⟨gH,λys hys b hb=>?_⟩;obtain⟨a,_,e⟩:=bG.mp hys;rw[<-e]at hb;obtain⟨p,hp,hb⟩:=iP.mp hb;split at hb
 .exact h p hp b hb
 .simp at hb
def dg(n:Nat)(steps:List (List Nat))(a:Nat):List Nat:=leads {nons:=n,rules:=[]} (pairsOf steps) a
theorem Te{g':Grammar}(h:g.nons=g'.nons)(s:List (Nat×Nat))(a:Nat):leads g s a=leads g' s a:=by unfold leads;rw[h]
theorem zY(hn:n=g.nons)(hs:jB n steps)(h:∀p,p∈pairsOf steps↔p∈s)(a:Nat):dg n steps a=leads g s a:=by
 subst hn;unfold dg;rw[Te (g':=g) rfl];exact R9 hs.pairs h a
def nA(v:List Bool)(w:List Nat):List Nat->List Bool×List Nat
 |[]=>(v,w)
 |y::r=>if v.getD y false then nA v w r else nA (v.set y true) (w++[y]) r
structure Led(n:Nat)(steps:List (List Nat))(a:Nat)(v:List Bool)(w:List Nat):Prop where
 len:v.length=n
 sound:∀x,On v x->x∈dg n steps a
 wait:∀x∈w,x=a\/On v x
 done:∀x,(x=a\/On v x)->x∈w\/∀l,steps[x]?=some l->∀y∈l,On v y
theorem uP{y x:Nat}(hy:y<v.length):On (v.set y true) x↔x=y\/On v x:=by
 unfold On;by_cases e:x=y
 .subst e
  rw[rY hy];exact⟨λ_=>.inl rfl,λ_=>rfl⟩
 .rw[uA (cS e)]
  exact⟨.inr,λz=>z.elim (λq=>absurd q e) id⟩
theorem p8{y:Nat}:v.getD y false=true↔On v y:=by
 unfold On;rw[cC];cases e:v[y]? with
 |none=>exact⟨λz=>(by cases z),λz=>(by cases z)⟩
 |some b=>exact⟨λz=>(by rw[show b=true from z]),λz=>(by cases z;rfl)⟩
theorem Tf:Led n steps a (List.replicate n false) [a]:=by
 have no:∀x,¬On (List.replicate n false) x:=λx h=>by
  unfold On at h;rw[qI]at h;split at h<;>simp at h
 exact⟨i9,λx h=>absurd h (no x),λx hx=>.inl (by simpa using hx),λx hx=>hx.elim (λz=>.inl (by rw[z];simp)) λz=>absurd z (no x)⟩
def mj(v:List Bool):Nat:=v.countP (λb=>!b)
theorem Ek:∀{v:List Bool} {y:Nat},v[y]?=some false->mj (v.set y true)+1=mj v
 |[],y,h=>by simp at h
 |b::v,0,h=>by
  have:b=false:=by simpa using h
  subst this;simp[mj]
 |b::v,y+1,h=>by
  have ih:=Ek (v:=v) (y:=y) (by simpa using h);unfold mj at ih⊢;rw[List.set_cons_succ,Jy,Jy];omega
theorem El{n a x:Nat}{steps:List (List Nat)}(hs:jB n steps)(hxs:x=a\/x∈dg n steps a){all:List Nat}(hl:steps[x]?=some all):∀(l:List Nat),(∀y∈l,y∈all)->∀{v:List Bool} {w:List Nat},v.length=n->(∀x,On v x->x∈dg n steps a)->(∀x∈w,x=a\/On v x)->
  ∃v' w',nA v w l=(v',w')/\v'.length=n/\(∀x,On v' x->x∈dg n steps a)/\(∀x∈w',x=a\/On v' x)/\(∀z,On v z->On v' z)/\(∀z∈w,z∈w')/\(∀y∈l,On v' y)/\(∀z,On v' z->On v z\/z∈w')/\2*mj v'+w'.length<=2*mj v+w.length
 |[],_,v,w,h1,h2,h3=>⟨v,w,rfl,h1,h2,h3,λ_ z=>z,λ_ z=>z,λ_ z=>(by simp at z),λ_ z=>.inl z,aF _⟩
 |y::r,hr,v,w,h1,h2,h3=>by
  have hy:=hr y aZ;have hyn:y<n:=hs.lt all (cE hl) y hy;unfold nA;by_cases c:v.getD y false=true
  .rw[aj c]
   obtain⟨v',w',e,k1,k2,k3,k4,k5,k6,k7,k8⟩:=El hs hxs hl r (λz hz=>hr z (bg _ hz)) h1 h2 h3;refine⟨v',w',e,k1,k2,k3,k4,k5,λz hz=>?_,k7,k8⟩;rcases bq.mp hz with q|q
   .rw[q];exact k4 y (p8.mp c)
   .exact k6 z q
  .rw[ai c]
   have off:v[y]?=some false:=by
    rw[bO (by omega)]
    congr 1
    cases e:v[y]'(by omega)
    .rfl
    .exact absurd (p8.mpr (by unfold On;rw[bO (by omega),e])) c
   have mem:y∈dg n steps a:=by
    have pr:(x,y)∈pairsOf steps:=zV.mpr ⟨all,hl,hy⟩;exact(kY (g:={nons:=n,rules:=[]}) hs.pairs a).closed _ pr hxs
   obtain⟨v',w',e,k1,k2,k3,k4,k5,k6,k7,k8⟩:=El hs hxs hl r (λz hz=>hr z (bg _ hz)) (v:=v.set y true) (w:=w++[y]) (by rw[v7];exact h1)
    (λz hz=>by
     rcases(uP (by omega)).mp hz with q|q
     .rw[q];exact mem
     .exact h2 z q)
    (λz hz=>by
     rcases eZ.mp hz with q|q
     .rcases h3 z q with u|u
      .exact .inl u
      .exact .inr ((uP (by omega)).mpr (.inr u))
     .exact .inr ((uP (by omega)).mpr (.inl (by simpa using q))))
   refine⟨v',w',e,k1,k2,k3,λz hz=>k4 z ((uP (by omega)).mpr (.inr hz)),λz hz=>k5 z (qL _ hz),λz hz=>?_,λz hz=>?_,?_⟩
   .rcases bq.mp hz with q|q
    .rw[q];exact k4 y ((uP (by omega)).mpr (.inl rfl))
    .exact k6 z q
   .rcases k7 z hz with u|u
    .rcases(uP (by omega)).mp u with q|q
     .rw[q];exact .inr (k5 y (by simp))
     .exact .inl q
    .exact .inr u
   .have u:=Ek off
    rw[aX]at k8;have:[y].length=1:=rfl;omega
theorem Tg{here:Nat}{w:List Nat}(hs:jB n steps)(h:Led n steps a v (w++[here]))(hl:steps[here]?=some l):∃v' w',nA v w l=(v',w')/\Led n steps a v' w'/\2*mj v'+w'.length<2*mj v+(w++[here]).length:=by
 have hx:here=a\/On v here:=h.wait here (by simp);obtain⟨v',w',e,k1,k2,k3,k4,k5,k6,k7,k8⟩:=El hs (hx.imp id (h.sound here)) hl l (λ_ z=>z) (w:=w) h.len h.sound (λx hx=>h.wait x (qL _ hx));refine⟨v',w',e,⟨k1,k2,k3,λx hx=>?_⟩,?_⟩
 .by_cases q:x=here
  .subst q
   right
   intro l' kg y hy;rw[hl]at kg;cases kg;exact k6 y hy
  .have:(x=a\/On v x)\/x∈w':=by
    rcases hx with z|z
    .exact .inl (.inl z)
    .rcases k7 x z with u|u
     .exact .inl (.inr u)
     .exact .inr u
   rcases this with z|z
   .rcases h.done x z with u|u
    .rcases eZ.mp u with y|y
     .exact .inl (k5 x y)
     .exact absurd (by simpa using y) q
    .exact .inr λl' kg y hy=>k4 y (u l' kg y hy)
   .exact .inl z
 .rw[aX]
  have:[here].length=1:=rfl;omega
theorem Th(hs:jB n steps)(h:Led n steps a v []):(List.range n).filter (λx=>v.getD x false)=dg n steps a:=by
 have L:=kY (g:={nons:=n,rules:=[]}) hs.pairs a;have ok:=(qT (g:={nons:=n,rules:=[]}) hs.pairs a).1;refine zx (qR (sC n)) ok.asc λx=>?_;rw[iO,lZ,p8];constructor
 .exact λz=>h.sound x z.2
 .intro z
  refine⟨ok.lt x z,?_⟩;refine L.below (λx=>On v x) (λp hp q=>?_) x z;obtain⟨l,h1,h2⟩:=zV.mp (show(p.1,p.2)∈pairsOf steps from hp);rcases h.done p.1 q with u|u
  .simp at u
  .exact u l h1 p.2 h2
theorem Em(hs:jB n steps):Ok n (dg n steps a):=(qT (g:={nons:=n,rules:=[]}) hs.pairs a).1
def jd(rules:List Rule):List (Nat×List Nat):=rules.map (λr=>(r.lhs,nonsIn r.rhs))
theorem wZ(G:aS g)(h:∀r∈rules,r∈g.rules):(∀p∈jd rules,p.1<g.nons)/\jB g.nons (aL g.nons (jd rules)):=by
 refine⟨λp hp=>?_,zX λp hp b hb=>?_⟩
 .obtain⟨r,hr,e⟩:=bG.mp hp
  rw[<-e];exact(G.rules r (h r hr)).lhs
 .obtain⟨r,hr,e⟩:=bG.mp hp
  rw[<-e]at hb;exact(G.rules r (h r hr)).rhs _ (jb.mp hb)
theorem En(G:aS g)(h:∀r∈rules,r∈g.rules):(a,b)∈pairsOf (aL g.nons (jd rules))↔∃r∈rules,r.lhs=a/\Sym.non b∈r.rhs:=by
 rw[zW (wZ G h).1];constructor
 .rintro⟨xs,h1,h2⟩
  obtain⟨r,hr,e⟩:=bG.mp h1;cases e;exact⟨r,hr,rfl,jb.mp h2⟩
 .rintro⟨r,hr,e,h2⟩
  exact⟨_,bG.mpr ⟨r,hr,by rw[e]⟩,jb.mpr h2⟩
theorem Ti(G:aS g)(a:Nat):(a==0||Vaglrc.has a (dg g.nons (aL g.nons (jd (productiveRules g))) 0))=Vaglrc.has a (reachable g):=by
 have hs:∀r∈productiveRules g,r∈g.rules:=λr hr=>fL hr;have ok:=(wZ G hs).2;have L:=kY (g:={nons:=g.nons,rules:=[]}) ok.pairs 0;have k:ie g.nons (CR g) (λa=>a=0\/a∈dg g.nons (aL g.nons (jd (productiveRules g))) 0):=by
  constructor
  .refine⟨.inl rfl,λr hr h k hk=>.inr ?_⟩
   exact L.closed (r.lhs,k) ((En G hs).mpr ⟨r,hr,rfl,hk⟩) h
  .rintro P ⟨h1,h2⟩ a h
   rcases h with h|h
   .rw[h];exact h1
   .refine L.below P (λp hp q=>?_) a h
    obtain⟨r,hr,e,hk⟩:=(En G hs).mp (show(p.1,p.2)∈_ from hp);refine h2 r hr ?_ p.2 hk;rw[e];rcases q with q|q
    .rw[q];exact h1
    .exact q
 refine m9.mpr ?_;rw[pJ,dQ,dQ,<-ie.same k (J0 G) a];constructor
 .rintro(z|z)
  .exact .inl (by simpa using z)
  .exact .inr z
 .rintro(z|z)
  .left;rw[z];rfl
  .exact .inr z
def jP(null:List Nat)(hid:Bool)(l:List Sym):List (Nat×Bool):=(leftIn null 0 hid l).map (·.2)
def wItems(g:Grammar):List (Nat×List (Nat×Bool)):=(productiveRules g).map (λr=>(r.lhs,jP (nullable g) false r.rhs))
def iz(g:Grammar):List (Nat×List Nat):=(productiveRules g).map (λr=>(r.lhs,nonsIn (leading (nullable g) r.rhs)))
theorem Ld{null:List Nat}:∀{l:List Sym} {hid:Bool},(jP null hid l).map (·.1)=nonsIn (leading null l)
 |[],_=>rfl
 | .range lo hi::r,_=>by
  unfold leading;rw[ai (show¬symNull null (.range lo hi)=true from dP)];rfl
 | .non k::r,hid=>by
  unfold leading jP leftIn;by_cases e:Vaglrc.has k null=true
  .rw[aj e,aj (show symNull null (.non k)=true from e)]
   show k::(jP null true r).map (·.1)=k::nonsIn (leading null r);rw[Ld]
  .rw[ai e,ai (show¬symNull null (.non k)=true from e)]
   rfl
theorem Eo{null:List Nat}{a:Nat}:∀{l:List Sym} {hid:Bool},leftIn null a hid l=(jP null hid l).map (λp=>(a,p))
 |[],_=>rfl
 | .range lo hi::r,_=>rfl
 | .non k::r,hid=>by
  unfold jP leftIn;by_cases e:Vaglrc.has k null=true
  .rw[aj e,aj e]
   show(a,k,hid)::leftIn null a true r=(a,k,hid)::((leftIn null 0 true r).map (·.2)).map (λp=>(a,p));rw[Eo (l:=r)];rfl
  .rw[ai e,ai e]
   rfl
theorem uQ(G:aS g):(∀p∈iz g,p.1<g.nons)/\jB g.nons (aL g.nons (iz g)):=by
 refine⟨λp hp=>?_,zX λp hp b hb=>?_⟩
 .obtain⟨r,hr,e⟩:=bG.mp hp
  rw[<-e];exact(G.rules r (fL hr)).lhs
 .obtain⟨r,hr,e⟩:=bG.mp hp
  rw[<-e]at hb;exact(G.rules r (fL hr)).rhs _ (pX (jb.mp hb))
theorem Tj(G:aS g)(p:Nat×Nat):p∈pairsOf (aL g.nons (iz g))↔p∈leftPairs g:=by
 rw[show p=(p.1,p.2)from rfl,zW (uQ G).1,Ec];constructor
 .rintro⟨xs,h1,h2⟩
  obtain⟨r,hr,e⟩:=bG.mp h1;have e1:r.lhs=p.1:=e8 Prod.fst e;have e2:nonsIn (leading (nullable g) r.rhs)=xs:=e8 Prod.snd e;exact⟨r,hr,e1,jb.mp (by rw[e2];exact h2)⟩
 .rintro⟨r,hr,e,h2⟩
  exact⟨_,bG.mpr ⟨r,hr,by rw[e]⟩,jb.mpr h2⟩
theorem zZ(G:aS g)(a:Nat):dg g.nons (aL g.nons (iz g)) a=leads g (leftPairs g) a:=zY rfl (uQ G).2 (Tj G) a
theorem Ep(g:Grammar):(aL g.nons (wItems g)).map (λl=>l.map (·.1))=aL g.nons (iz g):=by
 unfold aL;rw[pI];refine wc λa _=>?_;show((wItems g).flatMap _).map _=(iz g).flatMap _;unfold wItems iz;rw[C5,C5,List.map_flatMap]
 congr 1
 funext r
 dsimp only;split
 .exact Ld
 .rfl
theorem Tn(hs:∀p∈s,p.2<g.nons){x:Nat}(h:x∈leads g s a):∃b,(a,b)∈s/\(x=b\/x∈leads g s b):=
 (kY hs a).below (λx=>∃b,(a,b)∈s/\(x=b\/x∈leads g s b)) (λp hp q=>by
  rcases q with q|⟨b,h1,h2⟩
  .exact⟨p.2,by rw[<-q];exact hp,.inl rfl⟩
  .refine⟨b,h1,.inr ?_⟩
   rcases h2 with h2|h2
   .exact(kY hs b).closed p hp (.inl h2)
   .exact(kY hs b).closed p hp (.inr h2)) x h
def gI(g:Grammar)(a:Nat):List (Nat×Bool):=(wItems g).flatMap (λp=>if p.1==a then p.2 else[])
theorem z5{q:Nat×Bool}:q∈gI g a↔(a,q)∈leftSteps g:=by
 unfold gI leftSteps wItems;rw[C5,iP,iP];constructor
 .rintro⟨r,hr,h⟩
  dsimp only at h;split at h
  .rename_i c
   have c:r.lhs=a:=by simpa using c
   refine⟨r,hr,?_⟩;rw[Eo,c];exact bG.mpr ⟨q,h,rfl⟩
  .simp at h
 .rintro⟨r,hr,h⟩
  rw[Eo]at h;obtain⟨p,hp,e⟩:=bG.mp h;cases e;refine⟨r,hr,?_⟩;dsimp only;rw[aj (oq r.lhs)];exact hp
theorem Er{f:Nat×Bool->Bool}:(leftSteps g).any (λs=>s.1==a&&f s.2)=(gI g a).any f:=by
 refine m9.mpr ?_;rw[jM,jM];constructor
 .rintro⟨⟨x,q⟩,h,c⟩
  rw[cV]at c;have c1:x=a:=by simpa using c.1
  subst c1;exact⟨q,z5.mpr h,c.2⟩
 .rintro⟨q,h,c⟩
  exact⟨(a,q),z5.mp h,by rw[cV];exact⟨oq a,c⟩⟩
theorem Le(a:Nat):leftKinds g a=(if(gI g a).any (λp=>p.1==a&&!p.2)then 1 else 0)+(if(gI g a).any (λp=>p.1==a&&p.2)then 2 else 0)+(if((gI g a).map (·.1)).any (λb=>!(b==a)&&Vaglrc.has a (leads g (leftPairs g) b))then 4 else 0):=by
 unfold leftKinds;dsimp only;rw[Er (f:=λp=>p.1==a&&!p.2),Er (f:=λp=>p.1==a&&p.2),Er (f:=λp=>!(p.1==a)&&Vaglrc.has a (leads g ((leftSteps g).map (λs=>(s.1,s.2.1))) p.1)),List.any_map,zg];rfl
theorem Tp(G:aS g)(a:Nat):(!(leftKinds g a==0))=Vaglrc.has a (leads g (leftPairs g) a):=by
 have hs:=λp hp=>(wX G p hp).2;have pair:∀q∈gI g a,(a,q.1)∈leftPairs g:=λq hq=>bG.mpr ⟨(a,q),z5.mp hq,rfl⟩;refine m9.mpr ?_;rw[dQ,Le];constructor
 .intro h
  by_cases c1:(gI g a).any (λp=>p.1==a&&!p.2)=true
  .obtain⟨q,hq,c⟩:=jM.mp c1
   rw[cV]at c;have e:q.1=a:=by simpa using c.1
   have:=pair q hq;rw[e]at this;exact pV hs this
  .by_cases c2:(gI g a).any (λp=>p.1==a&&p.2)=true
   .obtain⟨q,hq,c⟩:=jM.mp c2
    rw[cV]at c;have e:q.1=a:=by simpa using c.1
    have:=pair q hq;rw[e]at this;exact pV hs this
   .by_cases c3:((gI g a).map (·.1)).any (λb=>!(b==a)&&Vaglrc.has a (leads g (leftPairs g) b))=true
    .obtain⟨b,hb,c⟩:=jM.mp c3
     obtain⟨q,hq,e⟩:=bG.mp hb;subst e;rw[cV]at c;exact zK hs (pV hs (pair q hq)) (dQ.mp c.2)
    .rw[ai c1,ai c2,ai c3]at h
     exact absurd h (by decide)
 .intro h
  obtain⟨b,h1,h2⟩:=Tn hs h;obtain⟨⟨x,y,hid⟩,hm,e⟩:=bG.mp h1;cases e;have hq:(y,hid)∈gI g x:=z5.mpr hm;have pos:0<(if(gI g x).any (λp=>p.1==x&&!p.2)then 1 else 0)+(if(gI g x).any (λp=>p.1==x&&p.2)then 2 else 0)+(if((gI g x).map (·.1)).any (λb=>!(b==x)&&Vaglrc.has x (leads g (leftPairs g) b))then 4 else 0):=by
   by_cases e:y=x
   .subst e
    cases hid with
    |false=>
     rw[aj (jM.mpr ⟨(y,false),hq,by simp⟩)];omega
    |true=>
     rw[aj (show(gI g y).any (λp=>p.1==y&&p.2)=true from jM.mpr ⟨(y,true),hq,by simp⟩)];omega
   .have hx:x∈leads g (leftPairs g) y:=h2.resolve_left λz=>e z.symm
    rw[aj (show((gI g x).map (·.1)).any (λb=>!(b==x)&&Vaglrc.has x (leads g (leftPairs g) b))=true from jM.mpr ⟨y,bG.mpr ⟨(y,hid),hq,rfl⟩,by
     rw[cV];exact⟨by simpa using e,dQ.mpr hx⟩⟩)]
    omega
  have:¬_=0:=uB pos;simpa using this
def jQ(null:List Nat)(before:List Sym)(l:List Sym):List Nat:=(aloneIn null 0 before l).map (·.2)
def je(g:Grammar):List (Nat×List Nat):=(productiveRules g).map (λr=>(r.lhs,jQ (nullable g) [] r.rhs))
theorem z6{null:List Nat}{a:Nat}:∀{l before:List Sym},aloneIn null a before l=(jQ null before l).map (λb=>(a,b))
 |[],_=>rfl
 | .non k::r,before=>by
  unfold jQ;show(if before.all (symNull null)&&r.all (symNull null)then(a,k)::aloneIn null a (.non k::before) r else aloneIn null a (.non k::before) r)=((if before.all (symNull null)&&r.all (symNull null)then(0,k)::aloneIn null 0 (.non k::before) r else aloneIn null 0 (.non k::before) r).map (·.2)).map (λb=>(a,b));rw[z6 (l:=r)];split
  .rfl
  .rfl
 | .range lo hi::r,before=>by
  show aloneIn null a (.range lo hi::before) r=((aloneIn null 0 (.range lo hi::before) r).map (·.2)).map (λb=>(a,b));rw[z6 (l:=r)];rfl
theorem z7{null:List Nat}{b:Nat}:∀{l before:List Sym},b∈jQ null before l->Sym.non b∈l
 |[],_,h=>by simp[jQ,aloneIn]at h
 | .non k::r,before,h=>by
  have h:b∈(if before.all (symNull null)&&r.all (symNull null)then(0,k)::aloneIn null 0 (.non k::before) r else aloneIn null 0 (.non k::before) r).map (·.2):=h;split at h
  .rcases bq.mp h with e|h
   .rw[e];exact aZ
   .exact bg _ (z7 h)
  .exact bg _ (z7 h)
 | .range lo hi::r,before,h=>bg _ (z7 (before:=.range lo hi::before) h)
theorem Es(G:aS g):(∀p∈je g,p.1<g.nons)/\jB g.nons (aL g.nons (je g)):=by
 refine⟨λp hp=>?_,zX λp hp b hb=>?_⟩
 .obtain⟨r,hr,e⟩:=bG.mp hp
  rw[<-e];exact(G.rules r (fL hr)).lhs
 .obtain⟨r,hr,e⟩:=bG.mp hp
  rw[<-e]at hb;exact(G.rules r (fL hr)).rhs _ (z7 hb)
theorem Tq(G:aS g)(a:Nat):dg g.nons (aL g.nons (je g)) a=leads g (alonePairs g) a:=by
 refine zY rfl (Es G).2 (λp=>?_) a;rw[show p=(p.1,p.2)from rfl,zW (Es G).1];unfold alonePairs;dsimp only;rw[iP];constructor
 .rintro⟨xs,h1,h2⟩
  obtain⟨r,hr,e⟩:=bG.mp h1;have e1:r.lhs=p.1:=e8 Prod.fst e;have e2:jQ (nullable g) [] r.rhs=xs:=e8 Prod.snd e;refine⟨r,hr,?_⟩;rw[z6,e1,e2];exact bG.mpr ⟨p.2,h2,rfl⟩
 .rintro⟨r,hr,h⟩
  rw[z6]at h;obtain⟨b,hb,e⟩:=bG.mp h;have e1:r.lhs=p.1:=e8 Prod.fst e;have e2:b=p.2:=e8 Prod.snd e;exact⟨_,bG.mpr ⟨r,hr,by rw[e1]⟩,by rw[<-e2];exact hb⟩
def jf(g:Grammar):List (Nat×List Nat):=(places g).map (λp=>(p.2.1,if p.2.2.all (symNull (nullable g))then[p.1]else[]))
theorem Lf:(∃xs,(a,xs)∈jf g/\b∈xs)↔(a,b)∈nu g:=by
 rw[Eg];constructor
 .rintro⟨xs,h1,h2⟩
  obtain⟨⟨x,y,rest⟩,hp,e⟩:=bG.mp h1;have e1:y=a:=e8 Prod.fst e;have e2:(if rest.all (symNull (nullable g))then[x]else[])=xs:=e8 Prod.snd e;rw[<-e2]at h2;split at h2
  .rename_i c
   have h2:b=x:=by simpa using h2
   subst h2 e1;obtain⟨r,e3,hq⟩:=rf.mp hp;exact⟨r,rest,hq,c,e3⟩
  .simp at h2
 .rintro⟨r,rest,hq,c,e⟩
  refine⟨[b],bG.mpr ⟨(b,a,rest),rf.mpr ⟨r,e,hq⟩,?_⟩,by simp⟩;dsimp only;rw[aj c]
theorem z8(G:aS g):(∀p∈jf g,p.1<g.nons)/\jB g.nons (aL g.nons (jf g)):=by
 refine⟨λp hp=>?_,zX λp hp b hb=>?_⟩
 .obtain⟨⟨x,y,rest⟩,hq,e⟩:=bG.mp hp
  obtain⟨r,_,hr,pre,e2⟩:=rf.mp hq;rw[<-e];exact(G.rules r (jc hr)).rhs (.non y) (by rw[e2];simp)
 .exact(zS G (p.1,b) (Lf.mp ⟨p.2,hp,hb⟩)).2
theorem Lg(G:aS g)(a:Nat):dg g.nons (aL g.nons (jf g)) a=leads g (nu g) a:=
 zY rfl (z8 G).2 (λp=>by rw[show p=(p.1,p.2)from rfl,zW (z8 G).1,Lf]) a
theorem Tr(G:aS g)(a:Nat):dg g.nons (aL g.nons (jd (usefulRules g))) a=leads g (allPairs g) a:=
 zY rfl (wZ G λr hr=>jc hr).2 (λp=>by rw[show p=(p.1,p.2)from rfl,En G λr hr=>jc hr,wO]) a
theorem Tt(G:aS g):(List.range g.nons).filter (λa=>a==0||Vaglrc.has a (useful g))=keptNons g:=by
 unfold keptNons;refine zx (qR (sC _)) (Du (wJ G).asc) λx=>?_;rw[iO,lZ,pJ,dQ,g9];constructor
 .rintro⟨_,z|z⟩
  .exact .inl (by simpa using z)
  .exact .inr z
 .rintro(z|z)
  .rw[z];exact⟨G.pos,.inl rfl⟩
  .exact⟨(wJ G).lt x z,.inr z⟩
theorem Et(G:aS g):Ok g.nons (keptNons g):=(wJ G).put G.pos
theorem z9(h:a∈useful g):a∈keptNons g:=g9.mpr (.inr h)
def nB(p:Rule->Bool)(rules:List Rule)(i:Nat):List Nat:=(List.range i).filter (λj=>match rules[j]? with|some r=>p r|none=>false)
theorem Tu{p:Rule->Bool}(h:rules[i]?=some r):nB p rules (i+1)=if p r then nB p rules i++[i]else nB p rules i:=by
 unfold nB;rw[List.range_succ,Rr];by_cases c:p r=true
 .simp[h,c]
 .simp[h,c]
theorem Li{p:Rule->Bool}:∀(l:List Rule) (k:Nat),(((List.range' k l.length).zip l).filter (λx=>p x.2)).map (λx=>x.1)=(List.range' k l.length).filter (λj=>match l[j-k]? with|some r=>p r|none=>false)
 |[],k=>rfl
 |r::l,k=>by
  have ih:=Li (p:=p) l (k+1);rw[show(r::l).length=l.length+1 from rfl,List.range'_succ,zj,qM,qM];have e:(List.range' (k+1) l.length).filter (λj=>match(r::l)[j-k]? with|some r=>p r|none=>false)=(List.range' (k+1) l.length).filter (λj=>match l[j-(k+1)]? with|some r=>p r|none=>false):=by
   refine Rt λj hj=>?_;have:k+1<=j:=(List.mem_range'_1.mp hj).1;rw[show j-k=(j-(k+1))+1 by omega,List.getElem?_cons_succ]
  rw[e,<-ih];simp only[C4,List.getElem?_cons_zero];by_cases c:p r=true
  .rw[aj c,aj c];rfl
  .rw[ai c,ai c]
abbrev oH(g:Grammar)(r:Rule):Bool:=allIn true (productive g) r.rhs&&Vaglrc.has r.lhs (useful g)
theorem Aa(g:Grammar):keptRules g=nB (oH g) g.rules g.rules.length:=by
 unfold keptRules nB Vaglrc.numbered;rw[List.range_eq_range'];exact Li (p:=oH g) g.rules 0
theorem Lj{α:Type}{l:List Rule}{h:Rule->Option α}:∀i,i<=l.length->(List.range i).filterMap (λj=>(l[j]?).bind h)=(l.take i).filterMap h
 |0,_=>rfl
 |i+1,hi=>by
  have ih:=Lj (l:=l) (h:=h) i (by omega);have e:l[i]?=some (l[i]'(by omega)):=bO (by omega);rw[List.range_succ,Ru,ih,List.take_succ,Ru,e]
  congr 1
  rw[r9,e];rfl
theorem filter_filterMap{α β:Type}{p:α->Bool}{f:α->Option β}:∀l:List α,(l.filter p).filterMap f=l.filterMap (λx=>if p x then f x else none)
 |[]=>rfl
 |x::l=>by
  have ih:=filter_filterMap (p:=p) (f:=f) l;rw[qM,r9];by_cases c:p x=true
  .rw[aj c,aj c,r9,ih]
  .rw[ai c,ai c,ih]
theorem Tv(g:Grammar):(keptRules g).filterMap (λj=>g.rules[j]?)=usefulRules g:=by
 have e:usefulRules g=g.rules.filter (oH g):=by
  unfold usefulRules productiveRules oH;rw[List.filter_filter];refine Rt λr _=>?_;exact Bool.and_comm _ _
 rw[e,Aa];unfold nB;rw[filter_filterMap];have q:=Lj (l:=g.rules) (h:=λr=>if oH g r then some r else none) g.rules.length (aF _);rw[ja]at q;have e2:g.rules.filterMap (λr=>if oH g r then some r else none)=g.rules.filter (oH g):=by
  rw[<-List.filterMap_eq_filter]
  congr 1
 rw[<-e2,<-q]
 congr 1
 funext j
 cases g.rules[j]? with
 |none=>rfl
 |some r=>rfl
theorem xg(g:Grammar):(usefulRules g).length<=g.rules.length:=by
 unfold usefulRules productiveRules;exact aG (wg _ _) (wg _ _)
theorem uR(g:Grammar):(productiveRules g).length<=g.rules.length:=wg _ _
theorem xh:∀{kept:List Nat} {i a:Nat},gF kept->kept[i]?=some a->newNon kept a=i
 |[],i,a,_,h=>by simp at h
 |x::r,0,a,hs,h=>by
  have e:x=a:=by simpa using h
  subst e;unfold newNon;have e:r.filter (λb=>decide (b<x))=[]:=List.filter_eq_nil_iff.mpr λy hy=>by
   have:=(gD.mp hs).1 y hy;simp;omega
  rw[qM,ai (by simp),e];rfl
 |x::r,i+1,a,hs,h=>by
  have ih:=xh (kept:=r) (i:=i) (a:=a) (gD.mp hs).2 (by simpa using h);have:x<a:=(gD.mp hs).1 a (cE (by simpa using h));unfold newNon at ih⊢;rw[qM,aj (by simpa using this),bT,ih]
theorem Lk{kept:List Nat}(hs:gF kept)(h:a∈kept):newNon kept a<kept.length:=by
 obtain⟨i,hi,e⟩:=List.getElem_of_mem h;rw[xh hs (cU.mpr ⟨hi,e⟩)];exact hi
theorem Ll(G:aS g):aS (trimmed g):=by
 have K:=Et G;refine⟨?_,?_,?_,λr hr=>?_⟩
 .show 0<(keptNons g).length
  exact List.length_pos_of_mem (show 0∈keptNons g from g9.mpr (.inl rfl))
 .show(keptNons g).length<=20
  have:=K.sub.length_le;rw[gq]at this;have:=G.nons;omega
 .show((usefulRules g).map _).length<=60
  rw[aK];exact aG (xg g) G.cA
 .obtain⟨q,hq,e⟩:=bG.mp (show r∈(usefulRules g).map _ from hr)
  subst e;refine⟨Lk K.asc (z9 (sG.mp hq).2),λy hy=>?_,?_⟩
  .obtain⟨s,hs,e⟩:=bG.mp hy
   subst e;cases s with
   |non k=>exact Lk K.asc (z9 (zI G hq hs))
   |range lo hi=>exact(G.rules q (jc hq)).rhs _ hs
  .show(q.rhs.map _).length<=8
   rw[aK];exact(G.rules q (jc hq)).cA
theorem Ab{null:List Nat}:∀{l v:List Sym},v∈variants null l->v.Sublist l
 |[],v,h=>by
  have:v=[]:=by simpa[variants]using h
  rw[this];exact List.Sublist.refl []
 |s::r,v,h=>by
  unfold variants at h;dsimp only at h;split at h
  .rcases eZ.mp h with h|h
   .obtain⟨u,hu,e⟩:=bG.mp h
    rw[<-e];exact(Ab hu).cons_cons s
   .exact(Ab h).cons s
  .obtain⟨u,hu,e⟩:=bG.mp h
   rw[<-e];exact(Ab hu).cons_cons s
theorem Lm{null:List Nat}:∀l:List Sym,(variants null l).length=2^(l.filter (symNull null)).length
 |[]=>rfl
 |s::r=>by
  have ih:=Lm (null:=null) r;unfold variants;dsimp only;rw[qM];by_cases c:symNull null s=true
  .rw[aj c,aj c,aX,aK,ih,bT,Rv]
   omega
  .rw[ai c,ai c,aK,ih]
theorem Eu:∀{l m:List Sym},l.length=m.length->l.flatMap Vaglrc.flatSym=m.flatMap Vaglrc.flatSym->l=m
 |[],[],_,_=>rfl
 |[],_::_,h,_=>by simp at h
 |_::_,[],h,_=>by simp at h
 |x::l,y::m,h,e=>by
  rw[j9,j9]at e;cases x with
  |non a=>
   cases y with
   |non b=>
    have e:0::a::l.flatMap Vaglrc.flatSym=0::b::m.flatMap Vaglrc.flatSym:=e;injection e with _ e
    injection e with e1 e2
    rw[e1,Eu (by simpa using h) e2]
   |range c d=>
    have e:0::_=1::_:=e;injection e with e
    omega
  |range a b=>
   cases y with
   |non c=>
    have e:1::_=0::_:=e;injection e with e
    omega
   |range c d=>
    have e:1::a::b::l.flatMap Vaglrc.flatSym=1::c::d::m.flatMap Vaglrc.flatSym:=e;injection e with _ e
    injection e with e1 e
    injection e with e2 e3
    rw[e1,e2,Eu (by simpa using h) e3]
theorem same_iff{q:Rule}:sameRule r q=true↔r=q:=by
 unfold sameRule;constructor
 .intro h
  have h:Vaglrc.flatRule r=Vaglrc.flatRule q:=by simpa using h
  unfold Vaglrc.flatRule at h;injection h with h1 h
  injection h with h2 h3
  obtain⟨a,l⟩:=r;obtain⟨b,m⟩:=q;have h1:a=b:=h1;have h4:l=m:=Eu h2 h3;rw[h1,h4]
 .intro h
  rw[h];exact oq _
theorem Ln{acc:List Rule}:acc.any (sameRule r)=true↔r∈acc:=by
 rw[jM];constructor
 .rintro⟨q,hq,e⟩
  rw[same_iff.mp e];exact hq
 .intro h
  exact⟨r,h,same_iff.mpr rfl⟩
abbrev gg(a:List Rule)(r:Rule):List Rule:=if a.any (sameRule r)then a else a++[r]
theorem Lo:∀(l acc:List Rule) {r:Rule},r∈l.foldl gg acc->r∈acc\/r∈l
 |[],acc,r,h=>.inl h
 |x::l,acc,r,h=>by
  rcases Lo l _ h with h|h
  .unfold gg at h
   split at h
   .exact .inl h
   .rcases eZ.mp h with h|h
    .exact .inl h
    .exact .inr (by
             have:r=x:=by simpa using h
             rw[this];exact aZ)
  .exact .inr (bg _ h)
abbrev iR(g:Grammar)(rules:List Rule):List Rule:=rules.flatMap (λr=>((variants (nullable g) r.rhs).filter (λv=>!v.isEmpty)).map (λv=>{lhs:=r.lhs,rhs:=v}))
theorem Lp(G:aS g)(h:fits g=true):aS (unnulled g):=by
 unfold fits at h;rw[cV,nh,nh]at h;refine⟨G.pos,G.nons,h.2,λr hr=>?_⟩;rcases Lo (iR g g.rules) [] (show r∈(iR g g.rules).foldl gg []from hr)with z|z
 .simp at z
 .obtain⟨q,hq,z⟩:=iP.mp z
  obtain⟨v,hv,e⟩:=bG.mp z;have s:=Ab (iO.mp hv).1;rw[<-e];exact⟨(G.rules q hq).lhs,λy hy=>(G.rules q hq).rhs y (s.subset hy),aG s.length_le (G.rules q hq).cA⟩
theorem Lq(g:Grammar):waysIn g=(g.rules.map (λr=>2^(r.rhs.filter (symNull (nullable g))).length)).sum:=by
 unfold waysIn;have all:∀(l:List Rule) (n:Nat),l.foldl (λn r=>n+2^(r.rhs.filter (symNull (nullable g))).length) n=n+(l.map (λr=>2^(r.rhs.filter (symNull (nullable g))).length)).sum:=by
  intro l
  induction l with
  |nil=>intro n;rfl
  |cons r l ih=>intro n;rw[m8,ih,cD,we,zg]
 rw[all,Nat.zero_add]
theorem Tw(g:Grammar)(l:List Rule):(iR g l).length<=(l.map (λr=>2^(r.rhs.filter (symNull (nullable g))).length)).sum:=by
 induction l with
 |nil=>exact aF _
 |cons r l ih=>
  unfold iR at ih⊢;rw[j9,aX,cD,we,aK];have:=wg (λv:List Sym=>!v.isEmpty) (variants (nullable g) r.rhs);rw[Lm]at this;omega
theorem Lr:∀(l acc:List Rule),(l.foldl gg acc).length<=acc.length+l.length
 |[],acc=>aF _
 |x::l,acc=>by
  have ih:=Lr l (gg acc x);rw[m8,bT];have:(gg acc x).length<=acc.length+1:=by
   unfold gg;split
   .omega
   .rw[aX];exact aF _
  omega
def dh(lo hi:Nat):List Nat->Option (Nat×List Nat)
 |[]=>none
 |x::r=>if lo<=x/\x<=hi then some (x,r)else none
def fV(n:Nat)(x:List Nat):Option (Sym×List Nat):=match dh 0 1 x with
 |none=>none
 |some (k,r)=>if k=0 then(match dh 0 (n-1) r with
   |none=>none
   |some (a,r)=>some (.non a,r))else(match dh 0 255 r with
   |none=>none
   |some (lo,r)=>(match dh lo 255 r with
    |none=>none
    |some (hi,r)=>some (.range lo hi,r)))
def gh{α:Type}(f:List Nat->Option (α×List Nat)):Nat->List Nat->Option (List α×List Nat)
 |0,x=>some ([],x)
 |k+1,x=>match f x with
  |none=>none
  |some (y,r)=>match gh f k r with
   |none=>none
   |some (ys,r)=>some (y::ys,r)
def jg(n:Nat)(x:List Nat):Option (Rule×List Nat):=match dh 0 (n-1) x with
 |none=>none
 |some (a,r)=>match dh 0 8 r with
  |none=>none
  |some (m,r)=>match gh (fV n) m r with
   |none=>none
   |some (ys,r)=>some ({lhs:=a,rhs:=ys},r)
def ki(x:List Nat):Option Grammar:=match dh 1 20 x with
 |none=>none
 |some (n,r)=>match dh 0 60 r with
  |none=>none
  |some (m,r)=>match gh (jg n) m r with
   |none=>none
   |some (l,r)=>if r=[]then some {nons:=n,rules:=l}else none
theorem Tz(n a:Nat)(r:List Nat):fV n (0::a::r)=if a<=n-1 then some (.non a,r)else none:=by
 by_cases c:a<=n-1<;>simp[fV,dh,c]
theorem TF(n lo hi:Nat)(r:List Nat):fV n (1::lo::hi::r)=if lo<=hi/\hi<=255 then some (.range lo hi,r)else none:=by
 by_cases c1:lo<=255
 .by_cases c2:lo<=hi/\hi<=255<;>simp[fV,dh,c1,c2]
 .have c2:¬(lo<=hi/\hi<=255):=λz=>c1 (by omega)
  rw[ai c2];simp[fV,dh,c1]
theorem TH(n lo:Nat):fV n [1,lo]=none:=by
 by_cases c1:lo<=255<;>simp[fV,dh,c1]
theorem TJ(n m:Nat)(r:List Nat):fV n ((m+2)::r)=none:=by
 have:¬m+2<=1:=by omega
 simp[fV,dh,this]
theorem Ew{α:Type}(f:List Nat->Option (α×List Nat))(k:Nat)(x:List Nat):gh f (k+1) x=match f x with
  |none=>none
  |some (y,r)=>match gh f k r with
   |none=>none
   |some (ys,r)=>some (y::ys,r):=rfl
theorem Lu{n:Nat}(hn:0<n):∀(k:Nat) (x:List Nat),Vaglrc.readSyms n k x=gh (fV n) k x
 |0,x=>rfl
 |k+1,x=>by
  have ih:=Lu hn k;rw[Ew]
  match x with
  |[]=>rfl
  |[0]=>rfl
  |0::a::r=>
   show(if a<n then(Vaglrc.readSyms n k r).map (λy=>(Sym.non a::y.1,y.2))else none)=_;rw[Tz];by_cases c:a<n
   .rw[aj c,aj (by omega),ih r]
    dsimp only;generalize gh (fV n) k r=z;cases z<;>rfl
   .rw[ai c,ai (by omega)]
  |[1]=>rfl
  |[1,lo]=>rw[TH];rfl
  |1::lo::hi::r=>
   show(if lo<=hi then(if hi<256 then(Vaglrc.readSyms n k r).map (λy=>(Sym.range lo hi::y.1,y.2))else none)else none)=_;rw[TF];by_cases c1:lo<=hi
   .rw[aj c1]
    by_cases c2:hi<256
    .rw[aj c2,aj ⟨c1,by omega⟩,ih r]
     dsimp only;generalize gh (fV n) k r=z;cases z<;>rfl
    .rw[ai c2,ai (by omega)]
   .rw[ai c1,ai (by omega)]
  |(m+2)::r=>rw[TJ];rfl
theorem TM(n a m:Nat)(r:List Nat):jg n (a::m::r)=if a<=n-1 then(if m<=8 then(match gh (fV n) m r with
  |none=>none
  |some (ys,r)=>some ({lhs:=a,rhs:=ys},r))else none)else none:=by
 unfold jg;by_cases c:a<=n-1
 .rw[aj c,show dh 0 (n-1) (a::m::r)=some (a,m::r)by simp[dh,c]]
  dsimp only;by_cases c2:m<=8
  .rw[aj c2,show dh 0 8 (m::r)=some (m,r)by simp[dh,c2]]
  .rw[ai c2,show dh 0 8 (m::r)=none by simp[dh,c2]]
 .rw[ai c,show dh 0 (n-1) (a::m::r)=none by simp[dh,c]]
theorem TN(n a:Nat):jg n [a]=none:=by
 by_cases c:a<=n-1<;>simp[jg,dh,c]
theorem Lv{n:Nat}(hn:0<n):∀(k:Nat) (x:List Nat),Vaglrc.readRules n k x=gh (jg n) k x
 |0,x=>rfl
 |k+1,x=>by
  have ih:=Lv hn k;rw[Ew]
  match x with
  |[]=>rfl
  |[a]=>rw[TN];rfl
  |a::m::r=>
   show(if a<n then(if m<=Vaglrc.SYMS then(match Vaglrc.readSyms n m r with
    |some y=>(Vaglrc.readRules n k y.2).map (λz=>(({lhs:=a,rhs:=y.1}:Rule)::z.1,z.2))
    |none=>none)else none)else none)=_
   rw[TM];by_cases c1:a<n
   .rw[aj c1,aj (show a<=n-1 by omega)]
    by_cases c2:m<=Vaglrc.SYMS
    .rw[aj c2,aj (show m<=8 from c2),Lu hn]
     generalize gh (fV n) m r=w;cases w with
     |none=>rfl
     |some y=>
      dsimp only;rw[ih];generalize gh (jg n) k y.2=z;cases z<;>rfl
    .rw[ai c2,ai (show¬m<=8 from c2)]
   .rw[ai c1,ai (show¬a<=n-1 by omega)]
theorem TQ(n m:Nat)(r:List Nat):ki (n::m::r)=if 1<=n/\n<=20 then(if m<=60 then(match gh (jg n) m r with
  |none=>none
  |some (l,r)=>if r=[]then some {nons:=n,rules:=l}else none)else none)else none:=by
 unfold ki;by_cases c:1<=n/\n<=20
 .rw[aj c,show dh 1 20 (n::m::r)=some (n,m::r)by simp[dh,c]]
  dsimp only;by_cases c2:m<=60
  .rw[aj c2,show dh 0 60 (m::r)=some (m,r)by simp[dh,c2]]
  .rw[ai c2,show dh 0 60 (m::r)=none by simp[dh,c2]]
 .rw[ai c,show dh 1 20 (n::m::r)=none from ai c]
theorem TR(x:List Nat):Vaglrc.readGrammar x=ki x:=by
 match x with
 |[]=>rfl
 |[n]=>
  show none=_;by_cases c:1<=n/\n<=20
  .simp[ki,dh,c]
  .unfold ki
   rw[show dh 1 20 [n]=none from ai c]
 |n::m::r=>
  show(if 1<=n then(if n<=Vaglrc.NONS then(if m<=Vaglrc.RULES then(match Vaglrc.readRules n m r with
   |some (l,[])=>some ({nons:=n,rules:=l}:Grammar)
   |_=>none)else none)else none)else none)=_
  rw[TQ];by_cases c1:1<=n
  .rw[aj c1]
   by_cases c2:n<=Vaglrc.NONS
   .rw[aj c2,aj (show 1<=n/\n<=20 from⟨c1,c2⟩)]
    by_cases c3:m<=Vaglrc.RULES
    .rw[aj c3,aj (show m<=60 from c3),Lv (by omega)]
     generalize gh (jg n) m r=w;cases w with
     |none=>rfl
     |some y=>
      obtain⟨l,t⟩:=y;cases t with
      |nil=>rfl
      |cons a t=>rfl
    .rw[ai c3,ai (show¬m<=60 from c3)]
   .rw[ai c2,ai (λz=>c2 z.2)]
  .rw[ai c1,ai (λz=>c1 z.1)]
theorem p9{lo hi:Nat}{r:List Nat}(h:dh lo hi x=some (k,r)):lo<=k/\k<=hi/\x=k::r:=by
 cases x with
 |nil=>cases h
 |cons a x=>
  have h:(if lo<=a/\a<=hi then some (a,x)else none)=some (k,r):=h;by_cases c:lo<=a/\a<=hi
  .rw[aj c]at h
   cases h;exact⟨c.1,c.2,rfl⟩
  .rw[ai c]at h;cases h
theorem TU(hn:0<n){r:List Nat}(h:fV n x=some (y,r)):sF n y:=by
 unfold fV at h;split at h
 .cases h
 .split at h
  .split at h
   .cases h
   .rename_i a r' e
    cases h;have:=p9 e;show a<n;omega
  .split at h
   .cases h
   .split at h
    .cases h
    .rename_i lo r1 e1 _ hi r2 e2
     cases h;have:=p9 e2;exact⟨this.1,by omega⟩
theorem Ey{α:Type}{f:List Nat->Option (α×List Nat)}{P:α->Prop}(hf:∀x y r,f x=some (y,r)->P y):∀{k:Nat} {x:List Nat} {ys:List α} {r:List Nat},gh f k x=some (ys,r)->ys.length=k/\∀y∈ys,P y
 |0,x,ys,r,h=>by cases h;exact⟨rfl,by simp⟩
 |k+1,x,ys,r,h=>by
  unfold gh at h;split at h
  .cases h
  .rename_i y r' e
   split at h
   .cases h
   .rename_i zs r'' e2
    cases h;have ih:=Ey hf e2;refine⟨by rw[bT,ih.1],λz hz=>?_⟩;rcases bq.mp hz with q|q
    .rw[q];exact hf _ _ _ e
    .exact ih.2 z q
theorem TV(hn:0<n){y:Rule}{r:List Nat}(h:jg n x=some (y,r)):qS n y:=by
 unfold jg at h;split at h
 .cases h
 .rename_i a r1 e1
  split at h
  .cases h
  .rename_i m r2 e2
   split at h
   .cases h
   .rename_i ys r3 e3
    cases h;have q1:=p9 e1;have q2:=p9 e2;have q3:=Ey (P:=sF n) (λx y r=>TU hn) e3;exact⟨by show a<n;omega,q3.2,by show ys.length<=8;omega⟩
theorem TX(h:ki x=some g):aS g:=by
 unfold ki at h;split at h
 .cases h
 .rename_i n r1 e1
  split at h
  .cases h
  .rename_i m r2 e2
   split at h
   .cases h
   .rename_i l r3 e3
    split at h
    .cases h
     have q1:=p9 e1;have q2:=p9 e2;have q3:=Ey (P:=qS n) (λx y r=>TV (by omega)) e3;exact⟨by show 0<n;omega,by show n<=20;omega,by show l.length<=60;omega,q3.2⟩
    .cases h
theorem TY(c:List (List Int)):PyVaglrb.whole c=c:=by
 unfold PyVaglrb.whole;split<;>rfl
theorem TZ(cs:List (List (List Int))):cs.map PyVaglrb.whole=cs:=by
 have:PyVaglrb.whole=id:=funext TY;rw[this,List.map_id]
inductive sQ:List Int->List (List Int)->List Int->Prop
 |load (m:Int) (r:List Int) (h0:0<=m) (h1:m.toNat<=r.length):sQ (0::m::r) [[0],r.take m.toNat] (r.drop m.toNat)
 |plain (p:Int) (t:List Int) (h:p=1\/p=7\/p=8\/p=9):sQ (p::t) [[p]] t
 |num (p x:Int) (t:List Int) (h:p=2\/p=3\/p=4\/p=5\/p=6\/p=10):sQ (p::x::t) [[p,x]] t
theorem T3{l t:List Int}{c:List (List Int)}(h:PyFlat.call PyVaglrb.shape l=some (c,t)):sQ l c t:=by
 cases l with
 |nil=>cases h
 |cons p r=>
  have h:(match PyVaglrb.shape p with
   |none=>none
   |some (n,k)=>if r.length<n then none else match PyFlat.rows k (r.drop n)with
    |none=>none
    |some (xs,t)=>some ((p::r.take n)::xs,t))=some (c,t):=h
  have sh:PyVaglrb.shape p=none\/(p=0/\PyVaglrb.shape p=some (0,1))\/((p=1\/p=7\/p=8\/p=9)/\PyVaglrb.shape p=some (0,0))\/((p=2\/p=3\/p=4\/p=5\/p=6\/p=10)/\PyVaglrb.shape p=some (1,0)):=by
   unfold PyVaglrb.shape;by_cases h0:p=0
   .simp[h0]
   .by_cases h1:p=1
    .simp[h1]
    .by_cases h2:p=2
     .simp[h2]
     .by_cases h3:p=3
      .simp[h3]
      .by_cases h4:p=4
       .simp[h4]
       .by_cases h5:p=5
        .simp[h5]
        .by_cases h6:p=6
         .simp[h6]
         .by_cases h7:p=7
          .simp[h7]
          .by_cases h8:p=8
           .simp[h8]
           .by_cases h9:p=9
            .simp[h9]
            .by_cases h10:p=10
             .simp[h10]
             .simp[h0,h1,h2,h3,h4,h5,h6,h7,h8,h9,h10]
  rcases sh with s|⟨e,s⟩|⟨e,s⟩|⟨e,s⟩
  .rw[s]at h;cases h
  .rw[s]at h
   dsimp only at h;rw[ai (by omega)]at h;subst e;cases r with
   |nil=>cases h
   |cons m r=>
    simp only[zl,PyFlat.rows,PyFlat.row]at h;by_cases c1:0<=m/\m.toNat<=r.length
    .rw[aj c1]at h
     simp only[ow]at h;have h:=Option.some.inj h;have e1:=e8 Prod.fst h;have e2:=e8 Prod.snd h;dsimp only at e1 e2;rw[<-e1,<-e2];exact .load m r c1.1 c1.2
    .rw[ai c1]at h;cases h
  .rw[s]at h
   dsimp only at h;rw[ai (by omega)]at h;simp only[zl,PyFlat.rows,ow]at h;have h:=Option.some.inj h;have e1:=e8 Prod.fst h;have e2:=e8 Prod.snd h;dsimp only at e1 e2;rw[<-e1,<-e2];exact .plain p r e
  .rw[s]at h
   dsimp only at h;by_cases c:r.length<1
   .rw[aj c]at h;cases h
   .rw[ai c]at h
    cases r with
    |nil=>exact absurd (by show 0<1;omega) c
    |cons x r=>
     simp only[PyFlat.rows]at h;have h:=Option.some.inj h;have e1:=e8 Prod.fst h;have e2:=e8 Prod.snd h;dsimp only at e1 e2;rw[<-e1,<-e2];exact .num p x r e
end GS
namespace L2
open PySem PySem.Spec PyProof.Rows
abbrev Key:=Sum Int Str
def rj:Key->Value->Bool
 | .inl k,v=>Value.isInt k v
 | .inr x,v=>Value.isStrOf x v
def Lw(w:World):Key->Int
 | .inl k=>hashInt k
 | .inr x=>hashStr w x
theorem qa:∀{k:Key} {v:Value},rj k v=true->(∃i t,k=Sum.inl i/\v=Value.int i t)\/(∃x t,k=Sum.inr x/\v=Value.str x t)
 | .inl i,v,h=>by
  obtain⟨t,e⟩:=Value.isInt_shape (k:=i) (v:=v) h;exact .inl ⟨i,t,rfl,e⟩
 | .inr x,v,h=>by
  obtain⟨t,e⟩:=Value.isStrOf_shape (x:=x) (v:=v) h;exact .inr ⟨x,t,rfl,e⟩
theorem T4(i:Int)(t:Tok):rj (.inl i) (.int i t)=true:=by simp[rj,Value.isInt]
theorem T5(x:Str)(t:Tok):rj (.inr x) (.str x t)=true:=by simp[rj,Value.isStrOf]
theorem T6(a b:Int):decide ((Sum.inl a:Key)=Sum.inl b)=(a==b):=by
 by_cases e:a=b
 .subst e;simp
 .have h:¬(Sum.inl a:Key)=Sum.inl b:=λq=>e (Sum.inl.inj q)
  rw[bZ h];exact(ni.mpr e).symm
theorem T7(a b:Str):decide ((Sum.inr a:Key)=Sum.inr b)=decide (a=b):=by
 by_cases e:a=b
 .subst e;simp
 .have h:¬(Sum.inr a:Key)=Sum.inr b:=λq=>e (Sum.inr.inj q)
  rw[bZ h,bZ e]
theorem T8(a:Int)(b:Str):decide ((Sum.inl a:Key)=Sum.inr b)=false:=bZ (λq=>nomatch q)
theorem T9(a:Str)(b:Int):decide ((Sum.inr a:Key)=Sum.inl b)=false:=bZ (λq=>nomatch q)
def iS(prog:Program)(w:World):PySem.KeyKind prog w Key where
 is:=rj
 hash:=Lw w
 inj:=λv a b ha hb=>by
  rcases qa ha with⟨i,t,rfl,rfl⟩|⟨x,t,rfl,rfl⟩
  .rcases qa hb with⟨j,u,rfl,e⟩|⟨y,u,rfl,e⟩
   .injection e with e1 _;rw[e1]
   .exact nomatch e
  .rcases qa hb with⟨j,u,rfl,e⟩|⟨y,u,rfl,e⟩
   .exact nomatch e
   .injection e with e1 _;rw[e1]
 byValue:=λk v h=>by
  rcases qa h with⟨i,t,rfl,rfl⟩|⟨x,t,rfl,rfl⟩<;>rfl
 pyHash:=λhv h=>by
  rcases qa hv with⟨i,t,rfl,rfl⟩|⟨x,t,rfl,rfl⟩
  .exact wpAny_pyHash_int h
  .exact wpAny_pyHash_str h
 eqBool:=λhu hv h=>by
  rcases qa hu with⟨i,t,rfl,rfl⟩|⟨x,t,rfl,rfl⟩
  .rcases qa hv with⟨j,u,rfl,rfl⟩|⟨y,u,rfl,rfl⟩
   .rw[T6]at h;exact wpAny_eqBool_int h
   .rw[T8]at h;exact SeqAt.EqAt.int_str i t y u _ _ _ _ h
  .rcases qa hv with⟨j,u,rfl,rfl⟩|⟨y,u,rfl,rfl⟩
   .rw[T9]at h;exact SeqAt.EqAt.str_int x t j u _ _ _ _ h
   .rw[T7]at h;exact wpAny_eqBool_str h
 «strs»:=λk x t v h=>by
  rcases qa h with⟨i,u,rfl,e⟩|⟨y,u,rfl,e⟩
  .exact nomatch e
  .injection e with e1 _
   subst e1;cases v<;>rfl
theorem Ua(prog:Program)(w:World)(i:Int)(t:Tok):(iS prog w).is (.inl i) (.int i t)=true:=T4 i t
theorem Ub(prog:Program)(w:World)(x:Str)(t:Tok):(iS prog w).is (.inr x) (.str x t)=true:=T5 x t
inductive V where
 |non|bl (b:Bool)|int (i:Int)|str (x:Str)|iT (b:Array UInt8)|flt (b:UInt64)|ref (a:Addr)|ty (n:String)
 deriving DecidableEq
def RelV:V->Value->Prop
 | .non,u=>u=Value.none
 | .bl b,u=>u=Value.bool b
 | .int i,u=>∃t,u=Value.int i t
 | .str x,u=>∃t,u=Value.str x t
 | .iT b,u=>∃t,u=Value.bytes b t
 | .flt b,u=>∃t,u=Value.float b t
 | .ref a,u=>u=Value.ref a
 | .ty n,u=>u=Value.type n
abbrev Vals:List V->List Value->Prop:=Paired RelV
theorem Vals.length{xs:List V}{us:List Value}(r:Vals xs us):xs.length=us.length:=Paired.length r
theorem Vals.get:∀{xs:List V} {us:List Value} {i:Nat} {x:V},Vals xs us->xs[i]?=some x->∃u,us[i]?=some u/\RelV x u
 |_,_,_,_,.nil,e=>by simp at e
 |_,_,0,_,.cons r _,e=>by simp at e;subst e;exact⟨_,rfl,r⟩
 |_,_,i+1,x,.cons _ t,e=>by
  obtain⟨u,h1,h2⟩:=Vals.get (i:=i) (x:=x) t (by simpa using e);exact⟨u,by simpa using h1,h2⟩
theorem Vals.set{x:V}{u:Value}(r:RelV x u):∀{xs:List V} {us:List Value} (i:Nat),Vals xs us->Vals (xs.set i x) (us.set i u)
 |_,_,_,.nil=>.nil
 |_,_,0,.cons _ t=>.cons r t
 |_,_,i+1,.cons q t=>.cons q (Vals.set r i t)
theorem Vals.append:∀{xs ys:List V} {us ws:List Value},Vals xs us->Vals ys ws->Vals (xs++ys) (us++ws)
 |_,_,_,_,.nil,s=>s
 |_,_,_,_,.cons r t,s=>.cons r (Vals.append t s)
theorem Vals.take:∀{xs:List V} {us:List Value} (n:Nat),Vals xs us->Vals (xs.take n) (us.take n)
 |_,_,0,_=>.nil
 |_,_,_+1,.nil=>.nil
 |_,_,n+1,.cons r t=>.cons r (Vals.take n t)
theorem Vals.drop:∀{xs:List V} {us:List Value} (n:Nat),Vals xs us->Vals (xs.drop n) (us.drop n)
 |_,_,0,r=>r
 |_,_,_+1,.nil=>.nil
 |_,_,n+1,.cons _ t=>Vals.drop n t
def jC:Option V->Option Value->Prop
 |some v,some u=>RelV v u
 |none,none=>True
 |_,_=>False
def KV{κ:Type}:List (κ×V)->List (κ×Value)->Prop:=Paired λ(p:κ×V) (q:κ×Value)=>p.1=q.1/\RelV p.2 q.2
def kV:Key->V
 | .inl i=>.int i
 | .inr x=>.str x
inductive HO where
 |lst (xs:List V)
 |tup (xs:List V)
 |dK (ak:List (Key×V))|dT (ak:List (List Key×V))
 |set (S:Int->Bool) (n:Nat)
 |ins (C dx:Addr) (fs:List (Str×V))
 |own (x:Addr)
 |xd (fs:List (Str×V))
 |met (f x:Addr)
 |rng (lo hi:Int)
 |dz (o:Obj) (u:HO)
 |dU (ps:Array Value)
 |ext (φ:Heap->Prop)
abbrev Hp:=Addr->Option HO
def upd(H:Hp)(a:Addr)(o:HO):Hp:=λb=>if b=a then some o else H b
theorem aA{H:Hp}{a:Addr}{o:HO}:upd H a o a=some o:=by unfold upd;rw[aj rfl]
theorem aJ{H:Hp}{a b:Addr}{o:HO}(h:b≠a):upd H a o b=H b:=by unfold upd;rw[ai h]
theorem xj{H:Hp}{a:Addr}{o u:HO}:upd (upd H a o) a u=upd H a u:=by
 funext b;unfold upd;split<;>rfl
theorem sS{H:Hp}{a b:Addr}{o u:HO}(h:H a=some o)(h':H b=some u)(d:o≠u):a≠b:=by
 intro e;subst e;rw[h]at h';exact d (Option.some.inj h')
theorem fN{H:Hp}{a b:Addr}{o:HO}(h:H a=some o)(h':H b=none):a≠b:=by
 intro e;subst e;rw[h]at h';cases h'
section
variable(P:Program)(w:World)
def fD(H:Hp)(h:Heap)(a:Addr):HO->Prop
 | .lst xs=>xs.length<=sizeLine/\∃(ah:List Value) (n:Nat),Vals xs ah/\h.get? a=some {cls:=.type "list",data:=.seq ah.toArray n}
 | .tup xs=>xs.length<=sizeLine/\∃ah:List Value,Vals xs ah/\IsTup h a ah.toArray
 | .dK ak=>ak.length<=sizeLine/\(a==sysModules)=false/\∃vs,KV ak vs/\h.DictOf (iS P w) a vs
 | .dT ak=>ak.length<=sizeLine/\(a==sysModules)=false/\∃xs:List (List Key×Addr×Value),
   Paired (λ(p:List Key×V) (q:List Key×Addr×Value)=>p.1=q.1/\H q.2.1=some (.tup (p.1.map kV))/\RelV p.2 q.2.2) ak xs/\
   ∃o es ep,h.get? a=some o/\o.ExactDict/\o.data=.dict es ep/\es.toList=xs.map (entryOfKey (tupleKind (iS P w)))/\(xs.map (·.1)).Nodup
 | .set S n=>h.SetOf (intKind P w) a S n
 | .ins C dx fs=>H dx=some (.own a)/\fs.length<=1000/\dx≠a/\h.get? a=some (PySem.W.instObj C dx)/\
   ∃mA,h.Ns1 dx mA/\(∀f,jC (fs.lookup f) (mA f))/\PySem.Within mA (fs.map (·.1))
 | .own _=>∃o,h.get? a=some o
 | .xd fs=>∃mA,h.Ns1 a mA/\∀f,jC (fs.lookup f) (mA f)
 | .rng lo hi=>∃t u v,h.get? a=some {cls:=.type "range",data:=.fields #[.int lo t,.int hi u,.int 1 v]}
 | .dz o u=>h.get? a=some o/\fD H h a u
 | .dU ps=>h.get? a=some {cls:=.none,data:=.fields ps}
 | .met f x=>h.get? a=some (PySem.W.methodObj (.ref f) (.ref x))
 | .ext φ=>φ h/\(∃o,h.get? a=some o)/\∀h1 h2:Heap,φ h1->(∀o,h1.get? a=some o->h2.get? a=some o)->φ h2
def bU(H:Hp)(h:Heap):Prop:=∀a o,H a=some o->fD P w H h a o
end
section
variable{P:Program}{w:World}{H H':Hp}{h h':Heap}{a:Addr}{o:HO}
theorem fD.lt(x:fD P w H h a o):a<h.objs.size:=by
 cases o with
 |lst xs=>obtain⟨_,_,_,_,e⟩:=x;exact cI e
 |tup xs=>obtain⟨_,_,_,p⟩:=x;exact p.lt
 |dK ak=>obtain⟨_,_,_,_,o,_,_,e,_⟩:=x;exact cI e
 |dT ak=>obtain⟨_,_,_,_,o,_,_,e,_⟩:=x;exact cI e
 |set S n=>obtain⟨o,_,_,_,e,_⟩:=x;exact cI e
 |ins C dx fs=>obtain⟨_,_,_,e,_⟩:=x;exact cI e
 |own y=>obtain⟨_,e⟩:=x;exact cI e
 |xd fs=>obtain⟨_,⟨_,_,_,e,_⟩,_⟩:=x;exact cI e
 |rng lo hi=>obtain⟨_,_,_,e⟩:=x;exact cI e
 |dz ob u=>obtain⟨e,_⟩:=x;exact cI e
 |dU ps=>exact cI (show h.get? a=some _ from x)
 |met f y=>exact cI (show h.get? a=some _ from x)
 |ext φ=>obtain⟨_,⟨_,e⟩,_⟩:=x;exact cI e
theorem Paired.Ez{α β:Type}{F G:α->β->Prop}:∀{l₁:List α} {l₂:List β},Paired F l₁ l₂->(∀a b,F a b->G a b)->Paired G l₁ l₂
 |_,_,.nil,_=>.nil
 |_,_,.cons r t,f=>.cons (f _ _ r) (Paired.Ez t f)
theorem fD.rm(x:fD P w H h a o)(k:∀b u,(b=a\/H b=some (.own a))->h.get? b=some u->h'.get? b=some u)
  (ho:∀b,H b=some (.own a)->H' b=some (.own a))(ht:∀b xs,H b=some (.tup xs)->H' b=some (.tup xs)):fD P w H' h' a o:=by
 induction o with
 |lst xs=>obtain⟨z,ah,n,r,e⟩:=x;exact⟨z,ah,n,r,k _ _ (.inl rfl) e⟩
 |tup xs=>obtain⟨z,ah,r,ob,e,c⟩:=x;exact⟨z,ah,r,ob,k _ _ (.inl rfl) e,c⟩
 |dK ak=>obtain⟨z,y,vs,r,ob,es,ep,e,c⟩:=x;exact⟨z,y,vs,r,ob,es,ep,k _ _ (.inl rfl) e,c⟩
 |dT ak=>
  obtain⟨z,y,xs,r,ob,es,ep,e,c⟩:=x;exact⟨z,y,xs,Paired.Ez r λp q z=>⟨z.1,ht _ _ z.2.1,z.2.2⟩,ob,es,ep,k _ _ (.inl rfl) e,c⟩
 |set S n=>obtain⟨ob,es,ep,t,e,c⟩:=x;exact⟨ob,es,ep,t,k _ _ (.inl rfl) e,c⟩
 |ins C dx fs=>
  obtain⟨d,z,ne,e,mA,⟨od,es,ep,e2,c⟩,r⟩:=x;exact⟨ho _ d,z,ne,k _ _ (.inl rfl) e,mA,⟨od,es,ep,k _ _ (.inr d) e2,c⟩,r⟩
 |own y=>obtain⟨ob,e⟩:=x;exact⟨ob,k _ _ (.inl rfl) e⟩
 |xd fs=>obtain⟨mA,⟨od,es,ep,e,c⟩,r⟩:=x;exact⟨mA,⟨od,es,ep,k _ _ (.inl rfl) e,c⟩,r⟩
 |rng lo hi=>obtain⟨t,u,v,e⟩:=x;exact⟨t,u,v,k _ _ (.inl rfl) e⟩
 |dz ob u ih=>obtain⟨e,q⟩:=x;exact⟨k _ _ (.inl rfl) e,ih q⟩
 |dU ps=>
  have e:h.get? a=some {cls:=.none,data:=.fields ps}:=x;show h'.get? a=some {cls:=.none,data:=.fields ps};exact k a _ (.inl rfl) e
 |met f y=>
  have e:h.get? a=some (PySem.W.methodObj (.ref f) (.ref y)):=x;show h'.get? a=some (PySem.W.methodObj (.ref f) (.ref y));exact k a _ (.inl rfl) e
 |ext φ=>obtain⟨p,⟨o,e⟩,st⟩:=x;exact⟨st _ _ p λo q=>k _ _ (.inl rfl) q,⟨o,k _ _ (.inl rfl) e⟩,st⟩
theorem bU.lt(x:bU P w H h)(e:H a=some o):a<h.objs.size:=(x a o e).lt
theorem bU.fresh(x:bU P w H h)(e:h.objs.size<=a):H a=none:=by
 cases q:H a with
 |none=>rfl
 |some u=>exact absurd (g7 (x.lt q) e) (l0 _)
theorem bU.kept(x:bU P w H h)(k:∀b u,h.get? b=some u->h'.get? b=some u):bU P w H h':=λa o e=>
 (x a o e).rm (λb u _ q=>k b u q) (λ_ q=>q) λ_ _ q=>q
theorem bU.laid(x:bU P w H h)(k:∀b u,h.get? b=some u->h'.get? b=some u)(hp:h.objs.size<=a)(new:fD P w (upd H a o) h' a o):bU P w (upd H a o) h':=λb u e=>by
 have hn:=x.fresh hp;by_cases hb:b=a
 .subst hb;rw[aA]at e;cases e;exact new
 .rw[aJ hb]at e
  exact(x b u e).rm (λc v _ q=>k c v q) (λc q=>by rw[aJ (fN q hn)];exact q) λc xs q=>by rw[aJ (fN q hn)];exact q
end
def Rd(H:Hp)(a:Addr)(u:HO):Prop:=H a=some u\/∃o,H a=some (.dz o u)
theorem Rd.ok{P:Program}{w:World}{H:Hp}{h:Heap}{a:Addr}{u:HO}(r:Rd H a u)(x:bU P w H h):fD P w H h a u:=by
 rcases r with r|⟨o,r⟩
 .exact x a u r
 .obtain⟨_,q⟩:=x a _ r
  exact q
def Mut:Option HO->Prop
 |some (.lst _)=>True
 |some (.dK _)=>True
 |some (.dT _)=>True
 |some (.set _ _)=>True
 |some (.ins _ _ _)=>True
 |some (.ext _)=>True
 |_=>False
section
variable{P:Program}{w:World}{H:Hp}{h h':Heap}{x e:Addr}{o':HO}
theorem bU.write(ok:bU P w H h)(mu:Mut (H x))(he:e=x\/H e=some (.own x))(k:∀b u,b≠e->h.get? b=some u->h'.get? b=some u)(heo:∃u,h'.get? e=some u)
  (new:fD P w (upd H x o') h' x o'):bU P w (upd H x o') h':=λb u q=>by
 have Ly:∀c y,H c=some (.own y)->c≠x:=λc y r z=>by subst z;rw[r]at mu;exact mu
 have Uc:∀c xs,H c=some (.tup xs)->c≠x:=λc xs r z=>by subst z;rw[r]at mu;exact mu
 by_cases hb:b=x
 .subst hb;rw[aA]at q;cases q;exact new
 .rw[aJ hb]at q
  by_cases hbe:b=e
  .have q':H b=some (.own x):=by
    rcases he with z|z
    .exact absurd (hbe.trans z) hb
    .rw[hbe];exact z
   rw[q]at q';cases q';obtain⟨v,hv⟩:=heo;exact⟨v,by rw[hbe];exact hv⟩
  .refine(ok b u q).rm (λc v hc r=>k c v ?_ r) (λc r=>by rw[aJ (Ly c b r)];exact r) λc xs r=>by rw[aJ (Uc c xs r)];exact r
   rcases hc with rfl|hc
   .exact hbe
   .rintro rfl
    rcases he with z|z
    .exact Ly c b hc z
    .rw[hc]at z;cases z;exact hb rfl
end
structure Un(fs ex:List Addr)(H H':Hp)(h h':Heap):Prop where
 keep:∀b o,h.get? b=some o->H b=none->b∉fs->b∉ex->h'.get? b=some o
 slot:∀b o,h.get? b=some o->H b=none->b∈fs->b∉ex->∃sl,h'.get? b=some {o with slots:=sl}
 free:∀b o,h.get? b=some o->H b=none->b∉ex->H' b=none
 there:∀b o,h.get? b=some o->b∉ex->∃o',h'.get? b=some o'
 oJ:∀b xs,H b=some (.tup xs)->H' b=some (.tup xs)
 nE:∀b o u,H b=some (.dz o u)->H' b=some (.dz o u)
 nF:∀b ps,H b=some (.dU ps)->∃more,H' b=some (.dU (ps++more))
section
variable{fs fs' ex ex':List Addr}{H H1 H2:Hp}{h h1 h2 h':Heap}{a x e:Addr}{o:HO}
theorem Un.any(u:Un fs ex H H1 h h1){b:Addr}{ob:Obj}(q:h.get? b=some ob)(n:H b=none)(hx:b∉ex):∃sl,h1.get? b=some {ob with slots:=sl}:=by
 by_cases hb:b∈fs
 .exact u.slot b ob q n hb hx
 .exact⟨ob.slots,u.keep b ob q n hb hx⟩
theorem Un.kept(k:∀b u,h.get? b=some u->h'.get? b=some u):Un fs ex H H h h':=
 ⟨λb ob q _ _ _=>k b ob q,λb ob q _ _ _=>⟨ob.slots,k b ob q⟩,λ_ _ _ n _=>n,λb ob q _=>⟨ob,k b ob q⟩,λ_ _ q=>q,λ_ _ _ q=>q,λ_ ps q=>⟨#[],by rw[q];simp⟩⟩
theorem Un.refl:Un fs ex H H h h:=Un.kept λ_ _ q=>q
theorem Un.laid(k:∀b u,h.get? b=some u->h'.get? b=some u)(hp:h.objs.size<=a)(hn:H a=none):Un fs ex H (upd H a o) h h' where
 keep:=λb u q _ _ _=>k b u q
 slot:=λb u q _ _ _=>⟨u.slots,k b u q⟩
 free:=λb u q n _=>by rw[aJ (fT (g7 (cI q) hp))];exact n
 there:=λb u q _=>⟨u,k b u q⟩
 oJ:=λb xs q=>by rw[aJ (fN q hn)];exact q
 nE:=λb u xs q=>by rw[aJ (fN q hn)];exact q
 nF:=λb ps q=>⟨#[],by rw[aJ (fN q hn),q];simp⟩
theorem Un.write(mu:Mut (H x))(he:e=x\/H e=some (.own x))(k:∀b u,b≠e->h.get? b=some u->h'.get? b=some u)(heo:∃u,h'.get? e=some u):Un fs ex H (upd H x o) h h':=by
 have hx:∀b,H b=none->b≠x:=λb n z=>by subst z;rw[n]at mu;exact mu
 have hb:∀b,H b=none->b≠e:=λb n z=>by
  subst z;rcases he with r|r
  .exact hx b n r
  .rw[n]at r;cases r
 have hm:∀b u,H b=some u->¬Mut (some u)->b≠x:=λb u q nm z=>by subst z;rw[q]at mu;exact nm mu
 refine⟨λb u q n _ _=>k b u (hb b n) q,λb u q n _ _=>⟨u.slots,k b u (hb b n) q⟩,λb u q n _=>by rw[aJ (hx b n)];exact n,λb u q _=>?_,
  λb xs q=>by rw[aJ (hm b _ q λz=>z)];exact q,λb u xs q=>by rw[aJ (hm b _ q λz=>z)];exact q,λb ps q=>⟨#[],by rw[aJ (hm b _ q λz=>z),q];simp⟩⟩
 by_cases hbe:b=e
 .subst hbe;exact heo
 .exact⟨u,k b u hbe q⟩
end
def trk(h:Heap)(H:Hp):List Addr:=(List.range h.objs.size).filter λa=>(H a).isSome
def nG(h:Heap)(H:Hp):Heap:=PySem.W.hideAll h (trk h H)
theorem Ud(h:Heap)(H:Hp):(nG h H).objs.size=h.objs.size:=PySem.W.hideAll_size _ _
theorem Ue{h:Heap}{H:Hp}{b:Addr}{o:Obj}(e:h.get? b=some o)(n:H b=none):(nG h H).get? b=some o:=
 PySem.W.hideAll_get _ e λhm=>by
  have q:(H b).isSome=true:=(iO.mp hm).2;rw[n]at q;simp at q
theorem Ug{h:Heap}{H:Hp}{b:Addr}{o:Obj}(e:(nG h H).get? b=some o):h.get? b=some o/\H b=none:=by
 have e':h.get? b=some o:=PySem.W.of_hideAll (trk h H) e;refine⟨e',?_⟩;cases q:H b with
 |none=>rfl
 |some x=>
  have hm:b∈trk h H:=iO.mpr ⟨lZ.mpr (cI e'),by simp[q]⟩;have z:(nG h H).get? b=none:=PySem.W.hideAll_none (trk h H) hm;rw[z]at e;cases e
structure Mod(K:Frag)(mg:Str->Option Value)(base:Heap):Prop where
 kin:K.In base
 glob:base.Ns mainGlobals mg
 blt:∃mb,base.Ns builtinsNs mb/\∀x:Str,x≠"__name__"->mb x=bootBuiltins x
 nolimit:base.NoLimit
structure Cx where
 prog:Program
 w:World
 K:Frag
 mg:Str->Option Value
 base:Heap
 A:Around
 N:List Str
 fO:Shared
 H_0:Hp
 env:Env
 outer:List Env
 stack:List Env
 ex:List Addr
 fn:Str->Bool
 calm:Bool
 pn:List (Addr×Obj)
 xe:Value->Shared->Prop
def iA(l:List Env):List Addr:=l.filterMap (·.frame)
abbrev Cx.fs(X:Cx):List Addr:=iA X.outer
def Vis(sc:Scope)(x:Str):Prop:=sc.names.lookup x=some .local\/sc.names.lookup x=some .cell\/sc.names.lookup x=some .free
def Loc(sc:Scope)(x:Str):Prop:=sc.names.lookup x=some .local\/sc.names.lookup x=some .cell
def Look(env:Env)(h:Heap)(m:Str->Option Value)(x:Str)(u:Value):Prop:=
 (env.kindOf x=some .local/\m x=some u)\/((env.kindOf x=some .cell\/env.kindOf x=some .free)/\∃c,env.cells.lookup x=some c/\h.IsCell c (some u))
structure Cx.Ok(X:Cx):Prop where
 mod:Mod X.K X.mg X.base
 kind:X.env.scope.kind=.function
 glob:X.env.globals=mainGlobals
 blt:X.env.builtins=builtinsNs
 above:X.fO.heap.objs.size<=X.env.locals
 inj:∀x y c,X.env.cells.lookup x=some c->X.env.cells.lookup y=some c->x=y
 has:∀x,(X.env.kindOf x=some .cell\/X.env.kindOf x=some .free)->∃c,X.env.cells.lookup x=some c
 cab:∀x c,X.fn x=true->X.env.cells.lookup x=some c->X.fO.heap.objs.size<=c
 hd:X.calm=true->X.A.handled=none
 frames:X.A.frames=some X.stack
 stk:X.stack=X.outer\/(X.stack=X.env::X.outer/\X.env.frame=some X.env.locals)
 exf:∀b∈X.ex,b≠X.env.locals/\∀x c,X.env.cells.lookup x=some c->c≠b
 bs:∀b o,X.base.get? b=some o->X.fO.heap.get? b=some o/\X.H_0 b=none
 lu:X.base.objs.size<=X.fO.heap.objs.size
 rq:∀b o,X.base.get? b=some o->b∉X.ex
 qb:∀b∈X.ex,b∉X.fs
 jh:X.fO.heap.FunFrames X.base X.outer
 nH:∀b∈X.fs,X.H_0 b=none
structure Inv(X:Cx)(pins:List (Addr×Obj))(σ:List (Option V))(H:Hp)(s:Shared):Prop where
 ok:X.Ok
 os:s.os=X.fO.os
 bare:AllBare s.gens
 base:Un X.fs X.ex X.H_0 H X.fO.heap s.heap
 loc:∃m,s.heap.Ns X.env.locals m/\∀(i:Nat) (x:Str) (v:V),X.N[i]?=some x->σ[i]?=some (some v)->Vis X.env.scope x->∃u,RelV v u/\Look X.env s.heap m x u
 cell:∀x c,X.env.cells.lookup x=some c->∃v,s.heap.IsCell c v
 free:H X.env.locals=none
 iU:∀x c,X.env.cells.lookup x=some c->H c=none
 pin:∀p∈X.pn++pins,s.heap.get? p.1=some p.2/\H p.1=none/\p.1≠X.env.locals/\p.1∉X.fs/\∀v,p.2.data≠ .cell v
 aB:bU X.prog X.w H s.heap
 len:σ.length=X.N.length
section
variable{X:Cx}{pins:List (Addr×Obj)}{σ:List (Option V)}{H H':Hp}{s:Shared}{h':Heap}
theorem Cx.Ok.Uh(ok:X.Ok){b:Addr}{o:Obj}(e:X.base.get? b=some o):b∉X.fs:=λhb=>by
 have:=(ok.jh.mem hb).1;rw[e]at this;cases this
theorem Inv.bs(I:Inv X pins σ H s):∀b o,X.base.get? b=some o->s.heap.get? b=some o/\H b=none:=λb o e=>
 ⟨I.base.keep b o (I.ok.bs b o e).1 (I.ok.bs b o e).2 (I.ok.Uh e) (I.ok.rq b o e),I.base.free b o (I.ok.bs b o e).1 (I.ok.bs b o e).2 (I.ok.rq b o e)⟩
theorem Inv.bk(I:Inv X pins σ H s):∀b o,X.base.get? b=some o->s.heap.get? b=some o:=λb o e=>(I.bs b o e).1
theorem Inv.mod(I:Inv X pins σ H s):Mod X.K X.mg X.base:=I.ok.mod
theorem Inv.gx(I:Inv X pins σ H s):X.K.In s.heap:=I.ok.mod.kin.keeps I.bk
theorem Inv.lt(I:Inv X pins σ H s):X.env.locals<s.heap.objs.size:=let⟨_,hn,_⟩:=I.loc;hn.lt
theorem Inv.sz(I:Inv X pins σ H s):X.fO.heap.objs.size<=s.heap.objs.size:=aG I.ok.above (zm I.lt)
theorem Inv.Ui(I:Inv X pins σ H s){a:Addr}(h:s.heap.objs.size<=a):a∉X.fs:=λhb=>by
 obtain⟨_,o,ho,_⟩:=I.ok.jh.mem hb;exact absurd (g7 (cI ho) (aG I.sz h)) (l0 _)
theorem Inv.cne(I:Inv X pins σ H s):∀x c,X.env.cells.lookup x=some c->c≠X.env.locals:=λx c e z=>by
 obtain⟨v,o,ho,hd⟩:=I.cell x c e;obtain⟨m,⟨o',es,ep,jD,mq,_⟩,_⟩:=I.loc;rw[z,jD]at ho;cases ho;rw[mq]at hd;cases hd
theorem Inv.jh(I:Inv X pins σ H s):s.heap.FunFrames X.base X.outer:=by
 have all:∀(l:List Env),(∀b∈iA l,b∈X.fs)->X.fO.heap.FunFrames X.base l->s.heap.FunFrames X.base l:=by
  intro l
  induction l with
  |nil=>intro _ _;trivial
  |cons env r ih=>
   intro hs hl;obtain⟨hk,⟨L,o,hf,hn,ho,hd⟩,hr⟩:=hl;have hL:L∈X.fs:=hs L (by unfold iA;rw[r9,hf];exact aZ);obtain⟨sl,e⟩:=I.base.slot L o ho (I.ok.nH L hL) hL λz=>I.ok.qb L z hL;exact⟨hk,⟨L,_,hf,hn,e,hd⟩,ih (λb hb=>hs b (by unfold iA;rw[r9,hf];exact bg _ hb)) hr⟩
 exact all X.outer (λ_ hb=>hb) I.ok.jh
theorem Inv.stack(I:Inv X pins σ H s):s.heap.FunFrames X.base X.stack:=by
 rcases I.ok.stk with e|⟨e,hf⟩
 .rw[e];exact I.jh
 .rw[e]
  obtain⟨m,hn,_⟩:=I.loc;refine .cons (by rw[I.ok.kind];decide) hf hn ?_ I.jh;exact Rw (aG I.ok.lu I.ok.above)
theorem Inv.xm(I:Inv X pins σ H s):∀b∈iA X.stack,b∈X.env.locals::X.fs:=λb hb=>by
 rcases I.ok.stk with e|⟨e,hf⟩
 .rw[e]at hb;exact bg _ hb
 .rw[e]at hb
  unfold iA at hb;rw[r9,hf]at hb;exact hb
theorem Inv.Ac(I:Inv X pins σ H s):∀b∈iA X.stack,H b=none:=λb hb=>by
 rcases bq.mp (I.xm b hb)with e|hb
 .rw[e];exact I.free
 .obtain⟨_,o,ho,_⟩:=I.ok.jh.mem hb
  exact I.base.free b o ho (I.ok.nH b hb) λz=>I.ok.qb b z hb
theorem Inv.step{g':Array GenState}{t':Nat}{d':Drawn}{ch:List Addr}(I:Inv X pins σ H s)
  (ji:∀b∈ch,(b∈X.ex\/X.fO.heap.objs.size<=b)/\b≠X.env.locals/\(∀x c,X.env.cells.lookup x=some c->c≠b)/\∀p∈X.pn++pins,p.1≠b)
  (keep:∀b o,b≠X.env.locals->b∉X.fs->b∉ch->s.heap.get? b=some o->H b=none->h'.get? b=some o)
  (slot:∀b o,b≠X.env.locals->b∈X.fs->b∉ch->s.heap.get? b=some o->H b=none->∃sl,h'.get? b=some {o with slots:=sl})(free:∀b o,b∉ch->s.heap.get? b=some o->H b=none->H' b=none)
  (there:∀b o,b∉ch->s.heap.get? b=some o->∃o',h'.get? b=some o')
  (oJ:∀b xs,H b=some (.tup xs)->H' b=some (.tup xs))(nE:∀b o u,H b=some (.dz o u)->H' b=some (.dz o u))(nF:∀b ps,H b=some (.dU ps)->∃more,H' b=some (.dU (ps++more)))
  (ns:∀m,s.heap.Ns X.env.locals m->h'.Ns X.env.locals m)(aB:bU X.prog X.w H' h')(hg:AllBare g'):
  Inv X pins σ H' {s with heap:=h',gens:=g',drawn:=d',toks:=t'}:=by
 have neL:∀b o,X.fO.heap.get? b=some o->b≠X.env.locals:=λb o e=>fT (g7 (cI e) I.ok.above);have neC:∀b o,X.fO.heap.get? b=some o->b∉X.ex->b∉ch:=λb o e hx hb=>by
  rcases(ji b hb).1 with z|z
  .exact hx z
  .exact absurd (g7 (cI e) z) (l0 _)
 have cellK:∀x c,X.env.cells.lookup x=some c->∀v,s.heap.IsCell c v->h'.IsCell c v:=λx c e v ⟨o,ho,hd⟩=>by
  have nch:c∉ch:=λz=>(ji c z).2.2.1 x c e rfl;by_cases hc:c∈X.fs
  .obtain⟨sl,q⟩:=slot c o (I.cne x c e) hc nch ho (I.iU x c e)
   exact⟨_,q,hd⟩
  .exact⟨o,keep c o (I.cne x c e) hc nch ho (I.iU x c e),hd⟩
 refine⟨I.ok,I.os,hg,⟨λb o e n hb hx=>?_,λb o e n hb hx=>?_,λb o e n hx=>?_,λb o e hx=>?_,λb xs e=>oJ b xs (I.base.oJ b xs e),λb o xs e=>nE b o xs (I.base.nE b o xs e),λb ps e=>?_⟩,?_,λx c e=>?_,?_,λx c e=>?_,λp hp=>?_,aB,I.len⟩
 .exact keep b o (neL b o e) hb (neC b o e hx) (I.base.keep b o e n hb hx) (I.base.free b o e n hx)
 .obtain⟨sl,e1⟩:=I.base.slot b o e n hb hx
  obtain⟨sl',e2⟩:=slot b _ (neL b o e) hb (neC b o e hx) e1 (I.base.free b o e n hx);exact⟨sl',e2⟩
 .obtain⟨o',e1⟩:=I.base.there b o e hx
  exact free b o' (neC b o e hx) e1 (I.base.free b o e n hx)
 .obtain⟨o',e1⟩:=I.base.there b o e hx
  exact there b o' (neC b o e hx) e1
 .obtain⟨m1,e1⟩:=I.base.nF b ps e
  obtain⟨m2,e2⟩:=nF b _ e1;exact⟨m1++m2,by rw[e2,Array.append_assoc]⟩
 .obtain⟨m,hn,hl⟩:=I.loc
  refine⟨m,ns m hn,λi x v e1 e2 e3=>?_⟩;obtain⟨u,r,l⟩:=hl i x v e1 e2 e3;refine⟨u,r,?_⟩;rcases l with l|⟨k,c,e,z⟩
  .exact .inl l
  .exact .inr ⟨k,c,e,cellK x c e _ z⟩
 .obtain⟨v,z⟩:=I.cell x c e
  exact⟨v,cellK x c e v z⟩
 .obtain⟨m,⟨o,_,_,ho,_⟩,_⟩:=I.loc
  exact free _ o (λz=>(ji _ z).2.1 rfl) ho I.free
 .obtain⟨v,o,ho,hd⟩:=I.cell x c e
  exact free c o (λz=>(ji c z).2.2.1 x c e rfl) ho (I.iU x c e)
 .obtain⟨e,n,ne,nf,d⟩:=I.pin p hp
  have nch:p.1∉ch:=λz=>(ji p.1 z).2.2.2 p hp rfl;exact⟨keep p.1 p.2 ne nf nch e n,free p.1 p.2 nch e n,ne,nf,d⟩
theorem Inv.un{t':Nat}(I:Inv X pins σ H s)(u:Un X.fs [] H H' s.heap h')(aB:bU X.prog X.w H' h'):Inv X pins σ H' {s with heap:=h',toks:=t'}:=by
 obtain⟨m,⟨o,es,ep,ho,r⟩,_⟩:=id I.loc;obtain⟨sl,hL⟩:=u.any ho I.free (by simp);exact I.step (g':=s.gens) (d':=s.drawn) (ch:=[]) (λ_ z=>nomatch z) (λb o _ hb _ e n=>u.keep b o e n hb (by simp)) (λb o _ hb _ e n=>u.slot b o e n hb (by simp)) (λb o _ e n=>u.free b o e n (by simp)) (λb o _ e=>u.there b o e (by simp)) u.oJ u.nE u.nF (λm' hm=>by
  obtain⟨o',es',ep',jD,r'⟩:=hm;rw[ho]at jD;cases jD;exact⟨_,es',ep',hL,r'⟩) aB I.bare
theorem Inv.call{g':Array GenState}{t':Nat}{d':Drawn}{ch:List Addr}(I:Inv X pins σ H s)(u:Un (iA X.stack) ch H H' s.heap h')(aB:bU X.prog X.w H' h')(hg:AllBare g')
  (ji:∀b∈ch,(b∈X.ex\/X.fO.heap.objs.size<=b)/\b≠X.env.locals/\(∀x c,X.env.cells.lookup x=some c->c≠b)/\∀p∈X.pn++pins,p.1≠b):
  Inv X pins σ H' {s with heap:=h',gens:=g',drawn:=d',toks:=t'}:=by
 obtain⟨m,⟨o,es,ep,ho,r⟩,_⟩:=id I.loc;obtain⟨sl,hL⟩:=u.any ho I.free λz=>(ji _ z).2.1 rfl;exact I.step (ch:=ch) ji (λb o hL hb hc e n=>u.keep b o e n (λz=>(bq.mp (I.xm b z)).elim hL hb) hc) (λb o _ _ hc e n=>u.any e n hc) (λb o hc e n=>u.free b o e n hc) (λb o hc e=>u.there b o e hc) u.oJ u.nE u.nF (λm' hm=>by
  obtain⟨o',es',ep',jD,r'⟩:=hm;rw[ho]at jD;cases jD;exact⟨_,es',ep',hL,r'⟩) aB hg
theorem Inv.turned{t':Nat}{it:Addr}(I:Inv X pins σ H s)(k:∀b o,b≠it->s.heap.get? b=some o->h'.get? b=some o)(hn:H it=none)(hL:it≠X.env.locals)
  (h1:it∈X.ex\/X.fO.heap.objs.size<=it)(h2:∀x c,X.env.cells.lookup x=some c->c≠it)(h3:∀p∈X.pn++pins,p.1≠it):Inv X pins σ H {s with heap:=h',toks:=t'}:=by
 have nit:∀b u,H b=some u->b≠it:=λb u e z=>by rw[z,hn]at e;cases e
 refine I.step (g':=s.gens) (d':=s.drawn) (ch:=[it]) (λb hb=>?_) (λb o _ _ hc e _=>k b o (λz=>hc (by simp[z])) e) (λb o _ _ hc e _=>⟨o.slots,k b o (λz=>hc (by simp[z])) e⟩) (λ_ _ _ _ n=>n)
  (λb o hc e=>⟨o,k b o (λz=>hc (by simp[z])) e⟩) (λ_ _ e=>e) (λ_ _ _ e=>e) (λb ps e=>⟨#[],by rw[e];simp⟩) (λm hm=>?_) (λb u e=>?_) I.bare
 .have e:b=it:=by simpa using hb
  subst e;exact⟨h1,hL,h2,h3⟩
 .obtain⟨o,es,ep,ho,r⟩:=hm
  exact⟨o,es,ep,k _ o (cS hL) ho,r⟩
 .refine(I.aB b u e).rm (λc v hc q=>k c v ?_ q) (λ_ q=>q) λ_ _ q=>q
  rcases hc with z|z
  .rw[z];exact nit b u e
  .exact nit c _ z
theorem Inv.tok(I:Inv X pins σ H s)(t:Nat):Inv X pins σ H {s with toks:=t}:=I.un (h':=s.heap) (t':=t) Un.refl I.aB
theorem Inv.kept{t':Nat}(I:Inv X pins σ H s)(k:∀b u,s.heap.get? b=some u->h'.get? b=some u):Inv X pins σ H {s with heap:=h',toks:=t'}:=I.un (Un.kept k) (I.aB.kept k)
theorem Inv.laid{a:Addr}{o:HO}{t':Nat}(I:Inv X pins σ H s)(k:∀b u,s.heap.get? b=some u->h'.get? b=some u)(hp:s.heap.objs.size<=a)(new:fD X.prog X.w (upd H a o) h' a o):
  Inv X pins σ (upd H a o) {s with heap:=h',toks:=t'}:=I.un (Un.laid k hp (I.aB.fresh hp)) (I.aB.laid k hp new)
theorem Inv.write{x e:Addr}{o:HO}{t':Nat}(I:Inv X pins σ H s)(mu:Mut (H x))(he:e=x\/H e=some (.own x))(k:∀b u,b≠e->s.heap.get? b=some u->h'.get? b=some u)(heo:∃u,h'.get? e=some u)
  (new:fD X.prog X.w (upd H x o) h' x o):Inv X pins σ (upd H x o) {s with heap:=h',toks:=t'}:=I.un (Un.write mu he k heo) (I.aB.write mu he k heo new)
theorem Inv.weak{σ':List (Option V)}(I:Inv X pins σ H s)(hl:σ'.length=σ.length)(w:∀(i:Nat) v,σ'[i]?=some (some v)->σ[i]?=some (some v)):Inv X pins σ' H s:=
 ⟨I.ok,I.os,I.bare,I.base,let⟨m,hn,kg⟩:=I.loc;⟨m,hn,λi x v e1 e2 e3=>kg i x v e1 (w i v e2) e3⟩,I.cell,I.free,I.iU,I.pin,I.aB,hl.trans I.len⟩
theorem Inv.Lz{xo:List (Addr×Obj)}(I:Inv X pins σ H s)(h:∀p∈xo,s.heap.get? p.1=some p.2/\H p.1=none/\p.1≠X.env.locals/\p.1∉X.fs/\∀v,p.2.data≠ .cell v):Inv X xo σ H s:=
 ⟨I.ok,I.os,I.bare,I.base,I.loc,I.cell,I.free,I.iU,λp hp=>(eZ.mp hp).elim (λz=>I.pin p (qL _ z)) (h p),I.aB,I.len⟩
theorem EA{N:List Str}(hN:N.Nodup){i j:Nat}{x:Str}(a:N[i]?=some x)(b:N[j]?=some x):i=j:=by
 obtain⟨h1,e1⟩:=cU.mp a;obtain⟨h2,e2⟩:=cU.mp b;exact(List.getElem_inj hN).mp (e1.trans e2.symm)
theorem EB{M:Model}{A:Around}{E:Value->Shared->Prop}{i:Nat}{x:Str}{v:V}{u:Value}{Q:Unit->Shared->Prop}(I:Inv X pins σ H s)(hN:X.N.Nodup)(hi:X.N[i]?=some x)(hx:Loc X.env.scope x)(r:RelV v u)
  (h:∀s',Inv X pins (σ.set i (some v)) H s'->(∃a,Heap.SameBut a s.heap s'.heap/\(a=X.env.locals\/X.env.cells.lookup x=some a))->Q () s')(hf:X.fn x=true\/X.env.scope.names.lookup x=some .local:=by first|exact .inl rfl|exact .inr rfl|assumption):wpAny M A (storeName X.env x u) Q E s:=by
 obtain⟨m,hn,hl⟩:=id I.loc;have Uj:(X.env.scope.kind== .class||(X.env.scope.kind== .module&&X.env.locals != X.env.globals))=false:=by rw[I.ok.kind];rfl
 have hiσ:i<σ.length:=by rw[I.len];exact(cU.mp hi).1
 have cne:=I.cne;have tracked:∀{a:Addr} {h':Heap},(∃o,s.heap.get? a=some o/\H a=none)->Heap.SameBut a s.heap h'->bU X.prog X.w H h':=λ{a h'} ha hs b ob e=>by
  obtain⟨_,_,rA⟩:=ha;refine(I.aB b ob e).rm (λc w' hc q=>(hs.2 c ?_).trans q) (λ_ q=>q) λ_ _ q=>q;rintro rfl;rcases hc with rfl|hc
  .rw[rA]at e;cases e
  .rw[rA]at hc;cases hc
 rcases hx with hk|hk
 .refine wpAny_storeName_local hk hn (λh' hn' hs=>?_) Uj
  obtain⟨oL,_,_,hoL,_⟩:=id hn;refine h _ ⟨I.ok,I.os,I.bare,⟨λb o e n hb hx=>?_,λb o e n hb hx=>?_,I.base.free,λb o e hx=>?_,I.base.oJ,I.base.nE,I.base.nF⟩,⟨_,hn',λj y v' e1 e2 e3=>?_⟩,λy c e=>?_,I.free,I.iU,λp hp=>?_,tracked ⟨oL,hoL,I.free⟩ hs,by simpa using I.len⟩ ⟨_,hs,.inl rfl⟩
  .exact(hs.2 b (fT (g7 (cI e) I.ok.above))).trans (I.base.keep b o e n hb hx)
  .obtain⟨sl,e1⟩:=I.base.slot b o e n hb hx
   exact⟨sl,(hs.2 b (fT (g7 (cI e) I.ok.above))).trans e1⟩
  .obtain⟨o',e1⟩:=I.base.there b o e hx
   exact⟨o',(hs.2 b (fT (g7 (cI e) I.ok.above))).trans e1⟩
  .by_cases hj:j=i
   .subst hj
    rw[hi]at e1;cases e1;rw[rY hiσ]at e2;cases e2;exact⟨u,r,.inl ⟨hk,by simp⟩⟩
   .rw[uA (cS hj)]at e2
    obtain⟨u',r',q⟩:=hl j y v' e1 e2 e3;refine⟨u',r',?_⟩;rcases q with⟨k,e⟩|⟨k,c,e,z⟩
    .refine .inl ⟨k,?_⟩
     have:y≠x:=λe=>hj (EA hN e1 (e▸hi));simp[this,e]
    .exact .inr ⟨k,c,e,z.sameBut hs (cne y c e)⟩
  .obtain⟨w',z⟩:=I.cell y c e
   exact⟨w',z.sameBut hs (cne y c e)⟩
  .obtain⟨e,n,ne,nf,d⟩:=I.pin p hp
   exact⟨(hs.2 p.1 ne).trans e,n,ne,nf,d⟩
 .have hfn:X.fn x=true:=by
   rcases hf with z|z
   .exact z
   .rw[z]at hk;cases hk
  obtain⟨c,hc⟩:=I.ok.has x (.inl hk);obtain⟨w',z⟩:=I.cell x c hc;refine wpAny_storeName_cell I.ok.kind hk hc z (λh' mw hs=>?_);obtain⟨oc,hoc,xq⟩:=id z;refine h {s with heap:=h'} ⟨I.ok,I.os,I.bare,⟨λb o e n hb hx=>?_,λb o e n hb hx=>?_,I.base.free,λb o e hx=>?_,I.base.oJ,I.base.nE,I.base.nF⟩,⟨m,hn.sameBut hs (cS (cne x c hc)),λj y v' e1 e2 e3=>?_⟩,λy c' e=>?_,I.free,I.iU,λp hp=>?_,tracked ⟨oc,hoc,I.iU x c hc⟩ hs,by simpa using I.len⟩ ⟨c,hs,.inr hc⟩
  .exact(hs.2 b (fT (g7 (cI e) (I.ok.cab x c hfn hc)))).trans (I.base.keep b o e n hb hx)
  .obtain⟨sl,e1⟩:=I.base.slot b o e n hb hx
   exact⟨sl,(hs.2 b (fT (g7 (cI e) (I.ok.cab x c hfn hc)))).trans e1⟩
  .obtain⟨o',e1⟩:=I.base.there b o e hx
   exact⟨o',(hs.2 b (fT (g7 (cI e) (I.ok.cab x c hfn hc)))).trans e1⟩
  .by_cases hj:j=i
   .subst hj
    rw[hi]at e1;cases e1;rw[rY hiσ]at e2;cases e2;exact⟨u,r,.inr ⟨.inl hk,c,hc,mw⟩⟩
   .rw[uA (cS hj)]at e2
    obtain⟨u',r',q⟩:=hl j y v' e1 e2 e3;refine⟨u',r',?_⟩;rcases q with q|⟨k,c',e,z'⟩
    .exact .inl q
    .refine .inr ⟨k,c',e,z'.sameBut hs ?_⟩
     rintro rfl;exact hj (EA hN e1 (I.ok.inj _ _ _ e hc▸hi))
  .by_cases dY:c'=c
   .subst dY;exact⟨_,mw⟩
   .obtain⟨w2,z2⟩:=I.cell y c' e
    exact⟨w2,z2.sameBut hs dY⟩
  .obtain⟨e,n,ne,nf,d⟩:=I.pin p hp
   refine⟨(hs.2 p.1 ?_).trans e,n,ne,nf,d⟩;intro q;rw[q,hoc]at e;have q':oc=p.2:=Option.some.inj e;exact d w' (by rw[<-q'];exact xq)
theorem EC{M:Model}{A:Around}{E:Value->Shared->Prop}{i:Nat}{x:Str}{v:V}{u:Value}{Q:Unit->Shared->Prop}(I:Inv X pins σ H s)(hN:X.N.Nodup)(hi:X.N[i]?=some x)(hx:Loc X.env.scope x)(r:RelV v u)
  (h:∀s',Inv X pins (σ.set i (some v)) H s'->Q () s')(hf:X.fn x=true\/X.env.scope.names.lookup x=some .local:=by first|exact .inl rfl|exact .inr rfl|assumption):wpAny M A (storeName X.env x u) Q E s:=
 EB I hN hi hx r (λs' I' _=>h s' I') hf
theorem Inv.Ad{s':Shared}{ch:List Addr}(I:Inv X pins σ H s)(ho:s'.os=s.os)(u:Un (iA X.stack) ch H H' s.heap s'.heap)(aB:bU X.prog X.w H' s'.heap)(hg:AllBare s'.gens)
  (ji:∀b∈ch,(b∈X.ex\/X.fO.heap.objs.size<=b)/\b≠X.env.locals/\(∀x c,X.env.cells.lookup x=some c->c≠b)/\∀p∈X.pn++pins,p.1≠b):Inv X pins σ H' s':=by
 obtain⟨h',g',d',t',o'⟩:=s';have e:o'=s.os:=ho;subst e;exact I.call (g':=g') (t':=t') (d':=d') u aB hg ji
end
abbrev XK:=Value->Option Addr->Hp->Prop
abbrev St:=List (Option V)
abbrev VK:=V->Hp->Prop
abbrev TE:=St->Hp->VK->Prop
abbrev TT:=St->Hp->(Bool->Hp->Prop)->Prop
abbrev TA:=St->Hp->(List V->Hp->Prop)->Prop
structure Ends where
 nx:St->Hp->Prop
 rt:VK
 bk:St->Hp->Prop:=λ_ _=>False
 ct:St->Hp->Prop:=λ_ _=>False
abbrev TS:=Ends->St->Hp->Prop
def EP(X:Cx)(pins:List (Addr×Obj))(σ:St)(Q:VK)(u:Value)(s':Shared):Prop:=∃v H',Inv X pins σ H' s'/\RelV v u/\Q v H'
def TP(X:Cx)(pins:List (Addr×Obj))(σ:St)(Q:Bool->Hp->Prop)(b:Bool)(s':Shared):Prop:=∃H',Inv X pins σ H' s'/\Q b H'
def AP(X:Cx)(pins:List (Addr×Obj))(σ:St)(Q:List V->Hp->Prop)(us:List Value)(s':Shared):Prop:=∃vs H',Inv X pins σ H' s'/\Vals vs us/\Q vs H'
def SP(X:Cx)(pins:List (Addr×Obj))(D:Ends)(f:Flow)(s':Shared):Prop:=
 match f with
 | .next=>∃σ' H',Inv X pins σ' H' s'/\D.nx σ' H'
 | .brk=>∃σ' H',Inv X pins σ' H' s'/\D.bk σ' H'
 | .cont=>∃σ' H',Inv X pins σ' H' s'/\D.ct σ' H'
 | .ret u=>∃v σ' H',Inv X pins σ' H' s'/\RelV v u/\D.rt v H'
def PE(X:Cx)(e:Expr)(t:TE):Prop:=
 ∀(pins:List (Addr×Obj)) (s:Shared) (σ:St) (H:Hp) (Q:VK),Inv X pins σ H s->t σ H Q->wpAny (model X.prog X.w) X.A (eval e X.env) (EP X pins σ Q) X.xe s
def PT(X:Cx)(e:Expr)(t:TT):Prop:=
 ∀(pins:List (Addr×Obj)) (s:Shared) (σ:St) (H:Hp) (Q:Bool->Hp->Prop),Inv X pins σ H s->t σ H Q->wpAny (model X.prog X.w) X.A (isTrue e X.env (eval e X.env)) (TP X pins σ Q) X.xe s
def PW(X:Cx)(e:Expr)(t:TT):Prop:=
 ∀(whole:Sem Value) (pins:List (Addr×Obj)) (s:Shared) (σ:St) (H:Hp) (Q:Bool->Hp->Prop),Inv X pins σ H s->t σ H Q->wpAny (model X.prog X.w) X.A (isTrue e X.env whole) (TP X pins σ Q) X.xe s
theorem PW.pt{X:Cx}{e:Expr}{t:TT}(h:PW X e t):PT X e t:=h _
def PA(X:Cx)(es:List Expr)(t:TA):Prop:=
 ∀(pos:Pos) (pins:List (Addr×Obj)) (s:Shared) (σ:St) (H:Hp) (Q:List V->Hp->Prop),Inv X pins σ H s->t σ H Q->wpAny (model X.prog X.w) X.A (spliced (backTo pos (starEach es X.env))) (AP X pins σ Q) X.xe s
def PS(X:Cx)(st:Stmt)(t:TS):Prop:=
 ∀(pins:List (Addr×Obj)) (s:Shared) (σ:St) (H:Hp) (D:Ends),Inv X pins σ H s->t D σ H->wpAny (model X.prog X.w) X.A (exec st X.env) (SP X pins D) X.xe s
def fX(X:Cx)(st:List Stmt)(t:TS):Prop:=
 ∀(pins:List (Addr×Obj)) (s:Shared) (σ:St) (H:Hp) (D:Ends),Inv X pins σ H s->t D σ H->wpAny (model X.prog X.w) X.A (execs st X.env) (SP X pins D) X.xe s
theorem aQ{α:Type}{t:Sem α}{Q Q':α->Shared->Prop}{M:Model}{A:Around}{E:Value->Shared->Prop}{s:Shared}(h:wpAny M A t Q E s)(hQ:∀a s,Q a s->Q' a s):wpAny M A t Q' E s:=g8 h hQ λ_ _ x=>x
section
variable{X:Cx}
def uS(i:Nat):TE:=λσ H Q=>∃v,σ[i]?=some (some v)/\Q v H
def tC(v:V):TE:=λ_ H Q=>Q v H
theorem ED{i:Nat}{x:Str}{pos:Pos}(hN:X.N[i]?=some x)(hv:Vis X.env.scope x)(hd:(x==("__debug__":Str))=false:=by decide)(fY:(x==("__classdict__":Str))=false:=by decide):PE X (.Name x pos) (uS i):=by
 intro pins s σ H Q I h;obtain⟨v,e,h⟩:=h;obtain⟨m,hn,hl⟩:=I.loc;obtain⟨u,r,l⟩:=hl i x v hN e hv;have fin:EP X pins σ Q u s:=⟨v,H,I,r,h⟩;rcases l with⟨hk,hm⟩|⟨hk,c,hc,Ae⟩
 .exact wpAny_Name (wpAny_loadName_local I.ok.kind hk hn hm fin) hd
 .rcases hk with hk|hk
  .exact wpAny_Name (wpAny_loadName_cell I.ok.kind hk hc Ae fin) hd
  .exact wpAny_Name (wpAny_loadName_free I.ok.kind hk hc Ae fin fY) hd
theorem bK{i j pos}:PE X (.Constant (.int i) j pos) (tC (.int i)):=λ_ _ _ H _ I h=>wpAny_Constant_int ⟨.int i,H,I.tok _,⟨_,rfl⟩,h⟩
theorem oK{b j pos}:PE X (.Constant (.bool b) j pos) (tC (.bl b)):=λ_ _ _ H _ I h=>Constant_bool ⟨.bl b,H,I,rfl,h⟩
theorem uT{j pos}:PE X (.Constant .none j pos) (tC .non):=λ_ _ _ H _ I h=>Constant_none ⟨.non,H,I,rfl,h⟩
def Gl(X:Cx)(x:Str):Prop:=X.env.kindOf x=some .globalImplicit
theorem sU{E:Value->Shared->Prop}{pins:List (Addr×Obj)}{s:Shared}{σ:St}{H:Hp}{x:Str}{u:Value}{pos:Pos}{Q:Value->Shared->Prop}(I:Inv X pins σ H s)(hg:Gl X x)(hm:X.mg x=some u)(h:Q u s)
  (hd:(x==("__debug__":Str))=false:=by decide):wpAny (model X.prog X.w) X.A (eval (.Name x pos) X.env) Q E s:=
 Calls.Name_function_global I.ok.kind hg (Calls.loadGlobal_global (by rw[I.ok.glob];exact I.mod.glob.keeps I.bk) hm h) hd
theorem uU{E:Value->Shared->Prop}{pins:List (Addr×Obj)}{s:Shared}{σ:St}{H:Hp}{x:Str}{u:Value}{pos:Pos}{Q:Value->Shared->Prop}(I:Inv X pins σ H s)(hg:Gl X x)(hm:X.mg x=none)(hv:bootBuiltins x=some u)(h:Q u s)
  (hn:x≠"__name__":=by decide)(hd:(x==("__debug__":Str))=false:=by decide):wpAny (model X.prog X.w) X.A (eval (.Name x pos) X.env) Q E s:=by
 obtain⟨mb,h1,h2⟩:=I.mod.blt;exact Calls.Name_function_global I.ok.kind hg (Calls.loadGlobal_builtin (by rw[I.ok.glob];exact I.mod.glob.keeps I.bk) hm (by rw[I.ok.blt];exact h1.keeps I.bk) ((h2 x hn).trans hv) h) hd
theorem LA{x:Str}{v:V}{u:Value}{pos:Pos}(hg:Gl X x)(hm:X.mg x=some u)(r:RelV v u)(hd:(x==("__debug__":Str))=false:=by decide):PE X (.Name x pos) (tC v):=
 λ_ _ _ H _ I h=>sU I hg hm ⟨v,H,I,r,h⟩ hd
variable{a b:Expr}{ta tb:TE}{pos:Pos}
def tB(t:TE):TT:=λσ H Q=>t σ H λx H1=>∃c,x=.bl c/\Q c H1
theorem di{e:Expr}{t:TE}(h:PE X e t)(he:∀whole,isTrue e X.env whole=(do let v <-whole;standAt e.pos;holding [v] (truthy v)):=by intro _;rfl):PT X e (tB t):=by
 intro pins s σ H Q I hw;refine isTrue_plain (aQ (h pins s σ H _ I hw) λv s1 ⟨x,H1,I1,r1,q1⟩=>?_) (he _);obtain⟨d,rfl,q⟩:=q1;cases r1;exact uC ⟨H1,I1,q⟩
variable{tA tB':TT}{rest:List Expr}
def LB(t u:TT):TT:=λσ H Q=>t σ H λc H1=>if c=true then u σ H1 Q else Q false H1
def tOr(t u:TT):TT:=λσ H Q=>t σ H λc H1=>if c=true then Q true H1 else u σ H1 Q
def Uk(t:TT):TT:=λσ H Q=>t σ H λc H1=>Q (!c) H1
theorem Ul(ha:PT X a tA):PW X (.BoolOp .And [a] pos) tA:=by
 intro wh pins s σ H Q I h;refine isTrue_and (aQ (ha pins s σ H Q I h) λc s1 e=>?_);cases c with
 |true=>exact isTrue_and_nil e
 |false=>exact e
theorem Um(ha:PT X a tA):PW X (.BoolOp .Or [a] pos) tA:=by
 intro wh pins s σ H Q I h;refine isTrue_or (aQ (ha pins s σ H Q I h) λc s1 e=>?_);cases c with
 |false=>exact isTrue_or_nil e
 |true=>exact e
theorem Uo(ha:PT X a tA)(hb:PW X (.BoolOp .And (b::rest) pos) tB'):PW X (.BoolOp .And (a::b::rest) pos) (LB tA tB'):=by
 intro wh pins s σ H Q I h;refine isTrue_and (aQ (ha pins s σ H _ I h) λc s1 ⟨H1,I1,q1⟩=>?_);cases c with
 |true=>exact hb wh pins s1 σ H1 Q I1 q1
 |false=>exact⟨H1,I1,q1⟩
theorem Up(ha:PT X a tA)(hb:PW X (.BoolOp .Or (b::rest) pos) tB'):PW X (.BoolOp .Or (a::b::rest) pos) (tOr tA tB'):=by
 intro wh pins s σ H Q I h;refine isTrue_or (aQ (ha pins s σ H _ I h) λc s1 ⟨H1,I1,q1⟩=>?_);cases c with
 |true=>exact⟨H1,I1,q1⟩
 |false=>exact hb wh pins s1 σ H1 Q I1 q1
theorem sV(ha:PT X a tA):PT X (.UnaryOp .Not a pos) (Uk tA):=by
 intro pins s σ H Q I h;exact isTrue_not (ha pins s σ H (λc H1=>Q (!c) H1) I h)
def LC(ta tb:TE):TE:=λσ H Q=>ta σ H λx H1=>∃c,x=.bl c/\if c=true then tb σ H1 Q else Q (.bl false) H1
def LD(ta tb:TE):TE:=λσ H Q=>ta σ H λx H1=>∃c,x=.bl c/\if c=true then Q (.bl true) H1 else tb σ H1 Q
def Uq(ta:TE):TE:=λσ H Q=>ta σ H λx H1=>∃c,x=.bl c/\Q (.bl (!c)) H1
theorem LF{op}{t:TE}(h:PE X a t):PE X (.BoolOp op [a] pos) t:=λpins s σ H Q I hw=>BoolOp_one (h pins s σ H Q I hw)
theorem Ur(ha:PE X a ta)(hb:PE X (.BoolOp .And (b::rest) pos) tb):PE X (.BoolOp .And (a::b::rest) pos) (LC ta tb):=by
 intro pins s σ H Q I h;refine BoolOp_and (aQ (ha pins s σ H _ I h) λv s1 ⟨x,H1,I1,r1,q1⟩=>?_);obtain⟨c,rfl,q1⟩:=q1;cases r1;refine uC ?_;cases c with
 |true=>exact hb pins s1 σ H1 Q I1 q1
 |false=>exact⟨.bl false,H1,I1,rfl,q1⟩
theorem Us(ha:PE X a ta)(hb:PE X (.BoolOp .Or (b::rest) pos) tb):PE X (.BoolOp .Or (a::b::rest) pos) (LD ta tb):=by
 intro pins s σ H Q I h;refine BoolOp_or (aQ (ha pins s σ H _ I h) λv s1 ⟨x,H1,I1,r1,q1⟩=>?_);obtain⟨c,rfl,q1⟩:=q1;cases r1;refine uC ?_;cases c with
 |false=>exact hb pins s1 σ H1 Q I1 q1
 |true=>exact⟨.bl true,H1,I1,rfl,q1⟩
theorem Ut(ha:PE X a ta):PE X (.UnaryOp .Not a pos) (Uq ta):=by
 intro pins s σ H Q I h;refine UnaryOp_ (aQ (ha pins s σ H _ I h) λv s1 ⟨x,H1,I1,r1,q1⟩=>?_);obtain⟨c,rfl,q1⟩:=q1;cases r1;exact not_of (uC ⟨.bl (!c),H1,I1,rfl,q1⟩)
def tIf(t:TT)(ta tb:TE):TE:=λσ H Q=>t σ H λc H1=>if c=true then ta σ H1 Q else tb σ H1 Q
theorem sW{c:Expr}(hc:PT X c tA)(ha:PE X a ta)(hb:PE X b tb):PE X (.IfExp c a b pos) (tIf tA ta tb):=by
 intro pins s σ H Q I h;refine wpAny_IfExp (aQ (hc pins s σ H _ I h) λd s1 ⟨H1,I1,q1⟩=>?_);cases d with
 |true=>exact ha pins s1 σ H1 Q I1 q1
 |false=>exact hb pins s1 σ H1 Q I1 q1
end
def aU(K:Frag)(H:Hp)(a:Addr)(xs:List V):Prop:=
 Rd H a (.lst xs)\/
  ∃(o:Obj) (ah:Array Value) (n:Nat),K.lookup a=some o/\o.cls=.type "list"/\o.dict=none/\o.data=.seq ah n/\ah.size<=sizeLine/\Vals xs ah.toList
def aM(K:Frag)(H:Hp)(a:Addr)(xs:List V):Prop:=
 Rd H a (.tup xs)\/
  ∃(o:Obj) (ah:Array Value) (n:Nat),K.lookup a=some o/\o.cls=.type "tuple"/\o.data=.seq ah n/\ah.size<=sizeLine/\Vals xs ah.toList
def Uu:Value->Option V
 | .none=>some .non
 | .bool b=>some (.bl b)
 | .int i _=>some (.int i)
 | .str x _=>some (.str x)
 | .bytes b _=>some (.iT b)
 | .float b _=>some (.flt b)
 | .ref a=>some (.ref a)
 | .type n=>some (.ty n)
 |_=>none
theorem RelV.abs{x:V}{u:Value}(r:RelV x u):Uu u=some x:=by
 cases x with
 |non=>cases r;rfl
 |bl _=>cases r;rfl
 |int _=>obtain⟨t,rfl⟩:=r;rfl
 |str _=>obtain⟨t,rfl⟩:=r;rfl
 |iT _=>obtain⟨t,rfl⟩:=r;rfl
 |flt _=>obtain⟨t,rfl⟩:=r;rfl
 |ref _=>cases r;rfl
 |ty _=>cases r;rfl
theorem RelV.inj{x y:V}{u:Value}(r:RelV x u)(q:RelV y u):x=y:=Option.some.inj (r.abs.symm.trans q.abs)
theorem Vals.inj:∀{xs ys:List V} {us:List Value},Vals xs us->Vals ys us->xs=ys
 |_,_,_,.nil,.nil=>rfl
 |_,_,_,.cons r t,.cons r' t'=>by rw[r.inj r',Vals.inj t t']
section
variable{X:Cx}{pins:List (Addr×Obj)}{σ:St}{H:Hp}{s:Shared}{a:Addr}{xs ys:List V}
theorem aU.of{K:Frag}(h:H a=some (.lst xs)):aU K H a xs:=.inl (.inl h)
theorem aM.of{K:Frag}(h:H a=some (.tup xs)):aM K H a xs:=.inl (.inl h)
theorem Inv.list(I:Inv X pins σ H s)(h:aU X.K H a xs):∃ah:List Value,Vals xs ah/\PlainL s.heap a ah.toArray/\xs.length<=sizeLine:=by
 rcases h with h|⟨o,ah,n,hk,hc,hd,hs,hz,r⟩
 .obtain⟨z,ah,n,r,e⟩:=h.ok I.aB
  exact⟨ah,r,⟨_,n,e,rfl,rfl,rfl⟩,z⟩
 .refine⟨ah.toList,r,⟨o,n,I.gx a o hk,hc,hd,by simpa using hs⟩,?_⟩
  have e:=r.length;simp only[Rx]at e;omega
theorem Inv.tuple(I:Inv X pins σ H s)(h:aM X.K H a xs):∃ah:List Value,Vals xs ah/\IsTup s.heap a ah.toArray/\xs.length<=sizeLine:=by
 rcases h with h|⟨o,ah,n,hk,hc,hs,hz,r⟩
 .obtain⟨z,ah,r,p⟩:=h.ok I.aB
  exact⟨ah,r,p,z⟩
 .refine⟨ah.toList,r,⟨o,I.gx a o hk,hc,n,by simpa using hs⟩,?_⟩
  have e:=r.length;simp only[Rx]at e;omega
theorem Inv.LG(I:Inv X pins σ H s)(h:aU X.K H a xs)(h':aU X.K H a ys):xs=ys:=by
 obtain⟨ah,r,⟨o,n,e,_,_,d⟩,_⟩:=I.list h;obtain⟨its',r',⟨o',n',e',_,_,d'⟩,_⟩:=I.list h';rw[e]at e';cases e';rw[d]at d';injection d' with d1 _
 have:ah=its':=by simpa using e8 Array.toList d1
 subst this;exact r.inj r'
theorem Inv.EE(I:Inv X pins σ H s)(h:aM X.K H a xs)(h':aM X.K H a ys):xs=ys:=by
 obtain⟨ah,r,⟨o,e,_,n,d⟩,_⟩:=I.tuple h;obtain⟨its',r',⟨o',e',_,n',d'⟩,_⟩:=I.tuple h';rw[e]at e';cases e';rw[d]at d';injection d' with d1 _
 have:ah=its':=by simpa using e8 Array.toList d1
 subst this;exact r.inj r'
end
abbrev Cx.jj(X:Cx)(E:Value->Shared->Prop):Cx:={X with xe:=E}
abbrev Cx.nox(X:Cx):Cx:=X.jj λ_ _=>False
theorem Cx.Ok.jj{X:Cx}(ok:X.Ok)(E:Value->Shared->Prop):(X.jj E).Ok:=
 ⟨ok.mod,ok.kind,ok.glob,ok.blt,ok.above,ok.inj,ok.has,ok.cab,ok.hd,ok.frames,ok.stk,ok.exf,ok.bs,ok.lu,ok.rq,ok.qb,ok.jh,ok.nH⟩
theorem Cx.Ok.ly{X:Cx}{E:Value->Shared->Prop}(ok:(X.jj E).Ok):X.Ok:=
 ⟨ok.mod,ok.kind,ok.glob,ok.blt,ok.above,ok.inj,ok.has,ok.cab,ok.hd,ok.frames,ok.stk,ok.exf,ok.bs,ok.lu,ok.rq,ok.qb,ok.jh,ok.nH⟩
section
variable{X:Cx}{pins:List (Addr×Obj)}{σ:St}{H:Hp}{s:Shared}{E:Value->Shared->Prop}
theorem Inv.jj(I:Inv X pins σ H s)(E:Value->Shared->Prop):Inv (X.jj E) pins σ H s:=⟨I.ok.jj E,I.os,I.bare,I.base,I.loc,I.cell,I.free,I.iU,I.pin,I.aB,I.len⟩
theorem Inv.ly(I:Inv (X.jj E) pins σ H s):Inv X pins σ H s:=⟨I.ok.ly,I.os,I.bare,I.base,I.loc,I.cell,I.free,I.iU,I.pin,I.aB,I.len⟩
theorem SP.ly{D:Ends}{f:Flow}{s':Shared}(h:SP (X.jj E) pins D f s'):SP X pins D f s':=by
 cases f with
 |next=>obtain⟨σ',H',I,q⟩:=h;exact⟨σ',H',I.ly,q⟩
 |brk=>obtain⟨σ',H',I,q⟩:=h;exact⟨σ',H',I.ly,q⟩
 |cont=>obtain⟨σ',H',I,q⟩:=h;exact⟨σ',H',I.ly,q⟩
 |ret u=>obtain⟨v,σ',H',I,r,q⟩:=h;exact⟨v,σ',H',I.ly,r,q⟩
theorem fX.nox{st:List Stmt}{t:TS}(h:fX X.nox st t):fX X st t:=λpins s σ H D I hw=>
 g8 (h pins s σ H D (I.jj _) hw) (λ_ _ q=>q.ly) λ_ _ z=>False.elim z
end
section
variable{X:Cx}{st:Stmt}{rest:List Stmt}{t u:TS}{e:Expr}{te:TE}{pos:Pos}
def Uv:TS:=λD σ H=>D.nx σ H
def Uw(t u:TS):TS:=λD σ H=>t {D with nx:=u D} σ H
theorem cP:fX X [] Uv:=λ_ _ σ H _ I h=>C6 ⟨σ,H,I,h⟩
theorem aq(h1:PS X st t)(h2:fX X rest u):fX X (st::rest) (Uw t u):=by
 intro pins s σ H D I h;refine wpAny_execs_cons (aQ (h1 pins s σ H {D with nx:=u D} I h) λf s1 q=>?_);cases f with
 |next=>
  obtain⟨σ',H',I',q⟩:=q;exact h2 pins s1 σ' H' D I' q
 |ret v=>exact q
 |brk=>exact q
 |cont=>exact q
theorem az(h1:PS X st t):fX X [st] t:=by
 intro pins s σ H D I h;refine wpAny_execs_cons (aQ (h1 pins s σ H D I h) λf s1 q=>?_);cases f with
 |next=>exact C6 q
 |ret v=>exact q
 |brk=>exact q
 |cont=>exact q
def Ux:TS:=λD σ H=>D.bk σ H
theorem Uy:PS X (.Break pos) Ux:=λ_ _ σ H _ I h=>wpAny_Break ⟨σ,H,I,h⟩
theorem Inv.quiet{pins:List (Addr×Obj)}{σ:St}{H:Hp}{s:Shared}(I:Inv X pins σ H s):interactive X.env=false:=by simp[interactive,I.ok.kind]
def Uz(te:TE):TS:=λD σ H=>te σ H λ_ H1=>D.nx σ H1
theorem gi(he:PE X e te)(hs:swapsWith e none pos.line X.env=pure false:=by rfl):PS X (.Expr e pos) (Uz te):=by
 intro pins s σ H D I h;exact wpAny_Expr_any (aQ (he pins s σ H _ I h) λv s1 ⟨x,H1,I1,r1,q1⟩=>⟨σ,H1,I1,q1⟩) I.quiet hs
def UA(te:TE):TS:=λD σ H=>te σ H D.rt
theorem aH(he:PE X e te):PS X (.Return (some e) pos) (UA te):=by
 intro pins s σ H D I h;exact wpAny_Return_some (aQ (he pins s σ H _ I h) λv s1 ⟨x,H1,I1,r1,q1⟩=>⟨x,σ,H1,I1,r1,q1⟩)
def UB(c:TT)(t u:TS):TS:=λD σ H=>c σ H λb H1=>if b=true then t D σ H1 else u D σ H1
theorem cN{c:Expr}{a b:List Stmt}{tc:TT}(hc:PT X c tc)(ha:fX X a t)(hb:fX X b u):PS X (.If c a b pos) (UB tc t u):=by
 intro pins s σ H D I h;refine wpAny_If (aQ (hc pins s σ H _ I h) λd s1 ⟨H1,I1,q1⟩=>?_);cases d with
 |true=>exact ha pins s1 σ H1 D I1 q1
 |false=>exact hb pins s1 σ H1 D I1 q1
def UC:TS:=λ_ _ _=>False
theorem xr{sts:List Stmt}:fX X sts UC:=λ_ _ _ _ _ _ h=>h.elim
end
abbrev TG:=V->St->Hp->(St->Hp->Prop)->Prop
abbrev TGs:=List V->St->Hp->(St->Hp->Prop)->Prop
def PG(X:Cx)(target:Expr)(t:TG):Prop:=
 ∀(pins:List (Addr×Obj)) (s:Shared) (σ:St) (H:Hp) (v:V) (u:Value) (Q:St->Hp->Prop),Inv X pins σ H s->RelV v u->t v σ H Q->
  wpAny (model X.prog X.w) X.A (assign target X.env u) (λ_ s'=>∃σ' H',Inv X pins σ' H' s'/\Q σ' H') X.xe s
def PGs(X:Cx)(ts:List Expr)(t:TGs):Prop:=
 ∀(pins:List (Addr×Obj)) (s:Shared) (σ:St) (H:Hp) (vs:List V) (us:List Value) (Q:St->Hp->Prop),Inv X pins σ H s->Vals vs us->t vs σ H Q->
  wpAny (model X.prog X.w) X.A (assignInOrder ((assignEach ts X.env).map (·.2)) us) (λ_ s'=>∃σ' H',Inv X pins σ' H' s'/\Q σ' H') X.xe s
abbrev EF:=V->V->V->Hp->(Hp->Prop)->Prop
def EG(X:Cx)(t:EF):Prop:=
 ∀(pins:List (Addr×Obj)) (s:Shared) (σ:St) (H:Hp) (o i v:V) (ov iv u:Value) (Q:Hp->Prop),Inv X pins σ H s->RelV o ov->RelV i iv->RelV v u->t o i v H Q->
  wpAny (model X.prog X.w) X.A (setItem ov iv u) (λ_ s'=>∃H',Inv X pins σ H' s'/\Q H') X.xe s
abbrev TIp:=V->V->Hp->VK->Prop
def PIp(X:Cx)(op:Operator)(t:TIp):Prop:=
 ∀(pins:List (Addr×Obj)) (s:Shared) (σ:St) (H:Hp) (x y:V) (v u:Value) (Q:VK),Inv X pins σ H s->RelV x v->RelV y u->t x y H Q->
  wpAny (model X.prog X.w) X.A (inplaceOp op v u) (EP X pins σ Q) X.xe s
section
variable{X:Cx}{pos:Pos}
def lz(i:Nat):TG:=λv σ H Q=>Q (σ.set i (some v)) H
theorem bh{i:Nat}{x:Str}(hN:X.N.Nodup)(hi:X.N[i]?=some x)(hx:Loc X.env.scope x)(hf:X.fn x=true\/X.env.scope.names.lookup x=some .local:=by first|exact .inl rfl|exact .inr rfl|assumption):PG X (.Name x pos) (lz i):=by
 intro pins s σ H v u Q I r h;exact Ry (EC I hN hi hx r (λs' I'=>⟨_,H,I',h⟩) hf)
def EH:TGs:=λvs σ H Q=>vs=[]/\Q σ H
def xu(t:TG)(u:TGs):TGs:=λvs σ H Q=>∃v r,vs=v::r/\t v σ H λσ' H'=>u r σ' H' Q
theorem oM:PGs X [] EH:=by
 intro pins s σ H vs us Q I r h;obtain⟨e,h⟩:=h;subst e;cases r;exact assignInOrder_nil ⟨σ,H,I,h⟩
theorem gz{e:Expr}{es:List Expr}{t:TG}{u:TGs}(h1:PG X e t)(h2:PGs X es u)
  (hs:(assignEach (e::es) X.env).map (·.2)=assign e X.env::(assignEach es X.env).map (·.2):=by rfl):PGs X (e::es) (xu t u):=by
 intro pins s σ H vs us Q I r h;obtain⟨v,vr,e1,h⟩:=h;subst e1;cases r with
 |cons r rr=>
  rw[hs];refine assignInOrder_cons (aQ (h1 pins s σ H _ _ _ I r h) λ_ s1 ⟨σ1,H1,I1,q1⟩=>?_);exact h2 pins s1 σ1 H1 _ _ Q I1 rr q1
def Af(K:Frag)(n:Nat)(t:TGs):TG:=λv σ H Q=>∃a xs,v=.ref a/\aM K H a xs/\xs.length=n/\t xs σ H Q
theorem oN{es:List Expr}{k:Nat}{t:TGs}{n:Nat}(hc:X.calm=true)(h:PGs X es t)
  (hn:(assignEach es X.env).length=n:=by rfl)(dj:(assignEach es X.env).findIdx? (·.1)=none:=by rfl):PG X (.Tuple es k pos) (Af X.K n t):=by
 intro pins s σ H v u Q I r hw;obtain⟨a,xs,e1,hq,hl,hw⟩:=hw;subst e1;cases r;obtain⟨ah,rv,ht,hz⟩:=I.tuple hq;refine assign_Tuple_tuple (I.ok.hd hc) ht (by simp[hn,<-hl,rv.length]) dj λh' hx=>?_;have I1:Inv X pins σ H {s with heap:=h'}:=I.kept (t':=s.toks) λb o e=>hx b o (fT (cI e)) e;exact h pins _ σ H xs _ Q I1 (by simpa using rv) hw
def UD(to ti:TE)(t:EF):TG:=λv σ H Q=>to σ H λo H1=>ti σ H1 λi H2=>t o i v H2 λH3=>Q σ H3
theorem EI{o i:Expr}{to ti:TE}{t:EF}(ho:PE X o to)(hi:PE X i ti)(hs:EG X t)
  (ha:∀v,assign (.Subscript o i pos) X.env v=(do
   let ov <-holding [v] (eval o X.env)
   let iv <-holding [v,ov] (eval i X.env)
   standAt pos
   holding [v,ov,iv] (setItem ov iv v)
   release [v,ov,iv] []):=by intro _;rfl):PG X (.Subscript o i pos) (UD to ti t):=by
 intro pins s σ H v u Q I r h;rw[ha];refine ao (zo (aQ (ho pins s σ H _ I h) λov s1 ⟨x,H1,I1,r1,q1⟩=>?_));refine ao (zo (aQ (hi pins s1 σ H1 _ I1 q1) λiv s2 ⟨y,H2,I2,r2,q2⟩=>?_));refine ao (JE (ao (zo (aQ (hs pins s2 σ H2 x y v ov iv u _ I2 r1 r2 r q2) λ_ s3 ⟨H3,I3,q3⟩=>?_))));exact wpAny_release ⟨σ,H3,I3,q3⟩
def Ag(te:TE)(g:TG):TS:=λD σ H=>te σ H λx H1=>g x σ H1 D.nx
theorem EJ{tg e:Expr}{te:TE}{g:TG}(he:PE X e te)(hg:PG X tg g)(hs:swapsWithSole [tg] e pos.line X.env=pure false:=by rfl)(hw:swappedStores [tg] e X.env=pure none:=by rfl)
  (h1:(assignEach [tg] X.env).map (·.2)=[assign tg X.env]:=by rfl):PS X (.Assign [tg] e pos) (Ag te g):=by
 intro pins s σ H D I h;refine wpAny_Assign_stores (aQ (he pins s σ H _ I h) λv s1 ⟨x,H1,I1,r1,q1⟩=>?_) hs hw;rw[h1];exact aQ (hg pins s1 σ H1 x v _ I1 r1 q1) λ_ s2 q=>q
theorem aN{i:Nat}{x:Str}{e:Expr}{te:TE}{pos':Pos}(hN:X.N.Nodup)(hi:X.N[i]?=some x)(hx:Loc X.env.scope x)(he:PE X e te)(hs:swapsWith e (some (.Name x pos')) pos.line X.env=pure false:=by rfl)(hf:X.fn x=true\/X.env.scope.names.lookup x=some .local:=by first|exact .inl rfl|exact .inr rfl|assumption):
  PS X (.Assign [.Name x pos'] e pos) (Ag te (lz i)):=by
 intro pins s σ H D I h;refine wpAny_Assign_Name (aQ (he pins s σ H _ I h) λv s1 ⟨y,H1,I1,r1,q1⟩=>?_) hs;exact EC I1 hN hi hx r1 (λs2 I2=>⟨_,H1,I2,q1⟩) hf
def UE(i:Nat)(te:TE)(ti:TIp):TS:=λD σ H=>∃x,σ[i]?=some (some x)/\te σ H λy H1=>ti x y H1 λz H2=>D.nx (σ.set i (some z)) H2
theorem xw{i:Nat}{x:Str}{e:Expr}{te:TE}{op:Operator}{ti:TIp}{pos':Pos}(hN:X.N.Nodup)(hi:X.N[i]?=some x)(hx:Loc X.env.scope x)(he:PE X e te)(ho:PIp X op ti)(hf:X.fn x=true\/X.env.scope.names.lookup x=some .local:=by first|exact .inl rfl|exact .inr rfl|assumption):
  PS X (.AugAssign (.Name x pos') op e pos) (UE i te ti):=by
 intro pins s σ H D I h;obtain⟨v,e1,h⟩:=h;obtain⟨m,hn,hl⟩:=I.loc;have vis:Vis X.env.scope x:=by rcases hx with k|k;exact .inl k;exact .inr (.inl k)
 obtain⟨u,r,l⟩:=hl i x v hi e1 vis;refine wpAny_AugAssign_Name ?_;have go:wpAny (model X.prog X.w) X.A (eval e X.env) (λw s₂=>wpAny (model X.prog X.w) X.A (inplaceOp op u w) (λr s₃=>wpAny (model X.prog X.w) X.A (storeName X.env x r) (λ_=>SP X pins D .next) X.xe s₃) X.xe s₂) X.xe s:=by
  refine aQ (he pins s σ H _ I h) λw s1 ⟨y,H1,I1,r1,q1⟩=>?_;refine aQ (ho pins s1 σ H1 v y u w _ I1 r r1 q1) λz s2 ⟨zv,H2,I2,r2,q2⟩=>?_;exact EC I2 hN hi hx r2 (λs3 I3=>⟨_,H2,I3,q2⟩) hf
 rcases l with⟨hk,hm⟩|⟨hk,c,hc,Ae⟩
 .exact wpAny_loadName_local I.ok.kind hk hn hm go
 .rcases hk with hk|hk
  .exact wpAny_loadName_cell I.ok.kind hk hc Ae go
  .rcases hx with k|k
   .have:X.env.scope.names.lookup x=some .free:=hk
    rw[k]at this;cases this
   .have:X.env.scope.names.lookup x=some .free:=hk
    rw[k]at this;cases this
def ipI(f:Int->Int->Int):TIp:=λx y H Q=>∃i j,x=.int i/\y=.int j/\Q (.int (f i j)) H
theorem Ah:PIp X .Add (ipI λi j=>i+j):=by
 intro pins s σ H x y v u Q I r1 r2 h;obtain⟨i,j,e1,e2,q⟩:=h;subst e1;subst e2;obtain⟨t,rfl⟩:=r1;obtain⟨t',rfl⟩:=r2;exact iadd_int ⟨.int _,H,I.tok _,⟨_,rfl⟩,q⟩
@[irreducible] def Ai(c:TT)(tb:TS):TS:=λD σ H=>∃W:Nat->St->Hp->Prop,(∃m,W m σ H)/\∀m σ H,W m σ H->
 c σ H λb H1=>if b=true then∃N:St->Hp->Prop,(∀σ' H',N σ' H'->∃m',m'<m/\W m' σ' H')/\tb {D with nx:=N,ct:=N,bk:=D.nx} σ H1 else D.nx σ H1
theorem EK{c:Expr}{body:List Stmt}{tc:TT}{tb:TS}(hp:PassesOwn (model X.prog X.w) X.A X.env X.xe)(hc:PT X c tc)(hb:fX X body tb):PS X (.While c body [] pos) (Ai tc tb):=by
 unfold Ai;intro pins s σ H D I h;obtain⟨W,⟨m0,w0⟩,turn⟩:=h;refine wpAny_While (codeAny_whileLoop (λn s'=>∃σ' H',Inv X pins σ' H' s'/\W n σ' H') ?_ m0 ⟨σ,H,I,w0⟩);rintro n s1 ⟨σ1,H1,I1,w1⟩;refine wj hp (aQ (hc pins s1 σ1 H1 _ I1 (turn n σ1 H1 w1)) λb s2 ⟨H2,I2,q2⟩=>?_);cases b with
 |true=>
  obtain⟨N,hN,q2⟩:=q2;rw[aj rfl];refine wj hp (aQ (hb pins s2 σ1 H2 _ I2 q2) λf s3 q3=>?_);cases f with
  |next=>
   obtain⟨σ3,H3,I3,n3⟩:=q3;obtain⟨m',hm,w3⟩:=hN σ3 H3 n3;exact⟨m',hm,σ3,H3,I3,w3⟩
  |cont=>
   obtain⟨σ3,H3,I3,n3⟩:=q3;obtain⟨m',hm,w3⟩:=hN σ3 H3 n3;exact⟨m',hm,σ3,H3,I3,w3⟩
  |brk=>exact q3
  |ret v=>exact q3
 |false=>
  rw[ai dP];exact C6 ⟨σ1,H2,I2,q2⟩
end
structure It where
 go:Nat->Hp->Prop
 nI:Nat->Hp->V->Hp->Prop
 stop:Nat->Hp->Prop
def kj(X:Cx)(pins:List (Addr×Obj))(H:Hp)(b:Addr):Prop:=
 H b=none/\b≠X.env.locals/\b∉X.fs/\(b∈X.ex\/X.fO.heap.objs.size<=b)/\(∀x c,X.env.cells.lookup x=some c->c≠b)/\∀p∈X.pn++pins,p.1≠b
theorem Inv.qc{X:Cx}{pins:List (Addr×Obj)}{σ:St}{H H':Hp}{s:Shared}{b:Addr}(I:Inv X pins σ H s)(hb:s.heap.objs.size<=b)(hn:H' b=none):kj X pins H' b:=by
 refine⟨hn,uB (g7 I.lt hb),I.Ui hb,.inr (aG I.sz hb),λx c e z=>?_,λp hp z=>?_⟩
 .obtain⟨v,q⟩:=I.cell x c e
  exact absurd (g7 q.lt (by rw[z];exact hb)) (l0 _)
 .exact absurd (g7 (cI (I.pin p hp).1) (by rw[z];exact hb)) (l0 _)
structure Turn(P:Program)(w:World)(K:Frag)(tg:Expr)(J:It)(fp:List Addr)(it:Addr)(tn:Nat->Heap->Prop):Prop where
 mem:it∈fp
 obj:∀i h,tn i h->∀b∈fp,∃o,h.get? b=some o/\∀v,o.data≠ .cell v
 keep:∀i h h',tn i h->(∀b∈fp,∀o,h.get? b=some o->h'.get? b=some o)->tn i h'
 item:∀(X:Cx),X.prog=P->X.w=w->X.K=K->X.calm=true->∀(i:Nat) (pins:List (Addr×Obj)) (s:Shared) (σ:St) (H:Hp) (E:Value->Shared->Prop),Inv X pins σ H s->(∀b∈fp,kj X pins H b)->tn i s.heap->J.go i H->
  wpAny (model P w) X.A (pyNext (.ref it)) (λr s1=>∃u,r=some u/\
   wpAny (model P w) X.A (letOwnedTupleGo tg (.ref it) u) (λ_ s2=>∃x H',Inv X pins σ H' s2/\RelV x u/\J.nI i H x H'/\tn (i+1) s2.heap/\∀b∈fp,H' b=none) E s1) E s
 done:∀(X:Cx),X.prog=P->X.w=w->X.K=K->X.calm=true->∀(i:Nat) (pins:List (Addr×Obj)) (s:Shared) (σ:St) (H:Hp) (E:Value->Shared->Prop),Inv X pins σ H s->(∀b∈fp,kj X pins H b)->tn i s.heap->J.stop i H->
  wpAny (model P w) X.A (pyNext (.ref it)) (λr s1=>r=none/\Inv X pins σ H s1) E s
 self:∀(A:Around) (i:Nat) (s:Shared) (Q:Value->Shared->Prop) (E:Value->Shared->Prop),tn i s.heap->Q (.ref it) s->wpAny (model P w) A (pyIter (.ref it)) Q E s
abbrev TI:=St->Hp->(It->Hp->Prop)->Prop
def PIE(X:Cx)(pins:List (Addr×Obj))(σ:St)(tg:Expr)(R:It->Hp->Prop)(itv:Value)(s2:Shared):Prop:=
 ∃(it:Addr) (fp:List Addr) (tn:Nat->Heap->Prop) (J:It) (H':Hp),itv=.ref it/\Inv X pins σ H' s2/\Turn X.prog X.w X.K tg J fp it tn/\tn 0 s2.heap/\(∀b∈fp,kj X pins H' b)/\R J H'
def PI(X:Cx)(tg iter:Expr)(wi:TI):Prop:=
 ∀(pins:List (Addr×Obj)) (s:Shared) (σ:St) (H:Hp) (R:It->Hp->Prop),Inv X pins σ H s->wi σ H R->
  wpAny (model X.prog X.w) X.A (eval iter X.env) (λv s1=>wpAny (model X.prog X.w) X.A (pyIter v) (PIE X pins σ tg R) X.xe s1) X.xe s
theorem Aj{M:Model}{A:Around}{E:Value->Shared->Prop}{s:Shared}{tg:Expr}{it:Addr}{u:Value}{o:Obj}{n:String}{vs:Array Value}{Q:Unit->Shared->Prop}(ho:s.heap.get? it=some o)(hc:o.cls=.type n)(hd:o.data=.fields vs)
  (hn:["enumerate","zip","dict_itemiterator","dict_reverseitemiterator","odict_iterator","itertools.zip_longest","itertools.pairwise"].contains n=false)(hQ:Q () s):wpAny M A (letOwnedTupleGo tg (.ref it) u) Q E s:=by
 unfold letOwnedTupleGo;cases tg<;>first
  |exact bu hQ
  |(cases u<;>first
    |exact bu hQ
    |(refine ao (wpAny_load ho ?_)
      rw[hc,hd];show wpAny M A (if(["enumerate","zip","dict_itemiterator","dict_reverseitemiterator","odict_iterator","itertools.zip_longest","itertools.pairwise"].contains n&&vs[0]? ==some (rawInt _))=true then _ else _) Q E s;rw[ai (by intro h;rw[hn,JF]at h;cases h)];exact bu hQ))
def Itl(K:Frag)(a:Addr):It:=
 ⟨λi H=>∃xs x,aU K H a xs/\xs[i]?=some x,λi H x H'=>H'=H/\∀xs,aU K H a xs->xs[i]?=some x,λi H=>∃xs,aU K H a xs/\xs.length<=i⟩
def Itt(K:Frag)(a:Addr):It:=
 ⟨λi H=>∃xs x,aM K H a xs/\xs[i]?=some x,λi H x H'=>H'=H/\∀xs,aM K H a xs->xs[i]?=some x,λi H=>∃xs,aM K H a xs/\xs.length<=i⟩
def mz(lo:Int)(n:Nat):It:=⟨λi _=>i<n,λi H x H'=>H'=H/\x=.int (lo+i),λi _=>n<=i⟩
theorem UG{P:Program}{w:World}{K:Frag}{tg:Expr}(a it:Addr):Turn P w K tg (Itl K a) [it] it (λi h=>h.IsListIter it a i) where
 mem:=by simp
 obj:=λi h st b hb=>by
  have e:b=it:=by simpa using hb
  subst e;obtain⟨o,e,c,d⟩:=st;exact⟨o,e,λv z=>by rw[d]at z;cases z⟩
 keep:=λi h h' st k=>st.at λo e=>k it (by simp) o e
 item:=by
  intro X hP hw hK hc i pins s σ H E I hf st hg;subst hP hw hK;obtain⟨xs,x,hq,hx⟩:=hg;obtain⟨ah,rv,p,hz⟩:=I.list hq;obtain⟨u,hu,ru⟩:=rv.get hx;obtain⟨f0,f1,f2,f3,f4,f5⟩:=hf it (by simp);refine wpAny_pyNext_list_item st p.isList (x:=u) (by simpa using hu) λh' ko sb=>?_;have I1:Inv X pins σ H {s with heap:=h'}:=I.turned (t':=s.toks) (λb o hb e=>(sb.2 b hb).trans e) f0 f1 f3 f4 f5;obtain⟨o,e,c,d⟩:=id ko;exact⟨u,rfl,Aj (s:={s with heap:=h'}) e c d (by decide) ⟨x,H,I1,ru,⟨rfl,λys hy=>by rw[I.LG hy hq];exact hx⟩,ko,λb hb=>(hf b hb).1⟩⟩
 done:=by
  intro X hP hw hK hc i pins s σ H E I hf st hg;subst hP hw hK;obtain⟨xs,hq,hx⟩:=hg;obtain⟨ah,rv,p,hz⟩:=I.list hq;obtain⟨f0,f1,f2,f3,f4,f5⟩:=hf it (by simp);have hl:=rv.length;exact wpAny_pyNext_list_end (I.ok.hd hc) st p.isList (by simp;omega) λh' eb=>⟨rfl,I.turned (t':=s.toks) (λb o hb e=>eb b o hb e) f0 f1 f3 f4 f5⟩
 self:=λ_ _ _ _ _ st h=>wpAny_pyIter_listiter st h
theorem UH{P:Program}{w:World}{K:Frag}{tg:Expr}(a it:Addr):Turn P w K tg (Itt K a) [it] it (λi h=>h.IsTupleIter it a i) where
 mem:=by simp
 obj:=λi h st b hb=>by
  have e:b=it:=by simpa using hb
  subst e;obtain⟨o,e,c,d⟩:=st;exact⟨o,e,λv z=>by rw[d]at z;cases z⟩
 keep:=λi h h' st k=>st.at λo e=>k it (by simp) o e
 item:=by
  intro X hP hw hK hc i pins s σ H E I hf st hg;subst hP hw hK;obtain⟨xs,x,hq,hx⟩:=hg;obtain⟨ah,rv,p,hz⟩:=I.tuple hq;obtain⟨u,hu,ru⟩:=rv.get hx;obtain⟨f0,f1,f2,f3,f4,f5⟩:=hf it (by simp);refine wpAny_pyNext_tuple_item st (show s.heap.IsTuple a ah.toArray from p) (x:=u) (by simpa using hu) λh' ko sb=>?_;have I1:Inv X pins σ H {s with heap:=h'}:=I.turned (t':=s.toks) (λb o hb e=>(sb.2 b hb).trans e) f0 f1 f3 f4 f5;obtain⟨o,e,c,d⟩:=id ko;exact⟨u,rfl,Aj (s:={s with heap:=h'}) e c d (by decide) ⟨x,H,I1,ru,⟨rfl,λys hy=>by rw[I.EE hy hq];exact hx⟩,ko,λb hb=>(hf b hb).1⟩⟩
 done:=by
  intro X hP hw hK hc i pins s σ H E I hf st hg;subst hP hw hK;obtain⟨xs,hq,hx⟩:=hg;obtain⟨ah,rv,p,hz⟩:=I.tuple hq;obtain⟨f0,f1,f2,f3,f4,f5⟩:=hf it (by simp);have hl:=rv.length;exact wpAny_pyNext_tuple_end (I.ok.hd hc) st (show s.heap.IsTuple a ah.toArray from p) (by simp;omega) λh' eb=>⟨rfl,I.turned (t':=s.toks) (λb o hb e=>eb b o hb e) f0 f1 f3 f4 f5⟩
 self:=λ_ _ _ _ _ st h=>wpAny_pyIter_tupleiter st h
theorem UI{P:Program}{w:World}{K:Frag}{tg:Expr}(it:Addr)(lo:Int)(n:Nat):Turn P w K tg (mz lo n) [it] it (λi h=>IsRangeIter h it (lo+(i:Nat)*1) ((n:Int)-(i:Nat)) 1) where
 mem:=by simp
 obj:=λi h st b hb=>by
  have e:b=it:=by simpa using hb
  subst e;exact⟨_,st,λv z=>by
   have z':Data.fields _=Data.cell v:=z;cases z'⟩
 keep:=λi h h' st k=>k it (by simp) _ st
 item:=by
  intro X hP hw hK hc i pins s σ H E I hf st hg;subst hP hw hK;obtain⟨f0,f1,f2,f3,f4,f5⟩:=hf it (by simp);have W:=Walks.range (prog:=X.prog) (w:=X.w) (I.ok.hd hc) it lo 1 n;refine W.item i s _ _ hg st λv h' tk hv ko kk=>?_;obtain⟨t,rfl⟩:=hv;have I1:Inv X pins σ H {s with heap:=h',toks:=tk}:=I.turned (λb o hb e=>kk b o (by simpa using hb) e) f0 f1 f3 f4 f5;refine⟨_,rfl,Aj (s:={s with heap:=h',toks:=tk}) (n:="range_iterator") ko rfl rfl (by decide) ⟨.int (lo+i),H,I1,⟨t,?_⟩,⟨rfl,rfl⟩,ko,λb hb=>(hf b hb).1⟩⟩;rw[Int.mul_one]
 done:=by
  intro X hP hw hK hc i pins s σ H E I hf st hg;subst hP hw hK;obtain⟨f0,f1,f2,f3,f4,f5⟩:=hf it (by simp);exact wpAny_pyNext_range_end (I.ok.hd hc) st (by have:n<=i:=hg;omega) λh' eb=>⟨rfl,I.turned (t':=s.toks) (λb o hb e=>eb b o hb e) f0 f1 f3 f4 f5⟩
 self:=λ_ _ _ _ _ st h=>wpAny_pyIter_rangeiter st h
section
variable{X:Cx}{tg:Expr}
def uV(K:Frag)(tl:TE):TI:=λσ H R=>tl σ H λx H1=>∃a,x=.ref a/\(∃xs,aU K H1 a xs)/\R (Itl K a) H1
def xx(K:Frag)(tl:TE):TI:=λσ H R=>tl σ H λx H1=>∃a,x=.ref a/\(∃xs,aM K H1 a xs)/\R (Itt K a) H1
theorem d8{l:Expr}{tl:TE}(hl:PE X l tl):PI X tg l (uV X.K tl):=by
 intro pins s σ H R I h;refine aQ (hl pins s σ H _ I h) λv s1 ⟨x,H1,I1,r1,q1⟩=>?_;obtain⟨a,e,⟨xs,hq⟩,q⟩:=q1;subst e;cases r1;obtain⟨ah,rv,p,hz⟩:=I1.list hq;refine wpAny_pyIter_list p.isList ?_;refine⟨s1.heap.objs.size,[s1.heap.objs.size],_,_,H1,rfl,I1.kept (t':=s1.toks) λb o e=>cz _ e,UG a _,⟨_,fC _ rfl,rfl,rfl⟩,λb hb=>?_,q⟩;have e:b=s1.heap.objs.size:=by simpa using hb
 subst e;exact I1.qc (aF _) (I1.aB.fresh (aF _))
theorem oO{l:Expr}{tl:TE}(hl:PE X l tl):PI X tg l (xx X.K tl):=by
 intro pins s σ H R I h;refine aQ (hl pins s σ H _ I h) λv s1 ⟨x,H1,I1,r1,q1⟩=>?_;obtain⟨a,e,⟨xs,hq⟩,q⟩:=q1;subst e;cases r1;obtain⟨ah,rv,p,hz⟩:=I1.tuple hq;refine JG (show s1.heap.IsTuple a ah.toArray from p) ?_;refine⟨s1.heap.objs.size,[s1.heap.objs.size],_,_,H1,rfl,I1.kept (t':=s1.toks) λb o e=>cz _ e,UH a _,⟨_,fC _ rfl,rfl,rfl⟩,λb hb=>?_,q⟩;have e:b=s1.heap.objs.size:=by simpa using hb
 subst e;exact I1.qc (aF _) (I1.aB.fresh (aF _))
theorem UJ{pins:List (Addr×Obj)}{σ:St}{H:Hp}{s:Shared}{R:It->Hp->Prop}{E:Value->Shared->Prop}{lo hi:Int}{t u v:Tok}{tk:Nat}(I:Inv X pins σ H s)(h1: -(2^62)<=lo)(h2:lo<2^62)(h3: -(2^62)<=hi)(h4:hi<2^62)
  (q:R (mz lo (hi-lo).toNat) H):wpAny (model X.prog X.w) X.A (pyIter (.ref s.heap.objs.size)) (PIE X pins σ tg R) E {s with heap:=s.heap.push {cls:=.type "range",data:=.fields #[.int lo t,.int hi u,.int 1 v]},toks:=tk}:=by
 refine wpAny_pyIter_range (IsRange.new ..) (small_one h1 h2 h3 h4) ?_;have I1:Inv X pins σ H {s with heap:=s.heap.push {cls:=.type "range",data:=.fields #[.int lo t,.int hi u,.int 1 v]},toks:=tk}:=I.kept λb o e=>cz _ e;refine⟨(s.heap.push {cls:=.type "range",data:=.fields #[.int lo t,.int hi u,.int 1 v]}).objs.size,[(s.heap.push {cls:=.type "range",data:=.fields #[.int lo t,.int hi u,.int 1 v]}).objs.size],_,_,H,rfl,
  I1.kept (t':=tk) λb o e=>cz _ e,UI _ lo (hi-lo).toNat,?_,λb hb=>?_,q⟩
 .have e1:lo+((0:Nat):Int)*1=lo:=by simp
  have e2:(((hi-lo).toNat:Nat):Int)-((0:Nat):Int)=Builtin.Range.rangeSize lo hi 1:=by rw[rangeSize_one];split<;>omega
  show IsRangeIter _ _ (lo+((0:Nat):Int)*1) ((((hi-lo).toNat:Nat):Int)-((0:Nat):Int)) 1;rw[e1,e2];exact fC _ rfl
 .have e:b=(s.heap.push {cls:=.type "range",data:=.fields #[.int lo t,.int hi u,.int 1 v]}).objs.size:=by simpa using hb
  subst e;exact I1.qc (aF _) (I1.aB.fresh (aF _))
def Ak(ta:TA):TI:=λσ H R=>ta σ H λvs H1=>∃j:Int,vs=[.int j]/\ -(2^62)<=j/\j<2^62/\R (mz 0 j.toNat) H1
theorem jR{a:Expr}{ta:TA}{p pos:Pos}(hg:Gl X "range")(hm:X.mg "range"=none)(ha:PA X [a] ta)(hs:starEach [a] X.env=[(false,eval a X.env)]:=by rfl):PI X tg (.Call (.Name "range" p) [a] [] pos) (Ak ta):=by
 intro pins s σ H R I h;refine Call_ (uU I hg hm boot_range (C7 (aQ (ha pos pins s σ H _ I h) λus s1 ⟨vs,H1,I1,r1,q1⟩=>?_) hs rfl));obtain⟨j,e,q1,q2,q⟩:=q1;subst e;cases r1 with
 |cons r rr=>
  cases rr;obtain⟨t,rfl⟩:=r;exact call_range_1 (UJ I1 (by omega) (by omega) q1 q2 (by simpa using q))
@[irreducible] def kq(wi:TI)(g:TG)(tb:TS):TS:=λD σ H=>wi σ H λJ H1=>∃W:Nat->Nat->St->Hp->Prop,(∃m,W 0 m σ H1)/\∀i m σ H,W i m σ H->
 (J.stop i H/\D.nx σ H)\/(J.go i H/\∃N:St->Hp->Prop,(∀σ' H',N σ' H'->∃m',m'<m/\W (i+1) m' σ' H')/\∀x H',J.nI i H x H'->g x σ H' λσ2 H2=>tb {D with nx:=N,ct:=N,bk:=D.nx} σ2 H2)
def uW(fp:List Addr)(h:Heap):List (Addr×Obj):=fp.filterMap λb=>(h.get? b).map λo=>(b,o)
theorem Al{fp:List Addr}{h:Heap}{b:Addr}{o:Obj}(hb:b∈fp)(e:h.get? b=some o):(b,o)∈uW fp h:=rX.mpr ⟨b,hb,by rw[e];rfl⟩
theorem UK{fp:List Addr}{h:Heap}{p:Addr×Obj}(hp:p∈uW fp h):p.1∈fp/\h.get? p.1=some p.2:=by
 obtain⟨b,hb,e⟩:=rX.mp hp;cases q:h.get? b with
 |none=>rw[q]at e;cases e
 |some o=>
  rw[q]at e;have e':(b,o)=p:=Option.some.inj e;subst e';exact⟨hb,q⟩
theorem Inv.pinned{pins:List (Addr×Obj)}{σ:St}{H:Hp}{s:Shared}{fp:List Addr}(I:Inv X pins σ H s)(hf:∀b∈fp,kj X pins H b)(ho:∀b∈fp,∃o,s.heap.get? b=some o/\∀v,o.data≠ .cell v):Inv X (pins++uW fp s.heap) σ H s:=
 I.Lz λp hp=>(eZ.mp hp).elim (λz=>I.pin p (ou _ z)) λz=>by
  obtain⟨hb,e⟩:=UK z;obtain⟨f0,f1,f2,_⟩:=hf p.1 hb;obtain⟨o,e',d⟩:=ho p.1 hb;rw[e]at e';cases e';exact⟨e,f0,f1,f2,d⟩
theorem Inv.rB{pins pl:List (Addr×Obj)}{σ:St}{H:Hp}{s:Shared}(I:Inv X (pins++pl) σ H s):Inv X pins σ H s:=I.Lz λp hp=>I.pin p (ou _ (qL _ hp))
theorem eV{iter:Expr}{body:List Stmt}{wi:TI}{g:TG}{tb:TS}{pos:Pos}(hp:PassesOwn (model X.prog X.w) X.A X.env X.xe)(hc:X.calm=true)(hi:PI X tg iter wi)(hg:PG X tg g)(hb:fX X body tb)
  (hs:∀x,foldedSetIterable iter X.env x=pure x:=by intro _;rfl):PS X (.For tg iter body [] pos) (kq wi g tb):=by
 unfold kq;intro pins s σ H D I h;refine wpAny_For (aQ (hi pins s σ H _ I h) λv s1 h1=>aQ h1 λitv s2 h2=>?_) hs;obtain⟨it,fp,tn,J,H2,e,I2,T,st2,f2,W,⟨m0,w0⟩,turn⟩:=h2;subst e;have nJ:∀{H':Hp},(∀b∈fp,H' b=none)->∀b∈fp,kj X pins H' b:=λhn b hb=>⟨hn b hb,(f2 b hb).2⟩;refine codeAny_forLoop_any (λn s'=>∃i σ' H',Inv X pins σ' H' s'/\tn i s'.heap/\(∀b∈fp,H' b=none)/\W i n σ' H') ?_ m0 ⟨0,σ,H2,I2,st2,λb hb=>(f2 b hb).1,w0⟩;rintro n s3 ⟨i,σ3,H3,I3,st3,fr3,w3⟩;rcases turn i n σ3 H3 w3 with⟨stop,qn⟩|⟨go,N,hN,step⟩
 .refine wj hp (aQ (T.done X rfl rfl rfl hc i pins s3 σ3 H3 X.xe I3 (nJ fr3) st3 stop) λr s4 ⟨hr,I4⟩=>?_)
  subst hr;exact C6 ⟨σ3,H3,I4,qn⟩
 .refine wj hp (aQ (T.item X rfl rfl rfl hc i pins s3 σ3 H3 X.xe I3 (nJ fr3) st3 go) λr s4 ⟨u,hr,h4⟩=>?_)
  subst hr;refine wj hp (aQ h4 λ_ s5 ⟨x,H5,I5,r5,y5,st5,fr5⟩=>?_);have I5':=I5.pinned (nJ fr5) (T.obj _ _ st5);refine wj hp (aQ (hg _ s5 σ3 H5 x u _ I5' r5 (step x H5 y5)) λ_ s6 ⟨σ6,H6,I6,q6⟩=>?_);refine wj hp (aQ (hb _ s6 σ6 H6 _ I6 q6) λf s7 q7=>?_);have again:∀{σ7:St} {H7:Hp},Inv X (pins++uW fp s5.heap) σ7 H7 s7->N σ7 H7->∃m,m<n/\∃i σ' H',Inv X pins σ' H' s7/\tn i s7.heap/\(∀b∈fp,H' b=none)/\W i m σ' H':=λ{σ7 H7} I7 n7=>by
   obtain⟨m',hm,w7⟩:=hN σ7 H7 n7;refine⟨m',hm,i+1,σ7,H7,I7.rB,T.keep _ _ _ st5 λb hb o e=>(I7.pin (b,o) (ou _ (ou _ (Al hb e)))).1,λb hb=>?_,w7⟩;obtain⟨o,e,d⟩:=T.obj _ _ st5 b hb;exact(I7.pin (b,o) (ou _ (ou _ (Al hb e)))).2.1
  cases f with
  |next=>obtain⟨σ7,H7,I7,n7⟩:=q7;exact again I7 n7
  |cont=>obtain⟨σ7,H7,I7,n7⟩:=q7;exact again I7 n7
  |brk=>obtain⟨σ7,H7,I7,q7⟩:=q7;exact⟨σ7,H7,I7.rB,q7⟩
  |ret v=>obtain⟨x7,σ7,H7,I7,r7,q7⟩:=q7;exact⟨x7,σ7,H7,I7.rB,r7,q7⟩
end
abbrev R2:=V->V->Hp->VK->Prop
def eG(X:Cx)(f:Value->Value->Sem Value)(r:R2):Prop:=
 ∀(pins:List (Addr×Obj)) (s:Shared) (σ:St) (H:Hp) (x y:V) (v u:Value) (Q:VK),Inv X pins σ H s->RelV x v->RelV y u->r x y H Q->
  wpAny (model X.prog X.w) X.A (f v u) (EP X pins σ Q) X.xe s
def UnR(X:Cx)(f:Value->Sem Value)(r:V->Hp->VK->Prop):Prop:=
 ∀(pins:List (Addr×Obj)) (s:Shared) (σ:St) (H:Hp) (x:V) (v:Value) (Q:VK),Inv X pins σ H s->RelV x v->r x H Q->
  wpAny (model X.prog X.w) X.A (f v) (EP X pins σ Q) X.xe s
def kr(X:Cx)(f:Value)(r:List V->Hp->VK->Prop):Prop:=
 ∀(pins:List (Addr×Obj)) (s:Shared) (σ:St) (H:Hp) (xs:List V) (us:List Value) (Q:VK),Inv X pins σ H s->Vals xs us->r xs H Q->
  wpAny (model X.prog X.w) X.A (call f us) (EP X pins σ Q) X.xe s
def UL(X:Cx)(r:V->Hp->(Bool->Hp->Prop)->Prop):Prop:=
 ∀(pins:List (Addr×Obj)) (s:Shared) (σ:St) (H:Hp) (x:V) (v:Value) (Q:Bool->Hp->Prop),Inv X pins σ H s->RelV x v->r x H Q->
  wpAny (model X.prog X.w) X.A (truthy v) (TP X pins σ Q) X.xe s
def tOp(r:R2)(ta tb:TE):TE:=λσ H Q=>ta σ H λx H1=>tb σ H1 λy H2=>r x y H2 Q
def tUn(r:V->Hp->VK->Prop)(ta:TE):TE:=λσ H Q=>ta σ H λx H1=>r x H1 Q
def rI0(g:Int->Int->V):R2:=λx y H Q=>∃i j,x=.int i/\y=.int j/\Q (g i j) H
def rU(g:Int->V):V->Hp->VK->Prop:=λx H Q=>∃i,x=.int i/\Q (g i) H
section
variable{X:Cx}{a b c:Expr}{ta tb tc:TE}{pos:Pos}
theorem EL(ha:PE X a ta)(hb:PE X b tb){pins:List (Addr×Obj)}{s:Shared}{σ:St}{H:Hp}{R:V->V->Hp->Prop}(I:Inv X pins σ H s)
  (h:ta σ H λx H1=>tb σ H1 λy H2=>R x y H2){Q:Value->Shared->Prop}{f:Value->Value->Sem Value}
  (hf:∀v u s2 x y H2,Inv X pins σ H2 s2->RelV x v->RelV y u->R x y H2->wpAny (model X.prog X.w) X.A (f v u) Q X.xe s2):
  wpAny (model X.prog X.w) X.A (eval a X.env) (λv s₁=>wpAny (model X.prog X.w) X.A (eval b X.env) (λu s₂=>wpAny (model X.prog X.w) X.A (f v u) Q X.xe s₂) X.xe s₁) X.xe s:=by
 refine aQ (ha pins s σ H _ I h) λv s1 ⟨x,H1,I1,r1,q1⟩=>?_;refine aQ (hb pins s1 σ H1 _ I1 q1) λu s2 ⟨y,H2,I2,r2,q2⟩=>?_;exact hf v u s2 x y H2 I2 r1 r2 q2
theorem gj{op:Operator}{r:R2}(ho:eG X (binaryOp op) r)(ha:PE X a ta)(hb:PE X b tb):PE X (.BinOp a op b pos) (tOp r ta tb):=by
 intro pins s σ H Q I h;exact wpAny_BinOp (EL ha hb I h λv u s2 x y H2 I2 rx ry q=>ho pins s2 σ H2 x y v u Q I2 rx ry q)
theorem UM{op:UnaryOp}{r:V->Hp->VK->Prop}(ho:UnR X (unaryOp op) r)(ha:PE X a ta):PE X (.UnaryOp op a pos) (tUn r ta):=by
 intro pins s σ H Q I h;exact UnaryOp_ (aQ (ha pins s σ H _ I h) λv s1 ⟨x,H1,I1,r1,q1⟩=>ho pins s1 σ H1 x v Q I1 r1 q1)
theorem LH{f:Value->Value->Sem Value}{g:Int->Int->Int}
  (rule:∀(i j:Int) (t u:Tok) (s:Shared) (Q:Value->Shared->Prop) (E:Value->Shared->Prop),Q (.int (g i j) s.toks) {s with toks:=s.toks+1}->wpAny (model X.prog X.w) X.A (f (.int i t) (.int j u)) Q E s):
  eG X f (rI0 λi j=>.int (g i j)):=by
 intro pins s σ H x y v u Q I rx ry h;obtain⟨i,j,rfl,rfl,q⟩:=h;obtain⟨t,rfl⟩:=rx;obtain⟨t',rfl⟩:=ry;exact rule i j t t' s _ _ ⟨.int (g i j),H,I.tok _,⟨_,rfl⟩,q⟩
theorem Am{f:Value->Value->Sem Value}{g:Int->Int->Bool}
  (rule:∀(i j:Int) (t u:Tok) (s:Shared) (Q:Value->Shared->Prop) (E:Value->Shared->Prop),Q (.bool (g i j)) s->wpAny (model X.prog X.w) X.A (f (.int i t) (.int j u)) Q E s):
  eG X f (rI0 λi j=>.bl (g i j)):=by
 intro pins s σ H x y v u Q I rx ry h;obtain⟨i,j,rfl,rfl,q⟩:=h;obtain⟨t,rfl⟩:=rx;obtain⟨t',rfl⟩:=ry;exact rule i j t t' s _ _ ⟨.bl (g i j),H,I,rfl,q⟩
def EM(i j:Int):Prop:=(-(2^64)<i/\i<2^64)\/(-(2^64)<j/\j<2^64)
theorem EM.ok{i j:Int}(h:EM i j):IntMulOk i j:=by
 rcases h with⟨h1,h2⟩|⟨h1,h2⟩
 .exact .of_left (intBits_le_64 h1 h2)
 .exact .of_right (intBits_le_64 h1 h2)
theorem EN:eG X (binaryOp .Add) (rI0 λi j=>.int (i+j)):=LH λ_ _ _ _ _ _ _ q=>add_int q
theorem LI:eG X (binaryOp .Sub) (rI0 λi j=>.int (i-j)):=LH λ_ _ _ _ _ _ _ q=>sub_int q
theorem unI{f:Value->Sem Value}{g:Int->Int}
  (rule:∀(i:Int) (t:Tok) (s:Shared) (Q:Value->Shared->Prop) (E:Value->Shared->Prop),Q (.int (g i) s.toks) {s with toks:=s.toks+1}->wpAny (model X.prog X.w) X.A (f (.int i t)) Q E s):
  UnR X f (rU λi=>.int (g i)):=by
 intro pins s σ H x v Q I rx h;obtain⟨i,rfl,q⟩:=h;obtain⟨t,rfl⟩:=rx;exact rule i t s _ _ ⟨.int (g i),H,I.tok _,⟨_,rfl⟩,q⟩
theorem UN:UnR X (unaryOp .USub) (rU λi=>.int (-i)):=unI λ_ _ _ _ _ q=>neg_int q
end
def LJ:V->V->Bool
 | .non,.non=>true| .non,.int _=>true| .int _,.non=>true| .non,.bl _=>true| .bl _,.non=>true| .non,.str _=>true| .str _,.non=>true
 | .int _,.int _=>true| .bl _,.bl _=>true| .str _,.str _=>true| .iT _,.iT _=>true
 | .int _,.str _=>true| .str _,.int _=>true| .bl _,.str _=>true| .str _,.bl _=>true
 |_,_=>false
def rEq:R2:=λx y H Q=>LJ x y=true/\Q (.bl (decide (x=y))) H
def rNe:R2:=λx y H Q=>LJ x y=true/\Q (.bl (!decide (x=y))) H
theorem LK{i j:Int}:decide (V.int i=V.int j)=(i==j):=by
 rw[m9];simp
theorem LL{i j:Bool}:decide (V.bl i=V.bl j)=(i==j):=by
 rw[m9];simp
theorem LM{i j:Str}:decide (V.str i=V.str j)=(i==j):=by
 rw[m9];simp
theorem LN{i j:Array UInt8}:decide (V.iT i=V.iT j)=(i.toList==j.toList):=by
 rw[m9];cases i;cases j;simp
section
variable{X:Cx}{a b c:Expr}{ta tb tc:TE}{pos:Pos}
theorem eg{pins:List (Addr×Obj)}{σ:St}{H:Hp}{s:Shared}{Q:VK}{k k':Bool}(I:Inv X pins σ H s)(q:Q (.bl k) H)(e:k=k'):EP X pins σ Q (.bool k') s:=by
 subst e;exact⟨.bl k,H,I,rfl,q⟩
theorem oQ:eG X (compareOp .Eq) rEq:=by
 intro pins s σ H x y v u Q I rx ry h;obtain⟨hs,q⟩:=h;cases x with
 |non=>
  cases rx;cases y with
  |non=>cases ry;exact PySem.EqNone.eq_none_none (eg I q (by simp))
  |bl j=>cases ry;exact PySem.EqNone.eq_none_bool (eg I q (by simp))
  |int j=>obtain⟨t',rfl⟩:=ry;exact PySem.EqNone.eq_none_int (eg I q (by simp))
  |str j=>obtain⟨t',rfl⟩:=ry;exact PySem.EqNone.eq_none_str (eg I q (by simp))
  |_=>exact absurd (show false=true from hs) dP
 |bl i=>
  cases rx;cases y with
  |non=>cases ry;exact PySem.EqNone.eq_bool_none (eg I q (by simp))
  |bl j=>cases ry;exact eq_bool (eg I q LL)
  |str j=>obtain⟨t',rfl⟩:=ry;exact PySem.EqMixed.eq_bool_str (eg I q (by simp))
  |_=>exact absurd (show false=true from hs) dP
 |int i=>
  obtain⟨t,rfl⟩:=rx;cases y with
  |non=>cases ry;exact PySem.EqNone.eq_int_none (eg I q (by simp))
  |int j=>obtain⟨t',rfl⟩:=ry;exact eq_int (eg I q LK)
  |str j=>obtain⟨t',rfl⟩:=ry;exact PySem.EqMixed.eq_int_str (eg I q (by simp))
  |_=>exact absurd (show false=true from hs) dP
 |str i=>
  obtain⟨t,rfl⟩:=rx;cases y with
  |non=>cases ry;exact PySem.EqNone.eq_str_none (eg I q (by simp))
  |bl j=>cases ry;exact PySem.EqMixed.eq_str_bool (eg I q (by simp))
  |int j=>obtain⟨t',rfl⟩:=ry;exact PySem.EqMixed.eq_str_int (eg I q (by simp))
  |str j=>obtain⟨t',rfl⟩:=ry;exact eq_str (eg I q LM)
  |_=>exact absurd (show false=true from hs) dP
 |iT i=>
  obtain⟨t,rfl⟩:=rx;cases y with
  |iT j=>obtain⟨t',rfl⟩:=ry;exact PySem.W.eq_bytes (eg I q LN)
  |_=>exact absurd (show false=true from hs) dP
 |_=>cases y<;>exact absurd (show false=true from hs) dP
theorem EO:eG X (compareOp .NotEq) rNe:=by
 intro pins s σ H x y v u Q I rx ry h;obtain⟨hs,q⟩:=h;cases x with
 |non=>
  cases rx;cases y with
  |non=>cases ry;exact PySem.EqNone.ne_none_none (eg I q (by simp))
  |bl j=>cases ry;exact PySem.EqNone.ne_none_bool (eg I q (by simp))
  |int j=>obtain⟨t',rfl⟩:=ry;exact PySem.EqNone.ne_none_int (eg I q (by simp))
  |str j=>obtain⟨t',rfl⟩:=ry;exact PySem.EqNone.ne_none_str (eg I q (by simp))
  |_=>exact absurd (show false=true from hs) dP
 |bl i=>
  cases rx;cases y with
  |non=>cases ry;exact PySem.EqNone.ne_bool_none (eg I q (by simp))
  |bl j=>cases ry;exact ne_bool (eg I q (e8 not LL))
  |str j=>obtain⟨t',rfl⟩:=ry;exact PySem.EqMixed.ne_bool_str (eg I q (by simp))
  |_=>exact absurd (show false=true from hs) dP
 |int i=>
  obtain⟨t,rfl⟩:=rx;cases y with
  |non=>cases ry;exact PySem.EqNone.ne_int_none (eg I q (by simp))
  |int j=>obtain⟨t',rfl⟩:=ry;exact ne_int (eg I q (e8 not LK))
  |str j=>obtain⟨t',rfl⟩:=ry;exact PySem.EqMixed.ne_int_str (eg I q (by simp))
  |_=>exact absurd (show false=true from hs) dP
 |str i=>
  obtain⟨t,rfl⟩:=rx;cases y with
  |non=>cases ry;exact PySem.EqNone.ne_str_none (eg I q (by simp))
  |bl j=>cases ry;exact PySem.EqMixed.ne_str_bool (eg I q (by simp))
  |int j=>obtain⟨t',rfl⟩:=ry;exact PySem.EqMixed.ne_str_int (eg I q (by simp))
  |str j=>obtain⟨t',rfl⟩:=ry;exact ne_str (eg I q (e8 not LM))
  |_=>exact absurd (show false=true from hs) dP
 |iT i=>
  obtain⟨t,rfl⟩:=rx;cases y with
  |iT j=>obtain⟨t',rfl⟩:=ry;exact PySem.W.ne_bytes (eg I q (e8 not LN))
  |_=>exact absurd (show false=true from hs) dP
 |_=>cases y<;>exact absurd (show false=true from hs) dP
theorem An:eG X (compareOp .Lt) (rI0 λi j=>.bl (decide (i<j))):=Am λ_ _ _ _ _ _ _ q=>lt_int q
theorem LO:eG X (compareOp .LtE) (rI0 λi j=>.bl (decide (i<=j))):=Am λ_ _ _ _ _ _ _ q=>le_int q
theorem xy:eG X (compareOp .Gt) (rI0 λi j=>.bl (decide (j<i))):=Am λ_ _ _ _ _ _ _ q=>gt_int q
theorem UO:eG X (compareOp .GtE) (rI0 λi j=>.bl (decide (j<=i))):=Am λ_ _ _ _ _ _ _ q=>ge_int q
theorem Ao:eG X (compareOp .Is) (λx y H Q=>y=.non/\Q (.bl (decide (x=.non))) H):=by
 intro pins s σ H x y v u Q I rx ry h;obtain⟨rfl,q⟩:=h;cases ry;refine is_none_gen (eg I q ?_);cases x<;>first
  |(cases rx;rfl)
  |(obtain⟨t,rfl⟩:=rx;rfl)
theorem eG.or{f:Value->Value->Sem Value}{r r':R2}(h:eG X f r)(h':eG X f r'):eG X f (λx y H Q=>r x y H Q\/r' x y H Q):=by
 intro pins s σ H x y v u Q I rx ry q;rcases q with q|q
 .exact h pins s σ H x y v u Q I rx ry q
 .exact h' pins s σ H x y v u Q I rx ry q
theorem eK(b:Expr){op:CmpOp}(h:op≠ .In:=by decide)(h2:op≠ .NotIn:=by decide):behindInMarks op b=false:=by
 have e1:(op==CmpOp.In)=false:=by cases op<;>first|rfl|exact absurd rfl h
 have e2:(op==CmpOp.NotIn)=false:=by cases op<;>first|rfl|exact absurd rfl h2
 cases b<;>simp[behindInMarks,e1,e2]
theorem lA{op:CmpOp}{r:R2}(ho:eG X (compareOp op) r)(ha:PE X a ta)(hb:PE X b tb)(hm:behindInMarks op b=false):PE X (.Compare a [op] [b] pos) (tOp r ta tb):=by
 intro pins s σ H Q I h;exact wpAny_Compare1 (EL ha hb I h λv u s2 x y H2 I2 rx ry q=>ho pins s2 σ H2 x y v u Q I2 rx ry q) hm
def UP(t:TE):TT:=λσ H Q=>t σ H λx H'=>∃k,x=.bl k/\Q k H'
theorem fE{op:CmpOp}{r:R2}(ho:eG X (compareOp op) r)(ha:PE X a ta)(hb:PE X b tb)(hm:behindInMarks op b=false):PT X (.Compare a [op] [b] pos) (UP (tOp r ta tb)):=by
 intro pins s σ H Q I h;refine wpAny_isTrue_Compare1 (aQ (ha pins s σ H _ I h) λv s1 ⟨x,H1,I1,r1,q1⟩=>aQ (hb pins s1 σ H1 _ I1 q1) λu s2 ⟨y,H2,I2,r2,q2⟩=>
  aQ (ho pins s2 σ H2 x y v u _ I2 r1 r2 q2) λc s3 ⟨z,H3,I3,r3,k,e,q3⟩=>?_) hm
 subst e;cases r3;exact uC ⟨H3,I3,q3⟩
def LP(K:Frag)(x:V)(H:Hp)(k:Bool):Prop:=
 match x with
 | .non=>k=false
 | .bl b=>k=b
 | .int i=>k=(i != 0)
 | .str y=>y.length<=sizeLine/\k=((y.length:Int) != 0)
 | .iT y=>y.size<=sizeLine/\k=((y.size:Int) != 0)
 | .ref p=>(∃xs,aU K H p xs/\k=!xs.isEmpty)\/(∃xs,aM K H p xs/\k=!xs.isEmpty)\/∃ak,H p=some (.dK ak)/\k=!ak.isEmpty
 |_=>False
theorem UQ{κ:Type}{ak:List (κ×V)}{vs:List (κ×Value)}(r:KV ak vs):(!vs.isEmpty)=!ak.isEmpty:=by
 cases r<;>rfl
theorem LQ{xs:List V}{ah:List Value}(r:Vals xs ah):(!ah.toArray.isEmpty)=!xs.isEmpty:=by
 cases r<;>simp
theorem sX:(sizeLine:Nat)<2^63:=by rw[wk];decide
theorem UR:UL X (λx H Q=>∃k,LP X.K x H k/\Q k H):=by
 intro pins s σ H x v Q I rx h;obtain⟨k,e,q⟩:=h;have hl:=sX;have hs:sizeLine=16777216:=wk;cases x with
 |non=>
  cases rx;have e':k=false:=e;subst e';exact truthy_none ⟨H,I,q⟩
 |bl b=>
  cases rx;have e':k=b:=e;subst e';exact uC ⟨H,I,q⟩
 |int i=>
  obtain⟨t,rfl⟩:=rx;have e':k=(i != 0):=e;subst e';exact PySem.P.truthy_int ⟨H,I,q⟩
 |str y=>
  obtain⟨t,rfl⟩:=rx;obtain⟨hy,e'⟩:y.length<=sizeLine/\k=((y.length:Int) != 0):=e;subst e';exact PySem.P.truthy_str (by omega) ⟨H,I.tok _,q⟩
 |iT y=>
  obtain⟨t,rfl⟩:=rx;obtain⟨hy,e'⟩:y.size<=sizeLine/\k=((y.size:Int) != 0):=e;subst e';exact PySem.W.truthy_bytes (by omega) ⟨H,I.tok _,q⟩
 |ref p=>
  cases rx;have e':(∃xs,aU X.K H p xs/\k=!xs.isEmpty)\/(∃xs,aM X.K H p xs/\k=!xs.isEmpty)\/∃ak,H p=some (.dK ak)/\k=!ak.isEmpty:=e;rcases e' with⟨xs,hx,e'⟩|⟨xs,hx,e'⟩|⟨ak,hx,e'⟩
  .subst e'
   obtain⟨ah,r,pl,hz⟩:=I.list hx;have hlen:=r.length;exact wpAny_truthy_list pl.isList (by simp only[cO];omega) ⟨H,I.tok _,by rw[LQ r];exact q⟩
  .subst e'
   obtain⟨ah,r,pl,hz⟩:=I.tuple hx;have hlen:=r.length;exact truthy_tuple pl (by simp only[cO];omega) ⟨H,I.tok _,by rw[LQ r];exact q⟩
  .subst e'
   obtain⟨hz,hS,vs,r,m⟩:ak.length<=sizeLine/\(p==sysModules)=false/\∃vs,KV ak vs/\s.heap.DictOf (iS X.prog X.w) p vs:=I.aB p _ hx;have hlen:ak.length=vs.length:=Paired.length r;exact wpAny_truthy_dict hS m (by omega) ⟨H,I.tok _,by rw[UQ r];exact q⟩
 |_=>exact(show False from e).elim
theorem ER(ha:PE X a ta)(he:∀whole,isTrue a X.env whole=(do let v <-whole;standAt a.pos;holding [v] (truthy v))):
  PT X a (λσ H Q=>ta σ H λx H'=>∃k,LP X.K x H' k/\Q k H'):=by
 intro pins s σ H Q I h;exact isTrue_plain (aQ (ha pins s σ H _ I h) λv s1 ⟨x,H1,I1,r1,q1⟩=>UR pins s1 σ H1 x v Q I1 r1 q1) (he _)
theorem vals1{x:V}{us:List Value}(r:Vals [x] us):∃u,us=[u]/\RelV x u:=by
 cases r with
 |cons r1 r2=>cases r2;exact⟨_,rfl,r1⟩
theorem vals2{x y:V}{us:List Value}(r:Vals [x,y] us):∃u w',us=[u,w']/\RelV x u/\RelV y w':=by
 cases r with
 |cons r1 r2=>
  cases r2 with
  |cons r3 r4=>cases r4;exact⟨_,_,rfl,r1,r3⟩
theorem LR(hc:X.calm=true):kr X (.builtin "max") (λxs H Q=>∃i j,xs=[.int i,.int j]/\Q (.int (if j>i then j else i)) H):=by
 intro pins s σ H xs us Q I r h;obtain⟨i,j,rfl,q⟩:=h;obtain⟨u,w',rfl,⟨t,rfl⟩,⟨t',rfl⟩⟩:=vals2 r;refine max_two_ints (I.ok.hd hc) λh' tk k=>⟨_,H,I.kept k,?_,q⟩;by_cases hj:j>i
 .rw[aj hj,aj hj];exact⟨_,rfl⟩
 .rw[ai hj,ai hj];exact⟨_,rfl⟩
end
structure sY(h:Heap)(x dx C:Addr)(mA:Str->Option Value):Prop where
 obj:h.get? x=some (PySem.W.instObj C dx)
 ns:h.Ns1 dx mA
 ne:dx≠x
theorem US{h:Heap}{dx:Addr}{mA:Str->Option Value}(n:h.Ns1 dx mA):∃od,h.get? dx=some od/\∀name,PySem.W.lookIn name od=some (mA name):=by
 obtain⟨o,es,ep,ho,hd,hk,_,hm⟩:=n;refine⟨o,ho,λname=>?_⟩;have e:=hm name;unfold nsFind findBy at e;rw[<-Array.find?_toList]at e;unfold PySem.W.lookIn;rw[hd];dsimp only;split
 .rename_i y q
  rw[q]at e;exact e8 some e
 .rename_i q
  rw[q]at e;have a:es.toList.any (·.refKey)=false:=by
   rw[List.any_eq_false];intro y hy;obtain⟨z,t,UT⟩:=hk y (Array.mem_toList_iff.mp hy);simp[DictEntry.refKey,UT]
  have a':¬es.toList.any (·.refKey)=true:=by rw[a];exact dP
  rw[ai a'];exact e8 some e
theorem sY.look{h:Heap}{x dx C:Addr}{mA:Str->Option Value}(I:sY h x dx C mA):∃od,PySem.W.InstAt h x (PySem.W.instObj C dx) C (some od)/\∀name,PySem.W.lookIn name od=some (mA name):=
 let⟨od,ho,hl⟩:=US I.ns
 ⟨od,⟨I.obj,rfl,rfl,ho⟩,hl⟩
section
variable{prog:Program}{w:World}{A:Around}{E:Value->Shared->Prop}{s:Shared}{K:Frag}{x dx C f:Addr}{mA:Str->Option Value}{name:Str}{v:Value}
theorem get_map{expr:Bool}{Q:Value->Shared->Prop}(X:K.In s.heap)(I:sY s.heap x dx C mA)(hg:PySem.W.plainGet K C name=true)(hh:PySem.W.hasDictIn K C=true)
  (ha:PySem.W.findIn K (.ref C) name=some none)(hv:mA name=some v)(hv':PySem.W.handedIn v=true)(h:Q v {s with toks:=s.toks+1}):
  wpAny (model prog w) A (getAttr (.ref x) name expr) Q E s:=by
 obtain⟨od,J,hl⟩:=I.look;exact PySem.W.get_value X J (Rz hg).1 (PySem.W.findObj_own hh ha rfl (by rw[hl,hv])) hv' h
theorem UU{pl:Sem Bool}{Q:Value×List Value->Shared->Prop}(X:K.In s.heap)(I:sY s.heap x dx C mA)(hg:PySem.W.plainGet K C name=true)
  (hf:PySem.W.findIn K (.ref C) name=some (some (.ref f)))(ht:PySem.W.isFn K (.ref f)=true)(hv:mA name=none)(h:Q (.ref f,[.ref x]) s):
  wpAny (model prog w) A (getMethod (.ref x) name pl) Q E s:=by
 obtain⟨od,J,hl⟩:=I.look;exact PySem.W.method_fn X J (Rz hg).1 (Rz hg).2 hf (pK.mp ht) (by show(PySem.W.lookIn name od).map (·.isSome)=some false;rw[hl,hv];rfl) h
theorem UW{ns:List Str}{Q:Unit->Shared->Prop}(X:K.In s.heap)(I:sY s.heap x dx C mA)
  (hs:PySem.W.findIn K (.ref C) "__setattr__"=some (some (.builtin "object.__setattr__")))(hp:PySem.W.plainOver K C=true)(ht:PySem.W.takerIn K C name=some none)(hh:PySem.W.hasDictIn K C=true)
  (hw:PySem.Within mA ns)(hsz:ns.length<=sizeLine)
  (h:∀h',sY h' x dx C (λy=>if y=name then some v else mA y)->Heap.SameBut dx s.heap h'->Q () {s with heap:=h',toks:=s.toks+2}):
  wpAny (model prog w) A (setAttr (.ref x) name v) Q E s:=by
 obtain⟨od,J,hl⟩:=I.look;refine PySem.W.set_plain X J hs (PySem.W.osa_open (s:={s with toks:=s.toks+1}) (r:=none) X J hp ht λb=>?_);obtain⟨cd,hc,mq⟩:=PySem.W.any_some hh;have hx:s.heap.get? x=some ⟨.ref C,some dx,.plain,#[]⟩:=I.obj;refine ao (bu (ao (ao (wpAny_loadPart hx (ao (PySem.W.Looks.here (s:={s with toks:=s.toks+1}) (PySem.W.looks_clsIn X hc) ?_))))));rw[mq];refine bu (a:=some dx) (ao (bu (ao ?_)));refine wpAny_nsSet1 (s:={s with toks:=s.toks+1}) I.ns λh' hn2 hs2=>?_;obtain⟨oD,esD,epD,hoD,hdD,hcD⟩:=hn2.count (PySem.Within.cons name v hw);refine ao (wpAny_lookBehind hoD (by rw[hdD];exact pastItsLine_dict (aG hcD (by rw[bT];omega))) ?_);exact bu (h _ ⟨(hs2.2 _ (cS I.ne)).trans I.obj,hn2,I.ne⟩ hs2)
theorem UX{R:Result->Shared->Prop}{vs:List Value}{kw:List (Str×Value)}(X:K.In s.heap)(hm:PySem.W.makesIn K C=true)
  (hi:PySem.W.findIn K (.ref C) "__init__"=some (some (.ref f)))(hf:PySem.W.typeIn K (.ref f)=some (.type "function"))
  (h:codeAny (model prog w) (A.under (.builtin "type.__call__" ⟨.ref C::vs,kw⟩)) (.call (.ref f) ⟨.ref (s.heap.objs.size+1)::vs,kw⟩) (PySem.W.InitBack (s.heap.objs.size+1) R)
   {s with heap:=(s.heap.push PySem.W.emptyDict).push (PySem.W.instObj C s.heap.objs.size)}):
  codeAny (model prog w) A (.call (.ref C) ⟨vs,kw⟩) R s:=by
 obtain⟨hh,g,d,t,os⟩:=s;exact PySem.W.make_core (PySem.W.makes_of X hm) (PySem.W.looks_findIn X hi) (λself=>PySem.W.bind_fn X self hf) (.inl rfl) h
end
def cQ(f:Str)(v:V):List (Str×V)->List (Str×V)
 |[]=>[(f,v)]
 |(g,x)::r=>if g=f then(g,v)::r else(g,x)::cQ f v r
theorem iV(f g:Str)(v:V):∀fs:List (Str×V),(cQ f v fs).lookup g=if g=f then some v else fs.lookup g
 |[]=>by
  show List.lookup g [(f,v)]=_;by_cases h:g=f
  .have hb:(g==f)=true:=pK.mpr h
   simp only[List.lookup,hb,aj h]
  .have hb:(g==f)=false:=ni.mpr h
   simp only[List.lookup,hb,ai h]
 |(k,x)::r=>by
  have ih:=iV f g v r;rw[show cQ f v ((k,x)::r)=(if k=f then(k,v)::r else(k,x)::cQ f v r)from rfl];by_cases hk:k=f
  .rw[aj hk]
   by_cases h:g=k
   .have hb:(g==k)=true:=pK.mpr h
    simp only[List.lookup,hb,aj (h.trans hk)]
   .have hb:(g==k)=false:=ni.mpr h
    simp only[List.lookup,hb,ai (λe:g=f=>h (e.trans hk.symm))]
  .rw[ai hk]
   by_cases h:g=k
   .have hb:(g==k)=true:=pK.mpr h
    simp only[List.lookup,hb,ai (λe:g=f=>hk (h.symm.trans e))]
   .have hb:(g==k)=false:=ni.mpr h
    simp only[List.lookup,hb];exact ih
theorem ES(f:Str)(v:V):∀fs:List (Str×V),f∈(cQ f v fs).map (·.1)/\∀g,g∈fs.map (·.1)->g∈(cQ f v fs).map (·.1)
 |[]=>⟨by simp[cQ],λg h=>by simp at h⟩
 |(k,x)::r=>by
  obtain⟨i1,i2⟩:=ES f v r;rw[show cQ f v ((k,x)::r)=(if k=f then(k,v)::r else(k,x)::cQ f v r)from rfl];by_cases hk:k=f
  .rw[aj hk]
   subst hk;exact⟨by simp,λg h=>by simpa using h⟩
  .rw[ai hk]
   refine⟨?_,λg h=>?_⟩
   .rw[cD]
    exact bg _ i1
   .rw[cD]at h⊢
    rcases bq.mp h with e|e
    .exact bq.mpr (.inl e)
    .exact bg _ (i2 g e)
theorem LS(f:Str)(v:V):∀fs:List (Str×V),(cQ f v fs).length<=fs.length+1
 |[]=>by simp[cQ]
 |(k,x)::r=>by
  have ih:=LS f v r;rw[show cQ f v ((k,x)::r)=(if k=f then(k,v)::r else(k,x)::cQ f v r)from rfl];by_cases hk:k=f
  .rw[aj hk,bT,bT];omega
  .rw[ai hk,bT,bT];omega
theorem jC.some_of{v:V}{o:Option Value}(r:jC (some v) o):∃u,o=some u/\RelV v u:=by
 cases o with
 |none=>exact(show False from r).elim
 |some u=>exact⟨u,rfl,r⟩
theorem jC.none_of{o:Option Value}(r:jC none o):o=none:=by
 cases o with
 |none=>rfl
 |some u=>exact(show False from r).elim
theorem UY{v:V}{u:Value}(r:RelV v u):PySem.W.handedIn u=true:=by
 cases v with
 |non=>cases (show u=Value.none from r);rfl
 |bl b=>cases (show u=Value.bool b from r);rfl
 |int i=>obtain⟨t,e⟩:=(show∃t,u=Value.int i t from r);cases e;rfl
 |str x=>obtain⟨t,e⟩:=(show∃t,u=Value.str x t from r);cases e;rfl
 |iT b=>obtain⟨t,e⟩:=(show∃t,u=Value.bytes b t from r);cases e;rfl
 |flt b=>obtain⟨t,e⟩:=(show∃t,u=Value.float b t from r);cases e;rfl
 |ref a=>cases (show u=Value.ref a from r);rfl
 |ty n=>cases (show u=Value.type n from r);rfl
section
variable{P:Program}{w:World}{H H':Hp}{h h':Heap}{a C dx:Addr}{fs fs':List (Str×V)}
theorem ET(aB:bU P w H h)(e:H a=some (.ins C dx fs)):∃mA,sY h a dx C mA/\(∀f,jC (fs.lookup f) (mA f))/\PySem.Within mA (fs.map (·.1))/\fs.length<=1000/\H dx=some (.own a):=by
 obtain⟨d,z,ne,ob,mA,n,r,q⟩:=(show fD P w H h a (.ins C dx fs)from aB a _ e);exact⟨mA,⟨ob,n,ne⟩,r,q,z,d⟩
end
structure mD(K:Frag)(C:Addr):Prop where
 pg:PySem.W.plainGet K C Str.empty=true
 hd:PySem.W.hasDictIn K C=true
 po:PySem.W.plainOver K C=true
 sa:PySem.W.findIn K (.ref C) "__setattr__"=some (some (.builtin "object.__setattr__"))
theorem mD.get{K:Frag}{C:Addr}(c:mD K C)(f:Str):PySem.W.plainGet K C f=true:=c.pg
def jk(K:Frag)(C:Addr)(f:Str):Prop:=PySem.W.findIn K (.ref C) f=some none
theorem jk.UZ{K:Frag}{C:Addr}{f:Str}(n:jk K C f):PySem.W.takerIn K C f=some none:=by
 unfold PySem.W.takerIn;rw[show PySem.W.findIn K (.ref C) f=some none from n];rfl
structure Meth(K:Frag)(C:Addr)(m:Str)(f:Addr):Prop where
 at_:PySem.W.findIn K (.ref C) m=some (some (.ref f))
 fn:PySem.W.isFn K (.ref f)=true
 kp:PySem.W.keepIn K (.ref f)=true
section
variable{X:Cx}{pins:List (Addr×Obj)}{σ:St}{H:Hp}{s:Shared}{a C dx:Addr}{fs:List (Str×V)}{f:Str}{v:V}{A:Around}{E:Value->Shared->Prop}
theorem LU{b:Bool}{Q:Value->Shared->Prop}(I:Inv X pins σ H s)(e:H a=some (.ins C dx fs))(c:mD X.K C)(n:jk X.K C f)(l:fs.lookup f=some v)
  (h:∀u s',Inv X pins σ H s'->RelV v u->Q u s'):wpAny (model X.prog X.w) A (getAttr (.ref a) f b) Q E s:=by
 obtain⟨mA,O,r,_,_,_⟩:=ET I.aB e;obtain⟨u,hu,ru⟩:=jC.some_of (v:=v) (o:=mA f) (by rw[<-l];exact r f);exact get_map I.gx O (c.get f) c.hd n hu (UY ru) (h u _ (I.tok _) ru)
theorem U0{m:Str}{g:Addr}{pl:Sem Bool}{Q:Value×List Value->Shared->Prop}(I:Inv X pins σ H s)(e:H a=some (.ins C dx fs))(c:mD X.K C)(k:Meth X.K C m g)(l:fs.lookup m=none)
  (h:Q (.ref g,[.ref a]) s):wpAny (model X.prog X.w) A (getMethod (.ref a) m pl) Q E s:=by
 obtain⟨mA,O,r,_,_,_⟩:=ET I.aB e;have hn:mA m=none:=jC.none_of (by rw[<-l];exact r m);exact UU I.gx O (c.get m) k.at_ k.fn hn h
theorem LV{y:V}{u:Value}{Q:Unit->Shared->Prop}(I:Inv X pins σ H s)(e:H a=some (.ins C dx fs))(c:mD X.K C)(n:jk X.K C f)(hl:fs.length<1000)(ry:RelV y u)
  (h:∀s',Inv X pins σ (upd H a (.ins C dx (cQ f y fs))) s'->Q () s'):wpAny (model X.prog X.w) A (setAttr (.ref a) f u) Q E s:=by
 obtain⟨mA,O,r,wi,_,ho⟩:=ET I.aB e;have hz:(fs.map (·.1)).length<=sizeLine:=by rw[aK,wk];omega
 refine UW I.gx O c.sa c.po n.UZ c.hd wi hz λh' O' sb=>h _ ?_;have hd:∃o,h'.get? dx=some o:=let⟨o,_,_,e',_⟩:=O'.ns;⟨o,e'⟩
 refine I.write (x:=a) (e:=dx) (by rw[e];exact True.intro) (.inr ho) (λb q hb z=>(sb.2 b hb).trans z) hd ?_;refine⟨by rw[aJ O.ne];exact ho,?_,O.ne,O'.obj,_,O'.ns,λg=>?_,λg hg=>?_⟩
 .have:=LS f y fs;omega
 .show jC ((cQ f y fs).lookup g) (if g=f then some u else mA g)
  rw[iV];by_cases q:g=f
  .rw[aj q,aj q];exact ry
  .rw[ai q,ai q];exact r g
 .by_cases q:g=f
  .rw[q];exact(ES f y fs).1
  .refine(ES f y fs).2 g (wi g λz=>hg ?_)
   show(if g=f then some u else mA g)=none;rw[ai q];exact z
theorem Inv.made(I:Inv X pins σ H s):Inv X pins σ (upd (upd H s.heap.objs.size (.own (s.heap.objs.size+1))) (s.heap.objs.size+1) (.ins C s.heap.objs.size []))
  {s with heap:=(s.heap.push PySem.W.emptyDict).push (PySem.W.instObj C s.heap.objs.size)}:=by
 have e1:(s.heap.push PySem.W.emptyDict).get? s.heap.objs.size=some PySem.W.emptyDict:=fC s.heap rfl;have e2:((s.heap.push PySem.W.emptyDict).push (PySem.W.instObj C s.heap.objs.size)).get? (s.heap.objs.size+1)=some (PySem.W.instObj C s.heap.objs.size):=by
  have:=fC (s.heap.push PySem.W.emptyDict) (o:=PySem.W.instObj C s.heap.objs.size) rfl;rwa[jw]at this
 have e3:(s.heap.push PySem.W.emptyDict).Ns s.heap.objs.size (λ_=>none):=⟨PySem.W.emptyDict,#[],_,e1,rfl,(λe he=>absurd he (by simp)),λ_=>rfl⟩;have I1:=I.laid (a:=s.heap.objs.size) (o:=.own (s.heap.objs.size+1)) (h':=s.heap.push PySem.W.emptyDict) (t':=s.toks) (λb u q=>cz _ q) (aF _) ⟨_,e1⟩;refine I1.laid (a:=s.heap.objs.size+1) (o:=.ins C s.heap.objs.size []) (t':=s.toks) (λb u q=>cz _ q) (wm (jw _ _)) ?_;have ne:s.heap.objs.size≠s.heap.objs.size+1:=fT (JH _);refine⟨by rw[aJ ne,aA],cM _,ne,e2,λ_=>none,(Heap.Ns1.of_empty e3).at λo q=>cz _ q,λ_=>True.intro,λy hy=>absurd rfl hy⟩
theorem U1{prog:Program}{w:World}{env:Env}{e:Expr}{f:Str}{pos:Pos}{s:Shared}{Q:Value->Shared->Prop}(hb:attributeBase e f env (eval e env)=eval e env)
  (h:wpAny (model prog w) A (eval e env) (λo s₁=>wpAny (model prog w) A (getAttr o f true) Q E s₁) E s):wpAny (model prog w) A (eval (.Attribute e f pos) env) Q E s:=
 Attribute_any_ h (by rw[arm_eval_Attribute,hb])
end
def U3(K:Frag)(ta:TE)(f:Str):TE:=λσ H Q=>ta σ H λx H1=>∃a C dx fs v,x=.ref a/\H1 a=some (.ins C dx fs)/\mD K C/\jk K C f/\fs.lookup f=some v/\Q v H1
def U4(K:Frag)(ta tv:TE)(f:Str):TS:=λD σ H=>tv σ H λy H1=>ta σ H1 λx H2=>∃a C dx fs,x=.ref a/\H2 a=some (.ins C dx fs)/\mD K C/\jk K C f/\fs.length<1000/\
 D.nx σ (upd H2 a (.ins C dx (cQ f y fs)))
def LW(X:Cx)(op:Operator)(rd:V->V->Hp->VK->Prop):Prop:=
 ∀(pins:List (Addr×Obj)) (s:Shared) (σ:St) (H:Hp) (x y:V) (u v:Value) (Q:VK),Inv X pins σ H s->RelV x u->RelV y v->rd x y H Q->wpAny (model X.prog X.w) X.A (inplaceOp op u v) (EP X pins σ Q) X.xe s
def U5(K:Frag)(ta tv:TE)(rd:V->V->Hp->VK->Prop)(f:Str):TS:=λD σ H=>ta σ H λx H1=>∃a C dx fs v,x=.ref a/\H1 a=some (.ins C dx fs)/\mD K C/\jk K C f/\fs.lookup f=some v/\
 tv σ H1 λy H2=>rd v y H2 λz H3=>∃dx' fs',H3 a=some (.ins C dx' fs')/\fs'.length<1000/\D.nx σ (upd H3 a (.ins C dx' (cQ f z fs')))
section
variable{X:Cx}{o e value:Expr}{f:Str}{pos pos' oS:Pos}{ta tv:TE}
theorem U6(he:PE X e ta)(hb:attributeBase e f X.env (eval e X.env)=eval e X.env):PE X (.Attribute e f pos) (U3 X.K ta f):=by
 intro pins s σ H Q I h;refine U1 hb (aQ (he pins s σ H _ I h) λu s1 ⟨x,H1,I1,rx,a,C,dx,fs,v,ex,ea,c,n,l,q⟩=>?_);subst ex;obtain rfl:u=Value.ref a:=rx;exact LU I1 ea c n l λu' s2 I2 ru=>⟨v,H1,I2,ru,q⟩
theorem qd(ha:PE X o ta)(hv:PE X value tv)(hs:swapsWith value (some (.Attribute o f pos')) pos.line X.env=pure false):PS X (.Assign [.Attribute o f pos'] value pos) (U4 X.K ta tv f):=by
 intro pins s σ H D I h;refine plainObj_wpAny_Assign_Attribute (aQ (hv pins s σ H _ I h) λu s1 ⟨y,H1,I1,ry,q⟩=>aQ (ha pins s1 σ H1 _ I1 q) λov s2 ⟨x,H2,I2,rx,a,C,dx,fs,ex,ea,c,n,l,q2⟩=>?_) hs;subst ex;obtain rfl:ov=Value.ref a:=rx;exact LV I2 ea c n l ry λs3 I3=>⟨σ,_,I3,q2⟩
theorem LX{op:Operator}{rd:V->V->Hp->VK->Prop}(ha:PE X o ta)(hv:PE X value tv)(hop:LW X op rd):PS X (.AugAssign (.Attribute o f oS) op value pos) (U5 X.K ta tv rd f):=by
 intro pins s σ H D I h;refine wpAny_AugAssign_AttributeAny (aQ (ha pins s σ H _ I h) λov s1 ⟨x,H1,I1,rx,a,C,dx,fs,v,ex,ea,c,n,l,q⟩=>?_);subst ex;obtain rfl:ov=Value.ref a:=rx;refine LU I1 ea c n l λu s2 I2 ru=>aQ (hv pins s2 σ H1 _ I2 q) λw3 s3 ⟨y,H2,I3,ry,q3⟩=>aQ (hop pins s3 σ H2 v y u w3 _ I3 ru ry q3) λw4 s4 ⟨z,H3,I4,rz,dx',fs',ea',l',q4⟩=>?_;exact LV I4 ea' c n l' rz λs5 I5=>⟨σ,_,I5,q4⟩
def U7:V->V->Hp->VK->Prop:=λx y H Q=>∃i j,x=.int i/\y=.int j/\Q (.int (i+j)) H
theorem LY:LW X .Add U7:=by
 rintro pins s σ H x y u v Q I rx ry ⟨i,j,rfl,rfl,q⟩;obtain⟨t,rfl⟩:=(show∃t,u=Value.int i t from rx);obtain⟨t',rfl⟩:=(show∃t',v=Value.int j t' from ry);exact PyProof.Rows.iadd_int ⟨.int (i+j),H,I.tok _,⟨_,rfl⟩,q⟩
end
structure dB(k:Nat)(A:Around):Prop where
 hd:A.handled=none
 dp:A.depth+3*k+5<recursionLimit
 un:A.units+16*k+200<cLine
theorem dB.mono{j k:Nat}{A:Around}(r:dB k A)(h:j<=k):dB j A:=⟨r.hd,by have:=r.dp;omega,by have:=r.un;omega⟩
theorem dB.deeper{k:Nat}{A:Around}(r:dB (k+1) A)(env:Env):dB k (A.deeper env):=
 ⟨r.hd,by have:=r.dp;show A.depth+1+3*k+5<_;omega,by have:=r.un;show A.units+3+16*k+200<_;omega⟩
theorem U8{A:Around}{C:Addr}{us:List Value}{kw:List (Str×Value)}:(A.under (.builtin "type.__call__" ⟨.ref C::us,kw⟩)).depth=A.depth+1:=by
 first|rfl|simp[Around.under,Code.weight,Code.isCreation,Code.isGuard,Code.isCaller,Code.frames,Code.isFrame,guardIds]
theorem U9{A:Around}{C:Addr}{us:List Value}{kw:List (Str×Value)}:(A.under (.builtin "type.__call__" ⟨.ref C::us,kw⟩)).units=A.units+1:=by
 first|rfl|simp[Around.under,Code.cUnits,Code.frames,Code.isFrame]
theorem dB.make{k:Nat}{A:Around}(r:dB (k+1) A)(C:Addr)(us:List Value)(kw:List (Str×Value)):dB k (A.under (.builtin "type.__call__" ⟨.ref C::us,kw⟩)):=
 ⟨r.hd,by have:=r.dp;rw[U8];omega,by have:=r.un;rw[U9];omega⟩
theorem dB.depth{k:Nat}{A:Around}(r:dB k A):A.depth<recursionLimit:=by have:=r.dp;omega
theorem dB.units{k:Nat}{A:Around}(r:dB k A):A.units+64<cLine:=by have:=r.un;omega
def xA:TA:=λ_ H Q=>Q [] H
def Va(ta:TE)(tr:TA):TA:=λσ H Q=>ta σ H λx H1=>tr σ H1 λxs H2=>Q (x::xs) H2
section
variable{X:Cx}{e:Expr}{es:List Expr}{te:TE}{t:TA}{pos:Pos}
theorem af:PA X [] xA:=λ_ _ _ _ H Q I h=>Calls.spliced_nil ⟨[],H,I,.nil,h⟩
theorem aa(ha:PE X e te)(hr:PA X es t)(hs:starEach (e::es) X.env=(false,eval e X.env)::starEach es X.env:=by rfl):PA X (e::es) (Va te t):=by
 intro pos pins s σ H Q I h;rw[hs];show wpAny _ _ (spliced ((false,eval e X.env)::backTo pos (starEach es X.env))) _ _ s;refine Calls.spliced_cons (aQ (ha pins s σ H _ I h) λu s1 ⟨x,H1,I1,r1,q1⟩=>?_);exact aQ (hr pos pins s1 σ H1 _ I1 q1) λus s2 ⟨xs,H2,I2,r2,q2⟩=>⟨x::xs,H2,I2,.cons r1 r2,q2⟩
def Vb(t:TA):TE:=λσ H Q=>t σ H λxs H1=>xs.length<=sizeLine/\∀p,H1 p=none->Q (.ref p) (upd H1 p (.tup xs))
def EU(t:TA):TE:=λσ H Q=>t σ H λxs H1=>xs.length<=sizeLine/\∀p,H1 p=none->Q (.ref p) (upd H1 p (.lst xs))
theorem gJ{x1}(h:PA X es t):PE X (.Tuple es x1 pos) (Vb t):=by
 intro pins s σ H Q I hq;refine wpAny_Tuple_spliced (aQ (h pos pins s σ H _ I hq) λus s1 ⟨xs,H1,I1,r,z,q⟩=>⟨by rw[<-r.length];exact z,?_⟩);have hf:H1 s1.heap.objs.size=none:=I1.aB.fresh (aF _);refine⟨.ref s1.heap.objs.size,upd H1 s1.heap.objs.size (.tup xs),I1.laid (t':=s1.toks) (λb u e=>cz _ e) (aF _) ?_,rfl,q _ hf⟩;exact⟨z,us,r,⟨_,fC _ rfl,rfl,_,rfl⟩⟩
theorem bL(h:PA X es t):PE X (.List es pos) (EU t):=by
 intro pins s σ H Q I hq;refine wpAny_List_spliced (aQ (h pos pins s σ H _ I hq) λus s1 ⟨xs,H1,I1,r,z,q⟩=>⟨by rw[<-r.length];exact z,?_⟩);have hf:H1 s1.heap.objs.size=none:=I1.aB.fresh (aF _);refine⟨.ref s1.heap.objs.size,upd H1 s1.heap.objs.size (.lst xs),I1.laid (t':=s1.toks) (λb u e=>cz _ e) (aF _) ?_,rfl,q _ hf⟩;exact⟨z,us,0,r,fC _ rfl⟩
end
abbrev Sp:=List V->Hp->VK->XK->Prop
abbrev mE:=List Env->Hp->Shared->XK->Value->Shared->Prop
structure qe(P:Program)(w:World)(K:Frag)(mg:Str->Option Value)(base:Heap)(A:Around)(outer:List Env)(s:Shared)(H:Hp):Prop where
 frames:A.frames=some outer
 mod:Mod K mg base
 bs:∀b o,base.get? b=some o->s.heap.get? b=some o/\H b=none
 lu:base.objs.size<=s.heap.objs.size
 jh:s.heap.FunFrames base outer
 nH:∀b∈iA outer,H b=none
 aB:bU P w H s.heap
 bare:AllBare s.gens
def CE(outer:List Env)(P:Program)(w:World)(H:Hp)(s:Shared)(Q:VK)(u:Value)(s':Shared):Prop:=
 ∃v H',s'.os=s.os/\AllBare s'.gens/\Un (iA outer) [] H H' s.heap s'.heap/\bU P w H' s'.heap/\RelV v u/\Q v H'
def CR(CX:mE)(outer:List Env)(P:Program)(w:World)(H:Hp)(s:Shared)(Q:VK)(E:XK)(r:Result)(s':Shared):Prop:=
 match r with
 | .ok (.ret u)=>CE outer P w H s Q u s'
 | .ok _=>False
 | .error e=>CX outer H s E e s'
structure cH(P:Program)(w:World)(K:Frag)(mg:Str->Option Value)(base:Heap)(CX:mE)(k:Nat)(f:Addr)(fd:FuncData)(ps:List Str)(sp:Sp):Prop where
 len:∀vs H Q E,sp vs H Q E->vs.length=ps.length
 run:∀(A:Around) (outer:List Env) (s:Shared) (H:Hp) (args:Args) (us:List Value) (vs:List V) (Q:VK) (E:XK),dB k A->qe P w K mg base A outer s H->BindsTo s fd args (ps.zip us)->Vals vs us->sp vs H Q E->
  codeAny (model P w) A (.call (.ref f) args) (CR CX outer P w H s Q E) s
theorem cH.mono{P:Program}{w:World}{K:Frag}{mg:Str->Option Value}{base:Heap}{CX:mE}{j k:Nat}{f:Addr}{fd:FuncData}{ps:List Str}{sp:Sp}(F:cH P w K mg base CX j f fd ps sp)(h:j<=k):
  cH P w K mg base CX k f fd ps sp:=⟨F.len,λA outer s H args us vs Q E hr=>F.run A outer s H args us vs Q E (hr.mono h)⟩
theorem qe.make{P:Program}{w:World}{K:Frag}{mg:Str->Option Value}{base:Heap}{A:Around}{outer:List Env}{s:Shared}{H:Hp}(e:qe P w K mg base A outer s H)(C:Addr)(us:List Value)(kw:List (Str×Value)):
  qe P w K mg base (A.under (.builtin "type.__call__" ⟨.ref C::us,kw⟩)) outer s H:=⟨by first|exact e.frames|(simpa[Around.under,Code.envs,Code.isFrame,pushEnvs]using e.frames),e.mod,e.bs,e.lu,e.jh,e.nH,e.aB,e.bare⟩
section
variable{X:Cx}{pins:List (Addr×Obj)}{σ:St}{H:Hp}{s s':Shared}
theorem Inv.LZ(I:Inv X pins σ H s):qe X.prog X.w X.K X.mg X.base X.A X.stack s H:=
 ⟨I.ok.frames,I.ok.mod,I.bs,aG I.ok.lu I.sz,I.stack,I.Ac,I.aB,I.bare⟩
theorem Inv.after{Q:VK}{u:Value}(I:Inv X pins σ H s)(h:CE X.stack X.prog X.w H s Q u s'):EP X pins σ Q u s':=by
 obtain⟨v,H',os,bare,un,aB,r,q⟩:=h;obtain⟨hh,g,d,t,os'⟩:=s';obtain rfl:os'=s.os:=os;exact⟨v,H',I.call (h':=hh) (g':=g) (d':=d) (t':=t) (ch:=[]) un aB bare (λb z=>absurd z (by simp)),r,q⟩
end
def EV(sp:Sp)(fk:List V)(E:XK)(t:TA):TE:=λσ H Q=>t σ H λvs H1=>sp (vs++fk) H1 Q E
def Vc(C:Addr)(m:Str)(sp:Sp)(fk:List V)(E:XK)(ta:TE)(t:TA):TE:=λσ H Q=>ta σ H λx H1=>∃a dx fs,x=.ref a/\H1 a=some (.ins C dx fs)/\fs.lookup m=none/\
 t σ H1 λvs H2=>sp (x::(vs++fk)) H2 Q E
def L0(C:Addr)(sp:Sp)(fk:List V)(E:XK)(t:TA):TE:=λσ H Q=>t σ H λvs H1=>∀x dx,H1 x=none->H1 dx=none->dx≠x->
 sp (.ref x::(vs++fk)) (upd (upd H1 dx (.own x)) x (.ins C dx [])) (λv H2=>v=.non/\Q (.ref x) H2) E
def Binds(K:Frag)(fd:FuncData)(ps:List Str)(ds:List Value):Prop:=
 ∀(s:Shared) (us:List Value),K.In s.heap->(us++ds).length=ps.length->BindsTo s fd ⟨us,[]⟩ (ps.zip (us++ds))
theorem Binds.all{K:Frag}{fd:FuncData}{ps:List Str}(h:∀us:List Value,us.length=ps.length->bindArgs fd ⟨us,[]⟩=pure (ps.zip us)):Binds K fd ps []:=λs us _ hl=>by
 rw[fW]at hl⊢;exact .of_eq (h us hl)
def Passes(CX:mE)(X:Cx)(E:XK):Prop:=∀(pins:List (Addr×Obj)) (σ:St) (H:Hp) (s:Shared) (e:Value) (s':Shared),Inv X pins σ H s->CX X.stack H s E e s'->X.xe e s'
section
variable{X:Cx}{CX:mE}{k:Nat}{f C:Addr}{fd:FuncData}{ps:List Str}{sp:Sp}{fk:List V}{ds:List Value}{E:XK}{x m:Str}{p pos apos:Pos}{e o:Expr}{es:List Expr}{ta:TE}{t:TA}
theorem Aq{pins:List (Addr×Obj)}{σ:St}{H:Hp}{s:Shared}{Q:VK}{us:List Value}{vs:List V}(F:cH X.prog X.w X.K X.mg X.base CX k f fd ps sp)(hr:dB k X.A)(hb:Binds X.K fd ps ds)(hd:Vals fk ds)(hx:Passes CX X E)
  (I:Inv X pins σ H s)(r:Vals vs us)(h:sp (vs++fk) H Q E):wpAny (model X.prog X.w) X.A (call (.ref f) us) (EP X pins σ Q) X.xe s:=by
 have r2:Vals (vs++fk) (us++ds):=r.append hd;have hl:(us++ds).length=ps.length:=by rw[<-r2.length];exact F.len _ _ _ _ h
 refine wpAny_call (C8 (F.run X.A X.stack s H ⟨us,[]⟩ (us++ds) (vs++fk) Q E hr I.LZ (hb s us I.gx hl) r2 h) λr s' hq=>?_);cases r with
 |error e=>exact hx pins σ H s e s' I hq
 |ok fl=>
  cases fl with
  |ret u=>exact I.after hq
  |next=>exact False.elim hq
  |brk=>exact False.elim hq
  |cont=>exact False.elim hq
theorem L1(F:cH X.prog X.w X.K X.mg X.base CX k f fd ps sp)(hr:dB k X.A)(hg:Gl X x)(hm:X.mg x=some (.ref f))(hk:PySem.W.keepIn X.K (.ref f)=true)(hb:Binds X.K fd ps ds)(hd:Vals fk ds)(hx:Passes CX X E)
  (ha:PA X (e::es) t)(iC:(x==("__debug__":Str))=false:=by decide)(he:starEach (e::es) X.env=(false,eval e X.env)::starEach es X.env:=by rfl)(dS:(backTo pos (starEach es X.env)).any (·.1)=false:=by rfl):
  PE X (.Call (.Name x p) (e::es) [] pos) (EV sp fk E t):=by
 intro pins s σ H Q I h;refine uD (sU I hg hm ?_ iC);refine JI (h₀:=X.base) I.ok.mod.kin hk (aQ (ha pos pins s σ H _ I h) λus s1 ⟨vs,H1,I1,r,q⟩=>⟨I1.gx,?_⟩) he dS;exact Aq F hr hb hd hx I1 r q
theorem oU{pl:Sem Bool}(he:PE X o ta)(c:mD X.K C)(hm:Meth X.K C m f)(F:cH X.prog X.w X.K X.mg X.base CX k f fd ps sp)(hr:dB k X.A)(hb:Binds X.K fd ps ds)(hd:Vals fk ds)(hx:Passes CX X E)
  (ht:eval (.Call (.Attribute o m apos) [] [] pos) X.env=(do
   let ov <-eval o X.env
   standAt apos.atName
   let(f,first) <-holding [ov] (getMethod ov m pl)
   callWith pos f first (backTo pos (starEach [] X.env)) (backToKw pos (keywordEach [] X.env))):=by rfl):
  PE X (.Call (.Attribute o m apos) [] [] pos) (Vc C m sp fk E ta xA):=by
 intro pins s σ H Q I h;refine PySem.W.methodCall_KW (pl:=pl) (aQ (he pins s σ H _ I h) λu s1 ⟨x,H1,I1,rx,a,dx,fs,ex,ea,l,q⟩=>?_) ht;subst ex;obtain rfl:u=Value.ref a:=rx;refine U0 I1 ea c hm l ?_;exact PySem.W.callWith_K0 (first:=[.ref a]) I1.gx hm.kp (Aq (us:=[.ref a]) (vs:=[.ref a]) F hr hb hd hx I1 (.cons rfl .nil) q)
structure Mk(K:Frag)(C f:Addr):Prop where
 makes:PySem.W.makesIn K C=true
 init:PySem.W.findIn K (.ref C) "__init__"=some (some (.ref f))
 fn:PySem.W.isFn K (.ref f)=true
 kp:PySem.W.keepIn K (.ref C)=true
theorem L3{pins:List (Addr×Obj)}{σ:St}{H:Hp}{s:Shared}{Q:VK}{us:List Value}{vs:List V}(M:Mk X.K C f)(F:cH X.prog X.w X.K X.mg X.base CX k f fd ps sp)(hr:dB (k+1) X.A)(hb:Binds X.K fd ps ds)(hd:Vals fk ds)
  (hx:Passes CX X E)(I:Inv X pins σ H s)(r:Vals vs us)
  (h:∀x dx,H x=none->H dx=none->dx≠x->sp (.ref x::(vs++fk)) (upd (upd H dx (.own x)) x (.ins C dx [])) (λv H2=>v=.non/\Q (.ref x) H2) E):
  wpAny (model X.prog X.w) X.A (call (.ref C) us) (EP X pins σ Q) X.xe s:=by
 have hq:=h (s.heap.objs.size+1) s.heap.objs.size (I.aB.fresh (JD _)) (I.aB.fresh (aF _)) (fT (JH _));have I2:=Inv.made (C:=C) I;have r2:Vals (V.ref (s.heap.objs.size+1)::(vs++fk)) (Value.ref (s.heap.objs.size+1)::(us++ds)):=.cons rfl (r.append hd);have hl:(Value.ref (s.heap.objs.size+1)::us++ds).length=ps.length:=by
  have e:=r2.length;rw[F.len _ _ _ _ hq]at e;exact e.symm
 refine wpAny_call (UX (f:=f) I.gx M.makes M.init (pK.mp M.fn) (C8 (F.run _ X.stack _ _ ⟨Value.ref (s.heap.objs.size+1)::us,[]⟩ (Value.ref (s.heap.objs.size+1)::(us++ds)) _ _ E (hr.make C us [])
  (I2.LZ.make C us []) (hb _ (Value.ref (s.heap.objs.size+1)::us) I2.gx hl) r2 hq) λr s' jT=>?_))
 cases r with
 |error e=>exact hx pins σ _ _ e s' I2 jT
 |ok fl=>
  cases fl with
  |ret u=>
   obtain⟨v,H',I3,rv,ev,q3⟩:=I2.after jT;subst ev;exact⟨rv,⟨V.ref (s.heap.objs.size+1),H',I3,rfl,q3⟩⟩
  |next=>exact False.elim jT
  |brk=>exact False.elim jT
  |cont=>exact False.elim jT
theorem qf(M:Mk X.K C f)(F:cH X.prog X.w X.K X.mg X.base CX k f fd ps sp)(hr:dB (k+1) X.A)(hg:Gl X x)(hm:X.mg x=some (.ref C))(hb:Binds X.K fd ps ds)(hd:Vals fk ds)(hx:Passes CX X E)
  (ha:PA X (e::es) t)(iC:(x==("__debug__":Str))=false:=by decide)(he:starEach (e::es) X.env=(false,eval e X.env)::starEach es X.env:=by rfl)(dS:(backTo pos (starEach es X.env)).any (·.1)=false:=by rfl):
  PE X (.Call (.Name x p) (e::es) [] pos) (L0 C sp fk E t):=by
 intro pins s σ H Q I h;refine uD (sU I hg hm ?_ iC);refine JI (h₀:=X.base) I.ok.mod.kin M.kp (aQ (ha pos pins s σ H _ I h) λus s1 ⟨vs,H1,I1,r,q⟩=>⟨I1.gx,?_⟩) he dS;exact L3 M F hr hb hd hx I1 r q
theorem Vd(M:Mk X.K C f)(F:cH X.prog X.w X.K X.mg X.base CX k f fd ps sp)(hr:dB (k+1) X.A)(hg:Gl X x)(hm:X.mg x=some (.ref C))(hb:Binds X.K fd ps ds)(hd:Vals fk ds)(hx:Passes CX X E)
  (iC:(x==("__debug__":Str))=false:=by decide):PE X (.Call (.Name x p) [] [] pos) (L0 C sp fk E xA):=by
 intro pins s σ H Q I h;refine uD (sU I hg hm ?_ iC);exact PySem.W.callWith_K0 I.gx M.kp (L3 (us:=[]) M F hr hb hd hx I .nil h)
end
structure aP(N P:List Str)(sc:Scope):Prop where
 kind:sc.kind=.function
 co:sc.isCoroutine=false
 gen:sc.isGenerator=false
 nd:N.Nodup
 pre:N.take P.length=P
 par:∀x∈P,sc.names.lookup x=some .local\/sc.names.lookup x=some .cell
 Ve:∀y∈sc.names,y.2≠ .free
theorem aV{N P:List Str}{sc:Scope}(a:sc.kind=.function:=by rfl)(b:sc.isCoroutine=false:=by rfl)(c:sc.isGenerator=false:=by rfl)(d:N.Nodup:=by decide+kernel)(e:N.take P.length=P:=by rfl)(f:∀x∈P,sc.names.lookup x=some .local\/sc.names.lookup x=some .cell:=by decide+kernel)(g:∀y∈sc.names,y.2≠ .free:=by decide+kernel):aP N P sc:=⟨a,b,c,d,e,f,g⟩
theorem L4{kindOf:Str->Option NameKind}{x:Str}:∀{binds:List (Str×Value)} {m:Str->Option Value},(∀v,(x,v)∉binds)->bindL kindOf binds m x=m x
 |[],_,_=>rfl
 |(n,v)::r,m,h=>by
  unfold bindL;rw[L4 λw hw=>h w (bg _ hw)];split
  .have:x≠n:=by rintro rfl;exact h v aZ
   simp[this]
  .rfl
theorem L5{kindOf:Str->Option NameKind}{x:Str}:∀{binds:List (Str×Value)} {m:Str->Option Value},(∀v,(x,v)∉binds)->bindC kindOf binds m x=m x
 |[],_,_=>rfl
 |(n,v)::r,m,h=>by
  unfold bindC;rw[L5 λw hw=>h w (bg _ hw)];split
  .rfl
  .have:x≠n:=by rintro rfl;exact h v aZ
   simp[this]
theorem L6{kindOf:Str->Option NameKind}{x:Str}{v:Value}:∀{P:List Str} {vs:List Value} {i:Nat} {m:Str->Option Value},P.Nodup->P[i]?=some x->vs[i]?=some v->kindOf x=some .local->
  bindL kindOf (P.zip vs) m x=some v
 |[],_,_,_,_,h,_,_=>by simp at h
 |_::_,[],_,_,_,_,h,_=>by simp at h
 |p::P,w::vs,0,m,nd,h1,h2,hk=>by
  simp at h1 h2;subst h1;subst h2;show bindL kindOf ((p,w)::P.zip vs) m p=_;unfold bindL;rw[L4 λv hv=>(qJ.mp nd).1 (C9 hv).1,aj hk];simp
 |p::P,w::vs,i+1,m,nd,h1,h2,hk=>by
  show bindL kindOf ((p,w)::P.zip vs) m x=_;unfold bindL;exact L6 (i:=i) (qJ.mp nd).2 (by simpa using h1) (by simpa using h2) hk
theorem L7{kindOf:Str->Option NameKind}{x:Str}{v:Value}:∀{P:List Str} {vs:List Value} {i:Nat} {m:Str->Option Value},P.Nodup->P[i]?=some x->vs[i]?=some v->kindOf x≠some .local->
  bindC kindOf (P.zip vs) m x=some v
 |[],_,_,_,_,h,_,_=>by simp at h
 |_::_,[],_,_,_,_,h,_=>by simp at h
 |p::P,w::vs,0,m,nd,h1,h2,hk=>by
  simp at h1 h2;subst h1;subst h2;show bindC kindOf ((p,w)::P.zip vs) m p=_;unfold bindC;rw[L5 λv hv=>(qJ.mp nd).1 (C9 hv).1,ai hk];simp
 |p::P,w::vs,i+1,m,nd,h1,h2,hk=>by
  show bindC kindOf ((p,w)::P.zip vs) m x=_;unfold bindC;exact L7 (i:=i) (qJ.mp nd).2 (by simpa using h1) (by simpa using h2) hk
def start(N:List Str)(vs:List V):St:=vs.map some++List.replicate (N.length-vs.length) none
def mF(CX:mE)(P:Program)(w:World)(K:Frag)(mg:Str->Option Value)(base:Heap)(N:List Str)(qual:Str)(scope:Scope)(f:Addr)(cd:Value)(A:Around)(outer:List Env)(s:Shared)(H:Hp)(E:XK):Cx where
 prog:=P
 w:=w
 K:=K
 mg:=mg
 base:=base
 A:=A.deeper (envOfC qual scope s.heap.objs.size f cd)
 N:=N
 fO:=s
 H_0:=H
 env:=envOfC qual scope s.heap.objs.size f cd
 outer:=outer
 stack:=envOfC qual scope s.heap.objs.size f cd::outer
 ex:=[]
 calm:=true
 fn:=λ_=>true
 pn:=[]
 xe:=λe s'=>wpAny (model P w) (A.deeper (envOfC qual scope s.heap.objs.size f cd)) (leaving (envOfC qual scope s.heap.objs.size f cd) e) (λ_ s''=>CX outer H s E e s'') (λe' s''=>CX outer H s E e' s'') s'
theorem L8{sc:Scope}{n:Nat}{x:Str}(h:sc.names.lookup x=some .cell):∃c,(cellsFrom n sc.names []).lookup x=some c:=by
 have q:=abU sc.names n [] (.inl h);exact RA.mp q
theorem Vf{CX:mE}{P:Program}{w:World}{K:Frag}{mg:Str->Option Value}{base:Heap}{N ps:List Str}{qual:Str}{scope:Scope}{f:Addr}{cd:Value}{A:Around}{outer:List Env}{s s1:Shared}{H:Hp}{E:XK}{us:List Value}{vs:List V}
  (S:aP N ps scope)(hd:A.handled=none)(e0:qe P w K mg base A outer s H)(hl:vs.length=ps.length)(r:Vals vs us)
  (x:InCallC s s.heap.objs.size (bindL (envOfC qual scope s.heap.objs.size f cd).kindOf (ps.zip us) λ_=>none) (cellsFrom (s.heap.objs.size+1) scope.names []) (bindC (envOfC qual scope s.heap.objs.size f cd).kindOf (ps.zip us) λ_=>none) s1):
  Inv (mF CX P w K mg base N qual scope f cd A outer s H E) [] (start N vs) H s1:=by
 have dS:ps.length<=N.length:=by have:=e8 List.length S.pre;rw[pL]at this;omega
 obtain⟨h1,tk,rfl,hk⟩:=x.done;have noA:∀b:Addr,b∉(mF CX P w K mg base N qual scope f cd A outer s H E).ex:=λb z=>absurd (show b∈([]:List Addr)from z) (by simp);refine⟨⟨e0.mod,S.kind,rfl,rfl,aF _,λy z c h1 h2=>?_,λy hy=>?_,λy c _ h=>?_,λ_=>hd,Around.frames_deeper e0.frames,.inr ⟨rfl,rfl⟩,λb z=>absurd z (noA b),e0.bs,e0.lu,λb _ _=>noA b,λb z=>absurd z (noA b),e0.jh,e0.nH⟩,
  rfl,e0.bare,Un.kept hk,⟨_,x.toInCall.ns,λi y v h1 h2 h3=>?_⟩,λy c h=>⟨_,x.cell y c h⟩,e0.aB.fresh (aF _),λy c h=>?_,λp hp=>absurd (show p∈([]:List (Addr×Obj))from hp) (by simp),e0.aB.kept hk,?_⟩
 .exact name_of_addr x.apart (kR h1) (kR h2)
 .have hy:scope.names.lookup y=some .cell\/scope.names.lookup y=some .free:=hy
  rcases hy with hy|hy
  .exact L8 hy
  .exact absurd rfl (S.Ve _ (kR hy))
 .exact zm (x.above y c (kR h))
 .have hi:i<vs.length:=by
   unfold start at h2;by_cases hi:i<vs.length
   .exact hi
   .rw[r8 (by simpa using hi)]at h2
    rw[qI]at h2;split at h2<;>cases h2
  have ha:vs[i]?=some v:=by
   unfold start at h2;rw[zh (by simpa using hi),fK]at h2;cases e:vs[i]? with
   |none=>rw[e]at h2;cases h2
   |some a=>rw[e]at h2;cases h2;rfl
  obtain⟨u,hu,rv⟩:=r.get ha;have hp:ps[i]?=some y:=by
   rw[<-S.pre,List.getElem?_take_of_lt (by omega)];exact h1
  have ndP:ps.Nodup:=by rw[<-S.pre];exact S.nd.sublist (List.take_sublist _ _)
  refine⟨u,rv,?_⟩;rcases S.par y (cE hp)with k|k
  .exact .inl ⟨k,L6 ndP hp hu k⟩
  .obtain⟨c,e⟩:=L8 (n:=s.heap.objs.size+1) k
   refine .inr ⟨.inl k,c,e,?_⟩;have q:=x.cell y c e;rw[L7 ndP hp hu (by show scope.names.lookup y≠_;rw[k];decide)]at q;exact q
 .exact e0.aB.fresh (zm (x.above y c (kR h)))
 .unfold start
  show _=N.length;rw[aX,aK,i9];omega
theorem EW{CX:mE}{P:Program}{w:World}{K:Frag}{mg:Str->Option Value}{base:Heap}{k:Nat}{f:Addr}{name qual:Str}{params:Arguments}{body:List Stmt}{scope:Scope}{dV kV doc pm cdv ct oc:Value}{an od:Option Addr}
  {ku:Array (Option Value)}{N ps:List Str}{sp:Sp}(lk:K.lookup f=some ⟨oc,od,.func (PySem.W.fnOf name qual params body scope dV kV doc pm an cdv ct),ku⟩)(fY:PySem.W.codeIn K cdv qual=true)(S:aP N ps scope)
  (len:∀vs H Q E,sp vs H Q E->vs.length=ps.length)
  (qg:∀(A:Around) (outer:List Env) (s:Shared) (H:Hp) (vs:List V) (Q:VK) (E:XK),dB k (A.deeper (envOfC qual scope s.heap.objs.size f cdv))->sp vs H Q E->
   ∃t,fX (mF CX P w K mg base N qual scope f cdv A outer s H E) body t/\t {nx:=λ_ H'=>Q .non H',rt:=Q} (start N vs) H):
  cH P w K mg base CX (k+1) f (PySem.W.fnOf name qual params body scope dV kV doc pm an cdv ct) ps sp:=by
 refine⟨len,λA outer s H args us vs Q E hr e0 hb r gS=>?_⟩;have hl:=len _ _ _ _ gS;have KX:K.In s.heap:=e0.mod.kin.keeps λb o e=>(e0.bs b o e).1;have lim:s.heap.NoLimit:=e0.mod.nolimit.keeps λb o e=>(e0.bs b o e).1;have Vg:∀y∈ps.zip us,scope.names.lookup y.1=some .local\/(scope.names.lookup y.1=some .cell/\((cellsFrom (s.heap.objs.size+1) scope.names []).lookup y.1).isSome=true):=λ⟨n,v⟩ hy=>by
  rcases S.par n (C9 hy).1 with q|q
  .exact .inl q
  .exact .inr ⟨q,abU _ _ _ (.inl q)⟩
 refine codeAny_call_function hr.depth (KX _ _ lk) rfl S.co S.gen rfl (PySem.W.codeRec_of KX fY) (hb _ _ _ _ ?_);refine wpAny_newFunctionEnv_cells S.kind Vg λenv he s1 x=>?_;subst he;refine⟨lim.keeps x.toInCall.keep,codeAny_func ?_⟩;obtain⟨t,ht,hq⟩:=qg A outer s H vs Q E (hr.deeper _) gS;have I:Inv (mF CX P w K mg base N qual scope f cdv A outer s H E) [] (start N vs) H s1:=Vf S hr.hd e0 hl r x;refine g8 (ht [] s1 (start N vs) H _ I hq) (λfl s' hs=>?_) λe s' hs=>hs;have fin:∀{σ':St} {H':Hp} {v:V} {u:Value},Inv (mF CX P w K mg base N qual scope f cdv A outer s H E) [] σ' H' s'->RelV v u->Q v H'->CE outer P w H s Q u s':=
  λ{σ' H' v u} J rv q=>⟨v,H',J.os,J.bare,J.base,J.aB,rv,q⟩
 cases fl with
 |ret u=>
  obtain⟨v,σ',H',J,rv,q⟩:=hs;exact fin J rv q
 |next=>
  obtain⟨σ',H',J,q⟩:=hs;exact fin (v:=V.non) (u:=Value.none) J rfl q
 |brk=>
  obtain⟨_,_,_,q⟩:=hs;exact False.elim q
 |cont=>
  obtain⟨_,_,_,q⟩:=hs;exact False.elim q
section
variable{X:Cx}{x:Str}{p pos:Pos}{e:Expr}{es:List Expr}{t:TA}{id T:String}{r:List V->Hp->VK->Prop}
def tCB(r:List V->Hp->VK->Prop)(t:TA):TE:=λσ H Q=>t σ H λvs H1=>r vs H1 Q
theorem fF(hc:kr X (.builtin id) r)(hg:Gl X x)(hm:X.mg x=none)(hv:bootBuiltins x=some (.builtin id))(ha:PA X (e::es) t)(hn:x≠"__name__":=by decide)(iC:(x==("__debug__":Str))=false:=by decide)
  (he:starEach (e::es) X.env=(false,eval e X.env)::starEach es X.env:=by rfl)(dS:(backTo pos (starEach es X.env)).any (·.1)=false:=by rfl):PE X (.Call (.Name x p) (e::es) [] pos) (tCB r t):=by
 intro pins s σ H Q I h;refine uD (uU I hg hm hv ?_ hn iC);exact PyProof.Rows.callWith_builtin1 (aQ (ha pos pins s σ H _ I h) λus s1 ⟨vs,H1,I1,r1,q1⟩=>hc pins s1 σ H1 vs us Q I1 r1 q1) he dS
theorem Ar(hc:kr X (.type T) r)(hg:Gl X x)(hm:X.mg x=none)(hv:bootBuiltins x=some (.type T))(ha:PA X (e::es) t)(hn:x≠"__name__":=by decide)(iC:(x==("__debug__":Str))=false:=by decide)
  (he:starEach (e::es) X.env=(false,eval e X.env)::starEach es X.env:=by rfl)(dS:(backTo pos (starEach es X.env)).any (·.1)=false:=by rfl):PE X (.Call (.Name x p) (e::es) [] pos) (tCB r t):=by
 intro pins s σ H Q I h;refine uD (uU I hg hm hv ?_ hn iC);exact C7 (aQ (ha pos pins s σ H _ I h) λus s1 ⟨vs,H1,I1,r1,q1⟩=>hc pins s1 σ H1 vs us Q I1 r1 q1) he dS
end
end L2
namespace HT
open PySem PyProof.Rows
def lexLt:List Int->List Int->Bool
 |[],[]=>false
 |[],_::_=>true
 |_::_,[]=>false
 |x::xs,y::ys=>if x=y then lexLt xs ys else decide (x<y)
theorem Ma(x y:Int)(xs ys:List Int):lexLt (x::xs) (y::ys)=if x=y then lexLt xs ys else decide (x<y):=rfl
theorem Vh:lexLt [] []=false:=rfl
theorem Vi(y:Int)(ys:List Int):lexLt [] (y::ys)=true:=rfl
theorem Vj(x:Int)(xs:List Int):lexLt (x::xs) []=false:=rfl
theorem Vk(A:Around)(s:Shared)(a:Int)(t:Tok)(c:Int)(u:Tok):∃e,SeqAt.EqAt A s (.int a t) (.int c u) e/\(e=true↔a=c):=
 ⟨(a==c),RB a t c u,by simp⟩
theorem Mb(A:Around)(s:Shared)(a:Int)(t:Tok)(c:Int)(u:Tok)(prog:Program)(w:World)(E:Value->Shared->Prop)(Q:Value->Shared->Prop)(h:Q (.bool (decide (a<c))) s):
  wpAny (model prog w) A (richCompare .Lt (.int a t) (.int c u)) Q E s:=
 (PyProof.Rows.lt_int h:wpAny (model prog w) A (compareOp .Lt (.int a t) (.int c u)) Q E s)
section
open PySem.SeqAt
open PySem.AutoSeq1 (wpAny_loadPart')
open PySem.MeetsSeq PySem.MeetsSeq2 PySem.MeetsSeq3
theorem Vl(l b:Addr)(items gT:Array Value)(n n2:Nat)(dd mH:Option Addr)(sl mJ:Array (Option Value))(ns ms:List Int)(hi:IntsAre items.toList ns)(hj:IntsAre gT.toList ms):
  Meets (Builtin.«tuple.__lt__» ⟨[.ref l,.ref b],[]⟩)
   (λ_ R s=>s.heap.get? l=some {cls:=.type "tuple",dict:=dd,data:=.seq items n,slots:=sl}/\s.heap.get? b=some {cls:=.type "tuple",dict:=mH,data:=.seq gT n2,slots:=mJ}/\
    R (.ok (.ret (.bool (lexLt ns ms)))) s):=
 .of_wp λprog w A R s h=>by
  obtain⟨hp,g,d,tk,os⟩:=s;obtain⟨hl,hb,h⟩:=h;have f2:=RC;have z1:items.size=ns.length:=by rw[<-hi.length];simp
  have z2:gT.size=ms.length:=by rw[<-hj.length];simp
  wp_walk using wpAny_loadPart' hl,wpAny_loadPart' hb,RD _ (λrest b s'=>b.1=none/\s'=⟨hp,g,d,tk,os⟩/\∃(vs ws:List Value) (ns' ms':List Int),rest=vs.zip ws/\
   IntsAre vs ns'/\IntsAre ws ms'/\ns'.length+gT.size=ms'.length+items.size/\R (.ok (.ret (.bool (lexLt ns' ms')))) ⟨hp,g,d,tk,os⟩) _
  case turn=>
   rintro⟨y,x⟩ rest b s' ⟨jl,rfl,vs,ws,ns',ms',hz,hvi,iE,hlen,hR⟩;cases hvi with
   |nil=>rw[List.zip_nil_left]at hz;cases hz
   |cons a t Vm=>
    cases iE with
    |nil=>rw[List.zip_nil_right]at hz;cases hz
    |cons c u Vn=>
     rw[zj]at hz;injection hz with hyx Vo
     injection hyx with hy hx
     subst hy hx;rw[Ma]at hR;simp only[bT]at hlen;obtain⟨e,he,Mc⟩:=Vk A.in1 ⟨hp,g,d,tk,os⟩ a t c u;refine ao (he prog w _ _ ?_);cases e with
     |true=>
      rw[aj (Mc.mp rfl)]at hR
      wp_walk
      exact⟨rfl,rfl,_,_,_,_,Vo,Vm,Vn,by omega,hR⟩
     |false=>
      rw[ai (λq=>absurd (Mc.mpr q) dP)]at hR;have hri:=Mb A.in1 ⟨hp,g,d,tk,os⟩ a t c u prog w
      wp_walk using hri
      exact⟨_,rfl,by simpa using hR⟩
  case fin=>
   rintro⟨b1,b2⟩ s' ⟨jl,rfl,vs,ws,ns',ms',hz,hvi,iE,hlen,hR⟩;simp only at jl;subst jl;have hv:lexLt ns' ms'=decide (items.size<gT.size):=by
    cases hvi with
    |nil=>
     cases iE with
     |nil=>
      simp only[zp]at hlen;rw[Vh];exact(bZ (by omega)).symm
     |cons c u hw=>
      simp only[zp,bT]at hlen;rw[Vi];exact(cT (by omega)).symm
    |cons a t hv=>
     cases iE with
     |nil=>
      simp only[zp,bT]at hlen;rw[Vj];exact(bZ (by omega)).symm
     |cons c u hw=>
      rw[zj]at hz;cases hz
   rw[hv]at hR
   wp_walk
   exact⟨_,rfl,by simpa[Builtin.Tuple.tupleCompareSizes]using hR⟩
  case h=>
   exact⟨rfl,rfl,items.toList,gT.toList,ns,ms,rfl,hi,hj,by omega,h⟩
end
section
variable{prog:Program}{w:World}{A:Around}{E:Value->Shared->Prop}{s:Shared}
theorem Vp{l b:Addr}{items gT:Array Value}{ns ms:List Int}{Q:Value->Shared->Prop}(hl:IsTup s.heap l items)(hb:IsTup s.heap b gT)(hi:IntsAre items.toList ns)(hj:IntsAre gT.toList ms)
  (hu:A.units<cLine)(h:Q (.bool (lexLt ns ms)) s):wpAny (model prog w) A (compareOp .Lt (.ref l) (.ref b)) Q E s:=by
 obtain⟨⟨cls,dd,data,sl⟩,ho,hc,n,hd⟩:=id hl;obtain⟨⟨Me,mH,data2,mJ⟩,ho2,dD,n2,hd2⟩:=id hb;simp only at hc hd dD hd2;subst hc hd dD hd2;exact richCompare_meets_room (op:=.Lt) ⟨_,ho,rfl⟩ ⟨_,ho2,rfl⟩ abV abW (abX _ _) (Vl l b items gT n n2 dd mH sl mJ ns ms hi hj)
  ⟨ho,ho2,show Value.bool (lexLt ns ms)≠Value.notImplemented/\Q (.bool (lexLt ns ms)) s from⟨(λx=>nomatch x),h⟩⟩ hu
theorem Vq{t b:Addr}{vs ws:List Value}{Q:Value->Shared->Prop}(ht:IsTup s.heap t vs.toArray)(hb:IsTup s.heap b ws.toArray)(hv:vs≠[])
  (h1:ws=[]->Q (.ref t) s)(h2:ws≠[]->Q (.ref s.heap.objs.size) {s with heap:=s.heap.push {cls:=.type "tuple",data:=.seq (vs++ws).toArray}})
  (hsz:vs.length+ws.length<=sizeLine):wpAny (model prog w) A (binaryOp .Add (.ref t) (.ref b)) Q E s:=by
 obtain⟨⟨cls,dd,data,sl⟩,ho,hc,n,hd⟩:=id ht;obtain⟨⟨Me,mH,data2,mJ⟩,ho2,dD,n2,hd2⟩:=id hb;simp only at hc hd dD hd2;subst hc hd dD hd2;have e:vs.toArray++ws.toArray=(vs++ws).toArray:=by simp
 by_cases hw:ws=[]
 .exact concat_meets ⟨_,ho,rfl⟩ ⟨_,ho2,rfl⟩ RE seq_tuple_add RG RH (RI _ _)
   (tuple_addW1 t b vs.toArray ws.toArray n n2 dd mH sl mJ (by simpa using hv) (by simp[hw])) ⟨ho,ho2,h1 hw⟩
 .refine concat_meets ⟨_,ho,rfl⟩ ⟨_,ho2,rfl⟩ RE seq_tuple_add RG RH (RI _ _)
   (tuple_addW2 t b vs.toArray ws.toArray n n2 dd mH sl mJ (by simpa using hv) (by simpa using hw) (by rw[cO,cO];exact hsz)) ⟨ho,ho2,?_⟩
  rw[e];exact h2 hw
def bJ(n d:Nat):Option Int->Nat
 |none=>d
 |some v=>if v<0 then(v+(n:Int)).toNat else min v.toNat n
theorem Mf(n d:Nat):bJ n d none=d:=rfl
theorem uX(n d k:Nat):bJ n d (some (k:Int))=min k n:=by
 show(if(k:Int)<0 then((k:Int)+(n:Int)).toNat else min (k:Int).toNat n)=min k n;rw[ai (by omega),oz]
theorem Vr(n d:Nat)(hd:d<=n)(o:Option Int):bJ n d o<=n:=by
 cases o with
 |none=>exact hd
 |some v=>
  show(if v<0 then(v+(n:Int)).toNat else min v.toNat n)<=n;by_cases hv:v<0
  .rw[aj hv];omega
  .rw[ai hv];exact Nat.min_le_right _ _
theorem Mg(v:Int)(n d:Nat):(if v<0 then max (v+(n:Int)) 0 else min v (n:Int))=((bJ n d (some v):Nat):Int):=by
 show(if v<0 then max (v+(n:Int)) 0 else min v (n:Int))=(((if v<0 then(v+(n:Int)).toNat else min v.toNat n):Nat):Int);by_cases hv:v<0
 .simp only[aj hv];omega
 .simp only[ai hv];omega
theorem Vs(lo hi:Option Int)(n:Nat):Builtin.Slice.sliceAdjust lo hi 1 (n:Int)=(((bJ n 0 lo:Nat):Int),((bJ n n hi:Nat):Int)):=by
 have h1:¬((1:Int)<0):=by omega
 unfold Builtin.Slice.sliceAdjust;simp only[h1,qN];refine Prod.ext ?_ ?_
 .cases lo with
  |none=>rfl
  |some v=>exact Mg v n 0
 .cases hi with
  |none=>rfl
  |some v=>exact Mg v n n
theorem Vt(i j:Nat):Builtin.Slice.slicePlaces (i:Int) (j:Int) 1=j-i:=by
 unfold Builtin.Slice.slicePlaces;have h1:(1:Int)>0:=by omega
 simp only[h1,pM,Int.ediv_one];split<;>omega
theorem Mh{v:Value}{o:Option Int}{Q:Option Int->Shared->Prop}(p:IsPart v o)(h:Q o s):wpAny (model prog w) A (Builtin.Slice.slicePartIndex v) Q E s:=by
 cases p with
 |none=>exact slicePart_none h
 |int i t=>exact slicePart_int h
theorem Vu{sl:Addr}{vl vu:Value}{lo hi:Option Int}{n:Nat}{Q:Int×Int×Nat->Shared->Prop}(hs:s.heap.IsSliceOf sl vl vu .none)(pl:IsPart vl lo)(pu:IsPart vu hi)
  (h:Q (((bJ n 0 lo:Nat):Int),1,bJ n n hi-bJ n 0 lo) s):wpAny (model prog w) A (Builtin.Slice.sliceApplied (.ref sl) (pure (n:Int))) Q E s:=by
 obtain⟨os,hos,nK,hds⟩:=id hs;unfold Builtin.Slice.sliceApplied Builtin.Slice.sliceFields;refine ao (ao (gE hos hds (x:=vl) rfl (ao (gE hos hds (x:=vu) rfl (ao (gE hos hds (x:=.none) rfl (bu ?_)))))));refine ao (slicePart_none ?_);show wpAny _ _ (if((1:Int)==0)=true then _ else _) _ _ s;rw[ai (by decide)];refine ao (Mh pl (ao (Mh pu (ao (bu ?_)))));show wpAny _ _ (match Builtin.Slice.sliceAdjust lo hi 1 (n:Int)with|(lo,hi)=>pure (lo,(1:Int),Builtin.Slice.slicePlaces lo hi 1)) _ _ s;rw[Vs lo hi n];show wpAny _ _ (pure (((bJ n 0 lo:Nat):Int),(1:Int),Builtin.Slice.slicePlaces ((bJ n 0 lo:Nat):Int) ((bJ n n hi:Nat):Int) 1)) _ _ s;rw[Vt];exact bu h
theorem Vv(xs:Array Value)(i k:Nat):((List.range k).filterMap λ(m:Nat)=>xs[((i:Int)+(m:Int)*1).toNat]?).toArray=((xs.toList.drop i).take k).toArray:=by
 have e:(λ(m:Nat)=>xs[((i:Int)+(m:Int)*1).toNat]?)=λm=>xs[i+m]?:=by
  funext m
  have:((i:Int)+(m:Int)*1).toNat=i+m:=by omega
  rw[this]
 rw[e];have:=pick_run xs i k;rw[List.filterMap_map]at this;have e2:((λx=>xs[x]?)∘λx=>i+x)=λm=>xs[i+m]?:=rfl;rw[e2]at this;rw[this]
theorem Vw{t sl:Addr}{items:Array Value}{vl vu:Value}{lo hi:Option Int}{Q:Value->Shared->Prop}(ht:IsTup s.heap t items)(hs:s.heap.IsSliceOf sl vl vu .none)(pl:IsPart vl lo)(pu:IsPart vu hi)
  (hw:¬(bJ items.size 0 lo=0/\bJ items.size items.size hi=items.size))
  (h:Q (.ref s.heap.objs.size) {s with heap:=s.heap.push {cls:=.type "tuple",data:=.seq ((items.toList.drop (bJ items.size 0 lo)).take (bJ items.size items.size hi-bJ items.size 0 lo)).toArray}})
  (hsz:items.size<=sizeLine):wpAny (model prog w) A (getItem (.ref t) (.ref sl)) Q E s:=by
 have As:sizeOk (.seq ((items.toList.drop (bJ items.size 0 lo)).take (bJ items.size items.size hi-bJ items.size 0 lo)).toArray):=by
  show((items.toList.drop (bJ items.size 0 lo)).take (bJ items.size items.size hi-bJ items.size 0 lo)).toArray.size<=sizeLine;rw[cO,pL,pN,Rx];omega
 have hj:bJ items.size items.size hi<=items.size:=Vr _ _ (aF _) hi;obtain⟨os,hos,nK,hds⟩:=id hs;have hTs:s.TypeIs (.ref sl) "slice":=⟨os,hos,nK⟩;unfold getItem
 try with_reducible refine zo ?_
 first|refine ao (bu ?_)|skip
 refine ao (wpAny_sequenceKey ht.typeIs (by decide) ?_);refine ao (wo (name:=Str.ofString "__getitem__") ht.typeIs Dc
  (uE Dc ht.typeIs entry_tuple_getitem ?_ (args_tuple_getitem _ _)))
 show wpAny _ _ (Builtin.Tuple.tupleItemsOf (.ref t)>>=_) _ _ s;refine ao (tupleItemsOf_ ht ?_);refine ao (wpAny_typeOf hTs ?_);rw[aj (by decide)];refine ao (Vu hs pl pu ?_);have hno:¬((((bJ items.size 0 lo:Nat):Int)==0&&(1:Int)==1&&(bJ items.size items.size hi-bJ items.size 0 lo)==items.size)=true):=by
  intro q;rw[cV,cV]at q;have q1:((bJ items.size 0 lo:Nat):Int)=0:=eq_of_beq q.1.1;have q2:bJ items.size items.size hi-bJ items.size 0 lo=items.size:=eq_of_beq q.2;exact hw ⟨by omega,by omega⟩
 show wpAny _ _ (if(((bJ items.size 0 lo:Nat):Int)==0&&(1:Int)==1&&(bJ items.size items.size hi-bJ items.size 0 lo)==items.size)=true then _ else _) _ _ s;rw[ai hno,Vv]
 first
  |exact ao (m:=Builtin.Tuple.tupleExact _) (l5 (bu ⟨_,rfl,bu h⟩) As)
  |exact ao (m:=Builtin.Tuple.tupleExact _) (l5 (ao (bu (bu ⟨_,rfl,bu h⟩))) As)
  |exact ao (ao (m:=Builtin.Tuple.tupleExact _) (l5 (bu (bu ⟨_,rfl,bu h⟩)) As))
  |exact ao (ao (m:=Builtin.Tuple.tupleExact _) (l5 (bu ⟨_,rfl,bu h⟩) As))
end
end HT
namespace L2
open PySem PySem.Spec PyProof.Rows
abbrev TO:=St->Hp->(Option Int->Hp->Prop)->Prop
def PO(X:Cx)(e:Option Expr)(t:TO):Prop:=
 ∀(pins:List (Addr×Obj)) (s:Shared) (σ:St) (H:Hp) (Q:Option Int->Hp->Prop),Inv X pins σ H s->t σ H Q->
  wpAny (model X.prog X.w) X.A (evalPart e X.env) (λu s'=>∃o H',Inv X pins σ H' s'/\IsPart u o/\Q o H') X.xe s
def Vx:TO:=λ_ H Q=>Q none H
def Vy(t:TE):TO:=λσ H Q=>t σ H λx H1=>∃i,x=.int i/\Q (some i) H1
theorem intsAre_of{ns:List Int}:∀{us:List Value},Vals (ns.map V.int) us->IntsAre us ns:=by
 induction ns with
 |nil=>intro us r;rw[zq]at r;cases r;exact .nil
 |cons n ns ih=>
  intro us r;rw[cD]at r;cases r with
  |cons r1 r2=>
   obtain⟨t,e⟩:=r1;subst e;exact .cons n t (ih r2)
section
variable{X:Cx}{e:Expr}{te:TE}{lo hi:Option Expr}{tl th:TO}{pos p2:Pos}
theorem EY:PO X none Vx:=by
 intro pins s σ H Q I h;rw[evalPart_none];exact bu ⟨none,H,I,.none,h⟩
theorem xB(h:PE X e te):PO X (some e) (Vy te):=by
 intro pins s σ H Q I hw;rw[evalPart_some];refine aQ (h pins s σ H _ I hw) λu s1 ⟨x,H1,I1,r1,q1⟩=>?_;obtain⟨i,rfl,q⟩:=q1;obtain⟨t,rfl⟩:=r1;exact⟨some i,H1,I1,.int i t,q⟩
def SlR(X:Cx)(r:V->Option Int->Option Int->Hp->VK->Prop):Prop:=
 ∀(pins:List (Addr×Obj)) (s:Shared) (σ:St) (H:Hp) (x:V) (v vl vu:Value) (lo hi:Option Int) (sl:Addr) (Q:VK),Inv X pins σ H s->RelV x v->s.heap.IsSliceOf sl vl vu .none->IsPart vl lo->IsPart vu hi->r x lo hi H Q->
  ∃T id,typeLookup (.type T) "__getitem__"=pure (some (.builtin id))/\s.TypeIs v T/\wpAny (model X.prog X.w) X.A (getItem v (.ref sl)) (EP X pins σ Q) X.xe s
def tSl(r:V->Option Int->Option Int->Hp->VK->Prop)(te:TE)(tl th:TO):TE:=λσ H Q=>te σ H λx H1=>tl σ H1 λl H2=>th σ H2 λu H3=>r x l u H3 Q
theorem Au{r:V->Option Int->Option Int->Hp->VK->Prop}(hr:SlR X r)(he:PE X e te)(hl:PO X lo tl)(hu:PO X hi th):PE X (.Subscript e (.Slice lo hi none p2) pos) (tSl r te tl th):=by
 intro pins s σ H Q I h;refine Subscript_ (aQ (he pins s σ H _ I h) λv s1 ⟨x,H1,I1,r1,q1⟩=>?_);refine wpAny_Slice (aQ (hl pins s1 σ H1 _ I1 q1) λvl s2 ⟨l,H2,I2,pl,q2⟩=>aQ (hu pins s2 σ H2 _ I2 q2) λvu s3 ⟨u,H3,I3,pu,q3⟩=>?_);rw[evalPart_none];refine bu ?_;have I4:Inv X pins σ H3 {s3 with heap:=s3.heap.push {cls:=.type "slice",data:=.fields #[vl,vu,.none]}}:=I3.kept (t':=s3.toks) λb ob q=>cz _ q;obtain⟨T,id,hT,ht,hg⟩:=hr pins {s3 with heap:=s3.heap.push {cls:=.type "slice",data:=.fields #[vl,vu,.none]}} σ H3 x v vl vu l u s3.heap.objs.size Q I4 r1 (Heap.IsSliceOf.new ..) pl pu q3;show wpAny (model X.prog X.w) X.A (subscriptTail e (.Slice lo hi none p2) v (.ref s3.heap.objs.size)) (EP X pins σ Q) X.xe {s3 with heap:=s3.heap.push {cls:=.type "slice",data:=.fields #[vl,vu,.none]}};exact tail_any (ops:=[.ref s3.heap.objs.size,v]) ht hT hg (by with_unfolding_all rfl)
def mK(xs:List V)(lo hi:Option Int):List V:=(xs.drop (HT.bJ xs.length 0 lo)).take (HT.bJ xs.length xs.length hi-HT.bJ xs.length 0 lo)
theorem Mi(xs:List V)(lo hi:Option Int):(mK xs lo hi).length<=xs.length:=by
 unfold mK;rw[pL,pN];omega
@[irreducible] def uY(K:Frag):V->Option Int->Option Int->Hp->VK->Prop:=λx lo hi H Q=>∃a xs,x=.ref a/\aM K H a xs/\
 ¬(HT.bJ xs.length 0 lo=0/\HT.bJ xs.length xs.length hi=xs.length)/\∀p,H p=none->Q (.ref p) (upd H p (.tup (mK xs lo hi)))
theorem EZ:SlR X (uY X.K):=by
 unfold uY;intro pins s σ H x v vl vu lo hi sl Q I rx hs pl pu h;obtain⟨a,xs,rfl,hx,hw,q⟩:=h;cases rx;obtain⟨ah,r,ht,hz⟩:=I.tuple hx;have hlen:ah.toArray.size=xs.length:=by rw[cO];exact r.length.symm
 refine⟨"tuple",_,Dc.lookup,ht.typeIs,?_⟩;refine HT.Vw ht hs pl pu (by rw[hlen];exact hw) ?_ (by rw[hlen];exact hz);rw[hlen];refine⟨.ref s.heap.objs.size,_,I.laid (t':=s.toks) (o:=.tup (mK xs lo hi)) (λb ob q=>cz _ q) (aF _) ?_,rfl,q _ (I.aB.fresh (aF _))⟩;exact⟨aG (Mi xs lo hi) hz,_,(r.drop (HT.bJ xs.length 0 lo)).take (HT.bJ xs.length xs.length hi-HT.bJ xs.length 0 lo),IsTup.new _ _⟩
@[irreducible] def sZ(K:Frag):R2:=λx y H Q=>∃a b xs ys,x=.ref a/\y=.ref b/\aM K H a xs/\aM K H b ys/\xs≠[]/\xs.length+ys.length<=sizeLine/\
 (ys=[]->Q (.ref a) H)/\(ys≠[]->∀p,H p=none->Q (.ref p) (upd H p (.tup (xs++ys))))
theorem Vals.E1{xs:List V}{us:List Value}(r:Vals xs us):us=[]↔xs=[]:=by
 cases r with
 |nil=>simp
 |cons _ _=>simp
theorem E2:eG X (binaryOp .Add) (sZ X.K):=by
 unfold sZ;intro pins s σ H x y v u Q I rx ry h;obtain⟨a,b,xs,ys,rfl,rfl,ha,hb,hx,hz,q1,q2⟩:=h;cases rx;cases ry;obtain⟨ah,r1,p1,_⟩:=I.tuple ha;obtain⟨lB,r2,p2,_⟩:=I.tuple hb;refine HT.Vq p1 p2 (λz=>hx (r1.E1.mp z)) (λz=>⟨.ref a,H,I,rfl,q1 (r2.E1.mp z)⟩) (λz=>?_) (by rw[<-r1.length,<-r2.length];exact hz);refine⟨.ref s.heap.objs.size,_,I.laid (t':=s.toks) (o:=.tup (xs++ys)) (λb ob q=>cz _ q) (aF _) ?_,rfl,q2 (λw=>z (r2.E1.mpr w)) _ (I.aB.fresh (aF _))⟩;exact⟨by rw[aX];exact hz,_,r1.append r2,IsTup.new _ _⟩
end
def nM(n:Nat)(i:Int):Option Nat:=if 0<=i then(if i<n then some i.toNat else none)else if-(n:Int)<=i then some (i+n).toNat else none
def atI{α:Type}(xs:List α)(i:Int):Option α:=(nM xs.length i).bind λj=>xs[j]?
theorem Mj{n:Nat}{i:Int}{j:Nat}(h:nM n i=some j):seqIndex? i n=some j/\j<n/\ -(n:Int)<=i/\i<n:=by
 unfold nM at h;by_cases h0:0<=i
 .rw[aj h0]at h
  by_cases h1:i<n
  .rw[aj h1]at h
   have e:i.toNat=j:=Option.some.inj h;exact⟨by rw[JJ h0 h1,e],by omega,by omega,h1⟩
  .rw[ai h1]at h;cases h
 .rw[ai h0]at h
  by_cases h1: -(n:Int)<=i
  .rw[aj h1]at h
   have e:(i+n).toNat=j:=Option.some.inj h;exact⟨by rw[seqIndex_neg (by omega) h1,e],by omega,h1,by omega⟩
  .rw[ai h1]at h;cases h
theorem Ml{α:Type}{xs:List α}{i:Int}{v:α}(h:atI xs i=some v):∃j,seqIndex? i xs.length=some j/\xs[j]?=some v/\j<xs.length/\ -(xs.length:Int)<=i/\i<xs.length:=by
 unfold atI at h;cases e:nM xs.length i with
 |none=>rw[e]at h;cases h
 |some j=>
  rw[e]at h;obtain⟨h1,h2,h3,h4⟩:=Mj e;exact⟨j,h1,h,h2,h3,h4⟩
theorem xC{α:Type}{xs:List α}{j:Nat}{v:α}(h:xs[j]?=some v):atI xs (j:Int)=some v:=by
 have hj:j<xs.length:=(cU.mp h).1;have e:nM xs.length (j:Int)=some j:=by
  unfold nM;rw[aj (by omega),aj (by omega)];simp
 unfold atI;rw[e];exact h
def Vz(b:Expr):Prop:=∀o i,subscripted b false o i=operate [o,i] (getItem o i)
def IxR(X:Cx)(r:R2):Prop:=
 ∀(value slice:Expr) (pins:List (Addr×Obj)) (s:Shared) (σ:St) (H:Hp) (x y:V) (v u:Value) (Q:VK),Inv X pins σ H s->RelV x v->RelV y u->r x y H Q->
  subscripted slice false v u=operate [v,u] (getItem v u)->wpAny (model X.prog X.w) X.A (subscriptTail value slice v u) (EP X pins σ Q) X.xe s
def MtR(X:Cx)(id:String)(r:V->List V->Hp->VK->Prop):Prop:=
 ∀(pins:List (Addr×Obj)) (s:Shared) (σ:St) (H:Hp) (x:V) (xs:List V) (v:Value) (us:List Value) (Q:VK),Inv X pins σ H s->RelV x v->Vals xs us->r x xs H Q->
  wpAny (model X.prog X.w) X.A (call (.builtin id) (v::us)) (EP X pins σ Q) X.xe s
section
variable{X:Cx}{a b:Expr}{ta tb:TE}{pos:Pos}
theorem bD{r:R2}(hr:IxR X r)(ha:PE X a ta)(hb:PE X b tb)(hs:Vz b):PE X (.Subscript a b pos) (tOp r ta tb):=by
 intro pins s σ H Q I h;exact Subscript_ (EL ha hb I h λv u s2 x y H2 I2 rx ry q=>hr a b pins s2 σ H2 x y v u Q I2 rx ry q (hs _ _))
@[irreducible] def bX(K:Frag):R2:=λx y H Q=>∃p xs i v,x=.ref p/\y=.int i/\aU K H p xs/\atI xs i=some v/\Q v H
@[irreducible] def cX(K:Frag):R2:=λx y H Q=>∃p xs i v,x=.ref p/\y=.int i/\aM K H p xs/\atI xs i=some v/\Q v H
theorem dW:IxR X (bX X.K):=by
 unfold bX;intro value slice pins s σ H x y v u Q I rx ry h hs;obtain⟨p,xs,i,z,rfl,rfl,hq,he,q⟩:=h;cases rx;obtain⟨t,rfl⟩:=ry;obtain⟨ah,r,pl,hz⟩:=I.list hq;obtain⟨j,h1,h2,h3,h4,h5⟩:=Ml he;obtain⟨w,ew,nN⟩:=r.get h2;have hl:=r.length;have hn:=sX;have fin:EP X pins σ Q w s:=⟨z,H,I,nN,q⟩;by_cases h0:0<=i
 .have hj:i.toNat=j:=by
   rw[JJ h0 h5]at h1;exact Option.some.inj h1
  exact item_listR pl.isList h0 (by omega) (by rw[hj];simpa using ew) fin hs
 .have hj:(i+(ah.toArray.size:Int)).toNat=j:=by
   rw[seqIndex_neg (by omega) h4]at h1;rw[cO,<-hl];exact Option.some.inj h1
  exact subscriptTail_builtinR (x:=w) pl.isList.typeIs slot_list_getitem.lookup
   (wpAny_getItem_list_neg (Q:=λr s'=>r=w/\EP X pins σ Q r s') pl.isList (by omega) (by rw[cO]<;>omega) (by omega) (by rw[hj];simpa using ew) ⟨rfl,fin⟩) hs
theorem gk:IxR X (cX X.K):=by
 unfold cX;intro value slice pins s σ H x y v u Q I rx ry h hs;obtain⟨p,xs,i,z,rfl,rfl,hq,he,q⟩:=h;cases rx;obtain⟨t,rfl⟩:=ry;obtain⟨ah,r,pl,hz⟩:=I.tuple hq;obtain⟨j,h1,h2,h3,h4,h5⟩:=Ml he;obtain⟨w,ew,nN⟩:=r.get h2;have hl:=r.length;have hn:=sX;have fin:EP X pins σ Q w s:=⟨z,H,I,nN,q⟩;exact subscriptTail_builtinR (x:=w) pl.typeIs slot_tuple_getitem.lookup
  (getItem_tuple (j:=j) (Q:=λr s'=>r=w/\EP X pins σ Q r s') pl (by omega) (by omega) (by rw[cO,<-hl];exact h1) (by simpa using ew) ⟨rfl,fin⟩) hs
theorem VA(ah:List Value)(n j:Nat)(u:Value):Obj.mapSeq (·.setIfInBounds j u) {cls:=.type "list",data:=.seq ah.toArray n}={cls:=.type "list",data:=.seq (ah.set j u).toArray n}:=by
 simp[Obj.mapSeq]
theorem Inv.lst{pins:List (Addr×Obj)}{σ:St}{H:Hp}{s:Shared}{p:Addr}{xs:List V}(I:Inv X pins σ H s)(h:H p=some (.lst xs)):
  ∃(ah:List Value) (n:Nat),Vals xs ah/\s.heap.get? p=some {cls:=.type "list",data:=.seq ah.toArray n}/\xs.length<=sizeLine:=by
 obtain⟨z,ah,n,r,e⟩:=I.aB p _ h;exact⟨ah,n,r,e,z⟩
theorem Inv.VB{pins:List (Addr×Obj)}{σ:St}{H:Hp}{s:Shared}{p:Addr}{xs ys:List V}{ah its':List Value}{n n':Nat}{f:Obj->Obj}(I:Inv X pins σ H s)(h:H p=some (.lst xs))
  (ho:s.heap.get? p=some {cls:=.type "list",data:=.seq ah.toArray n})(hf:f {cls:=.type "list",data:=.seq ah.toArray n}={cls:=.type "list",data:=.seq its'.toArray n'})(r:Vals ys its')(hz:ys.length<=sizeLine)(t:Nat):
  Inv X pins σ (upd H p (.lst ys)) {s with heap:=s.heap.update p f,toks:=t}:=by
 have e:(s.heap.update p f).get? p=some {cls:=.type "list",data:=.seq its'.toArray n'}:=by
  rw[uF f ho (by rw[hf]<;>rfl),hf]
 refine I.write (x:=p) (e:=p) (by rw[h];trivial) (.inl rfl) (λb u hb q=>(nj _ _ (cS hb)).trans q) ⟨_,e⟩ ?_;exact⟨hz,its',n',r,e⟩
def VC:V->V->V->Hp->(Hp->Prop)->Prop:=λo i v H Q=>∃p xs k j,o=.ref p/\i=.int k/\H p=some (.lst xs)/\nM xs.length k=some j/\Q (upd H p (.lst (xs.set j v)))
theorem set_list:EG X VC:=by
 intro pins s σ H o i v ov iv u Q I ro ri rv h;obtain⟨p,xs,k,j,rfl,rfl,hp,hj,q⟩:=h;cases ro;obtain⟨t,rfl⟩:=ri;obtain⟨ah,n,r,ho,hz⟩:=I.lst hp;obtain⟨h1,h2,h3,h4⟩:=Mj hj;have hl:=r.length;have hn:=sX;have I':Inv X pins σ (upd H p (.lst (xs.set j v))) {s with heap:=s.heap.update p (Obj.mapSeq (·.setIfInBounds j u))}:=
  I.VB hp ho (VA ah n j u) (r.set rv j) (by rw[v7];exact hz) s.toks
 by_cases h0:0<=k
 .have hk:k.toNat=j:=by
   rw[JJ h0 h4]at h1;exact Option.some.inj h1
  exact PySem.W.ki_setAt ho h0 (by omega) (by rw[cO,<-hl];exact h4) (by rw[hk];exact⟨_,I',q⟩)
 .have hk:(k+(ah.toArray.size:Int)).toNat=j:=by
   rw[seqIndex_neg (by omega) h3]at h1;rw[cO,<-hl];exact Option.some.inj h1
  exact PySem.W.ki_setBack ho (by omega) (by rw[cO,<-hl];exact h3) (by omega) (by rw[hk];exact⟨_,I',q⟩)
theorem VD(lo hi:Option Int)(n:Nat):(sliceBounds lo hi none n).1=((HT.bJ n 0 lo:Nat):Int)/\(sliceBounds lo hi none n).2.1=((HT.bJ n n hi:Nat):Int)/\(sliceBounds lo hi none n).2.2=1:=by
 refine⟨?_,?_,rfl⟩
 .cases lo with
  |none=>simp[sliceBounds,HT.bJ]
  |some i=>
   simp only[sliceBounds,HT.bJ,Option.getD_none,show(1:Int)>0 by decide,pM];by_cases h:i<0
   .simp only[h,pM]<;>omega
   .simp only[h,qN]<;>omega
 .cases hi with
  |none=>simp[sliceBounds,HT.bJ]
  |some i=>
   simp only[sliceBounds,HT.bJ,Option.getD_none,show(1:Int)>0 by decide,pM];by_cases h:i<0
   .simp only[h,pM]<;>omega
   .simp only[h,qN]<;>omega
theorem VE(ah:List Value)(lo hi:Option Int):slicePick ah.toArray lo hi none=((ah.drop (HT.bJ ah.length 0 lo)).take (HT.bJ ah.length ah.length hi-HT.bJ ah.length 0 lo)).toArray:=by
 obtain⟨h1,h2,h3⟩:=VD lo hi ah.toArray.size;unfold slicePick;rw[h1,h2,h3];simp only[sliceRange_one,pick_run,cO]<;>rfl
def VF(K:Frag):V->Option Int->Option Int->Hp->VK->Prop:=λx lo hi H Q=>∃a xs,x=.ref a/\aU K H a xs/\∀p,H p=none->Q (.ref p) (upd H p (.lst (mK xs lo hi)))
theorem VG:SlR X (VF X.K):=by
 intro pins s σ H x v vl vu lo hi sl Q I rx hs pl pu h;obtain⟨a,xs,rfl,hx,q⟩:=h;cases rx;obtain⟨ah,r,ht,hz⟩:=I.list hx;have hlen:=r.length;refine⟨"list",_,slot_list_getitem.lookup,ht.isList.typeIs,?_⟩;refine wpAny_getItem_list_slice ht.isList hs pl pu .none (by simp) ?_ (by rw[cO]<;>omega);rw[VE,<-hlen];refine⟨.ref s.heap.objs.size,_,I.laid (t':=s.toks) (o:=.lst (mK xs lo hi)) (λb ob q=>cz _ q) (aF _) ?_,rfl,q _ (I.aB.fresh (aF _))⟩;exact⟨aG (Mi xs lo hi) hz,_,0,(r.drop (HT.bJ xs.length 0 lo)).take (HT.bJ xs.length xs.length hi-HT.bJ xs.length 0 lo),fC _ rfl⟩
def qh:V->Bool
 | .non=>true
 | .bl _=>true
 | .int _=>true
 | .str _=>true
 |_=>false
def eqV:V->V->Bool
 | .non,.non=>true
 | .bl a,.bl b=>a==b
 | .bl a,.int b=>(if a then 1 else 0)==b
 | .int a,.bl b=>a==(if b then 1 else 0)
 | .int a,.int b=>a==b
 | .str a,.str b=>a==b
 |_,_=>false
theorem VH{A:Around}{s:Shared}{y x:V}{u v:Value}(ry:RelV y u)(rx:RelV x v)(fy:qh y=true)(fx:qh x=true):SeqAt.EqAt A s u v (eqV y x):=by
 cases y with
 |non=>
  cases ry;cases x with
  |non=>cases rx;exact SeqAt.EqAt.same _
  |bl b=>cases rx;exact SeqAt.EqAt.none_bool b
  |int b=>obtain⟨t,rfl⟩:=rx;exact SeqAt.EqAt.none_int b t
  |str b=>obtain⟨t,rfl⟩:=rx;exact SeqAt.EqAt.none_str b t
  |_=>exact absurd (show false=true from fx) dP
 |bl a=>
  cases ry;cases x with
  |non=>cases rx;exact SeqAt.EqAt.bool_none a
  |bl b=>cases rx;exact SeqAt.EqAt.bool_bool a b
  |int b=>obtain⟨t,rfl⟩:=rx;exact SeqAt.EqAt.bool_int a b t
  |str b=>obtain⟨t,rfl⟩:=rx;exact SeqAt.EqAt.bool_str a b t
  |_=>exact absurd (show false=true from fx) dP
 |int a=>
  obtain⟨t',rfl⟩:=ry;cases x with
  |non=>cases rx;exact SeqAt.EqAt.int_none a t'
  |bl b=>cases rx;exact SeqAt.EqAt.int_bool a t' b
  |int b=>obtain⟨t,rfl⟩:=rx;exact RB a t' b t
  |str b=>obtain⟨t,rfl⟩:=rx;exact SeqAt.EqAt.int_str a t' b t
  |_=>exact absurd (show false=true from fx) dP
 |str a=>
  obtain⟨t',rfl⟩:=ry;cases x with
  |non=>cases rx;exact SeqAt.EqAt.str_none a t'
  |bl b=>cases rx;exact SeqAt.EqAt.str_bool a t' b
  |int b=>obtain⟨t,rfl⟩:=rx;exact SeqAt.EqAt.str_int a t' b t
  |str b=>obtain⟨t,rfl⟩:=rx;exact SeqAt.EqAt.str_str a t' b t
  |_=>exact absurd (show false=true from fx) dP
 |_=>exact absurd (show false=true from fy) dP
def eqU(x:V)(u:Value):Bool:=match u with
 | .none=>eqV .non x
 | .bool b=>eqV (.bl b) x
 | .int i _=>eqV (.int i) x
 | .str z _=>eqV (.str z) x
 |_=>false
theorem Mm{x y:V}{u:Value}(r:RelV y u)(f:qh y=true):eqU x u=eqV y x:=by
 cases y with
 |non=>cases r;rfl
 |bl b=>cases r;rfl
 |int i=>obtain⟨t,rfl⟩:=r;rfl
 |str z=>obtain⟨t,rfl⟩:=r;rfl
 |_=>exact absurd (show false=true from f) dP
theorem E3{x:V}:∀{xs:List V} {us:List Value},Vals xs us->xs.all qh=true->us.any (eqU x)=xs.any λy=>eqV y x
 |_,_,.nil,_=>rfl
 |y::xs,u::us,.cons r t,f=>by
  rw[l6,cV]at f;rw[jx,jx,Mm r f.1,E3 t f.2]
theorem E4{A:Around}{s:Shared}{x:V}{v:Value}(rx:RelV x v)(fx:qh x=true):∀{xs:List V} {us:List Value},Vals xs us->xs.all qh=true->∀u∈us,SeqAt.EqAt A s u v (eqU x u)
 |_,_,.nil,_=>λu hu=>by cases hu
 |y::xs,u::us,.cons r t,f=>λu' hu=>by
  rw[l6,cV]at f;rcases bq.mp hu with rfl|hu
  .rw[Mm r f.1];exact VH r rx f.1 fx
  .exact E4 rx fx t f.2 u' hu
def inV(x:V)(xs:List V):Bool:=xs.any λy=>eqV y x
@[irreducible] def rIn(K:Frag)(neg:Bool):R2:=λx y H Q=>∃p xs,y=.ref p/\(aU K H p xs\/aM K H p xs)/\qh x=true/\xs.all qh=true/\Q (.bl (if neg then !inV x xs else inV x xs)) H
theorem xD:eG X (compareOp .In) (rIn X.K false):=by
 unfold rIn;intro pins s σ H x y v u Q I rx ry h;obtain⟨p,xs,rfl,hq,fx,fs,q⟩:=h;cases ry;rcases hq with hq|hq
 .obtain⟨ah,r,pl,hz⟩:=I.list hq
  refine SeqAt.in_listAt (eqU x) pl.isList (λw hw=>E4 rx fx r fs w (by simpa using hw)) ⟨.bl _,H,I,rfl,?_⟩;rw[show ah.toArray.any (eqU x)=ah.any (eqU x)by simp,E3 r fs];exact q
 .obtain⟨ah,r,pl,hz⟩:=I.tuple hq
  refine SeqAt.in_tupleAt (eqU x) pl (λw hw=>E4 rx fx r fs w (by simpa using hw)) ⟨.bl _,H,I,rfl,?_⟩;rw[show ah.toArray.any (eqU x)=ah.any (eqU x)by simp,E3 r fs];exact q
theorem VI:kr X (.builtin "len") (λxs H Q=>∃p ys,xs=[.ref p]/\(aU X.K H p ys\/aM X.K H p ys)/\Q (.int ys.length) H):=by
 intro pins s σ H xs us Q I r h;obtain⟨p,ys,rfl,hq,q⟩:=h;obtain⟨u,rfl,rx⟩:=vals1 r;cases rx;have hn:=sX;rcases hq with hq|hq
 .obtain⟨ah,r',pl,hz⟩:=I.list hq
  have hlen:=r'.length;exact Calls.call_len_list pl.isList (by simp only[cO]<;>omega) ⟨.int ys.length,H,I.tok _,⟨s.toks+1,by rw[cO,hlen]⟩,q⟩
 .obtain⟨ah,r',pl,hz⟩:=I.tuple hq
  have hlen:=r'.length;exact len_tuple pl (by simp only[cO]<;>omega) ⟨.int ys.length,H,I.tok _,⟨s.toks+1,by rw[cO,hlen]⟩,q⟩
theorem VJ:kr X (.type "list") (λxs H Q=>∃p ys,xs=[.ref p]/\(aU X.K H p ys\/aM X.K H p ys)/\∀l,H l=none->Q (.ref l) (upd H l (.lst ys))):=by
 intro pins s σ H xs us Q I r h;obtain⟨p,ys,rfl,hq,q⟩:=h;obtain⟨u,rfl,rx⟩:=vals1 r;cases rx;have fin:∀(ah:List Value),Vals ys ah->ys.length<=sizeLine->∀(h':Heap) (c':Nat),(∀b o',s.heap.get? b=some o'->h'.get? b=some o')->
   h'.get? s.heap.objs.size=some {cls:=.type "list",dict:=none,data:=.seq ah.toArray c',slots:= #[]}->EP X pins σ Q (.ref s.heap.objs.size) {s with heap:=h'}:=λah r' hz h' c' kp e=>
  ⟨.ref s.heap.objs.size,_,I.laid (t':=s.toks) kp (aF _) (show fD X.prog X.w _ h' _ (.lst ys)from⟨hz,ah,c',r',e⟩),rfl,q _ (I.aB.fresh (aF _))⟩
 rcases hq with hq|hq
 .obtain⟨ah,r',pl,hz⟩:=I.list hq
  have hlen:=r'.length;obtain⟨o,ho,hc,n,hd⟩:=pl.isList;exact call_list_seq p (.inl rfl) ho hc hd (λh' c' kp e=>fin ah r' hz h' c' kp e) (by simp only[cO]<;>omega)
 .obtain⟨ah,r',pl,hz⟩:=I.tuple hq
  have hlen:=r'.length;obtain⟨o,ho,hc,n,hd⟩:=pl;exact call_list_seq p (.inr rfl) ho hc hd (λh' c' kp e=>fin ah r' hz h' c' kp e) (by simp only[cO]<;>omega)
theorem VL:kr X (.type "tuple") (λxs H Q=>∃p ys,xs=[.ref p]/\((aU X.K H p ys/\∀l,H l=none->Q (.ref l) (upd H l (.tup ys)))\/(aM X.K H p ys/\Q (.ref p) H))):=by
 intro pins s σ H xs us Q I r h;obtain⟨p,ys,rfl,h⟩:=h;obtain⟨u,rfl,rx⟩:=vals1 r;cases rx;rcases h with⟨hq,q⟩|⟨hq,q⟩
 .obtain⟨ah,r',pl,hz⟩:=I.list hq
  have hlen:=r'.length;refine call_tuple_list pl.isList (λh' kp=>?_) (by simp only[cO]<;>omega);have I1:Inv X pins σ H {s with heap:=h'}:=I.kept (t':=s.toks) kp;have I2:Inv X pins σ (upd H h'.objs.size (.tup ys)) {s with heap:=h'.push {cls:=.type "tuple",data:=.seq ah.toArray}}:=
   I1.laid (t':=s.toks) (λb o e=>cz _ e) (aF _) (show fD X.prog X.w _ _ _ (.tup ys)from⟨hz,ah,r',IsTup.new _ _⟩)
  exact⟨.ref h'.objs.size,_,I2,rfl,q _ (I1.aB.fresh (aF _))⟩
 .obtain⟨ah,r',pl,hz⟩:=I.tuple hq
  exact call_tuple_same pl ⟨.ref p,H,I,rfl,q⟩
def tyV(K:Frag)(T:String)(x:V)(H:Hp):Prop:=match x with
 | .str _=>T="str"
 | .int _=>T="int"
 | .ref p=>(T="list"/\∃xs,aU K H p xs)\/(T="tuple"/\∃o,K.lookup p=some o/\o.cls=.type "tuple"/\o.dict=none)\/
   (T="dict"/\((∃ak,H p=some (.dK ak))\/∃ak,H p=some (.dT ak)))\/(T="set"/\∃S n,H p=some (.set S n))
 |_=>False
theorem Mp{pins:List (Addr×Obj)}{σ:St}{H:Hp}{s:Shared}{T:String}{x:V}{v:Value}(I:Inv X pins σ H s)(r:RelV x v)(ty:tyV X.K T x H):
  s.TypeIs v T/\∀a,v=.ref a->∃ob,s.heap.get? a=some ob/\ob.dict=none:=by
 cases x with
 |str z=>
  obtain⟨t,rfl⟩:=r;cases (show T="str" from ty);exact⟨typeIs_str s z t,λ_ e=>nomatch e⟩
 |int i=>
  obtain⟨t,rfl⟩:=r;cases (show T="int" from ty);exact⟨typeIs_int s i t,λ_ e=>nomatch e⟩
 |ref p=>
  cases r;rcases ty with⟨rfl,xs,hq⟩|⟨rfl,o,hk,hc,hd⟩|⟨rfl,hk⟩|⟨rfl,S,n,hk⟩
  .obtain⟨ah,_,pl,_⟩:=I.list hq
   refine⟨pl.isList.typeIs,λa e=>?_⟩;cases e;obtain⟨o,n,e,c,hd,_⟩:=pl;exact⟨o,e,hd⟩
  .refine⟨⟨o,I.gx p o hk,hc⟩,λa e=>?_⟩
   cases e;exact⟨o,I.gx _ o hk,hd⟩
  .have z:∃o,s.heap.get? p=some o/\o.ExactDict:=by
    rcases hk with⟨ak,hk⟩|⟨ak,hk⟩
    .obtain⟨_,_,_,_,o,_,_,e,ex,_⟩:=I.aB p _ hk
     exact⟨o,e,ex⟩
    .obtain⟨_,_,_,_,o,_,_,e,ex,_⟩:=I.aB p _ hk
     exact⟨o,e,ex⟩
   obtain⟨o,e,ex⟩:=z;refine⟨⟨o,e,ex.1⟩,λa e2=>?_⟩;cases e2;exact⟨o,e,ex.2.1⟩
  .obtain⟨o,_,_,_,e,ex,_⟩:=I.aB p _ hk
   refine⟨⟨o,e,ex.1⟩,λa e2=>?_⟩;cases e2;exact⟨o,e,ex.2.1⟩
 |_=>exact False.elim ty
def VM(K:Frag)(T:String)(r:V->List V->Hp->VK->Prop)(to:TE):TE:=λσ H Q=>to σ H λx H1=>tyV K T x H1/\r x [] H1 Q
def tBM(K:Frag)(T:String)(r:V->List V->Hp->VK->Prop)(to:TE)(t:TA):TE:=λσ H Q=>to σ H λx H1=>tyV K T x H1/\t σ H1 λxs H2=>r x xs H2 Q
variable{o e:Expr}{es:List Expr}{to:TE}{t:TA}{name:Str}{apos nO:Pos}{T id:String}{r:V->List V->Hp->VK->Prop}
theorem Mq(pa:PlainAttrs T)(slot:Slot T name id)(hty:typeOf (.builtin id)=pure (.type "method_descriptor"))(hm:MtR X id r)(ho:PE X o to)
  (E5:attributeBase o name X.env (eval o X.env)=eval o X.env:=by rfl)(E6:(apos.endLine==nO.line)=true:=by rfl):PE X (.Call (.Attribute o name apos) [] [] nO) (VM X.K T r to):=by
 intro pins s σ H Q I h;refine wpAny_Call_method0_late E5 E6 (aQ (ho pins s σ H _ I h) λv s1 ⟨x,H1,I1,r1,ty,q1⟩=>?_);obtain⟨h1,h2⟩:=Mp I1 r1 ty;exact⟨T,id,pa,slot,hty,h1,h2,Calls.callWith_builtin rfl (PySem.evalArgs_none (hm pins s1 σ H1 x [] v [] Q I1 r1 .nil q1))⟩
theorem gm(pa:PlainAttrs T)(slot:Slot T name id)(hty:typeOf (.builtin id)=pure (.type "method_descriptor"))(hm:MtR X id r)(ho:PE X o to)(ha:PA X (e::es) t)
  (E5:attributeBase o name X.env (eval o X.env)=eval o X.env:=by rfl)
  (xE:((backTo nO (starEach (e::es) X.env)).all (λx=>!x.1)&&(backToKw nO (keywordEach [] X.env)).all (λx=>x.1.isSome)
   &&decide ((e::es).length+([]:List Keyword).length+(if([]:List Keyword).isEmpty then 0 else 1)<30))=true:=by rfl)
  (E6:(apos.endLine==nO.line)=true:=by rfl)(hs:starEach (e::es) X.env=(false,eval e X.env)::starEach es X.env:=by rfl)(VN:(backTo nO (starEach es X.env)).any (·.1)=false:=by rfl):
  PE X (.Call (.Attribute o name apos) (e::es) [] nO) (tBM X.K T r to t):=by
 intro pins s σ H Q I h;refine wpAny_Call_method_late E5 xE E6 rfl (aQ (ho pins s σ H _ I h) λv s1 ⟨x,H1,I1,r1,ty,q1⟩=>?_);obtain⟨h1,h2⟩:=Mp I1 r1 ty;refine⟨T,id,pa,slot,hty,h1,h2,?_⟩;have hA:=ha nO pins s1 σ H1 _ I1 q1;rw[hs]at hA⊢;refine Calls.callWith_builtin (by show(false||(backTo nO (starEach es X.env)).any (·.1))=false;rw[VN]<;>rfl) (Calls.evalArgs_plain ?_);exact aQ hA λus s2 ⟨vs,H2,I2,r2,q2⟩=>hm pins s2 σ H2 x vs v us Q I2 r1 r2 q2
end
def MtM(X:Cx)(id:String)(r:V->List V->Hp->VK->Prop):Prop:=
 ∀(pins:List (Addr×Obj)) (s:Shared) (σ:St) (H:Hp) (x:V) (xs:List V) (v:Value) (us:List Value) (Q:VK),Inv X pins σ H s->RelV x v->Vals xs us->r x xs H Q->
  wpAny (model X.prog X.w) X.A (call (.builtin id) (v::us)) (EP X pins σ Q) X.xe s
theorem Vals.one:∀{x:V} {us:List Value},Vals [x] us->∃u,us=[u]/\RelV x u
 |_,_,.cons r .nil=>⟨_,rfl,r⟩
theorem Vals.zero:∀{us:List Value},Vals [] us->us=[]
 |_,.nil=>rfl
theorem Vals.dropLast{xs:List V}{us:List Value}(h:Vals xs us):Vals xs.dropLast us.dropLast:=by
 induction h with
 |nil=>exact .nil
 |cons r t ih=>
  cases t with
  |nil=>exact .nil
  |cons q t'=>exact .cons r ih
theorem Vals.rep{xs:List V}{us:List Value}(h:Vals xs us):∀k:Nat,Vals (List.replicate k xs).flatten (List.replicate k us).flatten
 |0=>.nil
 |k+1=>by
  rw[wz,wz,Dd,Dd];exact Vals.append h (Vals.rep h k)
theorem VO{α:Type}(l:List α):l.eraseIdx (l.length-1)=l.dropLast:=by
 induction l with
 |nil=>rfl
 |cons a r ih=>
  cases r with
  |nil=>rfl
  |cons b r=>
   have e:(a::b::r).length-1=((b::r).length-1)+1:=by
    have h1:(a::b::r).length=r.length+2:=rfl;have h2:(b::r).length=r.length+1:=rfl;omega
   rw[e,List.eraseIdx_cons_succ,ih]
   all_goals rfl
theorem foldl_rep(ah:List Value):∀(k:Nat) (acc:List Value),
  List.foldl (λx1 x2=>x1++x2) acc.toArray (List.replicate k ah.toArray)=(acc++(List.replicate k ah).flatten).toArray
 |0,acc=>by simp
 |k+1,acc=>by
  have e:acc.toArray++ah.toArray=(acc++ah).toArray:=by simp
  have e2:(acc++ah)++(List.replicate k ah).flatten=acc++(List.replicate (k+1) ah).flatten:=by
   rw[wz,Dd,jy]
  rw[<-e2,<-foldl_rep ah k (acc++ah),<-e,wz,m8]
section
variable{X:Cx}{pins:List (Addr×Obj)}{σ:St}{H:Hp}{s:Shared}{l b:Addr}{xs ys zs:List V}
theorem Inv.Av{ah its':List Value}{n:Nat}{f:Array Value->Array Value}{t':Nat}(I:Inv X pins σ H s)(hH:H l=some (.lst xs))
  (e:s.heap.get? l=some {cls:=.type "list",data:=.seq ah.toArray n})(hf:f ah.toArray=its'.toArray)(hv:Vals ys its')(hz:ys.length<=sizeLine):
  Inv X pins σ (upd H l (.lst ys)) {s with heap:=s.heap.update l (Obj.mapSeq f),toks:=t'}:=by
 have q:=PySem.IsL.update e f;rw[hf]at q;refine I.write (x:=l) (e:=l) (by rw[hH];exact trivial) (.inl rfl) (λb' u hb hu=>(nj s.heap (Obj.mapSeq f) (cS hb)).trans hu) ⟨_,q⟩ ?_;exact⟨hz,its',_,hv,q⟩
theorem Inv.Mr{ah:List Value}{t':Nat}(I:Inv X pins σ H s)(hv:Vals ys ah)(hz:ys.length<=sizeLine):
  Inv X pins σ (upd H s.heap.objs.size (.lst ys)) {s with heap:=s.heap.push {cls:=.type "list",data:=.seq ah.toArray},toks:=t'}:=
 I.laid (λ_ _ q=>cz _ q) (aF _) ⟨hz,ah,0,hv,fC _ rfl⟩
theorem Inv.fresh(I:Inv X pins σ H s):H s.heap.objs.size=none:=I.aB.fresh (aF _)
theorem Inv.rC(I:Inv X pins σ H s)(hH:H l=some (.lst xs)):xs.length<=sizeLine/\∃(ah:List Value) (n:Nat),Vals xs ah/\xs.length=ah.length/\s.heap.get? l=some {cls:=.type "list",data:=.seq ah.toArray n}:=by
 obtain⟨z,ah,n,r,e⟩:=I.aB l _ hH;exact⟨z,ah,n,r,r.length,e⟩
theorem E7{n:Nat}(h:n<=sizeLine):Builtin.List.listTooLong n=false:=by
 unfold Builtin.List.listTooLong;exact bZ (by omega)
end
section
variable{X:Cx}
@[irreducible] def tu:V->List V->Hp->VK->Prop:=λx vs H Q=>∃l xs y,x=.ref l/\vs=[y]/\H l=some (.lst xs)/\xs.length<sizeLine/\Q .non (upd H l (.lst (xs++[y])))
theorem jU:MtM X "list.append" tu:=by
 unfold tu;intro pins s σ H x vs v us Q I rx rv h;obtain⟨l,xs,y,rfl,rfl,hH,hz,q⟩:=h;cases rx;obtain⟨u,rfl,ru⟩:=rv.one;obtain⟨z,ah,n,r,hl,e⟩:=I.rC hH;refine zu kc ⟨_,e,rfl⟩ F.entry_list_append (F.args_list_append_2 _ _) (PySem.list_append l ah.toArray n u (by rw[cO];omega)) ⟨e,?_⟩;refine⟨.non,_,I.Av (its':=ah++[u]) hH e (by simp) (r.append (.cons ru .nil)) ?_,rfl,q⟩;rw[aX,List.length_singleton];omega
@[irreducible] def tw:V->List V->Hp->VK->Prop:=λx vs H Q=>∃l b xs zs,x=.ref l/\vs=[.ref b]/\H l=some (.lst xs)/\H b=some (.lst zs)/\xs.length+zs.length<=sizeLine/\Q .non (upd H l (.lst (xs++zs)))
theorem uZ:MtM X "list.extend" tw:=by
 unfold tw;intro pins s σ H x vs v us Q I rx rv h;obtain⟨l,b,xs,zs,rfl,rfl,hH,hB,hz,q⟩:=h;cases rx;obtain⟨u,rfl,ru⟩:=rv.one;cases ru;obtain⟨z,ah,n,r,hl,e⟩:=I.rC hH;obtain⟨z2,lB,n2,r2,hl2,e2⟩:=I.rC hB;have hsz:ah.toArray.size+lB.toArray.size<=sizeLine:=by rw[cO,cO];omega
 have E8:¬(!ah.toArray.isEmpty&&Builtin.List.listTooLong (ah.toArray.size+lB.toArray.size))=true:=by
  rw[E7 hsz,RJ];exact dP
 refine zu qO ⟨_,e,rfl⟩ F.entry_list_extend (F.args_list_extend_2 _ _)
  (AutoSeq1.list_extend_list_list_0 l ah.toArray n b lB.toArray n2 E8 (by rw[cO];omega) (by omega)) ⟨e,e2,?_⟩
 refine⟨.non,_,I.Av (its':=ah++lB) hH e (by simp) (r.append r2) ?_,rfl,q⟩;rw[aX];omega
@[irreducible] def u0:V->List V->Hp->VK->Prop:=λx vs H Q=>∃l xs y,x=.ref l/\vs=[]/\H l=some (.lst xs)/\xs[xs.length-1]?=some y/\Q y (upd H l (.lst xs.dropLast))
theorem Ms:MtM X "list.pop" u0:=by
 unfold u0;intro pins s σ H x vs v us Q I rx rv h;obtain⟨l,xs,y,rfl,rfl,hH,hy,q⟩:=h;cases rx;have dF:=rv.zero;subst dF;obtain⟨z,ah,n,r,hl,e⟩:=I.rC hH;obtain⟨u,hu,ru⟩:=r.get hy;have hy':ah.toArray[ah.toArray.size-1]?=some u:=by
  show ah.toArray[ah.length-1]?=some u;rw[<-abY,<-hl];exact hu
 refine zu RK ⟨_,e,rfl⟩ F.entry_list_pop (F.args_list_pop_1 _) (MeetsSeq.list_pop_last l ah.toArray n u hy' (by rw[cO];omega)) ⟨e,?_⟩;refine⟨y,_,I.Av (its':=ah.dropLast) hH e ?_ r.dropLast ?_,ru,q⟩
 .show ah.toArray.eraseIdxIfInBounds (ah.toArray.size-1)=ah.dropLast.toArray
  rw[cO,List.eraseIdxIfInBounds_toArray,VO]
 .rw[List.length_dropLast]
  omega
@[irreducible] def xF:R2:=λx y H Q=>∃l b xs zs,x=.ref l/\y=.ref b/\H l=some (.lst xs)/\H b=some (.lst zs)/\xs.length+zs.length<=sizeLine/\∀p,H p=none->Q (.ref p) (upd H p (.lst (xs++zs)))
theorem lC:eG X (binaryOp .Add) xF:=by
 unfold xF;intro pins s σ H x y v u Q I rx ry h;obtain⟨l,b,xs,zs,rfl,rfl,hH,hB,hz,q⟩:=h;cases rx;cases ry;obtain⟨z,ah,n,r,hl,e⟩:=I.rC hH;obtain⟨z2,lB,n2,r2,hl2,e2⟩:=I.rC hB;refine PySem.P.add_list e e2 ?_ (by rw[cO,cO];omega);have ea:ah.toArray++lB.toArray=(ah++lB).toArray:=by simp
 rw[ea];exact⟨.ref _,_,I.Mr (t':=s.toks) (r.append r2) (by rw[aX];omega),rfl,q _ I.fresh⟩
@[irreducible] def Aw:R2:=λx y H Q=>∃l k xs,x=.ref l/\y=.int k/\H l=some (.lst xs)/\ -(2^63)<=k/\k<2^63/\xs.length*k.toNat<=sizeLine/\
 ∀p,H p=none->Q (.ref p) (upd H p (.lst (List.replicate k.toNat xs).flatten))
theorem len_rep{α:Type}(xs:List α)(k:Nat):(List.replicate k xs).flatten.length=k*xs.length:=by
 induction k with
 |zero=>simp
 |succ k ih=>rw[wz,Dd,aX,ih,Nat.succ_mul,Nat.add_comm]
theorem Mt:eG X (binaryOp .Mult) Aw:=by
 unfold Aw;intro pins s σ H x y v u Q I rx ry h;obtain⟨l,k,xs,rfl,rfl,hH,h1,h2,hz,q⟩:=h;cases rx;obtain⟨t,rfl⟩:=ry;obtain⟨z,ah,n,r,hl,e⟩:=I.rC hH;have hlen:ah.toArray.size*k.toNat<=sizeLine:=by rw[cO,<-hl];exact hz
 have VP:¬ah.toArray.size*k.toNat>(2^63-1)/8:=by
  have:(sizeLine:Nat)<=(2^63-1)/8:=by decide
  omega
 have eN:¬(!Builtin.List.listFitsIndex k)=true:=by
  rw[fitsIndex_both h1 h2];exact dP
 have E8:¬Builtin.List.listTooLong (ah.toArray.size*k.toNat)=true:=by
  rw[E7 hlen];exact dP
 have nP:List.foldl (λx1 x2=>x1++x2) #[] (List.replicate (if ah.toArray.isEmpty=true then 0 else k.toNat) ah.toArray)=(List.replicate k.toNat ah).flatten.toArray:=by
  have f0:∀m:Nat,List.foldl (λx1 x2=>x1++x2) #[] (List.replicate m ah.toArray)=(List.replicate m ah).flatten.toArray:=λm=>by
   have:=foldl_rep ah m [];rw[C3]at this;exact this
  rw[f0];cases ah with
  |nil=>simp
  |cons a r'=>rw[ai (by simp)]
 refine wpAny_binaryOp_repeat_ref (T:="list") (U:="int") (by decide) ⟨_,e,rfl⟩ (λs'=>typeIs_int s' k t) noFill_list_mul F.fills_int_mul F.slot_int_rmul repeat_list F.slot_int_index.lookup
  (zu F.slot_int_rmul (typeIs_int s k t) F.entry_int_rmul (F.args_int_rmul_2 _ _) (int___rmul___int_list k t l ah.toArray n)
   ⟨e,rfl,⟨_,e,rfl⟩,zu F.slot_list_mul ⟨_,e,rfl⟩ F.entry_list_mul (F.args_list_mul_2 _ _) (AutoListH.list___mul___list_int_3 l ah.toArray n k t eN VP E8) ⟨e,?_⟩⟩)
 rw[nP];exact⟨.ref _,_,I.Mr (t':=s.toks) (r.rep k.toNat) (by rw[len_rep,Nat.mul_comm];exact hz),rfl,q _ I.fresh⟩
end
theorem Vals.ints:∀{ns:List Int} {us:List Value},Vals (ns.map V.int) us->IntsAre us ns
 |[],us,h=>by
  rw[zq]at h;cases h;exact IntsAre.nil
 |n::ns,us,h=>by
  rw[cD]at h;cases h with
  |cons r t=>
   obtain⟨k,rfl⟩:=r;exact IntsAre.cons n k (Vals.ints t)
theorem Vals.bls:∀{bs:List Bool} {us:List Value},Vals (bs.map V.bl) us->us=bs.map Value.bool
 |[],us,h=>by
  rw[zq]at h;cases h;rfl
 |b::bs,us,h=>by
  rw[cD]at h;cases h with
  |cons r t=>
   cases r;rw[Vals.bls t,cD]
theorem Vals.Ax{a:Addr}{us:List Value}(r:Vals [V.ref a] us):us=[Value.ref a]:=by
 cases r with
 |cons r t=>
  cases t;cases r;rfl
section
variable{prog:Program}{w:World}{A:Around}{E:Value->Shared->Prop}{s:Shared}{l:Addr}{ah:List Value}{ns:List Int}{Q:Value->Shared->Prop}
theorem VQ(hh:A.handled=none)(hl:s.heap.IsList l ah.toArray)(hi:IntsAre ah ns)
  (h:∀h' tk t',(∀b o,s.heap.get? b=some o->h'.get? b=some o)->Q (.int ns.sum t') {s with heap:=h',toks:=tk}):wpAny (model prog w) A (call (.builtin "sum") [.ref l]) Q E s:=by
 obtain⟨xs,e⟩:=hi.allInts.items;have hn:numsOf (intItems xs).toList=ns:=by rw[<-e];exact hi.numsOf
 rw[nums_intItems]at hn;rw[e]at hl;refine PySem.sum_intListG hh hl λh' tk t' hk=>?_;have:=h h' tk t' hk;rw[preSum_eq,qP (by simp),hn];exact this
end
section
variable{X:Cx}
@[irreducible] def Ay(K:Frag):List V->Hp->VK->Prop:=λvs H Q=>∃(a:Addr) (ns:List Int),vs=[V.ref a]/\aU K H a (ns.map V.int)/\Q (.int ns.sum) H
theorem Mu(hc:X.calm=true):kr X (.builtin "sum") (Ay X.K):=by
 unfold Ay;intro pins s σ H vs us Q I r h;obtain⟨a,ns,rfl,hs,q⟩:=h;obtain⟨ah,rv,hl,_⟩:=I.list hs;rw[Vals.Ax r];exact VQ (I.ok.hd hc) hl.isList rv.ints λh' tk t' hk=>⟨.int _,H,I.kept hk,⟨_,rfl⟩,q⟩
end
theorem Mv{prog:Program}{w:World}{A:Around}{E:Value->Shared->Prop}{s:Shared}{l:Addr}{items:Array Value}{Q:Value->Shared->Prop}(hl:s.heap.IsList l items)
  (h:∀s₂:Shared,s₂={s with heap:=s.heap.push {cls:=.type "list_iterator",data:=.fields #[.ref l,.int 0 0]}}->
   (s₂.heap.IsListIter s.heap.objs.size l 0/\s₂.heap.IsList l items)->l≠s.heap.objs.size->Q (.ref s.heap.objs.size) s₂):wpAny (model prog w) A (pyIter (.ref l)) Q E s:=by
 have aR:l<s.heap.objs.size:=by obtain⟨_,e,_⟩:=hl;exact cI e
 exact wpAny_pyIter_list hl (h _ rfl ⟨⟨_,fC _ rfl,rfl,rfl⟩,hl.push _⟩ (fT aR))
theorem Mw{prog:Program}{w:World}{A:Around}{bs:List Bool}{ah:List Value}(e:ah=bs.map Value.bool):
  TruthOf prog w A (λi v=>ah.toArray[i]?=some v) (λi=>bs.getD i false):=λi v s Q E hv hq=>by
 have hv':ah[i]?=some v:=by simpa using hv
 rw[e,fK]at hv';obtain⟨b,hb,rfl⟩:=qH.mp hv';have hg:bs.getD i false=b:=by rw[cC,hb]<;>rfl
 have jT:Q (bs.getD i false) s:=hq;rw[hg]at jT;exact uC jT
theorem any_range:∀bs:List Bool,(List.range bs.length).any (λi=>bs.getD i false)=bs.any id
 |[]=>rfl
 |b::bs=>by
  rw[bT,abZ,jx,List.any_map,jx,<-any_range bs]
  all_goals rfl
theorem all_range:∀bs:List Bool,(List.range bs.length).all (λi=>bs.getD i false)=bs.all id
 |[]=>rfl
 |b::bs=>by
  rw[bT,abZ,l6,List.all_map,l6,<-all_range bs]
  all_goals rfl
section
variable{X:Cx}
@[irreducible] def Az(K:Frag):List V->Hp->VK->Prop:=λvs H Q=>∃(a:Addr) (bs:List Bool),vs=[V.ref a]/\aU K H a (bs.map V.bl)/\Q (.bl (bs.any id)) H
@[irreducible] def AA(K:Frag):List V->Hp->VK->Prop:=λvs H Q=>∃(a:Addr) (bs:List Bool),vs=[V.ref a]/\aU K H a (bs.map V.bl)/\Q (.bl (bs.all id)) H
theorem AB(hc:X.calm=true):kr X (.builtin "any") (Az X.K):=by
 unfold Az;intro pins s σ H vs us Q I r h;obtain⟨a,bs,rfl,hs,q⟩:=h;obtain⟨ah,rv,hl,_⟩:=I.list hs;rw[Vals.Ax r];have hb:=rv.bls;refine call_any_walk (Mv hl.isList λs₂ e2 st bI=>?_);subst e2;refine⟨_,_,_,_,_,_,_,rfl,Walks.list (A:=X.A.in1) (I.ok.hd hc) _ a bI ah.toArray,st,Mw hb,λh' tk hk=>?_⟩;refine⟨.bl _,H,I.kept λb o eo=>hk b o (λiW=>?_) (cz _ eo),?_,q⟩
 .rcases bq.mp iW with e1|iW
  .exact absurd (e1▸cI eo) (l0 _)
  .cases iW
 .show Value.bool _=Value.bool _
  rw[<-any_range,hb,cO,aK]
theorem Mx(hc:X.calm=true):kr X (.builtin "all") (AA X.K):=by
 unfold AA;intro pins s σ H vs us Q I r h;obtain⟨a,bs,rfl,hs,q⟩:=h;obtain⟨ah,rv,hl,_⟩:=I.list hs;rw[Vals.Ax r];have hb:=rv.bls;refine call_all_walk (Mv hl.isList λs₂ e2 st bI=>?_);subst e2;refine⟨_,_,_,_,_,_,_,rfl,Walks.list (A:=X.A.in1) (I.ok.hd hc) _ a bI ah.toArray,st,Mw hb,λh' tk hk=>?_⟩;refine⟨.bl _,H,I.kept λb o eo=>hk b o (λiW=>?_) (cz _ eo),?_,q⟩
 .rcases bq.mp iW with e1|iW
  .exact absurd (e1▸cI eo) (l0 _)
  .cases iW
 .show Value.bool _=Value.bool _
  rw[<-all_range,hb,cO,aK]
end
mutual
inductive Dp(K:Frag)(H:Hp):V->PyData->Prop
 |non:Dp K H .non .none
 |bl (b:Bool):Dp K H (.bl b) (.bool b)
 |int (i:Int):Dp K H (.int i) (.int i)
 |str (x:Str):Dp K H (.str x) (.str x)
 |lst {a:Addr} {xs:List V} {ds:List PyData}:aU K H a xs->oV K H xs ds->Dp K H (.ref a) (.list ds)
 |tup {a:Addr} {xs:List V} {ds:List PyData}:aM K H a xs->oV K H xs ds->Dp K H (.ref a) (.tuple ds)
inductive oV(K:Frag)(H:Hp):List V->List PyData->Prop
 |nil:oV K H [] []
 |cons {v:V} {vs:List V} {d:PyData} {ds:List PyData}:Dp K H v d->oV K H vs ds->oV K H (v::vs) (d::ds)
end
section
variable{X:Cx}{pins:List (Addr×Obj)}{σ:St}{H:Hp}{s:Shared}
mutual
theorem Dp.reads(I:Inv X pins σ H s):∀(d:PyData) (v:V) (u:Value),Dp X.K H v d->RelV v u->∃as,Reads s.heap u d as
 | .none,_,_,h,r=>by
  cases h;cases r;exact⟨_,Reads.none⟩
 | .bool b,_,_,h,r=>by
  cases h;cases r;exact⟨_,Reads.bool b⟩
 | .int i,_,_,h,r=>by
  cases h;obtain⟨t,rfl⟩:=r;exact⟨_,Reads.int i t⟩
 | .str x,_,_,h,r=>by
  cases h;obtain⟨t,rfl⟩:=r;exact⟨_,Reads.str x t⟩
 | .list ds,_,_,h,r=>by
  cases h with
  |lst hs ha=>
   cases r;obtain⟨ah,rv,⟨o,n,ho,hc,_,hd⟩,_⟩:=I.list hs;obtain⟨as,hr⟩:=Dp.readsAll I ds _ ah ha rv;exact⟨_,Reads.list ho hc hd hr⟩
 | .tuple ds,_,_,h,r=>by
  cases h with
  |tup hs ha=>
   cases r;obtain⟨ah,rv,⟨o,ho,hc,n,hd⟩,_⟩:=I.tuple hs;obtain⟨as,hr⟩:=Dp.readsAll I ds _ ah ha rv;exact⟨_,Reads.tuple ho hc hd hr⟩
 | .dict _,_,_,h,_=>by cases h
theorem Dp.readsAll(I:Inv X pins σ H s):∀(ds:List PyData) (vs:List V) (us:List Value),oV X.K H vs ds->Vals vs us->∃as,ReadsAll s.heap us ds as
 |[],_,_,h,r=>by
  cases h;cases r;exact⟨_,ReadsAll.nil⟩
 |d::ds,_,_,h,r=>by
  cases h with
  |cons h1 h2=>
   cases r with
   |cons r1 r2=>
    obtain⟨as,q1⟩:=Dp.reads I d _ _ h1 r1;obtain⟨bs,q2⟩:=Dp.readsAll I ds _ _ h2 r2;exact⟨_,ReadsAll.cons q1 q2⟩
end
end
section
variable{X:Cx}
def VR(K:Frag):R2:=λx y H Q=>∃d e,Dp K H x d/\Dp K H y e/\SeqAt.shaped d=true/\SeqAt.shaped e=true/\Q (.bl (!PyData.eqv d e)) H
theorem VS(hu:X.A.units+64<cLine):eG X (compareOp .NotEq) (VR X.K):=by
 intro pins s σ H x y v u Q I rx ry h;obtain⟨d,e,hd,he,sd,se,q⟩:=h;obtain⟨as,r1⟩:=Dp.reads I d x v hd rx;obtain⟨bs,r2⟩:=Dp.reads I e y u he ry;exact SeqAt.compareNe_shaped r1 r2 sd se hu ⟨.bl _,H,I,rfl,q⟩
end
abbrev My(h:Heap)(c:Addr)(v:Option Value):Prop:=h.IsCell c v
def VT(scope sc:Scope):Scope:=
 {scope with names:=scope.names.map λ(n,k)=>if(k== .free&&sc.kind== .function&&sc.names.lookup n==some .cell)then(n,.cell)else(n,k)}
def fG(cells:List (Str×Addr)):List (Str×NameKind)->List (Str×Addr)->List (Str×Addr)
 |[],acc=>acc
 |(n,k)::r,acc=>if k== .free then fG cells r ((n,(cells.lookup n).getD 0)::acc)else fG cells r acc
theorem Mz(env:Env)(f:Str×NameKind->List (Str×Addr)->Sem (ForInStep (List (Str×Addr))))
  (hf:∀n k c,f (n,k) c=if k== .free then(do let a <-cellOf env n;pure (.yield ((n,a)::c)))else pure (.yield c)):
  ∀(names:List (Str×NameKind)) (acc:List (Str×Addr)),(∀y∈names,y.2=.free->∃c,env.cells.lookup y.1=some c)->forIn names acc f=pure (fG env.cells names acc)
 |[],acc,_=>by rw[List.forIn_nil];rfl
 |(n,k)::r,acc,h=>by
  rw[List.forIn_cons,hf];have ih:=λacc=>Mz env f hf r acc λy hy=>h y (bg _ hy);unfold fG;by_cases hk:(k==NameKind.free)=true
  .rw[aj hk,aj hk]
   obtain⟨c,hc⟩:=h (n,k) aZ (by simpa using hk);have e:cellOf env n=pure c:=by unfold cellOf;rw[hc]
   rw[e];have e2:(env.cells.lookup n).getD 0=c:=by rw[hc];rfl
   rw[e2];exact ih _
  .rw[ai hk,ai hk]
   exact ih _
theorem E9{scope:Scope}{env:Env}(h:∀y∈scope.names,y.2=.free->∃c,env.cells.lookup y.1=some c):closureFor scope env=pure (fG env.cells scope.names []):=by
 simp only[closureFor];rw[Mz env _ (λn k c=>rfl) scope.names [] h];rfl
theorem mem_lookup{α:Type}:∀{l:List (Str×α)} {n:Str} {c:α},(n,c)∈l->∃c',l.lookup n=some c'
 |(k,v)::r,n,c,h=>by
  rw[l7];cases hb:n==k with
  |true=>exact⟨_,rfl⟩
  |false=>
   rcases bq.mp h with e|h
   .cases e;simp at hb
   .exact mem_lookup h
theorem AD{cells:List (Str×Addr)}:∀{names:List (Str×NameKind)} {acc:List (Str×Addr)} {n:Str} {c:Addr},(n,c)∈fG cells names acc->(n,c)∈acc\/((n,.free)∈names/\c=(cells.lookup n).getD 0)
 |[],_,_,_,h=>.inl h
 |(m,k)::r,acc,n,c,h=>by
  unfold fG at h;split at h
  .rename_i hk
   have hk:k=.free:=by simpa using hk
   rcases AD h with h|⟨h1,h2⟩
   .rcases bq.mp h with e|h
    .cases e;exact .inr ⟨hk▸aZ,rfl⟩
    .exact .inl h
   .exact .inr ⟨bg _ h1,h2⟩
  .rcases AD h with h|⟨h1,h2⟩
   .exact .inl h
   .exact .inr ⟨bg _ h1,h2⟩
theorem Fb{cells:List (Str×Addr)}:∀{names:List (Str×NameKind)} {acc:List (Str×Addr)} {p:Str×Addr},p∈acc->p∈fG cells names acc
 |[],_,_,h=>h
 |(m,k)::r,acc,p,h=>by
  unfold fG;split
  .exact Fb (bg _ h)
  .exact Fb h
theorem Fc{cells:List (Str×Addr)}:∀{names:List (Str×NameKind)} {acc:List (Str×Addr)} {n:Str},(n,.free)∈names->(n,(cells.lookup n).getD 0)∈fG cells names acc
 |(m,k)::r,acc,n,h=>by
  unfold fG;rcases bq.mp h with e|h
  .cases e
   exact Fb aZ
  .split
   .exact Fc h
   .exact Fc h
theorem xG:∀{names:List (Str×NameKind)} {h:Heap} {acc:List (Str×Addr)} {x:Str} {c:Addr},(x,c)∈cellsFrom h.objs.size names acc->
  (x,c)∈acc\/((x,.cell)∈names/\h.objs.size<=c/\My (pushCells h names) c none)
 |[],_,_,_,_,h=>.inl h
 |(n,k)::r,h,acc,x,c,hm=>by
  unfold cellsFrom at hm;unfold pushCells;split at hm
  .rename_i hk
   rw[aj hk];have hk:k=.cell:=by simpa using hk
   rw[<-jw h {cls:=.type "cell",data:=.cell none}]at hm;rcases xG hm with hm|⟨h1,h2,h3⟩
   .rcases bq.mp hm with e|hm
    .cases e
     exact .inr ⟨hk▸aZ,aF _,_,De r _ _ _ (fC _ rfl),rfl⟩
    .exact .inl hm
   .rw[jw]at h2
    exact .inr ⟨bg _ h1,JK h2,h3⟩
  .rename_i hk
   rw[ai hk];rcases xG hm with hm|⟨h1,h2,h3⟩
   .exact .inl hm
   .exact .inr ⟨bg _ h1,h2,h3⟩
theorem AE:∀{names:List (Str×NameKind)} {n:Nat} {acc:List (Str×Addr)} {p:Str×Addr},p∈acc->p∈cellsFrom n names acc
 |[],_,_,_,h=>h
 |(m,k)::r,n,acc,p,h=>by
  unfold cellsFrom;split
  .exact AE (bg _ h)
  .exact AE h
theorem Fd:∀{names:List (Str×NameKind)} {n:Nat} {acc:List (Str×Addr)} {x:Str},(x,.cell)∈names->∃c,(x,c)∈cellsFrom n names acc
 |(m,k)::r,n,acc,x,h=>by
  unfold cellsFrom;rcases bq.mp h with e|h
  .cases e
   exact⟨n,AE aZ⟩
  .split
   .exact Fd h
   .exact Fd h
theorem Fe:∀{names:List (Str×NameKind)} {h:Heap} {acc:List (Str×Addr)} {x y:Str} {c:Addr},(∀p∈acc,p.2<h.objs.size)->(∀x y c,(x,c)∈acc->(y,c)∈acc->x=y)->
  (x,c)∈cellsFrom h.objs.size names acc->(y,c)∈cellsFrom h.objs.size names acc->x=y
 |[],_,_,_,_,_,_,hi,h1,h2=>hi _ _ _ h1 h2
 |(n,k)::r,h,acc,x,y,c,hl,hi,h1,h2=>by
  unfold cellsFrom at h1 h2;split at h1
  .rename_i hk
   rw[aj hk]at h2;rw[<-jw h {cls:=.type "cell",data:=.cell none}]at h1 h2;refine Fe (h:=h.push _) (λp hp=>?_) (λx y c a b=>?_) h1 h2
   .rw[jw]
    rcases bq.mp hp with rfl|hp
    .exact JH _
    .exact JL (hl p hp)
   .rcases bq.mp a with e|a<;>rcases bq.mp b with e'|b
    .cases e;cases e';rfl
    .cases e;exact absurd (hl _ b) (l0 _)
    .cases e';exact absurd (hl _ a) (l0 _)
    .exact hi _ _ _ a b
  .rename_i hk
   rw[ai hk]at h2;exact Fe hl hi h1 h2
theorem MA{M:Model}{A:Around}{E:Value->Shared->Prop}{s:Shared}{scope:Scope}{globals:Addr}{closure:List (Str×Addr)}{qual:Str}{func:Option Addr}{code:Value}{around:Env}{builtins:Addr}{Q:Env->Shared->Prop}
  (h:Q (newEnv scope s.heap.objs.size globals (cellsFrom (s.heap.objs.size+1) scope.names closure) qual func code (some around) builtins)
   {s with heap:=pushCells (s.heap.push {cls:=.type "dict",data:=.dict #[]}) scope.names}):
  wpAny M A (newFunctionEnv scope globals closure [] qual func code (some around) builtins) Q E s:=by
 simp only[newFunctionEnv,Option.isSome_some,pM];refine ao (wpAny_alloc ?_);refine ao (wpAny_layCells _ (λn k c=>rfl) scope.names closure _ _ ?_);rw[show({s with heap:=s.heap.push {cls:=.type "dict",data:=.dict #[]}}:Shared).heap.objs.size=s.heap.objs.size+1 from jw ..];rw[List.forIn_nil];exact ao (bu (bu h))
theorem Ff{sc:Scope}:∀{names:List (Str×NameKind)} {x:Str} {k:NameKind},
  (names.map λ(n,k)=>if(k==NameKind.free&&sc.kind== .function&&sc.names.lookup n==some .cell)then(n,NameKind.cell)else(n,k)).lookup x=some k->
  ∃k',names.lookup x=some k'/\(k=k'\/(k'=.free/\k=.cell))
 |[],_,_,h=>by simp at h
 |(n,k₀)::r,x,k,h=>by
  have ih:= @Ff sc r x k;have h':List.lookup x ((if(k₀==NameKind.free&&sc.kind== .function&&sc.names.lookup n==some .cell)=true then(n,NameKind.cell)else(n,k₀))::(r.map _))=some k:=h;cases hx:x==n with
  |true=>
   simp only[l7,hx];by_cases hc:(k₀==NameKind.free&&sc.kind== .function&&sc.names.lookup n==some .cell)=true
   .rw[aj hc]at h'
    simp only[l7,hx]at h';cases h';simp only[cV,pK]at hc;exact⟨k₀,rfl,.inr ⟨hc.1.1,rfl⟩⟩
   .rw[ai hc]at h'
    simp only[l7,hx]at h';cases h';exact⟨_,rfl,.inl rfl⟩
  |false=>
   simp only[l7,hx];by_cases hc:(k₀==NameKind.free&&sc.kind== .function&&sc.names.lookup n==some .cell)=true
   .rw[aj hc]at h'
    simp only[l7,hx]at h';exact ih h'
   .rw[ai hc]at h'
    simp only[l7,hx]at h';exact ih h'
structure tD(N:List Str)(sc scope:Scope)(own:List (Str×Nat)):Prop where
 kind:scope.kind=.function
 uniq:∀y∈scope.names,scope.names.lookup y.1=some y.2
 ix:∀p∈own,N[p.2]?=some p.1
 free:∀y∈scope.names,y.2=.free->sc.names.lookup y.1=some .cell\/sc.names.lookup y.1=some .free
 own:∀y∈scope.names,y.2=.local\/y.2=.cell->y.1∈own.map (·.1)\/y.1∉N
def wipe(σ:St):List Nat->St
 |[]=>σ
 |v::vs=>(wipe σ vs).set v none
theorem AF(σ:St):∀vs:List Nat,(wipe σ vs).length=σ.length
 |[]=>rfl
 |v::vs=>by unfold wipe;rw[v7,AF σ vs]
theorem AG{σ:St}{i:Nat}{x:V}:∀{vs:List Nat},(wipe σ vs)[i]?=some (some x)->σ[i]?=some (some x)/\i∉vs
 |[],h=>⟨h,by simp⟩
 |v::vs,h=>by
  unfold wipe at h;by_cases hi:v=i
  .subst hi
   by_cases hv:v<(wipe σ vs).length
   .rw[rY hv]at h;cases h
   .rw[j7 (by simpa using hv)]at h;cases h
  .rw[uA hi]at h
   obtain⟨h1,h2⟩:=AG h;exact⟨h1,by simp only[bq,not_or];exact⟨λe=>hi e.symm,h2⟩⟩
abbrev Cx.dm(X:Cx)(s:Shared)(H:Hp)(scope:Scope)(er:Env)(fp:List Addr):Cx:={X with fO:=s,H_0:=H,env:=er,outer:=X.stack,ex:=fp,fn:=λx=>scope.names.lookup x==some .cell,pn:=[],xe:=λ_ _=>False}
section
variable{X:Cx}{pins:List (Addr×Obj)}{σ:St}{H:Hp}{s:Shared}
theorem MB{scope:Scope}{own:List (Str×Nat)}{fp:List Addr}(I:Inv X pins σ H s)(ok:tD X.N X.env.scope scope own)(hN:X.N.Nodup)(hfp:∀b∈fp,kj X pins H b/\b<s.heap.objs.size):
  Inv (X.dm s H scope (compEnvC scope (cellsFrom (s.heap.objs.size+1) scope.names (fG X.env.cells scope.names [])) s.heap.objs.size X.env) fp) [] (wipe σ (own.map (·.2))) H {s with heap:=pushCells (s.heap.push {cls:=.type "dict",data:=.dict #[]}) scope.names}:=by
 have rA:∀y∈scope.names,y.2=.free->∃c,X.env.cells.lookup y.1=some c:=λy hy e=>by
  rcases ok.free y hy e with k|k
  .exact I.ok.has _ (.inl k)
  .exact I.ok.has _ (.inr k)
 generalize u5:compEnvC scope (cellsFrom (s.heap.objs.size+1) scope.names (fG X.env.cells scope.names [])) s.heap.objs.size X.env=er;have kp:∀b o,s.heap.get? b=some o->(pushCells (s.heap.push {cls:=.type "dict",data:=.dict #[]}) scope.names).get? b=some o:=λb o e=>De _ _ _ _ (cz _ e);have hL:er.locals=s.heap.objs.size:=by rw[<-u5];rfl
 have hcl:er.cells=cellsFrom (s.heap.objs.size+1) scope.names (fG X.env.cells scope.names []):=by rw[<-u5];rfl
 have hsc:er.scope=VT scope X.env.scope:=by rw[<-u5];rfl
 rw[<-jw s.heap {cls:=.type "dict",data:=.dict #[]}]at hcl;have cm:∀{y c},(y,c)∈fG X.env.cells scope.names []->X.env.cells.lookup y=some c/\c<s.heap.objs.size:=λ{y c} hm=>by
  rcases AD hm with hm|⟨h1,rfl⟩
  .cases hm
  .obtain⟨c,hc⟩:=rA _ h1 rfl
   rw[hc];obtain⟨w,z⟩:=I.cell _ _ hc;exact⟨rfl,z.lt⟩
 have mem:∀{y c},er.cells.lookup y=some c->(X.env.cells.lookup y=some c/\c<s.heap.objs.size)\/(s.heap.objs.size+1<=c/\My (pushCells (s.heap.push {cls:=.type "dict",data:=.dict #[]}) scope.names) c none):=λ{y c} e=>by
  rw[hcl]at e;rcases xG (kR e)with hm|⟨_,h2,h3⟩
  .exact .inl (cm hm)
  .rw[jw]at h2;exact .inr ⟨h2,h3⟩
 have look:∀{y},scope.names.lookup y=some .free->∃c,er.cells.lookup y=some c/\X.env.cells.lookup y=some c:=λ{y} hl=>by
  have hy:(y,NameKind.free)∈scope.names:=kR hl;obtain⟨c',e'⟩:=mem_lookup (AE (names:=scope.names) (n:=(s.heap.push {cls:=.type "dict",data:=.dict #[]}).objs.size) (Fc (cells:=X.env.cells) (acc:=[]) hy));rw[<-hcl]at e';refine⟨c',e',?_⟩;rw[hcl]at e';rcases xG (kR e')with hm|⟨h1,_,_⟩
  .exact(cm hm).1
  .have:=ok.uniq _ h1
   rw[hl]at this;cases this
 have okB:(X.dm s H scope er fp).Ok:=by
  refine⟨I.ok.mod,by show er.scope.kind=_;rw[hsc];exact ok.kind,by show er.globals=_;rw[<-u5];exact I.ok.glob,by show er.builtins=_;rw[<-u5];exact I.ok.blt,by show s.heap.objs.size<=er.locals;rw[hL];exact aF _,
   λy z c e1 e2=>?_,λy hy=>?_,λy c z e=>?_,I.ok.hd,I.ok.frames,.inl rfl,λb hb=>⟨?_,λy c e z=>?_⟩,I.bs,aG I.ok.lu I.sz,λb o e hb=>?_,λb hb z=>?_,I.stack,I.Ac⟩
  .have e1:er.cells.lookup y=some c:=e1
   have e2:er.cells.lookup z=some c:=e2;rw[hcl]at e1 e2;refine Fe (λp hp=>?_) (λy z c a b=>I.ok.inj y z c (cm a).1 (cm b).1) (kR e1) (kR e2);rw[jw];exact JL (cm (y:=p.1) (c:=p.2) hp).2
  .show∃c,er.cells.lookup y=some c
   have key:∀k,er.kindOf y=some k->(k=.cell\/k=.free)->∃c,er.cells.lookup y=some c:=λk hk jV=>by
    unfold Env.kindOf at hk;rw[hsc]at hk;obtain⟨k',e,r⟩:=Ff hk;have:k'=.cell\/k'=.free:=by
     rcases r with rfl|⟨rfl,_⟩
     .exact jV
     .exact .inr rfl
    rcases this with rfl|rfl
    .obtain⟨c,hm⟩:=Fd (n:=(s.heap.push {cls:=.type "dict",data:=.dict #[]}).objs.size) (acc:=fG X.env.cells scope.names []) (kR e)
     obtain⟨c',e'⟩:=mem_lookup hm;exact⟨c',by rw[hcl];exact e'⟩
    .obtain⟨c,h1,_⟩:=look e
     exact⟨c,h1⟩
   rcases hy with hy|hy
   .exact key _ hy (.inl rfl)
   .exact key _ hy (.inr rfl)
  .have z:(scope.names.lookup y==some NameKind.cell)=true:=z
   have z:scope.names.lookup y=some .cell:=by simpa using z
   have e:er.cells.lookup y=some c:=e;rw[hcl]at e;rcases xG (kR e)with hm|⟨_,h2,_⟩
   .rcases AD hm with hm|⟨h1,_⟩
    .cases hm
    .have q:=ok.uniq _ h1
     rw[z]at q;cases q
   .rw[jw]at h2
    exact JK h2
  .show b≠er.locals
   rw[hL];exact fT (hfp b hb).2
  .have e:er.cells.lookup y=some c:=e
   rcases mem e with⟨h1,_⟩|⟨h1,_⟩
   .exact(hfp b hb).1.2.2.2.2.1 y c h1 z
   .have h2:s.heap.objs.size+1<=b:=by rw[<-z];exact h1
    exact absurd (g7 (hfp b hb).2 (JK h2)) (l0 _)
  .rcases(hfp b hb).1.2.2.2.1 with z|z
   .exact I.ok.rq b o e z
   .exact absurd (g7 (cI e) (aG I.ok.lu z)) (l0 _)
  .rcases bq.mp (I.xm b z)with z|z
   .exact(hfp b hb).1.2.1 z
   .exact(hfp b hb).1.2.2.1 z
 refine⟨okB,rfl,I.bare,Un.kept kp,⟨λ_=>none,?_,λi y av e1 e2 e3=>?_⟩,λy c e=>?_,?_,λy c e=>?_,λp hp=>?_,I.aB.kept kp,by rw[AF];exact I.len⟩
 .show Heap.Ns _ er.locals _
  rw[hL];exact Heap.Ns.keeps (Heap.Ns.new ..) λb o e=>De _ _ _ _ e
 .obtain⟨e2,bI⟩:=AG e2
  have jW:scope.names.lookup y=some .free/\(er.kindOf y=some .cell\/er.kindOf y=some .free):=by
   have key:∀k,er.scope.names.lookup y=some k->k=.local\/k=.cell\/k=.free->scope.names.lookup y=some .free/\(er.kindOf y=some .cell\/er.kindOf y=some .free):=λk hk jV=>by
    have hk0:=hk;rw[hsc]at hk;obtain⟨k',e,r⟩:=Ff hk;have no:¬(k'=.local\/k'=.cell):=λhh=>by
     rcases ok.own _ (kR e) hh with e'|e'
     .obtain⟨p,hp,hpy⟩:=bG.mp e'
      have e3:=ok.ix p hp;have:p.1=y:=hpy;rw[this]at e3;exact bI (bG.mpr ⟨p,hp,EA hN e3 e1⟩)
     .exact e' (cE e1)
    rcases r with rfl|⟨rfl,rfl⟩
    .rcases jV with rfl|rfl|rfl
     .exact absurd (.inl rfl) no
     .exact absurd (.inr rfl) no
     .exact⟨e,.inr hk0⟩
    .exact⟨e,.inl hk0⟩
   have e3:Vis er.scope y:=e3;rcases e3 with e3|e3|e3
   .exact key _ e3 (.inl rfl)
   .exact key _ e3 (.inr (.inl rfl))
   .exact key _ e3 (.inr (.inr rfl))
  obtain⟨m,hn,hl⟩:=I.loc;have VU:Vis X.env.scope y:=(ok.free _ (kR jW.1) rfl).elim (λk=>.inr (.inl k)) (λk=>.inr (.inr k));obtain⟨w,r,q⟩:=hl i y av e1 e2 VU;refine⟨w,r,.inr ⟨jW.2,?_⟩⟩;obtain⟨c,h1,h2⟩:=look jW.1;rcases q with⟨k,_⟩|⟨_,c',e',z⟩
  .have k:X.env.scope.names.lookup y=some .local:=k
   rcases ok.free _ (kR jW.1) rfl with k'|k'<;>rw[show X.env.scope.names.lookup y=_ from k']at k<;>cases k
  .rw[h2]at e';cases e'
   exact⟨c,h1,z.keeps kp⟩
 .have e:er.cells.lookup y=some c:=e
  rcases mem e with⟨h1,_⟩|⟨_,z⟩
  .obtain⟨w,z⟩:=I.cell y c h1
   exact⟨w,z.keeps kp⟩
  .exact⟨_,z⟩
 .show H er.locals=none
  rw[hL];exact I.aB.fresh (aF _)
 .have e:er.cells.lookup y=some c:=e
  rcases mem e with⟨h1,_⟩|⟨h1,_⟩
  .exact I.iU y c h1
  .exact I.aB.fresh (JK h1)
 .exact absurd (show p∈([]:List (Addr×Obj))++[]from hp) (by simp)
theorem MC{E:Value->Shared->Prop}{D:Addr}{xs:List V}{y:V}{v:Value}{Q:Value->Shared->Prop}(I:Inv X pins σ H s)(hD:H D=some (.lst xs))(hz:xs.length<sizeLine)(r:RelV y v)
  (h:∀s',Inv X pins σ (upd H D (.lst (xs++[y]))) s'->Q .none s'):wpAny (model X.prog X.w) X.A (call (.builtin "list.append") [.ref D,v]) Q E s:=by
 obtain⟨hz',ah,n,ri,e⟩:=I.aB D _ hD;have hl:=ri.length;refine append_at (hsz:=by rw[cO];omega) e λh' sb jD=>?_;refine h {s with heap:=h'} (I.write (t':=s.toks) (by rw[hD];trivial) (.inl rfl) (λb u hb q=>(sb.2 b hb).trans q) ⟨_,jD⟩ ⟨by rw[aX];exact hz,ah++[v],n+1,ri.append (.cons r .nil),?_⟩);rw[jD];simp
def PTs(X:Cx)(ifs:List Expr)(t:TT):Prop:=
 ∀(pins:List (Addr×Obj)) (s:Shared) (σ:St) (H:Hp) (Q:Bool->Hp->Prop),Inv X pins σ H s->t σ H Q->
  wpAny (model X.prog X.w) X.A (forIn ifs true λc r=>if r=true then do let ok <-isTrue c X.env (eval c X.env);pure (ForInStep.yield ok)else pure (ForInStep.yield r)) (TP X pins σ Q) X.xe s
def u6:TT:=λ_ H Q=>Q true H
theorem fZ:PTs X [] u6:=λ_ _ _ H _ I h=>wpAny_tests_nil ⟨H,I,h⟩
theorem tE{c:Expr}{t:TT}(h:PT X c t):PTs X [c] t:=λpins s σ H Q I hw=>wpAny_tests_one (h pins s σ H Q I hw)
end
theorem nQ{α:Type}{t:Sem α}{Q Q':α->Shared->Prop}{M:Model}{A:Around}{E:Value->Shared->Prop}{s:Shared}(h:wpAny M A t Q (λ_ _=>False) s)(hQ:∀a s,Q a s->Q' a s):wpAny M A t Q' E s:=g8 h hQ λ_ _ z=>False.elim z
theorem MD{prog:Program}{w:World}{A:Around}{R:Result->Shared->Prop}{s:Shared}{elt target iter:Expr}{ifs:List Expr}{scope:Scope}{pos:Pos}{it acc:Value}{env:Env}(I:Nat->Shared->Prop)
  (turn:∀n s,I n s->wpAny (model prog w) A (pyNext it) (λr s₁=>match r with
   |none=>R (.ok .next) s₁
   |some v=>wpAny (model prog w) A (letOwnedTupleGo target it v) (λ_ s₁'=>wpAny (model prog w) A (assign target env v) (λ_ s₂=>
     wpAny (model prog w) A (forIn ifs true λc r=>if r=true then do let ok <-isTrue c env (eval c env);pure (ForInStep.yield ok)else pure (ForInStep.yield r)) (λok s₃=>
      if ok=true then wpAny (model prog w) A (eval elt env) (λx s₄=>
       wpAny (model prog w) A (call (.builtin "list.append") [acc,x]) (λ_ s₅=>∃m,m<n/\I m s₅) (notedBy (model prog w) A env λe s'=>R (.error e) s') s₄) (notedBy (model prog w) A env λe s'=>R (.error e) s') s₃
      else∃m,m<n/\I m s₃) (notedBy (model prog w) A env λe s'=>R (.error e) s') s₂) (notedBy (model prog w) A env λe s'=>R (.error e) s') s₁') (notedBy (model prog w) A env λe s'=>R (.error e) s') s₁) (notedBy (model prog w) A env λe s'=>R (.error e) s') s)
  (n:Nat)(h:I n s):
  codeAny (model prog w) A (.compLoop (.ListComp elt [⟨target,iter,ifs,0⟩] scope pos) 0 it acc env) R s:=by
 refine codeAny_loop rfl I (λn s hI=>?_) n h;show wpAny _ A ((compTurn (.ListComp elt [⟨target,iter,ifs,0⟩] scope pos) 0 it acc env).onRaise (λx=>do noteFrame x env;theTreesLotGoes x)) _ _ s;refine wpAny_noted ?_;rw[compTurn_list];refine ao (JE (ao (g8 (turn n s hI) (λr s₁ h₁=>?_) λ_ _ h'=>h')));cases r with
 |none=>exact bu h₁
 |some v=>
  refine ao (g8 h₁ (λ_ s₁' h₁'=>?_) λ_ _ h'=>h');refine ao (g8 h₁' (λ_ s₂ h₂=>ao (g8 h₂ (λok s₃ h₃=>?_) λ_ _ h'=>h')) λ_ _ h'=>h');cases ok with
  |false=>exact bu ⟨rfl,h₃⟩
  |true=>
   exact ao (ao (g8 h₃ (λx s₄ h₄=>ao (g8 h₄ (λ_ s₅ h₅=>bu (bu ⟨rfl,h₅⟩)) λ_ _ h'=>h')) λ_ _ h'=>h'))
section
variable{X:Cx}
@[irreducible] def gA(wi:TI)(g:TG)(tt:TT)(te:TE)(vs:List Nat):TE:=λσ H Q=>wi σ H λJ H1=>∀D,H1 D=none->∃W:Nat->Nat->Hp->Prop,(∃m,W 0 m (upd H1 D (.lst [])))/\∀i m H,W i m H->
 (J.stop i H/\Q (.ref D) H)\/(J.go i H/\∃Nx:Hp->Prop,(∀H',Nx H'->∃m',m'<m/\W (i+1) m' H')/\∀x H',J.nI i H x H'->g x (wipe σ vs) H' λσ2 H2=>wipe σ2 vs=wipe σ vs/\tt σ2 H2 λb H3=>
  if b=true then te σ2 H3 λy H4=>∃acc,H4 D=some (.lst acc)/\acc.length<sizeLine/\Nx (upd H4 D (.lst (acc++[y])))else Nx H3)
theorem ME{pins:List (Addr×Obj)}{s:Shared}{σ:St}{H:Hp}{Q:VK}{elt tg iter:Expr}{ifs:List Expr}{scope:Scope}{own:List (Str×Nat)}{pos pos':Pos}{wi:TI}{g:TG}{tt:TT}{te:TE}{use:Option (Value->Sem Unit)}{Qf:Value->Shared->Prop}
  (hc:X.calm=true)(hN:X.N.Nodup)(I:Inv X pins σ H s)(hi:PI X tg iter wi)(ok:tD X.N X.env.scope scope own)
  (hg:∀(s:Shared) (H:Hp) (C:Addr) (cl:List (Str×Addr)) (fp:List Addr),PG (X.dm s H scope (compEnvC scope cl C X.env) fp) tg g)(ht:∀(s:Shared) (H:Hp) (C:Addr) (cl:List (Str×Addr)) (fp:List Addr),PTs (X.dm s H scope (compEnvC scope cl C X.env) fp) ifs tt)
  (he:∀(s:Shared) (H:Hp) (C:Addr) (cl:List (Str×Addr)) (fp:List Addr),PE (X.dm s H scope (compEnvC scope cl C X.env) fp) elt te)(hs:∀x,foldedSetIterable iter X.env x=pure x)
  (h:gA wi g tt te (own.map (·.2)) σ H Q)
  (hRR:∀D C s' m H',Inv X pins σ H' s'->Q (.ref D) H'->s'.heap.Ns C m->kj X pins H' C->compPost (model X.prog X.w) X.A X.xe use Qf (.ref D) C (.ok .next) s'):
  wpAny (model X.prog X.w) X.A (comprehension (.ListComp elt [⟨tg,iter,ifs,0⟩] scope pos) scope X.env pos' (newList []) false (eval iter X.env) use) Qf X.xe s:=by
 unfold gA at h;have rA:∀y∈scope.names,y.2=.free->∃c,X.env.cells.lookup y.1=some c:=λy hy e=>by
  rcases ok.free y hy e with k|k
  .exact I.ok.has _ (.inl k)
  .exact I.ok.has _ (.inr k)
 refine wpAny_comprehension_free (use:=use) rfl hs (E9 rA) ok.kind (λy hy e=>by rw[ok.uniq y hy,e])
  (aQ (hi pins s σ H _ I h) λxv s1 hx=>aQ hx λitv s2 h2=>?_)
 obtain⟨it,fp,tn,J,H2,e,I2,T,st2,f2,q⟩:=h2;subst e;refine l5 (MA ?_) (by show 0<=sizeLine;decide);generalize hD:s2.heap.objs.size=D;have hDn:H2 D=none:=I2.aB.fresh (wm hD);obtain⟨W,⟨m0,w0⟩,turn⟩:=q D hDn;generalize hs3:({s2 with heap:=s2.heap.push {cls:=.type "list",data:=.seq ([]:List Value).toArray}}:Shared)=s3;have I3:Inv X pins σ (upd H2 D (.lst [])) s3:=by
  rw[<-hs3];refine I2.laid (t':=s2.toks) (λb o e=>cz _ e) (wm hD) ⟨cM _,[],0,.nil,?_⟩;rw[<-hD];exact fC _ rfl
 have h3:s3.heap=s2.heap.push {cls:=.type "list",data:=.seq ([]:List Value).toArray}:=by rw[<-hs3]
 have sz:∀b∈fp,b<s2.heap.objs.size:=λb hb=>by
  obtain⟨o,e,_⟩:=T.obj _ _ st2 b hb;exact cI e
 have f3:∀b∈fp,kj X pins (upd H2 D (.lst [])) b/\b<s3.heap.objs.size:=λb hb=>by
  have aR:=sz b hb;refine⟨⟨?_,(f2 b hb).2⟩,by rw[h3,jw];exact JL aR⟩;rw[aJ (by rw[<-hD];exact fT aR)];exact(f2 b hb).1
 have st3:tn 0 s3.heap:=T.keep _ _ _ st2 λb _ o e=>by rw[h3];exact cz _ e
 have I4:=MB I3 ok hN f3;have pg:=hg s3 (upd H2 D (.lst [])) s3.heap.objs.size (cellsFrom (s3.heap.objs.size+1) scope.names (fG X.env.cells scope.names [])) fp;have pt:=ht s3 (upd H2 D (.lst [])) s3.heap.objs.size (cellsFrom (s3.heap.objs.size+1) scope.names (fG X.env.cells scope.names [])) fp;have pe:=he s3 (upd H2 D (.lst [])) s3.heap.objs.size (cellsFrom (s3.heap.objs.size+1) scope.names (fG X.env.cells scope.names [])) fp;show codeAny _ _ (.compStart (.ListComp elt [⟨tg,iter,ifs,0⟩] scope pos) 0 (.ref it) (.ref D) (compEnvC scope (cellsFrom (s3.heap.objs.size+1) scope.names (fG X.env.cells scope.names [])) s3.heap.objs.size X.env)) (compPost (model X.prog X.w) X.A X.xe use Qf (.ref D) s3.heap.objs.size) {s3 with heap:=pushCells (s3.heap.push {cls:=.type "dict",data:=.dict #[]}) scope.names};have nfp:∀b∈fp,(upd H2 D (.lst [])) b=none:=λb hb=>(f3 b hb).1.1;generalize hce:compEnvC scope (cellsFrom (s3.heap.objs.size+1) scope.names (fG X.env.cells scope.names [])) s3.heap.objs.size X.env=ce at I4 pg pt pe⊢;have cL:ce.locals=s3.heap.objs.size:=by subst hce;rfl
 generalize hH3:upd H2 D (.lst [])=H3 at I3 I4 pg pt pe w0 nfp f3;generalize hs4:({s3 with heap:=pushCells (s3.heap.push {cls:=.type "dict",data:=.dict #[]}) scope.names}:Shared)=s4 at I4⊢;have st4:tn 0 s4.heap:=T.keep _ _ _ st3 λb _ o e=>by rw[<-hs4];exact De _ _ _ _ (cz _ e)
 have nJ:∀{σ':St} {H':Hp} {s':Shared},Inv (X.dm s3 H3 scope ce fp) [] σ' H' s'->(∀b∈fp,H' b=none)->∀b∈fp,kj (X.dm s3 H3 scope ce fp) [] H' b:=λ{σ' H' s'} I' hn b hb=>
  ⟨hn b hb,(I'.ok.exf b hb).1,I'.ok.qb b hb,.inl hb,λx c e=>(I'.ok.exf b hb).2 x c e,λp hp=>absurd (show p∈([]:List (Addr×Obj))++[]from hp) (by simp)⟩
 have loop:codeAny (model X.prog X.w) X.A (.compLoop (.ListComp elt [⟨tg,iter,ifs,0⟩] scope pos) 0 (.ref it) (.ref D) ce) (compPost (model X.prog X.w) X.A X.xe use Qf (.ref D) s3.heap.objs.size) s4:=by
  refine MD (λn s'=>∃i H',Inv (X.dm s3 H3 scope ce fp) [] (wipe σ (own.map (·.2))) H' s'/\tn i s'.heap/\(∀b∈fp,H' b=none)/\W i n H') ?_ m0 ⟨0,H3,I4,st4,nfp,w0⟩;rintro n s5 ⟨i,H5,I5,st5,n5,w5⟩;rcases turn i n H5 w5 with⟨stop,qq⟩|⟨go,Nx,hNx,step⟩
  .have td:=T.done (X.dm s3 H3 scope ce fp) rfl rfl rfl hc i [] s5 _ H5 (λ_ _=>False) I5 (nJ I5 n5) st5 stop
   refine nQ td λr s6 ⟨hr,I6⟩=>?_;subst hr;have I7:Inv X pins σ H5 s6:=I3.Ad (ch:=fp) I6.os I6.base I6.aB I6.bare λb hb=>⟨(f3 b hb).1.2.2.2.1,(f3 b hb).1.2.1,(f3 b hb).1.2.2.2.2.1,(f3 b hb).1.2.2.2.2.2⟩;have nC:H5 s3.heap.objs.size=none:=by
    have z:H5 ce.locals=none:=I6.free;rw[cL]at z;exact z
   obtain⟨m,hn,_⟩:=I6.loc;have hn:s6.heap.Ns ce.locals m:=hn;rw[cL]at hn;exact hRR D s3.heap.objs.size s6 m H5 I7 qq hn (I3.qc (aF _) nC)
  .have ti:=T.item (X.dm s3 H3 scope ce fp) rfl rfl rfl hc i [] s5 _ H5 (λ_ _=>False) I5 (nJ I5 n5) st5 go
   refine nQ ti λr s6 ⟨u,hr,h6⟩=>?_;subst hr;refine nQ h6 λ_ s7 ⟨x,H7,I7,r7,y7,st7,n7⟩=>?_;have I7':=I7.pinned (nJ I7 n7) (T.obj _ _ st7);refine nQ (pg _ s7 _ H7 x u _ I7' r7 (step x H7 y7)) λ_ s8 ⟨σ8,H8,I8,hw8,q8⟩=>?_;refine nQ (pt _ s8 σ8 H8 _ I8 q8) λb s9 ⟨H9,I9,q9⟩=>?_;have fin:∀{s':Shared} {H':Hp},Inv (X.dm s3 H3 scope ce fp) ([]++uW fp s7.heap) σ8 H' s'->Nx H'->∃m,m<n/\∃i H',Inv (X.dm s3 H3 scope ce fp) [] (wipe σ (own.map (·.2))) H' s'/\tn i s'.heap/\(∀b∈fp,H' b=none)/\W i m H':=λ{s' H'} I' nx=>by
    obtain⟨m',hm,w'⟩:=hNx H' nx;have xH:∀b∈fp,∀o,s7.heap.get? b=some o->s'.heap.get? b=some o/\H' b=none:=λb hb o e=>
     let z:=I'.pin (b,o) (ou _ (ou _ (Al hb e)))
     ⟨z.1,z.2.1⟩
    have hl:(wipe σ (own.map (·.2))).length=σ8.length:=by rw[<-hw8,AF]
    refine⟨m',hm,i+1,H',(I'.rB (pins:=[])).weak hl (λj v e=>?_),T.keep _ _ _ st7 λb hb o e=>(xH b hb o e).1,λb hb=>?_,w'⟩
    .rw[<-hw8]at e
     exact(AG e).1
    .obtain⟨o,e,_⟩:=T.obj _ _ st7 b hb
     exact(xH b hb o e).2
   cases b with
   |false=>
    simp only[wA,qN]at q9⊢;exact fin I9 q9
   |true=>
    simp only[pM]at q9⊢;refine nQ (pe _ s9 σ8 H9 _ I9 q9) λz gK ⟨yv,H10,I10,r10,acc,Fi,xJ,nx⟩=>?_;exact MC (X:=X.dm s3 H3 scope ce fp) I10 Fi xJ r10 λs11 I11=>fin I11 nx
 exact codeAny_compStart_list loop (T.self X.A 0 _ _ _ st4 loop)
theorem gU{elt tg iter:Expr}{ifs:List Expr}{scope:Scope}{own:List (Str×Nat)}{pos:Pos}{wi:TI}{g:TG}{tt:TT}{te:TE}(hc:X.calm=true)(hN:X.N.Nodup)(hi:PI X tg iter wi)(ok:tD X.N X.env.scope scope own)
  (hg:∀(s:Shared) (H:Hp) (C:Addr) (cl:List (Str×Addr)) (fp:List Addr),PG (X.dm s H scope (compEnvC scope cl C X.env) fp) tg g)(ht:∀(s:Shared) (H:Hp) (C:Addr) (cl:List (Str×Addr)) (fp:List Addr),PTs (X.dm s H scope (compEnvC scope cl C X.env) fp) ifs tt)
  (he:∀(s:Shared) (H:Hp) (C:Addr) (cl:List (Str×Addr)) (fp:List Addr),PE (X.dm s H scope (compEnvC scope cl C X.env) fp) elt te)(hs:∀x,foldedSetIterable iter X.env x=pure x:=by intro _;rfl):
  PE X (.ListComp elt [⟨tg,iter,ifs,0⟩] scope pos) (gA wi g tt te (own.map (·.2))):=by
 intro pins s σ H Q I h;rw[eval_ListComp];refine ME hc hN I hi ok hg ht he hs h λD C s' m H' I' q hn f=>⟨m,hn,λgV sb=>?_⟩;obtain⟨f0,f1,f2,f3,f4,f5⟩:=f;exact⟨.ref D,H',I'.turned (t':=s'.toks) (λb o hb e=>(sb.2 b hb).trans e) f0 f1 f3 f4 f5,rfl,q⟩
theorem qi{i:Nat}{y:Str}{py:Pos}{elt tg iter:Expr}{ifs:List Expr}{scope:Scope}{own:List (Str×Nat)}{pos xK:Pos}{wi:TI}{g:TG}{tt:TT}{te:TE}(hc:X.calm=true)(hN:X.N.Nodup)(hy:X.N[i]?=some y)(hyl:X.env.scope.names.lookup y=some .local)
  (hsw:swapsWith (.ListComp elt [⟨tg,iter,ifs,0⟩] scope pos) (some (.Name y py)) xK.line X.env=pure true)(hi:PI X tg iter wi)(ok:tD X.N X.env.scope scope own)
  (hg:∀(s:Shared) (H:Hp) (C:Addr) (cl:List (Str×Addr)) (fp:List Addr),PG (X.dm s H scope (compEnvC scope cl C X.env) fp) tg g)(ht:∀(s:Shared) (H:Hp) (C:Addr) (cl:List (Str×Addr)) (fp:List Addr),PTs (X.dm s H scope (compEnvC scope cl C X.env) fp) ifs tt)
  (he:∀(s:Shared) (H:Hp) (C:Addr) (cl:List (Str×Addr)) (fp:List Addr),PE (X.dm s H scope (compEnvC scope cl C X.env) fp) elt te)(hs:∀x,foldedSetIterable iter X.env x=pure x:=by intro _;rfl):
  PS X (.Assign [.Name y py] (.ListComp elt [⟨tg,iter,ifs,0⟩] scope pos) xK) (Ag (gA wi g tt te (own.map (·.2))) (lz i)):=by
 intro pins s σ H D I h;rw[exec_Assign_Name_used _ _ _ _ hsw];refine ao (JE (ao ?_));show wpAny _ X.A (do let _ <-comprehension (.ListComp elt [⟨tg,iter,ifs,0⟩] scope pos) scope X.env (firstIterPos [⟨tg,iter,ifs,0⟩] pos) (newList []) false (eval iter X.env) (some (assign (.Name y py) X.env))) _ _ s;have h:gA wi g tt te (own.map (·.2)) σ H (λx H1=>lz i x σ H1 D.nx):=h;refine ao (aQ (ME (Qf:=λ_ s'=>SP X pins D .next s') hc hN I hi ok hg ht he hs h λL C s' m H' I' q hn f=>?_) λ_ s' hq=>bu (bu hq));show wpAny _ _ (assign (.Name y py) X.env (.ref L)) _ _ _;refine Ry (EB (v:=V.ref L) I' hN hy (.inl hyl) rfl (λs2 I2 ⟨a,sb,ha⟩=>?_) (.inr hyl));obtain⟨f0,f1,f2,f3,f4,f5⟩:=f;have haC:C≠a:=by
  rcases ha with z|z
  .rw[z];exact f1
  .exact λe=>f4 y a z e.symm
 refine⟨m,hn.sameBut sb haC,λh3 sb3=>?_⟩;exact⟨_,H',I2.turned (t':=s2.toks) (λb o hb e=>(sb3.2 b hb).trans e) f0 f1 f3 f4 f5,q⟩
theorem nR{elt:Expr}{gs:List Comprehension}{scope:Scope}{pos py:Pos}{y:Str}{l:Nat}{env:Env}(hk:env.scope.kind=.function)(hy:env.scope.names.lookup y=some .local)(hl:(py.line==pos.line)=true)
  (ha:(scope.names.any λ(n,k)=>n==y&&(k== .local||k== .cell))=false):swapsWith (.ListComp elt gs scope pos) (some (.Name y py)) l env=pure true:=by
 have ky:env.kindOf y=some .local:=hy;have hb:env.blockKind=.function:=by unfold Env.blockKind;rw[hk];rfl
 unfold swapsWith;simp only[hb,ky,ha,Expr.pos,hl];rfl
end
theorem Fj{lo:Int}{n:Nat}{g:TG}{tt:TT}{te:TE}{vs:List Nat}{σ:St}{H1:Hp}{D:Addr}{Qd:Hp->Prop}(Pv:Nat->Hp->Prop)(h0:Pv 0 (upd H1 D (.lst [])))
  (hs:∀i H,i<n->Pv i H->g (.int (lo+i)) (wipe σ vs) H λσ2 H2=>wipe σ2 vs=wipe σ vs/\tt σ2 H2 λb H3=>
   if b=true then te σ2 H3 λy H4=>∃acc,H4 D=some (.lst acc)/\acc.length<sizeLine/\Pv (i+1) (upd H4 D (.lst (acc++[y])))else Pv (i+1) H3)(hd:∀H,Pv n H->Qd H):
  ∃W:Nat->Nat->Hp->Prop,(∃m,W 0 m (upd H1 D (.lst [])))/\∀i m H,W i m H->
   ((mz lo n).stop i H/\Qd H)\/((mz lo n).go i H/\∃Nx:Hp->Prop,(∀H',Nx H'->∃m',m'<m/\W (i+1) m' H')/\∀x H',(mz lo n).nI i H x H'->g x (wipe σ vs) H' λσ2 H2=>wipe σ2 vs=wipe σ vs/\tt σ2 H2 λb H3=>
    if b=true then te σ2 H3 λy H4=>∃acc,H4 D=some (.lst acc)/\acc.length<sizeLine/\Nx (upd H4 D (.lst (acc++[y])))else Nx H3):=by
 refine⟨λi m H=>m=n-i/\i<=n/\Pv i H,⟨n,by simp,cM _,h0⟩,?_⟩;rintro i m H ⟨rfl,hi,p⟩;by_cases aR:i<n
 .refine .inr ⟨aR,Pv (i+1),λH' p'=>⟨n-(i+1),by omega,rfl,aR,p'⟩,λx H' y=>?_⟩
  obtain⟨e,y⟩:=y;subst e y;exact hs i _ aR p
 .have e:i=n:=by omega
  subst e;exact .inl ⟨aF _,hd H p⟩
theorem VV{K:Frag}{a:Addr}{xs:List V}{g:TG}{tt:TT}{te:TE}{vs:List Nat}{σ:St}{H1:Hp}{D:Addr}{Qd:Hp->Prop}(Pv:Nat->Hp->Prop)(h0:Pv 0 (upd H1 D (.lst [])))(hl:∀i H,i<=xs.length->Pv i H->aU K H a xs)
  (hs:∀i x H,xs[i]?=some x->Pv i H->g x (wipe σ vs) H λσ2 H2=>wipe σ2 vs=wipe σ vs/\tt σ2 H2 λb H3=>
   if b=true then te σ2 H3 λy H4=>∃acc,H4 D=some (.lst acc)/\acc.length<sizeLine/\Pv (i+1) (upd H4 D (.lst (acc++[y])))else Pv (i+1) H3)(hd:∀H,Pv xs.length H->Qd H):
  ∃W:Nat->Nat->Hp->Prop,(∃m,W 0 m (upd H1 D (.lst [])))/\∀i m H,W i m H->
   ((Itl K a).stop i H/\Qd H)\/((Itl K a).go i H/\∃Nx:Hp->Prop,(∀H',Nx H'->∃m',m'<m/\W (i+1) m' H')/\∀x H',(Itl K a).nI i H x H'->g x (wipe σ vs) H' λσ2 H2=>wipe σ2 vs=wipe σ vs/\tt σ2 H2 λb H3=>
    if b=true then te σ2 H3 λy H4=>∃acc,H4 D=some (.lst acc)/\acc.length<sizeLine/\Nx (upd H4 D (.lst (acc++[y])))else Nx H3):=by
 refine⟨λi m H=>m=xs.length-i/\i<=xs.length/\Pv i H,⟨xs.length,by simp,cM _,h0⟩,?_⟩;rintro i m H ⟨rfl,hi,p⟩;have q:=hl i H hi p;by_cases aR:i<xs.length
 .refine .inr ⟨⟨xs,xs[i],q,by simp[aR]⟩,Pv (i+1),λH' p'=>⟨xs.length-(i+1),by omega,rfl,aR,p'⟩,λx H' y=>?_⟩
  obtain⟨e,y⟩:=y;subst e;exact hs i x _ (y xs q) p
 .have e:i=xs.length:=by omega
  subst e;exact .inl ⟨⟨xs,q,aF _⟩,hd H p⟩
theorem VW{K:Frag}{a:Addr}{xs:List V}{g:TG}{tt:TT}{te:TE}{vs:List Nat}{σ:St}{H1:Hp}{D:Addr}{Qd:Hp->Prop}(Pv:Nat->Hp->Prop)(h0:Pv 0 (upd H1 D (.lst [])))(hl:∀i H,i<=xs.length->Pv i H->aM K H a xs)
  (hs:∀i x H,xs[i]?=some x->Pv i H->g x (wipe σ vs) H λσ2 H2=>wipe σ2 vs=wipe σ vs/\tt σ2 H2 λb H3=>
   if b=true then te σ2 H3 λy H4=>∃acc,H4 D=some (.lst acc)/\acc.length<sizeLine/\Pv (i+1) (upd H4 D (.lst (acc++[y])))else Pv (i+1) H3)(hd:∀H,Pv xs.length H->Qd H):
  ∃W:Nat->Nat->Hp->Prop,(∃m,W 0 m (upd H1 D (.lst [])))/\∀i m H,W i m H->
   ((Itt K a).stop i H/\Qd H)\/((Itt K a).go i H/\∃Nx:Hp->Prop,(∀H',Nx H'->∃m',m'<m/\W (i+1) m' H')/\∀x H',(Itt K a).nI i H x H'->g x (wipe σ vs) H' λσ2 H2=>wipe σ2 vs=wipe σ vs/\tt σ2 H2 λb H3=>
    if b=true then te σ2 H3 λy H4=>∃acc,H4 D=some (.lst acc)/\acc.length<sizeLine/\Nx (upd H4 D (.lst (acc++[y])))else Nx H3):=by
 refine⟨λi m H=>m=xs.length-i/\i<=xs.length/\Pv i H,⟨xs.length,by simp,cM _,h0⟩,?_⟩;rintro i m H ⟨rfl,hi,p⟩;have q:=hl i H hi p;by_cases aR:i<xs.length
 .refine .inr ⟨⟨xs,xs[i],q,by simp[aR]⟩,Pv (i+1),λH' p'=>⟨xs.length-(i+1),by omega,rfl,aR,p'⟩,λx H' y=>?_⟩
  obtain⟨e,y⟩:=y;subst e;exact hs i x _ (y xs q) p
 .have e:i=xs.length:=by omega
  subst e;exact .inl ⟨⟨xs,q,aF _⟩,hd H p⟩
def MF(N:List Str)(sc scope:Scope)(own:List (Str×Nat)):Bool:=
 (match scope.kind with| .function=>true|_=>false)&&(scope.names.all λy=>decide (scope.names.lookup y.1=some y.2))&&(own.all λp=>decide (N[p.2]?=some p.1))&&
  (scope.names.all λy=>match y.2 with
   | .free=>(match sc.names.lookup y.1 with|some .cell=>true|some .free=>true|_=>false)
   | .local=>decide (y.1∈own.map (·.1))||decide (y.1∉N)
   | .cell=>decide (y.1∈own.map (·.1))||decide (y.1∉N)
   |_=>true)
theorem eu{N:List Str}{sc scope:Scope}{own:List (Str×Nat)}(h:MF N sc scope own=true):tD N sc scope own:=by
 unfold MF at h;simp only[cV,ze,decide_eq_true_eq]at h;obtain⟨⟨⟨h1,h2⟩,h3⟩,h4⟩:=h;refine⟨?_,h2,h3,λy hy e=>?_,λy hy e=>?_⟩
 .split at h1
  .assumption
  .cases h1
 .have q:=h4 y hy
  simp only[e]at q;split at q<;>first|exact .inl (by assumption)|exact .inr (by assumption)|cases q
 .have q:=h4 y hy
  rcases e with e|e<;>(simp only[e,pJ,decide_eq_true_eq]at q;exact q)
section
variable{κ:Type} [DecidableEq κ]
def f6(ak:List (κ×V))(k:κ):Option V:=(ak.find? λkv=>decide (kv.1=k)).map (·.2)
def putK(ak:List (κ×V))(k:κ)(v:V):List (κ×V):=
 if(ak.any λkv=>decide (kv.1=k))=true then ak.map (λkv=>if kv.1=k then(kv.1,v)else kv)else ak++[(k,v)]
theorem nS{p:κ×V}{r:List (κ×V)}{k:κ}(e:p.1=k):f6 (p::r) k=some p.2:=by simp[f6,uG,e]
theorem nT{p:κ×V}{r:List (κ×V)}{k:κ}(e:¬p.1=k):f6 (p::r) k=f6 r k:=by simp[f6,uG,e]
theorem xM(k:κ):∀ak:List (κ×V),(ak.any λkv=>decide (kv.1=k))=(f6 ak k).isSome
 |[]=>rfl
 |p::r=>by
  rw[jx];by_cases e:p.1=k
  .simp only[nS e,cT e,JB,Option.isSome_some]
  .rw[nT e,bZ e,zk];exact xM k r
theorem MG(k j:κ)(y:V):∀ak:List (κ×V),f6 (ak.map λkv=>if kv.1=k then(kv.1,y)else kv) j=(f6 ak j).map λx=>if j=k then y else x
 |[]=>rfl
 |p::r=>by
  have ih:=MG k j y r;rw[cD];by_cases h:p.1=k
  .rw[aj h]
   by_cases e:p.1=j
   .rw[nS (p:=(p.1,y)) e,nS e,wB,aj (e.symm.trans h)]
   .rw[nT (p:=(p.1,y)) e,nT e,ih]
  .rw[ai h]
   by_cases e:p.1=j
   .rw[nS (p:=p) e,nS e,wB,ai (λz=>h (e.trans z))]
   .rw[nT (p:=p) e,nT e,ih]
theorem MH(k j:κ)(y:V):∀ak:List (κ×V),f6 ak k=none->f6 (ak++[(k,y)]) j=if j=k then some y else f6 ak j
 |[],_=>by
  by_cases e:k=j
  .rw[aj e.symm];exact nS (p:=(k,y)) e
  .rw[ai (λz=>e z.symm)];exact nT (p:=(k,y)) e
 |p::r,hn=>by
  rw[zf];have hk:¬p.1=k:=λz=>by rw[nS z]at hn;cases hn
  rw[nT hk]at hn;have ih:=MH k j y r hn;by_cases e:p.1=j
  .rw[nS e,nS e,ai (λz=>hk (e.trans z))]
  .rw[nT e,nT e,ih]
theorem VX(ak:List (κ×V))(k j:κ)(y:V):f6 (putK ak k y) j=if j=k then some y else f6 ak j:=by
 unfold putK;by_cases a:(ak.any λkv=>decide (kv.1=k))=true
 .rw[aj a,MG]
  rw[xM]at a;by_cases e:j=k
  .obtain⟨x,hx⟩:=RA.mp a
   rw[aj e,e,hx,wB,aj rfl]
  .rw[ai e]
   cases f6 ak j with
   |none=>rfl
   |some x=>rw[wB,ai e]
 .rw[ai a]
  refine MH k j y ak ?_;rw[xM]at a;cases q:f6 ak k with
  |none=>rfl
  |some x=>rw[q]at a;exact(a rfl).elim
theorem MI(ak:List (κ×V))(k:κ)(v:V):(putK ak k v).length<=ak.length+1:=by
 unfold putK;split
 .rw[aK];omega
 .rw[aX,bT,zp];omega
theorem VY{ak:List (κ×V)}{k:κ}(v:V)(h:f6 ak k=none):putK ak k v=ak++[(k,v)]:=by
 unfold putK;rw[xM,h];exact ai (by decide)
theorem jC.VZ{o:Option V}{u:Option Value}(r:jC o u):o.isSome=u.isSome:=by
 cases o with
 |none=>cases u with
  |none=>rfl
  |some _=>exact(show False from r).elim
 |some _=>cases u with
  |none=>exact(show False from r).elim
  |some _=>rfl
theorem KV.val{ak:List (κ×V)}{vs:List (κ×Value)}(r:KV ak vs)(k:κ):jC (f6 ak k) (valueAt vs k):=by
 unfold KV at r
 induction r with
 |nil=>exact True.intro
 | @cons p q ps qs h t ih=>
  obtain⟨h1,h2⟩:=h;by_cases e:p.1=k
  .have e':q.1=k:=h1.symm.trans e
   have b:valueAt (q::qs) k=some q.2:=by simp[valueAt,uG,e']
   rw[nS e,b];exact h2
  .have e':¬q.1=k:=λz=>e (h1.trans z)
   have b:valueAt (q::qs) k=valueAt qs k:=by simp[valueAt,uG,e']
   rw[nT e,b];exact ih
theorem KV.any{ak:List (κ×V)}{vs:List (κ×Value)}(r:KV ak vs)(k:κ):(ak.any λkv=>decide (kv.1=k))=vs.any λkv=>decide (kv.1=k):=by
 unfold KV at r
 induction r with
 |nil=>rfl
 |cons h t ih=>rw[jx,jx,ih,h.1]
theorem KV.Fo{ak:List (κ×V)}{vs:List (κ×Value)}(r:KV ak vs)(k:κ){y:V}{u:Value}(ry:RelV y u):
  KV (ak.map λkv=>if kv.1=k then(kv.1,y)else kv) (vs.map λkv=>if kv.1=k then(kv.1,u)else kv):=by
 unfold KV at r⊢
 induction r with
 |nil=>exact .nil
 | @cons p q ps qs h t ih=>
  rw[cD,cD];refine .cons ?_ ih;obtain⟨h1,h2⟩:=h;by_cases e:p.1=k
  .rw[aj e,aj (h1.symm.trans e)];exact⟨h1,ry⟩
  .rw[ai e,ai (λz=>e (h1.trans z))];exact⟨h1,h2⟩
theorem KV.put{ak:List (κ×V)}{vs:List (κ×Value)}(r:KV ak vs)(k:κ){y:V}{u:Value}(ry:RelV y u):KV (putK ak k y) (stored vs k u):=by
 unfold putK stored;rw[r.any k];by_cases e:(vs.any λkv=>decide (kv.1=k))=true
 .rw[aj e,aj e];exact r.Fo k ry
 .rw[ai e,ai e];exact Paired.snoc r ⟨rfl,ry⟩
theorem KV.length{ak:List (κ×V)}{vs:List (κ×Value)}(r:KV ak vs):ak.length=vs.length:=Paired.length r
end
theorem xN{P:Program}{w:World}{k:Key}{u:Value}(r:RelV (kV k) u):(iS P w).is k u=true:=by
 cases k with
 |inl i=>obtain⟨t,e⟩:=(show∃t,u=Value.int i t from r);subst e;exact Ua P w i t
 |inr x=>obtain⟨t,e⟩:=(show∃t,u=Value.str x t from r);subst e;exact Ub P w x t
theorem MJ{P:Program}{w:World}:∀{ks:List Key} {us:List Value},Vals (ks.map kV) us->ItemsAre (iS P w) ks us
 |[],_,r=>by rw[zq]at r;cases r;exact .nil
 |k::ks,_,r=>by
  rw[cD]at r;cases r with
  |cons h t=>exact .cons (xN h) (MJ t)
abbrev KT(H:Hp):List (List Key×V)->List (List Key×Addr×Value)->Prop:=Paired λp q=>p.1=q.1/\H q.2.1=some (.tup (p.1.map kV))/\RelV p.2 q.2.2
theorem KT.val{H:Hp}{ak:List (List Key×V)}{xs:List (List Key×Addr×Value)}(r:KT H ak xs)(k:List Key):jC (f6 ak k) ((atKey xs k).map (·.2)):=by
 induction r with
 |nil=>exact True.intro
 | @cons p q ps qs h t ih=>
  obtain⟨h1,_,h2⟩:=h;by_cases e:p.1=k
  .have e':q.1=k:=h1.symm.trans e
   have b:atKey (q::qs) k=some q.2:=by simp[atKey,uG,e']
   rw[nS e,b];exact h2
  .have e':¬q.1=k:=λz=>e (h1.trans z)
   have b:atKey (q::qs) k=atKey qs k:=by simp[atKey,uG,e']
   rw[nT e,b];exact ih
theorem KT.Fo{H:Hp}{ak:List (List Key×V)}{xs:List (List Key×Addr×Value)}(r:KT H ak xs)(k:List Key){y:V}{u:Value}(ry:RelV y u):
  KT H (ak.map λkv=>if kv.1=k then(kv.1,y)else kv) (xs.map (putAt k u)):=by
 induction r with
 |nil=>exact .nil
 | @cons p q ps qs h t ih=>
  rw[cD,cD];refine .cons ?_ ih;obtain⟨h1,h2,h3⟩:=h;unfold putAt;by_cases e:p.1=k
  .rw[aj e,aj (h1.symm.trans e)];exact⟨h1,h2,ry⟩
  .rw[ai e,ai (λz=>e (h1.trans z))];exact⟨h1,h2,h3⟩
theorem KT.put{H:Hp}{ak:List (List Key×V)}{xs:List (List Key×Addr×Value)}(r:KT H ak xs)(k:List Key){b:Addr}{y:V}{u:Value}(hb:H b=some (.tup (k.map kV)))(ry:RelV y u):
  KT H (putK ak k y) (storedH xs k b u):=by
 have e:(ak.any λkv=>decide (kv.1=k))=(atKey xs k).isSome:=by
  rw[xM,(r.val k).VZ,Option.isSome_map]
 unfold putK storedH;rw[e];by_cases q:(atKey xs k).isSome=true
 .rw[aj q,aj q];exact r.Fo k ry
 .rw[ai q,ai q];exact Paired.snoc r ⟨rfl,hb,ry⟩
theorem KT.keeps{H H':Hp}{ak:List (List Key×V)}{xs:List (List Key×Addr×Value)}(r:KT H ak xs)(ht:∀b ys,H b=some (.tup ys)->H' b=some (.tup ys)):KT H' ak xs:=
 Paired.Ez r λ_ _ z=>⟨z.1,ht _ _ z.2.1,z.2.2⟩
section
variable{P:Program}{w:World}{H:Hp}{h:Heap}{a:Addr}
theorem MK{u:HO}(ok:bU P w H h)(e:Rd H a u):fD P w H h a u:=e.ok ok
theorem Fp{ak:List (Key×V)}(ok:bU P w H h)(e:Rd H a (.dK ak)):ak.length<=sizeLine/\(a==sysModules)=false/\∃vs,KV ak vs/\h.DictOf (iS P w) a vs:=
 show fD P w H h a (.dK ak)from MK ok e
theorem V0{ak:List (Key×V)}(ok:bU P w H h)(e:H a=some (.dK ak)):ak.length<=sizeLine/\(a==sysModules)=false/\∃vs,KV ak vs/\h.DictOf (iS P w) a vs:=Fp ok (.inl e)
theorem Fq{ks:List Key}(ok:bU P w H h)(e:H a=some (.tup (ks.map kV))):(tupleKind (iS P w)).is h ks a:=by
 obtain⟨_,ah,r,o,h1,h2,n,h3⟩:=(show fD P w H h a (.tup (ks.map kV))from ok a _ e);exact⟨o,ah.toArray,n,h1,h2,h3,by simpa using MJ r⟩
theorem Ft{ak:List (List Key×V)}(ok:bU P w H h)(e:Rd H a (.dT ak)):ak.length<=sizeLine/\(a==sysModules)=false/\
  ∃xs,KT H ak xs/\h.DictOfH (tupleKind (iS P w)) a xs:=by
 obtain⟨z,y,xs,r,o,es,ep,h1,h2,h3,h4,h5⟩:=(show fD P w H h a (.dT ak)from MK ok e);refine⟨z,y,xs,r,o,es,ep,h1,h2,h3,h4,λx hx=>?_,h5⟩;have all:∀{l:List (List Key×V)} {m:List (List Key×Addr×Value)},KT H l m->∀x∈m,(tupleKind (iS P w)).is h x.1 x.2.1:=by
  intro l m q
  induction q with
  |nil=>intro x hx;exact nomatch hx
  | @cons p q ps qs hq t ih=>
   intro x hx;rcases bq.mp hx with e|hx
   .subst e
    exact Fq ok (by rw[<-hq.1];exact hq.2.1)
   .exact ih x hx
 exact all r x hx
theorem V1{ak:List (List Key×V)}(ok:bU P w H h)(e:H a=some (.dT ak)):ak.length<=sizeLine/\(a==sysModules)=false/\
  ∃xs,KT H ak xs/\h.DictOfH (tupleKind (iS P w)) a xs:=Ft ok (.inl e)
end
def qj(H:Hp)(a:Addr)(y:V)(r:Option V):Prop:=
 (∃ak k,Rd H a (.dK ak)/\y=kV k/\r=f6 ak k)\/∃ak k b,Rd H a (.dT ak)/\y=.ref b/\H b=some (.tup (k.map kV))/\r=f6 ak k
def xO(H:Hp)(a:Addr)(y v:V)(H':Hp):Prop:=
 (∃ak k,H a=some (.dK ak)/\y=kV k/\ak.length<sizeLine/\H'=upd H a (.dK (putK ak k v)))\/
 ∃ak k b,H a=some (.dT ak)/\y=.ref b/\H b=some (.tup (k.map kV))/\ak.length<sizeLine/\H'=upd H a (.dT (putK ak k v))
theorem qj.k{H:Hp}{a:Addr}{ak:List (Key×V)}{k:Key}(e:H a=some (.dK ak)):qj H a (kV k) (f6 ak k):=.inl ⟨ak,k,.inl e,rfl,rfl⟩
theorem xO.k{H:Hp}{a:Addr}{ak:List (Key×V)}{k:Key}{v:V}(e:H a=some (.dK ak))(hl:ak.length<sizeLine):xO H a (kV k) v (upd H a (.dK (putK ak k v))):=.inl ⟨ak,k,e,rfl,hl,rfl⟩
section
variable{X:Cx}{pins:List (Addr×Obj)}{σ:St}{H:Hp}{s:Shared}{a:Addr}{y v:V}{u r:Value}{o:Option V}{A:Around}{E:Value->Shared->Prop}
theorem Inv.big(I:Inv X pins σ H s):sysModules<s.heap.objs.size:=by
 have h:mainGlobals<s.heap.objs.size:=(I.mod.glob.keeps I.bk).lt;exact Nat.lt_trans (by decide) h
theorem V2{Q:Value->Shared->Prop}(hu:A.units+1<cLine)(I:Inv X pins σ H s)(g:qj H a y (some v))(ry:RelV y u)(h:∀w' s',Inv X pins σ H s'->RelV v w'->Q w' s'):
  wpAny (model X.prog X.w) A (getItem (.ref a) u) Q E s:=by
 rcases g with⟨ak,k,e,ey,l⟩|⟨ak,k,b,e,ey,eb,l⟩
 .subst ey
  obtain⟨z,hd,vs,rel,dd⟩:=Fp I.aB e;obtain⟨w',hw,nN⟩:=jC.some_of (v:=v) (o:=valueAt vs k) (by rw[l];exact rel.val k);exact wpAny_getItem_of (xN ry) dd.mapOf hw (h w' _ (I.tok _) nN)
 .subst ey
  cases (show u=Value.ref b from ry);obtain⟨z,hd,xs,rel,dd⟩:=Ft I.aB e;obtain⟨w',hw,nN⟩:=jC.some_of (v:=v) (o:=(atKey xs k).map (·.2)) (by rw[l];exact rel.val k);obtain⟨p,hp,hp2⟩:=qH.mp hw;refine wpAny_getItem_heap (tupleKind_room_in1 hu) (Fq I.aB eb) dd hp ?_;rw[hp2];exact h w' _ (I.tok _) nN
theorem ML{h':Heap}{t':Nat}{ob:HO}(I:Inv X pins σ H s)(mu:Mut (H a))(hs:Heap.SameBut a s.heap h')(he:∃q,h'.get? a=some q)(new:fD X.prog X.w (upd H a ob) h' a ob):
  Inv X pins σ (upd H a ob) {s with heap:=h',toks:=t'}:=
 I.write (x:=a) (e:=a) mu (.inl rfl) (λb q hb z=>(hs.2 b hb).trans z) he new
theorem V3{P:Program}{w:World}{H':Hp}{h':Heap}{ak:List (Key×V)}{vs:List (Key×Value)}(z:ak.length<=sizeLine)(hd:(a==sysModules)=false)(rel:KV ak vs)(dd:h'.DictOf (iS P w) a vs):
  fD P w H' h' a (.dK ak):=⟨z,hd,vs,rel,dd⟩
theorem V4{H':Hp}{Q:Unit->Shared->Prop}(hu:A.units+1<cLine)(I:Inv X pins σ H s)(g:xO H a y v H')(ry:RelV y u)(rv:RelV v r)(h:∀s',Inv X pins σ H' s'->Q () s'):
  wpAny (model X.prog X.w) A (setItem (.ref a) u r) Q E s:=by
 rcases g with⟨ak,k,e,ey,l,eH⟩|⟨ak,k,b,e,ey,eb,l,eH⟩
 .subst ey eH
  obtain⟨z,hd,vs,rel,dd⟩:=V0 I.aB e;have hz:vs.length<=sizeLine:=by rw[<-rel.length];exact z
  have hl:(putK ak k v).length<=sizeLine:=by have:=MI ak k v;omega
  refine wpAny_setItem_pairs (hsz:=hz) (xN ry) dd λh' dd' hs=>h _ ?_;have he:∃q,h'.get? a=some q:=let⟨q,_,_,hq,_⟩:=dd';⟨q,hq⟩
  exact ML I (by rw[e];exact True.intro) hs he (V3 hl hd (rel.put k rv) dd')
 .subst ey eH
  cases (show u=Value.ref b from ry);obtain⟨z,hd,xs,rel,dd⟩:=V1 I.aB e;have hz:xs.length<=sizeLine:=by rw[<-Paired.length rel];exact z
  have hl:(putK ak k v).length<=sizeLine:=by have:=MI ak k v;omega
  refine wpAny_setItem_heap (hsz:=hz) (tupleKind_room_in1 hu) (Fq I.aB eb) dd λh' dd' hs=>h _ ?_;obtain⟨q,es,ep,hq,h2,h3,h4,_,h5⟩:=dd';refine ML I (by rw[e];exact True.intro) hs ⟨q,hq⟩ ⟨hl,hd,_,(rel.put k eb rv).keeps λc ys ec=>?_,q,es,ep,hq,h2,h3,h4,h5⟩;rw[aJ (sS ec e (λz=>nomatch z))];exact ec
end
def Fv(i:Expr):Prop:=∀ov iv,subscripted i false ov iv=operate [ov,iv] (getItem ov iv)
theorem MM{prog:Program}{w:World}{A:Around}{E:Value->Shared->Prop}{s:Shared}{env:Env}{value slice:Expr}{pos:Pos}{T id:String}{Q:Value->Shared->Prop}
  (hl:typeLookup (.type T) "__getitem__"=pure (some (.builtin id)))(hs:Fv slice)
  (h:wpAny (model prog w) A (eval value env) (λo s₁=>wpAny (model prog w) A (eval slice env) (λi s₂=>s₂.TypeIs o T/\wpAny (model prog w) A (getItem o i) Q E s₂) E s₁) E s):
  wpAny (model prog w) A (eval (.Subscript value slice pos) env) Q E s:=by
 refine Subscript_ (g8 h (λo s₁ h₁=>g8 h₁ (λi s₂ h₂=>?_) λ_ _ x=>x) λ_ _ x=>x);obtain⟨hT,h₂⟩:=h₂;unfold subscriptTail;refine ao ?_;rw[getitemInPython_of_ne hT.not_modules];refine ao (Df hT hl ?_);have fin:wpAny (model prog w) A (subscripted slice false o i) (λr s₃=>wpAny (model prog w) A (letTemporaryGo value o r>>=λ_=>pure r) Q E s₃) E s₂:=by
  rw[hs o i];exact wpAny_operating (g8 h₂ (λr s₃ h₃=>ao (wpAny_letTemporaryGo (bu h₃))) λ_ _ x=>x)
 first
  |exact bu (ao fin)
  |exact ao (bu (ao fin))
  |exact ao fin
theorem V5{X:Cx}{pins:List (Addr×Obj)}{σ:St}{H:Hp}{s:Shared}{a:Addr}{y:V}{o:Option V}(I:Inv X pins σ H s)(g:qj H a y o):s.TypeIs (.ref a) "dict":=by
 rcases g with⟨ak,k,e,_,_⟩|⟨ak,k,b,e,_,_,_⟩
 .obtain⟨_,_,vs,_,dd⟩:=Fp I.aB e
  exact dd.typeIs
 .obtain⟨_,_,xs,_,dd⟩:=Ft I.aB e
  exact dd.typeIs
def V6(td ty:TE):TE:=λσ H Q=>td σ H λx H1=>ty σ H1 λy H2=>∃a v,x=.ref a/\qj H2 a y (some v)/\Q v H2
def V7(td ty tv:TE):TS:=λD σ H=>tv σ H λv H1=>td σ H1 λx H2=>ty σ H2 λy H3=>∃a H4,x=.ref a/\xO H3 a y v H4/\D.nx σ H4
section
variable{X:Cx}{o i e value:Expr}{pos pos' oS:Pos}{td ty tv:TE}
theorem MN(hu:X.A.units+1<cLine)(ho:PE X o td)(hi:PE X i ty)(hs:Fv i):PE X (.Subscript o i pos) (V6 td ty):=by
 intro pins s σ H Q I h;refine MM ab0.lookup hs (aQ (ho pins s σ H _ I h) λu s1 ⟨x,H1,I1,rx,q1⟩=>aQ (hi pins s1 σ H1 _ I1 q1) λiv s2 ⟨y,H2,I2,ry,a,v,ex,g,q2⟩=>?_);subst ex;obtain rfl:u=Value.ref a:=rx;exact⟨V5 I2 g,V2 hu I2 g ry λw' s3 I3 nN=>⟨v,H2,I3,nN,q2⟩⟩
theorem V8(hu:X.A.units+1<cLine)(ho:PE X o td)(hi:PE X i ty)(hv:PE X value tv)(hs:swapsWith value (some (.Subscript o i pos')) pos.line X.env=pure false):
  PS X (.Assign [.Subscript o i pos'] value pos) (V7 td ty tv):=by
 intro pins s σ H D I h;refine wpAny_Assign_Subscript (aQ (hv pins s σ H _ I h) λr s1 ⟨v,H1,I1,rv,q1⟩=>aQ (ho pins s1 σ H1 _ I1 q1) λu s2 ⟨x,H2,I2,rx,q2⟩=>aQ (hi pins s2 σ H2 _ I2 q2) λiv s3 ⟨y,H3,I3,ry,a,H4,ex,g,q3⟩=>?_) hs;subst ex;obtain rfl:u=Value.ref a:=rx;exact V4 hu I3 g ry rv λs4 I4=>⟨σ,H4,I4,q3⟩
end
theorem V9{P:Program}{w:World}{H:Hp}(h:Heap)(hb:sysModules<h.objs.size):fD P w H (h.push {cls:=.type "dict",data:=.dict #[]}) h.objs.size (.dK []):=
 ⟨cM _,ni.mpr (cS (fT hb)),[],.nil,Heap.DictOf.new h⟩
def Wa:TE:=λ_ H Q=>∀p,H p=none->Q (.ref p) (upd H p (.dK []))
section
variable{X:Cx}{pos:Pos}
theorem Wb:PE X (.Dict [] [] pos) Wa:=λpins s σ H Q I h=>
 wpAny_Dict_empty ⟨.ref s.heap.objs.size,_,I.laid (a:=s.heap.objs.size) (o:=.dK []) (t':=s.toks) (λ_ _ q=>cz _ q) (aF _) (V9 s.heap I.big),rfl,h _ (I.aB.fresh (aF _))⟩
end
theorem Wc:bootBuiltins "reversed"=some (.type "reversed"):=by decide+kernel
section
variable{X:Cx}{pins:List (Addr×Obj)}{σ:St}{H:Hp}{s:Shared}{h':Heap}
theorem Inv.MO{t':Nat}{ch:List Addr}{T:Addr}{ob:HO}(I:Inv X pins σ H s)(k:∀b o,b∉ch->s.heap.get? b=some o->h'.get? b=some o)(hf:∀b∈ch,kj X pins H b)(hT:s.heap.objs.size<=T)
  (new:fD X.prog X.w (upd H T ob) h' T ob):Inv X pins σ (upd H T ob) {s with heap:=h',toks:=t'}:=by
 have hn:H T=none:=I.aB.fresh hT;have nit:∀b u,H b=some u->b∉ch:=λb u e z=>by
  have q:=(hf b z).1;rw[q]at e;cases e
 refine I.step (g':=s.gens) (d':=s.drawn) (ch:=ch) (λb hb=>⟨(hf b hb).2.2.2.1,(hf b hb).2.1,(hf b hb).2.2.2.2.1,(hf b hb).2.2.2.2.2⟩) (λb o _ _ hc e _=>k b o hc e) (λb o _ _ hc e _=>⟨o.slots,k b o hc e⟩)
  (λb o _ e n=>?_) (λb o hc e=>⟨o,k b o hc e⟩) (λb xs e=>?_) (λb o u e=>?_) (λb ps e=>⟨#[],?_⟩) (λm hm=>?_) (λb u e=>?_) I.bare
 .rw[aJ (fT (g7 (cI e) hT))];exact n
 .rw[aJ (fN e hn)];exact e
 .rw[aJ (fN e hn)];exact e
 .rw[aJ (fN e hn),e];simp
 .obtain⟨o,es,ep,ho,r⟩:=hm
  exact⟨o,es,ep,k _ o (λz=>(hf _ z).2.1 rfl) ho,r⟩
 .by_cases hb:b=T
  .subst hb
   rw[aA]at e;cases e;exact new
  .rw[aJ hb]at e
   refine(I.aB b u e).rm (λc v hc q=>k c v ?_ q) (λc q=>by rw[aJ (fN q hn)];exact q) λc xs q=>by rw[aJ (fN q hn)];exact q
   rcases hc with z|z
   .rw[z];exact nit b u e
   .exact nit c _ z
end
section
variable{X:Cx}
theorem Wd{tg:Expr}{pins:List (Addr×Obj)}{σ:St}{H:Hp}{s:Shared}{R:It->Hp->Prop}{J:It}{tn:Nat->Heap->Prop}{tk:Nat}(I:Inv X pins σ H s)(o:Obj)
  (T:Turn X.prog X.w X.K tg J [s.heap.objs.size] s.heap.objs.size tn)(st:tn 0 (s.heap.push o))(q:R J H):PIE X pins σ tg R (.ref s.heap.objs.size) {s with heap:=s.heap.push o,toks:=tk}:=by
 refine⟨s.heap.objs.size,[s.heap.objs.size],tn,J,H,rfl,I.kept λb ob e=>cz _ e,T,st,λb hb=>?_,q⟩;have e:b=s.heap.objs.size:=by simpa using hb
 subst e;exact I.qc (aF _) (I.aB.fresh (aF _))
end
def Ite(K:Frag)(a:Addr):It:=
 ⟨λi H=>∃(xs:List V) (x:V),aU K H a xs/\xs[i]?=some x,λi H v H'=>∃T x,v=.ref T/\H T=none/\H'=upd H T (.tup [.int (i:Nat),x])/\∀xs,aU K H a xs->xs[i]?=some x,λi H=>∃xs:List V,aU K H a xs/\xs.length<=i⟩
theorem We{P:Program}{w:World}{K:Frag}{elts:List Expr}{kk:Nat}{oS:Pos}(a e it:Addr):
  Turn P w K (.Tuple elts kk oS) (Ite K a) [e,it] e (λi h=>(∃old,IsEnum h e it ((i:Nat):Int) old)/\h.IsListIter it a i/\e≠it) where
 mem:=by simp
 obj:=λi h st b hb=>by
  obtain⟨⟨old,he⟩,⟨o,ho,hc,hd⟩,_⟩:=st;have e':b=e\/b=it:=by simpa using hb
  rcases e' with z|z
  .rw[z];exact⟨_,he,λv q=>nomatch q⟩
  .rw[z];exact⟨o,ho,λv q=>by rw[hd]at q;cases q⟩
 keep:=λi h h' st k=>let⟨⟨old,he⟩,hi,bI⟩:=st;⟨⟨old,k e (by simp) _ he⟩,hi.at λo q=>k it (by simp) o q,bI⟩
 item:=by
  intro X hP hw hK hc i pins s σ H E I hf st hg;subst hP hw hK;obtain⟨⟨old,he⟩,hit,bI⟩:=st;obtain⟨xs,x,hq,hx⟩:=hg;obtain⟨ah,rv,p,hz⟩:=I.list hq;obtain⟨u,hu,ru⟩:=rv.get hx;have hel:e<s.heap.objs.size:=cI he;have hil:it<s.heap.objs.size:=by obtain⟨_,q,_⟩:=hit;exact cI q
  refine wpAny_pyNext_enum_item he hit p.isList (x:=u) (by simpa using hu) bI λh' ho Fw hT hsz hk=>?_;refine⟨_,rfl,wpAny_letOwnedTupleGo_enum (s:={s with heap:=h',toks:=s.toks+1}) ho λgV he' sb=>?_⟩;have hT2:gV.get? s.heap.objs.size=some {cls:=.type "tuple",data:=.seq #[.int i s.toks,u]}:=(sb.2 _ (uB hel)).trans hT;have new:fD X.prog X.w (upd H s.heap.objs.size (.tup [.int (i:Nat),x])) gV s.heap.objs.size (.tup [.int (i:Nat),x]):=
   ⟨by show 2<=sizeLine;decide,[.int i s.toks,u],.cons ⟨_,rfl⟩ (.cons ru .nil),⟨_,hT2,rfl,_,rfl⟩⟩
  have I1:Inv X pins σ (upd H s.heap.objs.size (.tup [.int (i:Nat),x])) {s with heap:=gV,toks:=s.toks+1}:=
   I.MO (ch:=[e,it]) (λb ob hb q=>(sb.2 b (λz=>hb (by simp[z]))).trans (hk b ob (λz=>hb (by simp[z])) (λz=>hb (by simp[z])) q)) hf (aF _) new
  refine⟨.ref s.heap.objs.size,_,I1,rfl,⟨_,x,rfl,I.aB.fresh (aF _),rfl,λys hy=>by rw[I.LG hy hq];exact hx⟩,⟨⟨u,?_⟩,Fw.at λo q=>(sb.2 it (cS bI)).trans q,bI⟩,λb hb=>?_⟩
  .have e1:((i+1:Nat):Int)=(i:Int)+1:=by omega
   rw[e1];exact he'
  .have jl:b<s.heap.objs.size:=by
    have e':b=e\/b=it:=by simpa using hb
    rcases e' with z|z
    .rw[z];exact hel
    .rw[z];exact hil
   rw[aJ (fT jl)];exact(hf b hb).1
 done:=by
  intro X hP hw hK hc i pins s σ H E I hf st hg;subst hP hw hK;obtain⟨⟨old,he⟩,hit,bI⟩:=st;obtain⟨xs,hq,hx⟩:=hg;obtain⟨ah,rv,p,hz⟩:=I.list hq;obtain⟨f0,f1,f2,f3,f4,f5⟩:=hf it (by simp);have hl:=rv.length;exact wpAny_pyNext_enum_end (I.ok.hd hc) he hit p.isList (by simp;omega) λh' eb=>⟨rfl,I.turned (t':=s.toks) (λb o hb q=>eb b o hb q) f0 f1 f3 f4 f5⟩
 self:=λA i s Q E st h=>let⟨⟨_,he⟩,_⟩:=st;JM he h
def MP(K:Frag)(ta:TA):TI:=λσ H R=>ta σ H λvs H1=>∃a xs,vs=[.ref a]/\aU K H1 a xs/\R (Ite K a) H1
theorem Fx{X:Cx}{e:Expr}{ta:TA}{p pos oS:Pos}{elts:List Expr}{kk:Nat}(hg:Gl X "enumerate")(hm:X.mg "enumerate"=none)(ha:PA X [e] ta)(hs:starEach [e] X.env=[(false,eval e X.env)]:=by rfl):
  PI X (.Tuple elts kk oS) (.Call (.Name "enumerate" p) [e] [] pos) (MP X.K ta):=by
 intro pins s σ H R I h;refine Call_ (uU I hg hm boot_enumerate (C7 (aQ (ha pos pins s σ H _ I h) λus s1 ⟨vs,H1,I1,r1,q1⟩=>?_) hs rfl));obtain⟨a,xs,ex,hq,q⟩:=q1;subst ex;cases r1 with
 |cons r rr=>
  cases rr;cases r;obtain⟨ah,rv,p',hz⟩:=I1.list hq;refine call_enumerate_list p'.isList λh' he hit hsz hk=>JM he ?_;have I2:Inv X pins σ H1 {s1 with heap:=h'}:=I1.kept (t':=s1.toks) hk;refine⟨s1.heap.objs.size+1,[s1.heap.objs.size+1,s1.heap.objs.size],_,_,H1,rfl,I2,We a (s1.heap.objs.size+1) s1.heap.objs.size,⟨⟨.none,he⟩,hit,Nat.succ_ne_self _⟩,λb hb=>?_,q⟩;have e':b=s1.heap.objs.size+1\/b=s1.heap.objs.size:=by simpa using hb
  have hle:s1.heap.objs.size<=b:=by
   rcases e' with z|z
   .rw[z];exact Ro _ _
   .rw[z];exact aF _
  exact I1.qc hle (I1.aB.fresh hle)
def inClass(s:Stmt)(j:Nat):Stmt:=match s with
 | .ClassDef _ _ _ body _ _ _ _ _ _ _=>body.getD j (.Pass ⟨0,0,0,0⟩)
 |_=>.Pass ⟨0,0,0,0⟩
def lD(s:Stmt):Arguments:=match s with
 | .FunctionDef _ a _ _ _ _ _ _ _ _=>a
 |_=>{posonlyargs:=[],args:=[],vararg:=none,kwonlyargs:=[],kw_defaults:=[],kwarg:=none,defaults:=[]}
def iX(s:Stmt):List Stmt:=match s with
 | .FunctionDef _ _ b _ _ _ _ _ _ _=>b
 |_=>[]
def aC(s:Stmt):Scope:=match s with
 | .FunctionDef _ _ _ _ _ _ sc _ _ _=>sc
 |_=>{kind:=.function,names:=[],isGenerator:=false,isCoroutine:=false}
abbrev eB:mE:=λ_ _ _ _ _ _=>False
abbrev E0:XK:=λ_ _ _=>False
theorem fP{X:Cx}:Passes eB X E0:=λ_ _ _ _ _ _ _ h=>h.elim
structure mL(K:Frag)(x qual:Str)(st:Stmt)(f:Addr)(fd:FuncData):Prop where
 ex:∃(oc:Value) (od:Option Addr) (kV doc pm:Value) (an:Option Addr) (cdv ct:Value) (ku:Array (Option Value)),
  fd=PySem.W.fnOf x qual (lD st) (iX st) (aC st) .none kV doc pm an cdv ct/\K.lookup f=some ⟨oc,od,.func fd,ku⟩/\PySem.W.codeIn K cdv qual=true
 kp:PySem.W.keepIn K (.ref f)=true
section
variable{P:Program}{w:World}{K:Frag}{mg:Str->Option Value}{base:Heap}
theorem mL.ok{x qual:Str}{st:Stmt}{f:Addr}{fd:FuncData}{N ps:List Str}{k:Nat}{sp:Sp}(F:mL K x qual st f fd)(S:aP N ps (aC st))(len:∀vs H Q E,sp vs H Q E->vs.length=ps.length)
  (qg:∀(cdv:Value) (A:Around) (outer:List Env) (s:Shared) (H:Hp) (vs:List V) (Q:VK) (E:XK),dB k (A.deeper (envOfC qual (aC st) s.heap.objs.size f cdv))->sp vs H Q E->
   ∃t,fX (mF eB P w K mg base N qual (aC st) f cdv A outer s H E).nox (iX st) t/\t {nx:=λ_ H'=>Q .non H',rt:=Q} (start N vs) H):cH P w K mg base eB (k+1) f fd ps sp:=by
 obtain⟨oc,od,kV,doc,pm,an,cdv,ct,ku,rfl,lk,fY⟩:=F.ex;refine EW lk fY S len λA outer s H vs Q E hr gS=>?_;obtain⟨t,h,q⟩:=qg cdv A outer s H vs Q E hr gS;exact⟨t,h.nox,q⟩
theorem mL.binds{x qual:Str}{st:Stmt}{f:Addr}{fd:FuncData}{ps:List Str}(F:mL K x qual st f fd)
  (h:∀(kV doc pm:Value) (an:Option Addr) (cdv ct:Value) (us:List Value),us.length=ps.length->bindArgs (PySem.W.fnOf x qual (lD st) (iX st) (aC st) .none kV doc pm an cdv ct) ⟨us,[]⟩=pure (ps.zip us)):Binds K fd ps []:=by
 obtain⟨oc,od,kV,doc,pm,an,cdv,ct,ku,rfl,lk,fY⟩:=F.ex;exact .all (h kV doc pm an cdv ct)
theorem Wf{x qual:Str}{st:Stmt}{f:Addr}{oc:Value}{od an:Option Addr}{ku:Array (Option Value)}{kV doc pm cdv ct:Value}(l:K.lookup f=some ⟨oc,od,.func (PySem.W.fnOf x qual (lD st) (iX st) (aC st) .none kV doc pm an cdv ct),ku⟩)
  (c:PySem.W.codeIn K cdv qual=true)(k:PySem.W.keepIn K (.ref f)=true):mL K x qual st f (PySem.W.fnOf x qual (lD st) (iX st) (aC st) .none kV doc pm an cdv ct):=⟨⟨oc,od,kV,doc,pm,an,cdv,ct,ku,rfl,l,c⟩,k⟩
end
theorem Fy{A:Around}{k:Nat}(hr:dB k A):A.units+1<cLine:=Nat.lt_of_le_of_lt (Nat.add_le_add_left (by decide:1<=64) _) hr.units
section
variable{X:Cx}
theorem pv(i:Nat){x:Str}{pos:Pos}(hN:X.N[i]?=some x:=by rfl)(hv:Vis X.env.scope x:=by first|exact Or.inl rfl|exact Or.inr (Or.inl rfl)|exact Or.inr (Or.inr rfl))(hd:(x==("__debug__":Str))=false:=by decide)
  (fY:(x==("__classdict__":Str))=false:=by decide):PE X (.Name x pos) (uS i):=ED hN hv hd fY
end
theorem aY{A B:Prop}(h:B):if false=true then A else B:=by
 rw[ai dP];exact h
theorem bf{A B:Prop}(h:A):if true=true then A else B:=by
 rw[aj rfl];exact h
def Fz(H H':Hp):Prop:=∀b o,H b=some o->H' b=some o
theorem Fz.seq{K:Frag}{H H':Hp}{a:Addr}{xs:List V}(e:Fz H H')(h:aU K H a xs):aU K H' a xs:=by
 rcases h with(h|⟨o,h⟩)|h
 .exact .inl (.inl (e _ _ h))
 .exact .inl (.inr ⟨o,e _ _ h⟩)
 .exact .inr h
section
variable{κ:Type} [DecidableEq κ]
theorem FA:∀{l:List κ} {k:κ},l.Nodup->¬k∈l->(l++[k]).Nodup
 |[],k,_,_=>by simp
 |a::r,k,h,hk=>by
  obtain⟨h1,h2⟩:=qJ.mp h;show(a::(r++[k])).Nodup;refine qJ.mpr ⟨λm=>?_,FA h2 λm=>hk (bq.mpr (Or.inr m))⟩;rcases eZ.mp m with q|q
  .exact h1 q
  .exact hk (bq.mpr (Or.inl (cF.mp q).symm))
end
theorem Wg{α:Type}{l:List α}(hN:l.Nodup){i j:Nat}{x:α}(a:l[i]?=some x)(b:l[j]?=some x):i=j:=by
 obtain⟨h1,e1⟩:=cU.mp a;obtain⟨h2,e2⟩:=cU.mp b;exact(List.getElem_inj hN).mp (e1.trans e2.symm)
end L2
section
namespace L2
open PySem PySem.Spec PyProof.Rows
open PySem.W (WData Codec OpenSpec Well WellAll ReadsW ReadsAllW)
mutual
inductive Dw(K:Frag)(H:Hp):V->WData->Prop
 |non:Dw K H .non .none
 |bl (b:Bool):Dw K H (.bl b) (.bool b)
 |int (i:Int):Dw K H (.int i) (.int i)
 |str (x:Str):Dw K H (.str x) (.str x)
 |iT (b:Array UInt8):Dw K H (.iT b) (.bytes b.toList)
 |lst {a:Addr} {xs:List V} {ds:List WData}:aU K H a xs->mO K H xs ds->Dw K H (.ref a) (.list ds)
 |tup {a:Addr} {xs:List V} {ds:List WData}:aM K H a xs->mO K H xs ds->Dw K H (.ref a) (.tuple ds)
inductive mO(K:Frag)(H:Hp):List V->List WData->Prop
 |nil:mO K H [] []
 |cons {v:V} {vs:List V} {d:WData} {ds:List WData}:Dw K H v d->mO K H vs ds->mO K H (v::vs) (d::ds)
end
theorem MQ{K:Frag}{H:Hp}:∀ns:List Int,mO K H (ns.map V.int) (ns.map WData.int)
 |[]=>.nil
 |n::r=>.cons (.int n) (MQ r)
theorem MR{K:Frag}{H:Hp}:∀(ns:List Int) (xs:List V),mO K H xs (ns.map WData.int)->xs=ns.map V.int
 |[],xs,h=>by
  cases h;rfl
 |n::r,xs,h=>by
  cases h with
  |cons h1 h2=>
   cases h1;rw[MR r _ h2]<;>rfl
section
variable{P:Program}{w:World}{K:Frag}{H:Hp}{h:Heap}{R:PySem.W.WRecords}{cl:Str->Option Addr}
theorem Wh{a:Addr}{xs:List V}(aB:bU P w H h)(KX:K.In h)(q:aU K H a xs):∃(ah:List Value) (o:Obj) (n:Nat),Vals xs ah/\h.get? a=some o/\o.cls=.type "list"/\o.data=.seq ah.toArray n:=by
 rcases q with q|⟨o,ah,n,e,hc,_,hd,_,hv⟩
 .obtain⟨_,ah,n,hv,e⟩:=(show fD P w H h a (.lst xs)from q.ok aB)
  exact⟨ah,_,n,hv,e,rfl,rfl⟩
 .exact⟨ah.toList,o,n,hv,KX _ _ e,hc,by simp[hd]⟩
theorem Wi{a:Addr}{xs:List V}(aB:bU P w H h)(KX:K.In h)(q:aM K H a xs):∃(ah:List Value) (o:Obj) (n:Nat),Vals xs ah/\h.get? a=some o/\o.cls=.type "tuple"/\o.data=.seq ah.toArray n:=by
 rcases q with q|⟨o,ah,n,e,hc,hd,_,hv⟩
 .obtain⟨_,ah,hv,o,e,hc,n,hd⟩:=(show fD P w H h a (.tup xs)from q.ok aB)
  exact⟨ah,o,n,hv,e,hc,hd⟩
 .exact⟨ah.toList,o,n,hv,KX _ _ e,hc,by simp[hd]⟩
mutual
theorem Dw.reads(aB:bU P w H h)(KX:K.In h):∀(d:WData) (v:V) (u:Value),Dw K H v d->RelV v u->∃as,ReadsW R cl h u d as
 | .none,_,_,x,r=>by
  cases x;cases r;exact⟨_,ReadsW.none⟩
 | .bool b,_,_,x,r=>by
  cases x;cases r;exact⟨_,ReadsW.bool b⟩
 | .int i,_,_,x,r=>by
  cases x;obtain⟨t,rfl⟩:=r;exact⟨_,ReadsW.int i t⟩
 | .str s,_,_,x,r=>by
  cases x;obtain⟨t,rfl⟩:=r;exact⟨_,ReadsW.str s t⟩
 | .bytes b,_,_,x,r=>by
  cases x;obtain⟨t,rfl⟩:=r;exact⟨_,ReadsW.bytes _ t⟩
 | .list ds,_,_,x,r=>by
  cases x with
  |lst hs ha=>
   cases r;obtain⟨ah,o,n,rv,ho,hc,hd⟩:=Wh aB KX hs;obtain⟨as,hr⟩:=Dw.readsAll aB KX ds _ ah ha rv;exact⟨_,ReadsW.list ho hc hd hr⟩
 | .tuple ds,_,_,x,r=>by
  cases x with
  |tup hs ha=>
   cases r;obtain⟨ah,o,n,rv,ho,hc,hd⟩:=Wi aB KX hs;obtain⟨as,hr⟩:=Dw.readsAll aB KX ds _ ah ha rv;exact⟨_,ReadsW.tuple ho hc hd hr⟩
 | .float _,_,_,x,_=>by cases x
 | .dict _,_,_,x,_=>by cases x
 | .bytearray _,_,_,x,_=>by cases x
 | .set _,_,_,x,_=>by cases x
 | .frozenset _,_,_,x,_=>by cases x
 | .obj _ _,_,_,x,_=>by cases x
theorem Dw.readsAll(aB:bU P w H h)(KX:K.In h):∀(ds:List WData) (vs:List V) (us:List Value),mO K H vs ds->Vals vs us->∃as,ReadsAllW R cl h us ds as
 |[],_,_,x,r=>by
  cases x;cases r;exact⟨_,ReadsAllW.nil⟩
 |d::ds,_,_,x,r=>by
  cases x with
  |cons h1 h2=>
   cases r with
   |cons r1 r2=>
    obtain⟨as,q1⟩:=Dw.reads aB KX d _ _ h1 r1;obtain⟨bs,q2⟩:=Dw.readsAll aB KX ds _ _ h2 r2;exact⟨_,ReadsAllW.cons q1 q2⟩
end
end
mutual
def kC:WData->Bool
 | .none=>true
 | .bool _=>true
 | .int _=>true
 | .str _=>true
 | .bytes _=>true
 | .list xs=>mP xs
 | .tuple xs=>mP xs
 |_=>false
def mP:List WData->Bool
 |[]=>true
 |x::r=>kC x&&mP r
end
theorem MS{α:Type}{f:α->WData}(h:∀a,kC (f a)=true):∀l:List α,mP (l.map f)=true
 |[]=>rfl
 |x::r=>by
  show(kC (f x)&&mP (r.map f))=true;rw[h x,MS h r]<;>rfl
theorem rD:∀(c:Codec) (a:c.denote),kC (c.enc a)=true
 | .unit,_=>rfl
 | .bool,_=>rfl
 | .int _ _,_=>rfl
 | .nat _ _,_=>rfl
 | .u8,_=>rfl
 | .bytes _ _,_=>rfl
 | .text _ _ _ _,_=>rfl
 | .list _ _ c,a=>MS (λx=>rD c x) a
 | .pair c d,a=>by
  show(kC (c.enc a.1)&&(kC (d.enc a.2)&&true))=true;rw[rD c a.1,rD d a.2]<;>rfl
 | .triple c d e,a=>by
  show(kC (c.enc a.1)&&(kC (d.enc a.2.1)&&(kC (e.enc a.2.2)&&true)))=true;rw[rD c a.1,rD d a.2.1,rD e a.2.2]<;>rfl
 | .option c,none=>rfl
 | .option c,some x=>rD c x
theorem MT:∀(cs:List Codec) (a:Codec.denoteAll cs),mP (Codec.encAll cs a)=true
 |[],_=>rfl
 |c::cs,a=>by
  show(kC (c.enc a.1)&&mP (Codec.encAll cs a.2))=true;rw[rD c a.1,MT cs a.2]<;>rfl
theorem FD:∀{xs:List WData} {d:WData},d∈xs->d.weight<=WData.weightAll xs
 |[],d,h=>absurd h (by simp)
 |x::r,d,h=>by
  show d.weight<=x.weight+1+WData.weightAll r;rcases bq.mp h with e|m
  .rw[e]
   omega
  .have z:=FD m
   omega
def toV:Value->V
 | .none=>.non
 | .bool b=>.bl b
 | .int i _=>.int i
 | .str x _=>.str x
 | .bytes b _=>.iT b
 | .ref a=>.ref a
 |_=>.non
def lE(A:List Addr):Value->Prop
 | .none=>True
 | .bool _=>True
 | .int _ _=>True
 | .str _ _=>True
 | .bytes _ _=>True
 | .ref a=>a∈A
 |_=>False
theorem lE.mono{A B:List Addr}(h:∀a∈A,a∈B):∀{u:Value},lE A u->lE B u:=λ{u} x=>by
 cases u with
 |ref a=>exact h a x
 |none=>trivial
 |bool b=>trivial
 |int i t=>trivial
 |str s t=>trivial
 |bytes b t=>trivial
 |_=>exact False.elim x
theorem Wj{A:List Addr}{u:Value}(x:lE A u):RelV (toV u) u:=by
 cases u with
 |ref a=>rfl
 |none=>rfl
 |bool b=>rfl
 |int i t=>exact⟨t,rfl⟩
 |str s t=>exact⟨t,rfl⟩
 |bytes b t=>exact⟨t,rfl⟩
 |_=>exact False.elim x
theorem u7{A:List Addr}:∀{vs:List Value},(∀u∈vs,lE A u)->Vals (vs.map toV) vs
 |[],_=>.nil
 |u::r,h=>.cons (Wj (h u (aZ ..))) (u7 λx hx=>h x (bg _ hx))
def nU(h:Heap)(A:List Addr)(a:Addr):Prop:=∃vs:List Value,vs.length<=sizeLine/\(∀u∈vs,lE A u)/\
 (h.get? a=some {cls:=.type "list",data:=.seq vs.toArray}\/h.get? a=some {cls:=.type "tuple",data:=.seq vs.toArray})
theorem nU.mono{h:Heap}{A B:List Addr}{a:Addr}(k:∀a∈A,a∈B)(x:nU h A a):nU h B a:=by
 obtain⟨vs,h1,h2,h3⟩:=x;exact⟨vs,h1,λu hu=>(h2 u hu).mono k,h3⟩
theorem AH{P:Params}{h:Heap}:∀{vs:List Value} {ds:List WData},WellAll P h vs ds->vs.length=ds.length
 |_,_,.nil=>rfl
 |_,_,.cons _ b=>by
  show _+1=_+1;rw[AH b]
theorem MU{P:Params}{h:Heap}{v:Value}{ds:List WData}(x:Well P h v (.list ds)):∃(a:Addr) (vs:List Value),v=.ref a/\h.get? a=some {cls:=.type "list",data:=.seq vs.toArray}/\WellAll P h vs ds:=by
 cases x with
 |list ho lF=>exact⟨_,_,rfl,ho,lF⟩
theorem MV{P:Params}{h:Heap}{v:Value}{ds:List WData}(x:Well P h v (.tuple ds)):∃(a:Addr) (vs:List Value),v=.ref a/\h.get? a=some {cls:=.type "tuple",data:=.seq vs.toArray}/\WellAll P h vs ds:=by
 cases x with
 |tuple ho lF=>exact⟨_,_,rfl,ho,lF⟩
theorem MW{P:Params}{h:Heap}{us:List Value}{d:WData}{ds:List WData}(x:WellAll P h us (d::ds)):∃(v:Value) (vs:List Value),us=v::vs/\Well P h v d/\WellAll P h vs ds:=by
 cases x with
 |cons a b=>exact⟨_,_,rfl,a,b⟩
theorem MX{n:Nat}(h:n<=1048576):n<=sizeLine:=aG h (by decide)
section
variable{P:Params}{h:Heap}
mutual
theorem Wk:∀(d:WData) (v:Value),Well P h v d->kC d=true->d.weight<=1048576->∃A:List Addr,lE A v/\∀a∈A,nU h A a
 | .none,_,x,_,_=>by
  cases x;exact⟨[],trivial,λa m=>absurd m (by simp)⟩
 | .bool b,_,x,_,_=>by
  cases x;exact⟨[],trivial,λa m=>absurd m (by simp)⟩
 | .int i,_,x,_,_=>by
  cases x;exact⟨[],trivial,λa m=>absurd m (by simp)⟩
 | .str s,_,x,_,_=>by
  cases x;exact⟨[],trivial,λa m=>absurd m (by simp)⟩
 | .bytes b,_,x,_,_=>by
  cases x;exact⟨[],trivial,λa m=>absurd m (by simp)⟩
 | .list ds,_,x,p,z=>by
  obtain⟨a,vs,rfl,ho,lF⟩:=MU x;have z2:WData.weightAll ds<=1048576:=z;obtain⟨A,h1,h2⟩:=AI ds _ lF p λd hd=>aG (FD hd) z2;have k:∀b∈A,b∈a::A:=λb hb=>bg _ hb;refine⟨a::A,aZ ..,λb hb=>?_⟩;rcases bq.mp hb with e|m
  .rw[e]
   exact⟨vs,MX (by rw[AH lF];exact aG (ab1 ds) z2),λu hu=>(h1 u hu).mono k,.inl ho⟩
  .exact(h2 b m).mono k
 | .tuple ds,_,x,p,z=>by
  obtain⟨a,vs,rfl,ho,lF⟩:=MV x;have z2:WData.weightAll ds<=1048576:=z;obtain⟨A,h1,h2⟩:=AI ds _ lF p λd hd=>aG (FD hd) z2;have k:∀b∈A,b∈a::A:=λb hb=>bg _ hb;refine⟨a::A,aZ ..,λb hb=>?_⟩;rcases bq.mp hb with e|m
  .rw[e]
   exact⟨vs,MX (by rw[AH lF];exact aG (ab1 ds) z2),λu hu=>(h1 u hu).mono k,.inr ho⟩
  .exact(h2 b m).mono k
 | .float _,_,_,p,_=>Bool.noConfusion (show false=true from p)
 | .dict _,_,_,p,_=>Bool.noConfusion (show false=true from p)
 | .bytearray _,_,_,p,_=>Bool.noConfusion (show false=true from p)
 | .set _,_,_,p,_=>Bool.noConfusion (show false=true from p)
 | .frozenset _,_,_,p,_=>Bool.noConfusion (show false=true from p)
 | .obj _ _,_,_,p,_=>Bool.noConfusion (show false=true from p)
theorem AI:∀(ds:List WData) (vs:List Value),WellAll P h vs ds->mP ds=true->(∀d∈ds,d.weight<=1048576)->∃A:List Addr,(∀u∈vs,lE A u)/\∀a∈A,nU h A a
 |[],_,x,_,_=>by
  cases x;exact⟨[],λu m=>absurd m (by simp),λa m=>absurd m (by simp)⟩
 |d::ds,_,x,p,z=>by
  obtain⟨v,vs,rfl,x1,x2⟩:=MW x;have q:kC d=true/\mP ds=true:=Bool.and_eq_true_iff.mp p;obtain⟨A,a1,a2⟩:=Wk d v x1 q.1 (z d (aZ ..));obtain⟨B,b1,b2⟩:=AI ds vs x2 q.2 λe he=>z e (bg _ he);have kA:∀b∈A,b∈A++B:=λb hb=>eZ.mpr (.inl hb);have kB:∀b∈B,b∈A++B:=λb hb=>eZ.mpr (.inr hb);refine⟨A++B,λu hu=>?_,λb hb=>?_⟩
  .rcases bq.mp hu with e|m
   .rw[e]
    exact a1.mono kA
   .exact(b1 u m).mono kB
  .rcases eZ.mp hb with m|m
   .exact(a2 b m).mono kA
   .exact(b2 b m).mono kB
end
end
def AJ(o:Obj):Option HO:=match o.data with
 | .seq vs _=>if(o.cls==Value.type "list")=true then some (.dz o (.lst (vs.toList.map toV)))else some (.dz o (.tup (vs.toList.map toV)))
 |_=>none
def iG(K:Frag)(h:Heap)(A:List Addr):Hp:=λb=>if b∈A then(if(K.lookup b).isNone=true then(h.get? b).bind AJ else none)else none
theorem MY(vs:List Value):AJ {cls:=.type "list",data:=.seq vs.toArray}=some (.dz {cls:=.type "list",data:=.seq vs.toArray} (.lst (vs.map toV))):=by
 show(if(Value.type "list"==Value.type "list")=true then some (HO.dz {cls:=.type "list",data:=.seq vs.toArray} (.lst (vs.toArray.toList.map toV)))else some (HO.dz {cls:=.type "list",data:=.seq vs.toArray} (.tup (vs.toArray.toList.map toV))))=_;rw[aj (oq _)]
theorem MZ(vs:List Value):AJ {cls:=.type "tuple",data:=.seq vs.toArray}=some (.dz {cls:=.type "tuple",data:=.seq vs.toArray} (.tup (vs.map toV))):=by
 show(if(Value.type "tuple"==Value.type "list")=true then some (HO.dz {cls:=.type "tuple",data:=.seq vs.toArray} (.lst (vs.toArray.toList.map toV)))else some (HO.dz {cls:=.type "tuple",data:=.seq vs.toArray} (.tup (vs.toArray.toList.map toV))))=_;rw[ai (by decide)]
section
variable{P:Program}{w:World}{K:Frag}{h:Heap}{A:List Addr}
theorem AK{b:Addr}{o:Obj}(hb:b∈A)(hk:K.lookup b=none)(e:h.get? b=some o):iG K h A b=AJ o:=by
 unfold iG;rw[aj hb,hk,aj (show(none:Option Obj).isNone=true from rfl),e]<;>rfl
theorem Wl{b:Addr}{u:HO}(q:iG K h A b=some u):b∈A/\K.lookup b=none:=by
 unfold iG at q;by_cases hb:b∈A
 .rw[aj hb]at q
  cases hk:K.lookup b with
  |none=>exact⟨hb,rfl⟩
  |some o=>
   rw[hk,ai (by simp)]at q;cases q
 .rw[ai hb]at q
  cases q
theorem AL(ar:∀a∈A,nU h A a){b:Addr}{u:HO}(q:iG K h A b=some u):K.lookup b=none/\∃vs:List Value,vs.length<=sizeLine/\(∀u∈vs,lE A u)/\
  ((h.get? b=some {cls:=.type "list",data:=.seq vs.toArray}/\u=.dz {cls:=.type "list",data:=.seq vs.toArray} (.lst (vs.map toV)))\/
   (h.get? b=some {cls:=.type "tuple",data:=.seq vs.toArray}/\u=.dz {cls:=.type "tuple",data:=.seq vs.toArray} (.tup (vs.map toV)))):=by
 obtain⟨hb,hk⟩:=Wl q;obtain⟨vs,h1,h2,h3⟩:=ar b hb;refine⟨hk,vs,h1,h2,?_⟩;rcases h3 with e|e
 .rw[AK hb hk e,MY]at q
  exact .inl ⟨e,(Option.some.inj q).symm⟩
 .rw[AK hb hk e,MZ]at q
  exact .inr ⟨e,(Option.some.inj q).symm⟩
theorem Wm(ar:∀a∈A,nU h A a):bU P w (iG K h A) h:=λb u q=>by
 obtain⟨_,vs,h1,h2,⟨e,rfl⟩|⟨e,rfl⟩⟩:=AL ar q
 .exact⟨e,by rw[aK];exact h1,vs,_,u7 h2,e⟩
 .exact⟨e,by rw[aK];exact h1,vs,u7 h2,_,e,rfl,_,rfl⟩
theorem AM{c c':Value}{vs us:List Value}(e:(some {cls:=c,data:=.seq vs.toArray}:Option Obj)=some {cls:=c',data:=.seq us.toArray}):c=c'/\vs=us:=by
 have e1:=Option.some.inj e;have e2:c=c':=e8 Obj.cls e1;have e3:Data.seq vs.toArray=Data.seq us.toArray:=e8 Obj.data e1;injection e3 with e4
 refine⟨e2,?_⟩;have e5:=e8 Array.toList e4;simpa using e5
theorem Wn(KX:K.In h)(ar:∀a∈A,nU h A a){a:Addr}{vs:List Value}(ha:a∈A)(e:h.get? a=some {cls:=.type "list",data:=.seq vs.toArray}):(∀u∈vs,lE A u)/\aU K (iG K h A) a (vs.map toV):=by
 obtain⟨us,h1,h2,h3⟩:=ar a ha;have hu:us=vs:=by
  rcases h3 with q|q
  .rw[e]at q
   exact(AM q).2.symm
  .rw[e]at q
   exact absurd (Value.type.inj (AM q).1) (by decide)
 subst hu;refine⟨h2,?_⟩;cases hk:K.lookup a with
 |none=>exact .inl (.inr ⟨_,by rw[AK ha hk e,MY]⟩)
 |some o=>
  have e2:=KX a o hk;rw[e]at e2;obtain rfl:=Option.some.inj e2;exact .inr ⟨_,us.toArray,_,hk,rfl,rfl,rfl,by rw[cO];exact h1,by simpa using u7 h2⟩
theorem Wo(KX:K.In h)(ar:∀a∈A,nU h A a){a:Addr}{vs:List Value}(ha:a∈A)(e:h.get? a=some {cls:=.type "tuple",data:=.seq vs.toArray}):(∀u∈vs,lE A u)/\aM K (iG K h A) a (vs.map toV):=by
 obtain⟨us,h1,h2,h3⟩:=ar a ha;have hu:us=vs:=by
  rcases h3 with q|q
  .rw[e]at q
   exact absurd (Value.type.inj (AM q).1) (by decide)
  .rw[e]at q
   exact(AM q).2.symm
 subst hu;refine⟨h2,?_⟩;cases hk:K.lookup a with
 |none=>exact .inl (.inr ⟨_,by rw[AK ha hk e,MZ]⟩)
 |some o=>
  have e2:=KX a o hk;rw[e]at e2;obtain rfl:=Option.some.inj e2;exact .inr ⟨_,us.toArray,_,hk,rfl,rfl,by rw[cO];exact h1,by simpa using u7 h2⟩
mutual
theorem Wq{Pm:Params}(KX:K.In h)(ar:∀a∈A,nU h A a):∀(d:WData) (v:Value),Well Pm h v d->kC d=true->lE A v->Dw K (iG K h A) (toV v) d
 | .none,_,x,_,_=>by
  cases x;exact .non
 | .bool b,_,x,_,_=>by
  cases x;exact .bl b
 | .int i,_,x,_,_=>by
  cases x;exact .int i
 | .str s,_,x,_,_=>by
  cases x;exact .str s
 | .bytes b,_,x,_,_=>by
  cases x;have z:=Dw.iT (K:=K) (H:=iG K h A) b.toArray;exact z
 | .list ds,_,x,p,hu=>by
  obtain⟨a,vs,rfl,ho,lF⟩:=MU x;obtain⟨h2,hs⟩:=Wn KX ar hu ho;exact .lst hs (AN KX ar ds _ lF p h2)
 | .tuple ds,_,x,p,hu=>by
  obtain⟨a,vs,rfl,ho,lF⟩:=MV x;obtain⟨h2,hs⟩:=Wo KX ar hu ho;exact .tup hs (AN KX ar ds _ lF p h2)
 | .float _,_,_,p,_=>Bool.noConfusion (show false=true from p)
 | .dict _,_,_,p,_=>Bool.noConfusion (show false=true from p)
 | .bytearray _,_,_,p,_=>Bool.noConfusion (show false=true from p)
 | .set _,_,_,p,_=>Bool.noConfusion (show false=true from p)
 | .frozenset _,_,_,p,_=>Bool.noConfusion (show false=true from p)
 | .obj _ _,_,_,p,_=>Bool.noConfusion (show false=true from p)
theorem AN{Pm:Params}(KX:K.In h)(ar:∀a∈A,nU h A a):∀(ds:List WData) (vs:List Value),WellAll Pm h vs ds->mP ds=true->(∀u∈vs,lE A u)->mO K (iG K h A) (vs.map toV) ds
 |[],_,x,_,_=>by
  cases x;exact .nil
 |d::ds,_,x,p,hu=>by
  obtain⟨v,vs,rfl,x1,x2⟩:=MW x;have q:kC d=true/\mP ds=true:=Bool.and_eq_true_iff.mp p;exact .cons (Wq KX ar d v x1 q.1 (hu _ (aZ ..))) (AN KX ar ds vs x2 q.2 λu m=>hu u (bg _ m))
end
end
theorem Wr{ds:List WData}(h:WData.layableAll ds=true):∀d∈ds,d.weight<=1048576:=λd hd=>
 (PySem.W.layableW_iff.mp (ze.mp h d hd)).2.2
theorem M0:∀(cs:List Codec) (a:Codec.denoteAll cs),(Codec.encAll cs a).length=cs.length
 |[],_=>rfl
 |c::cs,a=>by
  show(Codec.encAll cs a.2).length+1=cs.length+1;rw[M0 cs a.2]
end L2
end
namespace PySem
open Sem (wp)
open AutoSeq1 (wpAny_loadPart')
section
variable{prog:Program}{w:World}{A:Around}{E:Value->Shared->Prop}{s:Shared}
theorem Ws{it t:Addr}{i:Nat}{items:Array Value}{x:Value}{Q:Value->Shared->Prop}(hI:s.heap.IsTupleIter it t i)(hT:s.heap.IsTuple t items)
  (hx:items[i]?=some x)(hQ:∀k,k.IsTupleIter it t (i+1)->Heap.SameBut it s.heap k->Q x {s with heap:=k}):wpAny (model prog w) A (Builtin.SmallTypes.nextOf (.ref it)) Q E s:=by
 obtain⟨ob,gob,cob,dob⟩:=id hI;obtain⟨ot,got,_,nt,dot⟩:=hT;unfold Builtin.SmallTypes.nextOf;refine ao (wo (name:=Str.ofString "__next__") hI.typeIs JN (uE JN hI.typeIs ab2 ?_ (ab3 _)));show wpAny _ _ (field (.ref it) 0>>=_) _ _ s;refine ao (gE gob dob (x:=.ref t) rfl ?_);show wpAny _ _ (if(Value.ref t==Value.none)=true then _ else _) _ _ s;rw[ai (show¬((Value.ref t==Value.none)=true)from dP)];show wpAny _ _ (field (.ref it) 1>>=_) _ _ s;refine ao (gE gob dob (x:=.int i 0) rfl ?_);show wpAny _ _ (seqItems? (.ref t)>>=_) _ _ s;refine ao (zw got dot ?_);simp only[oz,hx];refine ao (uH gob dob (by simp) (bu ⟨x,rfl,bu (hQ _ ⟨_,uF _ gob (Dg (uI dob _)),(Obj.cls_mapFields ..).trans cob,by rw[uI dob];simp[rawInt]⟩ (Dh ..))⟩))
theorem Wt{it t:Addr}{i:Nat}{items:Array Value}{Q:Value->Shared->Prop}(hd:A.handled=none)(hI:s.heap.IsTupleIter it t i)(hT:s.heap.IsTuple t items)(hx:items[i]?=none)
  (hE:∀k e,Heap.ExtBut it s.heap k->(∃o,k.get? e=some o/\o.cls=.type "StopIteration")->E (.ref e) {s with heap:=k}):wpAny (model prog w) A (Builtin.SmallTypes.nextOf (.ref it)) Q E s:=by
 obtain⟨ob,gob,cob,dob⟩:=id hI;obtain⟨ot,got,_,nt,dot⟩:=hT;unfold Builtin.SmallTypes.nextOf;refine ao (wo (name:=Str.ofString "__next__") hI.typeIs JN (uE JN hI.typeIs ab2 ?_ (ab3 _)));show wpAny _ _ (field (.ref it) 0>>=_) _ _ s;refine ao (gE gob dob (x:=.ref t) rfl ?_);show wpAny _ _ (if(Value.ref t==Value.none)=true then _ else _) _ _ s;rw[ai (show¬((Value.ref t==Value.none)=true)from dP)];show wpAny _ _ (field (.ref it) 1>>=_) _ _ s;refine ao (gE gob dob (x:=.int i 0) rfl ?_);show wpAny _ _ (seqItems? (.ref t)>>=_) _ _ s;refine ao (zw got dot ?_);simp only[oz,hx];refine ao (wpAny_rule (ao (uH gob dob (by simp) ?_)));show wpAny _ _ (newExc (.type "StopIteration") []>>=_) _ _ _;refine ao ?_;simp only[newExc,newTuple];refine ao (l5 ?_ (by size_fits));refine ao (m:=firstArgMember _ _) (sf (a:=Value.none) (by first|rfl|(simp only[firstArgMember];rfl)) ?_);refine l5 ?_ (by size_fits);simp only[raiseNew];refine ao (wpAny_handled ?_);first|rw[show A.in1.handled=none from hd]|rw[hd]
 refine ao (bu (wpAny_throw ?_));exact hE _ _ (((Dh ..).extBut.push _).push _) ⟨_,fC _ rfl,rfl⟩
theorem Wu{e it t:Addr}{i:Nat}{items:Array Value}{x old:Value}{Q:Value->Shared->Prop}(he:IsEnum s.heap e it i old)(hI:s.heap.IsTupleIter it t i)(hT:s.heap.IsTuple t items)(hx:items[i]?=some x)(bI:e≠it)
  (hQ:∀k,IsEnumOut k e it ((i:Int)+1) x s.heap.objs.size->k.IsTupleIter it t (i+1)->k.get? s.heap.objs.size=some {cls:=.type "tuple",data:=.seq #[.int i s.toks,x]}->k.objs.size=s.heap.objs.size+1->(∀b o,b≠e->b≠it->s.heap.get? b=some o->k.get? b=some o)->Q (.ref s.heap.objs.size) {s with heap:=k,toks:=s.toks+1}):
  wpAny (model prog w) A (Builtin.«enumerate.__next__» ⟨[.ref e],[]⟩) (λfin s'=>∃v,fin=.done (.ret v)/\Q v s') E s:=by
 obtain⟨hp,gn,dp,tk,os⟩:=s;show wpAny _ _ (field (.ref e) 2>>=_) _ _ _;refine ao (gE he rfl (x:=.ref it) rfl ?_);refine ao (Ws hI hT hx λk1 i1 s1=>?_);replace s1:Heap.SameBut it hp k1:=s1;have e1:IsEnum k1 e it i old:=(s1.2 e bI).trans he;show wpAny _ _ (field (.ref e) 3>>=_) _ _ ⟨k1,gn,dp,tk,os⟩;refine ao (gE e1 rfl (x:=rawInt i) rfl ?_);show wpAny _ _ (field (.ref e) 4>>=_) _ _ ⟨k1,gn,dp,tk,os⟩;refine ao (gE e1 rfl (x:=.none) rfl ?_);show wpAny _ _ (mkInt i>>=_) _ _ ⟨k1,gn,dp,tk,os⟩;refine ao (wpAny_mkInt ?_);show wpAny _ _ (setField (.ref e) 3 (rawInt ((i:Int)+1))>>=_) _ _ ⟨k1,gn,dp,tk+1,os⟩;refine ao (Di e1 (by simp) λk2 e2 s2=>?_);replace s2:Heap.SameBut e k1 k2:=s2
 replace e2:IsEnum k2 e it ((i:Int)+1) old:=e2
 show wpAny _ _ (setField (.ref e) 4 .none>>=_) _ _ ⟨k2,gn,dp,tk+1,os⟩;refine ao (Di e2 (by simp) λk3 e3 s3=>?_);replace s3:Heap.SameBut e k2 k3:=s3
 replace e3:IsEnum k3 e it ((i:Int)+1) old:=e3
 show wpAny _ _ (newTuple [.int i tk,x]>>=_) _ _ ⟨k3,gn,dp,tk+1,os⟩;refine ao (wpAny_newTuple ?_);have e4:IsEnum (k3.push {cls:=.type "tuple",data:=.seq #[.int i tk,x]}) e it ((i:Int)+1) old:=cz _ e3;generalize hk4:k3.push {cls:=.type "tuple",data:=.seq #[.int i tk,x]}=k4 at e4;have zz:k3.objs.size=hp.objs.size:=by rw[s3.1,s2.1,s1.1]
 have lte:e<hp.objs.size:=cI he;have t4:k4.get? hp.objs.size=some {cls:=.type "tuple",data:=.seq #[.int i tk,x]}:=by rw[<-hk4,<-zz];exact fC _ rfl
 have z4:k4.objs.size=hp.objs.size+1:=by rw[<-hk4,jw,zz]
 have st4:∀b o,b≠e->b≠it->hp.get? b=some o->k4.get? b=some o:=λb o q1 q2 hb=>by rw[<-hk4];exact cz _ (s3.extBut b o q1 (s2.extBut b o q1 (s1.extBut b o q2 hb)))
 have i4:k4.IsTupleIter it t (i+1):=by rw[<-hk4];obtain⟨o,ho,r⟩:=(i1.extBut s2.extBut (cS bI)).extBut s3.extBut (cS bI);exact⟨o,cz _ ho,r⟩
 show wpAny _ _ (Builtin.SmallTypes.ownedTupleIsFree (.ref e)>>=_) _ _ ⟨k4,gn,dp,tk+1,os⟩;rw[zz];clear hk4 e3 s3 e2 s2 e1 s1 i1 zz k3 k2 k1;refine ao ?_;unfold Builtin.SmallTypes.ownedTupleIsFree;refine ao (gE e4 rfl (x:=.none) rfl (bu ?_));simp only[pM];refine ao (wpAny_rule ?_);refine ao (gE e4 rfl (x:=old) rfl ?_);refine ao (Di e4 (by simp) λk5 e5 s5=>?_);replace s5:Heap.SameBut e k4 k5:=s5
 replace e5:IsEnum k5 e it ((i:Int)+1) x:=e5
 show wpAny _ _ (Builtin.SmallTypes.ownedTupleHandOut (.ref e) (.ref hp.objs.size)>>=_) _ _ ⟨k5,gn,dp,tk+1,os⟩;refine ao ?_;unfold Builtin.SmallTypes.ownedTupleHandOut;refine ao (Di e5 (by simp) λk6 e6 s6=>?_);replace s6:Heap.SameBut e k5 k6:=s6
 replace e6:IsEnumOut k6 e it ((i:Int)+1) x hp.objs.size:=e6
 refine Di e6 (by simp) λk7 e7 s7=>?_
 replace s7:Heap.SameBut e k6 k7:=s7;replace e7:IsEnumOut k7 e it ((i:Int)+1) x hp.objs.size:=e7
 refine ao (Dj (bu ⟨_,rfl,hQ k7 e7 (((i4.extBut s5.extBut (cS bI)).extBut s6.extBut (cS bI)).extBut s7.extBut (cS bI)) ?_ (by rw[s7.1,s6.1,s5.1,z4]) ?_⟩))
 .exact s7.extBut _ _ (uB lte) (s6.extBut _ _ (uB lte) (s5.extBut _ _ (uB lte) t4))
 .exact λb o q1 q2 hb=>s7.extBut b o q1 (s6.extBut b o q1 (s5.extBut b o q1 (st4 b o q1 q2 hb)))
theorem Wv{e it t:Addr}{i:Nat}{items:Array Value}{x old:Value}{Q:Option Value->Shared->Prop}(he:IsEnum s.heap e it i old)(hI:s.heap.IsTupleIter it t i)(hT:s.heap.IsTuple t items)(hx:items[i]?=some x)(bI:e≠it)
  (hQ:∀k,IsEnumOut k e it ((i:Int)+1) x s.heap.objs.size->k.IsTupleIter it t (i+1)->k.get? s.heap.objs.size=some {cls:=.type "tuple",data:=.seq #[.int i s.toks,x]}->k.objs.size=s.heap.objs.size+1->(∀b o,b≠e->b≠it->s.heap.get? b=some o->k.get? b=some o)->Q (some (.ref s.heap.objs.size)) {s with heap:=k,toks:=s.toks+1}):
  wpAny (model prog w) A (pyNext (.ref e)) Q E s:=by
 have ty:s.TypeIs (.ref e) "enumerate":=⟨_,he,rfl⟩;unfold pyNext;exact ao (Dk (wo (name:=Str.ofString "__next__") ty JO (uE JO ty F.entry_enumerate_next
  (Wu he hI hT hx bI λk a b c d z=>bu (hQ k a b c d z)) (F.args_enumerate_next_1 _))))
theorem Ww{e it t:Addr}{i:Nat}{items:Array Value}{old:Value}{Q:Option Value->Shared->Prop}(hd:A.handled=none)(he:IsEnum s.heap e it i old)(hI:s.heap.IsTupleIter it t i)(hT:s.heap.IsTuple t items)(hx:items[i]?=none)
  (hQ:∀k,Heap.ExtBut it s.heap k->Q none {s with heap:=k}):wpAny (model prog w) A (pyNext (.ref e)) Q E s:=by
 have ty:s.TypeIs (.ref e) "enumerate":=⟨_,he,rfl⟩;unfold pyNext;refine ao (Dk (wo (name:=Str.ofString "__next__") ty JO (uE JO ty F.entry_enumerate_next ?_ (F.args_enumerate_next_1 _))));show wpAny _ _ (field (.ref e) 2>>=_) _ _ _;refine ao (gE he rfl (x:=.ref it) rfl ?_);refine ao (Wt hd hI hT hx λk y hk hy=>?_);obtain⟨o,ho,hc⟩:=hy;exact ao (JP (T:="StopIteration") (b:=true) ⟨o,ho,hc⟩ isSubtype_stop (bu (hQ _ hk)))
end
theorem Wx(t:Addr)(items:Array Value)(ob:Obj)(n:Nat)(hc:ob.cls=.type "tuple")(hd:ob.data=.seq items n):
  Meets (Builtin.«enumerate.__new__» ⟨[.type "enumerate",.ref t],[]⟩) (λ_ R s=>s.heap.get? t=some ob/\R (.ok (.ret (.ref (s.heap.push {cls:=.type "tuple_iterator",data:=.fields #[.ref t,.int 0 0]}).objs.size)))
    {s with heap:=(s.heap.push {cls:=.type "tuple_iterator",data:=.fields #[.ref t,.int 0 0]}).push {cls:=.type "enumerate",data:=.fields #[.none,.bool false,.ref s.heap.objs.size,rawInt 0,.none,.none]}}):=
 .of_wp λprog w A R s h=>by
  obtain⟨c,dct,dt,sl⟩:=ob
  replace hc:c=.type "tuple":=hc
  replace hd:dt=.seq items n:=hd
  subst hc hd;obtain⟨hp,gn,dp,tk,os⟩:=s;obtain⟨ht,h⟩:=h;have u9:=sub_enumerate;have hT:Heap.IsTuple (Shared.heap ⟨hp,gn,dp,tk,os⟩) t items:=⟨_,ht,rfl,n,rfl⟩
  wp_walk using wpAny_loadPart' ht
  refine wpAny_stack_any λst=>bu ?_;split
  .rename_i c _ _ _ _ _
   cases (c==Value.type "enumerate")
   all_goals (wp_walk using wpAny_loadPart' ht,JG hT;exact⟨_,rfl,h⟩)
  .wp_walk using wpAny_loadPart' ht,JG hT
   exact⟨_,rfl,h⟩
theorem Wy{prog:Program}{w:World}{A:Around}{E:Value->Shared->Prop}{s:Shared}{t:Addr}{items:Array Value}{Q:Value->Shared->Prop}(hT:s.heap.IsTuple t items)
  (h:∀k,IsEnum k (s.heap.objs.size+1) s.heap.objs.size 0 .none->k.IsTupleIter s.heap.objs.size t 0->k.objs.size=s.heap.objs.size+2->(∀b o,s.heap.get? b=some o->k.get? b=some o)->Q (.ref (s.heap.objs.size+1)) {s with heap:=k}):
  wpAny (model prog w) A (call (.type "enumerate") [.ref t]) Q E s:=by
 obtain⟨ob,ht,hc,n,hd⟩:=hT;refine callType_new F.called_enumerate (by decide) (F.typeCall_enumerate_1 _) (F.newCall_enumerate_1 _) (λobj=>F.args_object_init_2 obj _) F.entry_enumerate_new (Wx t items ob n hc hd) ⟨ht,?_⟩;have z1:(s.heap.push {cls:=.type "tuple_iterator",data:=.fields #[.ref t,.int 0 0]}).objs.size=s.heap.objs.size+1:=jw ..;show _/\_;rw[z1];have he:IsEnum ((s.heap.push {cls:=.type "tuple_iterator",data:=.fields #[.ref t,.int 0 0]}).push {cls:=.type "enumerate",data:=.fields #[.none,.bool false,.ref s.heap.objs.size,rawInt 0,.none,.none]}) (s.heap.objs.size+1) s.heap.objs.size 0 .none:=by
  have q:=fC (s.heap.push {cls:=.type "tuple_iterator",data:=.fields #[.ref t,.int 0 0]}) (o:={cls:=.type "enumerate",data:=.fields #[.none,.bool false,.ref s.heap.objs.size,rawInt 0,.none,.none]}) rfl;rw[z1]at q;exact q
 exact⟨⟨_,he,rfl⟩,h _ he ⟨_,cz _ (fC _ rfl),rfl,rfl⟩ (by rw[jw,z1]) λb o y=>cz _ (cz _ y)⟩
end PySem
namespace L2
open PySem PySem.Spec PyProof.Rows
def ItE(K:Frag)(a:Addr):It:=
 ⟨λi H=>∃(xs:List V) (x:V),aM K H a xs/\xs[i]?=some x,λi H v H'=>∃T x,v=.ref T/\H T=none/\H'=upd H T (.tup [.int (i:Nat),x])/\∀xs,aM K H a xs->xs[i]?=some x,λi H=>∃xs:List V,aM K H a xs/\xs.length<=i⟩
theorem Wz{P:Program}{w:World}{K:Frag}{elts:List Expr}{kk:Nat}{oS:Pos}(a e it:Addr):
  Turn P w K (.Tuple elts kk oS) (ItE K a) [e,it] e (λi h=>(∃old,IsEnum h e it ((i:Nat):Int) old)/\h.IsTupleIter it a i/\e≠it) where
 mem:=by simp
 obj:=λi h st b hb=>by
  obtain⟨⟨old,he⟩,⟨o,ho,hc,hd⟩,_⟩:=st;rcases(show b=e\/b=it by simpa using hb)with z|z
  .subst z;exact⟨_,he,λv q=>nomatch q⟩
  .subst z;exact⟨o,ho,λv q=>by rw[hd]at q;cases q⟩
 keep:=λi h h' st k=>by
  obtain⟨⟨old,he⟩,⟨o,ho,r⟩,bI⟩:=st;exact⟨⟨old,k e (by simp) _ he⟩,⟨o,k it (by simp) _ ho,r⟩,bI⟩
 item:=by
  intro X hP hw hK hc i pins s σ H E I hf st hg;subst hP hw hK;obtain⟨⟨old,he⟩,hit,bI⟩:=st;obtain⟨xs,x,hq,hx⟩:=hg;obtain⟨ah,rv,p,hz⟩:=I.tuple hq;obtain⟨u,hu,ru⟩:=rv.get hx;have lte:e<s.heap.objs.size:=cI he;have lti:it<s.heap.objs.size:=by obtain⟨_,q,_⟩:=hit;exact cI q
  refine Wv he hit (show s.heap.IsTuple a ah.toArray from p) (x:=u) (by simpa using hu) bI λh' ho Fw hT hsz hk=>?_;refine⟨_,rfl,wpAny_letOwnedTupleGo_enum (s:={s with heap:=h',toks:=s.toks+1}) ho λgV he' sb=>?_⟩;have hT2:gV.get? s.heap.objs.size=some {cls:=.type "tuple",data:=.seq #[.int i s.toks,u]}:=(sb.2 _ (uB lte)).trans hT;have I1:Inv X pins σ (upd H s.heap.objs.size (.tup [.int (i:Nat),x])) {s with heap:=gV,toks:=s.toks+1}:=by
   refine I.MO (ch:=[e,it]) (λb ob hb q=>(sb.2 b (λz=>hb (by simp[z]))).trans (hk b ob (λz=>hb (by simp[z])) (λz=>hb (by simp[z])) q)) hf (aF _) ?_;exact⟨by show 2<=sizeLine;decide,[.int i s.toks,u],.cons ⟨_,rfl⟩ (.cons ru .nil),⟨_,hT2,rfl,_,rfl⟩⟩
  refine⟨.ref s.heap.objs.size,_,I1,rfl,⟨_,x,rfl,I.aB.fresh (aF _),rfl,λys hy=>by rw[I.EE hy hq];exact hx⟩,⟨⟨u,?_⟩,?_,bI⟩,λb hb=>?_⟩
  .have e1:((i+1:Nat):Int)=(i:Int)+1:=by omega
   rw[e1];exact he'
  .obtain⟨o,q,r⟩:=Fw
   exact⟨o,(sb.2 it (cS bI)).trans q,r⟩
  .have ltb:b<s.heap.objs.size:=by
    rcases(show b=e\/b=it by simpa using hb)with z|z
    .rw[z];exact lte
    .rw[z];exact lti
   rw[aJ (fT ltb)];exact(hf b hb).1
 done:=by
  intro X hP hw hK hc i pins s σ H E I hf st hg;subst hP hw hK;obtain⟨⟨old,he⟩,hit,bI⟩:=st;obtain⟨xs,hq,hx⟩:=hg;obtain⟨ah,rv,p,hz⟩:=I.tuple hq;obtain⟨f0,f1,f2,f3,f4,f5⟩:=hf it (by simp);have hl:=rv.length;exact Ww (I.ok.hd hc) he hit (show s.heap.IsTuple a ah.toArray from p) (by simp;omega) λh' eb=>⟨rfl,I.turned (t':=s.toks) (λb o hb q=>eb b o hb q) f0 f1 f3 f4 f5⟩
 self:=λA i s Q E st h=>let⟨⟨_,he⟩,_⟩:=st;JM he h
def M1(K:Frag)(ta:TA):TI:=λσ H R=>ta σ H λvs H1=>∃a xs,vs=[.ref a]/\aM K H1 a xs/\R (ItE K a) H1
theorem FE{X:Cx}{e:Expr}{ta:TA}{p pos oS:Pos}{elts:List Expr}{kk:Nat}(hg:Gl X "enumerate")(hm:X.mg "enumerate"=none)(ha:PA X [e] ta)(hs:starEach [e] X.env=[(false,eval e X.env)]:=by rfl):
  PI X (.Tuple elts kk oS) (.Call (.Name "enumerate" p) [e] [] pos) (M1 X.K ta):=by
 intro pins s σ H R I h;refine Call_ (uU I hg hm boot_enumerate (C7 (aQ (ha pos pins s σ H _ I h) λus s1 ⟨vs,H1,I1,r1,q1⟩=>?_) hs rfl));obtain⟨a,xs,ex,hq,q⟩:=q1;subst ex;cases r1 with
 |cons r rr=>
  cases rr;cases r;obtain⟨ah,rv,p',hz⟩:=I1.tuple hq;refine Wy (show s1.heap.IsTuple a ah.toArray from p') λh' he hit hsz hk=>JM he ?_;have I2:Inv X pins σ H1 {s1 with heap:=h'}:=I1.kept (t':=s1.toks) hk;refine⟨s1.heap.objs.size+1,[s1.heap.objs.size+1,s1.heap.objs.size],_,_,H1,rfl,I2,Wz a (s1.heap.objs.size+1) s1.heap.objs.size,⟨⟨.none,he⟩,hit,Nat.succ_ne_self _⟩,λb hb=>?_,q⟩;have hle:s1.heap.objs.size<=b:=by
   rcases(show b=s1.heap.objs.size+1\/b=s1.heap.objs.size by simpa using hb)with z|z
   .rw[z];exact Ro _ _
   .rw[z];exact aF _
  exact I1.qc hle (I1.aB.fresh hle)
end L2
namespace PySem.AutoSeq1
theorem WA(l:Addr)(items:Array Value)(n:Nat)(b:Addr)(ah:Array Value)(m:Nat)(dct:Option Addr)(sl:Array (Option Value))(q0:¬(!items.isEmpty&&Builtin.List.listTooLong (items.size+ah.size))=true)(q1:items.size<=sizeLine)(q2:items.size+ah.size<=sizeLine+1):
  Meets (Builtin.«list.extend» ⟨[.ref l,.ref b],[]⟩) (λ_ R s=>s.heap.get? l=some {cls:=.type "list",dict:=none,data:=.seq items n,slots:= #[]}/\s.heap.get? b=some {cls:=.type "tuple",dict:=dct,data:=.seq ah m,slots:=sl}/\R (.ok (.ret Value.none)) {s with heap:=s.heap.update l (Obj.mapSeq λx=>x++ah),toks:=s.toks}):=
 .of_wp λprog w A R s h=>by
  obtain⟨hp,gn,dp,tk,os⟩:=s;obtain⟨hl,hb,h⟩:=h;have f1:=idx_int;have f2:=sub_tuple_tuple
  have f3:=sub_list_list;have f4:=sub_tuple_list
  have f5:=sub_list_tuple;have z2:(items++ah).size<=sizeLine+1:=by rw[Array.size_append];exact q2
  wp_walk using(JQ hl rfl (hz:=q1) (_hz':=z2)),wpAny_loadPart' hl,wpAny_loadPart' hb
  exact⟨_,rfl,h⟩
end PySem.AutoSeq1
namespace L2
open PySem PySem.Spec PyProof.Rows
theorem PI.or{X:Cx}{tg e:Expr}{t u:TI}(h:PI X tg e t)(k:PI X tg e u):PI X tg e (λσ H R=>t σ H R\/u σ H R):=λpins s σ H Q I q=>by
 rcases q with q|q
 .exact h pins s σ H Q I q
 .exact k pins s σ H Q I q
section
variable{X:Cx}
@[irreducible] def xP(K:Frag):V->List V->Hp->VK->Prop:=λx vs H Q=>∃l b xs zs,x=.ref l/\vs=[.ref b]/\H l=some (.lst xs)/\aM K H b zs/\xs.length+zs.length<=sizeLine/\Q .non (upd H l (.lst (xs++zs)))
theorem M3:MtM X "list.extend" (xP X.K):=by
 unfold xP;intro pins s σ H x vs v us Q I rx rv h;obtain⟨l,b,xs,zs,rfl,rfl,hH,hB,hz,q⟩:=h;cases rx;obtain⟨u,rfl,ru⟩:=rv.one;cases ru;obtain⟨z,ah,n,r,hl,e⟩:=I.rC hH;obtain⟨lB,r2,⟨⟨c2,mH,dt2,mJ⟩,e2,dD,n2,hd2⟩,hz2⟩:=I.tuple hB
 replace dD:c2=.type "tuple":=dD
 replace hd2:dt2=.seq lB.toArray n2:=hd2
 subst dD hd2;have l2:=r2.length;have hsz:ah.toArray.size+lB.toArray.size<=sizeLine:=by rw[cO,cO];omega
 refine zu qO ⟨_,e,rfl⟩ F.entry_list_extend (F.args_list_extend_2 _ _)
  (AutoSeq1.WA l ah.toArray n b lB.toArray n2 mH mJ (by rw[E7 hsz,RJ];exact dP) (by rw[cO];omega) (by omega)) ⟨e,e2,?_⟩
 refine⟨.non,_,I.Av (its':=ah++lB) hH e (by simp) (r.append r2) (by rw[aX];exact hz),rfl,q⟩
def WB(f:Addr)(i:Nat)(sp:Sp)(fk:List V)(E:XK)(t:TA):TE:=λσ H Q=>σ[i]?=some (some (.ref f))/\t σ H λvs H1=>sp (vs++fk) H1 Q E
theorem AO{CX:mE}{k i:Nat}{f:Addr}{fd:FuncData}{ps:List Str}{sp:Sp}{fk:List V}{ds:List Value}{E:XK}{x:Str}{p pos:Pos}{e:Expr}{es:List Expr}{t:TA}
  (F:cH X.prog X.w X.K X.mg X.base CX k f fd ps sp)(hr:dB k X.A)(hN:X.N[i]?=some x)(hv:Vis X.env.scope x)(hk:PySem.W.keepIn X.K (.ref f)=true)(hb:Binds X.K fd ps ds)(hd:Vals fk ds)(hx:Passes CX X E)
  (ha:PA X (e::es) t)(iC:(x==("__debug__":Str))=false:=by decide)(fY:(x==("__classdict__":Str))=false:=by decide)(he:starEach (e::es) X.env=(false,eval e X.env)::starEach es X.env:=by rfl)(dS:(backTo pos (starEach es X.env)).any (·.1)=false:=by rfl):
  PE X (.Call (.Name x p) (e::es) [] pos) (WB f i sp fk E t):=by
 intro pins s σ H Q I h;obtain⟨hi,h⟩:=h;refine uD (g8 (ED hN hv iC fY pins s σ H (λv H'=>v=.ref f/\t σ H' λvs H1=>sp (vs++fk) H1 Q E) I ⟨_,hi,rfl,h⟩) (λu s1 hu=>?_) λ_ _ z=>z);obtain⟨v,H1,I1,rv,ev,h1⟩:=hu;subst ev;obtain rfl:u=Value.ref f:=rv;refine JI (h₀:=X.base) I.ok.mod.kin hk (aQ (ha pos pins s1 σ H1 _ I1 h1) λus s2 ⟨vs,H2,I2,r,q⟩=>⟨I2.gx,?_⟩) he dS;exact Aq F hr hb hd hx I2 r q
structure qk(K:Frag)(d:Addr)(ak:List (Int×Value)):Prop where
 ex:∃(ob:Obj) (es:Array DictEntry) (ep:Nat),K.lookup d=some ob/\ob.ExactDict/\ob.data=.dict es ep/\es.toList.map (λe=>(e.hash,e.val))=ak.map (λkv=>(hashInt kv.1,kv.2))/\
  ∀j:Nat,∀e,es.toList[j]?=some e->∃t,e.key=.int ((ak.map (·.1)).getD j 0) t
 nd:(ak.map (·.1)).Nodup
 ns:(d==sysModules)=false
def kAt(ak:List (Int×Value))(i:Int):Option Value:=(ak.find? λkv=>decide (kv.1=i)).map (·.2)
theorem M4{P:Program}{w:World}:∀(es:List DictEntry) (ak:List (Int×Value)),es.map (λe=>(e.hash,e.val))=ak.map (λkv=>(hashInt kv.1,kv.2))->(∀j:Nat,∀e,es[j]?=some e->∃t,e.key=.int ((ak.map (·.1)).getD j 0) t)->
  Pairs (iS P w) es (ak.map λkv=>(Sum.inl kv.1,kv.2))/\∀e∈es,∃k:Key,rj k e.key=true/\e.hash=Lw w k
 |[],[],_,_=>⟨.nil,by simp⟩
 |[],_::_,h,_=>by simp at h
 |_::_,[],h,_=>by simp at h
 |e::es,kv::ak,h,hk=>by
  rw[cD,cD]at h;have h1:=(List.cons.inj h).1;obtain⟨t,ht⟩:=hk 0 e rfl;have ht:e.key=.int kv.1 t:=ht;have ik:rj (Sum.inl kv.1) e.key=true:=by rw[ht];show Value.isInt kv.1 (.int kv.1 t)=true;simp[Value.isInt]
  obtain⟨p,q⟩:=M4 (P:=P) (w:=w) es ak (List.cons.inj h).2 λj e' he=>hk (j+1) e' he;refine⟨.cons (kv:=(Sum.inl kv.1,kv.2)) ik (Prod.mk.inj h1).2 p,λe' he'=>?_⟩;rcases bq.mp he' with z|z
  .subst z;exact⟨Sum.inl kv.1,ik,(Prod.mk.inj h1).1⟩
  .exact q e' z
theorem qk.dict{K:Frag}{d:Addr}{ak:List (Int×Value)}(D:qk K d ak){P:Program}{w:World}{h:Heap}(hK:K.In h):h.DictOf (iS P w) d (ak.map λkv=>(Sum.inl kv.1,kv.2)):=by
 obtain⟨⟨ob,es,ep,lk,ex,dt,h1,h2⟩,nd,_⟩:=D;obtain⟨p,q⟩:=M4 (P:=P) (w:=w) es.toList ak h1 h2;refine⟨ob,es,ep,hK _ _ lk,ex,dt,λe he=>q e (by simpa using he),p,?_⟩;rw[pI];have e:((λx:Key×Value=>x.1)∘λkv:Int×Value=>((Sum.inl kv.1:Key),kv.2))=(Sum.inl∘λkv:Int×Value=>kv.1):=rfl;rw[e,<-pI];exact List.Pairwise.map Sum.inl (λa b hab q=>hab (Sum.inl.inj q)) nd
theorem FF(i:Int):∀ak:List (Int×Value),valueAt (ak.map λkv=>((Sum.inl kv.1:Key),kv.2)) (Sum.inl i)=kAt ak i
 |[]=>rfl
 |kv::r=>by
  have ih:=FF i r;unfold valueAt kAt at ih⊢;rw[cD,uG,uG];by_cases e:kv.1=i
  .rw[show decide ((Sum.inl kv.1:Key)=Sum.inl i)=true by rw[e];simp,show decide (kv.1=i)=true by simp[e]]
   rfl
  .rw[show decide ((Sum.inl kv.1:Key)=Sum.inl i)=false by simp[e],show decide (kv.1=i)=false by simp[e]]
   exact ih
def WC(d:Addr)(ak:List (Int×Value)):R2:=λx y H Q=>∃i,x=.int i/\y=.ref d/\Q (.bl (kAt ak i).isSome) H
theorem M5{d:Addr}{ak:List (Int×Value)}(D:qk X.K d ak):eG X (compareOp .In) (WC d ak):=by
 intro pins s σ H x y v u Q I rx ry h;obtain⟨i,rfl,rfl,q⟩:=h;cases ry;refine wpAny_in_of (knd:=iS X.prog X.w) (k:=Sum.inl i) (xN rx) D.ns (D.dict I.gx).mapOf ?_;rw[FF];exact⟨.bl _,H,I.tok _,rfl,q⟩
def WD(d:Addr)(ak:List (Int×Value))(td ty:TE):TE:=λσ H Q=>td σ H λx H1=>ty σ H1 λy H2=>∃i u v,x=.ref d/\y=.int i/\kAt ak i=some u/\RelV v u/\Q v H2
theorem M6{d:Addr}{ak:List (Int×Value)}(D:qk X.K d ak){o i:Expr}{pos:Pos}{td ty:TE}(ho:PE X o td)(hi:PE X i ty)(hs:Fv i):PE X (.Subscript o i pos) (WD d ak td ty):=by
 intro pins s σ H Q I h;refine MM ab0.lookup hs (aQ (ho pins s σ H _ I h) λu s1 ⟨x,H1,I1,rx,q1⟩=>aQ (hi pins s1 σ H1 _ I1 q1) λiv s2 ⟨y,H2,I2,ry,i,w',v,ex,ey,hk,nN,q2⟩=>?_);subst ex ey;obtain rfl:u=Value.ref d:=rx;have dd:=D.dict (P:=X.prog) (w:=X.w) I2.gx;refine⟨dd.typeIs,wpAny_getItem_of (knd:=iS X.prog X.w) (k:=Sum.inl i) (xN ry) dd.mapOf (by rw[FF];exact hk) ⟨v,H2,I2.tok _,nN,q2⟩⟩
@[irreducible] def vc(K:Frag):R2:=λx y H Q=>∃p xs d ds,y=.ref p/\aU K H p xs/\Dp K H x d/\oV K H xs ds/\SeqAt.shaped d=true/\(∀e∈ds,SeqAt.shaped e=true)/\Q (.bl (ds.any λe=>PyData.eqv e d)) H
open Classical in
noncomputable def tF(h:Heap)(d:PyData)(u:Value):Bool:=if z:∃e as,Reads h u e as then PyData.eqv (choose z) d else false
theorem M7{h:Heap}{d e:PyData}{u:Value}{as:List Addr}(r:Reads h u e as):tF h d u=PyData.eqv e d:=by
 have z:∃e as,Reads h u e as:=⟨e,as,r⟩;unfold tF;rw[dif_pos z];obtain⟨as',r'⟩:=Classical.choose_spec z;rw[(reads_det (h:=h) (h':=h) (λb o q _=>q) r r').1]
theorem M8{h:Heap}{d:PyData}:∀{us:List Value} {ds:List PyData} {as:List Addr},ReadsAll h us ds as->us.any (tF h d)=ds.any (λe=>PyData.eqv e d)
 |_,_,_,.nil=>rfl
 |_,_,_,.cons r rr=>by rw[jx,jx,M7 r,M8 rr]
theorem M9{A:Around}{s:Shared}{d:PyData}{v:Value}{bs:List Addr}(rv:Reads s.heap v d bs)(sd:SeqAt.shaped d=true)(hu:A.units+64<cLine):∀{us:List Value} {ds:List PyData} {as:List Addr},ReadsAll s.heap us ds as->(∀e∈ds,SeqAt.shaped e=true)->
  ∀u∈us,SeqAt.EqAt A s u v (tF s.heap d u)
 |_,_,_,.nil,_=>λu hu=>by cases hu
 |_,_,_,.cons r rr,sh=>λu hm=>by
  rcases bq.mp hm with z|z
  .subst z
   rw[M7 r];have s1:=sh _ aZ;exact RL _ _ A s _ _ _ _ r rv (SeqAt.canLay_of_shaped s1) (SeqAt.canLay_of_shaped sd) (SeqAt.room_of_shaped s1 hu)
  .exact M9 rv sd hu rr (λe he=>sh e (bg _ he)) u z
theorem Na(hu:X.A.units+65<cLine):eG X (compareOp .In) (vc X.K):=by
 unfold vc;intro pins s σ H x y v u Q I rx ry h;obtain⟨p,xs,d,ds,rfl,hq,hd,hds,sd,sds,q⟩:=h;cases ry;obtain⟨ah,r,pl,hz⟩:=I.list hq;obtain⟨as,r1⟩:=Dp.reads I d x v hd rx;obtain⟨bs,r2⟩:=Dp.readsAll I ds xs ah hds r;refine SeqAt.in_listAt (tF s.heap d) pl.isList (λw hw=>M9 r1 sd (by show X.A.units+1+64<_;omega) r2 sds w (by simpa using hw)) ⟨.bl _,H,I,rfl,?_⟩;rw[show ah.toArray.any (tF s.heap d)=ah.any (tF s.heap d)by simp,M8 r2];exact q
end
end L2
namespace HT
open PySem PySem.W PyProof.Rows
theorem WE(t b:Addr)(xs ys:Array Value)(n m:Nat)(dd d2:Option Addr)(sl s2:Array (Option Value))(hx:xs.isEmpty=true):
  Meets (Builtin.«tuple.__add__» ⟨[.ref t,.ref b],[]⟩) (λ_ R s=>s.heap.get? t=some {cls:=.type "tuple",dict:=dd,data:=.seq xs n,slots:=sl}/\s.heap.get? b=some {cls:=.type "tuple",dict:=d2,data:=.seq ys m,slots:=s2}/\R (.ok (.ret (.ref b))) s):=
 .of_wp λprog w A R s h=>by
  obtain⟨hp,gn,dp,tk,os⟩:=s;obtain⟨hl,hb,h⟩:=h;have f2:=RC
  wp_walk using AutoSeq1.wpAny_loadPart' hl,AutoSeq1.wpAny_loadPart' hb
  exact⟨_,rfl,h⟩
end HT
namespace L2
open PySem PySem.Spec PyProof.Rows
section
variable{X:Cx}
@[irreducible] def tG(K:Frag):R2:=λx y H Q=>∃a b ys,x=.ref a/\y=.ref b/\aM K H a []/\aM K H b ys/\Q (.ref b) H
theorem FG:eG X (binaryOp .Add) (tG X.K):=by
 unfold tG;intro pins s σ H x y v u Q I rx ry h;obtain⟨a,b,ys,rfl,rfl,ha,hb,q⟩:=h;cases rx;cases ry;obtain⟨i1,r1,⟨⟨c1,d1,t1,l1⟩,e1,hc1,n1,hd1⟩,_⟩:=I.tuple ha;obtain⟨i2,r2,⟨⟨c2,d2,t2,l2⟩,e2,dD,n2,hd2⟩,_⟩:=I.tuple hb;cases r1
 replace hc1:c1=.type "tuple":=hc1
 replace hd1:t1=.seq ([]:List Value).toArray n1:=hd1
 replace dD:c2=.type "tuple":=dD
 replace hd2:t2=.seq i2.toArray n2:=hd2
 subst hc1 hd1 dD hd2;exact concat_meets ⟨_,e1,rfl⟩ ⟨_,e2,rfl⟩ RE seq_tuple_add RG RH (RI _ _)
  (HT.WE a b _ _ n1 n2 d1 d2 l1 l2 rfl) ⟨e1,e2,⟨.ref b,H,I,rfl,q⟩⟩
def leP(p q:Int×Int):Prop:=p.1<q.1\/(p.1=q.1/\p.2<=q.2)
@[irreducible] def AQ(K:Frag):List V->Hp->VK->Prop:=λvs H Q=>∃(a:Addr) (as:List Addr) (k:Addr->Int×Int),vs=[V.ref a]/\aU K H a (as.map V.ref)/\(∀b∈as,aM K H b [.int (k b).1,.int (k b).2])/\
 ∀(bs:List Addr) (p:Addr),bs.Perm as->bs.Pairwise (λx y=>leP (k x) (k y))->H p=none->Q (.ref p) (upd H p (.lst (bs.map V.ref)))
theorem Nb:∀{as:List Addr} {us:List Value},Vals (as.map V.ref) us->us=as.map Value.ref
 |[],_,r=>by cases r;rfl
 |a::as,_,r=>by
  cases r with
  |cons r1 r2=>
   cases r1;rw[cD,Nb r2]
theorem Nc:∀as:List Addr,Vals (as.map V.ref) (as.map Value.ref)
 |[]=>.nil
 |_::as=>.cons rfl (Nc as)
theorem WG{a b c d:Int}(h:lexLt itemOrd [Sum.inl c,Sum.inl d] [Sum.inl a,Sum.inl b]=false):leP (a,b) (c,d):=by
 obtain⟨h1,h2⟩:=lex_false.mp h;have q1:¬c<a:=Dl (show decide (c<a)=false from h1);rcases h2 with h2|h2
 .exact .inl (Dm (show decide (a<c)=true from h2))
 .by_cases e:a<c
  .exact .inl e
  .refine .inr ⟨by omega,?_⟩
   obtain⟨h3,h4⟩:=lex_false.mp h2;have q2:¬d<b:=Dl (show decide (d<b)=false from h3);omega
theorem WH{h:Heap}{b:Addr}{x y:Int}{t u:Tok}(e:IsTup h b #[.int x t,.int y u]):G.tupKeyC h (λ_=>false) (.ref b)=some [Sum.inl x,Sum.inl y]:=by
 obtain⟨o,ho,hc,n,hd⟩:=e;unfold G.tupKeyC;rw[aj (by simp[G.isTupObj,ho,hc])];simp only[tupKey,ho,hd];rfl
theorem WI:kr X (.builtin "sorted") (AQ X.K):=by
 unfold AQ;intro pins s σ H vs us Q I r h;obtain⟨a,as,k,rfl,hs,hk,q⟩:=h;obtain⟨ah,rv,hl,hz⟩:=I.list hs;rw[Vals.Ax r];have ei:=Nb rv;subst ei;have tup:∀b∈as,∃t u,IsTup s.heap b #[.int (k b).1 t,.int (k b).2 u]:=λb hb=>by
  obtain⟨i2,r2,p2,_⟩:=I.tuple (hk b hb);cases r2 with
  |cons r3 r4=>
   cases r4 with
   |cons r5 r6=>
    cases r6;obtain⟨t,rfl⟩:=r3;obtain⟨u,rfl⟩:=r5;exact⟨t,u,p2⟩
 have key:∀b∈as,G.tupKeyC s.heap (λ_=>false) (.ref b)=some [Sum.inl (k b).1,Sum.inl (k b).2]:=λb hb=>by
  obtain⟨t,u,e⟩:=tup b hb;exact WH e
 have WJ:∀l:List Addr,(∀b∈l,b∈as)->∃fs,TupsOf s.heap (λ_=>false) (l.map Value.ref) fs:=by
  intro l
  induction l with
  |nil=>exact λ_=>⟨[],.nil⟩
  |cons b l ih=>
   intro hm;obtain⟨fs,hf⟩:=ih λc hc=>hm c (bg _ hc);obtain⟨t,u,o,ho,hc,n,hd⟩:=tup b (hm b aZ);exact⟨.int (k b).1 t::fs,.cons ⟨b,o,_,n,rfl,ho,hc,hd,rfl,λ_=>⟨_,_,rfl⟩,λz=>by cases z⟩ hf⟩
 obtain⟨fs,hfs⟩:=WJ as λ_ z=>z;refine G.sorted_tups hl.isList hfs (λv hv=>?_) (by rw[aK];rw[aK]at hz;exact hz) λko hp dj _=>?_
 .obtain⟨b,hb,rfl⟩:=bG.mp hv
  exact⟨_,key b hb⟩
 .generalize arrOf ko=arr at hp dj⊢
  have hl2:arr.toList.Perm ((as.map Value.ref).zip (as.map Value.ref)):=by
   have e:=Array.perm_iff_toList_perm.mp hp;rw[pairsOf_toList]at e;exact e
  have ez:(as.map Value.ref).zip (as.map Value.ref)=as.map λb=>(Value.ref b,Value.ref b):=by
   rw[List.zip_map']
  rw[ez]at hl2;obtain⟨bs,hb1,hb2⟩:∃bs:List Addr,arr.toList=bs.map (λb=>(Value.ref b,Value.ref b))/\bs.Perm as:=by
   have mem:∀l:List Keyed,(∀z∈l,∃b,z=(Value.ref b,Value.ref b))->∃bs:List Addr,l=bs.map λb=>(Value.ref b,Value.ref b):=by
    intro l
    induction l with
    |nil=>exact λ_=>⟨[],rfl⟩
    |cons z l ih=>
     intro hm;obtain⟨b,rfl⟩:=hm z aZ;obtain⟨bs,rfl⟩:=ih λy hy=>hm y (bg _ hy);exact⟨b::bs,rfl⟩
   obtain⟨bs,e⟩:=mem arr.toList λz hz=>by
    obtain⟨b,_,e⟩:=bG.mp (hl2.mem_iff.mp hz);exact⟨b,e.symm⟩
   refine⟨bs,e,?_⟩;rw[e]at hl2;have h3:=hl2.map (λz:Keyed=>match z.1 with| .ref b=>b|_=>0);rw[pI,pI]at h3;have e1:((λz:Keyed=>match z.1 with| .ref b=>b|_=>0)∘λb:Addr=>((Value.ref b,Value.ref b):Keyed))=id:=rfl;rw[e1,List.map_id,List.map_id]at h3;exact h3
  have hm2:(arr.map (·.2)).toList=bs.map Value.ref:=by
   rw[Array.toList_map,hb1,pI];rfl
  have len:bs.length=as.length:=hb2.length_eq;have srt:bs.Pairwise (λx y=>leP (k x) (k y)):=by
   rw[List.pairwise_iff_getElem];intro i j hi hj hij;have e:=dj i j (zm hij) (by rw[pairsOf_size,aK];omega);have at_:∀(m:Nat) (hm:m<bs.length),KK (G.tupKindC s.heap λ_=>false) arr m=[Sum.inl (k bs[m]).1,Sum.inl (k bs[m]).2]:=λm hm=>by
    have e2:arr[m]?=some (Value.ref bs[m],Value.ref bs[m]):=by
     rw[<-abY,hb1,fK,bO hm];rfl
    unfold KK;rw[e2];show(G.tupKeyC s.heap (λ_=>false) (Value.ref bs[m])).getD []=_;rw[key bs[m] (hb2.mem_iff.mp (List.getElem_mem hm))];rfl
   rw[at_ i hi,at_ j hj]at e;exact WG e
  obtain⟨ep,he'⟩:=PyProof.Rows.sortedAll_at s.heap (as.map Value.ref) (arr.map (·.2));have hlen:(bs.map V.ref).length<=sizeLine:=by rw[aK,len];rw[aK]at hz;exact hz
  refine⟨.ref _,upd H (s.heap.objs.size+1) (.lst (bs.map V.ref)),I.laid (t':=s.toks) (λ_ _=>PyProof.Rows.sortedAll_old) (JD _) ⟨hlen,(arr.map (·.2)).toList,ep,?_,he'⟩,rfl,q bs _ hb2 srt (I.aB.fresh (JD _))⟩;rw[hm2];exact Nc bs
end
end L2
namespace PySem
def Nd(h:Heap)(e:Addr)(C:Value):Prop:=∃oe vs,h.get? e=some oe/\oe.cls=C/\oe.data=.fields vs/\vs[1]?=some .none
def iY(h:Heap)(e:Addr)(C:Value)(T:Addr)(fl:Value):Prop:=
 ∃oe vs oT ts,h.get? e=some oe/\oe.cls=C/\oe.data=.fields vs/\vs[1]?=some (.ref T)/\T≠e/\h.get? T=some oT/\oT.data=.fields ts/\ts[3]?=some fl
theorem iY.keeps{h h':Heap}{e:Addr}{C:Value}{T:Addr}{fl:Value}(x:iY h e C T fl)(k1:∀o,h.get? e=some o->h'.get? e=some o)(k2:∀o,h.get? T=some o->h'.get? T=some o):iY h' e C T fl:=
 let⟨oe,vs,oT,ts,a,b,c,d,n,f,r⟩:=x;⟨oe,vs,oT,ts,k1 _ a,b,c,d,n,k2 _ f,r⟩
section
variable{M:Model}{A:Around}{E:Value->Shared->Prop}{s:Shared}{base:Heap}{jX env:Env}{outer:List Env}{L e T:Addr}{C fl:Value}
theorem WK{Q:Value->Shared->Prop}(jW:A.frames=some (env::outer))(hl:s.heap.FunFrames base (env::outer))(hf':jX.frame=some L)(hf:env.frame=some L)
  (h:∀k,Heap.SlotsOnly ((env::outer).filterMap (·.frame)) s.heap k->Q (.ref L) {s with heap:=k}):wpAny M A (frameOf jX) Q E s:=by
 unfold frameOf;refine ao (wpAny_frameEnvs jW ?_);have dw:((env::outer).dropWhile λx=>x.frame != jX.frame)=env::outer:=by simp[List.dropWhile,hf,hf']
 rw[dw];unfold frameObject;refine ao (ao (wpAny_readyFrames_fun hl λk ks=>bu ?_));rw[hf];exact bu (h k ks)
theorem Nf{oe:Obj}{vs:Array Value}{head:Value}{hn:Bool}{Q:Unit->Shared->Prop}(jW:A.frames=some (env::outer))(hl:s.heap.FunFrames base (env::outer))(hf':jX.frame=some L)(hf:env.frame=some L)
  (he:s.heap.get? e=some oe)(hd:oe.data=.fields vs)(hz:1<vs.size)
  (h:∀k,iY k e oe.cls s.heap.objs.size (rawInt L)->(∀b o,s.heap.get? b=some o->b∉(env::outer).filterMap (·.frame)->b≠e->k.get? b=some o)->(∀b o,s.heap.get? b=some o->b≠e->∃sl,k.get? b=some {o with slots:=sl})->Q () {s with heap:=k}):
  wpAny M A (do let a <-frameOf jX;let pl <-entryPlaceOf L hn;let b <-EntryCells.newEntry head a .none (rawInt L) .none pl;setField (.ref e) 1 b) Q E s:=by
 have nfr:e∉(env::outer).filterMap (·.frame):=λhm=>by
  obtain⟨_,o,ho,hnf⟩:=hl.mem hm;rw[he]at ho;cases ho;exact hnf vs hd
 refine ao (WK jW hl hf' hf λk1 hs=>?_);refine ao (wpAny_entryPlaceOf λpl dS=>?_);unfold EntryCells.newEntry newFields;refine ao (l5 ?_ (dS.sizeOk5 _ _ _ _ _));have he1:k1.get? e=some oe:=(hs.2.1 e nfr).trans he;have z1:k1.objs.size=s.heap.objs.size:=hs.1;generalize hob:({cls:=.type "traceback",dict:=none,data:=.fields ([head,.ref L,.none,rawInt L,.none]++(if pl.isEmpty then List.replicate 6 Value.none else pl)).toArray}:Obj)=ob;have he2:=cz (h:=k1) ob he1;refine uH he2 hd hz (h _ ?_ (λb o hb n1 n2=>?_) λb o hb n2=>?_)
 .have hTe:k1.objs.size≠e:=uB (cI he1)
  have hd3:=uI hd (·.setIfInBounds 1 (Value.ref k1.objs.size));refine⟨_,_,ob,_,uF _ he2 (Dg hd3),Obj.cls_mapFields _ _,hd3,by rw[<-z1];simp[hz],by rw[<-z1];exact hTe,?_,by rw[<-hob],?_⟩
  .rw[<-z1,nj _ _ (cS hTe)]
   exact fC k1 (by rw[<-hob];rfl)
  .simp
 .rw[nj _ _ (cS n2)]
  exact cz _ ((hs.2.1 b n1).trans hb)
 .obtain⟨sl,q⟩:=hs.2.2 b o hb
  exact⟨sl,by rw[nj _ _ (cS n2)];exact cz _ q⟩
structure ve(fs ch:List Addr)(h k:Heap):Prop where
 keep:∀b o,h.get? b=some o->b∉fs->b∉ch->k.get? b=some o
 slot:∀b o,h.get? b=some o->b∉ch->∃sl,k.get? b=some {o with slots:=sl}
theorem ve.refl{fs ch:List Addr}{h:Heap}:ve fs ch h h:=⟨λ_ _ q _ _=>q,λ_ o q _=>⟨o.slots,q⟩⟩
theorem WL{Q:Unit->Shared->Prop}(jW:A.frames=some (env::outer))(hl:s.heap.FunFrames base (env::outer))(hf':jX.frame=some L)(hf:env.frame=some L)(hx:Nd s.heap e C)
  (h:∀k,iY k e C s.heap.objs.size (rawInt L)->ve ((env::outer).filterMap (·.frame)) [e] s.heap k->Q () {s with heap:=k}):wpAny M A (noteFrame (.ref e) jX) Q E s:=by
 obtain⟨oe,vs,he,hc,hd,h1⟩:=hx;subst hc;unfold noteFrame;simp only[hf'];refine ao (gE he hd h1 ?_);rw[ai (by decide)];exact Nf jW hl hf' hf he hd (Dn.mp h1).1 λk a b c=>h k a ⟨λd o q n1 n2=>b d o q n1 (by simpa using n2),λd o q n2=>c d o q (by simpa using n2)⟩
theorem WM{Q:Unit->Shared->Prop}(jW:A.frames=some (env::outer))(hl:s.heap.FunFrames base (env::outer))(hf':jX.frame=some L)(hf:env.frame=some L)(hx:iY s.heap e C T fl)
  (h:∀k T',iY k e C T' (rawInt L)->(T'=T\/T'=s.heap.objs.size)->ve ((env::outer).filterMap (·.frame)) [e,T] s.heap k->Q () {s with heap:=k}):wpAny M A (noteFrame (.ref e) jX) Q E s:=by
 obtain⟨oe,vs,oT,ts,he,hc,hd,h1,bI,hT,hdT,h3⟩:=id hx;unfold noteFrame;simp only[hf'];refine ao (gE he hd h1 ?_);rw[aj (show(Value.ref T != Value.none)=true from by simp)];refine ao (gE hT hdT h3 ?_);by_cases hfl:(fl==rawInt L)=true
 case neg=>
  rw[ai hfl];refine ao (uH hT hdT (Dn.mp h3).1 ?_);have oth:∀b,b≠T->(s.heap.update T (Obj.mapFields (·.setIfInBounds 3 Value.none))).get? b=s.heap.get? b:=λb hb=>nj _ _ (cS hb);have WN:∀b o,s.heap.get? b=some o->(∀vs,o.data≠ .fields vs)->b≠T:=λb o hb hnf q=>by rw[q,hT]at hb;cases hb;exact hnf ts hdT
  have zz:(s.heap.update T (Obj.mapFields (·.setIfInBounds 3 Value.none))).objs.size=s.heap.objs.size:=Heap.size_after_update ..;subst hc;refine Nf (s:={s with heap:=s.heap.update T (Obj.mapFields (·.setIfInBounds 3 Value.none))}) jW (hl.of_keeps λb o hb hnf=>⟨o,(oth b (WN b o hb hnf)).trans hb,rfl⟩) hf' hf ((oth e (cS bI)).trans he) hd (Dn.mp h1).1 λk a b c=>?_;refine h k s.heap.objs.size (by rw[<-zz];exact a) (.inr rfl) ⟨λd o q n1 n2=>?_,λd o q n2=>?_⟩
  .have n2:d≠e/\d≠T:=by simpa using n2
   exact b d o ((oth d n2.2).trans q) n1 n2.1
  .have n2:d≠e/\d≠T:=by simpa using n2
   exact c d o ((oth d n2.2).trans q) n2.1
 case pos=>
  rw[aj hfl];obtain rfl:fl=rawInt L:=by simpa using hfl
  exact bu (h s.heap T hx (.inl rfl) ve.refl)
theorem WO{fr:Option Addr}{Q:Unit->Shared->Prop}(hx:iY s.heap e C T fl)(h:∀k,iY k e C T (fr.elim .none λf=>rawInt f)->(∀b,b≠T->k.get? b=s.heap.get? b)->Q () {s with heap:=k}):wpAny M A (setFlight (.ref e) fr) Q E s:=by
 obtain⟨oe,vs,oT,ts,he,hc,hd,h1,bI,hT,hdT,h3⟩:=hx;have hz:=(Dn.mp h3).1;unfold setFlight;refine ao (gE he hd h1 ?_);rw[aj (show(Value.ref T != Value.none)=true from by simp)];have oth:∀b,b≠T->(s.heap.update T (Obj.mapFields (·.setIfInBounds 3 (fr.elim .none λf=>rawInt f)))).get? b=s.heap.get? b:=λb hb=>nj _ _ (cS hb);refine uH hT hdT hz (h _ ?_ oth);exact⟨oe,vs,_,_,(oth e (cS bI)).trans he,hc,hd,h1,bI,uF _ hT (Dg (uI hdT _)),uI hdT _,by simp[hz]⟩
theorem WQ{Q:Value->Shared->Prop}(hx:iY s.heap e C T fl)(h:Q (.ref T) s):wpAny M A (field (.ref e) 1) Q E s:=by
 obtain⟨oe,vs,oT,ts,he,hc,hd,h1,_⟩:=hx;exact gE he hd h1 h
end
end PySem
namespace L2
open PySem PySem.Spec PyProof.Rows
theorem Ng{K:Frag}{h:Heap}{C:Addr}{bmB:List Value}{newId:String}(X:K.In h)(q:PySem.W.excIn K C bmB newId=true):
  ∃bm N nm q bs hdct sn sub ab col dd k0 k1 k2 k3 k5 mN,h.get? C=some (excClassObj nm q C N bs bm hdct sn sub ab col dd k0 k1 k2 k3 k5 newId)/\h.Ns N mN/\mN "__init__"=none/\OwnTail h bmB bm:=by
 unfold PySem.W.excIn at q;split at q
 .rename_i dd cd sl ho
  split at q
  .rename_i C' bm k0 k1 k2 k3 n k5 hm hs
   simp only[cV,pK,Bool.not_eq_true']at q;obtain⟨⟨⟨⟨⟨r1,r2⟩,Nh⟩,ht⟩,aB⟩,hni⟩:=q;subst r1 r2;obtain⟨nm,bs,mro,ns,qn,hd,sn,sub,ab,col,del⟩:=cd;dsimp only at hm Nh aB hni;subst hm Nh;obtain⟨l⟩:=sl
   replace hs:l=[k0,k1,k2,k3,some (.builtin n),k5]:=hs
   subst hs;exact⟨bm,ns,nm,qn,bs,hd,sn,sub,ab,col,dd,k0,k1,k2,k3,k5,_,X _ _ ho,.of_isNs (PySem.W.isNs_of_in X aB),PySem.W.nsMap_none_of_in X aB hni,PySem.W.tail_of_in X ht⟩
  .cases q
 .cases q
theorem bU.there{P:Program}{w:World}{H:Hp}{h:Heap}{a:Addr}{u:HO}(x:bU P w H h)(q:H a=some u):∃o,h.get? a=some o:=by
 have ok:=x a u q;cases u with
 |lst xs=>obtain⟨_,_,_,_,e⟩:=ok;exact⟨_,e⟩
 |tup xs=>obtain⟨_,_,_,_,e,_⟩:=ok;exact⟨_,e⟩
 |dK ak=>obtain⟨_,_,_,_,o,_,_,e,_⟩:=ok;exact⟨_,e⟩
 |dT ak=>obtain⟨_,_,_,_,o,_,_,e,_⟩:=ok;exact⟨_,e⟩
 |set S n=>obtain⟨o,_,_,_,e,_⟩:=ok;exact⟨_,e⟩
 |ins C dx fs=>obtain⟨_,_,_,e,_⟩:=ok;exact⟨_,e⟩
 |own y=>obtain⟨_,e⟩:=ok;exact⟨_,e⟩
 |xd fs=>obtain⟨_,⟨_,_,_,e,_⟩,_⟩:=ok;exact⟨_,e⟩
 |rng lo hi=>obtain⟨_,_,_,e⟩:=ok;exact⟨_,e⟩
 |dz ob u=>obtain⟨e,_⟩:=ok;exact⟨_,e⟩
 |dU ps=>exact⟨_,show h.get? a=some _ from ok⟩
 |met f y=>exact⟨_,show h.get? a=some _ from ok⟩
 |ext φ=>obtain⟨_,⟨_,e⟩,_⟩:=ok;exact⟨_,e⟩
theorem bU.gone{P:Program}{w:World}{H:Hp}{h:Heap}{a:Addr}(x:bU P w H h)(q:h.get? a=none):H a=none:=by
 cases z:H a with
 |none=>rfl
 |some u=>obtain⟨o,e⟩:=bU.there x z;rw[q]at e;cases e
section
variable{X:Cx}{pins:List (Addr×Obj)}{σ:List (Option V)}{H H':Hp}{s:Shared}{h':Heap}
theorem Inv.WR{g':Array GenState}{t':Nat}{d':Drawn}{ch:List Addr}(I:Inv X pins σ H s)
  (ji:∀b∈ch,(b∈X.ex\/X.fO.heap.get? b=none)/\b≠X.env.locals/\(∀x c,X.env.cells.lookup x=some c->c≠b)/\∀p∈X.pn++pins,p.1≠b)
  (u:Un (iA X.stack) ch H H' s.heap h')(aB:bU X.prog X.w H' h')(hg:AllBare g'):Inv X pins σ H' {s with heap:=h',gens:=g',drawn:=d',toks:=t'}:=by
 have keep:∀b o,b≠X.env.locals->b∉X.fs->b∉ch->s.heap.get? b=some o->H b=none->h'.get? b=some o:=λb o hL hb hc e n=>u.keep b o e n (λz=>(bq.mp (I.xm b z)).elim hL hb) hc;have slot:∀b o,b∉ch->s.heap.get? b=some o->H b=none->∃sl,h'.get? b=some {o with slots:=sl}:=λb o hc e n=>u.any e n hc;have neL:∀b o,X.fO.heap.get? b=some o->b≠X.env.locals:=λb o e=>fT (g7 (cI e) I.ok.above);have neC:∀b o,X.fO.heap.get? b=some o->b∉X.ex->b∉ch:=λb o e hx hb=>by
  rcases(ji b hb).1 with z|z
  .exact hx z
  .rw[z]at e;cases e
 have cellK:∀x c,X.env.cells.lookup x=some c->∀v,s.heap.IsCell c v->h'.IsCell c v:=λx c e v ⟨o,ho,hd⟩=>by
  obtain⟨sl,q⟩:=slot c o (λz=>(ji c z).2.2.1 x c e rfl) ho (I.iU x c e);exact⟨_,q,hd⟩
 refine⟨I.ok,I.os,hg,⟨λb o e n hb hx=>?_,λb o e n hb hx=>?_,λb o e n hx=>?_,λb o e hx=>?_,λb xs e=>u.oJ b xs (I.base.oJ b xs e),λb o xs e=>u.nE b o xs (I.base.nE b o xs e),λb ps e=>?_⟩,?_,λx c e=>?_,?_,λx c e=>?_,λp hp=>?_,aB,I.len⟩
 .exact keep b o (neL b o e) hb (neC b o e hx) (I.base.keep b o e n hb hx) (I.base.free b o e n hx)
 .obtain⟨sl,e1⟩:=I.base.slot b o e n hb hx
  obtain⟨sl',e2⟩:=slot b _ (neC b o e hx) e1 (I.base.free b o e n hx);exact⟨sl',e2⟩
 .obtain⟨o',e1⟩:=I.base.there b o e hx
  exact u.free b o' e1 (I.base.free b o e n hx) (neC b o e hx)
 .obtain⟨o',e1⟩:=I.base.there b o e hx
  exact u.there b o' e1 (neC b o e hx)
 .obtain⟨m1,e1⟩:=I.base.nF b ps e
  obtain⟨m2,e2⟩:=u.nF b _ e1;exact⟨m1++m2,by rw[e2,Array.append_assoc]⟩
 .obtain⟨m,hn,hl⟩:=I.loc
  refine⟨m,?_,λi x v e1 e2 e3=>?_⟩
  .obtain⟨o,es,ep,ho,r⟩:=hn
   obtain⟨sl,hL⟩:=slot _ o (λz=>(ji _ z).2.1 rfl) ho I.free;exact⟨_,es,ep,hL,r⟩
  .obtain⟨w',r,l⟩:=hl i x v e1 e2 e3
   refine⟨w',r,?_⟩;rcases l with l|⟨k,c,e,z⟩
   .exact .inl l
   .exact .inr ⟨k,c,e,cellK x c e _ z⟩
 .obtain⟨v,z⟩:=I.cell x c e
  exact⟨v,cellK x c e v z⟩
 .obtain⟨m,⟨o,_,_,ho,_⟩,_⟩:=I.loc
  exact u.free _ o ho I.free (λz=>(ji _ z).2.1 rfl)
 .obtain⟨v,o,ho,hd⟩:=I.cell x c e
  exact u.free c o ho (I.iU x c e) (λz=>(ji c z).2.2.1 x c e rfl)
 .obtain⟨e,n,ne,nf,d⟩:=I.pin p hp
  have nch:p.1∉ch:=λz=>(ji p.1 z).2.2.2 p hp rfl;exact⟨keep p.1 p.2 ne nf nch e n,u.free p.1 p.2 e n nch,ne,nf,d⟩
end
def oW(X:Cx)(b:Addr):Prop:=(b∈X.ex\/X.fO.heap.get? b=none)/\∀p∈X.pn,p.1≠b
structure XSt(X:Cx)(C:Value)(H:Hp)(s:Shared)(e:Addr):Prop where
 free:H e=none
 new:oW X e
 rcd:Nd s.heap e C\/∃T fl,iY s.heap e C T fl/\H T=none/\oW X T
def xeX(X:Cx)(C:Value)(E:Hp->Prop):Value->Shared->Prop:=λv s=>∃e σ H,v=.ref e/\Inv X [] σ H s/\XSt X C H s e/\E H
def vf(X:Cx):Prop:=∃en out L,X.stack=en::out/\en.frame=some L/\X.env.frame=some L
section
variable{X:Cx}{σ:St}{H:Hp}{s:Shared}{C:Value}{e:Addr}
theorem xQ{pins:List (Addr×Obj)}{b:Addr}(I:Inv X pins σ H s)(h:s.heap.get? b=none):oW X b:=by
 refine⟨?_,λp hp z=>?_⟩
 .by_cases hb:b∈X.ex
  .exact .inl hb
  .right
   cases q:X.fO.heap.get? b with
   |none=>rfl
   |some o=>
    obtain⟨o',z⟩:=I.base.there b o q hb;rw[h]at z;cases z
 .have q:=(I.pin p (qL _ hp)).1
  rw[z,h]at q;cases q
theorem FH{ch:List Addr}{k:Heap}(I:Inv X [] σ H s)(hc:∀b∈ch,H b=none/\oW X b/\∃o vs,s.heap.get? b=some o/\o.data=.fields vs)(n:ve (iA X.stack) ch s.heap k):
  Inv X [] σ H {s with heap:=k}:=by
 have trk:∀b u,H b=some u->b∉iA X.stack/\b∉ch:=λb u q=>⟨λz=>(by rw[I.Ac b z]at q;cases q),λz=>(by rw[(hc b z).1]at q;cases q)⟩;refine I.WR (g':=s.gens) (t':=s.toks) (d':=s.drawn) (ch:=ch) (λb hb=>?_) ⟨λb o q _ n1 n2=>n.keep b o q n1 n2,λb o q _ _ n2=>n.slot b o q n2,λ_ _ _ z _=>z,λb o q n2=>?_,λ_ _ z=>z,λ_ _ _ z=>z,λb ps z=>⟨#[],by rw[z];simp⟩⟩ (λb u q=>?_) I.bare
 .obtain⟨_,h2,o,vs,ho,hd⟩:=hc b hb
  refine⟨h2.1,λz=>?_,λx c hx z=>?_,λp hp'=>?_⟩
  .obtain⟨m,⟨o',es,ep,jD,mq,_⟩,_⟩:=I.loc
   rw[<-z,ho]at jD;cases jD;rw[hd]at mq;cases mq
  .obtain⟨v,o',jD,mq⟩:=I.cell x c hx
   rw[z,ho]at jD;cases jD;rw[hd]at mq;cases mq
  .exact h2.2 p (by simpa using hp')
 .obtain⟨sl,z⟩:=n.slot b o q n2
  exact⟨_,z⟩
 .refine(I.aB b u q).rm (λc v mw z=>?_) (λ_ z=>z) λ_ _ z=>z
  rcases mw with z1|z1
  .rw[z1]at z⊢;exact n.keep b v z (trk b u q).1 (trk b u q).2
  .exact n.keep c v z (trk c _ z1).1 (trk c _ z1).2
theorem xR{h:Heap}{T:Addr}{fl:Value}(x:iY h e C T fl):(∃o vs,h.get? e=some o/\o.data=.fields vs)/\∃o vs,h.get? T=some o/\o.data=.fields vs:=
 let⟨oe,vs,oT,ts,a,_,c,_,_,f,g,_⟩:=x;⟨⟨oe,vs,a,c⟩,⟨oT,ts,f,g⟩⟩
theorem FI{jX:Env}{E:Value->Shared->Prop}{Q:Unit->Shared->Prop}(I:Inv X [] σ H s)(hh:vf X)(hf:jX.frame=X.env.frame)(x:XSt X C H s e)
  (h:∀k T L,X.env.frame=some L->Inv X [] σ H {s with heap:=k}->iY k e C T (rawInt L)->H T=none->oW X T->Q () {s with heap:=k}):wpAny (model X.prog X.w) X.A (noteFrame (.ref e) jX) Q E s:=by
 obtain⟨en,out,L,dj,hen,hL⟩:=hh;have jW:X.A.frames=some (en::out):=by rw[<-dj];exact I.ok.frames
 have Ni:s.heap.FunFrames X.base (en::out):=by rw[<-dj];exact I.stack
 have efs:(en::out).filterMap (·.frame)=iA X.stack:=by rw[dj];rfl
 have Nj:oW X s.heap.objs.size:=xQ I (Rw (aF _));rcases x.rcd with hx|⟨T,fl,hx,hT,iZ⟩
 .refine WL jW Ni (hf.trans hL) hen hx λk xf nd=>?_
  rw[efs]at nd;have I':=FH (ch:=[e]) I (λb hb=>by
   obtain rfl:b=e:=by simpa using hb
   obtain⟨oe,vs,a,_,c,_⟩:=hx;exact⟨x.free,x.new,oe,vs,a,c⟩) nd
  exact h k _ L hL I' xf (I.aB.fresh (aF _)) Nj
 .refine WM jW Ni (hf.trans hL) hen hx λk T' xf hT' nd=>?_
  rw[efs]at nd;have I':=FH (ch:=[e,T]) I (λb hb=>by
   rcases(show b=e\/b=T by simpa using hb)with z|z
   .subst z;exact⟨x.free,x.new,(xR hx).1⟩
   .subst z;exact⟨hT,iZ,(xR hx).2⟩) nd
  rcases hT' with z|z
  .subst z;exact h k _ L hL I' xf hT iZ
  .subst z;exact h k _ L hL I' xf (I.aB.fresh (aF _)) Nj
theorem AR{fr:Option Addr}{T:Addr}{fl:Value}{A:Around}{E:Value->Shared->Prop}{Q:Unit->Shared->Prop}(I:Inv X [] σ H s)(xf:iY s.heap e C T fl)(hT:H T=none)(iZ:oW X T)
  (h:∀k,Inv X [] σ H {s with heap:=k}->iY k e C T (fr.elim .none λf=>rawInt f)->Q () {s with heap:=k}):wpAny (model X.prog X.w) A (setFlight (.ref e) fr) Q E s:=by
 refine WO (fr:=fr) xf λk2 xf2 oth=>h k2 ?_ xf2;refine FH (ch:=[T]) I (λb hb=>by
  obtain rfl:b=T:=by simpa using hb
  exact⟨hT,iZ,(xR xf).2⟩) ⟨λb o q _ n2=>?_,λb o q n2=>⟨o.slots,?_⟩⟩
 .exact(oth b (by simpa using n2)).trans q
 .exact(oth b (by simpa using n2)).trans q
theorem leaveX{jX:Env}{E:Value->Shared->Prop}{Q:Unit->Shared->Prop}(I:Inv X [] σ H s)(hh:vf X)(hf:jX.frame=X.env.frame)(x:XSt X C H s e)
  (h:∀k T,Inv X [] σ H {s with heap:=k}->iY k e C T .none->H T=none->oW X T->Q () {s with heap:=k}):wpAny (model X.prog X.w) X.A (leaving jX (.ref e)) Q E s:=by
 unfold leaving;refine ao (FI I hh hf x λk T L hL I1 xf hT iZ=>?_);exact AR (s:={s with heap:=k}) (fr:=none) I1 xf hT iZ λk2 I2 xf2=>h k2 T I2 xf2 hT iZ
def CXX(P:Program)(w:World)(C:Value):mE:=λouter H s E v s'=>∃e T H',v=.ref e/\s'.os=s.os/\AllBare s'.gens/\Un (iA outer) [] H H' s.heap s'.heap/\bU P w H' s'.heap/\iY s'.heap e C T .none/\H' e=none/\H' T=none/\s.heap.get? e=none/\s.heap.get? T=none/\E v none H'
def EX(E:Hp->Prop):XK:=λ_ _ H=>E H
theorem WS{E:Hp->Prop}(hx:∀v s',xeX X C E v s'->X.xe v s'):Passes (CXX X.prog X.w C) X (EX E):=by
 intro pins σ H s v s' I h;obtain⟨e,T,H',rfl,os,bare,un,aB,xf,he,hT,e0,t0,hE⟩:=h;have I1:Inv X pins σ H' s':=I.Ad (ch:=[]) os un aB bare λb hb=>absurd hb (by simp);exact hx _ _ ⟨e,σ,H',rfl,I1.rB (pins:=[]),⟨he,xQ I e0,.inr ⟨T,.none,xf,hT,xQ I t0⟩⟩,hE⟩
theorem rE{W:Value->Shared->Prop}{E:Hp->Prop}{v:Value}(h:xeX (X.jj W) C E v s):xeX X C E v s:=
 let⟨e,σ,H,a,I,x,q⟩:=h;⟨e,σ,H,a,I.ly,⟨x.free,x.new,x.rcd⟩,q⟩
theorem fX.WU{W:Value->Shared->Prop}{st:List Stmt}{t:TS}(h:fX (X.jj W) st t)(hw:∀v s,W v s->X.xe v s):fX X st t:=λpins s σ H D I q=>
 g8 (h pins s σ H D (I.jj _) q) (λ_ _ q=>q.ly) λv s z=>hw v s z
abbrev Cx.fly(X:Cx)(C:Value)(E:Hp->Prop):Cx:=X.jj (xeX X C E)
theorem lH{E:Hp->Prop}:Passes (CXX X.prog X.w C) (X.fly C E) (EX E):=WS (X:=X.fly C E) λ_ _ h=>rE h
end
theorem mL.okX{P:Program}{w:World}{K:Frag}{mg:Str->Option Value}{base:Heap}{x qual:Str}{st:Stmt}{f:Addr}{fd:FuncData}{N ps:List Str}{k:Nat}{sp:Sp}{C:Value}(F:mL K x qual st f fd)(S:aP N ps (aC st))(len:∀vs H Q E,sp vs H Q E->vs.length=ps.length)
  (qg:∀(cdv:Value) (A:Around) (outer:List Env) (s:Shared) (H:Hp) (vs:List V) (Q:VK) (E:XK),dB k (A.deeper (envOfC qual (aC st) s.heap.objs.size f cdv))->sp vs H Q E->
   ∃t,fX ((mF (CXX P w C) P w K mg base N qual (aC st) f cdv A outer s H E).fly C (λH'=>∀v,E v none H')) (iX st) t/\t {nx:=λ_ H'=>Q .non H',rt:=Q} (start N vs) H):cH P w K mg base (CXX P w C) (k+1) f fd ps sp:=by
 obtain⟨oc,od,kV,doc,pm,an,cdv,ct,ku,rfl,lk,fY⟩:=F.ex;refine EW lk fY S len λA outer s H vs Q E hr gS=>?_;obtain⟨t,h,q⟩:=qg cdv A outer s H vs Q E hr gS;refine⟨t,h.WU λv s' hx=>?_,q⟩;obtain⟨e,σ,H',rfl,I,dj,hE⟩:=hx;refine leaveX (X:=mF (CXX P w C) P w K mg base N qual (aC st) f cdv A outer s H E) I ⟨_,_,_,rfl,rfl,rfl⟩ rfl dj λk T I2 xf hT iZ=>?_;refine⟨e,T,H',rfl,I2.os,I2.bare,I2.base,I2.aB,xf,dj.free,hT,?_,?_,hE _⟩
 .rcases dj.new.1 with z|z
  .exact absurd (show e∈([]:List Addr)from z) (by simp)
  .exact z
 .rcases iZ.1 with z|z
  .exact absurd (show T∈([]:List Addr)from z) (by simp)
  .exact z
def bmE:List Value:=[.type "Exception",.type "BaseException",.type "object"]
theorem xS{X:Cx}{x:Str}{np nO pos:Pos}{Ca:Addr}{E:Hp->Prop}(hc:X.calm=true)(hg:Gl X x)(hm:X.mg x=some (.ref Ca))(hq:PySem.W.excIn X.K Ca bmE "Exception.__new__"=true)(hx:∀v s',xeX X (.ref Ca) E v s'->X.xe v s')
  (hd:(x==("__debug__":Str))=false:=by decide):PS X (.Raise (some (.Call (.Name x np) [] [] nO)) none pos) (λ_ _ H=>E H):=by
 intro pins s σ H D I h;obtain⟨tl,N,nm,q,bs,hdct,sn,sub,ab,col,dd,k0,k1,k2,k3,k5,mN,hC,hN,hni,T⟩:=Ng I.gx hq;refine wpAny_Raise_call_subT (C:=Ca) (nm:=nm) (q:=q) (N:=N) (bs:=bs) (bm:=tl) (hdct:=hdct) (sn:=sn) (sub:=sub) (ab:=ab) (col:=col) (dd:=dd) (k0:=k0) (k1:=k1) (k2:=k2) (k3:=k3) (k5:=k5)
  RM (mN:=mN) (T.hasType RM.hasBase) (I.ok.hd hc) rfl hni (sU I hg hm ⟨rfl,evalArgs_empty ⟨rfl,cM _,hC,hN,T,λh' e hm=>?_⟩⟩ hd)
 obtain⟨t,he,_,_⟩:=hm.there;have I1:Inv X pins σ H {s with heap:=h'}:=I.kept (t':=s.toks) hm.keeps;exact hx _ _ ⟨e,σ,H,rfl,I1.rB (pins:=[]),⟨bU.gone I.aB hm.new,xQ I hm.new,.inl ⟨_,_,he,rfl,rfl,rfl⟩⟩,h⟩
section
variable{X:Cx}
theorem WV{Cc:Value}{Ex:Hp->Prop}{pins:List (Addr×Obj)}{s:Shared}{σ:St}{H:Hp}{Q:VK}{elt tg iter:Expr}{ifs:List Expr}{scope:Scope}{own:List (Str×Nat)}{pos pos':Pos}{wi:TI}{g:TG}{tt:TT}{te:TE}{use:Option (Value->Sem Unit)}{Qf:Value->Shared->Prop}
  (hc:X.calm=true)(hN:X.N.Nodup)(I:Inv X pins σ H s)(hi:PI X tg iter wi)(ok:tD X.N X.env.scope scope own)
  (hg:∀(s:Shared) (H:Hp) (C:Addr) (cl:List (Str×Addr)) (fp:List Addr),PG (X.dm s H scope (compEnvC scope cl C X.env) fp) tg g)(ht:∀(s:Shared) (H:Hp) (C:Addr) (cl:List (Str×Addr)) (fp:List Addr),PTs (X.dm s H scope (compEnvC scope cl C X.env) fp) ifs tt)
  (hh:vf X)(hxe:∀v s',xeX X Cc Ex v s'->X.xe v s')(he:∀(s:Shared) (H:Hp) (C:Addr) (cl:List (Str×Addr)) (fp:List Addr),PE ((X.dm s H scope (compEnvC scope cl C X.env) fp).fly Cc Ex) elt te)(hs:∀x,foldedSetIterable iter X.env x=pure x)
  (h:gA wi g tt te (own.map (·.2)) σ H Q)
  (hRR:∀D C s' m H',Inv X pins σ H' s'->Q (.ref D) H'->s'.heap.Ns C m->kj X pins H' C->compPost (model X.prog X.w) X.A X.xe use Qf (.ref D) C (.ok .next) s'):
  wpAny (model X.prog X.w) X.A (comprehension (.ListComp elt [⟨tg,iter,ifs,0⟩] scope pos) scope X.env pos' (newList []) false (eval iter X.env) use) Qf X.xe s:=by
 unfold gA at h;have rA:∀y∈scope.names,y.2=.free->∃c,X.env.cells.lookup y.1=some c:=λy hy e=>by
  rcases ok.free y hy e with k|k
  .exact I.ok.has _ (.inl k)
  .exact I.ok.has _ (.inr k)
 refine wpAny_comprehension_free (use:=use) rfl hs (E9 rA) ok.kind (λy hy e=>by rw[ok.uniq y hy,e])
  (aQ (hi pins s σ H _ I h) λxv s1 hx=>aQ hx λitv s2 h2=>?_)
 obtain⟨it,fp,tn,J,H2,e,I2,T,st2,f2,q⟩:=h2;subst e;refine l5 (MA ?_) (by show 0<=sizeLine;decide);generalize hD:s2.heap.objs.size=D;have hDn:H2 D=none:=I2.aB.fresh (wm hD);obtain⟨W,⟨m0,w0⟩,turn⟩:=q D hDn;generalize hs3:({s2 with heap:=s2.heap.push {cls:=.type "list",data:=.seq ([]:List Value).toArray}}:Shared)=s3;have I3:Inv X pins σ (upd H2 D (.lst [])) s3:=by
  rw[<-hs3];refine I2.laid (t':=s2.toks) (λb o e=>cz _ e) (wm hD) ⟨cM _,[],0,.nil,?_⟩;rw[<-hD];exact fC _ rfl
 have h3:s3.heap=s2.heap.push {cls:=.type "list",data:=.seq ([]:List Value).toArray}:=by rw[<-hs3]
 have sz:∀b∈fp,b<s2.heap.objs.size:=λb hb=>by
  obtain⟨o,e,_⟩:=T.obj _ _ st2 b hb;exact cI e
 have f3:∀b∈fp,kj X pins (upd H2 D (.lst [])) b/\b<s3.heap.objs.size:=λb hb=>by
  have aR:=sz b hb;refine⟨⟨?_,(f2 b hb).2⟩,by rw[h3,jw];exact JL aR⟩;rw[aJ (by rw[<-hD];exact fT aR)];exact(f2 b hb).1
 have st3:tn 0 s3.heap:=T.keep _ _ _ st2 λb _ o e=>by rw[h3];exact cz _ e
 have I4:=MB I3 ok hN f3;have pg:=hg s3 (upd H2 D (.lst [])) s3.heap.objs.size (cellsFrom (s3.heap.objs.size+1) scope.names (fG X.env.cells scope.names [])) fp;have pt:=ht s3 (upd H2 D (.lst [])) s3.heap.objs.size (cellsFrom (s3.heap.objs.size+1) scope.names (fG X.env.cells scope.names [])) fp;have pe:=he s3 (upd H2 D (.lst [])) s3.heap.objs.size (cellsFrom (s3.heap.objs.size+1) scope.names (fG X.env.cells scope.names [])) fp;show codeAny _ _ (.compStart (.ListComp elt [⟨tg,iter,ifs,0⟩] scope pos) 0 (.ref it) (.ref D) (compEnvC scope (cellsFrom (s3.heap.objs.size+1) scope.names (fG X.env.cells scope.names [])) s3.heap.objs.size X.env)) (compPost (model X.prog X.w) X.A X.xe use Qf (.ref D) s3.heap.objs.size) {s3 with heap:=pushCells (s3.heap.push {cls:=.type "dict",data:=.dict #[]}) scope.names};have nfp:∀b∈fp,(upd H2 D (.lst [])) b=none:=λb hb=>(f3 b hb).1.1;generalize hce:compEnvC scope (cellsFrom (s3.heap.objs.size+1) scope.names (fG X.env.cells scope.names [])) s3.heap.objs.size X.env=ce at I4 pg pt pe⊢;have cL:ce.locals=s3.heap.objs.size:=by subst hce;rfl
 generalize hH3:upd H2 D (.lst [])=H3 at I3 I4 pg pt pe w0 nfp f3;generalize hs4:({s3 with heap:=pushCells (s3.heap.push {cls:=.type "dict",data:=.dict #[]}) scope.names}:Shared)=s4 at I4⊢;have st4:tn 0 s4.heap:=T.keep _ _ _ st3 λb _ o e=>by rw[<-hs4];exact De _ _ _ _ (cz _ e)
 have hhb:vf (X.dm s3 H3 scope ce fp):=by
  obtain⟨en,out,Lh,q1,q2,q3⟩:=hh;exact⟨en,out,Lh,q1,q2,by subst hce;exact q3⟩
 have nJ:∀{σ':St} {H':Hp} {s':Shared},Inv (X.dm s3 H3 scope ce fp) [] σ' H' s'->(∀b∈fp,H' b=none)->∀b∈fp,kj (X.dm s3 H3 scope ce fp) [] H' b:=λ{σ' H' s'} I' hn b hb=>
  ⟨hn b hb,(I'.ok.exf b hb).1,I'.ok.qb b hb,.inl hb,λx c e=>(I'.ok.exf b hb).2 x c e,λp hp=>absurd (show p∈([]:List (Addr×Obj))++[]from hp) (by simp)⟩
 have loop:codeAny (model X.prog X.w) X.A (.compLoop (.ListComp elt [⟨tg,iter,ifs,0⟩] scope pos) 0 (.ref it) (.ref D) ce) (compPost (model X.prog X.w) X.A X.xe use Qf (.ref D) s3.heap.objs.size) s4:=by
  refine MD (λn s'=>∃i H',Inv (X.dm s3 H3 scope ce fp) [] (wipe σ (own.map (·.2))) H' s'/\tn i s'.heap/\(∀b∈fp,H' b=none)/\W i n H') ?_ m0 ⟨0,H3,I4,st4,nfp,w0⟩;rintro n s5 ⟨i,H5,I5,st5,n5,w5⟩;rcases turn i n H5 w5 with⟨stop,qq⟩|⟨go,Nx,hNx,step⟩
  .have td:=T.done (X.dm s3 H3 scope ce fp) rfl rfl rfl hc i [] s5 _ H5 (λ_ _=>False) I5 (nJ I5 n5) st5 stop
   refine nQ td λr s6 ⟨hr,I6⟩=>?_;subst hr;have I7:Inv X pins σ H5 s6:=I3.Ad (ch:=fp) I6.os I6.base I6.aB I6.bare λb hb=>⟨(f3 b hb).1.2.2.2.1,(f3 b hb).1.2.1,(f3 b hb).1.2.2.2.2.1,(f3 b hb).1.2.2.2.2.2⟩;have nC:H5 s3.heap.objs.size=none:=by
    have z:H5 ce.locals=none:=I6.free;rw[cL]at z;exact z
   obtain⟨m,hn,_⟩:=I6.loc;have hn:s6.heap.Ns ce.locals m:=hn;rw[cL]at hn;exact hRR D s3.heap.objs.size s6 m H5 I7 qq hn (I3.qc (aF _) nC)
  .have ti:=T.item (X.dm s3 H3 scope ce fp) rfl rfl rfl hc i [] s5 _ H5 (λ_ _=>False) I5 (nJ I5 n5) st5 go
   refine nQ ti λr s6 ⟨u,hr,h6⟩=>?_;subst hr;refine nQ h6 λ_ s7 ⟨x,H7,I7,r7,y7,st7,n7⟩=>?_;have I7':=I7.pinned (nJ I7 n7) (T.obj _ _ st7);refine nQ (pg _ s7 _ H7 x u _ I7' r7 (step x H7 y7)) λ_ s8 ⟨σ8,H8,I8,hw8,q8⟩=>?_;refine nQ (pt _ s8 σ8 H8 _ I8 q8) λb s9 ⟨H9,I9,q9⟩=>?_;have fin:∀{s':Shared} {H':Hp},Inv (X.dm s3 H3 scope ce fp) ([]++uW fp s7.heap) σ8 H' s'->Nx H'->∃m,m<n/\∃i H',Inv (X.dm s3 H3 scope ce fp) [] (wipe σ (own.map (·.2))) H' s'/\tn i s'.heap/\(∀b∈fp,H' b=none)/\W i m H':=λ{s' H'} I' nx=>by
    obtain⟨m',hm,w'⟩:=hNx H' nx;have xH:∀b∈fp,∀o,s7.heap.get? b=some o->s'.heap.get? b=some o/\H' b=none:=λb hb o e=>
     let z:=I'.pin (b,o) (ou _ (ou _ (Al hb e)))
     ⟨z.1,z.2.1⟩
    have hl:(wipe σ (own.map (·.2))).length=σ8.length:=by rw[<-hw8,AF]
    refine⟨m',hm,i+1,H',(I'.rB (pins:=[])).weak hl (λj v e=>?_),T.keep _ _ _ st7 λb hb o e=>(xH b hb o e).1,λb hb=>?_,w'⟩
    .rw[<-hw8]at e
     exact(AG e).1
    .obtain⟨o,e,_⟩:=T.obj _ _ st7 b hb
     exact(xH b hb o e).2
   cases b with
   |false=>
    simp only[wA,qN]at q9⊢;exact fin I9 q9
   |true=>
    simp only[pM]at q9⊢;refine g8 (pe _ s9 σ8 H9 _ (I9.jj _) q9) (λz gK ⟨yv,H10,I10,r10,acc,Fi,xJ,nx⟩=>?_) λv gK WW=>?_
    .exact MC (X:=X.dm s3 H3 scope ce fp) I10.ly Fi xJ r10 λs11 I11=>fin I11 nx
    .
     obtain⟨ea,σx,Hx,ev,Ix,stx,hEx⟩:=WW;subst ev;refine FI (X:=X.dm s3 H3 scope ce fp) Ix hhb rfl stx λkx T Lx hLx Iy xf hT iZ=>?_;have Iz:Inv X pins σ Hx {gK with heap:=kx}:=I3.Ad (s':={gK with heap:=kx}) (ch:=fp) Iy.os Iy.base Iy.aB Iy.bare λb hb=>⟨(f3 b hb).1.2.2.2.1,(f3 b hb).1.2.1,(f3 b hb).1.2.2.2.2.1,(f3 b hb).1.2.2.2.2.2⟩;have nC:Hx s3.heap.objs.size=none:=by
      have z:Hx ce.locals=none:=Iy.free;rw[cL]at z;exact z
     obtain⟨m,hn,_⟩:=Iy.loc;have hn:kx.Ns ce.locals m:=hn;rw[cL]at hn;refine⟨m,hn,λgV sb er u5=>?_⟩;obtain⟨g0,g1,g2,g3,g4,g5⟩:=I3.qc (H':=Hx) (aF s3.heap.objs.size) nC;have Iw:Inv X pins σ Hx {gK with heap:=gV}:=Iz.turned (s:={gK with heap:=kx}) (t':=gK.toks) (λb o hb e=>(sb.2 b hb).trans e) g0 g1 g3 g4 g5;have Nk:∀b,(∃o vs,kx.get? b=some o/\o.data=.fields vs)->b≠s3.heap.objs.size:=λb ⟨o,vs,q1,q2⟩ z=>by
      obtain⟨o',es,ep,q3,q4,_⟩:=hn;rw[z]at q1;rw[q1]at q3;cases q3;rw[q2]at q4;cases q4
     have xf2:iY gV ea Cc T (rawInt Lx):=xf.keeps (λo q=>(sb.2 _ (Nk _ (xR xf).1)).trans q) λo q=>(sb.2 _ (Nk _ (xR xf).2)).trans q;have old:∀b,oW (X.dm s3 H3 scope ce fp) b->oW X b:=λb hb=>by
      rcases hb.1 with hb|hb
      .refine⟨?_,λp hp=>(f3 b hb).1.2.2.2.2.2 p (qL _ hp)⟩
       rcases(f3 b hb).1.2.2.2.1 with z|z
       .exact .inl z
       .exact .inr (Rw z)
      .exact xQ I3 hb
     unfold PySem.passOn;refine ao (WQ (s:={gK with heap:=gV}) xf2 ?_);rw[ai (show¬((Value.ref T==Value.none)=true)from by simp)];refine ao (AR (s:={gK with heap:=gV}) (Iw.rB (pins:=[])) xf2 hT (old T iZ) λk3 I3' xf3=>?_);exact wpAny_throw (hxe _ _ ⟨ea,σ,Hx,rfl,I3',⟨stx.free,old ea stx.new,.inr ⟨T,_,xf3,hT,old T iZ⟩⟩,hEx⟩)
 exact codeAny_compStart_list loop (T.self X.A 0 _ _ _ st4 loop)
theorem Nl{Cc:Value}{Ex:Hp->Prop}{i:Nat}{y:Str}{py:Pos}{elt tg iter:Expr}{ifs:List Expr}{scope:Scope}{own:List (Str×Nat)}{pos xK:Pos}{wi:TI}{g:TG}{tt:TT}{te:TE}(hc:X.calm=true)(hN:X.N.Nodup)(hy:X.N[i]?=some y)(hyl:X.env.scope.names.lookup y=some .local)
  (hsw:swapsWith (.ListComp elt [⟨tg,iter,ifs,0⟩] scope pos) (some (.Name y py)) xK.line X.env=pure true)(hi:PI X tg iter wi)(ok:tD X.N X.env.scope scope own)
  (hg:∀(s:Shared) (H:Hp) (C:Addr) (cl:List (Str×Addr)) (fp:List Addr),PG (X.dm s H scope (compEnvC scope cl C X.env) fp) tg g)(ht:∀(s:Shared) (H:Hp) (C:Addr) (cl:List (Str×Addr)) (fp:List Addr),PTs (X.dm s H scope (compEnvC scope cl C X.env) fp) ifs tt)
  (hh:vf X)(hxe:∀v s',xeX X Cc Ex v s'->X.xe v s')(he:∀(s:Shared) (H:Hp) (C:Addr) (cl:List (Str×Addr)) (fp:List Addr),PE ((X.dm s H scope (compEnvC scope cl C X.env) fp).fly Cc Ex) elt te)(hs:∀x,foldedSetIterable iter X.env x=pure x:=by intro _;rfl):
  PS X (.Assign [.Name y py] (.ListComp elt [⟨tg,iter,ifs,0⟩] scope pos) xK) (Ag (gA wi g tt te (own.map (·.2))) (lz i)):=by
 intro pins s σ H D I h;rw[exec_Assign_Name_used _ _ _ _ hsw];refine ao (JE (ao ?_));show wpAny _ X.A (do let _ <-comprehension (.ListComp elt [⟨tg,iter,ifs,0⟩] scope pos) scope X.env (firstIterPos [⟨tg,iter,ifs,0⟩] pos) (newList []) false (eval iter X.env) (some (assign (.Name y py) X.env))) _ _ s;have h:gA wi g tt te (own.map (·.2)) σ H (λx H1=>lz i x σ H1 D.nx):=h;refine ao (aQ (WV (Qf:=λ_ s'=>SP X pins D .next s') hc hN I hi ok hg ht hh hxe he hs h λL C s' m H' I' q hn f=>?_) λ_ s' hq=>bu (bu hq));show wpAny _ _ (assign (.Name y py) X.env (.ref L)) _ _ _;refine Ry (EB (v:=V.ref L) I' hN hy (.inl hyl) rfl (λs2 I2 ⟨a,sb,ha⟩=>?_) (.inr hyl));obtain⟨f0,f1,f2,f3,f4,f5⟩:=f;have haC:C≠a:=by
  rcases ha with z|z
  .rw[z];exact f1
  .exact λe=>f4 y a z e.symm
 refine⟨m,hn.sameBut sb haC,λh3 sb3=>?_⟩;exact⟨_,H',I2.turned (t':=s2.toks) (λb o hb e=>(sb3.2 b hb).trans e) f0 f1 f3 f4 f5,q⟩
abbrev Cx.tH(X:Cx)(e:Addr):Cx:={X with A:=X.A.mark (some (.ref e)),calm:=false,xe:=λ_ _=>False}
theorem Inv.tH{σ:St}{H:Hp}{s:Shared}{pins:List (Addr×Obj)}(I:Inv X pins σ H s)(e:Addr):Inv (X.tH e) pins σ H s:=
 ⟨⟨I.ok.mod,I.ok.kind,I.ok.glob,I.ok.blt,I.ok.above,I.ok.inj,I.ok.has,I.ok.cab,λz=>(by cases z),I.ok.frames,I.ok.stk,I.ok.exf,I.ok.bs,I.ok.lu,I.ok.rq,I.ok.qb,I.ok.jh,I.ok.nH⟩,I.os,I.bare,I.base,I.loc,I.cell,I.free,I.iU,I.pin,I.aB,I.len⟩
theorem Inv.uncaught{σ:St}{H:Hp}{s:Shared}{pins:List (Addr×Obj)}{e:Addr}(I:Inv (X.tH e) pins σ H s)(ok:X.Ok):Inv X pins σ H s:=
 ⟨ok,I.os,I.bare,I.base,I.loc,I.cell,I.free,I.iU,I.pin,I.aB,I.len⟩
abbrev Cx.pinned(X:Cx)(pins:List (Addr×Obj)):Cx:={X with pn:=X.pn++pins}
theorem Inv.WX{σ:St}{H:Hp}{s:Shared}{pins:List (Addr×Obj)}(I:Inv X pins σ H s):Inv (X.pinned pins) [] σ H s:=
 ⟨⟨I.ok.mod,I.ok.kind,I.ok.glob,I.ok.blt,I.ok.above,I.ok.inj,I.ok.has,I.ok.cab,I.ok.hd,I.ok.frames,I.ok.stk,I.ok.exf,I.ok.bs,I.ok.lu,I.ok.rq,I.ok.qb,I.ok.jh,I.ok.nH⟩,I.os,I.bare,I.base,I.loc,I.cell,I.free,I.iU,λp hp=>I.pin p (by simpa using hp),I.aB,I.len⟩
theorem Inv.Nm{σ:St}{H:Hp}{s:Shared}{pins:List (Addr×Obj)}(I:Inv (X.pinned pins) [] σ H s):Inv X pins σ H s:=
 ⟨⟨I.ok.mod,I.ok.kind,I.ok.glob,I.ok.blt,I.ok.above,I.ok.inj,I.ok.has,I.ok.cab,I.ok.hd,I.ok.frames,I.ok.stk,I.ok.exf,I.ok.bs,I.ok.lu,I.ok.rq,I.ok.qb,I.ok.jh,I.ok.nH⟩,I.os,I.bare,I.base,I.loc,I.cell,I.free,I.iU,λp hp=>I.pin p (by simpa using hp),I.aB,I.len⟩
theorem SP.via{Y:Cx}{pins xo:List (Addr×Obj)}{D:Ends}{f:Flow}{s':Shared}(k:∀σ H s,Inv Y xo σ H s->Inv X pins σ H s)(h:SP Y xo D f s'):SP X pins D f s':=by
 cases f with
 |next=>obtain⟨σ',H',I,q⟩:=h;exact⟨σ',H',k _ _ _ I,q⟩
 |brk=>obtain⟨σ',H',I,q⟩:=h;exact⟨σ',H',k _ _ _ I,q⟩
 |cont=>obtain⟨σ',H',I,q⟩:=h;exact⟨σ',H',k _ _ _ I,q⟩
 |ret u=>obtain⟨v,σ',H',I,r,q⟩:=h;exact⟨v,σ',H',k _ _ _ I,r,q⟩
def WY(tb:(Hp->Prop)->TS)(ts:TS):TS:=λD σ H=>tb (λH'=>∀σ',ts D σ' H') D σ H
theorem FJ{x:Str}{np pos WZ:Pos}{Ca:Addr}{body:List Stmt}{b0:Stmt}{Nn:List Stmt}{tb:(Hp->Prop)->TS}{ts:TS}(hh:vf X)(hg:Gl X x)(hm:X.mg x=some (.ref Ca))(hq:PySem.W.excIn X.K Ca bmE "Exception.__new__"=true)
  (hb:∀pn Ex,fX (({X with pn:=pn}:Cx).fly (.ref Ca) Ex) body (tb Ex))(hs:∀pn e,fX (({X with pn:=pn}:Cx).tH e) (b0::Nn) ts)(hd:(x==("__debug__":Str))=false:=by decide):
  PS X (.Try body [.ExceptHandler (some (.Name x np)) none (b0::Nn) WZ] [] [] pos) (WY tb ts):=by
 intro pins s σ H D I h;have I0:Inv (X.pinned pins) [] σ H s:=I.WX;refine wpAny_Try_except (g8 (hb (X.pn++pins) _ [] s σ H D (I0.jj _) h) (λf s1 h1=>?_) λv s1 h1=>?_)
 .have h2:SP X pins D f s1:=SP.via (λ_ _ _ J=>J.ly.Nm) h1
  cases f with
  |next=>exact C6 h2
  |brk=>exact h2
  |cont=>exact h2
  |ret u=>exact h2
 .obtain⟨e,σ1,H1,rfl,I1,st,hE⟩:=h1
  refine FI (X:=X.pinned pins) I1 hh rfl st λk T L hL I2 xf hT iZ=>?_;refine AR (X:=X.pinned pins) (s:={s1 with heap:=k}) (fr:=none) I2 xf hT iZ λk3 I3 xf3=>?_;have okX:(X.pinned pins).Ok:=I3.ok;refine wpAny_handleBy_cons (codeAny_handlers_test ?_) (by intro q;cases q);refine sU (X:=(X.pinned pins).tH e) (I3.tH e) hg hm ?_ hd;obtain⟨tl,N,nm,q,bs,hdct,sn,sub,ab,col,dd,k0,k1,k2,k3',k5,mN,hC,hN,hni,TL⟩:=Ng I3.gx hq;obtain⟨oe,vs,oT,ts',a1,a2,_⟩:=id xf3;refine wpAny_excMatches_sub_self hC a1 a2 (TL.hasType RM.hasBase) (codeAny_handlers_suite ?_);refine AR (X:=X.pinned pins) (s:={s1 with heap:=k3}) (fr:=none) I3 xf3 hT iZ λk4 I4 xf4=>?_;refine g8 (hs (X.pn++pins) e [] _ σ1 H1 D (I4.tH e) (hE σ1)) (λf s5 h5=>?_) λ_ _ z=>z.elim;exact SP.via (λ_ _ _ J=>(J.uncaught (X:=X.pinned pins) okX).Nm) h5
end
def vg:Nat:=51
def vh:Nat:=39
def oX:Str:=(("settled_marks":Str)++".<locals>.")++"<lambda>"
def TabAt(P:Addr)(H:Hp):Prop:=∃ps,H P=some (.dU ps)/\(ps= #[]\/∃(c':Addr) (o:Obj) (vs:Array Value) (t:Tok),ps= #[rawInt vg,rawInt vh,.ref c']/\H c'=some (.dz o (.own 0))/\o.data=.fields vs/\vs[1]?=some (.str oX t))
def FL:HO->Bool
 | .dU _=>true
 |_=>false
structure aD(ex:List Addr)(H H':Hp):Prop where
 keep:∀b o,H b=some o->b∉ex->FL o=false->H' b=some o
 tab:∀P,TabAt P H->TabAt P H'
 dU:∀b ps,H b=some (.dU ps)->∃ps',H' b=some (.dU ps')
 there:∀b o,H b=some o->∃o',H' b=some o'
abbrev Sm(H H':Hp):Prop:=aD [] H H'
def NoX:Option HO->Prop
 |some (.dz _ _)=>False
 |some (.dU _)=>False
 |_=>True
section
variable{ex:List Addr}{H H1 H2 H':Hp}{l a:Addr}{o:HO}{xs ys:List V}
theorem aD.refl(ex:List Addr)(H:Hp):aD ex H H:=⟨λ_ _ h _ _=>h,λ_ h=>h,λ_ ps h=>⟨ps,h⟩,λ_ o h=>⟨o,h⟩⟩
theorem Sm.refl(H:Hp):Sm H H:=aD.refl [] H
theorem aD.trans(a:aD ex H H1)(b:aD ex H1 H2):aD ex H H2:=
 ⟨λc o h hx ht=>b.keep c o (a.keep c o h hx ht) hx ht,λP h=>b.tab P (a.tab P h),λc ps h=>let⟨ps',h'⟩:=a.dU c ps h;b.dU c ps' h',λc o h=>let⟨o',h'⟩:=a.there c o h;b.there c o' h'⟩
theorem aD.mono{ex':List Addr}(a:aD ex H H1)(h:∀b∈ex,b∈ex'):aD ex' H H1:=⟨λb o q hx ht=>a.keep b o q (λz=>hx (h b z)) ht,a.tab,a.dU,a.there⟩
theorem Sm.x(a:Sm H H1):aD ex H H1:=aD.mono a λ_ z=>nomatch z
theorem aD.at(a:aD ex H H1){b:Addr}{o:HO}(h:H b=some o)(hx:b∉ex)(ht:FL o=false:=by rfl):H1 b=some o:=a.keep b o h hx ht
theorem Sm.at(a:Sm H H1){b:Addr}{o:HO}(h:H b=some o)(ht:FL o=false:=by rfl):H1 b=some o:=a.keep b o h (by simp) ht
theorem aD.free(a:aD ex H H1){b:Addr}(h:H1 b=none):H b=none:=by
 cases q:H b with
 |none=>rfl
 |some o=>
  obtain⟨o',e⟩:=a.there b o q;rw[e]at h;cases h
theorem TabAt.upd{P:Addr}(h:TabAt P H){b:Addr}{o:HO}(hn:NoX (H b)):TabAt P (upd H b o):=by
 obtain⟨ps,h1,h2⟩:=h;have n1:P≠b:=λe=>by rw[<-e,h1]at hn;exact hn
 refine⟨ps,by rw[aJ n1];exact h1,?_⟩;rcases h2 with h2|⟨c',o',vs,t,h2,h3,h4⟩
 .exact .inl h2
 .have n2:c'≠b:=λe=>by rw[<-e,h3]at hn;exact hn
  exact .inr ⟨c',o',vs,t,h2,by rw[aJ n2];exact h3,h4⟩
theorem Sm.new(h:H l=none):Sm H (upd H l o):=by
 have ne:∀b u,H b=some u->b≠l:=λb u q=>fN q h;refine⟨λb u q _ _=>by rw[aJ (ne b u q)];exact q,λP z=>z.upd (by rw[h];trivial),λb ps q=>⟨ps,by rw[aJ (ne b _ q)];exact q⟩,λb u q=>⟨u,by rw[aJ (ne b u q)];exact q⟩⟩
theorem aD.wr(s:aD ex H H')(h:H l=none\/l∈ex)(hn:NoX (H' l))(ho:NoX (some o)):aD ex H (upd H' l o):=by
 refine⟨λb u q hx ht=>?_,λP z=>(s.tab P z).upd hn,λb ps q=>?_,λb u q=>?_⟩
 .have:b≠l:=by
   rcases h with h|h
   .exact fN q h
   .exact λe=>hx (by rw[e];exact h)
  rw[aJ this];exact s.keep b u q hx ht
 .obtain⟨ps',e⟩:=s.dU b ps q
  have:b≠l:=λz=>by rw[<-z,e]at hn;exact hn
  exact⟨ps',by rw[aJ this];exact e⟩
 .obtain⟨u',e⟩:=s.there b u q
  by_cases z:b=l
  .exact⟨o,by rw[z];exact aA⟩
  .exact⟨u',by rw[aJ z];exact e⟩
theorem Sm.wrL(s:Sm H H')(h:H l=none)(hl:H' l=some (.lst xs)):Sm H (upd H' l (.lst ys)):=aD.wr s (.inl h) (by rw[hl];trivial) trivial
theorem Sm.FN{K:Frag}(s:aD ex H H')(hx:a∉ex)(h:aU K H a xs):aU K H' a xs:=by
 rcases h with(h|⟨o,h⟩)|h
 .exact .inl (.inl (s.at h hx))
 .exact .inl (.inr ⟨o,s.at h hx⟩)
 .exact .inr h
theorem aD.lt{ex:List Addr}{H H':Hp}(s:aD ex H H'){ex':List Addr}(hh:∀b∈ex,H b=none\/b∈ex'):aD ex' H H':=
 ⟨λb o q hx ht=>s.keep b o q (λz=>(hh b z).elim (λn=>by rw[n]at q;cases q) hx) ht,s.tab,s.dU,s.there⟩
end
abbrev Rep(α:Type):=Hp->V->α->Prop
def Mn{α:Type}(R:Rep α):Prop:=∀H H' v x,Sm H H'->R H v x->R H' v x
def Ls{α:Type}(R:Rep α):Prop:=∀H l o u v x,H l=some o->(∀ys,o≠ .tup ys)->R H v x->R (upd H l u) v x
def dG:Rep Int:=λ_ v i=>v=.int i
def aW:Rep Nat:=λ_ v n=>v=.int (n:Int)
def bA:Rep Bool:=λ_ v b=>v=.bl b
def ay{α:Type}(R:Rep α):Rep (List α):=λH v xs=>∃a vs,v=.ref a/\H a=some (.lst vs)/\Paired (R H) vs xs
def bH{α:Type}(R:Rep α):Rep (List α):=λH v xs=>∃a vs,v=.ref a/\H a=some (.tup vs)/\Paired (R H) vs xs
def rF{α:Type}(R:Rep α):Rep (List α):=λH v xs=>bH R H v xs\/ay R H v xs
def mQ{α β:Type}(R:Rep α)(S:Rep β):Rep (α×β):=λH v p=>∃a u w,v=.ref a/\H a=some (.tup [u,w])/\R H u p.1/\S H w p.2
section
variable{α β:Type}{R:Rep α}{S:Rep β}
theorem gW{α β:Type}{F G:α->β->Prop}(k:∀a b,F a b->G a b):∀{l:List α} {m:List β},Paired F l m->Paired G l m
 |_,_,.nil=>.nil
 |_,_,.cons r t=>.cons (k _ _ r) (gW k t)
theorem eW{α β:Type}{G:α->β->Prop}:∀{l:List α} {m:List β},Paired G l m->l.length=m.length
 |_,_,.nil=>rfl
 |_,_,.cons _ t=>by rw[bT,bT,eW t]
theorem FO{α β:Type}{G:α->β->Prop}:∀{l:List α} {m:List β} {i:Nat} {b:β},Paired G l m->m[i]?=some b->∃a,l[i]?=some a/\G a b
 |_,_,_,_,.nil,h=>by simp at h
 |_,_,0,_,.cons r _,h=>by
  have e:=Option.some.inj h;subst e;exact⟨_,rfl,r⟩
 |_,_,i+1,_,.cons _ t,h=>FO (i:=i) t h
theorem ql{α β:Type}{G:α->β->Prop}:∀{l:List α} {m:List β} {i:Nat} {a:α},Paired G l m->l[i]?=some a->∃b,m[i]?=some b/\G a b
 |_,_,_,_,.nil,h=>by simp at h
 |_,_,0,_,.cons r _,h=>by
  have e:=Option.some.inj h;subst e;exact⟨_,rfl,r⟩
 |_,_,i+1,_,.cons _ t,h=>ql (i:=i) t h
theorem tK{α β:Type}{G:α->β->Prop}:∀{l l':List α} {m m':List β},Paired G l m->Paired G l' m'->Paired G (l++l') (m++m')
 |_,_,_,_,.nil,h=>h
 |_,_,_,_,.cons r t,h=>.cons r (tK t h)
theorem AS{α β:Type}{G:α->β->Prop}{l:List α}{m:List β}{a:α}{b:β}(h:Paired G l m)(k:G a b):Paired G (l++[a]) (m++[b]):=tK h (.cons k .nil)
theorem Np{α β:Type}{G:α->β->Prop}{a:α}{b:β}(h:G a b):∀{l:List α} {m:List β} {i:Nat},Paired G l m->Paired G (l.set i a) (m.set i b)
 |_,_,_,.nil=>.nil
 |_,_,0,.cons _ t=>.cons h t
 |_,_,i+1,.cons r t=>.cons r (Np h (i:=i) t)
theorem FP{α β:Type}{G:α->β->Prop}:∀{m:List β} {l:List α} {b:β},Paired G l (m++[b])->∃l' a,l=l'++[a]/\Paired G l' m/\G a b
 |[],_,b,.cons r .nil=>⟨[],_,rfl,.nil,r⟩
 |x::m,_,b,.cons r t=>by
  obtain⟨l',a,e,h1,h2⟩:=FP (m:=m) t;exact⟨_::l',a,by rw[e];rfl,.cons r h1,h2⟩
theorem Nq{α β:Type}{G:α->β->Prop}{a:α}{b:β}(h:G a b):∀n,Paired G (List.replicate n a) (List.replicate n b)
 |0=>.nil
 |n+1=>.cons h (Nq h n)
theorem AU{α β γ:Type}{G:α->β->Prop}{f:γ->α}{g:γ->β}:∀(l:List γ),(∀x∈l,G (f x) (g x))->Paired G (l.map f) (l.map g)
 |[],_=>.nil
 |x::l,h=>.cons (h x aZ) (AU l λy hy=>h y (bg _ hy))
theorem Nr{α β:Type}{G:α->β->Prop}:∀{l:List α} {m:List β} (n:Nat),Paired G l m->Paired G (l.drop n) (m.drop n)
 |_,_,0,h=>h
 |_,_,_+1,.nil=>.nil
 |_,_,n+1,.cons _ t=>Nr n t
theorem Nt{α β:Type}{G:α->β->Prop}:∀{l:List α} {m:List β} (n:Nat),Paired G l m->Paired G (l.take n) (m.take n)
 |_,_,0,_=>.nil
 |_,_,_+1,.nil=>.nil
 |_,_,n+1,.cons r t=>.cons r (Nt n t)
theorem paired_ints{H:Hp}:∀{vs:List V} {ns:List Int},Paired (dG H) vs ns->vs=ns.map V.int
 |_,_,.nil=>rfl
 |_,_,.cons r t=>by rw[show _=V.int _ from r,paired_ints t];rfl
theorem Nu{H:Hp}:∀ns:List Int,Paired (dG H) (ns.map V.int) ns
 |[]=>.nil
 |n::ns=>.cons rfl (Nu ns)
theorem FQ{H:Hp}:∀{vs:List V} {ns:List Nat},Paired (aW H) vs ns->vs=ns.map λn:Nat=>V.int (n:Int)
 |_,_,.nil=>rfl
 |_,_,.cons r t=>by rw[show _=V.int _ from r,FQ t];rfl
theorem W0{H:Hp}{vs:List V}{ns:List Nat}(h:Paired (aW H) vs ns):vs=(ns.map λn:Nat=>(n:Int)).map V.int:=by rw[FQ h,pI];rfl
theorem FT{H:Hp}:∀{vs:List V} {bs:List Bool},Paired (bA H) vs bs->vs=bs.map V.bl
 |_,_,.nil=>rfl
 |_,_,.cons r t=>by rw[show _=V.bl _ from r,FT t];rfl
theorem i0:Mn dG:=λ_ _ _ _ _ h=>h
theorem bE:Mn aW:=λ_ _ _ _ _ h=>h
theorem dH:Mn bA:=λ_ _ _ _ _ h=>h
theorem mS(m:Mn R){H H':Hp}(s:Sm H H'){vs:List V}{xs:List α}(h:Paired (R H) vs xs):Paired (R H') vs xs:=gW (λ_ _ q=>m _ _ _ _ s q) h
theorem aI(m:Mn R):Mn (ay R):=λ_ _ _ _ s ⟨a,vs,e,h1,h2⟩=>⟨a,vs,e,Sm.at s h1,mS m s h2⟩
theorem jE(m:Mn R):Mn (bH R):=λ_ _ _ _ s ⟨a,vs,e,h1,h2⟩=>⟨a,vs,e,Sm.at s h1,mS m s h2⟩
theorem xT(m:Mn R)(n:Mn S):Mn (mQ R S):=λ_ _ _ _ s ⟨a,u,w,e,h1,h2,h3⟩=>⟨a,u,w,e,Sm.at s h1,m _ _ _ _ s h2,n _ _ _ _ s h3⟩
theorem Nv:Ls dG:=λ_ _ _ _ _ _ _ _ h=>h
theorem qm:Ls aW:=λ_ _ _ _ _ _ _ _ h=>h
theorem qo:Ls bA:=λ_ _ _ _ _ _ _ _ h=>h
theorem Ny(m:Ls R):Ls (bH R):=λH l o u v x hl ho ⟨a,vs,e,h1,h2⟩=>
 ⟨a,vs,e,by rw[aJ (sS h1 hl (λz=>ho vs z.symm))];exact h1,gW (λ_ _ q=>m H l o u _ _ hl ho q) h2⟩
theorem Nz(m:Ls R)(n:Ls S):Ls (mQ R S):=λH l o u v x hl ho ⟨a,y,w,e,h1,h2,h3⟩=>
 ⟨a,y,w,e,by rw[aJ (sS h1 hl (λz=>ho _ z.symm))];exact h1,m H l o u _ _ hl ho h2,n H l o u _ _ hl ho h3⟩
end
theorem NB{xs:List V}:∀ys,HO.lst xs≠ .tup ys:=λ_ z=>by cases z
theorem take_snoc{α:Type}:∀{l:List α} {i:Nat} {x:α},l[i]?=some x->l.take (i+1)=l.take i++[x]
 |[],i,x,h=>by simp at h
 |a::l,0,x,h=>by
  have e:a=x:=Option.some.inj h;subst e;rfl
 |a::l,i+1,x,h=>by
  have ih:=take_snoc (l:=l) (i:=i) (x:=x) h;show a::l.take (i+1)=a::l.take i++[x];rw[ih];rfl
theorem NC{α β:Type}{ms:List α}{F:α->Option β}{i:Nat}{m:α}(h:ms[i]?=some m):(ms.take (i+1)).filterMap F=(ms.take i).filterMap F++(F m).toList:=by
 rw[take_snoc h,Ru];cases e:F m with
 |none=>simp[e]
 |some b=>simp[e]
section
variable{α β:Type}{K:Frag}{g:TG}{tt:TT}{te:TE}{vs:List Nat}{σ:L2.St}{H1:Hp}
def LcM(H1:Hp)(D:Addr)(g:TG)(tt:TT)(te:TE)(vs:List Nat)(σ:L2.St)(G:Rep β)(o:Option β)(x:V):Prop:=
 ∀(H:Hp) (Nx:Hp->Prop),Sm H1 H->(∃l,H D=some (.lst l))->(o=none->∀H',Sm H H'->Nx H')->
  (∀y b H',o=some b->Sm H H'->G H' y b->∃acc,H' D=some (.lst acc)/\acc.length<sizeLine/\Nx (upd H' D (.lst (acc++[y]))))->
  g x (wipe σ vs) H λσ2 H2=>wipe σ2 vs=wipe σ vs/\tt σ2 H2 λb H3=>if b=true then te σ2 H3 λy H4=>∃acc,H4 D=some (.lst acc)/\acc.length<sizeLine/\Nx (upd H4 D (.lst (acc++[y])))else Nx H3
def LcP(H1:Hp)(D:Addr)(G:Rep β)(ms:List α)(F:α->Option β)(i:Nat)(H:Hp):Prop:=∃ys,H D=some (.lst ys)/\Sm H1 H/\Paired (G H) ys ((ms.take i).filterMap F)/\ys.length<=i
theorem FU{G:Rep β}{ms:List α}{F:α->Option β}{D:Addr}{i:Nat}{x:V}{m:α}{H:Hp}(mG:Mn G)(lG:∀H y b xs ys,H D=some (.lst xs)->G H y b->G (upd H D (.lst ys)) y b)(hD:H1 D=none)(hn:ms.length<=sizeLine)(hm:ms[i]?=some m)(h:LcM H1 D g tt te vs σ G (F m) x)(p:LcP H1 D G ms F i H):
  g x (wipe σ vs) H λσ2 H2=>wipe σ2 vs=wipe σ vs/\tt σ2 H2 λb H3=>if b=true then te σ2 H3 λy H4=>∃acc,H4 D=some (.lst acc)/\acc.length<sizeLine/\LcP H1 D G ms F (i+1) (upd H4 D (.lst (acc++[y])))else LcP H1 D G ms F (i+1) H3:=by
 obtain⟨ys,h1,h2,h3,h4⟩:=p;have hi:=(cU.mp hm).1;refine h H (LcP H1 D G ms F (i+1)) h2 ⟨_,h1⟩ (λe H' s=>⟨ys,Sm.at s h1,h2.trans s,?_,by omega⟩) λy b H' e s gy=>⟨ys,Sm.at s h1,by omega,ys++[y],aA,Sm.wrL (h2.trans s) hD (Sm.at s h1),?_,?_⟩
 .rw[NC hm,e]
  simp only[Option.toList_none,fW];exact mS mG s h3
 .rw[NC hm,e]
  exact AS (gW (λ_ _ q=>lG _ _ _ _ _ (Sm.at s h1) q) (mS mG s h3)) (lG _ _ _ _ _ (Sm.at s h1) gy)
 .rw[aX];show ys.length+1<=i+1;omega
theorem lcL{R:Rep α}{G:Addr->Rep β}{ms:List α}{F:α->Option β}{v:V}{Q:VK}(mR:Mn R)(hv:ay R H1 v ms)(hn:ms.length<=sizeLine)(mG:∀D,Mn (G D))(lG:∀D H y b xs ys,H D=some (.lst xs)->G D H y b->G D (upd H D (.lst ys)) y b)
  (hs:∀D x m,H1 D=none->m∈ms->R H1 x m->LcM H1 D g tt te vs σ (G D) (F m) x)(hd:∀D zs H',H1 D=none->H' D=some (.lst zs)->Sm H1 H'->Paired (G D H') zs (ms.filterMap F)->Q (.ref D) H'):
  ∃a,v=.ref a/\(∃xs,aU K H1 a xs)/\∀D,H1 D=none->∃W:Nat->Nat->Hp->Prop,(∃m,W 0 m (upd H1 D (.lst [])))/\∀i m H,W i m H->
   ((Itl K a).stop i H/\Q (.ref D) H)\/((Itl K a).go i H/\∃Nx:Hp->Prop,(∀H',Nx H'->∃m',m'<m/\W (i+1) m' H')/\∀x H',(Itl K a).nI i H x H'->g x (wipe σ vs) H' λσ2 H2=>wipe σ2 vs=wipe σ vs/\tt σ2 H2 λb H3=>
    if b=true then te σ2 H3 λy H4=>∃acc,H4 D=some (.lst acc)/\acc.length<sizeLine/\Nx (upd H4 D (.lst (acc++[y])))else Nx H3):=by
 obtain⟨a,us,rfl,ha,hp⟩:=hv;have hl:=eW hp;refine⟨a,rfl,⟨_,aU.of ha⟩,λD hD=>VV (xs:=us) (LcP H1 D (G D) ms F) ⟨[],aA,Sm.new hD,.nil,aF _⟩ (λi H _ ⟨_,_,s,_⟩=>aU.of (Sm.at s ha)) (λi x H hi p=>?_) λH ⟨zs,p1,p2,p3,_⟩=>?_⟩
 .obtain⟨m,hm,r⟩:=ql hp hi
  exact FU (mG D) (lG D) hD hn hm (hs D x m hD (cE hm) r) p
 .rw[hl,ja]at p3
  exact hd D zs H hD p1 p2 p3
theorem lcT{R:Rep α}{G:Addr->Rep β}{ms:List α}{F:α->Option β}{v:V}{Q:VK}(mR:Mn R)(hv:bH R H1 v ms)(hn:ms.length<=sizeLine)(mG:∀D,Mn (G D))(lG:∀D H y b xs ys,H D=some (.lst xs)->G D H y b->G D (upd H D (.lst ys)) y b)
  (hs:∀D x m,H1 D=none->m∈ms->R H1 x m->LcM H1 D g tt te vs σ (G D) (F m) x)(hd:∀D zs H',H1 D=none->H' D=some (.lst zs)->Sm H1 H'->Paired (G D H') zs (ms.filterMap F)->Q (.ref D) H'):
  ∃a,v=.ref a/\(∃xs,aM K H1 a xs)/\∀D,H1 D=none->∃W:Nat->Nat->Hp->Prop,(∃m,W 0 m (upd H1 D (.lst [])))/\∀i m H,W i m H->
   ((Itt K a).stop i H/\Q (.ref D) H)\/((Itt K a).go i H/\∃Nx:Hp->Prop,(∀H',Nx H'->∃m',m'<m/\W (i+1) m' H')/\∀x H',(Itt K a).nI i H x H'->g x (wipe σ vs) H' λσ2 H2=>wipe σ2 vs=wipe σ vs/\tt σ2 H2 λb H3=>
    if b=true then te σ2 H3 λy H4=>∃acc,H4 D=some (.lst acc)/\acc.length<sizeLine/\Nx (upd H4 D (.lst (acc++[y])))else Nx H3):=by
 obtain⟨a,us,rfl,ha,hp⟩:=hv;have hl:=eW hp;refine⟨a,rfl,⟨_,aM.of ha⟩,λD hD=>VW (xs:=us) (LcP H1 D (G D) ms F) ⟨[],aA,Sm.new hD,.nil,aF _⟩ (λi H _ ⟨_,_,s,_⟩=>aM.of (Sm.at s ha)) (λi x H hi p=>?_) λH ⟨zs,p1,p2,p3,_⟩=>?_⟩
 .obtain⟨m,hm,r⟩:=ql hp hi
  exact FU (mG D) (lG D) hD hn hm (hs D x m hD (cE hm) r) p
 .rw[hl,ja]at p3
  exact hd D zs H hD p1 p2 p3
theorem lcS{R:Rep α}{G:Addr->Rep β}{ms:List α}{F:α->Option β}{i:Nat}{v:V}{Q:VK}{H1:Hp}(hi:σ[i]?=some (some v))(mR:Mn R)(hv:rF R H1 v ms)(hn:ms.length<=sizeLine)(mG:∀D,Mn (G D))(lG:∀D H y b xs ys,H D=some (.lst xs)->G D H y b->G D (upd H D (.lst ys)) y b)
  (hs:∀D x m,H1 D=none->m∈ms->R H1 x m->LcM H1 D g tt te vs σ (G D) (F m) x)(hd:∀D zs H',H1 D=none->H' D=some (.lst zs)->Sm H1 H'->Paired (G D H') zs (ms.filterMap F)->Q (.ref D) H'):
  gA (λσ H R=>xx K (uS i) σ H R\/uV K (uS i) σ H R) g tt te vs σ H1 Q:=by
 unfold gA;rcases hv with hv|hv
 .exact .inl ⟨_,hi,lcT mR hv hn mG lG hs hd⟩
 .exact .inr ⟨_,hi,lcL mR hv hn mG lG hs hd⟩
theorem lcR{G:Addr->Rep β}{n:Nat}{F:Nat->Option β}{Q:VK}(hn:n<=sizeLine)(mG:∀D,Mn (G D))(lG:∀D H y b xs ys,H D=some (.lst xs)->G D H y b->G D (upd H D (.lst ys)) y b)
  (hs:∀D (m:Nat),H1 D=none->m<n->LcM H1 D g tt te vs σ (G D) (F m) (.int (m:Int)))(hd:∀D zs H',H1 D=none->H' D=some (.lst zs)->Sm H1 H'->Paired (G D H') zs ((List.range n).filterMap F)->Q (.ref D) H'):
  ∀D,H1 D=none->∃W:Nat->Nat->Hp->Prop,(∃m,W 0 m (upd H1 D (.lst [])))/\∀i m H,W i m H->
   ((mz 0 n).stop i H/\Q (.ref D) H)\/((mz 0 n).go i H/\∃Nx:Hp->Prop,(∀H',Nx H'->∃m',m'<m/\W (i+1) m' H')/\∀x H',(mz 0 n).nI i H x H'->g x (wipe σ vs) H' λσ2 H2=>wipe σ2 vs=wipe σ vs/\tt σ2 H2 λb H3=>
    if b=true then te σ2 H3 λy H4=>∃acc,H4 D=some (.lst acc)/\acc.length<sizeLine/\Nx (upd H4 D (.lst (acc++[y])))else Nx H3):=by
 intro D hD;refine Fj (LcP H1 D (G D) (List.range n) F) ⟨[],aA,Sm.new hD,.nil,aF _⟩ (λi H hi p=>?_) λH ⟨zs,p1,p2,p3,_⟩=>?_
 .have q:=hs D i hD hi
  rw[show(0:Int)+(i:Nat)=(i:Int)by omega];exact FU (mG D) (lG D) hD (by rw[gq];exact hn) (rZ hi) q p
 .rw[qP (by rw[gq];exact aF _)]at p3
  exact hd D zs H hD p1 p2 p3
theorem W2{n i:Nat}{Q:VK}(hn:n<=sizeLine)(hw:∀x,wipe ((wipe σ vs).set i x) vs=wipe σ vs)
  (hd:∀D (as:List Addr) H,H1 D=none->H D=some (.lst (as.map V.ref))->Sm H1 H->as.length=n->as.Nodup->D∉as->(∀b∈as,H1 b=none/\H b=some (.lst []))->Q (.ref D) H):
  ∀D,H1 D=none->∃W:Nat->Nat->Hp->Prop,(∃m,W 0 m (upd H1 D (.lst [])))/\∀i' m H,W i' m H->
   ((mz 0 n).stop i' H/\Q (.ref D) H)\/((mz 0 n).go i' H/\∃Nx:Hp->Prop,(∀H',Nx H'->∃m',m'<m/\W (i'+1) m' H')/\∀x H',(mz 0 n).nI i' H x H'->(lz i) x (wipe σ vs) H' λσ2 H2=>wipe σ2 vs=wipe σ vs/\u6 σ2 H2 λb H3=>
    if b=true then(EU xA) σ2 H3 λy H4=>∃acc,H4 D=some (.lst acc)/\acc.length<sizeLine/\Nx (upd H4 D (.lst (acc++[y])))else Nx H3):=by
 intro D hD;refine Fj (λj H=>∃as:List Addr,H D=some (.lst (as.map V.ref))/\Sm H1 H/\as.length=j/\as.Nodup/\D∉as/\∀b∈as,H1 b=none/\H b=some (.lst [])) ⟨[],aA,Sm.new hD,rfl,RN,by simp,by simp⟩ (λj H hj p=>?_) λH ⟨as,p1,p2,p3,p4,p5,p6⟩=>hd D as H hD p1 p2 p3 p4 p5 p6;obtain⟨as,h1,h2,h3,h4,h5,h6⟩:=p;refine⟨hw _,?_⟩;unfold u6;dsimp only;rw[aj rfl];refine⟨cM _,λp hp=>?_⟩;have nD:D≠p:=fN h1 hp;refine⟨as.map V.ref,by rw[aJ nD];exact h1,by rw[aK];omega,as++[p],by rw[aA,qK];rfl,?_,by rw[aX,h3];rfl,?_,?_,?_⟩
 .exact Sm.wrL (h2.trans (Sm.new hp)) hD (by rw[aJ nD];exact h1)
 .refine FA h4 λhm=>?_
  rw[(h6 p hm).2]at hp;cases hp
 .intro hm
  rcases eZ.mp hm with z|z
  .exact h5 z
  .exact nD (by simpa using z)
 .intro b hb
  rcases eZ.mp hb with z|z
  .have n1:b≠D:=λe=>h5 (by rw[<-e];exact z)
   have n2:b≠p:=λe=>by rw[e]at z;rw[(h6 p z).2]at hp;cases hp
   exact⟨(h6 b z).1,by rw[aJ n1,aJ n2];exact(h6 b z).2⟩
  .have e:b=p:=by simpa using z
   subst e;exact⟨h2.free hp,by rw[aJ (cS nD)];exact aA⟩
end
theorem jm{β:Type}{R:Rep β}(h:Ls R):∀(D:Addr) H y b xs ys,H D=some (.lst xs)->R H y b->R (upd H D (.lst ys)) y b:=λD H y b xs ys hl q=>h H D _ _ _ _ hl NB q
theorem bB{X:Cx}{x:Str}{i:Int}{pos:Pos}(h:∃t,X.mg x=some (.int i t))(hg:Gl X x:=by rfl)(hd:(x==("__debug__":Str))=false:=by decide):PE X (.Name x pos) (tC (.int i)):=by
 obtain⟨t,ht⟩:=h;exact LA (v:=.int i) hg ht ⟨t,rfl⟩ hd
theorem jF{X:Cx}{x:Str}{f:Addr}{pos:Pos}(h:X.mg x=some (.ref f))(hg:Gl X x:=by rfl)(hd:(x==("__debug__":Str))=false:=by decide):PE X (.Name x pos) (tC (.ref f)):=LA (v:=.ref f) hg h rfl hd
def fdOf(K:Frag)(f:Addr):FuncData:=match K.lookup f with
 |some ⟨_,_,.func fd,_⟩=>fd
 |_=>PySem.W.fnOf "" "" (lD (.Pass ⟨0,0,0,0⟩)) [] (aC (.Pass ⟨0,0,0,0⟩)) .none .none .none .none none .none .none
theorem ND{K:Frag}{f:Addr}{oc:Value}{od:Option Addr}{fd:FuncData}{ku:Array (Option Value)}(h:K.lookup f=some ⟨oc,od,.func fd,ku⟩):fdOf K f=fd:=by unfold fdOf;rw[h]
structure FnAt(K:Frag)(mg:Str->Option Value)(x:Str)(st:Stmt)(ps:List Str)(f:Addr):Prop where
 fn:mL K x x st f (fdOf K f)
 gl:mg x=some (.ref f)
 bd:Binds K (fdOf K f) ps []
structure AV(K:Frag)(C:Addr)(m qual:Str)(st:Stmt)(ps:List Str)(f:Addr):Prop where
 fn:mL K m qual st f (fdOf K f)
 me:Meth K C m f
 bd:Binds K (fdOf K f) ps []
theorem aE{X:Cx}{k j:Nat}{f:Addr}{ps:List Str}{sp:Sp}{x:Str}{st:Stmt}{p pos:Pos}{e:Expr}{es:List Expr}{t:TA}(A:FnAt X.K X.mg x st ps f)(F:cH X.prog X.w X.K X.mg X.base eB k f (fdOf X.K f) ps sp)(hr:dB j X.A)(ha:PA X (e::es) t)(hj:k<=j:=by decide)(hg:Gl X x:=by rfl)
  (iC:(x==("__debug__":Str))=false:=by decide)(he:starEach (e::es) X.env=(false,eval e X.env)::starEach es X.env:=by rfl)(dS:(backTo pos (starEach es X.env)).any (·.1)=false:=by rfl):
  PE X (.Call (.Name x p) (e::es) [] pos) (EV sp [] E0 t):=L1 F (hr.mono hj) hg A.gl A.fn.kp A.bd .nil fP ha iC he dS
theorem vj{X:Cx}{a b:Expr}{pos:Pos}{ta tb:TT}(ha:PT X a ta)(hb:PT X b tb):PT X (.BoolOp .And [a,b] pos) (LB ta tb):=(Uo ha (Ul hb)).pt
theorem FW{X:Cx}{a b:Expr}{pos:Pos}{ta tb:TT}(ha:PT X a ta)(hb:PT X b tb):PT X (.BoolOp .Or [a,b] pos) (tOr ta tb):=(Up ha (Um hb)).pt
theorem NF{X:Cx}{a b:Expr}{pos:Pos}{ta tb:TE}(ha:PE X a ta)(hb:PE X b tb):PE X (.BoolOp .And [a,b] pos) (LC ta tb):=Ur ha (LF hb)
theorem xU{X:Cx}{a b:Expr}{pos:Pos}{ta tb:TE}(ha:PE X a ta)(hb:PE X b tb):PE X (.BoolOp .Or [a,b] pos) (LD ta tb):=Us ha (LF hb)
open PySem.W (kla_fn kla_obj envX CodeHd tabObj Looks)
section
variable{P:Program}{w:World}{K:Frag}{mg:Str->Option Value}{base:Heap}
def FY(P:Program)(w:World)(K:Frag)(mg:Str->Option Value)(base:Heap)(N:List Str)(qual:Str)(scope:Scope)(f:Addr)(cdv:Value)(cl:List (Str×Addr))(A:Around)(outer:List Env)(s:Shared)(H:Hp):Cx where
 prog:=P
 w:=w
 K:=K
 mg:=mg
 base:=base
 A:=A.deeper (envX qual scope s.heap.objs.size f cdv cl)
 N:=N
 fO:=s
 H_0:=H
 env:=envX qual scope s.heap.objs.size f cdv cl
 outer:=outer
 stack:=envX qual scope s.heap.objs.size f cdv cl::outer
 ex:=[]
 fn:=λ_=>false
 calm:=true
 pn:=[]
 xe:=λ_ _=>False
structure FZ(ps:List Str)(y:Str)(sc:Scope):Prop where
 kind:sc.kind=.function
 co:sc.isCoroutine=false
 gen:sc.isGenerator=false
 nd:ps.Nodup
 ny:y∉ps
 par:∀x∈ps,sc.names.lookup x=some .local
 free:sc.names.lookup y=some .free
 only:∀x,sc.names.lookup x=some .cell\/sc.names.lookup x=some .free->x=y
 W3:∀x∈sc.names,x.2≠ .cell
theorem NH{x:Str}{u:Value}:∀{ps:List Str} {us:List Value} {i:Nat},ps.Nodup->ps[i]?=some x->us[i]?=some u->∀acc:List (Str×Value),(∀v,(x,v)∉acc)->(acc++(ps.zip us).reverse).lookup x=some u
 |[],_,_,_,h,_,_,_=>by simp at h
 |_::_,[],_,_,_,h,_,_=>by simp at h
 |p::ps,w::us,0,nd,h1,h2,acc,ha=>by
  have e1:p=x:=by simpa using h1
  have e2:w=u:=by simpa using h2
  subst e1 e2;rw[zj,List.reverse_cons];have no:∀v,(p,v)∉acc++(ps.zip us).reverse:=λv hv=>by
   rcases eZ.mp hv with z|z
   .exact ha v z
   .exact(qJ.mp nd).1 (C9 (List.mem_reverse.mp z)).1
  rw[<-jy];generalize acc++(ps.zip us).reverse=l at no
  induction l with
  |nil=>simp
  |cons q l ih=>
   have hq:(p==q.1)=false:=by
    have:p≠q.1:=λe=>no q.2 (by rw[e];exact aZ);simpa using this
   rw[zf,l7,hq];exact ih λv hv=>no v (bg _ hv)
 |p::ps,w::us,i+1,nd,h1,h2,acc,ha=>by
  rw[zj,List.reverse_cons,<-jy];have h:=NH (i:=i) (qJ.mp nd).2 (by simpa using h1) (by simpa using h2) acc ha;generalize acc++(ps.zip us).reverse=l at h⊢
  induction l with
  |nil=>simp at h
  |cons q l ih=>
   rw[zf,l7];rw[l7]at h;cases e:x==q.1 with
   |true=>rw[e]at h;exact h
   |false=>rw[e]at h;exact ih h
theorem W4{ps:List Str}{y:Str}{qual:Str}{scope:Scope}{f c2:Addr}{cdv:Value}{gv:V}{gu:Value}{A:Around}{outer:List Env}{s:Shared}{H:Hp}{us:List Value}{vs:List V}{h':Heap}
  (S:FZ ps y scope)(hd:A.handled=none)(e0:qe P w K mg base A outer s H)(hl:vs.length=ps.length)(r:Vals vs us)(dD:base.IsCell c2 (some gu))(rg:RelV gv gu)
  (ns:h'.Ns s.heap.objs.size (λx=>(ps.zip us).reverse.lookup x))(hk:∀b o,s.heap.get? b=some o->h'.get? b=some o):
  Inv (FY P w K mg base (ps++[y]) qual scope f cdv [(y,c2)] A outer s H) [] (vs.map some++[some gv]) H {s with heap:=h',toks:=s.toks+(ps.zip us).length}:=by
 have noA:∀b:Addr,b∉(FY P w K mg base (ps++[y]) qual scope f cdv [(y,c2)] A outer s H).ex:=λb z=>absurd (show b∈([]:List Addr)from z) (by simp);obtain⟨oc,hoc,xq⟩:=dD;have b2:=e0.bs c2 oc hoc;have lk:∀x c,List.lookup x [(y,c2)]=some c->x=y/\c=c2:=λx c h=>by
  rw[l7]at h;cases e:x==y with
  |true=>rw[e]at h;exact⟨eq_of_beq e,(Option.some.inj h).symm⟩
  |false=>rw[e]at h;cases h
 refine⟨⟨e0.mod,S.kind,rfl,rfl,aF _,λa b c h1 h2=>?_,λx hx=>?_,λx c h _=>?_,λ_=>hd,Around.frames_deeper e0.frames,.inr ⟨rfl,rfl⟩,λb z=>absurd z (noA b),e0.bs,e0.lu,λb _ _=>noA b,λb z=>absurd z (noA b),e0.jh,e0.nH⟩,
  rfl,e0.bare,Un.kept hk,⟨_,ns,λi x v h1 h2 h3=>?_⟩,λx c h=>?_,e0.aB.fresh (aF _),λx c h=>?_,λp hp=>absurd (show p∈([]:List (Addr×Obj))from hp) (by simp),e0.aB.kept hk,?_⟩
 .rw[(lk a c h1).1,(lk b c h2).1]
 .have e:=S.only x hx
  exact⟨c2,by show List.lookup x [(y,c2)]=_;rw[e,l7,oq]⟩
 .exact absurd (show false=true from h) dP
 .by_cases hi:i<ps.length
  .have h1:ps[i]?=some x:=by
    have h1:(ps++[y])[i]?=some x:=h1;rw[zh hi]at h1;exact h1
   have h2:vs[i]?=some v:=by
    rw[zh (by rw[aK];omega),fK]at h2;cases e:vs[i]? with
    |none=>rw[e]at h2;cases h2
    |some a=>rw[e]at h2;cases h2;rfl
   obtain⟨u,hu,ru⟩:=r.get h2;refine⟨u,ru,.inl ⟨S.par x (cE h1),?_⟩⟩;have:=NH S.nd h1 hu [] (by simp);simpa using this
  .have h1:(ps++[y])[i]?=some x:=h1
   rw[r8 (by omega)]at h1;have hi0:i-ps.length=0:=by
    cases q:i-ps.length with
    |zero=>rfl
    |succ k=>rw[q]at h1;simp at h1
   rw[hi0]at h1;have ex:y=x:=by simpa using h1
   subst ex;rw[r8 (by rw[aK];omega),aK,hl,hi0]at h2;have ev:gv=v:=by simpa using h2
   subst ev;refine⟨gu,rg,.inr ⟨.inr S.free,c2,?_,oc,hk _ _ b2.1,xq⟩⟩;show List.lookup y [(y,c2)]=_;rw[l7,oq]
 .obtain⟨_,rfl⟩:=lk x c h
  exact⟨_,oc,hk _ _ b2.1,xq⟩
 .obtain⟨_,rfl⟩:=lk x c h
  exact b2.2
 .show(vs.map some++[some gv]).length=(ps++[y]).length
  rw[aX,aX,aK,hl];rfl
def qp(name qual:Str)(params:Arguments)(body:Expr)(scope:Scope)(cl:List (Str×Addr))(pm fm:Value)(c' f:Addr)(H:Hp):Prop:=
 H f=some (.dz (kla_obj name qual params body scope cl pm c' fm) (.own 0))/\∃(o:Obj) (vs:Array Value) (t:Tok),H c'=some (.dz o (.own 0))/\o.data=.fields vs/\vs[1]?=some (.str qual t)
theorem qp.mono{name qual:Str}{params:Arguments}{body:Expr}{scope:Scope}{cl:List (Str×Addr)}{pm fm:Value}{c' f:Addr}{H H':Hp}(s:Sm H H')(h:qp name qual params body scope cl pm fm c' f H):qp name qual params body scope cl pm fm c' f H':=by
 obtain⟨h1,o,vs,t,h2,h3⟩:=h;exact⟨Sm.at s h1,o,vs,t,Sm.at s h2,h3⟩
theorem W5{name qual:Str}{params:Arguments}{body:Expr}{scope:Scope}{pm fm gu:Value}{c' c2 f:Addr}{ps:List Str}{y:Str}{gv:V}{k:Nat}{sp:Sp}(S:FZ ps y scope)(dD:base.IsCell c2 (some gu))(rg:RelV gv gu)
  (len:∀vs H Q E,sp vs H Q E->vs.length=ps.length)(hat:∀vs H Q E,sp vs H Q E->qp name qual params body scope [(y,c2)] pm fm c' f H)
  (qg:∀(A:Around) (outer:List Env) (s:Shared) (H:Hp) (vs:List V) (Q:VK) (E:XK),dB k (A.deeper (envX qual scope s.heap.objs.size f (.ref c') [(y,c2)]))->sp vs H Q E->
   ∃t,PE (FY P w K mg base (ps++[y]) qual scope f (.ref c') [(y,c2)] A outer s H) body t/\t (vs.map some++[some gv]) H Q):
  cH P w K mg base eB (k+1) f (kla_fn name qual params body scope [(y,c2)] pm (.ref c') fm) ps sp:=by
 refine⟨len,λA outer s H args us vs Q E hr e0 hb r gS=>?_⟩;have hl:=len _ _ _ _ gS;obtain⟨h1,o,cs,t,h2,h3,h4⟩:=hat _ _ _ _ gS;have lim:s.heap.NoLimit:=e0.mod.nolimit.keeps λb o e=>(e0.bs b o e).1;have ho:s.heap.get? f=some (kla_obj name qual params body scope [(y,c2)] pm c' fm):=(e0.aB f _ h1).1;have fY:s.heap.CodeRec (.ref c') qual:=⟨c',o,cs,t,rfl,(e0.aB c' _ h2).1,h3,h4⟩;refine PySem.W.kla_callFunE hr.depth ho rfl S.co S.gen rfl fY (hb _ _ _ _ ?_);refine wpAny_newFunctionEnv S.W3 (λx hx=>S.par x.1 (C9 hx).1) (λh' ns sb=>⟨lim.fresh _ sb,?_⟩) S.kind;have hk:∀b o,s.heap.get? b=some o->h'.get? b=some o:=λb o e=>sb.extBut b o (fT (cI e)) (cz _ e);show codeAny _ _ (.expr body (envX qual scope s.heap.objs.size f (.ref c') [(y,c2)])) _ _;obtain⟨t,ht,hq⟩:=qg A outer s H vs Q E (hr.deeper _) gS;have I:=W4 (f:=f) (qual:=qual) (cdv:=.ref c') (gv:=gv) S hr.hd e0 hl r dD rg ns hk;refine PySem.W.kla_codeExpr (g8 (ht [] _ _ H Q I hq) (λu s' hs=>?_) λe s' hs=>hs.elim);obtain⟨v,H',J,rv,q⟩:=hs;exact⟨v,H',J.os,J.bare,J.base,J.aB,rv,q⟩
end
section
variable{X:Cx}{pins:List (Addr×Obj)}{σ:St}{H:Hp}{s:Shared}
def qt(b0 h:Heap)(c2:Addr):Heap:=PySem.W.hideAll h ((List.range h.objs.size).filter λb=>(b0.get? b).isNone&&decide (b≠c2))
theorem F0{b0 h:Heap}{c2 b:Addr}{o:Obj}(e:h.get? b=some o)(hb:(∃o',b0.get? b=some o')\/b=c2):(qt b0 h c2).get? b=some o:=by
 refine PySem.W.hideAll_get _ e λz=>?_;have z:=(iO.mp z).2;rw[cV,nh]at z;rcases hb with⟨o',h1⟩|h1
 .rw[h1]at z;exact absurd z.1 (by simp)
 .exact z.2 h1
theorem NI{b0 h:Heap}{c2 b:Addr}{o:Obj}(e:(qt b0 h c2).get? b=some o):h.get? b=some o/\((∃o',b0.get? b=some o')\/b=c2):=by
 have e1:=PySem.W.of_hideAll _ e;refine⟨e1,kP λz=>?_⟩;have n1:b0.get? b=none:=by
  cases q:b0.get? b with
  |none=>rfl
  |some o'=>exact absurd (.inl ⟨o',q⟩) z
 have n2:b≠c2:=λq=>z (.inr q);have:=PySem.W.hideAll_none (h:=h) ((List.range h.objs.size).filter λb=>(b0.get? b).isNone&&decide (b≠c2)) (iO.mpr ⟨lZ.mpr (cI e1),by rw[n1];simp[n2]⟩);unfold qt at e;rw[this]at e;cases e
theorem funFrames_base{h b1 b2:Heap}:∀{l:List Env},h.FunFrames b1 l->(∀b∈iA l,b2.get? b=none)->h.FunFrames b2 l
 |[],_,_=>trivial
 |env::r,hl,hn=>by
  obtain⟨hk,⟨L,o,hf,_,ho,hd⟩,hr⟩:=hl;exact⟨hk,⟨L,o,hf,hn L (by unfold iA;rw[r9,hf];exact aZ),ho,hd⟩,funFrames_base hr λb hb=>hn b (by unfold iA;rw[r9,hf];exact bg _ hb)⟩
theorem Inv.rebase{y:Str}{c2:Addr}(I:Inv X pins σ H s)(hfn:X.fn y=true)(hc:X.env.cells.lookup y=some c2):qe X.prog X.w X.K X.mg (qt X.base s.heap c2) X.A X.stack s H:=by
 have up:∀b o,X.base.get? b=some o->(qt X.base s.heap c2).get? b=some o:=λb o e=>F0 (I.bk b o e) (.inl ⟨o,e⟩);obtain⟨v,oc,hoc,xq⟩:=I.cell y c2 hc;refine⟨I.ok.frames,⟨I.mod.kin.keeps up,I.mod.glob.keeps up,?_,I.mod.nolimit.keeps up⟩,λb o e=>?_,wm (PySem.W.hideAll_size _ _),?_,I.Ac,I.aB,I.bare⟩
 .obtain⟨mb,h1,h2⟩:=I.mod.blt
  exact⟨mb,h1.keeps up,h2⟩
 .obtain⟨e1,e2⟩:=NI e
  refine⟨e1,?_⟩;rcases e2 with⟨o',e2⟩|e2
  .exact(I.bs b o' e2).2
  .rw[e2];exact I.iU y c2 hc
 .have st:=I.stack
  refine funFrames_base st λb hb=>?_;obtain⟨n1,_⟩:=st.mem hb;cases q:(qt X.base s.heap c2).get? b with
  |none=>rfl
  |some o'=>
   obtain⟨_,e2⟩:=NI q;rcases e2 with⟨o2,e2⟩|e2
   .rw[n1]at e2;cases e2
   .subst e2
    rcases bq.mp (I.xm b hb)with z|z
    .exact absurd z (I.cne y b hc)
    .obtain⟨_,o3,ho3,_⟩:=I.ok.jh.mem z
     have h1:=cI ho3;have h2:=I.ok.cab y b hfn hc;exact absurd (g7 h1 h2) (l0 _)
theorem W6{y:Str}{j k m:Nat}{f:Addr}{ps:List Str}{sp:Addr->Addr->Sp}{x:Str}{st:Stmt}{p pos:Pos}{e:Expr}{es:List Expr}{t:TA}(hfn:X.fn y=true)(hN:X.N[j]?=some y)(hv:X.env.scope.names.lookup y=some .cell)(At:FnAt X.K X.mg x st ps f)
  (F:∀(b':Heap) (c2 g:Addr),(∀b o,X.base.get? b=some o->b'.get? b=some o)->b'.IsCell c2 (some (.ref g))->cH X.prog X.w X.K X.mg b' eB k f (fdOf X.K f) ps (sp c2 g))(hr:dB m X.A)(ha:PA X (e::es) t)(hj:k<=m:=by decide)(hg:Gl X x:=by rfl)
  (iC:(x==("__debug__":Str))=false:=by decide)(he:starEach (e::es) X.env=(false,eval e X.env)::starEach es X.env:=by rfl)(dS:(backTo pos (starEach es X.env)).any (·.1)=false:=by rfl):
  PE X (.Call (.Name x p) (e::es) [] pos) (λσ H Q=>∃g,σ[j]?=some (some (.ref g))/\t σ H λvs H1=>∀c2,X.env.cells.lookup y=some c2->sp c2 g vs H1 Q E0):=by
 intro pins s σ H Q I h;obtain⟨g,hj',h⟩:=h;refine uD (sU I hg At.gl ?_ iC);refine JI (h₀:=X.base) I.ok.mod.kin At.fn.kp (aQ (ha pos pins s σ H _ I h) λus s1 ⟨vs,H1,I1,r,q⟩=>⟨I1.gx,?_⟩) he dS;obtain⟨c2,dD⟩:=I1.ok.has y (.inl hv);have q:=q c2 dD;obtain⟨mm,_,hl⟩:=I1.loc;obtain⟨u,ru,lk⟩:=hl j y _ hN hj' (.inr (.inl hv));obtain rfl:u=Value.ref g:=ru;have cell:s1.heap.IsCell c2 (some (.ref g)):=by
  rcases lk with⟨z,_⟩|⟨_,c,e1,e2⟩
  .have z:X.env.scope.names.lookup y=some .local:=z
   rw[hv]at z;cases z
  .rw[dD]at e1;cases e1;exact e2
 have up:∀b o,X.base.get? b=some o->(qt X.base s1.heap c2).get? b=some o:=λb o e=>F0 (I1.bk b o e) (.inl ⟨o,e⟩);have W7:(qt X.base s1.heap c2).IsCell c2 (some (.ref g)):=by
  obtain⟨o,h1,h2⟩:=cell;exact⟨o,F0 h1 (.inr rfl),h2⟩
 have G:=F (qt X.base s1.heap c2) c2 g up W7;have hlen:us.length=ps.length:=by rw[<-r.length];exact G.len _ _ _ _ q
 refine wpAny_call (C8 (G.run X.A X.stack s1 H1 ⟨us,[]⟩ us vs Q E0 (hr.mono hj) (I1.rebase hfn dD) (by
  have:=At.bd s1 us I1.gx (by rw[fW];exact hlen);rw[fW]at this;exact this) r q) λr s' hq=>?_)
 cases r with
 |error e=>exact hq.elim
 |ok fl=>
  cases fl with
  |ret u=>exact I1.after hq
  |next=>exact False.elim hq
  |brk=>exact False.elim hq
  |cont=>exact False.elim hq
theorem W8{M:Model}{f:Addr}{h:Heap}(X:∃(o:Obj) (fd:FuncData),h.get? f=some o/\o.data=.func fd):∃k,(k=Keeper.frame\/k=Keeper.machine\/k=Keeper.boundFrame)/\Looks M h (keeperOf (.ref f)) k:=by
 obtain⟨o,fd,h1,h2⟩:=X;refine⟨.frame,.inl rfl,(Looks.ld (part:=none) h1).andThen ?_⟩;show Looks M h (match o.data with| .func _=>_| .cls _=>_| .fields vs=>_|_=>_) _;rw[h2];exact .now
theorem W9{C:Hp->Prop}{k i m:Nat}{f:Addr}{fd:FuncData}{ps:List Str}{sp:Sp}{x:Str}{p pos:Pos}{e:Expr}{es:List Expr}{t:TA}(hC:∀H h,bU X.prog X.w H h->X.K.In h->C H->∃(o:Obj) (fd:FuncData),h.get? f=some o/\o.data=.func fd)
  (F:cH X.prog X.w X.K X.mg X.base eB k f fd ps sp)(hr:dB m X.A)(hN:X.N[i]?=some x)(hv:Vis X.env.scope x)(hb:Binds X.K fd ps [])(ha:PA X (e::es) t)(hj:k<=m:=by decide)
  (iC:(x==("__debug__":Str))=false:=by decide)(fY:(x==("__classdict__":Str))=false:=by decide)(he:starEach (e::es) X.env=(false,eval e X.env)::starEach es X.env:=by rfl)(dS:(backTo pos (starEach es X.env)).any (·.1)=false:=by rfl):
  PE X (.Call (.Name x p) (e::es) [] pos) (λσ H Q=>σ[i]?=some (some (.ref f))/\t σ H λvs H1=>C H1/\sp vs H1 Q E0):=by
 intro pins s σ H Q I h;obtain⟨hi,h⟩:=h;refine uD (g8 (ED hN hv iC fY pins s σ H (λv H'=>v=.ref f/\t σ H' λvs H1=>C H1/\sp vs H1 Q E0) I ⟨_,hi,rfl,h⟩) (λu s1 hu=>?_) λ_ _ z=>z);obtain⟨v,H1,I1,rv,ev,h1⟩:=hu;subst ev;obtain rfl:u=Value.ref f:=rv;rw[he];refine PySem.W.callWith_of (P:=λh=>∃(o:Obj) (fd:FuncData),h.get? f=some o/\o.data=.func fd) (by show((false||(backTo pos (starEach es X.env)).any (·.1))||false)=false;rw[dS];rfl) (λh z=>W8 z) (Calls.evalArgs_plain ?_);have hA:=ha pos pins s1 σ H1 _ I1 h1;rw[he]at hA;refine aQ hA λus s2 ⟨vs,H2,I2,r,q⟩=>⟨hC H2 s2.heap I2.aB I2.gx q.1,?_⟩;refine Aq (fk:=[]) (ds:=[]) F (hr.mono hj) hb .nil fP I2 r ?_;rw[fW];exact q.2
end
def Bm(mg:Str->Option Value)(h:Heap):Prop:=∃bm ob,mg "__builtins__"=some (.ref bm)/\bm≠builtinsNs/\h.get? bm=some ob/\ob.cls=.type "module"/\ob.dict=some builtinsNs/\ob.data=.plain
section
variable{X:Cx}{pins:List (Addr×Obj)}{σ:St}{H:Hp}{s:Shared}
theorem Inv.Xa{h':Heap}{P c':Addr}{ps more:Array Value}{oc fo:Obj}{t:Nat}(I:Inv X pins σ H s)(hP:H P=some (.dU ps))(hx:Heap.ExtBut P s.heap h')(h1:s.heap.objs.size<=c')(h2:c'<h'.objs.size)(hc:h'.get? c'=some oc)(ht:h'.get? P=some (tabObj (ps++more)))(hsz:(h'.push fo).get? h'.objs.size=some fo):
  Inv X pins σ (upd (upd (upd H P (.dU (ps++more))) c' (.dz oc (.own 0))) h'.objs.size (.dz fo (.own 0))) {s with heap:=h'.push fo,toks:=t}:=by
 have fc:H c'=none:=I.aB.fresh h1;have h3:s.heap.objs.size<=h'.objs.size:=aG h1 (zm h2);have ff:H h'.objs.size=none:=I.aB.fresh h3;have pc:P≠c':=fN hP fc;have pf:P≠h'.objs.size:=fN hP ff;have cf:c'≠h'.objs.size:=fT h2;have old:∀b u,H b=some u->b≠P->(upd (upd (upd H P (.dU (ps++more))) c' (.dz oc (.own 0))) h'.objs.size (.dz fo (.own 0))) b=some u:=λb u e n=>by
  rw[aJ (fN e ff),aJ (fN e fc),aJ n];exact e
 have k:∀b o,b≠P->s.heap.get? b=some o->(h'.push fo).get? b=some o:=λb o n e=>cz _ (hx b o n e);have np:∀b u,H b=some u->(∀q,u≠ .dU q)->b≠P:=λb u e n z=>by rw[z,hP]at e;cases e;exact n _ rfl
 refine I.step (g':=s.gens) (d':=s.drawn) (ch:=[]) (λ_ z=>nomatch z) (λb o _ _ _ e n=>k b o (λz=>by rw[z,hP]at n;cases n) e) (λb o _ _ _ e n=>⟨o.slots,k b o (λz=>by rw[z,hP]at n;cases n) e⟩)
  (λb o _ e n=>?_) (λb o _ e=>?_) (λb xs e=>old b _ e (np b _ e λ_ z=>by cases z)) (λb o u e=>old b _ e (np b _ e λ_ z=>by cases z)) (λb qs e=>?_) (λm hm=>?_) (λb u e=>?_) I.bare
 .have l:=cI e
  rw[aJ (fT (g7 l h3)),aJ (fT (g7 l h1)),aJ (λz=>by rw[z,hP]at n;cases n)];exact n
 .by_cases z:b=P
  .exact⟨_,by rw[z];exact cz _ ht⟩
  .exact⟨o,k b o z e⟩
 .by_cases z:b=P
  .rw[z,hP]at e
   cases e;exact⟨more,by rw[z,aJ pf,aJ pc];exact aA⟩
  .exact⟨#[],by rw[old b _ e z];simp⟩
 .have nL:X.env.locals≠P:=λz=>by have:=I.free;rw[z,hP]at this;cases this
  exact(hm.extBut hx nL).push _
 .by_cases z1:b=h'.objs.size
  .subst z1
   rw[aA]at e;cases e;exact⟨hsz,_,hsz⟩
  .rw[aJ z1]at e
   by_cases z2:b=c'
   .subst z2
    rw[aA]at e;cases e;have:=cz fo hc;exact⟨this,_,this⟩
   .rw[aJ z2]at e
    by_cases z3:b=P
    .subst z3
     rw[aA]at e;cases e;exact cz _ ht
    .rw[aJ z3]at e
     refine(I.aB b u e).rm (λc v mw q=>k c v ?_ q) (λc q=>old c _ q (np c _ q λ_ z=>by cases z)) λc xs q=>old c _ q (np c _ q λ_ z=>by cases z);rcases mw with mw|mw
     .rw[mw];exact z3
     .exact np c _ mw λ_ z=>by cases z
theorem Inv.Xc{h':Heap}{fo:Obj}{t:Nat}(I:Inv X pins σ H s)(hk:∀b o,s.heap.get? b=some o->h'.get? b=some o)(hz:s.heap.objs.size<=h'.objs.size)(hsz:(h'.push fo).get? h'.objs.size=some fo):
  Inv X pins σ (upd H h'.objs.size (.dz fo (.own 0))) {s with heap:=h'.push fo,toks:=t}:=
 I.laid (λb u e=>cz _ (hk b u e)) hz ⟨hsz,_,hsz⟩
theorem Xd{params:Arguments}{body:Expr}{scope:Scope}{xV:Pos}{y:Str}{c P:Addr}(NJ:X.env.code=.ref c)(hC:CodeHd X.base c P)(hB:Bm X.mg X.base)(hcl:X.env.scope.names.lookup y=some .cell)(Xe:∀z∈scope.names,z.2=.free->z.1=y)
  (Xf:∀cells:List (Str×Addr),fG cells scope.names []=[(y,(cells.lookup y).getD 0)])(hq:X.env.qual++"<lambda>"=oX)(dS:xV.line=vg)(hpc:xV.col=vh)(Xg:defaultsOf params X.env=([],[]):=by rfl):
  PE X (.Lambda params body scope xV) (λσ H Q=>TabAt P H/\∀(c2:Addr) (H':Hp) (f c':Addr) (pm fm:Value),X.env.cells.lookup y=some c2->Sm H H'->H f=none->qp "<lambda>" oX params body scope [(y,c2)] pm fm c' f H'->Q (.ref f) H'):=by
 intro pins s σ H Q I h;obtain⟨⟨ps,hP,hps⟩,h⟩:=h;obtain⟨c2,dD⟩:=I.ok.has y (.inl hcl);have NK:closureFor scope X.env=pure [(y,c2)]:=by
  rw[E9 (λz hz hf=>by rw[Xe z hz hf];exact⟨c2,dD⟩),Xf,dD];rfl
 have hPo:s.heap.get? P=some (tabObj ps):=I.aB P _ hP;have hg:s.heap.Ns mainGlobals X.mg:=I.mod.glob.keeps I.bk;have hCs:CodeHd s.heap c P:=hC.keeps I.bk;have hgP:mainGlobals≠P:=λe=>by
  obtain⟨o,_,_,ho,_⟩:=I.mod.glob;have:=(I.bs _ _ ho).2;rw[e,hP]at this;cases this
 have hBs:s.heap.BuiltinsAt X.mg P:=by
  obtain⟨bm,ob,b1,b2,b3,b4,b5,b6⟩:=hB;refine⟨bm,ob,b1,b2,λe=>?_,λe=>?_,I.bk _ _ b3,b4,b5,b6⟩
  .obtain⟨o,es,ep,ho,hd,_⟩:=I.mod.glob
   rw[<-e,b3]at ho;cases ho;rw[b6]at hd;cases hd
  .have:=(I.bs _ _ b3).2
   rw[e,hP]at this;cases this
 refine PySem.W.kla_eval Xg ?_;rw[hq];have line:∀c'':Value,(#[]++ #[rawInt xV.line,rawInt xV.col,c'']:Array Value)= #[]++ #[rawInt vg,rawInt vh,c'']:=λc''=>by rw[dS,hpc]
 rcases hps with rfl|⟨c',o,vs,t,rfl,mw,hd,hv⟩
 .refine PySem.W.kla_makeFunction NK I.ok.glob hg NJ hCs hPo trivial rfl hgP hBs λc' fm h' tk hx h1 h2 zO nV=>?_
  obtain⟨c'',oc,vs,t,e,hoc,hd,hv⟩:=zO;cases e;rw[line]at nV;have fc:H c'=none:=I.aB.fresh h1;have h3:s.heap.objs.size<=h'.objs.size:=aG h1 (zm h2);have ff:H h'.objs.size=none:=I.aB.fresh h3;have pc:P≠c':=fN hP fc;have pf:P≠h'.objs.size:=fN hP ff;have cf:c'≠h'.objs.size:=fT h2;refine⟨.ref h'.objs.size,_,Inv.Xa (t:=tk) I hP hx h1 h2 hoc nV (fC _ rfl),rfl,h c2 _ h'.objs.size c' _ fm dD ?_ ff ⟨aA,oc,vs,t,by rw[aJ cf];exact aA,hd,hv⟩⟩;have other:∀b u,H b=some u->b≠P->(upd (upd (upd H P (.dU (#[]++ #[rawInt vg,rawInt vh,.ref c']))) c' (.dz oc (.own 0))) h'.objs.size (.dz (kla_obj "<lambda>" oX params body scope [(y,c2)] ((X.mg "__name__").getD .none) c' fm) (.own 0))) b=some u:=λb u e n=>by
   rw[aJ (fN e ff),aJ (fN e fc),aJ n];exact e
  have atP:(upd (upd (upd H P (.dU (#[]++ #[rawInt vg,rawInt vh,.ref c']))) c' (.dz oc (.own 0))) h'.objs.size (.dz (kla_obj "<lambda>" oX params body scope [(y,c2)] ((X.mg "__name__").getD .none) c' fm) (.own 0))) P=some (.dU (#[]++ #[rawInt vg,rawInt vh,.ref c'])):=by
   rw[aJ pf,aJ pc];exact aA
  refine⟨λb u e _ nt=>?_,λP' z=>?_,λb qs e=>?_,λb u e=>?_⟩
  .exact other b u e λz=>by rw[z,hP]at e;cases e;cases nt
  .obtain⟨ps',z1,z2⟩:=z
   by_cases e:P'=P
   .subst e
    exact⟨_,atP,.inr ⟨c',oc,vs,t,rfl,by rw[aJ cf];exact aA,hd,hv⟩⟩
   .refine⟨ps',other P' _ z1 e,?_⟩
    rcases z2 with z2|⟨d,od,vd,td,z2,z3,z4⟩
    .exact .inl z2
    .exact .inr ⟨d,od,vd,td,z2,other d _ z3 (λw=>by rw[w,hP]at z3;cases z3),z4⟩
  .by_cases e':b=P
   .exact⟨_,by rw[e'];exact atP⟩
   .exact⟨qs,other b _ e e'⟩
  .by_cases e':b=P
   .exact⟨_,by rw[e'];exact atP⟩
   .exact⟨u,other b _ e e'⟩
 .refine PySem.W.kla_makeFunctionHit (cv:=.ref c') NK I.ok.glob hg NJ hCs hPo trivial ?_ hBs λfm h' tk hk hz=>?_
  .simp[codeAmong,rawInt,dS,hpc]
  .have ff:H h'.objs.size=none:=I.aB.fresh hz
   have s1:Sm H (upd H h'.objs.size (.dz (kla_obj "<lambda>" oX params body scope [(y,c2)] ((X.mg "__name__").getD .none) c' fm) (.own 0))):=Sm.new ff;refine⟨.ref h'.objs.size,_,Inv.Xc (t:=tk) I hk hz (fC _ rfl),rfl,h c2 _ h'.objs.size c' _ fm dD s1 ff ⟨aA,o,vs,t,Sm.at s1 mw,hd,hv⟩⟩
end
end L2
namespace PySem
namespace F
theorem NL:Manifest.owners.lookup (String.ofList ['d','e','s','r','e','v','e','r'].reverse)=some Manifest.sig_reversed:=by kernel_rfl
theorem xW:Slot "reversed" "__next__" "reversed.__next__":=
 .of (owner:="reversed") (n:="__next__") (by rw[JR,JS];kernel_rfl) (by decide+kernel) (by decide+kernel) (by decide+kernel)
  (by first|exact .inl (by decide+kernel)|exact .inr (by decide+kernel)) (by rw[Dq];kernel_rfl)
theorem NN:entryFor table "reversed.__next__"=some Builtin.«reversed.__next__»:=entryFor_of_tree (by kernel_rfl)
theorem NO(a:Value):argsOk "reversed.__next__" ⟨[a],[]⟩:=by
 unfold argsOk;rw[signature?_of (id:="reversed.__next__") (n:=['_','_','t','x','e','n','_','_']) (o:=['d','e','s','r','e','v','e','r']) (by kernel_rfl) NL];kernel_rfl
theorem NP:Slot "reversed" "__iter__" "reversed.__iter__":=
 .of (owner:="reversed") (n:="__iter__") (by rw[JR,JS];kernel_rfl) (by decide+kernel) (by decide+kernel) (by decide+kernel)
  (by first|exact .inl (by decide+kernel)|exact .inr (by decide+kernel)) (by rw[Dq];kernel_rfl)
theorem Xh(a:Value):argsOk "reversed.__iter__" ⟨[a],[]⟩:=by
 unfold argsOk;rw[signature?_of (id:="reversed.__iter__") (n:=['_','_','r','e','t','i','_','_']) (o:=['d','e','s','r','e','v','e','r']) (by kernel_rfl) NL];kernel_rfl
theorem Xi:entryFor table "reversed.__iter__"=some Builtin.«dict_keyiterator.__iter__»:=
 entryFor_alias (id':="dict_keyiterator.__iter__") (by kernel_rfl) (by first|rfl|decide+kernel|(unfold String.splitOn;simp+decide [String.splitOnAux])) (by decide+kernel) (by kernel_rfl)
theorem Xj:Slot "reversed" "__init__" "object.__init__":=
 .of (owner:="object") (n:="__init__") (by rw[JR,JS];kernel_rfl) (by decide+kernel) (by decide+kernel) (by decide+kernel)
  (by first|exact .inl (by decide+kernel)|exact .inr (by decide+kernel)) (by rw[Dq];kernel_rfl)
theorem Xk:TypeCalled "reversed" "reversed.__new__" "object.__init__":=
 ⟨by decide+kernel,by decide+kernel,⟨_,_,mro_reversed⟩,made_reversed,by decide+kernel,by rw[Dq];kernel_rfl,Xj⟩
theorem Xl:typeLookup (.type "tuple") "__reversed__"=pure none:=by rw[JR,JS];kernel_rfl
theorem tuple_dict:isSubtype (.type "tuple") (.type "dict")=pure false:=by rw[Dq];kernel_rfl
end F
def F1(l:Addr)(i:Int):Obj:={cls:=.type "reversed",data:=.fields #[.ref l,rawInt i]}
def Heap.xX(h:Heap)(a l:Addr)(i:Int):Prop:=h.get? a=some (F1 l i)
section
variable{prog:Program}{w:World}{A:Around}{E:Value->Shared->Prop}{s:Shared}
theorem Xm(t:Addr)(items:Array Value)(hz:(items.size:Int)<2^63):Meets (Builtin.«reversed.__new__» ⟨[.type "reversed",.ref t],[]⟩) (λ_ R s=>PyProof.Rows.IsTup s.heap t items/\R (.ok (.ret (.ref s.heap.objs.size))) {s with heap:=s.heap.push (F1 t ((items.size:Int)-1)),toks:=s.toks+1+1}):=
 .of_wp λprog w A R s h=>by
  obtain⟨ht,h⟩:=h;have tyT:s.TypeIs (.ref t) "tuple":=ht.typeIs;unfold Builtin.«reversed.__new__»;refine ao (sf (newClass_reversed _) ?_)
  try dsimp only
  refine ao (sf (a:=()) (by first|rfl|kernel_rfl) ?_);refine ao (sf (a:=()) (by first|rfl|kernel_rfl) ?_)
  try dsimp only
  refine ao (Df tyT F.Xl ?_)
  try dsimp only
  refine ao ?_;show wpAny _ _ (isInstance (.ref t) (.type "dict")>>=_) _ _ s;refine ao (JP tyT F.tuple_dict ?_);simp only[wA,qN];refine ao (Df tyT Dc.lookup ?_)
  try dsimp only
  refine bu ?_;rw[ai (by simp)];refine ao (PyProof.Rows.len_tuple ht hz ?_);refine ao (sf (a:=some (items.size:Int)) (by first|rfl|simp[asInt?]) ?_);dsimp only;refine ao ?_;show wpAny _ _ (newObj (.type "reversed") (.fields #[.ref t,rawInt ((items.size:Int)-1)])) _ _ _;exact l5 (bu ⟨_,rfl,h⟩) (by size_fits)
theorem Xn{t:Addr}{items:Array Value}{Q:Value->Shared->Prop}(hz:(items.size:Int)<2^63)(ht:PyProof.Rows.IsTup s.heap t items)(h:Q (.ref s.heap.objs.size) {s with heap:=s.heap.push (F1 t ((items.size:Int)-1)),toks:=s.toks+1+1}):
  wpAny (model prog w) A (call (.type "reversed") [.ref t]) Q E s:=
 callType_new F.Xk (by decide) (F.typeCall_reversed_1 _) (F.newCall_reversed_1 _) (λobj=>F.args_object_init_2 obj _) F.entry_reversed_new (Xm t items hz) ⟨ht,⟨_,fC _ rfl,rfl⟩,h⟩
theorem NQ{it t:Addr}{i:Int}{Q:Value->Shared->Prop}(hit:s.heap.xX it t i)(h:Q (.ref it) s):wpAny (model prog w) A (pyIter (.ref it)) Q E s:=by
 have ty:s.TypeIs (.ref it) "reversed":=⟨_,hit,rfl⟩;refine wpAny_pyIter_slot ty F.NP (uE F.NP ty F.Xi ?_ (F.Xh _));show wpAny _ _ (ret (.ref it)) _ _ s;exact bu ⟨_,rfl,"reversed",_,ty,F.xW.lookup,h⟩
theorem Xo{it t:Addr}{i:Nat}{items:Array Value}{x:Value}{Q:Option Value->Shared->Prop}(hz:(items.size:Int)<2^63)(hit:s.heap.xX it t (i:Int))(ht:PyProof.Rows.IsTup s.heap t items)(hx:items[i]?=some x)
  (hQ:∀h' tk,h'.xX it t ((i:Int)-1)->Heap.SameBut it s.heap h'->Q (some x) {s with heap:=h',toks:=tk}):wpAny (model prog w) A (pyNext (.ref it)) Q E s:=by
 have ty:s.TypeIs (.ref it) "reversed":=⟨_,hit,rfl⟩;have hi:i<items.size:=by
  rcases Dn.mp hx with⟨h,_⟩;exact h
 unfold pyNext;refine ao (Dk (wo (name:=Str.ofString "__next__") ty F.xW (uE F.xW ty F.NN ?_ (F.NO _))));unfold Builtin.«reversed.__next__»;refine ao (sf (a:=(Value.ref it,[])) rfl ?_)
 try dsimp only
 refine ao (gE hit rfl (x:=.ref t) rfl ?_);refine ao (gE hit rfl (x:=rawInt (i:Int)) rfl ?_);show wpAny _ _ (if(i:Int)<0 then _ else _) _ _ s;rw[ai (by omega)];refine ao (Df ht.typeIs Dc.lookup ?_);simp only[Option.isNone_some,wA,qN];refine ao (wpAny_mkInt ?_);refine ao (Dk (PyProof.Rows.getItem_tuple (j:=i) (x:=x) ht (by omega) (by omega) ?_ hx ?_))
 .exact JJ (by omega) (by omega)
 .dsimp only
  refine ao (gE (s:={s with toks:=s.toks+1}) hit rfl (x:=rawInt (i:Int)) rfl ?_);show wpAny _ _ (setField (.ref it) 1 (rawInt ((i:Int)-1))>>=_) _ _ _;refine ao (uH (s:={s with toks:=s.toks+1}) hit rfl (by simp) ?_);refine bu ⟨x,rfl,bu (hQ _ _ ?_ (Dh ..))⟩;show Heap.get? _ it=_;rw[uF _ hit (Dg (uI rfl _))];rfl
theorem Xp{it t:Addr}{Q:Option Value->Shared->Prop}(hh:A.handled=none)(hit:s.heap.xX it t (-1))
  (hQ:∀h',Heap.ExtBut it s.heap h'->Q none {s with heap:=h'}):wpAny (model prog w) A (pyNext (.ref it)) Q E s:=by
 have ty:s.TypeIs (.ref it) "reversed":=⟨_,hit,rfl⟩;unfold pyNext;refine ao (Dk (wo (name:=Str.ofString "__next__") ty F.xW (uE F.xW ty F.NN ?_ (F.NO _))));unfold Builtin.«reversed.__next__»;refine ao (sf (a:=(Value.ref it,[])) rfl ?_)
 try dsimp only
 refine ao (gE hit rfl (x:=.ref t) rfl ?_);refine ao (gE hit rfl (x:=rawInt (-1)) rfl ?_);show wpAny _ _ (if(-1:Int)<0 then _ else _) _ _ s;rw[aj (by decide)];refine ao (wpAny_rule ?_);refine ao ?_;show wpAny _ _ (setField (.ref it) 1 (rawInt (-1))>>=λ_=>setField (.ref it) 0 .none) _ _ _;refine ao (uH hit rfl (by simp) ?_);refine uH (uF _ hit (Dg (uI rfl _))) (uI rfl _) (by simp) ?_;refine ao ?_;show wpAny _ _ (newExc (.type "StopIteration") []>>=_) _ _ _;refine ao ?_;simp only[newExc,newTuple];refine ao (l5 ?_ (by size_fits));refine ao (m:=firstArgMember _ _) (sf (a:=Value.none) (by first|rfl|(simp only[firstArgMember];rfl)) ?_);refine l5 ?_ (by size_fits);simp only[raiseNew];refine ao (wpAny_handled ?_)
 first|rw[show A.in1.handled=none from hh]|rw[hh]
 refine ao (bu (wpAny_throw ?_));refine ao (JP (T:="StopIteration") (b:=true) ⟨_,fC _ rfl,rfl⟩ isSubtype_stop ?_);exact bu (hQ _ ((((Dh ..).extBut.trans (Dh ..).extBut).push _).push _))
end
end PySem
namespace L2
open PySem PySem.Spec PyProof.Rows
def xY(K:Frag)(a:Addr)(n:Nat):It:=
 ⟨λi H=>i<n/\∃(xs:List V) (x:V),aM K H a xs/\xs[n-1-i]?=some x,λi H x H'=>H'=H/\∀xs,aM K H a xs->xs[n-1-i]?=some x,λi _=>n<=i⟩
theorem Xq{P:Program}{w:World}{K:Frag}{tg:Expr}(a it:Addr)(n:Nat):Turn P w K tg (xY K a n) [it] it (λi h=>i<=n/\h.xX it a ((n:Int)-1-(i:Nat))) where
 mem:=by simp
 obj:=λi h st b hb=>by
  have e:b=it:=by simpa using hb
  subst e;obtain⟨_,e⟩:=st;exact⟨_,e,λv z=>by cases z⟩
 keep:=λi h h' st k=>⟨st.1,k it (by simp) _ st.2⟩
 item:=by
  intro X hP hw hK hc i pins s σ H E I hf st hg;subst hP hw hK;obtain⟨hin,xs,x,hq,hx⟩:=hg;obtain⟨ah,rv,p,hz⟩:=I.tuple hq;obtain⟨u,hu,ru⟩:=rv.get hx;obtain⟨f0,f1,f2,f3,f4,f5⟩:=hf it (by simp);obtain⟨_,hit⟩:=st;have e1:(n:Int)-1-((i:Nat):Int)=((n-1-i:Nat):Int):=by omega
  rw[e1]at hit;have hn:=sX;have hl:=rv.length;refine Xo (items:=ah.toArray) (by rw[cO];omega) hit p (x:=u) (by simpa using hu) λh' tk ko sb=>?_;have e2:((n-1-i:Nat):Int)-1=(n:Int)-1-((i+1:Nat):Int):=by omega
  rw[e2]at ko;have I1:Inv X pins σ H {s with heap:=h',toks:=tk}:=I.turned (t':=tk) (λb o hb e=>(sb.2 b hb).trans e) f0 f1 f3 f4 f5;exact⟨u,rfl,Aj (s:={s with heap:=h',toks:=tk}) ko rfl rfl (by decide) ⟨x,H,I1,ru,⟨rfl,λys hy=>by rw[I.EE hy hq];exact hx⟩,⟨hin,ko⟩,λb hb=>(hf b hb).1⟩⟩
 done:=by
  intro X hP hw hK hc i pins s σ H E I hf st hg;subst hP hw hK;obtain⟨f0,f1,f2,f3,f4,f5⟩:=hf it (by simp);obtain⟨hin,hit⟩:=st;have hge:n<=i:=hg;have e1:(n:Int)-1-((i:Nat):Int)= -1:=by omega
  rw[e1]at hit;exact Xp (I.ok.hd hc) hit λh' eb=>⟨rfl,I.turned (t':=s.toks) (λb o hb e=>eb b o hb e) f0 f1 f3 f4 f5⟩
 self:=λA i s Q E st h=>NQ st.2 h
def NR(K:Frag)(ta:TA):TI:=λσ H R=>ta σ H λvs H1=>∃(a:Addr) (xs:List V),vs=[.ref a]/\aM K H1 a xs/\R (xY K a xs.length) H1
section
variable{X:Cx}{tg:Expr}
theorem Xr{e:Expr}{ta:TA}{p pos:Pos}(hg:Gl X "reversed")(hm:X.mg "reversed"=none)(ha:PA X [e] ta)(hs:starEach [e] X.env=[(false,eval e X.env)]:=by rfl):PI X tg (.Call (.Name "reversed" p) [e] [] pos) (NR X.K ta):=by
 intro pins s σ H R I h;refine Call_ (uU I hg hm Wc (C7 (aQ (ha pos pins s σ H _ I h) λus s1 ⟨vs,H1,I1,r1,q1⟩=>?_) hs rfl));obtain⟨a,xs,e,hq,q⟩:=q1;subst e;cases r1 with
 |cons r rr=>
  cases rr;cases r;obtain⟨ah,rv,p',hz⟩:=I1.tuple hq;have hl:=rv.length;have hn:=sX;have e1:((ah.toArray.size:Nat):Int)-1=(xs.length:Int)-1-((0:Nat):Int):=by simp only[cO];omega
  refine Xn (items:=ah.toArray) (by rw[cO];omega) p' (NQ (t:=a) (i:=((ah.toArray.size:Nat):Int)-1) (fC _ rfl) ?_);refine Wd (tk:=s1.toks+1+1) I1 _ (Xq a _ xs.length) ⟨cM _,?_⟩ q;rw[<-e1];exact fC _ rfl
theorem Xs{α:Type}{K:Frag}{g:TG}{tb:TS}{D:Ends}{σ:L2.St}{H Hb:Hp}{R:Rep α}{ms:List α}{v:V}(mR:Mn R)(hv:bH R Hb v ms)(sb:Sm Hb H)(Pv:Nat->L2.St->Hp->Prop)(h0:Pv 0 σ H)(hS:∀i σ H,Pv i σ H->Sm Hb H)
  (hs:∀i x m σ H,i<ms.length->ms[ms.length-1-i]?=some m->R H x m->Pv i σ H->g x σ H λσ2 H2=>tb {D with nx:=Pv (i+1),ct:=Pv (i+1),bk:=D.nx} σ2 H2)(hd:∀σ H,Pv ms.length σ H->D.nx σ H):
  ∃(a:Addr) (xs:List V),[v]=[.ref a]/\aM K H a xs/\∃W:Nat->Nat->L2.St->Hp->Prop,(∃m,W 0 m σ H)/\∀i m σ H,W i m σ H->
   ((xY K a xs.length).stop i H/\D.nx σ H)\/((xY K a xs.length).go i H/\∃N:L2.St->Hp->Prop,(∀σ' H',N σ' H'->∃m',m'<m/\W (i+1) m' σ' H')/\∀x H',(xY K a xs.length).nI i H x H'->g x σ H' λσ2 H2=>tb {D with nx:=N,ct:=N,bk:=D.nx} σ2 H2):=by
 obtain⟨a,us,rfl,ha,hp⟩:=hv;have hl:=eW hp;refine⟨a,us,rfl,aM.of (Sm.at sb ha),λi m σ H=>m=us.length-i/\i<=us.length/\Pv i σ H,⟨us.length,by simp,cM _,h0⟩,?_⟩;rintro i m σ H ⟨rfl,hi,p⟩;have q:aM K H a us:=aM.of (Sm.at (hS i σ H p) ha);by_cases aR:i<us.length
 .have hx:us[us.length-1-i]?=some (us[us.length-1-i]'(by omega)):=bO (by omega)
  refine .inr ⟨⟨aR,us,_,q,hx⟩,Pv (i+1),λσ' H' p'=>⟨us.length-(i+1),by omega,rfl,aR,p'⟩,λx H' y=>?_⟩;obtain⟨e,y⟩:=y;subst e;obtain⟨m,hm,r⟩:=ql hp (y us q);rw[hl]at hm;exact hs i x m σ _ (by omega) hm (mR _ _ _ _ (hS i σ _ p) r) p
 .have e:i=us.length:=by omega
  subst e;exact .inl ⟨aF _,hd σ H (by rw[<-hl];exact p)⟩
end
end L2
namespace PySem
section
variable{prog:Program}{w:World}{A:Around}{E:Value->Shared->Prop}{s:Shared}
section
variable{R:Result->Shared->Prop}{I S:Addr}{fp wr:List Addr}{P:Nat->Value->Prop}{St:Nat->Heap->Prop}
theorem NS(W:Walks prog w A.in1 I fp wr 2 P St)(hSf:S∉fp){s:Shared}{v:Value}{c:Nat}(dj:St 2 s.heap)(hS:s.heap.get? S=some {cls:=.type "list",dict:=none,data:=.seq #[v,v] c,slots:= #[]})
  (hR:∀h' tk,(∀b o,b∉wr->b≠S->s.heap.get? b=some o->h'.get? b=some o)->R (.ok (.ret v)) {s with heap:=h',toks:=tk}):
  codeAny (model prog w) A (.builtin "min.loop" ⟨[.ref I,.none,.ref S],[]⟩) R s:=by
 have hSw:S∉wr:=λh=>hSf (W.sub _ h);refine RO RP ?_;rw[RQ wC _];show wpAny _ A.in1 (seqItems? (.ref S)>>=_) _ _ s;refine ao (zw hS rfl ?_);show wpAny _ A.in1 (tryCatch (pyNext (.ref I)) _>>=_) _ _ s;refine ao (JT (W.done s _ _ dj λh' tk jV=>?_));have hS':=jV S _ hSw hS;show wpAny _ A.in1 (updateSeq S (λ_=> #[])>>=_) _ _ _;refine ao ?_;refine JQ hS' rfl (ao (Dj (bu ?_)));exact hR _ tk λb o lI mT e=>(nj _ _ (cS mT)).trans (jV b o lI e)
theorem Xu(W:Walks prog w A.in1 I fp wr 2 P St)(hSf:S∉fp){s:Shared}{va vb:Value}{r:Bool}{c:Nat}(dj:St 1 s.heap)(hPb:∀v,P 1 v->v=vb)(hS:s.heap.get? S=some {cls:=.type "list",dict:=none,data:=.seq #[va,va] c,slots:= #[]})
  (xZ:∀(h':Heap) (tk:Tok) (Q:Value->Shared->Prop) (E:Value->Shared->Prop),(∀b o,b∉wr->b≠S->s.heap.get? b=some o->h'.get? b=some o)->Q (.bool r) {s with heap:=h',toks:=tk}->wpAny (model prog w) A.in1 (richCompare .Lt vb va) Q E {s with heap:=h',toks:=tk})
  (hR:∀h' tk,(∀b o,b∉wr->b≠S->s.heap.get? b=some o->h'.get? b=some o)->R (.ok (.ret (if r then vb else va))) {s with heap:=h',toks:=tk}):
  codeAny (model prog w) A (.builtin "min.loop" ⟨[.ref I,.none,.ref S],[]⟩) R s:=by
 have hSw:S∉wr:=λh=>hSf (W.sub _ h);have vm:(toString "min"++toString ".loop":String)="min.loop":=by decide
 refine RO RP ?_;rw[RQ wC _];show wpAny _ A.in1 (seqItems? (.ref S)>>=_) _ _ s;refine ao (zw hS rfl ?_);show wpAny _ A.in1 (tryCatch (pyNext (.ref I)) _>>=_) _ _ s;refine ao (JT (W.item 1 s _ _ (by decide) dj λv h' tk hP AW jV=>?_));obtain rfl:=hPb v hP;have hS':=jV S _ hSw hS;show wpAny _ A.in1 (tryCatch (holding [v,v] (richCompare .Lt v va>>=_)) _>>=_) _ _ _;refine ao (JT (zo (ao (xZ h' tk _ _ (λb o hw _ e=>jV b o hw e) ?_))));refine ao (zo (uC ?_));refine ao (Dj (bu ?_));cases r with
 |true=>
  simp only[pM];refine ao ?_;refine JQ hS' rfl (ao (Dj ?_));rw[vm];refine bu ⟨JU wC _,NS (v:=v) W hSf (W.frame _ _ _ AW λb hbf o e=>?_) (uF _ hS' rfl) λgV tL tM=>?_⟩
  .exact(nj _ _ (λh:S=b=>hSf (by rw[h];exact hbf))).trans e
  .exact hR gV tL λb o lI mT e=>tM b o lI mT ((nj _ _ (cS mT)).trans (jV b o lI e))
 |false=>
  simp only[wA,qN];refine ao (Dj ?_);rw[vm];refine bu ⟨JU wC _,NS (v:=va) W hSf AW hS' λgV tL tM=>?_⟩;exact hR gV tL λb o lI mT e=>tM b o lI mT (jV b o lI e)
theorem Xv(W:Walks prog w A.in1 I fp wr 2 P St)(hSf:S∉fp){s:Shared}{va vb:Value}{r:Bool}{c:Nat}(dj:St 0 s.heap)(hPa:∀v,P 0 v->v=va)(hPb:∀v,P 1 v->v=vb)(hS:s.heap.get? S=some {cls:=.type "list",dict:=none,data:=.seq #[] c,slots:= #[]})
  (xZ:∀(h':Heap) (tk:Tok) (Q:Value->Shared->Prop) (E:Value->Shared->Prop),(∀b o,b∉wr->b≠S->s.heap.get? b=some o->h'.get? b=some o)->Q (.bool r) {s with heap:=h',toks:=tk}->wpAny (model prog w) A.in1 (richCompare .Lt vb va) Q E {s with heap:=h',toks:=tk})
  (hR:∀h' tk,(∀b o,b∉wr->b≠S->s.heap.get? b=some o->h'.get? b=some o)->R (.ok (.ret (if r then vb else va))) {s with heap:=h',toks:=tk}):
  codeAny (model prog w) A (.builtin "min.loop" ⟨[.ref I,.none,.ref S],[]⟩) R s:=by
 have hSw:S∉wr:=λh=>hSf (W.sub _ h);have vm:(toString "min"++toString ".loop":String)="min.loop":=by decide
 refine RO RP ?_;rw[RQ wC _];show wpAny _ A.in1 (seqItems? (.ref S)>>=_) _ _ s;refine ao (zw hS rfl ?_);show wpAny _ A.in1 (tryCatch (pyNext (.ref I)) _>>=_) _ _ s;refine ao (JT (W.item 0 s _ _ (by decide) dj λv h' tk hP AW jV=>?_));obtain rfl:=hPa v hP;have hS':=jV S _ hSw hS;show wpAny _ A.in1 (updateSeq S (λ_=> #[v,v])>>=_) _ _ _;refine ao ?_;refine JQ hS' rfl ?_;rw[vm];refine bu ⟨JU wC _,Xu (va:=v) (vb:=vb) (r:=r) W hSf (W.frame _ _ _ AW λb hbf o e=>?_) hPb (uF _ hS' rfl) (λgV tL Q E tM hq=>xZ gV tL Q E (λb o lI mT e=>tM b o lI mT ((nj _ _ (cS mT)).trans (jV b o lI e))) hq) λgV tL tM=>?_⟩
 .exact(nj _ _ (λh:S=b=>hSf (by rw[h];exact hbf))).trans e
 .exact hR gV tL λb o lI mT e=>tM b o lI mT ((nj _ _ (cS mT)).trans (jV b o lI e))
end
theorem Xw{a b:Value}{r:Bool}{Q:Value->Shared->Prop}(hh:A.handled=none)
  (xZ:∀(h':Heap) (tk:Tok) (Q:Value->Shared->Prop) (E:Value->Shared->Prop),(∀c o,s.heap.get? c=some o->h'.get? c=some o)->Q (.bool r) {s with heap:=h',toks:=tk}->wpAny (model prog w) A.in1 (richCompare .Lt b a) Q E {s with heap:=h',toks:=tk})
  (h:∀h' tk,(∀c o,s.heap.get? c=some o->h'.get? c=some o)->Q (if r then b else a) {s with heap:=h',toks:=tk}):
  wpAny (model prog w) A (call (.builtin "min") [a,b]) Q E s:=by
 have vm:(toString "min"++toString ".loop":String)="min.loop":=by decide
 refine call_function_tree F.kind_min F.plain_min F.entry_min (F.args_min2 _ _) ?_;show wpAny _ A.in1 (Builtin.Builtins.bindParams "min" ["key","default"] 0 ⟨[],[]⟩>>=_) _ _ s;refine ao (sf (show Builtin.Builtins.bindParams "min" ["key","default"] 0 ⟨[],[]⟩=pure [none,none]from rfl) ?_);show wpAny _ A.in1 (newTuple [a,b]>>=_) _ _ s;refine ao (l5 ?_);have hT:(s.heap.push {cls:=.type "tuple",data:=.seq #[a,b]}).IsTuple s.heap.objs.size #[a,b]:=⟨_,fC _ rfl,rfl,0,rfl⟩;have hsz:(s.heap.push {cls:=.type "tuple",data:=.seq #[a,b]}).objs.size=s.heap.objs.size+1:=jw ..;refine ao (JG hT ?_);have W:=Walks.tuple (prog:=prog) (w:=w) (A:=A.in1) hh (s.heap.push {cls:=.type "tuple",data:=.seq #[a,b]}).objs.size s.heap.objs.size (by rw[hsz];exact fT (JH _)) #[a,b];refine ao (l5 ?_);rw[vm];have old:∀c o,s.heap.get? c=some o->(((s.heap.push {cls:=.type "tuple",data:=.seq #[a,b]}).push {cls:=.type "tuple_iterator",data:=.fields #[.ref s.heap.objs.size,rawInt 0]}).push {cls:=.type "list",data:=.seq #[]}).get? c=some o:=λc o e=>cz _ (cz _ (cz _ e));have z2:((s.heap.push {cls:=.type "tuple",data:=.seq #[a,b]}).push {cls:=.type "tuple_iterator",data:=.fields #[.ref s.heap.objs.size,rawInt 0]}).objs.size=s.heap.objs.size+2:=by rw[jw,hsz]
 have keep:∀(h':Heap),(∀b' o,b'∉[(s.heap.push {cls:=.type "tuple",data:=.seq #[a,b]}).objs.size]->b'≠((s.heap.push {cls:=.type "tuple",data:=.seq #[a,b]}).push {cls:=.type "tuple_iterator",data:=.fields #[.ref s.heap.objs.size,rawInt 0]}).objs.size->(((s.heap.push {cls:=.type "tuple",data:=.seq #[a,b]}).push {cls:=.type "tuple_iterator",data:=.fields #[.ref s.heap.objs.size,rawInt 0]}).push {cls:=.type "list",data:=.seq #[]}).get? b'=some o->h'.get? b'=some o)->∀c o,s.heap.get? c=some o->h'.get? c=some o:=λh' k c o e=>by
  have l:=cI e;refine k c o ?_ ?_ (old c o e)
  .rw[hsz];intro m
   have:c=s.heap.objs.size+1:=by simpa using m
   rw[this]at l;exact absurd l (by show¬s.heap.objs.size+1<s.heap.objs.size;omega)
  .rw[z2];intro m
   rw[m]at l;exact absurd l (by show¬s.heap.objs.size+2<s.heap.objs.size;omega)
 refine bu ⟨JU wC _,Xv (va:=a) (vb:=b) (r:=r) W ?_ ?_ ?_ ?_ (fC _ rfl) (λh' tk Q E k hq=>xZ h' tk Q E (keep h' k) hq) λh' tk k=>h h' tk (keep h' k)⟩
 .intro m
  have m':s.heap.objs.size+2∈[s.heap.objs.size+1,s.heap.objs.size]:=by rw[<-z2,<-hsz];exact m
  simp at m'
 .exact⟨⟨_,cz _ (fC _ rfl),rfl,rfl⟩,(hT.push _).push _⟩
 .intro v hv
  simpa using hv.symm
 .intro v hv
  simpa using hv.symm
end
end PySem
namespace HT
open PySem PyProof.Rows
section
open PySem.SeqAt
open PySem.AutoSeq1 (wpAny_loadPart')
open PySem.MeetsSeq PySem.MeetsSeq2 PySem.MeetsSeq3
inductive tN(A:Around)(s:Shared):List (Value×Value)->Option Bool->Prop
 |nil:tN A s [] none
 |eq {x y:Value} {rest:List (Value×Value)} {o:Option Bool}:SeqAt.EqAt A s x y true->tN A s rest o->tN A s ((x,y)::rest) o
 |ne {x y:Value} {rest:List (Value×Value)} {r:Bool}:SeqAt.EqAt A s x y false->(∀(prog:Program) (w:World) (E:Value->Shared->Prop) (Q:Value->Shared->Prop),Q (.bool r) s->wpAny (model prog w) A (richCompare .Lt x y) Q E s)->tN A s ((x,y)::rest) (some r)
theorem Xx(l b:Addr)(items gT:Array Value)(n n2:Nat)(dd mH:Option Addr)(sl mJ:Array (Option Value))(o:Option Bool):
  Meets (Builtin.«tuple.__lt__» ⟨[.ref l,.ref b],[]⟩)
   (λA R s=>s.heap.get? l=some {cls:=.type "tuple",dict:=dd,data:=.seq items n,slots:=sl}/\s.heap.get? b=some {cls:=.type "tuple",dict:=mH,data:=.seq gT n2,slots:=mJ}/\
    tN A.in1 s (items.toList.zip gT.toList) o/\R (.ok (.ret (.bool (o.getD (decide (items.size<gT.size)))))) s):=
 .of_wp λprog w A R s h=>by
  obtain⟨hp,g,d,tk,os⟩:=s;obtain⟨hl,hb,hc,h⟩:=h;have f2:=RC
  wp_walk using wpAny_loadPart' hl,wpAny_loadPart' hb,RD _ (λrest b s'=>b.1=none/\s'=⟨hp,g,d,tk,os⟩/\∃o',tN A.in1 ⟨hp,g,d,tk,os⟩ rest o'/\R (.ok (.ret (.bool (o'.getD (decide (items.size<gT.size)))))) ⟨hp,g,d,tk,os⟩) _
  case turn=>
   rintro⟨y,x⟩ rest b s' ⟨jl,rfl,o',nK,hR⟩;cases nK with
   |eq he nK=>
    refine ao (he prog w _ _ ?_)
    wp_walk
    exact⟨rfl,rfl,o',nK,hR⟩
   |ne he aR=>
    refine ao (he prog w _ _ ?_);have hri:=aR prog w
    wp_walk using hri
    exact⟨_,rfl,by simpa using hR⟩
  case fin=>
   rintro⟨b1,b2⟩ s' ⟨jl,rfl,o',nK,hR⟩;simp only at jl;subst jl;cases nK
   wp_walk
   exact⟨_,rfl,by simpa[Builtin.Tuple.tupleCompareSizes]using hR⟩
  case h=>
   exact⟨rfl,rfl,o,hc,h⟩
end
section
variable{prog:Program}{w:World}{A:Around}{E:Value->Shared->Prop}{s:Shared}
theorem F2{l b:Addr}{items gT:Array Value}{o:Option Bool}{Q:Value->Shared->Prop}(hl:IsTup s.heap l items)(hb:IsTup s.heap b gT)(hu:A.units<cLine)(hc:tN A.in1 s (items.toList.zip gT.toList) o)
  (h:Q (.bool (o.getD (decide (items.size<gT.size)))) s):wpAny (model prog w) A (richCompare .Lt (.ref l) (.ref b)) Q E s:=by
 obtain⟨⟨cls,dd,data,sl⟩,ho,hc1,n,hd⟩:=id hl;obtain⟨⟨Me,mH,data2,mJ⟩,ho2,dD,n2,hd2⟩:=id hb;simp only at hc1 hd dD hd2;subst hc1 hd dD hd2;exact richCompare_meets_room (op:=.Lt) ⟨_,ho,rfl⟩ ⟨_,ho2,rfl⟩ abV abW (abX _ _) (Xx l b items gT n n2 dd mH sl mJ o)
  ⟨ho,ho2,hc,show Value.bool _≠Value.notImplemented/\Q (.bool _) s from⟨(λx=>nomatch x),h⟩⟩ hu
end
end HT
namespace PySem
mutual
def x9:PyData->Int
 | .int i=>hashInt i
 | .tuple ds=>reduceHash (Builtin.Tuple.tupleHashOf (ya ds))
 |_=>0
def ya:List PyData->List Int
 |[]=>[]
 |d::ds=>x9 d::ya ds
end
mutual
def yb:PyData->Nat
 | .int _=>1
 | .tuple ds=>AX ds+1
 |_=>0
def AX:List PyData->Nat
 |[]=>0
 |d::ds=>yb d+AX ds
end
mutual
def cJ:PyData->Bool
 | .int _=>true
 | .tuple ds=>i6 ds
 |_=>false
def i6:List PyData->Bool
 |[]=>true
 |d::ds=>cJ d&&i6 ds
end
mutual
def kD:PyData->Nat
 | .tuple ds=>jG ds+1
 |_=>0
def jG:List PyData->Nat
 |[]=>0
 |d::ds=>max (kD d) (jG ds)
end
section
variable{prog:Program}{w:World}{E:Value->Shared->Prop}
mutual
theorem NT:∀(d:PyData) (v:Value) (as:List Addr) (A:Around) (s:Shared) (Q:Int->Shared->Prop),cJ d=true->Reads s.heap v d as->A.units+kD d<cLine->Q (x9 d) {s with toks:=s.toks+yb d}->wpAny (model prog w) A (pyHash v) Q E s
 | .int i,_,_,A,s,Q,_,x,_,h=>by cases x;exact wpAny_pyHash_int h
 | .tuple ds,_,_,A,s,Q,hk,x,hu,h=>by
  cases x with
  | @tuple a o vs n _ _ hg hc hd hw=>
   refine PySem.W.pyHash_slot (T:="tuple") ⟨_,hg,hc⟩ F.slot_tuple_hash F.entry_tuple_hash (F.args_tuple_hash_1 _) (beq_builtin_none _) (.inr (by omega)) ?_;show wpAny _ _ (Builtin.Tuple.tupleItemsOf (.ref a)>>=_) _ _ s;refine ao (wpAny_tupleItemsOf hg hd ?_);refine ao ?_;rw[<-Array.forIn_toList];refine NU ds vs.toList _ A.in1 s #[] _ (by simpa[cJ]using hk) hw (by simp only[kD,Around.in1_units]at hu⊢;omega) λb hb=>?_;show wpAny _ _ (retInt (Builtin.Tuple.tupleHashOf b.toList)) _ _ _;rw[hb];refine ao (wpAny_mkInt (bu ⟨_,_,rfl,?_⟩));simp only[yb,x9]at h;simpa[zg]using h
 | .none,_,_,_,_,_,hk,_,_,_=>by simp[cJ]at hk
 | .bool _,_,_,_,_,_,hk,_,_,_=>by simp[cJ]at hk
 | .str _,_,_,_,_,_,hk,_,_,_=>by simp[cJ]at hk
 | .list _,_,_,_,_,_,hk,_,_,_=>by simp[cJ]at hk
 | .dict _,_,_,_,_,_,hk,_,_,_=>by simp[cJ]at hk
theorem NU:∀(ds:List PyData) (vs:List Value) (as:List Addr) (A:Around) (s:Shared) (b:Array Int) (Q:Array Int->Shared->Prop),i6 ds=true->ReadsAll s.heap vs ds as->A.units+jG ds<cLine->
  (∀b',b'.toList=b.toList++ya ds->Q b' {s with toks:=s.toks+AX ds})->
  wpAny (model prog w) A (forIn vs b λx r=>do let h <-pyHash x;pure PUnit.unit;pure (ForInStep.yield (r.push h))) Q E s
 |[],_,_,A,s,b,Q,_,x,_,h=>by cases x;exact bu (h b (by simp[ya]))
 |d::ds,_,_,A,s,b,Q,hk,x,hu,h=>by
  cases x with
  |cons x1 x2=>
   simp only[i6,cV,jG]at hk hu;rw[List.forIn_cons];refine ao (ao (NT d _ _ A s _ hk.1 x1 (by omega) ?_));refine ao (bu (bu ?_));exact NU ds _ _ A {s with toks:=s.toks+yb d} _ Q hk.2 x2 (by omega) λb' hb=>by
    have:=h b' (by simp[hb,ya]);simpa[AX,zg]using this
end
mutual
theorem NV:∀(d:PyData) (v:Value) (as:List Addr) (n:Nat) (A:Around) (s:Shared) (Q:Bool->Shared->Prop),cJ d=true->kD d<=n->Reads s.heap v d as->Q true s->wpAny (model prog w) A (eqIsQuiet n v) Q E s
 | .int i,_,_,n,A,s,Q,_,_,x,h=>by
  cases x;rw[eqIsQuiet_byValue n rfl];exact bu h
 | .tuple ds,_,_,0,A,s,Q,_,hn,_,_=>by simp[kD]at hn
 | .tuple ds,_,_,n+1,A,s,Q,hk,hn,x,h=>by
  cases x with
  | @tuple a o vs m _ _ hg hc hd hw=>
   have hT:s.TypeIs (.ref a) "tuple":=⟨_,hg,hc⟩;unfold eqIsQuiet;refine ao (Df hT F.slot_tuple_eq.lookup ?_);show wpAny _ _ (isInstance (.ref a) (.type "tuple")>>=_) _ _ s;refine ao (JP hT isSubtype_tuple_tuple ?_);simp only[Bool.not_true,wA,qN];refine ao (zw hg hd ?_);refine ao ?_;show wpAny _ _ (forIn vs _ _) _ _ s;rw[<-Array.forIn_toList];refine RD _ (λrest r s'=>r.1=none/\s'=s/\∃ds' as',i6 ds'=true/\jG ds'<=n/\(∀d∈ds',d∈ds)/\ReadsAll s.heap rest ds' as') _ ?_ ?_ _ _ ⟨rfl,rfl,ds,_,by simpa[cJ]using hk,by simpa[kD]using hn,λ_ z=>z,hw⟩
   .rintro v rest r s' ⟨hr,rfl,ds',as',h1,h2,u9,h3⟩
    cases h3 with
    | @cons _ _ d0 ds0 _ _ x1 x2=>
     simp only[i6,cV,jG]at h1 h2;have iW:=u9 d0 aZ;refine ao (NV d0 v _ n A s' _ h1.1 (by omega) x1 ?_);simp only[Bool.not_true,wA,qN];exact bu ⟨rfl,rfl,_,_,h1.2,by omega,λd hd=>u9 d (bg _ hd),x2⟩
   .rintro⟨r1,r2⟩ s' ⟨hr,rfl,_⟩
    simp only at hr;subst hr;exact bu h
 | .none,_,_,_,_,_,_,hk,_,_,_=>by simp[cJ]at hk
 | .bool _,_,_,_,_,_,_,hk,_,_,_=>by simp[cJ]at hk
 | .str _,_,_,_,_,_,_,hk,_,_,_=>by simp[cJ]at hk
 | .list _,_,_,_,_,_,_,hk,_,_,_=>by simp[cJ]at hk
 | .dict _,_,_,_,_,_,_,hk,_,_,_=>by simp[cJ]at hk
end
end
mutual
theorem vn:∀d:PyData,cJ d=true->d.canLay0=true
 | .int i,_=>rfl
 | .tuple ds,h=>by
  show PyData.canLayAll0 ds=true;exact NW ds (by simpa[cJ]using h)
 | .none,h=>by simp[cJ]at h
 | .bool _,h=>by simp[cJ]at h
 | .str _,h=>by simp[cJ]at h
 | .list _,h=>by simp[cJ]at h
 | .dict _,h=>by simp[cJ]at h
theorem NW:∀ds:List PyData,i6 ds=true->PyData.canLayAll0 ds=true
 |[],_=>rfl
 |d::ds,h=>by
  simp only[i6,cV]at h;show(d.canLay0&&PyData.canLayAll0 ds)=true;rw[vn d h.1,NW ds h.2];rfl
end
mutual
theorem AY:∀d:PyData,cJ d=true->d.depth=kD d
 | .int i,_=>rfl
 | .tuple ds,h=>by
  show PyData.depthAll ds+1=jG ds+1;rw[NX ds (by simpa[cJ]using h)]
 | .none,h=>by simp[cJ]at h
 | .bool _,h=>by simp[cJ]at h
 | .str _,h=>by simp[cJ]at h
 | .list _,h=>by simp[cJ]at h
 | .dict _,h=>by simp[cJ]at h
theorem NX:∀ds:List PyData,i6 ds=true->PyData.depthAll ds=jG ds
 |[],_=>rfl
 |d::ds,h=>by
  simp only[i6,cV]at h;show max d.depth (PyData.depthAll ds)=max (kD d) (jG ds);rw[AY d h.1,NX ds h.2]
end
mutual
theorem AZ{h h':Heap}(hk:∀b o vs n,h.get? b=some o->o.data=.seq vs n->h'.get? b=some o):∀{v:Value} {d:PyData} {as:List Addr},Reads h v d as->cJ d=true->Reads h' v d as
 |_,_,_,.int i t,_=>.int i t
 |_,_,_,.tuple ho hc hd hw,q=>.tuple (hk _ _ _ _ ho hd) hc hd (NY hk hw (by simpa[cJ]using q))
 |_,_,_,.none,q=>by simp[cJ]at q
 |_,_,_,.bool _,q=>by simp[cJ]at q
 |_,_,_,.str _ _,q=>by simp[cJ]at q
 |_,_,_,.list _ _ _ _,q=>by simp[cJ]at q
 |_,_,_,.dict _ _ _ _ _,q=>by simp[cJ]at q
theorem NY{h h':Heap}(hk:∀b o vs n,h.get? b=some o->o.data=.seq vs n->h'.get? b=some o):∀{vs:List Value} {ds:List PyData} {as:List Addr},ReadsAll h vs ds as->i6 ds=true->ReadsAll h' vs ds as
 |_,_,_,.nil,_=>.nil
 |_,_,_,.cons r rr,q=>by
  simp only[i6,cV]at q;exact .cons (AZ hk r q.1) (NY hk rr q.2)
end
abbrev i7:=Int×List (List Int)
def fH(ns:List Int):PyData:=.tuple (ns.map .int)
def iH(k:i7):PyData:=.tuple [.int k.1,.tuple (k.2.map fH)]
theorem F3:∀ns:List Int,i6 (ns.map .int)=true/\jG (ns.map .int)=0
 |[]=>⟨rfl,rfl⟩
 |n::ns=>by
  have ih:=F3 ns;refine⟨by rw[cD,i6,ih.1];rfl,?_⟩;rw[cD,jG,ih.2];rfl
theorem qu(ns:List Int):cJ (fH ns)=true/\kD (fH ns)=1:=⟨by rw[fH,cJ];exact(F3 ns).1,by rw[fH,kD,(F3 ns).2]⟩
theorem NZ:∀l:List (List Int),i6 (l.map fH)=true/\jG (l.map fH)<=1
 |[]=>⟨rfl,by rw[zq,jG];omega⟩
 |x::l=>by
  have ih:=NZ l;have e:=qu x;refine⟨by rw[cD,i6,ih.1,e.1];rfl,?_⟩;rw[cD,jG,e.2];omega
theorem qv(k:i7):cJ (iH k)=true/\kD (iH k)<=3:=by
 have e:=NZ k.2;refine⟨?_,?_⟩
 .simp only[iH,cJ,i6,e.1,wD]
 .simp only[iH,kD,jG]
  omega
theorem N1:∀ns ms:List Int,PyData.eqvAll (ns.map .int) (ms.map .int)=decide (ns=ms)
 |[],[]=>by simp[PyData.eqvAll]
 |[],m::ms=>by simp[PyData.eqvAll]
 |n::ns,[]=>by simp[PyData.eqvAll]
 |n::ns,m::ms=>by
  have ih:=N1 ns ms;simp only[cD,PyData.eqvAll,PyData.eqv,ih];by_cases h1:n=m
  .by_cases h2:ns=ms<;>simp[h1,h2]
  .simp[h1]
theorem F4(ns ms:List Int):PyData.eqv (fH ns) (fH ms)=decide (ns=ms):=by
 simp only[fH,PyData.eqv];exact N1 ns ms
theorem N2:∀l m:List (List Int),PyData.eqvAll (l.map fH) (m.map fH)=decide (l=m)
 |[],[]=>by simp[PyData.eqvAll]
 |[],m::ms=>by simp[PyData.eqvAll]
 |n::ns,[]=>by simp[PyData.eqvAll]
 |n::ns,m::ms=>by
  have ih:=N2 ns ms;simp only[cD,PyData.eqvAll,F4,ih];by_cases h1:n=m
  .by_cases h2:ns=ms<;>simp[h1,h2]
  .simp[h1]
theorem F5(x y:i7):PyData.eqv (iH x) (iH y)=decide (x=y):=by
 simp only[iH,PyData.eqv,PyData.eqvAll,N2];obtain⟨a,l⟩:=x;obtain⟨b,m⟩:=y;by_cases h1:a=b
 .by_cases h2:l=m<;>simp[h1,h2]
 .simp[h1]
theorem Xy{x y:i7}(h:iH x=iH y):x=y:=by
 have e:=F5 x y;have e2:=F5 y y;rw[h,e2,cT rfl]at e;exact Dm e.symm
def A0(prog:Program)(w:World):HeapKind prog w i7 where
 is:=λh k a=>∃as,Reads h (.ref a) (iH k) as
 hash:=λk=>x9 (iH k)
 draws:=λk=>yb (iH k)
 room:=λA=>A.units+4<cLine
 inj:=λ⟨as,r⟩ ⟨bs,r'⟩=>Xy (PyProof.Rows.reads_det (λb o e _=>e) r' r).1
 keeps:=λ⟨as,r⟩ ho hd hs=>⟨as,AZ (λb o' vs n e mq=>(hs.2 b (λz=>by
  subst z;rw[e]at ho;cases ho;rw[hd]at mq;cases mq)).trans e) r (qv _).1⟩
 pyHash:=λ{A E s k a Q} hu ⟨as,r⟩ h=>NT (iH k) _ as A s Q (qv k).1 r (by have:=(qv k).2;omega) h
 eqBool:=λ{A E s x y a b Q} hu ⟨as,r⟩ ⟨bs,r'⟩ h=>by
  have e:=RL (iH x) (iH y) A s _ _ _ _ r r' (vn _ (qv x).1) (vn _ (qv y).1) (by
   have:=(qv x).2;have:=AY _ (qv x).1;omega)
  rw[F5]at e;exact e prog w E Q h
 quiet:=λ{A E s k a Q} ⟨as,r⟩ h=>NV (iH k) _ as 8 A s Q (qv k).1 (by have:=(qv k).2;omega) r h
end PySem
namespace L2
open PySem PySem.Spec PyProof.Rows
def yc(d:Addr)(xs:List (i7×Addr×Value)):Heap->Prop:=λh=>
 (d==sysModules)=false/\xs.length<=sizeLine/\∃o es ep,h.get? d=some o/\o.ExactDict/\o.data=.dict es ep/\es.toList=xs.map (λx=>(⟨x9 (iH x.1),.ref x.2.1,x.2.2⟩:DictEntry))/\(xs.map (·.1)).Nodup
def rKey:Rep i7:=mQ dG (bH (bH dG))
structure fJ(H:Hp)(d:Addr)(ks:List i7):Prop where
 ex:∃xs,H d=some (.ext (yc d xs))/\xs.map (·.1)=ks/\∀x∈xs,rKey H (.ref x.2.1) x.1
theorem Xz:Mn rKey:=xT i0 (jE (jE i0))
theorem N3:Ls rKey:=Nz Nv (Ny (Ny Nv))
section
variable{X:Cx}{pins:List (Addr×Obj)}{σ:St}{H:Hp}{s:Shared}
theorem N4{K:Frag}:∀{vs:List V} {ns:List Int},Paired (dG H) vs ns->oV K H vs (ns.map .int)
 |_,_,.nil=>.nil
 |_,_,.cons r t=>by rw[show _=V.int _ from r];exact .cons (.int _) (N4 t)
theorem A1{K:Frag}{v:V}{ns:List Int}(h:bH dG H v ns):Dp K H v (fH ns):=by
 obtain⟨a,vs,rfl,h1,h2⟩:=h;exact .tup (aM.of h1) (N4 h2)
theorem N5{K:Frag}:∀{vs:List V} {l:List (List Int)},Paired (bH dG H) vs l->oV K H vs (l.map fH)
 |_,_,.nil=>.nil
 |_,_,.cons r t=>.cons (A1 r) (N5 t)
theorem XA{K:Frag}{v:V}{k:i7}(h:rKey H v k):Dp K H v (iH k):=by
 obtain⟨a,u,w,rfl,h1,h2,b,vs,rfl,h3,h4⟩:=h;rw[show u=V.int _ from h2]at h1;exact .tup (aM.of h1) (.cons (.int _) (.cons (.tup (aM.of h3) (N5 h4)) .nil))
theorem key_is(I:Inv X pins σ H s){b:Addr}{k:i7}(h:rKey H (.ref b) k):(A0 X.prog X.w).is s.heap k b:=Dp.reads I (iH k) (.ref b) (.ref b) (XA h) rfl
theorem fJ.of(I:Inv X pins σ H s){d:Addr}{ks:List i7}(h:fJ H d ks):∃xs,H d=some (.ext (yc d xs))/\xs.map (·.1)=ks/\(∀x∈xs,rKey H (.ref x.2.1) x.1)/\(d==sysModules)=false/\xs.length<=sizeLine/\s.heap.DictOfH (A0 X.prog X.w) d xs:=by
 obtain⟨xs,h1,h2,h3⟩:=h.ex;obtain⟨⟨p1,p2,o,es,ep,p3,p4,p5,p6,p7⟩,_,_⟩:=I.aB d _ h1;exact⟨xs,h1,h2,h3,p1,p2,o,es,ep,p3,p4,p5,p6,λx hx=>key_is I (h3 x hx),p7⟩
theorem N6{xs:List (i7×Addr×Value)}{k:i7}:(atKey xs k).isSome=decide (k∈xs.map (·.1)):=by
 unfold atKey;rw[Option.isSome_map,m9,List.find?_isSome,nh,bG];constructor
 .rintro⟨x,hx,e⟩
  exact⟨x,hx,Dm e⟩
 .rintro⟨x,hx,e⟩
  exact⟨x,hx,cT e⟩
def XC:R2:=λx y H Q=>∃d b ks k,y=.ref d/\x=.ref b/\fJ H d ks/\rKey H (.ref b) k/\Q (.bl (!decide (k∈ks))) H
theorem XD(hu:X.A.units+64<cLine):eG X (compareOp .NotIn) XC:=by
 intro pins s σ H x y v u Q I rx ry h;obtain⟨d,b,ks,k,rfl,rfl,hd,hk,q⟩:=h;cases rx;cases ry;obtain⟨xs,_,e2,_,p1,_,dd⟩:=hd.of I;refine wpAny_notIn_heap (knd:=A0 X.prog X.w) (show X.A.units+1+4<cLine by omega) (key_is I hk) p1 dd ?_;rw[N6,e2];exact⟨.bl _,H,I.tok _,rfl,q⟩
def XE:V->V->V->Hp->(Hp->Prop)->Prop:=λo i v H Q=>∃d b ks k c,o=.ref d/\i=.ref b/\v=.bl c/\fJ H d ks/\rKey H (.ref b) k/\k∉ks/\ks.length<sizeLine/\∀φ,fJ (upd H d (.ext φ)) d (ks++[k])->Q (upd H d (.ext φ))
theorem XF(hu:X.A.units+64<cLine):EG X XE:=by
 intro pins s σ H o i v ov iv u Q I ro ri rv h;obtain⟨d,b,ks,k,c,rfl,rfl,rfl,hd,hk,hn,hl,q⟩:=h;cases ro;cases ri;cases rv;obtain⟨xs,h1,e2,h3,p1,p2,dd⟩:=hd.of I;have none_:atKey xs k=none:=by
  have:=N6 (xs:=xs) (k:=k);rw[e2,bZ hn]at this;cases z:atKey xs k with
  |none=>rfl
  |some _=>rw[z]at this;cases this
 refine wpAny_setItem_heap (knd:=A0 X.prog X.w) (hsz:=p2) (show X.A.units+1+4<cLine by omega) (key_is I hk) dd λh' dd' hs=>?_;rw[storedH_new none_]at dd';obtain⟨o,es,ep,hq,h4,h5,h6,_,h7⟩:=dd';have hlen:xs.length=ks.length:=by rw[<-e2,aK]
 have st:∀φ:HO,∀x:i7×Addr×Value,rKey H (.ref x.2.1) x.1->rKey (upd H d φ) (.ref x.2.1) x.1:=λφ x z=>N3 H d _ φ _ _ h1 (λys z=>by cases z) z;refine⟨_,?_,q (yc d (xs++[(k,b,.bool c)])) ⟨xs++[(k,b,.bool c)],aA,by rw[qK,e2];rfl,λx hx=>?_⟩⟩
 .refine I.write (x:=d) (e:=d) (by rw[h1];trivial) (.inl rfl) (λb' o' hb e=>(hs.2 b' hb).trans e) ⟨o,hq⟩ ?_
  refine⟨⟨p1,by rw[aX];show xs.length+1<=_;omega,o,es,ep,hq,h4,h5,h6,h7⟩,⟨o,hq⟩,λh1' h2' ⟨a1,a2,o',es',ep',a3,a4⟩ kk=>⟨a1,a2,o',es',ep',kk _ a3,a4⟩⟩
 .rcases eZ.mp hx with z|z
  .exact st _ x (h3 x z)
  .have e:x=(k,b,.bool c):=by simpa using z
   rw[e];exact st _ (k,b,.bool c) hk
def XG:TE:=λ_ H Q=>∀p φ,H p=none->fJ (upd H p (.ext φ)) p []->Q (.ref p) (upd H p (.ext φ))
theorem XH{P:Program}{w:World}{H:Hp}(h:Heap)(hb:sysModules<h.objs.size):fD P w H (h.push {cls:=.type "dict",data:=.dict #[]}) h.objs.size (.ext (yc h.objs.size [])):=
 ⟨⟨ni.mpr (cS (fT hb)),cM _,_,#[],0,fC _ rfl,⟨rfl,rfl,rfl⟩,rfl,rfl,RN⟩,⟨_,fC _ rfl⟩,λh1' h2' ⟨a1,a2,o',es',ep',a3,a4⟩ kk=>⟨a1,a2,o',es',ep',kk _ a3,a4⟩⟩
theorem XI{pos:Pos}:PE X (.Dict [] [] pos) XG:=λpins s σ H Q I h=>
 wpAny_Dict_empty ⟨.ref s.heap.objs.size,_,I.laid (a:=s.heap.objs.size) (o:=.ext (yc s.heap.objs.size [])) (t':=s.toks) (λ_ _ q=>cz _ q) (aF _) (XH s.heap I.big),rfl,
  h _ _ (I.aB.fresh (aF _)) ⟨[],aA,rfl,λx hx=>by simp at hx⟩⟩
def nW(p q:Int×List Int):Bool:=if p.1=q.1 then HT.lexLt p.2 q.2 else decide (p.1<q.1)
theorem N7:∀l:List Int,HT.lexLt l l=false
 |[]=>rfl
 |x::l=>by rw[HT.Ma,aj rfl];exact N7 l
def F6:Rep (Int×List Int):=mQ dG (bH dG)
@[irreducible] def A2:List V->Hp->VK->Prop:=λvs H Q=>∃u v p q,vs=[u,v]/\F6 H u p/\F6 H v q/\Q (if nW q p then v else u) H
theorem XJ(hc:X.calm=true)(hu:X.A.units+80<cLine):kr X (.builtin "min") A2:=by
 unfold A2;intro pins s σ H xs us Q I r h;obtain⟨u,v,p,q,rfl,hp,hq,k⟩:=h;obtain⟨wu,wv,rfl,ru,rv⟩:=vals2 r;obtain⟨a,au,aw,rfl,a1,a2,b,bs,rfl,b1,b2⟩:=hp;obtain⟨c,cu,cw,rfl,c1,c2,d,ds,rfl,d1,d2⟩:=hq;cases ru;cases rv;rw[show au=V.int _ from a2]at a1;rw[show cu=V.int _ from c2]at c1;obtain⟨ia,ra,ta,_⟩:=I.tuple (aM.of a1);obtain⟨ib,rb,tb,_⟩:=I.tuple (aM.of b1);obtain⟨ic,rc,tc,_⟩:=I.tuple (aM.of c1);obtain⟨id_,rd,td,_⟩:=I.tuple (aM.of d1);obtain⟨x1,x2,rfl,⟨t1,rfl⟩,rx2⟩:=vals2 ra;obtain⟨y1,y2,rfl,⟨t2,rfl⟩,ry2⟩:=vals2 rc;cases rx2;cases ry2;have iB:IntsAre ib.toArray.toList p.2:=intsAre_of (by rw[<-paired_ints b2];simpa using rb);have iD:IntsAre id_.toArray.toList q.2:=intsAre_of (by rw[<-paired_ints d2];simpa using rd);have rdB:=Dp.reads I (fH p.2) (.ref b) (.ref b) (A1 ⟨b,bs,rfl,b1,b2⟩) rfl;have rdD:=Dp.reads I (fH q.2) (.ref d) (.ref d) (A1 ⟨d,ds,rfl,d1,d2⟩) rfl;obtain⟨asB,rdB⟩:=rdB;obtain⟨asD,rdD⟩:=rdD;refine Xw (r:=nW q p) (I.ok.hd hc) (λh' tk Q' E' kk jT=>?_) λh' tk kk=>⟨_,H,I.kept kk,?_,k⟩
 .have kt:∀{x:Addr} {ah:Array Value},IsTup s.heap x ah->IsTup h' x ah:=λz=>z.keeps kk
  have XM:Reads h' (.ref b) (fH p.2) asB:=AZ (λb o _ _ e _=>kk b o e) rdB (qu _).1;have XN:Reads h' (.ref d) (fH q.2) asD:=AZ (λb o _ _ e _=>kk b o e) rdD (qu _).1;have e1:SeqAt.EqAt X.A.in1.in1 {s with heap:=h',toks:=tk} (.int q.1 t2) (.int p.1 t1) (q.1==p.1):=RB _ _ _ _;have e2:SeqAt.EqAt X.A.in1.in1 {s with heap:=h',toks:=tk} (.ref d) (.ref b) (decide (q.2=p.2)):=by
   have z:=RL (fH q.2) (fH p.2) X.A.in1.in1 {s with heap:=h',toks:=tk} _ _ _ _ XN XM (vn _ (qu _).1) (vn _ (qu _).1) (by
    have:=AY _ (qu q.2).1;have:=(qu q.2).2;show X.A.units+1+1+min _ _<cLine;omega)
   rw[F4]at z;exact z
  by_cases h1:q.1=p.1
  .have jO:SeqAt.EqAt X.A.in1.in1 {s with heap:=h',toks:=tk} (.int q.1 t2) (.int p.1 t1) true:=by
    rw[show true=(q.1==p.1)by rw[h1];exact(oq _).symm];exact e1
   by_cases h2:q.2=p.2
   .rw[cT h2]at e2
    refine HT.F2 (o:=none) (kt tc) (kt ta) (show X.A.units+1<cLine by omega) (.eq jO (.eq e2 .nil)) ?_;have:nW q p=false:=by unfold nW;rw[aj h1,h2];exact N7 _
    rw[this]at jT;simpa using jT
   .rw[bZ h2]at e2
    refine HT.F2 (o:=some (HT.lexLt q.2 p.2)) (kt tc) (kt ta) (show X.A.units+1<cLine by omega) (.eq jO (.ne e2 λprog w E Q z=>?_)) ?_
    .exact HT.Vp (s:={s with heap:=h',toks:=tk}) (kt td) (kt tb) iD iB (show X.A.units+1+1<cLine by omega) z
    .have:nW q p=HT.lexLt q.2 p.2:=by unfold nW;rw[aj h1]
     rw[this]at jT;exact jT
  .have jO:SeqAt.EqAt X.A.in1.in1 {s with heap:=h',toks:=tk} (.int q.1 t2) (.int p.1 t1) false:=by
    rw[show false=(q.1==p.1)by simpa using h1];exact e1
   refine HT.F2 (o:=some (decide (q.1<p.1))) (kt tc) (kt ta) (show X.A.units+1<cLine by omega) (.ne jO λprog w E Q z=>HT.Mb _ _ _ _ _ _ prog w E Q z) ?_;have:nW q p=decide (q.1<p.1):=by unfold nW;rw[ai h1]
   rw[this]at jT;exact jT
 .cases nW q p<;>rfl
end
end L2
namespace GP
open Vaglrb (allIn aloneIn counted cyclicSet endless firstOf fits followOf growIn growPairs growing hasEnd keptNons keptRules leads leastAnswer leftKinds leftPairs leftReach lessText longest newNon newSym nonsIn nullable onNon productive productiveRules rangesOf setOf shownRanges symNull toInts toNats trimmed unnulled useful usefulRules variants waysIn)
open Vaglrc (flatGrammar flatRule flatSym)
open PySem PySem.Spec PyProof.Rows L2
open Vaglrc (Sym Rule Grammar)
open GS
variable{k j n i:Nat}{X:Cx}{f:Nat->List Int}{ps:List Str}{x:Str}{st:List (List Nat)}{p:Nat×Nat×List Sym}{y:Sym}{r:Rule}{g:Grammar}{bs:List Bool}{l kept:List Nat}{v u:V}{a b C h D dx d:Addr}{c:List (List Int)}{σ:L2.St}{H H' H0:Hp}{ex as:List Addr}{vs xs:List V}{Q:VK}{fd:FuncData}{ys:List Sym}{fs:List (Str×V)}{ns:List Int}
def adr(mg:Str->Option Value)(x:Str):Addr:=match mg x with
 |some (.ref a)=>a
 |_=>0
def dX(K:Frag)(C:Addr)(m:Str):Addr:=match PySem.W.findIn K (.ref C) m with
 |some (some (.ref a))=>a
 |_=>0
structure yd(K:Frag)(mg:Str->Option Value)(x qual:Str)(st:Stmt)(ps:List Str):Prop where
 cls:mD K (adr mg x)
 mk_:Mk K (adr mg x) (dX K (adr mg x) "__init__")
 fn:mL K "__init__" qual st (dX K (adr mg x) "__init__") (fdOf K (dX K (adr mg x) "__init__"))
 bd:Binds K (fdOf K (dX K (adr mg x) "__init__")) ps []
 gl:mg x=some (.ref (adr mg x))
structure F7(K:Frag)(mg:Str->Option Value)(x:Str):Prop where
 gl:mg x=some (.ref (adr mg x))
 ex:PySem.W.excIn K (adr mg x) bmE "Exception.__new__"=true
def top(i:Nat):Stmt:=PySem.Challenge.pw_grammarsight_s01_answers.main.body.getD i (.Pass ⟨0,0,0,0⟩)
abbrev F8:Stmt:=inClass (top 4) 0
abbrev F9:Stmt:=inClass (top 5) 0
abbrev Ga:Stmt:=top 6
abbrev A3:Stmt:=top 7
abbrev A4:Stmt:=top 8
abbrev Gd:Stmt:=top 9
abbrev Ge:Stmt:=top 11
abbrev A5:Stmt:=top 13
abbrev A6:Stmt:=top 14
abbrev vo:Stmt:=top 16
abbrev A7:Stmt:=top 17
abbrev A8:Stmt:=top 18
abbrev Gf:Stmt:=top 19
abbrev Gg:Stmt:=top 20
abbrev A9:Stmt:=top 21
abbrev Ba:Stmt:=top 22
abbrev Gh:Stmt:=top 23
abbrev Bb:Stmt:=top 24
abbrev Bc:Stmt:=top 25
abbrev Bd:Stmt:=top 26
abbrev Gi:Stmt:=top 27
abbrev Be:Stmt:=top 28
abbrev Gj:Stmt:=top 30
abbrev Gk:Stmt:=top 31
abbrev Gm:Stmt:=top 36
abbrev Bf:Stmt:=top 37
abbrev Bg:Stmt:=top 38
abbrev Gn:Stmt:=top 39
abbrev Bh:Stmt:=top 40
abbrev Gp:Stmt:=top 41
abbrev Bj:Stmt:=top 42
abbrev Gq:Stmt:=top 43
abbrev Gr:Stmt:=top 45
abbrev ye:Stmt:=top 46
abbrev Gs:Stmt:=top 47
abbrev Gu:Stmt:=top 48
abbrev Bk:Stmt:=top 49
abbrev Bl:Stmt:=top 50
abbrev Gv:Stmt:=top 51
abbrev Gw:Stmt:=top 53
abbrev Gx:Stmt:=top 54
abbrev Bo:Stmt:=top 55
abbrev Bp:Stmt:=top 56
abbrev Gy:Stmt:=top 57
abbrev Gz:Stmt:=inClass (top 59) 0
abbrev GA:Stmt:=inClass (top 59) 1
abbrev GB:Stmt:=inClass (top 59) 2
abbrev GC:Stmt:=inClass (top 59) 3
abbrev GD:Stmt:=top 66
abbrev GF:Stmt:=top 67
abbrev Bq:Stmt:=top 68
abbrev Br:Stmt:=top 69
abbrev GG:Stmt:=top 70
abbrev GH:Stmt:=top 74
abbrev Bt:Stmt:=top 75
abbrev Bu:Stmt:=top 76
abbrev GI:Stmt:=top 79
abbrev GJ:Stmt:=top 80
abbrev GK:Stmt:=top 81
abbrev GL:Stmt:=top 82
abbrev Bv:Stmt:=top 84
abbrev GN:Stmt:=top 85
abbrev Bw:Stmt:=top 86
abbrev Bx:Stmt:=top 87
abbrev GO:Stmt:=inClass (top 103) 0
abbrev BA:Stmt:=top 104
abbrev BB:Stmt:=top 105
abbrev yf:Stmt:=top 106
abbrev yg:Stmt:=top 107
abbrev GQ:Stmt:=top 108
abbrev BC:Stmt:=top 109
abbrev BD:Stmt:=top 110
abbrev BE:Stmt:=top 111
abbrev BF:Stmt:=top 112
abbrev BG:Stmt:=top 113
abbrev BH:Stmt:=top 114
abbrev BI:Stmt:=top 115
abbrev BJ:Stmt:=top 116
abbrev tP:Stmt:=top 119
abbrev GR:Stmt:=top 120
structure Txt(K:Frag)(mg:Str->Option Value):Prop where
 yh:∃t,mg "NONTERMINAL"=some (.int (0) t)
 N8:∃t,mg "RANGE"=some (.int (1) t)
 rG:∃t,mg "START"=some (.int (0) t)
 XO:∃t,mg "DIRECTLY"=some (.int (1) t)
 XQ:∃t,mg "HIDDENLY"=some (.int (2) t)
 XR:∃t,mg "THROUGH_OTHERS"=some (.int (4) t)
 XS:∃t,mg "MOST_NONTERMINALS"=some (.int (20) t)
 N9:∃t,mg "MOST_RULES"=some (.int (60) t)
 XT:∃t,mg "MOST_SYMBOLS"=some (.int (8) t)
 Oa:∃t,mg "GREATEST_BYTE"=some (.int (255) t)
 XU:∃t,mg "MOST_WAYS"=some (.int (256) t)
 XW:∃t,mg "LONGEST_TOLD"=some (.int (64) t)
 lJ:∃t,mg "DONE"=some (.int (0) t)
 XX:∃t,mg "NOT_PRODUCTIVE"=some (.int (1) t)
 XY:∃t,mg "NEGATIVE_NUMBER"=some (.int (-1) t)
 XZ:∃t,mg "NO_GRAMMAR_ROW"=some (.int (-2) t)
 BK:∃t,mg "NO_SUCH_NONTERMINAL"=some (.int (-4) t)
 Ob:∃t,mg "NO_SUCH_CHOICE"=some (.int (-5) t)
 Oc:∃t,mg "TOO_GREAT"=some (.int (-6) t)
 X0:∃t,mg "NO_TEXT"=some (.int (0) t)
 X3:∃t,mg "FINITELY_MANY"=some (.int (1) t)
 X4:∃t,mg "INFINITELY_MANY"=some (.int (2) t)
 GU:∃t,mg "LOAD"=some (.int (0) t)
 X5:∃t,mg "LAST_SET"=some (.int (6) t)
 Od:∃t,mg "TAKE_TRIMMED"=some (.int (0) t)
 X6:∃t,mg "TAKE_FULL"=some (.int (1) t)
 Oe:mg "all"=none
 BL:mg "any"=none
 vp:mg "enumerate"=none
 jY:mg "len"=none
 Of:mg "list"=none
 Og:mg "max"=none
 X7:mg "min"=none
 jZ:mg "range"=none
 X8:mg "reversed"=none
 X9:mg "sorted"=none
 Oh:mg "sum"=none
 Oi:mg "tuple"=none
 mU:FnAt K mg "is_nonterminal" Ga ["symbol"] (adr mg "is_nonterminal")
 BN:FnAt K mg "nonterminals_among" A3 ["symbols"] (adr mg "nonterminals_among")
 GV:FnAt K mg "ranges_among" A4 ["symbols"] (adr mg "ranges_among")
 GW:FnAt K mg "others_beside" Gd ["symbols","place"] (adr mg "others_beside")
 BO:FnAt K mg "settled" Ge ["begin","size","rules","improved"] (adr mg "settled")
 rH:FnAt K mg "led_to" A5 ["steps","begin"] (adr mg "led_to")
 GX:FnAt K mg "returning_marks" A6 ["steps"] (adr mg "returning_marks")
 BP:FnAt K mg "settled_marks" vo ["size","rules","symbols_suffice"] (adr mg "settled_marks")
 rI:FnAt K mg "all_hollow" A7 ["symbols","hollow"] (adr mg "all_hollow")
 yi:FnAt K mg "all_productive" A8 ["symbols","productive"] (adr mg "all_productive")
 qw:FnAt K mg "hollow_marks" Gf ["grammar"] (adr mg "hollow_marks")
 vq:FnAt K mg "productive_marks" Gg ["grammar"] (adr mg "productive_marks")
 vt:FnAt K mg "productive_rules" A9 ["grammar"] (adr mg "productive_rules")
 BQ:FnAt K mg "some_growing" Ba ["symbols","growing"] (adr mg "some_growing")
 BR:FnAt K mg "growing_marks" Gh ["grammar"] (adr mg "growing_marks")
 GY:FnAt K mg "nonterminal_steps" Bb ["size","rules"] (adr mg "nonterminal_steps")
 BS:FnAt K mg "reachable_marks" Bc ["grammar"] (adr mg "reachable_marks")
 tQ:FnAt K mg "useful_marks" Bd ["grammar"] (adr mg "useful_marks")
 GZ:FnAt K mg "useful_rule_numbers" Gi ["grammar"] (adr mg "useful_rule_numbers")
 vv:FnAt K mg "useful_rules" Be ["grammar"] (adr mg "useful_rules")
 BU:FnAt K mg "joined_ranges" Gj ["ranges"] (adr mg "joined_ranges")
 G0:FnAt K mg "told_ranges" Gk ["ranges"] (adr mg "told_ranges")
 BV:FnAt K mg "leading_symbols" Gm ["symbols","hollow"] (adr mg "leading_symbols")
 G1:FnAt K mg "left_ways" Bf ["grammar"] (adr mg "left_ways")
 yj:FnAt K mg "left_steps" Bg ["grammar"] (adr mg "left_steps")
 G2:FnAt K mg "left_recursive_marks" Gn ["grammar"] (adr mg "left_recursive_marks")
 Oj:FnAt K mg "returns_through_others" Bh ["steps","a"] (adr mg "returns_through_others")
 Ol:FnAt K mg "left_kinds" Gp ["grammar","a"] (adr mg "left_kinds")
 Om:FnAt K mg "same_piece_steps" Bj ["grammar"] (adr mg "same_piece_steps")
 G3:FnAt K mg "cyclic_marks" Gq ["grammar"] (adr mg "cyclic_marks")
 G4:FnAt K mg "gathered" Gr ["parts","steps","a"] (adr mg "gathered")
 G5:FnAt K mg "first_ranges" ye ["grammar"] (adr mg "first_ranges")
 Oo:FnAt K mg "first_of_symbols" Gs ["symbols","hollow","firsts"] (adr mg "first_of_symbols")
 G6:FnAt K mg "useful_places" Gu ["grammar"] (adr mg "useful_places")
 G7:FnAt K mg "ending_steps" Bk ["grammar"] (adr mg "ending_steps")
 Oq:FnAt K mg "follow_ranges" Bl ["grammar","a"] (adr mg "follow_ranges")
 Ot:FnAt K mg "end_follows" Gv ["grammar","a"] (adr mg "end_follows")
 Ou:FnAt K mg "growing_steps" Gw ["grammar"] (adr mg "growing_steps")
 Ov:FnAt K mg "reads_any" Gx ["grammar"] (adr mg "reads_any")
 Ow:FnAt K mg "reads_infinitely_many" Bo ["grammar"] (adr mg "reads_infinitely_many")
 BW:FnAt K mg "longer_by_symbols" Bp ["known","symbols","lengths"] (adr mg "longer_by_symbols")
 Ox:FnAt K mg "longest_length" Gy ["grammar"] (adr mg "longest_length")
 qx:FnAt K mg "number_within" GD ["reader","lowest","highest"] (adr mg "number_within")
 Oz:FnAt K mg "read_symbol" GF ["reader","size"] (adr mg "read_symbol")
 OA:FnAt K mg "read_rule" Bq ["reader","size"] (adr mg "read_rule")
 OB:FnAt K mg "grammar_from_row" Br ["row"] (adr mg "grammar_from_row")
 BX:FnAt K mg "row_of_grammar" GG ["grammar"] (adr mg "row_of_grammar")
 OC:FnAt K mg "count_ways" GH ["symbols","hollow"] (adr mg "count_ways")
 OD:FnAt K mg "ways_of_symbols" Bt ["symbols","hollow"] (adr mg "ways_of_symbols")
 G8:FnAt K mg "full_grammar" Bu ["grammar"] (adr mg "full_grammar")
 OE:FnAt K mg "least_of_symbol" GI ["symbol","leasts"] (adr mg "least_of_symbol")
 OF:FnAt K mg "least_of_symbols" GJ ["symbols","leasts"] (adr mg "least_of_symbols")
 BZ:FnAt K mg "lesser_by_symbols" GK ["known","symbols","leasts"] (adr mg "lesser_by_symbols")
 OG:FnAt K mg "least_texts" GL ["grammar"] (adr mg "least_texts")
 G9:FnAt K mg "staying_nonterminals" Bv ["grammar"] (adr mg "staying_nonterminals")
 OH:FnAt K mg "renumbered_symbol" GN ["symbol","numbers"] (adr mg "renumbered_symbol")
 OI:FnAt K mg "renumbered_rule" Bw ["rule","numbers"] (adr mg "renumbered_rule")
 Hf:FnAt K mg "trimmed_grammar" Bx ["grammar"] (adr mg "trimmed_grammar")
 OJ:FnAt K mg "load_answer" BA ["holder","row"] (adr mg "load_answer")
 OL:FnAt K mg "grammar_answer" BB ["holder"] (adr mg "grammar_answer")
 OM:FnAt K mg "marks_of_choice" yf ["grammar","k"] (adr mg "marks_of_choice")
 ON:FnAt K mg "set_answer" yg ["holder","k"] (adr mg "set_answer")
 yk:FnAt K mg "is_missing" GQ ["holder","a"] (adr mg "is_missing")
 OO:FnAt K mg "first_answer" BC ["holder","a"] (adr mg "first_answer")
 OP:FnAt K mg "follow_answer" BD ["holder","a"] (adr mg "follow_answer")
 OQ:FnAt K mg "left_answer" BE ["holder","a"] (adr mg "left_answer")
 OS:FnAt K mg "least_answer" BF ["holder","a"] (adr mg "least_answer")
 OT:FnAt K mg "extent_answer" BG ["holder"] (adr mg "extent_answer")
 OU:FnAt K mg "trim_answer" BH ["holder"] (adr mg "trim_answer")
 OV:FnAt K mg "full_answer" BI ["holder"] (adr mg "full_answer")
 OW:FnAt K mg "take_answer" BJ ["holder","k"] (adr mg "take_answer")
 OX:FnAt K mg "next_answer" tP ["holder","reader"] (adr mg "next_answer")
 OY:FnAt K mg "answers" GR ["calls"] (adr mg "answers")
 kG:yd K mg "Rule" "Rule.__init__" F8 ["self","owner","symbols"]
 gX:yd K mg "Grammar" "Grammar.__init__" F9 ["self","size","rules"]
 fu:yd K mg "Reader" "Reader.__init__" Gz ["self","numbers"]
 rJ:yd K mg "Holder" "Holder.__init__" GO ["self"]
 OZ:jk K (adr mg "Rule") "owner"
 O0:jk K (adr mg "Rule") "symbols"
 O1:jk K (adr mg "Grammar") "size"
 yl:jk K (adr mg "Grammar") "rules"
 B0:jk K (adr mg "Reader") "numbers"
 tR:jk K (adr mg "Reader") "place"
 B3:jk K (adr mg "Holder") "held"
 tS:AV K (adr mg "Reader") "at_end" "Reader.at_end" GA ["self"] (dX K (adr mg "Reader") "at_end")
 lK:AV K (adr mg "Reader") "next_number" "Reader.next_number" GB ["self"] (dX K (adr mg "Reader") "next_number")
 Hg:AV K (adr mg "Reader") "next_row" "Reader.next_row" GC ["self"] (dX K (adr mg "Reader") "next_row")
 rK:F7 K mg "NoGrammarRow"
 rL:F7 K mg "TooGreat"
 Hh:mg "WITHOUT_NUMBER"=some (.ref (adr mg "WITHOUT_NUMBER"))
 Hi:qk K (adr mg "WITHOUT_NUMBER") [(1,Value.ref (adr mg "grammar_answer")),(7,Value.ref (adr mg "extent_answer")),(8,Value.ref (adr mg "trim_answer")),(9,Value.ref (adr mg "full_answer"))]
 Yb:mg "WITH_NUMBER"=some (.ref (adr mg "WITH_NUMBER"))
 Yc:qk K (adr mg "WITH_NUMBER") [(2,Value.ref (adr mg "set_answer")),(3,Value.ref (adr mg "first_answer")),(4,Value.ref (adr mg "follow_answer")),(5,Value.ref (adr mg "left_answer")),(6,Value.ref (adr mg "least_answer")),(10,Value.ref (adr mg "take_answer"))]
structure Bs(K:Frag)(mg:Str->Option Value)(base:Heap)(tb:Addr):Prop where
 bm:Bm mg base
 cd:∃c,(fdOf K (adr mg "settled_marks")).code=.ref c/\PySem.W.CodeHd base c tb
theorem O2{A:Around}(hr:dB k A):A.units+65<cLine:=by have:=hr.un;omega
theorem Yd{A:Around}(hr:dB k A):A.units+80<cLine:=by have:=hr.un;omega
theorem lM{CX:mE}{E:XK}{f:Addr}{sp:Sp}{st:Stmt}{p pos:Pos}{e:Expr}{es:List Expr}{t:TA}(A:FnAt X.K X.mg x st ps f)(F:cH X.prog X.w X.K X.mg X.base CX k f (fdOf X.K f) ps sp)(hr:dB j X.A)(hx:Passes CX X E)(ha:PA X (e::es) t)(hj:k<=j:=by decide)(hg:Gl X x:=by rfl)(iC:(x==("__debug__":Str))=false:=by decide)(he:starEach (e::es) X.env=(false,eval e X.env)::starEach es X.env:=by rfl)(dS:(backTo pos (starEach es X.env)).any (·.1)=false:=by rfl):
  PE X (.Call (.Name x p) (e::es) [] pos) (EV sp [] E t):=L1 F (hr.mono hj) hg A.gl A.fn.kp A.bd .nil hx ha iC he dS
theorem Ye:PIp X .Mult (λx y H Q=>∃i j,x=.int i/\y=.int j/\EM i j/\Q (.int (i*j)) H):=by
 intro pins s σ H x y v u Q I r1 r2 h;obtain⟨i,j,e1,e2,hc,q⟩:=h;subst e1;subst e2;obtain⟨t,rfl⟩:=r1;obtain⟨t',rfl⟩:=r2;exact imul_int ⟨.int _,H,I.tok _,⟨_,rfl⟩,q⟩ hc.ok
@[irreducible] def tT(K:Frag):List V->Hp->VK->Prop:=λxs H Q=>∃p ys,xs=[V.ref p]/\(aU K H p ys\/aM K H p ys)/\Q (.int ys.length) H
theorem j4:kr X (.builtin "len") (tT X.K):=by unfold tT;exact VI
@[irreducible] def vz(K:Frag):List V->Hp->VK->Prop:=λxs H Q=>∃p ys,xs=[.ref p]/\(aU K H p ys\/aM K H p ys)/\∀l,H l=none->Q (.ref l) (upd H l (.lst ys))
theorem O3:kr X (.type "list") (vz X.K):=by unfold vz;exact VJ
@[irreducible] def B4(K:Frag):List V->Hp->VK->Prop:=λxs H Q=>∃p ys,xs=[.ref p]/\((aU K H p ys/\∀l,H l=none->Q (.ref l) (upd H l (.tup ys)))\/(aM K H p ys/\Q (.ref p) H))
theorem O4:kr X (.type "tuple") (B4 X.K):=by unfold B4;exact VL
@[irreducible] def i8(K:Frag)(f:Str):V->Hp->VK->Prop:=λx H1 Q=>∃a C dx fs v,x=.ref a/\H1 a=some (.ins C dx fs)/\mD K C/\jk K C f/\fs.lookup f=some v/\Q v H1
theorem aO{K:Frag}{e:Expr}{f:Str}{pos:Pos}{ta:TE}(hK:X.K=K)(he:PE X e ta)(hb:attributeBase e f X.env (eval e X.env)=eval e X.env):PE X (.Attribute e f pos) (tUn (i8 K f) ta):=by
 unfold i8;subst hK;exact U6 he hb
def Yg:Sym->List V
 | .non k=>[.int 0,.int (k:Nat)]
 | .range lo hi=>[.int 1,.int (lo:Nat),.int (hi:Nat)]
def O5:Sym->Bool
 | .non _=>true
 | .range _ _=>false
def bz:Rep Sym:=λH v y=>∃a,v=.ref a/\H a=some (.tup (Yg y))
theorem bC:Mn bz:=λ_ _ _ _ s ⟨a,e,h⟩=>⟨a,e,Sm.at s h⟩
def qy(o u:V):List (Str×V):=cQ "symbols" u (cQ "owner" o [])
def jH(o u:V):List (Str×V):=cQ "rules" u (cQ "size" o [])
def jn(o u:V):List (Str×V):=cQ "place" u (cQ "numbers" o [])
def gY(o:V):List (Str×V):=cQ "held" o []
theorem O6(o u:V):(qy o u).lookup ("owner":Str)=some o:=by unfold qy;rw[iV,ai (by decide+kernel),iV,aj rfl]
theorem Yh(o u:V):(qy o u).lookup ("symbols":Str)=some u:=by unfold qy;rw[iV,aj rfl]
theorem B5(o u:V):(jH o u).lookup ("size":Str)=some o:=by unfold jH;rw[iV,ai (by decide+kernel),iV,aj rfl]
theorem vA(o u:V):(jH o u).lookup ("rules":Str)=some u:=by unfold jH;rw[iV,aj rfl]
theorem Hj(o u:V):(jn o u).lookup ("numbers":Str)=some o:=by unfold jn;rw[iV,ai (by decide+kernel),iV,aj rfl]
theorem tU(o u:V):(jn o u).lookup ("place":Str)=some u:=by unfold jn;rw[iV,aj rfl]
theorem ym(o:V):(gY o).lookup ("held":Str)=some o:=by unfold gY;rw[iV,aj rfl]
theorem lN(o u:V){m:Str}(h1:¬m="place")(h2:¬m="numbers"):(jn o u).lookup m=none:=by
 unfold jn;rw[iV,ai h1,iV,ai h2];rfl
theorem O7(f:Str)(v:V)(fs:List (Str×V)):∀u,cQ f v (cQ f u fs)=cQ f v fs:=by
 induction fs with
 |nil=>intro u;simp[cQ]
 |cons p fs ih=>
  intro u;obtain⟨g,x⟩:=p;by_cases e:g=f
  .simp[cQ,e]
  .simp[cQ,e,ih]
theorem O8(o u v:V):cQ "place" v (jn o u)=jn o v:=O7 _ _ _ _
theorem O9(o v:V):cQ "held" v (gY o)=gY v:=O7 _ _ _ _
section
variable(mg:Str->Option Value)(tb:Addr)
def bF:Rep Rule:=λH v r=>∃a dx u,v=.ref a/\H a=some (.ins (adr mg "Rule") dx (qy (.int (r.lhs:Nat)) u))/\bH bz H u r.rhs
def cR:Rep Grammar:=λH v g=>(∃a dx u,v=.ref a/\H a=some (.ins (adr mg "Grammar") dx (jH (.int (g.nons:Nat)) u))/\ay (bF mg) H u g.rules)/\TabAt tb H/\aS g
end
section
variable{mg:Str->Option Value}{tb:Addr}
theorem cY:Mn (bF mg):=λ_ _ _ _ s ⟨a,dx,u,e,h,k⟩=>⟨a,dx,u,e,Sm.at s h,jE bC _ _ _ _ s k⟩
theorem cZ:Mn (cR mg tb):=λ_ _ _ _ s ⟨⟨a,dx,u,e,h,k⟩,t,g⟩=>⟨⟨a,dx,u,e,Sm.at s h,aI cY _ _ _ _ s k⟩,s.tab _ t,g⟩
end
def Ret{β:Type}(R:Rep β)(y:β)(H:Hp)(Q:VK):Prop:=∀v H',Sm H H'->R H' v y->Q v H'
def yo{β:Type}(R:Rep β)(y:β)(H:Hp)(Q:VK):Prop:=∀a H',Sm H H'->H a=none->R H' (.ref a) y->Q (.ref a) H'
def sp1{α β:Type}(R:Rep α)(p:α->Prop)(S:Rep β)(f:α->β):Sp:=λvs H Q _=>∃u x,vs=[u]/\R H u x/\p x/\Ret S (f x) H Q
def kH{α γ β:Type}(R:Rep α)(R2:Rep γ)(p:α->γ->Prop)(S:Rep β)(f:α->γ->β):Sp:=λvs H Q _=>∃u x u2 x2,vs=[u,u2]/\R H u x/\R2 H u2 x2/\p x x2/\Ret S (f x x2) H Q
def gO{α β:Type}(R:Rep α)(p:α->Prop)(S:Rep β)(f:α->β):Sp:=λvs H Q _=>∃u x,vs=[u]/\R H u x/\p x/\yo S (f x) H Q
theorem Hl{α β:Type}{R:Rep α}{p:α->Prop}{S:Rep β}{f:α->β}:∀vs H Q E,sp1 R p S f vs H Q E->vs.length=[x].length:=λ_ _ _ _ ⟨_,_,e,_⟩=>by rw[e];rfl
theorem mV{α γ β:Type}{R:Rep α}{R2:Rep γ}{p:α->γ->Prop}{S:Rep β}{f:α->γ->β}{y:Str}:∀vs H Q E,kH R R2 p S f vs H Q E->vs.length=[x,y].length:=λ_ _ _ _ ⟨_,_,_,_,e,_⟩=>by rw[e];rfl
theorem iI{α β:Type}{R:Rep α}{p:α->Prop}{S:Rep β}{f:α->β}:∀vs H Q E,gO R p S f vs H Q E->vs.length=[x].length:=λ_ _ _ _ ⟨_,_,e,_⟩=>by rw[e];rfl
abbrev pY{α:Type}:α->Prop:=λ_=>True
section
variable{K:Frag}{mg:Str->Option Value}{tb:Addr}{H:Hp}{v:V}{Q:VK}{α:Type}{R:Rep α}
theorem f7{ms:List α}{x:α}(h:ay R H v ms)(hk:ms[k]?=some x)(q:∀u,R H u x->Q u H):bX K v (.int (k:Nat)) H Q:=by
 unfold bX;obtain⟨a,vs,e,h1,h2⟩:=h;obtain⟨u,hu,r⟩:=FO h2 hk;exact⟨a,vs,_,u,e,rfl,aU.of h1,xC hu,q u r⟩
theorem B6{β:Type}{S:Rep β}{p:α×β}(h:mQ R S H v p)(q:∀u,R H u p.1->Q u H):cX K v (.int 0) H Q:=by
 unfold cX;obtain⟨a,u,w,e,h1,h2,h3⟩:=h;exact⟨a,_,_,u,e,rfl,aM.of h1,rfl,q u h2⟩
theorem yp{β:Type}{S:Rep β}{p:α×β}(h:mQ R S H v p)(q:∀u,S H u p.2->Q u H):cX K v (.int 1) H Q:=by
 unfold cX;obtain⟨a,u,w,e,h1,h2,h3⟩:=h;exact⟨a,_,_,w,e,rfl,aM.of h1,rfl,q w h3⟩
theorem Yi(h:bz H v y)(q:Q (.int (if O5 y then 0 else 1)) H):cX K v (.int 0) H Q:=by
 unfold cX;obtain⟨a,e,h1⟩:=h;cases y with
 |non k=>exact⟨a,_,_,_,e,rfl,aM.of h1,rfl,q⟩
 |range lo hi=>exact⟨a,_,_,_,e,rfl,aM.of h1,rfl,q⟩
theorem oY(h:bz H v (.non k))(q:Q (.int (k:Nat)) H):cX K v (.int 1) H Q:=by
 unfold cX;obtain⟨a,e,h1⟩:=h;exact⟨a,_,_,_,e,rfl,aM.of h1,rfl,q⟩
theorem Pa{lo hi:Nat}(h:bz H v (.range lo hi))(q:Q (.int (lo:Nat)) H):cX K v (.int 1) H Q:=by
 unfold cX;obtain⟨a,e,h1⟩:=h;exact⟨a,_,_,_,e,rfl,aM.of h1,rfl,q⟩
theorem Yj{lo hi:Nat}(h:bz H v (.range lo hi))(q:Q (.int (hi:Nat)) H):cX K v (.int 2) H Q:=by
 unfold cX;obtain⟨a,e,h1⟩:=h;exact⟨a,_,_,_,e,rfl,aM.of h1,rfl,q⟩
theorem kI(T:Txt K mg)(h:bF mg H v r)(q:Q (.int (r.lhs:Nat)) H):i8 K "owner" v H Q:=by
 unfold i8;obtain⟨a,dx,u,e,h1,h2⟩:=h;exact⟨a,_,dx,_,_,e,h1,T.kG.cls,T.OZ,O6 _ _,q⟩
theorem jo(T:Txt K mg)(h:bF mg H v r)(q:∀u,bH bz H u r.rhs->Q u H):i8 K "symbols" v H Q:=by
 unfold i8;obtain⟨a,dx,u,e,h1,h2⟩:=h;exact⟨a,_,dx,_,_,e,h1,T.kG.cls,T.O0,Yh _ _,q u h2⟩
theorem gZ(T:Txt K mg)(h:cR mg tb H v g)(q:Q (.int (g.nons:Nat)) H):i8 K "size" v H Q:=by
 unfold i8;obtain⟨⟨a,dx,u,e,h1,h2⟩,_⟩:=h;exact⟨a,_,dx,_,_,e,h1,T.gX.cls,T.O1,B5 _ _,q⟩
theorem tV(T:Txt K mg)(h:cR mg tb H v g)(q:∀u,ay (bF mg) H u g.rules->Q u H):i8 K "rules" v H Q:=by
 unfold i8;obtain⟨⟨a,dx,u,e,h1,h2⟩,_⟩:=h;exact⟨a,_,dx,_,_,e,h1,T.gX.cls,T.yl,vA _ _,q u h2⟩
theorem Pb(h:ay bA H v bs)(q:Q (.bl (bs.all id)) H):AA K [v] H Q:=by
 unfold AA;obtain⟨a,vs,e,h1,h2⟩:=h;rw[FT h2]at h1;exact⟨a,bs,by rw[e],aU.of h1,q⟩
theorem B7(h:ay bA H v bs)(q:Q (.bl (bs.any id)) H):Az K [v] H Q:=by
 unfold Az;obtain⟨a,vs,e,h1,h2⟩:=h;rw[FT h2]at h1;exact⟨a,bs,by rw[e],aU.of h1,q⟩
theorem Pc(n:Nat):∀l:List Nat,inV (.int (n:Int)) (l.map λk:Nat=>V.int (k:Int))=Vaglrc.has n l
 |[]=>rfl
 |k::l=>by
  have ih:=Pc n l;unfold inV Vaglrc.has at ih⊢;rw[cD,jx,jx,ih]
  congr 1
  unfold eqV;by_cases e:k=n
  .subst e;simp
  .have e':¬(k:Int)=(n:Int):=by omega
   rw[ni.mpr e];exact ni.mpr e'
theorem Pd:∀l:List Nat,(l.map λk:Nat=>V.int (k:Int)).all qh=true
 |[]=>rfl
 |k::l=>by rw[cD,l6,Pd l];rfl
theorem yq(h:ay aW H v l)(q:Q (.bl (Vaglrc.has n l)) H):rIn K false (.int (n:Int)) v H Q:=by
 unfold rIn;obtain⟨a,vs,e,h1,h2⟩:=h;rw[FQ h2]at h1;refine⟨a,_,e,.inl (aU.of h1),rfl,Pd l,?_⟩;rw[ai (by decide),Pc];exact q
theorem mW{xs:List α}(h:ay R H v xs)(q:Q (.int (xs.length:Nat)) H):tT K [v] H Q:=by
 unfold tT;obtain⟨a,vs,e,h1,h2⟩:=h;exact⟨a,vs,by rw[e],.inl (aU.of h1),by rw[eW h2];exact q⟩
theorem Pe(mR:Mn R){xs:List α}(h:ay R H v xs)(q:∀u H',Sm H H'->bH R H' u xs->Q u H'):B4 K [v] H Q:=by
 unfold B4;obtain⟨a,vs,e,h1,h2⟩:=h;exact⟨a,vs,by rw[e],.inl ⟨aU.of h1,λl hl=>q _ _ (Sm.new hl) ⟨l,vs,rfl,aA,mS mR (Sm.new hl) h2⟩⟩⟩
theorem Yk(mR:Mn R){xs:List α}(h:ay R H v xs)(q:∀a H',Sm H H'->H a=none->ay R H' (.ref a) xs->Q (.ref a) H'):vz K [v] H Q:=by
 unfold vz;obtain⟨a,vs,e,h1,h2⟩:=h;exact⟨a,vs,by rw[e],.inl (aU.of h1),λl hl=>q _ _ (Sm.new hl) hl ⟨l,vs,rfl,aA,mS mR (Sm.new hl) h2⟩⟩
theorem Yl(mR:Mn R){xs:List α}(h:bH R H v xs)(q:∀a H',Sm H H'->H a=none->ay R H' (.ref a) xs->Q (.ref a) H'):vz K [v] H Q:=by
 unfold vz;obtain⟨a,vs,e,h1,h2⟩:=h;exact⟨a,vs,by rw[e],.inr (aM.of h1),λl hl=>q _ _ (Sm.new hl) hl ⟨l,vs,rfl,aA,mS mR (Sm.new hl) h2⟩⟩
theorem Pf{xs:List α}(h:bH R H v xs)(q:Q (.int (xs.length:Nat)) H):tT K [v] H Q:=by
 unfold tT;obtain⟨a,vs,e,h1,h2⟩:=h;exact⟨a,vs,by rw[e],.inr (aM.of h1),by rw[eW h2];exact q⟩
end
theorem filterMap_some{α β:Type}(f:α->β):∀l:List α,l.filterMap (λx=>some (f x))=l.map f
 |[]=>rfl
 |x::l=>by rw[RS (f:=λx=>some (f x)) (b:=f x) rfl,filterMap_some f l];rfl
theorem vB{α:Type}(p:α->Bool):∀l:List α,l.filterMap (λx=>if p x then some x else none)=l.filter p
 |[]=>rfl
 |x::l=>by
  cases e:p x with
  |true=>rw[RS (b:=x) (by rw[e];rfl),vB p l,qM,aj e]
  |false=>rw[ab4 (by rw[e];rfl),vB p l,qM,ai (by rw[e];decide)]
section
variable{P:Program}{w:World}{K:Frag}{mg:Str->Option Value}{base:Heap}{tb:Addr}
abbrev br(P:Program)(w:World)(K:Frag)(mg:Str->Option Value)(base:Heap)(x:Str)(k:Nat)(ps:List Str)(sp:Sp):Prop:=cH P w K mg base eB k (adr mg x) (fdOf K (adr mg x)) ps sp
theorem Ym:aP ["symbol"] ["symbol"] (aC Ga):=aV
theorem nX(T:Txt K mg)(B:Bs K mg base tb):br P w K mg base "is_nonterminal" 1 ["symbol"] (sp1 bz pY bA O5):=by
 refine T.mU.fn.ok Ym Hl (λcdv A outer s H vs Q E hr h=>?_);obtain⟨u,y,rfl,hy,_,k⟩:=h;refine⟨_,(az (aH (lA oQ (bD (r:=cX K) gk (pv 0) bK (λ_ _=>rfl)) (bB T.yh) (eK _)))),?_⟩;refine⟨_,rfl,Yi hy ⟨rfl,?_⟩⟩;refine k _ _ (Sm.refl _) ?_;cases y<;>rfl
end
section
variable{α β:Type}{K:Frag}{g:TG}{tt:TT}{te tl:TE}{ta:TA}{vs:List Nat}{σ:L2.St}{H:Hp}{Q:VK}{R:Rep α}
theorem oZ{G:Addr->Rep β}{ms:List α}(F:α->Option β)(h:∀Q':VK,(∀v H1,Sm H H1->ay R H1 v ms->Q' v H1)->tl σ H Q')(mR:Mn R)(hn:ms.length<=sizeLine)(mG:∀D,Mn (G D))(lG:∀D H y b xs ys,H D=some (.lst xs)->G D H y b->G D (upd H D (.lst ys)) y b)(hs:∀H1 D x m,Sm H H1->H1 D=none->m∈ms->R H1 x m->LcM H1 D g tt te vs σ (G D) (F m) x)(hd:∀D zs H',H D=none->H' D=some (.lst zs)->Sm H H'->Paired (G D H') zs (ms.filterMap F)->Q (.ref D) H'):
  gA (uV K tl) g tt te vs σ H Q:=by
 unfold gA;exact
  h _ λv H1 s1 hv=>lcL mR hv hn mG lG (λD x m hD hm hx=>hs H1 D x m s1 hD hm hx) λD zs H' hD e1 e2 e3=>hd D zs H' (s1.free hD) e1 (s1.trans e2) e3
theorem Pg{G:Addr->Rep β}{ms:List α}(F:α->Option β)(h:∀Q':VK,(∀v H1,Sm H H1->bH R H1 v ms->Q' v H1)->tl σ H Q')(mR:Mn R)(hn:ms.length<=sizeLine)(mG:∀D,Mn (G D))(lG:∀D H y b xs ys,H D=some (.lst xs)->G D H y b->G D (upd H D (.lst ys)) y b)(hs:∀H1 D x m,Sm H H1->H1 D=none->m∈ms->R H1 x m->LcM H1 D g tt te vs σ (G D) (F m) x)(hd:∀D zs H',H D=none->H' D=some (.lst zs)->Sm H H'->Paired (G D H') zs (ms.filterMap F)->Q (.ref D) H'):
  gA (xx K tl) g tt te vs σ H Q:=by
 unfold gA;exact
  h _ λv H1 s1 hv=>lcT mR hv hn mG lG (λD x m hD hm hx=>hs H1 D x m s1 hD hm hx) λD zs H' hD e1 e2 e3=>hd D zs H' (s1.free hD) e1 (s1.trans e2) e3
theorem tW{G:Addr->Rep β}(F:Nat->Option β)(h:∀Q':List V->Hp->Prop,(∀H1,Sm H H1->Q' [.int (n:Nat)] H1)->ta σ H Q')(hn:n<=1000)(mG:∀D,Mn (G D))(lG:∀D H y b xs ys,H D=some (.lst xs)->G D H y b->G D (upd H D (.lst ys)) y b)(hs:∀H1 D (m:Nat),Sm H H1->H1 D=none->m<n->LcM H1 D g tt te vs σ (G D) (F m) (.int (m:Int)))(hd:∀D zs H',H D=none->H' D=some (.lst zs)->Sm H H'->Paired (G D H') zs ((List.range n).filterMap F)->Q (.ref D) H'):
  gA (Ak ta) g tt te vs σ H Q:=by
 unfold gA;exact
  h _ λH1 s1=>⟨(n:Int),rfl,by omega,by omega,by
   rw[oz];exact lcR (aG hn (by decide)) mG lG (λD m hD hm=>hs H1 D m s1 hD hm) λD zs H' hD e1 e2 e3=>hd D zs H' (s1.free hD) e1 (s1.trans e2) e3⟩
theorem vC(h:∀Q':List V->Hp->Prop,(∀H1,Sm H H1->Q' [.int (n:Nat)] H1)->ta σ H Q')(hn:n<=1000)(hw:∀x,wipe ((wipe σ vs).set i x) vs=wipe σ vs)(hd:∀D (as:List Addr) H',H D=none->H' D=some (.lst (as.map V.ref))->Sm H H'->as.length=n->as.Nodup->D∉as->(∀b∈as,H b=none/\H' b=some (.lst []))->Q (.ref D) H'):
  gA (Ak ta) (lz i) u6 (EU xA) vs σ H Q:=by
 unfold gA;exact
  h _ λH1 s1=>⟨(n:Int),rfl,by omega,by omega,by
   rw[oz];exact W2 (aG hn (by decide)) hw λD as H' hD e1 e2 e3 e4 e5 e6=>hd D as H' (s1.free hD) e1 (s1.trans e2) e3 e4 e5 λb hb=>⟨s1.free (e6 b hb).1,(e6 b hb).2⟩⟩
theorem B8{G:Addr->Rep β}{ms:List α}(F:α->Option β)(hi:σ[i]?=some (some v))(hv:rF R H v ms)(mR:Mn R)(hn:ms.length<=sizeLine)(mG:∀D,Mn (G D))(lG:∀D H y b xs ys,H D=some (.lst xs)->G D H y b->G D (upd H D (.lst ys)) y b)(hs:∀D x m,H D=none->m∈ms->R H x m->LcM H D g tt te vs σ (G D) (F m) x)(hd:∀D zs H',H D=none->H' D=some (.lst zs)->Sm H H'->Paired (G D H') zs (ms.filterMap F)->Q (.ref D) H'):
  gA (λσ H R=>xx K (uS i) σ H R\/uV K (uS i) σ H R) g tt te vs σ H Q:=lcS hi mR hv hn mG lG hs hd
end
section
variable{α:Type}{K:Frag}{g:TG}{tb:TS}{tl:TE}{ta:TA}{D:Ends}{σ:L2.St}{H:Hp}{R:Rep α}
theorem jq{ms:List α}(Z:V->Hp->Prop)(h:∀Q':VK,(∀v H1,Z v H1->Q' v H1)->tl σ H Q')(k:∀v H1,Z v H1->∃Pv:Nat->L2.St->Hp->Prop,Pv 0 σ H1/\(∀i σ H2,Pv i σ H2->ay R H2 v ms)/\(∀i x m σ H2,ms[i]?=some m->R H2 x m->Pv i σ H2->g x σ H2 λσ2 H3=>tb {D with nx:=Pv (i+1),ct:=Pv (i+1),bk:=D.nx} σ2 H3)/\∀σ H2,Pv ms.length σ H2->D.nx σ H2):kq (uV K tl) g tb D σ H:=by
 unfold kq;refine h _ λv H1 hz=>?_;obtain⟨Pv,h0,hS,hs,hd⟩:=k v H1 hz;obtain⟨a,us,rfl,ha,hp⟩:=hS 0 σ H1 h0;have same:∀i σ H2,Pv i σ H2->∃bP,H2 a=some (.lst bP)/\Paired (R H2) bP ms:=λi σ H2 p=>by
  obtain⟨a',bP,e,h1,h2⟩:=hS i σ H2 p;cases e;exact⟨bP,h1,h2⟩
 refine⟨a,rfl,⟨_,aU.of ha⟩,λi m σ H=>m=ms.length-i/\i<=ms.length/\Pv i σ H,⟨ms.length,by simp,cM _,h0⟩,?_⟩;rintro i m σ H2 ⟨rfl,hi,p⟩;obtain⟨bP,q1,q2⟩:=same i σ H2 p;have hl:=eW q2;by_cases aR:i<ms.length
 .refine .inr ⟨⟨bP,bP[i]'(by omega),aU.of q1,bO (by omega)⟩,Pv (i+1),λσ' H' p'=>⟨ms.length-(i+1),by omega,rfl,aR,p'⟩,λx H' y=>?_⟩
  obtain⟨e,y⟩:=y;subst e;have hx:=y bP (aU.of q1);obtain⟨m,hm,r⟩:=ql q2 hx;exact hs i x m σ _ hm r p
 .have e:i=ms.length:=by omega
  subst e;exact .inl ⟨⟨bP,aU.of q1,by omega⟩,hd σ H2 p⟩
theorem B9{ms:List α}(Z:V->Hp->Prop)(h:∀Q':VK,(∀v H1,Z v H1->Q' v H1)->tl σ H Q')(k:∀v H1,Z v H1->∃Pv:Nat->L2.St->Hp->Prop,Pv 0 σ H1/\(∀i σ H2,Pv i σ H2->bH R H2 v ms)/\(∀i x m σ H2,ms[i]?=some m->R H2 x m->Pv i σ H2->g x σ H2 λσ2 H3=>tb {D with nx:=Pv (i+1),ct:=Pv (i+1),bk:=D.nx} σ2 H3)/\∀σ H2,Pv ms.length σ H2->D.nx σ H2):kq (xx K tl) g tb D σ H:=by
 unfold kq;refine h _ λv H1 hz=>?_;obtain⟨Pv,h0,hS,hs,hd⟩:=k v H1 hz;obtain⟨a,us,rfl,ha,hp⟩:=hS 0 σ H1 h0;have same:∀i σ H2,Pv i σ H2->∃bP,H2 a=some (.tup bP)/\Paired (R H2) bP ms:=λi σ H2 p=>by
  obtain⟨a',bP,e,h1,h2⟩:=hS i σ H2 p;cases e;exact⟨bP,h1,h2⟩
 refine⟨a,rfl,⟨_,aM.of ha⟩,λi m σ H=>m=ms.length-i/\i<=ms.length/\Pv i σ H,⟨ms.length,by simp,cM _,h0⟩,?_⟩;rintro i m σ H2 ⟨rfl,hi,p⟩;obtain⟨bP,q1,q2⟩:=same i σ H2 p;have hl:=eW q2;by_cases aR:i<ms.length
 .refine .inr ⟨⟨bP,bP[i]'(by omega),aM.of q1,bO (by omega)⟩,Pv (i+1),λσ' H' p'=>⟨ms.length-(i+1),by omega,rfl,aR,p'⟩,λx H' y=>?_⟩
  obtain⟨e,y⟩:=y;subst e;have hx:=y bP (aM.of q1);obtain⟨m,hm,r⟩:=ql q2 hx;exact hs i x m σ _ hm r p
 .have e:i=ms.length:=by omega
  subst e;exact .inl ⟨⟨bP,aM.of q1,by omega⟩,hd σ H2 p⟩
theorem Ho{ms:List α}{a b:Nat}(Z:V->Hp->Prop)(h:∀Q':List V->Hp->Prop,(∀v H1,Z v H1->Q' [v] H1)->ta σ H Q')(mR:Mn R)(k:∀v H1,Z v H1->∃Pv:Nat->L2.St->Hp->Prop,Pv 0 σ H1/\(∀i σ H2,Pv i σ H2->bH R H2 v ms)/\(∀i σ H2 H',Sm H2 H'->Pv i σ H2->Pv i σ H')/\(∀(i:Nat) x m σ H2,ms[i]?=some m->R H2 x m->Pv i σ H2->tb {D with nx:=Pv (i+1),ct:=Pv (i+1),bk:=D.nx} ((σ.set a (some (.int (i:Nat)))).set b (some x)) H2)/\∀σ H2,Pv ms.length σ H2->D.nx σ H2):
  kq (M1 K ta) (Af K 2 (xu (lz a) (xu (lz b) EH))) tb D σ H:=by
 unfold kq;refine h _ λv H1 hz=>?_;obtain⟨Pv,h0,hS,hm,hs,hd⟩:=k v H1 hz;obtain⟨p,us,rfl,ha,hp⟩:=hS 0 σ H1 h0;have same:∀i σ H2,Pv i σ H2->∃bP,H2 p=some (.tup bP)/\Paired (R H2) bP ms:=λi σ H2 q=>by
  obtain⟨a',bP,e,h1,h2⟩:=hS i σ H2 q;cases e;exact⟨bP,h1,h2⟩
 refine⟨p,us,rfl,aM.of ha,λi m σ H=>m=ms.length-i/\i<=ms.length/\Pv i σ H,⟨ms.length,by simp,cM _,h0⟩,?_⟩;rintro i m σ H2 ⟨rfl,hi,q⟩;obtain⟨bP,q1,q2⟩:=same i σ H2 q;have hl:=eW q2;by_cases aR:i<ms.length
 .refine .inr ⟨⟨bP,bP[i]'(by omega),aM.of q1,bO (by omega)⟩,Pv (i+1),λσ' H' p'=>⟨ms.length-(i+1),by omega,rfl,aR,p'⟩,λx H' y=>?_⟩
  obtain⟨T,y,e,hn,e2,hy⟩:=y;subst e;subst e2;obtain⟨m,hm',r⟩:=ql q2 (hy bP (aM.of q1));have s2:Sm H2 (upd H2 T (.tup [.int i,y])):=Sm.new hn;refine⟨T,_,rfl,aM.of aA,rfl,_,_,rfl,_,_,rfl,rfl,?_⟩;exact hs i y m σ _ hm' (mR _ _ _ _ s2 r) (hm _ _ _ _ s2 q)
 .have e:i=ms.length:=by omega
  subst e;exact .inl ⟨⟨bP,aM.of q1,by omega⟩,hd σ H2 q⟩
theorem Hq{ms:List α}{a b:Nat}(Z:V->Hp->Prop)(h:∀Q':List V->Hp->Prop,(∀v H1,Z v H1->Q' [v] H1)->ta σ H Q')(mR:Mn R)(k:∀v H1,Z v H1->∃Pv:Nat->L2.St->Hp->Prop,Pv 0 σ H1/\(∀i σ H2,Pv i σ H2->ay R H2 v ms)/\(∀i σ H2 H',Sm H2 H'->Pv i σ H2->Pv i σ H')/\(∀(i:Nat) x m σ H2,ms[i]?=some m->R H2 x m->Pv i σ H2->tb {D with nx:=Pv (i+1),ct:=Pv (i+1),bk:=D.nx} ((σ.set a (some (.int (i:Nat)))).set b (some x)) H2)/\∀σ H2,Pv ms.length σ H2->D.nx σ H2):
  kq (MP K ta) (Af K 2 (xu (lz a) (xu (lz b) EH))) tb D σ H:=by
 unfold kq;refine h _ λv H1 hz=>?_;obtain⟨Pv,h0,hS,hm,hs,hd⟩:=k v H1 hz;obtain⟨p,us,rfl,ha,hp⟩:=hS 0 σ H1 h0;have same:∀i σ H2,Pv i σ H2->∃bP,H2 p=some (.lst bP)/\Paired (R H2) bP ms:=λi σ H2 q=>by
  obtain⟨a',bP,e,h1,h2⟩:=hS i σ H2 q;cases e;exact⟨bP,h1,h2⟩
 refine⟨p,us,rfl,aU.of ha,λi m σ H=>m=ms.length-i/\i<=ms.length/\Pv i σ H,⟨ms.length,by simp,cM _,h0⟩,?_⟩;rintro i m σ H2 ⟨rfl,hi,q⟩;obtain⟨bP,q1,q2⟩:=same i σ H2 q;have hl:=eW q2;by_cases aR:i<ms.length
 .refine .inr ⟨⟨bP,bP[i]'(by omega),aU.of q1,bO (by omega)⟩,Pv (i+1),λσ' H' p'=>⟨ms.length-(i+1),by omega,rfl,aR,p'⟩,λx H' y=>?_⟩
  obtain⟨T,y,e,hn,e2,hy⟩:=y;subst e;subst e2;obtain⟨m,hm',r⟩:=ql q2 (hy bP (aU.of q1));have s2:Sm H2 (upd H2 T (.tup [.int i,y])):=Sm.new hn;refine⟨T,_,rfl,aM.of aA,rfl,_,_,rfl,_,_,rfl,rfl,?_⟩;exact hs i y m σ _ hm' (mR _ _ _ _ s2 r) (hm _ _ _ _ s2 q)
 .have e:i=ms.length:=by omega
  subst e;exact .inl ⟨⟨bP,aU.of q1,by omega⟩,hd σ H2 q⟩
theorem Hr{c:TT}(Pv:Nat->L2.St->Hp->Prop)(h0:∃m,Pv m σ H)(hs:∀m σ H,Pv m σ H->c σ H λb H1=>if b=true then tb {D with nx:=λσ' H'=>∃m',m'<m/\Pv m' σ' H',ct:=λσ' H'=>∃m',m'<m/\Pv m' σ' H',bk:=D.nx} σ H1 else D.nx σ H1)(mono:∀σ H Q Q',(∀b H1,Q b H1->Q' b H1)->c σ H Q->c σ H Q'):Ai c tb D σ H:=by
 unfold Ai;refine⟨Pv,h0,λm σ H p=>?_⟩;refine mono σ H _ _ (λb H1 q=>?_) (hs m σ H p);cases b with
 |true=>exact⟨_,λσ' H' z=>z,q⟩
 |false=>exact q
end
theorem jr{A B:Hp->Prop}(h:A H):u6 σ H λb H3=>if b=true then A H3 else B H3:=by
 show(if true=true then A H else B H);rw[aj rfl];exact h
def Lx{α:Type}(R:Rep α):Prop:=∀ex H H' v x,(∀b∈ex,∃xs,H b=some (.lst xs))->aD ex H H'->R H v x->R H' v x
theorem yr{o:HO}(hex:∀b∈ex,∃xs,H b=some (.lst xs))(h:H a=some o)(ho:∀xs,o≠ .lst xs):a∉ex:=λm=>by
 obtain⟨xs,e⟩:=hex a m;rw[h]at e;exact ho xs (Option.some.inj e)
theorem jt:Lx aW:=λ_ _ _ _ _ _ _ h=>h
theorem Ph:Lx bA:=λ_ _ _ _ _ _ _ h=>h
theorem mX:Lx bz:=λex H H' v x hex s ⟨a,e,h⟩=>⟨a,e,s.at h (yr hex h (by intro _ z;cases z))⟩
theorem rM{α:Type}{R:Rep α}(l:Lx R):Lx (bH R):=λex H H' v x hex s ⟨a,vs,e,h,p⟩=>⟨a,vs,e,s.at h (yr hex h (by intro _ z;cases z)),gW (λ_ _ q=>l _ _ _ _ _ hex s q) p⟩
theorem Hs{α β:Type}{R:Rep α}{S:Rep β}(l:Lx R)(m:Lx S):Lx (mQ R S):=λex H H' v x hex s ⟨a,u,w,e,h,p,q⟩=>⟨a,u,w,e,s.at h (yr hex h (by intro _ z;cases z)),l _ _ _ _ _ hex s p,m _ _ _ _ _ hex s q⟩
theorem ju{mg:Str->Option Value}:Lx (bF mg):=λex H H' v x hex s ⟨a,dx,u,e,h,p⟩=>⟨a,dx,u,e,s.at h (yr hex h (by intro _ z;cases z)),rM mX _ _ _ _ _ hex s p⟩
theorem lO{α:Type}{R:Rep α}(l:Lx R){xs:List α}(hex:∀b∈ex,∃xs,H b=some (.lst xs))(s:aD ex H H')(ha:a∉ex)(h:ay R H (.ref a) xs):ay R H' (.ref a) xs:=by
 obtain⟨b,vs,e,h,p⟩:=h;cases e;exact⟨a,vs,rfl,s.at h ha,gW (λ_ _ q=>l _ _ _ _ _ hex s q) p⟩
theorem jI{α:Type}{R:Rep α}(l:Lx R):∀(D:Addr) H y b xs ys,H D=some (.lst xs)->R H y b->R (upd H D (.lst ys)) y b:=λD H y b xs ys hl q=>
 l [D] _ _ _ _ (λc hc=>by rw[cF.mp hc];exact⟨xs,hl⟩) (aD.wr (aD.refl [D] H) (.inr (cF.mpr rfl)) (by rw[hl];trivial) trivial) q
def tX{α γ β:Type}(R:Rep α)(R2:Rep γ)(p:α->γ->Prop)(S:Rep β)(f:α->γ->β):Sp:=λvs H Q _=>∃u x u2 x2,vs=[u,u2]/\R H u x/\R2 H u2 x2/\p x x2/\yo S (f x x2) H Q
def Ht{α γ δ β:Type}(R:Rep α)(R2:Rep γ)(R3:Rep δ)(p:α->γ->δ->Prop)(S:Rep β)(f:α->γ->δ->β):Sp:=λvs H Q _=>∃u x u2 x2 u3 x3,vs=[u,u2,u3]/\R H u x/\R2 H u2 x2/\R3 H u3 x3/\p x x2 x3/\yo S (f x x2 x3) H Q
theorem vD{α γ β:Type}{R:Rep α}{R2:Rep γ}{p:α->γ->Prop}{S:Rep β}{f:α->γ->β}{y:Str}:∀vs H Q E,tX R R2 p S f vs H Q E->vs.length=[x,y].length:=λ_ _ _ _ ⟨_,_,_,_,e,_⟩=>by rw[e];rfl
theorem Pj{α γ δ β:Type}{R:Rep α}{R2:Rep γ}{R3:Rep δ}{p:α->γ->δ->Prop}{S:Rep β}{f:α->γ->δ->β}{y z:Str}:∀vs H Q E,Ht R R2 R3 p S f vs H Q E->vs.length=[x,y,z].length:=λ_ _ _ _ ⟨_,_,_,_,_,_,e,_⟩=>by rw[e];rfl
structure bQ{α:Type}(R:Rep α)(H0 H:Hp)(D:Addr)(as:List Addr)(bs:List (List α)):Prop where
 sm:Sm H0 H
 d0:H0 D=none
 lst:H D=some (.lst (as.map V.ref))
 nd:as.Nodup
 out:D∉as
 new:∀b∈as,H0 b=none
 at_:∀(k:Nat) b xs,as[k]?=some b->bs[k]?=some xs->∃vs,H b=some (.lst vs)/\Paired (R H) vs xs
 len:as.length=bs.length
section
variable{α:Type}{R:Rep α}{H0 H H':Hp}{D:Addr}{as:List Addr}{bs:List (List α)}
theorem bQ.mono(mR:Mn R)(b:bQ R H0 H D as bs)(s:Sm H H'):bQ R H0 H' D as bs:=
 ⟨b.sm.trans s,b.d0,Sm.at s b.lst,b.nd,b.out,b.new,λk c xs h1 h2=>let⟨vs,e,p⟩:=b.at_ k c xs h1 h2;⟨vs,Sm.at s e,mS mR s p⟩,b.len⟩
theorem bQ.start(d0:H0 D=none)(lst:H D=some (.lst (as.map V.ref)))(sm:Sm H0 H)(len:as.length=n)(nd:as.Nodup)(out:D∉as)(h:∀b∈as,H0 b=none/\H b=some (.lst [])):bQ R H0 H D as (List.replicate n []):=
 ⟨sm,d0,lst,nd,out,λb hb=>(h b hb).1,λk b xs h1 h2=>(by
  rw[qI]at h2;split at h2
  .cases h2;exact⟨[],(h b (cE h1)).2,.nil⟩
  .cases h2),by rw[i9];exact len⟩
theorem bQ.find(b:bQ R H0 H D as bs){xs:List α}(h:bs[k]?=some xs):∃c vs,as[k]?=some c/\H c=some (.lst vs)/\Paired (R H) vs xs:=by
 have hk:k<as.length:=by rw[b.len];exact(cU.mp h).1
 obtain⟨vs,e,p⟩:=b.at_ k _ xs (bO hk) h
 exact⟨_,vs,bO hk,e,p⟩
theorem bQ.put(lR:∀D H y b xs ys,H D=some (.lst xs)->R H y b->R (upd H D (.lst ys)) y b)(b:bQ R H0 H D as bs){c:Addr}{xs zs:List α}{us:List V}(hc:as[k]?=some c)(hk:bs[k]?=some xs)(hv:H c=some (.lst vs))(pv:Paired (R H) vs xs)(pz:Paired (R H) us zs):
  bQ R H0 (upd H c (.lst (vs++us))) D as (bs.set k (xs++zs)):=by
 have mc:=cE hc;have nD:D≠c:=λe=>b.out (by rw[e];exact mc);refine⟨Sm.wrL b.sm (b.new c mc) hv,b.d0,by rw[aJ nD];exact b.lst,b.nd,b.out,b.new,λj d ys h1 h2=>?_,by rw[v7];exact b.len⟩;by_cases e:j=k
 .subst e
  obtain rfl:c=d:=Option.some.inj (hc.symm.trans h1);rw[rY (cU.mp hk).1]at h2;cases h2;exact⟨_,aA,gW (λ_ _ q=>lR _ _ _ _ _ _ hv q) (tK pv pz)⟩
 .rw[uA (cS e)]at h2
  obtain⟨ws,e1,p1⟩:=b.at_ j d ys h1 h2
  have nd:d≠c:=λz=>e (Wg b.nd h1 (by rw[z];exact hc));exact⟨ws,by rw[aJ nd];exact e1,gW (λ_ _ q=>lR _ _ _ _ _ _ hv q) p1⟩
theorem Hu{β γ:Type}{G:β->γ->Prop}:∀{l:List β} {m:List γ},l.length=m.length->(∀(k:Nat) a b,l[k]?=some a->m[k]?=some b->G a b)->Paired G l m
 |[],[],_,_=>.nil
 |[],_::_,h,_=>by cases h
 |_::_,[],h,_=>by cases h
 |a::l,b::m,h,k=>.cons (k 0 a b rfl rfl) (Hu (by simpa using h) λj x y h1 h2=>k (j+1) x y h1 h2)
theorem bQ.done(b:bQ R H0 H D as bs):ay (ay R) H (.ref D) bs:=by
 refine⟨D,_,rfl,b.lst,Hu (by rw[aK];exact b.len) λk a xs h1 h2=>?_⟩;rw[fK]at h1;cases e:as[k]? with
 |none=>rw[e]at h1;cases h1
 |some c=>
  rw[e]at h1;obtain rfl:V.ref c=a:=Option.some.inj h1;obtain⟨vs,q1,q2⟩:=b.at_ k c xs e h2
  exact⟨c,vs,rfl,q1,q2⟩
end
theorem Pk{β:Type}{B k:Nat}:∀{l:List (Nat×List β)},(∀p∈l,p.2.length<=B)->(l.flatMap (λp=>if p.1==k then p.2 else[])).length<=B*l.length
 |[],_=>cM _
 |p::l,h=>by
  have ih:=Pk (k:=k) (l:=l) λq hq=>h q (bg _ hq);have h1:=h p aZ;rw[j9,aX,bT,Nat.mul_add,Nat.mul_one];split
  .omega
  .show 0+_<=_;omega
theorem rN{β:Type}{B:Nat}{l:List (Nat×List β)}{xs:List β}(h:(aL n l)[k]?=some xs)(hl:∀p∈l,p.2.length<=B):xs.length<=B*l.length:=by
 have hk:k<n:=by have:=(cU.mp h).1;rw[gH]at this;exact this
 rw[oG hk]at h;rw[<-Option.some.inj h];exact Pk hl
section
variable{P:Program}{w:World}{K:Frag}{mg:Str->Option Value}{base:Heap}{tb:Addr}
def Hv(C:Str)(mg:Str->Option Value)(F:V->V->List (Str×V)):Sp:=λvs H Q _=>∃(x dx:Addr) (u v:V),vs=[.ref x,u,v]/\H x=some (.ins (adr mg C) dx [])/\Q .non (upd H x (.ins (adr mg C) dx (F u v)))
theorem Yn:aP ["self","owner","symbols"] ["self","owner","symbols"] (aC F8):=aV
theorem Hw(T:Txt K mg)(B:Bs K mg base tb):cH P w K mg base eB 1 (dX K (adr mg "Rule") "__init__") (fdOf K (dX K (adr mg "Rule") "__init__")) ["self","owner","symbols"] (Hv "Rule" mg qy):=by
 refine T.kG.fn.ok Yn (λ_ _ _ _ ⟨_,_,_,_,e,_⟩=>by rw[e];rfl) (λcdv A outer s H vs Q E hr h=>?_);obtain⟨x,dx,u,v,rfl,hx,k⟩:=h;refine⟨_,(aq (qd (pv 0) (pv 1) rfl)
   (az (qd (pv 0) (pv 2) rfl))),?_⟩
 refine⟨_,rfl,_,rfl,x,_,dx,_,rfl,hx,T.kG.cls,T.OZ,(by show 0<1000;decide),_,rfl,_,rfl,x,_,dx,_,rfl,aA,T.kG.cls,T.O0,(by show 1<1000;decide),?_⟩;rw[xj];exact k
theorem Yo:aP ["self","size","rules"] ["self","size","rules"] (aC F9):=aV
theorem Cb(T:Txt K mg)(B:Bs K mg base tb):cH P w K mg base eB 1 (dX K (adr mg "Grammar") "__init__") (fdOf K (dX K (adr mg "Grammar") "__init__")) ["self","size","rules"] (Hv "Grammar" mg jH):=by
 refine T.gX.fn.ok Yo (λ_ _ _ _ ⟨_,_,_,_,e,_⟩=>by rw[e];rfl) (λcdv A outer s H vs Q E hr h=>?_);obtain⟨x,dx,u,v,rfl,hx,k⟩:=h;refine⟨_,(aq (qd (pv 0) (pv 1) rfl)
   (az (qd (pv 0) (pv 2) rfl))),?_⟩
 refine⟨_,rfl,_,rfl,x,_,dx,_,rfl,hx,T.gX.cls,T.O1,(by show 0<1000;decide),_,rfl,_,rfl,x,_,dx,_,rfl,aA,T.gX.cls,T.yl,(by show 1<1000;decide),?_⟩;rw[xj];exact k
theorem yt{C:Str}{F:V->V->List (Str×V)}(k:∀x dx H',H x=none->Sm H H'->H' x=some (.ins (adr mg C) dx (F u v))->Q (.ref x) H'):
  ∀x dx,H x=none->H dx=none->dx≠x->Hv C mg F (.ref x::([u,v]++[])) (upd (upd H dx (.own x)) x (.ins (adr mg C) dx [])) (λv H2=>v=.non/\Q (.ref x) H2) E0:=by
 intro x dx hx hd bI;refine⟨x,dx,u,v,rfl,aA,rfl,?_⟩;rw[xj];refine k x dx _ hx ?_ aA;have s1:Sm H (upd H dx (.own x)):=Sm.new hd;exact s1.trans (Sm.new (by rw[aJ (cS bI)];exact hx))
theorem Hy:aP ["symbols","symbol"] ["symbols"] (aC A3):=aV
def Yp:Sym->Option Nat
 | .non k=>some k
 | .range _ _=>none
theorem Hz(T:Txt K mg)(B:Bs K mg base tb):br P w K mg base "nonterminals_among" 2 ["symbols"] (gO (rF bz) (λys=>ys.length<=1000) (ay aW) nonsIn):=by
 have gP:=nX (P:=P) (w:=w) T B;refine T.BN.fn.ok Hy iI (λcdv A outer s H vs Q E hr h=>?_);obtain⟨u,ys,rfl,hy,hn,k⟩:=h;refine⟨_,(az (aH (gU (own:=[("symbol",1)]) rfl Hy.nd (PI.or (oO (pv 0)) (d8 (pv 0))) (eu (N:=["symbols","symbol"]) (sc:=aC A3) (by decide+kernel)) (λs H C cl fp=>(bh (i:=1) Hy.nd rfl (Or.inl rfl))) (λs H C cl fp=>(tE (di (aE T.mU gP hr (aa (pv 1) af))))) (λs H C cl fp=>(bD (r:=cX K) gk (pv 1) bK (λ_ _=>rfl)))))),?_⟩;refine B8 Yp (G:=λ_=>aW) rfl hy bC (aG hn (by decide)) (λ_=>bE) (λD=>jm qm D) (λD x m hD hm hx H1 Nx s1 hl kF kT=>?_) λD zs H' hD e1 e2 e3=>k _ _ e2 hD ⟨D,zs,rfl,e1,e3⟩;refine⟨rfl,⟨_,rfl,x,m,rfl,bC _ _ _ _ s1 hx,trivial,λv H2 s2 hv=>⟨_,hv,?_⟩⟩⟩;have kJ:=bC _ _ _ _ (s1.trans s2) hx;cases m with
 |non j=>exact bf ⟨_,rfl,oY kJ (kT _ _ _ rfl s2 rfl)⟩
 |range lo hi=>exact aY (kF rfl _ s2)
theorem HA:aP ["symbols","symbol"] ["symbols"] (aC A4):=aV
theorem Pn(T:Txt K mg)(B:Bs K mg base tb):br P w K mg base "ranges_among" 2 ["symbols"] (gO (rF bz) (λys=>ys.length<=1000) (ay (mQ aW aW)) (λys=>ys.filterMap lq)):=by
 have gP:=nX (P:=P) (w:=w) T B;refine T.GV.fn.ok HA iI (λcdv A outer s H vs Q E hr h=>?_);obtain⟨u,ys,rfl,hy,hn,k⟩:=h;refine⟨_,(az (aH (gU (own:=[("symbol",1)]) rfl HA.nd (PI.or (oO (pv 0)) (d8 (pv 0))) (eu (N:=["symbols","symbol"]) (sc:=aC A4) (by decide+kernel)) (λs H C cl fp=>(bh (i:=1) HA.nd rfl (Or.inl rfl))) (λs H C cl fp=>(tE (sV (di (aE T.mU gP hr (aa (pv 1) af)))))) (λs H C cl fp=>(gJ (aa (bD (r:=cX K) gk (pv 1) bK (λ_ _=>rfl)) (aa (bD (r:=cX K) gk (pv 1) bK (λ_ _=>rfl)) af))))))),?_⟩;refine B8 (lq) (G:=λ_=>mQ aW aW) rfl hy bC (aG hn (by decide)) (λ_=>xT bE bE) (λD=>jm (Nz qm qm) D) (λD x m hD hm hx H1 Nx s1 hl kF kT=>?_) λD zs H' hD e1 e2 e3=>k _ _ e2 hD ⟨D,zs,rfl,e1,e3⟩;refine⟨rfl,⟨_,rfl,x,m,rfl,bC _ _ _ _ s1 hx,trivial,λv H2 s2 hv=>⟨_,hv,?_⟩⟩⟩;have kJ:=bC _ _ _ _ (s1.trans s2) hx;cases m with
 |non j=>exact aY (kF rfl _ s2)
 |range lo hi=>exact bf ⟨_,rfl,Pa kJ ⟨_,rfl,Yj kJ ⟨(by show 2<=sizeLine;decide),λp hp=>kT _ _ _ rfl (s2.trans (Sm.new hp)) ⟨p,_,_,rfl,aA,rfl,rfl⟩⟩⟩⟩
theorem Yq:aP ["symbols","place"] ["symbols","place"] (aC Gd):=aV
theorem Yr(xs:List V)(k:Nat):mK xs none (some (k:Int))=xs.take k:=by
 unfold mK;rw[HT.Mf,HT.uX,zl,JC];by_cases h:k<=xs.length
 .rw[JV h]
 .rw[Nat.min_eq_right (by omega),ja,qP (by omega)]
theorem Ys(xs:List V)(k:Nat):mK xs (some (k:Int)) none=xs.drop k:=by
 unfold mK;rw[HT.Mf,HT.uX];by_cases h:k<=xs.length
 .rw[JV h,qP (by rw[pN];exact aF _)]
 .rw[Nat.min_eq_right (by omega),qQ,ab5 (by omega)]
  simp
theorem Po{α:Type}{R:Rep α}{ms:List α}(mR:Mn R)(h:bH R H v ms)(h0:0<ms.length)(q:∀u H',Sm H H'->bH R H' u (ms.drop (k+1))->Q u H'):uY K v (some ((k:Int)+1)) none H Q:=by
 unfold uY;obtain⟨a,vs,e,h1,h2⟩:=h;have hl:=eW h2;refine⟨a,vs,e,aM.of h1,?_,λp hp=>?_⟩
 .have:=HT.uX vs.length 0 (k+1)
  rw[show((k:Int)+1)=((k+1:Nat):Int)by omega,this];omega
 .rw[show((k:Int)+1)=((k+1:Nat):Int)by omega,Ys]
  exact q _ _ (Sm.new hp) ⟨p,_,rfl,aA,mS mR (Sm.new hp) (Nr _ h2)⟩
theorem Yt{α:Type}{R:Rep α}{ms:List α}(mR:Mn R)(h:bH R H v ms)(hk:k<ms.length)(q:∀u H',Sm H H'->bH R H' u (ms.take k)->Q u H'):uY K v none (some (k:Int)) H Q:=by
 unfold uY;obtain⟨a,vs,e,h1,h2⟩:=h;have hl:=eW h2;refine⟨a,vs,e,aM.of h1,?_,λp hp=>?_⟩
 .rw[HT.uX]
  omega
 .rw[Yr]
  exact q _ _ (Sm.new hp) ⟨p,_,rfl,aA,mS mR (Sm.new hp) (Nt _ h2)⟩
theorem HB{α:Type}{R:Rep α}{ms ns:List α}(mR:Mn R)(h:bH R H u ms)(h2:bH R H v ns)(hl:ms.length+ns.length<=sizeLine)(q:∀x H',Sm H H'->bH R H' x (ms++ns)->Q x H'):tG K u v H Q\/sZ K u v H Q:=by
 unfold tG sZ;cases ms with
 |nil=>
  obtain⟨a,vs,e,h1,hp⟩:=h;cases hp;obtain⟨b,ws,e2,h3,hp2⟩:=h2;exact .inl ⟨a,b,ws,e,e2,aM.of h1,aM.of h3,q _ _ (Sm.refl _) ⟨b,ws,rfl,h3,hp2⟩⟩
 |cons m ms=>
  obtain⟨a,vs,e,h1,hp⟩:=h;obtain⟨b,ws,e2,h3,hp2⟩:=h2;have l1:=eW hp;have l2:=eW hp2;refine .inr ⟨a,b,vs,ws,e,e2,aM.of h1,aM.of h3,(λz=>by rw[z]at l1;cases l1),by omega,λz=>?_,λz p hp'=>?_⟩
  .subst z
   cases hp2;rw[fW]at q;exact q _ _ (Sm.refl _) ⟨a,vs,rfl,h1,hp⟩
  .exact q _ _ (Sm.new hp') ⟨p,_,rfl,aA,mS mR (Sm.new hp') (tK hp hp2)⟩
def nY{α:Type}(l:List α)(k:Nat):List α:=l.take k++l.drop (k+1)
theorem Pp(T:Txt K mg)(B:Bs K mg base tb):br P w K mg base "others_beside" 1 ["symbols","place"] (kH (bH bz) aW (λys k=>k<ys.length/\ys.length<=1000) (bH bz) nY):=by
 refine T.GW.fn.ok Yq mV (λcdv A outer s H vs Q E hr h=>?_);obtain⟨u,ys,u2,n,rfl,hy,hn,⟨p1,p2⟩,k⟩:=h;cases hn;refine⟨_,(az (aH (gj (r:=λx y H Q=>tG K x y H Q\/sZ K x y H Q) (eG.or FG E2) (Au EZ (pv 0) EY (xB (pv 1))) (Au EZ (pv 0) (xB (gj EN (pv 1) bK)) EY)))),?_⟩;refine⟨_,rfl,_,rfl,_,rfl,Yt bC hy p1 λv H1 s1 h1=>?_⟩;refine⟨_,rfl,_,rfl,_,_,rfl,rfl,_,rfl,Po bC (jE bC _ _ _ _ s1 hy) (by omega) λv2 H2 s2 h2=>?_⟩;refine HB bC (jE bC _ _ _ _ s2 h1) h2 ?_ λx H3 s3 h3=>k _ _ ((s1.trans s2).trans s3) h3;rw[pL,pN,show sizeLine=16777216 from wk];omega
def eE(v:List Bool)(y:Sym):Bool:=match y with
 | .non k=>v.getD k false
 | .range _ _=>false
def kK(v:List Bool)(y:Sym):Bool:=match y with
 | .non k=>v.getD k false
 | .range _ _=>true
theorem all_map{α:Type}(f:α->Bool):∀l:List α,(l.map f).all id=l.all f
 |[]=>rfl
 |x::l=>by rw[cD,l6,l6,all_map f l];rfl
theorem any_map{α:Type}(f:α->Bool):∀l:List α,(l.map f).any id=l.any f
 |[]=>rfl
 |x::l=>by rw[cD,jx,jx,any_map f l];rfl
theorem vE{v:List Bool}(h:k<v.length):v[k]?=some (v.getD k false):=by
 rw[cC,bO h];rfl
def Fit(ys:List Sym)(v:List Bool):Prop:=(∀k,Sym.non k∈ys->k<v.length)/\ys.length<=1000
theorem HC:aP ["symbols","hollow","symbol"] ["symbols","hollow"] (aC A7):=aV
theorem vF(T:Txt K mg)(B:Bs K mg base tb):br P w K mg base "all_hollow" 2 ["symbols","hollow"] (kH (rF bz) (ay bA) Fit bA (λys v=>ys.all (eE v))):=by
 have gP:=nX (P:=P) (w:=w) T B;refine T.rI.fn.ok HC mV (λcdv A outer s H vs Q E hr h=>?_);obtain⟨u,ys,u2,v,rfl,hy,hv,⟨p1,p2⟩,k⟩:=h;refine⟨_,(az (aH (fF (Mx rfl) (by rfl) T.Oe boot_all (aa (gU (own:=[("symbol",2)]) rfl HC.nd (PI.or (oO (pv 0)) (d8 (pv 0))) (eu (N:=["symbols","hollow","symbol"]) (sc:=aC A7) (by decide+kernel)) (λs H C cl fp=>(bh (i:=2) HC.nd rfl (Or.inl rfl))) (λs H C cl fp=>fZ) (λs H C cl fp=>(NF (aE T.mU gP hr (aa (pv 2) af)) (bD (r:=bX K) dW (pv 1) (bD (r:=cX K) gk (pv 2) bK (λ_ _=>rfl)) (λ_ _=>rfl))))) af)))),?_⟩;refine B8 (λy=>some (eE v y)) (G:=λ_=>bA) rfl hy bC (aG p2 (by decide)) (λ_=>dH) (λD=>jm qo D) (λD x m hD hm hx H1 Nx s1 hl kF kT=>?_) λD zs H' hD e1 e2 e3=>?_
 .refine⟨rfl,jr ⟨_,rfl,x,m,rfl,bC _ _ _ _ s1 hx,trivial,λz H2 s2 hz=>⟨_,hz,?_⟩⟩⟩
  have kJ:=bC _ _ _ _ (s1.trans s2) hx;have nZ:=aI dH _ _ _ _ (s1.trans s2) hv;cases m with
  |non j=>exact bf ⟨_,rfl,_,rfl,oY kJ (f7 nZ (vE (p1 j hm)) λu hu=>kT _ _ _ rfl s2 hu)⟩
  |range lo hi=>exact aY (kT _ _ _ rfl s2 rfl)
 .rw[filterMap_some]at e3
  refine Pb ⟨D,zs,rfl,e1,e3⟩ ?_;rw[all_map];exact k _ _ e2 rfl
theorem HD:aP ["symbols","productive","a"] ["symbols","productive"] (aC A8):=aV
theorem HE(T:Txt K mg)(B:Bs K mg base tb):br P w K mg base "all_productive" 3 ["symbols","productive"] (kH (rF bz) (ay bA) Fit bA (λys v=>ys.all (kK v))):=by
 have yu:=Hz (P:=P) (w:=w) T B;refine T.yi.fn.ok HD mV (λcdv A outer s H vs Q E hr h=>?_);obtain⟨u,ys,u2,v,rfl,hy,hv,⟨p1,p2⟩,k⟩:=h;refine⟨_,(az (aH (fF (Mx rfl) (by rfl) T.Oe boot_all (aa (gU (own:=[("a",2)]) rfl HD.nd (d8 (aE T.BN yu hr (aa (pv 0) af))) (eu (N:=["symbols","productive","a"]) (sc:=aC A8) (by decide+kernel)) (λs H C cl fp=>(bh (i:=2) HD.nd rfl (Or.inl rfl))) (λs H C cl fp=>fZ) (λs H C cl fp=>(bD (r:=bX K) dW (pv 1) (pv 2) (λ_ _=>rfl)))) af)))),?_⟩;have hnl:(nonsIn ys).length<=1000:=aG (wF _ _) p2;refine oZ (λa=>some (v.getD a false)) (G:=λ_=>bA) (λQ' k'=>⟨_,rfl,u,ys,rfl,hy,p2,λz H1 s1 _ hz=>k' _ _ s1 hz⟩) bE (aG hnl (by decide)) (λ_=>dH) (λD=>jm qo D) (λH0 D x m s1 hD hm hx H1 Nx s2 hl kF kT=>?_) λD zs H' hD e1 e2 e3=>?_
 .cases hx
  have nZ:=aI dH _ _ _ _ (s1.trans s2) hv;exact⟨rfl,jr ⟨_,rfl,_,rfl,f7 nZ (vE (p1 m (jb.mp hm))) λu hu=>kT _ _ _ rfl (Sm.refl _) hu⟩⟩
 .rw[filterMap_some]at e3
  refine Pb ⟨D,zs,rfl,e1,e3⟩ ?_;rw[all_map];have e:(nonsIn ys).all (λa=>v.getD a false)=ys.all (kK v):=by
   clear hnl k p1 p2 hy e3
   induction ys with
   |nil=>rfl
   |cons y ys ih=>
    cases y with
    |non j=>
     show((v.getD j false)&&(nonsIn ys).all _)=_;rw[ih];rfl
    |range lo hi=>
     show(nonsIn ys).all _=_;rw[ih];rfl
  rw[e];exact k _ _ e2 rfl
theorem HF:aP ["symbols","growing","symbol"] ["symbols","growing"] (aC Ba):=aV
theorem Pq(T:Txt K mg)(B:Bs K mg base tb):br P w K mg base "some_growing" 2 ["symbols","growing"] (kH (rF bz) (ay bA) Fit bA (λys v=>ys.any (kK v))):=by
 have gP:=nX (P:=P) (w:=w) T B;refine T.BQ.fn.ok HF mV (λcdv A outer s H vs Q E hr h=>?_);obtain⟨u,ys,u2,v,rfl,hy,hv,⟨p1,p2⟩,k⟩:=h;refine⟨_,(az (aH (fF (AB rfl) (by rfl) T.BL boot_any (aa (gU (own:=[("symbol",2)]) rfl HF.nd (PI.or (oO (pv 0)) (d8 (pv 0))) (eu (N:=["symbols","growing","symbol"]) (sc:=aC Ba) (by decide+kernel)) (λs H C cl fp=>(bh (i:=2) HF.nd rfl (Or.inl rfl))) (λs H C cl fp=>fZ) (λs H C cl fp=>(xU (Ut (aE T.mU gP hr (aa (pv 2) af))) (bD (r:=bX K) dW (pv 1) (bD (r:=cX K) gk (pv 2) bK (λ_ _=>rfl)) (λ_ _=>rfl))))) af)))),?_⟩;refine B8 (λy=>some (kK v y)) (G:=λ_=>bA) rfl hy bC (aG p2 (by decide)) (λ_=>dH) (λD=>jm qo D) (λD x m hD hm hx H1 Nx s1 hl kF kT=>?_) λD zs H' hD e1 e2 e3=>?_
 .refine⟨rfl,jr ⟨_,rfl,x,m,rfl,bC _ _ _ _ s1 hx,trivial,λz H2 s2 hz=>⟨_,hz,_,rfl,?_⟩⟩⟩
  have kJ:=bC _ _ _ _ (s1.trans s2) hx;have nZ:=aI dH _ _ _ _ (s1.trans s2) hv;cases m with
  |non j=>exact aY ⟨_,rfl,_,rfl,oY kJ (f7 nZ (vE (p1 j hm)) λu hu=>kT _ _ _ rfl s2 hu)⟩
  |range lo hi=>exact bf (kT _ _ _ rfl s2 rfl)
 .rw[filterMap_some]at e3
  refine B7 ⟨D,zs,rfl,e1,e3⟩ ?_;rw[any_map];exact k _ _ e2 rfl
theorem Yu{α:Type}{R:Rep α}{Hb:Hp}{ms:List α}{x:α}(h:ay R Hb v ms)(s:Sm Hb H)(hk:ms[k]?=some x)(q:∀u,R Hb u x->Q u H):bX K v (.int (k:Nat)) H Q:=by
 obtain⟨a,vs,e,h1,h2⟩:=h;obtain⟨u,hu,r⟩:=FO h2 hk;unfold bX;exact⟨a,vs,_,u,e,rfl,aU.of (Sm.at s h1),xC hu,q u r⟩
theorem Yv{α:Type}(x:α)(n:Nat):(List.replicate n [x]).flatten=List.replicate n x:=by
 induction n with
 |zero=>rfl
 |succ n ih=>rw[wz,Dd,ih,wz];rfl
theorem yw{l:Addr}{y:V}(h:H l=some (.lst xs))(hl:xs.length<sizeLine)(q:Q .non (upd H l (.lst (xs++[y])))):tu (.ref l) [y] H Q:=by unfold tu;exact⟨l,xs,y,rfl,rfl,h,hl,q⟩
theorem Yw{l:Addr}{y:V}(h:H l=some (.lst xs))(a:xs[xs.length-1]?=some y)(b:Q y (upd H l (.lst xs.dropLast))):u0 (.ref l) [] H Q:=by unfold u0;exact⟨l,xs,y,rfl,rfl,h,a,b⟩
theorem Pr{l:Addr}{x:V}(h:H l=some (.lst [x]))(hn:n<=1000)(q:∀p,H p=none->Q (.ref p) (upd H p (.lst (List.replicate n x)))):Aw (.ref l) (.int (n:Nat)) H Q:=by
 unfold Aw;refine⟨l,_,_,rfl,rfl,h,by omega,by omega,?_,λp hp=>?_⟩
 .rw[oz,show sizeLine=16777216 from wk]
  show 1*n<=_;omega
 .rw[oz,Yv]
  exact q p hp
theorem Yx(v:List Bool)(k:Nat):(v.map V.bl).set k (.bl true)=(v.set k true).map V.bl:=by rw[List.map_set]
def yx(st:List (List Nat))(a:Nat):Prop:=jB st.length st/\a<st.length/\st.length<=1000
theorem tY:aP ["steps","begin","reached","waiting","here","there","a"] ["steps","begin"] (aC A5):=aV
theorem tZ(T:Txt K mg)(B:Bs K mg base tb):br P w K mg base "led_to" 1 ["steps","begin"] (tX (ay (ay aW)) aW yx (ay aW) (λst a=>dg st.length st a)):=by
 refine T.rH.fn.ok tY vD (λcdv A outer s H vs Q E hr h=>?_);obtain⟨u,st,u2,a,rfl,dj,ha,⟨hs,aR,hn⟩,k⟩:=h;cases ha;refine⟨_,(aq (aN (i:=2) tY.nd rfl (Or.inr rfl) (gj Mt (bL (aa oK af)) (fF j4 (by rfl) T.jY kU (aa (pv 0) af))))
   (aq (aN (i:=3) tY.nd rfl (Or.inl rfl) (bL (aa (pv 1) af)))
   (aq (EK eF (ER (pv 3) (λ_=>rfl))
    (aq (aN (i:=4) tY.nd rfl (Or.inl rfl) (Mq gc RK ab6 Ms (pv 3)))
   (az (eV eF rfl (d8 (bD (r:=bX K) dW (pv 0) (pv 4) (λ_ _=>rfl))) (bh (i:=5) tY.nd rfl (Or.inl rfl))
    (az (cN (sV (di (bD (r:=bX K) dW (pv 2) (pv 5) (λ_ _=>rfl)))) (aq (EJ oK (EI (pv 2) (pv 5) set_list))
   (az (gi (gm gc kc kW jU (pv 3) (aa (pv 5) af))))) cP))))))
   (az (aH (gU (own:=[("a",6)]) rfl tY.nd (jR rfl T.jZ (aa (fF j4 (by rfl) T.jY kU (aa (pv 0) af)) af)) (eu (N:=["steps","begin","reached","waiting","here","there","a"]) (sc:=aC A5) (by decide+kernel)) (λs H C cl fp=>(bh (i:=6) tY.nd rfl (Or.inl rfl))) (λs H C cl fp=>(tE (di (bD (r:=bX K) dW (pv 2) (pv 6) (λ_ _=>rfl))))) (λs H C cl fp=>(pv 6)))))))),?_⟩
 refine⟨(by show 1<=sizeLine;decide),λp0 mY=>⟨_,rfl,mW (aI (aI bE) _ _ _ _ (Sm.new mY) dj) ?_⟩⟩;refine Pr aA hn λR hR=>?_;refine⟨_,rfl,(by show 1<=sizeLine;decide),λW hW=>?_⟩;have s0:Sm H (upd H p0 (.lst [.bl false])):=Sm.new mY;have s1:=s0.trans (Sm.new (o:=.lst (List.replicate st.length (.bl false))) hR);have s2:=s1.trans (Sm.new (o:=.lst [.int (a:Nat)]) hW);have hR0:H R=none:=s0.free hR;have hW0:H W=none:=s1.free hW;have nRW:R≠W:=λe=>by rw[<-e,aA]at hW;cases hW
 refine Hr (λm σ H2=>∃(h t:Option V) (v:List Bool) (ws:List Nat),m=2*mj v+ws.length/\m<=2*st.length+1/\σ=[some u,some (.int (a:Nat)),some (.ref R),some (.ref W),h,t,none]/\Sm H H2/\H2 R=some (.lst (v.map V.bl))/\H2 W=some (.lst (ws.map λn:Nat=>V.int (n:Int)))/\Led st.length st a v ws)
  ⟨_,none,none,List.replicate st.length false,[a],rfl,?_,rfl,s2,?_,aA,Tf⟩ ?_ (λσ H Q Q' hq ⟨v,e,b,tr,q⟩=>⟨v,e,b,tr,hq _ _ q⟩)
 .have:mj (List.replicate st.length false)<=st.length:=by
   unfold mj;exact aG abP (by rw[i9];exact aF _)
  show 2*_+1<=_;omega
 .rw[aJ nRW,aA,List.map_replicate]
 .rintro m σ H2 ⟨h,t,v,ws,rfl,hm,rfl,s3,e1,e2,L⟩
  refine⟨_,rfl,!ws.isEmpty,.inl ⟨_,aU.of e2,by rw[List.isEmpty_map]⟩,?_⟩;cases hw:ws with
  |nil=>
   subst hw;refine aY ?_;have jJ:ay bA H2 (.ref R) v:=⟨R,_,rfl,e1,AU (f:=V.bl) (g:=id) v (λ_ _=>rfl)|>λq=>by simpa using q⟩;refine tW (n:=st.length) (λx=>if v.getD x false then some x else none) (G:=λ_=>aW) (λQ' k'=>⟨_,rfl,mW (aI (aI bE) _ _ _ _ s3 dj) (k' _ (Sm.refl _))⟩) hn (λ_=>bE) (λD=>jm qm D) (λH1 D x s4 hD hx H3 Nx s5 hl kF kT=>?_) λD zs H' hD q1 q2 q3=>?_
   .refine⟨rfl,_,rfl,_,rfl,f7 (aI dH _ _ _ _ (s4.trans s5) jJ) (vE (by rw[L.len];exact hx)) λy hy=>⟨_,hy,?_⟩⟩
    cases hv:v.getD x false with
    |true=>exact bf ⟨_,rfl,kT _ _ _ (by rw[hv];rfl) (Sm.refl _) rfl⟩
    |false=>exact aY (kF (by rw[hv];rfl) _ (Sm.refl _))
   .rw[vB,Th hs L]at q3
    exact k _ _ (s3.trans q2) (s3.free hD) ⟨D,zs,rfl,q1,q3⟩
  |cons w0 wr=>
   obtain⟨wi,here,hwe⟩:∃wi here,w0::wr=wi++[here]:=⟨(w0::wr).dropLast,(w0::wr).getLast (by simp),(List.dropLast_concat_getLast (by simp)).symm⟩;rw[hwe]at hw;subst hw;refine bf ?_;have hh:here=a\/On v here:=L.wait here (by simp);have hlh:here<st.length:=by
    rcases hh with e|e
    .rw[e];exact aR
    .unfold On at e
     rw[<-L.len];exact(cU.mp e).1
   refine⟨_,rfl,.inl ⟨rfl,_,aU.of e2⟩,Yw (y:=.int (here:Nat)) e2 ?_ ?_⟩
   .rw[aK,aX,qK]
    show(_++[_])[wi.length+1-1]?=_;rw[r8 (by rw[aK];omega),aK];simp
   .rw[qK,List.dropLast_append_of_ne_nil (by simp)]
    simp only[cD,zq,List.dropLast_singleton,fW];have s4:Sm H (upd H2 W (.lst (wi.map λn:Nat=>V.int (n:Int)))):=Sm.wrL s3 hW0 e2;have e3:upd H2 W (.lst (wi.map λn:Nat=>V.int (n:Int))) R=some (.lst (v.map V.bl)):=by rw[aJ nRW];exact e1
    refine jq (ms:=st[here]) (R:=aW) (λx H1=>ay aW H x st[here]/\H1=upd H2 W (.lst (wi.map λn:Nat=>V.int (n:Int)))) (λQ' k'=>⟨_,rfl,_,rfl,Yu dj s4 (bO hlh) λx hx=>k' _ _ ⟨hx,rfl⟩⟩) ?_;rintro x H1 ⟨hx,rfl⟩;refine⟨λi σ H3=>∃(t:Option V) (v':List Bool) (w':List Nat),2*mj v'+w'.length<=2*st.length+1/\v'.length=st.length/\σ=[some u,some (.int (a:Nat)),some (.ref R),some (.ref W),some (.int (here:Nat)),t,none]/\Sm H H3/\H3 R=some (.lst (v'.map V.bl))/\H3 W=some (.lst (w'.map λn:Nat=>V.int (n:Int)))/\nA v' w' (st[here].drop i)=nA v wi st[here],
     ⟨t,v,wi,?_,L.len,rfl,s4,e3,aA,rfl⟩,λi σ H3 ⟨_,_,_,_,_,_,q,_⟩=>aI bE _ _ _ _ q hx,?_,?_⟩
    .rw[aX]at hm
     have:([here]:List Nat).length=1:=rfl;omega
    .rintro i y y' σ H3 hy hyr ⟨t,v',w',hm',kg,rfl,s5,f1,f2,f3⟩
     cases hyr;have hys:y'<st.length:=hs.lt _ (List.getElem_mem hlh) _ (cE hy);rw[sj (cU.mp hy).1,(cU.mp hy).2]at f3;have iJ:ay bA H3 (.ref R) v':=⟨R,_,rfl,f1,AU (f:=V.bl) (g:=id) v' (λ_ _=>rfl)|>λq=>by simpa using q⟩;refine⟨_,rfl,_,rfl,f7 iJ (vE (by rw[kg];exact hys)) λz hz=>⟨_,hz,?_⟩⟩;cases hv:v'.getD y' false with
     |true=>
      refine aY ?_;refine⟨_,v',w',hm',kg,rfl,s5,f1,f2,?_⟩;rw[<-f3];show _=nA v' w' (y'::_)
      conv=>rhs;unfold nA
      rw[aj hv]
     |false=>
      refine bf ?_;have hv0:v'[y']?=some false:=by rw[vE (by rw[kg];exact hys),hv]
      have hun:=Ek hv0;refine⟨_,rfl,_,rfl,R,_,_,y',rfl,rfl,f1,?_,?_⟩
      .rw[aK]
       unfold nM;rw[aj (by omega),aj (by omega),oz]
      .rw[Yx]
       have f4:upd H3 R (.lst ((v'.set y' true).map V.bl)) W=some (.lst (w'.map λn:Nat=>V.int (n:Int))):=by rw[aJ (cS nRW)];exact f2
       refine⟨_,rfl,.inl ⟨rfl,_,aU.of f4⟩,_,rfl,yw f4 ?_ ?_⟩
       .rw[aK,show sizeLine=16777216 from wk]
        omega
       .refine⟨_,v'.set y' true,w'++[y'],?_,by rw[v7];exact kg,rfl,Sm.wrL (Sm.wrL s5 hR0 f1) hW0 f4,by rw[aJ nRW];exact aA,by rw[qK];exact aA,?_⟩
        .rw[aX]
         have:([y']:List Nat).length=1:=rfl;omega
        .rw[<-f3]
         show _=nA v' w' (y'::_)
         conv=>rhs;unfold nA
         rw[ai (by rw[hv];decide)]
    .rintro σ H3 ⟨t,v',w',hm',kg,rfl,s5,f1,f2,f3⟩
     rw[qQ]at f3;obtain⟨v2,w2,g1,g2,g3⟩:=Tg hs L (bO hlh);rw[g1]at f3;have f3:(v',w')=(v2,w2):=f3;cases f3;exact⟨_,(by rw[hwe];exact g3),_,_,v',w',rfl,by omega,rfl,s5,f1,f2,g2⟩
theorem HG:aP ["steps","a"] ["steps"] (aC A6):=aV
theorem Pu(T:Txt K mg)(B:Bs K mg base tb):br P w K mg base "returning_marks" 2 ["steps"] (gO (ay (ay aW)) (λst=>jB st.length st/\st.length<=1000) (ay bA) (λst=>(List.range st.length).map λa=>Vaglrc.has a (dg st.length st a))):=by
 have lP:=tZ (P:=P) (w:=w) T B;refine T.GX.fn.ok HG iI (λcdv A outer s H vs Q E hr h=>?_);obtain⟨u,st,rfl,dj,⟨hs,hn⟩,k⟩:=h;refine⟨_,(az (aH (gU (own:=[("a",1)]) rfl HG.nd (jR rfl T.jZ (aa (fF j4 (by rfl) T.jY kU (aa (pv 0) af)) af)) (eu (N:=["steps","a"]) (sc:=aC A6) (by decide+kernel)) (λs H C cl fp=>(bh (i:=1) HG.nd rfl (Or.inl rfl))) (λs H C cl fp=>fZ) (λs H C cl fp=>(lA (r:=rIn K false) xD (pv 1) (aE T.rH lP hr (aa (pv 0) (aa (pv 1) af))) rfl))))),?_⟩;refine tW (n:=st.length) (λa=>some (Vaglrc.has a (dg st.length st a))) (G:=λ_=>bA) (λQ' k'=>⟨_,rfl,mW dj (k' _ (Sm.refl _))⟩) hn (λ_=>dH) (λD=>jm qo D) (λH1 D x s4 hD hx H3 Nx s5 hl kF kT=>?_) λD zs H' hD q1 q2 q3=>?_
 .refine⟨rfl,jr ⟨_,rfl,_,rfl,_,rfl,_,st,_,x,rfl,aI (aI bE) _ _ _ _ (s4.trans s5) dj,rfl,⟨hs,hx,hn⟩,λv H4 s6 _ hv=>yq hv (kT _ _ _ rfl s6 rfl)⟩⟩
 .rw[filterMap_some]at q3
  exact k _ _ q2 hD ⟨D,zs,rfl,q1,q3⟩
structure Enc(K:Frag){α:Type}(R:Rep α)(enc:α->PyData):Prop where
 dp:∀H v x,R H v x->Dp K H v (enc x)
 sh:∀x,SeqAt.shaped (enc x)=true
 eq:∀x y,PyData.eqv (enc x) (enc y)=true↔x=y
 mn:Mn R
 lx:Lx R
def Cd{α:Type}(C:Hp->Prop)(R:Rep α)(J:List α->Prop)(imp:α->List Sym->List α->α):Sp:=λvs H Q _=>∃u k us ys uv v,vs=[u,us,uv]/\C H/\R H u k/\bH bz H us ys/\ay R H uv v/\(∀a,Sym.non a∈ys->a<v.length)/\ys.length<=8/\k∈v/\J v/\Ret R (imp k ys v) H Q
def HH{α:Type}(mg:Str->Option Value)(f:Addr)(C:Hp->Prop)(R:Rep α)(J:List α->Prop)(imp:α->List Sym->List α->α):Sp:=λvs H Q _=>∃u b n ur rules,vs=[u,.int (n:Nat),ur,.ref f]/\C H/\R H u b/\n<=1000/\ay (bF mg) H ur rules/\(∀r∈rules,qS n r)/\J (List.replicate n b)/\(∀v r,r∈rules->v.length=n->J v->J (ee imp v r))/\
 (∃N,Fix imp rules (passes imp rules N (List.replicate n b)))/\∀p H' j,Sm H H'->H p=none->Fix imp rules (passes imp rules j (List.replicate n b))->ay R H' (.ref p) (passes imp rules j (List.replicate n b))->Q (.ref p) H'
theorem yy{α:Type}:∀{l:List α} {i:Nat} {x:α},l[i]?=some x->l.set i x=l
 |[],_,_,h=>by simp at h
 |a::l,0,x,h=>by
  have e:a=x:=Option.some.inj h;rw[e];rfl
 |a::l,i+1,x,h=>by
  show a::l.set i x=a::l;rw[yy (l:=l) (i:=i) h]
theorem Yy(h:k<n):nM n (k:Int)=some k:=by
 unfold nM;rw[aj (by omega),aj (by omega),oz]
theorem rO:aP ["begin","size","rules","improved","values","changed","rule","known","value"] ["begin","size","rules","improved"] (aC Ge):=aV
theorem HJ{α:Type}{R:Rep α}{enc:α->PyData}{C:Hp->Prop}{J:List α->Prop}{imp:α->List Sym->List α->α}{f:Addr}(T:Txt K mg)(e:Enc K R enc)(hC:∀H h,bU P w H h->K.In h->C H->∃(o:Obj) (fd:FuncData),h.get? f=some o/\o.data=.func fd)(mC:∀H H',Sm H H'->C H->C H')(F:cH P w K mg base eB 12 f fd ps (Cd C R J imp))(hb:Binds K fd ps []):br P w K mg base "settled" 13 ["begin","size","rules","improved"] (HH mg f C R J imp):=by
 refine T.BO.fn.ok rO (λ_ _ _ _ ⟨_,_,_,_,_,e,_⟩=>by rw[e];rfl) (λcdv A outer s H vs Q E hr h=>?_);obtain⟨u,b,n,ur,rules,rfl,c0,hu,hn,gw,hro,j0,jS,⟨N,hN⟩,k⟩:=h;refine⟨_,(aq (aN (i:=4) rO.nd rfl (Or.inl rfl) (gj Mt (bL (aa (pv 0) af)) (pv 1)))
  (aq (aN (i:=5) rO.nd rfl (Or.inl rfl) oK)
  (aq (EK eF (di (pv 5))
   (aq (aN (i:=5) rO.nd rfl (Or.inl rfl) oK)
   (az (eV eF rfl (d8 (pv 2)) (bh (i:=6) rO.nd rfl (Or.inl rfl))
    (aq (aN (i:=7) rO.nd rfl (Or.inl rfl) (bD (r:=bX K) dW (pv 4) (aO (K:=K) rfl (pv 6) rfl) (λ_ _=>rfl)))
    (aq (aN (i:=8) rO.nd rfl (Or.inl rfl) (W9 (i:=3) hC F hr rfl (Or.inl rfl) hb (aa (pv 7) (aa (aO (K:=K) rfl (pv 6) rfl) (aa (pv 4) af)))))
    (az (cN (fE (VS hr.units) (pv 8) (pv 7) (eK _)) (aq (EJ (pv 8) (EI (pv 4) (aO (K:=K) rfl (pv 6) rfl) set_list)) (az (aN (i:=5) rO.nd rfl (Or.inl rfl) oK))) cP))))))))
  (az (aH (pv 4)))))),?_⟩
 have v0L:∀j,(passes imp rules j (List.replicate n b)).length=n:=λj=>by rw[qU,i9]
 refine⟨_,rfl,(by show 1<=sizeLine;decide),λp0 mY=>⟨_,rfl,Pr aA hn λD hD=>?_⟩⟩;have s0:Sm H (upd H p0 (.lst [u])):=Sm.new mY;have s1:=s0.trans (Sm.new (o:=.lst (List.replicate n u)) hD);have hD0:H D=none:=s0.free hD;have hJ:∀j,J (passes imp rules j (List.replicate n b)):=λj=>(DI (J:=λv=>v.length=n/\J v) imp rules (λv r hr q=>⟨by rw[oA];exact q.1,jS v r hr q.1 q.2⟩) j ⟨i9,j0⟩).2;refine Hr (λm σ H2=>∃(c:Bool) (x6 x7 x8:Option V) (j:Nat),m=(if c then N+2-j else 0)/\(c=true->j<=N)/\(c=false->Fix imp rules (passes imp rules j (List.replicate n b)))/\σ=[some u,some (.int (n:Nat)),some ur,some (.ref f),some (.ref D),some (.bl c),x6,x7,x8]/\Sm H H2/\ay R H2 (.ref D) (passes imp rules j (List.replicate n b)))
  ⟨_,true,none,none,none,0,rfl,λ_=>cM _,λz=>(by cases z),rfl,s1,D,_,rfl,aA,Nq (e.mn _ _ _ _ s1 hu) n⟩ ?_ (λσ H Q Q' hq ⟨v,e,b,tr,q⟩=>⟨v,e,b,tr,hq _ _ q⟩)
 rintro m σ H2 ⟨c,x6,x7,x8,j,rfl,hj,hf,rfl,s2,hv⟩;refine⟨_,rfl,c,rfl,?_⟩;cases c with
 |false=>exact aY ⟨_,rfl,k D H2 j s2 hD0 (hf rfl) hv⟩
 |true=>
  refine bf ?_;refine jq (ms:=rules) (R:=bF mg) (λx H1=>x=ur/\H1=H2) (λQ' k'=>⟨_,rfl,k' _ _ ⟨rfl,rfl⟩⟩) ?_;rintro x H1 ⟨rfl,rfl⟩;refine⟨λi σ H3=>∃(c:Bool) (x6 x7 x8:Option V),(Fix imp rules (passes imp rules j (List.replicate n b))->c=false/\pass imp (rules.take i) (passes imp rules j (List.replicate n b))=passes imp rules j (List.replicate n b))/\(c=false->pass imp (rules.take i) (passes imp rules j (List.replicate n b))=passes imp rules j (List.replicate n b)/\∀r∈rules.take i,∀k,(passes imp rules j (List.replicate n b))[r.lhs]?=some k->imp k r.rhs (passes imp rules j (List.replicate n b))=k)/\
   σ=[some u,some (.int (n:Nat)),some x,some (.ref f),some (.ref D),some (.bl c),x6,x7,x8]/\Sm H H3/\ay R H3 (.ref D) (pass imp (rules.take i) (passes imp rules j (List.replicate n b))),
   ⟨false,x6,x7,x8,λ_=>⟨rfl,rfl⟩,λ_=>⟨rfl,λr hr=>by cases hr⟩,rfl,s2,hv⟩,λi σ H3 ⟨_,_,_,_,_,_,_,q,_⟩=>aI cY _ _ _ _ q gw,?_,?_⟩
  .rintro i y r σ H3 g6 hy ⟨c,x6,x7,x8,g1,g2,rfl,s3,h3⟩
   generalize hv0:passes imp rules j (List.replicate n b)=v at*
   have Ce:=hro r (cE g6);have vl:v.length=n:=by rw[<-hv0];exact v0L j
   have cl:(pass imp (rules.take i) v).length=n:=by rw[DG];exact vl
   have step:pass imp (rules.take (i+1)) v=ee imp (pass imp (rules.take i) v) r:=by
    rw[take_snoc g6];unfold pass;rw[RT];rfl
   obtain⟨kn,hk⟩:∃kn,(pass imp (rules.take i) v)[r.lhs]?=some kn:=⟨_,bO (by rw[cl];exact Ce.lhs)⟩;have stp:ee imp (pass imp (rules.take i) v) r=(pass imp (rules.take i) v).set r.lhs (imp kn r.rhs (pass imp (rules.take i) v)):=by
    unfold ee;rw[hk]
   refine⟨_,rfl,_,rfl,kI T hy (f7 h3 hk λz hz=>?_)⟩;have hJi:J (pass imp (rules.take i) v):=by
    have h0:v.length=n/\J v:=⟨vl,by rw[<-hv0];exact hJ j⟩;exact(zA (J:=λv=>v.length=n/\J v) imp (rules.take i) (λv r hr q=>⟨by rw[oA];exact q.1,jS v r (pO hr) q.1 q.2⟩) h0).2
   refine⟨rfl,_,rfl,_,rfl,jo T hy λus dF=>⟨_,rfl,mC _ _ s3 c0,_,kn,us,r.rhs,_,pass imp (rules.take i) v,rfl,mC _ _ s3 c0,hz,dF,h3,?_,Ce.cA,cE hk,hJi,λy2 H4 s4 hy2=>?_⟩⟩
   .intro a ha
    rw[cl];exact Ce.rhs _ ha
   .have hz4:=e.mn _ _ _ _ s4 hz
    refine⟨_,rfl,_,rfl,_,_,e.dp _ _ _ hy2,e.dp _ _ _ hz4,e.sh _,e.sh _,_,rfl,?_⟩;have h4:=aI e.mn _ _ _ _ s4 h3;cases hq:PyData.eqv (enc (imp kn r.rhs (pass imp (rules.take i) v))) (enc kn)with
    |true=>
     have q:=(e.eq _ _).mp hq;refine aY ?_;have same:pass imp (rules.take (i+1)) v=pass imp (rules.take i) v:=by
      rw[step,stp,q];exact yy hk
     refine⟨c,_,_,_,λz=>?_,λz=>?_,rfl,s3.trans s4,by rw[same];exact h4⟩
     .rw[same];exact g1 z
     .rw[same]
      obtain⟨q1,q2⟩:=g2 z;refine⟨q1,λr' n6=>?_⟩;rw[take_snoc g6]at n6;rcases eZ.mp n6 with m|m
      .exact q2 r' m
      .have:r'=r:=by simpa using m
       subst this;intro k2 hk2;rw[q1]at hk q;rw[hk]at hk2;cases hk2;exact q
    |false=>
     refine bf ?_;obtain⟨D',xs,e1,e2,e3⟩:=h4;cases e1;have hlx:xs.length=n:=by rw[eW e3];exact cl
     refine⟨_,rfl,_,rfl,_,rfl,kI T (cY _ _ _ _ s4 hy) ⟨D,xs,_,r.lhs,rfl,rfl,e2,by rw[hlx];exact Yy Ce.lhs,?_⟩⟩;have s5:Sm H (upd H4 D (.lst (xs.set r.lhs y2))):=Sm.wrL (s3.trans s4) hD0 e2;refine⟨true,_,_,_,λz=>?_,λz=>(by cases z),rfl,s5,D,_,rfl,aA,?_⟩
     .exfalso
      obtain⟨_,q1⟩:=g1 z;rw[q1]at hk hq;have:=z r (cE g6) kn hk;rw[this]at hq;rw[(e.eq kn kn).mpr rfl]at hq;cases hq
     .rw[step,stp]
      exact Np (jI e.lx D _ _ _ _ _ e2 hy2) (gW (λ_ _ q=>jI e.lx D _ _ _ _ _ e2 q) e3)
  .rintro σ H3 ⟨c,x6,x7,x8,g1,g2,rfl,s3,h3⟩
   rw[ja]at g1 g2 h3;refine⟨_,?_,c,_,_,_,j+1,rfl,λz=>?_,λz=>?_,rfl,s3,h3⟩
   .have hjn:=hj rfl
    rw[aj rfl];cases c with
    |false=>rw[ai (by decide)];omega
    |true=>rw[aj rfl];omega
   .have hjn:=hj rfl
    by_cases q:j=N
    .exfalso
     rw[<-q]at hN;have:=(g1 hN).1;rw[z]at this;cases this
    .omega
   .obtain⟨q1,q2⟩:=g2 z
    show Fix imp rules (pass imp rules _);rw[q1];exact q2
def HK(s:Stmt):Arguments×Expr×Scope:=match iX s with
 |[.Return (some (.Call _ [_,_,_,.Lambda a b sc _] _ _)) _]=>(a,b,sc)
 |_=>(lD s,.Constant .none 0 ⟨0,0,0,0⟩,aC s)
abbrev Cf:Arguments:=(HK vo).1
abbrev Cg:Expr:=(HK vo).2.1
abbrev yz:Scope:=(HK vo).2.2
abbrev rP:Str:="symbols_suffice"
abbrev Pw:List Str:=["known","symbols","marks"]
theorem Yz:FZ Pw rP yz:=⟨rfl,rfl,rfl,by decide+kernel,by decide+kernel,by decide+kernel,rfl,(λx h=>by
 by_cases e:x=rP
 .exact e
 .exfalso
  have e0:∀y:Str,¬x=y->(x==y)=false:=λy q=>ni.mpr q;have h:([((("known":Str)),NameKind.local),("symbols",.local),("marks",.local),("symbols_suffice",.free)]:List (Str×NameKind)).lookup x=some .cell\/([((("known":Str)),NameKind.local),("symbols",.local),("marks",.local),("symbols_suffice",.free)]:List (Str×NameKind)).lookup x=some .free:=h;by_cases e1:x="known"
  .subst e1;revert h;decide+kernel
  .by_cases e2:x="symbols"
   .subst e2;revert h;decide+kernel
   .by_cases e3:x="marks"
    .subst e3;revert h;decide+kernel
    .simp only[l7,e0 _ e1,e0 _ e2,e0 _ e3,e0 _ e]at h
     simp at h),by decide+kernel⟩
theorem YA:Enc K bA .bool:=⟨λH v x h=>by cases h;exact .bl x,λ_=>rfl,λx y=>by cases x<;>cases y<;>decide,dH,Ph⟩
theorem YB{P:Program}{w:World}{K:Frag}{mg:Str->Option Value}{base:Heap}{qual:Str}{st:Stmt}{f:Addr}{N:List Str}{sp:Sp}(F:mL K x qual st f fd)(S:aP N ps (aC st))(len:∀vs H Q E,sp vs H Q E->vs.length=ps.length)(qg:∀(cdv:Value) (A:Around) (outer:List Env) (s:Shared) (H:Hp) (vs:List V) (Q:VK) (E:XK),fd.code=cdv->dB k (A.deeper (envOfC qual (aC st) s.heap.objs.size f cdv))->sp vs H Q E->
   ∃t,fX (mF eB P w K mg base N qual (aC st) f cdv A outer s H E).nox (iX st) t/\t {nx:=λ_ H'=>Q .non H',rt:=Q} (L2.start N vs) H):cH P w K mg base eB (k+1) f fd ps sp:=by
 obtain⟨oc,od,kV,doc,pm,an,cdv,ct,ku,rfl,lk,fY⟩:=F.ex;refine EW lk fY S len λA outer s H vs Q E hr gS=>?_;obtain⟨t,h,q⟩:=qg cdv A outer s H vs Q E rfl hr gS;exact⟨t,h.nox,q⟩
theorem Bs.mono{base b':Heap}(B:Bs K mg base tb)(h:∀b o,base.get? b=some o->b'.get? b=some o):Bs K mg b' tb:=by
 obtain⟨⟨bm,ob,h1,h2,h3,h4⟩,c,h5,h6⟩:=B;exact⟨⟨bm,ob,h1,h2,h _ _ h3,h4⟩,c,h5,h6.keeps h⟩
theorem YC{name qual:Str}{params:Arguments}{body:Expr}{scope:Scope}{cl:List (Str×Addr)}{pm fm:Value}{c' f:Addr}{h:Heap}(aB:bU P w H h)(hl:qp name qual params body scope cl pm fm c' f H):∃(o:Obj) (fd:FuncData),h.get? f=some o/\o.data=.func fd:=by
 have q:=aB f _ hl.1;exact⟨_,_,q.1,rfl⟩
def YD(mg:Str->Option Value)(tb g:Addr)(bM:List Sym->List Bool->Bool):Sp:=λvs H Q _=>∃n ur rules,vs=[.int (n:Nat),ur,.ref g]/\TabAt tb H/\n<=1000/\ay (bF mg) H ur rules/\(∀r∈rules,qS n r)/\
 ∀p H' j,Sm H H'->H p=none->Fix (bW bM) rules (passes (bW bM) rules j (List.replicate n false))->ay bA H' (.ref p) (passes (bW bM) rules j (List.replicate n false))->Q (.ref p) H'
theorem YE:aP ["size","rules","symbols_suffice"] ["size","rules","symbols_suffice"] (aC vo):=aV
theorem HL{a1 a2:Str}{st:Stmt}{bM:List Sym->List Bool->Bool}(T:Txt K mg)(B:Bs K mg base tb)(At:FnAt K mg x st [a1,a2] (adr mg x))(Fg:∀b',(∀b o,base.get? b=some o->b'.get? b=some o)->cH P w K mg b' eB 3 (adr mg x) (fdOf K (adr mg x)) [a1,a2] (kH (rF bz) (ay bA) Fit bA bM)):
  br P w K mg base "settled_marks" 14 ["size","rules","symbols_suffice"] (YD mg tb (adr mg x) bM):=by
 obtain⟨c,dY,fY⟩:=B.cd;refine YB T.BP.fn YE (λ_ _ _ _ ⟨_,_,_,e,_⟩=>by rw[e];rfl) (λcdv A outer s H vs Q E lQ hr h=>?_);obtain⟨n,ur,rules,rfl,ht,hn,gw,hro,k⟩:=h;have lQ:cdv=.ref c:=by rw[<-lQ];exact dY
 subst lQ;have F:∀(b':Heap) (c2 g:Addr),(∀b o,base.get? b=some o->b'.get? b=some o)->b'.IsCell c2 (some (.ref g))->cH P w K mg b' eB 13 (adr mg "settled") (fdOf K (adr mg "settled")) ["begin","size","rules","improved"]
   (λvs H Q E=>∃f c' pm fm,g=adr mg x/\HH mg f (qp "<lambda>" oX Cf Cg yz [(rP,c2)] pm fm c' f) bA (λ_=>True) (bW bM) vs H Q E):=by
  intro b' c2 g hb dD;refine⟨λvs H Q E ⟨_,_,_,_,_,_,_,_,_,_,e,_⟩=>by rw[e];rfl,λA outer s H args us vs Q E hr e0 hbd hv gS=>?_⟩;obtain⟨f,c',pm,fm,rfl,gS⟩:=gS;have Fl:cH P w K mg b' eB 12 f (PySem.W.kla_fn "<lambda>" oX Cf Cg yz [(rP,c2)] pm (.ref c') fm) Pw (Cd (qp "<lambda>" oX Cf Cg yz [(rP,c2)] pm fm c' f) bA (λ_=>True) (bW bM)):=by
   refine W5 (gv:=.ref (adr mg x)) Yz dD rfl (λvs H Q E ⟨_,_,_,_,_,_,e,_⟩=>by rw[e];rfl) (λvs H Q E ⟨_,_,_,_,_,_,_,h,_⟩=>h) (λA outer s H vs Q E hr h=>?_);obtain⟨u,k,us,ys,uv,v,rfl,_,hk,hy,hv,eN,hlen,_,_,q⟩:=h;refine⟨_,xU (pv 0) (AO (i:=3) (Fg b' hb) (hr.mono (by decide)) rfl (Or.inr (Or.inr rfl)) At.fn.kp At.bd .nil fP (aa (pv 1) (aa (pv 2) af))),?_⟩;refine⟨_,rfl,k,hk,?_⟩;cases k with
   |true=>exact bf (q _ _ (Sm.refl _) rfl)
   |false=>exact aY ⟨rfl,_,rfl,_,rfl,us,ys,uv,v,rfl,.inl hy,hv,⟨eN,aG hlen (by decide)⟩,λv' H' s' h'=>q _ _ s' h'⟩
  exact(HJ T YA (λH h aB _ hl=>YC aB hl) (λH H' s h=>h.mono s) Fl (.all λus hl=>match us,hl with|[_,_,_],_=>rfl)).run A outer s H args us vs Q E hr e0 hbd hv gS
 refine⟨_,az (aH (W6 (y:=rP) (j:=2) (sp:=λc2 g vs H Q E=>∃f c' pm fm,g=adr mg x/\HH mg f (qp "<lambda>" oX Cf Cg yz [(rP,c2)] pm fm c' f) bA (λ_=>True) (bW bM) vs H Q E) rfl rfl rfl T.BO F hr
  (aa oK (aa (pv 0) (aa (pv 1) (aa (Xd (y:=rP) rfl fY B.bm rfl (by decide+kernel) (λ_=>rfl) rfl rfl rfl) af)))))),?_⟩
 refine⟨_,rfl,_,rfl,_,rfl,ht,λc2 H' f c' pm fm dD s1 hf hl c3 hc3=>?_⟩;have:c3=c2:=Option.some.inj (hc3.symm.trans dD);subst this;exact⟨f,c',pm,fm,rfl,_,false,n,ur,rules,rfl,hl,rfl,hn,aI cY _ _ _ _ s1 gw,hro,trivial,λ_ _ _ _ _=>trivial,Se bM rules _,λp H2 j s2 hp hF hv=>k p H2 j (s1.trans s2) (s1.free hp) hF hv⟩
theorem cK:sizeLine=16777216:=wk
theorem vG(h:k<n):(cg n l).getD k false=Vaglrc.has k l:=by
 rw[cC,pQ h];rfl
theorem Px(h:∀k,Sym.non k∈ys->k<n):ys.all (eE (cg n l))=ys.all (symNull l):=by
 induction ys with
 |nil=>rfl
 |cons y ys ih=>
  rw[l6,l6,ih λk hk=>h k (bg _ hk)];cases y with
  |non k=>show((cg n l).getD k false&&_)=_;rw[vG (h k aZ)];rfl
  |range lo hi=>rfl
theorem Py(h:∀k,Sym.non k∈ys->k<n):ys.all (kK (cg n l))=allIn true l ys:=by
 unfold allIn
 induction ys with
 |nil=>rfl
 |cons y ys ih=>
  rw[l6,l6,ih λk hk=>h k (bg _ hk)];cases y with
  |non k=>show((cg n l).getD k false&&_)=_;rw[vG (h k aZ)]
  |range lo hi=>rfl
theorem YF(h:∀k,Sym.non k∈ys->k<n):ys.any (kK (cg n l))=dR l ys:=by
 induction ys with
 |nil=>rfl
 |cons y ys ih=>
  rw[jx,wN,ih λk hk=>h k (bg _ hk)];cases y with
  |non k=>show((cg n l).getD k false||_)=_;rw[vG (h k aZ)];rfl
  |range lo hi=>rfl
theorem YG(v:List Bool)(ys:List Sym):ys.all (eE v)=true↔AllIn false (On v) ys:=by
 rw[ze];refine⟨λh y hy=>?_,λh y hy=>?_⟩
 .have q:=h y hy
  cases y with
  |non k=>exact p8.mp q
  |range lo hi=>cases q
 .have q:=h y hy
  cases y with
  |non k=>exact p8.mpr q
  |range lo hi=>cases q
theorem YH(v:List Bool)(ys:List Sym):ys.all (kK v)=true↔AllIn true (On v) ys:=by
 rw[ze];refine⟨λh y hy=>?_,λh y hy=>?_⟩
 .have q:=h y hy
  cases y with
  |non k=>exact p8.mp q
  |range lo hi=>exact rfl
 .have q:=h y hy
  cases y with
  |non k=>exact p8.mpr q
  |range lo hi=>rfl
theorem YI(v:List Bool)(ys:List Sym):ys.any (kK v)=true↔∃y∈ys,match y with| .non k=>On v k| .range _ _=>True:=by
 rw[jM];refine⟨λ⟨y,hy,q⟩=>⟨y,hy,?_⟩,λ⟨y,hy,q⟩=>⟨y,hy,?_⟩⟩
 .cases y with
  |non k=>exact p8.mp q
  |range lo hi=>trivial
 .cases y with
  |non k=>exact p8.mpr q
  |range lo hi=>rfl
theorem YJ(G:aS g)(hF:Fix (bW λys v=>ys.all (eE v)) g.rules (passes (bW λys v=>ys.all (eE v)) g.rules j (List.replicate g.nons false))):
  passes (bW λys v=>ys.all (eE v)) g.rules j (List.replicate g.nons false)=cg g.nons (nullable g):=
 DJ (by rw[qU,i9]) λa _=>(DK (C:=CD g false) (Su:=AllIn false) _ (λv _ r _=>YG v r.rhs) (λP Q h ys q=>q.mono h) (λP=>Iff.rfl) (λr hr=>(G.rules r hr).lhs) hF).same (R4 G) a
theorem YK(G:aS g)(hF:Fix (bW λys v=>ys.all (kK v)) g.rules (passes (bW λys v=>ys.all (kK v)) g.rules j (List.replicate g.nons false))):
  passes (bW λys v=>ys.all (kK v)) g.rules j (List.replicate g.nons false)=cg g.nons (productive g):=
 DJ (by rw[qU,i9]) λa _=>(DK (C:=CD g true) (Su:=AllIn true) _ (λv _ r _=>YH v r.rhs) (λP Q h ys q=>q.mono h) (λP=>Iff.rfl) (λr hr=>(G.rules r hr).lhs) hF).same (Dz G) a
theorem YL(G:aS g)(hF:Fix (bW λys v=>ys.any (kK v)) (productiveRules g) (passes (bW λys v=>ys.any (kK v)) (productiveRules g) j (List.replicate g.nons false))):
  passes (bW λys v=>ys.any (kK v)) (productiveRules g) j (List.replicate g.nons false)=cg g.nons (growing g):=
 DJ (by rw[qU,i9]) λa _=>(DK (C:=CG g) (Su:=λP ys=>∃y∈ys,match y with| .non k=>P k| .range _ _=>True) _ (λv _ r _=>YI v r.rhs) (λP Q h ys ⟨y,hy,q⟩=>⟨y,hy,by
  cases y with
  |non k=>exact h k q
  |range lo hi=>trivial⟩) (λP=>Iff.rfl) (λr hr=>(G.rules r (fL hr)).lhs) hF).same (J4 G) a
theorem vH{v:List Bool}(h:qS n r)(hv:v.length=n):Fit r.rhs v:=⟨λk hk=>by rw[hv];exact h.rhs _ hk,aG h.cA (by decide)⟩
theorem fQ(G:aS g):g.nons<=1000:=aG G.nons (by decide)
theorem YM:aP ["grammar"] ["grammar"] (aC Gf):=aV
theorem t6(T:Txt K mg)(B:Bs K mg base tb):br P w K mg base "hollow_marks" 15 ["grammar"] (gO (cR mg tb) pY (ay bA) (λg=>cg g.nons (nullable g))):=by
 have yC:=HL (P:=P) (w:=w) T B T.rI (λb' hb=>(vF T (B.mono hb)).mono (by decide));refine T.qw.fn.ok YM iI (λcdv A outer s H vs Q E hr h=>?_);obtain⟨u,g,rfl,hg,_,k⟩:=h;refine⟨_,(az (aH (aE T.BP yC hr (aa (aO (K:=K) rfl (pv 0) rfl) (aa (aO (K:=K) rfl (pv 0) rfl) (aa (jF T.rI.gl) af)))))),?_⟩;refine⟨_,rfl,gZ T hg ⟨_,rfl,tV T hg λur gw=>⟨g.nons,ur,g.rules,rfl,hg.2.1,fQ hg.2.2,gw,hg.2.2.rules,λp H' j s1 hp hF hv=>?_⟩⟩⟩;rw[YJ hg.2.2 hF]at hv;exact k p H' s1 hp hv
theorem YN:aP ["grammar"] ["grammar"] (aC Gg):=aV
theorem Ci(T:Txt K mg)(B:Bs K mg base tb):br P w K mg base "productive_marks" 15 ["grammar"] (gO (cR mg tb) pY (ay bA) (λg=>cg g.nons (productive g))):=by
 have yC:=HL (P:=P) (w:=w) T B T.yi (λb' hb=>(HE T (B.mono hb)).mono (by decide));refine T.vq.fn.ok YN iI (λcdv A outer s H vs Q E hr h=>?_);obtain⟨u,g,rfl,hg,_,k⟩:=h;refine⟨_,(az (aH (aE T.BP yC hr (aa (aO (K:=K) rfl (pv 0) rfl) (aa (aO (K:=K) rfl (pv 0) rfl) (aa (jF T.yi.gl) af)))))),?_⟩;refine⟨_,rfl,gZ T hg ⟨_,rfl,tV T hg λur gw=>⟨g.nons,ur,g.rules,rfl,hg.2.1,fQ hg.2.2,gw,hg.2.2.rules,λp H' j s1 hp hF hv=>?_⟩⟩⟩;rw[YK hg.2.2 hF]at hv;exact k p H' s1 hp hv
theorem Cj:aP ["grammar","productive","rule"] ["grammar"] (aC A9):=aV
theorem yD(T:Txt K mg)(B:Bs K mg base tb):br P w K mg base "productive_rules" 16 ["grammar"] (gO (cR mg tb) pY (ay (bF mg)) productiveRules):=by
 have t7:=Ci (P:=P) (w:=w) T B;have HM:=HE (P:=P) (w:=w) T B;refine T.vt.fn.ok Cj iI (λcdv A outer s H vs Q E hr h=>?_);obtain⟨u,g,rfl,hg,_,k⟩:=h;have G:=hg.2.2;refine⟨_,(aq (aN (i:=1) Cj.nd rfl (Or.inr rfl) (aE T.vq t7 hr (aa (pv 0) af)))
   (az (aH (gU (own:=[("rule",2)]) rfl Cj.nd (d8 (aO (K:=K) rfl (pv 0) rfl)) (eu (N:=["grammar","productive","rule"]) (sc:=aC A9) (by decide+kernel)) (λs H C cl fp=>(bh (i:=2) Cj.nd rfl (Or.inl rfl))) (λs H C cl fp=>(tE (di (aE T.yi HM hr (aa (aO (K:=K) rfl (pv 2) rfl) (aa (pv 1) af)))))) (λs H C cl fp=>(pv 2)))))),?_⟩
 refine⟨_,rfl,u,g,rfl,hg,trivial,λa H1 s1 ha hp=>?_⟩;have gB:=cZ _ _ _ _ s1 hg;refine oZ (λr=>if allIn true (productive g) r.rhs then some r else none) (ms:=g.rules) (G:=λ_=>bF mg) (λQ' k'=>⟨_,rfl,tV T gB λur gw=>k' _ _ (Sm.refl _) gw⟩) cY (aG G.cA (by decide)) (λ_=>cY) (λD=>jI ju D) (λH0 D x r s2 hD g6 hx H2 Nx s3 hl kF kT=>?_) λD zs H' hD e1 e2 e3=>?_
 .have kJ:=cY _ _ _ _ s3 hx
  have hp2:=aI dH _ _ _ _ (s2.trans s3) hp;refine⟨rfl,_,rfl,jo T kJ λus dF=>⟨_,rfl,us,r.rhs,_,_,rfl,.inl dF,hp2,vH (G.rules r g6) l8,λv H3 s4 hv=>⟨_,(show v=.bl (allIn true (productive g) r.rhs)by rw[<-Py λk hk=>(G.rules r g6).rhs _ hk];exact hv),?_⟩⟩⟩;cases e:allIn true (productive g) r.rhs with
  |true=>exact bf ⟨_,rfl,kT _ _ _ (by rw[e];rfl) s4 (cY _ _ _ _ s4 kJ)⟩
  |false=>exact aY (kF (by rw[e];rfl) _ s4)
 .rw[vB]at e3
  exact k _ _ (s1.trans e2) (s1.free hD) ⟨D,zs,rfl,e1,e3⟩
theorem YO:aP ["grammar"] ["grammar"] (aC Gh):=aV
theorem Pz(T:Txt K mg)(B:Bs K mg base tb):br P w K mg base "growing_marks" 17 ["grammar"] (gO (cR mg tb) pY (ay bA) (λg=>cg g.nons (growing g))):=by
 have yC:=HL (P:=P) (w:=w) T B T.BQ (λb' hb=>(Pq T (B.mono hb)).mono (by decide));have qz:=yD (P:=P) (w:=w) T B;refine T.BR.fn.ok YO iI (λcdv A outer s H vs Q E hr h=>?_);obtain⟨u,g,rfl,hg,_,k⟩:=h;refine⟨_,(az (aH (aE T.BP yC hr (aa (aO (K:=K) rfl (pv 0) rfl) (aa (aE T.vt qz hr (aa (pv 0) af)) (aa (jF T.BQ.gl) af)))))),?_⟩;refine⟨_,rfl,gZ T hg ⟨_,rfl,u,g,rfl,hg,trivial,λa H1 s1 ha gw=>⟨g.nons,_,_,rfl,s1.tab _ hg.2.1,fQ hg.2.2,gw,λr hr=>hg.2.2.rules r (fL hr),λp H' j s2 hp hF hv=>?_⟩⟩⟩;rw[YL hg.2.2 hF]at hv;exact k p H' (s1.trans s2) (s1.free hp) hv
theorem vI{α:Type}{R:Rep α}{c:Addr}{bs:List (List α)}(b:bQ R H0 H D as bs)(hc:as[k]?=some c)(q:Q (.ref c) H):bX K (.ref D) (.int (k:Nat)) H Q:=by
 unfold bX;exact⟨D,_,_,.ref c,rfl,rfl,aU.of b.lst,xC (by rw[fK,hc];rfl),q⟩
theorem HN{α:Type}{R:Rep α}(lx:Lx R){c:Addr}{bs:List (List α)}{xs zs:List α}(b:bQ R H0 H D as bs)(hc:as[k]?=some c)(hk:bs[k]?=some xs)(hz:ay R H v zs)(hl:xs.length+zs.length<=sizeLine)(q:∀H',bQ R H0 H' D as (bs.set k (xs++zs))->aD as H H'->Q .non H'):tw (.ref c) [v] H Q:=by
 unfold tw;obtain⟨vs,e1,p1⟩:=b.at_ k c xs hc hk
 obtain⟨a,us,e2,h2,p2⟩:=hz;have l1:=eW p1;have l2:=eW p2;refine⟨c,a,vs,us,rfl,by rw[e2],e1,h2,by omega,q _ (b.put (jI lx) hc hk e1 p1 p2) ?_⟩;exact aD.wr (aD.refl as H) (.inr (cE hc)) (by rw[e1];trivial) trivial
theorem HP{α:Type}{R:Rep α}(lx:Lx R){c:Addr}{bs:List (List α)}{xs:List α}{z:α}(b:bQ R H0 H D as bs)(hc:as[k]?=some c)(hk:bs[k]?=some xs)(hz:R H v z)(hl:xs.length<sizeLine)(q:∀H',bQ R H0 H' D as (bs.set k (xs++[z]))->aD as H H'->Q .non H'):tu (.ref c) [v] H Q:=by
 unfold tu;obtain⟨vs,e1,p1⟩:=b.at_ k c xs hc hk
 have l1:=eW p1;refine⟨c,vs,v,rfl,rfl,e1,by omega,q _ (b.put (jI lx) hc hk e1 p1 (.cons hz .nil)) ?_⟩;exact aD.wr (aD.refl as H) (.inr (cE hc)) (by rw[e1];trivial) trivial
theorem pq{c:Addr}(h:H c=some (.lst vs)):tyV K "list" (.ref c) H:=.inl ⟨rfl,_,aU.of h⟩
theorem PB{l:Addr}{ys:List V}(h:H l=some (.lst xs))(h2:H b=some (.lst ys))(hl:xs.length+ys.length<=sizeLine)(q:Q .non (upd H l (.lst (xs++ys)))):tw (.ref l) [.ref b] H Q:=by unfold tw;exact⟨l,b,xs,ys,rfl,rfl,h,h2,hl,q⟩
theorem YQ{l:Addr}{ys:List V}(h:H l=some (.lst xs))(h2:H b=some (.tup ys))(hl:xs.length+ys.length<=sizeLine)(q:Q .non (upd H l (.lst (xs++ys)))):xP K (.ref l) [.ref b] H Q:=by unfold xP;exact⟨l,b,xs,ys,rfl,rfl,h,aM.of h2,hl,q⟩
theorem Ck:aP ["size","rules","steps","a","rule"] ["size","rules"] (aC Bb):=aV
theorem PC(T:Txt K mg)(B:Bs K mg base tb):br P w K mg base "nonterminal_steps" 3 ["size","rules"] (tX aW (ay (bF mg)) (λn rules=>n<=1000/\rules.length<=60/\∀r∈rules,qS n r) (ay (ay aW)) (λn rules=>aL n (jd rules))):=by
 have yu:=Hz (P:=P) (w:=w) T B;refine T.GY.fn.ok Ck vD (λcdv A outer s H vs Q E hr h=>?_);obtain⟨u,n,ur,rules,rfl,hu,gw,⟨hn,hm,hro⟩,k⟩:=h;cases hu;refine⟨_,(aq (qi (i:=2) (own:=[("a",3)]) rfl Ck.nd rfl rfl (nR rfl rfl rfl rfl) (jR rfl T.jZ (aa (pv 0) af)) (eu (N:=["size","rules","steps","a","rule"]) (sc:=aC Bb) (by decide+kernel)) (λs H C cl fp=>(bh (i:=3) Ck.nd rfl (Or.inl rfl))) (λs H C cl fp=>fZ) (λs H C cl fp=>(bL af)))
   (aq (eV eF rfl (d8 (pv 1)) (bh (i:=4) Ck.nd rfl (Or.inl rfl))
    (az (gi (gm gc qO uJ uZ (bD (r:=bX K) dW (pv 2) (aO (K:=K) rfl (pv 4) rfl) (λ_ _=>rfl)) (aa (aE T.BN yu hr (aa (aO (K:=K) rfl (pv 4) rfl) af)) af)))))
   (az (aH (pv 2))))),?_⟩
 refine vC (n:=n) (λQ' k'=>⟨_,rfl,k' _ (Sm.refl _)⟩) hn (λ_=>rfl) λD as H1 hD e1 s1 e2 e3 e4 e5=>?_;refine jq (ms:=rules) (R:=bF mg) (λx H2=>x=ur/\H2=H1) (λQ' k'=>⟨_,rfl,k' _ _ ⟨rfl,rfl⟩⟩) ?_;rintro x H2 ⟨rfl,rfl⟩;refine⟨λi σ H3=>∃y,σ=[some (.int (n:Nat)),some x,some (.ref D),none,y]/\bQ aW H H3 D as (aL n ((jd rules).take i)),⟨none,rfl,?_⟩,λi σ H3 ⟨_,_,b⟩=>aI cY _ _ _ _ b.sm gw,?_,?_⟩
 .rw[ow,uN]
  exact bQ.start hD e1 s1 e2 e3 e4 e5
 .rintro i y r σ H3 g6 hy ⟨y0,rfl,b⟩
  have R:=hro r (cE g6);obtain⟨xs,hk⟩:∃xs,(aL n ((jd rules).take i))[r.lhs]?=some xs:=⟨_,bO (by rw[gH];exact R.lhs)⟩;obtain⟨c,vs,hc,h1,_⟩:=b.find hk;refine⟨_,rfl,_,rfl,kI T hy (vI b hc ⟨pq h1,_,rfl,jo T hy λus dF=>⟨us,r.rhs,rfl,.inl dF,aG R.cA (by decide),λa H4 s4 ha hz=>?_⟩⟩)⟩;refine HN jt (b.mono bE s4) hc hk hz ?_ λH5 b5 _=>?_
  .have q1:=rN (B:=8) hk λp hp=>by
    obtain⟨r',n6,rfl⟩:=bG.mp (pO hp);exact aG (wF _ _) (hro r' n6).cA
   have q2:((jd rules).take i).length<=60:=aG (sr _ _) (by unfold jd;rw[aK];exact hm);have q3:(nonsIn r.rhs).length<=8:=aG (wF _ _) R.cA;rw[cK];omega
  .refine⟨_,rfl,?_⟩
   rw[take_snoc (x:=(r.lhs,nonsIn r.rhs)) (by unfold jd;rw[fK,g6];rfl),uO hk];exact b5
 .rintro σ H3 ⟨y,rfl,b⟩
  rw[qP (by unfold jd;rw[aK];exact aF _)]at b;exact⟨_,rfl,k D H3 b.sm hD b.done⟩
structure Own{α:Type}(R:Rep α)(H0 H:Hp)(D:Addr)(xs:List α):Prop where
 sm:Sm H0 H
 d0:H0 D=none
 lst:ay R H (.ref D) xs
section
variable{α:Type}{R:Rep α}{H0 H H':Hp}{D:Addr}{xs:List α}{Q:VK}
theorem Own.mono(mR:Mn R)(o:Own R H0 H D xs)(s:Sm H H'):Own R H0 H' D xs:=⟨o.sm.trans s,o.d0,aI mR _ _ _ _ s o.lst⟩
theorem Own.new(s:Sm H0 H)(h:H D=none):Own R H0 (upd H D (.lst [])) D []:=⟨s.trans (Sm.new h),s.free h,D,[],rfl,aA,.nil⟩
theorem Own.at_(o:Own R H0 H D xs):∃vs,H D=some (.lst vs)/\Paired (R H) vs xs:=by
 obtain⟨a,vs,e,h1,h2⟩:=o.lst;cases e;exact⟨vs,h1,h2⟩
theorem Own.ty(o:Own R H0 H D xs):tyV K "list" (.ref D) H:=let⟨_,h,_⟩:=o.at_;pq h
theorem Own.wr(lx:Lx R)(o:Own R H0 H D xs){us:List V}{ys:List α}(p:Paired (R H) us ys):Own R H0 (upd H D (.lst us)) D ys/\aD [D] H (upd H D (.lst us)):=by
 obtain⟨vs,h1,h2⟩:=o.at_
 exact⟨⟨Sm.wrL o.sm o.d0 h1,o.d0,D,us,rfl,aA,gW (λ_ _ q=>jI lx _ _ _ _ _ _ h1 q) p⟩,aD.wr (aD.refl [D] H) (.inr (cF.mpr rfl)) (by rw[h1];trivial) trivial⟩
theorem Own.push(lx:Lx R)(o:Own R H0 H D xs){z:α}(hz:R H v z)(hl:xs.length<sizeLine)(q:∀H',Own R H0 H' D (xs++[z])->aD [D] H H'->Q .non H'):tu (.ref D) [v] H Q:=by
 obtain⟨vs,h1,h2⟩:=o.at_
 have w:=o.wr lx (AS h2 hz);exact yw h1 (by rw[eW h2];exact hl) (q _ w.1 w.2)
theorem Own.ext(lx:Lx R)(o:Own R H0 H D xs){zs:List α}(hz:ay R H v zs)(hl:xs.length+zs.length<=sizeLine)(q:∀H',Own R H0 H' D (xs++zs)->aD [D] H H'->Q .non H'):tw (.ref D) [v] H Q:=by
 obtain⟨vs,h1,h2⟩:=o.at_
 obtain⟨a,us,rfl,g1,g2⟩:=hz;have w:=o.wr lx (tK h2 g2);exact PB h1 g1 (by rw[eW h2,eW g2];exact hl) (q _ w.1 w.2)
theorem Own.PD(lx:Lx R)(o:Own R H0 H D xs){zs:List α}(hz:bH R H v zs)(hl:xs.length+zs.length<=sizeLine)(q:∀H',Own R H0 H' D (xs++zs)->aD [D] H H'->Q .non H'):xP K (.ref D) [v] H Q:=by
 obtain⟨vs,h1,h2⟩:=o.at_
 obtain⟨a,us,rfl,g1,g2⟩:=hz;have w:=o.wr lx (tK h2 g2);exact YQ h1 g1 (by rw[eW h2,eW g2];exact hl) (q _ w.1 w.2)
theorem Own.pop(lx:Lx R){z:α}(o:Own R H0 H D (xs++[z]))(q:∀v H',Own R H0 H' D xs->R H' v z->aD [D] H H'->Q v H'):u0 (.ref D) [] H Q:=by
 unfold u0;obtain⟨vs,h1,h2⟩:=o.at_
 obtain⟨us,v,rfl,g1,g2⟩:=FP h2;have w:=o.wr lx g1;refine⟨D,_,v,rfl,rfl,h1,?_,?_⟩
 .rw[aX]
  show(us++[v])[us.length+1-1]?=_;rw[r8 (by omega)];simp
 .rw[List.dropLast_concat]
  exact q _ _ w.1 (jI lx _ _ _ _ _ _ h1 g2) w.2
theorem Own.dZ(o:Own R H0 H D xs):∀b∈[D],∃ys,H b=some (.lst ys):=λb hb=>by
 rw[cF.mp hb];obtain⟨vs,h1,_⟩:=o.at_
 exact⟨vs,h1⟩
theorem bQ.dZ{bs:List (List α)}(b:bQ R H0 H D as bs):∀c∈as,∃ys,H c=some (.lst ys):=λc hc=>by
 obtain⟨k,hk,e⟩:=JW.mp hc;have hk2:k<bs.length:=by rw[<-b.len];exact hk
 obtain⟨vs,h1,_⟩:=b.at_ k c _ (by rw[bO hk,e]) (bO hk2)
 exact⟨vs,h1⟩
theorem pA(hex:∀b∈ex,∃ys,H b=some (.lst ys))(h:H a=none):a∉ex:=λm=>by
 obtain⟨ys,e⟩:=hex a m;rw[h]at e;cases e
theorem YR{z:α}(h:ay R H v (xs++[z]))(q:∀u,R H u z->Q u H):bX K v (.int (-1)) H Q:=by
 obtain⟨a,vs,e,h1,h2⟩:=h;obtain⟨us,u,rfl,g1,g2⟩:=FP h2;unfold bX;refine⟨a,_,_,u,e,rfl,aU.of h1,?_,q u g2⟩;unfold atI nM;rw[ai (by omega),aj (by rw[aX];simp;omega)];show(us++[u])[(-1+((us++[u]).length:Int)).toNat]?=_;rw[aX,show(-1+((us.length+[u].length:Nat):Int)).toNat=us.length by simp;omega,r8 (aF _)];simp
end
theorem vJ(a b:Nat):decide ((V.int (a:Int))=V.int (b:Int))=(a==b):=by
 by_cases e:a=b
 .subst e;simp
 .rw[ni.mpr e,bZ λz=>e (by cases z;rfl)]
theorem t8{a:Nat}(h:jB n st)(ha:a<n)(hn:n<=1000):yx st a:=by
 unfold yx;rw[h.len];exact⟨h,ha,hn⟩
theorem vK{a:Nat}(h:st.length=n):dg st.length st a=dg n st a:=by rw[h]
theorem Cm:aP ["grammar","reached","a"] ["grammar"] (aC Bc):=aV
theorem PF(T:Txt K mg)(B:Bs K mg base tb):br P w K mg base "reachable_marks" 17 ["grammar"] (gO (cR mg tb) pY (ay bA) (λg=>cg g.nons (Vaglrb.reachable g))):=by
 have lP:=tZ (P:=P) (w:=w) T B;have HQ:=PC (P:=P) (w:=w) T B;have qz:=yD (P:=P) (w:=w) T B;refine T.BS.fn.ok Cm iI (λcdv A outer s H vs Q E hr h=>?_);obtain⟨u,g,rfl,hg,_,k⟩:=h;have G:=hg.2.2;refine⟨_,(aq (aN (i:=1) Cm.nd rfl (Or.inr rfl) (aE T.rH lP hr (aa (aE T.GY HQ hr (aa (aO (K:=K) rfl (pv 0) rfl) (aa (aE T.vt qz hr (aa (pv 0) af)) af))) (aa (bB T.rG) af))))
   (az (aH (gU (own:=[("a",2)]) rfl Cm.nd (jR rfl T.jZ (aa (aO (K:=K) rfl (pv 0) rfl) af)) (eu (N:=["grammar","reached","a"]) (sc:=aC Bc) (by decide+kernel)) (λs H C cl fp=>(bh (i:=2) Cm.nd rfl (Or.inl rfl))) (λs H C cl fp=>fZ) (λs H C cl fp=>(xU (lA oQ (pv 2) (bB T.rG) (eK _)) (lA (r:=rIn K false) xD (pv 2) (pv 1) rfl))))))),?_⟩
 have hit:=wZ G (rules:=productiveRules g) λr h=>fL h;refine⟨_,rfl,gZ T hg ⟨_,rfl,u,g,rfl,hg,trivial,λa1 H1 s1 _ h1=>⟨_,g.nons,_,_,rfl,rfl,h1,⟨fQ G,aG (uR g) G.cA,λr hr=>G.rules r (fL hr)⟩,λa2 H2 s2 _ h2=>?_⟩⟩⟩;refine⟨_,_,_,0,rfl,h2,rfl,t8 hit.2 G.pos (fQ G),λa3 H3 s3 _ h3=>?_⟩;have HR:=(s1.trans s2).trans s3;have h3:ay aW H3 (.ref a3) (dg g.nons (aL g.nons (jd (productiveRules g))) 0):=by rw[<-vK hit.2.len];exact h3
 have hg3:=cZ _ _ _ _ HR hg;refine tW (n:=g.nons) (λa=>some (Vaglrc.has a (Vaglrb.reachable g))) (G:=λ_=>bA) (λQ' k'=>⟨_,rfl,gZ T hg3 (k' _ (Sm.refl _))⟩) (fQ G) (λ_=>dH) (λD=>jm qo D) (λH4 D x s4 hD hx H5 Nx s5 hl kF kT=>?_) λD zs H' hD q1 q2 q3=>?_
 .refine⟨rfl,jr ⟨_,rfl,rfl,_,rfl,?_⟩⟩
  have e:=Ti G x;rw[show(V.int 0)=V.int ((0:Nat):Int)from rfl,vJ];cases e0:x==0 with
  |true=>
   rw[e0,JB]at e;exact bf (kT _ _ _ rfl (Sm.refl _) (by rw[<-e];rfl))
  |false=>
   rw[e0,zk]at e;refine aY ⟨_,rfl,_,rfl,yq (aI bE _ _ _ _ (s4.trans s5) h3) (kT _ _ _ rfl (Sm.refl _) ?_)⟩;rw[<-e];rfl
 .rw[filterMap_some]at q3
  exact k _ _ (HR.trans q2) (HR.free hD) ⟨D,zs,rfl,q1,q3⟩
theorem YS(g:Grammar)(a:Nat):Vaglrc.has a (useful g)=(Vaglrc.has a (productive g)&&Vaglrc.has a (Vaglrb.reachable g)):=by
 rw[m9,cV,dQ,dQ,dQ];exact wI
theorem yE:aP ["grammar","productive","reachable","a"] ["grammar"] (aC Bd):=aV
theorem yF(T:Txt K mg)(B:Bs K mg base tb):br P w K mg base "useful_marks" 18 ["grammar"] (gO (cR mg tb) pY (ay bA) (λg=>cg g.nons (useful g))):=by
 have t7:=Ci (P:=P) (w:=w) T B;have HS:=PF (P:=P) (w:=w) T B;refine T.tQ.fn.ok yE iI (λcdv A outer s H vs Q E hr h=>?_);obtain⟨u,g,rfl,hg,_,k⟩:=h;have G:=hg.2.2;refine⟨_,(aq (aN (i:=1) yE.nd rfl (Or.inr rfl) (aE T.vq t7 hr (aa (pv 0) af)))
   (aq (aN (i:=2) yE.nd rfl (Or.inr rfl) (aE T.BS HS hr (aa (pv 0) af)))
   (az (aH (gU (own:=[("a",3)]) rfl yE.nd (jR rfl T.jZ (aa (aO (K:=K) rfl (pv 0) rfl) af)) (eu (N:=["grammar","productive","reachable","a"]) (sc:=aC Bd) (by decide+kernel)) (λs H C cl fp=>(bh (i:=3) yE.nd rfl (Or.inl rfl))) (λs H C cl fp=>fZ) (λs H C cl fp=>(NF (bD (r:=bX K) dW (pv 1) (pv 3) (λ_ _=>rfl)) (bD (r:=bX K) dW (pv 2) (pv 3) (λ_ _=>rfl))))))))),?_⟩
 refine⟨_,rfl,u,g,rfl,hg,trivial,λa1 H1 s1 _ h1=>⟨_,rfl,u,g,rfl,cZ _ _ _ _ s1 hg,trivial,λa2 H2 s2 _ h2=>?_⟩⟩;have dI:=s1.trans s2;have jv:=cZ _ _ _ _ dI hg;refine tW (n:=g.nons) (λa=>some (Vaglrc.has a (useful g))) (G:=λ_=>bA) (λQ' k'=>⟨_,rfl,gZ T jv (k' _ (Sm.refl _))⟩) (fQ G) (λ_=>dH) (λD=>jm qo D) (λH4 D x s4 hD hx H5 Nx s5 hl kF kT=>?_) λD zs H' hD q1 q2 q3=>?_
 .refine⟨rfl,jr ⟨_,rfl,_,rfl,f7 (aI dH _ _ _ _ ((s2.trans s4).trans s5) h1) (pQ hx) λv hv=>⟨_,hv,?_⟩⟩⟩
  rw[YS]at kT;cases e:Vaglrc.has x (productive g)with
  |true=>
   rw[e,Rq]at kT;exact bf ⟨_,rfl,_,rfl,f7 (aI dH _ _ _ _ (s4.trans s5) h2) (pQ hx) λv2 nZ=>kT _ _ _ rfl (Sm.refl _) nZ⟩
  |false=>
   rw[e,JF]at kT;exact aY (kT _ _ _ rfl (Sm.refl _) rfl)
 .rw[filterMap_some]at q3
  exact k _ _ (dI.trans q2) (dI.free hD) ⟨D,zs,rfl,q1,q3⟩
theorem vL:aP ["grammar","productive","useful","numbers","number","rule"] ["grammar"] (aC Gi):=aV
theorem PJ(T:Txt K mg)(B:Bs K mg base tb):br P w K mg base "useful_rule_numbers" 19 ["grammar"] (gO (cR mg tb) pY (ay aW) keptRules):=by
 have t7:=Ci (P:=P) (w:=w) T B;have qA:=yF (P:=P) (w:=w) T B;have HM:=HE (P:=P) (w:=w) T B;refine T.GZ.fn.ok vL iI (λcdv A outer s H vs Q E hr h=>?_);obtain⟨u,g,rfl,hg,_,k⟩:=h;have G:=hg.2.2;refine⟨_,(aq (aN (i:=1) vL.nd rfl (Or.inl rfl) (aE T.vq t7 hr (aa (pv 0) af)))
   (aq (aN (i:=2) vL.nd rfl (Or.inl rfl) (aE T.tQ qA hr (aa (pv 0) af)))
   (aq (aN (i:=3) vL.nd rfl (Or.inl rfl) (bL af))
   (aq (eV eF rfl (Fx rfl T.vp (aa (aO (K:=K) rfl (pv 0) rfl) af)) (oN rfl (gz (bh (i:=4) vL.nd rfl (Or.inl rfl)) (gz (bh (i:=5) vL.nd rfl (Or.inl rfl)) oM)))
    (az (cN (vj (di (bD (r:=bX K) dW (pv 2) (aO (K:=K) rfl (pv 5) rfl) (λ_ _=>rfl))) (di (aE T.yi HM hr (aa (aO (K:=K) rfl (pv 5) rfl) (aa (pv 1) af))))) (az (gi (gm gc kc kW jU (pv 3) (aa (pv 4) af)))) cP)))
   (az (aH (pv 3))))))),?_⟩
 refine⟨_,rfl,u,g,rfl,hg,trivial,λa1 H1 s1 _ h1=>⟨_,rfl,u,g,rfl,cZ _ _ _ _ s1 hg,trivial,λa2 H2 s2 _ h2=>⟨cM _,λD hD=>?_⟩⟩⟩;have dI:=s1.trans s2;have jv:=cZ _ _ _ _ dI hg;obtain⟨ur,hur⟩:∃ur,ay (bF mg) H2 ur g.rules:=let⟨⟨_,_,ur,_,_,q⟩,_⟩:=jv;⟨ur,q⟩
 refine Hq (ms:=g.rules) (R:=bF mg) (λv H3=>ay (bF mg) H2 v g.rules/\H3=upd H2 D (.lst [])) (λQ' k'=>⟨_,rfl,?_⟩) cY ?_
 .have hg3:=cZ _ _ _ _ (Sm.new (o:=.lst []) hD) jv
  obtain⟨⟨b,dx,ur,e1,e2,e3⟩,_⟩:=jv;unfold i8;exact⟨b,_,dx,_,_,e1,Sm.at (Sm.new hD) e2,T.gX.cls,T.yl,vA _ _,k' _ _ ⟨e3,rfl⟩⟩
 .rintro v H3 ⟨hv,rfl⟩
  refine⟨λi σ H3=>∃x5 x6,σ=[some u,some (.ref a1),some (.ref a2),some (.ref D),x5,x6]/\Own aW H2 H3 D (nB (oH g) g.rules i),⟨none,none,rfl,Own.new (Sm.refl _) hD⟩,λi σ H3 ⟨_,_,_,o⟩=>aI cY _ _ _ _ o.sm hv,λi σ H3 H4 s3 ⟨x5,x6,e,o⟩=>⟨x5,x6,e,o.mono bE s3⟩,?_,?_⟩
  .rintro i y r σ H3 g6 hy ⟨x5,x6,rfl,o⟩
   have R:=G.rules r (cE g6);have hi:i<g.rules.length:=(cU.mp g6).1;have hl:(nB (oH g) g.rules i).length<=i:=by
    unfold nB;exact aG (wg _ _) (by rw[gq];exact aF _)
   have HU:=Tu (p:=oH g) g6;refine⟨_,rfl,_,rfl,kI T hy (f7 (aI dH _ _ _ _ o.sm h2) (pQ R.lhs) λv2 nZ=>⟨_,nZ,?_⟩)⟩;cases e:Vaglrc.has r.lhs (useful g)with
   |false=>
    refine aY (aY ⟨_,_,rfl,?_⟩);rw[HU,ai (by show¬(_&&_)=true;rw[e,RJ];decide)];exact o
   |true=>
    refine bf ⟨_,rfl,jo T hy λus dF=>⟨_,rfl,us,r.rhs,_,_,rfl,.inl dF,aI dH _ _ _ _ (s2.trans o.sm) h1,vH R l8,λv3 H4 s4 hv3=>⟨_,(show v3=.bl (allIn true (productive g) r.rhs)by rw[<-Py λk hk=>R.rhs _ hk];exact hv3),?_⟩⟩⟩;cases e2:allIn true (productive g) r.rhs with
    |false=>
     refine aY ⟨_,_,rfl,?_⟩;rw[HU,ai (by show¬(_&&_)=true;rw[e2,JF];decide)];exact o.mono bE s4
    |true=>
     have o4:=o.mono bE s4;refine bf ⟨_,rfl,o4.ty,_,rfl,o4.push jt (z:=i) rfl ?_ λH5 o5 _=>⟨_,_,rfl,?_⟩⟩
     .rw[cK]
      have:=G.cA;omega
     .rw[HU,aj (by show(_&&_)=true;rw[e2,e];rfl)]
      exact o5
  .rintro σ H3 ⟨x5,x6,rfl,o⟩
   rw[<-Aa]at o;exact⟨_,rfl,k D H3 (dI.trans o.sm) (dI.free hD) o.lst⟩
theorem PK(h:j∈keptRules g):j<g.rules.length:=by
 rw[Aa]at h;exact lZ.mp (iO.mp h).1
theorem PL(g:Grammar):(keptRules g).length<=g.rules.length:=by
 rw[Aa];unfold nB;exact aG (wg _ _) (by rw[gq];exact aF _)
theorem HV:aP ["grammar","number"] ["grammar"] (aC Be):=aV
theorem yG(T:Txt K mg)(B:Bs K mg base tb):br P w K mg base "useful_rules" 20 ["grammar"] (gO (cR mg tb) pY (ay (bF mg)) usefulRules):=by
 have HW:=PJ (P:=P) (w:=w) T B;refine T.vv.fn.ok HV iI (λcdv A outer s H vs Q E hr h=>?_);obtain⟨u,g,rfl,hg,_,k⟩:=h;have G:=hg.2.2;refine⟨_,(az (aH (gU (own:=[("number",1)]) rfl HV.nd (d8 (aE T.GZ HW hr (aa (pv 0) af))) (eu (N:=["grammar","number"]) (sc:=aC Be) (by decide+kernel)) (λs H C cl fp=>(bh (i:=1) HV.nd rfl (Or.inl rfl))) (λs H C cl fp=>fZ) (λs H C cl fp=>(bD (r:=bX K) dW (aO (K:=K) rfl (pv 0) rfl) (pv 1) (λ_ _=>rfl)))))),?_⟩;refine oZ (λj=>g.rules[j]?) (ms:=keptRules g) (G:=λ_=>bF mg) (λQ' k'=>⟨_,rfl,u,g,rfl,hg,trivial,λa H1 s1 _ h1=>k' _ _ s1 h1⟩) bE (aG (PL g) (aG G.cA (by decide))) (λ_=>cY) (λD=>jI ju D) (λH0 D x j s2 hD hj hx H2 Nx s3 hl kF kT=>?_) λD zs H' hD e1 e2 e3=>?_
 .cases hx
  refine⟨rfl,jr ⟨_,rfl,tV T (cZ _ _ _ _ (s2.trans s3) hg) λur hur=>⟨_,rfl,f7 hur (bO (PK hj)) λv hv=>kT _ _ _ (bO (PK hj)) (Sm.refl _) hv⟩⟩⟩
 .rw[Tv]at e3
  exact k _ _ e2 hD ⟨D,zs,rfl,e1,e3⟩
theorem YT{α:Type}{g:TG}{tb:TS}{tl:TE}{D:Ends}{R:Rep α}(Z:V->Hp->Prop)(h:∀Q':VK,(∀v H1,Z v H1->Q' v H1)->tl σ H Q')(k:∀v H1,Z v H1->∃(ms:List α) (Pv:Nat->L2.St->Hp->Prop),Pv 0 σ H1/\(∀i σ H2,Pv i σ H2->ay R H2 v ms)/\(∀i x m σ H2,ms[i]?=some m->R H2 x m->Pv i σ H2->g x σ H2 λσ2 H3=>tb {D with nx:=Pv (i+1),ct:=Pv (i+1),bk:=D.nx} σ2 H3)/\∀σ H2,Pv ms.length σ H2->D.nx σ H2):kq (uV K tl) g tb D σ H:=by
 unfold kq;refine h _ λv H1 hz=>?_;obtain⟨ms,Pv,h0,hS,hs,hd⟩:=k v H1 hz;obtain⟨a,us,rfl,ha,hp⟩:=hS 0 σ H1 h0;have same:∀i σ H2,Pv i σ H2->∃bP,H2 a=some (.lst bP)/\Paired (R H2) bP ms:=λi σ H2 p=>by
  obtain⟨a',bP,e,h1,h2⟩:=hS i σ H2 p;cases e;exact⟨bP,h1,h2⟩
 refine⟨a,rfl,⟨_,aU.of ha⟩,λi m σ H=>m=ms.length-i/\i<=ms.length/\Pv i σ H,⟨ms.length,by simp,cM _,h0⟩,?_⟩;rintro i m σ H2 ⟨rfl,hi,p⟩;obtain⟨bP,q1,q2⟩:=same i σ H2 p;have hl:=eW q2;by_cases aR:i<ms.length
 .refine .inr ⟨⟨bP,bP[i]'(by omega),aU.of q1,bO (by omega)⟩,Pv (i+1),λσ' H' p'=>⟨ms.length-(i+1),by omega,rfl,aR,p'⟩,λx H' y=>?_⟩
  obtain⟨e,y⟩:=y;subst e;have hx:=y bP (aU.of q1);obtain⟨m,hm,r⟩:=ql q2 hx;exact hs i x m σ _ hm r p
 .have e:i=ms.length:=by omega
  subst e;exact .inl ⟨⟨bP,aU.of q1,by omega⟩,hd σ H2 p⟩
abbrev dJ:Rep (Nat×Nat):=mQ aW aW
theorem eX:Mn dJ:=xT bE bE
theorem n8:Lx dJ:=Hs jt jt
def pairAt(H:Hp)(b:Addr):Nat×Nat:=match H b with
 |some (.tup [.int i,.int j])=>(i.toNat,j.toNat)
 |_=>(0,0)
theorem YU{p:Nat×Nat}(h:H b=some (.tup [.int (p.1:Nat),.int (p.2:Nat)])):pairAt H b=p:=by
 unfold pairAt;rw[h];rfl
theorem PM{H:Hp}:∀{vs:List V} {l:List (Nat×Nat)},Paired (dJ H) vs l->∃as:List Addr,vs=as.map V.ref/\(∀b∈as,H b=some (.tup [.int ((pairAt H b).1:Nat),.int ((pairAt H b).2:Nat)]))/\as.map (pairAt H)=l
 |_,_,.nil=>⟨[],rfl,by simp,rfl⟩
 |_,_,.cons ⟨a,u,w,e,h1,h2,h3⟩ t=>by
  obtain⟨as,e1,e2,e3⟩:=PM t;cases h2;cases h3;have q:=YU h1;refine⟨a::as,by rw[e,e1];rfl,λb hb=>?_,by rw[cD,q,e3]⟩;rcases bq.mp hb with z|z
  .rw[z,q];exact h1
  .exact e2 b z
theorem YV{l:List (Nat×Nat)}(h:ay dJ H v l)(q:∀a H' s,Sm H H'->H a=none->s.Perm l->s.Pairwise (λp q=>p.1<=q.1)->ay dJ H' (.ref a) s->Q (.ref a) H'):AQ K [v] H Q:=by
 unfold AQ;obtain⟨a,vs,e,h1,h2⟩:=h;obtain⟨as,e1,e2,e3⟩:=PM h2;subst e1;refine⟨a,as,λb=>(((pairAt H b).1:Nat),((pairAt H b).2:Nat)),by rw[e],aU.of h1,λb hb=>aM.of (e2 b hb),λbs p hp hs hn=>?_⟩;refine q p _ (bs.map (pairAt H)) (Sm.new hn) hn (by rw[<-e3];exact hp.map _) ?_ ⟨p,_,rfl,aA,?_⟩
 .rw[List.pairwise_map]
  refine hs.imp λ{x y} hxy=>?_;rcases hxy with z|⟨z,_⟩
  .have z:((pairAt H x).1:Int)<((pairAt H y).1:Int):=z
   omega
  .have z:((pairAt H x).1:Int)=((pairAt H y).1:Int):=z
   omega
 .refine AU bs λb hb=>?_
  exact eX _ _ _ _ (Sm.new hn) ⟨b,_,_,rfl,e2 b (hp.subset hb),rfl,rfl⟩
theorem PN:∀(l acc:List (Nat×Nat)),(l.foldl gG acc).length<=acc.length+l.length
 |[],acc=>aF _
 |p::l,acc=>by
  have ih:=PN l (gG acc p);have:(gG acc p).length<=acc.length+1:=by
   unfold gG;split
   .split
    .rw[aX,List.length_dropLast];show _+1<=_;omega
    .rw[aX];exact aF _
   .show 1<=_;omega
  rw[m8,bT];omega
def YW(mg:Str->Option Value):Sp:=λvs H Q _=>∃u l m,vs=[u]/\ay dJ H u l/\l.length<sizeLine/\(∀s:List (Nat×Nat),s.Perm l->s.Pairwise (λp q=>p.1<=q.1)->joined s=m)/\yo (ay dJ) m H Q
theorem yH:aP ["ranges","joined","lo","hi","before"] ["ranges"] (aC Gj):=aV
theorem HX(T:Txt K mg)(B:Bs K mg base tb):br P w K mg base "joined_ranges" 1 ["ranges"] (YW mg):=by
 refine T.BU.fn.ok yH (λ_ _ _ _ ⟨_,_,_,e,_⟩=>by rw[e];rfl) (λcdv A outer s H vs Q E hr h=>?_);obtain⟨u,l,m,rfl,hu,hl,hj,k⟩:=h;refine⟨_,(aq (aN (i:=1) yH.nd rfl (Or.inl rfl) (bL af))
   (aq (eV eF rfl (d8 (fF WI (by rfl) T.X9 boot_sorted (aa (pv 0) af))) (oN rfl (gz (bh (i:=2) yH.nd rfl (Or.inl rfl)) (gz (bh (i:=3) yH.nd rfl (Or.inl rfl)) oM)))
    (az (cN (vj (ER (pv 1) (λ_=>rfl)) (fE LO (pv 2) (gj EN (bD (r:=cX K) gk (bD (r:=bX K) dW (pv 1) (UM UN bK) (λ_ _=>rfl)) bK (λ_ _=>rfl)) bK) (eK _))) (aq (aN (i:=4) yH.nd rfl (Or.inl rfl) (Mq gc RK ab6 Ms (pv 1)))
   (az (gi (gm gc kc kW jU (pv 1) (aa (gJ (aa (bD (r:=cX K) gk (pv 4) bK (λ_ _=>rfl)) (aa (fF (LR rfl) (by rfl) T.Og boot_max (aa (bD (r:=cX K) gk (pv 4) bK (λ_ _=>rfl)) (aa (pv 3) af))) af))) af))))) (az (gi (gm gc kc kW jU (pv 1) (aa (gJ (aa (pv 2) (aa (pv 3) af))) af)))))))
   (az (aH (pv 1))))),?_⟩
 refine⟨cM _,λD hD=>?_⟩;have sD:Sm H (upd H D (.lst [])):=Sm.new hD;refine YT (Z:=λv H1=>∃a s,v=.ref a/\Sm (upd H D (.lst [])) H1/\upd H D (.lst []) a=none/\s.Perm l/\s.Pairwise (λp q=>p.1<=q.1)/\ay dJ H1 (.ref a) s) (R:=dJ) (λQ' k'=>⟨_,rfl,YV (aI eX _ _ _ _ sD hu) λa H1 s s1 ha hp hs h1=>k' _ _ ⟨a,s,rfl,s1,ha,hp,hs,h1⟩⟩) ?_;rintro v H1 ⟨a,s,rfl,s1,ha,hp,hs,h1⟩;have hDs:∀b∈[D],∃ys,H1 b=some (.lst ys):=λb hb=>by rw[cF.mp hb];exact⟨_,Sm.at s1 aA⟩
 have hna:a∉[D]:=λz=>by rw[cF.mp z,aA]at ha;cases ha
 have hls:s.length<sizeLine:=by rw[hp.length_eq];exact hl
 refine⟨s,λi σ H3=>∃x2 x3 x4,σ=[some u,some (.ref D),x2,x3,x4]/\Own dJ H H3 D ((s.take i).foldl gG [])/\aD [D] H1 H3,⟨none,none,none,rfl,⟨sD.trans s1,hD,D,[],rfl,Sm.at s1 aA,.nil⟩,aD.refl _ _⟩,λi σ H3 ⟨_,_,_,_,_,x⟩=>lO n8 hDs x hna h1,?_,?_⟩
 .rintro i y p σ H3 hi hy ⟨x2,x3,x4,rfl,o,sx⟩
  have hli:=(cU.mp hi).1;have hlen:=PN (s.take i) [];rw[pL,zp]at hlen;have dj:(s.take (i+1)).foldl gG []=gG ((s.take i).foldl gG []) p:=by rw[take_snoc hi,RT];rfl
  generalize (s.take i).foldl gG []=acc at*
  obtain⟨t,ul,uh,rfl,ht,e1,e2⟩:=hy;cases e1;cases e2;refine⟨t,_,rfl,aM.of ht,rfl,_,_,rfl,_,_,rfl,rfl,?_⟩;obtain⟨vs,g1,g2⟩:=o.at_
  refine⟨_,rfl,!vs.isEmpty,.inl ⟨vs,aU.of g1,rfl⟩,?_⟩;rcases(show acc=[]\/∃ac q,acc=ac++[q]from(abS acc).imp id λ⟨ac,q,e⟩=>⟨ac,q,by rw[e,abT]⟩)with rfl|⟨ac,q,rfl⟩
  .cases g2
   refine aY (aY ?_);refine⟨_,rfl,o.ty,_,rfl,_,rfl,(by show 2<=sizeLine;decide),λt2 ht2=>?_⟩;have s2:Sm H3 (upd H3 t2 (.tup [.int (p.1:Nat),.int (p.2:Nat)])):=Sm.new ht2;refine(o.mono eX s2).push n8 (z:=p) ⟨t2,_,_,rfl,aA,rfl,rfl⟩ (by rw[cK];decide) λH4 o4 x4'=>⟨_,_,_,rfl,?_,(sx.trans (Sm.x s2)).trans x4'⟩;rw[dj];exact o4
  .have hv:vs.isEmpty=false:=by
    have:=eW g2;cases vs with
    |nil=>simp at this
    |cons _ _=>rfl
   rw[hv];refine bf ⟨_,rfl,_,rfl,_,rfl,YR o.lst λy hy=>yp hy λy2 hy2=>?_⟩;cases hy2;refine⟨_,_,rfl,rfl,_,_,rfl,rfl,_,rfl,?_⟩;have hgl:gG (ac++[q]) p=if p.1<=q.2+1 then ac++[(q.1,max q.2 p.2)]else ac++[q]++[p]:=by
    unfold gG;rw[List.getLast?_concat];show(if _ then(ac++[q]).dropLast++_ else _)=_;rw[List.dropLast_concat]
   by_cases hc:p.1<=q.2+1
   .rw[aj hc]at hgl
    rw[cT (by omega)];refine bf ⟨_,rfl,o.ty,o.pop n8 λv H4 o4 hv4 x4'=>?_⟩;refine⟨_,rfl,o4.ty,_,rfl,B6 hv4 λz1 hz1=>⟨_,rfl,yp hv4 λz2 hz2=>⟨_,rfl,?_⟩⟩⟩;cases hz1;cases hz2;refine⟨_,_,rfl,(by show 2<=sizeLine;decide),λt2 ht2=>?_⟩;have s2:=Sm.new (o:=.tup [.int (q.1:Nat),.int (if((p.2:Nat):Int)>(q.2:Nat)then((p.2:Nat):Int)else(q.2:Nat))]) ht2;have em:(if((p.2:Nat):Int)>(q.2:Nat)then((p.2:Nat):Int)else(q.2:Nat))=((max q.2 p.2:Nat):Int):=by
     split<;>omega
    refine(o4.mono eX s2).push n8 (z:=(q.1,max q.2 p.2)) ⟨t2,_,_,rfl,aA,rfl,by rw[em];rfl⟩ ?_ λH5 o5 x5=>⟨_,_,_,rfl,?_,((sx.trans x4').trans (Sm.x s2)).trans x5⟩
    .rw[aX]at hlen
     omega
    .rw[dj,hgl]
     exact o5
   .rw[ai hc]at hgl
    rw[bZ (by omega)];refine aY ⟨_,rfl,o.ty,_,rfl,_,rfl,(by show 2<=sizeLine;decide),λt2 ht2=>?_⟩;have s2:Sm H3 (upd H3 t2 (.tup [.int (p.1:Nat),.int (p.2:Nat)])):=Sm.new ht2;refine(o.mono eX s2).push n8 (z:=p) ⟨t2,_,_,rfl,aA,rfl,rfl⟩ (by omega) λH4 o4 x4'=>⟨_,_,_,rfl,?_,(sx.trans (Sm.x s2)).trans x4'⟩;rw[dj,hgl];exact o4
 .rintro σ H3 ⟨x2,x3,x4,rfl,o,sx⟩
  rw[ja]at o;refine⟨_,rfl,k D H3 o.sm hD ?_⟩;rw[<-hj s hp hs];exact o.lst
theorem YX{p:Nat×Nat}(h:dJ H v p):bH aW H v [p.1,p.2]:=by
 obtain⟨a,u,w,e,h1,h2,h3⟩:=h;exact⟨a,_,e,h1,.cons h2 (.cons h3 .nil)⟩
def PR(mg:Str->Option Value):Sp:=λvs H Q _=>∃u l m,vs=[u]/\ay dJ H u l/\l.length<sizeLine/\(∀s:List (Nat×Nat),s.Perm l->s.Pairwise (λp q=>p.1<=q.1)->joined s=m)/\m.length<=10000/\yo (ay aW) (shownRanges m) H Q
theorem HY:∀l:List (Nat×Nat),(l.flatMap λp=>[p.1,p.2]).length=2*l.length
 |[]=>rfl
 |p::l=>by
  have ih:=HY l;show([p.1,p.2]++l.flatMap λp=>[p.1,p.2]).length=2*(l.length+1);rw[aX,ih];show 2+_=_;omega
theorem Cn:aP ["ranges","joined","told","pair"] ["ranges"] (aC Gk):=aV
theorem PU(T:Txt K mg)(B:Bs K mg base tb):br P w K mg base "told_ranges" 2 ["ranges"] (PR mg):=by
 have yI:=HX (P:=P) (w:=w) T B;refine T.G0.fn.ok Cn (λ_ _ _ _ ⟨_,_,_,e,_⟩=>by rw[e];rfl) (λcdv A outer s H vs Q E hr h=>?_);obtain⟨u,l,m,rfl,hu,hl,hj,hm,k⟩:=h;refine⟨_,(aq (aN (i:=1) Cn.nd rfl (Or.inl rfl) (aE T.BU yI hr (aa (pv 0) af)))
   (aq (aN (i:=2) Cn.nd rfl (Or.inl rfl) (bL (aa (fF j4 (by rfl) T.jY kU (aa (pv 1) af)) af)))
   (aq (eV eF rfl (d8 (pv 1)) (bh (i:=3) Cn.nd rfl (Or.inl rfl))
    (az (gi (gm gc qO uJ M3 (pv 2) (aa (pv 3) af)))))
   (az (aH (pv 2)))))),?_⟩
 refine⟨_,rfl,u,l,m,rfl,hu,hl,hj,λa H1 s1 ha h1=>⟨_,rfl,mW h1 ⟨(by show 1<=sizeLine;decide),λD hD=>?_⟩⟩⟩;refine jq (ms:=m) (R:=dJ) (λx H2=>x=.ref a/\H2=upd H1 D (.lst [.int (m.length:Nat)])) (λQ' k'=>⟨_,rfl,k' _ _ ⟨rfl,rfl⟩⟩) ?_;rintro x H2 ⟨rfl,rfl⟩;refine⟨λi σ H3=>∃x3,σ=[some u,some (.ref a),some (.ref D),x3]/\Own aW H1 H3 D (m.length::(m.take i).flatMap λp=>[p.1,p.2]),⟨none,rfl,⟨Sm.new hD,hD,D,_,rfl,aA,.cons rfl .nil⟩⟩,λi σ H3 ⟨_,_,o⟩=>aI eX _ _ _ _ o.sm h1,?_,?_⟩
 .rintro i y p σ H3 hi hy ⟨x3,rfl,o⟩
  refine⟨_,rfl,o.ty,_,rfl,o.PD jt (YX hy) ?_ λH4 o4 _=>⟨_,rfl,?_⟩⟩
  .rw[bT,HY,cK,pL]
   show _+1+2<=_;omega
  .rw[take_snoc hi,j8]
   exact o4
 .rintro σ H3 ⟨x3,rfl,o⟩
  rw[ja]at o;exact⟨_,rfl,k D H3 (s1.trans o.sm) (s1.free hD) o.lst⟩
def d9(v:List Bool):List Sym->List Sym
 |[]=>[]
 |y::r=>if eE v y then y::d9 v r else[y]
theorem Co{n:Nat}{l:List Nat}:∀{ys:List Sym},(∀k,Sym.non k∈ys->k<n)->d9 (cg n l) ys=leading l ys
 |[],_=>rfl
 |y::r,h=>by
  have e:eE (cg n l) y=symNull l y:=by
   cases y with
   |non k=>exact vG (h k aZ)
   |range lo hi=>rfl
  unfold d9 leading;rw[e,Co (ys:=r) λk hk=>h k (bg _ hk)]
theorem HZ:aP ["symbols","hollow","leading","symbol"] ["symbols","hollow"] (aC Gm):=aV
theorem Ia(T:Txt K mg)(B:Bs K mg base tb):br P w K mg base "leading_symbols" 3 ["symbols","hollow"] (tX (bH bz) (ay bA) Fit (ay bz) (λys v=>d9 v ys)):=by
 have qB:=vF (P:=P) (w:=w) T B;refine T.BV.fn.ok HZ vD (λcdv A outer s H vs Q E hr h=>?_);obtain⟨u,ys,u2,v,rfl,hy,hv,⟨p1,p2⟩,k⟩:=h;refine⟨_,(aq (aN (i:=2) HZ.nd rfl (Or.inl rfl) (bL af))
   (aq (eV eF rfl (oO (pv 0)) (bh (i:=3) HZ.nd rfl (Or.inl rfl))
    (aq (gi (gm gc kc kW jU (pv 2) (aa (pv 3) af)))
   (az (cN (sV (di (aE T.rI qB hr (aa (bL (aa (pv 3) af)) (aa (pv 1) af))))) (az Uy) cP))))
   (az (aH (pv 2))))),?_⟩
 refine⟨cM _,λD hD=>?_⟩;refine B9 (ms:=ys) (R:=bz) (λx H1=>x=u/\H1=upd H D (.lst [])) (λQ' k'=>⟨_,rfl,k' _ _ ⟨rfl,rfl⟩⟩) ?_;rintro x H1 ⟨rfl,rfl⟩;refine⟨λi σ H3=>∃x3,σ=[some x,some u2,some (.ref D),x3]/\Own bz H H3 D (ys.take i)/\d9 v ys=ys.take i++d9 v (ys.drop i),⟨none,rfl,Own.new (Sm.refl _) hD,rfl⟩,λi σ H3 ⟨_,_,o,_⟩=>jE bC _ _ _ _ o.sm hy,?_,?_⟩
 .rintro i z y σ H3 hi hz ⟨x3,rfl,o,lg⟩
  have hli:=(cU.mp hi).1;refine⟨_,rfl,o.ty,_,rfl,o.push mX hz ?_ λH4 o4 x4=>?_⟩
  .rw[pL,cK]
   omega
  .have hz4:bz H4 z y:=mX _ _ _ _ _ o.dZ x4 hz
   refine⟨_,rfl,(by show 1<=sizeLine;decide),λp hp=>?_⟩;have s5:Sm H4 (upd H4 p (.lst [z])):=Sm.new hp;refine⟨_,rfl,.ref p,[y],u2,v,rfl,.inr ⟨p,_,rfl,aA,.cons (bC _ _ _ _ s5 hz4) .nil⟩,aI dH _ _ _ _ (o4.sm.trans s5) hv,⟨λk hk=>p1 k (by rw[cF.mp hk];exact cE hi),(by show 1<=1000;decide)⟩,λb H6 s6 hb=>?_⟩;have o6:=o4.mono bC (s5.trans s6);have hd:ys.drop i=y::ys.drop (i+1):=by rw[sj hli,(cU.mp hi).2]
   refine⟨_,(show b=.bl (eE v y)by rw[show eE v y=([y].all (eE v))by rw[l6,RU,wD]];exact hb),?_⟩;rw[hd]at lg;unfold d9 at lg;cases e:eE v y with
   |true=>
    refine aY ⟨_,rfl,by rw[take_snoc hi];exact o6,?_⟩;rw[take_snoc hi,jy]
    conv at lg=>rhs;rw[aj e]
    conv=>lhs;unfold d9
    exact lg
   |false=>
    refine bf ⟨_,rfl,k D H6 o6.sm hD ?_⟩
    conv at lg=>rhs;rw[ai (by rw[e];decide)]
    have e2:d9 v ys=ys.take i++[y]:=by
                           conv=>lhs;unfold d9
                           exact lg
    show ay bz H6 (.ref D) (d9 v ys);rw[e2];exact o6.lst
 .rintro σ H3 ⟨x3,rfl,o,lg⟩
  rw[qQ,ja]at lg;rw[ja]at o;refine⟨_,rfl,k D H3 o.sm hD ?_⟩;show ay bz H3 (.ref D) (d9 v ys);rw[lg];show ay bz H3 (.ref D) (ys++[]);rw[fW];exact o.lst
theorem bQ.under{α:Type}{R:Rep α}{bs:List (List α)}(s:Sm H H0)(b:bQ R H0 H' D as bs):bQ R H H' D as bs:=
 ⟨s.trans b.sm,s.free b.d0,b.lst,b.nd,b.out,λc hc=>s.free (b.new c hc),b.at_,b.len⟩
def t9(j:Nat):List Sym->List (Nat×Bool)
 |[]=>[]
 | .non b::r=>(b,decide (0<j))::t9 (j+1) r
 | .range _ _::r=>t9 (j+1) r
theorem Cp{null:List Nat}:∀(l:List Sym) (j:Nat),t9 j (leading null l)=jP null (decide (0<j)) l
 |[],j=>rfl
 | .non b::r,j=>by
  have ih:=Cp (null:=null) r (j+1);rw[show decide (0<j+1)=true from cT (by omega)]at ih;unfold leading jP Vaglrb.leftIn;unfold jP at ih;show t9 j (if Vaglrc.has b null=true then .non b::leading null r else[.non b])=_;split
  .show(b,_)::t9 (j+1) (leading null r)=_
   rw[ih];rfl
  .rfl
 | .range lo hi::r,j=>rfl
theorem Cq:∀(l:List Sym) (j:Nat),(t9 j l).length<=l.length
 |[],j=>aF _
 | .non b::r,j=>Dr (Cq r (j+1))
 | .range lo hi::r,j=>RV (Cq r (j+1))
theorem vM{null:List Nat}:∀l:List Sym,(leading null l).length<=l.length
 |[]=>aF _
 |y::r=>by
  unfold leading;split
  .exact Dr (vM r)
  .show 1<=r.length+1;omega
abbrev kL:Rep (Nat×Bool):=mQ aW bA
theorem pB:Mn kL:=xT bE dH
theorem PV:Lx kL:=Hs jt Ph
def yJ{α:Type}(mg:Str->Option Value)(tb:Addr)(R:Rep α)(f:Grammar->List (List α)):Sp:=λvs H Q _=>∃u g,vs=[u]/\cR mg tb H u g/\∀D H' as,bQ R H H' D as (f g)->Q (.ref D) H'
theorem Cr{α:Type}{mg:Str->Option Value}{tb:Addr}{R:Rep α}{f:Grammar->List (List α)}:∀vs H Q E,yJ mg tb R f vs H Q E->vs.length=[x].length:=λ_ _ _ _ ⟨_,_,e,_⟩=>by rw[e];rfl
theorem Cs{α:Type}{l:List α}{x y:α}(h:l[k]?=some x):(l.set k y)[k]?=some y:=rY (cU.mp h).1
theorem ua:aP ["grammar","hollow","ways","a","rule","place","symbol"] ["grammar"] (aC Bf):=aV
theorem PX(T:Txt K mg)(B:Bs K mg base tb):br P w K mg base "left_ways" 17 ["grammar"] (yJ mg tb kL (λg=>aL g.nons (wItems g))):=by
 have lS:=t6 (P:=P) (w:=w) T B;have qz:=yD (P:=P) (w:=w) T B;have yK:=Ia (P:=P) (w:=w) T B;have gP:=nX (P:=P) (w:=w) T B;refine T.G1.fn.ok ua Cr (λcdv A outer s H vs Q E hr h=>?_);obtain⟨u,g,rfl,hg,k⟩:=h;have G:=hg.2.2;refine⟨_,(aq (aN (i:=1) ua.nd rfl (Or.inl rfl) (aE T.qw lS hr (aa (pv 0) af)))
   (aq (qi (i:=2) (own:=[("a",3)]) rfl ua.nd rfl rfl (nR rfl rfl rfl rfl) (jR rfl T.jZ (aa (aO (K:=K) rfl (pv 0) rfl) af)) (eu (N:=["grammar","hollow","ways","a","rule","place","symbol"]) (sc:=aC Bf) (by decide+kernel)) (λs H C cl fp=>(bh (i:=3) ua.nd rfl (Or.inl rfl))) (λs H C cl fp=>fZ) (λs H C cl fp=>(bL af)))
   (aq (eV eF rfl (d8 (aE T.vt qz hr (aa (pv 0) af))) (bh (i:=4) ua.nd rfl (Or.inl rfl))
    (az (eV eF rfl (Fx rfl T.vp (aa (aE T.BV yK hr (aa (aO (K:=K) rfl (pv 4) rfl) (aa (pv 1) af))) af)) (oN rfl (gz (bh (i:=5) ua.nd rfl (Or.inl rfl)) (gz (bh (i:=6) ua.nd rfl (Or.inl rfl)) oM)))
    (az (cN (di (aE T.mU gP hr (aa (pv 6) af))) (az (gi (gm gc kc kW jU (bD (r:=bX K) dW (pv 2) (aO (K:=K) rfl (pv 4) rfl) (λ_ _=>rfl)) (aa (gJ (aa (bD (r:=cX K) gk (pv 6) bK (λ_ _=>rfl)) (aa (lA xy (pv 5) bK (eK _)) af))) af)))) cP)))))
   (az (aH (pv 2)))))),?_⟩
 refine⟨_,rfl,u,g,rfl,hg,trivial,λa1 H1 s1 _ h1=>?_⟩;have h1:ay bA H1 (.ref a1) (cg g.nons (nullable g)):=h1;have gB:=cZ _ _ _ _ s1 hg;refine vC (n:=g.nons) (λQ' k'=>⟨_,rfl,gZ T gB (k' _ (Sm.refl _))⟩) (fQ G) (λ_=>rfl) λD as H2 hD e1 s2 e2 e3 e4 e5=>?_;have b0:bQ kL H1 H2 D as (List.replicate g.nons []):=bQ.start hD e1 s2 e2 e3 e4 e5;have jv:=cZ _ _ _ _ s2 gB;refine jq (ms:=productiveRules g) (R:=bF mg) (λx H3=>∃a,x=.ref a/\Sm H2 H3/\H2 a=none/\ay (bF mg) H3 x (productiveRules g)) (λQ' k'=>⟨_,rfl,u,g,rfl,jv,trivial,λa H3 s3 ha h3=>k' _ _ ⟨a,rfl,s3,ha,h3⟩⟩) ?_;rintro x H3 ⟨a,rfl,s3,ha,h3⟩;have b3:=b0.mono pB s3;have na:=pA b0.dZ ha;refine⟨λi σ H4=>∃x4 x5 x6,σ=[some u,some (.ref a1),some (.ref D),none,x4,x5,x6]/\bQ kL H1 H4 D as (aL g.nons ((wItems g).take i))/\aD as H3 H4,⟨none,none,none,rfl,?_,aD.refl _ _⟩,λi σ H4 ⟨_,_,_,_,_,sx⟩=>lO ju b3.dZ sx na h3,?_,?_⟩
 .rw[ow,uN]
  exact b3
 .rintro i y r σ H4 hi hy ⟨x4,x5,x6,rfl,b,sx⟩
  have iW:=cE hi;have R:=G.rules r (fL iW);have iE:(wItems g)[i]?=some (r.lhs,jP (nullable g) false r.rhs):=by unfold wItems;rw[fK,hi];rfl
  obtain⟨xs,hk⟩:∃xs,(aL g.nons ((wItems g).take i))[r.lhs]?=some xs:=⟨_,bO (by rw[gH];exact R.lhs)⟩;have hxs:xs.length<=480:=by
   have q1:=rN (B:=8) hk λp hp=>by
    obtain⟨r',n6,rfl⟩:=bG.mp (pO hp);show(jP _ _ _).length<=8;rw[show false=decide (0<0)from rfl,<-Cp];exact aG (Cq _ _) (aG (vM _) (G.rules r' (fL n6)).cA)
   have q2:((wItems g).take i).length<=60:=aG (sr _ _) (by unfold wItems;rw[aK];exact aG (uR g) G.cA);omega
  have fz:aL g.nons ((wItems g).take (i+1))=(aL g.nons ((wItems g).take i)).set r.lhs (xs++jP (nullable g) false r.rhs):=by rw[take_snoc iE,uO hk]
  generalize aL g.nons ((wItems g).take i)=bs at b hk fz;refine Hq (ms:=leading (nullable g) r.rhs) (R:=bz) (λx H5=>∃a,x=.ref a/\Sm H4 H5/\H4 a=none/\ay bz H5 x (leading (nullable g) r.rhs)) (λQ' k'=>⟨_,rfl,jo T hy λus dF=>⟨_,rfl,us,r.rhs,_,_,rfl,dF,aI dH _ _ _ _ b.sm h1,vH R l8,λa H5 s5 ha h5=>k' _ _ ⟨a,rfl,s5,ha,by rw[<-Co (n:=g.nons) λk hk=>R.rhs _ hk];exact h5⟩⟩⟩) bC ?_;rintro x H5 ⟨a2,rfl,s5,ha2,h5⟩;have b5:=b.mono pB s5;have na2:=pA b.dZ ha2;refine⟨λj σ H6=>∃x5 x6 done,σ=[some u,some (.ref a1),some (.ref D),none,some y,x5,x6]/\bQ kL H1 H6 D as (bs.set r.lhs (xs++done))/\aD as H5 H6/\done.length<=j/\done++t9 j ((leading (nullable g) r.rhs).drop j)=jP (nullable g) false r.rhs,
   ⟨x5,x6,[],rfl,by rw[fW,yy hk];exact b5,aD.refl _ _,aF _,by rw[C3,zl,Cp];rfl⟩,λj σ H6 ⟨_,_,_,_,_,q,_⟩=>lO mX b5.dZ q na2 h5,λj σ H6 H7 s7 ⟨x5,x6,dn,e,q1,q2,q3⟩=>⟨x5,x6,dn,e,q1.mono pB s7,q2.trans (Sm.x s7),q3⟩,?_,?_⟩
  .rintro j z m σ H6 hj hz ⟨x5,x6,dn,rfl,b6,f9,hdl,bV⟩
   have hlj:=(cU.mp hj).1;have hlm:=vM (null:=nullable g) r.rhs;rw[sj hlj,(cU.mp hj).2]at bV;refine⟨_,rfl,z,m,rfl,hz,trivial,λb' H7 s7 jl=>⟨_,jl,?_⟩⟩;have b7:=b6.mono pB s7;have gp:=f9.trans (Sm.x s7);have hz7:=bC _ _ _ _ s7 hz;have lT:bF mg H7 y r:=ju _ _ _ _ _ b5.dZ gp (cY _ _ _ _ s5 hy);cases m with
   |range lo hi=>exact aY ⟨_,_,dn,rfl,b7,gp,by omega,bV⟩
   |non c=>
    obtain⟨cc,vs,hc,lQ,_⟩:=b7.find (Cs hk);refine bf ⟨_,rfl,_,rfl,kI T lT (vI b7 hc ⟨pq lQ,_,rfl,oY hz7 ⟨_,rfl,_,_,rfl,rfl,(by show 2<=sizeLine;decide),λt ht=>?_⟩⟩)⟩;have s8:=Sm.new (o:=.tup [.int (c:Nat),.bl (decide ((0:Int)<(j:Nat)))]) ht;refine HP PV (z:=(c,decide (0<j))) (b7.mono pB s8) hc (Cs hk) ⟨t,_,_,rfl,aA,rfl,?_⟩ ?_ λH9 b9 sx9=>⟨_,_,dn++[(c,decide (0<j))],rfl,?_,(gp.trans (Sm.x s8)).trans sx9,?_,?_⟩
    .show V.bl _=V.bl _
     congr 1
     by_cases q:0<j
     .rw[cT q,cT (by omega)]
     .rw[bZ q,bZ (by omega)]
    .rw[aX,cK]
     have:=R.cA;omega
    .rw[List.set_set,jy]at b9
     exact b9
    .rw[aX];show _+1<=_;omega
    .rw[jy]
     exact bV
  .rintro σ H6 ⟨x5,x6,dn,rfl,b6,f9,hdl,bV⟩
   rw[qQ]at bV;have bV:dn++[]=jP (nullable g) false r.rhs:=bV;rw[fW]at bV;rw[bV]at b6;refine⟨_,_,_,rfl,by rw[fz];exact b6,(sx.trans (Sm.x s5)).trans f9⟩
 .rintro σ H4 ⟨x4,x5,x6,rfl,b,sx⟩
  rw[qP (by unfold wItems;rw[aK];exact aF _)]at b;exact⟨_,rfl,k D H4 as (b.under s1)⟩
theorem bQ.YY{α:Type}{R:Rep α}(lx:Lx R){bs:List (List α)}(b:bQ R H0 H D as bs)(hex:∀c∈ex,∃xs,H c=some (.lst xs))(s:aD ex H H')(hD:D∉ex)(has:∀c∈as,c∉ex):ay (ay R) H' (.ref D) bs:=by
 refine⟨D,_,rfl,s.at b.lst hD,Hu (by rw[aK];exact b.len) λk a xs h1 h2=>?_⟩;rw[fK]at h1;cases e:as[k]? with
 |none=>rw[e]at h1;cases h1
 |some c=>
  rw[e]at h1;obtain rfl:V.ref c=a:=Option.some.inj h1;obtain⟨vs,q1,q2⟩:=b.at_ k c xs e h2
  exact lO lx hex s (has c (cE e)) ⟨c,vs,rfl,q1,q2⟩
theorem bQ.snoc{α:Type}{R:Rep α}(lx:Lx R){c:Addr}{bs:List (List α)}{xs:List α}(b:bQ R H0 H D as bs)(hc0:H0 c=none)(hca:c∉as)(hcD:D≠c)(h:ay R H (.ref c) xs):bQ R H0 (upd H D (.lst (as.map V.ref++[.ref c]))) D (as++[c]) (bs++[xs]):=by
 obtain⟨c',vs,e,h1,h2⟩:=h;cases e;refine⟨Sm.wrL b.sm b.d0 b.lst,b.d0,by rw[aA,qK];rfl,FA b.nd hca,λm=>?_,λx hx=>?_,λk x ys g1 g2=>?_,by rw[aX,aX,b.len];rfl⟩
 .rcases eZ.mp m with z|z
  .exact b.out z
  .exact hcD (by simpa using z)
 .rcases eZ.mp hx with z|z
  .exact b.new x z
  .rw[show x=c by simpa using z];exact hc0
 .by_cases e:k<as.length
  .rw[zh e]at g1
   rw[zh (by rw[<-b.len];exact e)]at g2;obtain⟨ws,q1,q2⟩:=b.at_ k x ys g1 g2
   have nx:x≠D:=λz=>b.out (by rw[<-z];exact cE g1);exact⟨ws,by rw[aJ nx];exact q1,gW (λ_ _ q=>jI lx _ _ _ _ _ _ b.lst q) q2⟩
  .rw[r8 (by omega)]at g1
   rw[r8 (by rw[<-b.len];omega)]at g2;rw[<-b.len]at g2;have hk:k-as.length=0:=by
    have:=(cU.mp g1).1;simp at this;omega
   rw[hk]at g1 g2;have e1:c=x:=Option.some.inj g1;have e2:xs=ys:=Option.some.inj g2;subst e1 e2;exact⟨vs,by rw[aJ (cS hcD)];exact h1,gW (λ_ _ q=>jI lx _ _ _ _ _ _ b.lst q) h2⟩
theorem PY(G:aS g):∀l∈aL g.nons (wItems g),l.length<=480:=λl hl=>by
 obtain⟨k,hk,e⟩:=JW.mp hl;have q1:=rN (B:=8) (xs:=l) (by rw[bO hk,e]) λp hp=>by
  obtain⟨r',n6,rfl⟩:=bG.mp hp;show(jP _ _ _).length<=8;rw[show false=decide (0<0)from rfl,<-Cp];exact aG (Cq _ _) (aG (vM _) (G.rules r' (fL n6)).cA)
 have q2:(wItems g).length<=60:=by unfold wItems;rw[aK];exact aG (uR g) G.cA
 omega
theorem yL:aP ["grammar","steps","ways","way"] ["grammar"] (aC Bg):=aV
theorem Ct(T:Txt K mg)(B:Bs K mg base tb):br P w K mg base "left_steps" 18 ["grammar"] (yJ mg tb aW (λg=>aL g.nons (iz g))):=by
 have Ib:=PX (P:=P) (w:=w) T B;refine T.yj.fn.ok yL Cr (λcdv A outer s H vs Q E hr h=>?_);obtain⟨u,g,rfl,hg,k⟩:=h;have G:=hg.2.2;refine⟨_,(aq (aN (i:=1) yL.nd rfl (Or.inl rfl) (bL af))
   (aq (eV eF rfl (d8 (aE T.G1 Ib hr (aa (pv 0) af))) (bh (i:=2) yL.nd rfl (Or.inl rfl))
    (az (gi (gm gc kc kW jU (pv 1) (aa (gU (own:=[("way",3)]) rfl yL.nd (d8 (pv 2)) (eu (N:=["grammar","steps","ways","way"]) (sc:=aC Bg) (by decide+kernel)) (λs H C cl fp=>(bh (i:=3) yL.nd rfl (Or.inl rfl))) (λs H C cl fp=>fZ) (λs H C cl fp=>(bD (r:=cX K) gk (pv 3) bK (λ_ _=>rfl)))) af)))))
   (az (aH (pv 1))))),?_⟩
 refine⟨cM _,λD hD=>?_⟩;have sD:Sm H (upd H D (.lst [])):=Sm.new hD;refine jq (ms:=aL g.nons (wItems g)) (R:=ay kL) (λx H1=>∃a as,x=.ref a/\bQ kL (upd H D (.lst [])) H1 a as (aL g.nons (wItems g))) (λQ' k'=>⟨_,rfl,u,g,rfl,cZ _ _ _ _ sD hg,λa H1 as b=>k' _ _ ⟨a,as,rfl,b⟩⟩) ?_;rintro x H1 ⟨a,as,rfl,bw⟩;have hD1:H1 D=some (.lst []):=Sm.at bw.sm aA;have hDs:∀b∈[D],∃ys,H1 b=some (.lst ys):=λb hb=>by rw[cF.mp hb];exact⟨_,hD1⟩
 have na:a∉[D]:=λz=>by have:=bw.d0;rw[cF.mp z,aA]at this;cases this
 have nas:∀c∈as,c∉[D]:=λc hc z=>by have:=bw.new c hc;rw[cF.mp z,aA]at this;cases this
 refine⟨λi σ H3=>∃x2 cs,σ=[some u,some (.ref D),x2,none]/\bQ aW H H3 D cs (((aL g.nons (wItems g)).take i).map λl=>l.map (·.1))/\aD [D] H1 H3,⟨none,[],rfl,⟨sD.trans bw.sm,hD,hD1,RN,by simp,by simp,λk b xs h=>by simp at h,rfl⟩,aD.refl _ _⟩,λi σ H3 ⟨_,_,_,_,sx⟩=>bw.YY PV hDs sx na nas,?_,?_⟩
 .rintro i y l σ H3 hi hy ⟨x2,cs,rfl,b,sx⟩
  have aR:=(cU.mp hi).1;rw[gH]at aR;refine⟨_,rfl,pq b.lst,?_⟩;refine oZ (λp=>some p.1) (ms:=l) (R:=kL) (G:=λ_=>aW) (λQ' k'=>⟨_,rfl,k' _ _ (Sm.refl _) hy⟩) pB (aG (PY G l (cE hi)) (by decide)) (λ_=>bE) (λD=>jm qm D) (λH4 D' z p s4 hD' hp hz H5 Nx s5 hl kF kT=>?_) λD' zs H5 hD' e1 s5 e3=>?_
  .exact⟨rfl,jr ⟨_,rfl,B6 (pB _ _ _ _ s5 hz) λv hv=>kT _ _ _ rfl (Sm.refl _) hv⟩⟩
  .rw[filterMap_some]at e3
   have b5:=b.mono bE s5;have nK:cs.length<=20:=by
    rw[b.len,aK,pL,gH];have:=G.nons;omega
   refine yw b5.lst (by rw[aK,cK];omega) ⟨_,cs++[D'],rfl,?_,?_⟩
   .rw[take_snoc hi,qK]
    exact b5.snoc jt (b.sm.free hD') (λm=>by obtain⟨ys,q⟩:=b.dZ D' m;rw[q]at hD';cases hD') (λq=>by rw[<-q,b.lst]at hD';cases hD') ⟨D',zs,rfl,e1,e3⟩
   .exact aD.wr (sx.trans (Sm.x s5)) (.inr (cF.mpr rfl)) (by rw[b5.lst];trivial) trivial
 .rintro σ H3 ⟨x2,cs,rfl,b,sx⟩
  rw[ja,Ep]at b;exact⟨_,rfl,k D H3 cs b⟩
theorem PZ{f:Nat->Bool}:(List.range n).map f=cg n ((List.range n).filter f):=by
 unfold cg;refine wc λa ha=>?_;rw[m9,dQ,iO];exact⟨λh=>⟨ha,h⟩,λh=>h.2⟩
def yM(g:Grammar):List Nat:=(List.range g.nons).filter λa=>!(leftKinds g a==0)
theorem YZ:aP ["grammar"] ["grammar"] (aC Gn):=aV
theorem Y0(T:Txt K mg)(B:Bs K mg base tb):br P w K mg base "left_recursive_marks" 19 ["grammar"] (gO (cR mg tb) pY (ay bA) (λg=>cg g.nons (yM g))):=by
 have Ic:=Pu (P:=P) (w:=w) T B;have uc:=Ct (P:=P) (w:=w) T B;refine T.G2.fn.ok YZ iI (λcdv A outer s H vs Q E hr h=>?_);obtain⟨u,g,rfl,hg,_,k⟩:=h;have G:=hg.2.2;refine⟨_,(az (aH (aE T.GX Ic hr (aa (aE T.yj uc hr (aa (pv 0) af)) af)))),?_⟩;refine⟨_,rfl,u,g,rfl,hg,λD H1 as b=>?_⟩;have hS:=(uQ G).2;refine⟨_,_,rfl,b.done,⟨by rw[hS.len];exact hS,by rw[hS.len];exact fQ G⟩,λa H2 s2 ha h2=>k a H2 (b.sm.trans s2) (b.sm.free ha) ?_⟩;have e:(List.range (aL g.nons (iz g)).length).map (λa=>Vaglrc.has a (dg (aL g.nons (iz g)).length (aL g.nons (iz g)) a))=cg g.nons (yM g):=by
  rw[hS.len];unfold yM;rw[<-PZ];exact wc λa _=>by rw[zZ G,Tp G]
 show ay bA H2 (.ref a) (cg g.nons (yM g));rw[<-e];exact h2
def Cu(st:List (List Nat))(a:Nat):Bool:=(st.getD a []).any λb=>!(b==a)&&Vaglrc.has a (dg st.length st b)
theorem P0(a:Nat)(f:Nat->Bool):∀l:List Nat,(l.filterMap λb=>if b==a then none else some (f b)).any id=l.any λb=>!(b==a)&&f b
 |[]=>rfl
 |b::l=>by
  have ih:=P0 a f l;cases e:b==a with
  |true=>rw[ab4 (by rw[e];rfl),ih,jx,e];rfl
  |false=>rw[RS (b:=f b) (by rw[e];rfl),jx,jx,ih,e];rfl
theorem Ie:aP ["steps","a","b"] ["steps","a"] (aC Bh):=aV
theorem Y3(T:Txt K mg)(B:Bs K mg base tb):br P w K mg base "returns_through_others" 2 ["steps","a"] (kH (ay (ay aW)) aW (λst a=>yx st a/\∀l∈st,l.length<=1000) bA Cu):=by
 have lP:=tZ (P:=P) (w:=w) T B;refine T.Oj.fn.ok Ie mV (λcdv A outer s H vs Q E hr h=>?_);obtain⟨u,st,u2,a,rfl,dj,ha,⟨⟨hs,aR,hn⟩,hl⟩,k⟩:=h;cases ha;refine⟨_,(az (aH (fF (AB rfl) (by rfl) T.BL boot_any (aa (gU (own:=[("b",2)]) rfl Ie.nd (d8 (bD (r:=bX K) dW (pv 0) (pv 1) (λ_ _=>rfl))) (eu (N:=["steps","a","b"]) (sc:=aC Bh) (by decide+kernel)) (λs H C cl fp=>(bh (i:=2) Ie.nd rfl (Or.inl rfl))) (λs H C cl fp=>(tE (fE EO (pv 2) (pv 1) (eK _)))) (λs H C cl fp=>(lA (r:=rIn K false) xD (pv 1) (aE T.rH lP hr (aa (pv 0) (aa (pv 2) af))) rfl))) af)))),?_⟩;have hga:st[a]?=some (st.getD a []):=by rw[cC,bO aR];rfl
 have iW:=cE hga;refine oZ (λb=>if b==a then none else some (Vaglrc.has a (dg st.length st b))) (ms:=st.getD a []) (R:=aW) (G:=λ_=>bA) (λQ' k'=>⟨_,rfl,_,rfl,f7 dj hga λv hv=>k' _ _ (Sm.refl _) hv⟩) bE (aG (hl _ iW) (by decide)) (λ_=>dH) (λD=>jm qo D) (λH1 D x b s1 hD hb hx H2 Nx s2 hl kF kT=>?_) λD zs H' hD e1 e2 e3=>?_
 .cases hx
  refine⟨rfl,_,rfl,_,rfl,rfl,_,rfl,?_⟩;rw[vJ];cases e:b==a with
  |true=>exact aY (kF (by rw[e];rfl) _ (Sm.refl _))
  |false=>exact bf ⟨_,rfl,_,rfl,_,rfl,_,st,_,b,rfl,aI (aI bE) _ _ _ _ (s1.trans s2) dj,rfl,⟨hs,hs.lt _ iW _ hb,hn⟩,λc H4 s6 _ hv=>yq hv (kT _ _ _ (by rw[e];rfl) s6 rfl)⟩
 .refine B7 ⟨D,zs,rfl,e1,e3⟩ ?_
  rw[P0];exact k _ _ e2 rfl
def rQ(p:Nat×Bool):PyData:=.tuple [.int (p.1:Nat),.bool p.2]
theorem P1{p:Nat×Bool}(h:kL H v p):Dp K H v (rQ p):=by
 obtain⟨a,u,w,e,h1,h2,h3⟩:=h;cases h2;cases h3;rw[e];exact .tup (aM.of h1) (.cons (.int _) (.cons (.bl _) .nil))
theorem P4{H:Hp}:∀{vs:List V} {l:List (Nat×Bool)},Paired (kL H) vs l->oV K H vs (l.map rQ)
 |_,_,.nil=>.nil
 |_,_,.cons r t=>.cons (P1 r) (P4 t)
theorem Y4(p:Nat×Bool)(a:Nat)(b:Bool):PyData.eqv (rQ p) (rQ (a,b))=(p.1==a&&(p.2==b)):=by
 obtain⟨x,c⟩:=p;show(decide ((x:Int)=(a:Int))&&(PyData.eqv (.bool c) (.bool b)&&true))=_;rw[wD]
 congr 1
 .by_cases e:x=a
  .subst e;simp
  .rw[bZ (by omega),ni.mpr e]
theorem P5{w:V}{l:List (Nat×Bool)}{a:Nat}{b:Bool}(h:ay kL H v l)(hw:kL H w (a,b))(q:Q (.bl (l.any λp=>p.1==a&&(p.2==b))) H):vc K w v H Q:=by
 unfold vc;obtain⟨d,vs,e,h1,h2⟩:=h;refine⟨d,vs,rQ (a,b),l.map rQ,e,aU.of h1,P1 hw,P4 h2,rfl,λx hx=>?_,?_⟩
 .obtain⟨p,_,rfl⟩:=bG.mp hx
  rfl
 .rw[List.any_map,show((λx=>PyData.eqv x (rQ (a,b)))∘rQ)=(λp=>p.1==a&&(p.2==b))from funext λp=>Y4 p a b]
  exact q
theorem Y5(G:aS g):∀l∈aL g.nons (iz g),l.length<=480:=λl hl=>by
 rw[<-Ep]at hl;obtain⟨l',h,rfl⟩:=bG.mp hl;rw[aK];exact PY G l' h
theorem vN:aP ["grammar","a","ways","kinds"] ["grammar","a"] (aC Gp):=aV
theorem Y6(T:Txt K mg)(B:Bs K mg base tb):br P w K mg base "left_kinds" 19 ["grammar","a"] (kH (cR mg tb) aW (λg a=>a<g.nons) aW leftKinds):=by
 have Y7:=Y3 (P:=P) (w:=w) T B;have Ib:=PX (P:=P) (w:=w) T B;have uc:=Ct (P:=P) (w:=w) T B;refine T.Ol.fn.ok vN mV (λcdv A outer s H vs Q E hr h=>?_);obtain⟨u,g,u2,a,rfl,hg,ha,aR,k⟩:=h;cases ha;have G:=hg.2.2;refine⟨_,(aq (aN (i:=2) vN.nd rfl (Or.inl rfl) (bD (r:=bX K) dW (aE T.G1 Ib hr (aa (pv 0) af)) (pv 1) (λ_ _=>rfl)))
   (aq (aN (i:=3) vN.nd rfl (Or.inl rfl) bK)
   (aq (cN (fE (r:=vc K) (Na (O2 hr)) (gJ (aa (pv 1) (aa oK af))) (pv 2) rfl) (az (xw (i:=3) vN.nd rfl (Or.inl rfl) (bB T.XO) Ah)) cP)
   (aq (cN (fE (r:=vc K) (Na (O2 hr)) (gJ (aa (pv 1) (aa oK af))) (pv 2) rfl) (az (xw (i:=3) vN.nd rfl (Or.inl rfl) (bB T.XQ) Ah)) cP)
   (aq (cN (di (aE T.Oj Y7 hr (aa (aE T.yj uc hr (aa (pv 0) af)) (aa (pv 1) af)))) (az (xw (i:=3) vN.nd rfl (Or.inl rfl) (bB T.XR) Ah)) cP)
   (az (aH (pv 3)))))))),?_⟩
 refine⟨_,rfl,u,g,rfl,hg,λD H1 as b=>⟨_,rfl,f7 (k:=a) b.done (oG aR) λuw hw=>?_⟩⟩;have hw:ay kL H1 uw (gI g a):=hw;have hS:=(uQ G).2;have hth:Cu (aL g.nons (iz g)) a=((gI g a).map (·.1)).any (λb=>!(b==a)&&Vaglrc.has a (leads g (leftPairs g) b)):=by
  unfold Cu;rw[hS.len];have e1:(aL g.nons (iz g)).getD a []=(gI g a).map (·.1):=by
   rw[<-Ep,cC,fK,oG aR];rfl
  rw[e1]
  congr 1
  funext b
  rw[zZ G]
 have hk:=Le (g:=g) a;rw[<-hth,show(λp:Nat×Bool=>p.1==a&&!p.2)=(λp=>p.1==a&&(p.2==false))from funext λp=>by obtain⟨x,c⟩:=p;cases c<;>rfl,
  show(λp:Nat×Bool=>p.1==a&&p.2)=(λp=>p.1==a&&(p.2==true))from funext λp=>by obtain⟨x,c⟩:=p;cases c<;>rfl]at hk
 refine⟨_,rfl,(by show 2<=sizeLine;decide),λt1 ht1=>⟨_,rfl,?_⟩⟩;have s2:=b.sm.trans (Sm.new (o:=.tup [.int (a:Nat),.bl false]) ht1);refine P5 (aI pB _ _ _ _ (Sm.new ht1) hw) (a:=a) (b:=false) ⟨t1,_,_,rfl,aA,rfl,rfl⟩ ⟨_,rfl,?_⟩;cases e1:(gI g a).any (λp=>p.1==a&&(p.2==false))
 case' false=>refine aY ?_
 case' true=>refine bf ⟨_,rfl,_,_,rfl,rfl,?_⟩
 all_goals
  refine⟨_,rfl,(by show 2<=sizeLine;decide),λt2 ht2=>⟨_,rfl,?_⟩⟩;have s3:=s2.trans (Sm.new (o:=.tup [.int (a:Nat),.bl true]) ht2);refine P5 (aI pB _ _ _ _ (Sm.new ht2) (aI pB _ _ _ _ (Sm.new ht1) hw)) (a:=a) (b:=true) ⟨t2,_,_,rfl,aA,rfl,rfl⟩ ⟨_,rfl,?_⟩;cases e2:(gI g a).any (λp=>p.1==a&&(p.2==true))
  case' false=>refine aY ?_
  case' true=>refine bf ⟨_,rfl,_,_,rfl,rfl,?_⟩
  all_goals
   refine⟨_,rfl,u,g,rfl,cZ _ _ _ _ s3 hg,λD3 H4 as3 b4=>⟨_,rfl,_,_,_,a,rfl,b4.done,rfl,⟨t8 hS aR (fQ G),λl hl=>aG (Y5 G l hl) (by decide)⟩,λv5 H5 s5 hv5=>⟨_,hv5,?_⟩⟩⟩;have s6:=(s3.trans b4.sm).trans s5;rw[e1,e2]at hk;cases e3:Cu (aL g.nons (iz g)) a
   case' false=>refine aY ⟨_,rfl,k _ _ s6 ?_⟩
   case' true=>refine bf ⟨_,rfl,_,_,rfl,rfl,⟨_,rfl,k _ _ s6 ?_⟩⟩
   all_goals
    rw[e3]at hk;show V.int _=V.int _;rw[hk];rfl
theorem P6{null:List Nat}{before r:List Sym}:jQ null before (y::r)=(match y with| .non b=>if before.all (symNull null)&&r.all (symNull null)then[b]else[]| .range _ _=>[])++jQ null (y::before) r:=by
 unfold jQ;cases y with
 |non b=>
  show(if _ then(0,b)::aloneIn null 0 (Sym.non b::before) r else aloneIn null 0 (Sym.non b::before) r).map _=_;dsimp only;split<;>rfl
 |range lo hi=>rfl
theorem P7{null:List Nat}:∀{l before:List Sym},(jQ null before l).length<=l.length
 |[],_=>aF _
 |y::r,before=>by
  have ih:=P7 (null:=null) (l:=r) (before:=y::before);rw[P6,aX,bT];cases y with
  |non b=>
   dsimp only;split
   .show 1+_<=_;omega
   .show 0+_<=_;omega
  |range lo hi=>show 0+_<=_;omega
theorem Y8{α:Type}(f:α->Bool)(l:List α):l.reverse.all f=l.all f:=by rw[List.all_reverse]
theorem ud:aP ["grammar","hollow","steps","a","rule","place","symbol"] ["grammar"] (aC Bj):=aV
theorem Y9(T:Txt K mg)(B:Bs K mg base tb):br P w K mg base "same_piece_steps" 17 ["grammar"] (yJ mg tb aW (λg=>aL g.nons (je g))):=by
 have lS:=t6 (P:=P) (w:=w) T B;have qz:=yD (P:=P) (w:=w) T B;have gP:=nX (P:=P) (w:=w) T B;have qB:=vF (P:=P) (w:=w) T B;have Ig:=Pp (P:=P) (w:=w) T B;refine T.Om.fn.ok ud Cr (λcdv A outer s H vs Q E hr h=>?_);obtain⟨u,g,rfl,hg,k⟩:=h;have G:=hg.2.2;refine⟨_,(aq (aN (i:=1) ud.nd rfl (Or.inl rfl) (aE T.qw lS hr (aa (pv 0) af)))
   (aq (qi (i:=2) (own:=[("a",3)]) rfl ud.nd rfl rfl (nR rfl rfl rfl rfl) (jR rfl T.jZ (aa (aO (K:=K) rfl (pv 0) rfl) af)) (eu (N:=["grammar","hollow","steps","a","rule","place","symbol"]) (sc:=aC Bj) (by decide+kernel)) (λs H C cl fp=>(bh (i:=3) ud.nd rfl (Or.inl rfl))) (λs H C cl fp=>fZ) (λs H C cl fp=>(bL af)))
   (aq (eV eF rfl (d8 (aE T.vt qz hr (aa (pv 0) af))) (bh (i:=4) ud.nd rfl (Or.inl rfl))
    (az (eV eF rfl (FE rfl T.vp (aa (aO (K:=K) rfl (pv 4) rfl) af)) (oN rfl (gz (bh (i:=5) ud.nd rfl (Or.inl rfl)) (gz (bh (i:=6) ud.nd rfl (Or.inl rfl)) oM)))
    (az (cN (vj (di (aE T.mU gP hr (aa (pv 6) af))) (di (aE T.rI qB hr (aa (aE T.GW Ig hr (aa (aO (K:=K) rfl (pv 4) rfl) (aa (pv 5) af))) (aa (pv 1) af))))) (az (gi (gm gc kc kW jU (bD (r:=bX K) dW (pv 2) (aO (K:=K) rfl (pv 4) rfl) (λ_ _=>rfl)) (aa (bD (r:=cX K) gk (pv 6) bK (λ_ _=>rfl)) af)))) cP)))))
   (az (aH (pv 2)))))),?_⟩
 refine⟨_,rfl,u,g,rfl,hg,trivial,λa1 H1 s1 _ h1=>?_⟩;have h1:ay bA H1 (.ref a1) (cg g.nons (nullable g)):=h1;have gB:=cZ _ _ _ _ s1 hg;refine vC (n:=g.nons) (λQ' k'=>⟨_,rfl,gZ T gB (k' _ (Sm.refl _))⟩) (fQ G) (λ_=>rfl) λD as H2 hD e1 s2 e2 e3 e4 e5=>?_;have b0:bQ aW H1 H2 D as (List.replicate g.nons []):=bQ.start hD e1 s2 e2 e3 e4 e5;have jv:=cZ _ _ _ _ s2 gB;refine jq (ms:=productiveRules g) (R:=bF mg) (λx H3=>∃a,x=.ref a/\Sm H2 H3/\H2 a=none/\ay (bF mg) H3 x (productiveRules g)) (λQ' k'=>⟨_,rfl,u,g,rfl,jv,trivial,λa H3 s3 ha h3=>k' _ _ ⟨a,rfl,s3,ha,h3⟩⟩) ?_;rintro x H3 ⟨a,rfl,s3,ha,h3⟩;have b3:=b0.mono bE s3;have na:=pA b0.dZ ha;refine⟨λi σ H4=>∃x4 x5 x6,σ=[some u,some (.ref a1),some (.ref D),none,x4,x5,x6]/\bQ aW H1 H4 D as (aL g.nons ((je g).take i))/\aD as H3 H4,⟨none,none,none,rfl,?_,aD.refl _ _⟩,λi σ H4 ⟨_,_,_,_,_,sx⟩=>lO ju b3.dZ sx na h3,?_,?_⟩
 .rw[ow,uN]
  exact b3
 .rintro i y r σ H4 hi hy ⟨x4,x5,x6,rfl,b,sx⟩
  have iW:=cE hi;have R:=G.rules r (fL iW);have iE:(je g)[i]?=some (r.lhs,jQ (nullable g) [] r.rhs):=by unfold je;rw[fK,hi];rfl
  obtain⟨xs,hk⟩:∃xs,(aL g.nons ((je g).take i))[r.lhs]?=some xs:=⟨_,bO (by rw[gH];exact R.lhs)⟩;have hxs:xs.length<=480:=by
   have q1:=rN (B:=8) hk λp hp=>by
    obtain⟨r',n6,rfl⟩:=bG.mp (pO hp);exact aG P7 (G.rules r' (fL n6)).cA
   have q2:((je g).take i).length<=60:=aG (sr _ _) (by unfold je;rw[aK];exact aG (uR g) G.cA);omega
  have fz:aL g.nons ((je g).take (i+1))=(aL g.nons ((je g).take i)).set r.lhs (xs++jQ (nullable g) [] r.rhs):=by rw[take_snoc iE,uO hk]
  generalize aL g.nons ((je g).take i)=bs at b hk fz;obtain⟨uy,huy⟩:∃uy,bH bz H4 uy r.rhs:=let⟨_,_,uy,_,_,q⟩:=hy;⟨uy,q⟩
  refine Ho (ms:=r.rhs) (R:=bz) (λx H5=>H5=H4/\bH bz H4 x r.rhs) (λQ' k'=>⟨_,rfl,jo T hy λus dF=>k' _ _ ⟨rfl,dF⟩⟩) bC ?_;rintro x H5 ⟨rfl,h5⟩;refine⟨λj σ H6=>∃x5 x6 done,σ=[some u,some (.ref a1),some (.ref D),none,some y,x5,x6]/\bQ aW H1 H6 D as (bs.set r.lhs (xs++done))/\aD as H5 H6/\done.length<=j/\done++jQ (nullable g) (r.rhs.take j).reverse (r.rhs.drop j)=jQ (nullable g) [] r.rhs,
   ⟨x5,x6,[],rfl,by rw[fW,yy hk];exact b,aD.refl _ _,aF _,rfl⟩,λj σ H6 ⟨_,_,_,_,_,q,_⟩=>rM mX _ _ _ _ _ b.dZ q h5,λj σ H6 H7 s7 ⟨x5,x6,dn,e,q1,q2,q3⟩=>⟨x5,x6,dn,e,q1.mono bE s7,q2.trans (Sm.x s7),q3⟩,?_,?_⟩
  .rintro j z m σ H6 hj hz ⟨x5,x6,dn,rfl,b6,f9,hdl,bV⟩
   have hlj:=(cU.mp hj).1;have hft:=R.cA;rw[sj hlj,(cU.mp hj).2,P6,show(m::(r.rhs.take j).reverse)=(r.rhs.take (j+1)).reverse by rw[take_snoc hj,List.reverse_append];rfl]at bV;refine⟨_,rfl,z,m,rfl,hz,trivial,λb' H7 s7 jl=>⟨_,jl,?_⟩⟩;have b7:=b6.mono bE s7;have gp:=f9.trans (Sm.x s7);have hz7:=bC _ _ _ _ s7 hz;have lT:bF mg H7 y r:=ju _ _ _ _ _ b.dZ gp hy;cases m with
   |range lo hi=>exact aY (aY ⟨_,_,dn,rfl,b7,gp,by omega,bV⟩)
   |non c=>
    refine bf ⟨_,rfl,jo T lT λus dF=>⟨_,rfl,us,r.rhs,_,j,rfl,dF,rfl,⟨hlj,aG hft (by decide)⟩,λv8 H8 s8 h8=>⟨_,rfl,v8,nY r.rhs j,_,_,rfl,.inl h8,aI dH _ _ _ _ (b7.sm.trans s8) h1,⟨λk hk=>?_,?_⟩,λv9 H9 s9 hv9=>?_⟩⟩⟩
    .rw[l8]
     refine R.rhs (.non k) ?_;unfold nY at hk;rcases eZ.mp hk with q|q
     .exact pO q
     .exact RW q
    .unfold nY
     rw[aX,pL,pN];omega
    .have e9:v9=.bl ((r.rhs.take j).reverse.all (symNull (nullable g))&&(r.rhs.drop (j+1)).all (symNull (nullable g))):=by
      rw[Y8,<-List.all_append,show r.rhs.take j++r.rhs.drop (j+1)=nY r.rhs j from rfl,<-Px (n:=g.nons) (l:=nullable g)]
      .exact hv9
      .intro k hk
       refine R.rhs (.non k) ?_;unfold nY at hk;rcases eZ.mp hk with q|q
       .exact pO q
       .exact RW q
     refine⟨_,e9,?_⟩;have b9:=(b7.mono bE s8).mono bE s9;have sx9:=(gp.trans (Sm.x s8)).trans (Sm.x s9);dsimp only at bV;cases e:((r.rhs.take j).reverse.all (symNull (nullable g))&&(r.rhs.drop (j+1)).all (symNull (nullable g)))with
     |false=>
      rw[e,ai (by decide),C3]at bV;exact aY ⟨_,_,dn,rfl,b9,sx9,by omega,bV⟩
     |true=>
      rw[e,aj rfl]at bV;obtain⟨cc,vs,hc,lQ,_⟩:=b9.find (Cs hk);have hy9:=cY _ _ _ _ s9 (cY _ _ _ _ s8 lT);have hz9:=bC _ _ _ _ s9 (bC _ _ _ _ s8 hz7);refine bf ⟨_,rfl,_,rfl,kI T hy9 (vI b9 hc ⟨pq lQ,_,rfl,oY hz9 ?_⟩)⟩;refine HP jt (z:=c) b9 hc (Cs hk) rfl ?_ λH10 b10 yN=>⟨_,_,dn++[c],rfl,?_,sx9.trans yN,?_,?_⟩
      .rw[aX,cK]
       omega
      .rw[List.set_set,jy]at b10
       exact b10
      .rw[aX];show _+1<=_;omega
      .rw[jy]
       exact bV
  .rintro σ H6 ⟨x5,x6,dn,rfl,b6,f9,hdl,bV⟩
   rw[qQ]at bV;have bV:dn++[]=jQ (nullable g) [] r.rhs:=bV;rw[fW]at bV;rw[bV]at b6;refine⟨_,_,_,rfl,by rw[fz];exact b6,sx.trans f9⟩
 .rintro σ H4 ⟨x4,x5,x6,rfl,b,sx⟩
  rw[qP (by unfold je;rw[aK];exact aF _)]at b;exact⟨_,rfl,k D H4 as (b.under s1)⟩
theorem Za:aP ["grammar"] ["grammar"] (aC Gq):=aV
theorem Zb(T:Txt K mg)(B:Bs K mg base tb):br P w K mg base "cyclic_marks" 18 ["grammar"] (gO (cR mg tb) pY (ay bA) (λg=>cg g.nons (cyclicSet g))):=by
 have Ic:=Pu (P:=P) (w:=w) T B;have Zc:=Y9 (P:=P) (w:=w) T B;refine T.G3.fn.ok Za iI (λcdv A outer s H vs Q E hr h=>?_);obtain⟨u,g,rfl,hg,_,k⟩:=h;have G:=hg.2.2;refine⟨_,(az (aH (aE T.GX Ic hr (aa (aE T.Om Zc hr (aa (pv 0) af)) af)))),?_⟩;refine⟨_,rfl,u,g,rfl,hg,λD H1 as b=>?_⟩;have hS:=(Es G).2;refine⟨_,_,rfl,b.done,⟨by rw[hS.len];exact hS,by rw[hS.len];exact fQ G⟩,λa H2 s2 ha h2=>k a H2 (b.sm.trans s2) (b.sm.free ha) ?_⟩;have e:(List.range (aL g.nons (je g)).length).map (λa=>Vaglrc.has a (dg (aL g.nons (je g)).length (aL g.nons (je g)) a))=cg g.nons (cyclicSet g):=by
  rw[hS.len];unfold cyclicSet;dsimp only;rw[<-PZ];exact wc λa _=>by rw[Tq G]
 show ay bA H2 (.ref a) (cg g.nons (cyclicSet g));rw[<-e];exact h2
theorem getD_mem{α:Type}{l:List (List α)}(h:k<l.length):l[k]?=some (l.getD k []):=by
 rw[cC,bO h];rfl
theorem Ih{α:Type}{f:Nat->List α}{M:Nat}:∀l:List Nat,(∀b∈l,(f b).length<=M)->(l.flatMap f).length<=M*l.length
 |[],_=>cM _
 |b::l,h=>by
  have ih:=Ih l λc hc=>h c (bg _ hc);have h1:=h b aZ;rw[j9,aX,bT,Nat.mul_add,Nat.mul_one];omega
theorem Zd{a:Nat}(h:jB n st):(dg n st a).length<=n:=by
 have:=(Em (a:=a) h).sub.length_le;rw[gq]at this;exact this
def Cv(pa:List (List (Nat×Nat)))(st:List (List Nat))(a:Nat):Prop:=yx st a/\st.length<=20/\pa.length=st.length/\∀l∈pa,l.length<=790000
def ue(pa:List (List (Nat×Nat)))(st:List (List Nat))(a:Nat):List (Nat×Nat):=nv (λb=>pa.getD b []) a (dg st.length st a)
theorem Ii{pa:List (List (Nat×Nat))}{a:Nat}(h:Cv pa st a):(ue pa st a).length<sizeLine:=by
 obtain⟨⟨hs,aR,_⟩,hn,hp,hl⟩:=h;unfold ue nv;have q1:=hl _ (cE (getD_mem (l:=pa) (k:=a) (by omega)));have q2:=Zd (a:=a) hs;have q3:=Ih (f:=λb=>pa.getD b []) (M:=790000) (dg st.length st a) λb hb=>hl _ (cE (getD_mem (l:=pa) (k:=b) (by rw[hp];exact(Em hs).lt b hb)));rw[aX,cK];show(pa.getD a []).length+_<_;omega
theorem Ij:aP ["parts","steps","a","found","b"] ["parts","steps","a"] (aC Gr):=aV
theorem P8(T:Txt K mg)(B:Bs K mg base tb):br P w K mg base "gathered" 2 ["parts","steps","a"] (Ht (ay (ay dJ)) (ay (ay aW)) aW Cv (ay dJ) ue):=by
 have lP:=tZ (P:=P) (w:=w) T B;refine T.G4.fn.ok Ij Pj (λcdv A outer s H vs Q E hr h=>?_);obtain⟨u,pa,u2,st,u3,a,rfl,hpa,dj,ha,eN,k⟩:=h;cases ha;obtain⟨⟨hs,aR,hn1⟩,hn,hp,hl⟩:=id eN;have hlen:=Ii eN;refine⟨_,(aq (aN (i:=3) Ij.nd rfl (Or.inl rfl) (Ar O3 (by rfl) T.Of boot_list (aa (bD (r:=bX K) dW (pv 0) (pv 2) (λ_ _=>rfl)) af)))
   (aq (eV eF rfl (d8 (aE T.rH lP hr (aa (pv 1) (aa (pv 2) af)))) (bh (i:=4) Ij.nd rfl (Or.inl rfl))
    (az (gi (gm gc qO uJ uZ (pv 3) (aa (bD (r:=bX K) dW (pv 0) (pv 4) (λ_ _=>rfl)) af)))))
   (az (aH (pv 3))))),?_⟩
 refine⟨_,rfl,_,rfl,f7 hpa (getD_mem (k:=a) (by omega)) λul dM=>Yk eX dM λD H1 s1 hD h1=>?_⟩;refine jq (ms:=dg st.length st a) (R:=aW) (λx H3=>∃c,x=.ref c/\Sm H1 H3/\H1 c=none/\ay aW H3 x (dg st.length st a)) (λQ' k'=>⟨_,rfl,_,rfl,_,st,_,a,rfl,aI (aI bE) _ _ _ _ s1 dj,rfl,⟨hs,aR,hn1⟩,λc H3 s3 hc h3=>k' _ _ ⟨c,rfl,s3,hc,h3⟩⟩) ?_;rintro x H3 ⟨c,rfl,s3,hc,h3⟩;have o1:Own dJ H H1 D (pa.getD a []):=⟨s1,hD,h1⟩;have o3:=o1.mono eX s3;have nc:=pA o1.dZ hc;refine⟨λi σ H4=>∃x4,σ=[some u,some u2,some (.int (a:Nat)),some (.ref D),x4]/\Own dJ H H4 D (pa.getD a []++((dg st.length st a).take i).flatMap λb=>pa.getD b [])/\aD [D] H3 H4,⟨none,rfl,by rw[ow,Ds,fW];exact o3,aD.refl _ _⟩,λi σ H4 ⟨_,_,_,sx⟩=>lO jt o3.dZ sx nc h3,?_,?_⟩
 .rintro i y b σ H4 hi hy ⟨x4,rfl,o,sx⟩
  cases hy;have hb:=(Em hs).lt b (cE hi);refine⟨_,rfl,o.ty,_,rfl,_,rfl,f7 (aI (aI eX) _ _ _ _ o.sm hpa) (getD_mem (k:=b) (by omega)) λul dM=>?_⟩;refine o.ext n8 dM ?_ λH5 o5 sx5=>⟨_,rfl,?_,sx.trans sx5⟩
  .have e:(pa.getD a []++(dg st.length st a).flatMap λb=>pa.getD b []).length<sizeLine:=hlen
   rw[<-Dt (i+1) (dg st.length st a),take_snoc hi,j8,j8]at e;simp only[aX,j9,Ds,fW]at e⊢;omega
  .rw[take_snoc hi,j8,<-jy]
   simpa using o5
 .rintro σ H4 ⟨x4,rfl,o,sx⟩
  rw[ja]at o;exact⟨_,rfl,k D H4 o.sm hD o.lst⟩
def kM(g:Grammar):List (Nat×List (Nat×Nat)):=(productiveRules g).map λr=>(r.lhs,(leading (nullable g) r.rhs).filterMap lq)
theorem P9{a:Nat}(h:a<g.nons):(aL g.nons (kM g))[a]?=some (sP g a):=by
 rw[oG h];unfold kM sP;rw[C5]
theorem Qa{β:Type}{B M:Nat}{l:List (Nat×List β)}(h:∀p∈l,p.2.length<=B)(hm:B*l.length<=M):∀x∈aL n l,x.length<=M:=λx hx=>by
 obtain⟨k,hk,e⟩:=JW.mp hx;exact aG (rN (xs:=x) (by rw[bO hk,e]) h) hm
theorem Qc(G:aS g):∀p∈kM g,p.2.length<=8:=λp hp=>by
 obtain⟨r,hr,rfl⟩:=bG.mp hp;exact aG (wF _ _) (aG (vM _) (G.rules r (fL hr)).cA)
theorem Cw{β:Type}{a:Nat}{l:List (Nat×List β)}{x:List β}(h:(aL n l)[a]?=some x):(aL n l).getD a []=x:=by rw[cC,h];rfl
theorem Qg{α:Type}{f f':Nat->List α}{a:Nat}{led:List Nat}(ha:f a=f' a)(h:∀b∈led,f b=f' b):nv f a led=nv f' a led:=by
 unfold nv;rw[ha]
 congr 1
 induction led with
 |nil=>rfl
 |cons b l ih=>rw[j9,j9,h b aZ,ih λc hc=>h c (bg _ hc)]
def Cy{α:Type}(R:Rep α)(D:Addr):Rep (List α):=λH v xs=>ay R H v xs/\v≠ .ref D
theorem Ze{α:Type}{R:Rep α}(m:Mn R)(D:Addr):Mn (Cy R D):=λ_ _ _ _ s ⟨h,n⟩=>⟨aI m _ _ _ _ s h,n⟩
theorem Zf{α:Type}{R:Rep α}(l:Lx R):∀(D:Addr) H y b xs ys,H D=some (.lst xs)->Cy R D H y b->Cy R D (upd H D (.lst ys)) y b:=λD H y b xs ys hl ⟨⟨a,vs,e,h1,h2⟩,n⟩=>
 ⟨⟨a,vs,e,by rw[aJ (λz=>n (by rw[e,z]))];exact h1,gW (λ_ _ q=>jI l D _ _ _ _ _ hl q) h2⟩,n⟩
theorem qC:aP ["grammar","hollow","fronts","a","rule","steps"] ["grammar"] (aC ye):=aV
theorem Qh(T:Txt K mg)(B:Bs K mg base tb):br P w K mg base "first_ranges" 19 ["grammar"] (gO (cR mg tb) pY (ay (ay dJ)) (λg=>(List.range g.nons).map (iy g))):=by
 have lS:=t6 (P:=P) (w:=w) T B;have qz:=yD (P:=P) (w:=w) T B;have uc:=Ct (P:=P) (w:=w) T B;have yI:=HX (P:=P) (w:=w) T B;have Ik:=Pn (P:=P) (w:=w) T B;have Il:=P8 (P:=P) (w:=w) T B;have yK:=Ia (P:=P) (w:=w) T B;refine T.G5.fn.ok qC iI (λcdv A outer s H vs Q E hr h=>?_);obtain⟨u,g,rfl,hg,_,k⟩:=h;have G:=hg.2.2;refine⟨_,(aq (aN (i:=1) qC.nd rfl (Or.inl rfl) (aE T.qw lS hr (aa (pv 0) af)))
   (aq (aN (i:=2) qC.nd rfl (Or.inr rfl) (gU (own:=[("a",3)]) rfl qC.nd (jR rfl T.jZ (aa (aO (K:=K) rfl (pv 0) rfl) af)) (eu (N:=["grammar","hollow","fronts","a","rule","steps"]) (sc:=aC ye) (by decide+kernel)) (λs H C cl fp=>(bh (i:=3) qC.nd rfl (Or.inl rfl))) (λs H C cl fp=>fZ) (λs H C cl fp=>(bL af))))
   (aq (eV eF rfl (d8 (aE T.vt qz hr (aa (pv 0) af))) (bh (i:=4) qC.nd rfl (Or.inl rfl))
    (az (gi (gm gc qO uJ uZ (bD (r:=bX K) dW (pv 2) (aO (K:=K) rfl (pv 4) rfl) (λ_ _=>rfl)) (aa (aE T.GV Ik hr (aa (aE T.BV yK hr (aa (aO (K:=K) rfl (pv 4) rfl) (aa (pv 1) af))) af)) af)))))
   (aq (aN (i:=5) qC.nd rfl (Or.inr rfl) (aE T.yj uc hr (aa (pv 0) af)))
   (az (aH (gU (own:=[("a",3)]) rfl qC.nd (jR rfl T.jZ (aa (aO (K:=K) rfl (pv 0) rfl) af)) (eu (N:=["grammar","hollow","fronts","a","rule","steps"]) (sc:=aC ye) (by decide+kernel)) (λs H C cl fp=>(bh (i:=3) qC.nd rfl (Or.inl rfl))) (λs H C cl fp=>fZ) (λs H C cl fp=>(aE T.BU yI hr (aa (aE T.G4 Il hr (aa (pv 2) (aa (pv 5) (aa (pv 3) af)))) af)))))))))),?_⟩
 refine⟨_,rfl,u,g,rfl,hg,trivial,λa1 H1 s1 _ h1=>?_⟩;have h1:ay bA H1 (.ref a1) (cg g.nons (nullable g)):=h1;have gB:=cZ _ _ _ _ s1 hg;refine vC (n:=g.nons) (λQ' k'=>⟨_,rfl,gZ T gB (k' _ (Sm.refl _))⟩) (fQ G) (λ_=>rfl) λD as H2 hD e1 s2 e2 e3 e4 e5=>?_;have b0:bQ dJ H1 H2 D as (List.replicate g.nons []):=bQ.start hD e1 s2 e2 e3 e4 e5;have jv:=cZ _ _ _ _ s2 gB;refine jq (ms:=productiveRules g) (R:=bF mg) (λx H3=>∃a,x=.ref a/\Sm H2 H3/\H2 a=none/\ay (bF mg) H3 x (productiveRules g)) (λQ' k'=>⟨_,rfl,u,g,rfl,jv,trivial,λa H3 s3 ha h3=>k' _ _ ⟨a,rfl,s3,ha,h3⟩⟩) ?_;rintro x H3 ⟨a,rfl,s3,ha,h3⟩;have b3:=b0.mono eX s3;have na:=pA b0.dZ ha;refine⟨λi σ H4=>∃x4,σ=[some u,some (.ref a1),some (.ref D),none,x4,none]/\bQ dJ H1 H4 D as (aL g.nons ((kM g).take i))/\aD as H3 H4,⟨none,rfl,?_,aD.refl _ _⟩,λi σ H4 ⟨_,_,_,sx⟩=>lO ju b3.dZ sx na h3,?_,?_⟩
 .rw[ow,uN]
  exact b3
 .rintro i y r σ H4 hi hy ⟨x4,rfl,b,sx⟩
  have R:=G.rules r (fL (cE hi));have iE:(kM g)[i]?=some (r.lhs,(leading (nullable g) r.rhs).filterMap lq):=by unfold kM;rw[fK,hi];rfl
  obtain⟨xs,hk⟩:∃xs,(aL g.nons ((kM g).take i))[r.lhs]?=some xs:=⟨_,bO (by rw[gH];exact R.lhs)⟩;have hxs:xs.length<=480:=by
   have q1:=rN (B:=8) hk λp hp=>Qc G p (pO hp);have q2:((kM g).take i).length<=60:=aG (sr _ _) (by unfold kM;rw[aK];exact aG (uR g) G.cA);omega
  have hll:=vM (null:=nullable g) r.rhs;have hfw:=R.cA;obtain⟨c,vs,hc,lQ,_⟩:=b.find hk;refine⟨_,rfl,_,rfl,kI T hy (vI b hc ⟨pq lQ,_,rfl,jo T hy λus dF=>⟨_,rfl,us,r.rhs,_,_,rfl,dF,aI dH _ _ _ _ b.sm h1,vH R l8,λa5 H5 s5 _ h5=>?_⟩⟩)⟩;have h5:ay bz H5 (.ref a5) (leading (nullable g) r.rhs):=by rw[<-Co (n:=g.nons) λk hk=>R.rhs _ hk];exact h5
  refine⟨_,_,rfl,.inr h5,by omega,λa6 H6 s6 _ h6=>?_⟩;refine HN n8 ((b.mono eX s5).mono eX s6) hc hk h6 ?_ λH7 b7 gp=>⟨_,rfl,?_,((sx.trans (Sm.x s5)).trans (Sm.x s6)).trans gp⟩
  .have:=wF lq (leading (nullable g) r.rhs)
   rw[cK];show xs.length+(List.filterMap lq (leading (nullable g) r.rhs)).length<=_;omega
  .rw[take_snoc iE,uO hk]
   exact b7
 .rintro σ H4 ⟨x4,rfl,b,sx⟩
  rw[qP (by unfold kM;rw[aK];exact aF _)]at b;have s4:=s1.trans b.sm;have hg4:=cZ _ _ _ _ s4 hg;refine⟨_,rfl,u,g,rfl,hg4,λD5 H5 as5 b5=>?_⟩;have hg5:=cZ _ _ _ _ b5.sm hg4;have hS:=(uQ G).2;have hF:=aI (aI eX) _ _ _ _ b5.sm b.done;refine tW (n:=g.nons) (λa=>some (iy g a)) (G:=Cy dJ) (λQ' k'=>⟨_,rfl,gZ T hg5 (k' _ (Sm.refl _))⟩) (fQ G) (Ze eX) (Zf n8) (λH6 D6 x s6 hD6 hx H7 Nx s7 hl kF kT=>?_) λD6 zs H' hD6 q1 q2 q3=>?_
  .have eN:Cv (aL g.nons (kM g)) (aL g.nons (iz g)) x:=⟨t8 hS hx (fQ G),by rw[gH];exact G.nons,by rw[gH,gH],Qa (Qc G) (by
    have q2:(kM g).length<=60:=by unfold kM;rw[aK];exact aG (uR g) G.cA
    omega)⟩
   refine⟨rfl,jr ⟨_,rfl,_,rfl,_,rfl,_,_,_,_,_,x,rfl,aI (aI eX) _ _ _ _ (s6.trans s7) hF,aI (aI bE) _ _ _ _ (s6.trans s7) b5.done,rfl,eN,λa8 H8 s8 _ h8=>?_⟩⟩;refine⟨_,_,iy g x,rfl,h8,Ii eN,λs hp hs=>S9 G x ?_ hs,λa9 H9 s9 ha9 h9=>kT _ _ _ rfl (s8.trans s9) ⟨h9,λz=>?_⟩⟩
   .have e:ue (aL g.nons (kM g)) (aL g.nons (iz g)) x=nv (sP g) x (leads g (leftPairs g) x):=by
     unfold ue;rw[vK hS.len,zZ G];refine Qg (Cw (P9 hx)) λb hb=>Cw (P9 ?_);exact(qT (λp hp=>(wX G p hp).2) x).1.lt b hb
    rw[<-e];exact hp
   .cases z
    obtain⟨l,hl⟩:=hl;rw[Sm.at s8 hl]at ha9;cases ha9
  .rw[filterMap_some]at q3
   exact k _ _ ((s4.trans b5.sm).trans q2) ((s4.trans b5.sm).free hD6) ⟨D6,zs,rfl,q1,gW (λ_ _ q=>q.1) q3⟩
theorem Qi:∀{l:List (Nat×Nat)} {lo:Nat},Canon l->(∀p∈l,lo<=p.1/\p.2<256)->lo<=257->2*l.length+lo<=258
 |[],lo,_,_,h=>by simp;omega
 |p::l,lo,c,h,_=>by
  have h1:=h p aZ;have hf:=c.fit p aZ;have ih:=Qi (l:=l) (lo:=p.2+2) (DY c) (λq hq=>⟨by
   have:=(gD.mp c.gap).1 q hq;omega,(h q (bg _ hq)).2⟩) (by omega)
  rw[bT];omega
theorem Qj{m:Vaglrb.Mask}(h:m.length=257):(rangesOf m).length<=129:=by
 have c:=qX h;have:=Qi (lo:=0) c.1 (λp hp=>⟨cM _,((c.2 p.2).mp ⟨p,hp,c.1.fit p hp,aF _⟩).1⟩) (by omega);omega
theorem Qk(g:Grammar)(a:Nat):(iy g a).length<=129:=Qj (iw (jA g) a)
def yO(ys:List Sym)(v:List Bool)(fs:List (List (Nat×Nat))):List (Nat×Nat):=(d9 v ys).filterMap lq++(nonsIn (d9 v ys)).flatMap λa=>fs.getD a []
def Im(ys:List Sym)(v:List Bool)(fs:List (List (Nat×Nat))):Prop:=Fit ys v/\ys.length<=8/\fs.length=v.length/\∀l∈fs,l.length<=129
theorem Io{v:List Bool}{y:Sym}:∀{l:List Sym},y∈d9 v l->y∈l
 |[],h=>h
 |x::r,h=>by
  unfold d9 at h;split at h
  .rcases bq.mp h with q|q
   .rw[q];exact aZ
   .exact bg _ (Io q)
  .rw[cF.mp h];exact aZ
theorem Ip{v:List Bool}:∀l:List Sym,(d9 v l).length<=l.length
 |[]=>aF _
 |y::r=>by
  unfold d9;split
  .exact Dr (Ip r)
  .show 1<=r.length+1;omega
theorem Iq{v:List Bool}{fs:List (List (Nat×Nat))}(h:Im ys v fs):(yO ys v fs).length<=1100:=by
 obtain⟨⟨p1,p2⟩,p3,p4,p5⟩:=h;have q0:=Ip (v:=v) ys;have q1:=wF lq (d9 v ys);have q2:(nonsIn (d9 v ys)).length<=(d9 v ys).length:=wF _ _;have q3:=Ih (f:=λa=>fs.getD a []) (M:=129) (nonsIn (d9 v ys)) λb hb=>p5 _ (cE (getD_mem (l:=fs) (k:=b) (by rw[p4];exact p1 b (Io (jb.mp hb)))));unfold yO;rw[aX];omega
theorem Cz:aP ["symbols","hollow","firsts","leading","found","a"] ["symbols","hollow","firsts"] (aC Gs):=aV
theorem Zg(T:Txt K mg)(B:Bs K mg base tb):br P w K mg base "first_of_symbols" 4 ["symbols","hollow","firsts"] (Ht (bH bz) (ay bA) (ay (ay dJ)) Im (ay dJ) yO):=by
 have yK:=Ia (P:=P) (w:=w) T B;have Ik:=Pn (P:=P) (w:=w) T B;have yu:=Hz (P:=P) (w:=w) T B;refine T.Oo.fn.ok Cz Pj (λcdv A outer s H vs Q E hr h=>?_);obtain⟨u,ys,u2,v,u3,fs,rfl,hy,hv,hfs,eN,k⟩:=h;have hrl:=Iq eN;obtain⟨⟨p1,p2⟩,p3,p4,p5⟩:=id eN;refine⟨_,(aq (aN (i:=3) Cz.nd rfl (Or.inl rfl) (aE T.BV yK hr (aa (pv 0) (aa (pv 1) af))))
   (aq (aN (i:=4) Cz.nd rfl (Or.inl rfl) (aE T.GV Ik hr (aa (pv 3) af)))
   (aq (eV eF rfl (d8 (aE T.BN yu hr (aa (pv 3) af))) (bh (i:=5) Cz.nd rfl (Or.inl rfl))
    (az (gi (gm gc qO uJ uZ (pv 4) (aa (bD (r:=bX K) dW (pv 2) (pv 5) (λ_ _=>rfl)) af)))))
   (az (aH (pv 4)))))),?_⟩
 have q0:=Ip (v:=v) ys;refine⟨_,rfl,_,rfl,u,ys,u2,v,rfl,hy,hv,⟨p1,p2⟩,λa1 H1 s1 _ h1=>?_⟩;refine⟨_,rfl,_,_,rfl,.inr h1,(by show(d9 v ys).length<=1000;omega),λD H2 s2 hD h2=>?_⟩;have o2:Own dJ H1 H2 D ((d9 v ys).filterMap lq):=⟨s2,hD,h2⟩;refine jq (ms:=nonsIn (d9 v ys)) (R:=aW) (λx H3=>∃c,x=.ref c/\Sm H2 H3/\H2 c=none/\ay aW H3 x (nonsIn (d9 v ys))) (λQ' k'=>⟨_,rfl,_,_,rfl,.inr (aI bC _ _ _ _ s2 h1),(by show(d9 v ys).length<=1000;omega),λc H3 s3 hc h3=>k' _ _ ⟨c,rfl,s3,hc,h3⟩⟩) ?_;rintro x H3 ⟨c,rfl,s3,hc,h3⟩;have o3:=o2.mono eX s3;have nc:=pA o2.dZ hc;refine⟨λi σ H4=>∃x4,σ=[some u,some u2,some u3,some (.ref a1),some (.ref D),x4]/\Own dJ H1 H4 D ((d9 v ys).filterMap lq++((nonsIn (d9 v ys)).take i).flatMap λb=>fs.getD b [])/\aD [D] H3 H4,⟨none,rfl,by rw[ow,Ds,fW];exact o3,aD.refl _ _⟩,λi σ H4 ⟨_,_,_,sx⟩=>lO jt o3.dZ sx nc h3,?_,?_⟩
 .rintro i y b σ H4 hi hy ⟨x4,rfl,o,sx⟩
  cases hy;have hb:=p1 b (Io (jb.mp (cE hi)));refine⟨_,rfl,o.ty,_,rfl,_,rfl,f7 (aI (aI eX) _ _ _ _ (s1.trans o.sm) hfs) (getD_mem (k:=b) (by omega)) λul dM=>?_⟩;refine o.ext n8 dM ?_ λH5 o5 sx5=>⟨_,rfl,?_,sx.trans sx5⟩
  .have e:((d9 v ys).filterMap lq++(nonsIn (d9 v ys)).flatMap λb=>fs.getD b []).length<=1100:=hrl
   rw[<-Dt (i+1) (nonsIn (d9 v ys)),take_snoc hi,j8,j8]at e;simp only[aX,j9,Ds,fW]at e⊢;rw[cK];omega
  .rw[take_snoc hi,j8,<-jy]
   simpa using o5
 .rintro σ H4 ⟨x4,rfl,o,sx⟩
  rw[ja]at o;exact⟨_,rfl,k D H4 (s1.trans o.sm) (s1.free hD) o.lst⟩
def pC:Rep (Nat×Nat×List Sym):=λH v p=>∃a u,v=.ref a/\H a=some (.tup [.int (p.1:Nat),.int (p.2.1:Nat),u])/\bH bz H u p.2.2
theorem yP:Mn pC:=λ_ _ _ _ s ⟨a,u,e,h1,h2⟩=>⟨a,u,e,Sm.at s h1,jE bC _ _ _ _ s h2⟩
theorem Ir:Lx pC:=λex H H' v x hex s ⟨a,u,e,h1,h2⟩=>⟨a,u,e,s.at h1 (yr hex h1 (by intro _ z;cases z)),rM mX _ _ _ _ _ hex s h2⟩
theorem Iu{a:Nat}:∀l:List Sym,(gQ a l).length<=l.length
 |[]=>aF _
 | .non b::r=>Dr (Iu r)
 | .range lo hi::r=>RV (Iu r)
theorem rR(G:aS g)(h:r∈usefulRules g):qS g.nons r:=G.rules r (jc h)
theorem Iv{α β:Type}{f:α->List β}{M:Nat}:∀l:List α,(∀b∈l,(f b).length<=M)->(l.flatMap f).length<=M*l.length
 |[],_=>cM _
 |b::l,h=>by
  have ih:=Iv l λc hc=>h c (bg _ hc);have h1:=h b aZ;rw[j9,aX,bT,Nat.mul_add,Nat.mul_one];omega
theorem places_len(G:aS g):(places g).length<=480:=by
 have q1:=Iv (f:=λr:Rule=>gQ r.lhs r.rhs) (M:=8) (usefulRules g) λr hr=>aG (Iu _) (rR G hr).cA;have q2:=xg g;have q3:=G.cA;show((usefulRules g).flatMap λr=>gQ r.lhs r.rhs).length<=480;omega
theorem yQ:aP ["grammar","places","rule","place","symbol"] ["grammar"] (aC Gu):=aV
theorem Ql(T:Txt K mg)(B:Bs K mg base tb):br P w K mg base "useful_places" 21 ["grammar"] (gO (cR mg tb) pY (ay pC) places):=by
 have qD:=yG (P:=P) (w:=w) T B;have gP:=nX (P:=P) (w:=w) T B;refine T.G6.fn.ok yQ iI (λcdv A outer s H vs Q E hr h=>?_);obtain⟨u,g,rfl,hg,_,k⟩:=h;have G:=hg.2.2;have IA:((usefulRules g).flatMap λr=>gQ r.lhs r.rhs).length<=480:=places_len G;refine⟨_,(aq (aN (i:=1) yQ.nd rfl (Or.inl rfl) (bL af))
   (aq (eV eF rfl (d8 (aE T.vv qD hr (aa (pv 0) af))) (bh (i:=2) yQ.nd rfl (Or.inl rfl))
    (az (eV eF rfl (FE rfl T.vp (aa (aO (K:=K) rfl (pv 2) rfl) af)) (oN rfl (gz (bh (i:=3) yQ.nd rfl (Or.inl rfl)) (gz (bh (i:=4) yQ.nd rfl (Or.inl rfl)) oM)))
    (az (cN (di (aE T.mU gP hr (aa (pv 4) af))) (az (gi (gm gc kc kW jU (pv 1) (aa (gJ (aa (aO (K:=K) rfl (pv 2) rfl) (aa (bD (r:=cX K) gk (pv 4) bK (λ_ _=>rfl)) (aa (Au EZ (aO (K:=K) rfl (pv 2) rfl) (xB (gj EN (pv 3) bK)) EY) af)))) af)))) cP)))))
   (az (aH (pv 1))))),?_⟩
 refine⟨cM _,λD hD=>?_⟩;have o0:Own pC H (upd H D (.lst [])) D []:=Own.new (Sm.refl _) hD;refine jq (ms:=usefulRules g) (R:=bF mg) (λx H3=>∃a,x=.ref a/\Sm (upd H D (.lst [])) H3/\upd H D (.lst []) a=none/\ay (bF mg) H3 x (usefulRules g)) (λQ' k'=>⟨_,rfl,u,g,rfl,cZ _ _ _ _ o0.sm hg,trivial,λa H3 s3 ha h3=>k' _ _ ⟨a,rfl,s3,ha,h3⟩⟩) ?_;rintro x H3 ⟨a,rfl,s3,ha,h3⟩;have o3:=o0.mono yP s3;have na:=pA o0.dZ ha;refine⟨λi σ H4=>∃x2 x3 x4,σ=[some u,some (.ref D),x2,x3,x4]/\Own pC H H4 D (((usefulRules g).take i).flatMap λr=>gQ r.lhs r.rhs)/\aD [D] H3 H4,⟨none,none,none,rfl,o3,aD.refl _ _⟩,λi σ H4 ⟨_,_,_,_,_,sx⟩=>lO ju o3.dZ sx na h3,?_,?_⟩
 .rintro i y r σ H4 hi hy ⟨x2,x3,x4,rfl,o,sx⟩
  have R:=rR G (cE hi);have fz:((usefulRules g).take (i+1)).flatMap (λr=>gQ r.lhs r.rhs)=((usefulRules g).take i).flatMap (λr=>gQ r.lhs r.rhs)++gQ r.lhs r.rhs:=by
   rw[take_snoc hi,j8];simp
  have hlen:(((usefulRules g).take i).flatMap (λr=>gQ r.lhs r.rhs)).length<=480:=by
   rw[<-Dt i (usefulRules g),j8,aX]at IA;omega
  generalize ((usefulRules g).take i).flatMap (λr=>gQ r.lhs r.rhs)=acc at o fz hlen;refine Ho (ms:=r.rhs) (R:=bz) (λx H5=>H5=H4/\bH bz H4 x r.rhs) (λQ' k'=>⟨_,rfl,jo T hy λus dF=>k' _ _ ⟨rfl,dF⟩⟩) bC ?_;rintro x H5 ⟨rfl,h5⟩;refine⟨λj σ H6=>∃x3 x4 done,σ=[some u,some (.ref D),some y,x3,x4]/\Own pC H H6 D (acc++done)/\aD [D] H5 H6/\done.length<=j/\done++gQ r.lhs (r.rhs.drop j)=gQ r.lhs r.rhs,
   ⟨x3,x4,[],rfl,by rw[fW];exact o,aD.refl _ _,aF _,rfl⟩,λj σ H6 ⟨_,_,_,_,_,q,_⟩=>rM mX _ _ _ _ _ o.dZ q h5,λj σ H6 H7 s7 ⟨x5,x6,dn,e,q1,q2,q3⟩=>⟨x5,x6,dn,e,q1.mono yP s7,q2.trans (Sm.x s7),q3⟩,?_,?_⟩
  .rintro j z m σ H6 hj hz ⟨x3,x4,dn,rfl,o6,f9,hdl,bV⟩
   have hlj:=(cU.mp hj).1;have hft:=R.cA;rw[sj hlj,(cU.mp hj).2]at bV;refine⟨_,rfl,z,m,rfl,hz,trivial,λb' H7 s7 jl=>⟨_,jl,?_⟩⟩;have o7:=o6.mono yP s7;have gp:=f9.trans (Sm.x s7);have hz7:=bC _ _ _ _ s7 hz;have lT:bF mg H7 y r:=ju _ _ _ _ _ o.dZ gp hy;cases m with
   |range lo hi=>exact aY ⟨_,_,dn,rfl,o7,gp,by omega,bV⟩
   |non c=>
    refine bf ⟨_,rfl,o7.ty,_,rfl,kI T lT ⟨_,rfl,oY hz7 ⟨_,rfl,jo T lT λus dF=>⟨_,rfl,_,_,rfl,rfl,_,rfl,Po bC dF (by omega) λv8 H8 s8 h8=>⟨(by show 3<=sizeLine;decide),λt ht=>?_⟩⟩⟩⟩⟩;have s9:=Sm.new (o:=.tup [.int (r.lhs:Nat),.int (c:Nat),v8]) ht;refine((o7.mono yP s8).mono yP s9).push Ir (z:=(r.lhs,c,r.rhs.drop (j+1))) ⟨t,v8,rfl,aA,jE bC _ _ _ _ s9 h8⟩ ?_ λH10 o10 yN=>⟨_,_,dn++[(r.lhs,c,r.rhs.drop (j+1))],rfl,?_,((gp.trans (Sm.x s8)).trans (Sm.x s9)).trans yN,?_,?_⟩
    .rw[aX,cK]
     omega
    .rw[jy]at o10
     exact o10
    .rw[aX];show _+1<=_;omega
    .rw[jy]
     exact bV
  .rintro σ H6 ⟨x3,x4,dn,rfl,o6,f9,hdl,bV⟩
   rw[qQ]at bV;have bV:dn++[]=gQ r.lhs r.rhs:=bV;rw[fW]at bV;rw[bV]at o6;exact⟨_,_,_,rfl,by rw[fz];exact o6,sx.trans f9⟩
 .rintro σ H4 ⟨x2,x3,x4,rfl,o,sx⟩
  rw[ja]at o;exact⟨_,rfl,k D H4 o.sm hD o.lst⟩
theorem CA(G:aS g)(h:p∈places g):p.1<g.nons/\p.2.1<g.nons/\(∀k,Sym.non k∈p.2.2->k<g.nons)/\p.2.2.length<=7:=by
 obtain⟨x,b,rest⟩:=p;obtain⟨r,e,hr,pre,hp⟩:=rf.mp h;have R:=rR G hr;have hl:=R.cA;rw[hp,aX,bT]at hl;refine⟨by rw[<-show r.lhs=x from e];exact R.lhs,R.rhs (.non b) (by rw[hp];simp),λk hk=>R.rhs (.non k) (by rw[hp];simp;exact .inr (.inr hk)),by show rest.length<=7;omega⟩
theorem ug:aP ["grammar","hollow","steps","b","owner","rest"] ["grammar"] (aC Bk):=aV
theorem Qm(T:Txt K mg)(B:Bs K mg base tb):br P w K mg base "ending_steps" 22 ["grammar"] (yJ mg tb aW (λg=>aL g.nons (jf g))):=by
 have lS:=t6 (P:=P) (w:=w) T B;have IB:=Ql (P:=P) (w:=w) T B;have qB:=vF (P:=P) (w:=w) T B;refine T.G7.fn.ok ug Cr (λcdv A outer s H vs Q E hr h=>?_);obtain⟨u,g,rfl,hg,k⟩:=h;have G:=hg.2.2;refine⟨_,(aq (aN (i:=1) ug.nd rfl (Or.inl rfl) (aE T.qw lS hr (aa (pv 0) af)))
   (aq (qi (i:=2) (own:=[("b",3)]) rfl ug.nd rfl rfl (nR rfl rfl rfl rfl) (jR rfl T.jZ (aa (aO (K:=K) rfl (pv 0) rfl) af)) (eu (N:=["grammar","hollow","steps","b","owner","rest"]) (sc:=aC Bk) (by decide+kernel)) (λs H C cl fp=>(bh (i:=3) ug.nd rfl (Or.inl rfl))) (λs H C cl fp=>fZ) (λs H C cl fp=>(bL af)))
   (aq (eV eF rfl (d8 (aE T.G6 IB hr (aa (pv 0) af))) (oN rfl (gz (bh (i:=4) ug.nd rfl (Or.inl rfl)) (gz (bh (i:=3) ug.nd rfl (Or.inl rfl)) (gz (bh (i:=5) ug.nd rfl (Or.inl rfl)) oM))))
    (az (cN (di (aE T.rI qB hr (aa (pv 5) (aa (pv 1) af)))) (az (gi (gm gc kc kW jU (bD (r:=bX K) dW (pv 2) (pv 3) (λ_ _=>rfl)) (aa (pv 4) af)))) cP)))
   (az (aH (pv 2)))))),?_⟩
 refine⟨_,rfl,u,g,rfl,hg,trivial,λa1 H1 s1 _ h1=>?_⟩;have h1:ay bA H1 (.ref a1) (cg g.nons (nullable g)):=h1;have gB:=cZ _ _ _ _ s1 hg;refine vC (n:=g.nons) (λQ' k'=>⟨_,rfl,gZ T gB (k' _ (Sm.refl _))⟩) (fQ G) (λ_=>rfl) λD as H2 hD e1 s2 e2 e3 e4 e5=>?_;have b0:bQ aW H1 H2 D as (List.replicate g.nons []):=bQ.start hD e1 s2 e2 e3 e4 e5;have jv:=cZ _ _ _ _ s2 gB;refine jq (ms:=places g) (R:=pC) (λx H3=>∃a,x=.ref a/\Sm H2 H3/\H2 a=none/\ay pC H3 x (places g)) (λQ' k'=>⟨_,rfl,u,g,rfl,jv,trivial,λa H3 s3 ha h3=>k' _ _ ⟨a,rfl,s3,ha,h3⟩⟩) ?_;rintro x H3 ⟨a,rfl,s3,ha,h3⟩;have b3:=b0.mono bE s3;have na:=pA b0.dZ ha;refine⟨λi σ H4=>∃x3 x4 x5,σ=[some u,some (.ref a1),some (.ref D),x3,x4,x5]/\bQ aW H1 H4 D as (aL g.nons ((jf g).take i))/\aD as H3 H4,⟨none,none,none,rfl,?_,aD.refl _ _⟩,λi σ H4 ⟨_,_,_,_,_,sx⟩=>lO Ir b3.dZ sx na h3,?_,?_⟩
 .rw[ow,uN]
  exact b3
 .rintro i y p σ H4 hi hy ⟨x3,x4,x5,rfl,b,sx⟩
  obtain⟨pp1,pp2,pp3,pp4⟩:=CA G (cE hi);have iE:(jf g)[i]?=some (p.2.1,if p.2.2.all (symNull (nullable g))then[p.1]else[]):=by unfold jf;rw[fK,hi];rfl
  obtain⟨xs,hk⟩:∃xs,(aL g.nons ((jf g).take i))[p.2.1]?=some xs:=⟨_,bO (by rw[gH];exact pp2)⟩;have hxs:xs.length<=480:=by
   have q1:=rN (B:=1) hk λp hp=>by
    obtain⟨r',n6,rfl⟩:=bG.mp (pO hp);dsimp only;split<;>simp
   have q2:((jf g).take i).length<=480:=aG (sr _ _) (by unfold jf;rw[aK];exact places_len G);omega
  have fz:=uO hk (xs:=if p.2.2.all (symNull (nullable g))then[p.1]else[]);rw[<-take_snoc iE]at fz;generalize aL g.nons ((jf g).take i)=bs at b hk fz;obtain⟨t,ur,rfl,ht,hur⟩:=hy;refine⟨t,_,rfl,aM.of ht,rfl,_,_,rfl,_,_,rfl,_,_,rfl,rfl,?_⟩;refine⟨_,rfl,_,rfl,ur,p.2.2,_,_,rfl,.inl hur,aI dH _ _ _ _ b.sm h1,⟨λk hk=>by rw[l8];exact pp3 k hk,by omega⟩,λv5 H5 s5 hv5=>⟨_,(show v5=.bl (p.2.2.all (symNull (nullable g)))by rw[<-Px pp3];exact hv5),?_⟩⟩;have b5:=b.mono bE s5;cases e:p.2.2.all (symNull (nullable g))with
  |false=>
   rw[e,ai (by decide),fW,yy hk]at fz;exact aY ⟨_,_,_,rfl,by rw[fz];exact b5,sx.trans (Sm.x s5)⟩
  |true=>
   rw[e,aj rfl]at fz;obtain⟨cc,vs,hc,lQ,_⟩:=b5.find hk;refine bf ⟨_,rfl,_,rfl,vI b5 hc ⟨pq lQ,_,rfl,?_⟩⟩;refine HP jt (z:=p.1) b5 hc hk rfl (by rw[cK];omega) λH10 b10 yN=>⟨_,_,_,rfl,by rw[fz];exact b10,(sx.trans (Sm.x s5)).trans yN⟩
 .rintro σ H4 ⟨x3,x4,x5,rfl,b,sx⟩
  rw[qP (by unfold jf;rw[aK];exact aF _)]at b;exact⟨_,rfl,k D H4 as (b.under s1)⟩
def kN(g:Grammar):List (Nat×List (Nat×Nat)):=(places g).map λp=>(p.2.1,oF g p.2.2)
theorem Qn{a:Nat}(h:a<g.nons):(aL g.nons (kN g))[a]?=some (uM g a):=by
 rw[oG h];unfold kN uM;rw[C5]
theorem Zh{a:Nat}(h:a<g.nons):((List.range g.nons).map (iy g)).getD a []=iy g a:=by
 rw[cC,fK,rZ h];rfl
theorem IC(h:∀k,Sym.non k∈ys->k<g.nons):yO ys (cg g.nons (nullable g)) ((List.range g.nons).map (iy g))=oF g ys:=by
 unfold yO oF;rw[Co h]
 congr 1
 have:∀l:List Nat,(∀b∈l,b<g.nons)->(l.flatMap λa=>((List.range g.nons).map (iy g)).getD a [])=l.flatMap (iy g):=λl=>by
  induction l with
  |nil=>intro _;rfl
  |cons b l ih=>intro hb;rw[j9,j9,Zh (hb b aZ),ih λc hc=>hb c (bg _ hc)]
 exact this _ λb hb=>h b (pX (jb.mp hb))
theorem Qo(G:aS g)(h:p∈places g):Im p.2.2 (cg g.nons (nullable g)) ((List.range g.nons).map (iy g)):=by
 obtain⟨pp1,pp2,pp3,pp4⟩:=CA G h;refine⟨⟨λk hk=>by rw[l8];exact pp3 k hk,by omega⟩,by omega,by rw[aK,gq,l8],λl hl=>?_⟩;obtain⟨a,_,rfl⟩:=bG.mp hl;exact Qk g a
theorem Qp(G:aS g):∀p∈kN g,p.2.length<=1100:=λp hp=>by
 obtain⟨q,hq,rfl⟩:=bG.mp hp;show(oF g q.2.2).length<=1100;rw[<-IC (CA G hq).2.2.1];exact Iq (Qo G hq)
theorem rS:aP ["grammar","a","hollow","firsts","behind","b","owner","rest"] ["grammar","a"] (aC Bl):=aV
theorem Zi(T:Txt K mg)(B:Bs K mg base tb):br P w K mg base "follow_ranges" 23 ["grammar","a"] (tX (cR mg tb) aW (λg a=>a<g.nons) (ay dJ) (λg a=>rangesOf (setOf (followOf g) a))):=by
 have lS:=t6 (P:=P) (w:=w) T B;have ID:=Qh (P:=P) (w:=w) T B;have IB:=Ql (P:=P) (w:=w) T B;have yI:=HX (P:=P) (w:=w) T B;have Il:=P8 (P:=P) (w:=w) T B;have Zj:=Zg (P:=P) (w:=w) T B;have IE:=Qm (P:=P) (w:=w) T B;refine T.Oq.fn.ok rS vD (λcdv A outer s H vs Q E hr h=>?_);obtain⟨u,g,u2,n,rfl,hg,hn,aR,k⟩:=h;cases hn;have G:=hg.2.2;refine⟨_,(aq (aN (i:=2) rS.nd rfl (Or.inl rfl) (aE T.qw lS hr (aa (pv 0) af)))
   (aq (aN (i:=3) rS.nd rfl (Or.inl rfl) (aE T.G5 ID hr (aa (pv 0) af)))
   (aq (qi (i:=4) (own:=[("b",5)]) rfl rS.nd rfl rfl (nR rfl rfl rfl rfl) (jR rfl T.jZ (aa (aO (K:=K) rfl (pv 0) rfl) af)) (eu (N:=["grammar","a","hollow","firsts","behind","b","owner","rest"]) (sc:=aC Bl) (by decide+kernel)) (λs H C cl fp=>(bh (i:=5) rS.nd rfl (Or.inl rfl))) (λs H C cl fp=>fZ) (λs H C cl fp=>(bL af)))
   (aq (eV eF rfl (d8 (aE T.G6 IB hr (aa (pv 0) af))) (oN rfl (gz (bh (i:=6) rS.nd rfl (Or.inl rfl)) (gz (bh (i:=5) rS.nd rfl (Or.inl rfl)) (gz (bh (i:=7) rS.nd rfl (Or.inl rfl)) oM))))
    (az (gi (gm gc qO uJ uZ (bD (r:=bX K) dW (pv 4) (pv 5) (λ_ _=>rfl)) (aa (aE T.Oo Zj hr (aa (pv 7) (aa (pv 2) (aa (pv 3) af)))) af)))))
   (az (aH (aE T.BU yI hr (aa (aE T.G4 Il hr (aa (pv 4) (aa (aE T.G7 IE hr (aa (pv 0) af)) (aa (pv 1) af)))) af)))))))),?_⟩
 refine⟨_,rfl,u,g,rfl,hg,trivial,λa0 H0 s0 _ h0=>?_⟩;have h0:ay bA H0 (.ref a0) (cg g.nons (nullable g)):=h0;refine⟨_,rfl,u,g,rfl,cZ _ _ _ _ s0 hg,trivial,λa1 H1 s1' _ h1=>?_⟩;have s1:=s0.trans s1';have h1:ay (ay dJ) H1 (.ref a1) ((List.range g.nons).map (iy g)):=h1;have h0:=aI dH _ _ _ _ s1' h0;have gB:=cZ _ _ _ _ s1 hg;refine vC (n:=g.nons) (λQ' k'=>⟨_,rfl,gZ T gB (k' _ (Sm.refl _))⟩) (fQ G) (λ_=>rfl) λD as H2 hD e1 s2 e2 e3 e4 e5=>?_;have b0:bQ dJ H1 H2 D as (List.replicate g.nons []):=bQ.start hD e1 s2 e2 e3 e4 e5;have jv:=cZ _ _ _ _ s2 gB;refine jq (ms:=places g) (R:=pC) (λx H3=>∃a,x=.ref a/\Sm H2 H3/\H2 a=none/\ay pC H3 x (places g)) (λQ' k'=>⟨_,rfl,u,g,rfl,jv,trivial,λa H3 s3 ha h3=>k' _ _ ⟨a,rfl,s3,ha,h3⟩⟩) ?_;rintro x H3 ⟨a,rfl,s3,ha,h3⟩;have b3:=b0.mono eX s3;have na:=pA b0.dZ ha;have hil:(kN g).length<=480:=by unfold kN;rw[aK];exact places_len G
 refine⟨λi σ H4=>∃x3 x4 x5,σ=[some u,some (.int (n:Nat)),some (.ref a0),some (.ref a1),some (.ref D),x3,x4,x5]/\bQ dJ H1 H4 D as (aL g.nons ((kN g).take i))/\aD as H3 H4,⟨none,none,none,rfl,?_,aD.refl _ _⟩,λi σ H4 ⟨_,_,_,_,_,sx⟩=>lO Ir b3.dZ sx na h3,?_,?_⟩
 .rw[ow,uN]
  exact b3
 .rintro i y p σ H4 hi hy ⟨x3,x4,x5,rfl,b,sx⟩
  have iW:=cE hi;obtain⟨pp1,pp2,pp3,pp4⟩:=CA G iW;have iE:(kN g)[i]?=some (p.2.1,oF g p.2.2):=by unfold kN;rw[fK,hi];rfl
  obtain⟨xs,hk⟩:∃xs,(aL g.nons ((kN g).take i))[p.2.1]?=some xs:=⟨_,bO (by rw[gH];exact pp2)⟩;have hxs:xs.length<=1100*480:=by
   have q1:=rN (B:=1100) hk λp hp=>Qp G p (pO hp);have q2:((kN g).take i).length<=480:=aG (sr _ _) hil;omega
  have fz:=uO hk (xs:=oF g p.2.2);rw[<-take_snoc iE]at fz;generalize aL g.nons ((kN g).take i)=bs at b hk fz;obtain⟨t,ur,rfl,ht,hur⟩:=hy;have eN:=Qo G iW;have hrl:=Iq eN;rw[IC pp3]at hrl;obtain⟨cc,vs,hc,lQ,_⟩:=b.find hk;refine⟨t,_,rfl,aM.of ht,rfl,_,_,rfl,_,_,rfl,_,_,rfl,rfl,?_⟩;refine⟨_,rfl,_,rfl,vI b hc ⟨pq lQ,_,rfl,_,rfl,_,rfl,ur,p.2.2,_,_,_,_,rfl,hur,aI dH _ _ _ _ b.sm h0,aI (aI eX) _ _ _ _ b.sm h1,eN,λa5 H5 s5 _ h5=>?_⟩⟩;rw[IC pp3]at h5;refine HN n8 (b.mono eX s5) hc hk h5 (by rw[cK];omega) λH6 b6 f9=>⟨_,_,_,rfl,by rw[fz];exact b6,(sx.trans (Sm.x s5)).trans f9⟩
 .rintro σ H4 ⟨x3,x4,x5,rfl,b,sx⟩
  rw[qP (by unfold kN;rw[aK];exact aF _)]at b;have s4:=s1.trans b.sm;have hg4:=cZ _ _ _ _ s4 hg;have hS:=(z8 G).2;have eN:Cv (aL g.nons (kN g)) (aL g.nons (jf g)) n:=⟨t8 hS aR (fQ G),by rw[gH];exact G.nons,by rw[gH,gH],Qa (Qp G) (by omega)⟩;refine⟨_,rfl,_,rfl,u,g,rfl,hg4,λD5 H5 as5 b5=>⟨_,rfl,_,_,_,_,_,n,rfl,aI (aI eX) _ _ _ _ b5.sm b.done,b5.done,rfl,eN,λa6 H6 s6 _ h6=>?_⟩⟩;refine⟨_,_,_,rfl,h6,Ii eN,λs hp hs=>Td G n ?_ hs,λa7 H7 s7 ha7 h7=>k _ _ (((s4.trans b5.sm).trans s6).trans s7) (((s4.trans b5.sm).trans s6).free ha7) h7⟩;have e:ue (aL g.nons (kN g)) (aL g.nons (jf g)) n=nv (uM g) n (leads g (nu g) n):=by
   unfold ue;rw[vK hS.len,Lg G];refine Qg (Cw (Qn aR)) λb hb=>Cw (Qn ?_);exact(qT (λp hp=>(zS G p hp).2) n).1.lt b hb
  rw[<-e];exact hp
theorem Zk:aP ["grammar","a"] ["grammar","a"] (aC Gv):=aV
theorem Zl(T:Txt K mg)(B:Bs K mg base tb):br P w K mg base "end_follows" 23 ["grammar","a"] (kH (cR mg tb) aW (λg a=>a<g.nons) bA (λg a=>hasEnd (setOf (followOf g) a))):=by
 have qA:=yF (P:=P) (w:=w) T B;have lP:=tZ (P:=P) (w:=w) T B;have IE:=Qm (P:=P) (w:=w) T B;refine T.Ot.fn.ok Zk mV (λcdv A outer s H vs Q E hr h=>?_);obtain⟨u,g,u2,n,rfl,hg,hn,aR,k⟩:=h;cases hn;have G:=hg.2.2;have he:=end_is G n;refine⟨_,(aq (cN (sV (di (bD (r:=bX K) dW (aE T.tQ qA hr (aa (pv 0) af)) (bB T.rG) (λ_ _=>rfl)))) (az (aH oK)) cP)
   (az (aH (xU (lA oQ (pv 1) (bB T.rG) (eK _)) (lA (r:=rIn K false) xD (bB T.rG) (aE T.rH lP hr (aa (aE T.G7 IE hr (aa (pv 0) af)) (aa (pv 1) af))) rfl))))),?_⟩
 refine⟨_,rfl,u,g,rfl,hg,trivial,λa1 H1 s1 _ h1=>f7 (k:=0) h1 (pQ G.pos) λv hv=>⟨_,hv,?_⟩⟩;cases e0:Vaglrc.has 0 (useful g)with
 |false=>
  rw[e0,JF]at he;refine bf (k _ _ s1 ?_);show V.bl false=V.bl (hasEnd (setOf (followOf g) n));rw[he]
 |true=>
  rw[e0,Rq]at he;refine aY ⟨_,rfl,rfl,_,rfl,?_⟩;rw[show(V.int 0)=V.int ((0:Nat):Int)from rfl,vJ];cases e1:n==0 with
  |true=>
   rw[e1,JB]at he;refine bf (k _ _ s1 ?_);show V.bl true=V.bl (hasEnd (setOf (followOf g) n));rw[he]
  |false=>
   rw[e1,zk]at he;have hS:=(z8 G).2;refine aY ⟨_,rfl,u,g,rfl,cZ _ _ _ _ s1 hg,λD5 H5 as5 b5=>⟨_,rfl,_,_,_,n,rfl,b5.done,rfl,t8 hS aR (fQ G),λa6 H6 s6 _ h6=>yq (n:=0) h6 (k _ _ ((s1.trans b5.sm).trans s6) ?_)⟩⟩;show V.bl (Vaglrc.has 0 (dg (aL g.nons (jf g)).length (aL g.nons (jf g)) n))=V.bl (hasEnd (setOf (followOf g) n));rw[vK hS.len,Lg G,he]
theorem Qq{grow:List Nat}{a:Nat}{before r:List Sym}:growIn grow a before (y::r)=(match y with| .non b=>if dR grow before||dR grow r then[(a,b)]else[]| .range _ _=>[])++growIn grow a (y::before) r:=by
 cases y with
 |non b=>
  show(if(dR grow before||dR grow r)=true then(a,b)::growIn grow a (Sym.non b::before) r else growIn grow a (Sym.non b::before) r)=_;dsimp only;split<;>rfl
 |range lo hi=>rfl
theorem Qs{grow:List Nat}{a:Nat}:∀{l before:List Sym},(growIn grow a before l).length<=l.length
 |[],_=>aF _
 |y::r,before=>by
  have ih:=Qs (grow:=grow) (a:=a) (l:=r) (before:=y::before);rw[Qq,aX,bT];cases y with
  |non b=>
   dsimp only;split
   .show 1+_<=_;omega
   .show 0+_<=_;omega
  |range lo hi=>show 0+_<=_;omega
theorem Zm(grow:List Nat)(l:List Sym):dR grow l.reverse=dR grow l:=by unfold dR;rw[List.any_reverse]
theorem Zn(grow:List Nat)(l m:List Sym):dR grow (l++m)=(dR grow l||dR grow m):=by unfold dR;rw[List.any_append]
theorem Qt(G:aS g):(growPairs g).length<=480:=by
 have q1:=Iv (f:=λr:Rule=>growIn (growing g) r.lhs [] r.rhs) (M:=8) (usefulRules g) λr hr=>aG Qs (rR G hr).cA;have q2:=xg g;have q3:=G.cA;show((usefulRules g).flatMap λr=>growIn (growing g) r.lhs [] r.rhs).length<=480;omega
theorem vO:aP ["grammar","growing","found","rule","place","symbol"] ["grammar"] (aC Gw):=aV
theorem Zo(T:Txt K mg)(B:Bs K mg base tb):br P w K mg base "growing_steps" 21 ["grammar"] (gO (cR mg tb) pY (ay dJ) growPairs):=by
 have IG:=Pz (P:=P) (w:=w) T B;have qD:=yG (P:=P) (w:=w) T B;have gP:=nX (P:=P) (w:=w) T B;have Zp:=Pq (P:=P) (w:=w) T B;have Ig:=Pp (P:=P) (w:=w) T B;refine T.Ou.fn.ok vO iI (λcdv A outer s H vs Q E hr h=>?_);obtain⟨u,g,rfl,hg,_,k⟩:=h;have G:=hg.2.2;have IA:((usefulRules g).flatMap λr=>growIn (growing g) r.lhs [] r.rhs).length<=480:=Qt G;refine⟨_,(aq (aN (i:=1) vO.nd rfl (Or.inl rfl) (aE T.BR IG hr (aa (pv 0) af)))
   (aq (aN (i:=2) vO.nd rfl (Or.inl rfl) (bL af))
   (aq (eV eF rfl (d8 (aE T.vv qD hr (aa (pv 0) af))) (bh (i:=3) vO.nd rfl (Or.inl rfl))
    (az (eV eF rfl (FE rfl T.vp (aa (aO (K:=K) rfl (pv 3) rfl) af)) (oN rfl (gz (bh (i:=4) vO.nd rfl (Or.inl rfl)) (gz (bh (i:=5) vO.nd rfl (Or.inl rfl)) oM)))
    (az (cN (vj (di (aE T.mU gP hr (aa (pv 5) af))) (di (aE T.BQ Zp hr (aa (aE T.GW Ig hr (aa (aO (K:=K) rfl (pv 3) rfl) (aa (pv 4) af))) (aa (pv 1) af))))) (az (gi (gm gc kc kW jU (pv 2) (aa (gJ (aa (aO (K:=K) rfl (pv 3) rfl) (aa (bD (r:=cX K) gk (pv 5) bK (λ_ _=>rfl)) af))) af)))) cP)))))
   (az (aH (pv 2)))))),?_⟩
 refine⟨_,rfl,u,g,rfl,hg,trivial,λa1 H1 s1 _ h1=>⟨cM _,λD hD=>?_⟩⟩;have h1:ay bA H1 (.ref a1) (cg g.nons (growing g)):=h1;have gB:=cZ _ _ _ _ s1 hg;have o0:Own dJ H1 (upd H1 D (.lst [])) D []:=Own.new (Sm.refl _) hD;refine jq (ms:=usefulRules g) (R:=bF mg) (λx H3=>∃a,x=.ref a/\Sm (upd H1 D (.lst [])) H3/\upd H1 D (.lst []) a=none/\ay (bF mg) H3 x (usefulRules g)) (λQ' k'=>⟨_,rfl,u,g,rfl,cZ _ _ _ _ o0.sm gB,trivial,λa H3 s3 ha h3=>k' _ _ ⟨a,rfl,s3,ha,h3⟩⟩) ?_;rintro x H3 ⟨a,rfl,s3,ha,h3⟩;have o3:=o0.mono eX s3;have na:=pA o0.dZ ha;refine⟨λi σ H4=>∃x2 x3 x4,σ=[some u,some (.ref a1),some (.ref D),x2,x3,x4]/\Own dJ H1 H4 D (((usefulRules g).take i).flatMap λr=>growIn (growing g) r.lhs [] r.rhs)/\aD [D] H3 H4,⟨none,none,none,rfl,o3,aD.refl _ _⟩,λi σ H4 ⟨_,_,_,_,_,sx⟩=>lO ju o3.dZ sx na h3,?_,?_⟩
 .rintro i y r σ H4 hi hy ⟨x2,x3,x4,rfl,o,sx⟩
  have R:=rR G (cE hi);have fz:((usefulRules g).take (i+1)).flatMap (λr=>growIn (growing g) r.lhs [] r.rhs)=((usefulRules g).take i).flatMap (λr=>growIn (growing g) r.lhs [] r.rhs)++growIn (growing g) r.lhs [] r.rhs:=by
   rw[take_snoc hi,j8];simp
  have hlen:(((usefulRules g).take i).flatMap (λr=>growIn (growing g) r.lhs [] r.rhs)).length<=480:=by
   rw[<-Dt i (usefulRules g),j8,aX]at IA;omega
  generalize ((usefulRules g).take i).flatMap (λr=>growIn (growing g) r.lhs [] r.rhs)=acc at o fz hlen;refine Ho (ms:=r.rhs) (R:=bz) (λx H5=>H5=H4/\bH bz H4 x r.rhs) (λQ' k'=>⟨_,rfl,jo T hy λus dF=>k' _ _ ⟨rfl,dF⟩⟩) bC ?_;rintro x H5 ⟨rfl,h5⟩;refine⟨λj σ H6=>∃x3 x4 done,σ=[some u,some (.ref a1),some (.ref D),some y,x3,x4]/\Own dJ H1 H6 D (acc++done)/\aD [D] H5 H6/\done.length<=j/\done++growIn (growing g) r.lhs (r.rhs.take j).reverse (r.rhs.drop j)=growIn (growing g) r.lhs [] r.rhs,
   ⟨x3,x4,[],rfl,by rw[fW];exact o,aD.refl _ _,aF _,rfl⟩,λj σ H6 ⟨_,_,_,_,_,q,_⟩=>rM mX _ _ _ _ _ o.dZ q h5,λj σ H6 H7 s7 ⟨x5,x6,dn,e,q1,q2,q3⟩=>⟨x5,x6,dn,e,q1.mono eX s7,q2.trans (Sm.x s7),q3⟩,?_,?_⟩
  .rintro j z m σ H6 hj hz ⟨x3,x4,dn,rfl,o6,f9,hdl,bV⟩
   have hlj:=(cU.mp hj).1;have hft:=R.cA;rw[sj hlj,(cU.mp hj).2,Qq,show(m::(r.rhs.take j).reverse)=(r.rhs.take (j+1)).reverse by rw[take_snoc hj,List.reverse_append];rfl]at bV;refine⟨_,rfl,z,m,rfl,hz,trivial,λb' H7 s7 jl=>⟨_,jl,?_⟩⟩;have o7:=o6.mono eX s7;have gp:=f9.trans (Sm.x s7);have hz7:=bC _ _ _ _ s7 hz;have lT:bF mg H7 y r:=ju _ _ _ _ _ o.dZ gp hy;cases m with
   |range lo hi=>exact aY (aY ⟨_,_,dn,rfl,o7,gp,by omega,bV⟩)
   |non c=>
    have hbs:∀k,Sym.non k∈nY r.rhs j->k<g.nons:=λk hk=>by
     refine R.rhs (.non k) ?_;unfold nY at hk;rcases eZ.mp hk with q|q
     .exact pO q
     .exact RW q
    refine bf ⟨_,rfl,jo T lT λus dF=>⟨_,rfl,us,r.rhs,_,j,rfl,dF,rfl,⟨hlj,aG hft (by decide)⟩,λv8 H8 s8 h8=>⟨_,rfl,v8,nY r.rhs j,_,_,rfl,.inl h8,aI dH _ _ _ _ (o7.sm.trans s8) h1,⟨λk hk=>by rw[l8];exact hbs k hk,?_⟩,λv9 H9 s9 hv9=>?_⟩⟩⟩
    .unfold nY
     rw[aX,pL,pN];omega
    .have e9:v9=.bl (dR (growing g) (r.rhs.take j).reverse||dR (growing g) (r.rhs.drop (j+1))):=by
      rw[Zm,<-Zn,show r.rhs.take j++r.rhs.drop (j+1)=nY r.rhs j from rfl,<-YF hbs];exact hv9
     refine⟨_,e9,?_⟩;have o9:=(o7.mono eX s8).mono eX s9;have sx9:=(gp.trans (Sm.x s8)).trans (Sm.x s9);dsimp only at bV;cases e:(dR (growing g) (r.rhs.take j).reverse||dR (growing g) (r.rhs.drop (j+1)))with
     |false=>
      rw[e,ai (by decide),C3]at bV;exact aY ⟨_,_,dn,rfl,o9,sx9,by omega,bV⟩
     |true=>
      rw[e,aj rfl]at bV;have hy9:=cY _ _ _ _ s9 (cY _ _ _ _ s8 lT);have hz9:=bC _ _ _ _ s9 (bC _ _ _ _ s8 hz7);refine bf ⟨_,rfl,o9.ty,_,rfl,kI T hy9 ⟨_,rfl,oY hz9 ⟨(by show 2<=sizeLine;decide),λt ht=>?_⟩⟩⟩;have gK:=Sm.new (o:=.tup [.int (r.lhs:Nat),.int (c:Nat)]) ht;refine(o9.mono eX gK).push n8 (z:=(r.lhs,c)) ⟨t,_,_,rfl,aA,rfl,rfl⟩ ?_ λH11 o11 Zq=>⟨_,_,dn++[(r.lhs,c)],rfl,?_,(sx9.trans (Sm.x gK)).trans Zq,?_,?_⟩
      .rw[aX,cK]
       omega
      .rw[jy]at o11
       exact o11
      .rw[aX];show _+1<=_;omega
      .rw[jy]
       exact bV
  .rintro σ H6 ⟨x3,x4,dn,rfl,o6,f9,hdl,bV⟩
   rw[qQ]at bV;have bV:dn++[]=growIn (growing g) r.lhs [] r.rhs:=bV;rw[fW]at bV;rw[bV]at o6;exact⟨_,_,_,rfl,by rw[fz];exact o6,sx.trans f9⟩
 .rintro σ H4 ⟨x2,x3,x4,rfl,o,sx⟩
  rw[ja]at o;exact⟨_,rfl,k D H4 (s1.trans o.sm) (s1.free hD) o.lst⟩
theorem Zr:aP ["grammar"] ["grammar"] (aC Gx):=aV
theorem Zs(T:Txt K mg)(B:Bs K mg base tb):br P w K mg base "reads_any" 19 ["grammar"] (sp1 (cR mg tb) pY bA (λg=>Vaglrc.has 0 (useful g))):=by
 have qA:=yF (P:=P) (w:=w) T B;refine T.Ov.fn.ok Zr Hl (λcdv A outer s H vs Q E hr h=>?_);obtain⟨u,g,rfl,hg,_,k⟩:=h;refine⟨_,(az (aH (bD (r:=bX K) dW (aE T.tQ qA hr (aa (pv 0) af)) (bB T.rG) (λ_ _=>rfl)))),?_⟩;exact⟨_,rfl,u,g,rfl,hg,trivial,λa1 H1 s1 _ h1=>f7 (k:=0) h1 (pQ hg.2.2.pos) λv hv=>k _ _ s1 hv⟩
theorem yR:aP ["grammar","steps","a","b"] ["grammar"] (aC Bo):=aV
theorem Zt(T:Txt K mg)(B:Bs K mg base tb):br P w K mg base "reads_infinitely_many" 22 ["grammar"] (sp1 (cR mg tb) pY bA endless):=by
 have HQ:=PC (P:=P) (w:=w) T B;have qD:=yG (P:=P) (w:=w) T B;have lP:=tZ (P:=P) (w:=w) T B;have Zu:=Zo (P:=P) (w:=w) T B;refine T.Ow.fn.ok yR Hl (λcdv A outer s H vs Q E hr h=>?_);obtain⟨u,g,rfl,hg,_,k⟩:=h;have G:=hg.2.2;refine⟨_,(aq (aN (i:=1) yR.nd rfl (Or.inr rfl) (aE T.GY HQ hr (aa (aO (K:=K) rfl (pv 0) rfl) (aa (aE T.vv qD hr (aa (pv 0) af)) af))))
   (az (aH (fF (AB rfl) (by rfl) T.BL boot_any (aa (gU (own:=[("a",2),("b",3)]) rfl yR.nd (d8 (aE T.Ou Zu hr (aa (pv 0) af))) (eu (N:=["grammar","steps","a","b"]) (sc:=aC Bo) (by decide+kernel)) (λs H C cl fp=>(show PG _ _ (Af K 2 _)from(oN rfl (gz (bh (i:=2) yR.nd rfl (Or.inl rfl)) (gz (bh (i:=3) yR.nd rfl (Or.inl rfl)) oM))))) (λs H C cl fp=>fZ) (λs H C cl fp=>(lA (r:=rIn K false) xD (pv 2) (aE T.rH lP hr (aa (pv 1) (aa (pv 3) af))) rfl))) af))))),?_⟩
 have hS:=(wZ G (rules:=usefulRules g) λr h=>jc h).2;refine⟨_,rfl,gZ T hg ⟨_,rfl,u,g,rfl,hg,trivial,λa1 H1 s1 _ h1=>⟨_,g.nons,_,_,rfl,rfl,h1,⟨fQ G,aG (xg g) G.cA,λr hr=>rR G hr⟩,λa2 H2 s2 _ h2=>?_⟩⟩⟩;have h2:ay (ay aW) H2 (.ref a2) (aL g.nons (jd (usefulRules g))):=h2;have dI:=s1.trans s2;refine oZ (λp=>some (Vaglrc.has p.1 (leads g (Vaglrb.allPairs g) p.2))) (ms:=growPairs g) (R:=dJ) (G:=λ_=>bA) (λQ' k'=>⟨_,rfl,u,g,rfl,cZ _ _ _ _ dI hg,trivial,λa3 H3 s3 _ h3=>k' _ _ s3 h3⟩) eX (aG (Qt G) (by decide)) (λ_=>dH) (λD=>jm qo D) (λH4 D x p s4 hD hp hx H5 Nx s5 hl kF kT=>?_) λD zs H' hD q1 q2 q3=>?_
 .obtain⟨t,ul,uh,rfl,ht,e1,e2⟩:=eX _ _ _ _ s5 hx
  cases e1;cases e2;have aR:p.2<g.nons:=zJ G p (KH hp);refine⟨t,_,rfl,aM.of ht,rfl,_,_,rfl,_,_,rfl,rfl,rfl,jr ⟨_,rfl,_,rfl,_,rfl,_,_,_,p.2,rfl,aI (aI bE) _ _ _ _ (s4.trans s5) h2,rfl,t8 hS aR (fQ G),λa6 H6 s6 _ h6=>yq h6 (kT _ _ _ rfl s6 ?_)⟩⟩;show V.bl (Vaglrc.has p.1 (dg (aL g.nons (jd (usefulRules g))).length (aL g.nons (jd (usefulRules g))) p.2))=V.bl _;rw[vK hS.len,Tr G]
 .rw[filterMap_some]at q3
  refine B7 ⟨D,zs,rfl,q1,q3⟩ ?_;rw[any_map,<-DS G];exact k _ _ (dI.trans q2) rfl
theorem Qu:∀l:List Nat,(l.map λn:Nat=>(n:Int)).sum=((l.sum:Nat):Int)
 |[]=>rfl
 |n::l=>by
  rw[cD,we,we,Qu l];omega
theorem Qv(h:ay aW H v l)(q:Q (.int (l.sum:Nat)) H):Ay K [v] H Q:=by
 obtain⟨a,vs,e,h1,h2⟩:=h;rw[W0 h2]at h1;unfold Ay;exact⟨a,_,by rw[e],aU.of h1,by rw[Qu];exact q⟩
theorem II:aP ["known","symbols","lengths","found","symbol"] ["known","symbols","lengths"] (aC Bp):=aV
theorem Zv(T:Txt K mg)(B:Bs K mg base tb):br P w K mg base "longer_by_symbols" 2 ["known","symbols","lengths"] (Cd (λ_=>True) aW (λ_=>True) fj):=by
 have gP:=nX (P:=P) (w:=w) T B;refine T.BW.fn.ok II (λ_ _ _ _ ⟨_,_,_,_,_,_,e,_⟩=>by rw[e];rfl) (λcdv A outer s H vs Q E hr h=>?_);obtain⟨u,kn,us,ys,uv,v,rfl,_,hk,hy,hv,eN,hlen,_,_,k⟩:=h;cases hk;refine⟨_,(aq (qi (i:=3) (own:=[("symbol",4)]) rfl II.nd rfl rfl (nR rfl rfl rfl rfl) (oO (pv 1)) (eu (N:=["known","symbols","lengths","found","symbol"]) (sc:=aC Bp) (by decide+kernel)) (λs H C cl fp=>(bh (i:=4) II.nd rfl (Or.inl rfl))) (λs H C cl fp=>fZ) (λs H C cl fp=>(sW (di (aE T.mU gP hr (aa (pv 4) af))) (bD (r:=bX K) dW (pv 2) (bD (r:=cX K) gk (pv 4) bK (λ_ _=>rfl)) (λ_ _=>rfl)) bK)))
   (az (aH (fF (LR rfl) (by rfl) T.Og boot_max (aa (pv 0) (aa (fF (Mu rfl) (by rfl) T.Oh boot_sum (aa (pv 3) af)) af)))))),?_⟩
 refine Pg (λy=>some (valN v y)) (ms:=ys) (R:=bz) (G:=λ_=>aW) (λQ' k'=>⟨_,rfl,k' _ _ (Sm.refl _) hy⟩) bC (aG hlen (by decide)) (λ_=>bE) (λD=>jm qm D) (λH1 D x m s1 hD hm hx H2 Nx s2 hl kF kT=>?_) λD zs H' hD q1 q2 q3=>?_
 .refine⟨rfl,jr ⟨_,rfl,x,m,rfl,bC _ _ _ _ s2 hx,trivial,λz H3 s3 hz=>⟨_,hz,?_⟩⟩⟩
  have hx3:=bC _ _ _ _ (s2.trans s3) hx;cases m with
  |range lo hi=>exact aY (kT _ _ _ rfl s3 rfl)
  |non j=>
   have hj:=eN j hm;refine bf ⟨_,rfl,_,rfl,oY hx3 (f7 (aI bE _ _ _ _ ((s1.trans s2).trans s3) hv) (bO hj) λu hu=>kT _ _ _ rfl s3 ?_)⟩;have:valN v (.non j)=v[j]:=by
    show v.getD j 0=_;rw[cC,bO hj];rfl
   rw[this];exact hu
 .rw[filterMap_some]at q3
  refine⟨_,rfl,_,rfl,Qv ⟨D,zs,rfl,q1,q3⟩ ⟨_,_,rfl,k _ _ q2 ?_⟩⟩;show V.int _=V.int ((fj kn ys v:Nat):Int);unfold fj oB
  congr 1
  split<;>split<;>omega
theorem encNat:Enc K aW (λn=>.int (n:Int)):=⟨λH v x h=>by cases h;exact .int _,λ_=>rfl,λx y=>by
 show decide ((x:Int)=(y:Int))=true↔x=y;rw[nh];omega,bE,jt⟩
theorem Qw{st:Stmt}{f:Addr}(A:FnAt K mg x st ps f){h:Heap}(KX:K.In h):∃(o:Obj) (fd:FuncData),h.get? f=some o/\o.data=.func fd:=by
 obtain⟨oc,od,kV,doc,pm,an,cdv,ct,ku,e,lk,_⟩:=A.fn.ex;exact⟨_,_,KX _ _ lk,rfl⟩
def Zw(mg:Str->Option Value)(tb:Addr):Sp:=λvs H Q _=>∃u g,vs=[u]/\cR mg tb H u g/\endless g=false/\Vaglrc.has 0 (useful g)=true/\∀(m:Nat) H',Sm H H'->longest g=some m->Q (.int (m:Nat)) H'
theorem Zx:aP ["grammar"] ["grammar"] (aC Gy):=aV
theorem Zy(T:Txt K mg)(B:Bs K mg base tb):br P w K mg base "longest_length" 21 ["grammar"] (Zw mg tb):=by
 have qD:=yG (P:=P) (w:=w) T B;have IJ:=HJ (P:=P) (w:=w) T encNat (C:=λ_=>True) (λH h _ KX _=>Qw T.BW KX) (λ_ _ _ _=>trivial) ((Zv (P:=P) (w:=w) T B).mono (by decide)) T.BW.bd;refine T.Ox.fn.ok Zx (λ_ _ _ _ ⟨_,_,e,_⟩=>by rw[e];rfl) (λcdv A outer s H vs Q E hr h=>?_);obtain⟨u,g,rfl,hg,hE,h0,k⟩:=h;have G:=hg.2.2;obtain⟨p1,p2⟩:=SV G hE;refine⟨_,(az (aH (bD (r:=bX K) dW (aE T.BO IJ hr (aa bK (aa (aO (K:=K) rfl (pv 0) rfl) (aa (aE T.vv qD hr (aa (pv 0) af)) (aa (jF T.BW.gl) af))))) (bB T.rG) (λ_ _=>rfl)))),?_⟩;refine⟨_,rfl,gZ T hg ⟨_,rfl,u,g,rfl,hg,trivial,λa1 H1 s1 _ h1=>⟨_,0,g.nons,_,_,rfl,trivial,rfl,fQ G,h1,λr hr=>rR G hr,trivial,λ_ _ _ _ _=>trivial,p1,λp H2 j s2 hp hF hv=>?_⟩⟩⟩;obtain⟨m,e1,e2⟩:=p2 j hF 0 (dQ.mp h0);refine f7 (k:=0) hv e2 λv hv=>?_;cases hv;exact k m _ (s1.trans s2) (by rw[SQ];exact e1)
abbrev mZ:Rep WT:=mQ aW (bH aW)
theorem Qx:Mn mZ:=xT bE (jE bE)
theorem Zz:Lx mZ:=Hs jt (rM jt)
def jK:Rep (Option WT):=λH v o=>match o with
 |none=>v=.non
 |some p=>mZ H v p
theorem CB:Mn jK:=λH H' v o s h=>by
 cases o with
 |none=>exact h
 |some p=>exact Qx _ _ _ _ s h
theorem ZA:Lx jK:=λex H H' v o hex s h=>by
 cases o with
 |none=>exact h
 |some p=>exact Zz _ _ _ _ _ hex s h
theorem CC{p:WT}(h:mZ H v p):decide (v=.non)=false:=by
 obtain⟨a,_,_,e,_⟩:=h;rw[e];exact bZ λz=>by cases z
theorem ZC:aP ["symbol","leasts"] ["symbol","leasts"] (aC GI):=aV
theorem ZD(T:Txt K mg)(B:Bs K mg base tb):br P w K mg base "least_of_symbol" 2 ["symbol","leasts"] (kH bz (ay jK) (λy v=>∀k,y=.non k->k<v.length) jK (λy v=>gr (at_ v) y)):=by
 have gP:=nX (P:=P) (w:=w) T B;refine T.OE.fn.ok ZC mV (λcdv A outer s H vs Q E hr h=>?_);obtain⟨u,y,u2,v,rfl,hy,hv,eN,k⟩:=h;refine⟨_,(aq (cN (di (aE T.mU gP hr (aa (pv 0) af))) (az (aH (bD (r:=bX K) dW (pv 1) (bD (r:=cX K) gk (pv 0) bK (λ_ _=>rfl)) (λ_ _=>rfl)))) cP)
   (az (aH (gJ (aa bK (aa (gJ (aa (bD (r:=cX K) gk (pv 0) bK (λ_ _=>rfl)) af)) af)))))),?_⟩
 refine⟨_,rfl,u,y,rfl,hy,trivial,λz H1 s1 hz=>⟨_,hz,?_⟩⟩;have hy1:=bC _ _ _ _ s1 hy;cases y with
 |non j=>
  have hj:=eN j rfl;refine bf ⟨_,rfl,_,rfl,oY hy1 (f7 (aI CB _ _ _ _ s1 hv) (bO hj) λu hu=>k _ _ s1 ?_)⟩;show jK H1 u (v.getD j none);rw[cC,bO hj];exact hu
 |range lo hi=>
  refine aY ⟨_,rfl,Pa hy1 ⟨(by show 1<=sizeLine;decide),λp hp=>⟨(by show 2<=sizeLine;decide),λq hq=>?_⟩⟩⟩;have s2:=Sm.new (o:=.tup [.int (lo:Nat)]) hp;have s3:=Sm.new (o:=.tup [.int 1,.ref p]) hq;exact k _ _ ((s1.trans s2).trans s3) ⟨q,_,_,rfl,aA,rfl,p,_,rfl,Sm.at s3 aA,.cons rfl .nil⟩
def yS(v:List (Option WT)):Prop:=∀p,some p∈v->WF p
theorem IK{v:List (Option WT)}(h:yS v):iQ (at_ v):=λa p e=>by
 have e:v.getD a none=some p:=e;rw[cC]at e;cases q:v[a]? with
 |none=>rw[q]at e;cases e
 |some o=>
  rw[q]at e;have e:o=some p:=e;exact h p (by rw[<-e];exact cE q)
theorem Qy{p:WT}(h:WF p):p.2.length<=64:=by
 by_cases c:p.1<=64
 .rw[h.short c];exact c
 .rw[h.long (by omega)];exact cM _
theorem um:aP ["symbols","leasts","length","text","symbol","least"] ["symbols","leasts"] (aC GJ):=aV
theorem ZE(T:Txt K mg)(B:Bs K mg base tb):br P w K mg base "least_of_symbols" 3 ["symbols","leasts"] (kH (bH bz) (ay jK) (λys v=>(∀k,Sym.non k∈ys->k<v.length)/\ys.length<=8/\yS v) jK (λys v=>d7 (at_ v) ys)):=by
 have ZF:=ZD (P:=P) (w:=w) T B;refine T.OF.fn.ok um mV (λcdv A outer s H vs Q E hr h=>?_);obtain⟨u,ys,u2,v,rfl,hy,hv,⟨eN,hlen,hgo⟩,k⟩:=h;have hG:=IK hgo;refine⟨_,(aq (aN (i:=2) um.nd rfl (Or.inl rfl) bK)
   (aq (aN (i:=3) um.nd rfl (Or.inl rfl) (gJ af))
   (aq (eV eF rfl (oO (pv 0)) (bh (i:=4) um.nd rfl (Or.inl rfl))
    (aq (aN (i:=5) um.nd rfl (Or.inl rfl) (aE T.OE ZF hr (aa (pv 4) (aa (pv 1) af))))
   (aq (cN (fE Ao (pv 5) uT (eK _)) (az (aH uT)) cP)
   (aq (xw (i:=2) um.nd rfl (Or.inl rfl) (bD (r:=cX K) gk (pv 5) bK (λ_ _=>rfl)) Ah)
   (az (aN (i:=3) um.nd rfl (Or.inl rfl) (gj (r:=λx y H Q=>tG K x y H Q\/sZ K x y H Q) (eG.or FG E2) (pv 3) (bD (r:=cX K) gk (pv 5) bK (λ_ _=>rfl)))))))))
   (az (aH (sW (fE LO (pv 2) (bB T.XW) (eK _)) (gJ (aa (pv 2) (aa (pv 3) af))) (gJ (aa (pv 2) (aa (gJ af) af))))))))),?_⟩
 refine⟨cM _,λp0 mY=>?_⟩;have s0:=Sm.new (o:=.tup []) mY;refine B9 (ms:=ys) (R:=bz) (λx H1=>x=u/\H1=upd H p0 (.tup [])) (λQ' k'=>⟨_,rfl,k' _ _ ⟨rfl,rfl⟩⟩) ?_;rintro x H1 ⟨rfl,rfl⟩;refine⟨λi σ H3=>∃(n:Nat) (t:List Nat) (ut:V) (x4 x5:Option V),σ=[some x,some u2,some (.int (n:Nat)),some ut,x4,x5]/\Sm H H3/\bH aW H3 ut t/\t.length<=64*i/\cW (at_ v) ys=(cW (at_ v) (ys.drop i)).map (λq=>(n+q.1,t++q.2)),
  ⟨0,[],_,none,none,rfl,s0,⟨p0,_,rfl,aA,.nil⟩,aF _,?_⟩,λi σ H3 ⟨_,_,_,_,_,_,q,_⟩=>jE bC _ _ _ _ q hy,?_,?_⟩
 .rw[zl]
  cases cW (at_ v) ys with
  |none=>rfl
  |some q=>obtain⟨a,b⟩:=q;simp
 .rintro i z y σ H3 hi hz ⟨n,t,ut,x4,x5,rfl,s3,ht,htl,qE⟩
  have hli:=(cU.mp hi).1;rw[sj hli,(cU.mp hi).2]at qE;refine⟨_,rfl,_,rfl,z,y,_,v,rfl,hz,aI CB _ _ _ _ s3 hv,λk hk=>eN k (by rw[<-hk];exact cE hi),λul H4 s4 dM=>?_⟩;have s34:=s3.trans s4;have dM:jK H4 ul (gr (at_ v) y):=dM;cases e:gr (at_ v) y with
  |none=>
   rw[e]at dM;have dM:ul=.non:=dM;subst dM;refine⟨_,rfl,rfl,_,rfl,?_⟩;rw[cT rfl];refine bf (k _ _ s34 ?_);have e2:d7 (at_ v) ys=none:=by
    unfold d7;rw[qE];unfold cW;rw[e];rfl
   show jK H4 .non (d7 (at_ v) ys);rw[e2];rfl
  |some p=>
   rw[e]at dM;have dM:mZ H4 ul p:=dM;have hwf:=Qy (wK hG e);refine⟨_,rfl,rfl,_,rfl,?_⟩;rw[CC dM];refine aY ⟨_,rfl,_,rfl,B6 dM λz1 hz1=>?_⟩;cases hz1;refine⟨_,_,rfl,rfl,_,rfl,_,rfl,yp dM λz2 hz2=>?_⟩;refine HB bE (jE bE _ _ _ _ s4 ht) hz2 (by rw[cK];omega) λz3 H5 s5 hz3=>⟨n+p.1,t++p.2,z3,_,_,rfl,s34.trans s5,hz3,?_,?_⟩
   .rw[aX]
    omega
   .rw[qE]
    conv=>lhs;unfold cW
    rw[e];cases cW (at_ v) (ys.drop (i+1))with
    |none=>rfl
    |some q=>
     show some (n+(p.1+q.1),t++(p.2++q.2))=some (n+p.1+q.1,t++p.2++q.2);rw[zg,jy]
 .rintro σ H3 ⟨n,t,ut,x4,x5,rfl,s3,ht,htl,qE⟩
  rw[qQ]at qE;have qE:cW (at_ v) ys=some (n+0,t++[]):=qE;rw[Nat.add_zero,fW]at qE;have hev:d7 (at_ v) ys=some (ir (n,t)):=by unfold d7;rw[qE];rfl
  refine⟨_,rfl,_,_,rfl,rfl,_,rfl,?_⟩;by_cases c:n<=64
  .rw[cT (by omega)]
   refine bf ⟨_,rfl,_,rfl,(by show 2<=sizeLine;decide),λq hq=>?_⟩;have s4:=Sm.new (o:=.tup [.int (n:Nat),ut]) hq;refine k _ _ (s3.trans s4) ?_;show jK _ _ (d7 (at_ v) ys);rw[hev,show ir (n,t)=(n,t)from aj c];exact⟨q,_,_,rfl,aA,rfl,jE bE _ _ _ _ s4 ht⟩
  .rw[bZ (by omega)]
   refine aY ⟨_,rfl,cM _,λp hp=>⟨(by show 2<=sizeLine;decide),λq hq=>?_⟩⟩;have s4:=Sm.new (o:=.tup []) hp;have s5:=Sm.new (o:=.tup [.int (n:Nat),.ref p]) hq;refine k _ _ ((s3.trans s4).trans s5) ?_;show jK _ _ (d7 (at_ v) ys);rw[hev,show ir (n,t)=(n,[])from ai c];exact⟨q,_,_,rfl,aA,rfl,p,[],rfl,Sm.at s5 aA,.nil⟩
theorem Qz:∀l m:List Nat,HT.lexLt (l.map λn:Nat=>(n:Int)) (m.map λn:Nat=>(n:Int))=lessText l m
 |[],[]=>rfl
 |[],_::_=>rfl
 |_::_,[]=>rfl
 |a::x,b::y=>by
  have ih:=Qz x y;show(if(a:Int)=(b:Int)then HT.lexLt _ _ else decide ((a:Int)<(b:Int)))=(if a<b then true else if b<a then false else lessText x y);by_cases c1:a<b
  .rw[ai (by omega),aj c1,cT (by omega)]
  .by_cases c2:b<a
   .rw[ai (by omega),ai c1,aj c2,bZ (by omega)]
   .rw[aj (by omega),ai c1,ai c2]
    exact ih
def toI(p:WT):Int×List Int:=((p.1:Int),p.2.map λn:Nat=>(n:Int))
theorem ZG(p q:WT):nW (toI p) (toI q)=fh p q:=by
 unfold nW fh toI;dsimp only;rw[Qz];by_cases c1:p.1<q.1
 .rw[ai (by omega),cT (show(p.1:Int)<q.1 by omega),cT c1]
  rfl
 .by_cases c2:p.1=q.1
  .rw[aj (by omega),bZ c1,cT c2]
   simp
  .rw[ai (by omega),bZ (show¬(p.1:Int)<q.1 by omega),bZ c1,bZ c2]
   rfl
theorem yT{H:Hp}:∀{vs:List V} {l:List Nat},Paired (aW H) vs l->Paired (dG H) vs (l.map λn:Nat=>(n:Int))
 |_,_,.nil=>.nil
 |_,_,.cons r t=>.cons r (yT t)
theorem QA{p:WT}(h:mZ H v p):F6 H v (toI p):=by
 obtain⟨a,u,w,e,h1,h2,b,ws,e2,h3,h4⟩:=h;exact⟨a,u,w,e,h1,h2,b,ws,e2,h3,yT h4⟩
theorem ZH{p q:WT}(hu:mZ H u p)(hv:mZ H v q)(k:∀x,mZ H x (if fh q p then q else p)->Q x H):A2 [u,v] H Q:=by
 unfold A2;refine⟨u,v,_,_,rfl,QA hu,QA hv,k _ ?_⟩;rw[ZG];split
 .exact hv
 .exact hu
theorem QB:aP ["known","symbols","leasts","found"] ["known","symbols","leasts"] (aC GK):=aV
theorem ZI(T:Txt K mg)(B:Bs K mg base tb):br P w K mg base "lesser_by_symbols" 4 ["known","symbols","leasts"] (Cd (λ_=>True) jK yS pT):=by
 have ZJ:=ZE (P:=P) (w:=w) T B;refine T.BZ.fn.ok QB (λ_ _ _ _ ⟨_,_,_,_,_,_,e,_⟩=>by rw[e];rfl) (λcdv A outer s H vs Q E hr h=>?_);obtain⟨u,kn,us,ys,uv,v,rfl,_,hk,hy,hv,eN,hlen,_,hgo,k⟩:=h;refine⟨_,(aq (aN (i:=3) QB.nd rfl (Or.inl rfl) (aE T.OF ZJ hr (aa (pv 1) (aa (pv 2) af))))
   (aq (cN (fE Ao (pv 3) uT (eK _)) (az (aH (pv 0))) cP)
   (az (aH (sW (fE Ao (pv 0) uT (eK _)) (pv 3) (fF (XJ rfl (Yd hr)) (by rfl) T.X7 boot_min (aa (pv 0) (aa (pv 3) af)))))))),?_⟩
 refine⟨_,rfl,_,rfl,us,ys,uv,v,rfl,hy,hv,⟨eN,hlen,hgo⟩,λuf H1 s1 hf=>?_⟩;have hk1:=CB _ _ _ _ s1 hk;have k:Ret jK (jz kn (d7 (at_ v) ys)) H Q:=k;have hf:jK H1 uf (d7 (at_ v) ys):=hf;cases e:d7 (at_ v) ys with
 |none=>
  rw[e]at hf k;have hf:uf=.non:=hf;subst hf;refine⟨_,rfl,rfl,_,rfl,?_⟩;rw[cT rfl];exact bf ⟨_,rfl,k _ _ s1 hk1⟩
 |some q=>
  rw[e]at hf k;have hf:mZ H1 uf q:=hf;refine⟨_,rfl,rfl,_,rfl,?_⟩;rw[CC hf];refine aY ⟨_,rfl,rfl,_,rfl,?_⟩;cases kn with
  |none=>
   have hk1:u=.non:=hk1;subst hk1;rw[cT rfl];exact bf ⟨_,rfl,k _ _ s1 hf⟩
  |some p=>
   have hk1:mZ H1 u p:=hk1;rw[CC hk1];exact aY ⟨_,rfl,_,rfl,ZH hk1 hf λx hx=>k _ _ s1 hx⟩
def ZK(o:Option WT):PyData:=match o with
 |none=>.none
 |some p=>.tuple [.int (p.1:Nat),fH (p.2.map λn:Nat=>(n:Int))]
theorem cast_inj:∀{l m:List Nat},(l.map λn:Nat=>(n:Int))=(m.map λn:Nat=>(n:Int))->l=m
 |[],[],_=>rfl
 |[],_::_,h=>by cases h
 |_::_,[],h=>by cases h
 |a::x,b::y,h=>by
  rw[cD,cD]at h;injection h with h1 h2
  rw[cast_inj h2,show a=b by omega]
theorem ZL:Enc K jK ZK:=by
 refine⟨λH v o h=>?_,λo=>?_,λx y=>?_,CB,ZA⟩
 .cases o with
  |none=>cases h;exact .non
  |some p=>
   obtain⟨a,u,w,e,h1,h2,h3⟩:=h;cases h2;obtain⟨b,ws,e2,h4,h5⟩:=h3;rw[e];exact .tup (aM.of h1) (.cons (.int _) (.cons (A1 ⟨b,ws,e2,h4,yT h5⟩) .nil))
 .cases o with
  |none=>rfl
  |some p=>
   have h0:cJ (.tuple [.int (p.1:Nat),fH (p.2.map λn:Nat=>(n:Int))])=true:=by
    simp only[cJ,i6,(qu (p.2.map λn:Nat=>(n:Int))).1,wD]
   have h3:kD (.tuple [.int (p.1:Nat),fH (p.2.map λn:Nat=>(n:Int))])<=64:=by
    simp only[kD,jG,(qu (p.2.map λn:Nat=>(n:Int))).2];decide
   show(PyData.canLay0 (.tuple [.int (p.1:Nat),fH (p.2.map λn:Nat=>(n:Int))])&&decide (PyData.depth (.tuple [.int (p.1:Nat),fH (p.2.map λn:Nat=>(n:Int))])<=64))=true;rw[vn _ h0,AY _ h0,cT h3];rfl
 .cases x with
  |none=>
   cases y with
   |none=>exact⟨λ_=>rfl,λ_=>rfl⟩
   |some q=>exact⟨λh=>(by cases h),λh=>(by cases h)⟩
  |some p=>
   cases y with
   |none=>exact⟨λh=>(by cases h),λh=>(by cases h)⟩
   |some q=>
    show(decide ((p.1:Int)=(q.1:Int))&&(PyData.eqv (fH _) (fH _)&&true))=true↔_;rw[F4,wD,cV,nh,nh];obtain⟨p1,p2⟩:=p;obtain⟨q1,q2⟩:=q;exact⟨λ⟨h1,h2⟩=>by rw[show p2=q2 from cast_inj h2,show p1=q1 by have:(p1:Int)=q1:=h1;omega],λh=>by cases h;exact⟨rfl,rfl⟩⟩
theorem ZM{v:List (Option WT)}(h:yS v):yS (ee pT v r):=λp hp=>by
 unfold ee at hp;split at hp
 .rename_i k hk
  rcases List.mem_or_eq_of_mem_set hp with q|q
  .exact h p q
  .unfold pT jz at q
   split at q
   .exact h p (by rw[q];exact cE hk)
   .rename_i y hy
    split at q
    .cases q;exact wL (IK h) hy
    .rename_i x
     cases q;split
     .exact wL (IK h) hy
     .exact h _ (cE hk)
 .exact h p hp
theorem ZN:aP ["grammar"] ["grammar"] (aC GL):=aV
theorem ZO(T:Txt K mg)(B:Bs K mg base tb):br P w K mg base "least_texts" 14 ["grammar"] (gO (cR mg tb) pY (ay jK) (λg=>wR g g.nons)):=by
 have IJ:=HJ (P:=P) (w:=w) T ZL (C:=λ_=>True) (λH h _ KX _=>Qw T.BZ KX) (λ_ _ _ _=>trivial) ((ZI (P:=P) (w:=w) T B).mono (by decide)) T.BZ.bd;refine T.OG.fn.ok ZN iI (λcdv A outer s H vs Q E hr h=>?_);obtain⟨u,g,rfl,hg,_,k⟩:=h;have G:=hg.2.2;obtain⟨p1,p2⟩:=SA G;refine⟨_,(az (aH (aE T.BO IJ hr (aa uT (aa (aO (K:=K) rfl (pv 0) rfl) (aa (aO (K:=K) rfl (pv 0) rfl) (aa (jF T.BZ.gl) af))))))),?_⟩;refine⟨_,rfl,gZ T hg ⟨_,rfl,tV T hg λur gw=>⟨_,none,g.nons,_,_,rfl,trivial,rfl,fQ G,gw,G.rules,?_,λv r _ _ h=>ZM h,p1,λp H2 j s2 hp hF hv=>?_⟩⟩⟩
 .intro p hp
  cases (List.mem_replicate.mp hp).2
 .rw[p2 j hF]at hv
  exact k p H2 s2 hp hv
theorem QC(h:bz H v y):bH aW H v (flatSym y):=by
 obtain⟨a,e,h1⟩:=h;cases y with
 |non k=>exact⟨a,_,e,h1,.cons rfl (.cons rfl .nil)⟩
 |range lo hi=>exact⟨a,_,e,h1,.cons rfl (.cons rfl (.cons rfl .nil))⟩
theorem IL:∀l:List Sym,(l.flatMap flatSym).length<=3*l.length
 |[]=>cM _
 |y::l=>by
  have ih:=IL l;rw[j9,aX,bT];cases y with
  |non k=>show 2+_<=_;omega
  |range lo hi=>show 3+_<=_;omega
theorem IM:∀{l:List Rule},(∀r∈l,r.rhs.length<=8)->(l.flatMap flatRule).length<=26*l.length
 |[],_=>cM _
 |r::l,h=>by
  have ih:=IM (l:=l) λq hq=>h q (bg _ hq);have h1:=h r aZ;have h2:=IL r.rhs;rw[j9,aX,bT];show(r.rhs.flatMap flatSym).length+1+1+_<=_;omega
theorem CF:aP ["grammar","row","rule","symbol"] ["grammar"] (aC GG):=aV
theorem IP(T:Txt K mg)(B:Bs K mg base tb):br P w K mg base "row_of_grammar" 1 ["grammar"] (gO (cR mg tb) pY (ay aW) flatGrammar):=by
 refine T.BX.fn.ok CF iI (λcdv A outer s H vs Q E hr h=>?_);obtain⟨u,g,rfl,hg,_,k⟩:=h;have G:=hg.2.2;refine⟨_,(aq (aN (i:=1) CF.nd rfl (Or.inl rfl) (bL (aa (aO (K:=K) rfl (pv 0) rfl) (aa (fF j4 (by rfl) T.jY kU (aa (aO (K:=K) rfl (pv 0) rfl) af)) af))))
   (aq (eV eF rfl (d8 (aO (K:=K) rfl (pv 0) rfl)) (bh (i:=2) CF.nd rfl (Or.inl rfl))
    (aq (gi (gm gc kc kW jU (pv 1) (aa (aO (K:=K) rfl (pv 2) rfl) af)))
   (aq (gi (gm gc kc kW jU (pv 1) (aa (fF j4 (by rfl) T.jY kU (aa (aO (K:=K) rfl (pv 2) rfl) af)) af)))
   (az (eV eF rfl (oO (aO (K:=K) rfl (pv 2) rfl)) (bh (i:=3) CF.nd rfl (Or.inl rfl))
    (az (gi (gm gc qO uJ M3 (pv 1) (aa (pv 3) af)))))))))
   (az (aH (pv 1))))),?_⟩
 refine⟨_,rfl,gZ T hg ⟨_,rfl,tV T hg λur gw=>mW gw ⟨(by show 2<=sizeLine;decide),λD hD=>?_⟩⟩⟩;have s0:=Sm.new (o:=.lst [.int (g.nons:Nat),.int (g.rules.length:Nat)]) hD;refine jq (ms:=g.rules) (R:=bF mg) (λv H3=>ay (bF mg) H v g.rules/\H3=upd H D (.lst [.int (g.nons:Nat),.int (g.rules.length:Nat)])) (λQ' k'=>⟨_,rfl,?_⟩) ?_
 .obtain⟨⟨b,dx,ur,e1,e2,e3⟩,_⟩:=hg
  unfold i8;exact⟨b,_,dx,_,_,e1,Sm.at s0 e2,T.gX.cls,T.yl,vA _ _,k' _ _ ⟨e3,rfl⟩⟩
 .rintro v H3 ⟨hv,rfl⟩
  refine⟨λi σ H3=>∃x2 x3,σ=[some u,some (.ref D),x2,x3]/\Own aW H H3 D (g.nons::g.rules.length::(g.rules.take i).flatMap flatRule),⟨none,none,rfl,⟨s0,hD,D,_,rfl,aA,.cons rfl (.cons rfl .nil)⟩⟩,λi σ H3 ⟨_,_,_,o⟩=>aI cY _ _ _ _ o.sm hv,?_,?_⟩
  .rintro i y r σ H3 hi hy ⟨x2,x3,rfl,o⟩
   have R:=G.rules r (cE hi);have hlen:((g.rules.take i).flatMap flatRule).length<=1560:=by
    have q1:=IM (l:=g.rules.take i) λq hq=>(G.rules q (pO hq)).cA;have q2:(g.rules.take i).length<=60:=aG (sr _ _) G.cA;omega
   have fz:(g.rules.take (i+1)).flatMap flatRule=(g.rules.take i).flatMap flatRule++(r.lhs::r.rhs.length::r.rhs.flatMap flatSym):=by
    rw[take_snoc hi,j8];simp[flatRule]
   generalize (g.rules.take i).flatMap flatRule=acc at o hlen fz;refine⟨_,rfl,o.ty,_,rfl,kI T hy (o.push jt (z:=r.lhs) rfl (by rw[cK,bT,bT];omega) λH4 o4 sx4=>?_)⟩;have hy4:=ju _ _ _ _ _ o.dZ sx4 hy;refine⟨_,rfl,o4.ty,_,rfl,jo T hy4 λus dF=>Pf dF (o4.push jt (z:=r.rhs.length) rfl (by rw[cK];simp;omega) λH5 o5 sx5=>?_)⟩;have hy5:=ju _ _ _ _ _ o4.dZ sx5 hy4;refine B9 (ms:=r.rhs) (R:=bz) (λx H6=>H6=H5/\bH bz H5 x r.rhs) (λQ' k'=>⟨_,rfl,jo T hy5 λus dF=>k' _ _ ⟨rfl,dF⟩⟩) ?_;rintro x H6 ⟨rfl,h6⟩;refine⟨λj σ H7=>∃x3,σ=[some u,some (.ref D),some y,x3]/\Own aW H H7 D (g.nons::g.rules.length::(acc++(r.lhs::r.rhs.length::(r.rhs.take j).flatMap flatSym)))/\aD [D] H6 H7,⟨x3,rfl,?_,aD.refl _ _⟩,λj σ H7 ⟨_,_,_,q⟩=>rM mX _ _ _ _ _ o5.dZ q h6,?_,?_⟩
   .have e:(g.nons::g.rules.length::acc++[r.lhs]++[r.rhs.length])=(g.nons::g.rules.length::(acc++(r.lhs::r.rhs.length::(r.rhs.take 0).flatMap flatSym))):=by simp
    rw[<-e];exact o5
   .rintro j z m σ H7 hj hz ⟨x3,rfl,o7,gp⟩
    have hft:=R.cA;have hfl:=IL (r.rhs.take j);have htl:(r.rhs.take j).length<=8:=aG (sr _ _) hft;have hfm:(flatSym m).length<=3:=by
     cases m with
     |non k=>show 2<=3;decide
     |range lo hi=>exact aF 3
    refine⟨_,rfl,o7.ty,_,rfl,o7.PD jt (QC hz) ?_ λH8 o8 sx8=>⟨_,rfl,?_,gp.trans sx8⟩⟩
    .rw[cK]
     simp only[bT,aX];omega
    .rw[take_snoc hj,j8]
     simp only[zf,jy,j9,Ds,fW]at o8⊢;exact o8
   .rintro σ H7 ⟨x3,rfl,o7,gp⟩
    rw[ja]at o7;exact⟨_,_,rfl,by rw[fz];exact o7⟩
  .rintro σ H3 ⟨x2,x3,rfl,o⟩
   rw[ja]at o;exact⟨_,rfl,k D H3 o.sm hD o.lst⟩
theorem CH:aP ["symbols","hollow","count","symbol"] ["symbols","hollow"] (aC GH):=aV
theorem ZP(T:Txt K mg)(B:Bs K mg base tb):br P w K mg base "count_ways" 3 ["symbols","hollow"] (kH (bH bz) (ay bA) (λys v=>Fit ys v/\ys.length<=8) aW (λys v=>2^(ys.filter (eE v)).length)):=by
 have qB:=vF (P:=P) (w:=w) T B;refine T.OC.fn.ok CH mV (λcdv A outer s H vs Q E hr h=>?_);obtain⟨u,ys,u2,v,rfl,hy,hv,⟨⟨p1,p2⟩,p3⟩,k⟩:=h;refine⟨_,(aq (aN (i:=2) CH.nd rfl (Or.inl rfl) bK)
   (aq (eV eF rfl (oO (pv 0)) (bh (i:=3) CH.nd rfl (Or.inl rfl))
    (az (cN (di (aE T.rI qB hr (aa (bL (aa (pv 3) af)) (aa (pv 1) af)))) (az (xw (i:=2) CH.nd rfl (Or.inl rfl) bK Ye)) cP)))
   (az (aH (pv 2))))),?_⟩
 refine B9 (ms:=ys) (R:=bz) (λx H1=>x=u/\H1=H) (λQ' k'=>⟨_,rfl,k' _ _ ⟨rfl,rfl⟩⟩) ?_;rintro x H1 ⟨rfl,rfl⟩;refine⟨λi σ H3=>∃x3,σ=[some x,some u2,some (.int ((2^((ys.take i).filter (eE v)).length:Nat):Int)),x3]/\Sm H1 H3,⟨none,rfl,Sm.refl _⟩,λi σ H3 ⟨_,_,q⟩=>jE bC _ _ _ _ q hy,?_,?_⟩
 .rintro i z y σ H3 hi hz ⟨x3,rfl,s3⟩
  refine⟨_,rfl,(by show 1<=sizeLine;decide),λp hp=>?_⟩;have s5:Sm H3 (upd H3 p (.lst [z])):=Sm.new hp;refine⟨_,rfl,.ref p,[y],u2,v,rfl,.inr ⟨p,_,rfl,aA,.cons (bC _ _ _ _ s5 hz) .nil⟩,aI dH _ _ _ _ (s3.trans s5) hv,⟨λk hk=>p1 k (by rw[cF.mp hk];exact cE hi),(by show 1<=1000;decide)⟩,λb H6 s6 hb=>?_⟩;refine⟨_,(show b=.bl (eE v y)by rw[show eE v y=([y].all (eE v))by rw[l6,RU,wD]];exact hb),?_⟩;have s36:=(s3.trans s5).trans s6;have ht:(ys.take (i+1)).filter (eE v)=(ys.take i).filter (eE v)++[y].filter (eE v):=by rw[take_snoc hi,Rr]
  have hle:((ys.take i).filter (eE v)).length<=8:=aG (wg _ _) (aG (sr _ _) p3);cases e:eE v y with
  |false=>
   refine aY ⟨some z,?_,s36⟩;rw[ht,qM,e];simp
  |true=>
   refine bf ⟨_,rfl,_,_,rfl,rfl,.inr ⟨by decide,by decide⟩,some z,?_,s36⟩;rw[ht,qM,e];simp only[pM,List.filter_nil,aX,bT,zp];rw[Nat.zero_add,Rv];rfl
 .rintro σ H3 ⟨x3,rfl,s3⟩
  rw[ja];exact⟨_,rfl,k _ _ s3 rfl⟩
def iK(v:List Bool):List Sym->List (List Sym)
 |[]=>[[]]
 |s::r=>if eE v s then(iK v r).map (λx=>s::x)++iK v r else(iK v r).map (λx=>s::x)
theorem QD{n:Nat}{l:List Nat}:∀{ys:List Sym},(∀k,Sym.non k∈ys->k<n)->iK (cg n l) ys=variants l ys
 |[],_=>rfl
 |y::r,h=>by
  have e:eE (cg n l) y=symNull l y:=by
   cases y with
   |non k=>exact vG (h k aZ)
   |range lo hi=>rfl
  unfold iK variants;rw[e,QD (ys:=r) λk hk=>h k (bg _ hk)]
theorem QE{v:List Bool}:∀l:List Sym,(iK v l).length<=2^l.length
 |[]=>aF _
 |y::r=>by
  have ih:=QE (v:=v) r;unfold iK;rw[bT,Rv];split
  .rw[aX,aK];omega
  .rw[aK];omega
theorem IQ{v:List Bool}{x:List Sym}:∀{l:List Sym},x∈iK v l->x.length<=l.length
 |[],h=>by rw[cF.mp h];exact aF _
 |y::r,h=>by
  unfold iK at h;have m:∀z∈(iK v r).map (λx=>y::x),z.length<=r.length+1:=λz hz=>by
   obtain⟨q,hq,rfl⟩:=bG.mp hz;exact Dr (IQ hq)
  split at h
  .rcases eZ.mp h with q|q
   .exact m x q
   .exact RV (IQ q)
  .exact m x h
theorem ZQ{α:Type}{g:TG}{tb:TS}{ta:TA}{D:Ends}{Hb:Hp}{R:Rep α}{ms:List α}(h:∀Q':List V->Hp->Prop,Q' [v] H->ta σ H Q')(mR:Mn R)(hv:bH R Hb v ms)(sb:Sm Hb H)(Pv:Nat->L2.St->Hp->Prop)(h0:Pv 0 σ H)(hS:∀i σ H,Pv i σ H->Sm Hb H)(hs:∀i x m σ H,i<ms.length->ms[ms.length-1-i]?=some m->R H x m->Pv i σ H->g x σ H λσ2 H2=>tb {D with nx:=Pv (i+1),ct:=Pv (i+1),bk:=D.nx} σ2 H2)(hd:∀σ H,Pv ms.length σ H->D.nx σ H):kq (NR K ta) g tb D σ H:=by
 unfold kq;exact h _ (Xs mR hv sb Pv h0 hS hs hd)
theorem lU{α:Type}{R:Rep α}{ms ns:List α}(mR:Mn R)(h:ay R H u ms)(h2:ay R H v ns)(hl:ms.length+ns.length<=sizeLine)(q:∀a H',Sm H H'->H a=none->ay R H' (.ref a) (ms++ns)->Q (.ref a) H'):xF u v H Q:=by
 unfold xF;obtain⟨a,vs,e,h1,p1⟩:=h;obtain⟨b,ws,e2,h3,p2⟩:=h2;refine⟨a,b,vs,ws,e,e2,h1,h3,by rw[eW p1,eW p2];exact hl,λp hp=>q p _ (Sm.new hp) hp ⟨p,_,rfl,aA,mS mR (Sm.new hp) (tK p1 p2)⟩⟩
abbrev m5:Rep (List Sym):=bH bz
theorem n9:Mn m5:=jE bC
theorem ZR:Lx m5:=rM mX
theorem vP:aP ["symbols","hollow","ways","symbol","longer","way"] ["symbols","hollow"] (aC Bt):=aV
theorem ZS(T:Txt K mg)(B:Bs K mg base tb):br P w K mg base "ways_of_symbols" 3 ["symbols","hollow"] (tX (bH bz) (ay bA) (λys v=>Fit ys v/\ys.length<=8) (ay m5) (λys v=>iK v ys)):=by
 have qB:=vF (P:=P) (w:=w) T B;refine T.OD.fn.ok vP vD (λcdv A outer s H vs Q E hr h=>?_);obtain⟨u,ys,u2,v,rfl,hy,hv,⟨⟨p1,p2⟩,p3⟩,k⟩:=h;refine⟨_,(aq (aN (i:=2) vP.nd rfl (Or.inl rfl) (bL (aa (gJ af) af)))
   (aq (eV eF rfl (Xr rfl T.X8 (aa (pv 0) af)) (bh (i:=3) vP.nd rfl (Or.inr rfl))
    (aq (qi (i:=4) (own:=[("way",5)]) rfl vP.nd rfl rfl (nR rfl rfl rfl rfl) (d8 (pv 2)) (eu (N:=["symbols","hollow","ways","symbol","longer","way"]) (sc:=aC Bt) (by decide+kernel)) (λs H C cl fp=>(bh (i:=5) vP.nd rfl (Or.inl rfl))) (λs H C cl fp=>fZ) (λs H C cl fp=>(gj (r:=λx y H Q=>tG K x y H Q\/sZ K x y H Q) (eG.or FG E2) (gJ (aa (pv 3) af)) (pv 5))))
   (az (aN (i:=2) vP.nd rfl (Or.inl rfl) (sW (di (aE T.rI qB hr (aa (bL (aa (pv 3) af)) (aa (pv 1) af)))) (gj lC (pv 4) (pv 2)) (pv 4))))))
   (az (aH (pv 2))))),?_⟩
 refine⟨cM _,λp0 mY=>⟨(by show 1<=sizeLine;decide),λD0 hD0=>?_⟩⟩;have s0:=Sm.new (o:=.tup []) mY;have s1:=Sm.new (o:=.lst [.ref p0]) hD0;have s01:=s0.trans s1;refine ZQ (Hb:=H) (ms:=ys) (R:=bz) (λQ' k'=>⟨_,rfl,k'⟩) bC hy s01 (λi σ H3=>∃x2 x3 x4,σ=[some u,some u2,some (.ref x2),x3,x4,none]/\H x2=none/\Sm H H3/\ay m5 H3 (.ref x2) (iK v (ys.drop (ys.length-i)))) ⟨_,none,none,rfl,s0.free hD0,s01,?_⟩ (λi σ H3 ⟨_,_,_,_,_,q,_⟩=>q) ?_ ?_
 .rw[JC,qQ]
  exact⟨D0,_,rfl,aA,.cons ⟨p0,[],rfl,Sm.at s1 aA,.nil⟩ .nil⟩
 .rintro i z y σ H3 hil hi hz ⟨x2,x3,x4,rfl,kJ,s3,hw⟩
  have hd:ys.drop (ys.length-(i+1))=y::ys.drop (ys.length-i):=by
   have aR:ys.length-(i+1)<ys.length:=by omega
   rw[sj aR,show ys.length-(i+1)+1=ys.length-i by omega]
   congr 1
   rw[show ys.length-1-i=ys.length-(i+1)by omega]at hi;exact(cU.mp hi).2
  have oh:=QE (v:=v) (ys.drop (ys.length-i));have ZT:(iK v (ys.drop (ys.length-i))).length<=256:=aG oh (aG (Nat.pow_le_pow_right (by decide) (show(ys.drop (ys.length-i)).length<=8 by rw[pN];omega)) (by decide));refine oZ (λx=>some (y::x)) (ms:=iK v (ys.drop (ys.length-i))) (R:=m5) (G:=λ_=>m5) (λQ' k'=>⟨_,rfl,k' _ _ (Sm.refl _) hw⟩) n9 (aG ZT (by decide)) (λ_=>n9) (λD=>jI ZR D) (λH4 D q m s4 hD hm hq H5 Nx s5 hl kF kT=>?_) λD zs H5 hD e1 s5 e3=>?_
  .refine⟨rfl,jr ⟨_,rfl,(by show 1<=sizeLine;decide),λt ht=>⟨_,rfl,?_⟩⟩⟩
   have s6:=Sm.new (o:=.tup [z]) ht;have hml:m.length<=8:=by
    have q:=IQ hm;rw[pN]at q;omega
   refine HB (R:=bz) (ms:=[y]) (ns:=m) bC ⟨t,_,rfl,aA,.cons (bC _ _ _ _ ((s4.trans s5).trans s6) hz) .nil⟩ (n9 _ _ _ _ (s5.trans s6) hq) (by rw[cK];show 1+_<=_;omega) λx H7 s7 hx=>kT _ _ _ rfl (s6.trans s7) hx
  .rw[filterMap_some]at e3
   have hlg:ay m5 H5 (.ref D) ((iK v (ys.drop (ys.length-i))).map (λx=>y::x)):=⟨D,zs,rfl,e1,e3⟩;have s35:=s3.trans s5;refine⟨_,rfl,(by show 1<=sizeLine;decide),λp hp=>?_⟩;have s6:Sm H5 (upd H5 p (.lst [z])):=Sm.new hp;refine⟨_,rfl,.ref p,[y],u2,v,rfl,.inr ⟨p,_,rfl,aA,.cons (bC _ _ _ _ (s5.trans s6) hz) .nil⟩,aI dH _ _ _ _ (s35.trans s6) hv,⟨λk hk=>p1 k (by rw[cF.mp hk];exact cE hi),(by show 1<=1000;decide)⟩,λb H7 s7 hb=>?_⟩;refine⟨_,(show b=.bl (eE v y)by rw[show eE v y=([y].all (eE v))by rw[l6,RU,wD]];exact hb),?_⟩;have s57:=s6.trans s7;have s37:=s35.trans s57;have fz:iK v (ys.drop (ys.length-(i+1)))=if eE v y then(iK v (ys.drop (ys.length-i))).map (λx=>y::x)++iK v (ys.drop (ys.length-i))else(iK v (ys.drop (ys.length-i))).map (λx=>y::x):=by
    rw[hd];rfl
   cases e:eE v y with
   |true=>
    refine bf ⟨_,rfl,_,rfl,lU n9 (aI n9 _ _ _ _ s57 hlg) (aI n9 _ _ _ _ (s5.trans s57) hw) (by rw[aK,cK];omega) λa H8 s8 ha8 h8=>⟨_,_,_,rfl,s37.free ha8,s37.trans s8,?_⟩⟩;rw[fz,aj e];exact h8
   |false=>
    refine aY ⟨_,rfl,_,_,_,rfl,s3.free hD,s37,?_⟩;rw[fz,ai (by rw[e];decide)];exact aI n9 _ _ _ _ s57 hlg
 .rintro σ H3 ⟨x2,x3,x4,rfl,kJ,s3,hw⟩
  rw[C4,zl]at hw;exact⟨_,rfl,k _ _ s3 kJ hw⟩
theorem ZU{st:Stmt}{t:TS}(h:PS X.nox st t):PS X st t:=λpins s σ H D I hw=>
 g8 (h pins s σ H D (I.jj _) hw) (λ_ _ q=>q.ly) λ_ _ z=>False.elim z
theorem CI:aP ["grammar","useful","a"] ["grammar"] (aC Bv):=aV
theorem QF(T:Txt K mg)(B:Bs K mg base tb):br P w K mg base "staying_nonterminals" 19 ["grammar"] (gO (cR mg tb) pY (ay aW) keptNons):=by
 have qA:=yF (P:=P) (w:=w) T B;refine T.G9.fn.ok CI iI (λcdv A outer s H vs Q E hr h=>?_);obtain⟨u,g,rfl,hg,_,k⟩:=h;have G:=hg.2.2;refine⟨_,(aq (aN (i:=1) CI.nd rfl (Or.inr rfl) (aE T.tQ qA hr (aa (pv 0) af)))
   (az (aH (gU (own:=[("a",2)]) rfl CI.nd (jR rfl T.jZ (aa (aO (K:=K) rfl (pv 0) rfl) af)) (eu (N:=["grammar","useful","a"]) (sc:=aC Bv) (by decide+kernel)) (λs H C cl fp=>(bh (i:=2) CI.nd rfl (Or.inl rfl))) (λs H C cl fp=>(tE (FW (fE oQ (pv 2) (bB T.rG) (eK _)) (di (bD (r:=bX K) dW (pv 1) (pv 2) (λ_ _=>rfl)))))) (λs H C cl fp=>(pv 2)))))),?_⟩
 refine⟨_,rfl,u,g,rfl,hg,trivial,λa1 H1 s1 _ h1=>?_⟩;have gB:=cZ _ _ _ _ s1 hg;refine tW (n:=g.nons) (λa=>if(a==0||Vaglrc.has a (useful g))then some a else none) (G:=λ_=>aW) (λQ' k'=>⟨_,rfl,gZ T gB (k' _ (Sm.refl _))⟩) (fQ G) (λ_=>bE) (λD=>jm qm D) (λH4 D x s4 hD hx H5 Nx s5 hl kF kT=>?_) λD zs H' hD q1 q2 q3=>?_
 .refine⟨rfl,_,rfl,rfl,_,rfl,?_⟩
  rw[show(V.int 0)=V.int ((0:Nat):Int)from rfl,vJ];cases e0:x==0 with
  |true=>exact bf (bf ⟨_,rfl,kT _ _ _ (by rw[e0];rfl) (Sm.refl _) rfl⟩)
  |false=>
   refine aY ⟨_,rfl,_,rfl,f7 (aI dH _ _ _ _ (s4.trans s5) h1) (pQ hx) λv hv=>⟨_,hv,?_⟩⟩;cases e1:Vaglrc.has x (useful g)with
   |true=>exact bf ⟨_,rfl,kT _ _ _ (by rw[e0,e1];rfl) (Sm.refl _) rfl⟩
   |false=>exact aY (kF (by rw[e0,e1];rfl) _ (Sm.refl _))
 .rw[vB,Tt G]at q3
  exact k _ _ (s1.trans q2) (s1.free hD) ⟨D,zs,rfl,q1,q3⟩
def vQ:Rep (List Nat):=λH v kept=>∃d ak,v=.ref d/\H d=some (.dK ak)/\∀(i a:Nat),kept[i]?=some a->f6 ak (Sum.inl (a:Int))=some (.int (i:Nat))
theorem CJ:Mn vQ:=λ_ _ _ _ s ⟨d,ak,e,h,k⟩=>⟨d,ak,e,Sm.at s h,k⟩
theorem QG{a:Nat}(hA:gF kept)(h:a∈kept):kept[newNon kept a]?=some a:=by
 obtain⟨i,hi,e⟩:=JW.mp h;have q:kept[i]?=some a:=by rw[bO hi,e]
 rw[xh hA q];exact q
theorem ZV{a:Nat}(h:vQ H v kept)(hA:gF kept)(ha:a∈kept)(q:Q (.int (newNon kept a:Nat)) H):∃(d:Addr) (x:V),v=.ref d/\qj H d (.int (a:Nat)) (some x)/\Q x H:=by
 obtain⟨d,ak,e,h1,h2⟩:=h;have h3:=h2 _ a (QG hA ha);refine⟨d,_,e,?_,q⟩;rw[<-h3];exact qj.k (k:=Sum.inl (a:Int)) h1
theorem ZW{a:Nat}(h:vQ H v kept)(hA:gF kept)(ha:a∈kept):∃d:Addr,v=.ref d/\qj H d (.int (a:Nat)) (some (.int (newNon kept a:Nat))):=by
 obtain⟨d,ak,e,h1,h2⟩:=h;have h3:=h2 _ a (QG hA ha);refine⟨d,e,?_⟩;rw[<-h3];exact qj.k (k:=Sum.inl (a:Int)) h1
theorem ZX:aP ["symbol","numbers"] ["symbol","numbers"] (aC GN):=aV
theorem ZY(T:Txt K mg)(B:Bs K mg base tb):br P w K mg base "renumbered_symbol" 2 ["symbol","numbers"] (kH bz vQ (λy kept=>gF kept/\∀k,y=.non k->k∈kept) bz (λy kept=>newSym kept y)):=by
 have gP:=nX (P:=P) (w:=w) T B;refine T.OH.fn.ok ZX mV (λcdv A outer s H vs Q E hr h=>?_);obtain⟨u,y,u2,kept,rfl,hy,hk,⟨hA,eN⟩,k⟩:=h;refine⟨_,(az (aH (sW (di (aE T.mU gP hr (aa (pv 0) af))) (gJ (aa (bB T.yh) (aa (MN (Fy hr) (pv 1) (bD (r:=cX K) gk (pv 0) bK (λ_ _=>rfl)) (λ_ _=>rfl)) af))) (pv 0)))),?_⟩;refine⟨_,rfl,u,y,rfl,hy,trivial,λz H1 s1 hz=>⟨_,hz,?_⟩⟩;have hy1:=bC _ _ _ _ s1 hy;cases y with
 |range lo hi=>exact aY ⟨_,rfl,k _ _ s1 hy1⟩
 |non j=>
  refine bf ⟨_,rfl,_,rfl,oY hy1 (ZV (CJ _ _ _ _ s1 hk) hA (eN j rfl) ⟨(by show 2<=sizeLine;decide),λp hp=>k _ _ (s1.trans (Sm.new hp)) ⟨p,rfl,aA⟩⟩)⟩
theorem IS:aP ["rule","numbers","symbols","symbol"] ["rule","numbers"] (aC Bw):=aV
theorem ZZ(T:Txt K mg)(B:Bs K mg base tb):br P w K mg base "renumbered_rule" 3 ["rule","numbers"] (kH (bF mg) vQ (λr kept=>gF kept/\r.lhs∈kept/\(∀k,Sym.non k∈r.rhs->k∈kept)/\r.rhs.length<=8) (bF mg) (λr kept=>{lhs:=newNon kept r.lhs,rhs:=r.rhs.map (newSym kept)})):=by
 have yU:=Hw (P:=P) (w:=w) T B;have Z0:=ZY (P:=P) (w:=w) T B;refine T.OI.fn.ok IS mV (λcdv A outer s H vs Q E hr h=>?_);obtain⟨u,r,u2,kept,rfl,hy,hk,⟨hA,hl,eN,hlen⟩,k⟩:=h;refine⟨_,(aq (qi (i:=2) (own:=[("symbol",3)]) rfl IS.nd rfl rfl (nR rfl rfl rfl rfl) (oO (aO (K:=K) rfl (pv 0) rfl)) (eu (N:=["rule","numbers","symbols","symbol"]) (sc:=aC Bw) (by decide+kernel)) (λs H C cl fp=>(bh (i:=3) IS.nd rfl (Or.inl rfl))) (λs H C cl fp=>fZ) (λs H C cl fp=>(aE T.OH Z0 hr (aa (pv 3) (aa (pv 1) af)))))
   (az (aH (qf T.kG.mk_ yU (hr.mono (by decide)) rfl T.kG.gl T.kG.bd .nil fP (aa (MN (Fy hr) (pv 1) (aO (K:=K) rfl (pv 0) rfl) (λ_ _=>rfl)) (aa (Ar O4 (by rfl) T.Oi boot_tuple (aa (pv 2) af)) af)))))),?_⟩
 refine Pg (λy=>some (newSym kept y)) (ms:=r.rhs) (R:=bz) (G:=λ_=>bz) (λQ' k'=>⟨_,rfl,jo T hy λus dF=>k' _ _ (Sm.refl _) dF⟩) bC (aG hlen (by decide)) (λ_=>bC) (λD=>jI mX D) (λH1 D x m s1 hD hm hx H2 Nx s2 hl kF kT=>?_) λD zs H1 hD q1 q2 q3=>?_
 .exact⟨rfl,jr ⟨_,rfl,_,rfl,x,m,_,kept,rfl,bC _ _ _ _ s2 hx,CJ _ _ _ _ (s1.trans s2) hk,⟨hA,λk e=>eN k (by rw[<-e];exact hm)⟩,λv H3 s3 hv=>kT _ _ _ rfl s3 hv⟩⟩
 .rw[filterMap_some]at q3
  refine⟨_,rfl,_,rfl,kI T (cY _ _ _ _ q2 hy) ?_⟩;obtain⟨d,e0,Z1⟩:=ZW (CJ _ _ _ _ q2 hk) hA hl;refine⟨d,_,e0,Z1,?_⟩;refine⟨_,rfl,Pe bC ⟨D,zs,rfl,q1,q3⟩ λut H2 s2 ht=>?_⟩;exact yt λx dx H3 hx s3 h3=>k _ _ ((q2.trans s2).trans s3) ⟨x,dx,ut,rfl,h3,jE bC _ _ _ _ s3 ht⟩
theorem QH(G:aS g):(keptNons g).length<=20:=by
 have:=(Et G).sub.length_le;rw[gq]at this;exact aG this G.nons
theorem Z2{ak:List (Key×V)}{k:Key}:(putK ak k v).length<=ak.length+1:=by
 cases e:f6 ak k with
 |none=>rw[VY v e,aX];exact aF _
 |some x=>
  unfold putK;split
  .rw[aK];omega
  .rw[aX];exact aF _
def vR(H0 H:Hp)(v:V):Prop:=∀(a C dx c:Addr) (n:V),v=.ref a->H a=some (.ins C dx (jH n (.ref c)))->H0 c=none
def Z3(mg:Str->Option Value)(tb:Addr)(f:Grammar->Grammar):Sp:=λvs H Q _=>∃u g,vs=[u]/\cR mg tb H u g/\∀v H',Sm H H'->cR mg tb H' v (f g)->vR H H' v->Q v H'
theorem IT{n n' u':V}(h:jH n u=jH n' u'):u=u':=by
 have:=vA n u;rw[h,vA]at this;exact(Option.some.inj this).symm
theorem IU{x:Addr}{n:V}(h:H x=some (.ins C dx (jH n (.ref D))))(hD:H0 D=none):vR H0 H (.ref x):=λa C' dx' c n' e h'=>by
 cases e;rw[h]at h';have h':=Option.some.inj h';injection h' with _ _ h3
 have:=IT h3;cases this;exact hD
theorem uo:aP ["grammar","staying","numbers","number","a","rule"] ["grammar"] (aC Bx):=aV
theorem QI(T:Txt K mg)(B:Bs K mg base tb):br P w K mg base "trimmed_grammar" 21 ["grammar"] (Z3 mg tb trimmed):=by
 have IV:=QF (P:=P) (w:=w) T B;have uq:=Cb (P:=P) (w:=w) T B;have Z4:=ZZ (P:=P) (w:=w) T B;have qD:=yG (P:=P) (w:=w) T B;refine T.Hf.fn.ok uo (λ_ _ _ _ ⟨_,_,e,_⟩=>by rw[e];rfl) (λcdv A outer s H vs Q E hr h=>?_);obtain⟨u,g,rfl,hg,k⟩:=h;have G:=hg.2.2;have hA:=(Et G).asc;refine⟨_,(aq (aN (i:=1) uo.nd rfl (Or.inl rfl) (aE T.G9 IV hr (aa (pv 0) af)))
   (aq (aN (i:=2) uo.nd rfl (Or.inr rfl) Wb)
   (aq (eV eF rfl (Fx rfl T.vp (aa (pv 1) af)) (oN rfl (gz (bh (i:=3) uo.nd rfl (Or.inl rfl)) (gz (bh (i:=4) uo.nd rfl (Or.inl rfl)) oM)))
    (az (V8 (Fy hr) (pv 2) (pv 4) (pv 3) rfl)))
   (az (aH (qf T.gX.mk_ uq (hr.mono (by decide)) rfl T.gX.gl T.gX.bd .nil fP (aa (fF j4 (by rfl) T.jY kU (aa (pv 1) af)) (aa (gU (own:=[("rule",5)]) rfl uo.nd (d8 (aE T.vv qD hr (aa (pv 0) af))) (eu (N:=["grammar","staying","numbers","number","a","rule"]) (sc:=aC Bx) (by decide+kernel)) (λs H C cl fp=>(bh (i:=5) uo.nd rfl (Or.inl rfl))) (λs H C cl fp=>fZ) (λs H C cl fp=>(aE T.OI Z4 hr (aa (pv 5) (aa (pv 2) af))))) af)))))))),?_⟩
 refine⟨_,rfl,u,g,rfl,hg,trivial,λa1 H1 s1 _ h1=>λD hD=>?_⟩;have s2:=Sm.new (o:=.dK []) hD;refine Hq (ms:=keptNons g) (R:=aW) (λx H3=>x=.ref a1/\H3=upd H1 D (.dK [])) (λQ' k'=>⟨_,rfl,k' _ _ ⟨rfl,rfl⟩⟩) bE ?_;rintro x H3 ⟨rfl,rfl⟩;refine⟨λi σ H3=>∃x3 x4 ak,σ=[some u,some (.ref a1),some (.ref D),x3,x4,none]/\Sm H1 H3/\H3 D=some (.dK ak)/\ak.length<=i/\∀(j a:Nat),j<i->(keptNons g)[j]?=some a->f6 ak (Sum.inl (a:Int))=some (.int (j:Nat)),⟨none,none,[],rfl,s2,aA,aF _,λj a h=>by omega⟩,λi σ H3 ⟨_,_,_,_,q,_⟩=>aI bE _ _ _ _ q h1,λi σ H3 H4 s4 ⟨x3,x4,ak,e,q1,q2,q3⟩=>⟨x3,x4,ak,e,q1.trans s4,Sm.at s4 q2,q3⟩,?_,?_⟩
 .rintro i y a σ H3 hi hy ⟨x3,x4,ak,rfl,s3,hd,hl,hv⟩
  cases hy;have ab7:=(cU.mp hi).1;have hf:=QH G;refine⟨_,rfl,_,rfl,_,rfl,D,_,rfl,xO.k (k:=Sum.inl (a:Int)) hd (by rw[cK];omega),_,_,_,rfl,aD.wr s3 (.inl hD) (by rw[hd];trivial) trivial,aA,aG Z2 (by omega),λj b hj hb=>?_⟩;rw[VX];by_cases e:j=i
  .subst e
   rw[hi]at hb;cases hb;rw[aj rfl]
  .rw[ai λz=>?_]
   .exact hv j b (by omega) hb
   .have z:b=a:=by
               have:(b:Int)=a:=by injection z
               omega
    subst z;have:=xh hA hb;rw[xh hA hi]at this;exact e this.symm
 .rintro σ H3 ⟨x3,x4,ak,rfl,s3,hd,hl,hv⟩
  have lV:=s1.trans s3;refine⟨_,rfl,mW (aI bE _ _ _ _ s3 h1) ?_⟩;have hN:vQ H3 (.ref D) (keptNons g):=⟨D,ak,rfl,hd,λi a h=>hv i a (cU.mp h).1 h⟩;refine oZ (λr=>some ({lhs:=newNon (keptNons g) r.lhs,rhs:=r.rhs.map (newSym (keptNons g))}:Rule)) (ms:=usefulRules g) (R:=bF mg) (G:=λ_=>bF mg) (λQ' k'=>⟨_,rfl,u,g,rfl,cZ _ _ _ _ lV hg,trivial,λa4 H4 s4 _ h4=>k' _ _ s4 h4⟩) cY (aG (xg g) (aG G.cA (by decide))) (λ_=>cY) (λD=>jI ju D) (λH4 D4 x r s4 hD4 g6 hx H5 Nx s5 hl kF kT=>?_) λD4 zs H4 hD4 q1 q2 q3=>?_
  .refine⟨rfl,jr ⟨_,rfl,_,rfl,x,r,_,_,rfl,cY _ _ _ _ s5 hx,CJ _ _ _ _ (s4.trans s5) hN,⟨hA,z9 (sG.mp g6).2,λk hk=>z9 (zI G g6 hk),(rR G g6).cA⟩,λv H6 s6 hv=>kT _ _ _ rfl s6 hv⟩⟩
  .rw[filterMap_some]at q3
   refine yt λx dx H5 hx s5 h5=>k _ _ ((lV.trans q2).trans s5) ⟨⟨x,dx,.ref D4,rfl,h5,aI cY _ _ _ _ s5 ⟨D4,zs,rfl,q1,q3⟩⟩,((lV.trans q2).trans s5).tab _ hg.2.1,Ll G⟩ (IU h5 (lV.free hD4))
def rT(o:HO):Prop:=(∀ys,o≠ .tup ys)/\∀C dx fs,o≠ .ins C dx fs
def Lt{α:Type}(R:Rep α):Prop:=∀ex H H' v x,(∀b∈ex,∃o,H b=some o/\rT o)->aD ex H H'->R H v x->R H' v x
theorem QJ{ys:List V}(hex:∀b∈ex,∃o,H b=some o/\rT o)(h:H a=some (.tup ys)):a∉ex:=λm=>by
 obtain⟨o,e,n,_⟩:=hex a m;rw[h]at e;exact n ys (Option.some.inj e).symm
theorem Z5(hex:∀b∈ex,∃o,H b=some o/\rT o)(h:H a=some (.ins C dx fs)):a∉ex:=λm=>by
 obtain⟨o,e,_,n⟩:=hex a m;rw[h]at e;exact n C dx fs (Option.some.inj e).symm
theorem IW:Lt bz:=λex H H' v x hex s ⟨a,e,h⟩=>⟨a,e,s.at h (QJ hex h)⟩
theorem IX{α:Type}{R:Rep α}(l:Lt R):Lt (bH R):=λex H H' v x hex s ⟨a,vs,e,h,p⟩=>⟨a,vs,e,s.at h (QJ hex h),gW (λ_ _ q=>l _ _ _ _ _ hex s q) p⟩
theorem IY:Lt (bF mg):=λex H H' v x hex s ⟨a,dx,u,e,h,p⟩=>⟨a,dx,u,e,s.at h (Z5 hex h),IX IW _ _ _ _ _ hex s p⟩
theorem QK{α:Type}{R:Rep α}(l:Lt R){xs:List α}(hex:∀b∈ex,∃o,H b=some o/\rT o)(s:aD ex H H')(ha:a∉ex)(h:ay R H (.ref a) xs):ay R H' (.ref a) xs:=by
 obtain⟨b,vs,e,h,p⟩:=h;cases e;exact⟨a,vs,rfl,s.at h ha,gW (λ_ _ q=>l _ _ _ _ _ hex s q) p⟩
theorem Z6:rT (.lst xs):=⟨λ_ z=>(by cases z),λ_ _ _ z=>(by cases z)⟩
theorem QL{φ:Heap->Prop}:rT (.ext φ):=⟨λ_ z=>(by cases z),λ_ _ _ z=>(by cases z)⟩
theorem fJ.mono{ks:List i7}(s:Sm H H')(n:fJ H d ks):fJ H' d ks:=by
 obtain⟨xs,h1,h2,h3⟩:=n.ex;exact⟨xs,Sm.at s h1,h2,λx hx=>Xz _ _ _ _ s (h3 x hx)⟩
theorem fJ.lst{ks:List i7}{us:List V}(hD:H D=some (.lst vs))(n:fJ H d ks):fJ (upd H D (.lst us)) d ks:=by
 obtain⟨xs,h1,h2,h3⟩:=n.ex;exact⟨xs,by rw[aJ (sS h1 hD (by intro z;cases z))];exact h1,h2,λx hx=>N3 _ _ _ _ _ _ hD NB (h3 x hx)⟩
theorem fJ.there{ks:List i7}(n:fJ H d ks):∃φ,H d=some (.ext φ):=let⟨_,h,_⟩:=n.ex;⟨_,h⟩
def qF(y:Sym):List Int:=(flatSym y).map λn:Nat=>(n:Int)
def keyOf(r:Rule):i7:=((r.lhs:Int),r.rhs.map qF)
theorem Z7{x:Sym}(h:qF x=qF y):x=y:=by
 have h:=cast_inj h;cases x with
 |non k=>
  cases y with
  |non j=>
   have h:[0,k]=[0,j]:=h;injection h with _ h
   injection h with h _
   rw[h]
  |range lo hi=>cases h
 |range a b=>
  cases y with
  |non j=>cases h
  |range lo hi=>
   have h:[1,a,b]=[1,lo,hi]:=h;injection h with _ h
   injection h with h1 h
   injection h with h2 _
   rw[h1,h2]
theorem QM:∀{l m:List Sym},l.map qF=m.map qF->l=m
 |[],[],_=>rfl
 |[],_::_,h=>by cases h
 |_::_,[],h=>by cases h
 |a::x,b::y,h=>by
  rw[cD,cD]at h;injection h with h1 h2
  rw[Z7 h1,QM h2]
theorem Z8{q:Rule}(h:keyOf r=keyOf q):r=q:=by
 obtain⟨a,x⟩:=r;obtain⟨b,y⟩:=q;have h1:(a:Int)=b:=e8 Prod.fst h;have h2:x.map qF=y.map qF:=e8 Prod.snd h;rw[QM h2,show a=b by omega]
theorem IZ{acc:List Rule}:keyOf r∈acc.map keyOf↔r∈acc:=by
 refine⟨λh=>?_,λh=>List.mem_map_of_mem h⟩;obtain⟨q,hq,e⟩:=bG.mp h;rw[<-Z8 e];exact hq
theorem Z9(h:bz H v y):bH dG H v (qF y):=by
 obtain⟨a,vs,e,h1,h2⟩:=QC h;exact⟨a,vs,e,h1,yT h2⟩
theorem QN{H:Hp}:∀{vs:List V} {l:List Sym},Paired (bz H) vs l->Paired (bH dG H) vs (l.map qF)
 |_,_,.nil=>.nil
 |_,_,.cons r t=>.cons (Z9 r) (QN t)
theorem QO{t:Addr}{z:V}{a:Nat}{m:List Sym}(ht:H t=some (.tup [.int (a:Nat),z]))(hz:m5 H z m):rKey H (.ref t) (keyOf {lhs:=a,rhs:=m}):=by
 obtain⟨b,vs,e,h1,h2⟩:=hz;exact⟨t,_,z,rfl,ht,rfl,b,vs,e,h1,QN h2⟩
theorem aaa(h:∀k,Sym.non k∈ys->k<n):ys.filter (eE (cg n l))=ys.filter (symNull l):=by
 refine Rt λy hy=>?_;cases y with
 |non k=>exact vG (h k hy)
 |range lo hi=>rfl
theorem CM{x:Addr}(hx:H x=none)(hd:H dx=none)(bI:dx≠x):Sm H (upd (upd (upd H dx (.own x)) x (.ins C dx [])) x (.ins C dx fs)):=by
 rw[xj];have s1:Sm H (upd H dx (.own x)):=Sm.new hd;exact s1.trans (Sm.new (by rw[aJ (cS bI)];exact hx))
def aab(mg:Str->Option Value)(tb:Addr):Sp:=λvs H Q E=>∃u g,vs=[u]/\cR mg tb H u g/\(fits g=true->∀v H',Sm H H'->cR mg tb H' v (unnulled g)->vR H H' v->Q v H')/\(fits g=false->∀v H',Sm H H'->E v none H')
abbrev jL(a:Nat)(v:List Sym):Rule:={lhs:=a,rhs:=v}
theorem aac(h:g.rules[i]?=some r):iR g (g.rules.take (i+1))=iR g (g.rules.take i)++((variants (nullable g) r.rhs).filter (λv=>!v.isEmpty)).map (jL r.lhs):=by
 unfold iR;rw[take_snoc h,j8];simp
theorem aad:(iR g (g.rules.take i)).length<=(iR g g.rules).length:=by
 conv=>rhs;rw[<-Dt i g.rules]
 unfold iR;rw[j8,aX];omega
theorem rV:aP ["grammar","hollow","rule","rules","known","way"] ["grammar"] (aC Bu):=aV
theorem QS(T:Txt K mg)(B:Bs K mg base tb):cH P w K mg base (CXX P w (.ref (adr mg "TooGreat"))) 16 (adr mg "full_grammar") (fdOf K (adr mg "full_grammar")) ["grammar"] (aab mg tb):=by
 have lS:=t6 (P:=P) (w:=w) T B;have uq:=Cb (P:=P) (w:=w) T B;have aae:=ZS (P:=P) (w:=w) T B;have aaf:=ZP (P:=P) (w:=w) T B;have yU:=Hw (P:=P) (w:=w) T B;refine T.G8.fn.okX rV (λ_ _ _ _ ⟨_,_,e,_⟩=>by rw[e];rfl) (λcdv A outer s H vs Q E hr h=>?_);obtain⟨u,g,rfl,hg,kQ,kE⟩:=h;have G:=hg.2.2;refine⟨_,(aq (aN (i:=1) rV.nd rfl (Or.inr rfl) (aE T.qw lS hr (aa (pv 0) af)))
   (aq (cN (fE xy (fF (Mu rfl) (by rfl) T.Oh boot_sum (aa (gU (own:=[("rule",2)]) rfl rV.nd (d8 (aO (K:=K) rfl (pv 0) rfl)) (eu (N:=["grammar","hollow","rule","rules","known","way"]) (sc:=aC Bu) (by decide+kernel)) (λs H C cl fp=>(bh (i:=2) rV.nd rfl (Or.inl rfl))) (λs H C cl fp=>fZ) (λs H C cl fp=>(aE T.OC aaf hr (aa (aO (K:=K) rfl (pv 2) rfl) (aa (pv 1) af))))) af)) (bB T.XU) (eK _)) (az (xS rfl rfl T.rL.gl T.rL.ex (λ_ _ h=>rE h))) cP)
   (aq (aN (i:=3) rV.nd rfl (Or.inl rfl) (bL af))
   (aq (aN (i:=4) rV.nd rfl (Or.inl rfl) XI)
   (aq (ZU (eV eF rfl (d8 (aO (K:=K) rfl (pv 0) rfl)) (bh (i:=2) rV.nd rfl (Or.inl rfl))
    (az (eV eF rfl (d8 (aE T.OD aae hr (aa (aO (K:=K) rfl (pv 2) rfl) (aa (pv 1) af)))) (bh (i:=5) rV.nd rfl (Or.inl rfl))
    (az (cN (vj (ER (pv 5) (λ_=>rfl)) (fE (XD hr.units) (gJ (aa (aO (K:=K) rfl (pv 2) rfl) (aa (pv 5) af))) (pv 4) rfl)) (aq (EJ oK (EI (pv 4) (gJ (aa (aO (K:=K) rfl (pv 2) rfl) (aa (pv 5) af))) (XF hr.units)))
   (az (gi (gm gc kc kW jU (pv 3) (aa (qf T.kG.mk_ yU (hr.mono (by decide)) rfl T.kG.gl T.kG.bd .nil fP (aa (aO (K:=K) rfl (pv 2) rfl) (aa (pv 5) af))) af))))) cP))))))
   (aq (cN (fE xy (fF j4 (by rfl) T.jY kU (aa (pv 3) af)) (bB T.N9) (eK _)) (az (xS rfl rfl T.rL.gl T.rL.ex (λ_ _ h=>rE h))) cP)
   (az (aH (qf T.gX.mk_ uq (hr.mono (by decide)) rfl T.gX.gl T.gX.bd .nil fP (aa (aO (K:=K) rfl (pv 0) rfl) (aa (pv 3) af))))))))))),?_⟩
 refine⟨_,rfl,u,g,rfl,hg,trivial,λa1 H1 s1 _ h1=>?_⟩;have h1:ay bA H1 (.ref a1) (cg g.nons (nullable g)):=h1;have gB:=cZ _ _ _ _ s1 hg;refine oZ (λr=>some (2^(r.rhs.filter (symNull (nullable g))).length)) (ms:=g.rules) (R:=bF mg) (G:=λ_=>aW) (λQ' k'=>⟨_,rfl,tV T gB λur gw=>k' _ _ (Sm.refl _) gw⟩) cY (aG G.cA (by decide)) (λ_=>bE) (λD=>jm qm D) (λH4 D4 x r s4 hD4 g6 hx H5 Nx s5 hl kF kT=>?_) λD4 zs H2 hD4 q1 s2 q3=>?_
 .have hx5:=cY _ _ _ _ s5 hx
  have R:=G.rules r g6;refine⟨rfl,jr ⟨_,rfl,jo T hx5 λus dF=>⟨_,rfl,us,r.rhs,_,_,rfl,dF,aI dH _ _ _ _ (s4.trans s5) h1,⟨vH R l8,R.cA⟩,λv H6 s6 hv=>kT _ _ _ rfl s6 ?_⟩⟩⟩;rw[<-aaa (n:=g.nons) λk hk=>R.rhs _ hk];exact hv
 rw[filterMap_some]at q3;refine Qv ⟨D4,zs,rfl,q1,q3⟩ ?_;rw[<-Lq];have dI:=s1.trans s2;refine⟨_,_,rfl,rfl,_,rfl,?_⟩;by_cases hw':256<waysIn g
 .rw[cT (by omega)]
  refine bf λv=>kE ?_ v _ dI;unfold fits;rw[bZ (by show¬waysIn g<=256;omega)];rfl
 have hw:waysIn g<=256:=by omega
 rw[bZ (by omega)];have hw2:=hw;rw[Lq]at hw2;have ab8:(iR g g.rules).length<=256:=aG (Tw g g.rules) hw2;refine aY ⟨cM _,λD hD=>?_⟩;have o0:Own (bF mg) H2 (upd H2 D (.lst [])) D []:=Own.new (Sm.refl _) hD;refine λd φ hd hnd=>?_;have s3:=Sm.new (o:=.ext φ) hd;have o1:=o0.mono cY s3;have hd0:H2 d=none:=o0.sm.free hd;have nDd:D≠d:=λe=>by rw[<-e,aA]at hd;cases hd
 have jv:=cZ _ _ _ _ dI hg;have h1b:=aI dH _ _ _ _ s2 h1;refine jq (ms:=g.rules) (R:=bF mg) (λv H3=>ay (bF mg) H2 v g.rules/\H3=upd (upd H2 D (.lst [])) d (.ext φ)) (λQ' k'=>⟨_,rfl,?_⟩) ?_
 .obtain⟨⟨b,dx,ur,e1,e2,e3⟩,_⟩:=jv
  unfold i8;exact⟨b,_,dx,_,_,e1,Sm.at o1.sm e2,T.gX.cls,T.yl,vA _ _,k' _ _ ⟨e3,rfl⟩⟩
 rintro v H3 ⟨hv,rfl⟩;refine⟨λi σ H4=>∃x2 x5,σ=[some u,some (.ref a1),x2,some (.ref D),some (.ref d),x5]/\Own (bF mg) H2 H4 D ((iR g (g.rules.take i)).foldl gg [])/\fJ H4 d (((iR g (g.rules.take i)).foldl gg []).map keyOf),⟨none,none,rfl,o1,hnd⟩,λi σ H4 ⟨_,_,_,o,_⟩=>aI cY _ _ _ _ o.sm hv,?_,?_⟩
 .rintro i y r σ H4 hi hy ⟨x2,x5,rfl,o,nd⟩
  have R:=G.rules r (cE hi);have hsn:=aac hi;have hti:=aad (g:=g) (i:=i+1);rw[hsn,aX,aK]at hti;rw[show((λi σ H4=>∃x2 x5,σ=[some u,some (.ref a1),x2,some (.ref D),some (.ref d),x5]/\Own (bF mg) H2 H4 D ((iR g (g.rules.take i)).foldl gg [])/\fJ H4 d (((iR g (g.rules.take i)).foldl gg []).map keyOf)) (i+1))=(λσ H4=>∃x2 x5,σ=[some u,some (.ref a1),x2,some (.ref D),some (.ref d),x5]/\Own (bF mg) H2 H4 D ((iR g (g.rules.take i)++((variants (nullable g) r.rhs).filter (λv=>!v.isEmpty)).map (jL r.lhs)).foldl gg [])/\fJ H4 d (((iR g (g.rules.take i)++((variants (nullable g) r.rhs).filter (λv=>!v.isEmpty)).map (jL r.lhs)).foldl gg []).map keyOf))by rw[<-hsn]];generalize iR g (g.rules.take i)=ah at o nd hti;refine jq (ms:=variants (nullable g) r.rhs) (R:=m5) (λx H5=>∃a,x=.ref a/\Sm H4 H5/\H4 a=none/\ay m5 H5 x (variants (nullable g) r.rhs)) (λQ' k'=>⟨_,rfl,jo T hy λus dF=>⟨_,rfl,us,r.rhs,_,_,rfl,dF,aI dH _ _ _ _ o.sm h1b,⟨vH R l8,R.cA⟩,λa H5 s5 ha h5=>k' _ _ ⟨a,rfl,s5,ha,by rw[<-QD (n:=g.nons) λk hk=>R.rhs _ hk];exact h5⟩⟩⟩) ?_;rintro x H5 ⟨a5,rfl,s5,ha5,h5⟩;have o5:=o.mono cY s5;have nd5:=fJ.mono s5 nd;have hex:∀b∈[D,d],∃o,H5 b=some o/\rT o:=λb hb=>by
   rcases bq.mp hb with q|q
   .rw[q];obtain⟨vs,e,_⟩:=o5.at_;exact⟨_,e,Z6⟩
   .rw[cF.mp q];obtain⟨ψ,e⟩:=fJ.there nd5;exact⟨_,e,QL⟩
  have na5:a5∉[D,d]:=λq=>by
   rcases bq.mp q with q|q
   .rw[q]at ha5;obtain⟨vs,e,_⟩:=o.at_;rw[e]at ha5;cases ha5
   .rw[cF.mp q]at ha5;obtain⟨ψ,e⟩:=fJ.there nd;rw[e]at ha5;cases ha5
  have hy5:=cY _ _ _ _ s5 hy;refine⟨λj σ H6=>∃x5,σ=[some u,some (.ref a1),some y,some (.ref D),some (.ref d),x5]/\Own (bF mg) H2 H6 D ((ah++(((variants (nullable g) r.rhs).take j).filter (λv=>!v.isEmpty)).map (jL r.lhs)).foldl gg [])/\fJ H6 d (((ah++(((variants (nullable g) r.rhs).take j).filter (λv=>!v.isEmpty)).map (jL r.lhs)).foldl gg []).map keyOf)/\aD [D,d] H5 H6,
   ⟨x5,rfl,by rw[ow];simpa using o5,by rw[ow];simpa using nd5,aD.refl _ _⟩,λj σ H6 ⟨_,_,_,_,sx⟩=>QK (IX IW) hex sx na5 h5,?_,?_⟩
  .rintro j z m σ H6 hj hz ⟨x5,rfl,o6,nd6,f9⟩
   have hle:(((ah++(((variants (nullable g) r.rhs).take j).filter (λv=>!v.isEmpty)).map (jL r.lhs)).foldl gg [])).length<=256:=by
    refine aG (Lr _ _) ?_;have q:(((variants (nullable g) r.rhs).take j).filter (λv=>!v.isEmpty)).length<=((variants (nullable g) r.rhs).filter (λv=>!v.isEmpty)).length:=((List.take_sublist j _).filter _).length_le;rw[aX,aK];show 0+_<=_;omega
   have oi:(ah++(((variants (nullable g) r.rhs).take (j+1)).filter (λv=>!v.isEmpty)).map (jL r.lhs)).foldl gg []=if m.isEmpty then(ah++(((variants (nullable g) r.rhs).take j).filter (λv=>!v.isEmpty)).map (jL r.lhs)).foldl gg []else gg ((ah++(((variants (nullable g) r.rhs).take j).filter (λv=>!v.isEmpty)).map (jL r.lhs)).foldl gg []) (jL r.lhs m):=by
    rw[take_snoc hj,Rr,qK,<-jy,RT];cases m with
    |nil=>rfl
    |cons _ _=>rfl
   generalize (ah++(((variants (nullable g) r.rhs).take j).filter (λv=>!v.isEmpty)).map (jL r.lhs)).foldl gg []=acc at o6 nd6 hle oi;have hy6:bF mg H6 y r:=IY _ _ _ _ _ hex f9 hy5;obtain⟨t,ws,rfl,ht,hws⟩:=hz;refine⟨_,rfl,!ws.isEmpty,.inr (.inl ⟨ws,aM.of ht,rfl⟩),?_⟩;cases m with
   |nil=>
    cases hws;rw[aj (show([]:List Sym).isEmpty=true from rfl)]at oi;refine aY (aY ⟨_,rfl,?_,?_,f9⟩)
    .rw[oi];exact o6
    .rw[oi];exact nd6
   |cons m0 mr=>
    have hwe:ws.isEmpty=false:=by cases hws;rfl
    rw[hwe];rw[ai (show¬((m0::mr).isEmpty=true)from λz=>by cases z)]at oi;have hz6:m5 H6 (.ref t) (m0::mr):=⟨t,ws,rfl,ht,hws⟩;refine bf ⟨_,rfl,kI T hy6 ⟨_,rfl,(by show 2<=sizeLine;decide),λt1 ht1=>⟨_,rfl,d,t1,_,_,rfl,rfl,fJ.mono (Sm.new ht1) nd6,QO aA (n9 _ _ _ _ (Sm.new ht1) hz6),_,rfl,?_⟩⟩⟩;have s7:=Sm.new (o:=.tup [.int (r.lhs:Nat),.ref t]) ht1;have o7:=o6.mono cY s7;have nd7:=fJ.mono s7 nd6;have gp:=f9.trans (Sm.x s7);by_cases hin:jL r.lhs (m0::mr)∈acc
    .rw[cT (IZ.mpr hin)]
     have:gg acc (jL r.lhs (m0::mr))=acc:=aj (Ln.mpr hin);rw[this]at oi;refine aY ⟨_,rfl,?_,?_,gp⟩
     .rw[oi];exact o7
     .rw[oi];exact nd7
    .rw[bZ λz=>hin (IZ.mp z)]
     have:gg acc (jL r.lhs (m0::mr))=acc++[jL r.lhs (m0::mr)]:=ai λz=>hin (Ln.mp z);rw[this]at oi;have lT:=cY _ _ _ _ s7 hy6;refine bf ⟨_,rfl,_,rfl,kI T lT ⟨_,rfl,(by show 2<=sizeLine;decide),λt2 ht2=>?_⟩⟩;have s8:=Sm.new (o:=.tup [.int (r.lhs:Nat),.ref t]) ht2;have o8:=o7.mono cY s8;have nd8:=fJ.mono s8 nd7;have sx8:=gp.trans (Sm.x s8);refine⟨d,t2,_,_,true,rfl,rfl,rfl,nd8,QO aA (n9 _ _ _ _ (s7.trans s8) hz6),λz=>hin (IZ.mp z),by rw[aK,cK];omega,λφ2 nd9=>?_⟩;obtain⟨ψ8,hψ8⟩:=fJ.there nd8;have Ja:∀b∈[d],∃o,upd (upd H6 t1 (.tup [.int (r.lhs:Nat),.ref t])) t2 (.tup [.int (r.lhs:Nat),.ref t]) b=some o/\rT o:=λb hb=>by
      rw[cF.mp hb];exact⟨_,hψ8,QL⟩
     have sxd:aD [d] (upd (upd H6 t1 (.tup [.int (r.lhs:Nat),.ref t])) t2 (.tup [.int (r.lhs:Nat),.ref t])) (upd (upd (upd H6 t1 (.tup [.int (r.lhs:Nat),.ref t])) t2 (.tup [.int (r.lhs:Nat),.ref t])) d (.ext φ2)):=aD.wr (aD.refl _ _) (.inr (cF.mpr rfl)) (by rw[hψ8];trivial) trivial;have o9:Own (bF mg) H2 (upd (upd (upd H6 t1 (.tup [.int (r.lhs:Nat),.ref t])) t2 (.tup [.int (r.lhs:Nat),.ref t])) d (.ext φ2)) D acc:=
      ⟨aD.wr o8.sm (.inl hd0) (by rw[hψ8];trivial) trivial,o8.d0,QK IY Ja sxd (λz=>nDd (cF.mp z)) o8.lst⟩
     have hy9:bF mg _ y r:=IY _ _ _ _ _ Ja sxd (cY _ _ _ _ s8 lT);have hz9:m5 _ (.ref t) (m0::mr):=IX IW _ _ _ _ _ Ja sxd (n9 _ _ _ _ (s7.trans s8) hz6);have sx9:aD [D,d] H5 _:=sx8.trans (sxd.mono λb hb=>bg _ hb);refine⟨_,rfl,o9.ty,_,rfl,kI T hy9 ⟨_,rfl,?_⟩⟩;intro x dx hx hdx bI;refine⟨x,dx,_,_,rfl,aA,rfl,?_⟩;have gK:=CM (C:=adr mg "Rule") (fs:=qy (.int (r.lhs:Nat)) (.ref t)) hx hdx bI;have h10:=aA (H:=upd (upd (upd (upd (upd H6 t1 (.tup [.int (r.lhs:Nat),.ref t])) t2 (.tup [.int (r.lhs:Nat),.ref t])) d (.ext φ2)) dx (.own x)) x (.ins (adr mg "Rule") dx [])) (a:=x) (o:=.ins (adr mg "Rule") dx (qy (.int (r.lhs:Nat)) (.ref t)));generalize upd (upd (upd (upd (upd (upd H6 t1 (.tup [.int (r.lhs:Nat),.ref t])) t2 (.tup [.int (r.lhs:Nat),.ref t])) d (.ext φ2)) dx (.own x)) x (.ins (adr mg "Rule") dx [])) x (.ins (adr mg "Rule") dx (qy (.int (r.lhs:Nat)) (.ref t)))=H10 at gK h10⊢;have o10:=o9.mono cY gK;have aag:=fJ.mono gK nd9;obtain⟨ab9,e10,_⟩:=o10.at_
     refine yw e10 ?_ ?_
     .obtain⟨vs',e',p'⟩:=o10.at_
      rw[e']at e10;cases e10;rw[eW p',cK];omega
     .have xJ:bF mg H10 (.ref x) (jL r.lhs (m0::mr)):=⟨x,dx,.ref t,rfl,h10,n9 _ _ _ _ gK hz9⟩
      obtain⟨vs',e',p'⟩:=o10.at_
      rw[e']at e10;cases e10;have w:=o10.wr ju (AS p' xJ);refine⟨_,rfl,?_,?_,?_⟩
      .rw[oi];exact w.1
      .rw[oi,qK];exact fJ.lst e' aag
      .exact(sx9.trans (Sm.x gK)).trans (w.2.mono λb hb=>by rw[cF.mp hb];exact aZ)
  .rintro σ H6 ⟨x5,rfl,o6,nd6,f9⟩
   rw[ja]at o6 nd6;exact⟨_,_,rfl,o6,nd6⟩
 .rintro σ H4 ⟨x2,x5,rfl,o,nd⟩
  rw[ja]at o;have o:Own (bF mg) H2 H4 D (unnulled g).rules:=o;have s4:=dI.trans o.sm;refine⟨_,rfl,mW o.lst ⟨_,_,rfl,rfl,_,rfl,?_⟩⟩;by_cases hl:(unnulled g).rules.length<=60
  .have hf:fits g=true:=by
    unfold fits;rw[cT (by exact hw),cT (by exact hl)];rfl
   rw[bZ (by omega)];refine aY ⟨_,rfl,gZ T (cZ _ _ _ _ s4 hg) ⟨_,rfl,?_⟩⟩;exact yt λx dx H5 hx s5 h5=>kQ hf _ _ (s4.trans s5) ⟨⟨x,dx,.ref D,rfl,h5,aI cY _ _ _ _ s5 o.lst⟩,(s4.trans s5).tab _ hg.2.1,Lp G hf⟩ (IU h5 (dI.free hD))
  .rw[cT (by omega)]
   refine bf λv=>kE ?_ v _ s4;unfold fits;rw[cT (by exact hw),bZ (by exact hl)];rfl
def rIL(K:Frag):Rep (List Int):=λH v ns=>∃a,v=.ref a/\aU K H a (ns.map V.int)
theorem QT:Mn (rIL K):=λ_ _ _ _ s ⟨a,e,h⟩=>⟨a,e,Sm.FN s (by simp) h⟩
theorem aah(h:ay dG H v ns):rIL K H v ns:=by
 obtain⟨a,vs,e,h1,h2⟩:=h;rw[paired_ints h2]at h1;exact⟨a,e,aU.of h1⟩
theorem QU(o u:V):(jn o u).length<1000:=by
 show(cQ "place" u [("numbers",o)]).length<1000;simp[cQ];split<;>simp
structure eO(K:Frag)(mg:Str->Option Value)(H:Hp)(a:Addr)(u:V)(ns r:List Int):Prop where
 ex:∃dx,∃k:Nat,H a=some (.ins (adr mg "Reader") dx (jn u (.int (k:Nat))))/\k<=ns.length/\rIL K H u ns/\ns.drop k=r
theorem eO.mono{r:List Int}(s:Sm H H')(h:eO K mg H a u ns r):eO K mg H' a u ns r:=by
 obtain⟨dx,k,h1,h2,h3,h4⟩:=h.ex;exact⟨dx,k,Sm.at s h1,h2,QT _ _ _ _ s h3,h4⟩
theorem Jb{fs':List (Str×V)}(ha:H a=some (.ins C dx fs))(h:aU K H b xs):aU K (upd H a (.ins C dx fs')) b xs:=by
 rcases h with(h|⟨o,h⟩)|h
 .exact .inl (.inl (by rw[aJ (sS h ha (by intro z;cases z))];exact h))
 .exact .inl (.inr ⟨o,by rw[aJ (sS h ha (by intro z;cases z))];exact h⟩)
 .exact .inr h
theorem yV{fs':List (Str×V)}(ha:H a=some (.ins C dx fs)):aD [a] H (upd H a (.ins C dx fs')):=aD.wr (aD.refl [a] H) (.inr (cF.mpr rfl)) (by rw[ha];trivial) trivial
theorem aai:aP ["self","numbers"] ["self","numbers"] (aC Gz):=aV
def aaj(mg:Str->Option Value):Sp:=λvs H Q _=>∃(x dx:Addr) (u:V),vs=[.ref x,u]/\H x=some (.ins (adr mg "Reader") dx [])/\Q .non (upd H x (.ins (adr mg "Reader") dx (jn u (.int 0))))
theorem QV(T:Txt K mg)(B:Bs K mg base tb):cH P w K mg base eB 1 (dX K (adr mg "Reader") "__init__") (fdOf K (dX K (adr mg "Reader") "__init__")) ["self","numbers"] (aaj mg):=by
 refine T.fu.fn.ok aai (λ_ _ _ _ ⟨_,_,_,e,_⟩=>by rw[e];rfl) (λcdv A outer s H vs Q E hr h=>?_);obtain⟨x,dx,u,rfl,hx,k⟩:=h;refine⟨_,(aq (qd (pv 0) (pv 1) rfl)
   (az (qd (pv 0) bK rfl))),?_⟩
 refine⟨_,rfl,_,rfl,x,_,dx,_,rfl,hx,T.fu.cls,T.B0,(by show 0<1000;decide),_,rfl,x,_,dx,_,rfl,aA,T.fu.cls,T.tR,(by show 1<1000;decide),?_⟩;rw[xj];exact k
theorem aak:aP ["self"] ["self"] (aC GA):=aV
def aal(K:Frag)(mg:Str->Option Value):Sp:=λvs H Q _=>∃a u ns r,vs=[.ref a]/\eO K mg H a u ns r/\Q (.bl r.isEmpty) H
theorem Jc(T:Txt K mg)(B:Bs K mg base tb):cH P w K mg base eB 1 (dX K (adr mg "Reader") "at_end") (fdOf K (dX K (adr mg "Reader") "at_end")) ["self"] (aal K mg):=by
 refine T.tS.fn.ok aak (λ_ _ _ _ ⟨_,_,_,_,e,_⟩=>by rw[e];rfl) (λcdv A outer s H vs Q E hr h=>?_);obtain⟨a,u,ns,r,rfl,⟨dx,k,h1,h2,⟨b,rfl,h3⟩,h4⟩,q⟩:=h;refine⟨_,(az (aH (lA oQ (aO (K:=K) rfl (pv 0) rfl) (fF j4 (by rfl) T.jY kU (aa (aO (K:=K) rfl (pv 0) rfl) af)) (eK _)))),?_⟩;refine⟨_,rfl,?_⟩;unfold i8 tT;refine⟨a,_,dx,_,_,rfl,h1,T.fu.cls,T.tR,tU _ _,_,rfl,a,_,dx,_,_,rfl,h1,T.fu.cls,T.B0,Hj _ _,b,_,rfl,.inl h3,rfl,?_⟩;rw[aK,vJ];have e:r.isEmpty=(k==ns.length):=by
  rw[<-h4];by_cases c:k=ns.length
  .rw[c,qQ,oq];rfl
  .rw[ni.mpr c]
   have:(ns.drop k).length≠0:=by rw[pN];omega
   cases q:ns.drop k with
   |nil=>rw[q]at this;exact absurd rfl this
   |cons _ _=>rfl
 rw[<-e];exact q
theorem QW:aP ["self","number"] ["self"] (aC GB):=aV
def aam(K:Frag)(mg:Str->Option Value):Sp:=λvs H Q _=>∃a u ns x r,vs=[.ref a]/\eO K mg H a u ns (x::r)/\∀H',aD [a] H H'->eO K mg H' a u ns r->Q (.int x) H'
theorem drop_cons{α:Type}{l:List α}{x:α}{r:List α}(h:l.drop k=x::r):l[k]?=some x/\l.drop (k+1)=r/\k+1<=l.length:=by
 have hk:k<l.length:=by
  by_cases c:k<l.length
  .exact c
  .rw[ab5 (by omega)]at h;cases h
 rw[sj hk]at h;injection h with h1 h2
 exact⟨by rw[bO hk,h1],h2,hk⟩
theorem Jd(T:Txt K mg)(B:Bs K mg base tb):cH P w K mg base eB 1 (dX K (adr mg "Reader") "next_number") (fdOf K (dX K (adr mg "Reader") "next_number")) ["self"] (aam K mg):=by
 refine T.lK.fn.ok QW (λ_ _ _ _ ⟨_,_,_,_,_,e,_⟩=>by rw[e];rfl) (λcdv A outer s H vs Q E hr h=>?_);obtain⟨a,u,ns,x,r,rfl,⟨dx,k,h1,h2,⟨b,rfl,h3⟩,h4⟩,q⟩:=h;obtain⟨g1,g2,g3⟩:=drop_cons h4;refine⟨_,(aq (aN (i:=1) QW.nd rfl (Or.inl rfl) (bD (r:=bX K) dW (aO (K:=K) rfl (pv 0) rfl) (aO (K:=K) rfl (pv 0) rfl) (λ_ _=>rfl)))
   (aq (LX (pv 0) bK LY)
   (az (aH (pv 1))))),?_⟩
 refine⟨_,rfl,?_⟩;unfold i8 bX;refine⟨a,_,dx,_,_,rfl,h1,T.fu.cls,T.B0,Hj _ _,_,rfl,a,_,dx,_,_,rfl,h1,T.fu.cls,T.tR,tU _ _,b,_,_,.int x,rfl,rfl,h3,xC (by rw[fK,g1];rfl),?_⟩;refine⟨_,rfl,a,_,dx,_,_,rfl,h1,T.fu.cls,T.tR,tU _ _,_,_,rfl,rfl,dx,_,h1,QU _ _,?_⟩;rw[O8];refine⟨_,rfl,q _ (yV h1) ⟨dx,k+1,?_,g3,⟨b,rfl,Jb h1 h3⟩,g2⟩⟩;rw[aA];rfl
theorem Je:aP ["self","length","begin"] ["self"] (aC GC):=aV
def aan(K:Frag)(mg:Str->Option Value):Sp:=λvs H Q _=>∃a u ns m r,vs=[.ref a]/\eO K mg H a u ns (m::r)/\0<=m/\m.toNat<=r.length/\∀p H',aD [a] H H'->H p=none->ay dG H' (.ref p) (r.take m.toNat)->eO K mg H' a u ns (r.drop m.toNat)->Q (.ref p) H'
theorem aao(xs:List V)(k m:Nat)(h:k+m<=xs.length):mK xs (some (k:Int)) (some ((k+m:Nat):Int))=(xs.drop k).take m:=by
 unfold mK;rw[HT.uX,HT.uX,JV h,JV (show k<=xs.length by omega),Nat.add_sub_cancel_left]
theorem aap(T:Txt K mg)(B:Bs K mg base tb):cH P w K mg base eB 2 (dX K (adr mg "Reader") "next_row") (fdOf K (dX K (adr mg "Reader") "next_row")) ["self"] (aan K mg):=by
 have Jf:=Jd (P:=P) (w:=w) T B;refine T.Hg.fn.ok Je (λ_ _ _ _ ⟨_,_,_,_,_,e,_⟩=>by rw[e];rfl) (λcdv A outer s H vs Q E hr h=>?_);obtain⟨a,u,ns,m,r,rfl,hR,hm0,hml,q⟩:=h;obtain⟨mn,rfl⟩:∃mn:Nat,m=(mn:Int):=⟨m.toNat,by omega⟩;rw[oz]at hml q;refine⟨_,(aq (aN (i:=1) Je.nd rfl (Or.inl rfl) (oU (pv 0) T.fu.cls T.lK.me Jf (hr.mono (by decide)) T.lK.bd .nil fP))
   (aq (aN (i:=2) Je.nd rfl (Or.inl rfl) (aO (K:=K) rfl (pv 0) rfl))
   (aq (LX (pv 0) (pv 1) LY)
   (az (aH (Au VG (aO (K:=K) rfl (pv 0) rfl) (xB (pv 2)) (xB (aO (K:=K) rfl (pv 0) rfl)))))))),?_⟩
 obtain⟨dx0,k0,e0,_⟩:=hR.ex;refine⟨_,rfl,a,dx0,_,rfl,e0,lN _ _ (by decide+kernel) (by decide+kernel),a,_,_,_,r,rfl,hR,λH1 cB gC=>?_⟩;obtain⟨dx,k,h1,h2,⟨b,rfl,h3⟩,h4⟩:=gC.ex;refine⟨_,rfl,?_⟩;unfold i8;refine⟨a,_,dx,_,_,rfl,h1,T.fu.cls,T.tR,tU _ _,_,rfl,a,_,dx,_,_,rfl,h1,T.fu.cls,T.tR,tU _ _,_,rfl,_,_,rfl,rfl,dx,_,h1,QU _ _,?_⟩;rw[O8];have hlen:k+mn<=(ns.map V.int).length:=by
  rw[<-h4,pN]at hml;rw[aK];omega
 refine⟨_,rfl,a,_,dx,_,_,rfl,aA,T.fu.cls,T.B0,Hj _ _,_,rfl,_,rfl,_,rfl,a,_,dx,_,_,rfl,aA,T.fu.cls,T.tR,tU _ _,_,rfl,b,_,rfl,Jb h1 h3,λp hp=>?_⟩;rw[show((k:Nat):Int)+((mn:Nat):Int)=((k+mn:Nat):Int)by omega,aao _ _ _ hlen];rw[show((k:Nat):Int)+((mn:Nat):Int)=((k+mn:Nat):Int)by omega]at hp;have s2:=Sm.new (o:=.lst (((ns.map V.int).drop k).take mn)) hp;have eS:aD [a] H _:=(cB.trans (yV h1 (fs':=jn (.ref b) (.int ((k+mn:Nat):Int))))).trans (Sm.x s2);refine q p _ eS (cB.free (yV (fs':=jn (.ref b) (.int ((k+mn:Nat):Int))) h1 |>.free hp)) ⟨p,_,rfl,aA,?_⟩ ⟨dx,k+mn,Sm.at s2 aA,by rw[aK]at hlen;exact hlen,⟨b,rfl,Sm.FN s2 (by simp) (Jb h1 h3)⟩,?_⟩
 .rw[<-List.map_drop,<-List.map_take,h4]
  exact Nu _
 .rw[<-h4,List.drop_drop]
abbrev gb(l:List Nat):List Int:=l.map λn:Nat=>(n:Int)
abbrev NG(mg:Str->Option Value):Value:=.ref (adr mg "NoGrammarRow")
def aaq(K:Frag)(mg:Str->Option Value):Sp:=λvs H Q E=>∃(a:Addr) (u:V) (ns:List Int) (r:List Nat) (lo hi:Nat),vs=[.ref a,.int (lo:Nat),.int (hi:Nat)]/\eO K mg H a u ns (gb r)/\(∀x r',dh lo hi r=some (x,r')->∀H',aD [a] H H'->eO K mg H' a u ns (gb r')->Q (.int (x:Nat)) H')/\(dh lo hi r=none->∀v H',aD [a] H H'->E v none H')
theorem QX:aP ["reader","lowest","highest","number"] ["reader","lowest","highest"] (aC GD):=aV
theorem Jg(T:Txt K mg)(B:Bs K mg base tb):cH P w K mg base (CXX P w (NG mg)) 2 (adr mg "number_within") (fdOf K (adr mg "number_within")) ["reader","lowest","highest"] (aaq K mg):=by
 have yW:=Jc (P:=P) (w:=w) T B;have Jf:=Jd (P:=P) (w:=w) T B;refine T.qx.fn.okX QX (λ_ _ _ _ ⟨_,_,_,_,_,_,e,_⟩=>by rw[e];rfl) (λcdv A outer s H vs Q E hr h=>?_);obtain⟨a,u,ns,r,lo,hi,rfl,hR,kQ,kE⟩:=h;refine⟨_,(aq (cN (di (oU (pv 0) T.fu.cls T.tS.me yW (hr.mono (by decide)) T.tS.bd .nil fP)) (az (xS rfl rfl T.rK.gl T.rK.ex (λ_ _ h=>rE h))) cP)
   (aq (aN (i:=3) QX.nd rfl (Or.inl rfl) (oU (pv 0) T.fu.cls T.lK.me Jf (hr.mono (by decide)) T.lK.bd .nil fP))
   (aq (cN (FW (fE An (pv 3) (pv 1) (eK _)) (fE xy (pv 3) (pv 2) (eK _))) (az (xS rfl rfl T.rK.gl T.rK.ex (λ_ _ h=>rE h))) cP)
   (az (aH (pv 3)))))),?_⟩
 obtain⟨dx0,k0,e0,_⟩:=hR.ex;refine⟨_,rfl,a,dx0,_,rfl,e0,lN _ _ (by decide+kernel) (by decide+kernel),a,_,_,_,rfl,hR,_,rfl,?_⟩;cases r with
 |nil=>exact bf λv=>kE rfl v _ (aD.refl _ _)
 |cons x r=>
  have hR:eO K mg H a u ns (((x:Nat):Int)::gb r):=hR;refine aY ⟨_,rfl,a,dx0,_,rfl,e0,lN _ _ (by decide+kernel) (by decide+kernel),a,_,_,_,_,rfl,hR,λH1 cB gC=>?_⟩;refine⟨_,rfl,_,rfl,_,_,rfl,rfl,_,rfl,?_⟩;by_cases c1:x<lo
  .rw[cT (by omega)]
   refine bf (bf λv=>kE ?_ v _ cB);show(if lo<=x/\x<=hi then _ else _)=_;rw[ai (by omega)]
  .rw[bZ (by omega)]
   refine aY ⟨_,rfl,_,rfl,_,_,rfl,rfl,_,rfl,?_⟩;by_cases c2:hi<x
   .rw[cT (by omega)]
    refine bf λv=>kE ?_ v _ cB;show(if lo<=x/\x<=hi then _ else _)=_;rw[ai (by omega)]
   .rw[bZ (by omega)]
    refine aY ⟨_,rfl,kQ x r ?_ _ cB gC⟩;show(if lo<=x/\x<=hi then _ else _)=_;rw[aj (by omega)]
def QY{β:Type}(K:Frag)(mg:Str->Option Value)(R:Rep β)(f:Nat->List Nat->Option (β×List Nat)):Sp:=λvs H Q E=>∃(a:Addr) (u:V) (ns:List Int) (r:List Nat) (n:Nat),vs=[.ref a,.int (n:Nat)]/\eO K mg H a u ns (gb r)/\0<n/\(∀y r',f n r=some (y,r')->∀v H',aD [a] H H'->eO K mg H' a u ns (gb r')->R H' v y->Q v H')/\(f n r=none->∀v H',aD [a] H H'->E v none H')
theorem CN:aP ["reader","size","kind","lo","hi"] ["reader","size"] (aC GF):=aV
theorem aar(T:Txt K mg)(B:Bs K mg base tb):cH P w K mg base (CXX P w (NG mg)) 3 (adr mg "read_symbol") (fdOf K (adr mg "read_symbol")) ["reader","size"] (QY K mg bz fV):=by
 have pD:=Jg (P:=P) (w:=w) T B;refine T.Oz.fn.okX CN (λ_ _ _ _ ⟨_,_,_,_,_,e,_⟩=>by rw[e];rfl) (λcdv A outer s H vs Q E hr h=>?_);obtain⟨a,u,ns,r,n,rfl,hR,hn,kQ,kE⟩:=h;refine⟨_,(aq (aN (i:=2) CN.nd rfl (Or.inl rfl) (lM T.qx pD hr lH (aa (pv 0) (aa (bB T.yh) (aa (bB T.N8) af)))))
   (aq (cN (fE oQ (pv 2) (bB T.yh) (eK _)) (az (aH (gJ (aa (bB T.yh) (aa (lM T.qx pD hr lH (aa (pv 0) (aa bK (aa (gj LI (pv 1) bK) af)))) af))))) cP)
   (aq (aN (i:=3) CN.nd rfl (Or.inl rfl) (lM T.qx pD hr lH (aa (pv 0) (aa bK (aa (bB T.Oa) af)))))
   (aq (aN (i:=4) CN.nd rfl (Or.inl rfl) (lM T.qx pD hr lH (aa (pv 0) (aa (pv 3) (aa (bB T.Oa) af)))))
   (az (aH (gJ (aa (bB T.N8) (aa (pv 3) (aa (pv 4) af)))))))))),?_⟩
 refine⟨_,rfl,a,u,ns,r,0,1,rfl,hR,λx r1 e1 H1 cB gC=>?_,λe1 v H1 cB v'=>kE ?_ v' _ cB⟩
 .refine⟨_,rfl,rfl,_,rfl,?_⟩
  rw[show(V.int 0)=V.int ((0:Nat):Int)from rfl,vJ];by_cases c:x=0
  .rw[pK.mpr c]
   refine bf ⟨_,rfl,_,rfl,_,_,rfl,rfl,a,u,ns,r1,0,n-1,?_,gC,λy r2 e2 H2 eS jJ=>⟨(by show 2<=sizeLine;decide),λp hp=>?_⟩,λe2 v H2 eS v'=>kE ?_ v' _ (cB.trans eS)⟩
   .show[V.ref a,V.int 0,V.int ((n:Int)-1)]=_
    rw[show((n:Int)-1)=((n-1:Nat):Int)by omega];rfl
   .have s3:=Sm.new (o:=.tup [.int 0,.int (y:Nat)]) hp
    refine kQ (.non y) r2 ?_ _ _ ((cB.trans eS).trans (Sm.x s3)) (jJ.mono s3) ⟨p,rfl,aA⟩;unfold fV;rw[e1];show(if x=0 then _ else _)=_;rw[aj c,e2]
   .unfold fV
    rw[e1];show(if x=0 then _ else _)=_;rw[aj c,e2]
  .rw[ni.mpr c]
   refine aY ⟨_,rfl,a,u,ns,r1,0,255,rfl,gC,λlo r2 e2 H2 eS jJ=>?_,λe2 v H2 eS v'=>kE ?_ v' _ (cB.trans eS)⟩
   .refine⟨_,rfl,_,rfl,a,u,ns,r2,lo,255,rfl,jJ,λhi r3 e3 H3 fS iJ=>?_,λe3 v H3 fS v'=>kE ?_ v' _ ((cB.trans eS).trans fS)⟩
    .refine⟨_,rfl,_,rfl,(by show 3<=sizeLine;decide),λp hp=>?_⟩
     have s4:=Sm.new (o:=.tup [.int 1,.int (lo:Nat),.int (hi:Nat)]) hp;refine kQ (.range lo hi) r3 ?_ _ _ (((cB.trans eS).trans fS).trans (Sm.x s4)) (iJ.mono s4) ⟨p,rfl,aA⟩;unfold fV;rw[e1];show(if x=0 then _ else _)=_;rw[ai c,e2];show(match dh lo 255 r2 with|none=>none|some (hi,r)=>some (Sym.range lo hi,r))=_;rw[e3]
    .unfold fV
     rw[e1];show(if x=0 then _ else _)=_;rw[ai c,e2];show(match dh lo 255 r2 with|none=>none|some (hi,r)=>some (Sym.range lo hi,r))=_;rw[e3]
   .unfold fV
    rw[e1];show(if x=0 then _ else _)=_;rw[ai c,e2]
 .unfold fV
  rw[e1]
theorem QZ{β:Type}{R:Rep β}(mR:Mn R)(lR:∀D H y b xs ys,H D=some (.lst xs)->R H y b->R (upd H D (.lst ys)) y b){f:List Nat->Option (β×List Nat)}(sR:∀H H' v y,aD [a] H H'->(∃C dx fs,H a=some (.ins C dx fs))->R H v y->R H' v y){ta:TA}{te:TE}{vs:List Nat}{r:List Nat}{Ex:Hp->Prop}(h:∀Q':List V->Hp->Prop,Q' [.int (n:Nat)] H->ta σ H Q')(hn:n<=1000)(hw:∀x,wipe ((wipe σ vs).set i x) vs=wipe σ vs)(hR:eO K mg H a u ns (gb r))(hs:∀(x:V) (H1:Hp) (r1:List Nat) (Qe:VK),eO K mg H1 a u ns (gb r1)->(∀y r',f r1=some (y,r')->∀v H',aD [a] H1 H'->eO K mg H' a u ns (gb r')->R H' v y->Qe v H')->(f r1=none->∀H',aD [a] H1 H'->Ex H')->te ((wipe σ vs).set i (some x)) H1 Qe)(hd:∀D ys r' H',H D=none->gh f n r=some (ys,r')->aD [a] H H'->eO K mg H' a u ns (gb r')->ay R H' (.ref D) ys->Q (.ref D) H')(hx:gh f n r=none->∀H',aD [a] H H'->Ex H'):
  gA (Ak ta) (lz i) u6 te vs σ H Q:=by
 unfold gA;refine h _ ⟨(n:Int),rfl,by omega,by omega,λD hD=>?_⟩;rw[oz];refine Fj (λj H2=>∃(ys:List β) (r2:List Nat) (zs:List V),H2 D=some (.lst zs)/\Paired (R H2) zs ys/\ys.length=j/\aD [a] H H2/\eO K mg H2 a u ns (gb r2)/\gh f n r=(match gh f (n-j) r2 with|some (rest,r')=>some (ys++rest,r')|none=>none)) ⟨[],r,[],aA,.nil,rfl,Sm.x (Sm.new hD),hR.mono (Sm.new hD),?_⟩ (λj H2 hj p=>?_) λH2 ⟨ys,r2,zs,p1,p2,p3,p4,p5,p6⟩=>?_
 .rw[JC]
  cases gh f n r with
  |none=>rfl
  |some p=>rfl
 .obtain⟨ys,r2,zs,p1,p2,p3,p4,p5,p6⟩:=p
  have hnj:n-j=(n-(j+1))+1:=by omega
  rw[hnj,Ew]at p6;have nDa:D≠a:=λz=>by
   obtain⟨dx,k,e,_⟩:=p5.ex;rw[<-z,p1]at e;cases e
  have haI:∃C dx fs,H2 a=some (.ins C dx fs):=let⟨dx,k,e,_⟩:=p5.ex;⟨_,dx,_,e⟩
  refine⟨hw _,jr (hs _ H2 r2 _ p5 (λy r' e v H3 fS iJ hv=>?_) λe H3 fS=>?_)⟩
  .have e3:H3 D=some (.lst zs):=fS.at p1 (λz=>nDa (cF.mp z))
   have pl:=eW p2;refine⟨zs,e3,by rw[pl,p3,cK];omega,ys++[y],r',zs++[v],aA,?_,by rw[aX,p3];rfl,?_,?_,?_⟩
   .exact AS (gW (λ_ _ q=>lR _ _ _ _ _ _ e3 (sR _ _ _ _ fS haI q)) p2) (lR _ _ _ _ _ _ e3 hv)
   .exact aD.wr (p4.trans fS) (.inl hD) (by rw[e3];trivial) trivial
   .obtain⟨dx,k,q1,q2,⟨b,q3,q4⟩,q5⟩:=iJ.ex
    obtain⟨_,_,_,_,⟨b',w3,w4⟩,_⟩:=hR.ex;rw[q3]at w3;cases w3;refine⟨dx,k,by rw[aJ (λz=>nDa z.symm)];exact q1,q2,⟨b,q3,?_⟩,q5⟩;have onD:∀o,H b=some o->b≠D:=λo ho=>fN ho hD;have yX:b≠D->aU K (upd H3 D (.lst (zs++[v]))) b (ns.map V.int):=λnb=>by
     rcases q4 with(q|⟨o,q⟩)|q
     .exact .inl (.inl (by rw[aJ nb];exact q))
     .exact .inl (.inr ⟨o,by rw[aJ nb];exact q⟩)
     .exact .inr q
    rcases w4 with(q|⟨o,q⟩)|q
    .exact yX (onD _ q)
    .exact yX (onD _ q)
    .exact .inr q
   .rw[p6,e]
    dsimp only;cases gh f (n-(j+1)) r' with
    |none=>rfl
    |some p=>simp
  .refine hx ?_ H3 (p4.trans fS)
   rw[p6,e]
 .rw[C4]at p6
  have p6:gh f n r=some (ys++[],r2):=p6;rw[fW]at p6;exact hd D ys r2 H2 hD p6 p4 p5 ⟨D,zs,rfl,p1,p2⟩
theorem Jh(H H':Hp)(v:V)(y:Sym)(s:aD [a] H H')(h:∃C dx fs,H a=some (.ins C dx fs))(q:bz H v y):bz H' v y:=by
 obtain⟨C,dx,fs,h⟩:=h;obtain⟨b,e,hb⟩:=q;exact⟨b,e,s.at hb λz=>by rw[cF.mp z,h]at hb;cases hb⟩
theorem Q0{α:Type}{R:Rep α}(hR:∀H H' v y,aD [a] H H'->(∃C dx fs,H a=some (.ins C dx fs))->R H v y->R H' v y)(H H':Hp)(v:V)(y:List α)(s:aD [a] H H')(h:∃C dx fs,H a=some (.ins C dx fs))(q:bH R H v y):bH R H' v y:=by
 obtain⟨b,vs,e,hb,p⟩:=q;refine⟨b,vs,e,s.at hb λz=>?_,gW (λ_ _ q=>hR _ _ _ _ s h q) p⟩;obtain⟨C,dx,fs,h⟩:=h;rw[cF.mp z,h]at hb;cases hb
def yY(mg:Str->Option Value)(a:Addr):Rep Rule:=λH v r=>bF mg H v r/\v≠ .ref a
theorem aas(H H':Hp)(v:V)(y:Rule)(s:aD [a] H H')(h:∃C dx fs,H a=some (.ins C dx fs))(q:yY mg a H v y):yY mg a H' v y:=by
 obtain⟨⟨b,dx,u,e,hb,p⟩,n⟩:=q;exact⟨⟨b,dx,u,e,s.at hb λz=>n (by rw[e,cF.mp z]),Q0 Jh _ _ _ _ s h p⟩,n⟩
theorem aat:Mn (yY mg a):=λ_ _ _ _ s ⟨h,n⟩=>⟨cY _ _ _ _ s h,n⟩
theorem yZ:aP ["reader","size","owner","length","symbols","place"] ["reader","size"] (aC Bq):=aV
theorem aau(T:Txt K mg)(B:Bs K mg base tb):cH P w K mg base (CXX P w (NG mg)) 4 (adr mg "read_rule") (fdOf K (adr mg "read_rule")) ["reader","size"] (λvs H Q E=>∃a,QY K mg (yY mg a) jg vs H Q E/\∃us,vs=.ref a::us):=by
 have pD:=Jg (P:=P) (w:=w) T B;have yU:=Hw (P:=P) (w:=w) T B;have aav:=aar (P:=P) (w:=w) T B;refine T.OA.fn.okX yZ (λ_ _ _ _ ⟨_,⟨_,_,_,_,_,e,_⟩,_⟩=>by rw[e];rfl) (λcdv A outer s H vs Q E hr h=>?_);obtain⟨a,⟨b,u,ns,r,n,rfl,hR,hn,kQ,kE⟩,_,e⟩:=h;cases e;refine⟨_,(aq (aN (i:=2) yZ.nd rfl (Or.inl rfl) (lM T.qx pD hr lH (aa (pv 0) (aa bK (aa (gj LI (pv 1) bK) af)))))
   (aq (aN (i:=3) yZ.nd rfl (Or.inl rfl) (lM T.qx pD hr lH (aa (pv 0) (aa bK (aa (bB T.XT) af)))))
   (aq (Nl (i:=4) (own:=[("place",5)]) rfl yZ.nd rfl rfl (nR rfl rfl rfl rfl) (jR rfl T.jZ (aa (pv 3) af)) (eu (N:=["reader","size","owner","length","symbols","place"]) (sc:=aC Bq) (by decide+kernel)) (λs H C cl fp=>(bh (i:=5) yZ.nd rfl (Or.inl rfl))) (λs H C cl fp=>fZ) ⟨_,_,_,rfl,rfl,rfl⟩ (λ_ _ h=>rE h) (λs H C cl fp=>(lM T.Oz aav hr lH (aa (pv 0) (aa (pv 1) af)))))
   (az (aH (qf T.kG.mk_ yU (hr.mono (by decide)) rfl T.kG.gl T.kG.bd .nil fP (aa (pv 2) (aa (Ar O4 (by rfl) T.Oi boot_tuple (aa (pv 4) af)) af)))))))),?_⟩
 refine⟨_,rfl,_,rfl,_,_,rfl,rfl,a,u,ns,r,0,n-1,?_,hR,λx r1 e1 H1 cB gC=>?_,λe1 v H1 cB v'=>kE ?_ v' _ cB⟩
 .show[V.ref a,V.int 0,V.int ((n:Int)-1)]=_
  rw[show((n:Int)-1)=((n-1:Nat):Int)by omega];rfl
 .refine⟨_,rfl,a,u,ns,r1,0,8,rfl,gC,λm r2 e2 H2 eS jJ=>?_,λe2 v H2 eS v'=>kE ?_ v' _ (cB.trans eS)⟩
  .have hm:=p9 e2
   have vS:=cB.trans eS;refine QZ bC (λD=>jI mX D) (f:=fV n) Jh (Ex:=λH'=>∀v,E v none H') (n:=m) (λQ' k'=>⟨_,rfl,k'⟩) (by omega) (λ_=>rfl) jJ (λx H3 r3 Qe iJ k1 k2=>?_) (λD ys r4 H3 hD e3 fS iJ hl=>?_) λe3 H3 fS v=>kE ?_ v _ (vS.trans fS)
   .exact⟨_,rfl,_,rfl,a,u,ns,r3,n,rfl,iJ,hn,λy r' e v H' sx hR' hv=>k1 y r' e v H' sx hR' hv,λe v H' sx=>k2 e H' sx⟩
   .refine⟨_,rfl,_,rfl,Pe bC hl λut H4 s4 ht=>?_⟩
    refine yt λx' dx H5 hx s5 h5=>?_;have haI:∃o,H4 a=some o:=let⟨_,_,e,_⟩:=(iJ.mono s4).ex;⟨_,e⟩
    refine kQ {lhs:=x,rhs:=ys} r4 ?_ _ _ (((vS.trans fS).trans (Sm.x s4)).trans (Sm.x s5)) ((iJ.mono s4).mono s5) ⟨⟨x',dx,ut,rfl,h5,jE bC _ _ _ _ s5 ht⟩,λz=>?_⟩
    .unfold jg
     rw[e1];dsimp only;rw[e2];dsimp only;rw[e3]
    .cases z
     obtain⟨o,e⟩:=haI;rw[hx]at e;cases e
   .unfold jg
    rw[e1];dsimp only;rw[e2];dsimp only;rw[e3]
  .unfold jg
   rw[e1];dsimp only;rw[e2]
 .unfold jg
  rw[e1]
theorem vU:aP ["row","reader","size","length","rules","place"] ["row"] (aC Br):=aV
def aaw(K:Frag)(mg:Str->Option Value)(tb:Addr):Sp:=λvs H Q E=>∃(u:V) (l:List Nat),vs=[u]/\rIL K H u (gb l)/\TabAt tb H/\(∀g,ki l=some g->∀v H',Sm H H'->cR mg tb H' v g->vR H H' v->Q v H')/\(ki l=none->∀v H',Sm H H'->E v none H')
theorem aax(T:Txt K mg)(B:Bs K mg base tb):cH P w K mg base (CXX P w (NG mg)) 5 (adr mg "grammar_from_row") (fdOf K (adr mg "grammar_from_row")) ["row"] (aaw K mg tb):=by
 have Ji:=QV (P:=P) (w:=w) T B;have pD:=Jg (P:=P) (w:=w) T B;have uq:=Cb (P:=P) (w:=w) T B;have aay:=aau (P:=P) (w:=w) T B;have yW:=Jc (P:=P) (w:=w) T B;refine T.OB.fn.okX vU (λ_ _ _ _ ⟨_,_,e,_⟩=>by rw[e];rfl) (λcdv A outer s H vs Q E hr h=>?_);obtain⟨u,l,rfl,hu,Jj,kQ,kE⟩:=h;refine⟨_,(aq (aN (i:=1) vU.nd rfl (Or.inr rfl) (qf T.fu.mk_ Ji (hr.mono (by decide)) rfl T.fu.gl T.fu.bd .nil fP (aa (pv 0) af)))
   (aq (aN (i:=2) vU.nd rfl (Or.inr rfl) (lM T.qx pD hr lH (aa (pv 1) (aa bK (aa (bB T.XS) af)))))
   (aq (aN (i:=3) vU.nd rfl (Or.inl rfl) (lM T.qx pD hr lH (aa (pv 1) (aa bK (aa (bB T.N9) af)))))
   (aq (Nl (i:=4) (own:=[("place",5)]) rfl vU.nd rfl rfl (nR rfl rfl rfl rfl) (jR rfl T.jZ (aa (pv 3) af)) (eu (N:=["row","reader","size","length","rules","place"]) (sc:=aC Br) (by decide+kernel)) (λs H C cl fp=>(bh (i:=5) vU.nd rfl (Or.inl rfl))) (λs H C cl fp=>fZ) ⟨_,_,_,rfl,rfl,rfl⟩ (λ_ _ h=>rE h) (λs H C cl fp=>(lM T.OA aay hr lH (aa (pv 1) (aa (pv 2) af)))))
   (aq (cN (sV (di (oU (pv 1) T.fu.cls T.tS.me yW (hr.mono (by decide)) T.tS.bd .nil fP))) (az (xS rfl rfl T.rK.gl T.rK.ex (λ_ _ h=>rE h))) cP)
   (az (aH (qf T.gX.mk_ uq (hr.mono (by decide)) rfl T.gX.gl T.gX.bd .nil fP (aa (pv 2) (aa (pv 4) af)))))))))),?_⟩
 refine⟨_,rfl,?_⟩;intro a dx ha hdx bI;refine⟨a,dx,_,rfl,aA,rfl,?_⟩;have s0:=CM (C:=adr mg "Reader") (fs:=jn u (.int 0)) ha hdx bI;have hR0:eO K mg _ a u (gb l) (gb l):=⟨dx,0,aA (H:=upd (upd H dx (.own a)) a (.ins (adr mg "Reader") dx [])),cM _,QT _ _ _ _ s0 hu,rfl⟩;generalize upd (upd (upd H dx (.own a)) a (.ins (adr mg "Reader") dx [])) a (.ins (adr mg "Reader") dx (jn u (.int 0)))=H0 at s0 hR0⊢;have low:∀{H'},aD [a] H0 H'->Sm H H':=λsx=>aD.lt (s0.x.trans sx) λb hb=>by rw[cF.mp hb];exact .inl ha
 refine⟨_,rfl,a,u,_,l,1,20,rfl,hR0,λn r1 e1 H1 cB gC=>?_,λe1 v H1 cB v'=>kE ?_ v' _ (low cB)⟩
 .have hn:=p9 e1
  refine⟨_,rfl,a,u,_,r1,0,60,rfl,gC,λm r2 e2 H2 eS jJ=>?_,λe2 v H2 eS v'=>kE ?_ v' _ (low (cB.trans eS))⟩
  .have hm:=p9 e2
   have vS:=cB.trans eS;refine QZ (R:=yY mg a) aat (λD H y b xs ys hl q=>⟨jI ju D _ _ _ _ _ hl q.1,q.2⟩) (f:=jg n) aas (Ex:=λH'=>∀v,E v none H') (n:=m) (λQ' k'=>⟨_,rfl,k'⟩) (by omega) (λ_=>rfl) jJ (λx H3 r3 Qe iJ k1 k2=>?_) (λD ys r4 H3 hD e3 fS iJ hl=>?_) λe3 H3 fS v=>kE ?_ v _ (low (vS.trans fS))
   .exact⟨_,rfl,_,rfl,a,⟨a,u,_,r3,n,rfl,iJ,by omega,λy r' e v H' sx hR' hv=>k1 y r' e v H' sx hR' hv,λe v H' sx=>k2 e H' sx⟩,_,rfl⟩
   .have kg:ay (bF mg) H3 (.ref D) ys:=let⟨d',zs,e,h1,h2⟩:=hl;⟨d',zs,e,h1,gW (λ_ _ q=>q.1) h2⟩
    have hG:ki l=if r4=[]then some {nons:=n,rules:=ys}else none:=by
     unfold ki;rw[e1];dsimp only;rw[e2];dsimp only;rw[e3]
    obtain⟨dx0,k0,e0,_⟩:=iJ.ex;refine⟨_,rfl,a,dx0,_,rfl,e0,lN _ _ (by decide+kernel) (by decide+kernel),a,_,_,_,rfl,iJ,_,rfl,?_⟩;have s3:=low (vS.trans fS);cases r4 with
    |cons y r4=>
     rw[ai (by simp)]at hG;exact bf λv=>kE hG v _ s3
    |nil=>
     rw[aj rfl]at hG;refine aY ⟨_,rfl,_,rfl,?_⟩;exact yt λx' dx H5 hx s5 h5=>kQ _ hG _ _ (s3.trans s5) ⟨⟨x',dx,_,rfl,h5,aI cY _ _ _ _ s5 kg⟩,(s3.trans s5).tab _ Jj,TX hG⟩ (IU h5 ((low vS).free hD))
   .unfold ki
    rw[e1];dsimp only;rw[e2];dsimp only;rw[e3]
  .unfold ki
   rw[e1];dsimp only;rw[e2]
 .unfold ki
  rw[e1]
structure fB(mg:Str->Option Value)(tb:Addr)(H:Hp)(a:Addr)(g:Grammar):Prop where
 ex:∃dx u,H a=some (.ins (adr mg "Holder") dx (gY u))/\cR mg tb H u g
theorem fB.mono(s:Sm H H')(h:fB mg tb H a g):fB mg tb H' a g:=by
 obtain⟨dx,u,h1,h2⟩:=h.ex;exact⟨dx,u,Sm.at s h1,cZ _ _ _ _ s h2⟩
theorem fB.ok(h:fB mg tb H a g):aS g:=let⟨_,_,_,q⟩:=h.ex;q.2.2
theorem iL(T:Txt K mg)(h:fB mg tb H a g)(q:∀u,cR mg tb H u g->Q u H):i8 K "held" (.ref a) H Q:=by
 obtain⟨dx,u,h1,h2⟩:=h.ex;unfold i8;exact⟨a,_,dx,_,_,rfl,h1,T.rJ.cls,T.B3,ym _,q u h2⟩
theorem Q2(o:V):(gY o).length<1000:=by
 show(cQ "held" o []).length<1000;simp[cQ]
theorem aaz:aP ["self"] ["self"] (aC GO):=aV
def aaA(mg:Str->Option Value)(tb:Addr):Sp:=λvs H Q _=>∃(x dx:Addr),vs=[.ref x]/\H x=some (.ins (adr mg "Holder") dx [])/\TabAt tb H/\∀H',aD [x] H H'->fB mg tb H' x {nons:=1,rules:=[]}->Q .non H'
theorem aaB(T:Txt K mg)(B:Bs K mg base tb):cH P w K mg base eB 3 (dX K (adr mg "Holder") "__init__") (fdOf K (dX K (adr mg "Holder") "__init__")) ["self"] (aaA mg tb):=by
 have uq:=Cb (P:=P) (w:=w) T B;refine T.rJ.fn.ok aaz (λ_ _ _ _ ⟨_,_,e,_⟩=>by rw[e];rfl) (λcdv A outer s H vs Q E hr h=>?_);obtain⟨x,dx,rfl,hx,ht,k⟩:=h;refine⟨_,(az (qd (pv 0) (qf T.gX.mk_ uq (hr.mono (by decide)) rfl T.gX.gl T.gX.bd .nil fP (aa bK (aa (bL af) af))) rfl)),?_⟩;refine⟨cM _,λD hD=>?_⟩;have s0:=Sm.new (o:=.lst []) hD;intro y dy hy hdy bI;refine⟨y,dy,_,_,rfl,aA,rfl,?_⟩;have s1:=CM (C:=adr mg "Grammar") (fs:=jH (.int 1) (.ref D)) hy hdy bI;have h1:=aA (H:=upd (upd (upd H D (.lst [])) dy (.own y)) y (.ins (adr mg "Grammar") dy [])) (a:=y) (o:=.ins (adr mg "Grammar") dy (jH (.int 1) (.ref D)));generalize upd (upd (upd (upd H D (.lst [])) dy (.own y)) y (.ins (adr mg "Grammar") dy [])) y (.ins (adr mg "Grammar") dy (jH (.int 1) (.ref D)))=H1 at s1 h1⊢;have hx1:=Sm.at (s0.trans s1) hx;refine⟨_,rfl,x,_,dx,_,rfl,hx1,T.rJ.cls,T.B3,(by show 0<1000;decide),?_⟩;have nxy:y≠x:=λz=>by
  have:=Sm.at s0 hx;rw[<-z,hy]at this;cases this
 have sx:aD [x] H1 (upd H1 x (.ins (adr mg "Holder") dx (cQ "held" (.ref y) []))):=yV hx1;have hD1:H1 D=some (.lst []):=Sm.at s1 aA;have nD:D≠x:=sS hD1 hx1 (by intro z;cases z);exact k _ ((Sm.x (s0.trans s1)).trans sx) ⟨dx,.ref y,aA,⟨y,dy,.ref D,rfl,by rw[aJ nxy];exact h1,D,[],rfl,by rw[aJ nD];exact hD1,.nil⟩,sx.tab _ ((s0.trans s1).tab _ ht),⟨by show 0<1;decide,by show 1<=20;decide,by show 0<=60;decide,by intro r hr;cases hr⟩⟩
def kO(mg:Str->Option Value)(H:Hp)(h c:Addr):Prop:=∃dx a dxg n,H h=some (.ins (adr mg "Holder") dx (gY (.ref a)))/\H a=some (.ins (adr mg "Grammar") dxg (jH n (.ref c)))
theorem Jk{u':V}(h:gY u=gY u'):u=u':=by
 have:=ym u;rw[h,ym]at this;exact(Option.some.inj this).symm
theorem vV{c:Addr}(hh:fB mg tb H h g)(kh:∀dx u,H h=some (.ins (adr mg "Holder") dx (gY u))->H' h=some (.ins (adr mg "Holder") dx (gY u)))(ka:∀a dx n ur,H a=some (.ins (adr mg "Grammar") dx (jH n ur))->H' a=some (.ins (adr mg "Grammar") dx (jH n ur)))(q:kO mg H' h c):kO mg H h c:=by
 obtain⟨dx,u,h1,⟨a,dxg,ur,rfl,h2,c0,vs,rfl,_⟩,_⟩:=hh.ex;obtain⟨dx',a',Q3,n',q1,q2⟩:=q;rw[kh _ _ h1]at q1;have q1:=Option.some.inj q1;injection q1 with _ _ q1
 have e:=Jk q1;cases e;rw[ka _ _ _ _ h2]at q2;have q2:=Option.some.inj q2;injection q2 with _ _ q2
 have e:=IT q2;cases e;exact⟨dx,a,dxg,_,h1,h2⟩
def lW(c:Vaglrb.Call)(g:Grammar):Grammar:=(Vaglrb.step {grammar:=g} c).1.grammar
def eT(c:Vaglrb.Call)(g:Grammar):List Int:=(Vaglrb.step {grammar:=g} c).2
def Done(mg:Str->Option Value)(tb h:Addr)(c:Vaglrb.Call)(g:Grammar)(H:Hp)(Q:VK):Prop:=∀p H',aD [h] H H'->H p=none->fB mg tb H' h (lW c g)->(∀x,kO mg H' h x->kO mg H h x\/H x=none)->ay dG H' (.ref p) (eT c g)->(eT c g).length<=4000->Q (.ref p) H'
def vW(mg:Str->Option Value)(tb:Addr)(c:Vaglrb.Call):Sp:=λvs H Q _=>∃h g,vs=[.ref h]/\fB mg tb H h g/\Done mg tb h c g H Q
def rW(mg:Str->Option Value)(tb:Addr)(c:Int->Vaglrb.Call):Sp:=λvs H Q _=>∃h k g,vs=[.ref h,.int k]/\fB mg tb H h g/\Done mg tb h (c k) g H Q
theorem len0{c:Vaglrb.Call}:∀vs H Q E,vW mg tb c vs H Q E->vs.length=[x].length:=λ_ _ _ _ ⟨_,_,e,_⟩=>by rw[e];rfl
theorem vX{c:Int->Vaglrb.Call}{y:Str}:∀vs H Q E,rW mg tb c vs H Q E->vs.length=[x,y].length:=λ_ _ _ _ ⟨_,_,_,e,_⟩=>by rw[e];rfl
theorem Done.pure{c:Vaglrb.Call}(d:Done mg tb h c g H Q)(hh:fB mg tb H h g)(hg:lW c g=g){l:List Int}(hl:eT c g=l){p:Addr}(s:Sm H H')(hp:H p=none)(r:ay dG H' (.ref p) l)(hn:l.length<=4000):Q (.ref p) H':=by
 refine d p H' s.x hp ?_ (λx q=>.inl (vV hh (λdx u h=>Sm.at s h) (λa dx n ur h=>Sm.at s h) q)) (by rw[hl];exact r) (by rw[hl];exact hn);rw[hg];exact hh.mono s
theorem pF(h:ay aW H v l):ay dG H v (gb l):=by
 obtain⟨a,vs,e,h1,h2⟩:=h;exact⟨a,vs,e,h1,yT h2⟩
theorem Jl(G:aS g):(flatGrammar g).length<=1562:=by
 have q1:=IM λr hr=>(G.rules r hr).cA;have q2:=G.cA;show(g.rules.flatMap flatRule).length+1+1<=_;omega
theorem aaC:aP ["holder"] ["holder"] (aC BB):=aV
theorem aaD(T:Txt K mg)(B:Bs K mg base tb):br P w K mg base "grammar_answer" 2 ["holder"] (vW mg tb .grammar):=by
 have y9:=IP (P:=P) (w:=w) T B;refine T.OL.fn.ok aaC len0 (λcdv A outer s H vs Q E hr h=>?_);obtain⟨h,g,rfl,hh,k⟩:=h;have hfl:=Jl hh.ok;refine⟨_,(az (aH (gj lC (bL (aa (bB T.lJ) af)) (aE T.BX y9 hr (aa (aO (K:=K) rfl (pv 0) rfl) af))))),?_⟩;refine⟨(by show 1<=sizeLine;decide),λp hp=>⟨_,rfl,iL T (hh.mono (Sm.new hp)) λu hu=>⟨u,g,rfl,hu,trivial,λa H1 s1 ha h1=>?_⟩⟩⟩;have s0:=Sm.new (o:=.lst [.int 0]) hp;refine lU (R:=dG) (ms:=[0]) i0 ⟨p,_,rfl,Sm.at s1 aA,.cons rfl .nil⟩ (pF h1) (by rw[aK,cK];show 1+_<=_;omega) λb H2 s2 hb h2=>?_;exact k.pure hh rfl (l:=0::gb (flatGrammar g)) rfl ((s0.trans s1).trans s2) ((s0.trans s1).free hb) h2 (by rw[bT,aK];omega)
def theSet(g:Grammar)(k:Nat):List Nat:=(Vaglrb.theSet g k).getD []
theorem Jm:aP ["grammar","k","choices","marks_of"] ["grammar","k"] (aC yf):=aV
theorem aaE(T:Txt K mg)(B:Bs K mg base tb):br P w K mg base "marks_of_choice" 20 ["grammar","k"] (tX (cR mg tb) aW (λ_ k=>k<=6) (ay bA) (λg k=>cg g.nons (theSet g k))):=by
 have lS:=t6 (P:=P) (w:=w) T B;have t7:=Ci (P:=P) (w:=w) T B;have HS:=PF (P:=P) (w:=w) T B;have qA:=yF (P:=P) (w:=w) T B;have aaF:=Zb (P:=P) (w:=w) T B;have IG:=Pz (P:=P) (w:=w) T B;have aaG:=Y0 (P:=P) (w:=w) T B;refine T.OM.fn.ok Jm vD (λcdv A outer s H vs Q E hr h=>?_);obtain⟨u,g,u2,n,rfl,hg,hn,aR,k⟩:=h;cases hn;have term:∀{x:Str} {st:Stmt} {j:Nat} {f:Grammar->List Nat} (At:FnAt K mg x st ["grammar"] (adr mg x)) (F:cH P w K mg base eB j (adr mg x) (fdOf K (adr mg x)) ["grammar"] (gO (cR mg tb) pY (ay bA) (λg=>cg g.nons (f g)))),j<=19->theSet g n=f g->
   [V.ref (adr mg "hollow_marks"),.ref (adr mg "productive_marks"),.ref (adr mg "reachable_marks"),.ref (adr mg "useful_marks"),.ref (adr mg "cyclic_marks"),.ref (adr mg "growing_marks"),.ref (adr mg "left_recursive_marks")][n]?=some (.ref (adr mg x))->
   ∃t,fX (mF eB P w K mg base ["grammar","k","choices","marks_of"] "marks_of_choice" (aC yf) (adr mg "marks_of_choice") cdv A outer s H E).nox (iX yf) t/\t {nx:=λ_ H'=>Q .non H',rt:=Q} (L2.start ["grammar","k","choices","marks_of"] [u,.int (n:Nat)]) H:=by
  intro x st j f At F hj aaH hx;refine⟨_,aq (aN (i:=2) Jm.nd rfl (Or.inl rfl) (bL (aa (jF T.qw.gl) (aa (jF T.vq.gl) (aa (jF T.BS.gl) (aa (jF T.tQ.gl) (aa (jF T.G3.gl) (aa (jF T.BR.gl) (aa (jF T.G2.gl) af)))))))))
   (aq (aN (i:=3) Jm.nd rfl (Or.inl rfl) (bD (r:=bX K) dW (pv 2) (pv 1) (λ_ _=>rfl)))
   (az (aH (AO (i:=3) F (hr.mono hj) rfl (Or.inl rfl) At.fn.kp At.bd .nil fP (aa (pv 0) af))))),?_⟩
  refine⟨(by show 7<=sizeLine;decide),λp hp=>⟨_,rfl,_,rfl,?_⟩⟩;have s0:=Sm.new (o:=.lst [V.ref (adr mg "hollow_marks"),.ref (adr mg "productive_marks"),.ref (adr mg "reachable_marks"),.ref (adr mg "useful_marks"),.ref (adr mg "cyclic_marks"),.ref (adr mg "growing_marks"),.ref (adr mg "left_recursive_marks")]) hp;unfold bX;refine⟨p,_,_,_,rfl,rfl,aU.of aA,xC hx,rfl,_,rfl,u,g,rfl,cZ _ _ _ _ s0 hg,trivial,λa H1 s1 ha h1=>k _ _ (s0.trans s1) (s0.free ha) ?_⟩;show ay bA H1 (.ref a) (cg g.nons (theSet g n));rw[aaH];exact h1
 rcases(show n=0\/n=1\/n=2\/n=3\/n=4\/n=5\/n=6 by omega)with rfl|rfl|rfl|rfl|rfl|rfl|rfl
 .exact term (f:=nullable) T.qw lS (by decide) rfl rfl
 .exact term (f:=productive) T.vq t7 (by decide) rfl rfl
 .exact term (f:=Vaglrb.reachable) T.BS HS (by decide) rfl rfl
 .exact term (f:=useful) T.tQ qA (by decide) rfl rfl
 .exact term (f:=cyclicSet) T.G3 aaF (by decide) rfl rfl
 .exact term (f:=growing) T.BR IG (by decide) rfl rfl
 .exact term (f:=yM) T.G2 aaG (by decide) rfl rfl
theorem aaI(G:aS g)(h:n<=6):Vaglrb.theSet g n=some (theSet g n)/\Ok g.nons (theSet g n):=by
 have fo:∀f:Nat->Bool,Ok g.nons ((List.range g.nons).filter f):=λf=>⟨qR (sC _),λx hx=>lZ.mp (iO.mp hx).1⟩
 match n,h with
 |0,_=>exact⟨rfl,R1 G⟩
 |1,_=>exact⟨rfl,R5 G⟩
 |2,_=>exact⟨rfl,DE G⟩
 |3,_=>exact⟨rfl,wJ G⟩
 |4,_=>exact⟨rfl,fo _⟩
 |5,_=>exact⟨rfl,Sa G⟩
 |6,_=>exact⟨rfl,fo _⟩
 |n+7,h=>omega
theorem CO:aP ["holder","k","marks","members","a"] ["holder","k"] (aC yg):=aV
theorem aaJ(T:Txt K mg)(B:Bs K mg base tb):br P w K mg base "set_answer" 21 ["holder","k"] (rW mg tb .set):=by
 have aaK:=aaE (P:=P) (w:=w) T B;refine T.ON.fn.ok CO vX (λcdv A outer s H vs Q E hr h=>?_);obtain⟨h,n,g,rfl,hh,k⟩:=h;have G:=hh.ok;refine⟨_,(aq (cN (FW (fE An (pv 1) bK (eK _)) (fE xy (pv 1) (bB T.X5) (eK _))) (az (aH (bL (aa (bB T.Ob) af)))) cP)
   (aq (aN (i:=2) CO.nd rfl (Or.inr rfl) (aE T.OM aaK hr (aa (aO (K:=K) rfl (pv 0) rfl) (aa (pv 1) af))))
   (aq (qi (i:=3) (own:=[("a",4)]) rfl CO.nd rfl rfl (nR rfl rfl rfl rfl) (jR rfl T.jZ (aa (aO (K:=K) rfl (aO (K:=K) rfl (pv 0) rfl) rfl) af)) (eu (N:=["holder","k","marks","members","a"]) (sc:=aC yg) (by decide+kernel)) (λs H C cl fp=>(bh (i:=4) CO.nd rfl (Or.inl rfl))) (λs H C cl fp=>(tE (di (bD (r:=bX K) dW (pv 2) (pv 4) (λ_ _=>rfl))))) (λs H C cl fp=>(pv 4)))
   (az (aH (gj lC (bL (aa (bB T.lJ) (aa (fF j4 (by rfl) T.jY kU (aa (pv 3) af)) af))) (pv 3))))))),?_⟩
 have bad:∀(c:n<0\/6<n),∀p,H p=none->Q (.ref p) (upd H p (.lst [.int (-5)])):=λc p hp=>by
  refine k.pure hh rfl (l:=[-5]) ?_ (Sm.new hp) hp ⟨p,_,rfl,aA,.cons rfl .nil⟩ (by decide);show(if n<0 then[-5]else match Vaglrb.theSet g n.toNat with|some l=>0::toInts (counted l)|none=>[-5])=[-5];by_cases c1:n<0
  .rw[aj c1]
  .rw[ai c1]
   obtain⟨m,hm⟩:∃m,n.toNat=m+7:=⟨n.toNat-7,by omega⟩;rw[hm];rfl
 refine⟨_,rfl,_,_,rfl,rfl,_,rfl,?_⟩;by_cases c1:n<0
 .rw[cT c1]
  exact bf (bf ⟨(by show 1<=sizeLine;decide),λp hp=>bad (.inl c1) p hp⟩)
 .rw[bZ c1]
  refine aY ⟨_,rfl,_,_,rfl,rfl,_,rfl,?_⟩;by_cases c2:6<n
  .rw[cT c2]
   exact bf ⟨(by show 1<=sizeLine;decide),λp hp=>bad (.inr c2) p hp⟩
  .rw[bZ c2]
   obtain⟨m,rfl⟩:∃m:Nat,n=(m:Int):=⟨n.toNat,by omega⟩;have hm:m<=6:=by omega
   obtain⟨t1,t2⟩:=aaI G hm;refine aY ⟨_,rfl,iL T hh λu hu=>⟨_,rfl,u,g,_,m,rfl,hu,rfl,hm,λa1 H1 s1 _ h1=>?_⟩⟩;have m6:=hh.mono s1;refine tW (n:=g.nons) (λa=>if Vaglrc.has a (theSet g m)then some a else none) (G:=λ_=>aW) (λQ' k'=>⟨_,rfl,iL T m6 λu hu=>gZ T hu (k' _ (Sm.refl _))⟩) (fQ G) (λ_=>bE) (λD=>jm qm D) (λH4 D x s4 hD hx H5 Nx s5 hl kF kT=>?_) λD zs H2 hD q1 s2 q3=>?_
   .refine⟨rfl,_,rfl,_,rfl,f7 (aI dH _ _ _ _ (s4.trans s5) h1) (pQ hx) λv hv=>⟨_,hv,?_⟩⟩
    cases e:Vaglrc.has x (theSet g m)with
    |true=>exact bf ⟨_,rfl,kT _ _ _ (by rw[e];rfl) (Sm.refl _) rfl⟩
    |false=>exact aY (kF (by rw[e];rfl) _ (Sm.refl _))
   .rw[vB,<-t2.RY]at q3
    have hl:ay aW H2 (.ref D) (theSet g m):=⟨D,zs,rfl,q1,q3⟩;have hlen:(theSet g m).length<=20:=by
     have:=t2.sub.length_le;rw[gq]at this;exact aG this G.nons
    refine⟨_,rfl,mW hl ⟨(by show 2<=sizeLine;decide),λp hp=>⟨_,rfl,?_⟩⟩⟩;have s3:=Sm.new (o:=.lst [.int 0,.int ((theSet g m).length:Nat)]) hp;have lV:=(s1.trans s2).trans s3;refine lU (R:=dG) (ms:=[0,((theSet g m).length:Nat)]) i0 ⟨p,_,rfl,aA,.cons rfl (.cons rfl .nil)⟩ (pF (aI bE _ _ _ _ s3 hl)) (by rw[aK,cK];show 2+_<=_;omega) λb H4 s4 hb h4=>?_;refine k.pure hh rfl (l:=[0,((theSet g m).length:Int)]++gb (theSet g m)) ?_ (lV.trans s4) (lV.free hb) h4 (by rw[aX,aK];show 2+_<=_;omega);show(if(m:Int)<0 then[-5]else match Vaglrb.theSet g (m:Int).toNat with|some l=>0::toInts (counted l)|none=>[-5])=_;rw[ai (by omega),oz,t1];rfl
def missing(g:Grammar)(a:Int):Bool:=decide (a<0)||decide ((g.nons:Int)<=a)
theorem aaL:aP ["holder","a"] ["holder","a"] (aC GQ):=aV
theorem CP(T:Txt K mg)(B:Bs K mg base tb):br P w K mg base "is_missing" 1 ["holder","a"] (λvs H Q _=>∃h a g,vs=[.ref h,.int a]/\fB mg tb H h g/\Q (.bl (missing g a)) H):=by
 refine T.yk.fn.ok aaL (λ_ _ _ _ ⟨_,_,_,e,_⟩=>by rw[e];rfl) (λcdv A outer s H vs Q E hr h=>?_);obtain⟨h,a,g,rfl,hh,k⟩:=h;refine⟨_,(az (aH (xU (lA An (pv 1) bK (eK _)) (lA UO (pv 1) (aO (K:=K) rfl (aO (K:=K) rfl (pv 0) rfl) rfl) (eK _))))),?_⟩;refine⟨_,rfl,_,_,rfl,rfl,_,rfl,?_⟩;unfold missing at k;by_cases c:a<0
 .rw[cT c]at k⊢
  exact bf k
 .rw[bZ c]at k⊢
  exact aY ⟨_,rfl,_,rfl,iL T hh λu hu=>gZ T hu ⟨_,_,rfl,rfl,k⟩⟩
theorem aaM{a:Int}(h:missing g a=true):onNon {grammar:=g} a f=[-4]:=by
 unfold missing at h;unfold onNon;by_cases c:a<0
 .rw[aj c]
 .rw[bZ c,zk]at h
  rw[ai c,aj (Dm h)]
theorem CQ{a:Int}(h:missing g a=false):∃n:Nat,a=(n:Int)/\n<g.nons/\onNon {grammar:=g} a f=f n:=by
 unfold missing at h;rw[JA]at h;have h1:=Dl h.1;have h2:=Dl h.2;refine⟨a.toNat,by omega,by omega,?_⟩;unfold onNon;rw[ai h1,ai h2]
theorem miss{c:Int->Vaglrb.Call}{a:Int}(k:Done mg tb h (c a) g H Q)(hh:fB mg tb H h g)(hg:lW (c a) g=g)(hc:eT (c a) g=onNon {grammar:=g} a f)(hm:missing g a=true){p:Addr}(hp:H p=none):Q (.ref p) (upd H p (.lst [.int (-4)])):=
 k.pure hh hg (hc.trans (aaM hm)) (Sm.new hp) hp ⟨p,_,rfl,aA,.cons rfl .nil⟩ (by decide)
theorem Q4{l:List (Nat×Nat)}(h:l.length<=129):(shownRanges l).length<=260:=by
 have:=HY l;show(l.flatMap λp=>[p.1,p.2]).length+1<=260;omega
theorem aaN:aP ["holder","a"] ["holder","a"] (aC BC):=aV
theorem aaO(T:Txt K mg)(B:Bs K mg base tb):br P w K mg base "first_answer" 20 ["holder","a"] (rW mg tb .first):=by
 have uu:=CP (P:=P) (w:=w) T B;have Jo:=PU (P:=P) (w:=w) T B;have ID:=Qh (P:=P) (w:=w) T B;refine T.OO.fn.ok aaN vX (λcdv A outer s H vs Q E hr h=>?_);obtain⟨h,n,g,rfl,hh,k⟩:=h;have G:=hh.ok;refine⟨_,(aq (cN (di (aE T.yk uu hr (aa (pv 0) (aa (pv 1) af)))) (az (aH (bL (aa (bB T.BK) af)))) cP)
   (az (aH (gj lC (bL (aa (bB T.lJ) af)) (aE T.G0 Jo hr (aa (bD (r:=bX K) dW (aE T.G5 ID hr (aa (aO (K:=K) rfl (pv 0) rfl) af)) (pv 1) (λ_ _=>rfl)) af)))))),?_⟩
 refine⟨_,rfl,_,rfl,h,n,g,rfl,hh,_,rfl,?_⟩;cases hm:missing g n with
 |true=>exact bf ⟨(by show 1<=sizeLine;decide),λp hp=>miss (c:=.first) (f:=λb=>0::toInts (shownRanges (rangesOf (setOf (firstOf g) b)))) k hh rfl rfl hm hp⟩
 |false=>
  obtain⟨m,rfl,aR,lX⟩:=CQ (f:=λb=>0::toInts (shownRanges (rangesOf (setOf (firstOf g) b)))) hm;refine aY ⟨(by show 1<=sizeLine;decide),λp hp=>⟨_,rfl,iL T (hh.mono (Sm.new hp)) λu hu=>⟨u,g,rfl,hu,trivial,λa1 H1 s1 _ h1=>?_⟩⟩⟩;have s0:=Sm.new (o:=.lst [.int 0]) hp;have hgm:((List.range g.nons).map (iy g))[m]?=some (iy g m):=by rw[fK,rZ aR];rfl
  refine⟨_,rfl,f7 (k:=m) h1 hgm λul dM=>?_⟩;have xE:=Qk g m;have hsl:=Q4 xE;refine⟨ul,iy g m,iy g m,rfl,dM,by rw[cK];omega,λs hp hs=>Lc hp hs (qX (iw (jA g) m)).1,by omega,λa2 H2 s2 _ h2=>?_⟩;have dI:=s1.trans s2;refine lU (R:=dG) (ms:=[0]) i0 ⟨p,_,rfl,Sm.at dI aA,.cons rfl .nil⟩ (pF h2) (by rw[aK,cK];show 1+_<=_;omega) λb H3 s3 hb h3=>?_;exact k.pure hh rfl (l:=0::gb (shownRanges (iy g m))) lX ((s0.trans dI).trans s3) ((s0.trans dI).free hb) h3 (by rw[bT,aK];omega)
theorem Q5:aP ["holder","a","end"] ["holder","a"] (aC BD):=aV
theorem aaP(T:Txt K mg)(B:Bs K mg base tb):br P w K mg base "follow_answer" 24 ["holder","a"] (rW mg tb .follow):=by
 have uu:=CP (P:=P) (w:=w) T B;have aaQ:=Zl (P:=P) (w:=w) T B;have Jo:=PU (P:=P) (w:=w) T B;have aaR:=Zi (P:=P) (w:=w) T B;refine T.OP.fn.ok Q5 vX (λcdv A outer s H vs Q E hr h=>?_);obtain⟨h,n,g,rfl,hh,k⟩:=h;have G:=hh.ok;refine⟨_,(aq (cN (di (aE T.yk uu hr (aa (pv 0) (aa (pv 1) af)))) (az (aH (bL (aa (bB T.BK) af)))) cP)
   (aq (aN (i:=2) Q5.nd rfl (Or.inl rfl) (sW (di (aE T.Ot aaQ hr (aa (aO (K:=K) rfl (pv 0) rfl) (aa (pv 1) af)))) bK bK))
   (az (aH (gj lC (bL (aa (bB T.lJ) (aa (pv 2) af))) (aE T.G0 Jo hr (aa (aE T.Oq aaR hr (aa (aO (K:=K) rfl (pv 0) rfl) (aa (pv 1) af))) af))))))),?_⟩
 refine⟨_,rfl,_,rfl,h,n,g,rfl,hh,_,rfl,?_⟩;cases hm:missing g n with
 |true=>exact bf ⟨(by show 1<=sizeLine;decide),λp hp=>miss (c:=.follow) (f:=λb=>0::(if hasEnd (setOf (followOf g) b)then 1 else 0)::toInts (shownRanges (rangesOf (setOf (followOf g) b)))) k hh rfl rfl hm hp⟩
 |false=>
  obtain⟨m,rfl,aR,lX⟩:=CQ (f:=λb=>0::(if hasEnd (setOf (followOf g) b)then 1 else 0)::toInts (shownRanges (rangesOf (setOf (followOf g) b)))) hm;have xE:=Qj (zT g m);have hsl:=Q4 xE;have fin:∀(z:Int) (H1:Hp),Sm H H1->z=(if hasEnd (setOf (followOf g) m)then 1 else 0)->∀(p:Addr) (H2:Hp),Sm H H2->H2 p=some (.lst [.int 0,.int z])->∀ul,ay dJ H2 ul (rangesOf (setOf (followOf g) m))->PR mg [ul] H2 (λv H3=>xF (.ref p) v H3 Q) E0:=λz H1 s1 hz p H2 s2 hp ul dM=>by
   refine⟨ul,_,_,rfl,dM,by rw[cK];omega,λs hp hs=>Lc hp hs (qX (zT g m)).1,by omega,λa3 H3 s3 _ h3=>?_⟩;refine lU (R:=dG) (ms:=[0,z]) i0 ⟨p,_,rfl,Sm.at s3 hp,.cons rfl (.cons rfl .nil)⟩ (pF h3) (by rw[aK,cK];show 2+_<=_;omega) λb H4 s4 hb h4=>?_;exact k.pure hh rfl (l:=0::z::gb (shownRanges (rangesOf (setOf (followOf g) m)))) (by rw[hz];exact lX) ((s2.trans s3).trans s4) ((s2.trans s3).free hb) h4 (by rw[bT,bT,aK];omega)
  refine aY ⟨_,rfl,iL T hh λu hu=>⟨_,rfl,u,g,_,m,rfl,hu,rfl,aR,λv H1 s1 hv=>⟨_,(show v=.bl (hasEnd (setOf (followOf g) m))from hv),?_⟩⟩⟩;cases he:hasEnd (setOf (followOf g) m)
  case' true=>
   refine bf ⟨_,rfl,(by show 2<=sizeLine;decide),λp hp=>⟨_,rfl,?_⟩⟩;have s2:=Sm.new (o:=.lst [.int 0,.int 1]) hp;have hz:(1:Int)=(if hasEnd (setOf (followOf g) m)then 1 else 0):=by rw[he];rfl
  case' false=>
   refine aY ⟨_,rfl,(by show 2<=sizeLine;decide),λp hp=>⟨_,rfl,?_⟩⟩;have s2:=Sm.new (o:=.lst [.int 0,.int 0]) hp;have hz:(0:Int)=(if hasEnd (setOf (followOf g) m)then 1 else 0):=by rw[he];rfl
  all_goals
   refine iL T ((hh.mono s1).mono s2) λu hu=>⟨_,rfl,u,g,_,m,rfl,hu,rfl,aR,λa3 H3 s3 _ h3=>?_⟩;exact fin _ H1 s1 hz p H3 ((s1.trans s2).trans s3) (Sm.at s3 aA) _ h3
theorem Q6:aP ["holder","a","reached"] ["holder","a"] (aC BE):=aV
theorem aaS(T:Txt K mg)(B:Bs K mg base tb):br P w K mg base "left_answer" 20 ["holder","a"] (rW mg tb .left):=by
 have uu:=CP (P:=P) (w:=w) T B;have lP:=tZ (P:=P) (w:=w) T B;have uc:=Ct (P:=P) (w:=w) T B;have aaT:=Y6 (P:=P) (w:=w) T B;refine T.OQ.fn.ok Q6 vX (λcdv A outer s H vs Q E hr h=>?_);obtain⟨h,n,g,rfl,hh,k⟩:=h;have G:=hh.ok;refine⟨_,(aq (cN (di (aE T.yk uu hr (aa (pv 0) (aa (pv 1) af)))) (az (aH (bL (aa (bB T.BK) af)))) cP)
   (aq (aN (i:=2) Q6.nd rfl (Or.inl rfl) (aE T.rH lP hr (aa (aE T.yj uc hr (aa (aO (K:=K) rfl (pv 0) rfl) af)) (aa (pv 1) af))))
   (az (aH (gj lC (bL (aa (bB T.lJ) (aa (aE T.Ol aaT hr (aa (aO (K:=K) rfl (pv 0) rfl) (aa (pv 1) af))) (aa (fF j4 (by rfl) T.jY kU (aa (pv 2) af)) af)))) (pv 2)))))),?_⟩
 refine⟨_,rfl,_,rfl,h,n,g,rfl,hh,_,rfl,?_⟩;cases hm:missing g n with
 |true=>exact bf ⟨(by show 1<=sizeLine;decide),λp hp=>miss (c:=.left) (f:=λb=>0::toInts (leftKinds g b::counted (leftReach g b))) k hh rfl rfl hm hp⟩
 |false=>
  obtain⟨m,rfl,aR,lX⟩:=CQ (f:=λb=>0::toInts (leftKinds g b::counted (leftReach g b))) hm;have hS:=(uQ G).2;refine aY ⟨_,rfl,iL T hh λu hu=>⟨u,g,rfl,hu,λD1 H1 as1 b1=>⟨_,rfl,_,_,_,m,rfl,b1.done,rfl,t8 hS aR (fQ G),λa2 H2 s2 _ h2=>?_⟩⟩⟩;have dI:=b1.sm.trans s2;have h2:ay aW H2 (.ref a2) (leftReach g m):=by
   have e:dg (aL g.nons (iz g)).length (aL g.nons (iz g)) m=leftReach g m:=by rw[vK hS.len,zZ G];rfl
   rw[<-e];exact h2
  have hlen:(leftReach g m).length<=20:=by
   have:=(qT (λp hp=>(wX G p hp).2) m).1.sub.length_le;rw[gq]at this;exact aG this G.nons
  refine⟨_,rfl,iL T (hh.mono dI) λu hu=>⟨_,rfl,u,g,_,m,rfl,hu,rfl,aR,λv H3 s3 hv=>⟨_,rfl,mW (aI bE _ _ _ _ s3 h2) ?_⟩⟩⟩;cases hv;refine⟨(by show 3<=sizeLine;decide),λp hp=>⟨_,rfl,?_⟩⟩;have s4:=Sm.new (o:=.lst [.int 0,.int (leftKinds g m:Nat),.int ((leftReach g m).length:Nat)]) hp;have s14:=(dI.trans s3).trans s4;refine lU (R:=dG) (ms:=[0,(leftKinds g m:Nat),((leftReach g m).length:Nat)]) i0 ⟨p,_,rfl,aA,.cons rfl (.cons rfl (.cons rfl .nil))⟩ (pF (aI bE _ _ _ _ (s3.trans s4) h2)) (by rw[aK,cK];show 3+_<=_;omega) λb H5 s5 hb h5=>?_;exact k.pure hh rfl (l:=[0,((leftKinds g m:Nat):Int),((leftReach g m).length:Int)]++gb (leftReach g m)) lX (s14.trans s5) (s14.free hb) h5 (by rw[aX,aK];show 3+_<=_;omega)
theorem Q7:aP ["holder","a","least"] ["holder","a"] (aC BF):=aV
theorem aaU(T:Txt K mg)(B:Bs K mg base tb):br P w K mg base "least_answer" 15 ["holder","a"] (rW mg tb .least):=by
 have uu:=CP (P:=P) (w:=w) T B;have aaV:=ZO (P:=P) (w:=w) T B;refine T.OS.fn.ok Q7 vX (λcdv A outer s H vs Q E hr h=>?_);obtain⟨h,n,g,rfl,hh,k⟩:=h;have G:=hh.ok;refine⟨_,(aq (cN (di (aE T.yk uu hr (aa (pv 0) (aa (pv 1) af)))) (az (aH (bL (aa (bB T.BK) af)))) cP)
   (aq (aN (i:=2) Q7.nd rfl (Or.inl rfl) (bD (r:=bX K) dW (aE T.OG aaV hr (aa (aO (K:=K) rfl (pv 0) rfl) af)) (pv 1) (λ_ _=>rfl)))
   (aq (cN (fE Ao (pv 2) uT (eK _)) (az (aH (bL (aa (bB T.XX) af)))) cP)
   (az (aH (gj lC (bL (aa (bB T.lJ) (aa (bD (r:=cX K) gk (pv 2) bK (λ_ _=>rfl)) (aa (fF j4 (by rfl) T.jY kU (aa (bD (r:=cX K) gk (pv 2) bK (λ_ _=>rfl)) af)) af)))) (Ar O3 (by rfl) T.Of boot_list (aa (bD (r:=cX K) gk (pv 2) bK (λ_ _=>rfl)) af)))))))),?_⟩
 refine⟨_,rfl,_,rfl,h,n,g,rfl,hh,_,rfl,?_⟩;cases hm:missing g n with
 |true=>exact bf ⟨(by show 1<=sizeLine;decide),λp hp=>miss (c:=.least) (f:=leastAnswer g) k hh rfl rfl hm hp⟩
 |false=>
  obtain⟨m,rfl,aR,lX⟩:=CQ (f:=leastAnswer g) hm;have lX:eT (.least (m:Nat)) g=leastAnswer g m:=lX;rw[SJ G]at lX;have oh:(wR g g.nons).length=g.nons:=sI _;refine aY ⟨_,rfl,iL T hh λu hu=>⟨u,g,rfl,hu,trivial,λa1 H1 s1 _ h1=>⟨_,rfl,f7 (k:=m) h1 (bO (by rw[oh];exact aR)) λul dM=>?_⟩⟩⟩;have e0:at_ (wR g g.nons) m=(wR g g.nons)[m]'(by rw[oh];exact aR):=by
   show(wR g g.nons).getD m none=_;rw[cC,bO (by rw[oh];exact aR)];rfl
  rw[<-e0]at dM;have hgo:∀p,at_ (wR g g.nons) m=some p->WF p:=λp hp=>sJ G g.nons m p hp
  cases e:at_ (wR g g.nons) m with
  |none=>
   rw[e]at dM lX;have dM:ul=.non:=dM;subst dM;refine⟨_,rfl,rfl,_,rfl,?_⟩;rw[cT rfl];exact bf ⟨(by show 1<=sizeLine;decide),λp hp=>k.pure hh rfl lX (s1.trans (Sm.new hp)) (s1.free hp) ⟨p,_,rfl,aA,.cons rfl .nil⟩ (by decide)⟩
  |some q=>
   have hwf:=Qy (hgo q e);rw[e]at dM lX;have dM:mZ H1 ul q:=dM;refine⟨_,rfl,rfl,_,rfl,?_⟩;rw[CC dM];refine aY ⟨_,rfl,B6 dM λz1 hz1=>⟨_,rfl,yp dM λz2 hz2=>Pf hz2 ?_⟩⟩;cases hz1;refine⟨(by show 3<=sizeLine;decide),λp hp=>⟨_,rfl,?_⟩⟩;have s2:=Sm.new (o:=.lst [.int 0,.int (q.1:Nat),.int (q.2.length:Nat)]) hp;refine yp (Qx _ _ _ _ s2 dM) λz3 hz3=>Yl bE hz3 λa3 H3 s3 _ h3=>?_;have lV:=(s1.trans s2).trans s3;refine lU (R:=dG) (ms:=[0,(q.1:Nat),(q.2.length:Nat)]) i0 ⟨p,_,rfl,Sm.at s3 aA,.cons rfl (.cons rfl (.cons rfl .nil))⟩ (pF h3) (by rw[aK,cK];show 3+_<=_;omega) λb H5 s5 hb h5=>?_;exact k.pure hh rfl (l:=[0,((q.1:Nat):Int),((q.2.length:Nat):Int)]++gb q.2) lX (lV.trans s5) (lV.free hb) h5 (by rw[aX,aK];show 3+_<=_;omega)
theorem aaW:aP ["holder"] ["holder"] (aC BG):=aV
theorem aaX(T:Txt K mg)(B:Bs K mg base tb):br P w K mg base "extent_answer" 23 ["holder"] (vW mg tb .extent):=by
 have aaY:=Zt (P:=P) (w:=w) T B;have aaZ:=Zs (P:=P) (w:=w) T B;have aa0:=Zy (P:=P) (w:=w) T B;refine T.OT.fn.ok aaW len0 (λcdv A outer s H vs Q E hr h=>?_);obtain⟨h,g,rfl,hh,k⟩:=h;have G:=hh.ok;have hA:eT .extent g=(if !(Vaglrc.has 0 (useful g))then[0,0]else if endless g then[0,2]else match longest g with|some n=>[0,1,(n:Int)]|none=>[0,0]):=rfl;refine⟨_,(aq (cN (sV (di (aE T.Ov aaZ hr (aa (aO (K:=K) rfl (pv 0) rfl) af)))) (az (aH (bL (aa (bB T.lJ) (aa (bB T.X0) af))))) cP)
   (aq (cN (di (aE T.Ow aaY hr (aa (aO (K:=K) rfl (pv 0) rfl) af))) (az (aH (bL (aa (bB T.lJ) (aa (bB T.X4) af))))) cP)
   (az (aH (bL (aa (bB T.lJ) (aa (bB T.X3) (aa (aE T.Ox aa0 hr (aa (aO (K:=K) rfl (pv 0) rfl) af)) af)))))))),?_⟩
 refine⟨_,rfl,iL T hh λu hu=>⟨u,g,rfl,hu,trivial,λv H1 s1 hv=>⟨_,(show v=.bl (Vaglrc.has 0 (useful g))from hv),?_⟩⟩⟩;cases e0:Vaglrc.has 0 (useful g)with
 |false=>
  rw[e0]at hA;exact bf ⟨(by show 2<=sizeLine;decide),λp hp=>k.pure hh rfl (l:=[0,0]) hA (s1.trans (Sm.new hp)) (s1.free hp) ⟨p,_,rfl,aA,.cons rfl (.cons rfl .nil)⟩ (by decide)⟩
 |true=>
  rw[e0]at hA;refine aY ⟨_,rfl,iL T (hh.mono s1) λu hu=>⟨u,g,rfl,hu,trivial,λv2 H2 s2 nZ=>⟨_,(show v2=.bl (endless g)from nZ),?_⟩⟩⟩;have dI:=s1.trans s2;cases e1:endless g with
  |true=>
   rw[e1]at hA;exact bf ⟨(by show 2<=sizeLine;decide),λp hp=>k.pure hh rfl (l:=[0,2]) hA (dI.trans (Sm.new hp)) (dI.free hp) ⟨p,_,rfl,aA,.cons rfl (.cons rfl .nil)⟩ (by decide)⟩
  |false=>
   rw[e1]at hA;refine aY ⟨_,rfl,iL T (hh.mono dI) λu hu=>⟨u,g,rfl,hu,e1,e0,λm H3 s3 hl=>⟨(by show 3<=sizeLine;decide),λp hp=>?_⟩⟩⟩;rw[hl]at hA;have lV:=dI.trans s3;exact k.pure hh rfl (l:=[0,1,((m:Nat):Int)]) hA (lV.trans (Sm.new hp)) (lV.free hp) ⟨p,_,rfl,aA,.cons rfl (.cons rfl (.cons rfl .nil))⟩ (by show 3<=4000;decide)
theorem CS:aP ["holder","nonterminals","rules","row"] ["holder"] (aC BH):=aV
theorem aa1(T:Txt K mg)(B:Bs K mg base tb):br P w K mg base "trim_answer" 22 ["holder"] (vW mg tb .trim):=by
 have IV:=QF (P:=P) (w:=w) T B;have HW:=PJ (P:=P) (w:=w) T B;have y9:=IP (P:=P) (w:=w) T B;have Jp:=QI (P:=P) (w:=w) T B;refine T.OU.fn.ok CS len0 (λcdv A outer s H vs Q E hr h=>?_);obtain⟨h,g,rfl,hh,k⟩:=h;have G:=hh.ok;have acd:=QH G;have ace:=aG (PL g) G.cA;have hfl:=Jl (Ll G);refine⟨_,(aq (aN (i:=1) CS.nd rfl (Or.inl rfl) (aE T.G9 IV hr (aa (aO (K:=K) rfl (pv 0) rfl) af)))
   (aq (aN (i:=2) CS.nd rfl (Or.inl rfl) (aE T.GZ HW hr (aa (aO (K:=K) rfl (pv 0) rfl) af)))
   (aq (aN (i:=3) CS.nd rfl (Or.inl rfl) (aE T.BX y9 hr (aa (aE T.Hf Jp hr (aa (aO (K:=K) rfl (pv 0) rfl) af)) af)))
   (az (aH (gj lC (gj lC (gj lC (gj lC (gj lC (bL (aa (bB T.lJ) af)) (pv 3)) (bL (aa (fF j4 (by rfl) T.jY kU (aa (pv 1) af)) af))) (pv 1)) (bL (aa (fF j4 (by rfl) T.jY kU (aa (pv 2) af)) af))) (pv 2))))))),?_⟩
 refine⟨_,rfl,iL T hh λu hu=>⟨u,g,rfl,hu,trivial,λa1 H1 s1 _ h1=>⟨_,rfl,iL T (hh.mono s1) λu hu=>⟨u,g,rfl,hu,trivial,λa2 H2 s2 _ h2=>?_⟩⟩⟩⟩;have dI:=s1.trans s2;refine⟨_,rfl,iL T (hh.mono dI) λu hu=>⟨u,g,rfl,hu,λv3 H3 s3 h3 _=>⟨v3,_,rfl,h3,trivial,λa4 H4 s4 _ h4=>?_⟩⟩⟩;have s34:=s3.trans s4;have s14:=dI.trans s34;have n1:=aI bE _ _ _ _ (s2.trans s34) h1;have n2:=aI bE _ _ _ _ s34 h2;refine⟨(by show 1<=sizeLine;decide),λp5 hp5=>⟨_,rfl,?_⟩⟩;have s5:=Sm.new (o:=.lst [.int 0]) hp5;refine lU (R:=dG) (ms:=[0]) i0 ⟨p5,_,rfl,aA,.cons rfl .nil⟩ (pF (aI bE _ _ _ _ s5 h4)) (by rw[aK,cK];show 1+_<=_;omega) λb6 H6 s6 hb6 h6=>?_;have s46:=s5.trans s6;refine⟨_,rfl,mW (aI bE _ _ _ _ s46 n1) ⟨(by show 1<=sizeLine;decide),λp7 hp7=>?_⟩⟩;have s7:=Sm.new (o:=.lst [.int ((keptNons g).length:Nat)]) hp7;refine lU (R:=dG) (ns:=[((keptNons g).length:Nat)]) i0 (aI i0 _ _ _ _ s7 h6) ⟨p7,_,rfl,aA,.cons rfl .nil⟩ (by rw[aX,aK,cK];show 1+_+1<=_;omega) λb8 H8 s8 hb8 h8=>⟨_,rfl,?_⟩;have s48:=(s46.trans s7).trans s8;refine lU (R:=dG) i0 h8 (pF (aI bE _ _ _ _ s48 n1)) (by rw[aX,aX,aK,aK,cK];show 1+_+1+_<=_;omega) λb9 H9 s9 hb9 h9=>?_;have s49:=s48.trans s9;refine⟨_,rfl,mW (aI bE _ _ _ _ s49 n2) ⟨(by show 1<=sizeLine;decide),λp10 aa2=>?_⟩⟩;have gK:=Sm.new (o:=.lst [.int ((keptRules g).length:Nat)]) aa2;refine lU (R:=dG) (ns:=[((keptRules g).length:Nat)]) i0 (aI i0 _ _ _ _ gK h9) ⟨p10,_,rfl,aA,.cons rfl .nil⟩ (by simp only[aX,aK];rw[cK];show 1+_+1+_+1<=_;omega) λb11 H11 s11 acf h11=>⟨_,rfl,?_⟩;have Q8:=(s49.trans gK).trans s11;refine lU (R:=dG) i0 h11 (pF (aI bE _ _ _ _ Q8 n2)) (by simp only[aX,aK];rw[cK];show 1+_+1+_+1+_<=_;omega) λb12 H12 aa3 aa4 h12=>?_;have sA:=s14.trans Q8;refine k.pure hh rfl ?_ (sA.trans aa3) (sA.free aa4) h12 (by simp only[aX,aK];show 1+_+1+_+1+_<=_;omega);show 0::toInts (flatGrammar (trimmed g)++(counted (keptNons g)++counted (keptRules g)))=_;unfold toInts counted;simp
theorem aa5(g:Grammar):eT .unnull g=if fits g then 0::toInts (flatGrammar (unnulled g))else[-6]:=rfl
theorem Q9:aP ["holder","grammar"] ["holder"] (aC BI):=aV
theorem aa6(T:Txt K mg)(B:Bs K mg base tb):br P w K mg base "full_answer" 17 ["holder"] (vW mg tb .unnull):=by
 have Jq:=QS (P:=P) (w:=w) T B;have y9:=IP (P:=P) (w:=w) T B;refine T.OV.fn.ok Q9 len0 (λcdv A outer s H vs Q E hr h=>?_);obtain⟨h,g,rfl,hh,k⟩:=h;have G:=hh.ok;have hA:=aa5 g;refine⟨_,(aq (FJ ⟨_,_,_,rfl,rfl,rfl⟩ rfl T.rL.gl T.rL.ex (λpn Ex=>(az (aN (i:=1) Q9.nd rfl (Or.inl rfl) (lM T.G8 Jq hr lH (aa (aO (K:=K) rfl (pv 0) rfl) af))))) (λpn e=>(az (aH (bL (aa (bB T.Oc) af))))))
   (az (aH (gj lC (bL (aa (bB T.lJ) af)) (aE T.BX y9 hr (aa (pv 1) af)))))),?_⟩
 refine⟨_,rfl,iL T hh λu hu=>⟨u,g,rfl,hu,λhf v1 H1 s1 h1 _=>?_,λhf v H1 s1 σ'=>?_⟩⟩
 .rw[hf,aj rfl]at hA
  have hfl:=Jl (Lp G hf);refine⟨(by show 1<=sizeLine;decide),λp hp=>⟨_,rfl,v1,_,rfl,cZ _ _ _ _ (Sm.new hp) h1,trivial,λa2 H2 s2 _ h2=>?_⟩⟩;have s0:=Sm.new (o:=.lst [.int 0]) hp;have sA:=(s1.trans s0).trans s2;refine lU (R:=dG) (ms:=[0]) i0 ⟨p,_,rfl,Sm.at s2 aA,.cons rfl .nil⟩ (pF h2) (by rw[aK,cK];show 1+_<=_;omega) λb H3 s3 hb h3=>?_;exact k.pure hh rfl (l:=0::gb (flatGrammar (unnulled g))) hA (sA.trans s3) (sA.free hb) h3 (by rw[bT,aK];omega)
 .rw[hf,ai (by decide)]at hA
  exact⟨(by show 1<=sizeLine;decide),λp hp=>k.pure hh rfl hA (s1.trans (Sm.new hp)) (s1.free hp) ⟨p,_,rfl,aA,.cons rfl .nil⟩ (by decide)⟩
theorem ux{dy:Addr}{gs:List (Str×V)}{x:V}(f:Str)(ha:H a=some (.ins C dx fs))(hb:H b=some (.ins D dy gs))(h1:fs.lookup f=some x)(h2:gs.lookup f=none):a≠b:=λe=>by
 rw[e,hb]at ha;cases ha;rw[h1]at h2;cases h2
structure Oth(H:Hp)(b:Addr):Prop where
 ex:∃D dy gs,H b=some (.ins D dy gs)/\gs.lookup ("owner":Str)=none/\gs.lookup ("size":Str)=none
theorem aa7(hh:fB mg tb H h g):Oth H h:=by
 obtain⟨dx,u,h1,_⟩:=hh.ex;refine⟨_,dx,_,h1,?_,?_⟩
 .unfold gY;rw[iV,ai (by decide+kernel)];rfl
 .unfold gY;rw[iV,ai (by decide+kernel)];rfl
theorem aa8{r:List Int}(hR:eO K mg H a u ns r):Oth H a:=by
 obtain⟨dx,k,h1,_⟩:=hR.ex;exact⟨_,dx,_,h1,lN _ _ (by decide+kernel) (by decide+kernel),lN _ _ (by decide+kernel) (by decide+kernel)⟩
theorem aa9(o:Oth H b)(s:aD [b] H H'):∀{v:V} {y:List Sym},bH bz H v y->bH bz H' v y:=λq=>by
 obtain⟨D,dy,gs,h,_⟩:=o.ex;exact Q0 Jh _ _ _ _ s ⟨D,dy,gs,h⟩ q
theorem aba(o:Oth H b)(s:aD [b] H H')(q:bF mg H v r):bF mg H' v r:=by
 obtain⟨a,dx,u,e,h1,h2⟩:=q;obtain⟨D,dy,gs,h,n1,_⟩:=o.ex;exact⟨a,dx,u,e,s.at h1 (λz=>ux "owner" h1 h (O6 _ _) n1 (cF.mp z)),aa9 o s h2⟩
theorem Ra(o:Oth H b)(s:aD [b] H H')(q:cR mg tb H v g):cR mg tb H' v g:=by
 obtain⟨⟨a,dx,u,e,h1,c,vs,e2,h2,h3⟩,t,G⟩:=q;obtain⟨D,dy,gs,h,n1,n2⟩:=id o.ex;exact⟨⟨a,dx,u,e,s.at h1 (λz=>ux "size" h1 h (B5 _ _) n2 (cF.mp z)),c,vs,e2,s.at h2 (λz=>by rw[cF.mp z,h]at h2;cases h2),gW (λ_ _ q=>aba o s q) h3⟩,s.tab _ t,G⟩
theorem za{r:List Int}(hR:eO K mg H a u ns r)(s:aD [a] H H')(hh:fB mg tb H h g):fB mg tb H' h g:=by
 obtain⟨dx,v,h1,h2⟩:=hh.ex;obtain⟨dy,k,h3,_⟩:=hR.ex;exact⟨dx,v,s.at h1 (λz=>ux "held" h1 h3 (ym _) (lN _ _ (by decide+kernel) (by decide+kernel)) (cF.mp z)),Ra (aa8 hR) s h2⟩
theorem zb{c:Addr}{r:List Int}(hR:eO K mg H a u ns r)(s:aD [a] H H')(hh:fB mg tb H h g)(q:kO mg H' h c):kO mg H h c:=by
 obtain⟨dy,k,h3,_⟩:=hR.ex;exact vV hh (λdx u h1=>s.at h1 (λz=>ux "held" h1 h3 (ym _) (lN _ _ (by decide+kernel) (by decide+kernel)) (cF.mp z))) (λb dx n ur h1=>s.at h1 (λz=>ux "size" h1 h3 (B5 _ _) (lN _ _ (by decide+kernel) (by decide+kernel)) (cF.mp z))) q
theorem Jr{r:List Int}(hh:fB mg tb H h g)(s:aD [h] H H')(hR:eO K mg H a u ns r):eO K mg H' a u ns r:=by
 obtain⟨dx,v,h1,_⟩:=hh.ex;obtain⟨dy,k,h3,h4,⟨b,e,h5⟩,h6⟩:=hR.ex;refine⟨dy,k,s.at h3 (λz=>ux "place" h3 h1 (tU _ _) ?_ (cF.mp z)),h4,⟨b,e,?_⟩,h6⟩
 .unfold gY;rw[iV,ai (by decide+kernel)];rfl
 .rcases h5 with(q|⟨o,q⟩)|q
  .exact .inl (.inl (s.at q λz=>by rw[cF.mp z,h1]at q;cases q))
  .exact .inl (.inr ⟨o,s.at q λz=>by rw[cF.mp z,h1]at q;cases q⟩)
  .exact .inr q
theorem Rb(hh:fB mg tb H h g)(s:Sm H H'){g':Grammar}(hv:cR mg tb H' v g'):∃dx u,H' h=some (.ins (adr mg "Holder") dx (gY u))/\fB mg tb (upd H' h (.ins (adr mg "Holder") dx (gY v))) h g'/\aD [h] H (upd H' h (.ins (adr mg "Holder") dx (gY v)))/\(vR H H' v->∀x,kO mg (upd H' h (.ins (adr mg "Holder") dx (gY v))) h x->H x=none):=by
 have hh':=hh.mono s;obtain⟨dx,u,h1,_⟩:=hh'.ex;have sx:=yV (fs':=gY v) h1;refine⟨dx,u,h1,⟨dx,v,aA,Ra (aa7 hh') sx hv⟩,(Sm.x s).trans sx,λnP x q=>?_⟩;obtain⟨dx',a',Q3,n',q1,q2⟩:=q;rw[aA]at q1;have q1:=Option.some.inj q1;injection q1 with _ _ q1
 have e:=Jk q1;subst e;obtain⟨⟨a2,dx2,u2,e2,w1,_⟩,_⟩:=hv;cases e2;have na:a'≠h:=ux "size" w1 h1 (B5 _ _) (by unfold gY;rw[iV,ai (by decide+kernel)];rfl);rw[aJ na]at q2;exact nP a' _ _ x _ rfl q2
theorem Rc:aP ["holder","k","grammar"] ["holder","k"] (aC BJ):=aV
theorem abb(T:Txt K mg)(B:Bs K mg base tb):br P w K mg base "take_answer" 22 ["holder","k"] (rW mg tb .take):=by
 have Jp:=QI (P:=P) (w:=w) T B;have Jq:=QS (P:=P) (w:=w) T B;refine T.OW.fn.ok Rc vX (λcdv A outer s H vs Q E hr h=>?_);obtain⟨h,n,g,rfl,hh,k⟩:=h;have G:=hh.ok;refine⟨_,(aq (cN (vj (fE EO (pv 1) (bB T.Od) (eK _)) (fE EO (pv 1) (bB T.X6) (eK _))) (az (aH (bL (aa (bB T.Ob) af)))) cP)
   (aq (FJ ⟨_,_,_,rfl,rfl,rfl⟩ rfl T.rL.gl T.rL.ex (λpn Ex=>(az (aN (i:=2) Rc.nd rfl (Or.inl rfl) (sW (fE oQ (pv 1) (bB T.Od) (eK _)) (aE T.Hf Jp hr (aa (aO (K:=K) rfl (pv 0) rfl) af)) (lM T.G8 Jq hr lH (aa (aO (K:=K) rfl (pv 0) rfl) af)))))) (λpn e=>(az (aH (bL (aa (bB T.Oc) af))))))
   (aq (qd (pv 0) (pv 2) rfl)
   (az (aH (bL (aa (bB T.lJ) af))))))),?_⟩
 have put:∀(v:V) (H1:Hp) (g':Grammar),Sm H H1->cR mg tb H1 v g'->vR H H1 v->lW (.take n) g=g'->eT (.take n) g=[0]->∃a C dx fs,V.ref h=.ref a/\H1 a=some (.ins C dx fs)/\mD K C/\jk K C "held"/\fs.length<1000/\([0]:List Int).length<=sizeLine/\∀p,upd H1 a (.ins C dx (cQ "held" v fs)) p=none->Q (.ref p) (upd (upd H1 a (.ins C dx (cQ "held" v fs))) p (.lst [.int 0])):=λv H1 g' s1 hv nP e1 e2=>by
  obtain⟨dx,u,q1,q2,q3,q4⟩:=Rb hh s1 hv;refine⟨h,_,dx,_,rfl,q1,T.rJ.cls,T.B3,Q2 _,(by show 1<=sizeLine;decide),λp hp=>?_⟩;rw[O9]at hp⊢;have s2:=Sm.new (o:=.lst [.int 0]) hp;refine k p _ (q3.trans (Sm.x s2)) (q3.free hp) ?_ (λx z=>.inr (q4 nP x (vV q2 (λdx u h=>Sm.at s2 h) (λa dx n ur h=>Sm.at s2 h) z))) ?_ ?_
  .rw[e1];exact q2.mono s2
  .rw[e2];exact⟨p,_,rfl,aA,.cons rfl .nil⟩
  .rw[e2];decide
 refine⟨_,rfl,rfl,_,rfl,?_⟩;by_cases c0:n=0
 .subst c0
  rw[cT rfl];refine aY (aY ⟨_,rfl,rfl,_,rfl,?_⟩);rw[cT rfl];refine bf ⟨_,rfl,iL T hh λu hu=>⟨u,g,rfl,hu,λv H1 s1 hv nP=>?_⟩⟩;obtain⟨a,C,dx,fs,w1,w2,w3,w4,w5,w6,w7⟩:=put v H1 _ s1 hv nP rfl rfl;exact⟨_,rfl,_,rfl,a,C,dx,fs,w1,w2,w3,w4,w5,w6,w7⟩
 .rw[bZ λz=>c0 (by cases z;rfl)]
  refine bf ⟨_,rfl,rfl,_,rfl,?_⟩;by_cases c1:n=1
  .subst c1
   rw[cT rfl];refine aY ⟨_,rfl,rfl,_,rfl,?_⟩;rw[bZ λz=>by cases z];refine aY ⟨_,rfl,iL T hh λu hu=>⟨u,g,rfl,hu,λhf v H1 s1 hv nP=>?_,λhf v H1 s1 σ'=>?_⟩⟩
   .have e1:Vaglrb.step {grammar:=g} (.take 1)=({grammar:=unnulled g},[0]):=by
     show(if fits g then(({grammar:=unnulled g}:Vaglrb.State),([0]:List Int))else({grammar:=g},[-6]))=_;rw[aj hf]
    obtain⟨a,C,dx,fs,w1,w2,w3,w4,w5,w6,w7⟩:=put v H1 (unnulled g) s1 hv nP (by unfold lW;rw[e1]) (by unfold eT;rw[e1]);exact⟨_,rfl,_,rfl,a,C,dx,fs,w1,w2,w3,w4,w5,w6,w7⟩
   .have e1:Vaglrb.step {grammar:=g} (.take 1)=({grammar:=g},[-6]):=by
     show(if fits g then(({grammar:=unnulled g}:Vaglrb.State),([0]:List Int))else({grammar:=g},[-6]))=_;rw[ai (by rw[hf];decide)]
    exact⟨(by show 1<=sizeLine;decide),λp hp=>k.pure hh (by unfold lW;rw[e1]) (l:=[-6]) (by unfold eT;rw[e1]) (s1.trans (Sm.new hp)) (s1.free hp) ⟨p,_,rfl,aA,.cons rfl .nil⟩ (by decide)⟩
  .rw[bZ λz=>c1 (by cases z;rfl)]
   have e1:Vaglrb.step {grammar:=g} (.take n)=({grammar:=g},[-5]):=by
    show(if n==0 then _ else if n==1 then _ else(({grammar:=g}:Vaglrb.State),([-5]:List Int)))=_;rw[ai (by rw[pK];exact c0),ai (by rw[pK];exact c1)]
   exact bf ⟨(by show 1<=sizeLine;decide),λp hp=>k.pure hh (by unfold lW;rw[e1]) (l:=[-5]) (by unfold eT;rw[e1]) (Sm.new hp) hp ⟨p,_,rfl,aA,.cons rfl .nil⟩ (by decide)⟩
theorem Rf:∀{l:List Int},(l.any λn=>decide (n<0))=false->gb (toNats l)=l
 |[],_=>rfl
 |x::l,h=>by
  rw[jx,JA]at h;have h1:=Dl h.1;have ih:=Rf h.2;show((x.toNat:Nat):Int)::gb (toNats l)=x::l;rw[ih,show((x.toNat:Nat):Int)=x by omega]
theorem CT:aP ["holder","row","number","grammar"] ["holder","row"] (aC BA):=aV
theorem abc(T:Txt K mg)(B:Bs K mg base tb):br P w K mg base "load_answer" 6 ["holder","row"] (λvs H Q _=>∃h u l g,vs=[.ref h,u]/\fB mg tb H h g/\ay dG H u l/\l.length<=100000/\Done mg tb h (.load l) g H Q):=by
 have abd:=aax (P:=P) (w:=w) T B;refine T.OJ.fn.ok CT (λ_ _ _ _ ⟨_,_,_,_,e,_⟩=>by rw[e];rfl) (λcdv A outer s H vs Q E hr h=>?_);obtain⟨h,u,l,g,rfl,hh,hl,hlen,k⟩:=h;have G:=hh.ok;obtain⟨_,_,_,hgr⟩:=hh.ex;refine⟨_,(aq (cN (di (fF (AB rfl) (by rfl) T.BL boot_any (aa (gU (own:=[("number",2)]) rfl CT.nd (d8 (pv 1)) (eu (N:=["holder","row","number","grammar"]) (sc:=aC BA) (by decide+kernel)) (λs H C cl fp=>(bh (i:=2) CT.nd rfl (Or.inl rfl))) (λs H C cl fp=>fZ) (λs H C cl fp=>(lA An (pv 2) bK (eK _)))) af))) (az (aH (bL (aa (bB T.XY) af)))) cP)
   (aq (FJ ⟨_,_,_,rfl,rfl,rfl⟩ rfl T.rK.gl T.rK.ex (λpn Ex=>(az (aN (i:=3) CT.nd rfl (Or.inl rfl) (lM T.OB abd hr lH (aa (pv 1) af))))) (λpn e=>(az (aH (bL (aa (bB T.XZ) af))))))
   (aq (qd (pv 0) (pv 3) rfl)
   (az (aH (bL (aa (bB T.lJ) af))))))),?_⟩
 refine oZ (λn=>some (decide (n<0))) (ms:=l) (R:=dG) (G:=λ_=>bA) (λQ' k'=>⟨_,rfl,k' _ _ (Sm.refl _) hl⟩) i0 (by rw[cK];omega) (λ_=>dH) (λD=>jm qo D) (λH1 D x m s1 hD hm hx H2 Nx s2 hl kF kT=>?_) λD zs H1 hD q1 s1 q3=>?_
 .cases hx
  exact⟨rfl,jr ⟨_,rfl,_,_,rfl,rfl,kT _ _ _ rfl (Sm.refl _) rfl⟩⟩
 .rw[filterMap_some]at q3
  refine B7 ⟨D,zs,rfl,q1,q3⟩ ⟨_,rfl,?_⟩;rw[any_map];cases Js:l.any (λn=>decide (n<0))with
  |true=>
   have e1:Vaglrb.step {grammar:=g} (.load l)=({grammar:=g},[-1]):=aj Js;exact bf ⟨(by show 1<=sizeLine;decide),λp hp=>k.pure hh (by unfold lW;rw[e1]) (l:=[-1]) (by unfold eT;rw[e1]) (s1.trans (Sm.new hp)) (s1.free hp) ⟨p,_,rfl,aA,.cons rfl .nil⟩ (by decide)⟩
  |false=>
   have e0:Vaglrb.step {grammar:=g} (.load l)=(match Vaglrc.readGrammar (toNats l)with|some g=>(({grammar:=g}:Vaglrb.State),([0]:List Int))|none=>({grammar:=g},[-2])):=ai (by rw[Js];decide);rw[TR]at e0;have hu1:rIL K H1 u (gb (toNats l)):=by rw[Rf Js];exact aah (aI i0 _ _ _ _ s1 hl)
   refine aY ⟨_,rfl,u,toNats l,rfl,hu1,s1.tab _ hgr.2.1,λg' hg' v H2 s2 hv nP=>?_,λhn v H2 s2 σ'=>?_⟩
   .rw[hg']at e0
    have e1:Vaglrb.step {grammar:=g} (.load l)=({grammar:=g'},[0]):=e0;obtain⟨dx,w,w1,w2,w3,w4⟩:=Rb hh (s1.trans s2) hv;refine⟨_,rfl,_,rfl,h,_,dx,_,rfl,w1,T.rJ.cls,T.B3,Q2 _,(by show 1<=sizeLine;decide),λp hp=>?_⟩;rw[O9]at hp⊢;have s3:=Sm.new (o:=.lst [.int 0]) hp;refine k p _ (w3.trans (Sm.x s3)) (w3.free hp) ?_ (λx z=>.inr (w4 (λa C dx c n e1 e2=>s1.free (nP a C dx c n e1 e2)) x (vV w2 (λdx u h=>Sm.at s3 h) (λa dx n ur h=>Sm.at s3 h) z))) ?_ ?_
    .unfold lW;rw[e1];exact w2.mono s3
    .unfold eT;rw[e1];exact⟨p,_,rfl,aA,.cons rfl .nil⟩
    .unfold eT;rw[e1];show 1<=4000;decide
   .rw[hn]at e0
    have e1:Vaglrb.step {grammar:=g} (.load l)=({grammar:=g},[-2]):=e0;have dI:=s1.trans s2;exact⟨(by show 1<=sizeLine;decide),λp hp=>k.pure hh (by unfold lW;rw[e1]) (l:=[-2]) (by unfold eT;rw[e1]) (dI.trans (Sm.new hp)) (dI.free hp) ⟨p,_,rfl,aA,.cons rfl .nil⟩ (by decide)⟩
def SDone(K:Frag)(mg:Str->Option Value)(tb h a:Addr)(u:V)(ns:List Int)(c:Vaglrb.Call)(g:Grammar)(t:List Int)(H:Hp)(Q:VK):Prop:=∀p H',aD [h,a] H H'->H p=none->fB mg tb H' h (lW c g)->(∀x,kO mg H' h x->kO mg H h x\/H x=none)->eO K mg H' a u ns t->ay dG H' (.ref p) (eT c g)->(eT c g).length<=4000->Q (.ref p) H'
def abe(K:Frag)(mg:Str->Option Value)(tb:Addr):Sp:=λvs H Q _=>∃(h a:Addr) (u:V) (ns l t:List Int) (c:List (List Int)) (cc:Vaglrb.Call) (g:Grammar),vs=[.ref h,.ref a]/\fB mg tb H h g/\eO K mg H a u ns l/\sQ l c t/\VaglrbNeutral.callOf c=some cc/\l.length<=100000/\SDone K mg tb h a u ns cc g t H Q
theorem Jt(s:aD [h] H H'):aD [h,a] H H':=s.mono λb hb=>by rw[cF.mp hb];exact aZ
theorem j5(s:aD [a] H H'):aD [h,a] H H':=s.mono λb hb=>bg _ hb
theorem vY:aP ["holder","reader","number","answer_of"] ["holder","reader"] (aC tP):=aV
theorem abf(T:Txt K mg)(B:Bs K mg base tb):br P w K mg base "next_answer" 25 ["holder","reader"] (abe K mg tb):=by
 have CU:=Jd (P:=P) (w:=w) T B;have abg:=aap (P:=P) (w:=w) T B;have abh:=abc (P:=P) (w:=w) T B;refine T.OX.fn.ok vY (λ_ _ _ _ ⟨_,_,_,_,_,_,_,_,_,e,_⟩=>by rw[e];rfl) (λcdv A outer s H vs Q E hr h=>?_);obtain⟨h,a,u,ns,l,t,c,cc,g,rfl,hh,hR,abi,dY,hlen,k⟩:=h;obtain⟨dx0,k0,e0,_⟩:=id hR.ex;have nf1:=lN u (.int (k0:Nat)) (m:="next_number") (by decide+kernel) (by decide+kernel);cases abi with
 |load m r h0 h1=>
  have dY:some (Vaglrb.Call.load (r.take m.toNat))=some cc:=dY;cases dY;refine⟨_,aq (aN (i:=2) vY.nd rfl (Or.inl rfl) (oU (pv 1) T.fu.cls T.lK.me CU (hr.mono (by decide)) T.lK.bd .nil fP))
   (aq (cN (fE oQ (pv 2) (bB T.GU) (eK _)) (az (aH (aE T.OJ abh hr (aa (pv 0) (aa (oU (pv 1) T.fu.cls T.Hg.me abg (hr.mono (by decide)) T.Hg.bd .nil fP) af))))) cP) xr),?_⟩
  refine⟨_,rfl,a,dx0,_,rfl,e0,nf1,a,u,ns,_,_,rfl,hR,λH1 cB gC=>?_⟩;have m6:=za hR cB hh;obtain⟨dx1,k1,e1,_⟩:=id gC.ex;refine⟨_,rfl,rfl,_,rfl,?_⟩;rw[cT rfl];refine bf ⟨_,rfl,_,rfl,a,dx1,_,rfl,e1,lN _ _ (by decide+kernel) (by decide+kernel),a,u,ns,m,r,rfl,gC,h0,h1,λp H2 eS hp hl jJ=>?_⟩;have hh2:=za gC eS m6;have hrl:(r.take m.toNat).length<=100000:=by
   rw[bT,bT]at hlen;rw[pL];omega
  refine⟨h,_,r.take m.toNat,g,rfl,hh2,hl,hrl,λp3 H3 fS hp3 w1 w0 w2 w3=>?_⟩;have sx:aD [h,a] H H3:=((j5 cB).trans (j5 eS)).trans (Jt fS);exact k p3 H3 sx ((j5 cB |>.trans (j5 (h:=h) eS)).free hp3) w1 (λx z=>(w0 x z).imp (λz=>zb hR cB hh (zb gC eS m6 z)) λz=>(j5 cB |>.trans (j5 (h:=h) eS)).free z) (Jr hh2 fS jJ) w2 w3
 |plain p t hp=>
  have go:∀{x:Str} {st:Stmt} {j:Nat} (At:FnAt K mg x st ["holder"] (adr mg x)) (F:cH P w K mg base eB j (adr mg x) (fdOf K (adr mg x)) ["holder"] (vW mg tb cc)),j<=24->p≠0->kAt [(1,Value.ref (adr mg "grammar_answer")),(7,Value.ref (adr mg "extent_answer")),(8,Value.ref (adr mg "trim_answer")),(9,Value.ref (adr mg "full_answer"))] p=some (.ref (adr mg x))->
    ∃t,fX (mF eB P w K mg base ["holder","reader","number","answer_of"] "next_answer" (aC tP) (adr mg "next_answer") cdv A outer s H E).nox (iX tP) t/\t {nx:=λ_ H'=>Q .non H',rt:=Q} (L2.start ["holder","reader","number","answer_of"] [.ref h,.ref a]) H:=by
   intro x st j At F hj mY CV;refine⟨_,aq (aN (i:=2) vY.nd rfl (Or.inl rfl) (oU (pv 1) T.fu.cls T.lK.me CU (hr.mono (by decide)) T.lK.bd .nil fP))
    (aq (cN (fE oQ (pv 2) (bB T.GU) (eK _)) xr cP)
    (aq (cN (fE (M5 T.Hi) (pv 2) (jF T.Hh) rfl) (aq (aN (i:=3) vY.nd rfl (Or.inl rfl) (M6 T.Hi (jF T.Hh) (pv 2) (λ_ _=>rfl)))
     (az (aH (AO (i:=3) F (hr.mono hj) rfl (Or.inl rfl) At.fn.kp At.bd .nil fP (aa (pv 0) af))))) cP) xr)),?_⟩
   refine⟨_,rfl,a,dx0,_,rfl,e0,nf1,a,u,ns,_,_,rfl,hR,λH1 cB gC=>?_⟩;have m6:=za hR cB hh;refine⟨_,rfl,rfl,_,rfl,?_⟩;rw[bZ λz=>mY (by cases z;rfl)];refine aY ⟨_,rfl,_,rfl,rfl,_,rfl,?_⟩;rw[CV];refine bf ⟨_,rfl,_,_,.ref (adr mg x),rfl,rfl,CV,rfl,rfl,_,rfl,h,g,rfl,m6,λp3 H3 fS hp3 w1 w0 w2 w3=>?_⟩;exact k p3 H3 ((j5 cB).trans (Jt fS)) ((j5 (h:=h) cB).free hp3) w1 (λx z=>(w0 x z).imp (λz=>zb hR cB hh z) λz=>(j5 (h:=h) cB).free z) (Jr m6 fS gC) w2 w3
  rcases hp with rfl|rfl|rfl|rfl
  .have dY:some Vaglrb.Call.grammar=some cc:=dY
   cases dY;exact go T.OL (aaD T B) (by decide) (by decide) rfl
  .have dY:some Vaglrb.Call.extent=some cc:=dY
   cases dY;exact go T.OT (aaX T B) (by decide) (by decide) rfl
  .have dY:some Vaglrb.Call.trim=some cc:=dY
   cases dY;exact go T.OU (aa1 T B) (by decide) (by decide) rfl
  .have dY:some Vaglrb.Call.unnull=some cc:=dY
   cases dY;exact go T.OV (aa6 T B) (by decide) (by decide) rfl
 |num p x0 t hp=>
  have go:∀{x y:Str} {st:Stmt} {j:Nat} {cf:Int->Vaglrb.Call} (At:FnAt K mg x st ["holder",y] (adr mg x)) (F:cH P w K mg base eB j (adr mg x) (fdOf K (adr mg x)) ["holder",y] (rW mg tb cf)),j<=24->cf x0=cc->p≠0->kAt [(1,Value.ref (adr mg "grammar_answer")),(7,Value.ref (adr mg "extent_answer")),(8,Value.ref (adr mg "trim_answer")),(9,Value.ref (adr mg "full_answer"))] p=none->
    kAt [(2,Value.ref (adr mg "set_answer")),(3,Value.ref (adr mg "first_answer")),(4,Value.ref (adr mg "follow_answer")),(5,Value.ref (adr mg "left_answer")),(6,Value.ref (adr mg "least_answer")),(10,Value.ref (adr mg "take_answer"))] p=some (.ref (adr mg x))->
    ∃t,fX (mF eB P w K mg base ["holder","reader","number","answer_of"] "next_answer" (aC tP) (adr mg "next_answer") cdv A outer s H E).nox (iX tP) t/\t {nx:=λ_ H'=>Q .non H',rt:=Q} (L2.start ["holder","reader","number","answer_of"] [.ref h,.ref a]) H:=by
   intro x y st j cf At F hj hcf mY hno CV;subst hcf;refine⟨_,aq (aN (i:=2) vY.nd rfl (Or.inl rfl) (oU (pv 1) T.fu.cls T.lK.me CU (hr.mono (by decide)) T.lK.bd .nil fP))
    (aq (cN (fE oQ (pv 2) (bB T.GU) (eK _)) xr cP)
    (aq (cN (fE (M5 T.Hi) (pv 2) (jF T.Hh) rfl) xr cP)
    (aq (aN (i:=3) vY.nd rfl (Or.inl rfl) (M6 T.Yc (jF T.Yb) (pv 2) (λ_ _=>rfl)))
     (az (aH (AO (i:=3) F (hr.mono hj) rfl (Or.inl rfl) At.fn.kp At.bd .nil fP (aa (pv 0) (aa (oU (pv 1) T.fu.cls T.lK.me CU (hr.mono (by decide)) T.lK.bd .nil fP) af)))))))),?_⟩
   refine⟨_,rfl,a,dx0,_,rfl,e0,nf1,a,u,ns,_,_,rfl,hR,λH1 cB gC=>?_⟩;have m6:=za hR cB hh;obtain⟨dx1,k1,e1,_⟩:=id gC.ex;refine⟨_,rfl,rfl,_,rfl,?_⟩;rw[bZ λz=>mY (by cases z;rfl)];refine aY ⟨_,rfl,_,rfl,rfl,_,rfl,?_⟩;rw[hno];refine aY ⟨_,rfl,_,_,.ref (adr mg x),rfl,rfl,CV,rfl,rfl,_,rfl,_,rfl,a,dx1,_,rfl,e1,lN _ _ (by decide+kernel) (by decide+kernel),a,u,ns,_,_,rfl,gC,λH2 eS jJ=>?_⟩;have hh2:=za gC eS m6;refine⟨h,x0,g,rfl,hh2,λp3 H3 fS hp3 w1 w0 w2 w3=>?_⟩;exact k p3 H3 (((j5 cB).trans (j5 eS)).trans (Jt fS)) ((j5 (h:=h) cB |>.trans (j5 eS)).free hp3) w1 (λx z=>(w0 x z).imp (λz=>zb hR cB hh (zb gC eS m6 z)) λz=>(j5 (h:=h) cB |>.trans (j5 eS)).free z) (Jr hh2 fS jJ) w2 w3
  rcases hp with rfl|rfl|rfl|rfl|rfl|rfl
  .exact go (cf:=.set) T.ON (aaJ T B) (by decide) (Option.some.inj (show some (Vaglrb.Call.set x0)=some cc from dY)) (by decide) rfl rfl
  .exact go (cf:=.first) T.OO (aaO T B) (by decide) (Option.some.inj (show some (Vaglrb.Call.first x0)=some cc from dY)) (by decide) rfl rfl
  .exact go (cf:=.follow) T.OP (aaP T B) (by decide) (Option.some.inj (show some (Vaglrb.Call.follow x0)=some cc from dY)) (by decide) rfl rfl
  .exact go (cf:=.left) T.OQ (aaS T B) (by decide) (Option.some.inj (show some (Vaglrb.Call.left x0)=some cc from dY)) (by decide) rfl rfl
  .exact go (cf:=.least) T.OS (aaU T B) (by decide) (Option.some.inj (show some (Vaglrb.Call.least x0)=some cc from dY)) (by decide) rfl rfl
  .exact go (cf:=.take) T.OW (abb T B) (by decide) (Option.some.inj (show some (Vaglrb.Call.take x0)=some cc from dY)) (by decide) rfl rfl
theorem abj{f:Nat}{l:List Int}{cs:List (List (List Int))}(h:PyFlat.calls PyVaglrb.shape f l=some cs):(l=[]/\cs=[])\/∃f' c t oj,PyFlat.call PyVaglrb.shape l=some (c,t)/\PyFlat.calls PyVaglrb.shape f' t=some oj/\cs=c::oj/\l≠[]:=by
 cases l with
 |nil=>
  have h:some []=some cs:=by cases f<;>exact h
  cases h;exact .inl ⟨rfl,rfl⟩
 |cons p r=>
  cases f with
  |zero=>cases h
  |succ f=>
   have h:(match PyFlat.call PyVaglrb.shape (p::r)with|none=>none|some (c,t)=>match PyFlat.calls PyVaglrb.shape f t with|none=>none|some cs=>some (c::cs))=some cs:=h;cases e:PyFlat.call PyVaglrb.shape (p::r)with
   |none=>rw[e]at h;cases h
   |some ct=>
    obtain⟨c,t⟩:=ct;rw[e]at h;dsimp only at h;cases e2:PyFlat.calls PyVaglrb.shape f t with
    |none=>rw[e2]at h;cases h
    |some oj=>
     rw[e2]at h;have h:some (c::oj)=some cs:=h;cases h;exact .inr ⟨f,c,t,oj,rfl,e2,rfl,by simp⟩
theorem call_of{l t:List Int}(h:sQ l c t):∃cc,VaglrbNeutral.callOf c=some cc:=by
 cases h with
 |load m r h0 h1=>exact⟨_,rfl⟩
 |plain p t hp=>rcases hp with rfl|rfl|rfl|rfl<;>exact⟨_,rfl⟩
 |num p x t hp=>rcases hp with rfl|rfl|rfl|rfl|rfl|rfl<;>exact⟨_,rfl⟩
theorem abk{l t:List Int}(h:sQ l c t):t.length<=l.length:=by
 cases h with
 |load m r h0 h1=>rw[pN,bT,bT];omega
 |plain p t hp=>rw[bT];omega
 |num p x t hp=>rw[bT,bT];omega
theorem abl{cc:Vaglrb.Call}(h:VaglrbNeutral.callOf c=some cc):VaglrbNeutral.step {grammar:=g} c=({grammar:=lW cc g},eT cc g):=by
 unfold VaglrbNeutral.step;rw[h];rfl
theorem abm{c:Addr}(hh:fB mg tb H h g)(q:kO mg H h c):∃xs,H c=some (.lst xs):=by
 obtain⟨dx,u,h1,⟨a,dxg,ur,rfl,h2,c0,vs,rfl,h3,_⟩,_⟩:=hh.ex;obtain⟨dx',a',Q3,n',q1,q2⟩:=q;rw[h1]at q1;have q1:=Option.some.inj q1;injection q1 with _ _ q1
 have e:=Jk q1;cases e;rw[h2]at q2;have q2:=Option.some.inj q2;injection q2 with _ _ q2
 have e:=IT q2;cases e;exact⟨vs,h3⟩
theorem Rg(hh:fB mg tb H h g)(hr:∀c,kO mg H h c->c≠D)(hD:H D=some (.lst xs))(s:aD [D] H H'):fB mg tb H' h g/\∀c,kO mg H' h c->c≠D:=by
 have keep:∀b C dx fs,H b=some (.ins C dx fs)->H' b=some (.ins C dx fs):=λb C dx fs hb=>s.at hb λz=>by rw[cF.mp z,hD]at hb;cases hb
 have hex:∀b∈[D],∃ys,H b=some (.lst ys):=λb hb=>by rw[cF.mp hb];exact⟨_,hD⟩
 refine⟨?_,λc q=>hr c (vV hh (λdx u h1=>keep _ _ _ _ h1) (λa dx n ur h1=>keep _ _ _ _ h1) q)⟩;obtain⟨dx,u,h1,⟨a,dxg,ur,rfl,h2,c0,vs,rfl,h3,h4⟩,t,G⟩:=hh.ex;have hc:=hr c0 ⟨dx,a,dxg,_,h1,h2⟩;exact⟨dx,_,keep _ _ _ _ h1,⟨a,dxg,_,rfl,keep _ _ _ _ h2,lO ju hex s (λz=>hc (cF.mp z)) ⟨c0,vs,rfl,h3,h4⟩⟩,s.tab _ t,G⟩
theorem Rh{H2:Hp}{c:Addr}{l r:List Int}{ys:List V}(hS:aU K H c (l.map V.int))(hD:H D=none)(hD2:H2 D=some (.lst xs))(hR:eO K mg H2 a (.ref c) l r):eO K mg (upd H2 D (.lst ys)) a (.ref c) l r:=by
 obtain⟨dx,k,q1,q2,⟨b,q3,q4⟩,q5⟩:=hR.ex;cases q3;have na:a≠D:=λz=>by rw[z,hD2]at q1;cases q1
 refine⟨dx,k,by rw[aJ na];exact q1,q2,⟨c,rfl,?_⟩,q5⟩;have yX:c≠D->aU K (upd H2 D (.lst ys)) c (l.map V.int):=λnb=>by
  rcases q4 with(q|⟨o,q⟩)|q
  .exact .inl (.inl (by rw[aJ nb];exact q))
  .exact .inl (.inr ⟨o,by rw[aJ nb];exact q⟩)
  .exact .inr q
 rcases hS with(q|⟨o,q⟩)|q
 .exact yX (fN q hD)
 .exact yX (fN q hD)
 .exact .inr q
def spAns(K:Frag)(tb:Addr):Sp:=λvs H Q _=>∃(c:Addr) (l:List Int) (cs:List (List (List Int))),vs=[.ref c]/\aU K H c (l.map V.int)/\l.length<=17000/\TabAt tb H/\PyFlat.calls PyVaglrb.shape l.length l=some cs/\cs.length<=100/\∀(p:Addr) (H':Hp),H' p=some (.lst ((PyFlat.told (PyFlat.played VaglrbNeutral.step VaglrbNeutral.start cs)).map V.int))->Q (.ref p) H'
theorem zc:aP ["calls","holder","reader","told","answer"] ["calls"] (aC GR):=aV
theorem abn(T:Txt K mg)(B:Bs K mg base tb):br P w K mg base "answers" 26 ["calls"] (spAns K tb):=by
 have abo:=aaB (P:=P) (w:=w) T B;have Ji:=QV (P:=P) (w:=w) T B;have yW:=Jc (P:=P) (w:=w) T B;have abp:=abf (P:=P) (w:=w) T B;refine T.OY.fn.ok zc (λ_ _ _ _ ⟨_,_,_,e,_⟩=>by rw[e];rfl) (λcdv A outer s H vs Q E hr h=>?_);obtain⟨c,l,cs,rfl,hS,hlen,ht,nK,acg,k⟩:=h;refine⟨_,(aq (aN (i:=1) zc.nd rfl (Or.inl rfl) (Vd T.rJ.mk_ abo (hr.mono (by decide)) rfl T.rJ.gl T.rJ.bd .nil fP))
   (aq (aN (i:=2) zc.nd rfl (Or.inl rfl) (qf T.fu.mk_ Ji (hr.mono (by decide)) rfl T.fu.gl T.fu.bd .nil fP (aa (pv 0) af)))
   (aq (aN (i:=3) zc.nd rfl (Or.inl rfl) (bL af))
   (aq (EK eF (sV (di (oU (pv 2) T.fu.cls T.tS.me yW (hr.mono (by decide)) T.tS.bd .nil fP)))
    (aq (aN (i:=4) zc.nd rfl (Or.inl rfl) (aE T.OX abp hr (aa (pv 1) (aa (pv 2) af))))
   (aq (gi (gm gc kc kW jU (pv 3) (aa (fF j4 (by rfl) T.jY kU (aa (pv 4) af)) af)))
   (az (gi (gm gc qO uJ uZ (pv 3) (aa (pv 4) af)))))))
   (az (aH (pv 3))))))),?_⟩
 intro h dx hh0 hdx bI;have s0:Sm H (upd (upd H dx (.own h)) h (.ins (adr mg "Holder") dx [])):=by
  have s1:Sm H (upd H dx (.own h)):=Sm.new hdx;exact s1.trans (Sm.new (by rw[aJ (cS bI)];exact hh0))
 refine⟨h,dx,rfl,aA,s0.tab _ ht,λH1 cB m6=>⟨rfl,_,rfl,?_⟩⟩;have s1:Sm H H1:=aD.lt ((Sm.x s0).trans cB) λb hb=>by rw[cF.mp hb];exact .inl hh0
 intro a dy ha hdy abq;refine⟨a,dy,_,rfl,aA,rfl,?_⟩;have s2:=CM (C:=adr mg "Reader") (fs:=jn (.ref c) (.int 0)) ha hdy abq;have jJ:eO K mg _ a (.ref c) l l:=⟨dy,0,aA (H:=upd (upd H1 dy (.own a)) a (.ins (adr mg "Reader") dy [])),cM _,⟨c,rfl,Sm.FN (s1.trans s2) (by simp) hS⟩,rfl⟩;generalize upd (upd (upd H1 dy (.own a)) a (.ins (adr mg "Reader") dy [])) a (.ins (adr mg "Reader") dy (jn (.ref c) (.int 0)))=H2 at s2 jJ⊢;have hh2:=m6.mono s2;refine⟨cM _,λD hD=>?_⟩;have dI:=s1.trans s2;have hD0:H D=none:=dI.free hD;have s3:=Sm.new (o:=.lst []) hD;refine Hr (λm σ H3=>∃(x4:Option V) (r:List Int) (f:Nat) (oj:List (List (List Int))) (g:Grammar) (tl:List Int),m=oj.length/\σ=[some (.ref c),some (.ref h),some (.ref a),some (.ref D),x4]/\fB mg tb H3 h g/\(∀x,kO mg H3 h x->x≠D)/\eO K mg H3 a (.ref c) l r/\H3 D=some (.lst (tl.map V.int))/\PyFlat.calls PyVaglrb.shape f r=some oj/\r.length<=17000/\tl.length+4001*oj.length<=400100/\tl++PyFlat.told (PyFlat.played VaglrbNeutral.step {grammar:=g} oj)=PyFlat.told (PyFlat.played VaglrbNeutral.step VaglrbNeutral.start cs))
  ⟨_,none,l,_,cs,{nons:=1,rules:=[]},[],rfl,rfl,hh2.mono s3,λx q=>?_,jJ.mono s3,aA,nK,hlen,by simp;omega,rfl⟩ ?_ (λσ H Q Q' hq ⟨v,e,b,tr,fs,w1,w2,w3,w4,w5,w6,w7,w8,w9,w10,w11,w12⟩=>⟨v,e,b,tr,fs,w1,w2,w3,w4,w5,w6,w7,w8,w9,w10,w11,hq _ _ w12⟩)
 .obtain⟨ys,e⟩:=abm hh2 (vV hh2 (λdx u h=>Sm.at s3 h) (λa dx n ur h=>Sm.at s3 h) q)
  exact fN e hD
 .rintro m σ H3 ⟨x4,r,f,oj,g,tl,rfl,rfl,hh3,hra,iJ,hD3,abr,hrl,htl,hW⟩
  obtain⟨dx3,k3,e3,_⟩:=id iJ.ex;refine⟨_,rfl,a,dx3,_,rfl,e3,lN _ _ (by decide+kernel) (by decide+kernel),a,.ref c,l,r,rfl,iJ,_,rfl,?_⟩;rcases abj abr with⟨rfl,rfl⟩|⟨f',c0,t,cs2,hc0,dD,rfl,abt⟩
  .refine aY ⟨_,rfl,k D H3 ?_⟩
   have hW:tl++[]=_:=hW;rw[fW]at hW;rw[<-hW];exact hD3
  .have hem:r.isEmpty=false:=by cases r with
    |nil=>exact absurd rfl abt
    |cons _ _=>rfl
   rw[hem];have hci:=T3 hc0;obtain⟨cc,dY⟩:=call_of hci;have dj:=abl (g:=g) dY;refine bf ⟨_,rfl,_,rfl,h,a,.ref c,l,r,t,c0,cc,g,rfl,hh3,iJ,hci,dY,by omega,λp H4 sx4 hp hh4 hr4 hR4 abu hal=>?_⟩;have nDh:D∉[h,a]:=λz=>by
    rcases bq.mp z with z|z
    .obtain⟨dx,u,q,_⟩:=hh3.ex
     rw[<-z,hD3]at q;cases q
    .rw[<-cF.mp z,hD3]at e3;cases e3
   have hD4:H4 D=some (.lst (tl.map V.int)):=sx4.at hD3 nDh;have abv:∀x,kO mg H4 h x->x≠D:=λx q=>(hr4 x q).elim (λq=>hra x q) λq e=>by rw[e,hD3]at q;cases q
   obtain⟨p',ws,ep,hp4,hws⟩:=abu;cases ep;have nDp:D≠p:=λz=>by rw[<-z,hD3]at hp;cases hp
   have abw:=paired_ints hws;subst abw;rw[bT]at htl;refine⟨_,rfl,pq hD4,_,rfl,mW (R:=dG) (xs:=eT cc g) ⟨p,_,rfl,hp4,hws⟩ (yw hD4 (by rw[aK,cK];omega) ?_)⟩;have sx5:aD [D] H4 (upd H4 D (.lst (tl.map V.int++[.int ((eT cc g).length:Nat)]))):=aD.wr (aD.refl _ _) (.inr (cF.mpr rfl)) (by rw[hD4];trivial) trivial;obtain⟨hh5,abx⟩:=Rg hh4 abv hD4 sx5;have hR5:=Rh (ys:=tl.map V.int++[.int ((eT cc g).length:Nat)]) hS hD0 hD4 hR4;have hp5:upd H4 D (.lst (tl.map V.int++[.int ((eT cc g).length:Nat)])) p=some (.lst ((eT cc g).map V.int)):=by rw[aJ (cS nDp)];exact hp4
   refine⟨_,rfl,pq aA,_,rfl,PB aA hp5 (by rw[aX,aK,aK,cK];show _+1+_<=_;omega) ?_⟩;have f9:aD [D] (upd H4 D (.lst (tl.map V.int++[.int ((eT cc g).length:Nat)]))) _:=aD.wr (o:=.lst (tl.map V.int++[.int ((eT cc g).length:Nat)]++(eT cc g).map V.int)) (aD.refl [D] _) (.inr (cF.mpr rfl)) (by rw[aA];trivial) trivial;obtain⟨hh6,aby⟩:=Rg hh5 abx aA f9;have hR6:=Rh (ys:=tl.map V.int++[.int ((eT cc g).length:Nat)]++(eT cc g).map V.int) hS hD0 aA hR5;refine⟨cs2.length,(by rw[bT];omega),_,t,f',cs2,lW cc g,tl++(((eT cc g).length:Int)::eT cc g),rfl,rfl,hh6,aby,hR6,?_,dD,?_,?_,?_⟩
   .rw[aA]
    simp
   .have:=abk hci
    omega
   .rw[aX,bT]
    omega
   .rw[<-hW]
    show _=tl++PyFlat.told ((VaglrbNeutral.step {grammar:=g} c0).2::PyFlat.played VaglrbNeutral.step (VaglrbNeutral.step {grammar:=g} c0).1 cs2);rw[dj];unfold PyFlat.told;rw[j9,jy]
end
end GP
namespace L2
open PySem PySem.Spec PyProof.Rows
open PySem.W (WData Codec OpenSpec Well WellAll ReadsW ReadsAllW CodeHd tabObj tabIn)
theorem abz{P:Program}{w:World}{K:Frag}{mg mb:Str->Option Value}{k:Nat}{fa c tb:Addr}{fd:FuncData}{ps:List Str}{sp:Sp}{s₁:Shared}{vals:List Value}{ds:List WData}{R:PySem.W.WRecords}{cl:Str->Option Addr}{d0:WData}
  (KX:K.In s₁.heap)(hns:s₁.heap.Ns mainGlobals mg)(hb:s₁.heap.Ns builtinsNs mb)(hbb:∀x:Str,x≠"__name__"->mb x=bootBuiltins x)(abA:s₁.heap.NoLimit)(hg:s₁.gens= #[])
  (hbm:Bm mg s₁.heap)(fY:CodeHd s₁.heap c tb)(nV:s₁.heap.get? tb=some (tabObj #[]))(hKt:K.lookup tb=none)
  (oh:WellAll w.params s₁.heap vals ds)(dS:mP ds=true)(hwt:∀d∈ds,d.weight<=1048576)(hr:dB k callerA)
  (F:∀base:Heap,K.In base->base.Ns mainGlobals mg->Bm mg base->CodeHd base c tb->cH P w K mg base eB k fa fd ps sp)(abB:∀(s:Shared) (us:List Value),us.length=ps.length->BindsTo s fd ⟨us,[]⟩ (ps.zip us))(hlen:ds.length=ps.length)
  (gS:∀(H0 H:Hp) (xs:List V),(∀b o,H0 b=some o->H b=some o)->TabAt tb H->mO K H0 xs ds->sp xs H (λv H'=>Dw K H' v d0) λ_ _ _=>False):
  codeAny (model P w) callerA (.call (.ref fa) ⟨vals,[]⟩) (λr s'=>∃u as,r=.ok (.ret u)/\ReadsW R cl s'.heap u d0 as/\OldK s₁.heap s'.heap/\s'.os=s₁.os/\AllBare s'.gens) s₁:=by
 obtain⟨A,ho,ar⟩:=AI ds vals oh dS hwt;have hS:=AN KX ar ds vals oh dS ho;have hV:=u7 ho;have hK:∀b u,iG K s₁.heap A b=some u->K.lookup b=none:=λb u q=>(AL ar q).1;have sq:∀{b:Addr} {u:HO},iG K s₁.heap A b=some u->∃o vs n,s₁.heap.get? b=some o/\o.data=.seq vs n:=λ{b u} q=>by
  obtain⟨_,vs,_,_,⟨e2,_⟩|⟨e2,_⟩⟩:=AL ar q
  .exact⟨_,_,_,e2,rfl⟩
  .exact⟨_,_,_,e2,rfl⟩
 have noS:∀{b:Addr} {o:Obj},s₁.heap.get? b=some o->(∀vs n,o.data≠ .seq vs n)->iG K s₁.heap A b=none:=λ{b o} e d=>by
  cases q:iG K s₁.heap A b with
  |none=>rfl
  |some u=>
   obtain⟨o',vs,n,e2,e3⟩:=sq q;rw[e]at e2;cases e2;exact absurd e3 (d vs n)
 have iZ:iG K s₁.heap A tb=none:=noS nV (λvs n z=>by cases z);have Ri:bU P w (iG K s₁.heap A) s₁.heap:=Wm ar;have only:∀b u,iG K s₁.heap A b=some u->∃o v,u=.dz o v/\((∃xs,v=.lst xs)\/∃xs,v=.tup xs):=λb u q=>by
  obtain⟨_,vs,_,_,⟨_,e2⟩|⟨_,e2⟩⟩:=AL ar q
  .exact⟨_,_,e2,.inl ⟨_,rfl⟩⟩
  .exact⟨_,_,e2,.inr ⟨_,rfl⟩⟩
 generalize iG K s₁.heap A=H0 at hS hK sq noS iZ Ri only;have u9:∀b o,H0 b=some o->upd H0 tb (.dU #[]) b=some o:=λb o e=>by rw[aJ (fN e iZ)];exact e
 have aB:bU P w (upd H0 tb (.dU #[])) s₁.heap:=λb u q=>by
  by_cases e:b=tb
  .subst e
   rw[aA]at q;cases q;exact nV
  .rw[aJ e]at q
   have z:=Ri b u q;obtain⟨o,v,rfl,hv⟩:=only b u q;rcases hv with⟨xs,rfl⟩|⟨xs,rfl⟩
   .exact z
   .exact z
 have Ju:TabAt tb (upd H0 tb (.dU #[])):=⟨#[],aA,.inl rfl⟩;have kinds:∀b u,upd H0 tb (.dU #[]) b=some u->b=tb\/∃o v,upd H0 tb (.dU #[]) b=some (.dz o v):=λb u q=>by
  by_cases e:b=tb
  .exact .inl e
  .rw[aJ e]at q⊢
   obtain⟨o,v,rfl,_⟩:=only b u q;exact .inr ⟨o,v,q⟩
 have noU:∀{b:Addr} {o:Obj},s₁.heap.get? b=some o->(∀vs n,o.data≠ .seq vs n)->b≠tb->upd H0 tb (.dU #[]) b=none:=λ{b o} e d n=>by rw[aJ n];exact noS e d
 have neT:∀{b:Addr} {o:Obj},s₁.heap.get? b=some o->o≠tabObj #[]->b≠tb:=λ{b o} e n z=>n (by rw[z,nV]at e;exact(Option.some.inj e).symm);have hKn:∀b o,K.lookup b=some o->upd H0 tb (.dU #[]) b=none:=λb o e=>by
  by_cases z:b=tb
  .rw[z,hKt]at e;cases e
  .rw[aJ z]
   cases q:H0 b with
   |none=>rfl
   |some u=>rw[hK b u q]at e;cases e
 generalize upd H0 tb (.dU #[])=H at u9 aB Ju kinds noU hKn;have CW:∀{b:Addr} {o:Obj},s₁.heap.get? b=some o->H b=none->(nG s₁.heap H).get? b=some o:=λe n=>Ue e n;have nsK:∀{b:Addr} {m:Str->Option Value},s₁.heap.Ns b m->(nG s₁.heap H).Ns b m:=λ{b m} ⟨o,es,ep,e,d,r⟩=>⟨o,es,ep,CW e (noU e (λvs n z=>by rw[d]at z;cases z) (neT e λz=>by rw[z]at d;cases d)),d,r⟩;have hKb:K.In (nG s₁.heap H):=λb o e=>CW (KX b o e) (hKn b o e);have hM:Mod K mg (nG s₁.heap H):=⟨hKb,nsK hns,⟨mb,nsK hb,hbb⟩,let⟨mc,h1,h2⟩:=abA;⟨mc,nsK h1,h2⟩⟩;have e0:qe P w K mg (nG s₁.heap H) callerA [] s₁ H:=⟨rfl,hM,λb o e=>Ug e,wm (Ud _ _),trivial,λb hb=>absurd (show b∈([]:List Addr)from hb) (by simp),aB,.of_eq hg⟩;have hl:vals.length=ps.length:=by rw[AH oh];exact hlen
 have abC:Bm mg (nG s₁.heap H):=by
  obtain⟨bm,ob,h1,h2,h3,h4,h5,h6⟩:=hbm;exact⟨bm,ob,h1,h2,CW h3 (noU h3 (λvs n z=>by rw[h6]at z;cases z) (neT h3 λz=>by rw[z]at h4;cases h4)),h4,h5,h6⟩
 have abD:CodeHd (nG s₁.heap H) c tb:=by
  obtain⟨o,vs,file,tf,flags,tg,inF,text,tt,h1,h2,h3,h4,h5,h6,h7,h8,h9,h10⟩:=fY;exact⟨o,vs,file,tf,flags,tg,inF,text,tt,CW h1 (noU h1 (λvs n z=>by rw[h3]at z;cases z) h10),h2,h3,h4,h5,h6,h7,h8,h9,h10⟩
 refine C8 ((F _ hKb (nsK hns) abC abD).run callerA [] s₁ H ⟨vals,[]⟩ vals (vals.map toV) _ _ hr e0 (abB s₁ vals hl) hV (gS H0 H _ u9 Ju hS)) λr s' x=>?_;cases r with
 |error e=>exact False.elim x
 |ok fl=>
  cases fl with
  |next=>exact False.elim x
  |brk=>exact False.elim x
  |cont=>exact False.elim x
  |ret u=>
   obtain⟨v,H',os,bare,un,Jv,r',q⟩:=x;have kept:∀b o,s₁.heap.get? b=some o->b≠tb->s'.heap.get? b=some o:=λb o e nb=>by
    cases q2:H b with
    |none=>exact un.keep b o e q2 (by intro z;exact absurd (show b∈([]:List Addr)from z) (by simp)) (by simp)
    |some u2=>
     rcases kinds b u2 q2 with z|⟨ob,u3,z⟩
     .exact absurd z nb
     .have z2:=un.nE b ob _ z
      obtain⟨e1,_⟩:=aB b _ z;obtain⟨e2,_⟩:=Jv b _ z2;rw[e]at e1;cases e1;exact e2
   have KX':K.In s'.heap:=λb o e=>kept b o (KX b o e) (λz=>by rw[z,hKt]at e;cases e);obtain⟨as,hrd⟩:=Dw.reads (R:=R) (cl:=cl) Jv KX' d0 v u q r';obtain⟨pt,hpt,_⟩:=Ju;have abE:pt= #[]:=by
    have:=aB tb _ hpt;have this:s₁.heap.get? tb=some {cls:=.none,data:=.fields pt}:=this;rw[nV]at this;injection this with this
    injection this with _ _ h3
    injection h3 with h3
    exact h3.symm
   obtain⟨more,abF⟩:=un.nF tb pt hpt;have Rj:s'.heap.get? tb=some {cls:=.none,data:=.fields (pt++more)}:=Jv tb _ abF;have old:OldK s₁.heap s'.heap:=by
    refine⟨λb o e=>?_,λb o e=>?_⟩
    .by_cases z:b=tb
     .subst z
      rw[nV]at e;cases e;exact .inr (.inl ⟨(fY.tab nV).isCodeTable,rfl,#[],more,rfl,by rw[Rj,abE]⟩)
     .exact .inl (kept b o e z)
    .by_cases z:b=tb
     .exact⟨_,by rw[z];exact Rj⟩
     .exact⟨o,kept b o e z⟩
   exact⟨u,as,rfl,hrd,old,os,bare⟩
theorem walk_specT{r:OpenSpec}{k:Nat}{q:Program}{loose:List Str}{XP:(Str->Option Value)->Heap->Prop}{YP:World->Heap->Prop}{d:DefRec}{K:Params->Frag}{ps:List Str}{sp:Frag->Addr->Sp}{mk:Str}
  (abG:r.wellSaid=true)(hdf:d.params.defaults=[])(hlen:r.args.length=ps.length)(hr:dB k callerA)
  (hY:∀(w:World) (h:Heap),YP w h->(K w.params).In h)(abH:((PyProof.Rows.recsOf q).find? (λe=>e.name==mk)).isSome=true)
  (F:∀(w:World) (mg:Str->Option Value) (fa:Addr) (h:Heap),YP w h->(K w.params).In h->h.Ns mainGlobals mg->mg d.name=some (.ref fa)->
   ∃(fd:FuncData) (c tb:Addr),tabIn (K w.params) mk=some (c,tb)/\(K w.params).lookup tb=none/\(∀(s:Shared) (us:List Value),us.length=ps.length->BindsTo s fd ⟨us,[]⟩ (ps.zip us))/\
    ∀base:Heap,(K w.params).In base->base.Ns mainGlobals mg->Bm mg base->CodeHd base c tb->cH r.prog w (K w.params) mg base eB k fa fd ps (sp (K w.params) tb))
  (gS:∀(K:Frag) (tb:Addr) (H0 H:Hp) (xs:List V) (a:Codec.denoteAll r.args),(∀b o,H0 b=some o->H b=some o)->TabAt tb H->Codec.withinAll r.args a=true->Codec.app r.args r.asked a=true->mO K H0 xs (Codec.encAll r.args a)->
   sp K tb xs H (λv H'=>Dw K H' v (r.ret.enc (Codec.app r.args r.f a))) λ_ _ _=>False):
  PySem.W.WalkOS q loose XP YP r d [] (λf vs=>PySem.call f vs):=by
 intro w fO s₁ mg mb G Y fa o pm cd doc dV kV ho hd fY hD hmg hg args vals as abI abJ hrd oh hlo;obtain⟨a,e1,e2⟩:=PySem.W.os_pre_some abI;obtain⟨e3,iE⟩:=Codec.encAll_of_decAll r.args args a e1;subst e3;have KX:=hY w _ Y;obtain⟨fd,c,tb,Jj,hKt,hb,hF⟩:=F w mg fa _ Y KX G.T.g hmg;obtain⟨dd,hdd⟩:=RA.mp abH;obtain⟨abK,nV⟩:=PySem.W.tab_of G.T KX hdd Jj;refine PySem.W.enter_call (C8 (abz (R:=[]) (cl:=classAt fO.heap) (d0:=r.ret.enc (Codec.app r.args r.f a)) KX G.T.g G.T.b G.T.builtins G.T.nolimit hg G.T.bmain abK nV hKt oh (MT _ _) (Wr abJ) hr hF hb (by rw[M0];exact hlen)
  (λH0 H xs hs ht hS=>gS (K w.params) tb H0 H xs a hs ht iE e2 hS)) λr' s' hq=>?_)
 obtain⟨u,as',rfl,h1,h2,h3,h4⟩:=hq;exact⟨.inl ⟨u,_,as',rfl,λ_=>rfl,h1,(OpenSpec.post_iff abG iE _ _).mpr rfl,λz=>Bool.noConfusion (show false=true from z)⟩,h2,h3,h4⟩
end L2
namespace GP
open Vaglrb (allIn aloneIn counted cyclicSet endless firstOf fits followOf growIn growPairs growing hasEnd keptNons keptRules leads leastAnswer leftKinds leftPairs leftReach lessText longest newNon newSym nonsIn nullable onNon productive productiveRules rangesOf setOf shownRanges symNull toInts toNats trimmed unnulled useful usefulRules variants waysIn)
open Vaglrc (flatGrammar flatRule flatSym)
open PySem PySem.Spec PyProof.Rows L2
open PySem.W (nsIn codeIn keepIn findIn isFn plainGet hasDictIn plainOver makesIn excIn mg_of mg_none_of tabIn fnOf)
variable{x qual m:Str}{f:Addr}{st:Stmt}{ps:List Str}
def bS(K:Frag)(x:Str):Addr:=match nsIn K mainGlobals x with
 |some (some (.ref a))=>a
 |_=>0
def zd(K:Frag)(f:Addr):Obj:=match K.lookup f with
 |some o=>o
 |_=>{cls:=.none,data:=.plain}
def qG(K:Frag)(f:Addr)(x qual:Str)(st:Stmt):Obj:=
 ⟨(zd K f).cls,(zd K f).dict,.func (fnOf x qual (lD st) (iX st) (aC st) .none (fdOf K f).kwdefaults (fdOf K f).doc (fdOf K f).pyModule (fdOf K f).annotations (fdOf K f).code (fdOf K f).closureTuple),(zd K f).slots⟩
def lY(K:Frag)(x:Str):Bool:=match nsIn K mainGlobals x with
 |some (some (.ref _))=>true
 |_=>false
def nq(K:Frag)(x:Str):Bool:=lY K x&&codeIn K (fdOf K (bS K x)).code x&&keepIn K (.ref (bS K x))
def okI(K:Frag)(p:Str×Int):Bool:=match nsIn K mainGlobals p.1 with
 |some (some (.int v _))=>decide (v=p.2)
 |_=>false
def okN(K:Frag)(x:Str):Bool:=match nsIn K mainGlobals x with
 |some none=>true
 |_=>false
def okM(K:Frag)(C:Addr)(m qual:Str):Bool:=match findIn K (.ref C) m with
 |some (some (.ref f))=>isFn K (.ref f)&&keepIn K (.ref f)&&codeIn K (fdOf K f).code qual
 |_=>false
def okC(K:Frag)(x:Str):Bool:=lY K x&&plainGet K (bS K x) Str.empty&&hasDictIn K (bS K x)&&plainOver K (bS K x)&&(match findIn K (.ref (bS K x)) "__setattr__" with
 |some (some (.builtin n))=>n=="object.__setattr__"
 |_=>false)&&makesIn K (bS K x)&&keepIn K (.ref (bS K x))
def okA(K:Frag)(C:Addr)(m:Str):Bool:=match findIn K (.ref C) m with
 |some none=>true
 |_=>false
section
variable{K:Frag}{h:Heap}{mg:Str->Option Value}
theorem CY(e:mg x=some (.ref f)):adr mg x=f:=by unfold adr;rw[e]
theorem Rk(e:lY K x=true):nsIn K mainGlobals x=some (some (.ref (bS K x))):=by
 unfold lY at e;unfold bS;split at e
 .rename_i f q
  rw[q]
 .cases e
theorem iM(X:K.In h)(G:h.Ns mainGlobals mg)(e:lY K x=true):mg x=some (.ref (bS K x))/\adr mg x=bS K x:=⟨mg_of X G (Rk e),CY (mg_of X G (Rk e))⟩
theorem int_mk(X:K.In h)(G:h.Ns mainGlobals mg){v:Int}(e:okI K (x,v)=true):∃t,mg x=some (.int v t):=by
 unfold okI at e;split at e
 .rename_i u t q
  have e:=Dm e;subst e;exact⟨t,mg_of X G q⟩
 .cases e
theorem m7(X:K.In h)(G:h.Ns mainGlobals mg)(e:okN K x=true):mg x=none:=by
 unfold okN at e;split at e
 .rename_i q
  exact mg_none_of X G q
 .cases e
theorem Jw(l:K.lookup f=some (qG K f x qual st))(c:codeIn K (fdOf K f).code qual=true)(k:keepIn K (.ref f)=true):mL K x qual st f (fdOf K f):=by
 have q:=ND l;have F:=Wf (st:=st) l c k;rw[<-q]at F;exact F
theorem CZ(X:K.In h)(G:h.Ns mainGlobals mg)(e:nq K x=true)(l:K.lookup (bS K x)=some (qG K (bS K x) x x st))(b:∀(kV doc pm:Value) (an:Option Addr) (cdv ct:Value) (us:List Value),us.length=ps.length->bindArgs (fnOf x x (lD st) (iX st) (aC st) .none kV doc pm an cdv ct) ⟨us,[]⟩=pure (ps.zip us)):FnAt K mg x st ps (adr mg x):=by
 unfold nq at e;rw[cV,cV]at e;obtain⟨e1,e2⟩:=iM X G e.1.1;rw[e2];have F:=Jw l e.1.2 e.2;exact⟨F,e1,F.binds b⟩
theorem abL{C:Addr}(e:findIn K (.ref C) m=some (some (.ref f))):dX K C m=f:=by unfold dX;rw[e]
theorem Rl{C:Addr}(e:okM K C m qual=true):findIn K (.ref C) m=some (some (.ref (dX K C m)))/\isFn K (.ref (dX K C m))=true/\keepIn K (.ref (dX K C m))=true/\codeIn K (fdOf K (dX K C m)).code qual=true:=by
 unfold okM at e;split at e
 .rename_i f q
  rw[abL q];rw[cV,cV]at e;exact⟨q,e.1.1,e.1.2,e.2⟩
 .cases e
theorem C0(X:K.In h)(G:h.Ns mainGlobals mg)(e:okC K x=true)(m:okM K (bS K x) "__init__" qual=true)(l:K.lookup (dX K (bS K x) "__init__")=some (qG K (dX K (bS K x) "__init__") "__init__" qual st))(b:∀(kV doc pm:Value) (an:Option Addr) (cdv ct:Value) (us:List Value),us.length=ps.length->bindArgs (fnOf "__init__" qual (lD st) (iX st) (aC st) .none kV doc pm an cdv ct) ⟨us,[]⟩=pure (ps.zip us)):yd K mg x qual st ps:=by
 unfold okC at e;simp only[cV]at e;obtain⟨⟨⟨⟨⟨⟨h1,h2⟩,h3⟩,h4⟩,h5⟩,h6⟩,h7⟩:=e;obtain⟨e1,e2⟩:=iM X G h1;obtain⟨m1,m2,m3,m4⟩:=Rl m;have F:=Jw l m4 m3;rw[<-e2]at h2 h3 h4 h5 h6 h7 m1 m2 F e1;refine⟨⟨h2,h3,h4,?_⟩,⟨h6,m1,m2,h7⟩,F,F.binds b,e1⟩;split at h5
 .rename_i n q
  rw[q,pK.mp h5]
 .cases h5
theorem uz(X:K.In h)(G:h.Ns mainGlobals mg)(e:lY K x=true)(q:okA K (bS K x) m=true):jk K (adr mg x) m:=by
 obtain⟨_,e2⟩:=iM X G e;rw[e2];unfold okA at q;split at q
 .rename_i z
  exact z
 .cases q
theorem Jx(X:K.In h)(G:h.Ns mainGlobals mg)(e:lY K x=true)(q:okM K (bS K x) m qual=true)(l:K.lookup (dX K (bS K x) m)=some (qG K (dX K (bS K x) m) m qual st))(b:∀(kV doc pm:Value) (an:Option Addr) (cdv ct:Value) (us:List Value),us.length=ps.length->bindArgs (fnOf m qual (lD st) (iX st) (aC st) .none kV doc pm an cdv ct) ⟨us,[]⟩=pure (ps.zip us)):AV K (adr mg x) m qual st ps (dX K (adr mg x) m):=by
 obtain⟨_,e2⟩:=iM X G e;rw[e2];obtain⟨m1,m2,m3,m4⟩:=Rl q;have F:=Jw l m4 m3;exact⟨F,⟨m1,m2,m3⟩,F.binds b⟩
theorem Rm(X:K.In h)(G:h.Ns mainGlobals mg)(e:lY K x=true)(q:excIn K (bS K x) bmE "Exception.__new__"=true):F7 K mg x:=by
 obtain⟨e1,e2⟩:=iM X G e;rw[<-e2]at e1 q;exact⟨e1,q⟩
def dE(K:Frag)(d:Addr):List DictEntry:=match(zd K d).data with
 | .dict es _=>es.toList
 |_=>[]
def dN(K:Frag)(d:Addr):Nat:=match(zd K d).data with
 | .dict _ n=>n
 |_=>0
theorem dict_mk{d:Addr}{ak:List (Int×Value)}(l:K.lookup d=some ⟨.type "dict",none,.dict (dE K d).toArray (dN K d),#[]⟩)(hm:(dE K d).map (λe=>(e.hash,e.val))=ak.map (λkv=>(hashInt kv.1,kv.2)))(hk:(dE K d).map (λe=>match e.key with| .int i _=>some i|_=>none)=ak.map (λkv=>some kv.1))(nd:(ak.map (·.1)).Nodup)(ns:(d==sysModules)=false):qk K d ak:=by
 refine⟨⟨_,_,_,l,⟨rfl,rfl,rfl⟩,rfl,?_,?_⟩,nd,ns⟩
 .rw[List.toList_toArray];exact hm
 .rw[List.toList_toArray]
  intro j e he;have q:=e8 (λl=>l[j]?) hk;simp only[fK,he,wB]at q;cases z:ak[j]? with
  |none=>rw[z]at q;cases q
  |some kv=>
   rw[z]at q;simp only[wB,RX]at q;cases y:e.key with
   |int i t=>
    rw[y]at q;simp only[RX]at q;refine⟨t,?_⟩;rw[cC,fK,z,q];rfl
   |_=>rw[y]at q;cases q
theorem abM{c tb:Addr}(X:K.In h)(G:h.Ns mainGlobals mg)(e:tabIn K x=some (c,tb)):(fdOf K (adr mg x)).code=.ref c:=by
 unfold tabIn at e;split at e
 .rename_i f hf
  rw[CY (mg_of X G hf)];split at e
  .rename_i fd _ lk
   rw[ND lk];split at e
   .rename_i c' hc
    split at e
    .split at e
     .cases e;exact hc
     .cases e
    .cases e
   .cases e
  .cases e
 .cases e
theorem all_mk{P:Program}{w:World}{fa c tb:Addr}(X:K.In h)(G:h.Ns mainGlobals mg)(T:Txt K mg)(hfa:mg "answers"=some (.ref fa))(ht:tabIn K "settled_marks"=some (c,tb))(hn:K.lookup tb=none)(hP:P=PySem.Challenge.pw_grammarsight_s01_answers):
  ∃(fd:FuncData) (c tb:Addr),tabIn K "settled_marks"=some (c,tb)/\K.lookup tb=none/\(∀(s:Shared) (us:List Value),us.length=(["calls"]:List Str).length->BindsTo s fd ⟨us,[]⟩ ((["calls"]:List Str).zip us))/\
   ∀base:Heap,K.In base->base.Ns mainGlobals mg->Bm mg base->PySem.W.CodeHd base c tb->cH P w K mg base eB 26 fa fd ["calls"] (spAns K tb):=by
 refine⟨fdOf K fa,c,tb,ht,hn,?_,λbase Xb Gb hb hc=>?_⟩
 .obtain⟨oc,od,kV,doc,pm,an,cdv,ct,ku,e,_⟩:=T.OY.fn.ex
  rw[CY hfa]at e;intro s us hu;rw[e];exact match us,hu with|[_],_=>.of_eq rfl
 .rw[<-CY hfa]
  exact abn T ⟨hb,c,abM X G ht,hc⟩
theorem bx{α:Type}{p:α->Bool}{l:List α}(h:l.all p=true)(i:Nat){x:α}(e:l[i]?=some x):p x=true:=ze.mp h x (cE e)
theorem om{α β:Type}{f g:α->β}{l:List α}(h:l.map f=l.map g)(i:Nat){x:α}(e:l[i]?=some x):f x=g x:=by
 have q:=e8 (λl=>l[i]?) h;simp only[fK,e,wB,RX]at q;exact q
noncomputable def j6:List (Str×Stmt):=("is_nonterminal",Ga)::("nonterminals_among",A3)::("ranges_among",A4)::("others_beside",Gd)::("settled",Ge)::("led_to",A5)::("returning_marks",A6)::("settled_marks",vo)::("all_hollow",A7)::("all_productive",A8)::("hollow_marks",Gf)::("productive_marks",Gg)::("productive_rules",A9)::("some_growing",Ba)::("growing_marks",Gh)::("nonterminal_steps",Bb)::("reachable_marks",Bc)::("useful_marks",Bd)::("useful_rule_numbers",Gi)::("useful_rules",Be)::("joined_ranges",Gj)::("told_ranges",Gk)::("leading_symbols",Gm)::("left_ways",Bf)::("left_steps",Bg)::("left_recursive_marks",Gn)::("returns_through_others",Bh)::("left_kinds",Gp)::("same_piece_steps",Bj)::("cyclic_marks",Gq)::("gathered",Gr)::("first_ranges",ye)::("first_of_symbols",Gs)::("useful_places",Gu)::("ending_steps",Bk)::("follow_ranges",Bl)::("end_follows",Gv)::("growing_steps",Gw)::("reads_any",Gx)::("reads_infinitely_many",Bo)::("longer_by_symbols",Bp)::("longest_length",Gy)::("number_within",GD)::("read_symbol",GF)::("read_rule",Bq)::("grammar_from_row",Br)::("row_of_grammar",GG)::("count_ways",GH)::("ways_of_symbols",Bt)::("full_grammar",Bu)::("least_of_symbol",GI)::("least_of_symbols",GJ)::("lesser_by_symbols",GK)::("least_texts",GL)::("staying_nonterminals",Bv)::("renumbered_symbol",GN)::("renumbered_rule",Bw)::("trimmed_grammar",Bx)::("load_answer",BA)::("grammar_answer",BB)::("marks_of_choice",yf)::("set_answer",yg)::("is_missing",GQ)::("first_answer",BC)::("follow_answer",BD)::("left_answer",BE)::("least_answer",BF)::("extent_answer",BG)::("trim_answer",BH)::("full_answer",BI)::("take_answer",BJ)::("next_answer",tP)::("answers",GR)::[]
noncomputable def txI:List (Str×Int):=("NONTERMINAL",0)::("RANGE",1)::("START",0)::("DIRECTLY",1)::("HIDDENLY",2)::("THROUGH_OTHERS",4)::("MOST_NONTERMINALS",20)::("MOST_RULES",60)::("MOST_SYMBOLS",8)::("GREATEST_BYTE",255)::("MOST_WAYS",256)::("LONGEST_TOLD",64)::("DONE",0)::("NOT_PRODUCTIVE",1)::("NEGATIVE_NUMBER",-1)::("NO_GRAMMAR_ROW",-2)::("NO_SUCH_NONTERMINAL",-4)::("NO_SUCH_CHOICE",-5)::("TOO_GREAT",-6)::("NO_TEXT",0)::("FINITELY_MANY",1)::("INFINITELY_MANY",2)::("LOAD",0)::("LAST_SET",6)::("TAKE_TRIMMED",0)::("TAKE_FULL",1)::[]
noncomputable def txN:List Str:="all"::"any"::"enumerate"::"len"::"list"::"max"::"min"::"range"::"reversed"::"sorted"::"sum"::"tuple"::[]
noncomputable def txM:List (Str×Str×Str×Stmt):=[("Rule","__init__","Rule.__init__",F8),("Grammar","__init__","Grammar.__init__",F9),("Reader","__init__","Reader.__init__",Gz),("Holder","__init__","Holder.__init__",GO),("Reader","at_end","Reader.at_end",GA),("Reader","next_number","Reader.next_number",GB),("Reader","next_row","Reader.next_row",GC)]
noncomputable def txA:List (Str×Str):=[("Rule","owner"),("Rule","symbols"),("Grammar","size"),("Grammar","rules"),("Reader","numbers"),("Reader","place"),("Holder","held")]
noncomputable def Rn(K:Frag):Bool:=j6.all (λp=>nq K p.1)&&txI.all (okI K)&&txN.all (okN K)&&txM.all (λp=>okC K p.1&&okM K (bS K p.1) p.2.1 p.2.2.1)&&txA.all (λp=>okA K (bS K p.1) p.2)&&(["NoGrammarRow","TooGreat"]:List Str).all (λx=>lY K x&&excIn K (bS K x) bmE "Exception.__new__")&&(["WITHOUT_NUMBER","WITH_NUMBER"]:List Str).all (lY K)
theorem pG(e:nq K x=true):lY K x=true:=by
 unfold nq at e;rw[cV,cV]at e;exact e.1.1
theorem pH(e:okC K x=true):lY K x=true:=by
 unfold okC at e;simp only[cV]at e;exact e.1.1.1.1.1.1
def tbO(K:Frag):Addr×Addr:=(tabIn K "settled_marks").getD (0,0)
theorem all_mk2{P:Program}{w:World}{fa:Addr}(X:K.In h)(G:h.Ns mainGlobals mg)(T:Txt K mg)(hfa:mg "answers"=some (.ref fa))(ht:tabIn K "settled_marks"=some ((tbO K).1,(tbO K).2))(hn:K.lookup (tbO K).2=none)(hP:P=PySem.Challenge.pw_grammarsight_s01_answers):
  ∃(fd:FuncData) (c tb:Addr),tabIn K "settled_marks"=some (c,tb)/\K.lookup tb=none/\(∀(s:Shared) (us:List Value),us.length=(["calls"]:List Str).length->BindsTo s fd ⟨us,[]⟩ ((["calls"]:List Str).zip us))/\
   ∀base:Heap,K.In base->base.Ns mainGlobals mg->Bm mg base->PySem.W.CodeHd base c tb->cH P w K mg base eB 26 fa fd ["calls"] (spAns K tb):=all_mk X G T hfa ht hn hP
abbrev dk1(K:Frag):List (Int×Value):=[(1,Value.ref (bS K "grammar_answer")),(7,Value.ref (bS K "extent_answer")),(8,Value.ref (bS K "trim_answer")),(9,Value.ref (bS K "full_answer"))]
abbrev dk2(K:Frag):List (Int×Value):=[(2,Value.ref (bS K "set_answer")),(3,Value.ref (bS K "first_answer")),(4,Value.ref (bS K "follow_answer")),(5,Value.ref (bS K "left_answer")),(6,Value.ref (bS K "least_answer")),(10,Value.ref (bS K "take_answer"))]
theorem dc(X:K.In h)(G:h.Ns mainGlobals mg)(hF:j6.all (λp=>nq K p.1)=true)(hL:j6.map (λp=>K.lookup (bS K p.1))=j6.map (λp=>some (qG K (bS K p.1) p.1 p.1 p.2)))(i:Nat){p:Str}(e:j6[i]?=some (x,st):=by rfl)(z:∀(kV doc pm:Value) (an:Option Addr) (cdv ct:Value) (a:Value),bindArgs (fnOf x x (lD st) (iX st) (aC st) .none kV doc pm an cdv ct) ⟨[a],[]⟩=pure [(p,a)]:=by intros;rfl):FnAt K mg x st [p] (adr mg x):=
 CZ X G (bx hF i e) (om hL i e) (λ_ _ _ _ _ _ us hl=>match us,hl with|[a],_=>z _ _ _ _ _ _ a)
theorem eY(X:K.In h)(G:h.Ns mainGlobals mg)(hF:j6.all (λp=>nq K p.1)=true)(hL:j6.map (λp=>K.lookup (bS K p.1))=j6.map (λp=>some (qG K (bS K p.1) p.1 p.1 p.2)))(i:Nat){p q:Str}(e:j6[i]?=some (x,st):=by rfl)(z:∀(kV doc pm:Value) (an:Option Addr) (cdv ct:Value) (a b:Value),bindArgs (fnOf x x (lD st) (iX st) (aC st) .none kV doc pm an cdv ct) ⟨[a,b],[]⟩=pure [(p,a),(q,b)]:=by intros;rfl):FnAt K mg x st [p,q] (adr mg x):=
 CZ X G (bx hF i e) (om hL i e) (λ_ _ _ _ _ _ us hl=>match us,hl with|[a,b],_=>z _ _ _ _ _ _ a b)
theorem vZ(X:K.In h)(G:h.Ns mainGlobals mg)(hF:j6.all (λp=>nq K p.1)=true)(hL:j6.map (λp=>K.lookup (bS K p.1))=j6.map (λp=>some (qG K (bS K p.1) p.1 p.1 p.2)))(i:Nat){p q r:Str}(e:j6[i]?=some (x,st):=by rfl)(z:∀(kV doc pm:Value) (an:Option Addr) (cdv ct:Value) (a b c:Value),bindArgs (fnOf x x (lD st) (iX st) (aC st) .none kV doc pm an cdv ct) ⟨[a,b,c],[]⟩=pure [(p,a),(q,b),(r,c)]:=by intros;rfl):FnAt K mg x st [p,q,r] (adr mg x):=
 CZ X G (bx hF i e) (om hL i e) (λ_ _ _ _ _ _ us hl=>match us,hl with|[a,b,c],_=>z _ _ _ _ _ _ a b c)
theorem txt_mk(X:K.In h)(G:h.Ns mainGlobals mg)(aB:Rn K=true)(hL:j6.map (λp=>K.lookup (bS K p.1))=j6.map (λp=>some (qG K (bS K p.1) p.1 p.1 p.2)))(hM2:txM.map (λp=>K.lookup (dX K (bS K p.1) p.2.1))=txM.map (λp=>some (qG K (dX K (bS K p.1) p.2.1) p.2.1 p.2.2.1 p.2.2.2)))(d1:qk K (bS K "WITHOUT_NUMBER") (dk1 K))(d2:qk K (bS K "WITH_NUMBER") (dk2 K)):Txt K mg:=by
 unfold Rn at aB;simp only[cV]at aB;obtain⟨⟨⟨⟨⟨⟨hF,hI⟩,hN⟩,hM⟩,hA⟩,hE⟩,hR⟩:=aB;have M:∀(i:Nat) {x:Str×Str×Str×Stmt},txM[i]?=some x->okC K x.1=true/\okM K (bS K x.1) x.2.1 x.2.2.1=true:=λi x e=>by
  have z:=bx hM i e;rw[cV]at z;exact z
 have Ex:∀(i:Nat) {x:Str},(["NoGrammarRow","TooGreat"]:List Str)[i]?=some x->lY K x=true/\excIn K (bS K x) bmE "Exception.__new__"=true:=λi x e=>by
  have z:=bx hE i e;rw[cV]at z;exact z
 exact⟨int_mk X G (bx hI 0 rfl),
  int_mk X G (bx hI 1 rfl),
  int_mk X G (bx hI 2 rfl),
  int_mk X G (bx hI 3 rfl),
  int_mk X G (bx hI 4 rfl),
  int_mk X G (bx hI 5 rfl),
  int_mk X G (bx hI 6 rfl),
  int_mk X G (bx hI 7 rfl),
  int_mk X G (bx hI 8 rfl),
  int_mk X G (bx hI 9 rfl),
  int_mk X G (bx hI 10 rfl),
  int_mk X G (bx hI 11 rfl),
  int_mk X G (bx hI 12 rfl),
  int_mk X G (bx hI 13 rfl),
  int_mk X G (bx hI 14 rfl),
  int_mk X G (bx hI 15 rfl),
  int_mk X G (bx hI 16 rfl),
  int_mk X G (bx hI 17 rfl),
  int_mk X G (bx hI 18 rfl),
  int_mk X G (bx hI 19 rfl),
  int_mk X G (bx hI 20 rfl),
  int_mk X G (bx hI 21 rfl),
  int_mk X G (bx hI 22 rfl),
  int_mk X G (bx hI 23 rfl),
  int_mk X G (bx hI 24 rfl),
  int_mk X G (bx hI 25 rfl),
  m7 X G (bx hN 0 rfl),
  m7 X G (bx hN 1 rfl),
  m7 X G (bx hN 2 rfl),
  m7 X G (bx hN 3 rfl),
  m7 X G (bx hN 4 rfl),
  m7 X G (bx hN 5 rfl),
  m7 X G (bx hN 6 rfl),
  m7 X G (bx hN 7 rfl),
  m7 X G (bx hN 8 rfl),
  m7 X G (bx hN 9 rfl),
  m7 X G (bx hN 10 rfl),
  m7 X G (bx hN 11 rfl),
  dc X G hF hL 0,
  dc X G hF hL 1,
  dc X G hF hL 2,
  eY X G hF hL 3,
  CZ X G (bx hF 4 rfl) (om hL 4 rfl) (λ_ _ _ _ _ _ us hl=>match us,hl with|[_,_,_,_],_=>rfl),
  eY X G hF hL 5,
  dc X G hF hL 6,
  vZ X G hF hL 7,
  eY X G hF hL 8,
  eY X G hF hL 9,
  dc X G hF hL 10,
  dc X G hF hL 11,
  dc X G hF hL 12,
  eY X G hF hL 13,
  dc X G hF hL 14,
  eY X G hF hL 15,
  dc X G hF hL 16,
  dc X G hF hL 17,
  dc X G hF hL 18,
  dc X G hF hL 19,
  dc X G hF hL 20,
  dc X G hF hL 21,
  eY X G hF hL 22,
  dc X G hF hL 23,
  dc X G hF hL 24,
  dc X G hF hL 25,
  eY X G hF hL 26,
  eY X G hF hL 27,
  dc X G hF hL 28,
  dc X G hF hL 29,
  vZ X G hF hL 30,
  dc X G hF hL 31,
  vZ X G hF hL 32,
  dc X G hF hL 33,
  dc X G hF hL 34,
  eY X G hF hL 35,
  eY X G hF hL 36,
  dc X G hF hL 37,
  dc X G hF hL 38,
  dc X G hF hL 39,
  vZ X G hF hL 40,
  dc X G hF hL 41,
  vZ X G hF hL 42,
  eY X G hF hL 43,
  eY X G hF hL 44,
  dc X G hF hL 45,
  dc X G hF hL 46,
  eY X G hF hL 47,
  eY X G hF hL 48,
  dc X G hF hL 49,
  eY X G hF hL 50,
  eY X G hF hL 51,
  vZ X G hF hL 52,
  dc X G hF hL 53,
  dc X G hF hL 54,
  eY X G hF hL 55,
  eY X G hF hL 56,
  dc X G hF hL 57,
  eY X G hF hL 58,
  dc X G hF hL 59,
  eY X G hF hL 60,
  eY X G hF hL 61,
  eY X G hF hL 62,
  eY X G hF hL 63,
  eY X G hF hL 64,
  eY X G hF hL 65,
  eY X G hF hL 66,
  dc X G hF hL 67,
  dc X G hF hL 68,
  dc X G hF hL 69,
  eY X G hF hL 70,
  eY X G hF hL 71,
  dc X G hF hL 72,
  C0 X G (M 0 rfl).1 (M 0 rfl).2 (om hM2 0 rfl) (λ_ _ _ _ _ _ us hl=>match us,hl with|[_,_,_],_=>rfl),
  C0 X G (M 1 rfl).1 (M 1 rfl).2 (om hM2 1 rfl) (λ_ _ _ _ _ _ us hl=>match us,hl with|[_,_,_],_=>rfl),
  C0 X G (M 2 rfl).1 (M 2 rfl).2 (om hM2 2 rfl) (λ_ _ _ _ _ _ us hl=>match us,hl with|[_,_],_=>rfl),
  C0 X G (M 3 rfl).1 (M 3 rfl).2 (om hM2 3 rfl) (λ_ _ _ _ _ _ us hl=>match us,hl with|[_],_=>rfl),
  uz X G (pH (M 0 rfl).1) (bx hA 0 rfl),
  uz X G (pH (M 0 rfl).1) (bx hA 1 rfl),
  uz X G (pH (M 1 rfl).1) (bx hA 2 rfl),
  uz X G (pH (M 1 rfl).1) (bx hA 3 rfl),
  uz X G (pH (M 2 rfl).1) (bx hA 4 rfl),
  uz X G (pH (M 2 rfl).1) (bx hA 5 rfl),
  uz X G (pH (M 3 rfl).1) (bx hA 6 rfl),
  Jx X G (pH (M 4 rfl).1) (M 4 rfl).2 (om hM2 4 rfl) (λ_ _ _ _ _ _ us hl=>match us,hl with|[_],_=>rfl),
  Jx X G (pH (M 5 rfl).1) (M 5 rfl).2 (om hM2 5 rfl) (λ_ _ _ _ _ _ us hl=>match us,hl with|[_],_=>rfl),
  Jx X G (pH (M 6 rfl).1) (M 6 rfl).2 (om hM2 6 rfl) (λ_ _ _ _ _ _ us hl=>match us,hl with|[_],_=>rfl),
  Rm X G (Ex 0 rfl).1 (Ex 0 rfl).2,
  Rm X G (Ex 1 rfl).1 (Ex 1 rfl).2,
  (by have z:=iM X G (bx hR 0 (x:="WITHOUT_NUMBER") rfl);rw[z.2];exact z.1),
  (by rw[(iM X G (bx hR 0 (x:="WITHOUT_NUMBER") rfl)).2,(iM X G (pG (bx hF 59 (x:=("grammar_answer",BB)) rfl))).2,(iM X G (pG (bx hF 67 (x:=("extent_answer",BG)) rfl))).2,(iM X G (pG (bx hF 68 (x:=("trim_answer",BH)) rfl))).2,(iM X G (pG (bx hF 69 (x:=("full_answer",BI)) rfl))).2];exact d1),
  (by have z:=iM X G (bx hR 1 (x:="WITH_NUMBER") rfl);rw[z.2];exact z.1),
  (by rw[(iM X G (bx hR 1 (x:="WITH_NUMBER") rfl)).2,(iM X G (pG (bx hF 61 (x:=("set_answer",yg)) rfl))).2,(iM X G (pG (bx hF 63 (x:=("first_answer",BC)) rfl))).2,(iM X G (pG (bx hF 64 (x:=("follow_answer",BD)) rfl))).2,(iM X G (pG (bx hF 65 (x:=("left_answer",BE)) rfl))).2,(iM X G (pG (bx hF 66 (x:=("least_answer",BF)) rfl))).2,(iM X G (pG (bx hF 70 (x:=("take_answer",BJ)) rfl))).2];exact d2)⟩
end
open PySem.W (WData Codec OpenSpec)
theorem abN{l:List Int}(h:PyVaglrb.answers_asked l=true):∃cs,PyFlat.calls PyVaglrb.shape l.length l=some cs/\cs.length<=100/\PyVaglrb.answers l=PyFlat.told (PyFlat.played VaglrbNeutral.step VaglrbNeutral.start cs):=by
 unfold PyVaglrb.answers_asked at h;unfold PyVaglrb.answers;unfold PyVaglrb.calls at h⊢;cases e:PyFlat.calls PyVaglrb.shape l.length l with
 |none=>rw[e]at h;cases h
 |some cs=>
  rw[e]at h;dsimp only at h⊢;rw[GS.TZ]at h⊢;rw[cV]at h;refine⟨cs,rfl,?_,rfl⟩;have q:=h.1;unfold PyFlat.atMost at q;simp at q;exact q
theorem ask_is(K:Frag)(tb:Addr)(H0 H:Hp)(xs:List V)(a:Codec.denoteAll PySem.Challenge.rw_grammarsight_s01_answers.args)(hs:∀b o,H0 b=some o->H b=some o)(ht:TabAt tb H)(iE:Codec.withinAll PySem.Challenge.rw_grammarsight_s01_answers.args a=true)(abO:Codec.app PySem.Challenge.rw_grammarsight_s01_answers.args PySem.Challenge.rw_grammarsight_s01_answers.asked a=true)(hx:mO K H0 xs (Codec.encAll PySem.Challenge.rw_grammarsight_s01_answers.args a)):
  spAns K tb xs H (λv H'=>Dw K H' v (PySem.Challenge.rw_grammarsight_s01_answers.ret.enc (Codec.app PySem.Challenge.rw_grammarsight_s01_answers.args PySem.Challenge.rw_grammarsight_s01_answers.f a))) λ_ _ _=>False:=by
 cases hx with
 |cons h1 h2=>
  cases h2;cases h1 with
  |lst hq ha=>
   have e:=L2.MR a.1 _ ha;subst e;have q:((Codec.inLen 0 17000 a.1&&a.1.all (Codec.inInt _ _))&&true)=true:=iE;rw[cV,cV]at q;obtain⟨cs,hc,hl,hr⟩:=abN (l:=a.1) abO;refine⟨_,a.1,cs,rfl,Fz.seq hs hq,(Codec.inNat_iff.mp q.1.1).2,ht,hc,hl,λp H' hp=>?_⟩;have hr:Codec.app PySem.Challenge.rw_grammarsight_s01_answers.args PySem.Challenge.rw_grammarsight_s01_answers.f a=_:=hr;rw[hr];exact .lst (L2.aU.of hp) (L2.MQ _)
end GP
namespace PySem.W.Fast
def tw2882862159336155008:=0
def tw250934390356510569:=0
def tw5580729327748767148:=0
def tw6076702879309875908:=0
def tw371176695132238781:=0
def tw10601595951800175835:=0
def tw8366718951388218804:=0
def tw10896042630768788684:=0
def tw10230880624429805500:=0
def tw1723637261962708276:=0
def tw13912942991127270398:=0
def tw1772654432583192923:=0
def tw17016307141446769859:=0
def tw17437957554569367721:=0
def tw3740351587378655664:=0
def tw3591528462599623640:=0
def tw11270495911514866393:=0
def tw11636501832374620706:=0
def tw5948120948010260783:=0
def tw3168726411149081851:=0
def tw6210566821922713066:=0
def tw17877353144211571544:=0
def tw3794204852278737276:=0
def tw12660599666783805562:=0
def tw15379581850360044905:=0
def tw11227664357726843938:=0
def tw11661779874616512749:=0
def tw8062014618653483729:=0
def tw5492533724664801898:=0
def tw1099427422040821832:=0
def tw959069112840284490:=0
def tw15735087084547900265:=0
def tw2302312921020217678:=0
def tw3303114227797823737:=0
def tw1687403646288034573:=0
def tw17200682773116823373:=0
def tw6185549116384953302:=0
def tw14868938185849299710:=0
def tw15322001832206052975:=0
def tw13651341796206006430:=0
def tw4248690110653486440:=0
def tw10991937908303068865:=0
def tw5547138961610019690:=0
def tw5650189836237837823:=0
def tw10877405930170652609:=0
def tw11653599972428413843:=0
def tw17644295237017326521:=0
def tw10918248106751278278:=0
def tw6961524012766770947:=0
def tw15993863731953504716:=0
def tw17985313197532347135:=0
def tw9240808617893499109:=0
def tw6597268153536406799:=0
def tw9198462080335607474:=0
def tw16532086219669701857:=0
def tw5747436869924128664:=0
def tw17448505782253338047:=0
def tw16062487830507818838:=0
def tw12169806899142560928:=0
def tw7627878570023562388:=0
def tw7748392985624793009:=0
def tw8183744633570723669:=0
def tw7674843290477358484:=0
def tw6581035953093872693:=0
def tw17514328941363078179:=0
def tw6371257341232020622:=0
def tw14025905920864824895:=0
def tw3425871745577021665:=0
def tw13259548192538119245:=0
def tw17100355898141263078:=0
def tw8483051482764126625:=0
def tw13342123668881216471:=0
def tw3277882236946857227:=0
def tw4172163218908282251:=0
def tw14452544872948533896:=0
def tw6911825329933803735:=0
def tw3551498570045825041:=0
def tw3574550162825622193:=0
def tw17196767683711147449:=0
def tw9842854577949000250:=0
def tw3715322185496006802:=0
def tw4478337850648643848:=0
def tw3962518695493778044:=0
def tw17831601099188827422:=0
def tw7951739406177087808:=0
def tw8121107092387097583:=0
def tw3307011995537652012:=0
def tw3781938142623793140:=0
def tw17607633180692114866:=0
def tw11272655297256756939:=0
def tw9430274337916333937:=0
def tw10127184089529729542:=0
def tw11060057757299533051:=0
def tw5243766492355357046:=0
def tw5768299827702181006:=0
def tw4424772354069164096:=0
def tw12540285151725669876:=0
def tw16578993311972843598:=0
def tw9256205992988267675:=0
def tw9421788710808569080:=0
def tw8654686393771041517:=0
def tw15866448095985543723:=0
def tw11432764017577736276:=0
def tw17706136702073735770:=0
def tw1748793429885260973:=0
def tw10972157126377516255:=0
def tw7934630861206123389:=0
def tw4248056325278246246:=0
def tw10876933599810641136:=0
def tw11358834817355153504:=0
def tw2838715465727788831:=0
def tw3227451993243240203:=0
def tw8789938761816406785:=0
def tw16779441155379273416:=0
def tw17714049442288247276:=0
def tw10400000433843239880:=0
def tw17127675755978381640:=0
def tw211989274366026408:=0
def tw15645551776350844279:=0
def tw2520129898149493003:=0
def tw5987360420849183242:=0
def tw1433175595783599126:=0
def tw13999044022567590914:=0
def tw13355302384946561498:=0
def tw2688927919634301499:=0
def tw4969735770484347781:=0
def tw7363534517226946501:=0
def tw2349096579382292814:=0
def tw6495360517978752790:=0
def tw10496980885576253636:=0
def tw9546914189558155092:=0
def tw3709344553400719519:=0
def tw3760570888670493667:=0
def tw6616018415928789256:=0
def tw13563544177673346518:=0
def tw10643082364238976532:=0
def tw11456263488312586752:=0
def tw11926610699380563018:=0
def tw12864119775637323538:=0
def tw616436477667087867:=0
def tw13789318859638180919:=0
def tw16074820747210188234:=0
def tw8883023204436228008:=0
def tw4207039084937048895:=0
def tw8034822889307252012:=0
def tw18240101284168324845:=0
def tw13215021252403662832:=0
def tw15469892811468928597:=0
def tw15235935736324053276:=0
def tw1128259066463446106:=0
def tw14580110329293846074:=0
def tw896544346572551996:=0
def tw6195905547908398599:=0
def tw7635329447766267332:=0
def tw15994958575227108433:=0
def tw933344297032929561:=0
def tw9730695921717011918:=0
def tw6438628486865939207:=0
def tw17536667406955636953:=0
def tw7196248041779105747:=0
def tw585980008385187853:=0
def tw8007287462144013918:=0
def tw16197141475460485024:=0
def tw16033109161090120871:=0
def tw6219834557030614250:=0
def tw1146517748900164667:=0
def tw752439106857614583:=0
def tw13025541922712808045:=0
def tw9072005095325639028:=0
def tw8881155076124026813:=0
def tw4277753181294673771:=0
def tw3020570666529268101:=0
def tw2696731189154955070:=0
def tw1496878982004383497:=0
def tw18142278516983902012:=0
def tw375497723023779465:=0
def tw10124287425171757308:=0
def tw13108449082679286344:=0
def tw9604874306734866024:=0
def tw136254228430458782:=0
def tw17927961205136280223:=0
def tw16988156363857421294:=0
def tw10000970961355775204:=0
def tw15863743119292753114:=0
def tw14063552425336994923:=0
def tw11025339360947484024:=0
def tw8665025194905780877:=0
def tw3351840770942791690:=0
def tw7895875009610815596:=0
def tw2277317284848636784:=0
def tw13020741388760216668:=0
def tw13427331352858286509:=0
def tw5163277940306899543:=0
def tw13816257739600762785:=0
def tw8999456618602075402:=0
def tw3699056875115189778:=0
def tw110458439339278602:=0
def tw10260783603984660405:=0
def tw6526078662469224161:=0
def tw6774687652319827601:=0
def tw15551343623882833098:=0
def tw7056711186760980957:=0
def tw8293052239238347974:=0
def tw8129543386108331526:=0
def tw3928097260947780329:=0
def tw6041265910155226870:=0
def tw9622620185393277333:=0
def tw4526669809287998256:=0
def tw10460380220378177715:=0
def tw3561504294814903479:=0
def tw17561478037499257462:=0
def tw2173903477140218616:=0
def tw10660360527871766840:=0
def tw1499955961090765633:=0
def tw3426513020301116914:=0
def tw8092235763996360335:=0
def tw17478788229998754221:=0
def tw17583973514781820390:=0
def tw11526949415621485564:=0
def tw10423567771334622045:=0
def tw7924775994722631898:=0
def tw8006450959994147710:=0
def tw10418488839537779439:=0
def tw11337495031445546799:=0
def tw537402701149093574:=0
def tw5271739645711289705:=0
def tw852449802199511402:=0
def tw10903220168153957302:=0
def tw10999069330448049130:=0
def tw14021119184076679353:=0
def tw13398744890114217049:=0
def tw15667872186758811435:=0
def tw16211058751721090077:=0
def tw8110899639441314001:=0
def tw2778297216921065840:=0
def tw13231770106792759512:=0
def tw6170695997877765243:=0
def tw10689973793888215514:=0
def tw2008291417302791155:=0
def tw17837922686218004499:=0
def tw12943740057688175134:=0
def tw16192706918982667083:=0
def tw10576609304738758433:=0
def tw12527825261070091738:=0
def tw13093090779998745606:=0
def tw774455627835083328:=0
def tw17833757300873621191:=0
def tw16818789029762347157:=0
def tw11483910764784660139:=0
def tw3431908730899815988:=0
def tw8939756183525211642:=0
def tw6459574704620522121:=0
def tw16897096252776496828:=0
def tw10126776021976746201:=0
def tw11175723955255271443:=0
def tw15184810419384472957:=0
def tw6746501938047291074:=0
def tw8067669264750745132:=0
def tw15482227016362873786:=0
def tw15902805275217551221:=0
def tw2644625230502199053:=0
def tw13831803372314200132:=0
def tw2530992773471018941:=0
def tw15707953651404924041:=0
def tw9861607018232960229:=0
def tw13338341089645149021:=0
def tw3688326117208796813:=0
def tw14578101687815116213:=0
def tw3555010697283241728:=0
def tw11837085479097018427:=0
def tw6163690409256032179:=0
def tw12296467227555218906:=0
def tw1471570478003218125:=0
def tw5222083788691871761:=0
def tw17229647792705497772:=0
def tw14250232500261525336:=0
def tw14407267596389144154:=0
def tw3642063957113248065:=0
def tw11534484633720042499:=0
def tw7945283984283386418:=0
def tw1487047753696347067:=0
def tw10848382940063751919:=0
def tw12467571934733544436:=0
def tw13086585533606074721:=0
def tw17398815568541147621:=0
def tw14319416439775236271:=0
def tw9907798450090224200:=0
def tw7390878084597748452:=0
def tw8074027603155616748:=0
def tw2528548918853131848:=0
def tw5080612597661468533:=0
def tw1106490966311876507:=0
def tw6260876456796525956:=0
def tw255805185249192588:=0
def tw2870313554953613278:=0
def tw15157720347473726993:=0
def tw7953841093695178517:=0
def tw10908736774767911950:=0
def tw14995878261578731777:=0
def tw13820179216426005012:=0
def tw17824353741327594713:=0
def tw15635977247930569644:=0
def tw9300420278911589978:=0
def tw3374863720084969597:=0
def tw2665678732527489342:=0
def tw15099137685764134240:=0
def tw499298205532870671:=0
def tw881106966001258517:=0
def tw17552549465825816511:=0
def tw3440406064486234442:=0
def tw11062044643461321851:=0
def tw9451374950841201925:=0
def tw9634505112406977827:=0
def tw3029494738689036912:=0
def tw15689963530454351519:=0
def tw5928672639594398322:=0
def tw3553981696474904481:=0
def tw13234858025980026229:=0
def tw14316791648199320419:=0
def tw9746411661690386045:=0
def tw9425566696055480418:=0
def tw2595544678561151594:=0
def tw2806865069118149317:=0
def tw13540612812074957612:=0
def tw11568062169421876879:=0
def tw16827754022843558212:=0
def tw1136803674951912765:=0
def tw197288269161201872:=0
def tw13177089976881834875:=0
def tw17667011730998205066:=0
def tw399425269833114401:=0
def tw4978008351563245218:=0
def tw1003415186998664675:=0
def tw15140097746737624634:=0
def tw7555490193658892895:=0
def tw3359979165858972354:=0
def tw6000197052065361052:=0
def tw6000521744400641651:=0
def tw5715620917923746152:=0
def tw8333399330046595414:=0
def tw9243839192864841477:=0
def tw4198103928499683356:=0
def tw11875322966082025273:=0
def tw11232341938991230062:=0
def tw7696043750543555383:=0
def tw14871192421803721489:=0
def tw1125755312984366078:=0
def tw18250130576218384229:=0
def tw15480035204540891212:=0
def tw2029531847201920920:=0
def tw9140121736991113520:=0
end PySem.W.Fast
open PySem PySem.W PyProof.Rows
theorem PySem.Challenge.cw_grammarsight_s01_answers_holds : PySem.Challenge.rw_grammarsight_s01_answers.Holds := by
  w_on
  k_headS
  case hw => exact ⟨[.list [.int 1]], by decide +kernel, by decide +kernel⟩
  k_fillS
  refine L2.walk_specT (r := PySem.Challenge.rw_grammarsight_s01_answers) (k := 26) (ps := ["calls"]) (sp := GP.spAns) (mk := "settled_marks") (by decide +kernel) rfl rfl ⟨rfl, by decide, by decide⟩ (fun w h Y => PySem.W.kIn_of Y) ?find ?F ?S
  case find => decide +kernel
  case F =>
    intro w mg fa h Y KX G hmg
    exact GP.all_mk2 KX G (GP.txt_mk KX G (by kernel_rfl) (by kernel_rfl) (by kernel_rfl)
      (GP.dict_mk (by kernel_rfl) (by kernel_rfl) (by kernel_rfl) (show ([1, 7, 8, 9] : List Int).Nodup by decide) (by kernel_rfl))
      (GP.dict_mk (by kernel_rfl) (by kernel_rfl) (by kernel_rfl) (show ([2, 3, 4, 5, 6, 10] : List Int).Nodup by decide) (by kernel_rfl)))
      hmg (by kernel_rfl) (by kernel_rfl) rfl
  case S => exact GP.ask_is
