import PyProof.Rows.All
import Wide.All
import OpenK.AllK
import Wide.FinOn
import Lean
import PyProof.EqAt
import PyProof.EqKinds
import PyProof.TupleCall
import PyProof.Rows.SortPure
import PyProof.Rows.SortWalk
import PyProof.AttrMissHeap
import KE.KDictOf
import KE.KIntText
import PyProof.StrBlockH
import PyProof.CallStr
import PyProof.StrLawsIn
import PyProof.StrLawsOcc
import PyProof.StationsW
import PyProof.ExcClass2
import PyProof.ExcBaseAll.ValueError
import PyProof.ExcInit
import PyProof.InstStore
import OpenK.KOwn
import OpenK.KMake
import PyProof.InstStoreFacts
import PyProof.ExcAttrAll.ValueError
import OpenK.KCls
import PyProof.RulesTry
import PyProof.Rows.CatchBare
import PyProof.Rows.CatchOwn
import PyProof.NsDelKeeps
import PyProof.Rows.RuleDivmod
import PyProof.Rows.SumAny
import PySem.Challenge.RW_carpetkin_k95_bettered_refused
set_option hygiene false in
local macro_rules
|`(tactic|simp! [$a,*])=>`(tactic|simp (disch:=omega) only [$a,*])
|`(tactic|simp! [$a,*] at $l:ident)=>`(tactic|simp (disch:=omega) only [$a,*] at $l:ident)
set_option hygiene false in
local macro_rules
|`(tactic|ext a)=>`(tactic|(simp only [v0,B6,m5,n0,n4,n5,v9,l6,L9,B7,a4Z,a2a,u8,u9,B5,y8,J3,J4,J5,V7,R9,P9,y9,r6,z6,v6,B8,L7,G6,k6,k7,p8,l8,Q1,K5,J6,J7,V8,S1,w8,u4,D6,A9,k9,p9,l9,z0,v5,w4,t8,a2l,a1h,B9,L8,G7,w6,u0,J9,V5,G8,D5,i8,n6,n8,x4,u5,z8,G2,D0,x6,x8,y0,D3,y6,x9,D4,q4,M0,G9,a2m,a1k,D7,D8,Q0,K4,I0,V6,R8,J8,V4,L3,B4,j8,a3v,a1M,a0g]))
|`(tactic|ext b)=>`(tactic|(refine c6 ?_ ?_))
|`(tactic|ext c)=>`(tactic|(intro pins s σ H x y v u Q I rx ry h;obtain⟨F,ra,rb,rz,s0,h1,h2,h3,k⟩:=h))
|`(tactic|ext d)=>`(tactic|(intro X hP hw hK hc i pins s σ H E I hf st hg;subst hP hw hK;obtain⟨f0,f1,f2,f3,f4,f5⟩:=hf it (by simp)))
|`(tactic|ext e)=>`(tactic|(obtain⟨o,e,c,d⟩:=st;exact⟨o,e,λv z=>by rw [d] at z;cases z⟩))
|`(tactic|ext f)=>`(tactic|(unfold eqIsQuiet;refine AD (wpAny_specialOf t0 F.slot_tuple_eq.lookup ?_);show AF _ _ (isInstance (.ref a) (.type "tuple")>>=_) _ _ s;refine AD (wpAny_isInstance t0 isSubtype_tuple_tuple ?_);simp only [Bool.not_true,AX,if_false];refine AD (wpAny_seqItems ho hd ?_);refine AD ?_;show AF _ _ (forIn its _ _) _ _ s;rw [<-Array.forIn_toList]))
|`(tactic|ext g)=>`(tactic|(intro pins s σ H xs us Q I rv h;obtain⟨F,x,rx,rz,rfl,s0,h1,h2,k⟩:=h))
|`(tactic|ext h)=>`(tactic|(simp only [gBg,bgB,bgA,gWw,wwC,wwB,wwA,v0,B6,m5,n0,n4,n5,v9,l6,L9,B7,a4Z,a2a,u8,u9,B5,y8,J3,J4,J5,V7,R9,P9,y9,r6,z6,v6,B8,L7,G6,k6,k7,p8,l8,Q1,K5,J6,J7,V8,S1,w8,u4,D6,A9,k9,p9,l9,z0,v5,w4,t8,a2l,a1h,B9,L8,G7,w6,u0,J9,V5,G8,D5,i8,n6,n8,x4,u5,z8,G2,D0,x6,x8,y0,D3,y6,x9,D4,q4,M0,G9,a2m,a1k,D7,D8,Q0,K4,I0,V6,R8,J8,V4,L3,B4,j8,a3v,a1M,a0g]))
|`(tactic|ext i)=>`(tactic|(obtain⟨rx,e1,hm⟩:=bind_some hm;obtain⟨ry,e2,hm⟩:=bind_some hm;refine⟨F,ρ,rx,he,e1,λv F1 H1 o1=>⟨?_,⟨F1,ρ,ry,he.ext o1.x,e2,λu F2 H2 o2=>⟨F2,u,rx,ry,r,rfl,o2.x.fh,o1.rep.ext o2.x,o2.rep,hm,λz F3 H3 o3=>k z F3 H3 (o9.trans (o1.x.trans o2.x) o3)⟩⟩⟩⟩))
|`(tactic|ext j)=>`(tactic|(intro X hP hw hK hc i pins s σ H I fi st hg;subst hP hw hK))
|`(tactic|ext k)=>`(tactic|(rw [a9 (A0 q ha (λz=>nomatch z))];exact q))
|`(tactic|ext l)=>`(tactic|(obtain⟨_,e⟩:=q.ref;cases e))
set_option hygiene false in
local macro_rules
|`(tactic|exists z0,$k,$s,$e)=>`(tactic|(refine j7 (k:=$k) D $s (λ_ _ _ _ _ _=>$e) λf cdv A outer s H E hr=> ?_;have S:=$s;have hu:=hr.units))
|`(tactic|exists z1,$k,$s,$e)=>`(tactic|(refine b6D (k:=$k) D $s (λ_ _ _ _ _ _=>$e) λf cdv A outer s H E hr hx=> ?_;have S:=$s;have hu:=hr.units))
|`(tactic|exists y0,$y,$n,$i,$d)=>`(tactic|refine U2 (ys:=$y) (N0:=$n) (λ_ _ h=>h) ?_ ⟨by kernel_rfl,rfl,of_decide_eq_true rfl,of_decide_eq_true rfl,of_decide_eq_true rfl⟩ ?_ (λC fp pins s H=>i5 (i:=$i) $d rfl (Or.inl rfl)) (λn h=>C1 (i:=$i) (Nat.le_of_eq h)) (λC fp pins s H=>a0E) ?_)
set_option Elab.async false
set_option linter.all false
set_option maxRecDepth 100000
noncomputable section
open PySem renaming Value -> AA
open PySem renaming Addr -> AB
open PySem renaming Shared -> AC
open PySem renaming wpAny_bind -> AD
open PySem.W renaming Frag -> AE
open PySem renaming wpAny -> AF
open PySem renaming Expr -> AG
open PySem renaming wpAny_pure -> AH
open PySem renaming World -> AI
open PySem renaming Program -> AJ
open PySem renaming Around -> AK
open PySem renaming starEach -> AL
open PySem renaming sizeLine -> AM
open Nat renaming le_refl -> AN
open List renaming replicate -> AO
open List renaming map_cons -> AQ
open PySem.Heap renaming get?_push_of_some -> AR
open Option renaming bind_some -> AS
open PySem.Heap renaming lt_size -> AT
open List renaming mem_cons -> AU
open List renaming length_map -> AV
open Nat renaming ne_of_lt -> AW
open Bool renaming false_eq_true -> AX
open List renaming length_cons -> AY
open List renaming range -> AZ
open PySem.Heap renaming get?_push_size -> Aa
open List renaming size_toArray -> Ab
open Bool renaming false_ne_true -> Ac
open List renaming append_nil -> Ad
open List renaming mem_cons_of_mem -> Ae
open List renaming mem_cons_self -> Af
open List renaming getElem?_map -> Ag
open List renaming getElem?_eq_some_iff -> Ah
open List renaming getElem?_eq_getElem -> Ai
open PySem.Str renaming ofString -> Aj
open Nat renaming lt_of_lt_of_le -> Ak
open List renaming replicate_succ -> Al
open List renaming length_append -> Am
open List renaming set_cons_zero -> An
open List renaming set_cons_succ -> Ao
open List renaming map_nil -> Aq
open List renaming mem_append -> Ar
open List renaming nil_append -> As
open List renaming getElem?_append_left -> At
open List renaming replicate_zero -> Au
open List renaming cons_append -> Av
open List renaming length_nil -> Aw
open List renaming mem_append_right -> Ax
open List renaming mem_map -> Ay
open Option renaming map_some -> Az
open Nat renaming le_of_lt -> BA
open Int renaming toNat_natCast -> BB
open List renaming mem_of_getElem? -> BC
open List renaming map_append -> BD
open List renaming length_range -> BE
open List renaming getElem?_set_self -> BF
open List renaming map_map -> BG
open List renaming mem_append_left -> BH
open Nat renaming reduceLeDiff -> BI
open Option renaming some→ξ,none→ζ
namespace L2
open PySem PySem.Spec PyProof.Rows
abbrev f6:=Sum Int Str
def a2T:f6->AA->Bool
 | .inl k,v=>Value.isInt k v
 | .inr x,v=>Value.isStrOf x v
def b2Q(w:AI):f6->Int
 | .inl k=>hashInt k
 | .inr x=>hashStr w x
theorem u6:∀{k:f6} {v:AA},a2T k v=true->(∃i t,k=Sum.inl i/\v=Value.int i t)\/(∃x t,k=Sum.inr x/\v=Value.str x t)
 | .inl i,v,h=>by
   obtain⟨t,e⟩:=Value.isInt_shape (k:=i) (v:=v) h;exact .inl ⟨i,t,rfl,e⟩
 | .inr x,v,h=>by
   obtain⟨t,e⟩:=Value.isStrOf_shape (x:=x) (v:=v) h;exact .inr ⟨x,t,rfl,e⟩
theorem b2R(i:Int)(t:Tok):a2T (.inl i) (.int i t)=true:=by simp [a2T,Value.isInt]
theorem b2S(x:Str)(t:Tok):a2T (.inr x) (.str x t)=true:=by simp [a2T,Value.isStrOf]
theorem b4x(a b:Int):decide ((Sum.inl a:f6)=Sum.inl b)=(a==b):=by
 by_cases e:a=b
 ·subst e;simp
 ·have h:¬(Sum.inl a:f6)=Sum.inl b:=λq=>e (Sum.inl.inj q);rw [decide_eq_false h];exact(beq_eq_false_iff_ne.mpr e).symm
theorem b4y(a b:Str):decide ((Sum.inr a:f6)=Sum.inr b)=decide (a=b):=by
 by_cases e:a=b
 ·subst e;simp
 ·have h:¬(Sum.inr a:f6)=Sum.inr b:=λq=>e (Sum.inr.inj q);rw [decide_eq_false h,decide_eq_false e]
theorem b88(a:Int)(b:Str):decide ((Sum.inl a:f6)=Sum.inr b)=false:=decide_eq_false (λq=>nomatch q)
theorem b89(a:Str)(b:Int):decide ((Sum.inr a:f6)=Sum.inl b)=false:=decide_eq_false (λq=>nomatch q)
def f9(prog:AJ)(w:AI):PySem.KeyKind prog w f6 where
 is:=a2T
 hash:=b2Q w
 inj:=λv a b ha hb=>by
  rcases u6 ha with⟨i,t,rfl,rfl⟩|⟨x,t,rfl,rfl⟩
  ·rcases u6 hb with⟨j,u,rfl,e⟩|⟨y,u,rfl,e⟩
   ·injection e with e1 _;rw [e1]
   ·exact nomatch e
  ·rcases u6 hb with⟨j,u,rfl,e⟩|⟨y,u,rfl,e⟩
   ·exact nomatch e
   ·injection e with e1 _;rw [e1]
 byValue:=λk v h=>by
   rcases u6 h with⟨i,t,rfl,rfl⟩|⟨x,t,rfl,rfl⟩<;>rfl
 pyHash:=λhv h=>by
  rcases u6 hv with⟨i,t,rfl,rfl⟩|⟨x,t,rfl,rfl⟩
  ·exact wpAny_pyHash_int h
  ·exact wpAny_pyHash_str h
 eqBool:=λhu hv h=>by
  rcases u6 hu with⟨i,t,rfl,rfl⟩|⟨x,t,rfl,rfl⟩
  ·rcases u6 hv with⟨j,u,rfl,rfl⟩|⟨y,u,rfl,rfl⟩
   ·rw [b4x] at h;exact wpAny_eqBool_int h
   ·rw [b88] at h;exact SeqAt.EqAt.int_str i t y u _ _ _ _ h
  ·rcases u6 hv with⟨j,u,rfl,rfl⟩|⟨y,u,rfl,rfl⟩
   ·rw [b89] at h;exact SeqAt.EqAt.str_int x t j u _ _ _ _ h
   ·rw [b4y] at h;exact wpAny_eqBool_str h
 «strs»:=λk x t v h=>by
  rcases u6 h with⟨i,u,rfl,e⟩|⟨y,u,rfl,e⟩
  ·exact nomatch e
  ·injection e with e1 _
   subst e1;cases v<;>rfl
theorem a1q(prog:AJ)(w:AI)(i:Int)(t:Tok):(f9 prog w).is (.inl i) (.int i t)=true:=b2R i t
theorem N4(prog:AJ)(w:AI)(x:Str)(t:Tok):(f9 prog w).is (.inr x) (.str x t)=true:=b2S x t
set_option maxHeartbeats 1000000
structure NKd(prog:AJ)(w:AI)(K:Type)[DecidableEq K] where
 d:Nat
 is:Heap->K->AB->Prop
 hash:K->Int
 draws:K->Nat
 inj:∀{h:Heap} {a:AB} {x y:K},is h x a->is h y a->x=y
 tup:∀{h:Heap} {k:K} {a:AB},is h k a->∃o its n,h.get? a=ξ o/\o.cls= .type "tuple"/\o.data= .seq its n
 stay:∀{h h':Heap} {k:K} {a:AB},is h k a->(∀b o its n,h.get? b=ξ o->o.cls= .type "tuple"->o.data= .seq its n->h'.get? b=ξ o)->is h' k a
 hsh:∀{A:AK} {E:AA->AC->Prop} {s:AC} {k:K} {a:AB} {Q:Int->AC->Prop},A.units+d<cLine->is s.heap k a->Q (hash k) {s with toks:=s.toks+draws k}->AF (model prog w) A (pyHash (.ref a)) Q E s
 eqb:∀{A:AK} {E:AA->AC->Prop} {s:AC} {x y:K} {a b:AB} {Q:Bool->AC->Prop},A.units+d<cLine->is s.heap x a->is s.heap y b->Q (decide (x=y)) s->AF (model prog w) A (eqBool (.ref a) (.ref b)) Q E s
 qt:∀{A:AK} {E:AA->AC->Prop} {s:AC} {k:K} {a:AB} {Q:Bool->AC->Prop} {n:Nat},d<=n->is s.heap k a->Q true s->AF (model prog w) A (eqIsQuiet n (.ref a)) Q E s
inductive ItR {K:Type} (is:K->AB->Prop):List K->List AA->Prop
 |nil:ItR is [] []
 |cons {k:K} {a:AB} {ks:List K} {vs:List AA}:is k a->ItR is ks vs->ItR is (k::ks) (.ref a::vs)
section
variable {prog:AJ}{w:AI}{K:Type}[DecidableEq K]
theorem ItR.uniq{is:K->AB->Prop}(u:∀{a:AB} {x y:K},is x a->is y a->x=y){x y:List K}{vs:List AA}(hx:ItR is x vs)(hy:ItR is y vs):x=y:=by
 induction hx generalizing y with
 |nil=>cases hy;rfl
 |cons h1 _ ih=>cases hy with
  |cons h2 t2=>rw [u h1 h2,ih t2]
theorem ItR.imp{is js:K->AB->Prop}(f:∀k a,is k a->js k a){x:List K}{vs:List AA}(h:ItR is x vs):ItR js x vs:=by
 induction h with
 |nil=>exact .nil
 |cons h1 _ ih=>exact .cons (f _ _ h1) ih
variable (kd:NKd prog w K)
def IsN(h:Heap)(ks:List K)(a:AB):Prop:=∃o its n,h.get? a=ξ o/\o.cls= .type "tuple"/\o.data= .seq its n/\ItR (kd.is h) ks its.toList
def b4O(ks:List K):Int:=reduceHash (Builtin.Tuple.tupleHashOf (ks.map kd.hash))
variable {kd}{A:AK}{E:AA->AC->Prop}{s:AC}
theorem IsN.ty{ks:List K}{a:AB}(x:IsN kd s.heap ks a):s.TypeIs (.ref a) "tuple":=by
 obtain⟨o,_,_,ho,hc,_⟩:=x;exact⟨o,ho,hc⟩
theorem IsN.uniq{h:Heap}{a:AB}{x y:List K}(hx:IsN kd h x a)(hy:IsN kd h y a):x=y:=by
 obtain⟨o,its,n,e1,_,e2,r⟩:=hx;obtain⟨o',its',n',e1',_,e2',r'⟩:=hy;rw [e1] at e1';cases e1';rw [e2] at e2';cases e2';exact ItR.uniq (is:=kd.is h) (λh1 h2=>kd.inj h1 h2) r r'
theorem b65{ks:List K}{a:AB}{Q:Int->AC->Prop}(hu:A.units+(kd.d+1)<cLine)(hk:IsN kd s.heap ks a)(h:Q (b4O kd ks) {s with toks:=s.toks+((ks.map kd.draws).sum+1)}):AF (model prog w) A (pyHash (.ref a)) Q E s:=by
 have t0:=hk.ty;obtain⟨o,its,n,ho,_,hd,hi⟩:=hk;unfold pyHash
 first|unfold pyHashByItsType|skip
 first|refine AD (wpAny_cRoomFor_or (.inr (by lia)) ?_)|skip
 refine AD (wpAny_specialOf t0 F.slot_tuple_hash.lookup ?_);show AF _ _ (if(ξ (Value.builtin "tuple.__hash__")==ξ Value.none)=true then _ else _) Q E s
 rw [if_neg (λz=>by rw [beq_builtin_none] at z;cases z)]
 refine AD (wpAny_specialOf t0 F.slot_tuple_hash.lookup ?_);show AF _ _ (callSpecialIfBoundUnlessNone? (.ref a) "__hash__" _>>=_) Q E s;refine AD (wpAny_callSpecialIfBoundUnlessNone?_slot t0 F.slot_tuple_hash (wpAny_call_entry F.slot_tuple_hash t0 F.entry_tuple_hash ?_ (F.args_tuple_hash_1 _)));show AF _ _ (Builtin.Tuple.tupleItemsOf (.ref a)>>=_) _ _ s;refine AD (wpAny_tupleItemsOf ho hd ?_);refine AD ?_;rw [<-Array.forIn_toList];refine wpAny_forIn_list _ (λrest (b:Array Int) s'=>∃d0 l0,ks=d0++l0/\ItR (kd.is s.heap) l0 rest/\b.toList=d0.map kd.hash/\s'={s with toks:=s.toks+(d0.map kd.draws).sum}) _ ?_ ?_ _ _ ⟨[],ks,rfl,hi,rfl,rfl⟩
 ·rintro x rest b s' ⟨d0,l0,rfl,hl,hb,rfl⟩;cases hl with
  | @cons k a' ks' _ h1 hl'=>
    refine AD (kd.hsh (show A.units+1+kd.d<cLine by lia) h1 ?_)
    have fin:∃d1 l1,d0++k::ks'=d1++l1/\ItR (kd.is s.heap) l1 rest/\(b.push (kd.hash k)).toList=d1.map kd.hash/\({s with toks:=s.toks+(d0.map kd.draws).sum+kd.draws k}:AC)={s with toks:=s.toks+(d1.map kd.draws).sum}:=⟨d0++[k],ks',by simp,hl',by simp [hb],by simp [Nat.add_assoc]⟩
    first
     |exact AH fin
     |exact AD (AH (AH fin))
 ·rintro b s' ⟨d0,l0,rfl,hl,hb,rfl⟩;cases hl;rw [Ad] at h;show AF _ _ (retInt (Builtin.Tuple.tupleHashOf b.toList)) _ _ _;rw [hb];refine wpAny_ret_mkInt ?_;show AF _ _ (if(decide (-(2:Int)^ 63<=Builtin.Tuple.tupleHashOf (d0.map kd.hash))&& decide (Builtin.Tuple.tupleHashOf (d0.map kd.hash)<2 ^ 63))=true then _ else _) Q E _
  unfold b4O reduceHash at h;split at h
  ·rename_i hr;rw [if_pos hr];exact AH (by simpa [Nat.add_assoc] using h)
  ·rename_i hr;rw [if_neg hr];exact AD (wpAny_rule (AH (by simpa [Nat.add_assoc] using h)))
theorem b9i{x y:List K}{a b:AB}{P:PySem.Fin->AC->Prop}(hu:A.units+kd.d<cLine)(hx:IsN kd s.heap x a)(hy:IsN kd s.heap y b)(h:P (.done (.ret (.bool (decide (x=y))))) s):AF (model prog w) A (Builtin.«tuple.__eq__» ⟨[.ref a,.ref b],[]⟩) P E s:=by
 have tb:=hy.ty;obtain⟨oa,xs,na,ea,_,da,ia⟩:=hx;obtain⟨ob,ys,nb,eb,_,db,ib⟩:=hy;show AF _ _ (isInstance (.ref b) (.type "tuple")>>=_) _ _ s;refine AD (wpAny_isInstance tb isSubtype_tuple_tuple ?_);simp only [Bool.not_true,AX,if_false];refine AD (wpAny_tupleItemsOf ea da ?_);refine AD (wpAny_tupleItemsOf eb db ?_);refine AD ?_;refine wpAny_forIn_list _ (λrest r s'=>r.1=ζ/\s'=s/\∃x' y' xs' ys',rest=List.zip xs' ys'/\ItR (kd.is s.heap) x' xs'/\ItR (kd.is s.heap) y' ys'/\decide (x'=y')=decide (x=y)/\(xs'.length==ys'.length)=(xs.size==ys.size)) _ ?_ ?_ _ _ ⟨rfl,rfl,x,y,xs.toList,ys.toList,rfl,ia,ib,rfl,by simp⟩
 ·rintro⟨u,v⟩ rest r s' ⟨hr,rfl,x',y',xs',ys',hz,hx',hy',hdec,hlen⟩;cases hx' with
  |nil=>simp at hz
  | @cons k1 a1 x'' xs'' h1 hx''=>
    cases hy' with
    |nil=>simp at hz
    | @cons k2 a2 y'' ys'' h2 hy''=>
      rw [List.zip_cons_cons] at hz;cases hz;refine AD (kd.eqb hu h1 h2 ?_)
      by_cases hk:k1=k2
      ·subst hk;rw [decide_eq_true rfl];simp only [Bool.not_true,AX,if_false];refine AH ⟨rfl,rfl,x'',y'',xs'',ys'',rfl,hx'',hy'', ?_,by simpa using hlen⟩
       rw [<-hdec]
       by_cases hxy:x''=y''<;>simp [hxy]
      ·rw [decide_eq_false hk];simp only [Bool.not_false,if_true];have hf:decide (x=y)=false:=by rw [<-hdec];simp [hk]
       rw [hf] at h;exact AD (AH (AH (AH h)))
 ·rintro⟨r1,r2⟩ s' ⟨hr,rfl,x',y',xs',ys',hz,hx',hy',hdec,hlen⟩;simp only at hr;subst hr;refine AH ?_;have fin:(xs.size==ys.size)=decide (x=y):=by
   rw [<-hdec,<-hlen];cases hx' with
   |nil=>cases hy' with
    |nil=>simp
    |cons _ _=>simp
   |cons _ _=>cases hy' with
    |nil=>simp
    |cons _ _=>simp at hz
  show P (.done (.ret (.bool (xs.size==ys.size)))) s';rw [fin];exact h
theorem c0W{x y:List K}{a b:AB}{Q:Bool->AC->Prop}(hu:A.units+(kd.d+1)<cLine)(hx:IsN kd s.heap x a)(hy:IsN kd s.heap y b)(h:Q (decide (x=y)) s):AF (model prog w) A (eqBool (.ref a) (.ref b)) Q E s:=by
 unfold eqBool
 try with_reducible refine wpAny_holding ?_
 show AF _ _ (if(Value.ref a==Value.ref b)=true then _ else _) Q E s
 by_cases hab:(Value.ref a==Value.ref b)=true
 ·rw [if_pos hab];cases eq_of_beq hab;obtain rfl:=hx.uniq hy;exact AD (wpAny_rule (AH (by simpa using h)))
 ·rw [if_neg hab];exact AD (wpAny_richCompare_same_room (op:= .Eq) hx.ty hy.ty F.slot_tuple_eq (wpAny_call_entry F.slot_tuple_eq hx.ty F.entry_tuple_eq (b9i (show A.units+1+kd.d<cLine by lia) hx hy ⟨_,rfl,(λe=>nomatch e),wpAny_truthy_bool h⟩) (F.args_tuple_eq_2 _ _)) (by lia))
theorem c0X{ks:List K}{a:AB}{Q:Bool->AC->Prop}{n:Nat}(hn:kd.d+1<=n)(hk:IsN kd s.heap ks a)(h:Q true s):AF (model prog w) A (eqIsQuiet n (.ref a)) Q E s:=by
 have t0:=hk.ty;obtain⟨o,its,m,ho,_,hd,hi⟩:=hk;cases n with
 |zero=>lia
 |succ n=>
  ext f
  refine wpAny_forIn_list _ (λrest r s'=>r.1=ζ/\s'=s/\∃l,ItR (kd.is s.heap) l rest) _ ?_ ?_ _ _ ⟨rfl,rfl,ks,hi⟩
  ·rintro v rest r s' ⟨hr,rfl,l,hl⟩;cases hl with
   |cons h1 hl'=>
    refine AD (kd.qt (by lia) h1 ?_)
    simp only [Bool.not_true,AX,if_false];exact AH ⟨rfl,rfl,_,hl'⟩
  ·rintro⟨r1,r2⟩ s' ⟨hr,rfl,_⟩;simp only at hr;subst hr;exact AH h
def upK(kd:NKd prog w K):NKd prog w (List K) where
 d:=kd.d+1
 is:=IsN kd
 hash:=b4O kd
 draws:=λks=>(ks.map kd.draws).sum+1
 inj:=λhx hy=>hx.uniq hy
 tup:=λ⟨o,its,n,e,c,q,_⟩=>⟨o,its,n,e,c,q⟩
 stay:=λ⟨o,its,n,e,c,q,r⟩ k=>⟨o,its,n,k _ _ _ _ e c q,c,q,r.imp λ_ _ z=>kd.stay z k⟩
 hsh:=λhu hk h=>b65 hu hk h
 eqb:=λhu hx hy h=>c0W hu hx hy h
 qt:=λhn hk h=>c0X hn hk h
theorem b9j{kn:KeyKind prog w K}{ks:List K}{a:AB}{Q:Bool->AC->Prop}{n:Nat}(hn:1<=n)(hk:IsTupleKey kn s.heap ks a)(h:Q true s):AF (model prog w) A (eqIsQuiet n (.ref a)) Q E s:=by
 have t0:=hk.typeIs;obtain⟨o,its,m,ho,_,hd,hi⟩:=hk;cases n with
 |zero=>lia
 |succ n=>
  ext f
  refine wpAny_forIn_list _ (λrest r s'=>r.1=ζ/\s'=s/\∀v∈rest,carriedByValue v=true) _ ?_ ?_ _ _ ⟨rfl,rfl,hi.byValue⟩
  ·rintro v rest r s' ⟨hr,rfl,al⟩;rw [eqIsQuiet_byValue _ (al v Af)];refine AD (AH ?_);simp only [Bool.not_true,AX,if_false];exact AH ⟨rfl,rfl,λu hu=>al u (Ae _ hu)⟩
  ·rintro⟨r1,r2⟩ s' ⟨hr,rfl,_⟩;simp only at hr;subst hr;exact AH h
def a83(kn:KeyKind prog w K):NKd prog w (List K) where
 d:=1
 is:=IsTupleKey kn
 hash:=tupleKeyHash kn
 draws:=λks=>ks.length+1
 inj:=λhx hy=>hx.inj hy
 tup:=λ⟨o,its,n,e,c,q,_⟩=>⟨o,its,n,e,c,q⟩
 stay:=λ⟨o,its,n,e,c,q,r⟩ k=>⟨o,its,n,k _ _ _ _ e c q,c,q,r⟩
 hsh:=λhu hk h=>wpAny_pyHash_tuple (by lia) hk h
 eqb:=λhu hx hy h=>wpAny_eqBool_tuple (by lia) hx hy h
 qt:=λhn hk h=>b9j hn hk h
end
abbrev Ky3:=List (List (List f6))
def k3N(P:AJ)(w:AI):NKd P w Ky3:=upK (upK (a83 (f9 P w)))
def Pfx{α:Type}(e:α->List f6):Prop:=∀a b x y,e a++x=e b++y->a=b/\x=y
def eL{α:Type}(e:α->List f6)(l:List α):List f6:= .inl l.length::l.flatMap e
theorem a9O{α:Type}{e:α->List f6}(h:Pfx e):∀(l m:List α) (x y:List f6),l.length=m.length->l.flatMap e++x=m.flatMap e++y->l=m/\x=y
 |[],[],x,y,_,q=>⟨rfl,by simpa using q⟩
 |[],_::_,_,_,z,_=>by cases z
 |_::_,[],_,_,z,_=>by cases z
 |a::l,b::m,x,y,z,q=>by
  rw [List.flatMap_cons,List.flatMap_cons,List.append_assoc,List.append_assoc] at q;obtain⟨e1,q2⟩:=h _ _ _ _ q;obtain⟨e2,q3⟩:=a9O h l m x y (by simpa using z) q2
  exact⟨by rw [e1,e2],q3⟩
theorem b5e{α:Type}{e:α->List f6}(h:Pfx e):Pfx (eL e):=λl m x y q=>by
 unfold eL at q;rw [Av,Av] at q;obtain⟨q1,q2⟩:=List.cons.inj q;exact a9O h l m x y (Int.ofNat.inj (Sum.inl.inj q1)) q2
theorem c08:Pfx (λk:f6=>[k]):=λa b x y q=>by
 obtain⟨q1,q2⟩:=List.cons.inj (show a::x=b::y from q);exact⟨q1,q2⟩
def a1Z(k:Ky3):List f6:=AO 6 (.inl 0)++eL (eL (eL λk:f6=>[k])) k
theorem a9g{k j:Ky3}(h:a1Z k=a1Z j):k=j:=by
 unfold a1Z at h;have h:=List.append_cancel_left h;exact(b5e (b5e (b5e c08)) k j [] [] (by rw [h])).1
theorem a1g(k:Ky3):5<(a1Z k).length:=by
 unfold a1Z;rw [Am,List.length_replicate]
 lia
open Classical in
def b6r(ks:List f6):Ky3:=if h:∃k,a1Z k=ks then h.choose else []
theorem a9b(k:Ky3):b6r (a1Z k)=k:=by
 have h:∃j,a1Z j=a1Z k:=⟨k,rfl⟩;unfold b6r;rw [dif_pos h];exact a9g h.choose_spec
section
variable {P:AJ}{w:AI}
def UIs(P:AJ)(w:AI)(h:Heap)(ks:List f6)(a:AB):Prop:=
 (ks.length<=5/\IsTupleKey (f9 P w) h ks a)\/∃k,ks=a1Z k/\k≠[]/\(k3N P w).is h k a
open Classical in
def b2f(P:AJ)(w:AI)(ks:List f6):Int:=if ks.length<=5 then tupleKeyHash (f9 P w) ks else(k3N P w).hash (b6r ks)
open Classical in
def a8H(P:AJ)(w:AI)(ks:List f6):Nat:=if ks.length<=5 then ks.length+1 else(k3N P w).draws (b6r ks)
theorem a9F{h:Heap}{k:Ky3}{a:AB}(x:(k3N P w).is h k a):∃o its n,h.get? a=ξ o/\o.cls= .type "tuple"/\o.data= .seq its n/\ItR (IsN (a83 (f9 P w)) h) k its.toList:=x
theorem a8k{h:Heap}{ks:List f6}{k:Ky3}{a:AB}(x:IsTupleKey (f9 P w) h ks a)(hk:k≠[])(y:(k3N P w).is h k a):False:=by
 obtain⟨o,its,n,e,_,d,r⟩:=x;obtain⟨o',its',n',e',_,d',r'⟩:=a9F y;rw [e] at e';cases e';rw [d] at d';cases d';generalize its.toList=l at r r';cases r' with
 |nil=>exact hk rfl
 |cons h1 h2=>
  cases r with
  |cons q _=>
   have:=(f9 P w).byValue _ _ q;cases this
theorem b6S{K:Type}{is:K->AB->Prop}{ks:List K}{vs:List AA}(r:ItR is ks vs){v:AA}(h:v∈vs):∃k a,v= .ref a/\is k a:=by
 induction r with
 |nil=>cases h
 |cons q _ ih=>
  rcases AU.mp h with z|z
  ·exact⟨_,_,z,q⟩
  ·exact ih z
theorem b4J{A:AK}{s:AC}{ks:List f6}{k:Ky3}{a b:AB}(hu:A.units+1<cLine)(hx:IsTupleKey (f9 P w) s.heap ks a)(hk:k≠[])(hy:(k3N P w).is s.heap k b):
 SeqAt.EqAt A s (.ref a) (.ref b) false/\SeqAt.EqAt A s (.ref b) (.ref a) false:=by
 have hne:a≠b:=λe=>by subst e;exact a8k hx hk hy
 obtain⟨o,its,n,e,c,d,r⟩:=hx
 obtain⟨o',its',n',e',c',d',r'⟩:=a9F hy
 have t1:s.heap.IsTuple a its:=⟨o,e,c,n,d⟩
 have t2:s.heap.IsTuple b its':=⟨o',e',c',n',d'⟩
 have key:∀j (h1:j<its.size) (h2:j<its'.size),SeqAt.EqAt A.in1 s its[j] its'[j] false/\SeqAt.EqAt A.in1 s its'[j] its[j] false:=λj h1 h2=>by
  have g1:∃q,(f9 P w).is q its[j]=true:=by
   have hm:its[j]∈its.toList:=by simp
   clear e' c' d' r' t1 t2 e c d;generalize its[j]=v at hm;generalize its.toList=l at r hm
   induction r with
   |nil=>cases hm
   |cons q _ ih=>
    rcases AU.mp hm with z|z
    ·subst z;exact⟨_,q⟩
    ·exact ih z
  have g2:∃c its2,its'[j]= .ref c/\s.heap.IsTuple c its2:=by
   obtain⟨q,c,e3,o2,i2,n2,e2,c2,d2,_⟩:=b6S r' (v:=its'[j]) (by simp)
   exact⟨c,i2,e3,o2,e2,c2,n2,d2⟩
  obtain⟨q,hq⟩:=g1;obtain⟨cc,its2,e2,t3⟩:=g2;rw [e2];have hu1:A.in1.units<cLine:=hu;have hu0:A.units<cLine:=by lia
  rcases u6 (show a2T q its[j]=true from hq) with⟨i,t,rfl,e3⟩|⟨x,t,rfl,e3⟩<;>rw [e3]
  ·exact⟨SeqAt.EqAt.int_tuple _ _ t3 hu1,SeqAt.EqAt.tuple_int _ _ t3 hu1⟩
  ·exact⟨SeqAt.EqAt.str_tuple _ _ t3 hu1,SeqAt.EqAt.tuple_str _ _ t3 hu1⟩
 have hz:0<its'.size:=by
  have:its'.toList≠[]:=λz=>by
   rw [z] at r';cases r';exact hk rfl
  rw [<-Array.length_toList];exact List.length_pos_iff.mpr this
 have val:∀x y:Nat,0<y->((AZ (min x y)).all (λ_=>false)&& x==y)=false:=λx y hy=>by
  cases x with
  |zero=>simp;lia
  |succ x=>
   have:0<min (x+1) y:=by lia
   have:(AZ (min (x+1) y)).all (λ_=>false)=false:=by
    rw [List.all_eq_false];exact⟨0,List.mem_range.mpr this,by simp⟩
   rw [this];rfl
 have val2:∀x y:Nat,0<x->((AZ (min x y)).all (λ_=>false)&& x==y)=false:=λx y hx=>by
  cases y with
  |zero=>simp;lia
  |succ y=>
   have:0<min x (y+1):=by lia
   have:(AZ (min x (y+1))).all (λ_=>false)=false:=by
    rw [List.all_eq_false];exact⟨0,List.mem_range.mpr this,by simp⟩
   rw [this];rfl
 constructor
 ·have:=SeqAt.RcAt.tuples (A:=A) (e:=λ_=>false) t1 t2 (by lia) λj h1 h2=>(key j h1 h2).1
  rw [val _ _ hz] at this
  exact SeqAt.EqAt.of_refs hne this
 ·have:=SeqAt.RcAt.tuples (A:=A) (e:=λ_=>false) t2 t1 (by lia) λj h1 h2=>(key j h2 h1).2
  rw [val2 _ _ hz] at this
  exact SeqAt.EqAt.of_refs (Ne.symm hne) this
theorem b7I{ks:List f6}(h:ks.length<=5):b2f P w ks=tupleKeyHash (f9 P w) ks:=if_pos h
theorem b7J(k:Ky3):b2f P w (a1Z k)=(k3N P w).hash k:=by
 unfold b2f;rw [if_neg (by have:=a1g k;lia),a9b]
theorem b5R{ks:List f6}(h:ks.length<=5):a8H P w ks=ks.length+1:=if_pos h
theorem b5S(k:Ky3):a8H P w (a1Z k)=(k3N P w).draws k:=by
 unfold a8H;rw [if_neg (by have:=a1g k;lia),a9b]
def a7J(P:AJ)(w:AI):HeapKind P w (List f6) where
 is:=UIs P w
 hash:=b2f P w
 draws:=a8H P w
 room:=λA=>A.units+3<cLine
 inj:=λhx hy=>by
  rcases hx with⟨_,hx⟩|⟨k,rfl,hk,hx⟩
  ·rcases hy with⟨_,hy⟩|⟨j,rfl,hj,hy⟩
   ·exact hx.inj hy
   ·exact(a8k hx hj hy).elim
  ·rcases hy with⟨_,hy⟩|⟨j,rfl,hj,hy⟩
   ·exact(a8k hy hk hx).elim
   ·rw [(k3N P w).inj hx hy]
 keeps:=λ {h h' k a d o es ep} x ho hd hs=>by
  have kp:∀(b:AB) (o2:Obj) (its:Array AA) (n:Nat),h.get? b=ξ o2->o2.cls= .type "tuple"->o2.data= .seq its n->h'.get? b=ξ o2:=λb o2 its n e c q=>by
   refine(hs.2 b ?_).trans e;rintro rfl;rw [ho] at e;cases e;rw [hd] at q;cases q
  rcases x with⟨l,x⟩|⟨k,rfl,hk,x⟩
  ·exact .inl ⟨l,x.keeps ho hd hs⟩
  ·exact .inr ⟨k,rfl,hk,(k3N P w).stay x kp⟩
 pyHash:=λ {A} {E} {s} {ks} {a} {Q} hu hk h=>by
  rcases hk with⟨l,x⟩|⟨k,rfl,hk,x⟩
  ·rw [b7I l,b5R l] at h;exact wpAny_pyHash_tuple (by lia) x h
  ·rw [b7J,b5S] at h;exact(k3N P w).hsh (show A.units+(1+1+1)<cLine from hu) x h
 eqBool:=λ {A} {E} {s} {x y} {a b} {Q} hu hx hy h=>by
  rcases hx with⟨l,hx⟩|⟨k,rfl,hk,hx⟩
  ·rcases hy with⟨l',hy⟩|⟨j,rfl,hj,hy⟩
   ·exact wpAny_eqBool_tuple (by lia) hx hy h
   ·rw [decide_eq_false (λe=>by have:=a1g j;rw [<-e] at this;lia)] at h
    exact(b4J (by lia) hx hj hy).1 _ _ _ _ h
  ·rcases hy with⟨l',hy⟩|⟨j,rfl,hj,hy⟩
   ·rw [decide_eq_false (λe=>by have:=a1g k;rw [e] at this;lia)] at h
    exact(b4J (by lia) hy hk hx).2 _ _ _ _ h
   ·refine(k3N P w).eqb (show A.units+(1+1+1)<cLine from hu) hx hy ?_;have:decide (k=j)=decide (a1Z k=a1Z j):=by
     rw [decide_eq_decide];exact⟨λe=>by rw [e],a9g⟩
    rw [this];exact h
 quiet:=λhk h=>by
  rcases hk with⟨_,x⟩|⟨k,rfl,_,x⟩
  ·exact wpAny_eqIsQuiet_tuple x h
  ·exact(k3N P w).qt (show 1+1+1<=8 by lia) x h
end
theorem k4{α β γ:Type _}{p q r:α->β->γ->Prop}{C:Prop}(h:∃a b c,p a b c/\q a b c/\r a b c)(k:∀a b c,p a b c->q a b c->r a b c->C):C:=
 h.elim λa h=>h.elim λb h=>h.elim λc h=>k a b c h.1 h.2.1 h.2.2
theorem j5{α β:Type _}{p q r:α->β->Prop}{C:Prop}(h:∃a b,p a b/\q a b/\r a b)(k:∀a b,p a b->q a b->r a b->C):C:=
 h.elim λa h=>h.elim λb h=>k a b h.1 h.2.1 h.2.2
theorem a4A{α β:Type _}{p q r s:α->β->Prop}{C:Prop}(h:∃a b,p a b/\q a b/\r a b/\s a b)(k:∀a b,p a b->q a b->r a b->s a b->C):C:=
 h.elim λa h=>h.elim λb h=>k a b h.1 h.2.1 h.2.2.1 h.2.2.2
inductive V where
 |non|bl (b:Bool)|int (i:Int)|str (x:Str)|byt (b:Array UInt8)|flt (b:UInt64)|ref (a:AB)|ty (n:String)
 deriving DecidableEq
def j3:V->AA->Prop
 | .non,u=>u=Value.none
 | .bl b,u=>u=Value.bool b
 | .int i,u=>∃t,u=Value.int i t
 | .str x,u=>∃t,u=Value.str x t
 | .byt b,u=>∃t,u=Value.bytes b t
 | .flt b,u=>∃t,u=Value.float b t
 | .ref a,u=>u=Value.ref a
 | .ty n,u=>u=Value.type n
abbrev j4:List V->List AA->Prop:=Paired j3
theorem j4.length{xs:List V}{us:List AA}(r:j4 xs us):xs.length=us.length:=Paired.length r
theorem j4.get:∀{xs:List V} {us:List AA} {i:Nat} {x:V},j4 xs us->xs[i]?=ξ x->∃u,us[i]?=ξ u/\j3 x u
 |_,_,_,_,.nil,e=>by simp at e
 |_,_,0,_,.cons r _,e=>by simp at e;subst e;exact⟨_,rfl,r⟩
 |_,_,i+1,x,.cons _ t,e=>by
  obtain⟨u,h1,h2⟩:=j4.get (i:=i) (x:=x) t (by simpa using e)
  exact⟨u,by simpa using h1,h2⟩
theorem j4.append:∀{xs ys:List V} {us ws:List AA},j4 xs us->j4 ys ws->j4 (xs++ys) (us++ws)
 |_,_,_,_,.nil,s=>s
 |_,_,_,_,.cons r t,s=> .cons r (j4.append t s)
theorem j4.take:∀{xs:List V} {us:List AA} (n:Nat),j4 xs us->j4 (xs.take n) (us.take n)
 |_,_,0,_=> .nil
 |_,_,_+1,.nil=> .nil
 |_,_,n+1,.cons r t=> .cons r (j4.take n t)
theorem j4.drop:∀{xs:List V} {us:List AA} (n:Nat),j4 xs us->j4 (xs.drop n) (us.drop n)
 |_,_,0,r=>r
 |_,_,_+1,.nil=> .nil
 |_,_,n+1,.cons _ t=>j4.drop n t
def a2H:Option V->Option AA->Prop
 |some v,ξ u=>j3 v u
 |none,ζ=>True
 |_,_=>False
def KV{κ:Type}:List (κ×V)->List (κ×AA)->Prop:=Paired λ(p:κ×V) (q:κ×AA)=>p.1=q.1/\j3 p.2 q.2
def kV:f6->V
 | .inl i=> .int i
 | .inr x=> .str x
inductive HO where
 |lst (xs:List V)
 |tup (xs:List V)
 |dK (kvs:List (f6×V))|dT (K:AE) (kvs:List (List f6×V))
 |set (S:Int->Bool) (n:Nat)
 |ins (C dx:AB) (fs:List (Str×V))
 |own (x:AB)
 |xd (fs:List (Str×V))
 |met (f x:AB)
 |rng (lo hi:Int)
 |frz (o:Obj) (u:HO)
 |tbl (ps:Array AA)
 |ext (φ:Heap->Prop)
abbrev Hp:=AB->Option HO
def i7(H:Hp)(a:AB)(o:HO):Hp:=λb=>if b=a then ξ o else H b
theorem c8{H:Hp}{a:AB}{o:HO}:i7 H a o a=ξ o:=by unfold i7;rw [if_pos rfl]
theorem a9{H:Hp}{a b:AB}{o:HO}(h:b≠a):i7 H a o b=H b:=by unfold i7;rw [if_neg h]
theorem a4L{H:Hp}{a:AB}{o u:HO}:i7 (i7 H a o) a u=i7 H a u:=by
 funext b;unfold i7;split<;>rfl
theorem A0{H:Hp}{a b:AB}{o u:HO}(h:H a=ξ o)(h':H b=ξ u)(d:o≠u):a≠b:=by
 intro e;subst e;rw [h] at h';exact d (Option.some.inj h')
theorem f7{H:Hp}{a b:AB}{o:HO}(h:H a=ξ o)(h':H b=ζ):a≠b:=by
 intro e;subst e;rw [h] at h';cases h'
def KyF(K:AE)(H:Hp)(b:AB)(ks:List f6):Prop:=
 H b=ξ (.tup (ks.map kV))\/∃(o:Obj) (its:Array AA) (n:Nat),K.lookup b=ξ o/\o.cls= .type "tuple"/\o.data= .seq its n/\j4 (ks.map kV) its.toList
def KyT(K:AE)(H:Hp)(b:AB)(xs:List V):Prop:=
 H b=ξ (.tup xs)\/∃(o:Obj) (its:Array AA) (n:Nat),K.lookup b=ξ o/\o.cls= .type "tuple"/\o.data= .seq its n/\j4 xs its.toList
def KyB(K:AE)(H:Hp)(b:AB)(ks:List (List f6)):Prop:=∃ps:List AB,KyT K H b (ps.map V.ref)/\Paired (KyF K H) ps ks
def KyC(K:AE)(H:Hp)(b:AB)(ks:Ky3):Prop:=∃ps:List AB,KyT K H b (ps.map V.ref)/\Paired (KyB K H) ps ks
def KyA(K:AE)(H:Hp)(b:AB)(ks:List f6):Prop:=(ks.length<=5/\KyF K H b ks)\/∃k,ks=a1Z k/\k≠[]/\KyC K H b k
theorem KyA.tup{K:AE}{H:Hp}{b:AB}{k:List f6}(h:H b=ξ (.tup (k.map kV)))(l:k.length<=5):KyA K H b k:= .inl ⟨l,.inl h⟩
section
variable (P:AJ)(w:AI)
def v4(H:Hp)(h:Heap)(a:AB):HO->Prop
 | .lst xs=>xs.length<=AM/\∃(its:List AA) (n:Nat),j4 xs its/\h.get? a=ξ {cls:= .type "list",data:= .seq its.toArray n}
 | .tup xs=>xs.length<=AM/\∃its:List AA,j4 xs its/\IsTup h a its.toArray
 | .dK kvs=>kvs.length<=AM/\(a==sysModules)=false/\∃vs,KV kvs vs/\h.DictOf (f9 P w) a vs
 | .dT K kvs=>kvs.length<=AM/\(a==sysModules)=false/\∃xs:List (List f6×AB×AA),
  Paired (λ(p:List f6×V) (q:List f6×AB×AA)=>p.1=q.1/\KyA K H q.2.1 p.1/\j3 p.2 q.2.2) kvs xs/\
  ∃o es ep,h.get? a=ξ o/\o.ExactDict/\o.data= .dict es ep/\es.toList=xs.map (entryOfKey (a7J P w))/\(xs.map (·.1)).Nodup
 | .set S n=>h.SetOf (intKind P w) a S n
 | .ins C dx fs=>H dx=ξ (.own a)/\fs.length<=1000/\dx≠a/\h.get? a=ξ (PySem.W.instObj C dx)/\
  ∃mA,h.Ns1 dx mA/\(∀f,a2H (fs.lookup f) (mA f))/\PySem.Within mA (fs.map (·.1))
 | .own _=>∃o,h.get? a=ξ o
 | .xd fs=>∃mA,h.Ns1 a mA/\∀f,a2H (fs.lookup f) (mA f)
 | .rng lo hi=>∃t u v,h.get? a=ξ {cls:= .type "range",data:= .fields #[.int lo t,.int hi u,.int 1 v]}
 | .frz o u=>h.get? a=ξ o/\v4 H h a u
 | .tbl ps=>h.get? a=ξ {cls:= .none,data:= .fields ps}
 | .met f x=>h.get? a=ξ (PySem.W.methodObj (.ref f) (.ref x))
 | .ext φ=>φ h/\(∃o,h.get? a=ξ o)/\∀h1 h2:Heap,φ h1->(∀o,h1.get? a=ξ o->h2.get? a=ξ o)->φ h2
def HOk(H:Hp)(h:Heap):Prop:=∀a o,H a=ξ o->v4 P w H h a o
end
section
variable {P:AJ}{w:AI}{H H':Hp}{h h':Heap}{a:AB}{o:HO}
theorem v4.lt(x:v4 P w H h a o):a<h.objs.size:=by
 cases o with
 |lst xs=>obtain⟨_,_,_,_,e⟩:=x;exact AT e
 |tup xs=>obtain⟨_,_,_,p⟩:=x;exact p.lt
 |dK kvs=>obtain⟨_,_,_,_,o,_,_,e,_⟩:=x;exact AT e
 |dT K kvs=>obtain⟨_,_,_,_,o,_,_,e,_⟩:=x;exact AT e
 |set S n=>obtain⟨o,_,_,_,e,_⟩:=x;exact AT e
 |ins C dx fs=>obtain⟨_,_,_,e,_⟩:=x;exact AT e
 |own y=>obtain⟨_,e⟩:=x;exact AT e
 |xd fs=>obtain⟨_,⟨_,_,_,e,_⟩,_⟩:=x;exact AT e
 |rng lo hi=>obtain⟨_,_,_,e⟩:=x;exact AT e
 |frz ob u=>obtain⟨e,_⟩:=x;exact AT e
 |tbl ps=>exact AT (show h.get? a=ξ _ from x)
 |met f y=>exact AT (show h.get? a=ξ _ from x)
 |ext φ=>obtain⟨_,⟨_,e⟩,_⟩:=x;exact AT e
theorem Paired.mapP{α β:Type}{F G:α->β->Prop}:∀{l₁:List α} {l₂:List β},Paired F l₁ l₂->(∀a b,F a b->G a b)->Paired G l₁ l₂
 |_,_,.nil,_=> .nil
 |_,_,.cons r t,f=> .cons (f _ _ r) (Paired.mapP t f)
theorem KyA.keep{K:AE}{H H':Hp}{b:AB}{k:List f6}(ht:∀b xs,H b=ξ (.tup xs)->H' b=ξ (.tup xs))(h:KyA K H b k):KyA K H' b k:=by
 have hf:∀p q,KyF K H p q->KyF K H' p q:=λp q z=>z.imp (ht _ _) id;have hb:∀p q,KyB K H p q->KyB K H' p q:=λp q ⟨ps,z,r⟩=>⟨ps,z.imp (ht _ _) id,Paired.mapP r hf⟩;rcases h with⟨l,z⟩|⟨k,e,n,ps,z,r⟩
 ·exact .inl ⟨l,hf _ _ z⟩
 ·exact .inr ⟨k,e,n,ps,z.imp (ht _ _) id,Paired.mapP r hb⟩
theorem v4.stay(x:v4 P w H h a o)(k:∀b u,(b=a\/H b=ξ (.own a))->h.get? b=ξ u->h'.get? b=ξ u)
 (ho:∀b,H b=ξ (.own a)->H' b=ξ (.own a)) (ht:∀b xs,H b=ξ (.tup xs)->H' b=ξ (.tup xs)):v4 P w H' h' a o:=by
 induction o with
 |lst xs=>obtain⟨z,its,n,r,e⟩:=x;exact⟨z,its,n,r,k _ _ (.inl rfl) e⟩
 |tup xs=>obtain⟨z,its,r,ob,e,c⟩:=x;exact⟨z,its,r,ob,k _ _ (.inl rfl) e,c⟩
 |dK kvs=>obtain⟨z,y,vs,r,ob,es,ep,e,c⟩:=x;exact⟨z,y,vs,r,ob,es,ep,k _ _ (.inl rfl) e,c⟩
 |dT K kvs=>
  obtain⟨z,y,xs,r,ob,es,ep,e,c⟩:=x
  exact⟨z,y,xs,Paired.mapP r λp q z=>⟨z.1,z.2.1.keep ht,z.2.2⟩,ob,es,ep,k _ _ (.inl rfl) e,c⟩
 |set S n=>obtain⟨ob,es,ep,t,e,c⟩:=x;exact⟨ob,es,ep,t,k _ _ (.inl rfl) e,c⟩
 |ins C dx fs=>
  obtain⟨d,z,ne,e,mA,⟨od,es,ep,e2,c⟩,r⟩:=x
  exact⟨ho _ d,z,ne,k _ _ (.inl rfl) e,mA,⟨od,es,ep,k _ _ (.inr d) e2,c⟩,r⟩
 |own y=>obtain⟨ob,e⟩:=x;exact⟨ob,k _ _ (.inl rfl) e⟩
 |xd fs=>obtain⟨mA,⟨od,es,ep,e,c⟩,r⟩:=x;exact⟨mA,⟨od,es,ep,k _ _ (.inl rfl) e,c⟩,r⟩
 |rng lo hi=>obtain⟨t,u,v,e⟩:=x;exact⟨t,u,v,k _ _ (.inl rfl) e⟩
 |frz ob u ih=>obtain⟨e,q⟩:=x;exact⟨k _ _ (.inl rfl) e,ih q⟩
 |tbl ps=>
  have e:h.get? a=ξ {cls:= .none,data:= .fields ps}:=x
  show h'.get? a=ξ {cls:= .none,data:= .fields ps}
  exact k a _ (.inl rfl) e
 |met f y=>
  have e:h.get? a=ξ (PySem.W.methodObj (.ref f) (.ref y)):=x
  show h'.get? a=ξ (PySem.W.methodObj (.ref f) (.ref y))
  exact k a _ (.inl rfl) e
 |ext φ=>obtain⟨p,⟨o,e⟩,st⟩:=x;exact⟨st _ _ p λo q=>k _ _ (.inl rfl) q,⟨o,k _ _ (.inl rfl) e⟩,st⟩
theorem HOk.lt(x:HOk P w H h)(e:H a=ξ o):a<h.objs.size:=(x a o e).lt
theorem HOk.fresh(x:HOk P w H h)(e:h.objs.size<=a):H a=ζ:=by
 cases q:H a with
 |none=>rfl
 |some u=>exact absurd (Ak (x.lt q) e) (Nat.lt_irrefl _)
theorem HOk.kept(x:HOk P w H h)(k:∀b u,h.get? b=ξ u->h'.get? b=ξ u):HOk P w H h':=λa o e=>
 (x a o e).stay (λb u _ q=>k b u q) (λ_ q=>q) λ_ _ q=>q
theorem HOk.laid(x:HOk P w H h)(k:∀b u,h.get? b=ξ u->h'.get? b=ξ u)(hp:h.objs.size<=a)(new:v4 P w (i7 H a o) h' a o):HOk P w (i7 H a o) h':=λb u e=>by
 have hn:=x.fresh hp
 by_cases hb:b=a
 ·subst hb;rw [c8] at e;cases e;exact new
 ·rw [a9 hb] at e;exact(x b u e).stay (λc v _ q=>k c v q) (λc q=>by rw [a9 (f7 q hn)];exact q) λc xs q=>by rw [a9 (f7 q hn)];exact q
end
def Rd(H:Hp)(a:AB)(u:HO):Prop:=H a=ξ u\/∃o,H a=ξ (.frz o u)
theorem Rd.ok{P:AJ}{w:AI}{H:Hp}{h:Heap}{a:AB}{u:HO}(r:Rd H a u)(x:HOk P w H h):v4 P w H h a u:=by
 rcases r with r|⟨o,r⟩
 ·exact x a u r
 ·obtain⟨_,q⟩:=x a _ r;exact q
def Mut:Option HO->Prop
 |some (.lst _)=>True
 |some (.dK _)=>True
 |some (.dT _ _)=>True
 |some (.set _ _)=>True
 |some (.ins _ _ _)=>True
 |some (.ext _)=>True
 |_=>False
section
variable {P:AJ}{w:AI}{H:Hp}{h h':Heap}{x e:AB}{o':HO}
theorem HOk.write(ok:HOk P w H h)(mu:Mut (H x))(he:e=x\/H e=ξ (.own x))(k:∀b u,b≠e->h.get? b=ξ u->h'.get? b=ξ u)(heo:∃u,h'.get? e=ξ u)
 (new:v4 P w (i7 H x o') h' x o'):HOk P w (i7 H x o') h':=λb u q=>by
 have nown:∀c y,H c=ξ (.own y)->c≠x:=λc y r z=>by subst z;rw [r] at mu;exact mu
 have ntup:∀c xs,H c=ξ (.tup xs)->c≠x:=λc xs r z=>by subst z;rw [r] at mu;exact mu
 by_cases hb:b=x
 ·subst hb;rw [c8] at q;cases q;exact new
 ·rw [a9 hb] at q
  by_cases hbe:b=e
  ·have q':H b=ξ (.own x):=by
    rcases he with z|z
    ·exact absurd (hbe.trans z) hb
    ·rw [hbe];exact z
   rw [q] at q';cases q';obtain⟨v,hv⟩:=heo;exact⟨v,by rw [hbe];exact hv⟩
  ·refine(ok b u q).stay (λc v hc r=>k c v ?_ r) (λc r=>by rw [a9 (nown c b r)];exact r) λc xs r=>by rw [a9 (ntup c xs r)];exact r
   rcases hc with rfl|hc
   ·exact hbe
   ·rintro rfl
    rcases he with z|z
    ·exact nown c b hc z
    ·rw [hc] at z;cases z;exact hb rfl
end
structure Un(fs ex:List AB)(H H':Hp)(h h':Heap):Prop where
 keep:∀b o,h.get? b=ξ o->H b=ζ->b∉fs->b∉ex->h'.get? b=ξ o
 slot:∀b o,h.get? b=ξ o->H b=ζ->b∈fs->b∉ex->∃sl,h'.get? b=ξ {o with slots:=sl}
 free:∀b o,h.get? b=ξ o->H b=ζ->b∉ex->H' b=ζ
 there:∀b o,h.get? b=ξ o->b∉ex->∃o',h'.get? b=ξ o'
 tups:∀b xs,H b=ξ (.tup xs)->H' b=ξ (.tup xs)
 frzs:∀b o u,H b=ξ (.frz o u)->H' b=ξ (.frz o u)
 tbls:∀b ps,H b=ξ (.tbl ps)->∃more,H' b=ξ (.tbl (ps++more))
section
variable {fs fs' ex ex':List AB}{H H1 H2:Hp}{h h1 h2 h':Heap}{a x e:AB}{o:HO}
theorem Un.any(u:Un fs ex H H1 h h1){b:AB}{ob:Obj}(q:h.get? b=ξ ob)(n:H b=ζ)(hx:b∉ex):∃sl,h1.get? b=ξ {ob with slots:=sl}:=by
 by_cases hb:b∈fs
 ·exact u.slot b ob q n hb hx
 ·exact⟨ob.slots,u.keep b ob q n hb hx⟩
theorem Un.kept(k:∀b u,h.get? b=ξ u->h'.get? b=ξ u):Un fs ex H H h h':=
 ⟨λb ob q _ _ _=>k b ob q,λb ob q _ _ _=>⟨ob.slots,k b ob q⟩,λ_ _ _ n _=>n,λb ob q _=>⟨ob,k b ob q⟩,λ_ _ q=>q,λ_ _ _ q=>q,λ_ ps q=>⟨#[],by rw [q];simp⟩⟩
theorem Un.refl:Un fs ex H H h h:=Un.kept λ_ _ q=>q
theorem Un.laid(k:∀b u,h.get? b=ξ u->h'.get? b=ξ u)(hp:h.objs.size<=a)(hn:H a=ζ):Un fs ex H (i7 H a o) h h' where
 keep:=λb u q _ _ _=>k b u q
 slot:=λb u q _ _ _=>⟨u.slots,k b u q⟩
 free:=λb u q n _=>by rw [a9 (AW (Ak (AT q) hp))];exact n
 there:=λb u q _=>⟨u,k b u q⟩
 tups:=λb xs q=>by rw [a9 (f7 q hn)];exact q
 frzs:=λb u xs q=>by rw [a9 (f7 q hn)];exact q
 tbls:=λb ps q=>⟨#[],by rw [a9 (f7 q hn),q];simp⟩
theorem Un.write(mu:Mut (H x))(he:e=x\/H e=ξ (.own x))(k:∀b u,b≠e->h.get? b=ξ u->h'.get? b=ξ u)(heo:∃u,h'.get? e=ξ u):Un fs ex H (i7 H x o) h h':=by
 have hx:∀b,H b=ζ->b≠x:=λb n z=>by subst z;rw [n] at mu;exact mu
 have hb:∀b,H b=ζ->b≠e:=λb n z=>by
  subst z;rcases he with r|r
  ·exact hx b n r
  ·rw [n] at r;cases r
 have hm:∀b u,H b=ξ u->¬Mut (ξ u)->b≠x:=λb u q nm z=>by subst z;rw [q] at mu;exact nm mu
 refine⟨λb u q n _ _=>k b u (hb b n) q,λb u q n _ _=>⟨u.slots,k b u (hb b n) q⟩,λb u q n _=>by rw [a9 (hx b n)];exact n,λb u q _=> ?_,
  λb xs q=>by rw [a9 (hm b _ q λz=>z)];exact q,λb u xs q=>by rw [a9 (hm b _ q λz=>z)];exact q,λb ps q=>⟨#[],by rw [a9 (hm b _ q λz=>z),q];simp⟩⟩
 by_cases hbe:b=e
 ·subst hbe;exact heo
 ·exact⟨u,k b u hbe q⟩
end
def trk(h:Heap)(H:Hp):List AB:=(AZ h.objs.size).filter λa=>(H a).isSome
def a8b(h:Heap)(H:Hp):Heap:=PySem.W.hideAll h (trk h H)
theorem b2K(h:Heap)(H:Hp):(a8b h H).objs.size=h.objs.size:=PySem.W.hideAll_size _ _
theorem b4m{h:Heap}{H:Hp}{b:AB}{o:Obj}(e:h.get? b=ξ o)(n:H b=ζ):(a8b h H).get? b=ξ o:=
 PySem.W.hideAll_get _ e λhm=>by
  have q:(H b).isSome=true:=(List.mem_filter.mp hm).2;rw [n] at q;simp at q
theorem b67{h:Heap}{H:Hp}{b:AB}{o:Obj}(e:(a8b h H).get? b=ξ o):h.get? b=ξ o/\H b=ζ:=by
 have e':h.get? b=ξ o:=PySem.W.of_hideAll (trk h H) e;refine⟨e', ?_⟩;cases q:H b with
 |none=>rfl
 |some x=>
  have hm:b∈trk h H:=List.mem_filter.mpr ⟨List.mem_range.mpr (AT e'),by simp [q]⟩
  have z:(a8b h H).get? b=ζ:=PySem.W.hideAll_none (trk h H) hm;rw [z] at e;cases e
structure Mod(K:AE)(mg:Str->Option AA)(base:Heap):Prop where
 kin:K.In base
 glob:base.Ns mainGlobals mg
 blt:∃mb,base.Ns builtinsNs mb/\∀x:Str,x≠"__name__"->mb x=bootBuiltins x
 nolimit:base.NoLimit
structure Cx where
 prog:AJ
 w:AI
 K:AE
 mg:Str->Option AA
 base:Heap
 A:AK
 N:List Str
 s₀:AC
 H₀:Hp
 env:Env
 outer:List Env
 stack:List Env
 ex:List AB
 fn:Str->Bool
 calm:Bool
 pn:List (AB×Obj)
 xe:AA->AC->Prop
def frs(l:List Env):List AB:=l.filterMap (·.frame)
abbrev Cx.fs(X:Cx):List AB:=frs X.outer
def Vis(sc:Scope)(x:Str):Prop:=sc.names.lookup x=ξ .local\/sc.names.lookup x=ξ .cell\/sc.names.lookup x=ξ .free
def Loc(sc:Scope)(x:Str):Prop:=sc.names.lookup x=ξ .local\/sc.names.lookup x=ξ .cell
def c1z(env:Env)(h:Heap)(m:Str->Option AA)(x:Str)(u:AA):Prop:=
 (env.kindOf x=ξ .local/\m x=ξ u)\/((env.kindOf x=ξ .cell\/env.kindOf x=ξ .free)/\∃c,env.cells.lookup x=ξ c/\h.IsCell c (ξ u))
structure Cx.Ok(X:Cx):Prop where
 mod:Mod X.K X.mg X.base
 kind:X.env.scope.kind= .function
 glob:X.env.globals=mainGlobals
 blt:X.env.builtins=builtinsNs
 above:X.s₀.heap.objs.size<=X.env.locals
 inj:∀x y c,X.env.cells.lookup x=ξ c->X.env.cells.lookup y=ξ c->x=y
 has:∀x,(X.env.kindOf x=ξ .cell\/X.env.kindOf x=ξ .free)->∃c,X.env.cells.lookup x=ξ c
 cab:∀x c,X.fn x=true->X.env.cells.lookup x=ξ c->X.s₀.heap.objs.size<=c
 hd:X.calm=true->X.A.handled=ζ
 frames:X.A.frames=ξ X.stack
 stk:X.stack=X.outer\/(X.stack=X.env::X.outer/\X.env.frame=ξ X.env.locals)
 exf:∀b∈X.ex,b≠X.env.locals/\∀x c,X.env.cells.lookup x=ξ c->c≠b
 bs:∀b o,X.base.get? b=ξ o->X.s₀.heap.get? b=ξ o/\X.H₀ b=ζ
 bsz:X.base.objs.size<=X.s₀.heap.objs.size
 noex:∀b o,X.base.get? b=ξ o->b∉X.ex
 exfs:∀b∈X.ex,b∉X.fs
 funs:X.s₀.heap.FunFrames X.base X.outer
 frf:∀b∈X.fs,X.H₀ b=ζ
structure e9(X:Cx)(pins:List (AB×Obj))(σ:List (Option V))(H:Hp)(s:AC):Prop where
 ok:X.Ok
 os:s.os=X.s₀.os
 bare:AllBare s.gens
 base:Un X.fs X.ex X.H₀ H X.s₀.heap s.heap
 loc:∃m,s.heap.Ns X.env.locals m/\∀(i:Nat) (x:Str) (v:V),X.N[i]?=ξ x->σ[i]?=ξ (ξ v)->Vis X.env.scope x->∃u,j3 v u/\c1z X.env s.heap m x u
 cell:∀x c,X.env.cells.lookup x=ξ c->∃v,s.heap.IsCell c v
 free:H X.env.locals=ζ
 freeC:∀x c,X.env.cells.lookup x=ξ c->H c=ζ
 pin:∀p∈X.pn++pins,s.heap.get? p.1=ξ p.2/\H p.1=ζ/\p.1≠X.env.locals/\p.1∉X.fs/\∀v,p.2.data≠.cell v
 hok:HOk X.prog X.w H s.heap
 len:σ.length=X.N.length
section
variable {X:Cx}{pins:List (AB×Obj)}{σ:List (Option V)}{H H':Hp}{s:AC}{h':Heap}
theorem Cx.Ok.nofr(ok:X.Ok){b:AB}{o:Obj}(e:X.base.get? b=ξ o):b∉X.fs:=λhb=>by
 have:=(ok.funs.mem hb).1;rw [e] at this;cases this
theorem e9.bs(I:e9 X pins σ H s):∀b o,X.base.get? b=ξ o->s.heap.get? b=ξ o/\H b=ζ:=λb o e=>
 ⟨I.base.keep b o (I.ok.bs b o e).1 (I.ok.bs b o e).2 (I.ok.nofr e) (I.ok.noex b o e),I.base.free b o (I.ok.bs b o e).1 (I.ok.bs b o e).2 (I.ok.noex b o e)⟩
theorem e9.bk(I:e9 X pins σ H s):∀b o,X.base.get? b=ξ o->s.heap.get? b=ξ o:=λb o e=>(I.bs b o e).1
theorem e9.mod(I:e9 X pins σ H s):Mod X.K X.mg X.base:=I.ok.mod
theorem e9.kIn(I:e9 X pins σ H s):X.K.In s.heap:=I.ok.mod.kin.keeps I.bk
theorem e9.lt(I:e9 X pins σ H s):X.env.locals<s.heap.objs.size:=by obtain⟨_,hn,_⟩:=I.loc;exact hn.lt
theorem e9.sz(I:e9 X pins σ H s):X.s₀.heap.objs.size<=s.heap.objs.size:=Nat.le_trans I.ok.above (BA I.lt)
theorem e9.nofs(I:e9 X pins σ H s){a:AB}(h:s.heap.objs.size<=a):a∉X.fs:=λhb=>by
 obtain⟨_,o,ho,_⟩:=I.ok.funs.mem hb;exact absurd (Ak (AT ho) (Nat.le_trans I.sz h)) (Nat.lt_irrefl _)
theorem e9.cne(I:e9 X pins σ H s):∀x c,X.env.cells.lookup x=ξ c->c≠X.env.locals:=λx c e z=>by
 obtain⟨v,o,ho,hd⟩:=I.cell x c e;obtain⟨m,⟨o',es,ep,ho',hd',_⟩,_⟩:=I.loc;rw [z,ho'] at ho;cases ho;rw [hd'] at hd;cases hd
theorem e9.funs(I:e9 X pins σ H s):s.heap.FunFrames X.base X.outer:=by
 have all:∀(l:List Env),(∀b∈frs l,b∈X.fs)->X.s₀.heap.FunFrames X.base l->s.heap.FunFrames X.base l:=by
  intro l
  induction l with
  |nil=>intro _ _;trivial
  |cons env r ih=>
   intro hs hl;obtain⟨hk,⟨L,o,hf,hn,ho,hd⟩,hr⟩:=hl;have hL:L∈X.fs:=hs L (by unfold frs;rw [List.filterMap_cons,hf];exact Af)
   obtain⟨sl,e⟩:=I.base.slot L o ho (I.ok.frf L hL) hL λz=>I.ok.exfs L z hL;exact⟨hk,⟨L,_,hf,hn,e,hd⟩,ih (λb hb=>hs b (by unfold frs;rw [List.filterMap_cons,hf];exact Ae _ hb)) hr⟩
 exact all X.outer (λ_ hb=>hb) I.ok.funs
theorem e9.stack(I:e9 X pins σ H s):s.heap.FunFrames X.base X.stack:=by
 rcases I.ok.stk with e|⟨e,hf⟩
 ·rw [e];exact I.funs
 ·rw [e];obtain⟨m,hn,_⟩:=I.loc;refine .cons (by rw [I.ok.kind];decide) hf hn ?_ I.funs
  exact Heap.get?_none_of_le (Nat.le_trans I.ok.bsz I.ok.above)
theorem e9.stkSub(I:e9 X pins σ H s):∀b∈frs X.stack,b∈X.env.locals::X.fs:=λb hb=>by
 rcases I.ok.stk with e|⟨e,hf⟩
 ·rw [e] at hb;exact Ae _ hb
 ·rw [e] at hb;unfold frs at hb;rw [List.filterMap_cons,hf] at hb;exact hb
theorem e9.stkFree(I:e9 X pins σ H s):∀b∈frs X.stack,H b=ζ:=λb hb=>by
 rcases AU.mp (I.stkSub b hb) with e|hb
 ·rw [e];exact I.free
 ·obtain⟨_,o,ho,_⟩:=I.ok.funs.mem hb;exact I.base.free b o ho (I.ok.frf b hb) λz=>I.ok.exfs b z hb
theorem e9.step{g':Array GenState}{t':Nat}{d':Drawn}{ch:List AB}(I:e9 X pins σ H s)
 (hch:∀b∈ch,(b∈X.ex\/X.s₀.heap.objs.size<=b)/\b≠X.env.locals/\(∀x c,X.env.cells.lookup x=ξ c->c≠b)/\∀p∈X.pn++pins,p.1≠b)
 (keep:∀b o,b≠X.env.locals->b∉X.fs->b∉ch->s.heap.get? b=ξ o->H b=ζ->h'.get? b=ξ o)
 (slot:∀b o,b≠X.env.locals->b∈X.fs->b∉ch->s.heap.get? b=ξ o->H b=ζ->∃sl,h'.get? b=ξ {o with slots:=sl}) (free:∀b o,b∉ch->s.heap.get? b=ξ o->H b=ζ->H' b=ζ)
 (there:∀b o,b∉ch->s.heap.get? b=ξ o->∃o',h'.get? b=ξ o')
 (tups:∀b xs,H b=ξ (.tup xs)->H' b=ξ (.tup xs)) (frzs:∀b o u,H b=ξ (.frz o u)->H' b=ξ (.frz o u)) (tbls:∀b ps,H b=ξ (.tbl ps)->∃more,H' b=ξ (.tbl (ps++more)))
 (ns:∀m,s.heap.Ns X.env.locals m->h'.Ns X.env.locals m) (hok:HOk X.prog X.w H' h') (hg:AllBare g'):
 e9 X pins σ H' {s with heap:=h',gens:=g',drawn:=d',toks:=t'}:=by
 have neL:∀b o,X.s₀.heap.get? b=ξ o->b≠X.env.locals:=λb o e=>AW (Ak (AT e) I.ok.above)
 have neC:∀b o,X.s₀.heap.get? b=ξ o->b∉X.ex->b∉ch:=λb o e hx hb=>by
  rcases(hch b hb).1 with z|z
  ·exact hx z
  ·exact absurd (Ak (AT e) z) (Nat.lt_irrefl _)
 have cellK:∀x c,X.env.cells.lookup x=ξ c->∀v,s.heap.IsCell c v->h'.IsCell c v:=λx c e v ⟨o,ho,hd⟩=>by
  have nch:c∉ch:=λz=>(hch c z).2.2.1 x c e rfl
  by_cases hc:c∈X.fs
  ·obtain⟨sl,q⟩:=slot c o (I.cne x c e) hc nch ho (I.freeC x c e);exact⟨_,q,hd⟩
  ·exact⟨o,keep c o (I.cne x c e) hc nch ho (I.freeC x c e),hd⟩
 refine⟨I.ok,I.os,hg,⟨λb o e n hb hx=> ?_,λb o e n hb hx=> ?_,λb o e n hx=> ?_,λb o e hx=> ?_,λb xs e=>tups b xs (I.base.tups b xs e),λb o xs e=>frzs b o xs (I.base.frzs b o xs e),λb ps e=> ?_⟩, ?_,λx c e=> ?_, ?_,λx c e=> ?_,λp hp=> ?_,hok,I.len⟩
 ·exact keep b o (neL b o e) hb (neC b o e hx) (I.base.keep b o e n hb hx) (I.base.free b o e n hx)
 ·obtain⟨sl,e1⟩:=I.base.slot b o e n hb hx
  obtain⟨sl',e2⟩:=slot b _ (neL b o e) hb (neC b o e hx) e1 (I.base.free b o e n hx)
  exact⟨sl',e2⟩
 ·obtain⟨o',e1⟩:=I.base.there b o e hx
  exact free b o' (neC b o e hx) e1 (I.base.free b o e n hx)
 ·obtain⟨o',e1⟩:=I.base.there b o e hx
  exact there b o' (neC b o e hx) e1
 ·obtain⟨m1,e1⟩:=I.base.tbls b ps e
  obtain⟨m2,e2⟩:=tbls b _ e1
  exact⟨m1++m2,by rw [e2,Array.append_assoc]⟩
 ·obtain⟨m,hn,hl⟩:=I.loc
  refine⟨m,ns m hn,λi x v e1 e2 e3=> ?_⟩
  obtain⟨u,r,l⟩:=hl i x v e1 e2 e3
  refine⟨u,r, ?_⟩
  rcases l with l|⟨k,c,e,z⟩
  ·exact .inl l
  ·exact .inr ⟨k,c,e,cellK x c e _ z⟩
 ·obtain⟨v,z⟩:=I.cell x c e
  exact⟨v,cellK x c e v z⟩
 ·obtain⟨m,⟨o,_,_,ho,_⟩,_⟩:=I.loc
  exact free _ o (λz=>(hch _ z).2.1 rfl) ho I.free
 ·obtain⟨v,o,ho,hd⟩:=I.cell x c e
  exact free c o (λz=>(hch c z).2.2.1 x c e rfl) ho (I.freeC x c e)
 ·obtain⟨e,n,ne,nf,d⟩:=I.pin p hp
  have nch:p.1∉ch:=λz=>(hch p.1 z).2.2.2 p hp rfl
  exact⟨keep p.1 p.2 ne nf nch e n,free p.1 p.2 nch e n,ne,nf,d⟩
theorem e9.un{t':Nat}(I:e9 X pins σ H s)(u:Un X.fs [] H H' s.heap h')(hok:HOk X.prog X.w H' h'):e9 X pins σ H' {s with heap:=h',toks:=t'}:=by
 obtain⟨m,⟨o,es,ep,ho,r⟩,_⟩:=id I.loc;obtain⟨sl,hL⟩:=u.any ho I.free (by simp)
 exact I.step (g':=s.gens) (d':=s.drawn) (ch:=[]) (λ_ z=>nomatch z) (λb o _ hb _ e n=>u.keep b o e n hb (by simp)) (λb o _ hb _ e n=>u.slot b o e n hb (by simp)) (λb o _ e n=>u.free b o e n (by simp)) (λb o _ e=>u.there b o e (by simp)) u.tups u.frzs u.tbls (λm' hm=>by
  obtain⟨o',es',ep',ho',r'⟩:=hm;rw [ho] at ho';cases ho';exact⟨_,es',ep',hL,r'⟩) hok I.bare
theorem e9.call{g':Array GenState}{t':Nat}{d':Drawn}{ch:List AB}(I:e9 X pins σ H s)(u:Un (frs X.stack) ch H H' s.heap h')(hok:HOk X.prog X.w H' h')(hg:AllBare g')
 (hch:∀b∈ch,(b∈X.ex\/X.s₀.heap.objs.size<=b)/\b≠X.env.locals/\(∀x c,X.env.cells.lookup x=ξ c->c≠b)/\∀p∈X.pn++pins,p.1≠b):
 e9 X pins σ H' {s with heap:=h',gens:=g',drawn:=d',toks:=t'}:=by
 obtain⟨m,⟨o,es,ep,ho,r⟩,_⟩:=id I.loc
 obtain⟨sl,hL⟩:=u.any ho I.free λz=>(hch _ z).2.1 rfl
 exact I.step (ch:=ch) hch (λb o hL hb hc e n=>u.keep b o e n (λz=>(AU.mp (I.stkSub b z)).elim hL hb) hc) (λb o _ _ hc e n=>u.any e n hc) (λb o hc e n=>u.free b o e n hc) (λb o hc e=>u.there b o e hc) u.tups u.frzs u.tbls (λm' hm=>by
  obtain⟨o',es',ep',ho',r'⟩:=hm;rw [ho] at ho';cases ho';exact⟨_,es',ep',hL,r'⟩) hok hg
theorem e9.turned{t':Nat}{it:AB}(I:e9 X pins σ H s)(k:∀b o,b≠it->s.heap.get? b=ξ o->h'.get? b=ξ o)(hn:H it=ζ)(hL:it≠X.env.locals)
 (h1:it∈X.ex\/X.s₀.heap.objs.size<=it) (h2:∀x c,X.env.cells.lookup x=ξ c->c≠it) (h3:∀p∈X.pn++pins,p.1≠it):e9 X pins σ H {s with heap:=h',toks:=t'}:=by
 have nit:∀b u,H b=ξ u->b≠it:=λb u e z=>by rw [z,hn] at e;cases e
 refine I.step (g':=s.gens) (d':=s.drawn) (ch:=[it]) (λb hb=> ?_) (λb o _ _ hc e _=>k b o (λz=>hc (by simp [z])) e) (λb o _ _ hc e _=>⟨o.slots,k b o (λz=>hc (by simp [z])) e⟩) (λ_ _ _ _ n=>n)
  (λb o hc e=>⟨o,k b o (λz=>hc (by simp [z])) e⟩) (λ_ _ e=>e) (λ_ _ _ e=>e) (λb ps e=>⟨#[],by rw [e];simp⟩) (λm hm=> ?_) (λb u e=> ?_) I.bare
 ·have e:b=it:=by simpa using hb
  subst e
  exact⟨h1,hL,h2,h3⟩
 ·obtain⟨o,es,ep,ho,r⟩:=hm
  exact⟨o,es,ep,k _ o (Ne.symm hL) ho,r⟩
 ·refine(I.hok b u e).stay (λc v hc q=>k c v ?_ q) (λ_ q=>q) λ_ _ q=>q
  rcases hc with z|z
  ·rw [z];exact nit b u e
  ·exact nit c _ z
theorem e9.tok(I:e9 X pins σ H s)(t:Nat):e9 X pins σ H {s with toks:=t}:=I.un (h':=s.heap) (t':=t) Un.refl I.hok
theorem e9.kept{t':Nat}(I:e9 X pins σ H s)(k:∀b u,s.heap.get? b=ξ u->h'.get? b=ξ u):e9 X pins σ H {s with heap:=h',toks:=t'}:=I.un (Un.kept k) (I.hok.kept k)
theorem e9.laid{a:AB}{o:HO}{t':Nat}(I:e9 X pins σ H s)(k:∀b u,s.heap.get? b=ξ u->h'.get? b=ξ u)(hp:s.heap.objs.size<=a)(new:v4 X.prog X.w (i7 H a o) h' a o):
 e9 X pins σ (i7 H a o) {s with heap:=h',toks:=t'}:=I.un (Un.laid k hp (I.hok.fresh hp)) (I.hok.laid k hp new)
theorem e9.write{x e:AB}{o:HO}{t':Nat}(I:e9 X pins σ H s)(mu:Mut (H x))(he:e=x\/H e=ξ (.own x))(k:∀b u,b≠e->s.heap.get? b=ξ u->h'.get? b=ξ u)(heo:∃u,h'.get? e=ξ u)
 (new:v4 X.prog X.w (i7 H x o) h' x o):e9 X pins σ (i7 H x o) {s with heap:=h',toks:=t'}:=I.un (Un.write mu he k heo) (I.hok.write mu he k heo new)
theorem e9.weak{σ':List (Option V)}(I:e9 X pins σ H s)(hl:σ'.length=σ.length)(w:∀(i:Nat) v,σ'[i]?=ξ (ξ v)->σ[i]?=ξ (ξ v)):e9 X pins σ' H s:=
 ⟨I.ok,I.os,I.bare,I.base,let ⟨m,hn,hl'⟩:=I.loc;⟨m,hn,λi x v e1 e2 e3=>hl' i x v e1 (w i v e2) e3⟩,I.cell,I.free,I.freeC,I.pin,I.hok,hl.trans I.len⟩
theorem e9.pins_of{pins':List (AB×Obj)}(I:e9 X pins σ H s)(h:∀p∈pins',s.heap.get? p.1=ξ p.2/\H p.1=ζ/\p.1≠X.env.locals/\p.1∉X.fs/\∀v,p.2.data≠.cell v):e9 X pins' σ H s:=
 ⟨I.ok,I.os,I.bare,I.base,I.loc,I.cell,I.free,I.freeC,λp hp=>(Ar.mp hp).elim (λz=>I.pin p (BH _ z)) (h p),I.hok,I.len⟩
theorem a5K{N:List Str}(hN:N.Nodup){i j:Nat}{x:Str}(a:N[i]?=ξ x)(b:N[j]?=ξ x):i=j:=by
 obtain⟨h1,e1⟩:=Ah.mp a;obtain⟨h2,e2⟩:=Ah.mp b;exact(List.getElem_inj hN).mp (e1.trans e2.symm)
theorem b3l{M:Model}{A:AK}{E:AA->AC->Prop}{i:Nat}{x:Str}{v:V}{u:AA}{Q:Unit->AC->Prop}(I:e9 X pins σ H s)(hN:X.N.Nodup)(hi:X.N[i]?=ξ x)(hx:Loc X.env.scope x)(r:j3 v u)
 (h:∀s',e9 X pins (σ.set i (ξ v)) H s'->(∃a,Heap.SameBut a s.heap s'.heap/\(a=X.env.locals\/X.env.cells.lookup x=ξ a))->Q () s') (hf:X.fn x=true\/X.env.scope.names.lookup x=ξ .local:=by first|exact .inl rfl|exact .inr rfl|assumption):AF M A (storeName X.env x u) Q E s:=by
 obtain⟨m,hn,hl⟩:=id I.loc
 have hcls:(X.env.scope.kind== .class||(X.env.scope.kind== .module && X.env.locals !=X.env.globals))=false:=by rw [I.ok.kind];rfl
 have hiσ:i<σ.length:=by rw [I.len];exact(Ah.mp hi).1
 have cne:=I.cne
 have tracked:∀{a:AB} {h':Heap},(∃o,s.heap.get? a=ξ o/\H a=ζ)->Heap.SameBut a s.heap h'->HOk X.prog X.w H h':=λ {a h'} ha hs b ob e=>by
  obtain⟨_,_,hfree⟩:=ha;refine(I.hok b ob e).stay (λc w' hc q=>(hs.2 c ?_).trans q) (λ_ q=>q) λ_ _ q=>q;rintro rfl;rcases hc with rfl|hc
  ·rw [hfree] at e;cases e
  ·rw [hfree] at hc;cases hc
 rcases hx with hk|hk
 ·refine wpAny_storeName_local hk hn (λh' hn' hs=> ?_) hcls
  obtain⟨oL,_,_,hoL,_⟩:=id hn
  refine h _ ⟨I.ok,I.os,I.bare,⟨λb o e n hb hx=> ?_,λb o e n hb hx=> ?_,I.base.free,λb o e hx=> ?_,I.base.tups,I.base.frzs,I.base.tbls⟩,⟨_,hn',λj y v' e1 e2 e3=> ?_⟩,λy c e=> ?_,I.free,I.freeC,λp hp=> ?_,tracked ⟨oL,hoL,I.free⟩ hs,by simpa using I.len⟩ ⟨_,hs,.inl rfl⟩
  ·exact(hs.2 b (AW (Ak (AT e) I.ok.above))).trans (I.base.keep b o e n hb hx)
  ·obtain⟨sl,e1⟩:=I.base.slot b o e n hb hx
   exact⟨sl,(hs.2 b (AW (Ak (AT e) I.ok.above))).trans e1⟩
  ·obtain⟨o',e1⟩:=I.base.there b o e hx
   exact⟨o',(hs.2 b (AW (Ak (AT e) I.ok.above))).trans e1⟩
  ·by_cases hj:j=i
   ·subst hj
    rw [hi] at e1;cases e1
    rw [BF hiσ] at e2
    cases e2
    exact⟨u,r,.inl ⟨hk,by simp⟩⟩
   ·rw [List.getElem?_set_ne (Ne.symm hj)] at e2
    obtain⟨u',r',q⟩:=hl j y v' e1 e2 e3
    refine⟨u',r', ?_⟩
    rcases q with⟨k,e⟩|⟨k,c,e,z⟩
    ·refine .inl ⟨k, ?_⟩
     have:y≠x:=λe=>hj (a5K hN e1 (e▸hi))
     simp [this,e]
    ·exact .inr ⟨k,c,e,z.sameBut hs (cne y c e)⟩
  ·obtain⟨w',z⟩:=I.cell y c e
   exact⟨w',z.sameBut hs (cne y c e)⟩
  ·obtain⟨e,n,ne,nf,d⟩:=I.pin p hp
   exact⟨(hs.2 p.1 ne).trans e,n,ne,nf,d⟩
 ·have hfn:X.fn x=true:=by
   rcases hf with z|z
   ·exact z
   ·rw [z] at hk;cases hk
  obtain⟨c,hc⟩:=I.ok.has x (.inl hk);obtain⟨w',z⟩:=I.cell x c hc;refine wpAny_storeName_cell I.ok.kind hk hc z (λh' hc' hs=> ?_);obtain⟨oc,hoc,hocd⟩:=id z;refine h {s with heap:=h'} ⟨I.ok,I.os,I.bare,⟨λb o e n hb hx=> ?_,λb o e n hb hx=> ?_,I.base.free,λb o e hx=> ?_,I.base.tups,I.base.frzs,I.base.tbls⟩,⟨m,hn.sameBut hs (Ne.symm (cne x c hc)),λj y v' e1 e2 e3=> ?_⟩,λy c' e=> ?_,I.free,I.freeC,λp hp=> ?_,tracked ⟨oc,hoc,I.freeC x c hc⟩ hs,by simpa using I.len⟩ ⟨c,hs,.inr hc⟩
  ·exact(hs.2 b (AW (Ak (AT e) (I.ok.cab x c hfn hc)))).trans (I.base.keep b o e n hb hx)
  ·obtain⟨sl,e1⟩:=I.base.slot b o e n hb hx;exact⟨sl,(hs.2 b (AW (Ak (AT e) (I.ok.cab x c hfn hc)))).trans e1⟩
  ·obtain⟨o',e1⟩:=I.base.there b o e hx;exact⟨o',(hs.2 b (AW (Ak (AT e) (I.ok.cab x c hfn hc)))).trans e1⟩
  ·by_cases hj:j=i
   ·subst hj;rw [hi] at e1;cases e1;rw [BF hiσ] at e2;cases e2;exact⟨u,r,.inr ⟨.inl hk,c,hc,hc'⟩⟩
   ·rw [List.getElem?_set_ne (Ne.symm hj)] at e2;obtain⟨u',r',q⟩:=hl j y v' e1 e2 e3;refine⟨u',r', ?_⟩;rcases q with q|⟨k,c',e,z'⟩
    ·exact .inl q
    ·refine .inr ⟨k,c',e,z'.sameBut hs ?_⟩;rintro rfl;exact hj (a5K hN e1 (I.ok.inj _ _ _ e hc▸hi))
  ·by_cases hcc:c'=c
   ·subst hcc;exact⟨_,hc'⟩
   ·obtain⟨w2,z2⟩:=I.cell y c' e;exact⟨w2,z2.sameBut hs hcc⟩
  ·obtain⟨e,n,ne,nf,d⟩:=I.pin p hp;refine⟨(hs.2 p.1 ?_).trans e,n,ne,nf,d⟩;intro q;rw [q,hoc] at e;have q':oc=p.2:=Option.some.inj e;exact d w' (by rw [<-q'];exact hocd)
theorem a3g{M:Model}{A:AK}{E:AA->AC->Prop}{i:Nat}{x:Str}{v:V}{u:AA}{Q:Unit->AC->Prop}(I:e9 X pins σ H s)(hN:X.N.Nodup)(hi:X.N[i]?=ξ x)(hx:Loc X.env.scope x)(r:j3 v u)
 (h:∀s',e9 X pins (σ.set i (ξ v)) H s'->Q () s') (hf:X.fn x=true\/X.env.scope.names.lookup x=ξ .local:=by first|exact .inl rfl|exact .inr rfl|assumption):AF M A (storeName X.env x u) Q E s:=
 b3l I hN hi hx r (λs' I' _=>h s' I') hf
theorem e9.call'{s':AC}{ch:List AB}(I:e9 X pins σ H s)(ho:s'.os=s.os)(u:Un (frs X.stack) ch H H' s.heap s'.heap)(hok:HOk X.prog X.w H' s'.heap)(hg:AllBare s'.gens)
 (hch:∀b∈ch,(b∈X.ex\/X.s₀.heap.objs.size<=b)/\b≠X.env.locals/\(∀x c,X.env.cells.lookup x=ξ c->c≠b)/\∀p∈X.pn++pins,p.1≠b):e9 X pins σ H' s':=by
 obtain⟨h',g',d',t',o'⟩:=s'
 have e:o'=s.os:=ho
 subst e
 exact I.call (g':=g') (t':=t') (d':=d') u hok hg hch
end
abbrev XK:=AA->Option AB->Hp->Prop
abbrev St:=List (Option V)
abbrev VK:=V->Hp->Prop
abbrev TE:=St->Hp->VK->Prop
abbrev TT:=St->Hp->(Bool->Hp->Prop)->Prop
abbrev TA:=St->Hp->(List V->Hp->Prop)->Prop
structure N5 where
 nx:St->Hp->Prop
 rt:VK
 bk:St->Hp->Prop:=λ_ _=>False
 ct:St->Hp->Prop:=λ_ _=>False
abbrev TS:=N5->St->Hp->Prop
def EP(X:Cx)(pins:List (AB×Obj))(σ:St)(Q:VK)(u:AA)(s':AC):Prop:=∃v H',e9 X pins σ H' s'/\j3 v u/\Q v H'
def TP(X:Cx)(pins:List (AB×Obj))(σ:St)(Q:Bool->Hp->Prop)(b:Bool)(s':AC):Prop:=∃H',e9 X pins σ H' s'/\Q b H'
def AP(X:Cx)(pins:List (AB×Obj))(σ:St)(Q:List V->Hp->Prop)(us:List AA)(s':AC):Prop:=∃vs H',e9 X pins σ H' s'/\j4 vs us/\Q vs H'
def SP(X:Cx)(pins:List (AB×Obj))(D:N5)(f:Flow)(s':AC):Prop:=
 match f with
 | .next=>∃σ' H',e9 X pins σ' H' s'/\D.nx σ' H'
 | .brk=>∃σ' H',e9 X pins σ' H' s'/\D.bk σ' H'
 | .cont=>∃σ' H',e9 X pins σ' H' s'/\D.ct σ' H'
 | .ret u=>∃v σ' H',e9 X pins σ' H' s'/\j3 v u/\D.rt v H'
def PE(X:Cx)(e:AG)(t:TE):Prop:=
 ∀(pins:List (AB×Obj)) (s:AC) (σ:St) (H:Hp) (Q:VK),e9 X pins σ H s->t σ H Q->AF (model X.prog X.w) X.A (eval e X.env) (EP X pins σ Q) X.xe s
def PT(X:Cx)(e:AG)(t:TT):Prop:=
 ∀(pins:List (AB×Obj)) (s:AC) (σ:St) (H:Hp) (Q:Bool->Hp->Prop),e9 X pins σ H s->t σ H Q->AF (model X.prog X.w) X.A (isTrue e X.env (eval e X.env)) (TP X pins σ Q) X.xe s
def PW(X:Cx)(e:AG)(t:TT):Prop:=
 ∀(whole:Sem AA) (pins:List (AB×Obj)) (s:AC) (σ:St) (H:Hp) (Q:Bool->Hp->Prop),e9 X pins σ H s->t σ H Q->AF (model X.prog X.w) X.A (isTrue e X.env whole) (TP X pins σ Q) X.xe s
theorem PW.pt{X:Cx}{e:AG}{t:TT}(h:PW X e t):PT X e t:=h _
def PA(X:Cx)(es:List AG)(t:TA):Prop:=
 ∀(pos:Pos) (pins:List (AB×Obj)) (s:AC) (σ:St) (H:Hp) (Q:List V->Hp->Prop),e9 X pins σ H s->t σ H Q->AF (model X.prog X.w) X.A (spliced (backTo pos (AL es X.env))) (AP X pins σ Q) X.xe s
def PS(X:Cx)(st:Stmt)(t:TS):Prop:=
 ∀(pins:List (AB×Obj)) (s:AC) (σ:St) (H:Hp) (D:N5),e9 X pins σ H s->t D σ H->AF (model X.prog X.w) X.A (exec st X.env) (SP X pins D) X.xe s
def PSs(X:Cx)(st:List Stmt)(t:TS):Prop:=
 ∀(pins:List (AB×Obj)) (s:AC) (σ:St) (H:Hp) (D:N5),e9 X pins σ H s->t D σ H->AF (model X.prog X.w) X.A (execs st X.env) (SP X pins D) X.xe s
theorem C8{α:Type}{t:Sem α}{Q Q':α->AC->Prop}{M:Model}{A:AK}{E:AA->AC->Prop}{s:AC}(h:AF M A t Q E s)(hQ:∀a s,Q a s->Q' a s):AF M A t Q' E s:=wpAny_mono h hQ λ_ _ x=>x
section
variable {X:Cx}
def C7(i:Nat):TE:=λσ H Q=>∃v,σ[i]?=ξ (ξ v)/\Q v H
def tC(v:V):TE:=λ_ H Q=>Q v H
theorem b9E{i:Nat}{x:Str}{pos:Pos}(hN:X.N[i]?=ξ x)(hv:Vis X.env.scope x)(hd:(x==("__debug__":Str))=false:=by decide)(hcd:(x==("__classdict__":Str))=false:=by decide):PE X (.Name x pos) (C7 i):=by
 intro pins s σ H Q I h;obtain⟨v,e,h⟩:=h;obtain⟨m,hn,hl⟩:=I.loc;obtain⟨u,r,l⟩:=hl i x v hN e hv;have fin:EP X pins σ Q u s:=⟨v,H,I,r,h⟩;rcases l with⟨hk,hm⟩|⟨hk,c,hc,hcell⟩
 ·exact wpAny_Name (wpAny_loadName_local I.ok.kind hk hn hm fin) hd
 ·rcases hk with hk|hk
  ·exact wpAny_Name (wpAny_loadName_cell I.ok.kind hk hc hcell fin) hd
  ·exact wpAny_Name (wpAny_loadName_free I.ok.kind hk hc hcell fin hcd) hd
theorem b9y{i j pos}:PE X (.Constant (.int i) j pos) (tC (.int i)):=λ_ _ _ H _ I h=>wpAny_Constant_int ⟨.int i,H,I.tok _,⟨_,rfl⟩,h⟩
theorem c05{b j pos}:PE X (.Constant (.bool b) j pos) (tC (.bl b)):=λ_ _ _ H _ I h=>Constant_bool ⟨.bl b,H,I,rfl,h⟩
theorem b9A{j pos}:PE X (.Constant .none j pos) (tC .non):=λ_ _ _ H _ I h=>Constant_none ⟨.non,H,I,rfl,h⟩
theorem b9D{x j pos}:PE X (.Constant (.str x) j pos) (tC (.str x)):=λ_ _ _ H _ I h=>Calls.Constant_str ⟨.str x,H,I.tok _,⟨_,rfl⟩,h⟩
def Gl(X:Cx)(x:Str):Prop:=X.env.kindOf x=ξ .globalImplicit
theorem Y4{E:AA->AC->Prop}{pins:List (AB×Obj)}{s:AC}{σ:St}{H:Hp}{x:Str}{u:AA}{pos:Pos}{Q:AA->AC->Prop}(I:e9 X pins σ H s)(hg:Gl X x)(hm:X.mg x=ξ u)(h:Q u s)
 (hd:(x==("__debug__":Str))=false:=by decide):AF (model X.prog X.w) X.A (eval (.Name x pos) X.env) Q E s:=
 Calls.Name_function_global I.ok.kind hg (Calls.loadGlobal_global (by rw [I.ok.glob];exact I.mod.glob.keeps I.bk) hm h) hd
theorem a5u{E:AA->AC->Prop}{pins:List (AB×Obj)}{s:AC}{σ:St}{H:Hp}{x:Str}{u:AA}{pos:Pos}{Q:AA->AC->Prop}(I:e9 X pins σ H s)(hg:Gl X x)(hm:X.mg x=ζ)(hv:bootBuiltins x=ξ u)(h:Q u s)
 (hn:x≠"__name__":=by decide) (hd:(x==("__debug__":Str))=false:=by decide):AF (model X.prog X.w) X.A (eval (.Name x pos) X.env) Q E s:=by
 obtain⟨mb,h1,h2⟩:=I.mod.blt
 exact Calls.Name_function_global I.ok.kind hg (Calls.loadGlobal_builtin (by rw [I.ok.glob];exact I.mod.glob.keeps I.bk) hm (by rw [I.ok.blt];exact h1.keeps I.bk) ((h2 x hn).trans hv) h) hd
theorem a8t{x:Str}{v:V}{u:AA}{pos:Pos}(hg:Gl X x)(hm:X.mg x=ξ u)(r:j3 v u)(hd:(x==("__debug__":Str))=false:=by decide):PE X (.Name x pos) (tC v):=
 λ_ _ _ H _ I h=>Y4 I hg hm ⟨v,H,I,r,h⟩ hd
theorem a8s{x:Str}{v:V}{u:AA}{pos:Pos}(hg:Gl X x)(hm:X.mg x=ζ)(hv:bootBuiltins x=ξ u)(r:j3 v u)(hn:x≠"__name__":=by decide)(hd:(x==("__debug__":Str))=false:=by decide):PE X (.Name x pos) (tC v):=
 λ_ _ _ H _ I h=>a5u I hg hm hv ⟨v,H,I,r,h⟩ hn hd
variable {a b:AG}{ta tb:TE}{pos:Pos}
def PC(X:Cx)(op:CmpOp)(a b:AG)(t:TE):Prop:=
 ∀(pins:List (AB×Obj)) (s:AC) (σ:St) (H:Hp) (Q:VK),e9 X pins σ H s->t σ H Q->
  AF (model X.prog X.w) X.A (eval a X.env) (λv s₁=>AF (model X.prog X.w) X.A (eval b X.env) (λu s₂=>AF (model X.prog X.w) X.A (compareOp op v u) (EP X pins σ Q) X.xe s₂) X.xe s₁) X.xe s
def tB(t:TE):TT:=λσ H Q=>t σ H λx H1=>∃c,x= .bl c/\Q c H1
theorem b9K{op:CmpOp}{t:TE}(h:PC X op a b t)(h1:behindInMarks op b=false:=by first|exact nobehind _ (by decide) (by decide)|rfl):PT X (.Compare a [op] [b] pos) (tB t):=by
 intro pins s σ H Q I hw;refine wpAny_isTrue_Compare1 (C8 (h pins s σ H _ I hw) λv s1 h1=>C8 h1 λu s2 h2=>C8 h2 λc s3 h0=>j5 h0 λx H1 I1 r1 q1=> ?_) h1;obtain⟨d,rfl,q⟩:=q1;cases r1;exact wpAny_truthy_bool ⟨H1,I1,q⟩
variable {tA tB':TT}{rest:List AG}
def c1O(t u:TT):TT:=λσ H Q=>t σ H λc H1=>if c=true then u σ H1 Q else Q false H1
def tOr(t u:TT):TT:=λσ H Q=>t σ H λc H1=>if c=true then Q true H1 else u σ H1 Q
def c1T(t:TT):TT:=λσ H Q=>t σ H λc H1=>Q (!c) H1
theorem b7m(ha:PT X a tA):PW X (.BoolOp .And [a] pos) tA:=by
 intro wh pins s σ H Q I h;refine isTrue_and (C8 (ha pins s σ H Q I h) λc s1 e=> ?_);cases c with
 |true=>exact isTrue_and_nil e
 |false=>exact e
theorem b9O(ha:PT X a tA):PW X (.BoolOp .Or [a] pos) tA:=by
 intro wh pins s σ H Q I h;refine isTrue_or (C8 (ha pins s σ H Q I h) λc s1 e=> ?_);cases c with
 |false=>exact isTrue_or_nil e
 |true=>exact e
theorem b9N(ha:PT X a tA)(hb:PW X (.BoolOp .And (b::rest) pos) tB'):PW X (.BoolOp .And (a::b::rest) pos) (c1O tA tB'):=by
 intro wh pins s σ H Q I h;refine isTrue_and (C8 (ha pins s σ H _ I h) λc s1 ⟨H1,I1,q1⟩=> ?_);cases c with
 |true=>exact hb wh pins s1 σ H1 Q I1 q1
 |false=>exact⟨H1,I1,q1⟩
theorem c09(ha:PT X a tA)(hb:PW X (.BoolOp .Or (b::rest) pos) tB'):PW X (.BoolOp .Or (a::b::rest) pos) (tOr tA tB'):=by
 intro wh pins s σ H Q I h;refine isTrue_or (C8 (ha pins s σ H _ I h) λc s1 ⟨H1,I1,q1⟩=> ?_);cases c with
 |true=>exact⟨H1,I1,q1⟩
 |false=>exact hb wh pins s1 σ H1 Q I1 q1
theorem b9L(ha:PT X a tA):PT X (.UnaryOp .Not a pos) (c1T tA):=by
 intro pins s σ H Q I h;exact isTrue_not (ha pins s σ H (λc H1=>Q (!c) H1) I h)
def c1j(ta tb:TE):TE:=λσ H Q=>ta σ H λx H1=>∃c,x= .bl c/\if c=true then tb σ H1 Q else Q (.bl false) H1
def c1o(ta:TE):TE:=λσ H Q=>ta σ H λx H1=>∃c,x= .bl c/\Q (.bl (!c)) H1
theorem b9C{op}{t:TE}(h:PE X a t):PE X (.BoolOp op [a] pos) t:=λpins s σ H Q I hw=>BoolOp_one (h pins s σ H Q I hw)
theorem b9x(ha:PE X a ta)(hb:PE X (.BoolOp .And (b::rest) pos) tb):PE X (.BoolOp .And (a::b::rest) pos) (c1j ta tb):=by
 intro pins s σ H Q I h;refine BoolOp_and (C8 (ha pins s σ H _ I h) λv s1 h0=>j5 h0 λx H1 I1 r1 q1=> ?_);obtain⟨c,rfl,q1⟩:=q1;cases r1;refine wpAny_truthy_bool ?_;cases c with
 |true=>exact hb pins s1 σ H1 Q I1 q1
 |false=>exact⟨.bl false,H1,I1,rfl,q1⟩
theorem b9B(ha:PE X a ta):PE X (.UnaryOp .Not a pos) (c1o ta):=by
 intro pins s σ H Q I h;refine UnaryOp_ (C8 (ha pins s σ H _ I h) λv s1 h0=>j5 h0 λx H1 I1 r1 q1=> ?_);obtain⟨c,rfl,q1⟩:=q1;cases r1;exact not_of (wpAny_truthy_bool ⟨.bl (!c),H1,I1,rfl,q1⟩)
end
def Z0(K:AE)(H:Hp)(a:AB)(xs:List V):Prop:=
 Rd H a (.lst xs)\/
  ∃(o:Obj) (its:Array AA) (n:Nat),K.lookup a=ξ o/\o.cls= .type "list"/\o.dict=ζ/\o.data= .seq its n/\its.size<=AM/\j4 xs its.toList
def SqT(K:AE)(H:Hp)(a:AB)(xs:List V):Prop:=
 Rd H a (.tup xs)\/
  ∃(o:Obj) (its:Array AA) (n:Nat),K.lookup a=ξ o/\o.cls= .type "tuple"/\o.data= .seq its n/\its.size<=AM/\j4 xs its.toList
def c1B:AA->Option V
 | .none=>ξ .non
 | .bool b=>ξ (.bl b)
 | .int i _=>ξ (.int i)
 | .str x _=>ξ (.str x)
 | .bytes b _=>ξ (.byt b)
 | .float b _=>ξ (.flt b)
 | .ref a=>ξ (.ref a)
 | .type n=>ξ (.ty n)
 |_=>ζ
theorem j3.abs{x:V}{u:AA}(r:j3 x u):c1B u=ξ x:=by
 cases x with
 |non=>cases r;rfl
 |bl _=>cases r;rfl
 |int _=>obtain⟨t,rfl⟩:=r;rfl
 |str _=>obtain⟨t,rfl⟩:=r;rfl
 |byt _=>obtain⟨t,rfl⟩:=r;rfl
 |flt _=>obtain⟨t,rfl⟩:=r;rfl
 |ref _=>cases r;rfl
 |ty _=>cases r;rfl
theorem j3.inj{x y:V}{u:AA}(r:j3 x u)(q:j3 y u):x=y:=Option.some.inj (r.abs.symm.trans q.abs)
theorem j4.inj:∀{xs ys:List V} {us:List AA},j4 xs us->j4 ys us->xs=ys
 |_,_,_,.nil,.nil=>rfl
 |_,_,_,.cons r t,.cons r' t'=>by rw [r.inj r',j4.inj t t']
section
variable {X:Cx}{pins:List (AB×Obj)}{σ:St}{H:Hp}{s:AC}{a:AB}{xs ys:List V}
theorem Z0.of{K:AE}(h:H a=ξ (.lst xs)):Z0 K H a xs:= .inl (.inl h)
theorem e9.list(I:e9 X pins σ H s)(h:Z0 X.K H a xs):∃its:List AA,j4 xs its/\PlainL s.heap a its.toArray/\xs.length<=AM:=by
 rcases h with h|⟨o,its,n,hk,hc,hd,hs,hz,r⟩
 ·obtain⟨z,its,n,r,e⟩:=h.ok I.hok;exact⟨its,r,⟨_,n,e,rfl,rfl,rfl⟩,z⟩
 ·refine⟨its.toList,r,⟨o,n,I.kIn a o hk,hc,hd,by simpa using hs⟩, ?_⟩
  have e:=r.length;simp only [Array.length_toList] at e
  lia
theorem e9.tuple(I:e9 X pins σ H s)(h:SqT X.K H a xs):∃its:List AA,j4 xs its/\IsTup s.heap a its.toArray/\xs.length<=AM:=by
 rcases h with h|⟨o,its,n,hk,hc,hs,hz,r⟩
 ·obtain⟨z,its,r,p⟩:=h.ok I.hok;exact⟨its,r,p,z⟩
 ·refine⟨its.toList,r,⟨o,I.kIn a o hk,hc,n,by simpa using hs⟩, ?_⟩
  have e:=r.length;simp only [Array.length_toList] at e
  lia
theorem e9.list_inj(I:e9 X pins σ H s)(h:Z0 X.K H a xs)(h':Z0 X.K H a ys):xs=ys:=by
 obtain⟨its,r,⟨o,n,e,_,_,d⟩,_⟩:=I.list h;obtain⟨its',r',⟨o',n',e',_,_,d'⟩,_⟩:=I.list h';rw [e] at e';cases e';rw [d] at d';injection d' with d1 _
 have:its=its':=by simpa using congrArg Array.toList d1
 subst this;exact r.inj r'
theorem e9.tuple_inj(I:e9 X pins σ H s)(h:SqT X.K H a xs)(h':SqT X.K H a ys):xs=ys:=by
 obtain⟨its,r,⟨o,e,_,n,d⟩,_⟩:=I.tuple h;obtain⟨its',r',⟨o',e',_,n',d'⟩,_⟩:=I.tuple h';rw [e] at e';cases e';rw [d] at d';injection d' with d1 _
 have:its=its':=by simpa using congrArg Array.toList d1
 subst this;exact r.inj r'
end
abbrev Cx.wish(X:Cx)(E:AA->AC->Prop):Cx:={X with xe:=E}
abbrev Cx.nox(X:Cx):Cx:=X.wish λ_ _=>False
theorem Cx.Ok.wish{X:Cx}(ok:X.Ok)(E:AA->AC->Prop):(X.wish E).Ok:=
 ⟨ok.mod,ok.kind,ok.glob,ok.blt,ok.above,ok.inj,ok.has,ok.cab,ok.hd,ok.frames,ok.stk,ok.exf,ok.bs,ok.bsz,ok.noex,ok.exfs,ok.funs,ok.frf⟩
theorem Cx.Ok.unwish{X:Cx}{E:AA->AC->Prop}(ok:(X.wish E).Ok):X.Ok:=
 ⟨ok.mod,ok.kind,ok.glob,ok.blt,ok.above,ok.inj,ok.has,ok.cab,ok.hd,ok.frames,ok.stk,ok.exf,ok.bs,ok.bsz,ok.noex,ok.exfs,ok.funs,ok.frf⟩
section
variable {X:Cx}{pins:List (AB×Obj)}{σ:St}{H:Hp}{s:AC}{E:AA->AC->Prop}
theorem e9.wish(I:e9 X pins σ H s)(E:AA->AC->Prop):e9 (X.wish E) pins σ H s:=⟨I.ok.wish E,I.os,I.bare,I.base,I.loc,I.cell,I.free,I.freeC,I.pin,I.hok,I.len⟩
theorem e9.unwish(I:e9 (X.wish E) pins σ H s):e9 X pins σ H s:=⟨I.ok.unwish,I.os,I.bare,I.base,I.loc,I.cell,I.free,I.freeC,I.pin,I.hok,I.len⟩
theorem SP.unwish{D:N5}{f:Flow}{s':AC}(h:SP (X.wish E) pins D f s'):SP X pins D f s':=by
 cases f with
 |next=>obtain⟨σ',H',I,q⟩:=h;exact⟨σ',H',I.unwish,q⟩
 |brk=>obtain⟨σ',H',I,q⟩:=h;exact⟨σ',H',I.unwish,q⟩
 |cont=>obtain⟨σ',H',I,q⟩:=h;exact⟨σ',H',I.unwish,q⟩
 |ret u=>obtain⟨v,σ',H',I,r,q⟩:=h;exact⟨v,σ',H',I.unwish,r,q⟩
theorem PSs.nox{st:List Stmt}{t:TS}(h:PSs X.nox st t):PSs X st t:=λpins s σ H D I hw=>
 wpAny_mono (h pins s σ H D (I.wish _) hw) (λ_ _ q=>q.unwish) λ_ _ z=>False.elim z
end
section
variable {X:Cx}{st:Stmt}{rest:List Stmt}{t u:TS}{e:AG}{te:TE}{pos:Pos}
def b8k:TS:=λD σ H=>D.nx σ H
def b5L(t u:TS):TS:=λD σ H=>t {D with nx:=u D} σ H
theorem b10:PSs X [] b8k:=λ_ _ σ H _ I h=>wpAny_execs_nil ⟨σ,H,I,h⟩
theorem a28(h1:PS X st t)(h2:PSs X rest u):PSs X (st::rest) (b5L t u):=by
 intro pins s σ H D I h;refine wpAny_execs_cons (C8 (h1 pins s σ H {D with nx:=u D} I h) λf s1 q=> ?_)
 cases f with
 |next=>
  obtain⟨σ',H',I',q⟩:=q;exact h2 pins s1 σ' H' D I' q
 |ret v=>exact q
 |brk=>exact q
 |cont=>exact q
theorem b11(h1:PS X st t):PSs X [st] t:=by
 intro pins s σ H D I h;refine wpAny_execs_cons (C8 (h1 pins s σ H D I h) λf s1 q=> ?_);cases f with
 |next=>exact wpAny_execs_nil q
 |ret v=>exact q
 |brk=>exact q
 |cont=>exact q
theorem e9.quiet{pins:List (AB×Obj)}{σ:St}{H:Hp}{s:AC}(I:e9 X pins σ H s):interactive X.env=false:=by simp [interactive,I.ok.kind]
def c1n(te:TE):TS:=λD σ H=>te σ H λ_ H1=>D.nx σ H1
theorem a8u(he:PE X e te)(hs:swapsWith e ζ pos.line X.env=pure false:=by rfl):PS X (.Expr e pos) (c1n te):=by
 intro pins s σ H D I h;exact wpAny_Expr_any (C8 (he pins s σ H _ I h) λv s1 h0=>j5 h0 λx H1 I1 r1 q1=>⟨σ,H1,I1,q1⟩) I.quiet hs
def c1U(te:TE):TS:=λD σ H=>te σ H D.rt
theorem b5k(he:PE X e te):PS X (.Return (ξ e) pos) (c1U te):=by
 intro pins s σ H D I h;exact wpAny_Return_some (C8 (he pins s σ H _ I h) λv s1 h0=>j5 h0 λx H1 I1 r1 q1=>⟨x,σ,H1,I1,r1,q1⟩)
def c1R(c:TT)(t u:TS):TS:=λD σ H=>c σ H λb H1=>if b=true then t D σ H1 else u D σ H1
theorem b8g{c:AG}{a b:List Stmt}{tc:TT}(hc:PT X c tc)(ha:PSs X a t)(hb:PSs X b u):PS X (.If c a b pos) (c1R tc t u):=by
 intro pins s σ H D I h;refine wpAny_If (C8 (hc pins s σ H _ I h) λd s1 ⟨H1,I1,q1⟩=> ?_);cases d with
 |true=>exact ha pins s1 σ H1 D I1 q1
 |false=>exact hb pins s1 σ H1 D I1 q1
def b96:TS:=λ_ _ _=>False
theorem b5j:PS X st b96:=λ_ _ _ _ _ _ h=>h.elim
end
abbrev TG:=V->St->Hp->(St->Hp->Prop)->Prop
abbrev TGs:=List V->St->Hp->(St->Hp->Prop)->Prop
def PG(X:Cx)(target:AG)(t:TG):Prop:=
 ∀(pins:List (AB×Obj)) (s:AC) (σ:St) (H:Hp) (v:V) (u:AA) (Q:St->Hp->Prop),e9 X pins σ H s->j3 v u->t v σ H Q->
  AF (model X.prog X.w) X.A (assign target X.env u) (λ_ s'=>∃σ' H',e9 X pins σ' H' s'/\Q σ' H') X.xe s
def PGs(X:Cx)(ts:List AG)(t:TGs):Prop:=
 ∀(pins:List (AB×Obj)) (s:AC) (σ:St) (H:Hp) (vs:List V) (us:List AA) (Q:St->Hp->Prop),e9 X pins σ H s->j4 vs us->t vs σ H Q->
  AF (model X.prog X.w) X.A (assignInOrder ((assignEach ts X.env).map (·.2)) us) (λ_ s'=>∃σ' H',e9 X pins σ' H' s'/\Q σ' H') X.xe s
abbrev TIp:=V->V->Hp->VK->Prop
def PIp(X:Cx)(op:Operator)(t:TIp):Prop:=
 ∀(pins:List (AB×Obj)) (s:AC) (σ:St) (H:Hp) (x y:V) (v u:AA) (Q:VK),e9 X pins σ H s->j3 x v->j3 y u->t x y H Q->
  AF (model X.prog X.w) X.A (inplaceOp op v u) (EP X pins σ Q) X.xe s
section
variable {X:Cx}{pos:Pos}
def a2S(i:Nat):TG:=λv σ H Q=>Q (σ.set i (ξ v)) H
theorem i5{i:Nat}{x:Str}(hN:X.N.Nodup)(hi:X.N[i]?=ξ x)(hx:Loc X.env.scope x)(hf:X.fn x=true\/X.env.scope.names.lookup x=ξ .local:=by first|exact .inl rfl|exact .inr rfl|assumption):PG X (.Name x pos) (a2S i):=by
 intro pins s σ H v u Q I r h;exact wpAny_assign_Name (a3g I hN hi hx r (λs' I'=>⟨_,H,I',h⟩) hf)
def c0J:TGs:=λvs σ H Q=>vs=[]/\Q σ H
def b78(t:TG)(u:TGs):TGs:=λvs σ H Q=>∃v r,vs=v::r/\t v σ H λσ' H'=>u r σ' H' Q
theorem a27:PGs X [] c0J:=by
 intro pins s σ H vs us Q I r h;obtain⟨e,h⟩:=h;subst e;cases r;exact assignInOrder_nil ⟨σ,H,I,h⟩
theorem K2{e:AG}{es:List AG}{t:TG}{u:TGs}(h1:PG X e t)(h2:PGs X es u)
 (hs:(assignEach (e::es) X.env).map (·.2)=assign e X.env::(assignEach es X.env).map (·.2):=by rfl):PGs X (e::es) (b78 t u):=by
 intro pins s σ H vs us Q I r h
 obtain⟨v,vr,e1,h⟩:=h
 subst e1
 cases r with
 |cons r rr=>
  rw [hs]
  refine assignInOrder_cons (C8 (h1 pins s σ H _ _ _ I r h) λ_ s1 ⟨σ1,H1,I1,q1⟩=> ?_)
  exact h2 pins s1 σ1 H1 _ _ Q I1 rr q1
def c0K(K:AE)(n:Nat)(t:TGs):TG:=λv σ H Q=>∃a xs,v= .ref a/\SqT K H a xs/\xs.length=n/\t xs σ H Q
theorem a5U{es:List AG}{k:Nat}{t:TGs}{n:Nat}(hc:X.calm=true)(h:PGs X es t)
 (hn:(assignEach es X.env).length=n:=by rfl) (hst:(assignEach es X.env).findIdx? (·.1)=ζ:=by rfl):PG X (.Tuple es k pos) (c0K X.K n t):=by
 intro pins s σ H v u Q I r hw
 obtain⟨a,xs,e1,hq,hl,hw⟩:=hw
 subst e1
 cases r
 obtain⟨its,rv,ht,hz⟩:=I.tuple hq
 refine assign_Tuple_tuple (I.ok.hd hc) ht (by simp [hn,<-hl,rv.length]) hst λh' hx=> ?_
 have I1:e9 X pins σ H {s with heap:=h'}:=I.kept (t':=s.toks) λb o e=>hx b o (AW (AT e)) e
 exact h pins _ σ H xs _ Q I1 (by simpa using rv) hw
def c1k(te:TE)(g:TG):TS:=λD σ H=>te σ H λx H1=>g x σ H1 D.nx
theorem b9G{tg e:AG}{te:TE}{g:TG}(he:PE X e te)(hg:PG X tg g)(hs:swapsWithSole [tg] e pos.line X.env=pure false:=by rfl)(hw:swappedStores [tg] e X.env=pure ζ:=by rfl)
 (h1:(assignEach [tg] X.env).map (·.2)=[assign tg X.env]:=by rfl):PS X (.Assign [tg] e pos) (c1k te g):=by
 intro pins s σ H D I h
 refine wpAny_Assign_stores (C8 (he pins s σ H _ I h) λv s1 h0=>j5 h0 λx H1 I1 r1 q1=> ?_) hs hw
 rw [h1]
 exact C8 (hg pins s1 σ H1 x v _ I1 r1 q1) λ_ s2 q=>q
theorem b9I{i:Nat}{x:Str}{e:AG}{te:TE}{pos':Pos}(hN:X.N.Nodup)(hi:X.N[i]?=ξ x)(hx:Loc X.env.scope x)(he:PE X e te)(hs:swapsWith e (ξ (.Name x pos')) pos.line X.env=pure false:=by rfl)(hf:X.fn x=true\/X.env.scope.names.lookup x=ξ .local:=by first|exact .inl rfl|exact .inr rfl|assumption):
 PS X (.Assign [.Name x pos'] e pos) (c1k te (a2S i)):=by
 intro pins s σ H D I h
 refine wpAny_Assign_Name (C8 (he pins s σ H _ I h) λv s1 h0=>j5 h0 λy H1 I1 r1 q1=> ?_) hs
 exact a3g I1 hN hi hx r1 (λs2 I2=>⟨_,H1,I2,q1⟩) hf
def c1P(i:Nat)(te:TE)(ti:TIp):TS:=λD σ H=>∃x,σ[i]?=ξ (ξ x)/\te σ H λy H1=>ti x y H1 λz H2=>D.nx (σ.set i (ξ z)) H2
theorem b9H{i:Nat}{x:Str}{e:AG}{te:TE}{op:Operator}{ti:TIp}{pos':Pos}(hN:X.N.Nodup)(hi:X.N[i]?=ξ x)(hx:Loc X.env.scope x)(he:PE X e te)(ho:PIp X op ti)(hf:X.fn x=true\/X.env.scope.names.lookup x=ξ .local:=by first|exact .inl rfl|exact .inr rfl|assumption):
 PS X (.AugAssign (.Name x pos') op e pos) (c1P i te ti):=by
 intro pins s σ H D I h
 obtain⟨v,e1,h⟩:=h
 obtain⟨m,hn,hl⟩:=I.loc
 have vis:Vis X.env.scope x:=by rcases hx with k|k;exact .inl k;exact .inr (.inl k)
 obtain⟨u,r,l⟩:=hl i x v hi e1 vis
 refine wpAny_AugAssign_Name ?_
 have go:AF (model X.prog X.w) X.A (eval e X.env) (λw s₂=>AF (model X.prog X.w) X.A (inplaceOp op u w) (λr s₃=>AF (model X.prog X.w) X.A (storeName X.env x r) (λ_=>SP X pins D .next) X.xe s₃) X.xe s₂) X.xe s:=by
  refine C8 (he pins s σ H _ I h) λw s1 h0=>j5 h0 λy H1 I1 r1 q1=> ?_;refine C8 (ho pins s1 σ H1 v y u w _ I1 r r1 q1) λz s2 h0=>j5 h0 λzv H2 I2 r2 q2=> ?_;exact a3g I2 hN hi hx r2 (λs3 I3=>⟨_,H2,I3,q2⟩) hf
 rcases l with⟨hk,hm⟩|⟨hk,c,hc,hcell⟩
 ·exact wpAny_loadName_local I.ok.kind hk hn hm go
 ·rcases hk with hk|hk
  ·exact wpAny_loadName_cell I.ok.kind hk hc hcell go
  ·rcases hx with k|k
   ·have:X.env.scope.names.lookup x=ξ .free:=hk
    rw [k] at this;cases this
   ·have:X.env.scope.names.lookup x=ξ .free:=hk
    rw [k] at this;cases this
def b97(c:TT)(tb:TS):TS:=λD σ H=>∃W:Nat->St->Hp->Prop,(∃m,W m σ H)/\∀m σ H,W m σ H->
 c σ H λb H1=>if b=true then ∃N:St->Hp->Prop,(∀σ' H',N σ' H'->∃m',m'<m/\W m' σ' H')/\tb {D with nx:=N,ct:=N,bk:=D.nx} σ H1 else D.nx σ H1
theorem b5l{c:AG}{body:List Stmt}{tc:TT}{tb:TS}(hp:PassesOwn (model X.prog X.w) X.A X.env X.xe)(hc:PT X c tc)(hb:PSs X body tb):PS X (.While c body [] pos) (b97 tc tb):=by
 intro pins s σ H D I h;obtain⟨W,⟨m0,w0⟩,turn⟩:=h;refine wpAny_While (codeAny_whileLoop (λn s'=>∃σ' H',e9 X pins σ' H' s'/\W n σ' H') ?_ m0 ⟨σ,H,I,w0⟩);rintro n s1 ⟨σ1,H1,I1,w1⟩;refine wpAny_passesOwn hp (C8 (hc pins s1 σ1 H1 _ I1 (turn n σ1 H1 w1)) λb s2 ⟨H2,I2,q2⟩=> ?_);cases b with
 |true=>
  obtain⟨N,hN,q2⟩:=q2;rw [if_pos rfl];refine wpAny_passesOwn hp (C8 (hb pins s2 σ1 H2 _ I2 q2) λf s3 q3=> ?_);cases f with
  |next=>
   obtain⟨σ3,H3,I3,n3⟩:=q3;obtain⟨m',hm,w3⟩:=hN σ3 H3 n3;exact⟨m',hm,σ3,H3,I3,w3⟩
  |cont=>
   obtain⟨σ3,H3,I3,n3⟩:=q3;obtain⟨m',hm,w3⟩:=hN σ3 H3 n3;exact⟨m',hm,σ3,H3,I3,w3⟩
  |brk=>exact q3
  |ret v=>exact q3
 |false=>
  rw [if_neg Ac];exact wpAny_execs_nil ⟨σ1,H2,I2,q2⟩
end
structure It where
 go:Nat->Hp->Prop
 yld:Nat->Hp->V->Hp->Prop
 stop:Nat->Hp->Prop
def a3m(X:Cx)(pins:List (AB×Obj))(H:Hp)(b:AB):Prop:=
 H b=ζ/\b≠X.env.locals/\b∉X.fs/\(b∈X.ex\/X.s₀.heap.objs.size<=b)/\(∀x c,X.env.cells.lookup x=ξ c->c≠b)/\∀p∈X.pn++pins,p.1≠b
theorem e9.fpOk{X:Cx}{pins:List (AB×Obj)}{σ:St}{H H':Hp}{s:AC}{b:AB}(I:e9 X pins σ H s)(hb:s.heap.objs.size<=b)(hn:H' b=ζ):a3m X pins H' b:=by
 refine⟨hn,Nat.ne_of_gt (Ak I.lt hb),I.nofs hb,.inr (Nat.le_trans I.sz hb),λx c e z=> ?_,λp hp z=> ?_⟩
 ·obtain⟨v,q⟩:=I.cell x c e;exact absurd (Ak q.lt (by rw [z];exact hb)) (Nat.lt_irrefl _)
 ·exact absurd (Ak (AT (I.pin p hp).1) (by rw [z];exact hb)) (Nat.lt_irrefl _)
structure a81(P:AJ)(w:AI)(K:AE)(tg:AG)(J:It)(fp:List AB)(it:AB)(tn:Nat->Heap->Prop):Prop where
 mem:it∈fp
 obj:∀i h,tn i h->∀b∈fp,∃o,h.get? b=ξ o/\∀v,o.data≠.cell v
 keep:∀i h h',tn i h->(∀b∈fp,∀o,h.get? b=ξ o->h'.get? b=ξ o)->tn i h'
 item:∀(X:Cx),X.prog=P->X.w=w->X.K=K->X.calm=true->∀(i:Nat) (pins:List (AB×Obj)) (s:AC) (σ:St) (H:Hp) (E:AA->AC->Prop),e9 X pins σ H s->(∀b∈fp,a3m X pins H b)->tn i s.heap->J.go i H->
  AF (model P w) X.A (pyNext (.ref it)) (λr s1=>∃u,r=ξ u/\
   AF (model P w) X.A (letOwnedTupleGo tg (.ref it) u) (λ_ s2=>∃x H',e9 X pins σ H' s2/\j3 x u/\J.yld i H x H'/\tn (i+1) s2.heap/\∀b∈fp,H' b=ζ) E s1) E s
 done:∀(X:Cx),X.prog=P->X.w=w->X.K=K->X.calm=true->∀(i:Nat) (pins:List (AB×Obj)) (s:AC) (σ:St) (H:Hp) (E:AA->AC->Prop),e9 X pins σ H s->(∀b∈fp,a3m X pins H b)->tn i s.heap->J.stop i H->
   AF (model P w) X.A (pyNext (.ref it)) (λr s1=>r=ζ/\e9 X pins σ H s1) E s
 self:∀(A:AK) (i:Nat) (s:AC) (Q:AA->AC->Prop) (E:AA->AC->Prop),tn i s.heap->Q (.ref it) s->AF (model P w) A (pyIter (.ref it)) Q E s
abbrev TI:=St->Hp->(It->Hp->Prop)->Prop
def PIE(X:Cx)(pins:List (AB×Obj))(σ:St)(tg:AG)(R:It->Hp->Prop)(itv:AA)(s2:AC):Prop:=
 ∃(it:AB) (fp:List AB) (tn:Nat->Heap->Prop) (J:It) (H':Hp),itv= .ref it/\e9 X pins σ H' s2/\a81 X.prog X.w X.K tg J fp it tn/\tn 0 s2.heap/\(∀b∈fp,a3m X pins H' b)/\R J H'
def PI(X:Cx)(tg iter:AG)(wi:TI):Prop:=
 ∀(pins:List (AB×Obj)) (s:AC) (σ:St) (H:Hp) (R:It->Hp->Prop),e9 X pins σ H s->wi σ H R->
  AF (model X.prog X.w) X.A (eval iter X.env) (λv s1=>AF (model X.prog X.w) X.A (pyIter v) (PIE X pins σ tg R) X.xe s1) X.xe s
theorem a9n{M:Model}{A:AK}{E:AA->AC->Prop}{s:AC}{tg:AG}{it:AB}{u:AA}{o:Obj}{n:String}{vs:Array AA}{Q:Unit->AC->Prop}(ho:s.heap.get? it=ξ o)(hc:o.cls= .type n)(hd:o.data= .fields vs)
 (hn:["enumerate","zip","dict_itemiterator","dict_reverseitemiterator","odict_iterator","itertools.zip_longest","itertools.pairwise"].contains n=false) (hQ:Q () s):AF M A (letOwnedTupleGo tg (.ref it) u) Q E s:=by
 unfold letOwnedTupleGo
 cases tg<;>first
  |exact AH hQ
  |(cases u<;>first
   |exact AH hQ
   |(refine AD (wpAny_load ho ?_)
     rw [hc,hd]
     show AF M A (if(["enumerate","zip","dict_itemiterator","dict_reverseitemiterator","odict_iterator","itertools.zip_longest","itertools.pairwise"].contains n && vs[0]?==ξ (rawInt _))=true then _ else _) Q E s
     rw [if_neg (by intro h;rw [hn,Bool.false_and] at h;cases h)]
     exact AH hQ))
def Itl(K:AE)(a:AB):It:=
 ⟨λi H=>∃xs x,Z0 K H a xs/\xs[i]?=ξ x,λi H x H'=>H'=H/\∀xs,Z0 K H a xs->xs[i]?=ξ x,λi H=>∃xs,Z0 K H a xs/\xs.length<=i⟩
def Itt(K:AE)(a:AB):It:=
 ⟨λi H=>∃xs x,SqT K H a xs/\xs[i]?=ξ x,λi H x H'=>H'=H/\∀xs,SqT K H a xs->xs[i]?=ξ x,λi H=>∃xs,SqT K H a xs/\xs.length<=i⟩
def Itr(lo:Int)(n:Nat):It:=⟨λi _=>i<n,λi H x H'=>H'=H/\x= .int (lo+i),λi _=>n<=i⟩
theorem b3p{P:AJ}{w:AI}{K:AE}{tg:AG}(a it:AB):a81 P w K tg (Itl K a) [it] it (λi h=>h.IsListIter it a i) where
 mem:=by simp
 obj:=λi h st b hb=>by
  have e:b=it:=by simpa using hb
  subst e
  ext e
 keep:=λi h h' st k=>st.at λo e=>k it (by simp) o e
 item:=by
  intro X hP hw hK hc i pins s σ H E I hf st hg;subst hP hw hK;obtain⟨xs,x,hq,hx⟩:=hg;obtain⟨its,rv,p,hz⟩:=I.list hq;obtain⟨u,hu,ru⟩:=rv.get hx;obtain⟨f0,f1,f2,f3,f4,f5⟩:=hf it (by simp)
  refine wpAny_pyNext_list_item st p.isList (x:=u) (by simpa using hu) λh' st' sb=> ?_
  have I1:e9 X pins σ H {s with heap:=h'}:=I.turned (t':=s.toks) (λb o hb e=>(sb.2 b hb).trans e) f0 f1 f3 f4 f5
  obtain⟨o,e,c,d⟩:=id st';exact⟨u,rfl,a9n (s:={s with heap:=h'}) e c d (by decide) ⟨x,H,I1,ru,⟨rfl,λys hy=>by rw [I.list_inj hy hq];exact hx⟩,st',λb hb=>(hf b hb).1⟩⟩
 done:=by
   intro X hP hw hK hc i pins s σ H E I hf st hg;subst hP hw hK;obtain⟨xs,hq,hx⟩:=hg;obtain⟨its,rv,p,hz⟩:=I.list hq;obtain⟨f0,f1,f2,f3,f4,f5⟩:=hf it (by simp)
   have hl:=rv.length;exact wpAny_pyNext_list_end (I.ok.hd hc) st p.isList (by simp;lia) λh' eb=>⟨rfl,I.turned (t':=s.toks) (λb o hb e=>eb b o hb e) f0 f1 f3 f4 f5⟩
 self:=λ_ _ _ _ _ st h=>wpAny_pyIter_listiter st h
theorem b1f{P:AJ}{w:AI}{K:AE}{tg:AG}(a it:AB):a81 P w K tg (Itt K a) [it] it (λi h=>h.IsTupleIter it a i) where
 mem:=by simp
 obj:=λi h st b hb=>by
  have e:b=it:=by simpa using hb
  subst e
  ext e
 keep:=λi h h' st k=>st.at λo e=>k it (by simp) o e
 item:=by
  intro X hP hw hK hc i pins s σ H E I hf st hg;subst hP hw hK;obtain⟨xs,x,hq,hx⟩:=hg;obtain⟨its,rv,p,hz⟩:=I.tuple hq;obtain⟨u,hu,ru⟩:=rv.get hx;obtain⟨f0,f1,f2,f3,f4,f5⟩:=hf it (by simp)
  refine wpAny_pyNext_tuple_item st (show s.heap.IsTuple a its.toArray from p) (x:=u) (by simpa using hu) λh' st' sb=> ?_
  have I1:e9 X pins σ H {s with heap:=h'}:=I.turned (t':=s.toks) (λb o hb e=>(sb.2 b hb).trans e) f0 f1 f3 f4 f5
  obtain⟨o,e,c,d⟩:=id st';exact⟨u,rfl,a9n (s:={s with heap:=h'}) e c d (by decide) ⟨x,H,I1,ru,⟨rfl,λys hy=>by rw [I.tuple_inj hy hq];exact hx⟩,st',λb hb=>(hf b hb).1⟩⟩
 done:=by
   intro X hP hw hK hc i pins s σ H E I hf st hg;subst hP hw hK;obtain⟨xs,hq,hx⟩:=hg;obtain⟨its,rv,p,hz⟩:=I.tuple hq;obtain⟨f0,f1,f2,f3,f4,f5⟩:=hf it (by simp)
   have hl:=rv.length;exact wpAny_pyNext_tuple_end (I.ok.hd hc) st (show s.heap.IsTuple a its.toArray from p) (by simp;lia) λh' eb=>⟨rfl,I.turned (t':=s.toks) (λb o hb e=>eb b o hb e) f0 f1 f3 f4 f5⟩
 self:=λ_ _ _ _ _ st h=>wpAny_pyIter_tupleiter st h
theorem b1e{P:AJ}{w:AI}{K:AE}{tg:AG}(it:AB)(lo:Int)(n:Nat):a81 P w K tg (Itr lo n) [it] it (λi h=>IsRangeIter h it (lo+(i:Nat)*1) ((n:Int) - (i:Nat)) 1) where
 mem:=by simp
 obj:=λi h st b hb=>by
  have e:b=it:=by simpa using hb
  subst e;exact⟨_,st,λv z=>by
   have z':Data.fields _=Data.cell v:=z;cases z'⟩
 keep:=λi h h' st k=>k it (by simp) _ st
 item:=by
  ext d
  have W:=Walks.range (prog:=X.prog) (w:=X.w) (I.ok.hd hc) it lo 1 n;refine W.item i s _ _ hg st λv h' tk hv st' kk=> ?_;obtain⟨t,rfl⟩:=hv;have I1:e9 X pins σ H {s with heap:=h',toks:=tk}:=I.turned (λb o hb e=>kk b o (by simpa using hb) e) f0 f1 f3 f4 f5
  refine⟨_,rfl,a9n (s:={s with heap:=h',toks:=tk}) (n:="range_iterator") st' rfl rfl (by decide) ⟨.int (lo+i),H,I1,⟨t, ?_⟩,⟨rfl,rfl⟩,st',λb hb=>(hf b hb).1⟩⟩
  rw [Int.mul_one]
 done:=by
   ext d
   exact wpAny_pyNext_range_end (I.ok.hd hc) st (by have:n<=i:=hg;lia) λh' eb=>⟨rfl,I.turned (t':=s.toks) (λb o hb e=>eb b o hb e) f0 f1 f3 f4 f5⟩
 self:=λ_ _ _ _ _ st h=>wpAny_pyIter_rangeiter st h
section
variable {X:Cx}{tg:AG}
theorem b5p{pins:List (AB×Obj)}{σ:St}{H:Hp}{s:AC}{R:It->Hp->Prop}{E:AA->AC->Prop}{lo hi:Int}{t u v:Tok}{tk:Nat}(I:e9 X pins σ H s)(h1: -(2 ^ 62)<=lo)(h2:lo<2 ^ 62)(h3: -(2 ^ 62)<=hi)(h4:hi<2 ^ 62)
 (q:R (Itr lo (hi - lo).toNat) H):AF (model X.prog X.w) X.A (pyIter (.ref s.heap.objs.size)) (PIE X pins σ tg R) E {s with heap:=s.heap.push {cls:= .type "range",data:= .fields #[.int lo t,.int hi u,.int 1 v]},toks:=tk}:=by
 refine wpAny_pyIter_range (IsRange.new ..) (small_one h1 h2 h3 h4) ?_
 have I1:e9 X pins σ H {s with heap:=s.heap.push {cls:= .type "range",data:= .fields #[.int lo t,.int hi u,.int 1 v]},toks:=tk}:=I.kept λb o e=>AR _ e
 refine⟨(s.heap.push {cls:= .type "range",data:= .fields #[.int lo t,.int hi u,.int 1 v]}).objs.size,[(s.heap.push {cls:= .type "range",data:= .fields #[.int lo t,.int hi u,.int 1 v]}).objs.size],_,_,H,rfl,
  I1.kept (t':=tk) λb o e=>AR _ e,b1e _ lo (hi - lo).toNat, ?_,λb hb=> ?_,q⟩
 ·have e1:lo+((0:Nat):Int)*1=lo:=by simp
  have e2:(((hi - lo).toNat:Nat):Int) - ((0:Nat):Int)=Builtin.Range.rangeSize lo hi 1:=by rw [rangeSize_one];split<;>lia
  show IsRangeIter _ _ (lo+((0:Nat):Int)*1) ((((hi - lo).toNat:Nat):Int) - ((0:Nat):Int)) 1
  rw [e1,e2]
  exact Aa _ rfl
 ·have e:b=(s.heap.push {cls:= .type "range",data:= .fields #[.int lo t,.int hi u,.int 1 v]}).objs.size:=by simpa using hb
  subst e
  exact I1.fpOk (AN _) (I1.hok.fresh (AN _))
def c0Q(ta:TA):TI:=λσ H R=>ta σ H λvs H1=>∃j:Int,vs=[.int j]/\ -(2 ^ 62)<=j/\j<2 ^ 62/\R (Itr 0 j.toNat) H1
theorem a7u{a:AG}{ta:TA}{p pos:Pos}(hg:Gl X "range")(hm:X.mg "range"=ζ)(ha:PA X [a] ta)(hs:AL [a] X.env=[(false,eval a X.env)]:=by rfl):PI X tg (.Call (.Name "range" p) [a] [] pos) (c0Q ta):=by
 intro pins s σ H R I h;refine Call_ (a5u I hg hm boot_range (PyProof.Rows.callWith_type1 (C8 (ha pos pins s σ H _ I h) λus s1 h0=>j5 h0 λvs H1 I1 r1 q1=> ?_) hs rfl));obtain⟨j,e,q1,q2,q⟩:=q1;subst e;cases r1 with
 |cons r rr=>
  cases rr;obtain⟨t,rfl⟩:=r;exact call_range_1 (b5p I1 (by lia) (by lia) q1 q2 (by simpa using q))
def c1Q(wi:TI)(g:TG)(tb:TS):TS:=λD σ H=>wi σ H λJ H1=>∃W:Nat->Nat->St->Hp->Prop,(∃m,W 0 m σ H1)/\∀i m σ H,W i m σ H->
 (J.stop i H/\D.nx σ H)\/(J.go i H/\∃N:St->Hp->Prop,(∀σ' H',N σ' H'->∃m',m'<m/\W (i+1) m' σ' H')/\∀x H',J.yld i H x H'->g x σ H' λσ2 H2=>tb {D with nx:=N,ct:=N,bk:=D.nx} σ2 H2)
def a5V(fp:List AB)(h:Heap):List (AB×Obj):=fp.filterMap λb=>(h.get? b).map λo=>(b,o)
theorem a0I{fp:List AB}{h:Heap}{b:AB}{o:Obj}(hb:b∈fp)(e:h.get? b=ξ o):(b,o)∈a5V fp h:=List.mem_filterMap.mpr ⟨b,hb,by rw [e];rfl⟩
theorem b20{fp:List AB}{h:Heap}{p:AB×Obj}(hp:p∈a5V fp h):p.1∈fp/\h.get? p.1=ξ p.2:=by
 obtain⟨b,hb,e⟩:=List.mem_filterMap.mp hp;cases q:h.get? b with
 |none=>rw [q] at e;cases e
 |some o=>
  rw [q] at e;have e':(b,o)=p:=Option.some.inj e;subst e';exact⟨hb,q⟩
theorem e9.pinned{pins:List (AB×Obj)}{σ:St}{H:Hp}{s:AC}{fp:List AB}(I:e9 X pins σ H s)(hf:∀b∈fp,a3m X pins H b)(ho:∀b∈fp,∃o,s.heap.get? b=ξ o/\∀v,o.data≠.cell v):e9 X (pins++a5V fp s.heap) σ H s:=
 I.pins_of λp hp=>(Ar.mp hp).elim (λz=>I.pin p (Ax _ z)) λz=>by
  obtain⟨hb,e⟩:=b20 z;obtain⟨f0,f1,f2,_⟩:=hf p.1 hb;obtain⟨o,e',d⟩:=ho p.1 hb;rw [e] at e';cases e';exact⟨e,f0,f1,f2,d⟩
theorem e9.unpinned{pins pl:List (AB×Obj)}{σ:St}{H:Hp}{s:AC}(I:e9 X (pins++pl) σ H s):e9 X pins σ H s:=I.pins_of λp hp=>I.pin p (Ax _ (BH _ hp))
theorem b05{iter:AG}{body:List Stmt}{wi:TI}{g:TG}{tb:TS}{pos:Pos}(hp:PassesOwn (model X.prog X.w) X.A X.env X.xe)(hc:X.calm=true)(hi:PI X tg iter wi)(hg:PG X tg g)(hb:PSs X body tb)
 (hs:∀x,foldedSetIterable iter X.env x=pure x:=by intro _;rfl):PS X (.For tg iter body [] pos) (c1Q wi g tb):=by
 intro pins s σ H D I h
 refine wpAny_For (C8 (hi pins s σ H _ I h) λv s1 h1=>C8 h1 λitv s2 h2=> ?_) hs
 obtain⟨it,fp,tn,J,H2,e,I2,T,st2,f2,W,⟨m0,w0⟩,turn⟩:=h2
 subst e
 have stat:∀{H':Hp},(∀b∈fp,H' b=ζ)->∀b∈fp,a3m X pins H' b:=λhn b hb=>⟨hn b hb,(f2 b hb).2⟩
 refine codeAny_forLoop_any (λn s'=>∃i σ' H',e9 X pins σ' H' s'/\tn i s'.heap/\(∀b∈fp,H' b=ζ)/\W i n σ' H') ?_ m0 ⟨0,σ,H2,I2,st2,λb hb=>(f2 b hb).1,w0⟩
 rintro n s3 ⟨i,σ3,H3,I3,st3,fr3,w3⟩
 rcases turn i n σ3 H3 w3 with⟨stop,qn⟩|⟨go,N,hN,step⟩
 ·refine wpAny_passesOwn hp (C8 (T.done X rfl rfl rfl hc i pins s3 σ3 H3 X.xe I3 (stat fr3) st3 stop) λr s4 ⟨hr,I4⟩=> ?_)
  subst hr
  exact wpAny_execs_nil ⟨σ3,H3,I4,qn⟩
 ·refine wpAny_passesOwn hp (C8 (T.item X rfl rfl rfl hc i pins s3 σ3 H3 X.xe I3 (stat fr3) st3 go) λr s4 ⟨u,hr,h4⟩=> ?_)
  subst hr
  refine wpAny_passesOwn hp (C8 h4 λ_ s5 ⟨x,H5,I5,r5,y5,st5,fr5⟩=> ?_)
  have I5':=I5.pinned (stat fr5) (T.obj _ _ st5)
  refine wpAny_passesOwn hp (C8 (hg _ s5 σ3 H5 x u _ I5' r5 (step x H5 y5)) λ_ s6 ⟨σ6,H6,I6,q6⟩=> ?_)
  refine wpAny_passesOwn hp (C8 (hb _ s6 σ6 H6 _ I6 q6) λf s7 q7=> ?_)
  have again:∀{σ7:St} {H7:Hp},e9 X (pins++a5V fp s5.heap) σ7 H7 s7->N σ7 H7->∃m,m<n/\∃i σ' H',e9 X pins σ' H' s7/\tn i s7.heap/\(∀b∈fp,H' b=ζ)/\W i m σ' H':=λ {σ7 H7} I7 n7=>by
   obtain⟨m',hm,w7⟩:=hN σ7 H7 n7;refine⟨m',hm,i+1,σ7,H7,I7.unpinned,T.keep _ _ _ st5 λb hb o e=>(I7.pin (b,o) (Ax _ (Ax _ (a0I hb e)))).1,λb hb=> ?_,w7⟩;obtain⟨o,e,d⟩:=T.obj _ _ st5 b hb;exact(I7.pin (b,o) (Ax _ (Ax _ (a0I hb e)))).2.1
  cases f with
  |next=>obtain⟨σ7,H7,I7,n7⟩:=q7;exact again I7 n7
  |cont=>obtain⟨σ7,H7,I7,n7⟩:=q7;exact again I7 n7
  |brk=>obtain⟨σ7,H7,I7,q7⟩:=q7;exact⟨σ7,H7,I7.unpinned,q7⟩
  |ret v=>obtain⟨x7,σ7,H7,I7,r7,q7⟩:=q7;exact⟨x7,σ7,H7,I7.unpinned,r7,q7⟩
end
theorem b4d{K:AE}{a:AB}{xs:List V}{g:TG}{tb:TS}{D:N5}{σ:St}{H:Hp}(Pv:Nat->St->Hp->Prop)(h0:Pv 0 σ H)(hl:∀i σ H,i<=xs.length->Pv i σ H->Z0 K H a xs)
 (hs:∀i x σ H,xs[i]?=ξ x->Pv i σ H->g x σ H λσ2 H2=>tb {D with nx:=Pv (i+1),ct:=Pv (i+1),bk:=D.nx} σ2 H2) (hd:∀σ H,Pv xs.length σ H->D.nx σ H):
 ∃W:Nat->Nat->St->Hp->Prop,(∃m,W 0 m σ H)/\∀i m σ H,W i m σ H->
  ((Itl K a).stop i H/\D.nx σ H)\/((Itl K a).go i H/\∃N:St->Hp->Prop,(∀σ' H',N σ' H'->∃m',m'<m/\W (i+1) m' σ' H')/\∀x H',(Itl K a).yld i H x H'->g x σ H' λσ2 H2=>tb {D with nx:=N,ct:=N,bk:=D.nx} σ2 H2):=by
 refine⟨λi m σ H=>m=xs.length - i/\i<=xs.length/\Pv i σ H,⟨xs.length,by simp,Nat.zero_le _,h0⟩, ?_⟩
 rintro i m σ H ⟨rfl,hi,p⟩
 have q:=hl i σ H hi p
 by_cases hlt:i<xs.length
 ·refine .inr ⟨⟨xs,xs[i],q,by simp [hlt]⟩,Pv (i+1),λσ' H' p'=>⟨xs.length - (i+1),by lia,rfl,hlt,p'⟩,λx H' y=> ?_⟩
  obtain⟨e,y⟩:=y
  subst e
  exact hs i x σ _ (y xs q) p
 ·have e:i=xs.length:=by lia
  subst e
  exact .inl ⟨⟨xs,q,AN _⟩,hd σ H p⟩
theorem b6F{K:AE}{a:AB}{xs:List V}{g:TG}{tb:TS}{D:N5}{σ:St}{H:Hp}(Pv:Nat->St->Hp->Prop)(h0:Pv 0 σ H)(hl:∀i σ H,i<=xs.length->Pv i σ H->SqT K H a xs)
 (hs:∀i x σ H,xs[i]?=ξ x->Pv i σ H->g x σ H λσ2 H2=>tb {D with nx:=Pv (i+1),ct:=Pv (i+1),bk:=D.nx} σ2 H2) (hd:∀σ H,Pv xs.length σ H->D.nx σ H):
 ∃W:Nat->Nat->St->Hp->Prop,(∃m,W 0 m σ H)/\∀i m σ H,W i m σ H->
  ((Itt K a).stop i H/\D.nx σ H)\/((Itt K a).go i H/\∃N:St->Hp->Prop,(∀σ' H',N σ' H'->∃m',m'<m/\W (i+1) m' σ' H')/\∀x H',(Itt K a).yld i H x H'->g x σ H' λσ2 H2=>tb {D with nx:=N,ct:=N,bk:=D.nx} σ2 H2):=by
 refine⟨λi m σ H=>m=xs.length - i/\i<=xs.length/\Pv i σ H,⟨xs.length,by simp,Nat.zero_le _,h0⟩, ?_⟩
 rintro i m σ H ⟨rfl,hi,p⟩
 have q:=hl i σ H hi p
 by_cases hlt:i<xs.length
 ·refine .inr ⟨⟨xs,xs[i],q,by simp [hlt]⟩,Pv (i+1),λσ' H' p'=>⟨xs.length - (i+1),by lia,rfl,hlt,p'⟩,λx H' y=> ?_⟩
  obtain⟨e,y⟩:=y
  subst e
  exact hs i x σ _ (y xs q) p
 ·have e:i=xs.length:=by lia
  subst e
  exact .inl ⟨⟨xs,q,AN _⟩,hd σ H p⟩
theorem b2H{lo:Int}{n:Nat}{g:TG}{tb:TS}{D:N5}{σ:St}{H:Hp}(Pv:Nat->St->Hp->Prop)(h0:Pv 0 σ H)
 (hs:∀i σ H,i<n->Pv i σ H->g (.int (lo+i)) σ H λσ2 H2=>tb {D with nx:=Pv (i+1),ct:=Pv (i+1),bk:=D.nx} σ2 H2) (hd:∀σ H,Pv n σ H->D.nx σ H):
 ∃W:Nat->Nat->St->Hp->Prop,(∃m,W 0 m σ H)/\∀i m σ H,W i m σ H->
  ((Itr lo n).stop i H/\D.nx σ H)\/((Itr lo n).go i H/\∃N:St->Hp->Prop,(∀σ' H',N σ' H'->∃m',m'<m/\W (i+1) m' σ' H')/\∀x H',(Itr lo n).yld i H x H'->g x σ H' λσ2 H2=>tb {D with nx:=N,ct:=N,bk:=D.nx} σ2 H2):=by
 refine⟨λi m σ H=>m=n - i/\i<=n/\Pv i σ H,⟨n,by simp,Nat.zero_le _,h0⟩, ?_⟩
 rintro i m σ H ⟨rfl,hi,p⟩
 by_cases hlt:i<n
 ·refine .inr ⟨hlt,Pv (i+1),λσ' H' p'=>⟨n - (i+1),by lia,rfl,hlt,p'⟩,λx H' y=> ?_⟩
  obtain⟨e,y⟩:=y
  subst e y
  exact hs i σ _ hlt p
 ·have e:i=n:=by lia
  subst e
  exact .inl ⟨AN _,hd σ H p⟩
abbrev R2:=V->V->Hp->VK->Prop
def OpR(X:Cx)(f:AA->AA->Sem AA)(r:R2):Prop:=
 ∀(pins:List (AB×Obj)) (s:AC) (σ:St) (H:Hp) (x y:V) (v u:AA) (Q:VK),e9 X pins σ H s->j3 x v->j3 y u->r x y H Q->
  AF (model X.prog X.w) X.A (f v u) (EP X pins σ Q) X.xe s
def M8(X:Cx)(f:AA)(r:List V->Hp->VK->Prop):Prop:=
 ∀(pins:List (AB×Obj)) (s:AC) (σ:St) (H:Hp) (xs:List V) (us:List AA) (Q:VK),e9 X pins σ H s->j4 xs us->r xs H Q->
  AF (model X.prog X.w) X.A (call f us) (EP X pins σ Q) X.xe s
def c1A(X:Cx)(r:V->Hp->(Bool->Hp->Prop)->Prop):Prop:=
 ∀(pins:List (AB×Obj)) (s:AC) (σ:St) (H:Hp) (x:V) (v:AA) (Q:Bool->Hp->Prop),e9 X pins σ H s->j3 x v->r x H Q->
  AF (model X.prog X.w) X.A (truthy v) (TP X pins σ Q) X.xe s
def tOp(r:R2)(ta tb:TE):TE:=λσ H Q=>ta σ H λx H1=>tb σ H1 λy H2=>r x y H2 Q
def rI(C:Int->Int->Prop)(g:Int->Int->V):R2:=λx y H Q=>∃i j,x= .int i/\y= .int j/\C i j/\Q (g i j) H
def rI0(g:Int->Int->V):R2:=λx y H Q=>∃i j,x= .int i/\y= .int j/\Q (g i j) H
section
variable {X:Cx}{a b c:AG}{ta tb tc:TE}{pos:Pos}
theorem b8F(ha:PE X a ta)(hb:PE X b tb){pins:List (AB×Obj)}{s:AC}{σ:St}{H:Hp}{R:V->V->Hp->Prop}(I:e9 X pins σ H s)
 (h:ta σ H λx H1=>tb σ H1 λy H2=>R x y H2) {Q:AA->AC->Prop} {f:AA->AA->Sem AA}
 (hf:∀v u s2 x y H2,e9 X pins σ H2 s2->j3 x v->j3 y u->R x y H2->AF (model X.prog X.w) X.A (f v u) Q X.xe s2):
 AF (model X.prog X.w) X.A (eval a X.env) (λv s₁=>AF (model X.prog X.w) X.A (eval b X.env) (λu s₂=>AF (model X.prog X.w) X.A (f v u) Q X.xe s₂) X.xe s₁) X.xe s:=by
 refine C8 (ha pins s σ H _ I h) λv s1 h0=>j5 h0 λx H1 I1 r1 q1=> ?_
 refine C8 (hb pins s1 σ H1 _ I1 q1) λu s2 h0=>j5 h0 λy H2 I2 r2 q2=> ?_
 exact hf v u s2 x y H2 I2 r1 r2 q2
theorem c07{op:Operator}{r:R2}(ho:OpR X (binaryOp op) r)(ha:PE X a ta)(hb:PE X b tb):PE X (.BinOp a op b pos) (tOp r ta tb):=by
 intro pins s σ H Q I h;exact wpAny_BinOp (b8F ha hb I h λv u s2 x y H2 I2 rx ry q=>ho pins s2 σ H2 x y v u Q I2 rx ry q)
theorem opI{f:AA->AA->Sem AA}{C:Int->Int->Prop}{g:Int->Int->Int}
 (rule:∀(i j:Int) (t u:Tok) (s:AC) (Q:AA->AC->Prop) (E:AA->AC->Prop),C i j->Q (.int (g i j) s.toks) {s with toks:=s.toks+1}->AF (model X.prog X.w) X.A (f (.int i t) (.int j u)) Q E s):
 OpR X f (rI C λi j=> .int (g i j)):=by
 intro pins s σ H x y v u Q I rx ry h
 obtain⟨i,j,rfl,rfl,hc,q⟩:=h
 obtain⟨t,rfl⟩:=rx
 obtain⟨t',rfl⟩:=ry
 exact rule i j t t' s _ _ hc ⟨.int (g i j),H,I.tok _,⟨_,rfl⟩,q⟩
theorem b9n{f:AA->AA->Sem AA}{g:Int->Int->Int}
 (rule:∀(i j:Int) (t u:Tok) (s:AC) (Q:AA->AC->Prop) (E:AA->AC->Prop),Q (.int (g i j) s.toks) {s with toks:=s.toks+1}->AF (model X.prog X.w) X.A (f (.int i t) (.int j u)) Q E s):
 OpR X f (rI0 λi j=> .int (g i j)):=by
 intro pins s σ H x y v u Q I rx ry h
 obtain⟨i,j,rfl,rfl,q⟩:=h
 obtain⟨t,rfl⟩:=rx
 obtain⟨t',rfl⟩:=ry
 exact rule i j t t' s _ _ ⟨.int (g i j),H,I.tok _,⟨_,rfl⟩,q⟩
theorem b9m{f:AA->AA->Sem AA}{g:Int->Int->Bool}
 (rule:∀(i j:Int) (t u:Tok) (s:AC) (Q:AA->AC->Prop) (E:AA->AC->Prop),Q (.bool (g i j)) s->AF (model X.prog X.w) X.A (f (.int i t) (.int j u)) Q E s):
 OpR X f (rI0 λi j=> .bl (g i j)):=by
 intro pins s σ H x y v u Q I rx ry h
 obtain⟨i,j,rfl,rfl,q⟩:=h
 obtain⟨t,rfl⟩:=rx
 obtain⟨t',rfl⟩:=ry
 exact rule i j t t' s _ _ ⟨.bl (g i j),H,I,rfl,q⟩
def a8O(i j:Int):Prop:=0<j/\j<1073741824
def a4n(i j:Int):Prop:=(-(2 ^ 64)<i/\i<2 ^ 64)\/(-(2 ^ 64)<j/\j<2 ^ 64)
theorem a4n.ok{i j:Int}(h:a4n i j):IntMulOk i j:=by
 rcases h with⟨h1,h2⟩|⟨h1,h2⟩
 ·exact .of_left (intBits_le_64 h1 h2)
 ·exact .of_right (intBits_le_64 h1 h2)
theorem b9o:OpR X (binaryOp .Add) (rI0 λi j=> .int (i+j)):=b9n λ_ _ _ _ _ _ _ q=>add_int q
theorem b9t:OpR X (binaryOp .Sub) (rI0 λi j=> .int (i - j)):=b9n λ_ _ _ _ _ _ _ q=>sub_int q
theorem b9r:OpR X (binaryOp .Mult) (rI a4n λi j=> .int (i*j)):=opI λ_ _ _ _ _ _ _ hc q=>mul_int q hc.ok
theorem b7b:OpR X (binaryOp .FloorDiv) (rI a8O λi j=> .int (i / j)):=opI λi j _ _ _ _ _ hc q=>by
 have h1:(0:Int)<j:=hc.1;have h2:j<1073741824:=hc.2;exact floordiv_int (by lia) (by rw [Int.fdiv_eq_ediv_of_nonneg i (by lia)];exact q) (.inl (PyProof.noPylong_small (by lia)))
theorem b9q:OpR X (binaryOp .Mod) (rI (λ_ j=>0<j) λi j=> .int (i % j)):=opI λi j _ _ _ _ _ hc q=>by
 have h1:(0:Int)<j:=hc;exact mod_int' (by lia) (by rw [Int.fmod_eq_emod_of_nonneg i (by lia)];exact q)
theorem b6Q:OpR X (inplaceOp .Add) (rI0 λi j=> .int (i+j)):=b9n λ_ _ _ _ _ _ _ q=>iadd_int q
end
def c1N:V->V->Bool
 | .non,.non=>true| .non,.int _=>true| .int _,.non=>true| .non,.bl _=>true| .bl _,.non=>true| .non,.str _=>true| .str _,.non=>true
 | .int _,.int _=>true| .bl _,.bl _=>true| .str _,.str _=>true| .byt _,.byt _=>true
 | .int _,.str _=>true| .str _,.int _=>true| .bl _,.str _=>true| .str _,.bl _=>true
 |_,_=>false
def rEq:R2:=λx y H Q=>c1N x y=true/\Q (.bl (decide (x=y))) H
theorem b6t{i j:Int}:decide (V.int i=V.int j)=(i==j):=by
 rw [Bool.eq_iff_iff];simp
theorem b8H{i j:Bool}:decide (V.bl i=V.bl j)=(i==j):=by
 rw [Bool.eq_iff_iff];simp
theorem b6u{i j:Str}:decide (V.str i=V.str j)=(i==j):=by
 rw [Bool.eq_iff_iff];simp
theorem b6s{i j:Array UInt8}:decide (V.byt i=V.byt j)=(i.toList==j.toList):=by
 rw [Bool.eq_iff_iff];cases i;cases j;simp
section
variable {X:Cx}{a b c:AG}{ta tb tc:TE}{pos:Pos}
theorem G5{pins:List (AB×Obj)}{σ:St}{H:Hp}{s:AC}{Q:VK}{k k':Bool}(I:e9 X pins σ H s)(q:Q (.bl k) H)(e:k=k'):EP X pins σ Q (.bool k') s:=by
 subst e;exact⟨.bl k,H,I,rfl,q⟩
theorem c00:OpR X (compareOp .Eq) rEq:=by
 intro pins s σ H x y v u Q I rx ry h;obtain⟨hs,q⟩:=h;cases x with
 |non=>
  cases rx;cases y with
  |non=>cases ry;exact PySem.EqNone.eq_none_none (G5 I q (by simp))
  |bl j=>cases ry;exact PySem.EqNone.eq_none_bool (G5 I q (by simp))
  |int j=>obtain⟨t',rfl⟩:=ry;exact PySem.EqNone.eq_none_int (G5 I q (by simp))
  |str j=>obtain⟨t',rfl⟩:=ry;exact PySem.EqNone.eq_none_str (G5 I q (by simp))
  |_=>exact absurd (show false=true from hs) Ac
 |bl i=>
  cases rx;cases y with
  |non=>cases ry;exact PySem.EqNone.eq_bool_none (G5 I q (by simp))
  |bl j=>cases ry;exact eq_bool (G5 I q b8H)
  |str j=>obtain⟨t',rfl⟩:=ry;exact PySem.EqMixed.eq_bool_str (G5 I q (by simp))
  |_=>exact absurd (show false=true from hs) Ac
 |int i=>
  obtain⟨t,rfl⟩:=rx;cases y with
  |non=>cases ry;exact PySem.EqNone.eq_int_none (G5 I q (by simp))
  |int j=>obtain⟨t',rfl⟩:=ry;exact eq_int (G5 I q b6t)
  |str j=>obtain⟨t',rfl⟩:=ry;exact PySem.EqMixed.eq_int_str (G5 I q (by simp))
  |_=>exact absurd (show false=true from hs) Ac
 |str i=>
  obtain⟨t,rfl⟩:=rx;cases y with
  |non=>cases ry;exact PySem.EqNone.eq_str_none (G5 I q (by simp))
  |bl j=>cases ry;exact PySem.EqMixed.eq_str_bool (G5 I q (by simp))
  |int j=>obtain⟨t',rfl⟩:=ry;exact PySem.EqMixed.eq_str_int (G5 I q (by simp))
  |str j=>obtain⟨t',rfl⟩:=ry;exact eq_str (G5 I q b6u)
  |_=>exact absurd (show false=true from hs) Ac
 |byt i=>
  obtain⟨t,rfl⟩:=rx;cases y with
  |byt j=>obtain⟨t',rfl⟩:=ry;exact PySem.W.eq_bytes (G5 I q b6s)
  |_=>exact absurd (show false=true from hs) Ac
 |_=>cases y<;>exact absurd (show false=true from hs) Ac
theorem c03:OpR X (compareOp .Lt) (rI0 λi j=> .bl (decide (i<j))):=b9m λ_ _ _ _ _ _ _ q=>lt_int q
theorem c02:OpR X (compareOp .LtE) (rI0 λi j=> .bl (decide (i<=j))):=b9m λ_ _ _ _ _ _ _ q=>le_int q
theorem c01:OpR X (compareOp .Gt) (rI0 λi j=> .bl (decide (j<i))):=b9m λ_ _ _ _ _ _ _ q=>gt_int q
theorem b27:OpR X (compareOp .Lt) (λx y H Q=>∃i j,x= .str i/\y= .str j/\Q (.bl (decide (i.cps.toList<j.cps.toList))) H):=by
 intro pins s σ H x y v u Q I rx ry h;obtain⟨i,j,rfl,rfl,q⟩:=h;obtain⟨t,rfl⟩:=rx;obtain⟨t',rfl⟩:=ry;exact lt_str (G5 I q rfl)
theorem b26:OpR X (compareOp .In) (λx y H Q=>∃i j,x= .str i/\y= .str j/\Q (.bl (!(Builtin.Str.occurrences j i 0 j.length 1).isEmpty)) H):=by
 intro pins s σ H x y v u Q I rx ry h;obtain⟨i,j,rfl,rfl,q⟩:=h;obtain⟨t,rfl⟩:=rx;obtain⟨t',rfl⟩:=ry;exact in_str (G5 I q rfl)
theorem v7(b:AG){op:CmpOp}(h:op≠.In:=by decide)(h2:op≠.NotIn:=by decide):behindInMarks op b=false:=by
 have e1:(op==CmpOp.In)=false:=by cases op<;>first|rfl|exact absurd rfl h
 have e2:(op==CmpOp.NotIn)=false:=by cases op<;>first|rfl|exact absurd rfl h2
 cases b<;>simp [behindInMarks,e1,e2]
theorem b7g{op:CmpOp}{r:R2}(ho:OpR X (compareOp op) r)(ha:PE X a ta)(hb:PE X b tb)(hm:behindInMarks op b=false):PE X (.Compare a [op] [b] pos) (tOp r ta tb):=by
 intro pins s σ H Q I h;exact wpAny_Compare1 (b8F ha hb I h λv u s2 x y H2 I2 rx ry q=>ho pins s2 σ H2 x y v u Q I2 rx ry q) hm
def c1q(t:TE):TT:=λσ H Q=>t σ H λx H'=>∃k,x= .bl k/\Q k H'
theorem b12{op:CmpOp}{r:R2}(ho:OpR X (compareOp op) r)(ha:PE X a ta)(hb:PE X b tb)(hm:behindInMarks op b=false):PT X (.Compare a [op] [b] pos) (c1q (tOp r ta tb)):=by
 intro pins s σ H Q I h;refine wpAny_isTrue_Compare1 (C8 (ha pins s σ H _ I h) λv s1 h0=>j5 h0 λx H1 I1 r1 q1=>C8 (hb pins s1 σ H1 _ I1 q1) λu s2 h0=>j5 h0 λy H2 I2 r2 q2=>
  C8 (ho pins s2 σ H2 x y v u _ I2 r1 r2 q2) λc s3 ⟨z,H3,I3,r3,k,e,q3⟩=> ?_) hm
 subst e;cases r3;exact wpAny_truthy_bool ⟨H3,I3,q3⟩
def b8w(K:AE)(x:V)(H:Hp)(k:Bool):Prop:=
 match x with
 | .non=>k=false
 | .bl b=>k=b
 | .int i=>k=(i !=0)
 | .str y=>y.length<=AM/\k=((y.length:Int) !=0)
 | .byt y=>y.size<=AM/\k=((y.size:Int) !=0)
 | .ref p=>(∃xs,Z0 K H p xs/\k= !xs.isEmpty)\/(∃xs,SqT K H p xs/\k= !xs.isEmpty)\/∃kvs,H p=ξ (.dK kvs)/\k= !kvs.isEmpty
 |_=>False
theorem b0C{κ:Type}{kvs:List (κ×V)}{vs:List (κ×AA)}(r:KV kvs vs):(!vs.isEmpty)= !kvs.isEmpty:=by
 cases r<;>rfl
theorem a5r{xs:List V}{its:List AA}(r:j4 xs its):(!its.toArray.isEmpty)= !xs.isEmpty:=by
 cases r<;>simp
theorem a3A:(AM:Nat)<2 ^ 63:=by rw [sizeLine_eq];decide
theorem c0a:c1A X (λx H Q=>∃k,b8w X.K x H k/\Q k H):=by
 intro pins s σ H x v Q I rx h;obtain⟨k,e,q⟩:=h;have hl:=a3A;have hs:AM=16777216:=sizeLine_eq;cases x with
 |non=>
  cases rx;have e':k=false:=e;subst e';exact truthy_none ⟨H,I,q⟩
 |bl b=>
  cases rx;have e':k=b:=e;subst e';exact wpAny_truthy_bool ⟨H,I,q⟩
 |int i=>
  obtain⟨t,rfl⟩:=rx;have e':k=(i !=0):=e;subst e';exact PySem.P.truthy_int ⟨H,I,q⟩
 |str y=>
  obtain⟨t,rfl⟩:=rx;obtain⟨hy,e'⟩:y.length<=AM/\k=((y.length:Int) !=0):=e;subst e';exact PySem.P.truthy_str (by lia) ⟨H,I.tok _,q⟩
 |byt y=>
  obtain⟨t,rfl⟩:=rx;obtain⟨hy,e'⟩:y.size<=AM/\k=((y.size:Int) !=0):=e;subst e';exact PySem.W.truthy_bytes (by lia) ⟨H,I.tok _,q⟩
 |ref p=>
  cases rx;have e':(∃xs,Z0 X.K H p xs/\k= !xs.isEmpty)\/(∃xs,SqT X.K H p xs/\k= !xs.isEmpty)\/∃kvs,H p=ξ (.dK kvs)/\k= !kvs.isEmpty:=e;rcases e' with⟨xs,hx,e'⟩|⟨xs,hx,e'⟩|⟨kvs,hx,e'⟩
  ·subst e';obtain⟨its,r,pl,hz⟩:=I.list hx;have hlen:=r.length;exact wpAny_truthy_list pl.isList (by simp only [Ab];lia) ⟨H,I.tok _,by rw [a5r r];exact q⟩
  ·subst e';obtain⟨its,r,pl,hz⟩:=I.tuple hx;have hlen:=r.length;exact truthy_tuple pl (by simp only [Ab];lia) ⟨H,I.tok _,by rw [a5r r];exact q⟩
  ·subst e';obtain⟨hz,hS,vs,r,m⟩:kvs.length<=AM/\(p==sysModules)=false/\∃vs,KV kvs vs/\s.heap.DictOf (f9 X.prog X.w) p vs:=I.hok p _ hx;have hlen:kvs.length=vs.length:=Paired.length r;exact wpAny_truthy_dict hS m (by lia) ⟨H,I.tok _,by rw [b0C r];exact q⟩
 |_=>exact(show False from e).elim
theorem b5n(ha:PE X a ta)(he:∀whole,isTrue a X.env whole=(do let v<-whole;standAt a.pos;holding [v] (truthy v))):
 PT X a (λσ H Q=>ta σ H λx H'=>∃k,b8w X.K x H' k/\Q k H'):=by
 intro pins s σ H Q I h
 exact isTrue_plain (C8 (ha pins s σ H _ I h) λv s1 h0=>j5 h0 λx H1 I1 r1 q1=>c0a pins s1 σ H1 x v Q I1 r1 q1) (he _)
theorem b02:OpR X (binaryOp .Add) (λx y H Q=>∃i j,x= .str i/\y= .str j/\i.length+j.length<=AM/\Q (.str (i++j)) H):=by
 intro pins s σ H x y v u Q I rx ry h;obtain⟨i,j,rfl,rfl,hz,q⟩:=h;obtain⟨t,rfl⟩:=rx;obtain⟨t',rfl⟩:=ry;exact add_str (λt' tk=>⟨.str (i++j),H,I.tok _,⟨_,rfl⟩,q⟩) hz
theorem a1G{x:V}{us:List AA}(r:j4 [x] us):∃u,us=[u]/\j3 x u:=by
 cases r with
 |cons r1 r2=>cases r2;exact⟨_,rfl,r1⟩
theorem c1t{x y:V}{us:List AA}(r:j4 [x,y] us):∃u w',us=[u,w']/\j3 x u/\j3 y w':=by
 cases r with
 |cons r1 r2=>
  cases r2 with
  |cons r3 r4=>cases r4;exact⟨_,_,rfl,r1,r3⟩
theorem b2o(hc:X.calm=true):M8 X (.builtin "min") (λxs H Q=>∃i j,xs=[.int i,.int j]/\Q (.int (if j<i then j else i)) H):=by
 intro pins s σ H xs us Q I r h;obtain⟨i,j,rfl,q⟩:=h;obtain⟨u,w',rfl,⟨t,rfl⟩,⟨t',rfl⟩⟩:=c1t r;refine min_two_ints (I.ok.hd hc) λh' tk k=>⟨_,H,I.kept k, ?_,q⟩
 by_cases hj:j<i
 ·rw [if_pos hj,if_pos hj];exact⟨_,rfl⟩
 ·rw [if_neg hj,if_neg hj];exact⟨_,rfl⟩
end
theorem a7g{h:Heap}{dx:AB}{mA:Str->Option AA}(n:h.Ns1 dx mA):∃od,h.get? dx=ξ od/\∀name,PySem.W.lookIn name od=ξ (mA name):=by
 obtain⟨o,es,ep,ho,hd,hk,_,hm⟩:=n;refine⟨o,ho,λname=> ?_⟩;have e:=hm name;unfold nsFind findBy at e;rw [<-Array.find?_toList] at e;unfold PySem.W.lookIn;rw [hd];dsimp only;split
 ·rename_i y q;rw [q] at e;exact congrArg ξ e
 ·rename_i q;rw [q] at e;have a:es.toList.any (·.refKey)=false:=by
   rw [List.any_eq_false];intro y hy;obtain⟨z,t,hkey⟩:=hk y (Array.mem_toList_iff.mp hy);simp [DictEntry.refKey,hkey]
  have a':¬es.toList.any (·.refKey)=true:=by rw [a];exact Ac
  rw [if_neg a'];exact congrArg ξ e
section
variable {prog:AJ}{w:AI}{A:AK}{E:AA->AC->Prop}{s:AC}{K:AE}{x dx C f:AB}{mA:Str->Option AA}{name:Str}{v:AA}
end
def a3N(f:Str)(v:V):List (Str×V)->List (Str×V)
 |[]=>[(f,v)]
 |(g,x)::r=>if g=f then(g,v)::r else(g,x)::a3N f v r
theorem a4c(f g:Str)(v:V):∀fs:List (Str×V),(a3N f v fs).lookup g=if g=f then ξ v else fs.lookup g
 |[]=>by
  show List.lookup g [(f,v)]=_
  by_cases h:g=f
  ·have hb:(g==f)=true:=beq_iff_eq.mpr h;simp only [List.lookup,hb,if_pos h]
  ·have hb:(g==f)=false:=beq_eq_false_iff_ne.mpr h;simp only [List.lookup,hb,if_neg h]
 |(k,x)::r=>by
  have ih:=a4c f g v r;rw [show a3N f v ((k,x)::r)=(if k=f then(k,v)::r else(k,x)::a3N f v r) from rfl]
  by_cases hk:k=f
  ·rw [if_pos hk]
   by_cases h:g=k
   ·have hb:(g==k)=true:=beq_iff_eq.mpr h;simp only [List.lookup,hb,if_pos (h.trans hk)]
   ·have hb:(g==k)=false:=beq_eq_false_iff_ne.mpr h;simp only [List.lookup,hb,if_neg (λe:g=f=>h (e.trans hk.symm))]
  ·rw [if_neg hk]
   by_cases h:g=k
   ·have hb:(g==k)=true:=beq_iff_eq.mpr h;simp only [List.lookup,hb,if_neg (λe:g=f=>hk (h.symm.trans e))]
   ·have hb:(g==k)=false:=beq_eq_false_iff_ne.mpr h;simp only [List.lookup,hb];exact ih
theorem a3y(f:Str)(v:V):∀fs:List (Str×V),f∈(a3N f v fs).map (·.1)/\∀g,g∈fs.map (·.1)->g∈(a3N f v fs).map (·.1)
 |[]=>⟨by simp [a3N],λg h=>by simp at h⟩
 |(k,x)::r=>by
  obtain⟨i1,i2⟩:=a3y f v r;rw [show a3N f v ((k,x)::r)=(if k=f then(k,v)::r else(k,x)::a3N f v r) from rfl]
  by_cases hk:k=f
  ·rw [if_pos hk];subst hk;exact⟨by simp,λg h=>by simpa using h⟩
  ·rw [if_neg hk];refine⟨?_,λg h=> ?_⟩
   ·rw [AQ];exact Ae _ i1
   ·rw [AQ] at h ⊢;rcases AU.mp h with e|e
    ·exact AU.mpr (.inl e)
    ·exact Ae _ (i2 g e)
theorem a2H.some_of{v:V}{o:Option AA}(r:a2H (ξ v) o):∃u,o=ξ u/\j3 v u:=by
 cases o with
 |none=>exact(show False from r).elim
 |some u=>exact⟨u,rfl,r⟩
theorem b2J{v:V}{u:AA}(r:j3 v u):PySem.W.handedIn u=true:=by
 cases v with
 |non=>cases(show u=Value.none from r);rfl
 |bl b=>cases(show u=Value.bool b from r);rfl
 |int i=>obtain⟨t,e⟩:=(show ∃t,u=Value.int i t from r);cases e;rfl
 |str x=>obtain⟨t,e⟩:=(show ∃t,u=Value.str x t from r);cases e;rfl
 |byt b=>obtain⟨t,e⟩:=(show ∃t,u=Value.bytes b t from r);cases e;rfl
 |flt b=>obtain⟨t,e⟩:=(show ∃t,u=Value.float b t from r);cases e;rfl
 |ref a=>cases(show u=Value.ref a from r);rfl
 |ty n=>cases(show u=Value.type n from r);rfl
section
variable {P:AJ}{w:AI}{H H':Hp}{h h':Heap}{a C dx:AB}{fs fs':List (Str×V)}
end
def Y8(K:AE)(C:AB)(f:Str):Prop:=PySem.W.findIn K (.ref C) f=ξ ζ
section
variable {X:Cx}{pins:List (AB×Obj)}{σ:St}{H:Hp}{s:AC}{a C dx:AB}{fs:List (Str×V)}{f:Str}{v:V}{A:AK}{E:AA->AC->Prop}
theorem b6i{prog:AJ}{w:AI}{env:Env}{e:AG}{f:Str}{pos:Pos}{s:AC}{Q:AA->AC->Prop}(hb:attributeBase e f env (eval e env)=eval e env)
 (h:AF (model prog w) A (eval e env) (λo s₁=>AF (model prog w) A (getAttr o f true) Q E s₁) E s):AF (model prog w) A (eval (.Attribute e f pos) env) Q E s:=
 Attribute_any_ h (by rw [arm_eval_Attribute,hb])
end
section
variable {X:Cx}{o e value:AG}{f:Str}{pos pos' tpos:Pos}{ta tv:TE}
end
section
variable {X:Cx}{pins:List (AB×Obj)}{σ:St}{H:Hp}{s:AC}{A:AK}{E:AA->AC->Prop}{Q:AA->AC->Prop}{c:AA}{b:Bool}
end
structure D2(k:Nat)(A:AK):Prop where
 hd:A.handled=ζ
 dp:A.depth+3*k+5<recursionLimit
 un:A.units+16*k+200<cLine
theorem D2.mono{j k:Nat}{A:AK}(r:D2 k A)(h:j<=k):D2 j A:=⟨r.hd,by have:=r.dp;lia,by have:=r.un;lia⟩
theorem D2.deeper{k:Nat}{A:AK}(r:D2 (k+1) A)(env:Env):D2 k (A.deeper env):=
 ⟨r.hd,by have:=r.dp;show A.depth+1+3*k+5<_;lia,by have:=r.un;show A.units+3+16*k+200<_;lia⟩
theorem b0T{A:AK}{C:AB}{us:List AA}{kw:List (Str×AA)}:(A.under (.builtin "type.__call__" ⟨.ref C::us,kw⟩)).depth=A.depth+1:=by
 first|rfl|simp [Around.under,Code.weight,Code.isCreation,Code.isGuard,Code.isCaller,Code.frames,Code.isFrame,guardIds]
theorem b0U{A:AK}{C:AB}{us:List AA}{kw:List (Str×AA)}:(A.under (.builtin "type.__call__" ⟨.ref C::us,kw⟩)).units=A.units+1:=by
 first|rfl|simp [Around.under,Code.cUnits,Code.frames,Code.isFrame]
theorem D2.make{k:Nat}{A:AK}(r:D2 (k+1) A)(C:AB)(us:List AA)(kw:List (Str×AA)):D2 k (A.under (.builtin "type.__call__" ⟨.ref C::us,kw⟩)):=
 ⟨r.hd,by have:=r.dp;rw [b0T];lia,by have:=r.un;rw [b0U];lia⟩
theorem D2.depth{k:Nat}{A:AK}(r:D2 k A):A.depth<recursionLimit:=by have:=r.dp;lia
theorem D2.units{k:Nat}{A:AK}(r:D2 k A):A.units+64<cLine:=by have:=r.un;lia
def b7D:TA:=λ_ H Q=>Q [] H
def a97(ta:TE)(tr:TA):TA:=λσ H Q=>ta σ H λx H1=>tr σ H1 λxs H2=>Q (x::xs) H2
section
variable {X:Cx}{e:AG}{es:List AG}{te:TE}{t:TA}{pos:Pos}
theorem M6:PA X [] b7D:=λ_ _ _ _ H Q I h=>Calls.spliced_nil ⟨[],H,I,.nil,h⟩
theorem u7(ha:PE X e te)(hr:PA X es t)(hs:AL (e::es) X.env=(false,eval e X.env)::AL es X.env:=by rfl):PA X (e::es) (a97 te t):=by
 intro pos pins s σ H Q I h;rw [hs];show AF _ _ (spliced ((false,eval e X.env)::backTo pos (AL es X.env))) _ _ s;refine Calls.spliced_cons (C8 (ha pins s σ H _ I h) λu s1 h0=>j5 h0 λx H1 I1 r1 q1=> ?_);exact C8 (hr pos pins s1 σ H1 _ I1 q1) λus s2 h0=>j5 h0 λxs H2 I2 r2 q2=>⟨x::xs,H2,I2,.cons r1 r2,q2⟩
def c1V(t:TA):TE:=λσ H Q=>t σ H λxs H1=>xs.length<=AM/\∀p,H1 p=ζ->Q (.ref p) (i7 H1 p (.tup xs))
def c1S(t:TA):TE:=λσ H Q=>t σ H λxs H1=>xs.length<=AM/\∀p,H1 p=ζ->Q (.ref p) (i7 H1 p (.lst xs))
theorem b5d{x1}(h:PA X es t):PE X (.Tuple es x1 pos) (c1V t):=by
 intro pins s σ H Q I hq;refine wpAny_Tuple_spliced (C8 (h pos pins s σ H _ I hq) λus s1 h0=>a4A h0 λxs H1 I1 r z q=>⟨by rw [<-r.length];exact z, ?_⟩)
 have hf:H1 s1.heap.objs.size=ζ:=I1.hok.fresh (AN _);refine⟨.ref s1.heap.objs.size,i7 H1 s1.heap.objs.size (.tup xs),I1.laid (t':=s1.toks) (λb u e=>AR _ e) (AN _) ?_,rfl,q _ hf⟩;exact⟨z,us,r,⟨_,Aa _ rfl,rfl,_,rfl⟩⟩
theorem b9z(h:PA X es t):PE X (.List es pos) (c1S t):=by
 intro pins s σ H Q I hq;refine wpAny_List_spliced (C8 (h pos pins s σ H _ I hq) λus s1 h0=>a4A h0 λxs H1 I1 r z q=>⟨by rw [<-r.length];exact z, ?_⟩)
 have hf:H1 s1.heap.objs.size=ζ:=I1.hok.fresh (AN _);refine⟨.ref s1.heap.objs.size,i7 H1 s1.heap.objs.size (.lst xs),I1.laid (t':=s1.toks) (λb u e=>AR _ e) (AN _) ?_,rfl,q _ hf⟩;exact⟨z,us,0,r,Aa _ rfl⟩
end
abbrev Sp:=List V->Hp->VK->XK->Prop
abbrev CXT:=List Env->Hp->AC->XK->AA->AC->Prop
structure b0f(P:AJ)(w:AI)(K:AE)(mg:Str->Option AA)(base:Heap)(A:AK)(outer:List Env)(s:AC)(H:Hp):Prop where
 frames:A.frames=ξ outer
 mod:Mod K mg base
 bs:∀b o,base.get? b=ξ o->s.heap.get? b=ξ o/\H b=ζ
 bsz:base.objs.size<=s.heap.objs.size
 funs:s.heap.FunFrames base outer
 frf:∀b∈frs outer,H b=ζ
 hok:HOk P w H s.heap
 bare:AllBare s.gens
def CE(outer:List Env)(P:AJ)(w:AI)(H:Hp)(s:AC)(Q:VK)(u:AA)(s':AC):Prop:=
 ∃v H',s'.os=s.os/\AllBare s'.gens/\Un (frs outer) [] H H' s.heap s'.heap/\HOk P w H' s'.heap/\j3 v u/\Q v H'
def CR(CX:CXT)(outer:List Env)(P:AJ)(w:AI)(H:Hp)(s:AC)(Q:VK)(E:XK)(r:Result)(s':AC):Prop:=
 match r with
 | .ok (.ret u)=>CE outer P w H s Q u s'
 | .ok _=>False
 | .error e=>CX outer H s E e s'
structure P5(P:AJ)(w:AI)(K:AE)(mg:Str->Option AA)(base:Heap)(CX:CXT)(k:Nat)(f:AB)(fd:FuncData)(ps:List Str)(sp:Sp):Prop where
 len:∀vs H Q E,sp vs H Q E->vs.length=ps.length
 run:∀(A:AK) (outer:List Env) (s:AC) (H:Hp) (args:Args) (us:List AA) (vs:List V) (Q:VK) (E:XK),D2 k A->b0f P w K mg base A outer s H->BindsTo s fd args (ps.zip us)->j4 vs us->sp vs H Q E->
  codeAny (model P w) A (.call (.ref f) args) (CR CX outer P w H s Q E) s
theorem P5.mono{P:AJ}{w:AI}{K:AE}{mg:Str->Option AA}{base:Heap}{CX:CXT}{j k:Nat}{f:AB}{fd:FuncData}{ps:List Str}{sp:Sp}(F:P5 P w K mg base CX j f fd ps sp)(h:j<=k):
 P5 P w K mg base CX k f fd ps sp:=⟨F.len,λA outer s H args us vs Q E hr=>F.run A outer s H args us vs Q E (hr.mono h)⟩
theorem P5.imp{P:AJ}{w:AI}{K:AE}{mg:Str->Option AA}{base:Heap}{CX:CXT}{k:Nat}{f:AB}{fd:FuncData}{ps:List Str}{sp sp':Sp}(F:P5 P w K mg base CX k f fd ps sp)
 (h:∀vs H Q E,sp' vs H Q E->sp vs H Q E):P5 P w K mg base CX k f fd ps sp':=
 ⟨λvs H Q E q=>F.len vs H Q E (h _ _ _ _ q),λA outer s H args us vs Q E hr he hb hv hs=>F.run A outer s H args us vs Q E hr he hb hv (h _ _ _ _ hs)⟩
theorem b0f.make{P:AJ}{w:AI}{K:AE}{mg:Str->Option AA}{base:Heap}{A:AK}{outer:List Env}{s:AC}{H:Hp}(e:b0f P w K mg base A outer s H)(C:AB)(us:List AA)(kw:List (Str×AA)):
 b0f P w K mg base (A.under (.builtin "type.__call__" ⟨.ref C::us,kw⟩)) outer s H:=⟨by first|exact e.frames|(simpa [Around.under,Code.envs,Code.isFrame,pushEnvs] using e.frames),e.mod,e.bs,e.bsz,e.funs,e.frf,e.hok,e.bare⟩
section
variable {X:Cx}{pins:List (AB×Obj)}{σ:St}{H:Hp}{s s':AC}
theorem e9.env0(I:e9 X pins σ H s):b0f X.prog X.w X.K X.mg X.base X.A X.stack s H:=
 ⟨I.ok.frames,I.ok.mod,I.bs,Nat.le_trans I.ok.bsz I.sz,I.stack,I.stkFree,I.hok,I.bare⟩
theorem e9.after{Q:VK}{u:AA}(I:e9 X pins σ H s)(h:CE X.stack X.prog X.w H s Q u s'):EP X pins σ Q u s':=by
 obtain⟨v,H',os,bare,un,hok,r,q⟩:=h;obtain⟨hh,g,d,t,os'⟩:=s';obtain rfl:os'=s.os:=os;exact⟨v,H',I.call (h':=hh) (g':=g) (d':=d) (t':=t) (ch:=[]) un hok bare (λb z=>absurd z (by simp)),r,q⟩
end
def c1m(sp:Sp)(dvs:List V)(E:XK)(t:TA):TE:=λσ H Q=>t σ H λvs H1=>sp (vs++dvs) H1 Q E
def a0a(K:AE)(fd:FuncData)(ps:List Str)(ds:List AA):Prop:=
 ∀(s:AC) (us:List AA),K.In s.heap->(us++ds).length=ps.length->BindsTo s fd ⟨us,[]⟩ (ps.zip (us++ds))
theorem a0a.all{K:AE}{fd:FuncData}{ps:List Str}(h:∀us:List AA,us.length=ps.length->bindArgs fd ⟨us,[]⟩=pure (ps.zip us)):a0a K fd ps []:=λs us _ hl=>by
 rw [Ad] at hl ⊢;exact .of_eq (h us hl)
def a4R(CX:CXT)(X:Cx)(E:XK):Prop:=∀(pins:List (AB×Obj)) (σ:St) (H:Hp) (s:AC) (e:AA) (s':AC),e9 X pins σ H s->CX X.stack H s E e s'->X.xe e s'
section
variable {X:Cx}{CX:CXT}{k:Nat}{f C:AB}{fd:FuncData}{ps:List Str}{sp:Sp}{dvs:List V}{ds:List AA}{E:XK}{x m:Str}{p pos apos:Pos}{e o:AG}{es:List AG}{ta:TE}{t:TA}
theorem b5w{pins:List (AB×Obj)}{σ:St}{H:Hp}{s:AC}{Q:VK}{us:List AA}{vs:List V}(F:P5 X.prog X.w X.K X.mg X.base CX k f fd ps sp)(hr:D2 k X.A)(hb:a0a X.K fd ps ds)(hd:j4 dvs ds)(hx:a4R CX X E)
 (I:e9 X pins σ H s) (r:j4 vs us) (h:sp (vs++dvs) H Q E):AF (model X.prog X.w) X.A (call (.ref f) us) (EP X pins σ Q) X.xe s:=by
 have r2:j4 (vs++dvs) (us++ds):=r.append hd
 have hl:(us++ds).length=ps.length:=by rw [<-r2.length];exact F.len _ _ _ _ h
 refine wpAny_call (codeAny_mono (F.run X.A X.stack s H ⟨us,[]⟩ (us++ds) (vs++dvs) Q E hr I.env0 (hb s us I.kIn hl) r2 h) λr s' hq=> ?_)
 cases r with
 |error e=>exact hx pins σ H s e s' I hq
 |ok fl=>
  cases fl with
  |ret u=>exact I.after hq
  |next=>exact False.elim hq
  |brk=>exact False.elim hq
  |cont=>exact False.elim hq
theorem a24(F:P5 X.prog X.w X.K X.mg X.base CX k f fd ps sp)(hr:D2 k X.A)(hg:Gl X x)(hm:X.mg x=ξ (.ref f))(hk:PySem.W.keepIn X.K (.ref f)=true)(hb:a0a X.K fd ps ds)(hd:j4 dvs ds)(hx:a4R CX X E)
 (ha:PA X (e::es) t) (hdb:(x==("__debug__":Str))=false:=by decide) (he:AL (e::es) X.env=(false,eval e X.env)::AL es X.env:=by rfl) (hpl:(backTo pos (AL es X.env)).any (·.1)=false:=by rfl):
 PE X (.Call (.Name x p) (e::es) [] pos) (c1m sp dvs E t):=by
 intro pins s σ H Q I h
 refine wpAny_Call_Name_kw (Y4 I hg hm ?_ hdb)
 refine PySem.W.callWith_K (h₀:=X.base) I.ok.mod.kin hk (C8 (ha pos pins s σ H _ I h) λus s1 h0=>j5 h0 λvs H1 I1 r q=>⟨I1.kIn, ?_⟩) he hpl
 exact b5w F hr hb hd hx I1 r q
end
section
variable {X:Cx}{CX:CXT}{k:Nat}{f C:AB}{fd:FuncData}{ps ks:List Str}{sp:Sp}{E:XK}{x m:Str}{p pos apos kpos:Pos}{e o:AG}{es:List AG}{kws:List Keyword}{te ta:TE}{t tk:TA}{nm:Option Str}
variable {g:List AA->List AA->List AA}{gV:List V->List V->List V}
end
structure g6(N P:List Str)(sc:Scope):Prop where
 kind:sc.kind= .function
 co:sc.isCoroutine=false
 gen:sc.isGenerator=false
 nd:N.Nodup
 pre:N.take P.length=P
 par:∀x∈P,sc.names.lookup x=ξ .local\/sc.names.lookup x=ξ .cell
 nofree:∀y∈sc.names,y.2≠.free
theorem a61{kindOf:Str->Option NameKind}{x:Str}:∀{binds:List (Str×AA)} {m:Str->Option AA},(∀v,(x,v)∉binds)->bindL kindOf binds m x=m x
 |[],_,_=>rfl
 |(n,v)::r,m,h=>by
  unfold bindL;rw [a61 λw hw=>h w (Ae _ hw)];split
  ·have:x≠n:=by rintro rfl;exact h v Af
   simp [this]
  ·rfl
theorem a6Z{kindOf:Str->Option NameKind}{x:Str}:∀{binds:List (Str×AA)} {m:Str->Option AA},(∀v,(x,v)∉binds)->bindC kindOf binds m x=m x
 |[],_,_=>rfl
 |(n,v)::r,m,h=>by
  unfold bindC;rw [a6Z λw hw=>h w (Ae _ hw)];split
  ·rfl
  ·have:x≠n:=by rintro rfl;exact h v Af
   simp [this]
theorem a60{kindOf:Str->Option NameKind}{x:Str}{v:AA}:∀{P:List Str} {vs:List AA} {i:Nat} {m:Str->Option AA},P.Nodup->P[i]?=ξ x->vs[i]?=ξ v->kindOf x=ξ .local->
 bindL kindOf (P.zip vs) m x=ξ v
 |[],_,_,_,_,h,_,_=>by simp at h
 |_::_,[],_,_,_,_,h,_=>by simp at h
 |p::P,w::vs,0,m,nd,h1,h2,hk=>by
  simp at h1 h2;subst h1;subst h2;show bindL kindOf ((p,w)::P.zip vs) m p=_;unfold bindL;rw [a61 λv hv=>(List.nodup_cons.mp nd).1 (List.of_mem_zip hv).1,if_pos hk];simp
 |p::P,w::vs,i+1,m,nd,h1,h2,hk=>by
  show bindL kindOf ((p,w)::P.zip vs) m x=_;unfold bindL;exact a60 (i:=i) (List.nodup_cons.mp nd).2 (by simpa using h1) (by simpa using h2) hk
theorem a6Y{kindOf:Str->Option NameKind}{x:Str}{v:AA}:∀{P:List Str} {vs:List AA} {i:Nat} {m:Str->Option AA},P.Nodup->P[i]?=ξ x->vs[i]?=ξ v->kindOf x≠ξ .local->
 bindC kindOf (P.zip vs) m x=ξ v
 |[],_,_,_,_,h,_,_=>by simp at h
 |_::_,[],_,_,_,_,h,_=>by simp at h
 |p::P,w::vs,0,m,nd,h1,h2,hk=>by
  simp at h1 h2;subst h1;subst h2;show bindC kindOf ((p,w)::P.zip vs) m p=_;unfold bindC;rw [a6Z λv hv=>(List.nodup_cons.mp nd).1 (List.of_mem_zip hv).1,if_neg hk];simp
 |p::P,w::vs,i+1,m,nd,h1,h2,hk=>by
  show bindC kindOf ((p,w)::P.zip vs) m x=_;unfold bindC;exact a6Y (i:=i) (List.nodup_cons.mp nd).2 (by simpa using h1) (by simpa using h2) hk
def a0r(N:List Str)(vs:List V):St:=vs.map ξ++AO (N.length - vs.length) ζ
def a1a(CX:CXT)(P:AJ)(w:AI)(K:AE)(mg:Str->Option AA)(base:Heap)(N:List Str)(qual:Str)(scope:Scope)(f:AB)(cd:AA)(A:AK)(outer:List Env)(s:AC)(H:Hp)(E:XK):Cx where
 prog:=P
 w:=w
 K:=K
 mg:=mg
 base:=base
 A:=A.deeper (envOfC qual scope s.heap.objs.size f cd)
 N:=N
 s₀:=s
 H₀:=H
 env:=envOfC qual scope s.heap.objs.size f cd
 outer:=outer
 stack:=envOfC qual scope s.heap.objs.size f cd::outer
 ex:=[]
 calm:=true
 fn:=λ_=>true
 pn:=[]
 xe:=λe s'=>AF (model P w) (A.deeper (envOfC qual scope s.heap.objs.size f cd)) (leaving (envOfC qual scope s.heap.objs.size f cd) e) (λ_ s''=>CX outer H s E e s'') (λe' s''=>CX outer H s E e' s'') s'
theorem a85{sc:Scope}{n:Nat}{x:Str}(h:sc.names.lookup x=ξ .cell):∃c,(cellsFrom n sc.names []).lookup x=ξ c:=by
 have q:=PySem.W.cellsFrom_some sc.names n [] (.inl h);exact Option.isSome_iff_exists.mp q
theorem b2N{CX:CXT}{P:AJ}{w:AI}{K:AE}{mg:Str->Option AA}{base:Heap}{N ps:List Str}{qual:Str}{scope:Scope}{f:AB}{cd:AA}{A:AK}{outer:List Env}{s s1:AC}{H:Hp}{E:XK}{us:List AA}{vs:List V}
 (S:g6 N ps scope) (hd:A.handled=ζ) (e0:b0f P w K mg base A outer s H) (hl:vs.length=ps.length) (r:j4 vs us)
 (x:InCallC s s.heap.objs.size (bindL (envOfC qual scope s.heap.objs.size f cd).kindOf (ps.zip us) λ_=>ζ) (cellsFrom (s.heap.objs.size+1) scope.names []) (bindC (envOfC qual scope s.heap.objs.size f cd).kindOf (ps.zip us) λ_=>ζ) s1):
 e9 (a1a CX P w K mg base N qual scope f cd A outer s H E) [] (a0r N vs) H s1:=by
 have hpl:ps.length<=N.length:=by have:=congrArg List.length S.pre;rw [List.length_take] at this;lia
 obtain⟨h1,tk,rfl,hk⟩:=x.done
 have noA:∀b:AB,b∉(a1a CX P w K mg base N qual scope f cd A outer s H E).ex:=λb z=>absurd (show b∈([]:List AB) from z) (by simp)
 refine⟨⟨e0.mod,S.kind,rfl,rfl,AN _,λy z c h1 h2=> ?_,λy hy=> ?_,λy c _ h=> ?_,λ_=>hd,Around.frames_deeper e0.frames,.inr ⟨rfl,rfl⟩,λb z=>absurd z (noA b),e0.bs,e0.bsz,λb _ _=>noA b,λb z=>absurd z (noA b),e0.funs,e0.frf⟩,
  rfl,e0.bare,Un.kept hk,⟨_,x.toInCall.ns,λi y v h1 h2 h3=> ?_⟩,λy c h=>⟨_,x.cell y c h⟩,e0.hok.fresh (AN _),λy c h=> ?_,λp hp=>absurd (show p∈([]:List (AB×Obj)) from hp) (by simp),e0.hok.kept hk, ?_⟩
 ·exact name_of_addr x.apart (PySem.mem_of_lookup h1) (PySem.mem_of_lookup h2)
 ·have hy:scope.names.lookup y=ξ .cell\/scope.names.lookup y=ξ .free:=hy
  rcases hy with hy|hy
  ·exact a85 hy
  ·exact absurd rfl (S.nofree _ (PySem.mem_of_lookup hy))
 ·exact BA (x.above y c (PySem.mem_of_lookup h))
 ·have hi:i<vs.length:=by
   unfold a0r at h2
   by_cases hi:i<vs.length
   ·exact hi
   ·rw [List.getElem?_append_right (by simpa using hi)] at h2
    rw [List.getElem?_replicate] at h2;split at h2<;>cases h2
  have ha:vs[i]?=ξ v:=by
   unfold a0r at h2;rw [At (by simpa using hi),Ag] at h2
   cases e:vs[i]? with
   |none=>rw [e] at h2;cases h2
   |some a=>rw [e] at h2;cases h2;rfl
  obtain⟨u,hu,rv⟩:=r.get ha;have hp:ps[i]?=ξ y:=by
   rw [<-S.pre,List.getElem?_take_of_lt (by lia)];exact h1
  have ndP:ps.Nodup:=by rw [<-S.pre];exact S.nd.sublist (List.take_sublist _ _)
  refine⟨u,rv, ?_⟩;rcases S.par y (BC hp) with k|k
  ·exact .inl ⟨k,a60 ndP hp hu k⟩
  ·obtain⟨c,e⟩:=a85 (n:=s.heap.objs.size+1) k;refine .inr ⟨.inl k,c,e, ?_⟩;have q:=x.cell y c e;rw [a6Y ndP hp hu (by show scope.names.lookup y≠_;rw [k];decide)] at q
   exact q
 ·exact e0.hok.fresh (BA (x.above y c (PySem.mem_of_lookup h)))
 ·unfold a0r
  show _=N.length
  rw [Am,AV,List.length_replicate]
  lia
theorem b76{CX:CXT}{P:AJ}{w:AI}{K:AE}{mg:Str->Option AA}{base:Heap}{k:Nat}{f:AB}{name qual:Str}{params:Arguments}{body:List Stmt}{scope:Scope}{dV kV doc pm cdv ct oc:AA}{an od:Option AB}
 {osl:Array (Option AA)} {N ps:List Str} {sp:Sp} (lk:K.lookup f=ξ ⟨oc,od,.func (PySem.W.fnOf name qual params body scope dV kV doc pm an cdv ct),osl⟩) (hcd:PySem.W.codeIn K cdv qual=true) (S:g6 N ps scope)
 (len:∀vs H Q E,sp vs H Q E->vs.length=ps.length)
 (hbody:∀(A:AK) (outer:List Env) (s:AC) (H:Hp) (vs:List V) (Q:VK) (E:XK),D2 k (A.deeper (envOfC qual scope s.heap.objs.size f cdv))->sp vs H Q E->
  ∃t,PSs (a1a CX P w K mg base N qual scope f cdv A outer s H E) body t/\t {nx:=λ_ H'=>Q .non H',rt:=Q} (a0r N vs) H):
 P5 P w K mg base CX (k+1) f (PySem.W.fnOf name qual params body scope dV kV doc pm an cdv ct) ps sp:=by
 refine⟨len,λA outer s H args us vs Q E hr e0 hb r hsp=> ?_⟩
 have hl:=len _ _ _ _ hsp
 have KX:K.In s.heap:=e0.mod.kin.keeps λb o e=>(e0.bs b o e).1
 have lim:s.heap.NoLimit:=e0.mod.nolimit.keeps λb o e=>(e0.bs b o e).1
 have hkind:∀y∈ps.zip us,scope.names.lookup y.1=ξ .local\/(scope.names.lookup y.1=ξ .cell/\((cellsFrom (s.heap.objs.size+1) scope.names []).lookup y.1).isSome=true):=λ⟨n,v⟩ hy=>by
  rcases S.par n (List.of_mem_zip hy).1 with q|q
  ·exact .inl q
  ·exact .inr ⟨q,PySem.W.cellsFrom_some _ _ _ (.inl q)⟩
 refine codeAny_call_function hr.depth (KX _ _ lk) rfl S.co S.gen rfl (PySem.W.codeRec_of KX hcd) (hb _ _ _ _ ?_)
 refine wpAny_newFunctionEnv_cells S.kind hkind λenv he s1 x=> ?_
 subst he
 refine⟨lim.keeps x.toInCall.keep,codeAny_func ?_⟩
 obtain⟨t,ht,hq⟩:=hbody A outer s H vs Q E (hr.deeper _) hsp
 have I:e9 (a1a CX P w K mg base N qual scope f cdv A outer s H E) [] (a0r N vs) H s1:=b2N S hr.hd e0 hl r x
 refine wpAny_mono (ht [] s1 (a0r N vs) H _ I hq) (λfl s' hs=> ?_) λe s' hs=>hs
 have fin:∀{σ':St} {H':Hp} {v:V} {u:AA},e9 (a1a CX P w K mg base N qual scope f cdv A outer s H E) [] σ' H' s'->j3 v u->Q v H'->CE outer P w H s Q u s':=
  λ {σ' H' v u} J rv q=>⟨v,H',J.os,J.bare,J.base,J.hok,rv,q⟩
 cases fl with
 |ret u=>
  obtain⟨v,σ',H',J,rv,q⟩:=hs
  exact fin J rv q
 |next=>
  obtain⟨σ',H',J,q⟩:=hs
  exact fin (v:=V.non) (u:=Value.none) J rfl q
 |brk=>
  obtain⟨_,_,_,q⟩:=hs
  exact False.elim q
 |cont=>
  obtain⟨_,_,_,q⟩:=hs
  exact False.elim q
section
variable {X:Cx}{x:Str}{p pos:Pos}{e:AG}{es:List AG}{t:TA}{id T:String}{r:List V->Hp->VK->Prop}
def tCB(r:List V->Hp->VK->Prop)(t:TA):TE:=λσ H Q=>t σ H λvs H1=>r vs H1 Q
theorem a1s(hc:M8 X (.builtin id) r)(hg:Gl X x)(hm:X.mg x=ζ)(hv:bootBuiltins x=ξ (.builtin id))(ha:PA X (e::es) t)(hn:x≠"__name__":=by decide)(hdb:(x==("__debug__":Str))=false:=by decide)
 (he:AL (e::es) X.env=(false,eval e X.env)::AL es X.env:=by rfl) (hpl:(backTo pos (AL es X.env)).any (·.1)=false:=by rfl):PE X (.Call (.Name x p) (e::es) [] pos) (tCB r t):=by
 intro pins s σ H Q I h
 refine wpAny_Call_Name_kw (a5u I hg hm hv ?_ hn hdb)
 exact PyProof.Rows.callWith_builtin1 (C8 (ha pos pins s σ H _ I h) λus s1 h0=>j5 h0 λvs H1 I1 r1 q1=>hc pins s1 σ H1 vs us Q I1 r1 q1) he hpl
theorem a7t(hc:M8 X (.type T) r)(hg:Gl X x)(hm:X.mg x=ζ)(hv:bootBuiltins x=ξ (.type T))(ha:PA X (e::es) t)(hn:x≠"__name__":=by decide)(hdb:(x==("__debug__":Str))=false:=by decide)
 (he:AL (e::es) X.env=(false,eval e X.env)::AL es X.env:=by rfl) (hpl:(backTo pos (AL es X.env)).any (·.1)=false:=by rfl):PE X (.Call (.Name x p) (e::es) [] pos) (tCB r t):=by
 intro pins s σ H Q I h
 refine wpAny_Call_Name_kw (a5u I hg hm hv ?_ hn hdb)
 exact PyProof.Rows.callWith_type1 (C8 (ha pos pins s σ H _ I h) λus s1 h0=>j5 h0 λvs H1 I1 r1 q1=>hc pins s1 σ H1 vs us Q I1 r1 q1) he hpl
end
end L2
namespace HT
open PySem PyProof.Rows
section
open PySem.SeqAt
open PySem.AutoSeq1 (wpAny_loadPart')
open PySem.MeetsSeq PySem.MeetsSeq2 PySem.MeetsSeq3
end
section
variable {prog:AJ}{w:AI}{A:AK}{E:AA->AC->Prop}{s:AC}
theorem cat_tup{t b:AB}{vs ws:List AA}{Q:AA->AC->Prop}(ht:IsTup s.heap t vs.toArray)(hb:IsTup s.heap b ws.toArray)(hv:vs≠[])
 (h1:ws=[]->Q (.ref t) s) (h2:ws≠[]->Q (.ref s.heap.objs.size) {s with heap:=s.heap.push {cls:= .type "tuple",data:= .seq (vs++ws).toArray}})
 (hsz:vs.length+ws.length<=AM):AF (model prog w) A (binaryOp .Add (.ref t) (.ref b)) Q E s:=by
 obtain⟨⟨cls,dd,data,sl⟩,ho,hc,n,hd⟩:=id ht
 obtain⟨⟨cls2,dd2,data2,sl2⟩,ho2,hc2,n2,hd2⟩:=id hb
 simp only at hc hd hc2 hd2
 subst hc hd hc2 hd2
 have e:vs.toArray++ws.toArray=(vs++ws).toArray:=by simp
 by_cases hw:ws=[]
 ·exact concat_meets ⟨_,ho,rfl⟩ ⟨_,ho2,rfl⟩ noFill_tuple_add seq_tuple_add PySem.F.slot_tuple_add PySem.F.entry_tuple_add (PySem.F.args_tuple_add_2 _ _)
   (tuple_addW1 t b vs.toArray ws.toArray n n2 dd dd2 sl sl2 (by simpa using hv) (by simp [hw])) ⟨ho,ho2,h1 hw⟩
 ·refine concat_meets ⟨_,ho,rfl⟩ ⟨_,ho2,rfl⟩ noFill_tuple_add seq_tuple_add PySem.F.slot_tuple_add PySem.F.entry_tuple_add (PySem.F.args_tuple_add_2 _ _)
   (tuple_addW2 t b vs.toArray ws.toArray n n2 dd dd2 sl sl2 (by simpa using hv) (by simpa using hw) (by rw [Ab,Ab];exact hsz)) ⟨ho,ho2, ?_⟩
  rw [e]
  exact h2 hw
def sIx(n d:Nat):Option Int->Nat
 |none=>d
 |some v=>if v<0 then(v+(n:Int)).toNat else min v.toNat n
theorem sIx_le(n d:Nat)(hd:d<=n)(o:Option Int):sIx n d o<=n:=by
 cases o with
 |none=>exact hd
 |some v=>
  show(if v<0 then(v+(n:Int)).toNat else min v.toNat n)<=n
  by_cases hv:v<0
  ·rw [if_pos hv];lia
  ·rw [if_neg hv];exact Nat.min_le_right _ _
theorem b1o(v:Int)(n d:Nat):(if v<0 then max (v+(n:Int)) 0 else min v (n:Int))=((sIx n d (ξ v):Nat):Int):=by
 show(if v<0 then max (v+(n:Int)) 0 else min v (n:Int))=(((if v<0 then(v+(n:Int)).toNat else min v.toNat n):Nat):Int)
 by_cases hv:v<0
 ·simp only [if_pos hv];lia
 ·simp only [if_neg hv];lia
theorem b0i(lo hi:Option Int)(n:Nat):Builtin.Slice.sliceAdjust lo hi 1 (n:Int)=(((sIx n 0 lo:Nat):Int),((sIx n n hi:Nat):Int)):=by
 have h1:¬((1:Int)<0):=by lia
 unfold Builtin.Slice.sliceAdjust;simp only [h1,if_false];refine Prod.ext ?_ ?_
 ·cases lo with
  |none=>rfl
  |some v=>exact b1o v n 0
 ·cases hi with
  |none=>rfl
  |some v=>exact b1o v n n
theorem b04(i j:Nat):Builtin.Slice.slicePlaces (i:Int) (j:Int) 1=j - i:=by
 unfold Builtin.Slice.slicePlaces;have h1:(1:Int)>0:=by lia
 simp only [h1,if_true,Int.ediv_one];split<;>lia
theorem a6i{v:AA}{o:Option Int}{Q:Option Int->AC->Prop}(p:IsPart v o)(h:Q o s):AF (model prog w) A (Builtin.Slice.slicePartIndex v) Q E s:=by
 cases p with
 |none=>exact slicePart_none h
 |int i t=>exact slicePart_int h
theorem sliceApplied_gen{sl:AB}{vl vu:AA}{lo hi:Option Int}{n:Nat}{Q:Int×Int×Nat->AC->Prop}(hs:s.heap.IsSliceOf sl vl vu .none)(pl:IsPart vl lo)(pu:IsPart vu hi)
 (h:Q (((sIx n 0 lo:Nat):Int),1,sIx n n hi - sIx n 0 lo) s):AF (model prog w) A (Builtin.Slice.sliceApplied (.ref sl) (pure (n:Int))) Q E s:=by
 obtain⟨os,hos,hcs,hds⟩:=id hs
 unfold Builtin.Slice.sliceApplied Builtin.Slice.sliceFields
 refine AD (AD (wpAny_field hos hds (x:=vl) rfl (AD (wpAny_field hos hds (x:=vu) rfl (AD (wpAny_field hos hds (x:= .none) rfl (AH ?_)))))))
 refine AD (slicePart_none ?_)
 show AF _ _ (if((1:Int)==0)=true then _ else _) _ _ s
 rw [if_neg (by decide)]
 refine AD (a6i pl (AD (a6i pu (AD (AH ?_)))))
 show AF _ _ (match Builtin.Slice.sliceAdjust lo hi 1 (n:Int) with|(lo,hi)=>pure (lo,(1:Int),Builtin.Slice.slicePlaces lo hi 1)) _ _ s
 rw [b0i lo hi n]
 show AF _ _ (pure (((sIx n 0 lo:Nat):Int),(1:Int),Builtin.Slice.slicePlaces ((sIx n 0 lo:Nat):Int) ((sIx n n hi:Nat):Int) 1)) _ _ s
 rw [b04]
 exact AH h
theorem b5h(xs:Array AA)(i k:Nat):((AZ k).filterMap λ(m:Nat)=>xs[((i:Int)+(m:Int)*1).toNat]?).toArray=((xs.toList.drop i).take k).toArray:=by
 have e:(λ(m:Nat)=>xs[((i:Int)+(m:Int)*1).toNat]?)=λm=>xs[i+m]?:=by
  funext m
  have:((i:Int)+(m:Int)*1).toNat=i+m:=by lia
  rw [this]
 rw [e];have:=pick_run xs i k;rw [List.filterMap_map] at this;have e2:((λx=>xs[x]?)∘λx=>i+x)=λm=>xs[i+m]?:=rfl;rw [e2] at this;rw [this]
theorem getItem_tuple_cut{t sl:AB}{items:Array AA}{vl vu:AA}{lo hi:Option Int}{Q:AA->AC->Prop}(ht:IsTup s.heap t items)(hs:s.heap.IsSliceOf sl vl vu .none)(pl:IsPart vl lo)(pu:IsPart vu hi)
 (hw:¬(sIx items.size 0 lo=0/\sIx items.size items.size hi=items.size))
 (h:Q (.ref s.heap.objs.size) {s with heap:=s.heap.push {cls:= .type "tuple",data:= .seq ((items.toList.drop (sIx items.size 0 lo)).take (sIx items.size items.size hi - sIx items.size 0 lo)).toArray}})
 (hsz:items.size<=AM):AF (model prog w) A (getItem (.ref t) (.ref sl)) Q E s:=by
 have htake:sizeOk (.seq ((items.toList.drop (sIx items.size 0 lo)).take (sIx items.size items.size hi - sIx items.size 0 lo)).toArray):=by
  show((items.toList.drop (sIx items.size 0 lo)).take (sIx items.size items.size hi - sIx items.size 0 lo)).toArray.size<=AM;rw [Ab,List.length_take,List.length_drop,Array.length_toList]
  lia
 have hj:sIx items.size items.size hi<=items.size:=sIx_le _ _ (AN _) hi
 obtain⟨os,hos,hcs,hds⟩:=id hs
 have hTs:s.TypeIs (.ref sl) "slice":=⟨os,hos,hcs⟩
 unfold getItem
 try with_reducible refine wpAny_holding ?_
 first|refine AD (AH ?_)|skip
 refine AD (wpAny_sequenceKey ht.typeIs (by decide) ?_)
 refine AD (wpAny_callSpecial?_slot (name:=Aj "__getitem__") ht.typeIs PyProof.Rows.slot_tuple_getitem
  (wpAny_call_entry PyProof.Rows.slot_tuple_getitem ht.typeIs entry_tuple_getitem ?_ (args_tuple_getitem _ _)))
 show AF _ _ (Builtin.Tuple.tupleItemsOf (.ref t)>>=_) _ _ s
 refine AD (tupleItemsOf_ ht ?_)
 refine AD (wpAny_typeOf hTs ?_)
 rw [if_pos (by decide)]
 refine AD (sliceApplied_gen hs pl pu ?_)
 have hno:¬((((sIx items.size 0 lo:Nat):Int)==0 &&(1:Int)==1 &&(sIx items.size items.size hi - sIx items.size 0 lo)==items.size)=true):=by
  intro q;rw [Bool.and_eq_true,Bool.and_eq_true] at q;have q1:((sIx items.size 0 lo:Nat):Int)=0:=eq_of_beq q.1.1;have q2:sIx items.size items.size hi - sIx items.size 0 lo=items.size:=eq_of_beq q.2;exact hw ⟨by lia,by lia⟩
 show AF _ _ (if(((sIx items.size 0 lo:Nat):Int)==0 &&(1:Int)==1 &&(sIx items.size items.size hi - sIx items.size 0 lo)==items.size)=true then _ else _) _ _ s
 rw [if_neg hno,b5h]
 first
  |exact AD (m:=Builtin.Tuple.tupleExact _) (wpAny_newObj_type (AH ⟨_,rfl,AH h⟩) htake)
  |exact AD (m:=Builtin.Tuple.tupleExact _) (wpAny_newObj_type (AD (AH (AH ⟨_,rfl,AH h⟩))) htake)
  |exact AD (AD (m:=Builtin.Tuple.tupleExact _) (wpAny_newObj_type (AH (AH ⟨_,rfl,AH h⟩)) htake))
  |exact AD (AD (m:=Builtin.Tuple.tupleExact _) (wpAny_newObj_type (AH ⟨_,rfl,AH h⟩) htake))
end
end HT
namespace L2
open PySem PySem.Spec PyProof.Rows
abbrev TO:=St->Hp->(Option Int->Hp->Prop)->Prop
def PO(X:Cx)(e:Option AG)(t:TO):Prop:=
 ∀(pins:List (AB×Obj)) (s:AC) (σ:St) (H:Hp) (Q:Option Int->Hp->Prop),e9 X pins σ H s->t σ H Q->
  AF (model X.prog X.w) X.A (evalPart e X.env) (λu s'=>∃o H',e9 X pins σ H' s'/\IsPart u o/\Q o H') X.xe s
def c1p(t:TE):TO:=λσ H Q=>t σ H λx H1=>∃i,x= .int i/\Q (ξ i) H1
section
variable {X:Cx}{e:AG}{te:TE}{lo hi:Option AG}{tl th:TO}{pos p2:Pos}
theorem b7i(h:PE X e te):PO X (ξ e) (c1p te):=by
 intro pins s σ H Q I hw;rw [evalPart_some];refine C8 (h pins s σ H _ I hw) λu s1 h0=>j5 h0 λx H1 I1 r1 q1=> ?_;obtain⟨i,rfl,q⟩:=q1;obtain⟨t,rfl⟩:=r1;exact⟨ξ i,H1,I1,.int i t,q⟩
def SlR(X:Cx)(r:V->Option Int->Option Int->Hp->VK->Prop):Prop:=
 ∀(pins:List (AB×Obj)) (s:AC) (σ:St) (H:Hp) (x:V) (v vl vu:AA) (lo hi:Option Int) (sl:AB) (Q:VK),e9 X pins σ H s->j3 x v->s.heap.IsSliceOf sl vl vu .none->IsPart vl lo->IsPart vu hi->r x lo hi H Q->
  ∃T id,typeLookup (.type T) "__getitem__"=pure (ξ (.builtin id))/\s.TypeIs v T/\AF (model X.prog X.w) X.A (getItem v (.ref sl)) (EP X pins σ Q) X.xe s
def tSl(r:V->Option Int->Option Int->Hp->VK->Prop)(te:TE)(tl th:TO):TE:=λσ H Q=>te σ H λx H1=>tl σ H1 λl H2=>th σ H2 λu H3=>r x l u H3 Q
theorem b5c{r:V->Option Int->Option Int->Hp->VK->Prop}(hr:SlR X r)(he:PE X e te)(hl:PO X lo tl)(hu:PO X hi th):PE X (.Subscript e (.Slice lo hi ζ p2) pos) (tSl r te tl th):=by
 intro pins s σ H Q I h;refine Subscript_ (C8 (he pins s σ H _ I h) λv s1 h0=>j5 h0 λx H1 I1 r1 q1=> ?_);refine wpAny_Slice (C8 (hl pins s1 σ H1 _ I1 q1) λvl s2 h0=>j5 h0 λl H2 I2 pl q2=>C8 (hu pins s2 σ H2 _ I2 q2) λvu s3 h0=>j5 h0 λu H3 I3 pu q3=> ?_);rw [evalPart_none];refine AH ?_;have I4:e9 X pins σ H3 {s3 with heap:=s3.heap.push {cls:= .type "slice",data:= .fields #[vl,vu,.none]}}:=I3.kept (t':=s3.toks) λb ob q=>AR _ q
 obtain⟨T,id,hT,ht,hg⟩:=hr pins {s3 with heap:=s3.heap.push {cls:= .type "slice",data:= .fields #[vl,vu,.none]}} σ H3 x v vl vu l u s3.heap.objs.size Q I4 r1 (Heap.IsSliceOf.new ..) pl pu q3
 show AF (model X.prog X.w) X.A (subscriptTail e (.Slice lo hi ζ p2) v (.ref s3.heap.objs.size)) (EP X pins σ Q) X.xe {s3 with heap:=s3.heap.push {cls:= .type "slice",data:= .fields #[vl,vu,.none]}}
 exact tail_any (ops:=[.ref s3.heap.objs.size,v]) ht hT hg (by with_unfolding_all rfl)
def b6n(xs:List V)(lo hi:Option Int):List V:=(xs.drop (HT.sIx xs.length 0 lo)).take (HT.sIx xs.length xs.length hi - HT.sIx xs.length 0 lo)
theorem a9a(xs:List V)(lo hi:Option Int):(b6n xs lo hi).length<=xs.length:=by
 unfold b6n;rw [List.length_take,List.length_drop]
 lia
def c1M(K:AE):V->Option Int->Option Int->Hp->VK->Prop:=λx lo hi H Q=>∃a xs,x= .ref a/\SqT K H a xs/\
 ¬(HT.sIx xs.length 0 lo=0/\HT.sIx xs.length xs.length hi=xs.length)/\∀p,H p=ζ->Q (.ref p) (i7 H p (.tup (b6n xs lo hi)))
theorem b9W:SlR X (c1M X.K):=by
 intro pins s σ H x v vl vu lo hi sl Q I rx hs pl pu h;obtain⟨a,xs,rfl,hx,hw,q⟩:=h;cases rx;obtain⟨its,r,ht,hz⟩:=I.tuple hx;have hlen:its.toArray.size=xs.length:=by rw [Ab];exact r.length.symm
 refine⟨"tuple",_,PyProof.Rows.slot_tuple_getitem.lookup,ht.typeIs, ?_⟩;refine HT.getItem_tuple_cut ht hs pl pu (by rw [hlen];exact hw) ?_ (by rw [hlen];exact hz)
 rw [hlen];refine⟨.ref s.heap.objs.size,_,I.laid (t':=s.toks) (o:= .tup (b6n xs lo hi)) (λb ob q=>AR _ q) (AN _) ?_,rfl,q _ (I.hok.fresh (AN _))⟩;exact⟨Nat.le_trans (a9a xs lo hi) hz,_,(r.drop (HT.sIx xs.length 0 lo)).take (HT.sIx xs.length xs.length hi - HT.sIx xs.length 0 lo),IsTup.new _ _⟩
def c1a(K:AE):R2:=λx y H Q=>∃a b xs ys,x= .ref a/\y= .ref b/\SqT K H a xs/\SqT K H b ys/\xs≠[]/\xs.length+ys.length<=AM/\
 (ys=[]->Q (.ref a) H)/\(ys≠[]->∀p,H p=ζ->Q (.ref p) (i7 H p (.tup (xs++ys))))
theorem j4.nil_iff{xs:List V}{us:List AA}(r:j4 xs us):us=[]↔xs=[]:=by
 cases r with
 |nil=>simp
 |cons _ _=>simp
theorem b7a:OpR X (binaryOp .Add) (c1a X.K):=by
 intro pins s σ H x y v u Q I rx ry h;obtain⟨a,b,xs,ys,rfl,rfl,ha,hb,hx,hz,q1,q2⟩:=h;cases rx;cases ry;obtain⟨its,r1,p1,_⟩:=I.tuple ha;obtain⟨its2,r2,p2,_⟩:=I.tuple hb;refine HT.cat_tup p1 p2 (λz=>hx (r1.nil_iff.mp z)) (λz=>⟨.ref a,H,I,rfl,q1 (r2.nil_iff.mp z)⟩) (λz=> ?_) (by rw [<-r1.length,<-r2.length];exact hz)
 refine⟨.ref s.heap.objs.size,_,I.laid (t':=s.toks) (o:= .tup (xs++ys)) (λb ob q=>AR _ q) (AN _) ?_,rfl,q2 (λw=>z (r2.nil_iff.mpr w)) _ (I.hok.fresh (AN _))⟩;exact⟨by rw [Am];exact hz,_,r1.append r2,IsTup.new _ _⟩
end
def ixN(n:Nat)(i:Int):Option Nat:=if 0<=i then(if i<n then ξ i.toNat else ζ) else if -(n:Int)<=i then ξ (i+n).toNat else ζ
def atI{α:Type}(xs:List α)(i:Int):Option α:=(ixN xs.length i).bind λj=>xs[j]?
theorem b6T{n:Nat}{i:Int}{j:Nat}(h:ixN n i=ξ j):seqIndex? i n=ξ j/\j<n/\ -(n:Int)<=i/\i<n:=by
 unfold ixN at h
 by_cases h0:0<=i
 ·rw [if_pos h0] at h
  by_cases h1:i<n
  ·rw [if_pos h1] at h;have e:i.toNat=j:=Option.some.inj h;exact⟨by rw [seqIndex_of h0 h1,e],by lia,by lia,h1⟩
  ·rw [if_neg h1] at h;cases h
 ·rw [if_neg h0] at h
  by_cases h1: -(n:Int)<=i
  ·rw [if_pos h1] at h;have e:(i+n).toNat=j:=Option.some.inj h;exact⟨by rw [seqIndex_neg (by lia) h1,e],by lia,h1,by lia⟩
  ·rw [if_neg h1] at h;cases h
theorem a7S{α:Type}{xs:List α}{i:Int}{v:α}(h:atI xs i=ξ v):∃j,seqIndex? i xs.length=ξ j/\xs[j]?=ξ v/\j<xs.length/\ -(xs.length:Int)<=i/\i<xs.length:=by
 unfold atI at h;cases e:ixN xs.length i with
 |none=>rw [e] at h;cases h
 |some j=>
  rw [e] at h;obtain⟨h1,h2,h3,h4⟩:=b6T e;exact⟨j,h1,h,h2,h3,h4⟩
def b1k(b:AG):Prop:=∀o i,subscripted b false o i=operate [o,i] (getItem o i)
def IxR(X:Cx)(r:R2):Prop:=
 ∀(value slice:AG) (pins:List (AB×Obj)) (s:AC) (σ:St) (H:Hp) (x y:V) (v u:AA) (Q:VK),e9 X pins σ H s->j3 x v->j3 y u->r x y H Q->
  subscripted slice false v u=operate [v,u] (getItem v u)->AF (model X.prog X.w) X.A (subscriptTail value slice v u) (EP X pins σ Q) X.xe s
def MtR(X:Cx)(id:String)(r:V->List V->Hp->VK->Prop):Prop:=
 ∀(pins:List (AB×Obj)) (s:AC) (σ:St) (H:Hp) (x:V) (xs:List V) (v:AA) (us:List AA) (Q:VK),e9 X pins σ H s->j3 x v->j4 xs us->r x xs H Q->
  AF (model X.prog X.w) X.A (call (.builtin id) (v::us)) (EP X pins σ Q) X.xe s
section
variable {X:Cx}{a b:AG}{ta tb:TE}{pos:Pos}
theorem c06{r:R2}(hr:IxR X r)(ha:PE X a ta)(hb:PE X b tb)(hs:b1k b):PE X (.Subscript a b pos) (tOp r ta tb):=by
 intro pins s σ H Q I h;exact Subscript_ (b8F ha hb I h λv u s2 x y H2 I2 rx ry q=>hr a b pins s2 σ H2 x y v u Q I2 rx ry q (hs _ _))
def c1I(K:AE):R2:=λx y H Q=>∃p xs i v,x= .ref p/\y= .int i/\Z0 K H p xs/\atI xs i=ξ v/\Q v H
def c1K(K:AE):R2:=λx y H Q=>∃p xs i v,x= .ref p/\y= .int i/\SqT K H p xs/\atI xs i=ξ v/\Q v H
def c1J:R2:=λx y H Q=>∃z i c,x= .str z/\y= .int i/\z.length<=AM/\atI z.cps.toList i=ξ c/\Q (.str ⟨#[c]⟩) H
theorem b6U:IxR X (c1I X.K):=by
 intro value slice pins s σ H x y v u Q I rx ry h hs;obtain⟨p,xs,i,z,rfl,rfl,hq,he,q⟩:=h;cases rx;obtain⟨t,rfl⟩:=ry;obtain⟨its,r,pl,hz⟩:=I.list hq;obtain⟨j,h1,h2,h3,h4,h5⟩:=a7S he;obtain⟨w,ew,rw'⟩:=r.get h2;have hl:=r.length;have hn:=a3A;have fin:EP X pins σ Q w s:=⟨z,H,I,rw',q⟩
 by_cases h0:0<=i
 ·have hj:i.toNat=j:=by
   rw [seqIndex_of h0 h5] at h1;exact Option.some.inj h1
  exact item_listR pl.isList h0 (by lia) (by rw [hj];simpa using ew) fin hs
 ·have hj:(i+(its.toArray.size:Int)).toNat=j:=by
   rw [seqIndex_neg (by lia) h4] at h1
   rw [Ab,<-hl];exact Option.some.inj h1
  exact subscriptTail_builtinR (x:=w) pl.isList.typeIs slot_list_getitem.lookup
   (wpAny_getItem_list_neg (Q:=λr s'=>r=w/\EP X pins σ Q r s') pl.isList (by lia) (by rw [Ab]<;>lia) (by lia) (by rw [hj];simpa using ew) ⟨rfl,fin⟩) hs
theorem b86:IxR X (c1K X.K):=by
 intro value slice pins s σ H x y v u Q I rx ry h hs;obtain⟨p,xs,i,z,rfl,rfl,hq,he,q⟩:=h;cases rx;obtain⟨t,rfl⟩:=ry;obtain⟨its,r,pl,hz⟩:=I.tuple hq;obtain⟨j,h1,h2,h3,h4,h5⟩:=a7S he;obtain⟨w,ew,rw'⟩:=r.get h2;have hl:=r.length;have hn:=a3A;have fin:EP X pins σ Q w s:=⟨z,H,I,rw',q⟩;exact subscriptTail_builtinR (x:=w) pl.typeIs slot_tuple_getitem.lookup
  (getItem_tuple (j:=j) (Q:=λr s'=>r=w/\EP X pins σ Q r s') pl (by lia) (by lia) (by rw [Ab,<-hl];exact h1) (by simpa using ew) ⟨rfl,fin⟩) hs
theorem b85:IxR X c1J:=by
 intro value slice pins s σ H x y v u Q I rx ry h hs;obtain⟨z,i,c,rfl,rfl,hz,he,q⟩:=h;obtain⟨t,rfl⟩:=rx;obtain⟨t',rfl⟩:=ry;obtain⟨j,h1,h2,h3,h4,h5⟩:=a7S he;have hl:z.cps.toList.length=z.length:=by simp [Str.length]
 rw [hl] at h1 h4 h5;have hn:=a3A;exact tail_any (typeIs_str s z t) slot_str_getitem.lookup (getItem_str (c:=c) (by
  have e1:decide (i< -(2 ^ 63:Int))=false:=decide_eq_false (by lia)
  have e2:decide (i>=2 ^ 63)=false:=decide_eq_false (by lia)
  rw [e1,e2,Bool.or_false]) (by rw [h1];simpa using h2) ⟨.str ⟨#[c]⟩,H,I.tok _,⟨_,rfl⟩,q⟩) hs
theorem a7U:M8 X (.builtin "len") (λxs H Q=>∃p ys,xs=[.ref p]/\(Z0 X.K H p ys\/SqT X.K H p ys)/\Q (.int ys.length) H):=by
 intro pins s σ H xs us Q I r h;obtain⟨p,ys,rfl,hq,q⟩:=h;obtain⟨u,rfl,rx⟩:=a1G r;cases rx;have hn:=a3A;rcases hq with hq|hq
 ·obtain⟨its,r',pl,hz⟩:=I.list hq;have hlen:=r'.length;exact Calls.call_len_list pl.isList (by simp only [Ab]<;>lia) ⟨.int ys.length,H,I.tok _,⟨s.toks+1,by rw [Ab,hlen]⟩,q⟩
 ·obtain⟨its,r',pl,hz⟩:=I.tuple hq;have hlen:=r'.length;exact len_tuple pl (by simp only [Ab]<;>lia) ⟨.int ys.length,H,I.tok _,⟨s.toks+1,by rw [Ab,hlen]⟩,q⟩
theorem a7V:M8 X (.builtin "len") (λxs H Q=>∃z,xs=[.str z]/\z.length<=AM/\Q (.int z.length) H):=by
 intro pins s σ H xs us Q I r h;obtain⟨z,rfl,hz,q⟩:=h;obtain⟨u,rfl,t,rfl⟩:=a1G r;have hn:=a3A;exact len_str (by lia) ⟨.int z.length,H,I.tok _,⟨_,rfl⟩,q⟩
theorem a6D:M8 X (.type "tuple") (λxs H Q=>∃p ys,xs=[.ref p]/\((Z0 X.K H p ys/\∀l,H l=ζ->Q (.ref l) (i7 H l (.tup ys)))\/(SqT X.K H p ys/\Q (.ref p) H))):=by
 intro pins s σ H xs us Q I r h;obtain⟨p,ys,rfl,h⟩:=h;obtain⟨u,rfl,rx⟩:=a1G r;cases rx;rcases h with⟨hq,q⟩|⟨hq,q⟩
 ·obtain⟨its,r',pl,hz⟩:=I.list hq;have hlen:=r'.length;refine call_tuple_list pl.isList (λh' kp=> ?_) (by simp only [Ab]<;>lia)
  have I1:e9 X pins σ H {s with heap:=h'}:=I.kept (t':=s.toks) kp
  have I2:e9 X pins σ (i7 H h'.objs.size (.tup ys)) {s with heap:=h'.push {cls:= .type "tuple",data:= .seq its.toArray}}:=
   I1.laid (t':=s.toks) (λb o e=>AR _ e) (AN _) (show v4 X.prog X.w _ _ _ (.tup ys) from⟨hz,its,r',IsTup.new _ _⟩)
  exact⟨.ref h'.objs.size,_,I2,rfl,q _ (I1.hok.fresh (AN _))⟩
 ·obtain⟨its,r',pl,hz⟩:=I.tuple hq;exact call_tuple_same pl ⟨.ref p,H,I,rfl,q⟩
def tyV(K:AE)(T:String)(x:V)(H:Hp):Prop:=match x with
 | .str _=>T="str"
 | .int _=>T="int"
 | .ref p=>(T="list"/\∃xs,Z0 K H p xs)\/(T="tuple"/\∃o,K.lookup p=ξ o/\o.cls= .type "tuple"/\o.dict=ζ)\/
  (T="dict"/\((∃kvs,H p=ξ (.dK kvs))\/∃kvs,H p=ξ (.dT K kvs)))\/(T="set"/\∃S n,H p=ξ (.set S n))
 |_=>False
theorem c0b{pins:List (AB×Obj)}{σ:St}{H:Hp}{s:AC}{T:String}{x:V}{v:AA}(I:e9 X pins σ H s)(r:j3 x v)(ty:tyV X.K T x H):
 s.TypeIs v T/\∀a,v= .ref a->∃ob,s.heap.get? a=ξ ob/\ob.dict=ζ:=by
 cases x with
 |str z=>
  obtain⟨t,rfl⟩:=r
  cases(show T="str" from ty)
  exact⟨typeIs_str s z t,λ_ e=>nomatch e⟩
 |int i=>
  obtain⟨t,rfl⟩:=r
  cases(show T="int" from ty)
  exact⟨typeIs_int s i t,λ_ e=>nomatch e⟩
 |ref p=>
  cases r
  rcases ty with⟨rfl,xs,hq⟩|⟨rfl,o,hk,hc,hd⟩|⟨rfl,hk⟩|⟨rfl,S,n,hk⟩
  ·obtain⟨its,_,pl,_⟩:=I.list hq
   refine⟨pl.isList.typeIs,λa e=> ?_⟩
   cases e
   obtain⟨o,n,e,c,hd,_⟩:=pl
   exact⟨o,e,hd⟩
  ·refine⟨⟨o,I.kIn p o hk,hc⟩,λa e=> ?_⟩
   cases e
   exact⟨o,I.kIn _ o hk,hd⟩
  ·have z:∃o,s.heap.get? p=ξ o/\o.ExactDict:=by
    rcases hk with⟨kvs,hk⟩|⟨kvs,hk⟩
    ·obtain⟨_,_,_,_,o,_,_,e,ex,_⟩:=I.hok p _ hk;exact⟨o,e,ex⟩
    ·obtain⟨_,_,_,_,o,_,_,e,ex,_⟩:=I.hok p _ hk;exact⟨o,e,ex⟩
   obtain⟨o,e,ex⟩:=z;refine⟨⟨o,e,ex.1⟩,λa e2=> ?_⟩;cases e2;exact⟨o,e,ex.2.1⟩
  ·obtain⟨o,_,_,_,e,ex,_⟩:=I.hok p _ hk
   refine⟨⟨o,e,ex.1⟩,λa e2=> ?_⟩
   cases e2
   exact⟨o,e,ex.2.1⟩
 |_=>exact False.elim ty
def tBM(K:AE)(T:String)(r:V->List V->Hp->VK->Prop)(to:TE)(t:TA):TE:=λσ H Q=>to σ H λx H1=>tyV K T x H1/\t σ H1 λxs H2=>r x xs H2 Q
variable {o e:AG}{es:List AG}{to:TE}{t:TA}{name:Str}{apos cpos:Pos}{T id:String}{r:V->List V->Hp->VK->Prop}
theorem b46(pa:PlainAttrs T)(slot:Slot T name id)(hty:typeOf (.builtin id)=pure (.type "method_descriptor"))(hm:MtR X id r)(ho:PE X o to)(ha:PA X (e::es) t)
 (hbase:attributeBase o name X.env (eval o X.env)=eval o X.env:=by rfl)
 (hfew:((backTo cpos (AL (e::es) X.env)).all (λx=> !x.1)&&(backToKw cpos (keywordEach [] X.env)).all (λx=>x.1.isSome)
  && decide ((e::es).length+([]:List Keyword).length+(if([]:List Keyword).isEmpty then 0 else 1)<30))=true:=by rfl)
 (hline:(apos.endLine==cpos.line)=true:=by rfl) (hs:AL (e::es) X.env=(false,eval e X.env)::AL es X.env:=by rfl) (hplain:(backTo cpos (AL es X.env)).any (·.1)=false:=by rfl):
 PE X (.Call (.Attribute o name apos) (e::es) [] cpos) (tBM X.K T r to t):=by
 intro pins s σ H Q I h
 refine wpAny_Call_method_late hbase hfew hline rfl (C8 (ho pins s σ H _ I h) λv s1 h0=>a4A h0 λx H1 I1 r1 ty q1=> ?_)
 obtain⟨h1,h2⟩:=c0b I1 r1 ty
 refine⟨T,id,pa,slot,hty,h1,h2, ?_⟩
 have hA:=ha cpos pins s1 σ H1 _ I1 q1
 rw [hs] at hA ⊢
 refine Calls.callWith_builtin (by show(false||(backTo cpos (AL es X.env)).any (·.1))=false;rw [hplain]<;>rfl) (Calls.evalArgs_plain ?_)
 exact C8 hA λus s2 h0=>j5 h0 λvs H2 I2 r2 q2=>hm pins s2 σ H2 x vs v us Q I2 r1 r2 q2
end
def MtM(X:Cx)(id:String)(r:V->List V->Hp->VK->Prop):Prop:=
 ∀(pins:List (AB×Obj)) (s:AC) (σ:St) (H:Hp) (x:V) (xs:List V) (v:AA) (us:List AA) (Q:VK),e9 X pins σ H s->j3 x v->j4 xs us->r x xs H Q->
  AF (model X.prog X.w) X.A (call (.builtin id) (v::us)) (EP X pins σ Q) X.xe s
theorem j4.one:∀{x:V} {us:List AA},j4 [x] us->∃u,us=[u]/\j3 x u
 |_,_,.cons r .nil=>⟨_,rfl,r⟩
theorem j4.rep{xs:List V}{us:List AA}(h:j4 xs us):∀k:Nat,j4 (AO k xs).flatten (AO k us).flatten
 |0=> .nil
 |k+1=>by
  rw [Al,Al,List.flatten_cons,List.flatten_cons];exact j4.append h (j4.rep h k)
theorem a3r(its:List AA):∀(k:Nat) (acc:List AA),
 List.foldl (λx1 x2=>x1++x2) acc.toArray (AO k its.toArray)=(acc++(AO k its).flatten).toArray
 |0,acc=>by simp
 |k+1,acc=>by
  have e:acc.toArray++its.toArray=(acc++its).toArray:=by simp
  have e2:(acc++its)++(AO k its).flatten=acc++(AO (k+1) its).flatten:=by
   rw [Al,List.flatten_cons,List.append_assoc]
  rw [<-e2,<-a3r its k (acc++its),<-e,Al,List.foldl_cons]
section
variable {X:Cx}{pins:List (AB×Obj)}{σ:St}{H:Hp}{s:AC}{l b:AB}{xs ys zs:List V}
theorem e9.lset{its its':List AA}{n:Nat}{f:Array AA->Array AA}{t':Nat}(I:e9 X pins σ H s)(hH:H l=ξ (.lst xs))
 (e:s.heap.get? l=ξ {cls:= .type "list",data:= .seq its.toArray n}) (hf:f its.toArray=its'.toArray) (hv:j4 ys its') (hz:ys.length<=AM):
 e9 X pins σ (i7 H l (.lst ys)) {s with heap:=s.heap.update l (Obj.mapSeq f),toks:=t'}:=by
 have q:=PySem.IsL.update e f
 rw [hf] at q
 refine I.write (x:=l) (e:=l) (by rw [hH];exact trivial) (.inl rfl) (λb' u hb hu=>(Heap.get?_update_other s.heap (Obj.mapSeq f) (Ne.symm hb)).trans hu) ⟨_,q⟩ ?_
 exact⟨hz,its',_,hv,q⟩
theorem e9.lnew{its:List AA}{t':Nat}(I:e9 X pins σ H s)(hv:j4 ys its)(hz:ys.length<=AM):
 e9 X pins σ (i7 H s.heap.objs.size (.lst ys)) {s with heap:=s.heap.push {cls:= .type "list",data:= .seq its.toArray},toks:=t'}:=
 I.laid (λ_ _ q=>AR _ q) (AN _) ⟨hz,its,0,hv,Aa _ rfl⟩
theorem e9.fresh(I:e9 X pins σ H s):H s.heap.objs.size=ζ:=I.hok.fresh (AN _)
theorem e9.lstM(I:e9 X pins σ H s)(hH:H l=ξ (.lst xs)):xs.length<=AM/\∃(its:List AA) (n:Nat),j4 xs its/\xs.length=its.length/\s.heap.get? l=ξ {cls:= .type "list",data:= .seq its.toArray n}:=by
 obtain⟨z,its,n,r,e⟩:=I.hok l _ hH;exact⟨z,its,n,r,r.length,e⟩
theorem b4T{n:Nat}(h:n<=AM):Builtin.List.listTooLong n=false:=by
 unfold Builtin.List.listTooLong;exact decide_eq_false (by lia)
end
section
variable {X:Cx}
def b7n:V->List V->Hp->VK->Prop:=λx vs H Q=>∃l xs y,x= .ref l/\vs=[y]/\H l=ξ (.lst xs)/\xs.length<AM/\Q .non (i7 H l (.lst (xs++[y])))
theorem a7m:MtM X "list.append" b7n:=by
 intro pins s σ H x vs v us Q I rx rv h;obtain⟨l,xs,y,rfl,rfl,hH,hz,q⟩:=h;cases rx;obtain⟨u,rfl,ru⟩:=rv.one;obtain⟨z,its,n,r,hl,e⟩:=I.lstM hH;refine call_meets F.slot_list_append ⟨_,e,rfl⟩ F.entry_list_append (F.args_list_append_2 _ _) (PySem.list_append l its.toArray n u (by rw [Ab];lia)) ⟨e, ?_⟩
 refine⟨.non,_,I.lset (its':=its++[u]) hH e (by simp) (r.append (.cons ru .nil)) ?_,rfl,q⟩
 rw [Am,List.length_singleton]
 lia
def c1H:R2:=λx y H Q=>∃l b xs zs,x= .ref l/\y= .ref b/\H l=ξ (.lst xs)/\H b=ξ (.lst zs)/\xs.length+zs.length<=AM/\∀p,H p=ζ->Q (.ref p) (i7 H p (.lst (xs++zs)))
theorem b9p:OpR X (binaryOp .Add) c1H:=by
 intro pins s σ H x y v u Q I rx ry h;obtain⟨l,b,xs,zs,rfl,rfl,hH,hB,hz,q⟩:=h;cases rx;cases ry;obtain⟨z,its,n,r,hl,e⟩:=I.lstM hH;obtain⟨z2,its2,n2,r2,hl2,e2⟩:=I.lstM hB;refine PySem.P.add_list e e2 ?_ (by rw [Ab,Ab];lia)
 have ea:its.toArray++its2.toArray=(its++its2).toArray:=by simp
 rw [ea];exact⟨.ref _,_,I.lnew (t':=s.toks) (r.append r2) (by rw [Am];lia),rfl,q _ I.fresh⟩
def c1L:R2:=λx y H Q=>∃l k xs,x= .ref l/\y= .int k/\H l=ξ (.lst xs)/\ -(2 ^ 63)<=k/\k<2 ^ 63/\xs.length*k.toNat<=AM/\
 ∀p,H p=ζ->Q (.ref p) (i7 H p (.lst (AO k.toNat xs).flatten))
theorem a8h{α:Type}(xs:List α)(k:Nat):(AO k xs).flatten.length=k*xs.length:=by
 induction k with
 |zero=>simp
 |succ k ih=>rw [Al,List.flatten_cons,Am,ih,Nat.succ_mul,Nat.add_comm]
theorem b9s:OpR X (binaryOp .Mult) c1L:=by
 intro pins s σ H x y v u Q I rx ry h;obtain⟨l,k,xs,rfl,rfl,hH,h1,h2,hz,q⟩:=h;cases rx;obtain⟨t,rfl⟩:=ry;obtain⟨z,its,n,r,hl,e⟩:=I.lstM hH;have hlen:its.toArray.size*k.toNat<=AM:=by rw [Ab,<-hl];exact hz
 have hcap:¬its.toArray.size*k.toNat>(2 ^ 63 - 1)/ 8:=by
  have:(AM:Nat)<=(2 ^ 63 - 1)/ 8:=by decide
  lia
 have hfit:¬(!Builtin.List.listFitsIndex k)=true:=by
  rw [fitsIndex_both h1 h2];exact Ac
 have hlong:¬Builtin.List.listTooLong (its.toArray.size*k.toNat)=true:=by
  rw [b4T hlen];exact Ac
 have hnew:List.foldl (λx1 x2=>x1++x2) #[] (AO (if its.toArray.isEmpty=true then 0 else k.toNat) its.toArray)=(AO k.toNat its).flatten.toArray:=by
  have f0:∀m:Nat,List.foldl (λx1 x2=>x1++x2) #[] (AO m its.toArray)=(AO m its).flatten.toArray:=λm=>by
   have:=a3r its m [];rw [As] at this;exact this
  rw [f0];cases its with
  |nil=>simp
  |cons a r'=>rw [if_neg (by simp)]
 refine wpAny_binaryOp_repeat_ref (T:="list") (U:="int") (by decide) ⟨_,e,rfl⟩ (λs'=>typeIs_int s' k t) noFill_list_mul F.fills_int_mul F.slot_int_rmul repeat_list F.slot_int_index.lookup
  (call_meets F.slot_int_rmul (typeIs_int s k t) F.entry_int_rmul (F.args_int_rmul_2 _ _) (int___rmul___int_list k t l its.toArray n)
   ⟨e,rfl,⟨_,e,rfl⟩,call_meets F.slot_list_mul ⟨_,e,rfl⟩ F.entry_list_mul (F.args_list_mul_2 _ _) (AutoListH.list___mul___list_int_3 l its.toArray n k t hfit hcap hlong) ⟨e, ?_⟩⟩)
 rw [hnew];exact⟨.ref _,_,I.lnew (t':=s.toks) (r.rep k.toNat) (by rw [a8h,Nat.mul_comm];exact hz),rfl,q _ I.fresh⟩
end
section
variable {prog:AJ}{w:AI}{A:AK}{E:AA->AC->Prop}{s:AC}
end
section
variable {X:Cx}
end
end L2
namespace Att
open PySem PySem.W PySem.Calls PyProof.Rows
theorem a4s{P:Params}{h:Heap}:∀(ns:List Int) (vs:List AA),WellAll P h vs (ns.map WData.int)->IntsAre vs ns:=by
 intro ns
 induction ns with
 |nil=>
  intro vs w;rw [Aq] at w;cases w;exact .nil
 |cons n ns ih=>
  intro vs w;rw [AQ] at w;cases w with
  |cons a b=>
   cases a;exact .cons _ _ (ih _ b)
theorem b3f{l:OpenLaw}{n:Nat}(hn:l.most=ξ n){P:Params}{h:Heap}{args:List WData}{vals:List AA}
 (hpre:l.row.toRowW.claim.pre args=true) (hwl:WellAll P h vals args):
 ∃a vs ns,vals=[Value.ref a]/\args=[WData.list (ns.map WData.int)]/\h.get? a=ξ {cls:= .type "list",data:= .seq vs.toArray}/\IntsAre vs ns/\ns.length<=n:=by
 have hsh:WShape.hasAll [] args [.list .int]=true:=(pre_splitW hpre).1
 have hc:l.pre.holds [] {args:=args}=true:=(pre_splitW hpre).2
 obtain⟨d,r,rfl,h1,h2⟩:=hasAllW_cons hsh
 obtain rfl:=hasAllW_nil h2
 obtain⟨xs,rfl,h3⟩:=hasW_list h1
 obtain⟨ns,rfl⟩:=items_int h3
 have hlen:ns.length<=n:=by
  unfold OpenLaw.pre at hc;have h4:(WTm.not (.lt (.lit (.int (n:Int))) (.len (.arg 0)))).holds [] {args:=[.list (ns.map .int)]}=true:=by
   have h4:=(holds_andW hc).1;rw [hn] at h4;exact h4
  have h5:=condW_of h4 (w_not (w_lt w_lit (w_len_list (w_arg rfl))));rw [AV] at h5;refine Nat.le_of_not_lt λq=> ?_;have q':(n:Int)<((ns.length:Nat):Int):=by lia
  first
   |(rw [decide_eq_true q'] at h5;exact absurd h5 (by decide))
   |(simp at h5;lia)
 cases hwl with
 |cons w1 w2=>
  cases w2
  cases w1 with
  |list ho hall=>exact⟨_,_,ns,rfl,rfl,ho,a4s ns _ hall,hlen⟩
theorem b29(l:OpenLaw)(args:List WData):l.row.toRowW.claim.post args (.bool true) args=true:=
 postW_of (r:=l.row.toRowW) (X:=(true==true))
  (show WShape.has [] (.bool true) .bool=true by first|rfl|decide|simp [WShape.has,WShape.arms,WShape.armsAll])
  (show(WTm.eq .res (.lit (.bool true))).value [] {args:=args,res:=ξ (.bool true),after:=args}=ξ (.bool (true==true)) from w_eq_bool (w_res rfl) w_lit) rfl
theorem attach_call{l:OpenLaw}{n:Nat}{q:AJ}{loose:List Str}{XP:(Str->Option AA)->Heap->Prop}{YP:AI->Heap->Prop}{d:DefRec}
 (hn:l.most=ξ n) (hdf:d.params.defaults=[])
 (call:∀(w:AI) (s₀ s₁:AC) (mg mb:Str->Option AA) (fa:AB) (o:Obj) (pm cd doc:AA) (a:AB) (vs:List AA) (ns:List Int),
  Ground q loose [] XP w s₀ mg mb s₁.heap->YP w s₁.heap->
  s₁.heap.get? fa=ξ o->o.data= .func (docDef d.name d.params d.body d.scope pm cd doc)->s₁.heap.CodeRec cd d.name->mg d.name=ξ (.ref fa)->
  s₁.heap.get? a=ξ {cls:= .type "list",data:= .seq vs.toArray}->IntsAre vs ns->ns.length<=n->s₁.gens= #[]->
  codeAny (model l.prog w) callerA (.call (.ref fa) ⟨[.ref a],[]⟩) (λr s'=>r= .ok (.ret (.bool true))/\OldK s₁.heap s'.heap/\s'.os=s₁.os/\AllBare s'.gens) s₁):
 WalkO q loose XP YP l.row.toRowW d [] (λf vs=>PySem.call f vs):=by
 intro w s₀ s₁ mg mb G Y fa o pm cd doc dV kV ho hd hcd hD hmg hg args vals as hpre hlay hrd hwl hlo
 obtain rfl:dV= .none:=Dflts.none hD hdf
 obtain rfl:kV= .none:=Dflts.noKw hD
 obtain⟨a,vs,ns,rfl,rfl,hobj,hints,hlen⟩:=b3f hn hpre hwl
 refine enter_call (codeAny_mono (call w s₀ s₁ mg mb fa o pm cd doc a vs ns G Y ho (fd_plain hd) hcd hmg hobj hints hlen hg) λr s' hq=> ?_)
 obtain⟨rfl,h2,h3,h4⟩:=hq
 exact⟨.inl ⟨.bool true,.bool true,[],rfl,λ_=>rfl,.bool true,b29 l _,λ_=>⟨List.Pairwise.nil,λ_ hm=>(nomatch hm)⟩⟩,h2,h3,h4⟩
section
variable {prog:AJ}{w:AI}{A:AK}{E:AA->AC->Prop}{s:AC}{K:Frag}
end
end Att
namespace L2
open PySem PySem.Spec PyProof.Rows
theorem a7K:∀{vs:List AA} {ns:List Int},IntsAre vs ns->j4 (ns.map V.int) vs
 |_,_,.nil=> .nil
 |_,_,.cons n t h=> .cons ⟨t,rfl⟩ (a7K h)
def b8v(H:Hp):Prop:=∀b,H b=ζ\/∃o xs,H b=ξ (.frz o (.lst xs))
theorem b4C{P:AJ}{w:AI}{K:AE}{mg mb:Str->Option AA}{CX:CXT}{k:Nat}{fa a:AB}{fd:FuncData}{x:Str}{sp:Sp}{s₁:AC}{vs:List AA}{ns:List Int}
 (KX:K.In s₁.heap) (hns:s₁.heap.Ns mainGlobals mg) (hb:s₁.heap.Ns builtinsNs mb) (hbb:∀x:Str,x≠"__name__"->mb x=bootBuiltins x) (hlim:s₁.heap.NoLimit) (hg:s₁.gens= #[])
 (ha:s₁.heap.get? a=ξ {cls:= .type "list",data:= .seq vs.toArray}) (hi:IntsAre vs ns) (hl:ns.length<=AM) (hr:D2 k callerA)
 (F:∀base:Heap,K.In base->base.Ns mainGlobals mg->P5 P w K mg base CX k fa fd [x] sp) (hbind:∀(s:AC) (u:AA),BindsTo s fd ⟨[u],[]⟩ [(x,u)])
 (hsp:∀H:Hp,b8v H->Z0 K H a (ns.map V.int)->sp [.ref a] H (λv _=>v= .bl true) λ_ _ _=>False)
 (hCX:∀H e s',CX [] H s₁ (λ_ _ _=>False) e s'->False):
 codeAny (model P w) callerA (.call (.ref fa) ⟨[.ref a],[]⟩) (λr s'=>r= .ok (.ret (.bool true))/\OldK s₁.heap s'.heap/\s'.os=s₁.os/\AllBare s'.gens) s₁:=by
 have rv:=a7K hi
 have lenV:=hi.length
 have core:∀H:Hp,b8v H->Z0 K H a (ns.map V.int)->HOk P w H s₁.heap->(∀b,H b≠ζ->b=a)->(H a≠ζ->K.lookup a=ζ)->
  codeAny (model P w) callerA (.call (.ref fa) ⟨[.ref a],[]⟩) (λr s'=>r= .ok (.ret (.bool true))/\OldK s₁.heap s'.heap/\s'.os=s₁.os/\AllBare s'.gens) s₁:=by
  intro H hO hS hok hA hK
  have base_of:∀{b:AB} {o:Obj},s₁.heap.get? b=ξ o->H b=ζ->(a8b s₁.heap H).get? b=ξ o:=λe n=>b4m e n
  have noA:∀{b:AB} {o:Obj} {es:Array DictEntry} {ep:Nat},s₁.heap.get? b=ξ o->o.data= .dict es ep->H b=ζ:=λ {b o es ep} e d=>by
   cases q:H b with
   |none=>rfl
   |some u=>
    have e':b=a:=hA b (by rw [q];simp)
    subst e';rw [ha] at e;cases e;have d':Data.seq vs.toArray _=Data.dict es ep:=d;cases d'
  have nsK:∀{b:AB} {m:Str->Option AA},s₁.heap.Ns b m->(a8b s₁.heap H).Ns b m:=λ {b m} ⟨o,es,ep,e,d,r⟩=>⟨o,es,ep,base_of e (noA e d),d,r⟩
  have hKb:K.In (a8b s₁.heap H):=λb o e=>base_of (KX b o e) (by
   cases q:H b with
   |none=>rfl
   |some u=>
    have e':b=a:=hA b (by rw [q];simp)
    subst e';rw [hK (by rw [q];simp)] at e;cases e)
  have hM:Mod K mg (a8b s₁.heap H):=⟨hKb,nsK hns,⟨mb,nsK hb,hbb⟩,let ⟨mc,h1,h2⟩:=hlim;⟨mc,nsK h1,h2⟩⟩
  have e0:b0f P w K mg (a8b s₁.heap H) callerA [] s₁ H:=⟨rfl,hM,λb o e=>b67 e,Nat.le_of_eq (b2K _ _),trivial,λb hb=>absurd (show b∈([]:List AB) from hb) (by simp),hok,.of_eq hg⟩
  refine codeAny_mono ((F _ hKb (nsK hns)).run callerA [] s₁ H ⟨[.ref a],[]⟩ [.ref a] [.ref a] _ _ hr e0 (hbind s₁ (.ref a)) (.cons rfl .nil) (hsp H hO hS)) λr s' h=> ?_
  cases r with
  |error e=>exact(hCX H e s' h).elim
  |ok fl=>
   cases fl with
   |next=>exact False.elim h
   |brk=>exact False.elim h
   |cont=>exact False.elim h
   |ret u=>
    obtain⟨v,H',os,bare,un,hok',r',q⟩:=h
    have q':v= .bl true:=q
    subst q'
    obtain rfl:u=Value.bool true:=r'
    refine⟨rfl,OldK.of_keep λb o e=> ?_,os,bare⟩
    cases q:H b with
    |none=>exact un.keep b o e q (by intro z;exact absurd (show b∈([]:List AB) from z) (by simp)) (by simp)
    |some u=>
     rcases hO b with z|⟨ob,xs,z⟩
     ·rw [q] at z;cases z
     ·have z2:=un.frzs b ob _ z
      obtain⟨e1,_⟩:=hok b _ z
      obtain⟨e2,_⟩:=hok' b _ z2
      rw [e] at e1;cases e1
      exact e2
 cases hk:K.lookup a with
 |some o=>
  have e:=KX a o hk
  rw [ha] at e
  cases e
  refine core (λ_=>ζ) (λ_=> .inl rfl) (.inr ⟨_,vs.toArray,_,hk,rfl,rfl,rfl,by rw [Ab,lenV];exact hl,by simpa using rv⟩) (λb u z=>by have z':(ζ:Option HO)=ξ u:=z;cases z') (λb z=>absurd rfl z) λz=>absurd rfl z
 |none=>
  refine core (λb=>if b=a then ξ (.frz {cls:= .type "list",data:= .seq vs.toArray} (.lst (ns.map V.int))) else ζ) (λb=> ?_) (.inl (.inr ⟨{cls:= .type "list",data:= .seq vs.toArray},if_pos rfl⟩)) (λb u z=> ?_) (λb z=> ?_) λ_=>hk
  ·by_cases hb:b=a
   ·exact .inr ⟨_,_,if_pos hb⟩
   ·exact .inl (if_neg hb)
  ·by_cases hb:b=a
   ·have z':=(if_pos hb).symm.trans z
    cases z'
    subst hb
    exact⟨ha,by rw [AV];exact hl,vs,_,rv,ha⟩
   ·have z':=(if_neg hb).symm.trans z
    cases z'
  ·by_cases hb:b=a
   ·exact hb
   ·exact absurd (if_neg hb) z
theorem b7L{l:PySem.W.OpenLaw}{n k:Nat}{q:AJ}{loose:List Str}{XP:(Str->Option AA)->Heap->Prop}{YP:AI->Heap->Prop}{d:DefRec}{K:Params->AE}{CX:AI->CXT}{sp:AI->Sp}{x:Str}
 (hn:l.most=ξ n) (hn2:n<=AM) (hdf:d.params.defaults=[]) (hr:D2 k callerA)
 (hY:∀(w:AI) (h:Heap),YP w h->(K w.params).In h)
 (F:∀(w:AI) (mg:Str->Option AA) (fa:AB) (h:Heap),(K w.params).In h->h.Ns mainGlobals mg->mg d.name=ξ (.ref fa)->
  ∃fd:FuncData,(∀(s:AC) (u:AA),BindsTo s fd ⟨[u],[]⟩ [(x,u)])/\
   ∀base:Heap,(K w.params).In base->base.Ns mainGlobals mg->P5 l.prog w (K w.params) mg base (CX w) k fa fd [x] (sp w))
 (hsp:∀(w:AI) (H:Hp) (a:AB) (ns:List Int),ns.length<=n->b8v H->Z0 (K w.params) H a (ns.map V.int)->sp w [.ref a] H (λv _=>v= .bl true) λ_ _ _=>False)
 (hCX:∀(w:AI) (H:Hp) (s:AC) (e:AA) (s':AC),CX w [] H s (λ_ _ _=>False) e s'->False):
 PySem.W.WalkO q loose XP YP l.row.toRowW d [] (λf vs=>PySem.call f vs):=by
 refine Att.attach_call hn hdf λw s₀ s₁ mg mb fa o pm cd doc a vs ns G Y ho hd hcd hmg hobj hints hlen hg=> ?_
 have KX:=hY w _ Y
 obtain⟨fd,hb,hF⟩:=F w mg fa _ KX G.T.g hmg
 exact b4C KX G.T.g G.T.b G.T.builtins G.T.nolimit hg hobj hints (Nat.le_trans hlen hn2) hr hF hb (λH hO hS=>hsp w H a ns hlen hO hS) λH e s'=>hCX w H s₁ e s'
def O2(s:Stmt):Arguments:=match s with
 | .FunctionDef _ a _ _ _ _ _ _ _ _=>a
 |_=>{posonlyargs:=[],args:=[],vararg:=ζ,kwonlyargs:=[],kw_defaults:=[],kwarg:=ζ,defaults:=[]}
def A6(s:Stmt):List Stmt:=match s with
 | .FunctionDef _ _ b _ _ _ _ _ _ _=>b
 |_=>[]
def c7(s:Stmt):Scope:=match s with
 | .FunctionDef _ _ _ _ _ _ sc _ _ _=>sc
 |_=>{kind:= .function,names:=[],isGenerator:=false,isCoroutine:=false}
abbrev CX0:CXT:=λ_ _ _ _ _ _=>False
abbrev E0:XK:=λ_ _ _=>False
theorem a7s{X:Cx}:a4R CX0 X E0:=λ_ _ _ _ _ _ _ h=>h.elim
structure Fun(K:AE)(x qual:Str)(st:Stmt)(f:AB)(fd:FuncData):Prop where
 ex:∃(oc:AA) (od:Option AB) (kV doc pm:AA) (an:Option AB) (cdv ct:AA) (osl:Array (Option AA)),
  fd=PySem.W.fnOf x qual (O2 st) (A6 st) (c7 st) .none kV doc pm an cdv ct/\K.lookup f=ξ ⟨oc,od,.func fd,osl⟩/\PySem.W.codeIn K cdv qual=true
 kp:PySem.W.keepIn K (.ref f)=true
section
variable {P:AJ}{w:AI}{K:AE}{mg:Str->Option AA}{base:Heap}
theorem Fun.ok{x qual:Str}{st:Stmt}{f:AB}{fd:FuncData}{N ps:List Str}{k:Nat}{sp:Sp}(F:Fun K x qual st f fd)(S:g6 N ps (c7 st))(len:∀vs H Q E,sp vs H Q E->vs.length=ps.length)
 (hbody:∀(cdv:AA) (A:AK) (outer:List Env) (s:AC) (H:Hp) (vs:List V) (Q:VK) (E:XK),D2 k (A.deeper (envOfC qual (c7 st) s.heap.objs.size f cdv))->sp vs H Q E->
  ∃t,PSs (a1a CX0 P w K mg base N qual (c7 st) f cdv A outer s H E).nox (A6 st) t/\t {nx:=λ_ H'=>Q .non H',rt:=Q} (a0r N vs) H):P5 P w K mg base CX0 (k+1) f fd ps sp:=by
 obtain⟨oc,od,kV,doc,pm,an,cdv,ct,osl,rfl,lk,hcd⟩:=F.ex
 refine b76 lk hcd S len λA outer s H vs Q E hr hsp=> ?_
 obtain⟨t,h,q⟩:=hbody cdv A outer s H vs Q E hr hsp
 exact⟨t,h.nox,q⟩
theorem Fun.binds{x qual:Str}{st:Stmt}{f:AB}{fd:FuncData}{ps:List Str}(F:Fun K x qual st f fd)
 (h:∀(kV doc pm:AA) (an:Option AB) (cdv ct:AA) (us:List AA),us.length=ps.length->bindArgs (PySem.W.fnOf x qual (O2 st) (A6 st) (c7 st) .none kV doc pm an cdv ct) ⟨us,[]⟩=pure (ps.zip us)):a0a K fd ps []:=by
 obtain⟨oc,od,kV,doc,pm,an,cdv,ct,osl,rfl,lk,hcd⟩:=F.ex
 exact .all (h kV doc pm an cdv ct)
theorem b4e{x qual:Str}{st:Stmt}{f:AB}{oc:AA}{od an:Option AB}{osl:Array (Option AA)}{kV doc pm cdv ct:AA}(l:K.lookup f=ξ ⟨oc,od,.func (PySem.W.fnOf x qual (O2 st) (A6 st) (c7 st) .none kV doc pm an cdv ct),osl⟩)
 (c:PySem.W.codeIn K cdv qual=true) (k:PySem.W.keepIn K (.ref f)=true):Fun K x qual st f (PySem.W.fnOf x qual (O2 st) (A6 st) (c7 st) .none kV doc pm an cdv ct):=⟨⟨oc,od,kV,doc,pm,an,cdv,ct,osl,rfl,l,c⟩,k⟩
end
theorem c0O{A:AK}{k:Nat}(hr:D2 k A):A.units+1<cLine:=Nat.lt_of_le_of_lt (Nat.add_le_add_left (by decide:1<=64) _) hr.units
theorem b3k{n:Nat}(h:n<=1000):n<AM:=Nat.lt_of_le_of_lt h (by decide)
section
variable {X:Cx}
theorem pv(i:Nat){x:Str}{pos:Pos}(hN:X.N[i]?=ξ x:=by rfl)(hv:Vis X.env.scope x:=by first|exact Or.inl rfl|exact Or.inr (Or.inl rfl)|exact Or.inr (Or.inr rfl))(hd:(x==("__debug__":Str))=false:=by decide)
 (hcd:(x==("__classdict__":Str))=false:=by decide):PE X (.Name x pos) (C7 i):=b9E hN hv hd hcd
end
theorem b0F{A B:Prop}(h:B):if false=true then A else B:=by
 rw [if_neg Ac];exact h
theorem b0G{A B:Prop}(h:A):if true=true then A else B:=by
 rw [if_pos rfl];exact h
def g8(H H':Hp):Prop:=∀b o,H b=ξ o->H' b=ξ o
theorem g8.trans{H H1 H2:Hp}(a:g8 H H1)(b:g8 H1 H2):g8 H H2:=λc o h=>b c o (a c o h)
theorem KyA.mono{K:AE}{H H1:Hp}{b:AB}{k:List f6}(e:KyA K H b k)(s:g8 H H1):KyA K H1 b k:=e.keep λ_ _ z=>s _ _ z
theorem g8.free{H H':Hp}(e:g8 H H'){l:AB}(h:H' l=Option.none):H l=Option.none:=by
 cases q:H l with
 |none=>rfl
 |some o=>
  rw [e l o q] at h;cases h
section
variable (P:AJ)(w:AI)
end
section
variable {P:AJ}{w:AI}{H H':Hp}{h h':Heap}{a:AB}{o:HO}
end
section
variable {P:AJ}{w:AI}{H:Hp}{h h':Heap}{x e:AB}{o':HO}
end
section
variable {fs fs' ex ex':List AB}{H H1 H2:Hp}{h h1 h2 h':Heap}{a x e:AB}{o:HO}
end
section
variable {X:Cx}{pins:List (AB×Obj)}{σ:List (Option V)}{H H':Hp}{s:AC}{h':Heap}
end
section
variable {X:Cx}
variable {a b:AG}{ta tb:TE}{pos:Pos}
variable {tA tB':TT}{rest:List AG}
end
section
variable {X:Cx}{pins:List (AB×Obj)}{σ:St}{H:Hp}{s:AC}{a:AB}{xs ys:List V}
end
section
variable {X:Cx}{pins:List (AB×Obj)}{σ:St}{H:Hp}{s:AC}{E:AA->AC->Prop}
end
section
variable {X:Cx}{st:Stmt}{rest:List Stmt}{t u:TS}{e:AG}{te:TE}{pos:Pos}
end
section
variable {X:Cx}{pos:Pos}
end
section
variable {X:Cx}{tg:AG}
end
section
variable {X:Cx}{a b c:AG}{ta tb tc:TE}{pos:Pos}
end
section
variable {prog:AJ}{w:AI}{A:AK}{E:AA->AC->Prop}{s:AC}{K:AE}{x dx C f:AB}{mA:Str->Option AA}{name:Str}{v:AA}
end
section
variable {P:AJ}{w:AI}{H H':Hp}{h h':Heap}{a C dx:AB}{fs fs':List (Str×V)}
end
section
variable {X:Cx}{pins:List (AB×Obj)}{σ:St}{H:Hp}{s:AC}{a C dx:AB}{fs:List (Str×V)}{f:Str}{v:V}{A:AK}{E:AA->AC->Prop}
end
section
variable {X:Cx}{o e value:AG}{f:Str}{pos pos' tpos:Pos}{ta tv:TE}
end
section
variable {X:Cx}{pins:List (AB×Obj)}{σ:St}{H:Hp}{s:AC}{A:AK}{E:AA->AC->Prop}{Q:AA->AC->Prop}{c:AA}{b:Bool}
end
section
variable {X:Cx}{e:AG}{es:List AG}{te:TE}{t:TA}{pos:Pos}
end
section
variable {X:Cx}{pins:List (AB×Obj)}{σ:St}{H:Hp}{s s':AC}
end
section
variable {X:Cx}{CX:CXT}{k:Nat}{f C:AB}{fd:FuncData}{ps:List Str}{sp:Sp}{dvs:List V}{ds:List AA}{E:XK}{x m:Str}{p pos apos:Pos}{e o:AG}{es:List AG}{ta:TE}{t:TA}
end
section
variable {X:Cx}{CX:CXT}{k:Nat}{f C:AB}{fd:FuncData}{ps ks:List Str}{sp:Sp}{E:XK}{x m:Str}{p pos apos kpos:Pos}{e o:AG}{es:List AG}{kws:List Keyword}{te ta:TE}{t tk:TA}{nm:Option Str}
variable {g:List AA->List AA->List AA}{gV:List V->List V->List V}
end
section
variable {X:Cx}{x:Str}{p pos:Pos}{e:AG}{es:List AG}{t:TA}{id T:String}{r:List V->Hp->VK->Prop}
end
section
variable {κ:Type}[DecidableEq κ]
def P6(kvs:List (κ×V))(k:κ):Option V:=(kvs.find? λkv=>decide (kv.1=k)).map (·.2)
def a0K(kvs:List (κ×V))(k:κ)(v:V):List (κ×V):=
 if(kvs.any λkv=>decide (kv.1=k))=true then kvs.map (λkv=>if kv.1=k then(kv.1,v) else kv) else kvs++[(k,v)]
theorem a0t{p:κ×V}{r:List (κ×V)}{k:κ}(e:p.1=k):P6 (p::r) k=ξ p.2:=by simp [P6,List.find?_cons,e]
theorem a0s{p:κ×V}{r:List (κ×V)}{k:κ}(e:¬p.1=k):P6 (p::r) k=P6 r k:=by simp [P6,List.find?_cons,e]
theorem b0b(k:κ):∀kvs:List (κ×V),(kvs.any λkv=>decide (kv.1=k))=(P6 kvs k).isSome
 |[]=>rfl
 |p::r=>by
  rw [List.any_cons]
  by_cases e:p.1=k
  ·simp only [a0t e,decide_eq_true e,Bool.true_or,Option.isSome_some]
  ·rw [a0s e,decide_eq_false e,Bool.false_or];exact b0b k r
theorem a1m(kvs:List (κ×V))(k:κ)(v:V):(a0K kvs k v).length<=kvs.length+1:=by
 unfold a0K;split
 ·rw [AV];lia
 ·rw [Am,AY,Aw];lia
theorem a2H.isSome_eq{o:Option V}{u:Option AA}(r:a2H o u):o.isSome=u.isSome:=by
 cases o with
 |none=>cases u with
  |none=>rfl
  |some _=>exact(show False from r).elim
 |some _=>cases u with
  |none=>exact(show False from r).elim
  |some _=>rfl
theorem KV.val{kvs:List (κ×V)}{vs:List (κ×AA)}(r:KV kvs vs)(k:κ):a2H (P6 kvs k) (valueAt vs k):=by
 unfold KV at r
 induction r with
 |nil=>exact True.intro
 | @cons p q ps qs h t ih=>
   obtain⟨h1,h2⟩:=h
   by_cases e:p.1=k
   ·have e':q.1=k:=h1.symm.trans e;have b:valueAt (q::qs) k=ξ q.2:=by simp [valueAt,List.find?_cons,e']
    rw [a0t e,b];exact h2
   ·have e':¬q.1=k:=λz=>e (h1.trans z);have b:valueAt (q::qs) k=valueAt qs k:=by simp [valueAt,List.find?_cons,e']
    rw [a0s e,b];exact ih
theorem KV.any{kvs:List (κ×V)}{vs:List (κ×AA)}(r:KV kvs vs)(k:κ):(kvs.any λkv=>decide (kv.1=k))=vs.any λkv=>decide (kv.1=k):=by
 unfold KV at r
 induction r with
 |nil=>rfl
 |cons h t ih=>rw [List.any_cons,List.any_cons,ih,h.1]
theorem KV.repl{kvs:List (κ×V)}{vs:List (κ×AA)}(r:KV kvs vs)(k:κ){y:V}{u:AA}(ry:j3 y u):
 KV (kvs.map λkv=>if kv.1=k then(kv.1,y) else kv) (vs.map λkv=>if kv.1=k then(kv.1,u) else kv):=by
 unfold KV at r ⊢
 induction r with
 |nil=>exact .nil
 | @cons p q ps qs h t ih=>
   rw [AQ,AQ]
   refine .cons ?_ ih
   obtain⟨h1,h2⟩:=h
   by_cases e:p.1=k
   ·rw [if_pos e,if_pos (h1.symm.trans e)];exact⟨h1,ry⟩
   ·rw [if_neg e,if_neg (λz=>e (h1.trans z))];exact⟨h1,h2⟩
theorem KV.put{kvs:List (κ×V)}{vs:List (κ×AA)}(r:KV kvs vs)(k:κ){y:V}{u:AA}(ry:j3 y u):KV (a0K kvs k y) (stored vs k u):=by
 unfold a0K stored;rw [r.any k]
 by_cases e:(vs.any λkv=>decide (kv.1=k))=true
 ·rw [if_pos e,if_pos e];exact r.repl k ry
 ·rw [if_neg e,if_neg e];exact Paired.snoc r ⟨rfl,ry⟩
theorem KV.length{kvs:List (κ×V)}{vs:List (κ×AA)}(r:KV kvs vs):kvs.length=vs.length:=Paired.length r
end
theorem a9q{P:AJ}{w:AI}{k:f6}{u:AA}(r:j3 (kV k) u):(f9 P w).is k u=true:=by
 cases k with
 |inl i=>obtain⟨t,e⟩:=(show ∃t,u=Value.int i t from r);subst e;exact a1q P w i t
 |inr x=>obtain⟨t,e⟩:=(show ∃t,u=Value.str x t from r);subst e;exact N4 P w x t
theorem a1O{P:AJ}{w:AI}:∀{ks:List f6} {us:List AA},j4 (ks.map kV) us->ItemsAre (f9 P w) ks us
 |[],_,r=>by rw [Aq] at r;cases r;exact .nil
 |k::ks,_,r=>by
  rw [AQ] at r;cases r with
  |cons h t=>exact .cons (a9q h) (a1O t)
abbrev KT(K:AE)(H:Hp):List (List f6×V)->List (List f6×AB×AA)->Prop:=Paired λp q=>p.1=q.1/\KyA K H q.2.1 p.1/\j3 p.2 q.2.2
theorem KT.val{K:AE}{H:Hp}{kvs:List (List f6×V)}{xs:List (List f6×AB×AA)}(r:KT K H kvs xs)(k:List f6):a2H (P6 kvs k) ((atKey xs k).map (·.2)):=by
 induction r with
 |nil=>exact True.intro
 | @cons p q ps qs h t ih=>
   obtain⟨h1,_,h2⟩:=h
   by_cases e:p.1=k
   ·have e':q.1=k:=h1.symm.trans e;have b:atKey (q::qs) k=ξ q.2:=by simp [atKey,List.find?_cons,e']
    rw [a0t e,b];exact h2
   ·have e':¬q.1=k:=λz=>e (h1.trans z);have b:atKey (q::qs) k=atKey qs k:=by simp [atKey,List.find?_cons,e']
    rw [a0s e,b];exact ih
theorem KT.repl{K:AE}{H:Hp}{kvs:List (List f6×V)}{xs:List (List f6×AB×AA)}(r:KT K H kvs xs)(k:List f6){y:V}{u:AA}(ry:j3 y u):
 KT K H (kvs.map λkv=>if kv.1=k then(kv.1,y) else kv) (xs.map (putAt k u)):=by
 induction r with
 |nil=>exact .nil
 | @cons p q ps qs h t ih=>
   rw [AQ,AQ]
   refine .cons ?_ ih
   obtain⟨h1,h2,h3⟩:=h
   unfold putAt
   by_cases e:p.1=k
   ·rw [if_pos e,if_pos (h1.symm.trans e)];exact⟨h1,h2,ry⟩
   ·rw [if_neg e,if_neg (λz=>e (h1.trans z))];exact⟨h1,h2,h3⟩
theorem KT.put{K:AE}{H:Hp}{kvs:List (List f6×V)}{xs:List (List f6×AB×AA)}(r:KT K H kvs xs)(k:List f6){b:AB}{y:V}{u:AA}(hb:KyA K H b k)(ry:j3 y u):
 KT K H (a0K kvs k y) (storedH xs k b u):=by
 have e:(kvs.any λkv=>decide (kv.1=k))=(atKey xs k).isSome:=by
  rw [b0b,(r.val k).isSome_eq,Option.isSome_map]
 unfold a0K storedH
 rw [e]
 by_cases q:(atKey xs k).isSome=true
 ·rw [if_pos q,if_pos q];exact r.repl k ry
 ·rw [if_neg q,if_neg q];exact Paired.snoc r ⟨rfl,hb,ry⟩
theorem KT.keeps{K:AE}{H H':Hp}{kvs:List (List f6×V)}{xs:List (List f6×AB×AA)}(r:KT K H kvs xs)(ht:∀b ys,H b=ξ (.tup ys)->H' b=ξ (.tup ys)):KT K H' kvs xs:=
 Paired.mapP r λ_ _ z=>⟨z.1,z.2.1.keep ht,z.2.2⟩
section
variable {P:AJ}{w:AI}{H:Hp}{h:Heap}{a:AB}
theorem b8h{u:HO}(ok:HOk P w H h)(e:Rd H a u):v4 P w H h a u:=e.ok ok
theorem b1q{kvs:List (f6×V)}(ok:HOk P w H h)(e:Rd H a (.dK kvs)):kvs.length<=AM/\(a==sysModules)=false/\∃vs,KV kvs vs/\h.DictOf (f9 P w) a vs:=
 show v4 P w H h a (.dK kvs) from b8h ok e
theorem c0D{kvs:List (f6×V)}(ok:HOk P w H h)(e:H a=ξ (.dK kvs)):kvs.length<=AM/\(a==sysModules)=false/\∃vs,KV kvs vs/\h.DictOf (f9 P w) a vs:=b1q ok (.inl e)
theorem b1I{K:AE}{ks:List f6}(ok:HOk P w H h)(kin:K.In h)(e:KyF K H a ks):IsTupleKey (f9 P w) h ks a:=by
 rcases e with e|⟨o,its,n,h1,h2,h3,h4⟩
 ·obtain⟨_,its,r,o,h1,h2,n,h3⟩:=(show v4 P w H h a (.tup (ks.map kV)) from ok a _ e);exact⟨o,its.toArray,n,h1,h2,h3,by simpa using a1O r⟩
 ·exact⟨o,its,n,kin _ _ h1,h2,h3,a1O h4⟩
theorem a5Y{K:Type}{is:Heap->K->AB->Prop}{R:AB->K->Prop}(f:∀a k,R a k->is h k a):∀{ps:List AB} {ks:List K} {us:List AA},Paired R ps ks->j4 (ps.map V.ref) us->ItR (is h) ks us
 |_,_,_,.nil,r=>by rw [Aq] at r;cases r;exact .nil
 |_,_,_,.cons q t,r=>by
  rw [AQ] at r;cases r with
  |cons z r=>
   cases z;exact .cons (f _ _ q) (a5Y f t r)
theorem b1K{K:AE}{xs:List V}(ok:HOk P w H h)(kin:K.In h)(e:KyT K H a xs):∃o its n,h.get? a=ξ o/\o.cls= .type "tuple"/\o.data= .seq its n/\j4 xs its.toList:=by
 rcases e with e|⟨o,its,n,h1,h2,h3,h4⟩
 ·obtain⟨_,its,rv,o,h1,h2,n,h3⟩:=(show v4 P w H h a (.tup xs) from ok a _ e);exact⟨o,its.toArray,n,h1,h2,h3,rv⟩
 ·exact⟨o,its,n,kin _ _ h1,h2,h3,h4⟩
theorem b6V{K:AE}{ks:List (List f6)}(ok:HOk P w H h)(kin:K.In h)(e:KyB K H a ks):IsN (a83 (f9 P w)) h ks a:=by
 obtain⟨ps,e,r⟩:=e;obtain⟨o,its,n,h1,h2,h3,rv⟩:=b1K ok kin e;exact⟨o,its,n,h1,h2,h3,a5Y (is:=(a83 (f9 P w)).is) (λa k z=>b1I ok kin z) r rv⟩
theorem a2U{K:AE}{ks:List f6}(ok:HOk P w H h)(kin:K.In h)(e:KyA K H a ks):(a7J P w).is h ks a:=by
 rcases e with⟨l,e⟩|⟨k,rfl,n,ps,e,r⟩
 ·exact .inl ⟨l,b1I ok kin e⟩
 ·obtain⟨o,its,m,h1,h2,h3,rv⟩:=b1K ok kin e;exact .inr ⟨k,rfl,n,o,its,m,h1,h2,h3,a5Y (is:=(upK (a83 (f9 P w))).is) (λa k z=>b6V ok kin z) r rv⟩
theorem b1r{K:AE}{kvs:List (List f6×V)}(ok:HOk P w H h)(kin:K.In h)(e:Rd H a (.dT K kvs)):kvs.length<=AM/\(a==sysModules)=false/\
 ∃xs,KT K H kvs xs/\h.DictOfH (a7J P w) a xs:=by
 obtain⟨z,y,xs,r,o,es,ep,h1,h2,h3,h4,h5⟩:=(show v4 P w H h a (.dT K kvs) from b8h ok e)
 refine⟨z,y,xs,r,o,es,ep,h1,h2,h3,h4,λx hx=> ?_,h5⟩
 have all:∀{l:List (List f6×V)} {m:List (List f6×AB×AA)},KT K H l m->∀x∈m,(a7J P w).is h x.1 x.2.1:=by
  intro l m q
  induction q with
  |nil=>intro x hx;exact nomatch hx
  | @cons p q ps qs hq t ih=>
    intro x hx;rcases AU.mp hx with e|hx
    ·subst e;exact a2U ok kin (by rw [<-hq.1];exact hq.2.1)
    ·exact ih x hx
 exact all r x hx
theorem b71{K:AE}{kvs:List (List f6×V)}(ok:HOk P w H h)(kin:K.In h)(e:H a=ξ (.dT K kvs)):kvs.length<=AM/\(a==sysModules)=false/\
 ∃xs,KT K H kvs xs/\h.DictOfH (a7J P w) a xs:=b1r ok kin (.inl e)
end
def a1X(K:AE)(H:Hp)(a:AB)(y:V)(r:Option V):Prop:=
 (∃kvs k,Rd H a (.dK kvs)/\y=kV k/\r=P6 kvs k)\/∃kvs k b,Rd H a (.dT K kvs)/\y= .ref b/\KyA K H b k/\r=P6 kvs k
def a8P(K:AE)(H:Hp)(a:AB)(y v:V)(H':Hp):Prop:=
 (∃kvs k,H a=ξ (.dK kvs)/\y=kV k/\kvs.length<AM/\H'=i7 H a (.dK (a0K kvs k v)))\/
 ∃kvs k b,H a=ξ (.dT K kvs)/\y= .ref b/\KyA K H b k/\kvs.length<AM/\H'=i7 H a (.dT K (a0K kvs k v))
theorem a1X.k{K:AE}{H:Hp}{a:AB}{kvs:List (f6×V)}{k:f6}(e:H a=ξ (.dK kvs)):a1X K H a (kV k) (P6 kvs k):= .inl ⟨kvs,k,.inl e,rfl,rfl⟩
theorem a1X.t{K:AE}{H:Hp}{a b:AB}{kvs:List (List f6×V)}{k:List f6}(e:H a=ξ (.dT K kvs))(eb:KyA K H b k):a1X K H a (.ref b) (P6 kvs k):= .inr ⟨kvs,k,b,.inl e,rfl,eb,rfl⟩
theorem a8P.k{K:AE}{H:Hp}{a:AB}{kvs:List (f6×V)}{k:f6}{v:V}(e:H a=ξ (.dK kvs))(hl:kvs.length<AM):a8P K H a (kV k) v (i7 H a (.dK (a0K kvs k v))):= .inl ⟨kvs,k,e,rfl,hl,rfl⟩
theorem a8P.t{K:AE}{H:Hp}{a b:AB}{kvs:List (List f6×V)}{k:List f6}{v:V}(e:H a=ξ (.dT K kvs))(eb:KyA K H b k)(hl:kvs.length<AM):
 a8P K H a (.ref b) v (i7 H a (.dT K (a0K kvs k v))):= .inr ⟨kvs,k,b,e,rfl,eb,hl,rfl⟩
section
variable {X:Cx}{pins:List (AB×Obj)}{σ:St}{H:Hp}{s:AC}{a:AB}{y v:V}{u r:AA}{o:Option V}{A:AK}{E:AA->AC->Prop}
theorem e9.big(I:e9 X pins σ H s):sysModules<s.heap.objs.size:=by
 have h:mainGlobals<s.heap.objs.size:=(I.mod.glob.keeps I.bk).lt;exact Nat.lt_trans (by decide) h
theorem b2u{Q:AA->AC->Prop}(hu:A.units+8<cLine)(I:e9 X pins σ H s)(g:a1X X.K H a y (ξ v))(ry:j3 y u)(h:∀w' s',e9 X pins σ H s'->j3 v w'->Q w' s'):
 AF (model X.prog X.w) A (getItem (.ref a) u) Q E s:=by
 rcases g with⟨kvs,k,e,ey,l⟩|⟨kvs,k,b,e,ey,eb,l⟩
 ·subst ey
  obtain⟨z,hd,vs,rel,dd⟩:=b1q I.hok e
  obtain⟨w',hw,rw'⟩:=a2H.some_of (v:=v) (o:=valueAt vs k) (by rw [l];exact rel.val k)
  exact wpAny_getItem_of (a9q ry) dd.mapOf hw (h w' _ (I.tok _) rw')
 ·subst ey
  cases(show u=Value.ref b from ry)
  obtain⟨z,hd,xs,rel,dd⟩:=b1r I.hok I.kIn e
  obtain⟨w',hw,rw'⟩:=a2H.some_of (v:=v) (o:=(atKey xs k).map (·.2)) (by rw [l];exact rel.val k)
  obtain⟨p,hp,hp2⟩:=Option.map_eq_some_iff.mp hw
  refine wpAny_getItem_heap (show A.units+1+3<cLine by lia) (a2U I.hok I.kIn eb) dd hp ?_
  rw [hp2]
  exact h w' _ (I.tok _) rw'
theorem b6p{Q:AA->AC->Prop}(hu:A.units+8<cLine)(I:e9 X pins σ H s)(g:a1X X.K H a y o)(ry:j3 y u)(h:∀s',e9 X pins σ H s'->Q (.bool (!o.isSome)) s'):
 AF (model X.prog X.w) A (compareOp .NotIn u (.ref a)) Q E s:=by
 rcases g with⟨kvs,k,e,ey,l⟩|⟨kvs,k,b,e,ey,eb,l⟩
 ·subst ey
  obtain⟨z,hd,vs,rel,dd⟩:=b1q I.hok e
  refine wpAny_notIn_of (a9q ry) hd dd.mapOf ?_
  rw [<-(rel.val k).isSome_eq,<-l]
  exact h _ (I.tok _)
 ·subst ey
  cases(show u=Value.ref b from ry)
  obtain⟨z,hd,xs,rel,dd⟩:=b1r I.hok I.kIn e
  refine wpAny_notIn_heap (show A.units+1+3<cLine by lia) (a2U I.hok I.kIn eb) hd dd ?_
  have q:=(rel.val k).isSome_eq
  rw [Option.isSome_map] at q
  rw [<-q,<-l]
  exact h _ (I.tok _)
theorem a7X{h':Heap}{t':Nat}{ob:HO}(I:e9 X pins σ H s)(mu:Mut (H a))(hs:Heap.SameBut a s.heap h')(he:∃q,h'.get? a=ξ q)(new:v4 X.prog X.w (i7 H a ob) h' a ob):
 e9 X pins σ (i7 H a ob) {s with heap:=h',toks:=t'}:=
 I.write (x:=a) (e:=a) mu (.inl rfl) (λb q hb z=>(hs.2 b hb).trans z) he new
theorem b8I{P:AJ}{w:AI}{H':Hp}{h':Heap}{kvs:List (f6×V)}{vs:List (f6×AA)}(z:kvs.length<=AM)(hd:(a==sysModules)=false)(rel:KV kvs vs)(dd:h'.DictOf (f9 P w) a vs):
 v4 P w H' h' a (.dK kvs):=⟨z,hd,vs,rel,dd⟩
theorem b2v{H':Hp}{Q:Unit->AC->Prop}(hu:A.units+8<cLine)(I:e9 X pins σ H s)(g:a8P X.K H a y v H')(ry:j3 y u)(rv:j3 v r)(h:∀s',e9 X pins σ H' s'->Q () s'):
 AF (model X.prog X.w) A (setItem (.ref a) u r) Q E s:=by
 rcases g with⟨kvs,k,e,ey,l,eH⟩|⟨kvs,k,b,e,ey,eb,l,eH⟩
 ·subst ey eH
  obtain⟨z,hd,vs,rel,dd⟩:=c0D I.hok e
  have hz:vs.length<=AM:=by rw [<-rel.length];exact z
  have hl:(a0K kvs k v).length<=AM:=by have:=a1m kvs k v;lia
  refine wpAny_setItem_pairs (hsz:=hz) (a9q ry) dd λh' dd' hs=>h _ ?_
  have he:∃q,h'.get? a=ξ q:=by obtain⟨q,_,_,hq,_⟩:=dd';exact⟨q,hq⟩
  exact a7X I (by rw [e];exact True.intro) hs he (b8I hl hd (rel.put k rv) dd')
 ·subst ey eH
  cases(show u=Value.ref b from ry)
  obtain⟨z,hd,xs,rel,dd⟩:=b71 I.hok I.kIn e
  have hz:xs.length<=AM:=by rw [<-Paired.length rel];exact z
  have hl:(a0K kvs k v).length<=AM:=by have:=a1m kvs k v;lia
  refine wpAny_setItem_heap (hsz:=hz) (show A.units+1+3<cLine by lia) (a2U I.hok I.kIn eb) dd λh' dd' hs=>h _ ?_
  obtain⟨q,es,ep,hq,h2,h3,h4,_,h5⟩:=dd'
  refine a7X I (by rw [e];exact True.intro) hs ⟨q,hq⟩ ⟨hl,hd,_,(rel.put k eb rv).keeps λc ys ec=> ?_,q,es,ep,hq,h2,h3,h4,h5⟩
  rw [a9 (A0 ec e (λz=>nomatch z))]
  exact ec
end
section
variable {X:Cx}{pins:List (AB×Obj)}{σ:St}{H:Hp}{s:AC}{a:AB}{kvs:List (f6×V)}{k:f6}{u:AA}{A:AK}{E:AA->AC->Prop}
end
def b0g(i:AG):Prop:=∀ov iv,subscripted i false ov iv=operate [ov,iv] (getItem ov iv)
theorem a8D{prog:AJ}{w:AI}{A:AK}{E:AA->AC->Prop}{s:AC}{env:Env}{value slice:AG}{pos:Pos}{T id:String}{Q:AA->AC->Prop}
 (hl:typeLookup (.type T) "__getitem__"=pure (ξ (.builtin id))) (hs:b0g slice)
 (h:AF (model prog w) A (eval value env) (λo s₁=>AF (model prog w) A (eval slice env) (λi s₂=>s₂.TypeIs o T/\AF (model prog w) A (getItem o i) Q E s₂) E s₁) E s):
 AF (model prog w) A (eval (.Subscript value slice pos) env) Q E s:=by
 refine Subscript_ (wpAny_mono h (λo s₁ h₁=>wpAny_mono h₁ (λi s₂ h₂=> ?_) λ_ _ x=>x) λ_ _ x=>x)
 obtain⟨hT,h₂⟩:=h₂
 unfold subscriptTail
 refine AD ?_
 rw [getitemInPython_of_ne hT.not_modules]
 refine AD (wpAny_specialOf hT hl ?_)
 have fin:AF (model prog w) A (subscripted slice false o i) (λr s₃=>AF (model prog w) A (letTemporaryGo value o r>>=λ_=>pure r) Q E s₃) E s₂:=by
  rw [hs o i];exact wpAny_operating (wpAny_mono h₂ (λr s₃ h₃=>AD (wpAny_letTemporaryGo (AH h₃))) λ_ _ x=>x)
 first
  |exact AH (AD fin)
  |exact AD (AH (AD fin))
  |exact AD fin
theorem a9c{X:Cx}{pins:List (AB×Obj)}{σ:St}{H:Hp}{s:AC}{a:AB}{y:V}{o:Option V}(I:e9 X pins σ H s)(g:a1X X.K H a y o):s.TypeIs (.ref a) "dict":=by
 rcases g with⟨kvs,k,e,_,_⟩|⟨kvs,k,b,e,_,_,_⟩
 ·obtain⟨_,_,vs,_,dd⟩:=b1q I.hok e;exact dd.typeIs
 ·obtain⟨_,_,xs,_,dd⟩:=b1r I.hok I.kIn e;exact dd.typeIs
def b5J(K:AE)(td ty:TE):TE:=λσ H Q=>td σ H λx H1=>ty σ H1 λy H2=>∃a v,x= .ref a/\a1X K H2 a y (ξ v)/\Q v H2
def b7C(K:AE)(ty td:TE):TE:=λσ H Q=>ty σ H λy H1=>td σ H1 λx H2=>∃a o,x= .ref a/\a1X K H2 a y o/\Q (.bl (!o.isSome)) H2
def c1d(K:AE)(td ty tv:TE):TS:=λD σ H=>tv σ H λv H1=>td σ H1 λx H2=>ty σ H2 λy H3=>∃a H4,x= .ref a/\a8P K H3 a y v H4/\D.nx σ H4
section
variable {X:Cx}{o i e value:AG}{pos pos' tpos:Pos}{td ty tv:TE}
theorem a26(hu:X.A.units+8<cLine)(ho:PE X o td)(hi:PE X i ty)(hs:b0g i):PE X (.Subscript o i pos) (b5J X.K td ty):=by
 intro pins s σ H Q I h;refine a8D PySem.F.slot_dict_getitem.lookup hs (C8 (ho pins s σ H _ I h) λu s1 h0=>j5 h0 λx H1 I1 rx q1=>C8 (hi pins s1 σ H1 _ I1 q1) λiv s2 ⟨y,H2,I2,ry,a,v,ex,g,q2⟩=> ?_);subst ex;obtain rfl:u=Value.ref a:=rx;exact⟨a9c I2 g,b2u hu I2 g ry λw' s3 I3 rw'=>⟨v,H2,I3,rw',q2⟩⟩
theorem b28(hu:X.A.units+8<cLine)(hi:PE X i ty)(ho:PE X o td):PC X .NotIn i o (b7C X.K ty td):=by
 intro pins s σ H Q I h;refine C8 (hi pins s σ H _ I h) λiv s1 h0=>j5 h0 λy H1 I1 ry q1=>C8 (ho pins s1 σ H1 _ I1 q1) λu s2 ⟨x,H2,I2,rx,a,ov,ex,g,q2⟩=> ?_;subst ex;obtain rfl:u=Value.ref a:=rx;exact b6p hu I2 g ry λs3 I3=>⟨.bl (!ov.isSome),H2,I3,rfl,q2⟩
theorem b1Z(hu:X.A.units+8<cLine)(ho:PE X o td)(hi:PE X i ty)(hv:PE X value tv)(hs:swapsWith value (ξ (.Subscript o i pos')) pos.line X.env=pure false):
 PS X (.Assign [.Subscript o i pos'] value pos) (c1d X.K td ty tv):=by
 intro pins s σ H D I h
 refine wpAny_Assign_Subscript (C8 (hv pins s σ H _ I h) λr s1 h0=>j5 h0 λv H1 I1 rv q1=>C8 (ho pins s1 σ H1 _ I1 q1) λu s2 h0=>j5 h0 λx H2 I2 rx q2=>C8 (hi pins s2 σ H2 _ I2 q2) λiv s3 ⟨y,H3,I3,ry,a,H4,ex,g,q3⟩=> ?_) hs
 subst ex
 obtain rfl:u=Value.ref a:=rx
 exact b2v hu I3 g ry rv λs4 I4=>⟨σ,H4,I4,q3⟩
end
theorem b3R{P:AJ}{w:AI}{H:Hp}(h:Heap)(hb:sysModules<h.objs.size):v4 P w H (h.push {cls:= .type "dict",data:= .dict #[]}) h.objs.size (.dK []):=
 ⟨Nat.zero_le _,beq_eq_false_iff_ne.mpr (Ne.symm (AW hb)),[],.nil,Heap.DictOf.new h⟩
theorem a9e{P:AJ}{w:AI}{K:AE}{H:Hp}(h:Heap)(hb:sysModules<h.objs.size):v4 P w H (h.push {cls:= .type "dict",data:= .dict #[]}) h.objs.size (.dT K []):=
 ⟨Nat.zero_le _,beq_eq_false_iff_ne.mpr (Ne.symm (AW hb)),[],.nil,_, #[],0,Aa _ rfl,⟨rfl,rfl,rfl⟩,rfl,rfl,List.nodup_nil⟩
def b94:TE:=λ_ H Q=>∀p,H p=ζ->Q (.ref p) (i7 H p (.dK []))
def b95(K:AE):TE:=λ_ H Q=>∀p,H p=ζ->Q (.ref p) (i7 H p (.dT K []))
section
variable {X:Cx}{pos:Pos}
theorem b5a:PE X (.Dict [] [] pos) b94:=λpins s σ H Q I h=>
 wpAny_Dict_empty ⟨.ref s.heap.objs.size,_,I.laid (a:=s.heap.objs.size) (o:= .dK []) (t':=s.toks) (λ_ _ q=>AR _ q) (AN _) (b3R s.heap I.big),rfl,h _ (I.hok.fresh (AN _))⟩
theorem b5b:PE X (.Dict [] [] pos) (b95 X.K):=λpins s σ H Q I h=>
 wpAny_Dict_empty ⟨.ref s.heap.objs.size,_,I.laid (a:=s.heap.objs.size) (o:= .dT X.K []) (t':=s.toks) (λ_ _ q=>AR _ q) (AN _) (a9e s.heap I.big),rfl,h _ (I.hok.fresh (AN _))⟩
end
def b5K:List (TE×TE)->St->Hp->(List (V×V)->Hp->Prop)->Prop
 |[],_,H,Q=>Q [] H
 |(tk,tv)::r,σ,H,Q=>tk σ H λx H1=>tv σ H1 λy H2=>b5K r σ H2 λps H3=>Q ((x,y)::ps) H3
abbrev VV:List (V×V)->List (AA×AA)->Prop:=Paired λp q=>j3 p.1 q.1/\j3 p.2 q.2
def PPs(X:Cx)(pos:Pos)(keys:List (Option AG))(values:List AG)(trs:List (TE×TE)):Prop:=
 ∀(pins:List (AB×Obj)) (s:AC) (σ:St) (H:Hp) (Q:List (V×V)->Hp->Prop),e9 X pins σ H s->b5K trs σ H Q->
  AF (model X.prog X.w) X.A (evalPairs (pairTrees keys values X.env pos)) (λvs s'=>∃ps H',e9 X pins σ H' s'/\VV ps vs/\Q ps H') X.xe s
theorem b7j{X:Cx}{pos:Pos}:PPs X pos [] [] []:=λpins s σ H Q I h=>pairTrees_nil_walk ⟨[],H,I,.nil,h⟩
theorem b5i{X:Cx}{pos:Pos}{k v:AG}{ks:List (Option AG)}{vs:List AG}{tk tv:TE}{trs:List (TE×TE)}(hk:PE X k tk)(hv:PE X v tv)(hr:PPs X pos ks vs trs):
 PPs X pos (ξ k::ks) (v::vs) ((tk,tv)::trs):=λpins s σ H Q I h=>
 pairTrees_cons_walk (C8 (hk pins s σ H _ I h) λu s1 h0=>j5 h0 λx H1 I1 rx q1=>C8 (hv pins s1 σ H1 _ I1 q1) λw2 s2 h0=>j5 h0 λy H2 I2 ry q2=>
  C8 (hr pins s2 σ H2 _ I2 q2) λws s3 h0=>j5 h0 λps H3 I3 rel q3=>⟨(x,y)::ps,H3,I3,.cons ⟨rx,ry⟩ rel,q3⟩)
section
variable {X:Cx}{pins:List (AB×Obj)}{σ:St}{H:Hp}{s:AC}{a:AB}{y d:V}{u r:AA}{o:Option V}{A:AK}{E:AA->AC->Prop}
end
section
variable {X:Cx}{o e f:AG}{apos cpos:Pos}{td ty tx:TE}
end
section
variable {X:Cx}{pins:List (AB×Obj)}{σ:St}{H:Hp}{s:AC}{a:AB}{kvs:List (f6×V)}{A:AK}{E:AA->AC->Prop}
end
section
variable {X:Cx}{pins:List (AB×Obj)}{σ:St}{H:Hp}{s:AC}{a:AB}{y:V}{u:AA}{A:AK}{E:AA->AC->Prop}
end
end L2
namespace Att
open PySem PySem.W PySem.Calls PyProof.Rows
section
variable {prog:AJ}{w:AI}{A:AK}{E:AA->AC->Prop}{s:AC}{K:Frag}
end
end Att
namespace L2
open PySem PySem.Spec PyProof.Rows
section
variable {P:AJ}{w:AI}{K:AE}{mg:Str->Option AA}{base:Heap}
end
section
variable {X:Cx}
end
section
variable {κ:Type}[DecidableEq κ]
end
end L2
set_option maxHeartbeats 4000000
namespace PU
open PySem PySem.Spec PyProof.Rows L2
abbrev PV:=PyData
def TqT(K:AE)(H:Hp)(a:AB)(xs:List V):Prop:=
 H a=ξ (.tup xs)\/∃(o:Obj) (its:Array AA) (n:Nat),K.lookup a=ξ o/\o.cls= .type "tuple"/\o.data= .seq its n/\its.size<=AM/\j4 xs its.toList
theorem TqT.of{K:AE}{H:Hp}{a:AB}{xs:List V}(h:H a=ξ (.tup xs)):TqT K H a xs:= .inl h
theorem TqT.sq{K:AE}{H:Hp}{a:AB}{xs:List V}(h:TqT K H a xs):SqT K H a xs:=h.elim (λh=> .inl (.inl h)) .inr
theorem b15{K:AE}{H H':Hp}{a:AB}{xs:List V}(s:g8 H H')(h:TqT K H a xs):TqT K H' a xs:=h.elim (λh=> .inl (s _ _ h)) .inr
def b1i(K:AE)(x:Str)(v:V):Prop:=∃(a:AB) (oc:AA) (od:Option AB) (fd:FuncData) (osl:Array (Option AA)),v= .ref a/\K.lookup a=ξ ⟨oc,od,.func fd,osl⟩/\fd.name=x
def N6(K:AE)(x:Str)(C:AB):Prop:=PySem.W.nsIn K mainGlobals x=ξ (ξ (.ref C))/\∃(oc:AA) (od:Option AB) (cd:ClassData) (osl:Array (Option AA)),K.lookup C=ξ ⟨oc,od,.cls cd,osl⟩/\cd.name=x
theorem N6.inj{K:AE}{x y:Str}{C:AB}(h:N6 K x C)(h':N6 K y C):x=y:=by
 obtain⟨_,_,_,_,_,k,n⟩:=h;obtain⟨_,_,_,_,_,k',n'⟩:=h';rw [k] at k';cases k';rw [<-n,n']
theorem N6.uniq{K:AE}{x:Str}{C D:AB}(h:N6 K x C)(h':N6 K x D):C=D:=by
 have:=h.1.symm.trans h'.1;cases this;rfl
def b8x(K:AE)(H:Hp)(x:Str)(v:V):Prop:=∃(a C:AB) (φ:Heap->Prop),v= .ref a/\H a=ξ (.ext φ)/\
 (∀h:Heap,φ h->∃oe vs,h.get? a=ξ oe/\oe.cls= .ref C/\oe.data= .fields vs/\oe.dict=ζ)/\N6 K x C
def a8V(K:AE)(H:Hp)(x:Str)(t:PV)(v:V):Prop:=(t= .none/\b1i K x v)\/(t= .bool true/\b8x K H x v)
theorem a8V.ref{K:AE}{H:Hp}{x:Str}{t:PV}{v:V}(h:a8V K H x t v):∃a,v= .ref a:=by
 rcases h with⟨_,a,_,_,_,_,e,_⟩|⟨_,a,_,_,e,_⟩<;>exact⟨a,e⟩
theorem a8V.mono{K:AE}{H H':Hp}{x:Str}{t:PV}{v:V}(s:g8 H H')(h:a8V K H x t v):a8V K H' x t v:=by
 rcases h with h|⟨z,a,C,φ,e,q,r⟩
 ·exact .inl h
 ·exact .inr ⟨z,a,C,φ,e,s _ _ q,r⟩
def a6A(K:AE)(H:Hp)(x:Str)(m:V)(fs:List (Str×V))(v:V):Prop:=
 (m= .bl false/\∃a C dx,v= .ref a/\H a=ξ (.ins C dx fs)/\N6 K x C)\/
 (m= .int 0/\∃(a C dx:AB) (φ:Heap->Prop),v= .ref a/\H a=ξ (.ext φ)/\(∀h:Heap,φ h->∃oe vs,h.get? a=ξ oe/\oe.cls= .ref C/\oe.data= .fields vs/\oe.dict=ξ dx)/\H dx=ξ (.xd fs)/\N6 K x C)
theorem a6A.ref{K:AE}{H:Hp}{x:Str}{m:V}{fs:List (Str×V)}{v:V}(h:a6A K H x m fs v):∃a,v= .ref a:=by
 rcases h with⟨_,a,_,_,e,_⟩|⟨_,a,_,_,_,e,_⟩<;>exact⟨a,e⟩
theorem a6A.mono{K:AE}{H H':Hp}{x:Str}{m:V}{fs:List (Str×V)}{v:V}(s:g8 H H')(h:a6A K H x m fs v):a6A K H' x m fs v:=by
 rcases h with⟨z,a,C,dx,e,q,n⟩|⟨z,a,C,dx,φ,e,q,r,d,n⟩
 ·exact .inl ⟨z,a,C,dx,e,s _ _ q,n⟩
 ·exact .inr ⟨z,a,C,dx,φ,e,s _ _ q,r,s _ _ d,n⟩
def kP:f6->PV
 | .inl i=> .int i
 | .inr x=> .str x
def s1{α:Type}(kv:f6×α):List f6×α:=([kv.1],kv.2)
mutual
def A5(K:AE)(H:Hp):PV->V->Prop
 | .none,v=>v= .non
 | .bool b,v=>v= .bl b
 | .int i,v=>v= .int i
 | .str x,v=>v= .str x
 | .tuple ps,v=>∃a xs,v= .ref a/\TqT K H a xs/\h9 K H ps xs
 | .list ps,v=>∃a xs,v= .ref a/\Z0 K H a xs/\h9 K H ps xs
 | .dict kvs,v=>(∃a ys,v= .ref a/\H a=ξ (.dK ys)/\a0v K H kvs (ys.map s1))\/(∃a xs,v= .ref a/\Rd H a (.dT K xs)/\a0v K H kvs (([],.non)::xs))\/(∃x t,kvs=[(.str x,t)]/\a8V K H x t v)\/(∃x m fs,a6A K H x m fs v/\a02 K H kvs ((x,m)::fs))
def h9(K:AE)(H:Hp):List PV->List V->Prop
 |[],vs=>vs=[]
 |p::ps,vs=>∃v r,vs=v::r/\A5 K H p v/\h9 K H ps r
def a0v(K:AE)(H:Hp):List (PV×PV)->List (List f6×V)->Prop
 |[],ys=>ys=[]
 |(k,p)::r,ys=>∃kk v t,ys=(kk,v)::t/\k= .tuple (kk.map kP)/\A5 K H p v/\a0v K H r t
def a02(K:AE)(H:Hp):List (PV×PV)->List (Str×V)->Prop
 |[],ys=>ys=[]
 |(k,p)::r,ys=>∃f v t,ys=(f,v)::t/\k= .str f/\A5 K H p v/\a02 K H r t
end
theorem r9{K:AE}{H H':Hp}{a:AB}{xs:List V}(s:g8 H H')(h:SqT K H a xs):SqT K H' a xs:=by
 rcases h with(h|⟨o,h⟩)|h
 ·exact .inl (.inl (s _ _ h))
 ·exact .inl (.inr ⟨o,s _ _ h⟩)
 ·exact .inr h
theorem B2{K:AE}{H H':Hp}{a:AB}{xs:List V}(s:g8 H H')(h:Z0 K H a xs):Z0 K H' a xs:=by
 rcases h with(h|⟨o,h⟩)|h
 ·exact .inl (.inl (s _ _ h))
 ·exact .inl (.inr ⟨o,s _ _ h⟩)
 ·exact .inr h
theorem b7p{K:AE}{H:Hp}{a:AB}{xs ys:List (List f6×V)}(h:Rd H a (.dT K xs))(h1:Rd H a (.dT K ys)):xs=ys:=by
 rcases h with h|⟨_,h⟩<;>rcases h1 with h1|⟨_,h1⟩<;>rw [h] at h1<;>cases h1<;>rfl
theorem a29{H H1:Hp}{a:AB}{u:HO}(s:∀b o,H b=ξ o->H1 b=ξ o)(h:Rd H a u):Rd H1 a u:=h.imp (s _ _) λ⟨o,q⟩=>⟨o,s _ _ q⟩
mutual
theorem A5.mono{K:AE}{H H':Hp}(s:g8 H H'):∀(p:PV) {v:V},A5 K H p v->A5 K H' p v
 | .none,_,h=>h
 | .bool _,_,h=>h
 | .int _,_,h=>h
 | .str _,_,h=>h
 | .dict kvs,_,.inl ⟨a,ys,q,h,r⟩=> .inl ⟨a,ys,q,s _ _ h,a0v.mono s kvs r⟩
 | .dict kvs,_,.inr (.inl ⟨a,xs,q,h,r⟩)=> .inr (.inl ⟨a,xs,q,a29 s h,a0v.mono s kvs r⟩)
 | .dict _,_,.inr (.inr (.inl ⟨x,t,e,h⟩))=> .inr (.inr (.inl ⟨x,t,e,h.mono s⟩))
 | .dict kvs,_,.inr (.inr (.inr ⟨x,m,fs,h,r⟩))=> .inr (.inr (.inr ⟨x,m,fs,h.mono s,a02.mono s kvs r⟩))
 | .tuple ps,_,⟨a,xs,e,q,r⟩=>⟨a,xs,e,b15 s q,h9.mono s ps r⟩
 | .list ps,_,⟨a,xs,e,q,r⟩=>⟨a,xs,e,B2 s q,h9.mono s ps r⟩
theorem h9.mono{K:AE}{H H':Hp}(s:g8 H H'):∀(ps:List PV) {vs:List V},h9 K H ps vs->h9 K H' ps vs
 |[],_,h=>h
 |p::ps,_,⟨v,r,e,q,t⟩=>⟨v,r,e,A5.mono s p q,h9.mono s ps t⟩
theorem a0v.mono{K:AE}{H H':Hp}(s:g8 H H'):∀(es:List (PV×PV)) {ys:List (List f6×V)},a0v K H es ys->a0v K H' es ys
 |[],_,h=>h
 |(k,p)::es,_,⟨kk,v,r,e,z,q,t⟩=>⟨kk,v,r,e,z,A5.mono s p q,a0v.mono s es t⟩
theorem a02.mono{K:AE}{H H':Hp}(s:g8 H H'):∀(es:List (PV×PV)) {ys:List (Str×V)},a02 K H es ys->a02 K H' es ys
 |[],_,h=>h
 |(k,p)::es,_,⟨kk,v,r,e,z,q,t⟩=>⟨kk,v,r,e,z,A5.mono s p q,a02.mono s es t⟩
end
theorem h9.length{K:AE}{H:Hp}:∀{ps:List PV} {vs:List V},h9 K H ps vs->vs.length=ps.length
 |[],_,h=>by cases h;rfl
 |_::ps,_,⟨v,r,e,_,t⟩=>by subst e;rw [AY,AY,h9.length t]
theorem h9.get{K:AE}{H:Hp}:∀{ps:List PV} {vs:List V} {i:Nat} {p:PV},h9 K H ps vs->ps[i]?=ξ p->∃v,vs[i]?=ξ v/\A5 K H p v
 |[],_,_,_,_,h=>by simp at h
 |q::ps,_,0,p,⟨v,r,e,a,t⟩,h=>by subst e;simp at h;subst h;exact⟨v,rfl,a⟩
 |q::ps,_,i+1,p,⟨v,r,e,a,t⟩,h=>by subst e;exact h9.get (i:=i) t (by simpa using h)
theorem h9.getV{K:AE}{H:Hp}:∀{ps:List PV} {vs:List V} {i:Nat} {v:V},h9 K H ps vs->vs[i]?=ξ v->∃p,ps[i]?=ξ p/\A5 K H p v
 |[],_,_,_,h,e=>by cases h;simp at e
 |q::ps,_,0,v,⟨w,r,e,a,t⟩,h=>by subst e;simp at h;subst h;exact⟨q,rfl,a⟩
 |q::ps,_,i+1,v,⟨w,r,e,a,t⟩,h=>by subst e;exact h9.getV (i:=i) t (by simpa using h)
theorem h9.append{K:AE}{H:Hp}:∀{ps qs:List PV} {vs ws:List V},h9 K H ps vs->h9 K H qs ws->h9 K H (ps++qs) (vs++ws)
 |[],_,_,_,h,t=>by cases h;exact t
 |_::ps,_,_,_,⟨v,r,e,a,t⟩,s=>by subst e;exact⟨v,_,rfl,a,h9.append t s⟩
theorem h9.drop{K:AE}{H:Hp}:∀{ps:List PV} {vs:List V} (n:Nat),h9 K H ps vs->h9 K H (ps.drop n) (vs.drop n)
 |_,_,0,h=>h
 |[],_,n+1,h=>by cases h;rfl
 |_::ps,_,n+1,⟨v,r,e,a,t⟩=>by subst e;exact h9.drop n t
theorem h9.take{K:AE}{H:Hp}:∀{ps:List PV} {vs:List V} (n:Nat),h9 K H ps vs->h9 K H (ps.take n) (vs.take n)
 |_,_,0,h=>rfl
 |[],_,n+1,h=>by cases h;rfl
 |_::ps,_,n+1,⟨v,r,e,a,t⟩=>by subst e;exact⟨v,_,rfl,a,h9.take n t⟩
def p7(K:AE)(H:Hp):List (List f6×PV)->List (List f6×V)->Prop
 |[],ys=>ys=[]
 |(k,p)::r,ys=>∃v t,ys=(k,v)::t/\A5 K H p v/\p7 K H r t
theorem p7.mono{K:AE}{H H':Hp}(s:g8 H H'):∀(kvs:List (List f6×PV)) {ys:List (List f6×V)},p7 K H kvs ys->p7 K H' kvs ys
 |[],_,h=>h
 |(k,p)::r,_,⟨v,t,e,q,h⟩=>⟨v,t,e,A5.mono s p q,p7.mono s r h⟩
inductive V2 where
 |lst (ps:List PV)|dct (kvs:List (List f6×PV))|txt (kvs:List (List f6×PV))
inductive d7 where
 |v (p:PV)|ow (c:V2)|bo (c:V2)
abbrev d7.own(ps:List PV):d7:= .ow (.lst ps)
abbrev d7.bor(ps:List PV):d7:= .bo (.lst ps)
abbrev d7.dct(kvs:List (List f6×PV)):d7:= .ow (.dct kvs)
def R7(K:AE)(F H:Hp)(v:V):V2->Prop
 | .lst ps=>∃a xs,v= .ref a/\F a=ζ/\H a=ξ (.lst xs)/\h9 K F ps xs
 | .dct kvs=>∃a xs,v= .ref a/\F a=ζ/\H a=ξ (.dT K xs)/\p7 K F kvs xs
 | .txt kvs=>∃a xs,v= .ref a/\F a=ζ/\H a=ξ (.dK xs)/\p7 K F kvs (xs.map s1)
def K8(K:AE)(F H:Hp)(v:V):d7->Prop
 | .v p=>A5 K F p v
 | .ow c=>R7 K F H v c
 | .bo c=>R7 K F H v c
theorem R7.at_{K:AE}{F H:Hp}{v:V}:∀{c:V2},R7 K F H v c->∃a o,v= .ref a/\F a=ζ/\H a=ξ o
 | .lst _,⟨a,_,e,n,q,_⟩=>⟨a,_,e,n,q⟩
 | .dct _,⟨a,_,e,n,q,_⟩=>⟨a,_,e,n,q⟩
 | .txt _,⟨a,_,e,n,q,_⟩=>⟨a,_,e,n,q⟩
def NT(o:HO):Prop:=∀xs,o≠.tup xs
structure R5(F H F' H':Hp):Prop where
 f:g8 F F'
 h:g8 H H'
 fh:g8 F' H'
 nw:∀b o,F b=ζ->H b=ξ o->NT o->F' b=ζ
 nf:∀b o u,F' b=ξ (.frz o u)->F b=ξ (.frz o u)
theorem g8.refl(H:Hp):g8 H H:=λ_ _ e=>e
theorem R5.refl{F H:Hp}(s:g8 F H):R5 F H F H:=⟨g8.refl F,g8.refl H,s,λ_ _ e _ _=>e,λ_ _ _ e=>e⟩
theorem R5.trans{F H F1 H1 F2 H2:Hp}(a:R5 F H F1 H1)(b:R5 F1 H1 F2 H2):R5 F H F2 H2:=
 ⟨a.f.trans b.f,a.h.trans b.h,b.fh,λc o e q t=>b.nw c o (a.nw c o e q t) (a.h c o q) t,λc o u e=>a.nf c o u (b.nf c o u e)⟩
theorem b4R{F0 F:Hp}{a:AB}{xs:List V}(h:∀b o u,F b=ξ (.frz o u)->F0 b=ξ (.frz o u)):∀b o u,i7 F a (.lst xs) b=ξ (.frz o u)->F0 b=ξ (.frz o u):=λb o u z=>by
 by_cases hb:b=a
 ·subst hb;rw [c8] at z;cases z
 ·rw [a9 hb] at z;exact h _ _ _ z
theorem R7.ext{K:AE}{F H F' H':Hp}{v:V}(x:R5 F H F' H'):∀{c:V2},R7 K F H v c->R7 K F' H' v c
 | .lst _,⟨a,xs,e,n,q,r⟩=>⟨a,xs,e,x.nw _ _ n q (λ_ h=>nomatch h),x.h _ _ q,h9.mono x.f _ r⟩
 | .dct _,⟨a,xs,e,n,q,r⟩=>⟨a,xs,e,x.nw _ _ n q (λ_ h=>nomatch h),x.h _ _ q,p7.mono x.f _ r⟩
 | .txt _,⟨a,xs,e,n,q,r⟩=>⟨a,xs,e,x.nw _ _ n q (λ_ h=>nomatch h),x.h _ _ q,p7.mono x.f _ r⟩
theorem K8.ext{K:AE}{F H F' H':Hp}{v:V}(x:R5 F H F' H'):∀{r:d7},K8 K F H v r->K8 K F' H' v r
 | .v p,h=>A5.mono x.f p h
 | .ow _,h=>R7.ext x h
 | .bo _,h=>R7.ext x h
def V2.rd:V2->PV
 | .lst ps=> .list ps
 | .dct kvs=> .dict ((.tuple [],.none)::kvs.map λkv=>(.tuple (kv.1.map kP),kv.2))
 | .txt kvs=> .dict (kvs.map λkv=>(.tuple (kv.1.map kP),kv.2))
def d7.rd:d7->PV
 | .v p=>p
 | .ow c=>c.rd
 | .bo c=>c.rd
def d7.toVal:d7->Option PV
 | .v p=>ξ p
 | .ow (.lst ps)=>ξ (.list ps)
 | .ow (.dct _)=>ζ
 | .ow (.txt _)=>ζ
 | .bo _=>ζ
theorem a0v.of{K:AE}{F H:Hp}(s:g8 F H):∀{kvs:List (List f6×PV)} {xs:List (List f6×V)},p7 K F kvs xs->a0v K H (kvs.map λkv=>(PyData.tuple (kv.1.map kP),kv.2)) xs
 |[],_,h=>h
 |(k,p)::r,_,⟨v,t,e,q,h⟩=>⟨k,v,t,e,rfl,A5.mono s p q,a0v.of s h⟩
theorem R7.rd{K:AE}{F H:Hp}{v:V}(s:g8 F H):∀{c:V2},R7 K F H v c->A5 K H c.rd v
 | .lst ps,⟨a,xs,e,n,q,r⟩=>⟨a,xs,e,Z0.of q,h9.mono s _ r⟩
 | .dct kvs,⟨a,xs,e,n,q,r⟩=> .inr (.inl ⟨a,xs,e,.inl q,[],.non,xs,rfl,rfl,rfl,a0v.of s r⟩)
 | .txt kvs,⟨a,xs,e,n,q,r⟩=> .inl ⟨a,xs,e,q,a0v.of s r⟩
theorem K8.rd{K:AE}{F H:Hp}{v:V}(s:g8 F H):∀{r:d7},K8 K F H v r->A5 K H r.rd v
 | .v p,h=>A5.mono s p h
 | .ow _,h=>R7.rd s h
 | .bo _,h=>R7.rd s h
structure o9(K:AE)(F H F' H':Hp)(v:V)(r:d7):Prop where
 x:R5 F H F' H'
 rep:K8 K F' H' v r
 fr:∀c a,r= .ow c->v= .ref a->H a=ζ
theorem o9.val{K:AE}{F H F' H':Hp}{v:V}{p:PV}(x:R5 F H F' H')(r:A5 K F' p v):o9 K F H F' H' v (.v p):=⟨x,r,λ_ _ e=>nomatch e⟩
theorem o9.here{K:AE}{F H:Hp}{v:V}{p:PV}(s:g8 F H)(r:A5 K F p v):o9 K F H F H v (.v p):=o9.val (R5.refl s) r
theorem o9.trans{K:AE}{F H F1 H1 F2 H2:Hp}{v:V}{r:d7}(a:R5 F H F1 H1)(b:o9 K F1 H1 F2 H2 v r):o9 K F H F2 H2 v r:=
 ⟨a.trans b.x,b.rep,λps c e q=>a.h.free (b.fr ps c e q)⟩
theorem o9.toVal{K:AE}{F H F' H':Hp}{v:V}{p:PV}:∀{r:d7},o9 K F H F' H' v r->r.toVal=ξ p->∃F2,o9 K F H F2 H' v (.v p)
 | .v q,o,e=>by cases e;exact⟨F',o⟩
 | .bo _,_,e=>nomatch e
 | .ow (.dct _),_,e=>nomatch e
 | .ow (.txt _),_,e=>nomatch e
 | .ow (.lst ps),o,e=>by
   cases e;obtain⟨a,xs,rfl,n,q,r⟩:=o.rep;have fr:=o.fr _ a rfl rfl;have up:g8 F' (i7 F' a (.lst xs)):=λb u z=>by rw [a9 (f7 z n)];exact z
   refine⟨i7 F' a (.lst xs),o9.val ⟨o.x.f.trans up,o.x.h,λb u z=> ?_,λb u z y t=> ?_,b4R o.x.nf⟩ ⟨a,xs,rfl,Z0.of c8,h9.mono up _ r⟩⟩
   ·by_cases hb:b=a
    ·subst hb;rw [c8] at z;cases z;exact q
    ·rw [a9 hb] at z;exact o.x.fh _ _ z
   ·rw [a9 (f7 y fr)];exact o.x.nw b u z y t
theorem y3{H:Hp}{a:AB}{o:HO}(n:H a=ζ):g8 H (i7 H a o):=λb u z=>by rw [a9 (f7 z n)];exact z
theorem R5.lay{F H:Hp}{a:AB}{o:HO}(s:g8 F H)(n:H a=ζ)(hf:∀x u,o≠.frz x u:=by intro _ _ h;cases h):R5 F H (i7 F a o) (i7 H a o):=
 ⟨y3 (s.free n),y3 n,λb u z=>by
  by_cases hb:b=a
  ·subst hb;rw [c8] at z ⊢;exact z
  ·rw [a9 hb] at z ⊢;exact s _ _ z,λb u z y _=>by rw [a9 (f7 y n)];exact z,λb w u z=>by
  by_cases hb:b=a
  ·subst hb;rw [c8] at z;exact absurd (Option.some.inj z) (hf w u)
  ·rw [a9 hb] at z;exact z⟩
theorem R5.layH{F H:Hp}{a:AB}{o:HO}(s:g8 F H)(n:H a=ζ):R5 F H F (i7 H a o):=
 ⟨g8.refl F,y3 n,λb u z=>by rw [a9 (f7 (s _ _ z) n)];exact s _ _ z,λb u z y _=>z,λ_ _ _ z=>z⟩
theorem o9.tup{K:AE}{F H:Hp}{a:AB}{xs:List V}{ps:List PV}(s:g8 F H)(n:H a=ζ)(r:h9 K F ps xs):o9 K F H (i7 F a (.tup xs)) (i7 H a (.tup xs)) (.ref a) (.v (.tuple ps)):=
 o9.val (R5.lay s n) ⟨a,xs,rfl,TqT.of c8,h9.mono (y3 (s.free n)) _ r⟩
theorem o9.lst{K:AE}{F H:Hp}{a:AB}{xs:List V}{ps:List PV}(s:g8 F H)(n:H a=ζ)(r:h9 K F ps xs):o9 K F H F (i7 H a (.lst xs)) (.ref a) (.own ps):=
 ⟨R5.layH s n,⟨a,xs,rfl,s.free n,c8,r⟩,λ_ _ _ e=>by cases e;exact n⟩
abbrev b9:=List (Option d7)
structure C9(K:AE)(F H:Hp)(σ:L2.St)(ρ:b9):Prop where
 fh:g8 F H
 len:σ.length=ρ.length
 at_:∀(i:Nat) (r:d7),ρ[i]?=ξ (ξ r)->∃v,σ[i]?=ξ (ξ v)/\K8 K F H v r
 nb:∀(i:Nat) (c:V2),ρ[i]?≠ξ (ξ (.bo c))
 ap:∀(i j:Nat) (c d:V2) (a:AB),i≠j->ρ[i]?=ξ (ξ (.ow c))->ρ[j]?=ξ (ξ (.ow d))->σ[i]?=ξ (ξ (.ref a))->σ[j]?≠ξ (ξ (.ref a))
theorem C9.ext{K:AE}{F H F' H':Hp}{σ:L2.St}{ρ:b9}(e:C9 K F H σ ρ)(x:R5 F H F' H'):C9 K F' H' σ ρ:=
 ⟨x.fh,e.len,λi r q=>let ⟨v,a,b⟩:=e.at_ i r q;⟨v,a,b.ext x⟩,e.nb,e.ap⟩
abbrev M:=b9->Option d7
def tM(K:AE)(m:M):TE:=λσ H Q=>∃F ρ r,C9 K F H σ ρ/\m ρ=ξ r/\∀v F' H',o9 K F H F' H' v r->Q v H'
abbrev EE(X:Cx)(e:AG)(m:M):Prop:=PE X e (tM X.K m)
theorem m6{X:Cx}{e:AG}{t t':TE}(h:PE X e t)(i:∀σ H Q,t' σ H Q->t σ H Q):PE X e t':=λpins s σ H Q I q=>h pins s σ H Q I (i σ H Q q)
theorem a8v{X:Cx}{e:AG}{t t':TT}(h:PT X e t)(i:∀σ H Q,t' σ H Q->t σ H Q):PT X e t':=λpins s σ H Q I q=>h pins s σ H Q I (i σ H Q q)
theorem b5o{X:Cx}{e:AG}{t t':TT}(h:PW X e t)(i:∀σ H Q,t' σ H Q->t σ H Q):PW X e t':=λwh pins s σ H Q I q=>h wh pins s σ H Q I (i σ H Q q)
theorem b45{X:Cx}{e:List AG}{t t':TA}(h:PA X e t)(i:∀σ H Q,t' σ H Q->t σ H Q):PA X e t':=λpos pins s σ H Q I q=>h pos pins s σ H Q I (i σ H Q q)
theorem C6{X:Cx}{e:Stmt}{t t':TS}(h:PS X e t)(i:∀D σ H,t' D σ H->t D σ H):PS X e t':=λpins s σ H D I q=>h pins s σ H D I (i D σ H q)
theorem a4G{X:Cx}{e:List Stmt}{t t':TS}(h:PSs X e t)(i:∀D σ H,t' D σ H->t D σ H):PSs X e t':=λpins s σ H D I q=>h pins s σ H D I (i D σ H q)
def mC(p:PV):M:=λ_=>ξ (.v p)
def a7(i:Nat):M:=λρ=>match ρ[i]? with
 |some (ξ (.ow c))=>ξ (.bo c)
 |some (ξ r)=>ξ r
 |_=>ζ
section
variable {X:Cx}{a b c:AG}{ma mb mc:M}{pos:Pos}
theorem a0c{e:AG}{v:V}{p:PV}(h:PE X e (tC v))(r:∀H,A5 X.K H p v):EE X e (mC p):=
 m6 h λσ H Q h0=>k4 h0 λF ρ q he hm k=>by
  cases hm;exact k v F H (o9.here he.fh (r F))
theorem d9{i j pos}:EE X (.Constant (.int i) j pos) (mC (.int i)):=a0c b9y λ_=>rfl
theorem a2Q{b j pos}:EE X (.Constant (.bool b) j pos) (mC (.bool b)):=a0c c05 λ_=>rfl
theorem b32{j pos}:EE X (.Constant .none j pos) (mC .none):=a0c b9A λ_=>rfl
theorem a1f{x j pos}:EE X (.Constant (.str x) j pos) (mC (.str x)):=a0c b9D λ_=>rfl
theorem a3(i:Nat){x:Str}{pos:Pos}(h:PE X (.Name x pos) (C7 i)):EE X (.Name x pos) (a7 i):=
 m6 h λσ H Q h0=>k4 h0 λF ρ r he hm k=>by
  unfold a7 at hm;split at hm
  ·rename_i ps e;cases hm;obtain⟨v,e1,rr⟩:=he.at_ i _ e;exact⟨v,e1,k v F H ⟨R5.refl he.fh,rr,λ_ _ z=>nomatch z⟩⟩
  ·rename_i r' nn e;cases hm;obtain⟨v,e1,rr⟩:=he.at_ i _ e;exact⟨v,e1,k v F H ⟨R5.refl he.fh,rr,λps _ z=>absurd z (nn ps)⟩⟩
  ·cases hm
def rM2(K:AE)(g:d7->d7->Option d7):R2:=λx y H Q=>∃F rx ry rz,g8 F H/\K8 K F H x rx/\K8 K F H y ry/\g rx ry=ξ rz/\∀v F' H',o9 K F H F' H' v rz->Q v H'
abbrev OpM(X:Cx)(f:AA->AA->Sem AA)(g:d7->d7->Option d7):Prop:=OpR X f (rM2 X.K g)
def m2(g:d7->d7->Option d7)(ma mb:M):M:=λρ=>(ma ρ).bind λx=>(mb ρ).bind λy=>g x y
theorem bind_some{α β:Type}{o:Option α}{f:α->Option β}{b:β}(h:o.bind f=ξ b):∃a,o=ξ a/\f a=ξ b:=by
 cases o with
 |none=>cases h
 |some a=>exact⟨a,rfl,h⟩
theorem a8G{K:AE}{g:d7->d7->Option d7}{σ:L2.St}{H:Hp}{Q:VK}(h:tM K (m2 g ma mb) σ H Q):tOp (rM2 K g) (tM K ma) (tM K mb) σ H Q:=by
 obtain⟨F,ρ,r,he,hm,k⟩:=h;obtain⟨rx,e1,hm⟩:=bind_some hm;obtain⟨ry,e2,hm⟩:=bind_some hm;exact⟨F,ρ,rx,he,e1,λv F1 H1 o1=>⟨F1,ρ,ry,he.ext o1.x,e2,λu F2 H2 o2=>⟨F2,rx,ry,r,o2.x.fh,o1.rep.ext o2.x,o2.rep,hm,λz F3 H3 o3=>k z F3 H3 (o9.trans (o1.x.trans o2.x) o3)⟩⟩⟩
theorem g7{op:Operator}{g:d7->d7->Option d7}(ho:OpM X (binaryOp op) g)(ha:EE X a ma)(hb:EE X b mb):EE X (.BinOp a op b pos) (m2 g ma mb):=
 m6 (c07 ho ha hb) λ_ _ _ h=>a8G h
theorem a5a{op:CmpOp}{g:d7->d7->Option d7}(ho:OpM X (compareOp op) g)(ha:EE X a ma)(hb:EE X b mb)(hm:behindInMarks op b=false):EE X (.Compare a [op] [b] pos) (m2 g ma mb):=
 m6 (b7g ho ha hb hm) λ_ _ _ h=>a8G h
theorem a7q{f:AA->AA->Sem AA}{r:R2}{g:d7->d7->Option d7}(h:OpR X f r)
 (i:∀F H x y rx ry rz,g8 F H->K8 X.K F H x rx->K8 X.K F H y ry->g rx ry=ξ rz->∀Q:VK,(∀v F' H',o9 X.K F H F' H' v rz->Q v H')->r x y H Q):OpM X f g:=
 λpins s σ H x y v u Q I rx ry ⟨F,ra,rb,rz,s0,h1,h2,h3,k⟩=>h pins s σ H x y v u Q I rx ry (i F H x y ra rb rz s0 h1 h2 h3 Q k)
end
def gI(f:Int->Int->PV):d7->d7->Option d7
 | .v (.int i),.v (.int j)=>ξ (.v (f i j))
 |_,_=>ζ
theorem b4U:∃f:(Int->Int->Prop)->Int->Int->Bool,∀C i j,f C i j=true↔C i j:=⟨λC i j=> @decide (C i j) (Classical.propDecidable _),λC i j=> @decide_eq_true_iff (C i j) (Classical.propDecidable _)⟩
def okC:(Int->Int->Prop)->Int->Int->Bool:=b4U.choose
theorem U9{C:Int->Int->Prop}{i j:Int}:okC C i j=true↔C i j:=b4U.choose_spec C i j
def gIc(C:Int->Int->Prop)[∀i j,Decidable (C i j)](f:Int->Int->PV):d7->d7->Option d7
 | .v (.int i),.v (.int j)=>if okC C i j=true then ξ (.v (f i j)) else ζ
 |_,_=>ζ
theorem b1B{f:Int->Int->PV}{rx ry rz:d7}(h:gI f rx ry=ξ rz):∃i j,rx= .v (.int i)/\ry= .v (.int j)/\rz= .v (f i j):=by
 unfold gI at h;split at h
 ·cases h;exact⟨_,_,rfl,rfl,rfl⟩
 ·cases h
theorem b4h{C:Int->Int->Prop}[∀i j,Decidable (C i j)]{f:Int->Int->PV}{rx ry rz:d7}(h:gIc C f rx ry=ξ rz):∃i j,rx= .v (.int i)/\ry= .v (.int j)/\C i j/\rz= .v (f i j):=by
 unfold gIc at h;split at h
 ·split at h
  ·rename_i c;cases h;exact⟨_,_,rfl,rfl,U9.mp c,rfl⟩
  ·cases h
 ·cases h
section
variable {X:Cx}
theorem b4X{f:AA->AA->Sem AA}{g:Int->Int->V}{g':Int->Int->PV}(h:OpR X f (rI0 g))(e:∀i j H,A5 X.K H (g' i j) (g i j)):OpM X f (gI g'):=
 a7q h λF H x y rx ry rz s h1 h2 h3 Q k=>by
  obtain⟨i,j,rfl,rfl,rfl⟩:=b1B h3;exact⟨i,j,h1,h2,k _ F H (o9.here s (e i j F))⟩
theorem b03{f:AA->AA->Sem AA}{C:Int->Int->Prop}[∀i j,Decidable (C i j)]{g:Int->Int->V}{g':Int->Int->PV}(h:OpR X f (rI C g))(e:∀i j H,A5 X.K H (g' i j) (g i j)):OpM X f (gIc C g'):=
 a7q h λF H x y rx ry rz s h1 h2 h3 Q k=>by
  obtain⟨i,j,rfl,rfl,c,rfl⟩:=b4h h3;exact⟨i,j,h1,h2,c,k _ F H (o9.here s (e i j F))⟩
end
mutual
def m9:PV->Nat->Bool
 | .list xs,n+1=>N2 xs n
 | .tuple xs,n+1=>N2 xs n
 | .list _,0=>false
 | .tuple _,0=>false
 | .dict _,_=>false
 | .none,_=>true
 | .bool _,_=>true
 | .int _,_=>true
 | .str _,_=>true
def N2:List PV->Nat->Bool
 |[],_=>true
 |x::xs,n=>m9 x n && N2 xs n
end
section
variable {X:Cx}{pins:List (AB×Obj)}{σ:L2.St}{H:Hp}{s:AC}
theorem a1r(I:e9 X pins σ H s){a:AB}{xs ys:List V}(h:Z0 X.K H a xs)(h':SqT X.K H a ys):False:=by
 obtain⟨its,r,p,_⟩:=I.list h;obtain⟨its',r',p',_⟩:=I.tuple h';exact SeqAt.ne_of_list_tuple p.isList (show s.heap.IsTuple a its'.toArray from p') rfl
theorem b7P(I:e9 X pins σ H s){x:Str}{v:V}(h:b8x X.K H x v):∃(a C:AB) (o:Obj) (vs:Array AA),v= .ref a/\s.heap.get? a=ξ o/\o.cls= .ref C/\o.data= .fields vs/\N6 X.K x C/\o.dict=ζ:=by
 obtain⟨a,C,φ,e,q,k,n⟩:=h;obtain⟨oe,vs,h1,h2,h3,h4⟩:=k _ (I.hok a _ q).1;exact⟨a,C,oe,vs,e,h1,h2,h3,n,h4⟩
theorem b1V{K:AE}{F:Hp}{k p:PV}{r:List (PV×PV)}{y:Str}{m v:V}{fs:List (Str×V)}(h:a6A K F y m fs v)(hr:a02 K F ((k,p)::r) ((y,m)::fs)):k= .str y/\(p= .bool false\/p= .int 0)/\a02 K F r fs:=by
 obtain⟨f,w,t,e,z,q,hr⟩:=hr;cases e;refine⟨z, ?_,hr⟩;rcases h with⟨rfl,_⟩|⟨rfl,_⟩
 ·cases p with
  |bool b=>cases q;exact .inl rfl
  |tuple _=>obtain⟨_,_,e,_⟩:=q;cases e
  |list _=>obtain⟨_,_,e,_⟩:=q;cases e
  |dict _=>
   rcases q with⟨_,_,e,_⟩|⟨_,_,e,_⟩|⟨_,_,_,q⟩|⟨_,_,_,q,_⟩
   ·cases e
   ·cases e
   ·ext l
   ·ext l
  |_=>cases q
 ·cases p with
  |int b=>cases q;exact .inr rfl
  |tuple _=>obtain⟨_,_,e,_⟩:=q;cases e
  |list _=>obtain⟨_,_,e,_⟩:=q;cases e
  |dict _=>
   rcases q with⟨_,_,e,_⟩|⟨_,_,e,_⟩|⟨_,_,_,q⟩|⟨_,_,_,q,_⟩
   ·cases e
   ·cases e
   ·ext l
   ·ext l
  |_=>cases q
mutual
theorem A5.inj(I:e9 X pins σ H s):∀(p q:PV) {v:V} {n m:Nat},m9 p n=true->m9 q m=true->A5 X.K H p v->A5 X.K H q v->p=q
 | .tuple ps,q,v,n,m,hp,hq,⟨a,xs,e,h,r⟩,h'=>by
   subst e;cases q with
   |tuple qs=>
    obtain⟨a',xs',e',h',r'⟩:=h';cases e';cases I.tuple_inj h.sq h'.sq;cases n<;>cases m<;>simp only [m9,AX] at hp hq
    rw [h9.inj I ps qs hp hq r r']
   |list qs=>obtain⟨a',xs',e',h',r'⟩:=h';cases e';exact(a1r I h' h.sq).elim
   |dict qs=>simp [m9] at hq
   |_=>cases h'
 | .list ps,q,v,n,m,hp,hq,⟨a,xs,e,h,r⟩,h'=>by
   subst e;cases q with
   |list qs=>
    obtain⟨a',xs',e',h',r'⟩:=h';cases e';cases I.list_inj h h';cases n<;>cases m<;>simp only [m9,AX] at hp hq
    rw [h9.inj I ps qs hp hq r r']
   |tuple qs=>obtain⟨a',xs',e',h',r'⟩:=h';cases e';exact(a1r I h h'.sq).elim
   |dict qs=>simp [m9] at hq
   |_=>cases h'
 | .dict _,_,_,_,_,hp,_,_,_=>by simp [m9] at hp
 | .none,q,v,n,m,hp,hq,h,h'| .bool _,q,v,n,m,hp,hq,h,h'| .int _,q,v,n,m,hp,hq,h,h'| .str _,q,v,n,m,hp,hq,h,h'=>by
   cases h;cases q with
   |tuple _=>obtain⟨_,_,e,_⟩:=h';cases e
   |list _=>obtain⟨_,_,e,_⟩:=h';cases e
   |dict _=>simp [m9] at hq
   |_=>cases h'<;>rfl
theorem h9.inj(I:e9 X pins σ H s):∀(ps qs:List PV) {vs:List V} {n m:Nat},N2 ps n=true->N2 qs m=true->h9 X.K H ps vs->h9 X.K H qs vs->ps=qs
 |[],qs,vs,n,m,_,_,h,h'=>by
  cases h;cases qs with
  |nil=>rfl
  |cons q qs=>obtain⟨_,_,e,_⟩:=h';cases e
 |p::ps,qs,vs,n,m,hp,hq,⟨v,r,e,h,t⟩,h'=>by
  subst e;cases qs with
  |nil=>cases h'
  |cons q qs=>
   obtain⟨v',r',e',h',t'⟩:=h';cases e';simp only [N2,Bool.and_eq_true] at hp hq;rw [A5.inj I p q hp.1 hq.1 h h',h9.inj I ps qs hp.2 hq.2 t t']
end
end
mutual
theorem b35:∀(p:PV) (n:Nat),m9 p n=true->PyData.eqv p p=true
 | .none,_,_=>by simp [PyData.eqv]
 | .bool _,_,_=>by simp [PyData.eqv]
 | .int _,_,_=>by simp [PyData.eqv]
 | .str _,_,_=>by simp [PyData.eqv]
 | .list xs,n+1,h=>by simp only [PyData.eqv];exact a0e xs n (by simpa [m9] using h)
 | .tuple xs,n+1,h=>by simp only [PyData.eqv];exact a0e xs n (by simpa [m9] using h)
 | .list xs,0,h=>by simp [m9] at h
 | .tuple xs,0,h=>by simp [m9] at h
 | .dict _,_,h=>by simp [m9] at h
theorem a0e:∀(ps:List PV) (n:Nat),N2 ps n=true->PyData.eqvAll ps ps=true
 |[],_,_=>by simp [PyData.eqvAll]
 |x::xs,n,h=>by
  have h':m9 x n=true/\N2 xs n=true:=by simpa [N2] using h
  simp only [PyData.eqvAll,b35 x n h'.1,a0e xs n h'.2,Bool.and_self]
end
def eAt(ps qs:List PV)(j:Nat):Bool:=match ps[j]?,qs[j]? with
 |some p,ξ q=>PyData.eqv p q
 |_,_=>false
theorem U3:∀(ps qs:List PV),PyData.eqvAll ps qs=((AZ (min ps.length qs.length)).all (eAt ps qs)&& ps.length==qs.length)
 |[],[]=>by simp [PyData.eqvAll]
 |[],_::_=>by simp [PyData.eqvAll]
 |_::_,[]=>by simp [PyData.eqvAll]
 |p::ps,q::qs=>by
  have e:min (p::ps).length (q::qs).length=min ps.length qs.length+1:=by simp only [AY];lia
  rw [e,List.range_succ_eq_map,List.all_cons,List.all_map];have h0:eAt (p::ps) (q::qs) 0=PyData.eqv p q:=rfl;have h1:(eAt (p::ps) (q::qs)∘Nat.succ)=eAt ps qs:=by funext j;simp [eAt,Function.comp]
  rw [h0,h1];simp only [PyData.eqvAll,U3 ps qs,AY,Bool.and_assoc];have e2:(ps.length+1==qs.length+1)=(ps.length==qs.length):=by
   rw [Bool.eq_iff_iff];simp
  rw [e2]
section
variable {X:Cx}{pins:List (AB×Obj)}{σ:L2.St}{H:Hp}{s:AC}
structure b3x(A:AK)(s:AC)(u w:AA)(b:Bool):Prop where
 rc:SeqAt.RcAt A s u w b
 ne:SeqAt.RcNeAt A s u w (!b)
 eq:SeqAt.EqAt A s u w b
theorem a7a(A:AK):A.in1.units=A.units+1:=rfl
theorem b2g{xs:List V}{its:List AA}{j:Nat}(r:j4 xs its)(h:j<its.length):∃x,xs[j]?=ξ x/\j3 x its[j]:=by
 have hx:j<xs.length:=by rw [r.length];exact h
 obtain⟨u,h1,h2⟩:=r.get (i:=j) (x:=xs[j]) (by simp [hx])
 rw [Ai h] at h1;cases h1;exact⟨xs[j],by simp [hx],h2⟩
theorem a99{A:AK}{ps qs:List PV}{xs ys:List V}{its its2:List AA}(r:h9 X.K H ps xs)(r':h9 X.K H qs ys)(rv:j4 xs its)(rv':j4 ys its2)
 (ih:∀p q x y u w,p∈ps->q∈qs->A5 X.K H p x->A5 X.K H q y->j3 x u->j3 y w->b3x A s u w (PyData.eqv p q)):
 ∀j (h1:j<its.toArray.size) (h2:j<its2.toArray.size),SeqAt.EqAt A s its.toArray[j] its2.toArray[j] (eAt ps qs j):=by
 intro j h1 h2
 have h1':j<its.length:=by simpa using h1
 have h2':j<its2.length:=by simpa using h2
 obtain⟨x,ex,rx⟩:=b2g rv h1'
 obtain⟨y,ey,ry⟩:=b2g rv' h2'
 obtain⟨p,ep,hp⟩:=r.getV ex
 obtain⟨q,eq,hq⟩:=r'.getV ey
 have:eAt ps qs j=PyData.eqv p q:=by simp [eAt,ep,eq]
 rw [this]
 have z:=(ih p q x y _ _ (BC ep) (BC eq) hp hq rx ry).eq
 simpa using z
theorem Q3:∀{ps:List PV} {n:Nat} {p:PV},N2 ps n=true->p∈ps->m9 p n=true
 |[],_,_,_,h=>by cases h
 |x::xs,n,p,h,hp=>by
  have h':m9 x n=true/\N2 xs n=true:=by simpa [N2] using h
  rcases AU.mp hp with rfl|hp
  ·exact h'.1
  ·exact Q3 h'.2 hp
theorem b0t(I:e9 X pins σ H s):∀(n:Nat) (A:AK) (p q:PV) (x y:V) (u w:AA),A.units+n<cLine->m9 p n=true->m9 q n=true->A5 X.K H p x->A5 X.K H q y->j3 x u->j3 y w->b3x A s u w (PyData.eqv p q):=by
 intro n
 induction n with
 |zero=>
  intro A p q x y u w hu hp hq rp rq rx ry;cases p with
  |none=>
   cases rp;cases rx;cases q with
   |none=>cases rq;cases ry;simp only [PyData.eqv];exact⟨.none_none,.none_none,.same _⟩
   |bool j=>cases rq;cases ry;simp only [PyData.eqv];exact⟨.none_bool _,.none_bool _,.none_bool _⟩
   |int j=>cases rq;obtain⟨ty,rfl⟩:=ry;simp only [PyData.eqv];exact⟨.none_int _ _,.none_int _ _,.none_int _ _⟩
   |str j=>cases rq;obtain⟨ty,rfl⟩:=ry;simp only [PyData.eqv];exact⟨.none_str _ _,.none_str _ _,.none_str _ _⟩
   |dict _=>simp [m9] at hq
   |list _=>simp [m9] at hq
   |tuple _=>simp [m9] at hq
  |bool i=>
   cases rp;cases rx;cases q with
   |none=>cases rq;cases ry;simp only [PyData.eqv];exact⟨.bool_none _,.bool_none _,.bool_none _⟩
   |bool j=>cases rq;cases ry;simp only [PyData.eqv];exact⟨.bool_bool _ _,.bool_bool _ _,.bool_bool _ _⟩
   |int j=>cases rq;obtain⟨ty,rfl⟩:=ry;simp only [PyData.eqv];exact⟨.bool_int _ _ _,.bool_int _ _ _,.bool_int _ _ _⟩
   |str j=>cases rq;obtain⟨ty,rfl⟩:=ry;simp only [PyData.eqv];exact⟨.bool_str _ _ _,.bool_str _ _ _,.bool_str _ _ _⟩
   |dict _=>simp [m9] at hq
   |list _=>simp [m9] at hq
   |tuple _=>simp [m9] at hq
  |int i=>
   cases rp;obtain⟨tx,rfl⟩:=rx;cases q with
   |none=>cases rq;cases ry;simp only [PyData.eqv];exact⟨.int_none _ _,.int_none _ _,.int_none _ _⟩
   |bool j=>cases rq;cases ry;simp only [PyData.eqv];exact⟨.int_bool _ _ _,.int_bool _ _ _,.int_bool _ _ _⟩
   |int j=>cases rq;obtain⟨ty,rfl⟩:=ry;simp only [PyData.eqv];exact⟨.int_int _ _ _ _,.int_int _ _ _ _,.int_int _ _ _ _⟩
   |str j=>cases rq;obtain⟨ty,rfl⟩:=ry;simp only [PyData.eqv];exact⟨.int_str _ _ _ _,.int_str _ _ _ _,.int_str _ _ _ _⟩
   |dict _=>simp [m9] at hq
   |list _=>simp [m9] at hq
   |tuple _=>simp [m9] at hq
  |str i=>
   cases rp;obtain⟨tx,rfl⟩:=rx;cases q with
   |none=>cases rq;cases ry;simp only [PyData.eqv];exact⟨.str_none _ _,.str_none _ _,.str_none _ _⟩
   |bool j=>cases rq;cases ry;simp only [PyData.eqv];exact⟨.str_bool _ _ _,.str_bool _ _ _,.str_bool _ _ _⟩
   |int j=>cases rq;obtain⟨ty,rfl⟩:=ry;simp only [PyData.eqv];exact⟨.str_int _ _ _ _,.str_int _ _ _ _,.str_int _ _ _ _⟩
   |str j=>cases rq;obtain⟨ty,rfl⟩:=ry;simp only [PyData.eqv];exact⟨.str_str _ _ _ _,.str_str _ _ _ _,.str_str _ _ _ _⟩
   |dict _=>simp [m9] at hq
   |list _=>simp [m9] at hq
   |tuple _=>simp [m9] at hq
  |dict _=>simp [m9] at hp
  |list _=>simp [m9] at hp
  |tuple _=>simp [m9] at hp
 |succ n ih=>
  intro A p q x y u w hu hp hq rp rq rx ry;have hu0:A.units<cLine:=by lia
  have hu1:A.in1.units+n<cLine:=by rw [a7a];lia
  cases p with
  |dict _=>simp [m9] at hp
  |list ps=>
   obtain⟨a,xs,rfl,hs,r⟩:=rp;cases rx;obtain⟨its,rv,pl,hz⟩:=I.list hs;have okp:N2 ps n=true:=by simpa [m9] using hp
   cases q with
   |dict _=>simp [m9] at hq
   |list qs=>
    obtain⟨b,ys,rfl,hs',r'⟩:=rq;cases ry;obtain⟨its2,rv',pl',hz'⟩:=I.list hs';have okq:N2 qs n=true:=by simpa [m9] using hq
    have hle:its.toArray.size=ps.length:=by rw [<-r.length,rv.length];simp
    have hle':its2.toArray.size=qs.length:=by rw [<-r'.length,rv'.length];simp
    have he:=a99 (A:=A.in1) (s:=s) r r' rv rv' λp q x y u w hp' hq' rp' rq' rx' ry'=>ih A.in1 p q x y u w hu1 (Q3 okp hp') (Q3 okq hq') rp' rq' rx' ry';simp only [PyData.eqv];have main:SeqAt.RcAt A s (.ref a) (.ref b) (PyData.eqvAll ps qs)/\SeqAt.RcNeAt A s (.ref a) (.ref b) (!PyData.eqvAll ps qs):=by
     by_cases e:its.toArray.size=its2.toArray.size
     ·have el:ps.length=qs.length:=by rw [<-hle,<-hle',e]
      have e3:PyData.eqvAll ps qs=(AZ its.toArray.size).all (eAt ps qs):=by
       rw [U3,el,Nat.min_self,hle,el];simp
      rw [e3];exact⟨.lists pl.isList pl'.isList e hu0 he,.lists pl.isList pl'.isList e hu0 he⟩
     ·have e3:PyData.eqvAll ps qs=false:=by
       rw [U3];have:(ps.length==qs.length)=false:=by
        rw [beq_eq_false_iff_ne];intro z;exact e (by rw [hle,hle',z])
       rw [this,Bool.and_false]
      have e4:(its.toArray.size !=its2.toArray.size)=true:=by simpa using e
      rw [e3];exact⟨.lists_lengths pl.isList pl'.isList e4 hu0,.lists_lengths pl.isList pl'.isList e4 hu0⟩
    refine⟨main.1,main.2, ?_⟩
    by_cases hab:a=b
    ·subst hab;cases I.list_inj hs hs';cases h9.inj I ps qs okp okq r r';rw [a0e ps n okp];exact .same _
    ·exact .of_refs hab main.1
   |tuple qs=>
    obtain⟨b,ys,rfl,hs',r'⟩:=rq;cases ry;obtain⟨its2,rv',pl',hz'⟩:=I.tuple hs'.sq;simp only [PyData.eqv];exact⟨.list_tuple pl.isList pl' hu0,.list_tuple pl.isList pl' hu0,.list_tuple pl.isList pl' hu0⟩
   |none=>cases rq;cases ry;simp only [PyData.eqv];exact⟨.list_none pl.isList hu0,.list_none pl.isList hu0,.list_none pl.isList hu0⟩
   |bool k=>cases rq;cases ry;simp only [PyData.eqv];exact⟨.list_bool _ pl.isList hu0,.list_bool _ pl.isList hu0,.list_bool _ pl.isList hu0⟩
   |int k=>cases rq;obtain⟨t,rfl⟩:=ry;simp only [PyData.eqv];exact⟨.list_int _ _ pl.isList hu0,.list_int _ _ pl.isList hu0,.list_int _ _ pl.isList hu0⟩
   |str k=>cases rq;obtain⟨t,rfl⟩:=ry;simp only [PyData.eqv];exact⟨.list_str _ _ pl.isList hu0,.list_str _ _ pl.isList hu0,.list_str _ _ pl.isList hu0⟩
  |tuple ps=>
   obtain⟨a,xs,rfl,hs,r⟩:=rp;cases rx;obtain⟨its,rv,pl,hz⟩:=I.tuple hs.sq;have okp:N2 ps n=true:=by simpa [m9] using hp
   cases q with
   |dict _=>simp [m9] at hq
   |tuple qs=>
    obtain⟨b,ys,rfl,hs',r'⟩:=rq;cases ry;obtain⟨its2,rv',pl',hz'⟩:=I.tuple hs'.sq;have okq:N2 qs n=true:=by simpa [m9] using hq
    have hle:its.toArray.size=ps.length:=by rw [<-r.length,rv.length];simp
    have hle':its2.toArray.size=qs.length:=by rw [<-r'.length,rv'.length];simp
    have he:=a99 (A:=A.in1) (s:=s) r r' rv rv' λp q x y u w hp' hq' rp' rq' rx' ry'=>ih A.in1 p q x y u w hu1 (Q3 okp hp') (Q3 okq hq') rp' rq' rx' ry';simp only [PyData.eqv];have e3:PyData.eqvAll ps qs=((AZ (min its.toArray.size its2.toArray.size)).all (eAt ps qs)&& its.toArray.size==its2.toArray.size):=by
     rw [U3,hle,hle']
    have main:SeqAt.RcAt A s (.ref a) (.ref b) (PyData.eqvAll ps qs)/\SeqAt.RcNeAt A s (.ref a) (.ref b) (!PyData.eqvAll ps qs):=by
     rw [e3];exact⟨.tuples pl pl' hu0 he,.tuples pl pl' hu0 he⟩
    refine⟨main.1,main.2, ?_⟩
    by_cases hab:a=b
    ·subst hab;cases I.tuple_inj hs.sq hs'.sq;cases h9.inj I ps qs okp okq r r';rw [a0e ps n okp];exact .same _
    ·exact .of_refs hab main.1
   |list qs=>
    obtain⟨b,ys,rfl,hs',r'⟩:=rq;cases ry;obtain⟨its2,rv',pl',hz'⟩:=I.list hs';simp only [PyData.eqv];exact⟨.tuple_list pl pl'.isList hu0,.tuple_list pl pl'.isList hu0,.tuple_list pl pl'.isList hu0⟩
   |none=>cases rq;cases ry;simp only [PyData.eqv];exact⟨.tuple_none pl hu0,.tuple_none pl hu0,.tuple_none pl hu0⟩
   |bool k=>cases rq;cases ry;simp only [PyData.eqv];exact⟨.tuple_bool _ pl hu0,.tuple_bool _ pl hu0,.tuple_bool _ pl hu0⟩
   |int k=>cases rq;obtain⟨t,rfl⟩:=ry;simp only [PyData.eqv];exact⟨.tuple_int _ _ pl hu0,.tuple_int _ _ pl hu0,.tuple_int _ _ pl hu0⟩
   |str k=>cases rq;obtain⟨t,rfl⟩:=ry;simp only [PyData.eqv];exact⟨.tuple_str _ _ pl hu0,.tuple_str _ _ pl hu0,.tuple_str _ _ pl hu0⟩
  |none=>
   cases q with
   |list qs=>
    obtain⟨b,ys,rfl,hs',r'⟩:=rq;cases ry;obtain⟨its2,rv',pl',hz'⟩:=I.list hs';cases rp;cases rx;simp only [PyData.eqv];exact⟨.none_list pl'.isList hu0,.none_list pl'.isList hu0,.none_list pl'.isList hu0⟩
   |tuple qs=>
    obtain⟨b,ys,rfl,hs',r'⟩:=rq;cases ry;obtain⟨its2,rv',pl',hz'⟩:=I.tuple hs'.sq;cases rp;cases rx;simp only [PyData.eqv];exact⟨.none_tuple pl' hu0,.none_tuple pl' hu0,.none_tuple pl' hu0⟩
   |dict _=>simp [m9] at hq
   |_=>exact ih A _ _ x y u w (by lia) (by simp [m9]) (by simp [m9]) rp rq rx ry
  |bool k=>
   cases q with
   |list qs=>
    obtain⟨b,ys,rfl,hs',r'⟩:=rq;cases ry;obtain⟨its2,rv',pl',hz'⟩:=I.list hs';cases rp;cases rx;simp only [PyData.eqv];exact⟨.bool_list _ pl'.isList hu0,.bool_list _ pl'.isList hu0,.bool_list _ pl'.isList hu0⟩
   |tuple qs=>
    obtain⟨b,ys,rfl,hs',r'⟩:=rq;cases ry;obtain⟨its2,rv',pl',hz'⟩:=I.tuple hs'.sq;cases rp;cases rx;simp only [PyData.eqv];exact⟨.bool_tuple _ pl' hu0,.bool_tuple _ pl' hu0,.bool_tuple _ pl' hu0⟩
   |dict _=>simp [m9] at hq
   |_=>exact ih A _ _ x y u w (by lia) (by simp [m9]) (by simp [m9]) rp rq rx ry
  |int k=>
   cases q with
   |list qs=>
    obtain⟨b,ys,rfl,hs',r'⟩:=rq;cases ry;obtain⟨its2,rv',pl',hz'⟩:=I.list hs';cases rp;obtain⟨t,rfl⟩:=rx;simp only [PyData.eqv];exact⟨.int_list _ _ pl'.isList hu0,.int_list _ _ pl'.isList hu0,.int_list _ _ pl'.isList hu0⟩
   |tuple qs=>
    obtain⟨b,ys,rfl,hs',r'⟩:=rq;cases ry;obtain⟨its2,rv',pl',hz'⟩:=I.tuple hs'.sq;cases rp;obtain⟨t,rfl⟩:=rx;simp only [PyData.eqv];exact⟨.int_tuple _ _ pl' hu0,.int_tuple _ _ pl' hu0,.int_tuple _ _ pl' hu0⟩
   |dict _=>simp [m9] at hq
   |_=>exact ih A _ _ x y u w (by lia) (by simp [m9]) (by simp [m9]) rp rq rx ry
  |str k=>
   cases q with
   |list qs=>
    obtain⟨b,ys,rfl,hs',r'⟩:=rq;cases ry;obtain⟨its2,rv',pl',hz'⟩:=I.list hs';cases rp;obtain⟨t,rfl⟩:=rx;simp only [PyData.eqv];exact⟨.str_list _ _ pl'.isList hu0,.str_list _ _ pl'.isList hu0,.str_list _ _ pl'.isList hu0⟩
   |tuple qs=>
    obtain⟨b,ys,rfl,hs',r'⟩:=rq;cases ry;obtain⟨its2,rv',pl',hz'⟩:=I.tuple hs'.sq;cases rp;obtain⟨t,rfl⟩:=rx;simp only [PyData.eqv];exact⟨.str_tuple _ _ pl' hu0,.str_tuple _ _ pl' hu0,.str_tuple _ _ pl' hu0⟩
   |dict _=>simp [m9] at hq
   |_=>exact ih A _ _ x y u w (by lia) (by simp [m9]) (by simp [m9]) rp rq rx ry
end
set_option maxHeartbeats 1000000
instance (i j:Int):Decidable (a4n i j):=by unfold a4n;infer_instance
instance (i j:Int):Decidable (a8O i j):=by unfold a8O;infer_instance
def d7.mine:d7->Option (List PV)
 | .ow (.lst ps)=>ξ ps
 | .bo (.lst ps)=>ξ ps
 |_=>ζ
theorem a5F{K:AE}{F H:Hp}{v:V}{r:d7}{ps:List PV}(h:K8 K F H v r)(e:r.mine=ξ ps):∃a xs,v= .ref a/\F a=ζ/\H a=ξ (.lst xs)/\h9 K F ps xs:=by
 cases r with
 |v _=>cases e
 |ow c=>cases c<;>cases e;exact h
 |bo c=>cases c<;>cases e;exact h
def Q4(x y:d7):Option d7:=match x,y with
 | .v (.int i),.v (.int j)=>ξ (.v (.int (i+j)))
 | .v (.str i),.v (.str j)=>if i.length+j.length<=AM then ξ (.v (.str (i++j))) else ζ
 | .v (.tuple ps),.v (.tuple qs)=>if(ps.length≠0/\qs.length≠0)/\ps.length+qs.length<=AM then ξ (.v (.tuple (ps++qs))) else ζ
 |x,y=>match x.mine,y.mine with
  |some ps,ξ qs=>if ps.length+qs.length<=AM then ξ (.own (ps++qs)) else ζ
  |_,_=>ζ
section
variable {X:Cx}
theorem B1:OpM X (binaryOp .Add) Q4:=by
 ext c
 unfold Q4 at h3;split at h3
 ·cases h3;cases h1;cases h2;exact b9o pins s σ H _ _ v u Q I rx ry ⟨_,_,rfl,rfl,k _ F H (o9.here s0 rfl)⟩
 ·rename_i i j;split at h3
  ·rename_i c;cases h3;cases h1;cases h2;exact b02 pins s σ H _ _ v u Q I rx ry ⟨i,j,rfl,rfl,c,k _ F H (o9.here s0 rfl)⟩
  ·cases h3
 ·rename_i ps qs;split at h3
  ·rename_i c;cases h3;obtain⟨a,xs,rfl,hq,r⟩:=h1;obtain⟨b,ys,rfl,hq',r'⟩:=h2;refine b7a pins s σ H _ _ v u Q I rx ry ⟨a,b,xs,ys,rfl,rfl,r9 s0 hq.sq,r9 s0 hq'.sq, ?_,by rw [r.length,r'.length];exact c.2, ?_⟩
   ·intro z;subst z;exact c.1.1 r.length.symm
   ·refine⟨λz=> ?_,λ_ p hp=>k _ _ _ (o9.tup s0 hp (r.append r'))⟩;subst z;exact absurd r'.length.symm c.1.2
  ·cases h3
 ·split at h3
  ·rename_i ps qs e1 e2;split at h3
   ·rename_i c;cases h3;obtain⟨a,xs,rfl,_,hq,r⟩:=a5F h1 e1;obtain⟨b,ys,rfl,_,hq',r'⟩:=a5F h2 e2;refine b9p pins s σ H _ _ v u Q I rx ry ⟨a,b,xs,ys,rfl,rfl,hq,hq',by rw [r.length,r'.length];exact c,λp hp=> ?_⟩
    exact k _ _ _ (o9.lst s0 hp (r.append r'))
   ·cases h3
  ·cases h3
theorem a4F:OpM X (binaryOp .Sub) (gI λi j=> .int (i - j)):=b4X b9t λ_ _ _=>rfl
theorem b7f:OpM X (binaryOp .Mult) (gIc a4n λi j=> .int (i*j)):=b03 b9r λ_ _ _=>rfl
theorem A7:OpM X (binaryOp .Mod) (gIc (λ_ j=>0<j) λi j=> .int (i % j)):=b03 b9q λ_ _ _=>rfl
theorem a5R:OpM X (binaryOp .FloorDiv) (gIc a8O λi j=> .int (i / j)):=b03 b7b λ_ _ _=>rfl
theorem b4Z:OpM X (compareOp .Gt) (gI λi j=> .bool (decide (j<i))):=b4X c01 λ_ _ _=>rfl
def gEq(x y:d7):Option d7:=if m9 x.rd 50=true/\m9 y.rd 50=true then ξ (.v (.bool (PyData.eqv x.rd y.rd))) else ζ
def gNe(x y:d7):Option d7:=if m9 x.rd 50=true/\m9 y.rd 50=true then ξ (.v (.bool (!PyData.eqv x.rd y.rd))) else ζ
theorem a0J(hu:X.A.units+64<cLine):OpM X (compareOp .Eq) gEq:=by
 ext c
 unfold gEq at h3;split at h3
 ·rename_i c;cases h3;have z:=b0t I 50 X.A _ _ x y v u (by lia) c.1 c.2 (h1.rd s0) (h2.rd s0) rx ry
  exact z.rc _ _ _ _ ⟨.bl _,H,I,rfl,k _ F H (o9.here s0 rfl)⟩
 ·cases h3
theorem b42(hu:X.A.units+64<cLine):OpM X (compareOp .NotEq) gNe:=by
 ext c
 unfold gNe at h3;split at h3
 ·rename_i c;cases h3;have z:=b0t I 50 X.A _ _ x y v u (by lia) c.1 c.2 (h1.rd s0) (h2.rd s0) rx ry
  exact z.ne _ _ _ _ ⟨.bl _,H,I,rfl,k _ F H (o9.here s0 rfl)⟩
 ·cases h3
open Classical in
def a6F(K:AE)(H:Hp)(q:PV)(u:AA):Bool:=if h:∃p v,j3 v u/\A5 K H p v/\m9 p 50=true then PyData.eqv h.choose q else false
theorem b1s{pins:List (AB×Obj)}{σ:L2.St}{H:Hp}{s:AC}(I:e9 X pins σ H s){p q:PV}{v:V}{u:AA}(r:j3 v u)(h:A5 X.K H p v)(ok:m9 p 50=true):a6F X.K H q u=PyData.eqv p q:=by
 have hx:∃p v,j3 v u/\A5 X.K H p v/\m9 p 50=true:=⟨p,v,r,h,ok⟩;unfold a6F;rw [dif_pos hx];obtain⟨v',r',h',o'⟩:=hx.choose_spec;cases r.inj r';rw [A5.inj I _ _ o' ok h' h]
theorem a4Y{pins:List (AB×Obj)}{σ:L2.St}{H:Hp}{s:AC}(I:e9 X pins σ H s){q:PV}:∀{ps:List PV} {xs:List V} {us:List AA},h9 X.K H ps xs->j4 xs us->N2 ps 50=true->us.any (a6F X.K H q)=ps.any λp=>PyData.eqv p q
 |[],_,_,r,v,_=>by cases r;cases v;rfl
 |p::ps,_,_,⟨x,r,e,h,t⟩,v,ok=>by
  simp only [N2,Bool.and_eq_true] at ok;subst e;cases v with
  |cons a b=>rw [List.any_cons,List.any_cons,b1s I a h ok.1,a4Y I t b ok.2]
theorem b1S{H:Hp}:∀{ps:List PV} {xs:List V} {us:List AA} {u:AA},h9 X.K H ps xs->j4 xs us->u∈us->∃p x,p∈ps/\j3 x u/\A5 X.K H p x
 |[],_,_,_,r,v,h=>by cases r;cases v;cases h
 |p::ps,_,_,u,⟨x,r,e,hp,t⟩,v,h=>by
  subst e;cases v with
  |cons a b=>
   rcases AU.mp h with rfl|h
   ·exact⟨p,x,Af,a,hp⟩
   ·obtain⟨p',x',h1,h2,h3⟩:=b1S t b h;exact⟨p',x',Ae _ h1,h2,h3⟩
def PyData.items?:PV->Option (List PV)
 | .list ps=>ξ ps
 | .tuple ps=>ξ ps
 |_=>ζ
def gIn(neg:Bool)(x y:d7):Option d7:=match PyData.items? y.rd with
 |some ps=>if m9 x.rd 50=true/\N2 ps 50=true then ξ (.v (.bool (if neg then !(ps.any λp=>PyData.eqv p x.rd) else ps.any λp=>PyData.eqv p x.rd))) else ζ
 |none=>ζ
theorem a9p{pins:List (AB×Obj)}{σ:L2.St}{H:Hp}{s:AC}(I:e9 X pins σ H s)(hu:X.A.units+64<cLine){q:PV}{ps:List PV}{x:V}{xs:List V}{v:AA}{us:List AA}(hq:m9 q 50=true)(hp:N2 ps 50=true)
 (rq:A5 X.K H q x) (rx:j3 x v) (r:h9 X.K H ps xs) (rv:j4 xs us):∀y,y∈us.toArray->SeqAt.EqAt X.A.in1 s y v (a6F X.K H q y):=by
 intro y hy
 have hy':y∈us:=by simpa using hy
 obtain⟨p,z,h1,h2,h3⟩:=b1S r rv hy'
 rw [b1s I h2 h3 (Q3 hp h1)]
 exact(b0t I 50 X.A.in1 p q z x y v (by rw [a7a];lia) (Q3 hp h1) hq h3 rq h2 rx).eq
theorem K6{F H:Hp}{v:V}{r:d7}{ps:List PV}(s0:g8 F H)(h:K8 X.K F H v r)(e:PyData.items? r.rd=ξ ps):∃a xs,v= .ref a/\(Z0 X.K H a xs\/SqT X.K H a xs)/\h9 X.K F ps xs:=by
 cases r with
 |v p=>
  cases p with
  |list qs=>cases e;obtain⟨a,xs,rfl,hq,r⟩:=h;exact⟨a,xs,rfl,.inl (B2 s0 hq),r⟩
  |tuple qs=>cases e;obtain⟨a,xs,rfl,hq,r⟩:=h;exact⟨a,xs,rfl,.inr (r9 s0 hq.sq),r⟩
  |_=>cases e
 |ow c=>cases c<;>cases e;obtain⟨a,xs,rfl,_,hq,r⟩:=h;exact⟨a,xs,rfl,.inl (Z0.of hq),r⟩
 |bo c=>cases c<;>cases e;obtain⟨a,xs,rfl,_,hq,r⟩:=h;exact⟨a,xs,rfl,.inl (Z0.of hq),r⟩
theorem b9u(hu:X.A.units+64<cLine):OpM X (compareOp .In) (gIn false):=by
 ext c
 unfold gIn at h3;split at h3
 ·rename_i ps e;split at h3
  ·rename_i c;cases h3;obtain⟨a,xs,rfl,hq,r⟩:=K6 s0 h2 e;cases ry;have rH:=h9.mono s0 _ r;rcases hq with hq|hq
   ·obtain⟨its,rv,pl,hz⟩:=I.list hq;refine SeqAt.in_listAt (a6F X.K H ra.rd) pl.isList (a9p I hu c.1 c.2 (h1.rd s0) rx rH rv) ⟨.bl _,H,I,rfl, ?_⟩;rw [show its.toArray.any (a6F X.K H ra.rd)=its.any (a6F X.K H ra.rd) by simp,a4Y I rH rv c.2]
    exact k _ F H (o9.here s0 rfl)
   ·obtain⟨its,rv,pl,hz⟩:=I.tuple hq;refine SeqAt.in_tupleAt (a6F X.K H ra.rd) pl (a9p I hu c.1 c.2 (h1.rd s0) rx rH rv) ⟨.bl _,H,I,rfl, ?_⟩;rw [show its.toArray.any (a6F X.K H ra.rd)=its.any (a6F X.K H ra.rd) by simp,a4Y I rH rv c.2]
    exact k _ F H (o9.here s0 rfl)
  ·cases h3
 ·cases h3
def N3(x y:d7):Option d7:=match y with
 | .v (.int i)=>(match x.rd with
   | .str z=>if z.length<=AM then(atI z.cps.toList i).map λc=> .v (.str ⟨#[c]⟩) else ζ
   |p=>match PyData.items? p with
    |some ps=>(atI ps i).map .v
    |none=>ζ)
 |_=>ζ
theorem h9.atI{K:AE}{H:Hp}{ps:List PV}{xs:List V}{i:Int}{p:PV}(r:h9 K H ps xs)(e:L2.atI ps i=ξ p):∃v,L2.atI xs i=ξ v/\A5 K H p v:=by
 unfold L2.atI at e ⊢;rw [r.length];obtain⟨j,e1,e2⟩:=bind_some e;rw [e1];exact r.get e2
theorem ixm:IxR X (rM2 X.K N3):=by
 intro value slice pins s σ H x y v u Q I rx ry h hs;obtain⟨F,ra,rb,rz,s0,h1,h2,h3,k⟩:=h;unfold N3 at h3;split at h3
 ·rename_i i;cases h2;split at h3
  ·rename_i z ez;split at h3
   ·rename_i c;have rr:=h1.rd s0;rw [ez] at rr;cases rr;cases ea:L2.atI z.cps.toList i with
    |none=>rw [ea] at h3;cases h3
    |some ch=>
     rw [ea] at h3;cases h3;exact b85 value slice pins s σ H _ _ v u Q I rx ry ⟨z,i,ch,rfl,rfl,c,ea,k _ F H (o9.here s0 rfl)⟩ hs
   ·cases h3
  ·split at h3
   ·rename_i ps e;cases ea:L2.atI ps i with
    |none=>rw [ea] at h3;cases h3
    |some p=>
     rw [ea] at h3;cases h3;obtain⟨a,xs,rfl,hq,r⟩:=K6 s0 h1 e;obtain⟨z,ez,rp⟩:=r.atI ea;rcases hq with hq|hq
     ·exact b6U value slice pins s σ H _ _ v u Q I rx ry ⟨a,xs,i,z,rfl,rfl,hq,ez,k _ F H (o9.here s0 rp)⟩ hs
     ·exact b86 value slice pins s σ H _ _ v u Q I rx ry ⟨a,xs,i,z,rfl,rfl,hq,ez,k _ F H (o9.here s0 rp)⟩ hs
   ·cases h3
 ·cases h3
theorem m8{a b:AG}{ma mb:M}{pos:Pos}(ha:EE X a ma)(hb:EE X b mb)(hs:b1k b:=by intro _ _;rfl):EE X (.Subscript a b pos) (m2 N3 ma mb):=
 m6 (c06 ixm ha hb hs) λ_ _ _ h=>a8G h
abbrev MA:=b9->Option (List PV)
def tMA(K:AE)(m:MA):TA:=λσ H Q=>∃F ρ ps,C9 K F H σ ρ/\m ρ=ξ ps/\∀vs F' H',R5 F H F' H'->h9 K F' ps vs->Q vs H'
abbrev EA(X:Cx)(es:List AG)(m:MA):Prop:=PA X es (tMA X.K m)
def d6:MA:=λ_=>ξ []
def a5(m:M)(r:MA):MA:=λρ=>((m ρ).bind d7.toVal).bind λp=>(r ρ).bind λps=>ξ (p::ps)
theorem c9:EA X [] d6:=b45 M6 λσ H Q h0=>k4 h0 λF ρ ps he hm k=>by
 cases hm;exact k [] F H (R5.refl he.fh) rfl
theorem a4{e:AG}{es:List AG}{m:M}{r:MA}(ha:EE X e m)(hr:EA X es r)(hs:AL (e::es) X.env=(false,eval e X.env)::AL es X.env:=by rfl):EA X (e::es) (a5 m r):=
 b45 (u7 ha hr hs) λσ H Q h0=>k4 h0 λF ρ ps he hm k=>by
  obtain⟨p,e1,hm⟩:=bind_some hm;obtain⟨r1,e1,e2⟩:=bind_some e1;obtain⟨qs,e3,hm⟩:=bind_some hm;cases hm;refine⟨F,ρ,r1,he,e1,λv F1 H1 o1=> ?_⟩;obtain⟨F2,o2⟩:=o1.toVal e2;exact⟨F2,ρ,qs,he.ext o2.x,e3,λvs F3 H3 x3 rl=>k _ F3 H3 (o2.x.trans x3) ⟨v,vs,rfl,A5.mono x3.f _ o2.rep,rl⟩⟩
def a1o(m:MA):M:=λρ=>(m ρ).bind λps=>if ps.length<=AM then ξ (.v (.tuple ps)) else ζ
def X8(m:MA):M:=λρ=>(m ρ).bind λps=>if ps.length<=AM then ξ (.own ps) else ζ
theorem M2{es:List AG}{m:MA}{x1:Nat}{pos:Pos}(h:EA X es m):EE X (.Tuple es x1 pos) (a1o m):=
 m6 (b5d h) λσ H Q h0=>k4 h0 λF ρ r he hm k=>by
  obtain⟨ps,e1,hm⟩:=bind_some hm;split at hm
  ·rename_i c;cases hm;exact⟨F,ρ,ps,he,e1,λvs F1 H1 x rl=>⟨by rw [rl.length];exact c,λp hp=>k _ _ _ (o9.trans x (o9.tup x.fh hp rl))⟩⟩
  ·cases hm
theorem M1{es:List AG}{m:MA}{pos:Pos}(h:EA X es m):EE X (.List es pos) (X8 m):=
 m6 (b9z h) λσ H Q h0=>k4 h0 λF ρ r he hm k=>by
  obtain⟨ps,e1,hm⟩:=bind_some hm;split at hm
  ·rename_i c;cases hm;exact⟨F,ρ,ps,he,e1,λvs F1 H1 x rl=>⟨by rw [rl.length];exact c,λp hp=>k _ _ _ (o9.trans x (o9.lst x.fh hp rl))⟩⟩
  ·cases hm
def spP(K:AE)(n:Nat)(g:List PV->Option d7):Sp:=λvs H Q _=>∃F ps r,g8 F H/\h9 K F ps vs/\ps.length=n/\g ps=ξ r/\∀v F' H',o9 K F H F' H' v r->Q v H'
def i3(g:List PV->Option d7)(m:MA):M:=λρ=>(m ρ).bind g
theorem b6w{k n:Nat}{f:AB}{fd:FuncData}{ps:List Str}{g:List PV->Option d7}{x:Str}{p pos:Pos}{e:AG}{es:List AG}{m:MA}
 (G:P5 X.prog X.w X.K X.mg X.base CX0 k f fd ps (spP X.K n g)) (hr:D2 k X.A) (hg:Gl X x) (hm:X.mg x=ξ (.ref f)) (hk:PySem.W.keepIn X.K (.ref f)=true) (hb:a0a X.K fd ps []) (hn:∀ρ ps,m ρ=ξ ps->ps.length=n) (ha:EA X (e::es) m)
 (hdb:(x==("__debug__":Str))=false:=by decide) (he:AL (e::es) X.env=(false,eval e X.env)::AL es X.env:=by rfl) (hpl:(backTo pos (AL es X.env)).any (·.1)=false:=by rfl):
 EE X (.Call (.Name x p) (e::es) [] pos) (i3 g m):=
 m6 (a24 G hr hg hm hk hb .nil a7s ha hdb he hpl) λσ H Q h0=>k4 h0 λF ρ r he hm k=>by
  obtain⟨qs,e1,hm⟩:=bind_some hm;refine⟨F,ρ,qs,he,e1,λvs F1 H1 x rl=> ?_⟩;show spP X.K n g (vs++[]) H1 Q E0;rw [Ad];exact⟨F1,qs,r,x.fh,rl,hn _ _ e1,hm,λv F2 H2 o=>k v F2 H2 (o9.trans x o)⟩
theorem f8:∀ρ ps,d6 ρ=ξ ps->ps.length=0:=λ_ _ h=>by cases h;rfl
theorem a8{m:M}{r:MA}{n:Nat}(h:∀ρ ps,r ρ=ξ ps->ps.length=n):∀ρ ps,a5 m r ρ=ξ ps->ps.length=n+1:=λρ ps e=>by
 obtain⟨p,e1,e⟩:=bind_some e;obtain⟨qs,e3,e⟩:=bind_some e;cases e;rw [AY,h ρ qs e3]
end
mutual
def a0b(K:AE):Nat->AA->Option PV
 |0,_=>ζ
 |_+1,.none=>ξ .none
 |_+1,.bool b=>ξ (.bool b)
 |_+1,.int i _=>ξ (.int i)
 |_+1,.str x _=>ξ (.str x)
 |n+1,.ref a=>match K.lookup a with
  |some ⟨.type "tuple",_,.seq its _,_⟩=>if its.size<=1000 then(a2M K n its.toList).map .tuple else ζ
  |some ⟨.type "list",ζ,.seq its _,_⟩=>if its.size<=1000 then(a2M K n its.toList).map .list else ζ
  |_=>ζ
 |_+1,_=>ζ
def a2M(K:AE):Nat->List AA->Option (List PV)
 |0,_=>ζ
 |_+1,[]=>ξ []
 |n+1,u::us=>(a0b K n u).bind λp=>(a2M K n us).bind λps=>ξ (p::ps)
end
theorem a6k{n:Nat}(h:n<=1000):n<=AM:=BA (b3k h)
theorem a4W(K:AE):∀(n:Nat),(∀(u:AA) (p:PV),a0b K n u=ξ p->∃v,j3 v u/\∀H,A5 K H p v)/\(∀(us:List AA) (ps:List PV),a2M K n us=ξ ps->∃vs,j4 vs us/\∀H,h9 K H ps vs):=by
 intro n
 induction n with
 |zero=>exact⟨λu p h=>by simp [a0b] at h,λu p h=>by simp [a2M] at h⟩
 |succ n ih=>
  constructor
  ·intro u p h;cases u with
   |none=>simp only [a0b] at h;cases h;exact⟨.non,rfl,λ_=>rfl⟩
   |bool b=>simp only [a0b] at h;cases h;exact⟨.bl b,rfl,λ_=>rfl⟩
   |int i t=>simp only [a0b] at h;cases h;exact⟨.int i,⟨t,rfl⟩,λ_=>rfl⟩
   |str x t=>simp only [a0b] at h;cases h;exact⟨.str x,⟨t,rfl⟩,λ_=>rfl⟩
   |ref a=>
    simp only [a0b] at h;split at h
    ·rename_i d its m sl e;split at h
     ·rename_i c;cases q:a2M K n its.toList with
      |none=>rw [q] at h;cases h
      |some ps=>
       rw [q] at h;cases h;obtain⟨vs,h1,h2⟩:=ih.2 _ _ q;exact⟨.ref a,rfl,λH=>⟨a,vs,rfl,.inr ⟨_,its,m,e,rfl,rfl,a6k c,h1⟩,h2 H⟩⟩
     ·cases h
    ·rename_i its m sl e;split at h
     ·rename_i c;cases q:a2M K n its.toList with
      |none=>rw [q] at h;cases h
      |some ps=>
       rw [q] at h;cases h;obtain⟨vs,h1,h2⟩:=ih.2 _ _ q;exact⟨.ref a,rfl,λH=>⟨a,vs,rfl,.inr ⟨_,its,m,e,rfl,rfl,rfl,a6k c,h1⟩,h2 H⟩⟩
     ·cases h
    ·cases h
   |_=>simp [a0b] at h
  ·intro us ps h;cases us with
   |nil=>simp only [a2M] at h;cases h;exact⟨[],.nil,λ_=>rfl⟩
   |cons u us=>
    simp only [a2M] at h;obtain⟨p,e1,h⟩:=bind_some h;obtain⟨qs,e2,h⟩:=bind_some h;cases h;obtain⟨v,r1,r2⟩:=ih.1 _ _ e1;obtain⟨vs,r3,r4⟩:=ih.2 _ _ e2;exact⟨v::vs,.cons r1 r3,λH=>⟨v,vs,rfl,r2 H,r4 H⟩⟩
section
variable {X:Cx}
theorem a71{x:Str}{u:AA}{p:PV}{pos:Pos}{n:Nat}(hg:Gl X x)(hm:X.mg x=ξ u)(ha:a0b X.K n u=ξ p)(hd:(x==("__debug__":Str))=false:=by decide):EE X (.Name x pos) (mC p):=by
 obtain⟨v,r,h⟩:=(a4W X.K n).1 u p ha;exact a0c (a8t hg hm r hd) h
def b1J:PV->Option f6
 | .int i=>ξ (.inl i)
 | .str x=>ξ (.inr x)
 |_=>ζ
theorem a7b{K:AE}{H:Hp}{p:PV}{k:f6}{v:V}(e:b1J p=ξ k)(r:A5 K H p v):v=kV k:=by
 cases p with
 |int i=>cases e;cases r;rfl
 |str x=>cases e;cases r;rfl
 |_=>cases e
def a36:List DictEntry->Option (List (f6×AA))
 |[]=>ξ []
 |e::es=>match e.key with
  | .int i _=>(a36 es).map λr=>(.inl i,e.val)::r
  | .str x _=>(a36 es).map λr=>(.inr x,e.val)::r
  |_=>ζ
theorem Y2{P:AJ}{w:AI}:∀{es:List DictEntry} {kvs:List (f6×AA)},a36 es=ξ kvs->es.map (·.hash)=kvs.map (λkv=>b2Q w kv.1)->Pairs (f9 P w) es kvs/\∀e∈es,∃k,(f9 P w).is k e.key=true/\e.hash=(f9 P w).hash k
 |[],_,h,_=>by cases h;exact⟨.nil,λ_ h=>nomatch h⟩
 |e::es,kvs,h,hh=>by
  simp only [a36] at h;split at h
  ·rename_i i t ek;cases q:a36 es with
   |none=>rw [q] at h;cases h
   |some r=>
    rw [q] at h;cases h;simp only [AQ,List.cons.injEq] at hh;obtain⟨h1,h2⟩:=Y2 q hh.2;have hi:(f9 P w).is (.inl i) e.key=true:=by rw [ek];exact a1q P w i t
    exact⟨.cons hi rfl h1,λe' he=>(AU.mp he).elim (λz=>by subst z;exact⟨_,hi,hh.1⟩) (h2 e')⟩
  ·rename_i x t ek;cases q:a36 es with
   |none=>rw [q] at h;cases h
   |some r=>
    rw [q] at h;cases h;simp only [AQ,List.cons.injEq] at hh;obtain⟨h1,h2⟩:=Y2 q hh.2;have hi:(f9 P w).is (.inr x) e.key=true:=by rw [ek];exact N4 P w x t
    exact⟨.cons hi rfl h1,λe' he=>(AU.mp he).elim (λz=>by subst z;exact⟨_,hi,hh.1⟩) (h2 e')⟩
  ·cases h
def a0x{κ:Type}(K:AE)(n:Nat):List (κ×AA)->Option (List (κ×PV))
 |[]=>ξ []
 |(k,u)::r=>(a0b K n u).bind λp=>(a0x K n r).bind λt=>ξ ((k,p)::t)
def a2W{κ:Type}[DecidableEq κ](tbl:List (κ×PV))(k:κ):Option PV:=match tbl with
 |[]=>ζ
 |(k',p)::r=>if k'=k then ξ p else a2W r k
theorem a7h{K:AE}{n:Nat}{k:f6}:∀{kvs:List (f6×AA)} {tbl:List (f6×PV)} {p:PV},a0x K n kvs=ξ tbl->a2W tbl k=ξ p->∃u,valueAt kvs k=ξ u/\a0b K n u=ξ p
 |[],_,_,h,e=>by cases h;cases e
 |(k',u)::r,tbl,p,h,e=>by
  simp only [a0x] at h;obtain⟨q,e1,h⟩:=bind_some h;obtain⟨t,e2,h⟩:=bind_some h;cases h;simp only [a2W] at e;split at e
  ·rename_i c;cases e;exact⟨u,by simp [valueAt,List.find?_cons,c],e1⟩
  ·rename_i c;obtain⟨u',h1,h2⟩:=a7h e2 e;refine⟨u', ?_,h2⟩
   simpa [valueAt,List.find?_cons,c] using h1
structure Tab(P:AJ)(w:AI)(K:AE)(a:AB)(tbl:List (f6×PV)):Prop where
 ex:∃es ep kvs n,K.lookup a=ξ ⟨.type "dict",ζ,.dict es ep, #[]⟩/\a36 es.toList=ξ kvs/\es.toList.map (·.hash)=kvs.map (λkv=>b2Q w kv.1)/\a0x K n kvs=ξ tbl/\(kvs.map (·.1)).Nodup
def c0T(tbl:List (f6×PV))(m:M):M:=λρ=>(m ρ).bind λr=>(b1J r.rd).bind λk=>(a2W tbl k).map .v
theorem b8L{x:Str}{a:AB}{tbl:List (f6×PV)}{i:AG}{m:M}{p pos:Pos}(T:Tab X.prog X.w X.K a tbl)(hg:Gl X x)(hm:X.mg x=ξ (.ref a))(hi:EE X i m)(hd:(x==("__debug__":Str))=false:=by decide)(hs:b0g i:=by intro _ _;rfl):
 EE X (.Subscript (.Name x p) i pos) (c0T tbl m):=by
 intro pins s σ H Q I ⟨F,ρ,r,he,hm',k⟩
 obtain⟨es,ep,kvs,n,l1,l2,l3,l4,l5⟩:=T.ex
 obtain⟨ri,e1,hm'⟩:=bind_some hm'
 obtain⟨ky,e2,hm'⟩:=bind_some hm'
 cases e3:a2W tbl ky with
 |none=>rw [e3] at hm';cases hm'
 |some q=>
  rw [e3] at hm';cases hm'
  obtain⟨u,h1,h2⟩:=a7h l4 e3
  obtain⟨vv,r1,r2⟩:=(a4W X.K n).1 u q h2
  refine a8D PySem.F.slot_dict_getitem.lookup hs (Y4 I hg hm ?_ hd)
  refine C8 (hi pins s σ H (λy H2=>∃F2,R5 F H F2 H2/\y=kV ky) I ⟨F,ρ,ri,he,e1,λv F1 H1 o1=>⟨F1,o1.x,a7b e2 (o1.rep.rd o1.x.fh)⟩⟩) λiv s2 ⟨y,H2,I2,ry,F2,x2,ey⟩=> ?_
  subst ey
  have dd:s2.heap.DictOf (f9 X.prog X.w) a kvs:=⟨_,es,ep,I2.kIn a _ l1,⟨rfl,rfl,rfl⟩,rfl,λe he=>(Y2 l2 l3).2 e (by simpa using he),(Y2 l2 l3).1,l5⟩
  exact⟨dd.typeIs,wpAny_getItem_of (a9q ry) dd.mapOf h1 ⟨vv,H2,I2.tok _,r1,k vv F2 H2 (o9.val x2 (r2 F2))⟩⟩
def keysOf:List PV->Option (List f6)
 |[]=>ξ []
 |p::ps=>(b1J p).bind λk=>(keysOf ps).bind λks=>ξ (k::ks)
theorem Q6{K:AE}{H:Hp}:∀{ps:List PV} {ks:List f6} {vs:List V},keysOf ps=ξ ks->h9 K H ps vs->vs=ks.map kV
 |[],_,_,h,r=>by cases h;cases r;rfl
 |p::ps,_,_,h,⟨v,t,e,rp,rl⟩=>by
  obtain⟨k,e1,h⟩:=bind_some h;obtain⟨ks,e2,h⟩:=bind_some h;cases h;subst e;rw [a7b e1 rp,Q6 e2 rl]
  rfl
def t5:List AA->Option (List f6)
 |[]=>ξ []
 | .int i _::r=>(t5 r).map λt=> .inl i::t
 | .str x _::r=>(t5 r).map λt=> .inr x::t
 |_::_=>ζ
theorem Z6{P:AJ}{w:AI}:∀{us:List AA} {ks:List f6},t5 us=ξ ks->PySem.ItemsAre (f9 P w) ks us
 |[],_,h=>by cases h;exact .nil
 | .int i t::r,_,h=>by
   simp only [t5] at h;cases q:t5 r with
   |none=>rw [q] at h;cases h
   |some ks=>rw [q] at h;cases h;exact .cons (a1q P w i t) (Z6 q)
 | .str i t::r,_,h=>by
   simp only [t5] at h;cases q:t5 r with
   |none=>rw [q] at h;cases h
   |some ks=>rw [q] at h;cases h;exact .cons (N4 P w i t) (Z6 q)
 | .none::_,_,h=>by simp [t5] at h
 | .bool _::_,_,h=>by simp [t5] at h
 | .ref _::_,_,h=>by simp [t5] at h
 | .type _::_,_,h=>by simp [t5] at h
 | .builtin _::_,_,h=>by simp [t5] at h
 | .float _ _::_,_,h=>by simp [t5] at h
 | .bytes _ _::_,_,h=>by simp [t5] at h
 | .notImplemented::_,_,h=>by simp [t5] at h
end
def a9i(K:AE):List DictEntry->Option (List (List f6×AB×AA))
 |[]=>ξ []
 |e::es=>match e.key with
  | .ref b=>(match K.lookup b with
    |some ⟨.type "tuple",_,.seq its _,_⟩=>(t5 its.toList).bind λks=>(a9i K es).bind λr=>ξ ((ks,b,e.val)::r)
    |_=>ζ)
  |_=>ζ
theorem a67{P:AJ}{w:AI}{K:AE}:∀{es:List DictEntry} {xs:List (List f6×AB×AA)},a9i K es=ξ xs->es.map (·.hash)=xs.map (λx=>(tupleKind (f9 P w)).hash x.1)->
 es=xs.map (entryOfKey (tupleKind (f9 P w)))/\∀h,K.In h->∀x∈xs,(tupleKind (f9 P w)).is h x.1 x.2.1
 |[],_,h,_=>by cases h;exact⟨rfl,λ_ _ _ h=>nomatch h⟩
 |⟨hs,ky,vl⟩::es,xs,h,hh=>by
  simp only [a9i] at h;split at h
  ·rename_i b;split at h
   ·rename_i d its n sl e;obtain⟨ks,e1,h⟩:=bind_some h;obtain⟨r,e2,h⟩:=bind_some h;cases h;simp only [AQ,List.cons.injEq] at hh;obtain⟨h1,h2⟩:=a67 e2 hh.2;refine⟨?_,λhp hk x hx=> ?_⟩
    ·rw [AQ,<-h1,hh.1]
     rfl
    ·rcases AU.mp hx with rfl|hx
     ·exact⟨_,its,n,hk b _ e,rfl,rfl,Z6 e1⟩
     ·exact h2 hp hk x hx
   ·cases h
  ·cases h
def V3(K:AE)(n:Nat):List (List f6×AB×AA)->Option (List (List f6×PV))
 |[]=>ξ []
 |(k,_,u)::r=>(a0b K n u).bind λp=>(V3 K n r).bind λt=>ξ ((k,p)::t)
theorem a5y{K:AE}{n:Nat}{k:List f6}:∀{xs:List (List f6×AB×AA)} {tbl:List (List f6×PV)} {p:PV},V3 K n xs=ξ tbl->a2W tbl k=ξ p->∃q,atKey xs k=ξ q/\a0b K n q.2=ξ p
 |[],_,_,h,e=>by cases h;cases e
 |(k',b,u)::r,tbl,p,h,e=>by
  simp only [V3] at h;obtain⟨q,e1,h⟩:=bind_some h;obtain⟨t,e2,h⟩:=bind_some h;cases h;simp only [a2W] at e;split at e
  ·rename_i c;cases e;exact⟨(b,u),by simp [atKey,List.find?_cons,c],e1⟩
  ·rename_i c;obtain⟨u',h1,h2⟩:=a5y e2 e;refine⟨u', ?_,h2⟩
   simpa [atKey,List.find?_cons,c] using h1
structure b6f(P:AJ)(w:AI)(K:AE)(a:AB)(tbl:List (List f6×PV)):Prop where
 ex:∃es ep xs n,K.lookup a=ξ ⟨.type "dict",ζ,.dict es ep, #[]⟩/\a9i K es.toList=ξ xs/\es.toList.map (·.hash)=xs.map (λx=>(tupleKind (f9 P w)).hash x.1)/\V3 K n xs=ξ tbl/\(xs.map (·.1)).Nodup
def b8d(tbl:List (List f6×PV))(m:M):M:=λρ=>(m ρ).bind λr=>match r with
 | .v (.tuple ps)=>(keysOf ps).bind λk=>(a2W tbl k).map .v
 |_=>ζ
section
variable {X:Cx}
theorem b6y{x:Str}{a:AB}{tbl:List (List f6×PV)}{i:AG}{m:M}{p pos:Pos}(hu:X.A.units+1<cLine)(T:b6f X.prog X.w X.K a tbl)(hg:Gl X x)(hm:X.mg x=ξ (.ref a))(hi:EE X i m)(hd:(x==("__debug__":Str))=false:=by decide)(hs:b0g i:=by intro _ _;rfl):
 EE X (.Subscript (.Name x p) i pos) (b8d tbl m):=by
 intro pins s σ H Q I ⟨F,ρ,r,he,hm',k⟩
 obtain⟨es,ep,xs,n,l1,l2,l3,l4,l5⟩:=T.ex
 obtain⟨ri,e1,hm'⟩:=bind_some hm'
 split at hm'
 ·rename_i ps
  obtain⟨ky,e2,hm'⟩:=bind_some hm'
  cases e3:a2W tbl ky with
  |none=>rw [e3] at hm';cases hm'
  |some q=>
   rw [e3] at hm';cases hm'
   obtain⟨u,h1,h2⟩:=a5y l4 e3
   obtain⟨vv,r1,r2⟩:=(a4W X.K n).1 u.2 q h2
   refine a8D PySem.F.slot_dict_getitem.lookup hs (Y4 I hg hm ?_ hd)
   refine C8 (hi pins s σ H (λy H2=>∃F2 b ys,R5 F H F2 H2/\y= .ref b/\SqT X.K H2 b ys/\ys=ky.map kV) I ⟨F,ρ,_,he,e1,λv F1 H1 o1=> ?_⟩) λiv s2 ⟨y,H2,I2,ry,F2,b,ys,x2,ey,hq,ek⟩=> ?_
   ·obtain⟨b,ys,eb,hq,rl⟩:=o1.rep
    exact⟨F1,b,ys,o1.x,eb,r9 o1.x.fh hq.sq,Q6 e2 rl⟩
   ·subst ey
    subst ek
    cases ry
    obtain⟨h3,h4⟩:=a67 (P:=X.prog) (w:=X.w) l2 l3
    have dd:s2.heap.DictOfH (tupleKind (f9 X.prog X.w)) a xs:=⟨_,es,ep,I2.kIn a _ l1,⟨rfl,rfl,rfl⟩,rfl,h3,h4 _ I2.kIn,l5⟩
    obtain⟨its,rv,⟨o,o1,o2,nn,o3⟩,_⟩:=I2.tuple hq
    have hk:(tupleKind (f9 X.prog X.w)).is s2.heap ky b:=⟨o,its.toArray,nn,o1,o2,o3,by simpa using a1O rv⟩
    exact⟨dd.typeIs,wpAny_getItem_heap (tupleKind_room_in1 hu) hk dd h1 ⟨vv,H2,I2.tok _,r1,k vv F2 H2 (o9.val x2 (r2 F2))⟩⟩
 ·cases hm'
abbrev MT:=b9->Option Bool
def tMT(K:AE)(c:MT):TT:=λσ H Q=>∃F ρ b,C9 K F H σ ρ/\c ρ=ξ b/\∀F' H',R5 F H F' H'->Q b H'
abbrev ET(X:Cx)(e:AG)(c:MT):Prop:=PT X e (tMT X.K c)
abbrev EW(X:Cx)(e:AG)(c:MT):Prop:=PW X e (tMT X.K c)
def a9Y:d7->Option Bool
 | .v (.bool b)=>ξ b
 |_=>ζ
def tru(r:d7):Option Bool:=match r.rd with
 | .none=>ξ false
 | .bool b=>ξ b
 | .int i=>ξ (i !=0)
 | .str z=>if z.length<=AM then ξ ((z.length:Int) !=0) else ζ
 | .list ps=>ξ (!ps.isEmpty)
 | .tuple ps=>ξ (!ps.isEmpty)
 | .dict _=>ζ
def mtV(m:M):MT:=λρ=>(m ρ).bind tru
def mtB(m:M):MT:=λρ=>(m ρ).bind a9Y
theorem h9.empty{K:AE}{H:Hp}{ps:List PV}{vs:List V}(r:h9 K H ps vs):vs.isEmpty=ps.isEmpty:=by
 cases ps with
 |nil=>cases r;rfl
 |cons p ps=>obtain⟨_,_,e,_⟩:=r;subst e;rfl
theorem b7F{H:Hp}{r:d7}{v:V}{b:Bool}(h:A5 X.K H r.rd v)(e:tru r=ξ b):b8w X.K v H b:=by
 unfold tru at e;cases hp:r.rd with
 |none=>rw [hp] at h e;cases h;cases e;exact rfl
 |bool k=>rw [hp] at h e;cases h;cases e;exact rfl
 |int i=>rw [hp] at h e;cases h;cases e;exact rfl
 |str z=>
  rw [hp] at h e;cases h;dsimp only at e;split at e
  ·rename_i c;cases e;exact⟨c,rfl⟩
  ·cases e
 |list ps=>rw [hp] at h e;obtain⟨a,xs,rfl,hq,rl⟩:=h;cases e;exact .inl ⟨xs,hq,by rw [rl.empty]⟩
 |tuple ps=>rw [hp] at h e;obtain⟨a,xs,rfl,hq,rl⟩:=h;cases e;exact .inr (.inl ⟨xs,hq.sq,by rw [rl.empty]⟩)
 |dict _=>rw [hp] at e;cases e
theorem a73{e:AG}{m:M}(h:EE X e m)(he:∀whole,isTrue e X.env whole=(do let v<-whole;standAt e.pos;holding [v] (truthy v)):=by intro _;rfl):ET X e (mtV m):=
 a8v (b5n h he) λσ H Q h0=>k4 h0 λF ρ b h1 h2 k=>by
  obtain⟨r,e1,e2⟩:=bind_some h2;exact⟨F,ρ,r,h1,e1,λv F1 H1 o=>⟨b,b7F (o.rep.rd o.x.fh) e2,k F1 H1 o.x⟩⟩
theorem a3a{K:AE}{F H:Hp}{r:d7}{v:V}{b:Bool}(h:K8 K F H v r)(e:a9Y r=ξ b):v= .bl b:=by
 unfold a9Y at e;split at e
 ·cases e;exact h
 ·cases e
theorem M3{a b:AG}{ma mb:M}{pos:Pos}{op:CmpOp}{g:d7->d7->Option d7}(ho:OpM X (compareOp op) g)(ha:EE X a ma)(hb:EE X b mb)(hm:behindInMarks op b=false):ET X (.Compare a [op] [b] pos) (mtB (m2 g ma mb)):=
 a8v (b12 ho ha hb hm) λσ H Q h0=>k4 h0 λF ρ k h1 h2 q=>by
  obtain⟨r,e1,e2⟩:=bind_some h2;exact a8G ⟨F,ρ,r,h1,e1,λv F1 H1 o=>⟨k,a3a o.rep e2,q F1 H1 o.x⟩⟩
def a7l(c:MT):MT:=λρ=>(c ρ).map not
theorem b0v{a:AG}{c:MT}{pos:Pos}(ha:ET X a c):ET X (.UnaryOp .Not a pos) (a7l c):=
 a8v (b9L ha) λσ H Q h0=>k4 h0 λF ρ k h1 h2 q=>by
  unfold a7l at h2;cases e:c ρ with
  |none=>rw [e] at h2;cases h2
  |some b=>rw [e] at h2;cases h2;exact⟨F,ρ,b,h1,e,q⟩
def b4K(c d:MT):MT:=λρ=>(c ρ).bind λb=>if b=true then d ρ else ξ false
def b4L(c d:MT):MT:=λρ=>(c ρ).bind λb=>if b=true then ξ true else d ρ
theorem b6B{a:AG}{c:MT}{pos:Pos}(ha:ET X a c):EW X (.BoolOp .And [a] pos) c:=b7m ha
theorem b38{a:AG}{c:MT}{pos:Pos}(ha:ET X a c):EW X (.BoolOp .Or [a] pos) c:=b9O ha
theorem b8P{a b:AG}{rest:List AG}{c d:MT}{pos:Pos}(ha:ET X a c)(hb:EW X (.BoolOp .And (b::rest) pos) d):EW X (.BoolOp .And (a::b::rest) pos) (b4K c d):=
 b5o (b9N ha hb) λσ H Q h0=>k4 h0 λF ρ k h1 h2 q=>by
  obtain⟨b,e1,e2⟩:=bind_some h2;refine⟨F,ρ,b,h1,e1,λF1 H1 x=> ?_⟩;cases b with
  |true=>exact b0G ⟨F1,ρ,k,h1.ext x,e2,λF2 H2 y=>q F2 H2 (x.trans y)⟩
  |false=>cases e2;exact b0F (q F1 H1 x)
theorem b74{a b:AG}{rest:List AG}{c d:MT}{pos:Pos}(ha:ET X a c)(hb:EW X (.BoolOp .Or (b::rest) pos) d):EW X (.BoolOp .Or (a::b::rest) pos) (b4L c d):=
 b5o (c09 ha hb) λσ H Q h0=>k4 h0 λF ρ k h1 h2 q=>by
  obtain⟨b,e1,e2⟩:=bind_some h2;refine⟨F,ρ,b,h1,e1,λF1 H1 x=> ?_⟩;cases b with
  |false=>exact b0F ⟨F1,ρ,k,h1.ext x,e2,λF2 H2 y=>q F2 H2 (x.trans y)⟩
  |true=>cases e2;exact b0G (q F1 H1 x)
def b2X(m n:M):M:=λρ=>(m ρ).bind λr=>(a9Y r).bind λb=>if b=true then n ρ else ξ (.v (.bool false))
def c0S(m:M):M:=λρ=>(m ρ).bind λr=>(a9Y r).bind λb=>ξ (.v (.bool (!b)))
theorem b0q{op:BoolOp}{a:AG}{m:M}{pos:Pos}(h:EE X a m):EE X (.BoolOp op [a] pos) m:=b9C h
theorem a7Z{a b:AG}{rest:List AG}{m n:M}{pos:Pos}(ha:EE X a m)(hb:EE X (.BoolOp .And (b::rest) pos) n):EE X (.BoolOp .And (a::b::rest) pos) (b2X m n):=
 m6 (b9x ha hb) λσ H Q h0=>k4 h0 λF ρ r h1 h2 q=>by
  obtain⟨r1,e1,h2⟩:=bind_some h2;obtain⟨b,e2,h2⟩:=bind_some h2;refine⟨F,ρ,r1,h1,e1,λv F1 H1 o=>⟨b,a3a o.rep e2, ?_⟩⟩;cases b with
  |true=>exact b0G ⟨F1,ρ,r,h1.ext o.x,h2,λw F2 H2 y=>q w F2 H2 (o9.trans o.x y)⟩
  |false=>cases h2;exact b0F (q _ F1 H1 (o9.val o.x rfl))
theorem b8K{a:AG}{m:M}{pos:Pos}(ha:EE X a m):EE X (.UnaryOp .Not a pos) (c0S m):=
 m6 (b9B ha) λσ H Q h0=>k4 h0 λF ρ r h1 h2 q=>by
  obtain⟨r1,e1,h2⟩:=bind_some h2;obtain⟨b,e2,h2⟩:=bind_some h2;cases h2;exact⟨F,ρ,r1,h1,e1,λv F1 H1 o=>⟨b,a3a o.rep e2,q _ F1 H1 (o9.val o.x rfl)⟩⟩
end
inductive Fl where
 |nx (ρ:b9)|rt (r:d7)|bk (ρ:b9)|ct (ρ:b9)
abbrev MS:=b9->Option Fl
structure Y9(K:AE)(F0 H0 F H:Hp)(σ:L2.St)(ρ:b9):Prop where
 x:R5 F0 H0 F H
 e:C9 K F H σ ρ
 nw:∀(i:Nat) (c:V2) (a:AB),ρ[i]?=ξ (ξ (.ow c))->σ[i]?=ξ (ξ (.ref a))->H0 a=ζ
def Fin(K:AE)(F0 H0 F:Hp)(D:N5):Fl->Prop
 | .nx ρ=>∀σ' F' H',g8 F F'->Y9 K F0 H0 F' H' σ' ρ->D.nx σ' H'
 | .rt r=>∀v F' H',o9 K F0 H0 F' H' v r->D.rt v H'
 | .bk ρ=>∀σ' F' H',g8 F F'->Y9 K F0 H0 F' H' σ' ρ->D.bk σ' H'
 | .ct ρ=>∀σ' F' H',g8 F F'->Y9 K F0 H0 F' H' σ' ρ->D.ct σ' H'
theorem Fin.later{K:AE}{F0 H0 F F1:Hp}{D:N5}(s:g8 F F1):∀{fl:Fl},Fin K F0 H0 F D fl->Fin K F0 H0 F1 D fl
 | .nx _,h=>λσ' F' H' s' so=>h σ' F' H' (s.trans s') so
 | .rt _,h=>h
 | .bk _,h=>λσ' F' H' s' so=>h σ' F' H' (s.trans s') so
 | .ct _,h=>λσ' F' H' s' so=>h σ' F' H' (s.trans s') so
def tMS(K:AE)(m:MS):TS:=λD σ H=>∃F0 H0 F ρ fl,Y9 K F0 H0 F H σ ρ/\m ρ=ξ fl/\Fin K F0 H0 F D fl
theorem E9{K:AE}{m:MS}{D:N5}{σ:L2.St}{H:Hp}{C:Prop}(h:tMS K m D σ H)(k:∀F0 H0 F ρ fl,Y9 K F0 H0 F H σ ρ->m ρ=ξ fl->Fin K F0 H0 F D fl->C):C:=
 h.elim λa h=>h.elim λb h=>k4 h (k a b)
abbrev ES(X:Cx)(st:Stmt)(m:MS):Prop:=PS X st (tMS X.K m)
abbrev ESs(X:Cx)(st:List Stmt)(m:MS):Prop:=PSs X st (tMS X.K m)
theorem Y9.ext{K:AE}{F0 H0 F H F' H':Hp}{σ:L2.St}{ρ:b9}(s:Y9 K F0 H0 F H σ ρ)(x:R5 F H F' H'):Y9 K F0 H0 F' H' σ ρ:=⟨s.x.trans x,s.e.ext x,s.nw⟩
def d7.nb:d7->Bool
 | .bo _=>false
 |_=>true
theorem Y9.set{K:AE}{F0 H0 F H F' H':Hp}{σ:L2.St}{ρ:b9}{v:V}{r:d7}(s:Y9 K F0 H0 F H σ ρ)(o:o9 K F H F' H' v r)(hb:r.nb=true)(i:Nat):Y9 K F0 H0 F' H' (σ.set i (ξ v)) (ρ.set i (ξ r)):=by
 have s1:=s.ext o.x;have le:=s.e.len;refine⟨s1.x,⟨s1.e.fh,by simp [le],λj q e=> ?_,λj ps e=> ?_,λj k ps qs a hjk e1 e2 e3 e4=> ?_⟩,λj ps a e1 e2=> ?_⟩
 ·rw [List.getElem?_set] at e ⊢
  by_cases hij:i=j
  ·subst hij;rw [if_pos rfl] at e ⊢;rw [le];split at e
   ·rename_i c;cases e;rw [if_pos c];exact⟨v,rfl,o.rep⟩
   ·cases e
  ·rw [if_neg hij] at e ⊢;exact s1.e.at_ j q e
 ·rw [List.getElem?_set] at e
  by_cases hij:i=j
  ·subst hij;rw [if_pos rfl] at e;split at e
   ·cases e;cases hb
   ·cases e
  ·rw [if_neg hij] at e;exact s1.e.nb j ps e
 ·rw [List.getElem?_set] at e1 e2 e3 e4
  by_cases hij:i=j
  ·subst hij;rw [if_pos rfl] at e1 e3;rw [if_neg hjk] at e2 e4;split at e1
   ·cases e1;split at e3
    ·cases e3;have fr:=o.fr ps a rfl rfl;obtain⟨w,h1,rr⟩:=s.e.at_ k _ e2;obtain⟨a',xs,h2,_,h3⟩:=R7.at_ rr;rw [e4] at h1;cases h1;cases h2;rw [fr] at h3;cases h3
    ·cases e3
   ·cases e1
  ·rw [if_neg hij] at e1 e3
   by_cases hik:i=k
   ·subst hik;rw [if_pos rfl] at e2 e4;split at e2
    ·cases e2;split at e4
     ·cases e4;have fr:=o.fr qs a rfl rfl;obtain⟨w,h1,rr⟩:=s.e.at_ j _ e1;obtain⟨a',xs,h2,_,h3⟩:=R7.at_ rr;rw [e3] at h1;cases h1;cases h2;rw [fr] at h3;cases h3
     ·cases e4
    ·cases e2
   ·rw [if_neg hik] at e2 e4;exact s1.e.ap j k ps qs a hjk e1 e2 e3 e4
 ·rw [List.getElem?_set] at e1 e2
  by_cases hij:i=j
  ·subst hij;rw [if_pos rfl] at e1 e2;split at e1
   ·cases e1;split at e2
    ·cases e2;exact s.x.h.free (o.fr ps a rfl rfl)
    ·cases e2
   ·cases e1
  ·rw [if_neg hij] at e1 e2;exact s.nw j ps a e1 e2
section
variable {X:Cx}
def F8:MS:=λρ=>ξ (.nx ρ)
def g9(m n:MS):MS:=λρ=>(m ρ).bind λfl=>match fl with
 | .nx ρ'=>n ρ'
 |f=>ξ f
theorem G4:ESs X [] F8:=a4G b10 λD σ H h0=>E9 h0 λF0 H0 F ρ fl so e fin=>by
 cases e;exact fin σ F H (PU.g8.refl F) so
theorem c6{st:Stmt}{rest:List Stmt}{m n:MS}(h1:ES X st m)(h2:ESs X rest n):ESs X (st::rest) (g9 m n):=
 a4G (a28 h1 h2) λD σ H h0=>E9 h0 λF0 H0 F ρ fl so e fin=>by
  obtain⟨f1,e1,e⟩:=bind_some e;cases f1 with
  |nx ρ'=>exact⟨F0,H0,F,ρ,.nx ρ',so,e1,λσ' F' H' s so'=>⟨F0,H0,F',ρ',fl,so',e,fin.later s⟩⟩
  |rt r=>cases e;exact⟨F0,H0,F,ρ,_,so,e1,fin⟩
  |bk r=>cases e;exact⟨F0,H0,F,ρ,_,so,e1,fin⟩
  |ct r=>cases e;exact⟨F0,H0,F,ρ,_,so,e1,fin⟩
theorem d8{st:Stmt}{m:MS}(h1:ES X st m):ESs X [st] m:=b11 h1
def i9(i:Nat)(m:M):MS:=λρ=>(m ρ).bind λr=>if r.nb=true then ξ (.nx (ρ.set i (ξ r))) else ζ
theorem g0{i:Nat}{x:Str}{e:AG}{m:M}{pos pos':Pos}(hN:X.N.Nodup)(he:EE X e m)(hi:X.N[i]?=ξ x:=by rfl)(hx:Loc X.env.scope x:=by exact Or.inl rfl)(hs:swapsWith e (ξ (.Name x pos')) pos.line X.env=pure false:=by rfl)(hf:X.fn x=true\/X.env.scope.names.lookup x=ξ .local:=by first|exact .inl rfl|exact .inr rfl|assumption):
 ES X (.Assign [.Name x pos'] e pos) (i9 i m):=
 C6 (b9I hN hi hx he hs hf) λD σ H h0=>E9 h0 λF0 H0 F ρ fl so e fin=>by
  obtain⟨r,e1,e⟩:=bind_some e;split at e
  ·rename_i c;cases e;exact⟨F,ρ,r,so.e,e1,λv F' H' o=>fin _ F' H' o.x.f (so.set o c i)⟩
  ·cases e
def G1(m:M):MS:=λρ=>(m ρ).bind λr=>if r.nb=true then ξ (.rt r) else ζ
theorem l7{e:AG}{m:M}{pos:Pos}(he:EE X e m):ES X (.Return (ξ e) pos) (G1 m):=
 C6 (b5k he) λD σ H h0=>E9 h0 λF0 H0 F ρ fl so e fin=>by
  obtain⟨r,e1,e⟩:=bind_some e;split at e
  ·rename_i c;cases e;exact⟨F,ρ,r,so.e,e1,λv F' H' o=>fin v F' H' (o9.trans so.x o)⟩
  ·cases e
def U1(i:Nat):MS:=λρ=>match ρ[i]? with
 |some (ξ r)=>ξ (.rt r)
 |_=>ζ
theorem U4(i:Nat){x:Str}{p pos:Pos}(h:PE X (.Name x p) (C7 i)):ES X (.Return (ξ (.Name x p)) pos) (U1 i):=
 C6 (b5k h) λD σ H h0=>E9 h0 λF0 H0 F ρ fl so e fin=>by
  unfold U1 at e;split at e
  ·rename_i r er;cases e;obtain⟨v,e1,rr⟩:=so.e.at_ i _ er;exact⟨v,e1,fin v F H ⟨so.x,rr,λps a z1 z2=>by subst z1;subst z2;exact so.nw i ps a er e1⟩⟩
  ·cases e
def U7(c:MT)(m n:MS):MS:=λρ=>(c ρ).bind λb=>if b=true then m ρ else n ρ
theorem U0{c:AG}{a b:List Stmt}{mc:MT}{m n:MS}{pos:Pos}(hc:ET X c mc)(ha:ESs X a m)(hb:ESs X b n):ES X (.If c a b pos) (U7 mc m n):=
 C6 (b8g hc ha hb) λD σ H h0=>E9 h0 λF0 H0 F ρ fl so e fin=>by
  obtain⟨b,e1,e⟩:=bind_some e;refine⟨F,ρ,b,so.e,e1,λF1 H1 x=> ?_⟩;cases b with
  |true=>exact b0G ⟨F0,H0,F1,ρ,fl,so.ext x,e,fin.later x.f⟩
  |false=>exact b0F ⟨F0,H0,F1,ρ,fl,so.ext x,e,fin.later x.f⟩
def setAll{α:Type}:List (Option α)->List Nat->List α->List (Option α)
 |σ,i::is,x::xs=>setAll (σ.set i (ξ x)) is xs
 |σ,_,_=>σ
def a78:List Nat->TGs
 |[]=>c0J
 |i::is=>b78 (a2S i) (a78 is)
theorem a3t:∀{is:List Nat} {xs:List V} {σ:L2.St} {H:Hp} {Q:L2.St->Hp->Prop},xs.length=is.length->Q (setAll σ is xs) H->a78 is xs σ H Q
 |[],[],_,_,_,_,q=>⟨rfl,q⟩
 |[],_::_,_,_,_,h,_=>by cases h
 |_::_,[],_,_,_,h,_=>by cases h
 |i::is,x::xs,σ,H,Q,h,q=>⟨x,xs,rfl,a3t (is:=is) (xs:=xs) (by simpa using h) q⟩
theorem Y9.setAll{K:AE}{F0 H0 F H:Hp}:∀{is:List Nat} {xs:List V} {ps:List PV} {σ:L2.St} {ρ:b9},Y9 K F0 H0 F H σ ρ->h9 K F ps xs->Y9 K F0 H0 F H (PU.setAll σ is xs) (PU.setAll ρ is (ps.map .v))
 |[],xs,ps,σ,ρ,s,r=>by
  have e1:PU.setAll σ [] xs=σ:=by cases xs<;>rfl
  have e2:PU.setAll ρ [] (ps.map d7.v)=ρ:=by cases ps<;>rfl
  rw [e1,e2];exact s
 |i::is,xs,[],σ,ρ,s,r=>by cases r;exact s
 |i::is,xs,p::ps,σ,ρ,s,⟨v,t,e,rp,rl⟩=>by
  subst e;exact Y9.setAll (is:=is) (s.set (o9.here s.e.fh rp) rfl i) rl
def b9f(is:List Nat)(m:M):MS:=λρ=>(m ρ).bind λr=>match r with
 | .v (.tuple ps)=>if ps.length=is.length then ξ (.nx (setAll ρ is (ps.map .v))) else ζ
 |_=>ζ
theorem b8O{is:List Nat}{es:List AG}{k:Nat}{e:AG}{m:M}{pos tpos:Pos}(hc:X.calm=true)(he:EE X e m)(hg:PGs X es (a78 is))
 (hn:(assignEach es X.env).length=is.length:=by rfl) (hst:(assignEach es X.env).findIdx? (·.1)=ζ:=by rfl)
 (hs:swapsWithSole [.Tuple es k tpos] e pos.line X.env=pure false:=by rfl) (hw:swappedStores [.Tuple es k tpos] e X.env=pure ζ:=by rfl)
 (h1:(assignEach [.Tuple es k tpos] X.env).map (·.2)=[assign (.Tuple es k tpos) X.env]:=by rfl):ES X (.Assign [.Tuple es k tpos] e pos) (b9f is m):=
 C6 (b9G he (a5U hc hg hn hst) hs hw h1) λD σ H h0=>E9 h0 λF0 H0 F ρ fl so e fin=>by
  obtain⟨r,e1,e⟩:=bind_some e;split at e
  ·rename_i ps;split at e
   ·rename_i c;cases e;refine⟨F,ρ,_,so.e,e1,λv F' H' o=> ?_⟩;obtain⟨a,xs,rfl,hq,rl⟩:=o.rep;have hl:xs.length=is.length:=by rw [rl.length];exact c
    exact⟨a,xs,rfl,r9 o.x.fh hq.sq,hl,a3t hl (fin _ F' H' o.x.f ((so.ext o.x).setAll rl))⟩
   ·cases e
  ·cases e
def a2r(body:MS)(tg:PV->b9->Option b9):List PV->b9->Option Fl
 |[],ρ=>ξ (.nx ρ)
 |p::ps,ρ=>(tg p ρ).bind λρ1=>(body ρ1).bind λfl=>match fl with
  | .nx ρ'=>a2r body tg ps ρ'
  | .ct ρ'=>a2r body tg ps ρ'
  | .bk ρ'=>ξ (.nx ρ')
  | .rt r=>ξ (.rt r)
def j6(i:Nat):PV->b9->Option b9:=λp ρ=>ξ (ρ.set i (ξ (.v p)))
def a7I(is:List Nat):PV->b9->Option b9:=λp ρ=>match p with
 | .tuple ps=>if ps.length=is.length then ξ (setAll ρ is (ps.map .v)) else ζ
 |_=>ζ
def a80(K:AE)(g:TG)(tg:PV->b9->Option b9):Prop:=
 ∀F0 H0 F H σ ρ ρ1 p x (Q:L2.St->Hp->Prop),Y9 K F0 H0 F H σ ρ->A5 K F p x->tg p ρ=ξ ρ1->(∀σ',Y9 K F0 H0 F H σ' ρ1->Q σ' H)->g x σ H Q
theorem o8{K:AE}(i:Nat):a80 K (a2S i) (j6 i):=λF0 H0 F H σ ρ ρ1 p x Q so r e k=>by
 cases e;exact k _ (so.set (o9.here so.e.fh r) rfl i)
theorem a3i{K:AE}(is:List Nat):a80 K (c0K K is.length (a78 is)) (a7I is):=λF0 H0 F H σ ρ ρ1 p x Q so r e k=>by
 unfold a7I at e;split at e
 ·split at e
  ·rename_i c;cases e;obtain⟨a,xs,rfl,hq,rl⟩:=r;have hl:xs.length=is.length:=by rw [rl.length];exact c
   exact⟨a,xs,rfl,r9 so.e.fh hq.sq,hl,a3t hl (k _ (so.setAll rl))⟩
  ·cases e
 ·cases e
theorem a68{body:MS}{tg:PV->b9->Option b9}{ps:List PV}{p:PV}{ρ:b9}{fl:Fl}(h:a2r body tg (p::ps) ρ=ξ fl):∃ρ1 f1,tg p ρ=ξ ρ1/\body ρ1=ξ f1/\(match f1 with
 | .nx ρ'=>a2r body tg ps ρ'
 | .ct ρ'=>a2r body tg ps ρ'
 | .bk ρ'=>ξ (.nx ρ')
 | .rt r=>ξ (.rt r))=ξ fl:=by
 unfold a2r at h
 obtain⟨ρ1,e1,h⟩:=bind_some h
 obtain⟨f1,e2,h⟩:=bind_some h
 exact⟨ρ1,f1,e1,e2,h⟩
def PvL(K:AE)(F0 H0 F1:Hp)(body:MS)(tg:PV->b9->Option b9)(ps:List PV)(fl:Fl)(k:Nat)(σ:L2.St)(H:Hp):Prop:=
 ∃F ρ,g8 F1 F/\Y9 K F0 H0 F H σ ρ/\a2r body tg (ps.drop k) ρ=ξ fl
theorem a3B{K:AE}{F0 H0 F1:Hp}{body:MS}{tg:PV->b9->Option b9}{g:TG}{ps:List PV}{fl:Fl}{D:N5}{k:Nat}{p:PV}{x:V}{σ:L2.St}{H:Hp}(T:a80 K g tg)(fin:Fin K F0 H0 F1 D fl)(ep:ps[k]?=ξ p)
 (hp:PvL K F0 H0 F1 body tg ps fl k σ H) (rx:∀F,g8 F1 F->A5 K F p x):
 g x σ H λσ2 H2=>tMS K body {D with nx:=PvL K F0 H0 F1 body tg ps fl (k+1),ct:=PvL K F0 H0 F1 body tg ps fl (k+1),bk:=D.nx} σ2 H2:=by
 obtain⟨F,ρ,s,so,e⟩:=hp
 have hk:k<ps.length:=(Ah.mp ep).1
 have hd:ps.drop k=p::ps.drop (k+1):=by
  rw [List.drop_eq_getElem_cons hk]
  congr 1
  exact(Ah.mp ep).2
 rw [hd] at e
 obtain⟨ρ1,f1,e1,e2,e3⟩:=a68 e
 refine T F0 H0 F H σ ρ ρ1 p x _ so (rx F s) e1 λσ' so'=>⟨F0,H0,F,ρ1,f1,so',e2, ?_⟩
 cases f1 with
 |nx ρ'=>exact λσ2 F2 H2 s2 so2=>⟨F2,ρ',s.trans s2,so2,e3⟩
 |ct ρ'=>exact λσ2 F2 H2 s2 so2=>⟨F2,ρ',s.trans s2,so2,e3⟩
 |bk ρ'=>cases e3;exact λσ2 F2 H2 s2 so2=>fin σ2 F2 H2 (s.trans s2) so2
 |rt r=>cases e3;exact fin
theorem a2X{K:AE}{F0 H0 F1:Hp}{body:MS}{tg:PV->b9->Option b9}{ps:List PV}{fl:Fl}{D:N5}{σ:L2.St}{H:Hp}(fin:Fin K F0 H0 F1 D fl)
 (hp:PvL K F0 H0 F1 body tg ps fl ps.length σ H):D.nx σ H:=by
 obtain⟨F,ρ,s,so,e⟩:=hp
 rw [List.drop_length] at e
 cases e
 exact fin σ F H s so
abbrev MI:=b9->Option (List PV)
def M5(m:M):MI:=λρ=>((m ρ).bind d7.toVal).bind PyData.items?
def c1E(K:AE)(tl:TE):TI:=λσ H R=>tl σ H λx H1=>∃a,x= .ref a/\(((∃xs,Z0 K H1 a xs)/\R (Itl K a) H1)\/((∃xs,SqT K H1 a xs)/\R (Itt K a) H1))
theorem b5g{tg l:AG}{tl:TE}(hl:PE X l tl):PI X tg l (c1E X.K tl):=by
 intro pins s σ H R I h;refine C8 (hl pins s σ H _ I h) λv s1 h0=>j5 h0 λx H1 I1 r1 q1=> ?_;obtain⟨a,e,q⟩:=q1;subst e;cases r1;rcases q with⟨⟨xs,hq⟩,q⟩|⟨⟨xs,hq⟩,q⟩
 ·obtain⟨its,rv,p,hz⟩:=I1.list hq;refine wpAny_pyIter_list p.isList ?_;refine⟨s1.heap.objs.size,[s1.heap.objs.size],_,_,H1,rfl,I1.kept (t':=s1.toks) λb o e=>AR _ e,b3p a _,⟨_,Aa _ rfl,rfl,rfl⟩,λb hb=> ?_,q⟩;have e:b=s1.heap.objs.size:=by simpa using hb
  subst e;exact I1.fpOk (AN _) (I1.hok.fresh (AN _))
 ·obtain⟨its,rv,p,hz⟩:=I1.tuple hq;refine wpAny_pyIter_tuple (show s1.heap.IsTuple a its.toArray from p) ?_;refine⟨s1.heap.objs.size,[s1.heap.objs.size],_,_,H1,rfl,I1.kept (t':=s1.toks) λb o e=>AR _ e,b1f a _,⟨_,Aa _ rfl,rfl,rfl⟩,λb hb=> ?_,q⟩;have e:b=s1.heap.objs.size:=by simpa using hb
  subst e;exact I1.fpOk (AN _) (I1.hok.fresh (AN _))
def M4(it:MI)(tg:PV->b9->Option b9)(body:MS):MS:=λρ=>(it ρ).bind λps=>a2r body tg ps ρ
theorem Z5{tg iter:AG}{body:List Stmt}{m:M}{g:TG}{t:PV->b9->Option b9}{b:MS}{pos:Pos}(hp:PassesOwn (model X.prog X.w) X.A X.env X.xe)(hc:X.calm=true)(hi:EE X iter m)(hg:PG X tg g)(T:a80 X.K g t)(hb:ESs X body b)
 (hs:∀x,foldedSetIterable iter X.env x=pure x:=by intro _;rfl):ES X (.For tg iter body [] pos) (M4 (M5 m) t b):=
 C6 (b05 hp hc (b5g hi) hg hb hs) λD σ H h0=>E9 h0 λF0 H0 F ρ fl so e fin=>by
  obtain⟨ps,e1,e⟩:=bind_some e;obtain⟨q,e1,e2⟩:=bind_some e1;obtain⟨r,e1,e3⟩:=bind_some e1;refine⟨F,ρ,r,so.e,e1,λv F' H' o=> ?_⟩;obtain⟨F1,o1⟩:=o.toVal e3;have fin1:=fin.later o1.x.f;have so1:=so.ext o1.x;obtain⟨a,xs,rfl,hq,rl⟩:=K6 (F:=F1) (H:=F1) (PU.g8.refl F1) (show K8 X.K F1 F1 v (.v q) from o1.rep) e2;have hlen:=rl.length;have get:∀k x,xs[k]?=ξ x->∃p,ps[k]?=ξ p/\∀F,g8 F1 F->A5 X.K F p x:=λk x ex=>by
   obtain⟨p,ep,rp⟩:=rl.getV ex;exact⟨p,ep,λF s=>A5.mono s _ rp⟩
  rcases hq with hq|hq
  ·refine⟨a,rfl,.inl ⟨⟨xs,B2 o1.x.fh hq⟩,b4d (K:=X.K) (a:=a) (xs:=xs) (PvL X.K F0 H0 F1 b t ps fl) ⟨F1,ρ,PU.g8.refl F1,so1,e⟩ (λk σ H _ ⟨F,_,s,so2,_⟩=>B2 (s.trans so2.e.fh) hq) (λk x σ H ex hp=> ?_) (λσ H hp=> ?_)⟩⟩
   ·obtain⟨p,ep,rp⟩:=get k x ex;exact a3B T fin1 ep hp rp
   ·rw [hlen] at hp;exact a2X fin1 hp
  ·refine⟨a,rfl,.inr ⟨⟨xs,r9 o1.x.fh hq⟩,b6F (K:=X.K) (a:=a) (xs:=xs) (PvL X.K F0 H0 F1 b t ps fl) ⟨F1,ρ,PU.g8.refl F1,so1,e⟩ (λk σ H _ ⟨F,_,s,so2,_⟩=>r9 (s.trans so2.e.fh) hq) (λk x σ H ex hp=> ?_) (λσ H hp=> ?_)⟩⟩
   ·obtain⟨p,ep,rp⟩:=get k x ex;exact a3B T fin1 ep hp rp
   ·rw [hlen] at hp;exact a2X fin1 hp
def a01(lo hi:Int):List PV:=(AZ (hi - lo).toNat).map λk=> .int (lo+(k:Nat))
theorem b4q:∃f:Int->Bool,∀j,f j=decide (-(2 ^ 62)<=j/\j<2 ^ 62):=⟨_,λ_=>rfl⟩
def inR:Int->Bool:=b4q.choose
theorem b4p(j:Int):inR j=decide (-(2 ^ 62)<=j/\j<2 ^ 62):=b4q.choose_spec j
theorem a8d{j:Int}:inR j=true↔(-(2 ^ 62)<=j/\j<2 ^ 62):=by rw [b4p,decide_eq_true_iff]
def P7(m:MA):MI:=λρ=>(m ρ).bind λps=>match ps with
 |[.int j]=>if inR j=true then ξ (a01 0 j) else ζ
 |_=>ζ
theorem a56{lo hi:Int}{k:Nat}(h:k<(hi - lo).toNat):(a01 lo hi)[k]?=ξ (.int (lo+k)):=by
 simp [a01,h]
theorem a0k(lo hi:Int):(a01 lo hi).length=(hi - lo).toNat:=by simp [a01]
theorem W4{tg a:AG}{body:List Stmt}{m:MA}{g:TG}{t:PV->b9->Option b9}{b:MS}{p rp pos:Pos}(hp:PassesOwn (model X.prog X.w) X.A X.env X.xe)(hc:X.calm=true)(hgl:Gl X "range")(hm:X.mg "range"=ζ)(ha:EA X [a] m)(hg:PG X tg g)(T:a80 X.K g t)(hb:ESs X body b)
 (hst:AL [a] X.env=[(false,eval a X.env)]:=by rfl) (hs:∀x,foldedSetIterable (.Call (.Name "range" p) [a] [] rp) X.env x=pure x:=by intro _;rfl):ES X (.For tg (.Call (.Name "range" p) [a] [] rp) body [] pos) (M4 (P7 m) t b):=
 C6 (b05 hp hc (a7u hgl hm ha hst) hg hb hs) λD σ H h0=>E9 h0 λF0 H0 F ρ fl so e fin=>by
  obtain⟨ps,e1,e⟩:=bind_some e;obtain⟨qs,e1,e2⟩:=bind_some e1;refine⟨F,ρ,qs,so.e,e1,λvs F1 H1 x rl=> ?_⟩;split at e2
  ·rename_i j;split at e2
   ·rename_i c;have c:=a8d.mp c;cases e2;obtain⟨v,r,rfl,rv,rr⟩:=rl;cases rv;cases rr;have fin1:=fin.later x.f;have hz:(j - 0).toNat=j.toNat:=by lia
    refine⟨j,rfl,c.1,c.2,b2H (lo:=0) (n:=j.toNat) (PvL X.K F0 H0 F1 b t (a01 0 j) fl) ⟨F1,ρ,PU.g8.refl F1,so.ext x,e⟩ (λk σ H hk hp=> ?_) (λσ H hp=> ?_)⟩
    ·exact a3B T fin1 (a56 (by lia)) hp λ_ _=>rfl
    ·have:j.toNat=(a01 0 j).length:=by rw [a0k,hz]
     rw [this] at hp;exact a2X fin1 hp
   ·cases e2
  ·cases e2
def Q8(c:MT)(body:MS):Nat->b9->Option Fl
 |0,_=>ζ
 |n+1,ρ=>(c ρ).bind λb=>if b=true then(body ρ).bind λfl=>match fl with
  | .nx ρ'=>Q8 c body n ρ'
  | .ct ρ'=>Q8 c body n ρ'
  | .bk ρ'=>ξ (.nx ρ')
  | .rt r=>ξ (.rt r) else ξ (.nx ρ)
theorem a5f(n:Nat){c:AG}{body:List Stmt}{mc:MT}{b:MS}{pos:Pos}(hp:PassesOwn (model X.prog X.w) X.A X.env X.xe)(hc:ET X c mc)(hb:ESs X body b):ES X (.While c body [] pos) (Q8 mc b n):=
 C6 (b5l hp hc hb) λD σ H h0=>E9 h0 λF0 H0 F ρ fl so e fin=>by
  refine⟨λk σ H=>∃F1 ρ,g8 F F1/\Y9 X.K F0 H0 F1 H σ ρ/\Q8 mc b k ρ=ξ fl,⟨n,F,ρ,PU.g8.refl F,so,e⟩, ?_⟩;rintro k σ H ⟨F1,ρ,s,so,e⟩;cases k with
  |zero=>cases e
  |succ k=>
   unfold Q8 at e;obtain⟨d,e1,e⟩:=bind_some e;refine⟨F1,ρ,d,so.e,e1,λF2 H2 x=> ?_⟩;have s2:=s.trans x.f;cases d with
   |true=>
    rw [if_pos rfl] at e;obtain⟨f1,e2,e⟩:=bind_some e;refine b0G ⟨λσ' H'=>∃F1 ρ,g8 F F1/\Y9 X.K F0 H0 F1 H' σ' ρ/\Q8 mc b k ρ=ξ fl,λσ' H' h=>⟨k,Nat.lt_succ_self k,h⟩,⟨F0,H0,F2,ρ,f1,so.ext x,e2, ?_⟩⟩;cases f1 with
    |nx ρ'=>exact λσ3 F3 H3 s3 so3=>⟨F3,ρ',s2.trans s3,so3,e⟩
    |ct ρ'=>exact λσ3 F3 H3 s3 so3=>⟨F3,ρ',s2.trans s3,so3,e⟩
    |bk ρ'=>cases e;exact λσ3 F3 H3 s3 so3=>fin σ3 F3 H3 (s2.trans s3) so3
    |rt r=>cases e;exact fin
   |false=>
    rw [if_neg Ac] at e;cases e;exact b0F (fin σ F2 H2 s2 (so.ext x))
def A4(n:Nat)(body:MS)(ps:List PV):Option d7:=(body (ps.map (λp=>ξ (d7.v p))++AO n ζ)).bind λfl=>match fl with
 | .rt r=>ξ r
 | .nx _=>ξ (.v .none)
 |_=>ζ
end
theorem a94{K:AE}{F H:Hp}{ps:List PV}{vs:List V}(n:Nat)(s:g8 F H)(r:h9 K F ps vs):Y9 K F H F H (vs.map ξ++AO n ζ) (ps.map (λp=>ξ (d7.v p))++AO n ζ):=by
 have hl:=r.length;have key:∀(i:Nat) (q:d7),(ps.map (λp=>ξ (d7.v p))++AO n ζ)[i]?=ξ (ξ q)->∃p v,q= .v p/\(vs.map ξ++AO n ζ)[i]?=ξ (ξ v)/\A5 K F p v:=by
  intro i q e
  by_cases h:i<ps.length
  ·rw [At (by simpa using h),Ag] at e
   rw [At (by rw [AV,hl];exact h),Ag]
   cases q':ps[i]? with
   |none=>rw [q'] at e;cases e
   |some p=>
    rw [q'] at e;cases e;obtain⟨v,h1,h2⟩:=r.get q';exact⟨p,v,rfl,by rw [h1];rfl,h2⟩
  ·rw [List.getElem?_append_right (by simpa using h),List.getElem?_replicate] at e
   split at e<;>cases e
 refine⟨R5.refl s,⟨s,by simp [hl],λi q e=> ?_,λi qs e=> ?_,λi j qs _ a _ e=> ?_⟩,λi qs a e=> ?_⟩
 ·obtain⟨p,v,rfl,h1,h2⟩:=key i q e;exact⟨v,h1,h2⟩
 ·obtain⟨p,v,z,_⟩:=key i _ e;cases z
 ·obtain⟨p,v,z,_⟩:=key i _ e;cases z
 ·obtain⟨p,v,z,_⟩:=key i _ e;cases z
theorem b77{P:AJ}{w:AI}{K:AE}{mg:Str->Option AA}{base:Heap}{x qual:Str}{st:Stmt}{f:AB}{fd:FuncData}{N ps:List Str}{k:Nat}{m:MS}(F:Fun K x qual st f fd)(S:g6 N ps (c7 st))
 (hb:∀(cdv:AA) (A:AK) (outer:List Env) (s:AC) (H:Hp) (E:XK),D2 k (A.deeper (envOfC qual (c7 st) s.heap.objs.size f cdv))->ESs (a1a CX0 P w K mg base N qual (c7 st) f cdv A outer s H E).nox (A6 st) m):
 P5 P w K mg base CX0 (k+1) f fd ps (spP K ps.length (A4 (N.length - ps.length) m)):=by
 refine F.ok S (λvs H Q E h=> ?_) (λcdv A outer s H vs Q E hr h=> ?_)
 ·obtain⟨_,qs,_,_,r,h2,_⟩:=h
  rw [r.length,h2]
 ·obtain⟨F1,qs,r,s1,rl,hl,e,k⟩:=h
  refine⟨_,hb cdv A outer s H E hr, ?_⟩
  unfold A4 at e
  obtain⟨fl,e1,e2⟩:=bind_some e
  have hv:vs.length=ps.length:=by rw [rl.length,hl]
  refine⟨F1,H,F1,_,fl, ?_,e1, ?_⟩
  ·have:=a94 (N.length - ps.length) s1 rl
   unfold L2.a0r
   rw [hv]
   exact this
  ·cases fl with
   |rt q=>cases e2;exact λv F' H' o=>k v F' H' o
   |nx ρ=>cases e2;exact λσ' F' H' _ so=>k .non F' H' (o9.val so.x rfl)
   |bk ρ=>cases e2
   |ct ρ=>cases e2
section
variable {X:Cx}
def rC1(K:AE)(g:d7->Option d7):List V->Hp->VK->Prop:=λxs H Q=>∃F x rx rz,xs=[x]/\g8 F H/\K8 K F H x rx/\g rx=ξ rz/\∀v F' H',o9 K F H F' H' v rz->Q v H'
def rC2(K:AE)(g:d7->d7->Option d7):List V->Hp->VK->Prop:=λxs H Q=>∃F x y rx ry rz,xs=[x,y]/\g8 F H/\K8 K F H x rx/\K8 K F H y ry/\g rx ry=ξ rz/\∀v F' H',o9 K F H F' H' v rz->Q v H'
def m1(g:d7->Option d7)(m:M):M:=λρ=>(m ρ).bind g
theorem b4V{m:M}{g:d7->Option d7}{σ:L2.St}{H:Hp}{Q:VK}(h:tM X.K (m1 g m) σ H Q):tCB (rC1 X.K g) (a97 (tM X.K m) b7D) σ H Q:=by
 obtain⟨F,ρ,r,he,hm,k⟩:=h;obtain⟨rx,e1,hm⟩:=bind_some hm;exact⟨F,ρ,rx,he,e1,λv F1 H1 o1=>⟨F1,v,rx,r,rfl,o1.x.fh,o1.rep,hm,λz F2 H2 o2=>k z F2 H2 (o9.trans o1.x o2)⟩⟩
theorem b7G{m n:M}{g:d7->d7->Option d7}{σ:L2.St}{H:Hp}{Q:VK}(h:tM X.K (m2 g m n) σ H Q):tCB (rC2 X.K g) (a97 (tM X.K m) (a97 (tM X.K n) b7D)) σ H Q:=by
 obtain⟨F,ρ,r,he,hm,k⟩:=h;obtain⟨rx,e1,hm⟩:=bind_some hm;obtain⟨ry,e2,hm⟩:=bind_some hm;exact⟨F,ρ,rx,he,e1,λv F1 H1 o1=>⟨F1,ρ,ry,he.ext o1.x,e2,λu F2 H2 o2=>⟨F2,v,u,rx,ry,r,rfl,o2.x.fh,o1.rep.ext o2.x,o2.rep,hm,λz F3 H3 o3=>k z F3 H3 (o9.trans (o1.x.trans o2.x) o3)⟩⟩⟩
theorem A8{id:String}{x:Str}{p pos:Pos}{e:AG}{g:d7->Option d7}{m:M}(hc:M8 X (.builtin id) (rC1 X.K g))(hg:Gl X x)(hm:X.mg x=ζ)(hv:bootBuiltins x=ξ (.builtin id))(ha:EE X e m)(hn:x≠"__name__":=by decide)(hdb:(x==("__debug__":Str))=false:=by decide)
 (he:AL [e] X.env=(false,eval e X.env)::AL [] X.env:=by rfl) (hpl:(backTo pos (AL [] X.env)).any (·.1)=false:=by rfl):EE X (.Call (.Name x p) [e] [] pos) (m1 g m):=
 m6 (a1s hc hg hm hv (u7 ha M6 he) hn hdb he hpl) λ_ _ _ h=>b4V h
theorem b72{id:String}{x:Str}{p pos:Pos}{e e2:AG}{g:d7->d7->Option d7}{m n:M}(hc:M8 X (.builtin id) (rC2 X.K g))(hg:Gl X x)(hm:X.mg x=ζ)(hv:bootBuiltins x=ξ (.builtin id))(ha:EE X e m)(hb:EE X e2 n)(hn:x≠"__name__":=by decide)(hdb:(x==("__debug__":Str))=false:=by decide)
 (he:AL [e,e2] X.env=(false,eval e X.env)::AL [e2] X.env:=by rfl) (he2:AL [e2] X.env=(false,eval e2 X.env)::AL [] X.env:=by rfl) (hpl:(backTo pos (AL [e2] X.env)).any (·.1)=false:=by rfl):EE X (.Call (.Name x p) [e,e2] [] pos) (m2 g m n):=
 m6 (a1s hc hg hm hv (u7 ha (u7 hb M6 he2) he) hn hdb he hpl) λ_ _ _ h=>b7G h
theorem a9f{T:String}{x:Str}{p pos:Pos}{e:AG}{g:d7->Option d7}{m:M}(hc:M8 X (.type T) (rC1 X.K g))(hg:Gl X x)(hm:X.mg x=ζ)(hv:bootBuiltins x=ξ (.type T))(ha:EE X e m)(hn:x≠"__name__":=by decide)(hdb:(x==("__debug__":Str))=false:=by decide)
 (he:AL [e] X.env=(false,eval e X.env)::AL [] X.env:=by rfl) (hpl:(backTo pos (AL [] X.env)).any (·.1)=false:=by rfl):EE X (.Call (.Name x p) [e] [] pos) (m1 g m):=
 m6 (a7t hc hg hm hv (u7 ha M6 he) hn hdb he hpl) λ_ _ _ h=>b4V h
def C2(x:d7):Option d7:=match x.rd with
 | .str z=>if z.length<=AM then ξ (.v (.int z.length)) else ζ
 |p=>match PyData.items? p with
  |some ps=>ξ (.v (.int ps.length))
  |none=>ζ
theorem y4:M8 X (.builtin "len") (rC1 X.K C2):=by
 ext g
 unfold C2 at h2;split at h2
 ·rename_i z ez;split at h2
  ·rename_i c;cases h2;have rr:=h1.rd s0;rw [ez] at rr;cases rr;exact a7V pins s σ H _ us Q I rv ⟨z,rfl,c,k _ F H (o9.here s0 rfl)⟩
  ·cases h2
 ·split at h2
  ·rename_i ps e;cases h2;obtain⟨a,xs,rfl,hq,r⟩:=K6 s0 h1 e;refine a7U pins s σ H _ us Q I rv ⟨a,xs,rfl,hq, ?_⟩;rw [r.length];exact k _ F H (o9.here s0 rfl)
  ·cases h2
theorem b3O(hc:X.calm=true):M8 X (.builtin "min") (rC2 X.K (gI λi j=> .int (if j<i then j else i))):=by
 intro pins s σ H xs us Q I rv h;obtain⟨F,x,y,rx,ry,rz,rfl,s0,h1,h2,h3,k⟩:=h;obtain⟨i,j,rfl,rfl,rfl⟩:=b1B h3;cases h1;cases h2;exact b2o hc pins s σ H _ us Q I rv ⟨i,j,rfl,k _ F H (o9.here s0 rfl)⟩
def a0F(x:d7):Option d7:=match PyData.items? x.rd with
 |some ps=>ξ (.v (.tuple ps))
 |none=>ζ
theorem b2P{F H:Hp}{v:V}{r:d7}{ps:List PV}(s0:g8 F H)(h:K8 X.K F H v r)(e:PyData.items? r.rd=ξ ps):∃a xs,v= .ref a/\(Z0 X.K H a xs\/(SqT X.K H a xs/\A5 X.K F (.tuple ps) v))/\h9 X.K F ps xs:=by
 cases r with
 |v p=>
  cases p with
  |list qs=>cases e;obtain⟨a,xs,rfl,hq,r⟩:=h;exact⟨a,xs,rfl,.inl (B2 s0 hq),r⟩
  |tuple qs=>cases e;obtain⟨a,xs,rfl,hq,r⟩:=h;exact⟨a,xs,rfl,.inr ⟨r9 s0 hq.sq,⟨a,xs,rfl,hq,r⟩⟩,r⟩
  |_=>cases e
 |ow c=>cases c<;>cases e;obtain⟨a,xs,rfl,_,hq,r⟩:=h;exact⟨a,xs,rfl,.inl (Z0.of hq),r⟩
 |bo c=>cases c<;>cases e;obtain⟨a,xs,rfl,_,hq,r⟩:=h;exact⟨a,xs,rfl,.inl (Z0.of hq),r⟩
theorem a09:M8 X (.type "tuple") (rC1 X.K a0F):=by
 ext g
 unfold a0F at h2;split at h2
 ·rename_i ps e;cases h2;obtain⟨a,xs,rfl,hq,r⟩:=b2P s0 h1 e;refine a6D pins s σ H _ us Q I rv ⟨a,xs,rfl, ?_⟩;rcases hq with hq|⟨hq,rp⟩
  ·exact .inl ⟨hq,λl hl=>k _ _ _ (o9.tup s0 hl r)⟩
  ·exact .inr ⟨hq,k _ F H (o9.here s0 rp)⟩
 ·cases h2
def kindOf:PV->String
 | .none=>"NoneType"
 | .bool _=>"bool"
 | .int _=>"int"
 | .str _=>"str"
 | .list _=>"list"
 | .tuple _=>"tuple"
 | .dict _=>"dict"
def a8e(T:String)(p:PV):Bool:=kindOf p==T||(kindOf p=="bool" && T=="int")
def isFn:PV->Bool
 | .dict ((.str _,_)::_)=>true
 |_=>false
def b6H(T:String)(x:d7):Option d7:=bif isFn x.rd then ζ else ξ (.v (.bool (a8e T x.rd)))
def b3C(T:String):Prop:=T="int"\/T="bool"\/T="str"\/T="list"\/T="tuple"\/T="dict"
theorem b2U{K:AE}{T:String}(h:b3C T):∀p:PV,PySem.W.kitOne K (.type (kindOf p)) (.type T)=ξ (a8e T p):=by
 intro p;rcases h with rfl|rfl|rfl|rfl|rfl|rfl<;>cases p<;>kernel_rfl
theorem b3Z{T:String}{e:AG}{m:M}{p p2 pos:Pos}(kt:b3C T)(hg:Gl X "isinstance")(hm:X.mg "isinstance"=ζ)(ha:EE X e m)(hT:PE X (.Name (Aj T) p2) (tC (.ty T)))
 (he:AL [e,.Name (Aj T) p2] X.env=(false,eval e X.env)::AL [.Name (Aj T) p2] X.env:=by rfl) (he2:AL [.Name (Aj T) p2] X.env=(false,eval (.Name (Aj T) p2) X.env)::AL [] X.env:=by rfl) (hpl:(backTo pos (AL [.Name (Aj T) p2] X.env)).any (·.1)=false:=by rfl)
 (hv:bootBuiltins "isinstance"=ξ (.builtin "isinstance"):=by rfl):
 EE X (.Call (.Name "isinstance" p) [e,.Name (Aj T) p2] [] pos) (m1 (b6H T) m):=by
 have hc:M8 X (.builtin "isinstance") (λxs H Q=>∃F x rx,xs=[x,.ty T]/\g8 F H/\K8 X.K F H x rx/\isFn rx.rd=false/\Q (.bl (a8e T rx.rd)) H):=by
  intro pins s σ H xs us Q I rv h;obtain⟨F,x,rx,rfl,s0,h1,nf,q⟩:=h;obtain⟨u,u2,rfl,ru,ru2⟩:∃u1 u2,us=[u1,u2]/\j3 x u1/\j3 (.ty T) u2:=by
   cases rv with
   |cons p q=>
    cases q with
    |cons p' q'=>
     cases q';exact⟨_,_,rfl,p,p'⟩
  cases ru2;have rr:=h1.rd s0;have kk:=b2U (K:=X.K) kt rx.rd;have fin:∀tk,EP X pins σ Q (.bool (a8e T rx.rd)) {s with toks:=tk}:=λtk=>⟨.bl _,H,I.tok tk,rfl,q⟩
  cases hp:rx.rd with
  |none=>rw [hp] at rr kk fin;cases rr;cases ru;exact PySem.W.kia_one PySem.W.kitx_none I.kIn True.intro kk (λz=>nomatch z) fin
  |bool b=>rw [hp] at rr kk fin;cases rr;cases ru;exact PySem.W.kia_one PySem.W.kitx_bool I.kIn True.intro kk (λz=>nomatch z) fin
  |int b=>rw [hp] at rr kk fin;cases rr;obtain⟨t,rfl⟩:=ru;exact PySem.W.kia_one PySem.W.kitx_int I.kIn True.intro kk (λz=>nomatch z) fin
  |str b=>rw [hp] at rr kk fin;cases rr;obtain⟨t,rfl⟩:=ru;exact PySem.W.kia_one PySem.W.kitx_str I.kIn True.intro kk (λz=>nomatch z) fin
  |list ps=>
   rw [hp] at rr kk fin;obtain⟨a,ys,rfl,hq,_⟩:=rr;cases ru;obtain⟨its,_,⟨o,n,e1,e2,_⟩,_⟩:=I.list hq;exact PySem.W.kia_one PySem.W.kitx_list I.kIn ⟨o,e1,e2⟩ kk (λz=>nomatch z) fin
  |tuple ps=>
   rw [hp] at rr kk fin;obtain⟨a,ys,rfl,hq,_⟩:=rr;cases ru;obtain⟨its,_,⟨o,e1,e2,_⟩,_⟩:=I.tuple hq.sq;exact PySem.W.kia_one PySem.W.kitx_tuple I.kIn ⟨o,e1,e2⟩ kk (λz=>nomatch z) fin
  |dict ps=>
   rw [hp] at rr kk fin nf;rcases rr with⟨a,_,rfl,hq,_⟩|⟨a,_,rfl,hq,_⟩|⟨x,_,rfl,_⟩|⟨x,m,fs,_,hf⟩
   ·cases ru;obtain⟨_,_,_,_,o,_,_,e1,e2,_⟩:=I.hok a _ hq;exact PySem.W.kia_one PySem.W.kitx_dict I.kIn ⟨o,e1,e2.1⟩ kk (λz=>nomatch z) fin
   ·cases ru;obtain⟨_,_,_,_,o,_,_,e1,e2,_⟩:=hq.ok I.hok;exact PySem.W.kia_one PySem.W.kitx_dict I.kIn ⟨o,e1,e2.1⟩ kk (λz=>nomatch z) fin
   ·cases nf
   ·cases ps with
    |nil=>cases hf
    |cons f ps=>obtain⟨k,p⟩:=f;obtain⟨_,_,_,_,z,_⟩:=hf;subst z;cases nf
 exact m6 (a1s hc hg hm hv (u7 ha (u7 hT M6 he2) he) (by decide) (by decide) he hpl) λσ H Q h0=>k4 h0 λF ρ r h1 h2 k=>by
  obtain⟨rx,e1,h2⟩:=bind_some h2;unfold b6H at h2;cases nf:isFn rx.rd with
  |true=>rw [nf] at h2;cases h2
  |false=>
   rw [nf] at h2;cases h2;exact⟨F,ρ,rx,h1,e1,λv F1 H1 o=>⟨F1,v,rx,rfl,o.x.fh,o.rep,nf,k _ F1 H1 (o9.val o.x rfl)⟩⟩
theorem Y9.putC{K:AE}{F0 H0 F H:Hp}{σ:L2.St}{ρ:b9}{i:Nat}{c d:V2}{a:AB}{o:HO}(s:Y9 K F0 H0 F H σ ρ)(e:ρ[i]?=ξ (ξ (.ow c)))(ea:σ[i]?=ξ (ξ (.ref a)))(r:F a=ζ->R7 K F (i7 H a o) (.ref a) d):
 Y9 K F0 H0 F (i7 H a o) σ (ρ.set i (ξ (.ow d))):=by
 obtain⟨v,h1,rr0⟩:=s.e.at_ i _ e
 obtain⟨a',xs,rfl,fa,ha⟩:=R7.at_ rr0
 rw [ea] at h1;cases h1
 have na:H0 a=ζ:=s.nw i c a e ea
 have hi:i<ρ.length:=(Ah.mp e).1
 refine⟨⟨s.x.f,λb o z=>by rw [a9 (f7 z na)];exact s.x.h _ _ z,λb o z=>by rw [a9 (f7 z fa)];exact s.x.fh _ _ z,s.x.nw,s.x.nf⟩,⟨λb o z=>by rw [a9 (f7 z fa)];exact s.e.fh _ _ z,by simp [s.e.len],λj q ej=> ?_,λj z ej=> ?_,λj k z1 z2 c' hjk e1 e2 e3 e4=> ?_⟩,λj z c' e1 e2=> ?_⟩
 ·rw [List.getElem?_set] at ej
  by_cases hij:i=j
  ·subst hij
   rw [if_pos rfl,if_pos hi] at ej
   cases ej
   exact⟨.ref a,ea,r fa⟩
  ·rw [if_neg hij] at ej
   obtain⟨v,h1,rr⟩:=s.e.at_ j q ej
   refine⟨v,h1, ?_⟩
   cases q with
   |v p=>exact rr
   |bo z=>exact absurd ej (s.e.nb j z)
   |ow z=>
    have key:∀b,v= .ref b->b≠a:=λb hb hab=>by subst hab;subst hb;exact s.e.ap i j c z b hij e ej ea h1
    cases z with
    |lst z=>
     obtain⟨b,zs,rfl,fb,hb,rz⟩:=rr
     exact⟨b,zs,rfl,fb,by rw [a9 (key b rfl)];exact hb,rz⟩
    |dct z=>
     obtain⟨b,zs,rfl,fb,hb,rz⟩:=rr
     exact⟨b,zs,rfl,fb,by rw [a9 (key b rfl)];exact hb,rz⟩
    |txt z=>
     obtain⟨b,zs,rfl,fb,hb,rz⟩:=rr
     exact⟨b,zs,rfl,fb,by rw [a9 (key b rfl)];exact hb,rz⟩
 ·rw [List.getElem?_set] at ej
  by_cases hij:i=j
  ·subst hij;rw [if_pos rfl,if_pos hi] at ej;cases ej
  ·rw [if_neg hij] at ej;exact s.e.nb j z ej
 ·have own_at:∀(j:Nat) (z:V2),(ρ.set i (ξ (d7.ow d)))[j]?=ξ (ξ (d7.ow z))->∃z':V2,ρ[j]?=ξ (ξ (d7.ow z')):=λj z h=>by
   rw [List.getElem?_set] at h
   by_cases hij:i=j
   ·subst hij;exact⟨c,e⟩
   ·rw [if_neg hij] at h;exact⟨z,h⟩
  obtain⟨y1,h1⟩:=own_at j z1 e1;obtain⟨y2,h2⟩:=own_at k z2 e2;exact s.e.ap j k y1 y2 c' hjk h1 h2 e3 e4
 ·rw [List.getElem?_set] at e1
  by_cases hij:i=j
  ·subst hij;rw [ea] at e2;cases e2;exact na
  ·rw [if_neg hij] at e1;exact s.nw j z c' e1 e2
theorem Y9.put{K:AE}{F0 H0 F H:Hp}{σ:L2.St}{ρ:b9}{i:Nat}{ps qs:List PV}{a:AB}{ys:List V}(s:Y9 K F0 H0 F H σ ρ)(e:ρ[i]?=ξ (ξ (.own ps)))(ea:σ[i]?=ξ (ξ (.ref a)))(r:h9 K F qs ys):
 Y9 K F0 H0 F (i7 H a (.lst ys)) σ (ρ.set i (ξ (.own qs))):=s.putC e ea λfa=>⟨a,ys,rfl,fa,c8,r⟩
theorem Y9.putT{K:AE}{F0 H0 F H:Hp}{σ:L2.St}{ρ:b9}{i:Nat}{ps qs:List (List f6×PV)}{a:AB}{ys:List (f6×V)}(s:Y9 K F0 H0 F H σ ρ)(e:ρ[i]?=ξ (ξ (.ow (.txt ps))))(ea:σ[i]?=ξ (ξ (.ref a)))(r:p7 K F qs (ys.map s1)):
 Y9 K F0 H0 F (i7 H a (.dK ys)) σ (ρ.set i (ξ (.ow (.txt qs)))):=s.putC e ea λfa=>⟨a,ys,rfl,fa,c8,r⟩
theorem Y9.putD{K:AE}{F0 H0 F H:Hp}{σ:L2.St}{ρ:b9}{i:Nat}{ps qs:List (List f6×PV)}{a:AB}{ys:List (List f6×V)}(s:Y9 K F0 H0 F H σ ρ)(e:ρ[i]?=ξ (ξ (.dct ps)))(ea:σ[i]?=ξ (ξ (.ref a)))(r:p7 K F qs ys):
 Y9 K F0 H0 F (i7 H a (.dT K ys)) σ (ρ.set i (ξ (.dct qs))):=s.putC e ea λfa=>⟨a,ys,rfl,fa,c8,r⟩
def C3(i:Nat)(m:M):MS:=λρ=>(m ρ).bind λr=>r.toVal.bind λp=>match ρ[i]? with
 |some (ξ (.ow (.lst ps)))=>if ps.length<AM then ξ (.nx (ρ.set i (ξ (.own (ps++[p]))))) else ζ
 |_=>ζ
theorem K3(i:Nat){x:Str}{p apos cpos pos:Pos}{e:AG}{m:M}(hx:PE X (.Name x p) (C7 i))(ha:EE X e m)
 (hbase:attributeBase (.Name x p) "append" X.env (eval (.Name x p) X.env)=eval (.Name x p) X.env:=by rfl)
 (hfew:((backTo cpos (AL [e] X.env)).all (λx=> !x.1)&&(backToKw cpos (keywordEach [] X.env)).all (λx=>x.1.isSome)
  && decide ([e].length+([]:List Keyword).length+(if([]:List Keyword).isEmpty then 0 else 1)<30))=true:=by rfl)
 (hline:(apos.endLine==cpos.line)=true:=by rfl) (hs:AL [e] X.env=(false,eval e X.env)::AL [] X.env:=by rfl) (hplain:(backTo cpos (AL [] X.env)).any (·.1)=false:=by rfl)
 (hsw:swapsWith (.Call (.Attribute (.Name x p) "append" apos) [e] [] cpos) ζ pos.line X.env=pure false:=by rfl):
 ES X (.Expr (.Call (.Attribute (.Name x p) "append" apos) [e] [] cpos) pos) (C3 i m):=
 C6 (a8u (b46 PySem.F.plainAttrs_list PySem.F.slot_list_append PySem.F.type_list_append a7m hx (u7 ha M6 hs) hbase hfew hline hs hplain) hsw) λD σ H h0=>E9 h0 λF0 H0 F ρ fl so e fin=>by
  obtain⟨r,e1,e⟩:=bind_some e;obtain⟨q,e2,e⟩:=bind_some e;split at e
  ·rename_i ps eo;split at e
   ·rename_i c;cases e;obtain⟨v,h1,a,xs,rfl,fa,ha',rl⟩:=so.e.at_ i _ eo;refine⟨.ref a,h1,.inl ⟨rfl,xs,Z0.of ha'⟩,F,ρ,r,so.e,e1,λw F1 H1 o=> ?_⟩;obtain⟨F2,o2⟩:=o.toVal e2;have so2:=so.ext o2.x;refine⟨a,xs,w,rfl,rfl,o.x.h _ _ ha',by rw [rl.length];exact c, ?_⟩
    exact fin σ F2 _ o2.x.f (so2.put eo h1 ((h9.mono o2.x.f _ rl).append ⟨w,[],rfl,o2.rep,rfl⟩))
   ·cases e
  ·cases e
def a8i(i:Nat)(g:d7->d7->Option d7)(m:M):MS:=λρ=>match ρ[i]? with
 |some (ξ (.v x))=>(m ρ).bind λy=>(g (.v x) y).bind λz=>if z.nb=true then ξ (.nx (ρ.set i (ξ z))) else ζ
 |_=>ζ
theorem b0u{i:Nat}{x:Str}{e:AG}{m:M}{g:d7->d7->Option d7}{op:Operator}{pos pos':Pos}(hN:X.N.Nodup)(he:EE X e m)(ho:OpM X (inplaceOp op) g)(hi:X.N[i]?=ξ x:=by rfl)(hx:Loc X.env.scope x:=by exact Or.inl rfl)(hf:X.fn x=true\/X.env.scope.names.lookup x=ξ .local:=by first|exact .inl rfl|exact .inr rfl|assumption):
 ES X (.AugAssign (.Name x pos') op e pos) (a8i i g m):=
 C6 (b9H hN hi hx he (ti:=rM2 X.K g) ho hf) λD σ H h0=>E9 h0 λF0 H0 F ρ fl so e fin=>by
  unfold a8i at e;split at e
  ·rename_i p ep;obtain⟨y,e1,e⟩:=bind_some e;obtain⟨z,e2,e⟩:=bind_some e;split at e
   ·rename_i c;cases e;obtain⟨v,h1,rv⟩:=so.e.at_ i _ ep;exact⟨v,h1,F,ρ,y,so.e,e1,λu F1 H1 o=>⟨F1,.v p,y,z,o.x.fh,rv.ext o.x,o.rep,e2,λt F2 H2 o2=>fin _ F2 H2 (o.x.f.trans o2.x.f) ((so.ext o.x).set o2 c i)⟩⟩
   ·cases e
  ·cases e
theorem a5S:OpM X (inplaceOp .Add) (gI λi j=> .int (i+j)):=b4X b6Q λ_ _ _=>rfl
def S3(i:Nat)(n:MS):MS:=λρ=>match ρ[i]? with
 |some (ξ (.ow (.lst ps)))=>n (ρ.set i (ξ (.v (.list ps))))
 |_=>n ρ
theorem Y9.frz{K:AE}{F0 H0 F H:Hp}{σ:L2.St}{ρ:b9}{i:Nat}{ps:List PV}(s:Y9 K F0 H0 F H σ ρ)(e:ρ[i]?=ξ (ξ (.own ps))):∃F',g8 F F'/\Y9 K F0 H0 F' H σ (ρ.set i (ξ (.v (.list ps)))):=by
 obtain⟨v,h1,a,xs,rfl,fa,ha,rl⟩:=s.e.at_ i _ e;have na:H0 a=ζ:=s.nw i _ a e h1;have hi:i<ρ.length:=(Ah.mp e).1;have up:g8 F (i7 F a (.lst xs)):=y3 fa;have fh:g8 (i7 F a (.lst xs)) H:=λb o z=>by
  by_cases hb:b=a
  ·subst hb;rw [c8] at z;cases z;exact ha
  ·rw [a9 hb] at z;exact s.e.fh _ _ z
 refine⟨i7 F a (.lst xs),up,⟨⟨s.x.f.trans up,s.x.h,fh,λb o z y t=>by rw [a9 (f7 y na)];exact s.x.nw b o z y t,b4R s.x.nf⟩,⟨fh,by simp [s.e.len],λj q ej=> ?_,λj z ej=> ?_,λj k z1 z2 c hjk e1 e2 e3 e4=> ?_⟩,λj z c e1 e2=> ?_⟩⟩
 ·rw [List.getElem?_set] at ej
  by_cases hij:i=j
  ·subst hij;rw [if_pos rfl,if_pos hi] at ej;cases ej;exact⟨.ref a,h1,a,xs,rfl,Z0.of c8,h9.mono up _ rl⟩
  ·rw [if_neg hij] at ej;obtain⟨v,h2,rr⟩:=s.e.at_ j q ej;refine⟨v,h2, ?_⟩;cases q with
   |v p=>exact A5.mono up p rr
   |bo z=>exact absurd ej (s.e.nb j z)
   |ow z=>
    have key:∀b,v= .ref b->b≠a:=λb hb hab=>by subst hab;subst hb;exact s.e.ap i j _ z b hij e ej h1 h2
    cases z with
    |lst z=>
     obtain⟨b,zs,rfl,fb,hb,rz⟩:=rr;exact⟨b,zs,rfl,by rw [a9 (key b rfl)];exact fb,hb,h9.mono up _ rz⟩
    |dct z=>
     obtain⟨b,zs,rfl,fb,hb,rz⟩:=rr;exact⟨b,zs,rfl,by rw [a9 (key b rfl)];exact fb,hb,p7.mono up _ rz⟩
    |txt z=>
     obtain⟨b,zs,rfl,fb,hb,rz⟩:=rr;exact⟨b,zs,rfl,by rw [a9 (key b rfl)];exact fb,hb,p7.mono up _ rz⟩
 ·rw [List.getElem?_set] at ej
  by_cases hij:i=j
  ·subst hij;rw [if_pos rfl,if_pos hi] at ej;cases ej
  ·rw [if_neg hij] at ej;exact s.e.nb j z ej
 ·have own_at:∀(j:Nat) (z:V2),(ρ.set i (ξ (d7.v (.list ps))))[j]?=ξ (ξ (d7.ow z))->ρ[j]?=ξ (ξ (d7.ow z)):=λj z h=>by
   rw [List.getElem?_set] at h
   by_cases hij:i=j
   ·subst hij;rw [if_pos rfl,if_pos hi] at h;cases h
   ·rw [if_neg hij] at h;exact h
  exact s.e.ap j k z1 z2 c hjk (own_at j z1 e1) (own_at k z2 e2) e3 e4
 ·rw [List.getElem?_set] at e1
  by_cases hij:i=j
  ·subst hij;rw [if_pos rfl,if_pos hi] at e1;cases e1
  ·rw [if_neg hij] at e1;exact s.nw j z c e1 e2
theorem W5(i:Nat){st:Stmt}{n:MS}(h:ES X st n):ES X st (S3 i n):=C6 h λD σ H h0=>E9 h0 λF0 H0 F ρ fl so e fin=>by
 unfold S3 at e;split at e
 ·rename_i ps eo;obtain⟨F',s,so'⟩:=so.frz eo;exact⟨F0,H0,F',_,fl,so',e,fin.later s⟩
 ·exact⟨F0,H0,F,ρ,fl,so,e,fin⟩
end
def b98(K:AE)(n:Nat)(a:AB):Option (List (f6×PV)):=match K.lookup a with
 |some ⟨.type "dict",ζ,.dict es _,⟨[]⟩⟩=>(a36 es.toList).bind (a0x K n)
 |_=>ζ
def b5M(K:AE)(n:Nat)(a:AB):Option (List (List f6×PV)):=match K.lookup a with
 |some ⟨.type "dict",ζ,.dict es _,⟨[]⟩⟩=>(a9i K es.toList).bind (V3 K n)
 |_=>ζ
def a1N(K:AE)(a:AB):List Int:=match K.lookup a with
 |some ⟨_,_,.dict es _,_⟩=>es.toList.map (·.hash)
 |_=>[]
theorem a2N{κ:Type}{K:AE}{n:Nat}:∀{kvs:List (κ×AA)} {tbl:List (κ×PV)},a0x K n kvs=ξ tbl->tbl.map (·.1)=kvs.map (·.1)
 |[],_,h=>by cases h;rfl
 |(k,u)::r,tbl,h=>by
  simp only [a0x] at h;obtain⟨q,e1,h⟩:=bind_some h;obtain⟨t,e2,h⟩:=bind_some h;cases h;rw [AQ,AQ,a2N e2]
theorem a17{K:AE}{n:Nat}:∀{kvs:List (List f6×AB×AA)} {tbl:List (List f6×PV)},V3 K n kvs=ξ tbl->tbl.map (·.1)=kvs.map (·.1)
 |[],_,h=>by cases h;rfl
 |(k,b,u)::r,tbl,h=>by
  simp only [V3] at h;obtain⟨q,e1,h⟩:=bind_some h;obtain⟨t,e2,h⟩:=bind_some h;cases h;rw [AQ,AQ,a17 e2]
theorem a9E{κ α β:Type}{γ:Type}(f:κ->γ):∀{l:List (κ×α)} {m:List (κ×β)},l.map (·.1)=m.map (·.1)->l.map (λx=>f x.1)=m.map (λx=>f x.1):=λ {l m} h=>by
 have h1:l.map (λx=>f x.1)=(l.map (·.1)).map f:=by simp [BG,Function.comp_def]
 have h2:m.map (λx=>f x.1)=(m.map (·.1)).map f:=by simp [BG,Function.comp_def]
 rw [h1,h2,h]
theorem b99{P:AJ}{w:AI}{K:AE}{a:AB}{tbl:List (f6×PV)}(n:Nat)(t:b98 K n a=ξ tbl)(h:a1N K a=tbl.map (λkv=>b2Q w kv.1))(nd:(tbl.map (·.1)).Nodup):Tab P w K a tbl:=by
 unfold b98 at t;split at t
 ·rename_i es ep e;obtain⟨kvs,e1,e2⟩:=bind_some t;have hk:=a2N e2;refine⟨es,ep,kvs,n,e,e1, ?_,e2,by rw [<-hk];exact nd⟩
  unfold a1N at h;rw [e] at h;rw [<-a9E (b2Q w) hk];exact h
 ·cases t
theorem b7E{P:AJ}{w:AI}{K:AE}{a:AB}{tbl:List (List f6×PV)}(n:Nat)(t:b5M K n a=ξ tbl)(h:a1N K a=tbl.map (λkv=>(tupleKind (f9 P w)).hash kv.1))(nd:(tbl.map (·.1)).Nodup):b6f P w K a tbl:=by
 unfold b5M at t;split at t
 ·rename_i es ep e;obtain⟨kvs,e1,e2⟩:=bind_some t;have hk:=a17 e2;refine⟨es,ep,kvs,n,e,e1, ?_,e2,by rw [<-hk];exact nd⟩
  unfold a1N at h;rw [e] at h;rw [<-a9E (λk=>(tupleKind (f9 P w)).hash k) hk];exact h
 ·cases t
def m4(P:AJ)(w:AI)(K:AE)(mg:Str->Option AA)(base:Heap)(x:Str)(ps:List Str)(k:Nat)(g:List PV->Option d7):Prop:=
 ∃f fd,P5 P w K mg base CX0 k f fd ps (spP K ps.length g)/\mg x=ξ (.ref f)/\PySem.W.keepIn K (.ref f)=true/\a0a K fd ps []
section
variable {X:Cx}
theorem i6{k k':Nat}{ps:List Str}{g:List PV->Option d7}{x:Str}{p pos:Pos}{e:AG}{es:List AG}{m:MA}
 (d:m4 X.prog X.w X.K X.mg X.base x ps k g) (hr:D2 k' X.A) (hk:k<=k') (hg:Gl X x) (hn:∀ρ qs,m ρ=ξ qs->qs.length=ps.length) (ha:EA X (e::es) m)
 (hdb:(x==("__debug__":Str))=false:=by decide) (he:AL (e::es) X.env=(false,eval e X.env)::AL es X.env:=by rfl) (hpl:(backTo pos (AL es X.env)).any (·.1)=false:=by rfl):
 EE X (.Call (.Name x p) (e::es) [] pos) (i3 g m):=by
 obtain⟨f,fd,G,h1,h2,h3⟩:=d
 exact b6w G (hr.mono hk) hg h1 h2 h3 hn ha hdb he hpl
end
def a93(K:AE):Sp:=λvs H Q _=>∃(a:AB) (ns:List Int),vs=[.ref a]/\Z0 K H a (ns.map V.int)/\ns.length<=63/\∀H',Q (.bl true) H'
theorem a7z{K:AE}{H:Hp}:∀ns:List Int,h9 K H (ns.map PyData.int) (ns.map V.int)
 |[]=>rfl
 |n::ns=>⟨.int n,_,rfl,rfl,a7z ns⟩
theorem b6Y{K:AE}{g:List PV->Option d7}(h:∀ns:List Int,ns.length<=63->g [.list (ns.map .int)]=ξ (.v (.bool true))):∀vs H Q E,a93 K vs H Q E->spP K 1 g vs H Q E:=
 λvs H Q E ⟨a,ns,e,hs,hl,k⟩=>by
  subst e;exact⟨H,[.list (ns.map .int)],_,PU.g8.refl H,⟨.ref a,[],rfl,⟨a,_,rfl,hs,a7z ns⟩,rfl⟩,rfl,h ns hl,λv F' H' o=>by
   have:v= .bl true:=o.rep;subst this;exact k H'⟩
theorem c1W{l:PySem.W.OpenLaw}{q:AJ}{loose:List Str}{XP:(Str->Option AA)->Heap->Prop}{YP:AI->Heap->Prop}{d:DefRec}{K:Params->AE}{x:Str}{k:Nat}(hk:k<=40)(hn:l.most=ξ 63)(hdf:d.params.defaults=[])
 (hY:∀(w:AI) (h:Heap),YP w h->(K w.params).In h)
 (F:∀(w:AI) (mg:Str->Option AA) (fa:AB) (h:Heap),(K w.params).In h->h.Ns mainGlobals mg->mg d.name=ξ (.ref fa)->
  ∃fd:FuncData,(∀(s:AC) (u:AA),BindsTo s fd ⟨[u],[]⟩ [(x,u)])/\∀base:Heap,(K w.params).In base->base.Ns mainGlobals mg->P5 l.prog w (K w.params) mg base CX0 k fa fd [x] (a93 (K w.params))):
 PySem.W.WalkO q loose XP YP l.row.toRowW d [] (λf vs=>PySem.call f vs):=
 L2.b7L (n:=63) (k:=40) (x:=x) (CX:=λ_=>CX0) (sp:=λw=>a93 (K w.params)) hn (by decide) hdf ⟨rfl,by decide,by decide⟩ hY (λw mg fa h a b c=>let ⟨fd,h1,h2⟩:=F w mg fa h a b c;⟨fd,h1,λbase x y=>(h2 base x y).mono hk⟩) (λ_ _ a ns hl _ hS=>⟨a,ns,rfl,hS,hl,λ_=>rfl⟩) λ_ _ _ _ _ z=>z
def b8Z(x y:d7):Option d7:=gIc a4n (λi j=> .int (i*j)) x y
theorem b40{X:Cx}:OpM X (binaryOp .Mult) b8Z:=b7f
theorem O6(i j:Int):Q4 (.v (.int i)) (.v (.int j))=ξ (.v (.int (i+j))):=Eq.trans rfl rfl
theorem b4f{i j:Str}(h:i.length+j.length<=AM):Q4 (.v (.str i)) (.v (.str j))=ξ (.v (.str (i++j))):=by simp [Q4,h]
theorem b6G{ps qs:List PV}(h:ps.length+qs.length<=AM):Q4 (.own ps) (.own qs)=ξ (.own (ps++qs)):=by simp [Q4,d7.mine,h]
theorem a76(f:Int->Int->PV)(i j:Int):gI f (.v (.int i)) (.v (.int j))=ξ (.v (f i j)):=Eq.trans rfl rfl
theorem a77{C:Int->Int->Prop}[∀i j,Decidable (C i j)](f:Int->Int->PV){i j:Int}(h:C i j):gIc C f (.v (.int i)) (.v (.int j))=ξ (.v (f i j)):=by
 show(if okC C i j=true then ξ (d7.v (f i j)) else ζ)=_
 rw [if_pos (U9.mpr h)]
theorem b80{i j:Int}(h: -18446744073709551616<i/\i<18446744073709551616):b8Z (.v (.int i)) (.v (.int j))=ξ (.v (.int (i*j))):=a77 _ (.inl (by lia))
theorem O7{f:Int->Int->PV}{i j:Int}(h:0<j):gIc (λ_ j=>0<j) f (.v (.int i)) (.v (.int j))=ξ (.v (f i j)):=a77 _ h
theorem a5k{f:Int->Int->PV}{i j:Int}(h:0<j/\j<1073741824):gIc a8O f (.v (.int i)) (.v (.int j))=ξ (.v (f i j)):=a77 _ h
theorem Q5(ps:List PV):C2 (.v (.list ps))=ξ (.v (.int ps.length)):=Eq.trans rfl rfl
theorem b4i(ps:List PV):C2 (.v (.tuple ps))=ξ (.v (.int ps.length)):=Eq.trans rfl rfl
theorem a0f{ps:List PV}{i:Int}{p:PV}(h:L2.atI ps i=ξ p):N3 (.v (.list ps)) (.v (.int i))=ξ (.v p):=by simp [N3,d7.rd,V2.rd,PyData.items?,h]
theorem b6J{ps:List PV}{i:Int}{p:PV}(h:L2.atI ps i=ξ p):N3 (.bor ps) (.v (.int i))=ξ (.v p):=by simp [N3,d7.rd,V2.rd,PyData.items?,h]
theorem E8(g:d7->d7->Option d7)(ma mb:M)(ρ:b9):m2 g ma mb ρ=(ma ρ).bind λx=>(mb ρ).bind λy=>g x y:=Eq.trans rfl rfl
theorem T2(g:d7->Option d7)(ma:M)(ρ:b9):m1 g ma ρ=(ma ρ).bind g:=Eq.trans rfl rfl
theorem K0(p:PV)(ρ:b9):mC p ρ=ξ (.v p):=Eq.trans rfl rfl
theorem v3(p:PV)(ρ:b9):a7 0 (ξ (.v p)::ρ)=ξ (.v p):=Eq.trans rfl rfl
theorem a8j(p:List PV)(ρ:b9):a7 0 (ξ (.own p)::ρ)=ξ (.bor p):=Eq.trans rfl rfl
theorem C0(n:Nat)(r:Option d7)(ρ:b9):a7 (n+1) (r::ρ)=a7 n ρ:=Eq.trans rfl rfl
theorem v8(ρ:b9):d6 ρ=ξ []:=Eq.trans rfl rfl
theorem o0(m:M)(r:MA)(ρ:b9):a5 m r ρ=((m ρ).bind d7.toVal).bind λp=>(r ρ).bind λps=>ξ (p::ps):=Eq.trans rfl rfl
theorem t6(p:PV):(d7.v p).toVal=ξ p:=Eq.trans rfl rfl
theorem a9D(m:MA)(ρ:b9):a1o m ρ=(m ρ).bind λps=>if ps.length<=AM then ξ (.v (.tuple ps)) else ζ:=Eq.trans rfl rfl
theorem a9C(m:MA)(ρ:b9):X8 m ρ=(m ρ).bind λps=>if ps.length<=AM then ξ (.own ps) else ζ:=Eq.trans rfl rfl
theorem E5(g:List PV->Option d7)(m:MA)(ρ:b9):i3 g m ρ=(m ρ).bind g:=Eq.trans rfl rfl
def b8C(i:Nat)(ρ:b9)(r:d7):Option Fl:=if r.nb=true then ξ (.nx (ρ.set i (ξ r))) else ζ
theorem B0(i:Nat)(m:M)(ρ:b9):i9 i m ρ=(m ρ).bind (b8C i ρ):=Eq.trans rfl rfl
theorem P8(i:Nat)(ρ:b9)(p:PV):b8C i ρ (.v p)=ξ (.nx (ρ.set i (ξ (.v p)))):=Eq.trans rfl rfl
theorem a7R(i:Nat)(ρ:b9)(p:List PV):b8C i ρ (.own p)=ξ (.nx (ρ.set i (ξ (.own p)))):=Eq.trans rfl rfl
def b9Q(r:d7):Option Fl:=if r.nb=true then ξ (.rt r) else ζ
theorem P0(m:M)(ρ:b9):G1 m ρ=(m ρ).bind b9Q:=Eq.trans rfl rfl
theorem a1w(p:PV):b9Q (.v p)=ξ (.rt (.v p)):=Eq.trans rfl rfl
theorem b9R(p:List PV):b9Q (.own p)=ξ (.rt (.own p)):=Eq.trans rfl rfl
def b9S(n:MS):Fl->Option Fl
 | .nx ρ=>n ρ
 |f=>ξ f
theorem z9(m n:MS)(ρ:b9):g9 m n ρ=(m ρ).bind (b9S n):=Eq.trans rfl rfl
theorem F9(n:MS)(ρ:b9):b9S n (.nx ρ)=n ρ:=Eq.trans rfl rfl
theorem b7t(n:MS)(r:d7):b9S n (.rt r)=ξ (.rt r):=Eq.trans rfl rfl
def ifK(m n:MS)(ρ:b9)(b:Bool):Option Fl:=if b=true then m ρ else n ρ
theorem O9(c:MT)(m n:MS)(ρ:b9):U7 c m n ρ=(c ρ).bind (ifK m n ρ):=Eq.trans rfl rfl
theorem b1D(m n:MS)(ρ:b9):ifK m n ρ true=m ρ:=Eq.trans rfl rfl
theorem a38(m n:MS)(ρ:b9):ifK m n ρ false=n ρ:=Eq.trans rfl rfl
theorem E6(ρ:b9):F8 ρ=ξ (.nx ρ):=Eq.trans rfl rfl
def c1c:Fl->Option d7
 | .rt r=>ξ r
 | .nx _=>ξ (.v .none)
 |_=>ζ
theorem X2(n:Nat)(b:MS)(ps:List PV):A4 n b ps=(b (ps.map (λp=>ξ (d7.v p))++AO n ζ)).bind c1c:=Eq.trans rfl rfl
theorem a0M(r:d7):c1c (.rt r)=ξ r:=Eq.trans rfl rfl
theorem a8m(m:M)(ρ:b9):mtV m ρ=(m ρ).bind tru:=Eq.trans rfl rfl
theorem U8(m:M)(ρ:b9):mtB m ρ=(m ρ).bind a9Y:=Eq.trans rfl rfl
theorem a0L(b:Bool):a9Y (.v (.bool b))=ξ b:=Eq.trans rfl rfl
theorem b5O(b:Bool):tru (.v (.bool b))=ξ b:=Eq.trans rfl rfl
theorem a3D(c:MT)(ρ:b9):a7l c ρ=(c ρ).map not:=Eq.trans rfl rfl
def orK(d:MT)(ρ:b9)(b:Bool):Option Bool:=if b=true then ξ true else d ρ
theorem b4M(c d:MT)(ρ:b9):b4L c d ρ=(c ρ).bind (orK d ρ):=Eq.trans rfl rfl
theorem c04(d:MT)(ρ:b9):orK d ρ false=d ρ:=Eq.trans rfl rfl
def c0z(n:M)(ρ:b9)(r:d7):Option d7:=(a9Y r).bind λb=>if b=true then n ρ else ξ (.v (.bool false))
theorem a9z(m n:M)(ρ:b9):b2X m n ρ=(m ρ).bind (c0z n ρ):=Eq.trans rfl rfl
theorem b3I(n:M)(ρ:b9):c0z n ρ (.v (.bool true))=n ρ:=Eq.trans rfl rfl
def c1r(is:List Nat)(ρ:b9):d7->Option Fl
 | .v (.tuple ps)=>if ps.length=is.length then ξ (.nx (setAll ρ is (ps.map .v))) else ζ
 |_=>ζ
theorem b4I(is:List Nat)(m:M)(ρ:b9):b9f is m ρ=(m ρ).bind (c1r is ρ):=Eq.trans rfl rfl
theorem a5C(it:MI)(tg:PV->b9->Option b9)(body:MS)(ρ:b9):M4 it tg body ρ=(it ρ).bind λps=>a2r body tg ps ρ:=Eq.trans rfl rfl
def b8i:List PV->Option (List PV)
 |[.int j]=>if inR j=true then ξ (a01 0 j) else ζ
 |_=>ζ
theorem a1R(m:MA)(ρ:b9):P7 m ρ=(m ρ).bind b8i:=Eq.trans rfl rfl
theorem a4H{j:Int}(h: -4611686018427387904<=j/\j<4611686018427387904):b8i [.int j]=ξ (a01 0 j):=by
 show(if inR j=true then ξ (a01 0 j) else ζ)=_
 rw [if_pos (a8d.mpr (by lia))]
theorem a69(i j:Int):gEq (.v (.int i)) (.v (.int j))=ξ (.v (.bool (i==j))):=Eq.trans rfl rfl
theorem sz(n:Nat):(n<=AM)=(n<=16777216):=by rw [sizeLine_eq]
end PU
namespace L2
open PySem PySem.Spec PyProof.Rows
theorem E4:∀(names:List (Str×NameKind)) (n:Nat) (acc:List (Str×AB)),cellsFrom n names acc=cellsFrom n names []++acc
 |[],_,_=>rfl
 |(x,k)::r,n,acc=>by
  unfold cellsFrom;split
  ·rw [E4 r (n+1) ((x,n)::acc),E4 r (n+1) [(x,n)],List.append_assoc];rfl
  ·exact E4 r n acc
theorem N7:∀{names:List (Str×NameKind)} {n:Nat} {x:Str} {c:AB},(x,c)∈cellsFrom n names []->n<=c/\(x,NameKind.cell)∈names
 |[],_,_,_,h=>nomatch h
 |(y,k)::r,n,x,c,h=>by
  unfold cellsFrom at h;split at h
  ·rename_i hk;rw [E4] at h;rcases Ar.mp h with h|h
   ·obtain⟨a,b⟩:=N7 h;exact⟨by lia,Ae _ b⟩
   ·have e:(x,c)=(y,n):=by simpa using h
    cases e;have:k= .cell:=by simpa using hk
    subst this;exact⟨AN _,Af⟩
  ·obtain⟨a,b⟩:=N7 h;exact⟨a,Ae _ b⟩
theorem a5z{α:Type}:∀{l:List (Str×α)} {x:Str},(∀c,(x,c)∉l)->l.lookup x=ζ:=λ {l x} h=>by
 cases e:l.lookup x with
 |none=>rfl
 |some c=>exact absurd (PySem.mem_of_lookup e) (h c)
theorem a2c{α:Type}:∀{l r:List (Str×α)} {x:Str},l.lookup x=ζ->(l++r).lookup x=r.lookup x
 |[],_,_,_=>rfl
 |(y,v)::l,r,x,h=>by
  rw [Av,List.lookup_cons];rw [List.lookup_cons] at h;cases e:x==y with
  |true=>rw [e] at h;cases h
  |false=>rw [e] at h;exact a2c h
def T9(cells:List (Str×AB)):List (Str×NameKind)->List (Str×AB)->List (Str×AB)
 |[],acc=>acc
 |(x,k)::r,acc=>if k== .free then T9 cells r ((x,(cells.lookup x).getD 0)::acc) else T9 cells r acc
theorem a3o{cells:List (Str×AB)}:∀{names:List (Str×NameKind)} {acc:List (Str×AB)} {x:Str} {c:AB},(x,c)∈T9 cells names acc->(x,c)∈acc\/((x,NameKind.free)∈names/\c=(cells.lookup x).getD 0)
 |[],_,_,_,h=> .inl h
 |(y,k)::r,acc,x,c,h=>by
  unfold T9 at h;split at h
  ·rename_i hk;rcases a3o h with h|⟨h1,h2⟩
   ·rcases AU.mp h with e|h
    ·cases e;have:k= .free:=by simpa using hk
     subst this;exact .inr ⟨Af,rfl⟩
    ·exact .inl h
   ·exact .inr ⟨Ae _ h1,h2⟩
  ·rcases a3o h with h|⟨h1,h2⟩
   ·exact .inl h
   ·exact .inr ⟨Ae _ h1,h2⟩
theorem a08{cells:List (Str×AB)}:∀{names:List (Str×NameKind)} {acc:List (Str×AB)} {x:Str},x∉names.map (·.1)->(T9 cells names acc).lookup x=acc.lookup x
 |[],_,_,_=>rfl
 |(y,k)::r,acc,x,h=>by
  have h':¬(x=y)/\x∉r.map (·.1):=by simpa using h
  unfold T9;split
  ·rw [a08 h'.2,List.lookup_cons];have e:(x==y)=false:=by simpa using h'.1
   rw [e]
  ·exact a08 h'.2
theorem a0z{cells:List (Str×AB)}:∀{names:List (Str×NameKind)} {acc:List (Str×AB)} {x:Str},(names.map (·.1)).Nodup->names.lookup x=ξ .free->(T9 cells names acc).lookup x=ξ ((cells.lookup x).getD 0)
 |[],_,_,_,h=>by cases h
 |(y,k)::r,acc,x,nd,h=>by
  have nd':y∉r.map (·.1)/\(r.map (·.1)).Nodup:=List.nodup_cons.mp nd;rw [List.lookup_cons] at h;unfold T9;cases e:x==y with
  |true=>
   rw [e] at h;have hk:k= .free:=by simpa using h
   subst hk;have exy:x=y:=by simpa using e
   subst exy;rw [if_pos (show(NameKind.free==NameKind.free)=true from rfl),a08 nd'.1,List.lookup_cons,e]
  |false=>
   rw [e] at h;split
   ·exact a0z nd'.2 h
   ·exact a0z nd'.2 h
theorem Z3{env:Env}(f:Str×NameKind->List (Str×AB)->Sem (ForInStep (List (Str×AB))))(hf:∀x k cs,f (x,k) cs=if k== .free then(do let c<-cellOf env x;pure (.yield ((x,c)::cs))) else pure (.yield cs)):
 ∀(names:List (Str×NameKind)) (acc:List (Str×AB)),(∀x∈names,x.2= .free->(env.cells.lookup x.1).isSome=true)->forIn names acc f=pure (T9 env.cells names acc)
 |[],acc,_=>rfl
 |(x,k)::r,acc,h=>by
  rw [List.forIn_cons,hf];unfold T9;have hr:=λy hy=>h y (Ae _ hy);split
  ·rename_i hk;have:=h (x,k) Af (by simpa using hk)
   obtain⟨c,hc⟩:=Option.isSome_iff_exists.mp this;unfold cellOf;rw [hc];show forIn r ((x,c)::acc) f=_;exact Z3 f hf r _ hr
  ·exact Z3 f hf r acc hr
theorem a6E{scope:Scope}{env:Env}(h:∀x∈scope.names,x.2= .free->(env.cells.lookup x.1).isSome=true):closureFor scope env=pure (T9 env.cells scope.names []):=by
 unfold closureFor;have e:=Z3 (env:=env) (λ(x:Str×NameKind) (cs:List (Str×AB))=>if x.2== .free then(do let c<-cellOf env x.1;pure (.yield ((x.1,c)::cs))) else pure (.yield cs)) (λ_ _ _=>rfl) scope.names [] h
 show(forIn scope.names [] _>>=λr=>pure r)=_;refine Eq.trans (congrArg (· >>=λr=>pure r) (Eq.trans (congrArg (forIn scope.names []) ?_) e)) rfl
 funext x cs
 cases x with
 |mk n k=>cases k<;>rfl
theorem a1t{env:Env}{x:Str}:∀{names:List (Str×NameKind)},(names.map λ(p:Str×NameKind)=>if(p.2==NameKind.free && env.scope.kind== .function && env.kindOf p.1==ξ .cell) then(p.1,NameKind.cell) else(p.1,p.2)).lookup x
 =(names.lookup x).map λk=>if(k==NameKind.free && env.scope.kind== .function && env.kindOf x==ξ .cell) then NameKind.cell else k
 |[]=>rfl
 |(n,k)::r=>by
  rw [AQ];have ih:= @a1t env x r;show List.lookup x ((if(k==NameKind.free && env.scope.kind== .function && env.kindOf n==ξ .cell)=true then(n,NameKind.cell) else(n,k))::_)=_
  cases hx:x==n with
  |true=>
   have e:x=n:=by simpa using hx
   subst e
   by_cases c:(k==NameKind.free && env.scope.kind== .function && env.kindOf x==ξ .cell)=true
   ·rw [if_pos c,List.lookup_cons,hx,List.lookup_cons,hx];exact congrArg ξ (if_pos c).symm
   ·rw [if_neg c,List.lookup_cons,hx,List.lookup_cons,hx];exact congrArg ξ (if_neg c).symm
  |false=>
   by_cases c:(k==NameKind.free && env.scope.kind== .function && env.kindOf n==ξ .cell)=true
   ·rw [if_pos c,List.lookup_cons,hx,List.lookup_cons,hx];exact ih
   ·rw [if_neg c,List.lookup_cons,hx,List.lookup_cons,hx];exact ih
def M9(scope:Scope)(C:AB)(env:Env):Env:=
 {scope:=relabel scope env,locals:=C,globals:=env.globals,cells:=cellsFrom (C+1) scope.names (T9 env.cells scope.names []),qual:=env.qual,func:=ζ,code:=env.code,frame:=env.frame,builtins:=env.builtins}
def hid(ys:List Str)(x:Str):Str:=if ys.contains x=true then Aj "0"++x else x
def j9(X:Cx)(N0:List Str)(scope:Scope)(ys:List Str)(C:AB)(fp:List AB)(pins:List (AB×Obj))(s₃:AC)(H₃:Hp):Cx:=
 {X with N:=N0++ys,s₀:=s₃,H₀:=H₃,env:=M9 scope C X.env,outer:=X.stack,ex:=fp,fn:=λx=>scope.names.lookup x==ξ .cell,pn:=X.pn++pins}
theorem V9{scope:Scope}{C:AB}{env:Env}{x:Str}:(M9 scope C env).kindOf x=(scope.names.lookup x).map λk=>if(k==NameKind.free && env.scope.kind== .function && env.kindOf x==ξ .cell) then NameKind.cell else k:=
 a1t
structure E3(N N0 ys:List Str)(env:Env)(scope:Scope):Prop where
 eq:N0=N.map (hid ys)
 kind:scope.kind= .function
 nd:(scope.names.map (·.1)).Nodup
 fr:∀x∈scope.names,x.2= .free->env.kindOf x.1=ξ .cell\/env.kindOf x.1=ξ .free
 ou:∀x∈N,(ys.contains x=true->scope.names.lookup (hid ys x)=ζ)/\(ys.contains x=false->scope.names.lookup x=ζ\/scope.names.lookup x=ξ .free\/scope.names.lookup x=ξ .globalImplicit)
theorem C5{α:Type}:∀{l:List (Str×α)} {x:Str} {v:α},(l.map (·.1)).Nodup->(x,v)∈l->l.lookup x=ξ v
 |[],_,_,_,h=>nomatch h
 |(y,w)::r,x,v,nd,h=>by
  have nd':y∉r.map (·.1)/\(r.map (·.1)).Nodup:=List.nodup_cons.mp nd;rw [List.lookup_cons];rcases AU.mp h with e|h
  ·cases e;simp
  ·have:x≠y:=λe=>nd'.1 (by rw [<-e];exact Ay.mpr ⟨_,h,rfl⟩)
   have e:(x==y)=false:=by simpa using this
   rw [e];exact C5 nd'.2 h
section
variable {M:Model}{A:AK}{E:AA->AC->Prop}{s:AC}
theorem a11{scope:Scope}{globals:AB}{cl:List (Str×AB)}{qual:Str}{env:Env}{builtins:AB}{Q:Env->AC->Prop}
 (h:Q (newEnv scope s.heap.objs.size globals (cellsFrom (s.heap.objs.size+1) scope.names cl) qual ζ .none (ξ env) builtins) {s with heap:=pushCells (s.heap.push {cls:= .type "dict",data:= .dict #[]}) scope.names}):
 AF M A (newFunctionEnv scope globals cl [] qual ζ .none (ξ env) builtins) Q E s:=by
 simp only [newFunctionEnv,Option.isSome_some,if_true]
 refine AD (wpAny_alloc ?_)
 refine AD (wpAny_layCells _ (λname kind cells=>by cases hkc:kind==NameKind.cell<;>simp [hkc]) _ _ _ _ ?_)
 rw [show({s with heap:=s.heap.push {cls:= .type "dict",data:= .dict #[]}}:AC).heap.objs.size=s.heap.objs.size+1 from Heap.size_push ..]
 exact AD (AH (AH h))
end
section
variable {prog:AJ}{w:AI}{A:AK}{R:Result->AC->Prop}{s:AC}
theorem a1Y{elt target iter:AG}{ifs:List AG}{scope:Scope}{pos:Pos}{it acc:AA}{env:Env}(I:Nat->AC->Prop)
 (turn:∀n s,I n s->AF (model prog w) A (pyNext it) (λr s₁=>match r with
  |none=>R (.ok .next) s₁
  |some v=>AF (model prog w) A (letOwnedTupleGo target it v) (λ_ s₁'=>AF (model prog w) A (assign target env v) (λ_ s₂=>
   AF (model prog w) A (forIn ifs true λc r=>if r=true then do let ok<-isTrue c env (eval c env);pure (ForInStep.yield ok) else pure (ForInStep.yield r)) (λok s₃=>
    if ok=true then AF (model prog w) A (eval elt env) (λx s₄=>
     AF (model prog w) A (call (.builtin "list.append") [acc,x]) (λ_ s₅=>∃m,m<n/\I m s₅) (λ_ _=>False) s₄) (λ_ _=>False) s₃
    else ∃m,m<n/\I m s₃) (λ_ _=>False) s₂) (λ_ _=>False) s₁') (λ_ _=>False) s₁) (λ_ _=>False) s)
 (n:Nat) (h:I n s):
 codeAny (model prog w) A (.compLoop (.ListComp elt [⟨target,iter,ifs,0⟩] scope pos) 0 it acc env) R s:=by
 refine codeAny_loop rfl I (λn s hI=> ?_) n h
 show AF _ A ((compTurn (.ListComp elt [⟨target,iter,ifs,0⟩] scope pos) 0 it acc env).onRaise (λx=>do noteFrame x env;theTreesLotGoes x)) _ _ s
 refine wpAny_noted ?_
 rw [compTurn_list]
 refine AD (wpAny_standAt (AD (wpAny_mono (turn n s hI) (λr s₁ h₁=> ?_) λ_ _ h'=>h'.elim)))
 cases r with
 |none=>exact AH h₁
 |some v=>
  refine AD (wpAny_mono h₁ (λ_ s₁' h₁'=> ?_) λ_ _ h'=>h'.elim)
  refine AD (wpAny_mono h₁' (λ_ s₂ h₂=>AD (wpAny_mono h₂ (λok s₃ h₃=> ?_) λ_ _ h'=>h'.elim)) λ_ _ h'=>h'.elim)
  cases ok with
  |false=>exact AH ⟨rfl,h₃⟩
  |true=>
   exact AD (AD (wpAny_mono h₃ (λx s₄ h₄=>AD (wpAny_mono h₄ (λ_ s₅ h₅=>AH (AH ⟨rfl,h₅⟩)) λ_ _ h'=>h'.elim)) λ_ _ h'=>h'.elim))
end
def PCs(X:Cx)(ifs:List AG)(t:TT):Prop:=
 ∀(pins:List (AB×Obj)) (s:AC) (σ:St) (H:Hp) (Q:Bool->Hp->Prop),e9 X pins σ H s->t σ H Q->
  AF (model X.prog X.w) X.A (forIn ifs true λc r=>if r=true then do let ok<-isTrue c X.env (eval c X.env);pure (ForInStep.yield ok) else pure (ForInStep.yield r)) (TP X pins σ Q) X.xe s
def b8l:TT:=λ_ H Q=>Q true H
theorem b1W{X:Cx}:PCs X [] b8l:=λpins s σ H Q I h=>wpAny_tests_nil ⟨H,I,h⟩
theorem b1X{X:Cx}{c:AG}{t:TT}(h:PT X c t):PCs X [c] t:=λpins s σ H Q I hq=>wpAny_tests_one (h pins s σ H Q I hq)
def b2c(wi:TI)(g:TG)(tc:TT)(te:TE)(k:Nat):TE:=λσ H Q=>wi σ H λJ H1=>∀D,H1 D=ζ->∃W:Nat->Nat->List V->Hp->Prop,(∃m,W 0 m [] (i7 H1 D (.lst [])))/\∀i m xs H2,W i m xs H2->H2 D=ξ (.lst xs)->
 (J.stop i H2/\Q (.ref D) H2)\/(J.go i H2/\∀x H3,J.yld i H2 x H3->g x (σ++AO k ζ) H3 λσ4 H4=>(∀(j:Nat) v,(σ++AO k ζ)[j]?=ξ (ξ v)->σ4[j]?=ξ (ξ v))/\tc σ4 H4 λb H5=>if b=true then te σ4 H5 λv H6=>H6 D=ξ (.lst xs)/\xs.length<AM/\∃m',m'<m/\W (i+1) m' (xs++[v]) (i7 H6 D (.lst (xs++[v])))
  else H5 D=ξ (.lst xs)/\∃m',m'<m/\W (i+1) m' xs H5)
section
variable {X:Cx}{elt iter tg:AG}{ifs:List AG}{scope:Scope}{N0 ys:List Str}{wi:TI}{g:TG}{tc:TT}{te:TE}{pos:Pos}
theorem a0H{pins:List (AB×Obj)}{σ:St}{H:Hp}{s:AC}(I:e9 X pins σ H s)(S:E3 X.N N0 ys X.env scope){x:Str}(h:(x,NameKind.free)∈scope.names):∃c,X.env.cells.lookup x=ξ c:=I.ok.has x (S.fr _ h rfl)
theorem b0m{pins:List (AB×Obj)}{σ:St}{H:Hp}{s:AC}{fp:List AB}(S:E3 X.N N0 ys X.env scope)(I:e9 X pins σ H s)(hf:∀b∈fp,a3m X pins H b)(ho:∀b∈fp,∃o,s.heap.get? b=ξ o/\∀v,o.data≠.cell v):
 e9 (j9 X N0 scope ys s.heap.objs.size fp pins s H) [] (σ++AO ys.length ζ) H {s with heap:=pushCells (s.heap.push {cls:= .type "dict",data:= .dict #[]}) scope.names}:=by
 have up:∀b o,s.heap.get? b=ξ o->(pushCells (s.heap.push {cls:= .type "dict",data:= .dict #[]}) scope.names).get? b=ξ o:=λb o e=>pushCells_keeps _ _ b o (AR _ e)
 have okc:=cellsFrom_ok scope.names (s.heap.push {cls:= .type "dict",data:= .dict #[]}) (s.heap.objs.size+1) [] ⟨λ_ _ hm=>(nomatch hm),List.Pairwise.nil⟩ (by rw [Heap.size_push];exact AN _)
 rw [Heap.size_push] at okc
 have cel:∀x c,(M9 scope s.heap.objs.size X.env).cells.lookup x=ξ c->((x,c)∈cellsFrom (s.heap.objs.size+1) scope.names []/\(x,NameKind.cell)∈scope.names/\s.heap.objs.size<c)\/(X.env.cells.lookup x=ξ c/\(x,NameKind.free)∈scope.names):=λx c e=>by
  have m:=PySem.mem_of_lookup e;have m:(x,c)∈cellsFrom (s.heap.objs.size+1) scope.names (T9 X.env.cells scope.names []):=m;rw [E4] at m;rcases Ar.mp m with m|m
  ·obtain⟨h1,h2⟩:=N7 m;exact .inl ⟨m,h2,h1⟩
  ·rcases a3o m with m|⟨m,e⟩
   ·exact nomatch m
   ·obtain⟨c',hc'⟩:=a0H I S m;rw [hc'] at e;exact .inr ⟨by rw [hc',e];rfl,m⟩
 have celLt:∀x c,X.env.cells.lookup x=ξ c->c<s.heap.objs.size:=λx c e=>let ⟨_,h⟩:=I.cell x c e;h.lt
 have fpLt:∀b∈fp,b<s.heap.objs.size:=λb hb=>let ⟨_,e,_⟩:=ho b hb;AT e
 have cellNo:∀x,(x,NameKind.cell)∉scope.names->(cellsFrom (s.heap.objs.size+1) scope.names []).lookup x=ζ:=λx hx=>a5z λc m=>hx (N7 m).2
 have look:∀x,(x,NameKind.free)∈scope.names->(M9 scope s.heap.objs.size X.env).cells.lookup x=X.env.cells.lookup x:=λx m=>by
  have hl:=C5 S.nd m;have hn:(x,NameKind.cell)∉scope.names:=λz=>by
   have:=C5 S.nd z;rw [hl] at this;cases this
  show(cellsFrom (s.heap.objs.size+1) scope.names (T9 X.env.cells scope.names [])).lookup x=_;rw [E4,a2c (cellNo x hn),a0z S.nd hl];obtain⟨c,hc⟩:=a0H I S m;rw [hc];rfl
 have kindF:∀x,scope.names.lookup x=ξ .free->X.env.kindOf x=ξ .cell\/X.env.kindOf x=ξ .free:=λx h=>S.fr _ (PySem.mem_of_lookup h) rfl
 refine⟨⟨I.mod,S.kind,I.ok.glob,I.ok.blt,AN _,λx y c h1 h2=> ?_,λx h=> ?_,λx c h1 h2=> ?_,I.ok.hd,I.ok.frames,.inl rfl,λb hb=> ?_,I.bs,Nat.le_trans I.ok.bsz I.sz,λb o e hb=> ?_,λb hb hz=> ?_,I.stack,I.stkFree⟩,
  rfl,I.bare,Un.kept up,⟨λ_=>ζ, ?_,λi x v h1 h2 h3=> ?_⟩,λx c e=> ?_,I.hok.fresh (AN _),λx c e=> ?_,λp hp=> ?_,I.hok.kept up, ?_⟩
 ·rcases cel x c h1 with⟨a1,b1,c1⟩|⟨a1,b1⟩
  ·rcases cel y c h2 with⟨a2,b2,c2⟩|⟨a2,b2⟩
   ·exact name_of_addr okc.apart a1 a2
   ·exact absurd (Nat.lt_trans c1 (celLt y c a2)) (Nat.lt_irrefl _)
  ·rcases cel y c h2 with⟨a2,b2,c2⟩|⟨a2,b2⟩
   ·exact absurd (Nat.lt_trans c2 (celLt x c a1)) (Nat.lt_irrefl _)
   ·exact I.ok.inj x y c a1 a2
 ·have hk:(M9 scope s.heap.objs.size X.env).kindOf x=ξ .cell\/(M9 scope s.heap.objs.size X.env).kindOf x=ξ .free:=h
  rw [V9] at hk
  cases e:scope.names.lookup x with
  |none=>rw [e] at hk;rcases hk with z|z<;>cases z
  |some k=>
   rw [e] at hk
   have hk':k= .cell\/k= .free:=by
    by_cases c:(k==NameKind.free && X.env.scope.kind== .function && X.env.kindOf x==ξ .cell)=true
    ·have:(k==NameKind.free)=true:=by
      rw [Bool.and_eq_true,Bool.and_eq_true] at c;exact c.1.1
     exact .inr (by simpa using this)
    ·simp only [Az] at hk;rw [if_neg c] at hk;rcases hk with z|z
     ·cases z;exact .inl rfl
     ·cases z;exact .inr rfl
   rcases hk' with rfl|rfl
   ·have q:=PySem.W.cellsFrom_some (x:=x) scope.names (s.heap.objs.size+1) (T9 X.env.cells scope.names []) (.inl e)
    exact Option.isSome_iff_exists.mp q
   ·obtain⟨c,hc⟩:=a0H I S (PySem.mem_of_lookup e)
    exact⟨c,by show(M9 scope s.heap.objs.size X.env).cells.lookup x=_;rw [look x (PySem.mem_of_lookup e)];exact hc⟩
 ·rcases cel x c h2 with⟨_,_,c1⟩|⟨_,b1⟩
  ·exact BA c1
  ·have h1':(scope.names.lookup x==ξ .cell)=true:=h1
   rw [C5 S.nd b1] at h1'
   cases h1'
 ·refine⟨AW (fpLt b hb),λx c e z=> ?_⟩
  rcases cel x c e with⟨_,_,c1⟩|⟨a1,_⟩
  ·rw [z] at c1;exact absurd (Nat.lt_trans c1 (fpLt b hb)) (Nat.lt_irrefl _)
  ·exact(hf b hb).2.2.2.2.1 x c a1 z
 ·have hb:b∈fp:=hb
  rcases(hf b hb).2.2.2.1 with z|z
  ·exact I.ok.noex b o e z
  ·have h1:=(I.ok.bs b o e).1
   have:=AT h1
   exact absurd (Ak this z) (Nat.lt_irrefl _)
 ·have hb:b∈fp:=hb
  have hz:b∈frs X.stack:=hz
  rcases AU.mp (I.stkSub b hz) with z|z
  ·exact(hf b hb).2.1 z
  ·exact(hf b hb).2.2.1 z
 ·exact(Heap.Ns.new s.heap (.type "dict")).keeps (pushCells_keeps _ _)
 ·have h1:(N0++ys)[i]?=ξ x:=h1
  rw [S.eq] at h1
  have hi:i<σ.length:=by
   by_cases hi:i<σ.length
   ·exact hi
   ·rw [List.getElem?_append_right (by lia),List.getElem?_replicate] at h2
    split at h2<;>cases h2
  rw [At hi] at h2
  rw [At (by rw [AV,<-I.len];exact hi),Ag] at h1
  have hvis:Vis (M9 scope s.heap.objs.size X.env).scope x:=h3
  have hkn:scope.names.lookup x=ζ->False:=λz=>by
   have hk:∀k,(M9 scope s.heap.objs.size X.env).kindOf x=ξ k->scope.names.lookup x≠ζ:=λk z e=>by
    rw [V9,e] at z;cases z
   rcases hvis with e|e|e<;>exact absurd z (hk _ e)
  have h1:X.N[i]?=ξ x/\ys.contains x=false:=by
   cases e0:X.N[i]? with
   |none=>rw [e0] at h1;cases h1
   |some x0=>
    rw [e0] at h1;have h1:hid ys x0=x:=Option.some.inj h1;have ho:=S.ou x0 (BC e0);cases hc:ys.contains x0 with
    |true=>exact(hkn (by rw [<-h1];exact ho.1 hc)).elim
    |false=>
     have hx:x0=x:=by rw [<-h1];unfold hid;rw [if_neg (by rw [hc];exact Ac)]
     subst hx;exact⟨rfl,hc⟩
  obtain⟨h1,hys⟩:=h1
  have hfree:scope.names.lookup x=ξ .free:=by
   have hk:∀k,(M9 scope s.heap.objs.size X.env).kindOf x=ξ k->scope.names.lookup x≠ζ:=λk z e=>by
    rw [V9,e] at z;cases z
   rcases(S.ou x (BC h1)).2 hys with z|z|z
   ·rcases hvis with e|e|e<;>exact absurd z (hk _ e)
   ·exact z
   ·have hg:(M9 scope s.heap.objs.size X.env).kindOf x=ξ .globalImplicit:=by
     rw [V9,z];rfl
    rcases hvis with e|e|e
    ·have e:(M9 scope s.heap.objs.size X.env).kindOf x=ξ .local:=e;rw [hg] at e;cases e
    ·have e:(M9 scope s.heap.objs.size X.env).kindOf x=ξ .cell:=e;rw [hg] at e;cases e
    ·have e:(M9 scope s.heap.objs.size X.env).kindOf x=ξ .free:=e;rw [hg] at e;cases e
  obtain⟨m,hn,hl⟩:=I.loc
  have hv:Vis X.env.scope x:=by
   rcases kindF x hfree with z|z
   ·exact .inr (.inl z)
   ·exact .inr (.inr z)
  obtain⟨u,r,l⟩:=hl i x v h1 h2 hv
  refine⟨u,r, ?_⟩
  rcases l with⟨k,_⟩|⟨k,c,e,z⟩
  ·rcases kindF x hfree with q|q<;>rw [q] at k<;>cases k
  ·refine .inr ⟨?_,c,by show(M9 scope s.heap.objs.size X.env).cells.lookup x=_;rw [look x (PySem.mem_of_lookup hfree)];exact e,z.keeps up⟩
   show(M9 scope s.heap.objs.size X.env).kindOf x=ξ .cell\/(M9 scope s.heap.objs.size X.env).kindOf x=ξ .free
   rw [V9,hfree]
   by_cases cc:((NameKind.free==NameKind.free)&& X.env.scope.kind== .function && X.env.kindOf x==ξ .cell)=true
   ·exact .inl (congrArg ξ (if_pos cc))
   ·exact .inr (congrArg ξ (if_neg cc))
 ·rcases cel x c e with⟨a1,_,_⟩|⟨a1,_⟩
  ·exact⟨ζ,(okc.empty x c a1).1⟩
  ·obtain⟨v,z⟩:=I.cell x c a1
   exact⟨v,z.keeps up⟩
 ·rcases cel x c e with⟨_,_,c1⟩|⟨a1,_⟩
  ·exact I.hok.fresh (BA c1)
  ·exact I.freeC x c a1
 ·have hp:p∈(X.pn++pins)++[]:=hp
  rw [Ad] at hp
  obtain⟨e,n,ne,nf,d⟩:=I.pin p hp
  refine⟨up _ _ e,n,AW (AT e),λhz=> ?_,d⟩
  have hz:p.1∈frs X.stack:=hz
  rcases AU.mp (I.stkSub p.1 hz) with z|z
  ·exact ne z
  ·exact nf z
 ·show(σ++AO ys.length ζ).length=(N0++ys).length
  rw [Am,List.length_replicate,Am,S.eq,AV,I.len]
def b3B(X:Cx)(pins:List (AB×Obj))(C:AB):Prop:=C≠X.env.locals/\X.s₀.heap.objs.size<=C/\(∀x c,X.env.cells.lookup x=ξ c->c≠C)/\∀p∈X.pn++pins,p.1≠C
theorem b2r{pos':Pos}{use:Option (AA->Sem Unit)}{QQ:AA->AC->Prop}(hx:∀e s,X.xe e s->False)(hc:X.calm=true)(S:E3 X.N N0 ys X.env scope)(hi:PI X tg iter wi)
 (hg:∀C fp pins s H,PG (j9 X N0 scope ys C fp pins s H) tg g) (ht:∀C fp pins s H,PCs (j9 X N0 scope ys C fp pins s H) ifs tc) (he:∀C fp pins s H,PE (j9 X N0 scope ys C fp pins s H) elt te)
 (hs:∀x,foldedSetIterable iter X.env x=pure x) {pins:List (AB×Obj)} {s:AC} {σ:St} {H:Hp} {Q:VK} (I:e9 X pins σ H s) (h:b2c wi g tc te ys.length σ H Q)
 (fin:∀D C s' H' m,e9 X pins σ H' s'->s'.heap.Ns C m->H' C=ζ->b3B X pins C->Q (.ref D) H'->compPost (model X.prog X.w) X.A X.xe use QQ (.ref D) C (.ok .next) s'):
 AF (model X.prog X.w) X.A (comprehension (.ListComp elt [⟨tg,iter,ifs,0⟩] scope pos) scope X.env pos' (newList []) false (eval iter X.env) use) QQ X.xe s:=by
 have hcl:closureFor scope X.env=pure (T9 X.env.cells scope.names []):=a6E λx hx' hk=>by
  obtain⟨c,e⟩:=a0H (ys:=ys) I S (x:=x.1) (by rw [<-hk];exact hx')
  rw [e];rfl
 refine wpAny_comprehension_free (use:=use) rfl hs hcl S.kind (λx hx' hk=>C5 S.nd (by rw [<-hk];exact hx')) (C8 (hi pins s σ H _ I h) λv s1 h1=>C8 h1 λitv s2 h2=> ?_)
 obtain⟨it,fp,tn,J,H2,e,I2,T,st2,f2,hW⟩:=h2
 subst e
 have hfr:=I2.hok.fresh (AN _)
 obtain⟨W,⟨m0,w0⟩,turn⟩:=hW s2.heap.objs.size hfr
 have fpLt:∀b∈fp,b<s2.heap.objs.size:=λb hb=>let ⟨_,e,_⟩:=T.obj _ _ st2 b hb;AT e
 refine wpAny_newObj_type ?_
 have I3:e9 X pins σ (i7 H2 s2.heap.objs.size (.lst [])) {s2 with heap:=s2.heap.push {cls:= .type "list",data:= .seq ([]:List AA).toArray}}:=
  I2.laid (t':=s2.toks) (λb o e=>AR _ e) (AN _) ⟨by decide,[],0,.nil,Aa _ rfl⟩
 have up3:∀b o,s2.heap.get? b=ξ o->(s2.heap.push {cls:= .type "list",data:= .seq ([]:List AA).toArray}).get? b=ξ o:=λb o e=>AR _ e
 have st3:tn 0 (s2.heap.push {cls:= .type "list",data:= .seq ([]:List AA).toArray}):=T.keep _ _ _ st2 λb _ o e=>up3 b o e
 have f3:∀b∈fp,a3m X pins (i7 H2 s2.heap.objs.size (.lst [])) b:=λb hb=>⟨by rw [a9 (AW (fpLt b hb))];exact(f2 b hb).1,(f2 b hb).2⟩
 generalize hs3:({s2 with heap:=s2.heap.push {cls:= .type "list",data:= .seq ([]:List AA).toArray}}:AC)=s3 at I3
 have hs3h:s3.heap=s2.heap.push {cls:= .type "list",data:= .seq ([]:List AA).toArray}:=by rw [<-hs3]
 rw [<-hs3h] at st3 up3
 refine a11 ?_
 have I4:=b0m S I3 f3 (T.obj _ _ st3)
 generalize hs4:({s3 with heap:=pushCells (s3.heap.push {cls:= .type "dict",data:= .dict #[]}) scope.names}:AC)=s4 at I4 ⊢
 have hs4h:s4.heap=pushCells (s3.heap.push {cls:= .type "dict",data:= .dict #[]}) scope.names:=by rw [<-hs4]
 have st4:tn 0 s4.heap:=T.keep _ _ _ st3 λb _ o e=>by rw [hs4h];exact pushCells_keeps _ _ b o (AR _ e)
 generalize hX:j9 X N0 scope ys s3.heap.objs.size fp pins s3 (i7 H2 s2.heap.objs.size (.lst []))=Y at I4
 have Yp:Y.prog=X.prog:=by rw [<-hX];rfl
 have Yw:Y.w=X.w:=by rw [<-hX];rfl
 have YK:Y.K=X.K:=by rw [<-hX];rfl
 have YA:Y.A=X.A:=by rw [<-hX];rfl
 have Yc:Y.calm=true:=by rw [<-hX];exact hc
 have Yx:Y.xe=X.xe:=by rw [<-hX];rfl
 have YL:Y.env.locals=s3.heap.objs.size:=by rw [<-hX];rfl
 have Yf:Y.fs=frs X.stack:=by rw [<-hX];rfl
 have Ye:Y.ex=fp:=by rw [<-hX];rfl
 have Yn:Y.pn=X.pn++pins:=by rw [<-hX];rfl
 have Ys:Y.s₀=s3:=by rw [<-hX];rfl
 have YH:Y.H₀=i7 H2 s2.heap.objs.size (.lst []):=by rw [<-hX];rfl
 have YE:Y.env=M9 scope s3.heap.objs.size X.env:=by rw [<-hX];rfl
 have hgY:PG Y tg g:=by rw [<-hX];exact hg _ _ _ _ _
 have htY:PCs Y ifs tc:=by rw [<-hX];exact ht _ _ _ _ _
 have heY:PE Y elt te:=by rw [<-hX];exact he _ _ _ _ _
 have nlen:(σ++AO ys.length ζ).length=Y.N.length:=I4.len
 have exf:=I4.ok.exf
 have exfs:=I4.ok.exfs
 have stat:∀{H':Hp},(∀b∈fp,H' b=ζ)->∀b∈fp,a3m Y [] H' b:=λ {H'} hn b hb=>by
  have hb':b∈Y.ex:=by rw [Ye];exact hb
  refine⟨hn b hb,(exf b hb').1,exfs b hb',.inl hb',(exf b hb').2,λp hp=> ?_⟩;rw [Ad,Yn] at hp;exact(f2 b hb).2.2.2.2.2 p hp
 have TY:a81 Y.prog Y.w Y.K tg J fp it tn:=by rw [Yp,Yw,YK];exact T
 have noX:∀e s,Y.xe e s->False:=λe s h=>hx e s (by rw [<-Yx];exact h)
 have loop:∀R:Result->AC->Prop,(∀s' H' m,e9 X pins σ H' s'->s'.heap.Ns s3.heap.objs.size m->H' s3.heap.objs.size=ζ->b3B X pins s3.heap.objs.size->Q (.ref s2.heap.objs.size) H'->R (.ok .next) s')->
  codeAny (model X.prog X.w) X.A (.compLoop (.ListComp elt [⟨tg,iter,ifs,0⟩] scope pos) 0 (.ref it) (.ref s2.heap.objs.size) (M9 scope s3.heap.objs.size X.env)) R s4:=by
  intro R hR
  refine a1Y (λn s'=>∃i xs H' σ',e9 Y [] σ' H' s'/\(∀(j:Nat) v,(σ++AO ys.length ζ)[j]?=ξ (ξ v)->σ'[j]?=ξ (ξ v))/\tn i s'.heap/\(∀b∈fp,H' b=ζ)/\H' s2.heap.objs.size=ξ (.lst xs)/\W i n xs H') ?_ m0
   ⟨0,[],_,_,I4,λ_ _ e=>e,st4,λb hb=>(f3 b hb).1,c8,w0⟩
  rintro n s5 ⟨i,xs,H5,σ5,I5,k5,st5,fr5,hD5,w5⟩
  have I5:e9 Y [] (σ++AO ys.length ζ) H5 s5:=I5.weak (by rw [nlen,I5.len]) k5
  rw [<-Yp,<-Yw,<-YA]
  rcases turn i n xs H5 w5 hD5 with⟨stop,q⟩|⟨go,step⟩
  ·refine wpAny_mono (TY.done Y rfl rfl rfl Yc i [] s5 _ H5 (λ_ _=>False) I5 (stat fr5) st5 stop) (λr s6 ⟨hr,I6⟩=> ?_) λ_ _ z=>z
   subst hr
   obtain⟨m,hn,_⟩:=I6.loc
   have un:=I6.base
   rw [Yf,Ye,Ys,YH] at un
   rw [YL] at hn
   have hfC:=I6.free
   rw [YL] at hfC
   refine hR s6 H5 m (I3.call' (ch:=fp) (by rw [I6.os,Ys]) un (by have z:=I6.hok;rw [Yp,Yw] at z;exact z) I6.bare λb hb=>⟨(f3 b hb).2.2.2.1,(f3 b hb).2.1,(f3 b hb).2.2.2.2.1,(f3 b hb).2.2.2.2.2⟩) hn hfC ⟨Nat.ne_of_gt I3.lt,I3.sz,λx c e=> ?_,λp hp=> ?_⟩ q
   ·obtain⟨v,z⟩:=I3.cell x c e
    exact AW z.lt
   ·exact AW (AT (I3.pin p hp).1)
  ·refine wpAny_mono (TY.item Y rfl rfl rfl Yc i [] s5 _ H5 (λ_ _=>False) I5 (stat fr5) st5 go) (λr s6 ⟨u,hr,h6⟩=> ?_) λ_ _ z=>z
   subst hr
   dsimp only
   refine wpAny_mono h6 (λ_ s7 ⟨x,H7,I7,r7,y7,st7,fr7⟩=> ?_) λ_ _ z=>z
   have I7':=I7.pinned (stat fr7) (T.obj _ _ st7)
   rw [<-YE]
   have keepT:∀{σ8:St} {H8:Hp} {s8:AC},e9 Y ([]++a5V fp s7.heap) σ8 H8 s8->tn (i+1) s8.heap/\∀b∈fp,H8 b=ζ:=λ {σ8 H8 s8} I8=>by
    refine⟨T.keep _ _ _ st7 λb hb o e=>(I8.pin (b,o) (Ax _ (Ax _ (a0I hb e)))).1,λb hb=> ?_⟩;obtain⟨o,e,d⟩:=T.obj _ _ st7 b hb;exact(I8.pin (b,o) (Ax _ (Ax _ (a0I hb e)))).2.1
   refine wpAny_mono (hgY _ s7 _ H7 x u _ I7' r7 (step x H7 y7)) (λ_ s8 h0=>j5 h0 λσ8 H8 I8 k8 q8=> ?_) λe s z=>noX e s z
   refine wpAny_mono (htY _ s8 σ8 H8 _ I8 q8) (λb s9 ⟨H9,I9,q9⟩=> ?_) λe s z=>noX e s z
   cases b with
   |false=>
    rw [if_neg Ac] at q9 ⊢
    obtain⟨hD9,m',lt,w9⟩:=q9
    obtain⟨t9,n9⟩:=keepT I9
    exact⟨m',lt,i+1,xs,H9,σ8,I9.pins_of (λp hp=>nomatch hp),k8,t9,n9,hD9,w9⟩
   |true=>
    rw [if_pos rfl] at q9 ⊢
    refine wpAny_mono (heY _ s9 σ8 H9 _ I9 q9) (λy s10 ⟨v,H10,I10,r10,hD10,hz,m',lt,w10⟩=> ?_) λe s z=>noX e s z
    refine wpAny_mono (a7m _ s10 σ8 H10 (.ref s2.heap.objs.size) [v] (.ref s2.heap.objs.size) [y] (λ_ H'=>H'=i7 H10 s2.heap.objs.size (.lst (xs++[v]))) I10 rfl (.cons r10 .nil) ⟨_,xs,v,rfl,rfl,hD10,hz,rfl⟩) (λ_ s11 h0=>j5 h0 λ_ H11 I11 _ e11=> ?_) λe s z=>noX e s z
    subst e11
    obtain⟨t11,n11⟩:=keepT I11
    exact⟨m',lt,i+1,xs++[v],_,σ8,I11.pins_of (λp hp=>nomatch hp),k8,t11,n11,c8,w10⟩
 show codeAny _ _ (.compStart _ 0 _ _ (M9 scope s3.heap.objs.size X.env)) _ _
 refine codeAny_compStart_list (loop _ λs' H' m a b c d e=>fin _ _ s' H' m a b c d e) (T.self _ 0 _ _ _ st4 (loop _ λs' H' m a b c d e=>fin _ _ s' H' m a b c d e))
theorem a25(hx:∀e s,X.xe e s->False)(hc:X.calm=true)(S:E3 X.N N0 ys X.env scope)(hi:PI X tg iter wi)
 (hg:∀C fp pins s H,PG (j9 X N0 scope ys C fp pins s H) tg g) (ht:∀C fp pins s H,PCs (j9 X N0 scope ys C fp pins s H) ifs tc) (he:∀C fp pins s H,PE (j9 X N0 scope ys C fp pins s H) elt te)
 (hs:∀x,foldedSetIterable iter X.env x=pure x:=by intro _;rfl):PE X (.ListComp elt [⟨tg,iter,ifs,0⟩] scope pos) (b2c wi g tc te ys.length):=by
 intro pins s σ H Q I h
 rw [eval_ListComp]
 refine b2r hx hc S hi hg ht he hs I h λD C s' H' m I' hn hC gone q=>⟨m,hn,λh' hs'=>⟨.ref D,H', ?_,rfl,q⟩⟩
 obtain⟨g1,g2,g3,g4⟩:=gone
 exact I'.turned (t':=s'.toks) (λb o hb e=>hs'.extBut b o hb e) hC g1 (.inr g2) g3 g4
end
end L2
namespace PU
open PySem PySem.Spec PyProof.Rows L2
def a35(c:MT)(elt:M)(tg:PV->b9->Option b9)(ρ:b9):List PV->Option (List PV)
 |[]=>ξ []
 |p::ps=>(tg p ρ).bind λρ1=>(c ρ1).bind λb=>if b=true then((elt ρ1).bind d7.toVal).bind λq=>(a35 c elt tg ρ ps).bind λr=>ξ (q::r) else a35 c elt tg ρ ps
def a0i:MT:=λ_=>ξ true
def S2(k:Nat)(it:MI)(tg:PV->b9->Option b9)(c:MT)(elt:M):M:=λρ=>(it ρ).bind λps=>if ps.length<=AM then(a35 c elt tg (ρ++AO k ζ) ps).bind λr=>ξ (.own r) else ζ
def a31(K:AE)(n:Nat)(g:TG)(tg:PV->b9->Option b9):Prop:=
 ∀F H σ ρ ρ1 p x (Q:L2.St->Hp->Prop),C9 K F H σ ρ->A5 K F p x->tg p ρ=ξ ρ1->(∀σ',C9 K F H σ' ρ1->(∀(j:Nat),j<n->σ'[j]?=σ[j]?)->Q σ' H)->g x σ H Q
theorem C9.set{K:AE}{F H:Hp}{σ:L2.St}{ρ:b9}{p:PV}{x:V}(e:C9 K F H σ ρ)(r:A5 K F p x)(i:Nat):C9 K F H (σ.set i (ξ x)) (ρ.set i (ξ (.v p))):=by
 refine⟨e.fh,by simp [e.len],λj q h=> ?_,λj ps h=> ?_,λj k ps qs a hjk h1 h2 h3 h4=> ?_⟩
 ·rw [List.getElem?_set] at h ⊢
  by_cases hij:i=j
  ·subst hij;rw [if_pos rfl] at h ⊢;rw [e.len];split at h
   ·rename_i c;cases h;rw [if_pos c];exact⟨x,rfl,r⟩
   ·cases h
  ·rw [if_neg hij] at h ⊢;exact e.at_ j q h
 ·rw [List.getElem?_set] at h
  by_cases hij:i=j
  ·subst hij;rw [if_pos rfl] at h;split at h<;>cases h
  ·rw [if_neg hij] at h;exact e.nb j ps h
 ·have get:∀(j:Nat) (ps:V2),(ρ.set i (ξ (d7.v p)))[j]?=ξ (ξ (d7.ow ps))->i≠j/\ρ[j]?=ξ (ξ (d7.ow ps)):=λj ps h=>by
   rw [List.getElem?_set] at h
   by_cases hij:i=j
   ·subst hij;rw [if_pos rfl] at h;split at h<;>cases h
   ·rw [if_neg hij] at h;exact⟨hij,h⟩
  obtain⟨n1,h1⟩:=get j ps h1;obtain⟨n2,h2⟩:=get k qs h2;rw [List.getElem?_set_ne n1] at h3;rw [List.getElem?_set_ne n2] at h4;exact e.ap j k ps qs a hjk h1 h2 h3 h4
theorem C1{K:AE}{n i:Nat}(h:n<=i):a31 K n (a2S i) (j6 i):=λF H σ ρ ρ1 p x Q e r q k=>by
 cases q;exact k _ (e.set r i) λj hj=>by rw [List.getElem?_set_ne (by lia)]
theorem C9.more{K:AE}{F H:Hp}{σ:L2.St}{ρ:b9}(e:C9 K F H σ ρ)(k:Nat):C9 K F H (σ++AO k ζ) (ρ++AO k ζ):=by
 have key:∀(j:Nat) (q:d7),(ρ++AO k ζ)[j]?=ξ (ξ q)->ρ[j]?=ξ (ξ q)/\(σ++AO k ζ)[j]?=σ[j]?:=λj q h=>by
  by_cases hj:j<ρ.length
  ·rw [At hj] at h;rw [At (by rw [e.len];exact hj)]
   exact⟨h,rfl⟩
  ·rw [List.getElem?_append_right (by lia),List.getElem?_replicate] at h
   split at h<;>cases h
 refine⟨e.fh,by simp [e.len],λj q h=> ?_,λj ps h=>e.nb j ps (key j _ h).1,λj k' ps qs a hjk h1 h2 h3 h4=> ?_⟩
 ·obtain⟨h1,h2⟩:=key j q h;rw [h2];exact e.at_ j q h1
 ·obtain⟨a1,b1⟩:=key j _ h1;obtain⟨a2,b2⟩:=key k' _ h2;rw [b1] at h3;rw [b2] at h4;exact e.ap j k' ps qs a hjk a1 a2 h3 h4
def WC(K:AE)(F H:Hp)(D:AB)(c:MT)(elt:M)(tg:PV->b9->Option b9)(ρ:b9)(ps r:List PV)(i m:Nat)(xs:List V)(H':Hp):Prop:=
 ∃F' done rest,i<=ps.length/\m=ps.length - i/\R5 F H F' H'/\F' D=ζ/\h9 K F' done xs/\done.length<=i/\a35 c elt tg ρ (ps.drop i)=ξ rest/\done++rest=r
theorem a65{K:AE}{F H:Hp}{D:AB}{c:MT}{elt:M}{tg:PV->b9->Option b9}{g:TG}{σ:L2.St}{ρ:b9}{k:Nat}{ps r:List PV}{i m:Nat}{xs:List V}{H':Hp}{p:PV}{x:V}
 (T:a31 K ρ.length g tg) (en:C9 K F H σ ρ) (hD:H D=ζ) (hsz:ps.length<=AM) (W:WC K F H D c elt tg (ρ++AO k ζ) ps r i m xs H') (hx:H' D=ξ (.lst xs)) (ep:ps[i]?=ξ p) (rx:A5 K F p x):
 g x (σ++AO k ζ) H' λσ4 H4=>(∀(j:Nat) v,(σ++AO k ζ)[j]?=ξ (ξ v)->σ4[j]?=ξ (ξ v))/\tMT K c σ4 H4 λb H5=>if b=true then tM K elt σ4 H5 λv H6=>H6 D=ξ (.lst xs)/\xs.length<AM/\∃m',m'<m/\WC K F H D c elt tg (ρ++AO k ζ) ps r (i+1) m' (xs++[v]) (i7 H6 D (.lst (xs++[v])))
  else H5 D=ξ (.lst xs)/\∃m',m'<m/\WC K F H D c elt tg (ρ++AO k ζ) ps r (i+1) m' xs H5:=by
 obtain⟨F',done,rest,hi,hm,ex,fD,rl,dl,hc,hr⟩:=W
 have hk:i<ps.length:=(Ah.mp ep).1
 have hd:ps.drop i=p::ps.drop (i+1):=by
  rw [List.drop_eq_getElem_cons hk]
  congr 1
  exact(Ah.mp ep).2
 rw [hd] at hc
 unfold a35 at hc
 obtain⟨ρ1,e1,hc⟩:=bind_some hc
 obtain⟨b,e2,hc⟩:=bind_some hc
 have en':=(en.ext ex).more k
 refine T F' H' _ _ ρ1 p x _ en' (A5.mono ex.f _ rx) e1 λσ4 en4 keep=>⟨λj v e=> ?_, ?_⟩
 ·by_cases hj:j<ρ.length
  ·rw [keep j hj];exact e
  ·rw [List.getElem?_append_right (by rw [en.len];lia),List.getElem?_replicate] at e
   split at e<;>cases e
 refine⟨F',ρ1,b,en4,e2,λF5 H5 x5=> ?_⟩
 have ex5:=ex.trans x5
 have fD5:F5 D=ζ:=x5.nw D _ fD hx (λ_ h=>nomatch h)
 cases b with
 |false=>
  rw [if_neg Ac] at hc
  refine b0F ⟨x5.h _ _ hx,ps.length - (i+1),by lia,F5,done,rest,by lia,rfl,ex5,fD5,h9.mono x5.f _ rl,by lia,hc,hr⟩
 |true=>
  rw [if_pos rfl] at hc
  obtain⟨q,e3,hc⟩:=bind_some hc
  obtain⟨rt,e4,hc⟩:=bind_some hc
  cases hc
  obtain⟨re,e5,e6⟩:=bind_some e3
  refine b0G ⟨F5,ρ1,re,en4.ext x5,e5,λv F6 H6 o6=> ?_⟩
  obtain⟨F7,o7⟩:=o6.toVal e6
  have hx6:H6 D=ξ (.lst xs):=o6.x.h _ _ (x5.h _ _ hx)
  have fD7:F7 D=ζ:=o7.x.nw D _ fD5 (x5.h _ _ hx) (λ_ h=>nomatch h)
  have ex7:=ex5.trans o7.x
  have hlen:=rl.length
  refine⟨hx6,by lia,ps.length - (i+1),by lia,F7,done++[q],rt,by lia,rfl,⟨ex7.f,λa o z=> ?_,λa o z=> ?_,ex7.nw,ex7.nf⟩,fD7,h9.append (h9.mono (x5.f.trans o7.x.f) _ rl) ⟨v,[],rfl,o7.rep,rfl⟩,by simp;lia,e4,by rw [List.append_assoc];exact hr⟩
  ·rw [a9 (f7 z hD)];exact ex7.h _ _ z
  ·rw [a9 (f7 z fD7)];exact ex7.fh _ _ z
theorem a87{K:AE}{F H:Hp}{D:AB}{c:MT}{elt:M}{tg:PV->b9->Option b9}{ρ:b9}{ps r:List PV}{m:Nat}{xs:List V}{H':Hp}(hD:H D=ζ)(W:WC K F H D c elt tg ρ ps r ps.length m xs H')(hx:H' D=ξ (.lst xs)):∃F',o9 K F H F' H' (.ref D) (.own r):=by
 obtain⟨F',done,rest,hi,hm,ex,fD,rl,dl,hc,hr⟩:=W;rw [List.drop_length] at hc;cases hc;rw [Ad] at hr;subst hr;exact⟨F',ex,⟨D,xs,rfl,fD,hx,rl⟩,λ_ _ _ e=>by cases e;exact hD⟩
structure Src(K:AE)(F0 F H:Hp)(J:It)(ps:List PV):Prop where
 st:∀i H',g8 H H'->ps.length<=i->J.stop i H'
 go:∀i p H',g8 H H'->ps[i]?=ξ p->J.go i H'
 yd:∀i p x H' H'',g8 H H'->ps[i]?=ξ p->J.yld i H' x H''->H''=H'/\A5 K F p x
def SI(K:AE)(mi:MI)(wi:TI):Prop:=∀F H σ ρ ps (R:It->Hp->Prop),C9 K F H σ ρ->mi ρ=ξ ps->(∀F1 H1 J,R5 F H F1 H1->Src K F F1 H1 J ps->R J H1)->wi σ H R
abbrev EI(X:Cx)(tg iter:AG)(mi:MI):Prop:=∃wi,PI X tg iter wi/\SI X.K mi wi
section
variable {X:Cx}{tg:AG}
def a1Q(m:M):MI:=λρ=>(m ρ).bind λr=>PyData.items? r.rd
theorem a5d{l:AG}{m:M}(h:EE X l m):EI X tg l (a1Q m):=⟨_,b5g h,λF H σ ρ ps R en e k=>by
 obtain⟨r,e1,e2⟩:=bind_some e;refine⟨F,ρ,r,en,e1,λv F1 H1 o1=> ?_⟩;obtain⟨a,xs,rfl,hq,rl⟩:=K6 o1.x.fh o1.rep e2;have hlen:=rl.length;rcases hq with hq|hq
 ·refine⟨a,rfl,.inl ⟨⟨xs,hq⟩,k F1 H1 _ o1.x ⟨λi H2 s h=>⟨xs,B2 s hq,by lia⟩,λi p H2 s h=> ?_,λi p x H2 H3 s h y=> ?_⟩⟩⟩
  ·obtain⟨v,ev,_⟩:=rl.get h;exact⟨xs,v,B2 s hq,ev⟩
  ·obtain⟨v,ev,rv⟩:=rl.get h;obtain⟨e,y⟩:=y;have:=y xs (B2 s hq);rw [ev] at this;cases this;exact⟨e,rv⟩
 ·refine⟨a,rfl,.inr ⟨⟨xs,hq⟩,k F1 H1 _ o1.x ⟨λi H2 s h=>⟨xs,r9 s hq,by lia⟩,λi p H2 s h=> ?_,λi p x H2 H3 s h y=> ?_⟩⟩⟩
  ·obtain⟨v,ev,_⟩:=rl.get h;exact⟨xs,v,r9 s hq,ev⟩
  ·obtain⟨v,ev,rv⟩:=rl.get h;obtain⟨e,y⟩:=y;have:=y xs (r9 s hq);rw [ev] at this;cases this;exact⟨e,rv⟩⟩
theorem b7s{K:AE}{F0 F H:Hp}{lo hi:Int}:Src K F0 F H (Itr lo (hi - lo).toNat) (a01 lo hi):=by
 have hl:=a0k lo hi;refine⟨λi H2 s h=> ?_,λi p H2 s h=> ?_,λi p x H2 H3 s h y=> ?_⟩
 ·show(hi - lo).toNat<=i;lia
 ·have:=(Ah.mp h).1;show i<(hi - lo).toNat;lia
 ·have hi':=(Ah.mp h).1;rw [a56 (by lia)] at h
  cases h;obtain⟨e,y⟩:=y;exact⟨e,y⟩
theorem a4y{a:AG}{m:MA}{p rp:Pos}(hgl:Gl X "range")(hm:X.mg "range"=ζ)(ha:EA X [a] m)(hst:AL [a] X.env=[(false,eval a X.env)]:=by rfl):EI X tg (.Call (.Name "range" p) [a] [] rp) (P7 m):=⟨_,a7u hgl hm ha hst,λF H σ ρ ps R en e k=>by
 obtain⟨qs,e1,e2⟩:=bind_some e;refine⟨F,ρ,qs,en,e1,λvs F1 H1 x rl=> ?_⟩;split at e2
 ·rename_i j;split at e2
  ·rename_i c;have c:=a8d.mp c;cases e2;obtain⟨v,r,rfl,rv,rr⟩:=rl;cases rv;cases rr;have hz:(j - 0).toNat=j.toNat:=by lia
   refine⟨j,rfl,c.1,c.2,k F1 H1 _ x ?_⟩;have z:=b7s (K:=X.K) (F0:=F) (F:=F1) (H:=H1) (lo:=0) (hi:=j);rw [hz] at z;exact z
  ·cases e2
 ·cases e2⟩
abbrev EC(X:Cx)(ifs:List AG)(c:MT):Prop:=PCs X ifs (tMT X.K c)
theorem a0E:EC X [] a0i:=λpins s σ H Q I ⟨F,ρ,b,en,e,k⟩=>by
 cases e;exact b1W pins s σ H Q I (k F H (R5.refl en.fh))
theorem b8J{c:AG}{mc:MT}(h:ET X c mc):EC X [c] mc:=b1X h
theorem b2s{mi:MI}{wi:TI}{g:TG}{c:MT}{elt:M}{t:PV->b9->Option b9}{N:List Str}{k:Nat}(hi:SI X.K mi wi)(T:∀n,n=N.length->a31 X.K n g t){σ:L2.St}{H:Hp}{Q:VK}(hl:σ.length=N.length)(h:tM X.K (S2 k mi t c elt) σ H Q):b2c wi g (tMT X.K c) (tM X.K elt) k σ H Q:=by
 obtain⟨F,ρ,r,en,e,kk⟩:=h;obtain⟨ps,e1,e⟩:=bind_some e;split at e
 ·rename_i hsz;obtain⟨rs,e2,e⟩:=bind_some e;cases e;refine hi F H σ ρ ps _ en e1 λF1 H1 J x1 S D hD=> ?_;have en1:=en.ext x1;have T':a31 X.K ρ.length g t:=T _ (by rw [<-en.len,hl])
  refine⟨WC X.K F1 H1 D c elt t (ρ++AO k ζ) ps rs,⟨ps.length,F1,[],rs,Nat.zero_le _,rfl,R5.layH x1.fh hD,x1.fh.free hD,rfl,AN _,e2,rfl⟩,λi m xs H2 W hx=> ?_⟩;have W':=W;obtain⟨F',done,rest,hi',hm,ex,fD,rl,dl,hc,hr⟩:=W';have sF:g8 H1 H2:=ex.h
  by_cases hlt:i<ps.length
  ·refine .inr ⟨S.go i ps[i] H2 sF (by simp [hlt]),λx H3 y=> ?_⟩
   obtain⟨e3,rx⟩:=S.yd i ps[i] x H2 H3 sF (by simp [hlt]) y
   subst e3;exact a65 T' en1 hD hsz W hx (by simp [hlt]) rx
  ·have e3:i=ps.length:=by lia
   subst e3;refine .inl ⟨S.st _ H2 sF (AN _), ?_⟩;obtain⟨F2,o⟩:=a87 hD W hx;exact kk _ F2 H2 (o9.trans x1 o)
 ·cases e
theorem U2{elt iter:AG}{ifs:List AG}{scope:Scope}{N0 ys:List Str}{mi:MI}{g:TG}{c:MT}{m:M}{t:PV->b9->Option b9}{pos:Pos}(hx:∀e s,X.xe e s->False)(hc:X.calm=true)(S:E3 X.N N0 ys X.env scope)(hi:EI X tg iter mi)
 (hg:∀C fp pins s H,PG (j9 X N0 scope ys C fp pins s H) tg g) (T:∀n,n=X.N.length->a31 X.K n g t) (ht:∀C fp pins s H,EC (j9 X N0 scope ys C fp pins s H) ifs c) (he:∀C fp pins s H,EE (j9 X N0 scope ys C fp pins s H) elt m)
 (hs:∀x,foldedSetIterable iter X.env x=pure x:=by intro _;rfl):EE X (.ListComp elt [⟨tg,iter,ifs,0⟩] scope pos) (S2 ys.length mi t c m):=by
 obtain⟨wi,h1,h2⟩:=hi
 intro pins s σ H Q I h
 exact a25 hx hc S h1 hg ht he hs pins s σ H Q I (b2s (N:=X.N) h2 T I.len h)
end
def a2D:List PV->Option (List Str)
 |[]=>ξ []
 | .str x::r=>(a2D r).map (x::·)
 |_=>ζ
theorem a0S{K:AE}{H:Hp}:∀{ps:List PV} {ys:List Str} {xs:List V} {us:List AA},a2D ps=ξ ys->h9 K H ps xs->j4 xs us->StrsAre us ys
 |[],_,_,_,h,r,v=>by cases h;cases r;cases v;exact .nil
 |p::ps,ys,_,_,h,⟨x,r,e,hp,t⟩,v=>by
  subst e;cases p with
  |str z=>
   simp only [a2D] at h;cases q:a2D ps with
   |none=>rw [q] at h;cases h
   |some zs=>
    rw [q] at h;cases h;cases hp;cases v with
    |cons a b=>
     obtain⟨tk,rfl⟩:=a;exact .cons z tk (a0S q t b)
  |_=>simp [a2D] at h
def a37(x y:d7):Option d7:=match x with
 | .v (.str z)=>(match PyData.items? y.rd with
   |some ps=>(a2D ps).bind λys=>if(ys.map (·.length)).sum+ys.length*z.length<=16777216 then ξ (.v (.str (Txt.join z ys))) else ζ
   |none=>ζ)
 |_=>ζ
section
variable {X:Cx}
theorem b62:MtR X "str.join" (λx xs H Q=>∃F y rx ry rz,xs=[y]/\g8 F H/\K8 X.K F H x rx/\K8 X.K F H y ry/\a37 rx ry=ξ rz/\∀v F' H',o9 X.K F H F' H' v rz->Q v H'):=by
 intro pins s σ H x xs v us Q I rx rv h;obtain⟨F,y,ra,rb,rz,rfl,s0,h1,h2,h3,k⟩:=h;obtain⟨u,rfl,ru⟩:=a1G rv;unfold a37 at h3;split at h3
 ·rename_i z;split at h3
  ·rename_i ps e;obtain⟨ys,e2,h3⟩:=bind_some h3;split at h3
   ·rename_i c;cases h3;cases h1;obtain⟨t,rfl⟩:=rx;obtain⟨a,xs,rfl,hq,r⟩:=K6 s0 h2 e;cases ru;rcases hq with hq|hq
    ·obtain⟨its,rv,pl,hz⟩:=I.list hq;exact join_list pl.isList (by simpa using a0S e2 r rv) c λt' k'=>⟨.str _,H,I.tok _,⟨_,rfl⟩,k _ F H (o9.here s0 rfl)⟩
    ·obtain⟨its,rv,pl,hz⟩:=I.tuple hq;exact join_tuple pl (by simpa using a0S e2 r rv) c λt' k'=>⟨.str _,H,I.tok _,⟨_,rfl⟩,k _ F H (o9.here s0 rfl)⟩
   ·cases h3
  ·cases h3
 ·cases h3
theorem a4x{o e:AG}{m n:M}{apos cpos:Pos}(ho:EE X o m)(ha:EE X e n)
 (hbase:attributeBase o "join" X.env (eval o X.env)=eval o X.env:=by rfl)
 (hfew:((backTo cpos (AL [e] X.env)).all (λx=> !x.1)&&(backToKw cpos (keywordEach [] X.env)).all (λx=>x.1.isSome)
  && decide ([e].length+([]:List Keyword).length+(if([]:List Keyword).isEmpty then 0 else 1)<30))=true:=by rfl)
 (hline:(apos.endLine==cpos.line)=true:=by rfl) (hs:AL [e] X.env=(false,eval e X.env)::AL [] X.env:=by rfl) (hplain:(backTo cpos (AL [] X.env)).any (·.1)=false:=by rfl):
 EE X (.Call (.Attribute o "join" apos) [e] [] cpos) (m2 a37 m n):=
 m6 (b46 PySem.F.plainAttrs_str PySem.F.slot_str_join PySem.F.type_str_join b62 ho (u7 ha M6 hs) hbase hfew hline hs hplain) λσ H Q h0=>k4 h0 λF ρ r he hm k=>by
  ext i
  unfold a37 at hm;split at hm
  ·cases o1.rep;rfl
  ·cases hm
end
def cut{α:Type}(xs:List α)(lo hi:Option Int):List α:=(xs.drop (HT.sIx xs.length 0 lo)).take (HT.sIx xs.length xs.length hi - HT.sIx xs.length 0 lo)
theorem a2P(n d:Nat)(hd:d<=n)(o:Option Int):(match o with|none=>(d:Int)|some i=>max 0 (min (if i<0 then i+n else i) n))=((HT.sIx n d o:Nat):Int):=by
 cases o with
 |none=>rfl
 |some i=>unfold HT.sIx;dsimp only;split<;>lia
theorem b6o(n:Nat)(lo hi:Option Int):Builtin.Str.strSliceIndices lo hi 1 n=(AZ (HT.sIx n n hi - HT.sIx n 0 lo)).map (HT.sIx n 0 lo+·):=by
 have h1:=a2P n 0 (Nat.zero_le _) lo;have h2:=a2P n n (AN _) hi;have key:∀a b:Int,a=((HT.sIx n 0 lo:Nat):Int)->b=((HT.sIx n n hi:Nat):Int)->sliceRange a b 1=(AZ (HT.sIx n n hi - HT.sIx n 0 lo)).map (HT.sIx n 0 lo+·):=λa b ha hb=>by rw [ha,hb,sliceRange_one]
 refine key _ _ ?_ ?_
 ·cases lo with
  |none=>rfl
  |some i=>exact h1
 ·cases hi with
  |none=>rfl
  |some i=>exact h2
theorem b7y(z:Str)(lo hi:Option Int):Txt.slice z lo hi=⟨(cut z.cps.toList lo hi).toArray⟩:=by
 have hz:z.cps.toList.length=z.length:=by simp [Str.length]
 unfold Txt.slice;rw [b6o,pick_run z.cps];split
 ·rename_i c;have c':HT.sIx z.length z.length hi - HT.sIx z.length 0 lo=z.length:=by
   simpa using c
  have hle:=HT.sIx_le z.length z.length (AN _) hi;unfold cut;rw [hz,c'];have:HT.sIx z.length 0 lo=0\/z.length=0:=by lia
  cases z with
  |mk a=>
   congr 1
   rcases this with h|h
   ·rw [h,List.drop_zero];have:a.toList.length=(⟨a⟩:Str).length:=hz;rw [<-this,List.take_length]
   ·have h0:a.toList=[]:=List.length_eq_zero_iff.mp (by rw [<-h];exact hz)
    have:a= #[]:=by
     apply Array.ext';rw [h0]
    subst this;simp
 ·unfold cut;rw [hz]
theorem a6T(items:Array AA)(lo hi:Option Int):slicePick items lo hi ζ=(cut items.toList lo hi).toArray:=by
 have hz:items.toList.length=items.size:=by simp
 unfold slicePick cut;rw [hz];have key:∀a b:Int,a=((HT.sIx items.size 0 lo:Nat):Int)->b=((HT.sIx items.size items.size hi:Nat):Int)->(List.filterMap (items[·]?) (sliceRange a b 1)).toArray=((items.toList.drop (HT.sIx items.size 0 lo)).take (HT.sIx items.size items.size hi - HT.sIx items.size 0 lo)).toArray:=λa b ha hb=>by rw [ha,hb,sliceRange_one,pick_run]
 refine key _ _ ?_ ?_
 ·cases lo with
  |none=>rfl
  |some i=>exact a2P items.size 0 (Nat.zero_le _) (ξ i)
 ·cases hi with
  |none=>rfl
  |some i=>exact a2P items.size items.size (AN _) (ξ i)
theorem h9.cut{K:AE}{H:Hp}{ps:List PV}{xs:List V}(r:h9 K H ps xs)(lo hi:Option Int):h9 K H (PU.cut ps lo hi) (PU.cut xs lo hi):=by
 unfold PU.cut;rw [r.length];exact(r.drop _).take _
theorem b1p{α:Type}(xs:List α)(lo hi:Option Int):(cut xs lo hi).length<=xs.length:=by
 unfold cut;rw [List.length_take,List.length_drop];lia
theorem a10{prog:AJ}{w:AI}{A:AK}{E:AA->AC->Prop}{s:AC}{t sl:AB}{items:Array AA}{vl vu:AA}{lo hi:Option Int}{Q:AA->AC->Prop}(ht:IsTup s.heap t items)(hs:s.heap.IsSliceOf sl vl vu .none)(pl:IsPart vl lo)(pu:IsPart vu hi)
 (hw:HT.sIx items.size 0 lo=0/\HT.sIx items.size items.size hi=items.size)
 (h:Q (.ref t) s):AF (model prog w) A (getItem (.ref t) (.ref sl)) Q E s:=by
 obtain⟨os,hos,hcs,hds⟩:=id hs
 have hTs:s.TypeIs (.ref sl) "slice":=⟨os,hos,hcs⟩
 unfold getItem
 try with_reducible refine wpAny_holding ?_
 first|refine AD (AH ?_)|skip
 refine AD (wpAny_sequenceKey ht.typeIs (by decide) ?_)
 refine AD (wpAny_callSpecial?_slot (name:=Aj "__getitem__") ht.typeIs PyProof.Rows.slot_tuple_getitem
  (wpAny_call_entry PyProof.Rows.slot_tuple_getitem ht.typeIs entry_tuple_getitem ?_ (args_tuple_getitem _ _)))
 show AF _ _ (Builtin.Tuple.tupleItemsOf (.ref t)>>=_) _ _ s
 refine AD (tupleItemsOf_ ht ?_)
 refine AD (wpAny_typeOf hTs ?_)
 rw [if_pos (by decide)]
 refine AD (HT.sliceApplied_gen hs pl pu ?_)
 have hno:(((HT.sIx items.size 0 lo:Nat):Int)==0 &&(1:Int)==1 &&(HT.sIx items.size items.size hi - HT.sIx items.size 0 lo)==items.size)=true:=by
  rw [hw.1,hw.2];simp
 show AF _ _ (if(((HT.sIx items.size 0 lo:Nat):Int)==0 &&(1:Int)==1 &&(HT.sIx items.size items.size hi - HT.sIx items.size 0 lo)==items.size)=true then _ else _) _ _ s
 rw [if_pos hno]
 refine AD (AD (m:=typeOf (.ref t)) (wpAny_typeOf ht.typeIs (AH ?_)))
 rw [if_pos (by decide)]
 wp_walk
 exact⟨_,rfl,AH h⟩
theorem b7x{X:Cx}:SlR X (λx lo hi H Q=>∃a xs,x= .ref a/\SqT X.K H a xs/\(HT.sIx xs.length 0 lo=0/\HT.sIx xs.length xs.length hi=xs.length)/\Q (.ref a) H):=by
 intro pins s σ H x v vl vu lo hi sl Q I rx hs pl pu h;obtain⟨a,xs,rfl,hx,hw,q⟩:=h;cases rx;obtain⟨its,r,ht,hz⟩:=I.tuple hx;have hlen:its.toArray.size=xs.length:=by rw [Ab];exact r.length.symm
 refine⟨"tuple",_,PyProof.Rows.slot_tuple_getitem.lookup,ht.typeIs, ?_⟩;exact a10 ht hs pl pu (by rw [hlen];exact hw) ⟨.ref a,H,I,rfl,q⟩
theorem b2t{α:Type}{xs:List α}{lo hi:Option Int}(h:HT.sIx xs.length 0 lo=0/\HT.sIx xs.length xs.length hi=xs.length):cut xs lo hi=xs:=by
 unfold cut;rw [h.1,h.2,List.drop_zero,Nat.sub_zero,List.take_length]
section
variable {X:Cx}
theorem b0D{h:Heap}{sl:AB}{vl vu:AA}{lo hi:Option Int}(hs:h.IsSliceOf sl vl vu .none)(pl:IsPart vl lo)(pu:IsPart vu hi):∃l u:Option (Int×Tok),h.IsSlice sl l u ζ/\l.map (·.1)=lo/\u.map (·.1)=hi:=by
 obtain⟨o,ho,hc,hd⟩:=hs;cases pl with
 |none=>
  cases pu with
  |none=>exact⟨ζ,ζ,⟨o,ho,hc,hd⟩,rfl,rfl⟩
  |int j t=>exact⟨ζ,ξ (j,t),⟨o,ho,hc,hd⟩,rfl,rfl⟩
 |int i t=>
  cases pu with
  |none=>exact⟨ξ (i,t),ζ,⟨o,ho,hc,hd⟩,rfl,rfl⟩
  |int j t'=>exact⟨ξ (i,t),ξ (j,t'),⟨o,ho,hc,hd⟩,rfl,rfl⟩
theorem b9V:SlR X (λx lo hi H Q=>∃z,x= .str z/\z.length<=AM/\Q (.str (Txt.slice z lo hi)) H):=by
 intro pins s σ H x v vl vu lo hi sl Q I rx hs pl pu h;obtain⟨z,rfl,hz,q⟩:=h;obtain⟨t,rfl⟩:=rx;obtain⟨l,u,hs',e1,e2⟩:=b0D hs pl pu;subst e1 e2;exact⟨"str",_,PySem.F.slot_str_getitem.lookup,typeIs_str _ _ _,wpAny_getItem_str_slice hs' rfl (post_val_or_str ⟨Nat.le_trans (Txt.slice_le z _ _) hz,λt' k=>⟨.str _,H,I.tok _,⟨_,rfl⟩,q⟩⟩)⟩
theorem b9U:SlR X (λx lo hi H Q=>∃a xs,x= .ref a/\Z0 X.K H a xs/\∀p,H p=ζ->Q (.ref p) (i7 H p (.lst (PU.cut xs lo hi)))):=by
 intro pins s σ H x v vl vu lo hi sl Q I rx hs pl pu h;obtain⟨a,xs,rfl,hx,q⟩:=h;cases rx;obtain⟨its,r,pl',hz⟩:=I.list hx;have hlen:=r.length;refine⟨"list",_,list_getitem_lookup,pl'.isList.typeIs, ?_⟩;refine wpAny_getItem_list_slice pl'.isList hs pl pu .none (by simp) ?_ (by rw [Ab];lia)
 rw [a6T];refine⟨.ref s.heap.objs.size,_,I.laid (t':=s.toks) (o:= .lst (PU.cut xs lo hi)) (λb ob q=>AR _ q) (AN _) ?_,rfl,q _ (I.hok.fresh (AN _))⟩;refine⟨Nat.le_trans (b1p xs lo hi) hz,PU.cut its lo hi,0, ?_,Aa _ rfl⟩;unfold PU.cut;rw [hlen];exact(r.drop _).take _
def gSl(x:d7)(lo hi:Option Int):Option d7:=match x with
 | .v (.str z)=>if z.length<=AM then ξ (.v (.str ⟨(cut z.cps.toList lo hi).toArray⟩)) else ζ
 | .v (.tuple ps)=>ξ (.v (.tuple (cut ps lo hi)))
 | .v (.list ps)=>ξ (.own (cut ps lo hi))
 | .ow (.lst ps)=>ξ (.own (cut ps lo hi))
 | .bo (.lst ps)=>ξ (.own (cut ps lo hi))
 |_=>ζ
def rSl(K:AE):V->Option Int->Option Int->Hp->VK->Prop:=λx lo hi H Q=>∃F rx rz,g8 F H/\K8 K F H x rx/\gSl rx lo hi=ξ rz/\∀v F' H',o9 K F H F' H' v rz->Q v H'
theorem slm:SlR X (rSl X.K):=by
 intro pins s σ H x v vl vu lo hi sl Q I rx hs pl pu h;obtain⟨F,ra,rz,s0,h1,h2,k⟩:=h;have lst:∀ps,PyData.items? ra.rd=ξ ps->(∃a xs,x= .ref a/\Z0 X.K H a xs/\h9 X.K F ps xs)->rz= .own (cut ps lo hi)->∃T id,typeLookup (.type T) "__getitem__"=pure (ξ (.builtin id))/\s.TypeIs v T/\AF (model X.prog X.w) X.A (getItem v (.ref sl)) (EP X pins σ Q) X.xe s:=λps e ⟨a,xs,e1,hq,rl⟩ e2=>by
  subst e2;exact b9U pins s σ H x v vl vu lo hi sl Q I rx hs pl pu ⟨a,xs,e1,hq,λp hp=>k _ _ _ (o9.lst s0 hp (rl.cut lo hi))⟩
 unfold gSl at h2;split at h2
 ·rename_i z;split at h2
  ·rename_i c;cases h2;cases h1;refine b9V pins s σ H _ v vl vu lo hi sl Q I rx hs pl pu ⟨z,rfl,c, ?_⟩;rw [b7y];exact k _ F H (o9.here s0 rfl)
  ·cases h2
 ·rename_i ps;cases h2
  by_cases c:HT.sIx ps.length 0 lo=0/\HT.sIx ps.length ps.length hi=ps.length
  ·obtain⟨a,xs,rfl,hq,rl⟩:=h1;have hlen:=rl.length;refine b7x pins s σ H _ v vl vu lo hi sl Q I rx hs pl pu ⟨a,xs,rfl,r9 s0 hq.sq,by rw [hlen];exact c, ?_⟩
   rw [b2t c] at k;exact k _ F H (o9.here s0 ⟨a,xs,rfl,hq,rl⟩)
  ·obtain⟨a,xs,rfl,hq,rl⟩:=h1;have hlen:=rl.length;refine b9W pins s σ H _ v vl vu lo hi sl Q I rx hs pl pu ⟨a,xs,rfl,r9 s0 hq.sq,by rw [hlen];exact c,λp hp=> ?_⟩
   exact k _ _ _ (o9.tup s0 hp (rl.cut lo hi))
 ·rename_i ps;cases h2;obtain⟨a,xs,e1,hq,rl⟩:=h1;exact lst ps rfl ⟨a,xs,e1,B2 s0 hq,rl⟩ rfl
 ·rename_i ps;cases h2;obtain⟨a,xs,e1,_,hq,rl⟩:=h1;exact lst ps rfl ⟨a,xs,e1,Z0.of hq,rl⟩ rfl
 ·rename_i ps;cases h2;obtain⟨a,xs,e1,_,hq,rl⟩:=h1;exact lst ps rfl ⟨a,xs,e1,Z0.of hq,rl⟩ rfl
 ·cases h2
abbrev MO:=b9->Option (Option Int)
def tMO(K:AE)(m:MO):TO:=λσ H Q=>∃F ρ o,C9 K F H σ ρ/\m ρ=ξ o/\∀F' H',R5 F H F' H'->Q o H'
abbrev EO(X:Cx)(e:Option AG)(m:MO):Prop:=PO X e (tMO X.K m)
def b1F:d7->Option (Option Int)
 | .v (.int i)=>ξ (ξ i)
 |_=>ζ
def a8l(m:M):MO:=λρ=>(m ρ).bind b1F
theorem b1u{e:AG}{m:M}(h:EE X e m):EO X (ξ e) (a8l m):=λpins s σ H Q I ⟨F,ρ,o,en,e1,k⟩=>by
 obtain⟨r,e2,e3⟩:=bind_some e1;refine b7i h pins s σ H Q I ⟨F,ρ,r,en,e2,λv F1 H1 o1=> ?_⟩;unfold b1F at e3;split at e3
 ·cases e3;exact⟨_,o1.rep,k F1 H1 o1.x⟩
 ·cases e3
def b0R(m:M)(lo hi:MO):M:=λρ=>(m ρ).bind λr=>(lo ρ).bind λl=>(hi ρ).bind λh=>gSl r l h
theorem b33{e:AG}{lo hi:Option AG}{m:M}{ml mh:MO}{pos p2:Pos}(he:EE X e m)(hl:EO X lo ml)(hh:EO X hi mh):EE X (.Subscript e (.Slice lo hi ζ p2) pos) (b0R m ml mh):=
 m6 (b5c slm he hl hh) λσ H Q h0=>k4 h0 λF ρ r en e k=>by
  obtain⟨ra,e1,e⟩:=bind_some e;obtain⟨l,e2,e⟩:=bind_some e;obtain⟨h,e3,e⟩:=bind_some e;exact⟨F,ρ,ra,en,e1,λv F1 H1 o1=>⟨F1,ρ,l,en.ext o1.x,e2,λF2 H2 x2=>⟨F2,ρ,h,(en.ext o1.x).ext x2,e3,λF3 H3 x3=>⟨F3,ra,r,x3.fh,(o1.rep.ext x2).ext x3,e,λz F4 H4 o4=>k z F4 H4 (o9.trans ((o1.x.trans x2).trans x3) o4)⟩⟩⟩⟩
end
def Its(x:Str):It:=⟨λi _=>i<x.cps.size,λi H v H'=>H'=H/\∃c,x.cps[i]?=ξ c/\v= .str ⟨#[c]⟩,λi _=>x.cps.size<=i⟩
section
variable {X:Cx}{tg:AG}
structure b3D(K:AE)(F:Hp)(J:It)(ps:List PV):Prop where
 st:∀i H',g8 F H'->ps.length<=i->J.stop i H'
 go:∀i p H',g8 F H'->ps[i]?=ξ p->J.go i H'
 yd:∀i p x H' H'',g8 F H'->ps[i]?=ξ p->J.yld i H' x H''->H''=H'/\A5 K F p x
def Y1:List PV->Option (List Bool)
 |[]=>ξ []
 | .bool b::r=>(Y1 r).map (b::·)
 |_=>ζ
theorem a34{K:AE}{H:Hp}:∀{ps:List PV} {bs:List Bool} {xs:List V} {us:List AA},Y1 ps=ξ bs->h9 K H ps xs->j4 xs us->us=bs.map Value.bool
 |[],_,_,_,h,r,v=>by cases h;cases r;cases v;rfl
 |p::ps,bs,_,_,h,⟨x,r,e,hp,t⟩,v=>by
  subst e;cases p with
  |bool z=>
   simp only [Y1] at h;cases q:Y1 ps with
   |none=>rw [q] at h;cases h
   |some zs=>
    rw [q] at h;cases h;cases hp;cases v with
    |cons a b=>rw [a34 q t b,show _=_ from a];rfl
  |_=>simp [Y1] at h
def b8X(x:d7):Option d7:=match x.rd with
 | .list ps=>(Y1 ps).map λbs=> .v (.bool (bs.all id))
 |_=>ζ
theorem b3b(bs:List Bool):(AZ bs.length).all (λi=>bs.getD i false)=bs.all id:=by
 rw [Bool.eq_iff_iff,List.all_eq_true,List.all_eq_true];constructor
 ·intro h b hb;obtain⟨i,hi,rfl⟩:=List.getElem_of_mem hb;have:=h i (List.mem_range.mpr hi)
  simpa [List.getD,hi] using this
 ·intro h i hi;have hi:=List.mem_range.mp hi;have:=h bs[i] (List.getElem_mem _)
  simpa [List.getD,hi] using this
theorem b3c(bs:List Bool):(AZ bs.length).any (λi=>bs.getD i false)=bs.any id:=by
 rw [Bool.eq_iff_iff,List.any_eq_true,List.any_eq_true];constructor
 ·rintro⟨i,hi,h⟩;have hi:=List.mem_range.mp hi;exact⟨bs[i],List.getElem_mem _,by simpa [List.getD,hi] using h⟩
 ·rintro⟨b,hb,h⟩;obtain⟨i,hi,rfl⟩:=List.getElem_of_mem hb;exact⟨i,List.mem_range.mpr hi,by simpa [List.getD,hi] using h⟩
theorem b0j{pins:List (AB×Obj)}{σ:L2.St}{H:Hp}{s:AC}{a:AB}{xs:List V}{ps:List PV}{bs:List Bool}{F:Hp}(hc:X.calm=true)(I:e9 X pins σ H s)(hq:Z0 X.K H a xs)(r:h9 X.K F ps xs)(e:Y1 ps=ξ bs){E:AA->AC->Prop}{Q:AA->AC->Prop}(c:Bool)
 (h:∀h' tk,(∀b o,b∉[s.heap.objs.size]->(s.heap.push {cls:= .type "list_iterator",data:= .fields #[.ref a,.int 0 0]}).get? b=ξ o->h'.get? b=ξ o)->Q (.bool (if c then bs.all id else bs.any id)) {s with heap:=h',toks:=tk}):
 AF (model X.prog X.w) X.A.in1 (pyIter (.ref a)) (λit s₂=>∃I fp wr n P St tr,it= .ref I/\Walks X.prog X.w X.A.in1 I fp wr n P St/\St 0 s₂.heap/\TruthOf X.prog X.w X.A.in1 P tr/\
  ∀h' tk,(∀b o,b∉wr->s₂.heap.get? b=ξ o->h'.get? b=ξ o)->Q (.bool (if c then(AZ n).all tr else(AZ n).any tr)) {s₂ with heap:=h',toks:=tk}) E s:=by
 obtain⟨its,rv,pl,hz⟩:=I.list hq
 have eb:=a34 e r rv
 have hlt:a<s.heap.objs.size:=by obtain⟨_,e,_⟩:=pl.isList;exact AT e
 refine wpAny_pyIter_list pl.isList ?_
 refine⟨s.heap.objs.size,[s.heap.objs.size,a],[s.heap.objs.size],its.toArray.size,_,_,λi=>bs.getD i false,rfl,Walks.list (by show X.A.handled=ζ;exact I.ok.hd hc) s.heap.objs.size a (AW hlt) its.toArray,⟨⟨_,Aa _ rfl,rfl,rfl⟩,pl.isList.push _⟩,λi v s' Q E hv hQ=> ?_,λh' tk hk=> ?_⟩
 ·rw [eb] at hv
  have hv:(bs.map Value.bool)[i]?=ξ v:=by simpa using hv
  rw [Ag] at hv
  cases q:bs[i]? with
  |none=>rw [q] at hv;cases hv
  |some z=>
   rw [q] at hv;cases hv
   have:bs.getD i false=z:=by simp [List.getD,q]
   have hQ:Q (bs.getD i false) s':=hQ
   rw [this] at hQ
   exact AH hQ
 ·have hn:its.toArray.size=bs.length:=by rw [eb];simp
  rw [hn,b3b,b3c]
  exact h h' tk hk
theorem b8G(hc:X.calm=true):M8 X (.builtin "all") (rC1 X.K b8X):=by
 ext g
 obtain⟨u,rfl,ru⟩:=a1G rv;unfold b8X at h2;split at h2
 ·rename_i ps ep;cases e:Y1 ps with
  |none=>rw [e] at h2;cases h2
  |some bs=>
   rw [e] at h2;cases h2;obtain⟨a,xs,rfl,hq,r⟩:=K6 (ps:=ps) s0 h1 (by rw [ep];rfl)
   have hq:Z0 X.K H a xs:=by
    have rr:=h1.rd s0;rw [ep] at rr;obtain⟨a',xs',e1,hq',rl⟩:=rr;cases e1;rcases hq with hq|hq
    ·exact hq
    ·exact(a1r I hq' hq).elim
   cases ru;exact call_all_walk (b0j hc I hq r e true λh' tk hk=>⟨.bl _,H,I.turned (it:=s.heap.objs.size) (λb o hb e=>hk b o (by simpa using hb) (AR _ e)) (I.hok.fresh (AN _)) (Nat.ne_of_gt I.lt) (.inr I.sz) (λx c e=>by obtain⟨v,z⟩:=I.cell x c e;exact AW z.lt) (λp hp=>AW (AT (I.pin p hp).1)),rfl,k _ F H (o9.here s0 rfl)⟩)
 ·cases h2
end
def a6H:d7->d7->Option d7
 | .v (.int i),.v (.int j)=>ξ (.v (.bool (decide (i<j))))
 | .v (.str i),.v (.str j)=>ξ (.v (.bool (decide (i.cps.toList<j.cps.toList))))
 |_,_=>ζ
def b6K:d7->d7->Option d7
 | .v (.int i),.v (.int j)=>ξ (.v (.bool (decide (i<=j))))
 | .v (.str i),.v (.str j)=>ξ (.v (.bool (!decide (j.cps.toList<i.cps.toList))))
 |_,_=>ζ
section
variable {X:Cx}
theorem a23:OpM X (compareOp .Lt) a6H:=by
 ext c
 unfold a6H at h3;split at h3
 ·cases h3;cases h1;cases h2;exact c03 pins s σ H _ _ v u Q I rx ry ⟨_,_,rfl,rfl,k _ F H (o9.here s0 rfl)⟩
 ·cases h3;cases h1;cases h2;exact b27 pins s σ H _ _ v u Q I rx ry ⟨_,_,rfl,rfl,k _ F H (o9.here s0 rfl)⟩
 ·cases h3
theorem b7e:OpM X (compareOp .LtE) b6K:=by
 ext c
 unfold b6K at h3;split at h3
 ·cases h3;cases h1;cases h2;exact c02 pins s σ H _ _ v u Q I rx ry ⟨_,_,rfl,rfl,k _ F H (o9.here s0 rfl)⟩
 ·cases h3;cases h1;cases h2;obtain⟨t,rfl⟩:=rx;obtain⟨t',rfl⟩:=ry;exact PySem.P.le_str ⟨.bl _,H,I,rfl,k _ F H (o9.here s0 rfl)⟩
 ·cases h3
def b8Y(neg:Bool)(x y:d7):Option d7:=match x,y with
 | .v (.str i),.v (.str j)=>ξ (.v (.bool (if neg then !(!(Builtin.Str.occurrences j i 0 j.length 1).isEmpty) else !(Builtin.Str.occurrences j i 0 j.length 1).isEmpty)))
 |x,y=>gIn neg x y
theorem b7d(hu:X.A.units+64<cLine):OpM X (compareOp .In) (b8Y false):=by
 ext c
 unfold b8Y at h3;split at h3
 ·cases h3;cases h1;cases h2;exact b26 pins s σ H _ _ v u Q I rx ry ⟨_,_,rfl,rfl,k _ F H (o9.here s0 rfl)⟩
 ·exact b9u hu pins s σ H x y v u Q I rx ry ⟨F,_,_,rz,s0,h1,h2,h3,k⟩
def a9m:d7->d7->Option d7
 | .v (.str z),.v (.int k)=>if okC (λk n=>0<=k/\k<=1000000/\n*k<=16777216) k z.length=true then ξ (.v (.str ⟨(AO k.toNat z.cps.toList).flatten.toArray⟩)) else ζ
 | .ow (.lst ps),.v (.int k)=>if okC (λk n=>0<=k/\k<=1000000/\n*k<=16777216) k ps.length=true then ξ (.own (AO k.toNat ps).flatten) else ζ
 |x,y=>b8Z x y
theorem a5h(xs:List Nat):∀(m:Nat) (acc:Array Nat),(AO m xs.toArray).foldl (· ++·) acc=acc++(AO m xs).flatten.toArray
 |0,acc=>by simp
 |m+1,acc=>by
  rw [Al,List.foldl_cons,a5h xs m,Al,List.flatten_cons];apply Array.ext';simp
theorem b7H{z:Str}{k:Int}(h0:0<=k):Txt.mul z k=⟨(AO k.toNat z.cps.toList).flatten.toArray⟩:=by
 unfold Txt.mul
 by_cases h1:k<1
 ·have:k=0:=by lia
  subst this
  rfl
 ·rw [if_neg h1]
  by_cases h2:(k==1||z.length==0)=true
  ·rw [if_pos h2];rw [Bool.or_eq_true] at h2;cases z with
   |mk a=>
    rcases h2 with h2|h2
    ·have:k=1:=by simpa using h2
     subst this;show(⟨a⟩:Str)=_
     congr 1
     apply Array.ext';simp
    ·have ha:a.size=0:=by simpa [Str.length] using h2
     have:a= #[]:=Array.eq_empty_of_size_eq_zero ha;subst this
     congr 1
     apply Array.ext';simp
  ·rw [if_neg h2];have e:z.cps=z.cps.toList.toArray:=by simp
   congr 1
   rw [e,a5h];simp
theorem a53{K:AE}{H:Hp}{ps:List PV}{xs:List V}(r:h9 K H ps xs):∀m:Nat,h9 K H (AO m ps).flatten (AO m xs).flatten
 |0=>rfl
 |m+1=>by
  rw [Al,Al,List.flatten_cons,List.flatten_cons];exact r.append (a53 r m)
theorem b41:OpM X (binaryOp .Mult) a9m:=by
 ext c
 unfold a9m at h3;split at h3
 ·rename_i z n;split at h3
  ·rename_i c;obtain⟨c0,c1,c2⟩:=U9.mp c;cases h3;cases h1;cases h2;obtain⟨t,rfl⟩:=rx;obtain⟨t',rfl⟩:=ry;have hz:z.length*n.toNat<=AM:=by
    rw [sizeLine_eq];have:((z.length*n.toNat:Nat):Int)=z.length*n:=by rw [Int.natCast_mul,Int.toNat_of_nonneg c0]
    lia
   refine SB.mul ⟨?_,λh4 h5 h6=> ?_,λh4 h5=> ?_⟩ λt' k'=>⟨.str _,H,I.tok _,⟨_,rfl⟩, ?_⟩
   ·have e1:¬n< -(2 ^ 63:Int):=by lia
    have e2:¬n>=2 ^ 63:=by lia
    simp [e1,e2]
    lia
   ·have h7:(2 ^ 63 - 1:Int)/ n<z.length:=h6;have h8:(2 ^ 63 - 1:Int)<(z.length:Int)*n:=by
     have:=Int.lt_mul_of_ediv_lt (a:=(2 ^ 63 - 1:Int)) (b:=(z.length:Int)) (c:=n) (by lia) h7
     exact this
    lia
   ·unfold Builtin.Str.tooLong;rw [decide_eq_false (by lia)]
   ·rw [b7H c0];exact k _ F H (o9.here s0 rfl)
  ·cases h3
 ·rename_i ps n;split at h3
  ·rename_i c;obtain⟨c0,c1,c2⟩:=U9.mp c;cases h3;cases h2;obtain⟨a,xs,rfl,fa,hq,rl⟩:=h1;have hlen:=rl.length;have hz:xs.length*n.toNat<=AM:=by
    rw [sizeLine_eq,hlen];have:((ps.length*n.toNat:Nat):Int)=ps.length*n:=by rw [Int.natCast_mul,Int.toNat_of_nonneg c0]
    lia
   exact b9s pins s σ H _ _ v u Q I rx ry ⟨a,n,xs,rfl,rfl,hq,by lia,by lia,hz,λp hp=>k _ _ _ (o9.lst s0 hp (a53 rl _))⟩
  ·cases h3
 ·exact b40 pins s σ H x y v u Q I rx ry ⟨F,_,_,rz,s0,h1,h2,h3,k⟩
end
theorem a3H:fillsNumberSlot (.type "tuple") "mul"=pure false:=
 PySem.fillsNumberSlot_seq (id:="tuple.__mul__") (r:=ξ (.builtin "tuple.__rmul__")) PySem.F.slot_tuple_mul.lookup (by decide+kernel) PySem.F.slot_tuple_rmul.lookup (by decide+kernel)
theorem a8y:seqRepeat? (.type "tuple")=pure (ξ (.builtin "tuple.__mul__")):=by
 unfold seqRepeat?;rw [PySem.seqSlot_of (T:="tuple") (name:="__mul__") (id:="tuple.__mul__") PySem.F.slot_tuple_mul.lookup (by decide+kernel),PySem.seqSlot_of (T:="tuple") (name:="__rmul__") (id:="tuple.__rmul__") PySem.F.slot_tuple_rmul.lookup (by decide+kernel)]
 rfl
theorem a5o(a:Int)(t:Tok)(l:AB)(items:Array AA)(n:Nat)(dd:Option AB)(sl:Array (Option AA)):Meets (Builtin.«int.__rmul__» ⟨[.int a t,.ref l],[]⟩) (λ_ R s=>s.heap.get? l=ξ {cls:= .type "tuple",dict:=dd,data:= .seq items n,slots:=sl}/\R (.ok (.ret Value.notImplemented)) s):=
 .of_wp λprog w A R s h=>by obtain⟨hp,g,d,tk,os⟩:=s;obtain⟨hl,h⟩:=h;wp_walk;exact⟨_,rfl,h⟩
theorem a6r(l:AB)(items:Array AA)(n:Nat)(dd:Option AB)(sl:Array (Option AA))(x:Int)(u:Tok)(hc0:(decide (x< -(2 ^ 63))||decide (x>=2 ^ 63))=false)(hc1:(items.isEmpty||x==1)=false)(hc2:(decide (x<=0)||items.isEmpty)=false)(hc3:¬(items.size:Int)*x>(2 ^ 63 - 1)/ 8)(hc4:Builtin.Tuple.tupleTooMany ((items.size:Int)*x)=false)(hz:((AO x.toNat items).foldl (· ++·) #[]).size<=AM):
 Meets (Builtin.«tuple.__mul__» ⟨[.ref l,.int x u],[]⟩) (λ_ R s=>s.heap.get? l=ξ {cls:= .type "tuple",dict:=dd,data:= .seq items n,slots:=sl}/\R (.ok (.ret (Value.ref s.heap.objs.size))) {s with heap:=s.heap.push {cls:=Value.type "tuple",data:=Data.seq ((AO x.toNat items).foldl (· ++·) #[])},toks:=s.toks}):=
 .of_wp λprog w A R s h=>by
  obtain⟨hp,g,d,tk,os⟩:=s;obtain⟨hl,h⟩:=h
  wp_walk
  have ht:IsTup hp l items:=⟨_,hl,rfl,n,rfl⟩;rw [if_neg (by rw [hc0];exact Ac)]
  wp_walk
  rw [if_neg hc3]
  wp_walk
  exact⟨_,rfl,h⟩
section
variable {X:Cx}
theorem b7c:OpR X (binaryOp .Mult) (λx y H Q=>∃a xs n,x= .ref a/\y= .int n/\SqT X.K H a xs/\xs≠[]/\2<=n/\n<=1000000/\xs.length*n.toNat<=AM/\∀p,H p=ζ->Q (.ref p) (i7 H p (.tup (AO n.toNat xs).flatten))):=by
 intro pins s σ H x y v u Q I rx ry h;obtain⟨a,xs,n,rfl,rfl,hx,hne,h1,h2,hz,q⟩:=h;cases rx;obtain⟨t,rfl⟩:=ry;obtain⟨its,r,ht,_⟩:=I.tuple hx;have hlen:its.toArray.size=xs.length:=by rw [Ab];exact r.length.symm
 have hie:its.toArray.isEmpty=false:=by
  cases its with
  |nil=>exact absurd (r.nil_iff.mp rfl) hne
  |cons _ _=>rfl
 have hnew:List.foldl (λx1 x2=>x1++x2) #[] (AO n.toNat its.toArray)=(AO n.toNat its).flatten.toArray:=by
  have:=a3r its n.toNat [];rw [As] at this;exact this
 have hc:((xs.length*n.toNat:Nat):Int)=(xs.length:Int)*n:=by rw [Int.natCast_mul,Int.toNat_of_nonneg (by lia)]
 have hsl:=sizeLine_eq;obtain⟨⟨cls,dd,data,sl⟩,ho,hc',m,hd⟩:=id ht;simp only at hc' hd;subst hc' hd;have hzz:(List.foldl (λx1 x2=>x1++x2) #[] (AO n.toNat its.toArray)).size<=AM:=by
  rw [hnew,Ab,a8h,Nat.mul_comm,<-r.length];exact hz
 refine wpAny_binaryOp_repeat_ref (T:="tuple") (U:="int") (by decide) ht.typeIs (λs'=>typeIs_int s' n t) a3H F.fills_int_mul F.slot_int_rmul a8y F.slot_int_index.lookup
  (call_meets F.slot_int_rmul (typeIs_int s n t) F.entry_int_rmul (F.args_int_rmul_2 _ _) (a5o n t a its.toArray m dd sl)
   ⟨ho,rfl,ht.typeIs,call_meets PySem.F.slot_tuple_mul ht.typeIs PySem.F.entry_tuple_mul (PySem.F.args_tuple_mul_2 _ _) (a6r a its.toArray m dd sl n t ?_ ?_ ?_ ?_ ?_ hzz) ⟨ho, ?_⟩⟩)
 ·have e1:¬n< -(2 ^ 63:Int):=by lia
  have e2:¬n>=2 ^ 63:=by lia
  simp [e1,e2]
  lia
 ·rw [hie];have:n≠1:=by lia
  simp [this]
 ·rw [hie];have:¬n<=0:=by lia
  simp [this]
 ·rw [hlen,<-hc]
  lia
 ·rw [hlen,<-hc];unfold Builtin.Tuple.tupleTooMany;rw [decide_eq_false (by lia)]
 ·rw [hnew];refine⟨.ref s.heap.objs.size,_,I.laid (t':=s.toks) (o:= .tup (AO n.toNat xs).flatten) (λb ob q=>AR _ q) (AN _) ?_,rfl,q _ (I.hok.fresh (AN _))⟩;exact⟨by rw [a8h,Nat.mul_comm];exact hz,_,r.rep n.toNat,IsTup.new _ _⟩
def K7:d7->d7->Option d7
 | .v (.tuple ps),.v (.int k)=>if okC (λk n=>2<=k/\k<=1000000/\1<=n/\n*k<=16777216) k ps.length=true then ξ (.v (.tuple (AO k.toNat ps).flatten)) else ζ
 |x,y=>a9m x y
theorem A3:OpM X (binaryOp .Mult) K7:=by
 ext c
 unfold K7 at h3;split at h3
 ·rename_i ps n;split at h3
  ·rename_i c;obtain⟨c0,c1,c2,c3⟩:=U9.mp c;cases h3;cases h2;obtain⟨a,xs,rfl,hq,rl⟩:=h1;have hlen:=rl.length;have hz:xs.length*n.toNat<=AM:=by
    rw [sizeLine_eq,hlen];have:((ps.length*n.toNat:Nat):Int)=ps.length*n:=by rw [Int.natCast_mul,Int.toNat_of_nonneg (by lia)]
    lia
   refine b7c pins s σ H _ _ v u Q I rx ry ⟨a,xs,n,rfl,rfl,r9 s0 hq.sq, ?_,by lia,by lia,hz,λp hp=>k _ _ _ (o9.tup s0 hp (a53 rl _))⟩
   intro e;rw [e] at hlen;simp at hlen
   lia
  ·cases h3
 ·exact b41 pins s σ H x y v u Q I rx ry ⟨F,_,_,rz,s0,h1,h2,h3,k⟩
end
section
variable {prog:AJ}{w:AI}{A:AK}{E:AA->AC->Prop}{s:AC}
end
section
variable {prog:AJ}{w:AI}{A:AK}{E:AA->AC->Prop}{s:AC}{u:AA}{T gid:String}{fp:List AB}{n:Nat}{P:Nat->AA->Prop}{Sq:Heap->Prop}
end
section
variable {prog:AJ}{w:AI}{A:AK}{E:AA->AC->Prop}{s:AC}
end
section
variable {X:Cx}
end
def S4(kvs:List (List f6×PV))(k:List f6):Option PV:=(kvs.find? λkv=>decide (kv.1=k)).map (·.2)
def b7l(kvs:List (List f6×PV))(k:List f6)(v:PV):List (List f6×PV):=
 if(kvs.any λkv=>decide (kv.1=k))=true then kvs.map (λkv=>if kv.1=k then(kv.1,v) else kv) else kvs++[(k,v)]
theorem p7.length{K:AE}{H:Hp}:∀{kvs:List (List f6×PV)} {ys:List (List f6×V)},p7 K H kvs ys->ys.length=kvs.length
 |[],_,h=>by cases h;rfl
 |(k,p)::r,_,⟨v,t,e,q,h⟩=>by subst e;rw [AY,AY,p7.length h]
theorem p7.any{K:AE}{H:Hp}{k:List f6}:∀{kvs:List (List f6×PV)} {ys:List (List f6×V)},p7 K H kvs ys->(ys.any λkv=>decide (kv.1=k))=(kvs.any λkv=>decide (kv.1=k))
 |[],_,h=>by cases h;rfl
 |(k',p)::r,_,⟨v,t,e,q,h⟩=>by subst e;rw [List.any_cons,List.any_cons,p7.any h]
theorem p7.val{K:AE}{H:Hp}{k:List f6}:∀{kvs:List (List f6×PV)} {ys:List (List f6×V)},p7 K H kvs ys->(∀p,S4 kvs k=ξ p->∃v,P6 ys k=ξ v/\A5 K H p v)/\(S4 kvs k=ζ->P6 ys k=ζ)
 |[],_,h=>by cases h;exact⟨λp e=>(nomatch e),λ_=>rfl⟩
 |(k',p)::r,_,⟨v,t,e,q,h⟩=>by
  subst e
  by_cases c:k'=k
  ·have e1:S4 ((k',p)::r) k=ξ p:=by simp [S4,List.find?_cons,c]
   have e2:P6 ((k',v)::t) k=ξ v:=a0t c;rw [e1,e2];exact⟨λp' e'=>(by cases e';exact⟨v,rfl,q⟩),λe'=>(nomatch e')⟩
  ·have e1:S4 ((k',p)::r) k=S4 r k:=by simp [S4,List.find?_cons,c]
   have e2:P6 ((k',v)::t) k=P6 t k:=a0s c;rw [e1,e2];exact p7.val h
theorem p7.repl{K:AE}{H:Hp}{k:List f6}{p:PV}{v:V}(hp:A5 K H p v):∀{kvs:List (List f6×PV)} {ys:List (List f6×V)},p7 K H kvs ys->p7 K H (kvs.map λkv=>if kv.1=k then(kv.1,p) else kv) (ys.map λkv=>if kv.1=k then(kv.1,v) else kv)
 |[],_,h=>by cases h;exact rfl
 |(k',p')::r,_,⟨v',t,e,q,h⟩=>by
  subst e
  by_cases c:k'=k
  ·rw [AQ,AQ];simp only [if_pos c];exact⟨v,_,rfl,hp,p7.repl hp h⟩
  ·rw [AQ,AQ];simp only [if_neg c];exact⟨v',_,rfl,q,p7.repl hp h⟩
theorem p7.snoc{K:AE}{H:Hp}{k:List f6}{p:PV}{v:V}(hp:A5 K H p v):∀{kvs:List (List f6×PV)} {ys:List (List f6×V)},p7 K H kvs ys->p7 K H (kvs++[(k,p)]) (ys++[(k,v)])
 |[],_,h=>by cases h;exact⟨v,[],rfl,hp,rfl⟩
 |(k',p')::r,_,⟨v',t,e,q,h⟩=>by subst e;exact⟨v',_,rfl,q,p7.snoc hp h⟩
theorem p7.put{K:AE}{H:Hp}{k:List f6}{p:PV}{v:V}{kvs:List (List f6×PV)}{ys:List (List f6×V)}(r:p7 K H kvs ys)(hp:A5 K H p v):p7 K H (b7l kvs k p) (a0K ys k v):=by
 unfold b7l a0K;rw [r.any];split
 ·exact r.repl hp
 ·exact r.snoc hp
theorem o9.dct{K:AE}{F H:Hp}{a:AB}(s:g8 F H)(n:H a=ζ):o9 K F H F (i7 H a (.dT K [])) (.ref a) (.dct []):=
 ⟨R5.layH s n,⟨a,[],rfl,s.free n,c8,rfl⟩,λ_ _ _ e=>by cases e;exact n⟩
section
variable {X:Cx}
def b1R:M:=λ_=>ξ (.dct [])
theorem a70{pos:Pos}:EE X (.Dict [] [] pos) b1R:=
 m6 b5b λσ H Q h0=>k4 h0 λF ρ r en e k=>by
  cases e;exact λd hd=>k _ _ _ (o9.dct en.fh hd)
theorem le5{n:Nat}(h:n<=5):n<=AM:=by rw [sizeLine_eq];lia
def b3S(i:Nat)(ρ:b9)(p:PV)(k:List f6):Option Fl:=match ρ[i]? with
 |some (ξ (.ow (.dct kvs)))=>if kvs.length<AM then ξ (.nx (ρ.set i (ξ (.dct (b7l kvs k p))))) else ζ
 |_=>ζ
end
section
variable {prog:AJ}{w:AI}{A:AK}{E:AA->AC->Prop}{s:AC}
end
section
variable {X:Cx}{pins:List (AB×Obj)}{σ:L2.St}{H:Hp}{s:AC}{a:AB}{A:AK}{E:AA->AC->Prop}
end
section
variable {X:Cx}
end
theorem b0L{K:AE}{a:AB}{o:Obj}:K.lookup a=ξ o->∃b,(b,o)∈K:=by
 induction K with
 |nil=>intro h;cases h
 |cons p r ih=>
  intro h;obtain⟨b,u⟩:=p;rw [List.lookup_cons] at h;split at h
  ·cases h;exact⟨b,Af ..⟩
  ·obtain⟨c,hc⟩:=ih h;exact⟨c,Ae _ hc⟩
theorem p7.isSome{K:AE}{H:Hp}{k:List f6}{kvs:List (List f6×PV)}{ys:List (List f6×V)}(r:p7 K H kvs ys):(P6 ys k).isSome=(S4 kvs k).isSome:=by
 cases hv:S4 kvs k with
 |none=>rw [(r.val (k:=k)).2 hv];rfl
 |some p=>
  obtain⟨v,e,_⟩:=(r.val (k:=k)).1 p hv;rw [e];rfl
section
variable {X:Cx}
def c0C(neg:Bool)(i:Nat)(ρ:b9)(k:List f6):Option d7:=match ρ[i]? with
 |some (ξ (.ow (.dct kvs)))=>ξ (.v (.bool (if neg then !(S4 kvs k).isSome else(S4 kvs k).isSome)))
 |_=>ζ
theorem c1l{t:TE}{m:M}(i:∀σ H Q,tM X.K m σ H Q->t σ H Q){σ:L2.St}{H:Hp}{Q:Bool->Hp->Prop}(h:tMT X.K (mtB m) σ H Q):tB t σ H Q:=by
 obtain⟨F,ρ,b,h1,h2,k⟩:=h;obtain⟨r,e1,e2⟩:=bind_some h2;exact i _ _ _ ⟨F,ρ,r,h1,e1,λv F1 H1 o=>⟨b,a3a o.rep e2,k F1 H1 o.x⟩⟩
def b6W(r:d7):Option Str:=match r with
 | .v (.str x)=>ξ x
 |_=>ζ
end
def b2M(x:Str):List Str->List Str
 |[]=>[x]
 |y::r=>if y.cps.toList<x.cps.toList then y::b2M x r else x::y::r
def a0q:List Str->List Str
 |[]=>[]
 |x::r=>b2M x (a0q r)
theorem a3x(x:Str):∀l:List Str,(b2M x l).Perm (x::l)
 |[]=>List.Perm.refl _
 |y::r=>by
  unfold b2M;split
  ·exact((a3x x r).cons y).trans (List.Perm.swap x y r)
  ·exact List.Perm.refl _
theorem Q7:∀l:List Str,(a0q l).Perm l
 |[]=>List.Perm.refl _
 |x::r=>(a3x x (a0q r)).trans ((Q7 r).cons x)
def leS(a b:Str):Prop:=¬b.cps.toList<a.cps.toList
theorem a5v{a b:Str}(h:leS a b)(g:leS b a):a=b:=by
 have e:a.cps.toList=b.cps.toList:=List.le_antisymm h g;cases a;cases b;simp at e ⊢;exact e
theorem a3z{a b c:Str}(h:leS a b)(g:leS b c):leS a c:=List.le_trans h g
theorem a4a(x:Str):∀{l:List Str},l.Pairwise leS->(b2M x l).Pairwise leS
 |[],_=>List.pairwise_singleton _ _
 |y::r,h=>by
  unfold b2M;have h':=List.pairwise_cons.mp h;split
  ·rename_i c;refine List.pairwise_cons.mpr ⟨λz hz=> ?_,a4a x h'.2⟩;rcases AU.mp ((a3x x r).mem_iff.mp hz) with e|e
   ·subst e;exact List.lt_asymm c
   ·exact h'.1 z e
  ·rename_i c;refine List.pairwise_cons.mpr ⟨λz hz=> ?_,h⟩;rcases AU.mp hz with e|e
   ·subst e;exact c
   ·exact a3z c (h'.1 z e)
theorem V0:∀l:List Str,(a0q l).Pairwise leS
 |[]=>List.Pairwise.nil
 |x::r=>a4a x (V0 r)
theorem Y6:∀{l m:List Str},l.Pairwise leS->m.Pairwise leS->l.Perm m->l=m
 |[],m,_,_,p=>(List.Perm.nil_eq p)
 |a::l,[],_,_,p=>by have:=p.length_eq;simp at this
 |a::l,b::m,hl,hm,p=>by
  have hl':=List.pairwise_cons.mp hl;have hm':=List.pairwise_cons.mp hm;have e:a=b:=by
   have m1:a∈b::m:=p.mem_iff.mp Af;have m2:b∈a::l:=p.mem_iff.mpr Af;rcases AU.mp m1 with e|e
   ·exact e
   ·rcases AU.mp m2 with g|g
    ·exact g.symm
    ·exact a5v (hl'.1 b g) (hm'.1 a e)
  subst e;rw [Y6 hl'.2 hm'.2 (List.Perm.cons_inv p)]
theorem a7A:∀{p:Str} {l:List Str},risingS p l=true->(p::l).Pairwise leS
 |p,[],_=>List.pairwise_singleton _ _
 |p,x::r,h=>by
  unfold risingS at h;rw [Bool.and_eq_true] at h;have ih:=a7A h.2;have h1:leS p x:=by
   have:=h.1;rw [ltCps_eq] at this;unfold leS
   simpa using this
  refine List.pairwise_cons.mpr ⟨λz hz=> ?_,ih⟩;rcases AU.mp hz with e|e
  ·subst e;exact h1
  ·exact a3z h1 ((List.pairwise_cons.mp ih).1 z e)
theorem a6p:∀{l:List Str},sortedS l=true->l.Pairwise leS
 |[],_=>List.Pairwise.nil
 |x::r,h=>a7A h
section
variable {prog:AJ}{w:AI}{A:AK}{E:AA->AC->Prop}{s:AC}
theorem b1c{l:AB}{T:String}{o:Obj}{vs:List AA}{n:Nat}{ss:List Str}{Q:AA->AC->Prop}(hT:T="list"\/T="tuple")(ho:s.heap.get? l=ξ o)(hc:o.cls= .type T)(hd:o.data= .seq vs.toArray n)(hS:StrsAre vs ss)(h64:vs.length<64)
 (h:∀(h1 h':Heap) (e:Nat) (us:List AA),(∀b o',s.heap.get? b=ξ o'->h1.get? b=ξ o')->(∀b o',h1.get? b=ξ o'->h'.get? b=ξ o')->StrsAre us (a0q ss)->h'.get? h1.objs.size=ξ (seqObj "list" us.toArray e)->Q (.ref h1.objs.size) {s with heap:=h'}):
 AF (model prog w) A (call (.builtin "sorted") [.ref l]) Q E s:=by
 refine Calls.call_function_entry kind_sorted plain_sorted entry_sorted (args_sorted1 _) ?_
 unfold Builtin.«sorted»
 refine AD (m:=checkCount "sorted" 1 1 _) (AH ?_)
 refine AD (wpAny_collect_seq l hT ho hc hd (λh1 k1=> ?_) (by rw [Ab,sizeLine_eq];lia))
 have ev:vs.toArray.toList=vs:=by simp
 rw [ev]
 refine AD (wpAny_newList ?_)
 have hoL:(h1.push (seqObj "list" vs.toArray 0)).get? h1.objs.size=ξ (seqObj "list" vs.toArray 0):=Aa _ rfl
 show AF _ _ _ _ _ {s with heap:=h1.push (seqObj "list" vs.toArray 0)}
 refine AD (wpAny_holding (wpAny_call_entry slot_list_sort ⟨_,hoL,rfl⟩ entry_list_sort (list_sort_treeK strKind_oneLt hoL hS.keysOf (λv₁ v₂ rest e=>keyKind_strs (by rw [<-e];exact hS)) h64 λst' a1 a2=>⟨_,rfl, ?_⟩) (args_list_sort _)))
 obtain⟨ss',g1,g2,g3⟩:=sorted_out_str hS a1 a2
 have e1:ss'=a0q ss:=Y6 (a6p g3) (V0 ss) (g2.trans (Q7 ss).symm)
 subst e1
 obtain⟨e,he⟩:=sortedHeap_at (out:=(arrOf st').map (·.2)) hoL
 refine AH ⟨_,rfl,h h1 _ e _ k1 (λb o' hb1=> ?_) g1 (by rw [Array.toArray_toList];exact he)⟩
 have hlt:=AT hb1
 rw [sortedHeap_old (AW hlt) (by rw [size_push'];exact Nat.lt_succ_of_lt hlt),Heap.get?_push_ne _ _ _ (AW hlt)]
 exact hb1
end
theorem a3V:∀{us:List AA} {ss:List Str},StrsAre us ss->j4 (ss.map V.str) us
 |_,_,.nil=> .nil
 |_,_,.cons x t h=>by rw [AQ];exact .cons ⟨t,rfl⟩ (a3V h)
theorem a95:∀{us:List AA} {ss:List Str},StrsAre us ss->us.length=ss.length
 |_,_,.nil=>rfl
 |_,_,.cons x t h=>by rw [AY,AY,a95 h]
theorem a3Q{K:AE}{H:Hp}:∀ss:List Str,h9 K H (ss.map PyData.str) (ss.map V.str)
 |[]=>rfl
 |x::r=>⟨_,_,rfl,rfl,a3Q r⟩
def a8a(x:d7):Option d7:=match PyData.items? x.rd with
 |some ps=>(a2D ps).bind λss=>if ss.length<64 then ξ (.own ((a0q ss).map .str)) else ζ
 |none=>ζ
section
variable {X:Cx}
theorem a89:M8 X (.builtin "sorted") (rC1 X.K a8a):=by
 ext g
 unfold a8a at h2;split at h2
 ·rename_i ps e;obtain⟨ss,e1,h2⟩:=bind_some h2;split at h2
  ·rename_i c;cases h2;obtain⟨a,xs,rfl,hq,r⟩:=K6 s0 h1 e;obtain⟨u,rfl,ru⟩:=a1G rv;cases ru;have fin:∀(its:List AA) (T:String) (o:Obj) (n:Nat),(T="list"\/T="tuple")->s.heap.get? a=ξ o->o.cls= .type T->o.data= .seq its.toArray n->j4 xs its->AF (model X.prog X.w) X.A (call (.builtin "sorted") [.ref a]) (EP X pins σ Q) X.xe s:=by
    intro its T o n hT ho hc hd rvv;have hS:=a0S e1 r rvv;refine b1c hT ho hc hd hS (by rw [a95 hS];exact c) λhp1 hp2 en us k1 k2 hs he=> ?_
    have I1:e9 X pins σ H {s with heap:=hp1}:=I.kept (t':=s.toks) k1
    have hlen:(a0q ss).length=ss.length:=(Q7 ss).length_eq;have hf:H hp1.objs.size=ζ:=I1.hok.fresh (AN _);refine⟨.ref hp1.objs.size,_,I1.laid (t':=s.toks) (h':=hp2) (o:= .lst ((a0q ss).map V.str)) k2 (AN _) ⟨by rw [AV,hlen,sizeLine_eq];lia,us,en,a3V hs,he⟩,rfl,k _ F _ (o9.lst s0 hf (a3Q _))⟩
   rcases hq with hq|hq
   ·obtain⟨its,r',pl,hz⟩:=I.list hq;obtain⟨o,ho,hc,n,hd⟩:=pl.isList;exact fin its "list" o n (.inl rfl) ho hc hd r'
   ·obtain⟨its,r',⟨o,ho,hc,n,hd⟩,hz⟩:=I.tuple hq;exact fin its "tuple" o n (.inr rfl) ho hc hd r'
  ·cases h2
 ·cases h2
end
section
variable {prog:AJ}{w:AI}{A:AK}{E:AA->AC->Prop}{s:AC}
theorem a21{it t:AB}{i:Nat}{items}{x:AA}{Q:AA->AC->Prop}(hit:s.heap.IsTupleIter it t i)(ht:s.heap.IsTuple t items)(hx:items[i]?=ξ x)
 (hQ:∀h',h'.IsTupleIter it t (i+1)->Heap.SameBut it s.heap h'->Q x {s with heap:=h'}):AF (model prog w) A (Builtin.SmallTypes.nextOf (.ref it)) Q E s:=by
 obtain⟨o,ho,hc,hd⟩:=id hit
 obtain⟨ol,hol,_,nl,hdl⟩:=ht
 unfold Builtin.SmallTypes.nextOf
 refine AD (wpAny_callSpecial?_slot (name:=Aj "__next__") hit.typeIs F.slot_tuple_iterator_next
  (wpAny_call_entry F.slot_tuple_iterator_next hit.typeIs F.entry_tuple_iterator_next ?_ (F.args_tuple_iterator_next_1 _)))
 show AF _ _ (field (.ref it) 0>>=_) _ _ s
 refine AD (wpAny_field ho hd (x:= .ref t) rfl ?_)
 show AF _ _ (if(Value.ref t==Value.none)=true then _ else _) _ _ s
 rw [if_neg (show ¬((Value.ref t==Value.none)=true) from Ac)]
 show AF _ _ (field (.ref it) 1>>=_) _ _ s
 refine AD (wpAny_field ho hd (x:= .int i 0) rfl ?_)
 show AF _ _ (seqItems? (.ref t)>>=_) _ _ s
 refine AD (wpAny_seqItems hol hdl ?_)
 simp only [BB,hx]
 refine AD (wpAny_setField ho hd (by simp) (AH ⟨x,rfl,AH (hQ _ ?_ (Heap.SameBut.update ..))⟩))
 exact⟨_,Heap.get?_update_self _ ho (Obj.isFreed_of_fields (Obj.data_mapFields hd _)),(Obj.cls_mapFields ..).trans hc,by
  rw [Obj.data_mapFields hd];simp [rawInt]⟩
theorem a0j{it t:AB}{i:Nat}{items}{Q:AA->AC->Prop}(hh:A.handled=ζ)(hit:s.heap.IsTupleIter it t i)(ht:s.heap.IsTuple t items)(hx:items[i]?=ζ)
 (hE:∀h' e,Heap.ExtBut it s.heap h'->(∃o,h'.get? e=ξ o/\o.cls= .type "StopIteration")->E (.ref e) {s with heap:=h'}):AF (model prog w) A (Builtin.SmallTypes.nextOf (.ref it)) Q E s:=by
 obtain⟨o,ho,hc,hd⟩:=id hit
 obtain⟨ol,hol,_,nl,hdl⟩:=ht
 unfold Builtin.SmallTypes.nextOf
 refine AD (wpAny_callSpecial?_slot (name:=Aj "__next__") hit.typeIs F.slot_tuple_iterator_next
  (wpAny_call_entry F.slot_tuple_iterator_next hit.typeIs F.entry_tuple_iterator_next ?_ (F.args_tuple_iterator_next_1 _)))
 show AF _ _ (field (.ref it) 0>>=_) _ _ s
 refine AD (wpAny_field ho hd (x:= .ref t) rfl ?_)
 show AF _ _ (if(Value.ref t==Value.none)=true then _ else _) _ _ s
 rw [if_neg (show ¬((Value.ref t==Value.none)=true) from Ac)]
 show AF _ _ (field (.ref it) 1>>=_) _ _ s
 refine AD (wpAny_field ho hd (x:= .int i 0) rfl ?_)
 show AF _ _ (seqItems? (.ref t)>>=_) _ _ s
 refine AD (wpAny_seqItems hol hdl ?_)
 simp only [BB,hx]
 refine AD (wpAny_rule (AD (wpAny_setField ho hd (by simp) ?_)))
 show AF _ _ (newExc (.type "StopIteration") []>>=_) _ _ _
 refine AD ?_
 simp only [newExc,newTuple]
 refine AD (wpAny_newObj_type ?_ (by size_fits))
 refine AD (m:=firstArgMember _ _) (wpAny_of_eq (a:=Value.none) (by first|rfl|(simp only [firstArgMember];rfl)) ?_)
 refine wpAny_newObj_type ?_ (by size_fits)
 simp only [raiseNew]
 refine AD (wpAny_handled ?_)
 first|rw [show A.in1.handled=ζ from hh]|rw [hh]
 refine AD (AH (wpAny_throw ?_))
 exact hE _ _ (((Heap.SameBut.update ..).extBut.push _).push _) ⟨_,Aa _ rfl,rfl⟩
end
theorem a9d{prog:AJ}{w:AI}{A:AK}(hh:A.handled=ζ)(it l:AB)(hne:l≠it)(items:Array AA):
 Draws prog w A it [it,l] items.size (λi v=>items[i]?=ξ v) (λi h=>h.IsTupleIter it l i/\h.IsTuple l items) where
 live:=λ_ _ st=>let ⟨o,ho,_⟩:=st.1;⟨o,ho⟩
 frame:=λ_ _ _ st hk=>⟨st.1.at λo e=>hk it (by simp) o e,let ⟨o,e,r⟩:=st.2;⟨o,hk l (by simp) o e,r⟩⟩
 item:=λi s Q E hi st hQ=>by
  refine a21 st.1 st.2 (x:=items[i]) (by simp [hi]) λh' hit' hs'=> ?_
  exact hQ _ h' s.toks (by simp [hi]) ⟨hit',let ⟨o,e,r⟩:=st.2;⟨o,(hs'.2 l hne).trans e,r⟩⟩ hs'
 done:=λs Q E st hE=>a0j hh st.1 st.2 (by simp) hE
theorem a1p(l:AB)(items:Array AA)(n:Nat)(dct:Option AB)(sl:Array (Option AA)):
 Meets (Builtin.«enumerate.__new__» ⟨[.type "enumerate",.ref l],[]⟩) (λ_ R s=>s.heap.get? l=ξ {cls:= .type "tuple",dict:=dct,data:= .seq items n,slots:=sl}/\
  R (.ok (.ret (.ref (s.heap.push {cls:= .type "tuple_iterator",data:= .fields #[.ref l,.int 0 0]}).objs.size)))
   {s with heap:=(s.heap.push {cls:= .type "tuple_iterator",data:= .fields #[.ref l,.int 0 0]}).push {cls:= .type "enumerate",data:= .fields #[.none,.bool false,.ref s.heap.objs.size,rawInt 0,.none,.none]}}):=
 .of_wp λprog w A R s h=>by
  obtain⟨hp,g,d,tk,os⟩:=s;obtain⟨hl,h⟩:=h;have hsub:=sub_enumerate;have hL:Heap.IsTuple (Shared.heap ⟨hp,g,d,tk,os⟩) l items:=⟨_,hl,rfl,n,rfl⟩
  wp_walk using AutoSeq1.wpAny_loadPart' hl
  refine wpAny_stack_any λst=>AH ?_;split
  ·rename_i c _ _ _ _ _;cases(c==Value.type "enumerate")
   ·wp_walk using AutoSeq1.wpAny_loadPart' hl,wpAny_pyIter_tuple hL
    exact⟨_,rfl,h⟩
   ·wp_walk using AutoSeq1.wpAny_loadPart' hl,wpAny_pyIter_tuple hL
    exact⟨_,rfl,h⟩
  ·wp_walk using AutoSeq1.wpAny_loadPart' hl,wpAny_pyIter_tuple hL
   exact⟨_,rfl,h⟩
section
variable {prog:AJ}{w:AI}{A:AK}{E:AA->AC->Prop}{s:AC}
theorem a06{l:AB}{items:Array AA}{Q:AA->AC->Prop}(hL:s.heap.IsTuple l items)
 (h:∀h',IsEnum h' (s.heap.objs.size+1) s.heap.objs.size 0 .none->h'.IsTupleIter s.heap.objs.size l 0->h'.objs.size=s.heap.objs.size+2->
  (∀b o,s.heap.get? b=ξ o->h'.get? b=ξ o)->Q (.ref (s.heap.objs.size+1)) {s with heap:=h'}):
 AF (model prog w) A (call (.type "enumerate") [.ref l]) Q E s:=by
 obtain⟨⟨c,dct,dt,sl⟩,hl,hc,n,hd⟩:=hL
 replace hc:c= .type "tuple":=hc
 replace hd:dt= .seq items n:=hd
 subst hc hd
 refine callType_new F.called_enumerate (by decide) (F.typeCall_enumerate_1 _) (F.newCall_enumerate_1 _) (λobj=>F.args_object_init_2 obj _) F.entry_enumerate_new
  (a1p l items n dct sl) ⟨hl, ?_⟩
 have hz:(s.heap.push {cls:= .type "tuple_iterator",data:= .fields #[.ref l,.int 0 0]}).objs.size=s.heap.objs.size+1:=Heap.size_push ..
 show _/\_
 rw [hz]
 have he:IsEnum ((s.heap.push {cls:= .type "tuple_iterator",data:= .fields #[.ref l,.int 0 0]}).push
  {cls:= .type "enumerate",data:= .fields #[.none,.bool false,.ref s.heap.objs.size,rawInt 0,.none,.none]}) (s.heap.objs.size+1) s.heap.objs.size 0 .none:=by
  have:=Aa (s.heap.push {cls:= .type "tuple_iterator",data:= .fields #[.ref l,.int 0 0]})
   (o:={cls:= .type "enumerate",data:= .fields #[.none,.bool false,.ref s.heap.objs.size,rawInt 0,.none,.none]}) rfl
  rw [hz] at this;exact this
 refine⟨⟨_,he,rfl⟩,h _ he ⟨_,AR _ (Aa _ rfl),rfl,rfl⟩ (by rw [Heap.size_push,hz]) λb o x=>AR _ (AR _ x)⟩
end
theorem e9.turnedTup{X:Cx}{pins:List (AB×Obj)}{σ:L2.St}{H:Hp}{s:AC}{h':Heap}{t':Nat}{e it:AB}{xs:List V}(I:e9 X pins σ H s)(fe:a3m X pins H e)(fi:a3m X pins H it)
 (k:∀b o,b≠e->b≠it->s.heap.get? b=ξ o->h'.get? b=ξ o) (new:v4 X.prog X.w (i7 H s.heap.objs.size (.tup xs)) h' s.heap.objs.size (.tup xs)):
 e9 X pins σ (i7 H s.heap.objs.size (.tup xs)) {s with heap:=h',toks:=t'}:=by
 have hn:H s.heap.objs.size=ζ:=I.hok.fresh (AN _)
 have nb:∀b u,H b=ξ u->b≠e/\b≠it:=λb u q=>⟨λz=>(by rw [z,fe.1] at q;cases q),λz=>(by rw [z,fi.1] at q;cases q)⟩
 refine I.step (g':=s.gens) (d':=s.drawn) (ch:=[e,it]) (λb hb=> ?_) (λb o _ _ hc q _=>k b o (λz=>hc (by simp [z])) (λz=>hc (by simp [z])) q) (λb o _ _ hc q _=>⟨o.slots,k b o (λz=>hc (by simp [z])) (λz=>hc (by simp [z])) q⟩)
  (λb o _ q n=>by rw [a9 (AW (AT q))];exact n) (λb o hc q=>⟨o,k b o (λz=>hc (by simp [z])) (λz=>hc (by simp [z])) q⟩)
  (λb xs q=>by rw [a9 (f7 q hn)];exact q) (λb o u q=>by rw [a9 (f7 q hn)];exact q) (λb ps q=>⟨#[],by rw [a9 (f7 q hn),q];simp⟩) (λm hm=> ?_) (λb u q=> ?_) I.bare
 ·have hb:b=e\/b=it:=by simpa using hb
  rcases hb with rfl|rfl
  ·exact⟨fe.2.2.2.1,fe.2.1,fe.2.2.2.2.1,fe.2.2.2.2.2⟩
  ·exact⟨fi.2.2.2.1,fi.2.1,fi.2.2.2.2.1,fi.2.2.2.2.2⟩
 ·obtain⟨o,es,ep,ho,r⟩:=hm
  exact⟨o,es,ep,k _ o (Ne.symm fe.2.1) (Ne.symm fi.2.1) ho,r⟩
 ·by_cases hb:b=s.heap.objs.size
  ·subst hb
   rw [c8] at q
   cases q
   exact new
  ·rw [a9 hb] at q
   refine(I.hok b u q).stay (λc v hc y=>k c v ?_ ?_ y) (λc y=>by rw [a9 (f7 y hn)];exact y) λc ys y=>by rw [a9 (f7 y hn)];exact y
   ·rcases hc with z|z
    ·rw [z];exact(nb b u q).1
    ·exact(nb c _ z).1
   ·rcases hc with z|z
    ·rw [z];exact(nb b u q).2
    ·exact(nb c _ z).2
def Ite(J:It):It:=⟨J.go,λi H v H'=>∃x t,J.yld i H x H/\H t=ζ/\v= .ref t/\H'=i7 H t (.tup [.int i,x]),J.stop⟩
structure a8U(P:AJ)(w:AI)(K:AE)(J:It)(it:AB)(tn:Nat->Heap->Prop):Prop where
 obj:∀i h,tn i h->∃o,h.get? it=ξ o/\∀v,o.data≠.cell v
 keep:∀i h h',tn i h->(∀o,h.get? it=ξ o->h'.get? it=ξ o)->tn i h'
 item:∀(X:Cx),X.prog=P->X.w=w->X.K=K->X.calm=true->∀(i:Nat) (pins:List (AB×Obj)) (s:AC) (σ:L2.St) (H:Hp),e9 X pins σ H s->a3m X pins H it->tn i s.heap->J.go i H->
  ∃(fp:List AB) (n:Nat) (Pq:Nat->AA->Prop) (St:Nat->Heap->Prop),Draws P w X.A.in1 it fp n Pq St/\St i s.heap/\i<n/\(∀e old,e≠it->IsEnum s.heap e it i old->e∉fp)/\(∀v,Pq i v->∃x,j3 x v/\J.yld i H x H)/\∀h',St (i+1) h'->tn (i+1) h'
 done:∀(X:Cx),X.prog=P->X.w=w->X.K=K->X.calm=true->∀(i:Nat) (pins:List (AB×Obj)) (s:AC) (σ:L2.St) (H:Hp),e9 X pins σ H s->a3m X pins H it->tn i s.heap->J.stop i H->
   ∃(fp:List AB) (n:Nat) (Pq:Nat->AA->Prop) (St:Nat->Heap->Prop),Draws P w X.A.in1 it fp n Pq St/\St n s.heap
theorem b3o{P:AJ}{w:AI}{K:AE}{J:It}{e it:AB}{tn:Nat->Heap->Prop}{elts:List AG}{x1}{pos:Pos}(D:a8U P w K J it tn)(hne:e≠it):
 a81 P w K (.Tuple elts x1 pos) (Ite J) [e,it] e (λi h=>(∃old,IsEnum h e it i old)/\tn i h) where
 mem:=by simp
 obj:=λi h ⟨⟨old,he⟩,st⟩ b hb=>by
  have hb:b=e\/b=it:=by simpa using hb
  rcases hb with rfl|rfl
  ·exact⟨_,he,λv z=>by cases z⟩
  ·exact D.obj i h st
 keep:=λi h h' ⟨⟨old,he⟩,st⟩ k=>⟨⟨old,k e (by simp) _ he⟩,D.keep i h h' st λo q=>k it (by simp) o q⟩
 item:=by
  intro X hP hw hK hc i pins s σ H E I hf ⟨⟨old,he⟩,st⟩ hg;have fe:=hf e (by simp)
  have fi:=hf it (by simp)
  obtain⟨fp,n,Pq,St,DD,hst,hlt,hef,hy,hnx⟩:=D.item X hP hw hK hc i pins s σ H I fi st hg;subst hP hw hK;refine wpAny_pyNext_enum_itemD DD he hst hlt hne (hef e old hne he) λu h' tk hPu hout hst' htup hsz hk=>⟨_,rfl, ?_⟩;obtain⟨x,rx,yx⟩:=hy u hPu;refine wpAny_letOwnedTupleGo_enum hout λh2 he2 hs2=> ?_;have helt:e<s.heap.objs.size:=AT he;have hilt:it<s.heap.objs.size:=by obtain⟨o,q,_⟩:=D.obj i _ st;exact AT q
  have htup2:h2.get? s.heap.objs.size=ξ {cls:= .type "tuple",data:= .seq #[.int i tk,u]}:=(hs2.2 _ (Nat.ne_of_gt helt)).trans htup;have I2:e9 X pins σ (i7 H s.heap.objs.size (.tup [.int i,x])) {s with heap:=h2,toks:=tk+1}:=by
   refine e9.turnedTup I fe fi (λb o hbe hbi q=>(hs2.2 b hbe).trans (hk b o hbe hbi q)) ?_;exact⟨by rw [sizeLine_eq];simp,[.int i tk,u],.cons ⟨tk,rfl⟩ (.cons rx .nil),⟨_,htup2,rfl,0,rfl⟩⟩
  refine⟨.ref s.heap.objs.size,_,I2,rfl,⟨x,s.heap.objs.size,yx,I.hok.fresh (AN _),rfl,rfl⟩,⟨⟨_,by simpa using he2⟩,D.keep _ _ _ (hnx h' hst') λo q=>(hs2.2 it (Ne.symm hne)).trans q⟩,λb hb=> ?_⟩
  have hb:b=e\/b=it:=by simpa using hb
  rcases hb with rfl|rfl
  ·rw [a9 (AW helt)];exact fe.1
  ·rw [a9 (AW hilt)];exact fi.1
 done:=by
   intro X hP hw hK hc i pins s σ H E I hf ⟨⟨old,he⟩,st⟩ hg;have fi:=hf it (by simp)
   obtain⟨fp,n,Pq,St,DD,hst⟩:=D.done X hP hw hK hc i pins s σ H I fi st hg;subst hP hw hK;exact wpAny_pyNext_enum_endD DD he hst λh' eb=>⟨rfl,I.turned (t':=s.toks) (λb o hb q=>eb b o hb q) fi.1 fi.2.1 fi.2.2.2.1 fi.2.2.2.2.1 fi.2.2.2.2.2⟩
 self:=λ_ _ _ _ _ ⟨⟨_,he⟩,_⟩ h=>wpAny_pyIter_enum he h
theorem a3p{prog:AJ}{w:AI}{A:AK}{it:AB}{fp:List AB}{i:Nat}{S0:Heap->Prop}(lv:∀h,S0 h->∃o,h.get? it=ξ o)(fr:∀h h',S0 h->(∀b∈fp,∀o,h.get? b=ξ o->h'.get? b=ξ o)->S0 h')
 (en:∀(s:AC) (Q:AA->AC->Prop) (E:AA->AC->Prop),S0 s.heap->(∀h' e,Heap.ExtBut it s.heap h'->(∃o,h'.get? e=ξ o/\o.cls= .type "StopIteration")->E (.ref e) {s with heap:=h'})->AF (model prog w) A (Builtin.SmallTypes.nextOf (.ref it)) Q E s):
 Draws prog w A it fp i (λ_ _=>True) (λk h=>k=i/\S0 h) where
 live:=λ_ h st=>lv h st.2
 frame:=λ_ h h' st k=>⟨st.1,fr h h' st.2 k⟩
 item:=λk s Q E hk st _=>by have:=st.1;lia
 done:=λs Q E st hE=>en s Q E st.2 hE
theorem a9h{P:AJ}{w:AI}{K:AE}(a it:AB):a8U P w K (Itt K a) it (λi h=>h.IsTupleIter it a i) where
 obj:=λi h st=>by
  ext e
 keep:=λi h h' st k=>st.at λo e=>k o e
 item:=by
  ext j
  obtain⟨xs,x,hq,hx⟩:=hg;obtain⟨its,rv,p,hz⟩:=I.tuple hq;obtain⟨u,hu,ru⟩:=rv.get hx;have p':s.heap.IsTuple a its.toArray:=p;have hai:a≠it:=λz=>by
   subst z;obtain⟨o,e,c,_⟩:=p';obtain⟨o2,e2,c2,_⟩:=st;rw [e] at e2;cases e2;rw [c] at c2;injection c2 with c2
   exact absurd c2 (by decide)
  refine⟨_,_,_,_,a9d (prog:=X.prog) (w:=X.w) (A:=X.A.in1) (show X.A.in1.handled=ζ from I.ok.hd hc) it a hai its.toArray,⟨st,p'⟩, ?_,λe old hne he hm=> ?_,λv hv=> ?_,λh' z=>z.1⟩
  ·have:=(Ah.mp hu).1
   simpa using this
  ·have hm:e=it\/e=a:=by simpa using hm
   rcases hm with rfl|rfl
   ·exact hne rfl
   ·obtain⟨o,q,c,_⟩:=p';rw [he] at q;cases q;injection c with c
    exact absurd c (by decide)
  ·have hv:its[i]?=ξ v:=by simpa using hv
   rw [hu] at hv;cases hv;exact⟨x,ru,rfl,λys hy=>by rw [I.tuple_inj hy hq];exact hx⟩
 done:=by
   ext j
   obtain⟨xs,hq,hx⟩:=hg;obtain⟨its,rv,p,hz⟩:=I.tuple hq;have p':s.heap.IsTuple a its.toArray:=p;have hl:=rv.length;exact⟨_,_,_,_,a3p (prog:=X.prog) (w:=X.w) (A:=X.A.in1) (it:=it) (fp:=[it,a]) (i:=i) (S0:=λh=>h.IsTupleIter it a i/\h.IsTuple a its.toArray) (λh z=>let ⟨o,ho,_⟩:=z.1;⟨o,ho⟩)
    (λh h' z k=>⟨z.1.at λo e=>k it (by simp) o e,let ⟨o,e,r⟩:=z.2;⟨o,k a (by simp) o e,r⟩⟩)
    (λs Q E z hE=>a0j (show X.A.in1.handled=ζ from I.ok.hd hc) z.1 z.2 (by simp;lia) hE),rfl,st,p'⟩
theorem b0s{P:AJ}{w:AI}{K:AE}(a it:AB):a8U P w K (Itl K a) it (λi h=>h.IsListIter it a i) where
 obj:=λi h st=>by
  ext e
 keep:=λi h h' st k=>st.at λo e=>k o e
 item:=by
  ext j
  obtain⟨xs,x,hq,hx⟩:=hg;obtain⟨its,rv,p,hz⟩:=I.list hq;obtain⟨u,hu,ru⟩:=rv.get hx;have p':s.heap.IsList a its.toArray:=p.isList;have hai:a≠it:=λz=>by
   subst z;obtain⟨o,e,c,_⟩:=p';obtain⟨o2,e2,c2,_⟩:=st;rw [e] at e2;cases e2;rw [c] at c2;injection c2 with c2
   exact absurd c2 (by decide)
  refine⟨_,_,_,_,Draws.list (prog:=X.prog) (w:=X.w) (A:=X.A.in1) (show X.A.in1.handled=ζ from I.ok.hd hc) it a hai its.toArray,⟨st,p'⟩, ?_,λe old hne he hm=> ?_,λv hv=> ?_,λh' z=>z.1⟩
  ·have:=(Ah.mp hu).1
   simpa using this
  ·have hm:e=it\/e=a:=by simpa using hm
   rcases hm with rfl|rfl
   ·exact hne rfl
   ·obtain⟨o,q,c,_⟩:=p';rw [he] at q;cases q;injection c with c
    exact absurd c (by decide)
  ·have hv:its[i]?=ξ v:=by simpa using hv
   rw [hu] at hv;cases hv;exact⟨x,ru,rfl,λys hy=>by rw [I.list_inj hy hq];exact hx⟩
 done:=by
   ext j
   obtain⟨xs,hq,hx⟩:=hg;obtain⟨its,rv,p,hz⟩:=I.list hq;have p':s.heap.IsList a its.toArray:=p.isList;have hl:=rv.length;exact⟨_,_,_,_,a3p (prog:=X.prog) (w:=X.w) (A:=X.A.in1) (it:=it) (fp:=[it,a]) (i:=i) (S0:=λh=>h.IsListIter it a i/\h.IsList a its.toArray) (λh z=>let ⟨o,ho,_⟩:=z.1;⟨o,ho⟩)
    (λh h' z k=>⟨z.1.at λo e=>k it (by simp) o e,z.2.at λo e=>k a (by simp) o e⟩)
    (λs Q E z hE=>wpAny_nextOf_list_end (show X.A.in1.handled=ζ from I.ok.hd hc) z.1 z.2 (by simp;lia) hE),rfl,st,p'⟩
theorem b2z{P:AJ}{w:AI}{K:AE}(it:AB)(x:Str)(t:Tok):a8U P w K (Its x) it (λi h=>h.IsStrIter it (strIterType x) x t i) where
 obj:=λi h st=>by
  ext e
 keep:=λi h h' st k=>let ⟨o,e,r⟩:=st;⟨o,k o e,r⟩
 item:=by
  ext j
  have hg:i<x.cps.size:=hg;have yl:∀v,(∃c u,x.cps[i]?=ξ c/\v=Value.str ⟨#[c]⟩ u)->∃y,j3 y v/\(Its x).yld i H y H:=λv ⟨c,u,h1,h2⟩=>⟨.str ⟨#[c]⟩,⟨u,h2⟩,rfl,c,h1,rfl⟩;cases ha:x.cps.all (· <128) with
  |true=>
   have et:strIterType x="str_ascii_iterator":=by simp [strIterType,ha]
   rw [et] at st ⊢;exact⟨_,_,_,_,Draws.strAscii (prog:=X.prog) (w:=X.w) (A:=X.A.in1) (show X.A.in1.handled=ζ from I.ok.hd hc) it x t,st,hg,λe old hne he hm=>hne (by simpa using hm),yl,λh' z=>z⟩
  |false=>
   have et:strIterType x="str_iterator":=by simp [strIterType,ha]
   rw [et] at st ⊢;exact⟨_,_,_,_,Draws.strWide (prog:=X.prog) (w:=X.w) (A:=X.A.in1) (show X.A.in1.handled=ζ from I.ok.hd hc) it x t,st,hg,λe old hne he hm=>hne (by simpa using hm),yl,λh' z=>z⟩
 done:=by
   ext j
   have hg:x.cps.size<=i:=hg;have hx:x.cps[i]?=ζ:=by simp [hg]
   refine⟨_,_,_,_,a3p (prog:=X.prog) (w:=X.w) (A:=X.A.in1) (it:=it) (fp:=[it]) (i:=i) (S0:=λh=>h.IsStrIter it (strIterType x) x t i) (λh z=>let ⟨o,ho,_⟩:=z;⟨o,ho⟩)
    (λh h' z k=>let ⟨o,e,r⟩:=z;⟨o,k it (by simp) o e,r⟩) (λs Q E z hE=> ?_),rfl,st⟩
   cases ha:x.cps.all (· <128) with
   |true=>
    have et:strIterType x="str_ascii_iterator":=by simp [strIterType,ha]
    rw [et] at z;exact wpAny_nextOf_ascii_end (show X.A.in1.handled=ζ from I.ok.hd hc) z hx hE
   |false=>
    have et:strIterType x="str_iterator":=by simp [strIterType,ha]
    rw [et] at z;exact wpAny_nextOf_wide_end (show X.A.in1.handled=ζ from I.ok.hd hc) z hx hE
theorem a40:bootBuiltins "enumerate"=ξ (.type "enumerate"):=by decide+kernel
section
variable {X:Cx}
def iEn(K:AE)(ta:TA):TI:=λσ H R=>ta σ H λvs H1=>(∃a xs,vs=[.ref a]/\SqT K H1 a xs/\R (Ite (Itt K a)) H1)\/(∃a xs,vs=[.ref a]/\Z0 K H1 a xs/\R (Ite (Itl K a)) H1)\/∃z,vs=[.str z]/\R (Ite (Its z)) H1
theorem b34{tg:AG}{pins:List (AB×Obj)}{σ:L2.St}{H:Hp}{s:AC}{R:It->Hp->Prop}{E:AA->AC->Prop}{J:It}{h':Heap}{tn:Nat->Heap->Prop}{elts:List AG}{x1}{tpos:Pos}(htg:tg= .Tuple elts x1 tpos)(I:e9 X pins σ H s)(D:a8U X.prog X.w X.K J s.heap.objs.size tn)
 (he:IsEnum h' (s.heap.objs.size+1) s.heap.objs.size 0 .none) (st:tn 0 h') (hk:∀b o,s.heap.get? b=ξ o->h'.get? b=ξ o) (q:R (Ite J) H):
 AF (model X.prog X.w) X.A (pyIter (.ref (s.heap.objs.size+1))) (PIE X pins σ tg R) E {s with heap:=h'}:=by
 subst htg
 refine wpAny_pyIter_enum (s:={s with heap:=h'}) he ?_
 refine⟨s.heap.objs.size+1,[s.heap.objs.size+1,s.heap.objs.size],_,_,H,rfl,I.kept (t':=s.toks) hk,b3o D (Nat.succ_ne_self _),⟨⟨_,he⟩,st⟩,λb hb=> ?_,q⟩
 have hb:b=s.heap.objs.size+1\/b=s.heap.objs.size:=by simpa using hb
 rcases hb with rfl|rfl
 ·exact I.fpOk (Nat.le_succ _) (I.hok.fresh (Nat.le_succ _))
 ·exact I.fpOk (AN _) (I.hok.fresh (AN _))
theorem b7h{a:AG}{ta:TA}{p pos tpos:Pos}{elts:List AG}{x1}(hg:Gl X "enumerate")(hm:X.mg "enumerate"=ζ)(ha:PA X [a] ta)(hs:AL [a] X.env=[(false,eval a X.env)]:=by rfl):
 PI X (.Tuple elts x1 tpos) (.Call (.Name "enumerate" p) [a] [] pos) (iEn X.K ta):=by
 intro pins s σ H R I h
 refine Call_ (a5u I hg hm a40 (PyProof.Rows.callWith_type1 (C8 (ha pos pins s σ H _ I h) λus s1 h0=>j5 h0 λvs H1 I1 r1 q1=> ?_) hs rfl))
 rcases q1 with⟨b,xs,rfl,hq,q⟩|⟨b,xs,rfl,hq,q⟩|⟨z,rfl,q⟩
 ·cases r1 with
  |cons r rr=>
   cases rr
   cases r
   obtain⟨its,rv,p',hz⟩:=I1.tuple hq
   exact a06 (show s1.heap.IsTuple b its.toArray from p') λh' he hit hsz hk=>b34 rfl I1 (a9h b _) he hit hk q
 ·cases r1 with
  |cons r rr=>
   cases rr
   cases r
   obtain⟨its,rv,p',hz⟩:=I1.list hq
   exact call_enumerate_list p'.isList λh' he hit hsz hk=>b34 rfl I1 (b0s b _) he hit hk q
 ·cases r1 with
  |cons r rr=>
   cases rr
   obtain⟨t,rfl⟩:=r
   exact call_enumerate_str λh' he hit hsz hk=>b34 rfl I1 (b2z _ z t) he hit hk q
def W3(ps:List PV):List PV:=ps.zipIdx.map λq=> .tuple [.int ((q.2:Nat):Int),q.1]
theorem b2A(ps:List PV)(k:Nat):(W3 ps)[k]?=ps[k]?.map λp=> .tuple [.int ((k:Nat):Int),p]:=by
 unfold W3;rw [Ag,List.getElem?_zipIdx];cases ps[k]? with
 |none=>rfl
 |some p=>simp
theorem b2B(ps:List PV):(W3 ps).length=ps.length:=by unfold W3;simp
def b4u(p:PV):Option (List PV):=match p with
 | .str z=>ξ (z.cps.toList.map λc=> .str ⟨#[c]⟩)
 |p=>PyData.items? p
def a9B(m:MA):MI:=λρ=>(m ρ).bind λas=>match as with
 |[p]=>(b4u p).map W3
 |_=>ζ
theorem b0M{K:AE}{F0 H0 F1:Hp}{body:MS}{tg:PV->b9->Option b9}{g:TG}{ps:List PV}{fl:Fl}{D:N5}{k:Nat}{p:PV}{x:V}{t:AB}{σ:L2.St}{H:Hp}(T:a80 K g tg)(fin:Fin K F0 H0 F1 D fl)(ep:ps[k]?=ξ p)
 (hp:PvL K F0 H0 F1 body tg (W3 ps) fl k σ H) (hn:H t=ζ) (rx:A5 K F1 p x):
 g (.ref t) σ (i7 H t (.tup [.int k,x])) λσ2 H2=>tMS K body {D with nx:=PvL K F0 H0 F1 body tg (W3 ps) fl (k+1),ct:=PvL K F0 H0 F1 body tg (W3 ps) fl (k+1),bk:=D.nx} σ2 H2:=by
 obtain⟨F,ρ,s,so,e⟩:=hp
 have eq:(W3 ps)[k]?=ξ (.tuple [.int ((k:Nat):Int),p]):=by rw [b2A,ep];rfl
 have hk:k<(W3 ps).length:=(Ah.mp eq).1
 have hd:(W3 ps).drop k= .tuple [.int ((k:Nat):Int),p]::(W3 ps).drop (k+1):=by
  rw [List.drop_eq_getElem_cons hk]
  congr 1
  exact(Ah.mp eq).2
 rw [hd] at e
 obtain⟨ρ1,f1,e1,e2,e3⟩:=a68 e
 have xl:R5 F H (i7 F t (.tup [.int k,x])) (i7 H t (.tup [.int k,x])):=R5.lay so.e.fh hn
 have up:g8 F1 (i7 F t (.tup [.int k,x])):=s.trans xl.f
 refine T F0 H0 _ _ σ ρ ρ1 _ (.ref t) _ (so.ext xl) (show A5 K (i7 F t (.tup [.int k,x])) (.tuple [.int ((k:Nat):Int),p]) (.ref t) from⟨t,[.int k,x],rfl,TqT.of c8,⟨_,_,rfl,rfl,⟨_,_,rfl,A5.mono up _ rx,rfl⟩⟩⟩) e1 λσ' so'=>⟨F0,H0,_,ρ1,f1,so',e2, ?_⟩
 cases f1 with
 |nx ρ'=>exact λσ2 F2 H2 s2 so2=>⟨F2,ρ',up.trans s2,so2,e3⟩
 |ct ρ'=>exact λσ2 F2 H2 s2 so2=>⟨F2,ρ',up.trans s2,so2,e3⟩
 |bk ρ'=>cases e3;exact λσ2 F2 H2 s2 so2=>fin σ2 F2 H2 (up.trans s2) so2
 |rt r=>cases e3;exact fin
theorem b4c{K:AE}{F0 H0 F1:Hp}{body:MS}{tg:PV->b9->Option b9}{g:TG}{ps:List PV}{fl:Fl}{D:N5}{σ:L2.St}{H:Hp}{J:It}(S:b3D K F1 J ps)(T:a80 K g tg)(fin:Fin K F0 H0 F1 D fl)(h0:PvL K F0 H0 F1 body tg (W3 ps) fl 0 σ H):
 ∃W:Nat->Nat->L2.St->Hp->Prop,(∃m,W 0 m σ H)/\∀i m σ H,W i m σ H->
  ((Ite J).stop i H/\D.nx σ H)\/((Ite J).go i H/\∃N:L2.St->Hp->Prop,(∀σ' H',N σ' H'->∃m',m'<m/\W (i+1) m' σ' H')/\∀x H',(Ite J).yld i H x H'->g x σ H' λσ2 H2=>tMS K body {D with nx:=N,ct:=N,bk:=D.nx} σ2 H2):=by
 refine⟨λi m σ H=>m=ps.length - i/\i<=ps.length/\PvL K F0 H0 F1 body tg (W3 ps) fl i σ H,⟨ps.length,by simp,Nat.zero_le _,h0⟩, ?_⟩
 rintro i m σ H ⟨rfl,hi,pv⟩
 have sm:g8 F1 H:=by obtain⟨_,_,s,so,_⟩:=pv;exact s.trans so.e.fh
 by_cases hlt:i<ps.length
 ·have ep:ps[i]?=ξ ps[i]:=by simp [hlt]
  refine .inr ⟨S.go i _ H sm ep,PvL K F0 H0 F1 body tg (W3 ps) fl (i+1),λσ' H' p'=>⟨ps.length - (i+1),by lia,rfl,hlt,p'⟩,λv H' y=> ?_⟩
  obtain⟨x,t,yx,hn,rfl,rfl⟩:=y
  exact b0M T fin ep pv hn (S.yd i _ x H H sm ep yx).2
 ·have ei:i=ps.length:=by lia
  refine .inl ⟨S.st i H sm (by lia), ?_⟩
  rw [ei,<-b2B ps] at pv
  exact a2X fin pv
theorem b5I{F1:Hp}{a:AB}{xs:List V}{ps:List PV}(hq:SqT X.K F1 a xs)(rl:h9 X.K F1 ps xs):b3D X.K F1 (Itt X.K a) ps:=by
 have hlen:=rl.length;refine⟨λi H2 s h=>⟨xs,r9 s hq,by lia⟩,λi p H2 s h=> ?_,λi p x H2 H3 s h y=> ?_⟩
 ·obtain⟨v,ev,_⟩:=rl.get h;exact⟨xs,v,r9 s hq,ev⟩
 ·obtain⟨e,y⟩:=y;have:=y xs (r9 s hq);obtain⟨v,ev,rv⟩:=rl.get h;rw [this] at ev;cases ev;exact⟨e,rv⟩
theorem b5G{F1:Hp}{a:AB}{xs:List V}{ps:List PV}(hq:Z0 X.K F1 a xs)(rl:h9 X.K F1 ps xs):b3D X.K F1 (Itl X.K a) ps:=by
 have hlen:=rl.length;refine⟨λi H2 s h=>⟨xs,B2 s hq,by lia⟩,λi p H2 s h=> ?_,λi p x H2 H3 s h y=> ?_⟩
 ·obtain⟨v,ev,_⟩:=rl.get h;exact⟨xs,v,B2 s hq,ev⟩
 ·obtain⟨e,y⟩:=y;have:=y xs (B2 s hq);obtain⟨v,ev,rv⟩:=rl.get h;rw [this] at ev;cases ev;exact⟨e,rv⟩
theorem b5H{F1:Hp}(z:Str):b3D X.K F1 (Its z) (z.cps.toList.map λc=> .str ⟨#[c]⟩):=by
 refine⟨λi H2 s h=> ?_,λi p H2 s h=> ?_,λi p x H2 H3 s h y=> ?_⟩
 ·have h:z.cps.size<=i:=by simpa using h
  exact h
 ·have:=(Ah.mp h).1;have h:i<z.cps.size:=by simpa using this
  exact h
 ·obtain⟨e,c,hc,rfl⟩:=y;refine⟨e, ?_⟩;rw [Ag,Array.getElem?_toList,hc] at h;cases h
  rfl
theorem a4z{a:AG}{body:List Stmt}{m:MA}{g:TG}{t:PV->b9->Option b9}{b:MS}{p rp pos tpos:Pos}{elts:List AG}{x1}(hp:PassesOwn (model X.prog X.w) X.A X.env X.xe)(hc:X.calm=true)(hgl:Gl X "enumerate")(hm:X.mg "enumerate"=ζ)(ha:EA X [a] m)(hg:PG X (.Tuple elts x1 tpos) g)(T:a80 X.K g t)(hb:ESs X body b)
 (hst:AL [a] X.env=[(false,eval a X.env)]:=by rfl) (hs:∀x,foldedSetIterable (.Call (.Name "enumerate" p) [a] [] rp) X.env x=pure x:=by intro _;rfl):ES X (.For (.Tuple elts x1 tpos) (.Call (.Name "enumerate" p) [a] [] rp) body [] pos) (M4 (a9B m) t b):=
 C6 (b05 hp hc (b7h hgl hm ha hst) hg hb hs) λD σ H h0=>E9 h0 λF0 H0 F ρ fl so e fin=>by
  obtain⟨es,e1,e⟩:=bind_some e;obtain⟨as,e1,e2⟩:=bind_some e1;split at e2
  ·rename_i q;refine⟨F,ρ,_,so.e,e1,λvs F1 H1 x rl=> ?_⟩;obtain⟨v,r,rfl,rq,rr⟩:=rl;cases rr;have fin1:=fin.later x.f;cases hi:b4u q with
   |none=>rw [hi] at e2;cases e2
   |some ps=>
    rw [hi] at e2;cases e2;have core:∀J,b3D X.K F1 J ps->_:=λJ S=>b4c (g:=g) (σ:=σ) (H:=H1) S T fin1 ⟨F1,ρ,PU.g8.refl F1,so.ext x,e⟩;cases q with
    |tuple qs=>
     cases hi;obtain⟨a,xs,rfl,hq,rl⟩:=rq;exact .inl ⟨a,xs,rfl,r9 x.fh hq.sq,core _ (b5I hq.sq rl)⟩
    |list qs=>
     cases hi;obtain⟨a,xs,rfl,hq,rl⟩:=rq;exact .inr (.inl ⟨a,xs,rfl,B2 x.fh hq,core _ (b5G hq rl)⟩)
    |str z=>
     cases hi;cases rq;exact .inr (.inr ⟨z,rfl,core _ (b5H z)⟩)
    |_=>cases hi
  ·cases e2
end
def S(l:List Nat):Str:=⟨l.toArray⟩
theorem c0v(a b:List Nat):S a++S b=S (a++b):=by
 show Str.append (S a) (S b)=_;simp [Str.append,S]
theorem b1l(a:List Nat):(S a).length=a.length:=by simp [S,Str.length]
theorem b7V(a:List Nat):(S a).cps.toList=a:=by simp [S]
theorem a3n{α:Type}{xs:List α}{i:Int}(h:0<=i):L2.atI xs i=xs[i.toNat]?:=by
 unfold L2.atI L2.ixN;rw [if_pos h]
 by_cases c:i<xs.length
 ·rw [if_pos c];rfl
 ·rw [if_neg c];have:xs.length<=i.toNat:=by lia
  rw [List.getElem?_eq_none_iff.mpr this];rfl
theorem b7W{α:Type}{xs:List α}{k:Nat}:L2.atI xs (k:Int)=xs[k]?:=by
 rw [a3n (by lia)];simp
theorem c0I{l:List Nat}{i:Int}{c:Nat}(hl:l.length<=16777216)(h:L2.atI l i=ξ c):N3 (.v (.str (S l))) (.v (.int i))=ξ (.v (.str (S [c]))):=by
 have hs:(S l).length<=AM:=by rw [b1l,sizeLine_eq];exact hl
 unfold N3;simp only [d7.rd,b7V,h,Az,if_pos hs]
 rfl
theorem b8W{l k:List Nat}(h:l.length+k.length<=16777216):Q4 (.v (.str (S l))) (.v (.str (S k)))=ξ (.v (.str (S (l++k)))):=by
 rw [b4f (by rw [b1l,b1l,sizeLine_eq];exact h),c0v]
theorem a4C{l:List Nat}{c:Nat}(h:l.length<16777216):Q4 (.v (.str (S l))) (.v (.str (S [c])))=ξ (.v (.str (S (l++[c])))):=b8W (by simp only [AY,Aw];lia)
theorem b6L{i j:Int}(h: -18446744073709551616<i/\i<18446744073709551616):a9m (.v (.int i)) (.v (.int j))=ξ (.v (.int (i*j))):=b80 h
theorem b4j(i j:Int):a6H (.v (.int i)) (.v (.int j))=ξ (.v (.bool (decide (i<j)))):=Eq.trans rfl rfl
theorem U5{i j:Int}(h: -18446744073709551616<i/\i<18446744073709551616):K7 (.v (.int i)) (.v (.int j))=ξ (.v (.int (i*j))):=(show _=a9m (.v (.int i)) (.v (.int j)) from rfl).trans (b6L h)
abbrev row(l:List Nat):PV:= .str (S l)
def b7Z(rows:List (List Nat)):PV:= .tuple (rows.map row)
theorem b6h:Aj "abcdefghijklmnopqrstuvwxyz"=S ((AZ 26).map (97+·)):=by decide+kernel
theorem b3H{i:Int}(h0:0<=i)(h1:i<26):N3 (.v (.str (Aj "abcdefghijklmnopqrstuvwxyz"))) (.v (.int i))=ξ (.v (row [97+i.toNat])):=by
 rw [b6h];exact c0I (by decide) (by rw [a3n h0,Ag,List.getElem?_range (by lia)];rfl)
theorem a9l{body:MS}{tg:PV->b9->Option b9}{I:Nat->b9->Prop}:∀{ps:List PV} {ρ:b9} (k:Nat),(∀(i:Nat) p,ps[i]?=ξ p->∀ρ,I (k+i) ρ->∃ρ1 ρ2,tg p ρ=ξ ρ1/\(body ρ1=ξ (.nx ρ2)\/body ρ1=ξ (.ct ρ2))/\I (k+i+1) ρ2)->I k ρ->∃ρ',a2r body tg ps ρ=ξ (.nx ρ')/\I (k+ps.length) ρ'
 |[],ρ,k,_,h=>⟨ρ,rfl,h⟩
 |p::ps,ρ,k,s,h=>by
  obtain⟨ρ1,ρ2,h1,h2,h3⟩:=s 0 p rfl ρ h;obtain⟨ρ',h4,h5⟩:=a9l (ps:=ps) (ρ:=ρ2) (k+1) (λi q hq ρ hi=>by
   have e:k+1+i=k+(i+1):=by lia
   rw [e] at hi ⊢;exact s (i+1) q (by simpa using hq) ρ hi) h3
  refine⟨ρ', ?_,by rw [AY];have e:k+(ps.length+1)=k+1+ps.length:=by lia
                   rw [e];exact h5⟩
  unfold a2r;rw [h1];show(body ρ1).bind _=_;rcases h2 with h2|h2<;>rw [h2]<;>exact h4
theorem a3s{body:MS}{tg:PV->b9->Option b9}(I:Nat->b9->Prop){ps:List PV}{ρ:b9}(s:∀(i:Nat) p,ps[i]?=ξ p->∀ρ,I i ρ->∃ρ1 ρ2,tg p ρ=ξ ρ1/\(body ρ1=ξ (.nx ρ2)\/body ρ1=ξ (.ct ρ2))/\I (i+1) ρ2)(h:I 0 ρ):∃ρ',a2r body tg ps ρ=ξ (.nx ρ')/\I ps.length ρ':=by
 obtain⟨ρ',a,b⟩:=a9l (I:=I) 0 (λi p hp ρ hi=>by rw [Nat.zero_add] at hi ⊢;exact s i p hp ρ hi) h
 rw [Nat.zero_add] at b;exact⟨ρ',a,b⟩
theorem b7B{body:MS}{tg:PV->b9->Option b9}{I:b9->Prop}{p:PV}{ρ ρ1 ρ2:b9}(h1:tg p ρ=ξ ρ1)(h2:body ρ1=ξ (.nx ρ2))(h3:I ρ2):∃ρ1 ρ2,tg p ρ=ξ ρ1/\(body ρ1=ξ (.nx ρ2)\/body ρ1=ξ (.ct ρ2))/\I ρ2:=⟨ρ1,ρ2,h1,.inl h2,h3⟩
theorem a8z{lo hi:Int}{i:Nat}{p:PV}(h:(a01 lo hi)[i]?=ξ p):p= .int (lo+i)/\lo+i<hi:=by
 have hi':=(Ah.mp h).1;rw [a0k] at hi';rw [a56 hi'] at h;cases h;exact⟨rfl,by lia⟩
theorem b7r(n:Nat):a01 0 (n:Int)=(AZ n).map λk=> .int (k:Nat):=by
 unfold a01;have e:((n:Int) - 0).toNat=n:=by lia
 rw [e];exact List.map_congr_left λk _=>by simp
theorem b2Y(k:Nat)(it:MI)(tg:PV->b9->Option b9)(c:MT)(elt:M)(ρ:b9):S2 k it tg c elt ρ=(it ρ).bind λps=>if ps.length<=AM then(a35 c elt tg (ρ++AO k ζ) ps).bind λr=>ξ (.own r) else ζ:=Eq.trans rfl rfl
theorem a64{α:Type}{ι f:α->PV}{elt:M}{tg:PV->b9->Option b9}{ρ:b9}:∀{xs:List α},(∀x∈xs,∃ρ1,tg (ι x) ρ=ξ ρ1/\(elt ρ1).bind d7.toVal=ξ (f x))->a35 a0i elt tg ρ (xs.map ι)=ξ (xs.map f)
 |[],_=>rfl
 |x::xs,h=>by
  obtain⟨ρ1,h1,h2⟩:=h x Af;rw [AQ,AQ];unfold a35;rw [h1,AS];show((elt ρ1).bind d7.toVal).bind _=_;rw [h2,AS,a64 λy hy=>h y (Ae _ hy),AS]
theorem a7j{α:Type}{ι f:α->PV}{k:Nat}{it:MI}{elt:M}{tg:PV->b9->Option b9}{ρ:b9}(xs:List α)(h1:it ρ=ξ (xs.map ι))(h2:xs.length<=16777216)
 (h:∀x∈xs,∃ρ1,tg (ι x) (ρ++AO k ζ)=ξ ρ1/\(elt ρ1).bind d7.toVal=ξ (f x)):S2 k it tg a0i elt ρ=ξ (.own (xs.map f)):=by
 rw [b2Y,h1,AS,if_pos (by rw [AV,sizeLine_eq];exact h2),a64 h,AS]
theorem b0S(m:M)(lo hi:MO)(ρ:b9):b0R m lo hi ρ=(m ρ).bind λr=>(lo ρ).bind λl=>(hi ρ).bind λh=>gSl r l h:=Eq.trans rfl rfl
theorem b0W(m:M)(ρ:b9):a8l m ρ=(m ρ).bind b1F:=Eq.trans rfl rfl
theorem b6N(i:Int):b1F (.v (.int i))=ξ (ξ i):=Eq.trans rfl rfl
theorem a7k{m:M}{ρ:b9}{n:Nat}(h:m ρ=ξ (.v (.int n)))(hn:n<4611686018427387904):P7 (a5 m d6) ρ=ξ ((AZ n).map λk=> .int (k:Nat)):=by
 have e:a5 m d6 ρ=ξ [.int n]:=by rw [o0,h];rfl
 rw [a1R,e,AS,a4H (j:=(n:Int)) ⟨by lia,by lia⟩,b7r]
theorem b0y(ps:List PV):a0F (.bor ps)=ξ (.v (.tuple ps)):=Eq.trans rfl rfl
theorem a9A{i:Nat}{m:M}{ρ:b9}{r:d7}{p:PV}{ps:List PV}(h1:m ρ=ξ r)(h2:r.toVal=ξ p)(h3:ρ[i]?=ξ (ξ (.own ps)))(h:ps.length<16777216):C3 i m ρ=ξ (.nx (ρ.set i (ξ (.own (ps++[p]))))):=by
 unfold C3;rw [h1,AS,h2,AS,h3];simp only [sizeLine_eq,if_pos h]
def b2l(A:AK)(s:AC)(u v:AA)(b:Bool):Prop:=∀(prog:AJ) (w:AI) (E:AA->AC->Prop) (Q:AA->AC->Prop),Q (.bool b) s->AF (model prog w) A (richCompare .Lt u v) Q E s
section
open PySem.AutoSeq1 (wpAny_loadPart')
variable {A:AK}{s:AC}
theorem b2l.ints(a b:Int)(t u:Tok):b2l A s (.int a t) (.int b u) (decide (a<b)):=λprog w E Q h=>wpAny_lt_int h
theorem b2l.strs(a b:Str)(t u:Tok):b2l A s (.str a t) (.str b u) (decide (a.cps.toList<b.cps.toList)):=λprog w E Q h=>lt_str h
end
section
variable {X:Cx}{pins:List (AB×Obj)}{σ:L2.St}{H:Hp}{s:AC}
end
section
variable {X:Cx}
end
section
variable {prog:AJ}{w:AI}{A:AK}{R:Result->AC->Prop}{I:AB}{fp wr:List AB}{n:Nat}{P:Nat->AA->Prop}{St:Nat->Heap->Prop}
end
section
variable {prog:AJ}{w:AI}{A:AK}{E:AA->AC->Prop}{s:AC}
end
section
variable {X:Cx}
end
end PU
namespace TS
open PySem PyProof.Rows
abbrev SM(α:Type):=StateT SortSt Sem α
def g(a:Array Keyed)(i:Nat):Keyed:=(a[i]?).getD (Value.none,Value.none)
theorem b0z{a:Array Keyed}{i:Nat}(h:i<a.size):a[i]?=ξ (g a i):=by
 unfold g;rw [getElem?_pos a i h];rfl
theorem b4l{a b:Array Keyed}{i j:Nat}(h:a[i]?=b[j]?):g a i=g b j:=by unfold g;rw [h]
theorem b8a{a:Array Keyed}{i:Nat}(h:i<a.size):g a i∈a.toList:=by
 have:=b0z h;exact Array.mem_toList_iff.mpr (Array.mem_of_getElem? this)
theorem W9{a:Array Keyed}{i:Nat}(h:i<a.size):a.toList[i]?=ξ (g a i):=by
 rw [Array.getElem?_toList];exact b0z h
section
variable {prog:AJ}{w:AI}{A:AK}{E:AA->AC->Prop}{s:AC}
structure Cmp(prog:AJ)(w:AI)(A:AK)(E:AA->AC->Prop)(s:AC)(κ:SortKind)(S:Keyed->Prop)(R:Keyed->Keyed->Bool):Prop where
 lt:∀x y,S x->S y->∀(st:SortSt) (Q:Option Bool->SortSt->Prop),kindOf st=κ->Q (ξ (R x y)) st->wpS (model prog w) A E s (lt' x y) Q st
 tr:∀x y z,S x->S y->S z->R y x=false->R z y=false->R z x=false
 as:∀x y,S x->S y->R x y=true->R y x=false
variable {κ:SortKind}{S:Keyed->Prop}{R:Keyed->Keyed->Bool}
theorem Cmp.rfl'(C:Cmp prog w A E s κ S R){x:Keyed}(hx:S x):R x x=false:=by
 by_cases h:R x x=true
 ·exact C.as x x hx hx h
 ·exact eq_false_of_ne_true h
theorem t4{a:Array Keyed}{i:Nat}(h:i<a.size){Q:Keyed->SortSt->Prop}{st:SortSt}(hq:Q (g a i) st):wpS (model prog w) A E s (elem' a i) Q st:=by
 rw [elem'_eq,b0z h];exact wpS_pure hq
def gal:Bool->Keyed->Array Keyed->Nat->Nat->Nat->SM (Option Nat):=sortPriv% PySem.Builtin.gallop
def byd(left:Bool)(key:Keyed)(arr:Array Keyed)(base i:Nat):SM (Option Bool):=do
 let x<-elem' arr (base+i)
 if left then lt' x key else return (<-lt' key x).map (!·)
theorem b82(lf:Bool)(ky:Keyed)(ar:Array Keyed)(bs m ht:Nat):gal lf ky ar bs m ht=(do
 let mut p:=0
 let mut q:=1
 let mut u:=0
 let mut v:=0
 let ξ r0<-byd lf ky ar bs ht|return ζ
 if r0 then
  let X7:=m - ht
  for _ in [0:m] do
   if q>=X7 then break
   let ξ t<-byd lf ky ar bs (ht+q)|return ζ
   if !t then break
   p:=q
   q:=2*q+1
  u:=ht+p+1
  v:=ht+min q X7
 else
  let X7:=ht+1
  for _ in [0:m] do
   if q>=X7 then break
   let ξ t<-byd lf ky ar bs (ht - q)|return ζ
   if t then break
   p:=q
   q:=2*q+1
  u:=ht+1 - min q X7
  v:=ht - p
 for _ in [0:m] do
  if u>=v then break
  let h:=u+(v - u)/ 2
  let ξ t<-byd lf ky ar bs h|return ζ
  if t then u:=h+1 else v:=h
 return ξ v):=rfl
def bb(R:Keyed->Keyed->Bool)(left:Bool)(key x:Keyed):Bool:=if left then R x key else !R key x
theorem a8K(C:Cmp prog w A E s κ S R){left:Bool}{key:Keyed}{arr:Array Keyed}{base i:Nat}{st:SortSt}{Q:Option Bool->SortSt->Prop}(hk:kindOf st=κ)(hi:base+i<arr.size)(hS:S (g arr (base+i)))(hy:S key)
 (h:Q (ξ (bb R left key (g arr (base+i)))) st):wpS (model prog w) A E s (byd left key arr base i) Q st:=by
 unfold byd
 refine wpS_bind (t4 hi ?_)
 cases left
 ·exact wpS_bind (C.lt _ _ hy hS st _ hk (wpS_pure h))
 ·exact C.lt _ _ hS hy st _ hk h
theorem b5X(C:Cmp prog w A E s κ S R){left:Bool}{key:Keyed}{arr:Array Keyed}{base n hint:Nat}{st:SortSt}{Q:Option Nat->SortSt->Prop}(hk:kindOf st=κ)(hn:base+n<=arr.size)(hh:hint<n)
 (hS:∀i,i<n->S (g arr (base+i))) (hy:S key)
 (mono:∀i j,i<=j->j<n->bb R left key (g arr (base+j))=true->bb R left key (g arr (base+i))=true)
 (h:∀k,k<=n->(∀i,i<k->bb R left key (g arr (base+i))=true)->(∀i,k<=i->i<n->bb R left key (g arr (base+i))=false)->Q (ξ k) st):
 wpS (model prog w) A E s (gal left key arr base n hint) Q st:=by
 rw [b82]
 have mono':∀i j,i<=j->j<n->bb R left key (g arr (base+i))=false->bb R left key (g arr (base+j))=false:=λi j a b c=>by
  cases d:bb R left key (g arr (base+j))
  ·rfl
  ·exact absurd ((mono i j a b d).symm.trans c) (by decide)
 have last:∀u v,u<=v->v<=n->(∀i,i<u->bb R left key (g arr (base+i))=true)->(∀i,v<=i->i<n->bb R left key (g arr (base+i))=false)->
  wpS (model prog w) A E s (forIn [0:n] ((ζ,u,v):Option (Option Nat)×Nat×Nat) λ_ c=>
   if c.2.1>=c.2.2 then pure (ForInStep.done (ζ,c.2.1,c.2.2)) else do
    let t<-byd left key arr base (c.2.1+(c.2.2 - c.2.1)/ 2)
    match t with
    |some t=>if t=true then pure (ForInStep.yield (ζ,c.2.1+(c.2.2 - c.2.1)/ 2+1,c.2.2)) else pure (ForInStep.yield (ζ,c.2.1,c.2.1+(c.2.2 - c.2.1)/ 2))
    |_=>pure (ForInStep.done (ξ ζ,c.2.1,c.2.2)))
   (λc st'=>st'=st/\∃k,c=(ζ,k,k)/\k<=n/\(∀i,i<k->bb R left key (g arr (base+i))=true)/\(∀i,k<=i->i<n->bb R left key (g arr (base+i))=false)) st:=by
  intro u v huv hvn h1 h2
  refine wpS_forRange (I:=λx c st'=>st'=st/\∃u v,c=(ζ,u,v)/\u<=v/\v<=n/\v - u+x<=n/\(∀i,i<u->bb R left key (g arr (base+i))=true)/\(∀i,v<=i->i<n->bb R left key (g arr (base+i))=false)) ?_ ?_ ⟨rfl,u,v,rfl,huv,hvn,by lia,h1,h2⟩
  ·rintro x c st' _ hx ⟨rfl,u,v,rfl,huv,hvn,hux,h1,h2⟩
   dsimp only
   by_cases huv':u>=v
   ·rw [if_pos huv']
    have:u=v:=by lia
    subst this
    exact wpS_pure ⟨rfl,u,rfl,hvn,h1,h2⟩
   ·rw [if_neg huv']
    obtain⟨c,hc,c1,c2⟩:∃c,u+(v - u)/ 2=c/\u<=c/\c<v:=⟨_,rfl,by lia,by lia⟩
    rw [hc]
    refine wpS_bind (a8K C hk (by lia) (hS _ (by lia)) hy ?_)
    cases hb:bb R left key (g arr (base+c))
    ·simp only [AX,if_false]
     exact wpS_pure ⟨rfl,u,_,rfl,by lia,by lia,by lia,h1,λi a b=>mono' _ _ a b hb⟩
    ·simp only [if_true]
     exact wpS_pure ⟨rfl,_,v,rfl,by lia,by lia,by lia,λi a=>mono _ _ (by lia) (by lia) hb,h2⟩
  ·rintro c st' ⟨rfl,u,v,rfl,huv,hvn,hux,h1,h2⟩
   have:u=v:=by lia
   subst this
   exact⟨rfl,u,rfl,hvn,h1,h2⟩
 refine wpS_bind (a8K C hk (by lia) (hS _ hh) hy ?_)
 cases hb:bb R left key (g arr (base+hint))
 ·dsimp only
  simp only [AX,if_false]
  refine wpS_bind (wpS_mono (wpS_forRange (I:=λx c st'=>st'=st/\∃p q,c=(ζ,p,q)/\p<q/\p<=hint/\x+1<=q/\bb R left key (g arr (base+(hint - p)))=false)
   (Q:=λc st'=>st'=st/\∃p q,c=(ζ,p,q)/\p<q/\p<=hint/\bb R left key (g arr (base+(hint - p)))=false/\(q>=hint+1\/(q<=hint/\bb R left key (g arr (base+(hint - q)))=true))) ?_ ?_ ⟨rfl,0,1,rfl,by lia,by lia,by lia,hb⟩) ?_)
  ·rintro x c st' _ hx ⟨rfl,p,q,rfl,hpq,hp,hxq,hbp⟩
   dsimp only
   by_cases hq:q>=hint+1
   ·rw [if_pos hq]
    exact wpS_pure ⟨rfl,p,q,rfl,hpq,hp,hbp,.inl hq⟩
   ·rw [if_neg hq]
    refine wpS_bind (a8K C hk (by lia) (hS _ (by lia)) hy ?_)
    cases hb':bb R left key (g arr (base+(hint - q)))
    ·simp only [AX,if_false]
     exact wpS_pure ⟨rfl,q,_,rfl,by lia,by lia,by lia,hb'⟩
    ·simp only [if_true]
     exact wpS_pure ⟨rfl,p,q,rfl,hpq,hp,hbp,.inr ⟨by lia,hb'⟩⟩
  ·rintro c st' ⟨rfl,p,q,rfl,hpq,hp,hxq,hbp⟩
   exact⟨rfl,p,q,rfl,hpq,hp,hbp,.inl (by lia)⟩
  ·rintro c st' ⟨rfl,p,q,rfl,hpq,hp,hbp,ho⟩
   dsimp only
   refine wpS_bind (wpS_mono (last _ _ ?_ ?_ ?_ ?_) ?_)
   rotate_left 4
   ·rintro c st'' ⟨rfl,k,rfl,hk1,hk2,hk3⟩
    exact wpS_pure (h k hk1 hk2 hk3)
   rotate_left 1
   ·lia
   rotate_left 2
   ·lia
   ·intro i hi
    rcases ho with ho|⟨ho,hb'⟩
    ·lia
    ·exact mono i _ (by lia) (by lia) hb'
   ·exact λi a b=>mono' _ _ a b hbp
 ·dsimp only
  simp only [if_true]
  refine wpS_bind (wpS_mono (wpS_forRange (I:=λx c st'=>st'=st/\∃p q,c=(ζ,p,q)/\p<q/\hint+p<n/\x+1<=q/\bb R left key (g arr (base+(hint+p)))=true)
   (Q:=λc st'=>st'=st/\∃p q,c=(ζ,p,q)/\p<q/\hint+p<n/\bb R left key (g arr (base+(hint+p)))=true/\(q>=n - hint\/(hint+q<n/\bb R left key (g arr (base+(hint+q)))=false))) ?_ ?_ ⟨rfl,0,1,rfl,by lia,by lia,by lia,hb⟩) ?_)
  ·rintro x c st' _ hx ⟨rfl,p,q,rfl,hpq,hp,hxq,hbp⟩
   dsimp only
   by_cases hq:q>=n - hint
   ·rw [if_pos hq]
    exact wpS_pure ⟨rfl,p,q,rfl,hpq,hp,hbp,.inl hq⟩
   ·rw [if_neg hq]
    refine wpS_bind (a8K C hk (by lia) (hS _ (by lia)) hy ?_)
    cases hb':bb R left key (g arr (base+(hint+q)))
    ·simp only [Bool.not_false,if_true]
     exact wpS_pure ⟨rfl,p,q,rfl,hpq,hp,hbp,.inr ⟨by lia,hb'⟩⟩
    ·simp only [Bool.not_true,AX,if_false]
     exact wpS_pure ⟨rfl,q,_,rfl,by lia,by lia,by lia,hb'⟩
  ·rintro c st' ⟨rfl,p,q,rfl,hpq,hp,hxq,hbp⟩
   exact⟨rfl,p,q,rfl,hpq,hp,hbp,.inl (by lia)⟩
  ·rintro c st' ⟨rfl,p,q,rfl,hpq,hp,hbp,ho⟩
   dsimp only
   refine wpS_bind (wpS_mono (last _ _ ?_ ?_ ?_ ?_) ?_)
   rotate_left 4
   ·rintro c st'' ⟨rfl,k,rfl,hk1,hk2,hk3⟩
    exact wpS_pure (h k hk1 hk2 hk3)
   rotate_left 1
   ·lia
   rotate_left 2
   ·lia
   ·exact λi hi=>mono i _ (by lia) (by lia) hbp
   ·intro i a b
    rcases ho with ho|⟨ho,hb'⟩
    ·lia
    ·exact mono' _ _ (by lia) b hb'
end
def Seg(R:Keyed->Keyed->Bool)(a:Array Keyed)(lo hi:Nat):Prop:=∀i j,lo<=i->i<=j->j<hi->R (g a j) (g a i)=false
def Ges(R:Keyed->Keyed->Bool)(a:Array Keyed)(lo hi:Nat):Prop:=∀i j,lo<=i->i<=j->j<hi->R (g a i) (g a j)=false
def Fix(lo:Nat)(a b:Array Keyed):Prop:=∀i,i<lo->g b i=g a i
theorem Fix.refl{lo:Nat}{a:Array Keyed}:Fix lo a a:=λ_ _=>rfl
theorem Fix.trans{lo:Nat}{a b c:Array Keyed}(h:Fix lo a b)(k:Fix lo b c):Fix lo a c:=λi hi=>(k i hi).trans (h i hi)
theorem a1j{a:Array Keyed}{i j:Nat}(hj:j<=a.size)(k:Nat):g (mirror a i j ((j - i)/ 2)) k=if i<=k/\k<j then g a (i+j - 1 - k) else g a k:=by
 have e:=getElem?_mirror_all (i:=i) hj k
 by_cases h:i<=k/\k<j
 ·rw [if_pos h] at e ⊢;exact b4l e
 ·rw [if_neg h] at e ⊢;exact b4l e
theorem a5m{a:Array Keyed}{src d:Nat}(hs:src<a.size)(hd:d<=src)(k:Nat):g (bubble a src d) k=if k=src - d then g a src else if src - d<k/\k<=src then g a (k - 1) else g a k:=by
 have e:=getElem?_bubble hs d hd k
 by_cases h:k=src - d
 ·rw [if_pos h] at e ⊢;exact b4l e
 ·rw [if_neg h] at e ⊢
  by_cases h2:src - d<k/\k<=src
  ·rw [if_pos h2] at e ⊢;exact b4l e
  ·rw [if_neg h2] at e ⊢;exact b4l e
structure B(κ:SortKind)(a₀:Array Keyed)(st:SortSt):Prop where
 perm:(arrOf st).Perm a₀
 kind:kindOf st=κ
 failed:failedOf st=ζ
section
variable {prog:AJ}{w:AI}{A:AK}{E:AA->AC->Prop}{s:AC}
variable {κ:SortKind}{S:Keyed->Prop}{R:Keyed->Keyed->Bool}{a₀:Array Keyed}
theorem B.size{st:SortSt}(h:B κ a₀ st):(arrOf st).size=a₀.size:=h.perm.size_eq
theorem B.set{st:SortSt}(h:B κ a₀ st){xs:Array Keyed}(hp:xs.Perm (arrOf st)):B κ a₀ (setArr st xs):=⟨hp.trans h.perm,h.kind,h.failed⟩
theorem B.sg{st:SortSt}(h:B κ a₀ st)(hS:∀p∈a₀.toList,S p){i:Nat}(hi:i<a₀.size):S (g (arrOf st) i):=
 hS _ ((Array.perm_iff_toList_perm.mp h.perm).mem_iff.mp (b8a (by rw [h.size];exact hi)))
theorem a3k(C:Cmp prog w A E s κ S R)(hS:∀p∈a₀.toList,S p){st:SortSt}(hB:B κ a₀ st){i j:Nat}{Q:Option Bool->SortSt->Prop}(hi:i<a₀.size)(hj:j<a₀.size)
 (h:Q (ξ (R (g (arrOf st) i) (g (arrOf st) j))) st):wpS (model prog w) A E s (ltAt' i j) Q st:=by
 rw [ltAt'_eq]
 refine wpS_bind (wpS_get ?_)
 exact wpS_bind (t4 (by rw [hB.size];exact hi) (wpS_bind (t4 (by rw [hB.size];exact hj) (C.lt _ _ (hB.sg hS hi) (hB.sg hS hj) st Q hB.kind h))))
theorem a6u{st:SortSt}{i j:Nat}{Q:Unit->SortSt->Prop}(h:Q () (setArr st (mirror (arrOf st) i j ((j - i)/ 2)))):wpS (model prog w) A E s (reverseSlice' i j) Q st:=by
 rw [reverseSlice'_eq];exact wpS_modify h
def up(lo a nrem:Nat):SM (Option (Option Nat)×Nat):=
 forIn [a:nrem] ((ζ,a):Option (Option Nat)×Nat) λ_ c=>do
  let t<-ltAt' (lo+c.2) (lo+c.2 - 1)
  match t with
  |some b=>if b=true then pure (.done (ζ,c.2)) else pure (.yield (ζ,c.2+1))
  |_=>pure (.done (ξ ζ,c.2))
theorem b8q(C:Cmp prog w A E s κ S R)(hS:∀p∈a₀.toList,S p){st:SortSt}{lo a nrem:Nat}{Q:Option (Option Nat)×Nat->SortSt->Prop}(hB:B κ a₀ st)(hn:lo+nrem<=a₀.size)(ha:1<=a)(han:a<=nrem)
 (hs:Seg R (arrOf st) lo (lo+a))
 (h:∀n,a<=n->n<=nrem->Seg R (arrOf st) lo (lo+n)->(n=nrem\/R (g (arrOf st) (lo+n)) (g (arrOf st) (lo+n - 1))=true)->Q (ζ,n) st):
 wpS (model prog w) A E s (up lo a nrem) Q st:=by
 unfold up
 refine wpS_forRange (I:=λx c st'=>st'=st/\c=(ζ,x)/\Seg R (arrOf st) lo (lo+x)) ?_ ?_ ⟨rfl,rfl,hs⟩
 ·rintro x c st' hax hxn ⟨rfl,rfl,hs'⟩
  dsimp only
  refine wpS_bind (a3k C hS hB (by lia) (by lia) ?_)
  cases hl:R (g (arrOf st') (lo+x)) (g (arrOf st') (lo+x - 1))
  ·simp only [AX,if_false]
   refine wpS_pure ⟨rfl,rfl,λi j hi hij hj=> ?_⟩
   by_cases hjx:j<lo+x
   ·exact hs' i j hi hij hjx
   ·have:j=lo+x:=by lia
    subst this
    by_cases hi':i=lo+x
    ·subst hi';exact C.rfl' (hB.sg hS (by lia))
    ·exact C.tr _ (g (arrOf st') (lo+x - 1)) _ (hB.sg hS (by lia)) (hB.sg hS (by lia)) (hB.sg hS (by lia)) (hs' i (lo+x - 1) hi (by lia) (by lia)) hl
  ·simp only [if_true]
   exact wpS_pure (h x hax (by lia) hs' (.inr hl))
 ·rintro c st' ⟨rfl,rfl,hs'⟩
  rw [show max a nrem=nrem by lia] at hs' ⊢
  exact h nrem han (AN _) hs' (.inl rfl)
def dn(lo n nrem:Nat):SM (Option (Option Nat)×Nat×Nat):=
 forIn [n:nrem] ((ζ,n,0):Option (Option Nat)×Nat×Nat) λ_ c=>do
  let t<-ltAt' (lo+c.2.1) (lo+c.2.1 - 1)
  match t with
  |some b=>
   if b=true then
    if c.2.2>0 then do
     reverseSlice' (lo+c.2.1 - (c.2.2+1)) (lo+c.2.1)
     pure (.yield (ζ,c.2.1+1,0))
    else pure (.yield (ζ,c.2.1+1,0))
   else do
    let t<-ltAt' (lo+c.2.1 - 1) (lo+c.2.1)
    match t with
    |some b=>if b=true then pure (.done (ζ,c.2.1,c.2.2)) else pure (.yield (ζ,c.2.1+1,c.2.2+1))
    |_=>pure (.done (ξ ζ,c.2.1,c.2.2))
  |_=>pure (.done (ξ ζ,c.2.1,c.2.2))
theorem a0G(C:Cmp prog w A E s κ S R)(hS:∀p∈a₀.toList,S p){st:SortSt}(hB:B κ a₀ st){lo hi i j:Nat}(hh:hi<=a₀.size)(hg:Ges R (arrOf st) lo hi)(h1:lo<=i)(h2:j<=hi)(hij:i<j)
 (he:∀k,i<=k->k<j->R (g (arrOf st) (j - 1)) (g (arrOf st) k)=false):Ges R (mirror (arrOf st) i j ((j - i)/ 2)) lo hi:=by
 have hsz:j<=(arrOf st).size:=by rw [hB.size];lia
 intro k l hk hkl hl
 rw [a1j hsz,a1j hsz]
 split
 ·split
  ·rename_i p q
   refine C.tr _ (g (arrOf st) (j - 1)) _ (hB.sg hS (by lia)) (hB.sg hS (by lia)) (hB.sg hS (by lia)) (he _ (by lia) (by lia)) (hg _ _ (by lia) (by lia) (by lia))
  ·exact hg _ _ (by lia) (by lia) (by lia)
 ·split
  ·exact hg _ _ (by lia) (by lia) (by lia)
  ·exact hg _ _ (by lia) (by lia) (by lia)
theorem W8{a:Array Keyed}{lo i j:Nat}(hj:j<=a.size)(h:lo<=i):Fix lo a (mirror a i j ((j - i)/ 2)):=λk hk=>by
 rw [a1j hj,if_neg (by lia)]
theorem c1v(C:Cmp prog w A E s κ S R)(hS:∀p∈a₀.toList,S p){st:SortSt}{lo n nrem:Nat}{Q:Option (Option Nat)×Nat×Nat->SortSt->Prop}(hB:B κ a₀ st)(hn:lo+nrem<=a₀.size)(h1:1<=n)(hnn:n<=nrem)
 (hs:Ges R (arrOf st) lo (lo+n))
 (h:∀m e st',B κ a₀ st'->pendingOf st'=pendingOf st->Fix lo (arrOf st) (arrOf st')->n<=m->m<=nrem->Ges R (arrOf st') lo (lo+m)->e+1<=m->
  (∀i,lo+m - (e+1)<=i->i<lo+m->R (g (arrOf st') (lo+m - 1)) (g (arrOf st') i)=false)->Q (ζ,m,e) st'):
 wpS (model prog w) A E s (dn lo n nrem) Q st:=by
 unfold dn
 refine wpS_forRange (I:=λx c st'=>∃e,c=(ζ,x,e)/\B κ a₀ st'/\pendingOf st'=pendingOf st/\Fix lo (arrOf st) (arrOf st')/\Ges R (arrOf st') lo (lo+x)/\e+1<=x/\
  (∀i,lo+x - (e+1)<=i->i<lo+x->R (g (arrOf st') (lo+x - 1)) (g (arrOf st') i)=false)) ?_ ?_
  ⟨0,rfl,hB,rfl,Fix.refl,hs,by lia,λi a b=>by rw [show i=lo+n - 1 by lia];exact C.rfl' (hB.sg hS (by lia))⟩
 ·rintro x c st' hax hxn ⟨e,rfl,hB',hp,hf,hg,he,hq⟩
  dsimp only
  have hsz:lo+x<=(arrOf st').size:=by rw [hB'.size];lia
  refine wpS_bind (a3k C hS hB' (by lia) (by lia) ?_)
  cases hl:R (g (arrOf st') (lo+x)) (g (arrOf st') (lo+x - 1))
  ·simp only [AX,if_false]
   refine wpS_bind (a3k C hS hB' (by lia) (by lia) ?_)
   cases hm:R (g (arrOf st') (lo+x - 1)) (g (arrOf st') (lo+x))
   ·simp only [AX,if_false]
    refine wpS_pure ⟨e+1,rfl,hB',hp,hf,λi j hi hij hj=> ?_,by lia,λi h1 h2=> ?_⟩
    ·by_cases hjx:j<lo+x
     ·exact hg i j hi hij hjx
     ·have:j=lo+x:=by lia
      subst this
      by_cases hi':i=lo+x
      ·subst hi';exact C.rfl' (hB'.sg hS (by lia))
      ·exact C.tr _ (g (arrOf st') (lo+x - 1)) _ (hB'.sg hS (by lia)) (hB'.sg hS (by lia)) (hB'.sg hS (by lia)) hm (hg i (lo+x - 1) hi (by lia) (by lia))
    ·rw [show lo+(x+1) - 1=lo+x by lia]
     by_cases hi':i=lo+x
     ·subst hi';exact C.rfl' (hB'.sg hS (by lia))
     ·exact C.tr _ (g (arrOf st') (lo+x - 1)) _ (hB'.sg hS (by lia)) (hB'.sg hS (by lia)) (hB'.sg hS (by lia)) (hq i (by lia) (by lia)) hl
   ·simp only [if_true]
    exact wpS_pure (h x e st' hB' hp hf hax (by lia) hg he hq)
  ·simp only [if_true]
   have hg1:Ges R (arrOf st') lo (lo+(x+1)):=by
    intro i j hi hij hj
    by_cases hjx:j<lo+x
    ·exact hg i j hi hij hjx
    ·have:j=lo+x:=by lia
     subst this
     by_cases hi':i=lo+x
     ·subst hi';exact C.rfl' (hB'.sg hS (by lia))
     ·exact C.tr _ (g (arrOf st') (lo+x - 1)) _ (hB'.sg hS (by lia)) (hB'.sg hS (by lia)) (hB'.sg hS (by lia)) (C.as _ _ (hB'.sg hS (by lia)) (hB'.sg hS (by lia)) hl) (hg i (lo+x - 1) hi (by lia) (by lia))
   by_cases he0:e>0
   ·rw [if_pos he0]
    have hB2:B κ a₀ (setArr st' (mirror (arrOf st') (lo+x - (e+1)) (lo+x) ((lo+x - (lo+x - (e+1)))/ 2))):=hB'.set (mirror_perm _ _ _ _)
    refine wpS_bind (a6u (wpS_pure ⟨0,rfl,hB2,hp,hf.trans (W8 hsz (by lia)),a0G C hS hB' (by lia) hg1 (by lia) (by lia) (by lia) hq,by lia,λi a b=> ?_⟩))
    rw [show i=lo+(x+1) - 1 by lia];exact C.rfl' (hB2.sg hS (by lia))
   ·rw [if_neg he0]
    refine wpS_pure ⟨0,rfl,hB',hp,hf,hg1,by lia,λi a b=> ?_⟩
    rw [show i=lo+(x+1) - 1 by lia];exact C.rfl' (hB'.sg hS (by lia))
 ·rintro c st' ⟨e,rfl,hB',hp,hf,hg,he,hq⟩
  rw [show max n nrem=nrem by lia] at hg he hq ⊢
  exact h nrem e st' hB' hp hf hnn (AN _) hg he hq
theorem c0g(C:Cmp prog w A E s κ S R)(hS:∀p∈a₀.toList,S p){st:SortSt}{lo nrem:Nat}{Q:Option Nat->SortSt->Prop}(hB:B κ a₀ st)(hn:lo+nrem<=a₀.size)(h1:1<=nrem)
 (h:∀m st',B κ a₀ st'->pendingOf st'=pendingOf st->Fix lo (arrOf st) (arrOf st')->1<=m->m<=nrem->Seg R (arrOf st') lo (lo+m)->Q (ξ m) st'):
 wpS (model prog w) A E s (countRun' lo nrem) Q st:=by
 rw [countRun'_eq]
 have one:Seg R (arrOf st) lo (lo+1):=λi j hi hij hj=>by
  have:i=j:=by lia
  subst this;exact C.rfl' (hB.sg hS (by lia))
 have tail:∀m st',B κ a₀ st'->pendingOf st'=pendingOf st->Fix lo (arrOf st) (arrOf st')->1<=m->m<=nrem->Ges R (arrOf st') lo (lo+m)->
  wpS (model prog w) A E s (reverseSlice' lo (lo+m)) (λ_ st2=>wpS (model prog w) A E s (up lo m nrem) (λc st3=>c.1=ζ/\Q (ξ c.2) st3) st2) st':=by
  intro m st' hB' hp hf hm1 hm2 hg
  have hsz:lo+m<=(arrOf st').size:=by rw [hB'.size];lia
  have hB2:B κ a₀ (setArr st' (mirror (arrOf st') lo (lo+m) ((lo+m - lo)/ 2))):=hB'.set (mirror_perm _ _ _ _)
  refine a6u (b8q C hS hB2 hn hm1 hm2 ?_ λn a b c _=>⟨rfl,h n _ hB2 hp (hf.trans (W8 hsz (AN _))) (by lia) b c⟩)
  intro i j hi hij hj
  show R (g (mirror (arrOf st') lo (lo+m) ((lo+m - lo)/ 2)) j) (g (mirror (arrOf st') lo (lo+m) ((lo+m - lo)/ 2)) i)=false
  rw [a1j hsz,a1j hsz,if_pos (by lia),if_pos (by lia)]
  exact hg _ _ (by lia) (by lia) (by lia)
 have desc:∀n st',B κ a₀ st'->pendingOf st'=pendingOf st->Fix lo (arrOf st) (arrOf st')->n+1<=nrem->Ges R (arrOf st') lo (lo+(n+1))->
  wpS (model prog w) A E s (dn lo (n+1) nrem) (λc st2=>c.1=ζ/\c.2.1<=nrem/\1<=c.2.1/\B κ a₀ st2/\pendingOf st2=pendingOf st/\Fix lo (arrOf st) (arrOf st2)/\c.2.2+1<=c.2.1/\Ges R (arrOf st2) lo (lo+c.2.1)/\
   (∀i,lo+c.2.1 - (c.2.2+1)<=i->i<lo+c.2.1->R (g (arrOf st2) (lo+c.2.1 - 1)) (g (arrOf st2) i)=false)) st':=by
  intro n st' hB' hp hf hnn hg
  exact c1v C hS hB' hn (by lia) hnn hg λm e st2 b1 b2 b3 b4 b5 b6 b7 b8=>⟨rfl,b5,(by lia:1<=m),b1,b2.trans hp,hf.trans b3,b7,b6,b8⟩
 refine wpS_bind (b8q C hS hB hn (AN 1) h1 one λn hn1 hn2 hsn ho=> ?_)
 dsimp only
 by_cases hnn:n=nrem
 ·rw [if_pos (by simpa using hnn)]
  exact wpS_pure (h n st hB rfl Fix.refl hn1 hn2 hsn)
 ·rw [if_neg (by simpa using hnn)]
  have hlt:=ho.resolve_left hnn
  have hl':R (g (arrOf st) (lo+n - 1)) (g (arrOf st) (lo+n))=false:=C.as _ _ (hB.sg hS (by lia)) (hB.sg hS (by lia)) hlt
  have hsz:lo+n<=(arrOf st).size:=by rw [hB.size];lia
  have ges:R (g (arrOf st) lo) (g (arrOf st) (lo+n - 1))=false->Ges R (arrOf st) lo (lo+(n+1)):=by
   intro hr i j hi hij hj;have toi:∀i,lo<=i->i<lo+n->R (g (arrOf st) i) (g (arrOf st) (lo+n - 1))=false:=λi hi hj=>
    C.tr _ (g (arrOf st) lo) _ (hB.sg hS (by lia)) (hB.sg hS (by lia)) (hB.sg hS (by lia)) hr (hsn lo i (AN _) hi hj)
   by_cases hjn:j<lo+n
   ·exact C.tr _ (g (arrOf st) (lo+n - 1)) _ (hB.sg hS (by lia)) (hB.sg hS (by lia)) (hB.sg hS (by lia)) (hsn j (lo+n - 1) (by lia) (by lia) (by lia)) (toi i hi (by lia))
   ·have:j=lo+n:=by lia
    subst this
    by_cases hi':i=lo+n
    ·subst hi';exact C.rfl' (hB.sg hS (by lia))
    ·exact C.tr _ (g (arrOf st) (lo+n - 1)) _ (hB.sg hS (by lia)) (hB.sg hS (by lia)) (hB.sg hS (by lia)) hl' (toi i hi (by lia))
  by_cases hgt:n>1
  ·rw [if_pos hgt]
   refine wpS_bind (a3k C hS hB (by lia) (by lia) ?_)
   cases hr:R (g (arrOf st) lo) (g (arrOf st) (lo+n - 1))
   ·simp only [AX,if_false]
    have hB2:B κ a₀ (setArr st (mirror (arrOf st) lo (lo+n) ((lo+n - lo)/ 2))):=hB.set (mirror_perm _ _ _ _)
    refine wpS_bind (a6u (wpS_bind (wpS_lift (wpAny_rule ⟨rfl, ?_⟩))))
    refine wpS_bind (wpS_mono (desc n _ hB2 rfl (W8 hsz (AN _)) (by lia) (a0G C hS hB (by lia) (ges hr) (AN _) (by lia) (by lia) λk a b=>hsn k (lo+n - 1) a (by lia) (by lia))) ?_)
    rintro⟨c,m,e⟩ st2 ⟨rfl,b1,b2,b3,b4,b5,b6,b7,b8⟩
    dsimp only at*
    by_cases he:e>0
    ·rw [if_pos he]
     have hsz2:lo+m<=(arrOf st2).size:=by rw [b3.size];lia
     refine wpS_bind (a6u (wpS_bind (wpS_mono (tail m _ (b3.set (mirror_perm _ _ _ _)) b4 (b5.trans (W8 hsz2 (by lia))) b2 b1 (a0G C hS b3 (by lia) b7 (by lia) (by lia) (by lia) b8)) λ_ st3 q=>wpS_bind (wpS_mono q ?_))))
     rintro⟨c,n'⟩ st4 ⟨rfl,q⟩
     exact wpS_pure q
    ·rw [if_neg he]
     refine wpS_bind (wpS_mono (tail m _ b3 b4 b5 b2 b1 b7) λ_ st3 q=>wpS_bind (wpS_mono q ?_))
     rintro⟨c,n'⟩ st4 ⟨rfl,q⟩
     exact wpS_pure q
   ·simp only [if_true]
    exact wpS_pure (h n st hB rfl Fix.refl hn1 hn2 hsn)
  ·rw [if_neg hgt]
   have:n=1:=by lia
   subst this
   refine wpS_bind (wpS_lift (wpAny_rule ⟨rfl, ?_⟩))
   refine wpS_bind (wpS_mono (desc 1 _ hB rfl Fix.refl (by lia) (ges (by rw [show lo+1 - 1=lo by lia];exact C.rfl' (hB.sg hS (by lia))))) ?_)
   rintro⟨c,m,e⟩ st2 ⟨rfl,b1,b2,b3,b4,b5,b6,b7,b8⟩
   dsimp only at*
   by_cases he:e>0
   ·rw [if_pos he]
    have hsz2:lo+m<=(arrOf st2).size:=by rw [b3.size];lia
    refine wpS_bind (a6u (wpS_bind (wpS_mono (tail m _ (b3.set (mirror_perm _ _ _ _)) b4 (b5.trans (W8 hsz2 (by lia))) b2 b1 (a0G C hS b3 (by lia) b7 (by lia) (by lia) (by lia) b8)) λ_ st3 q=>wpS_bind (wpS_mono q ?_))))
    rintro⟨c,n'⟩ st4 ⟨rfl,q⟩
    exact wpS_pure q
   ·rw [if_neg he]
    refine wpS_bind (wpS_mono (tail m _ b3 b4 b5 b2 b1 b7) λ_ st3 q=>wpS_bind (wpS_mono q ?_))
    rintro⟨c,n'⟩ st4 ⟨rfl,q⟩
    exact wpS_pure q
theorem b08(C:Cmp prog w A E s κ S R){a:Array Keyed}{lo k l:Nat}(hS:∀i,i<=lo+k->S (g a i))(hks:lo+k<a.size)(hlk:l<=k)(hs:Seg R a lo (lo+k))
 (hlo:∀i,i<l->R (g a (lo+k)) (g a (lo+i))=false) (hhi:∀i,l<=i->i<k->R (g a (lo+k)) (g a (lo+i))=true):Seg R (bubble a (lo+k) (lo+k - (lo+l))) lo (lo+(k+1)):=by
 intro i j hi hij hj
 rw [a5m hks (by lia),a5m hks (by lia),show lo+k - (lo+k - (lo+l))=lo+l by lia]
 have low:∀i,lo<=i->i<lo+l->R (g a (lo+k)) (g a i)=false:=λi x y=>by
  have:=hlo (i - lo) (by lia);rwa [show lo+(i - lo)=i by lia] at this
 have high:∀i,lo+l<=i->i<lo+k->R (g a i) (g a (lo+k))=false:=λi x y=>by
  have:=hhi (i - lo) (by lia) (by lia);rw [show lo+(i - lo)=i by lia] at this
  exact C.as _ _ (hS _ (AN _)) (hS _ (BA y)) this
 by_cases e1:i=lo+l
 ·subst e1
  rw [if_pos rfl]
  by_cases e2:j=lo+l
  ·rw [if_pos e2];exact C.rfl' (hS _ (AN _))
  ·rw [if_neg e2,if_pos (by lia)];exact high _ (by lia) (by lia)
 ·rw [if_neg e1]
  by_cases e3:lo+l<i
  ·rw [if_neg (by lia),if_pos (by lia),if_pos (by lia)];exact hs _ _ (by lia) (by lia) (by lia)
  ·rw [if_neg (c:=lo+l<i/\i<=lo+k) (by lia)]
   by_cases e2:j=lo+l
   ·rw [if_pos e2];exact low _ hi (by lia)
   ·rw [if_neg e2]
    by_cases e4:lo+l<j
    ·rw [if_pos (by lia)];exact hs _ _ hi (by lia) (by lia)
    ·rw [if_neg (by lia)];exact hs _ _ hi hij (by lia)
theorem c0f(C:Cmp prog w A E s κ S R)(hS:∀p∈a₀.toList,S p){st:SortSt}{lo n ok:Nat}{Q:Bool->SortSt->Prop}(hB:B κ a₀ st)(hn:lo+n<=a₀.size)(hok:ok<=n)(h1:1<=n)(hs:Seg R (arrOf st) lo (lo+ok))
 (h:∀st',B κ a₀ st'->pendingOf st'=pendingOf st->Fix lo (arrOf st) (arrOf st')->Seg R (arrOf st') lo (lo+n)->Q true st'):
 wpS (model prog w) A E s (binarySort' lo n ok) Q st:=by
 rw [binarySort'_eq]
 refine wpS_bind (wpS_mono (wpS_forRange (I:=λk c st'=>c=(ζ,())/\B κ a₀ st'/\pendingOf st'=pendingOf st/\Fix lo (arrOf st) (arrOf st')/\Seg R (arrOf st') lo (lo+k))
  (Q:=λc st'=>c=(ζ,())/\B κ a₀ st'/\pendingOf st'=pendingOf st/\Fix lo (arrOf st) (arrOf st')/\Seg R (arrOf st') lo (lo+n)) ?_ ?_ ⟨rfl,hB,rfl,Fix.refl, ?_⟩) ?_)
 ·rintro k c st' hk1 hk2 ⟨rfl,hB',hp,hf,hs'⟩
  dsimp only
  refine wpS_bind (wpS_mono (wpS_forRange (I:=λx c st2=>st2=st'/\∃l r,c=(ζ,l,r)/\l<=r/\r<=k/\r - l+x<=k/\
   (∀i,i<l->R (g (arrOf st') (lo+k)) (g (arrOf st') (lo+i))=false)/\(∀i,r<=i->i<k->R (g (arrOf st') (lo+k)) (g (arrOf st') (lo+i))=true))
   (Q:=λc st2=>st2=st'/\∃l,c=(ζ,l,l)/\l<=k/\
    (∀i,i<l->R (g (arrOf st') (lo+k)) (g (arrOf st') (lo+i))=false)/\(∀i,l<=i->i<k->R (g (arrOf st') (lo+k)) (g (arrOf st') (lo+i))=true)) ?_ ?_ ⟨rfl,0,k,rfl,by lia,by lia,by lia,λi a=>by lia,λi a b=>by lia⟩) ?_)
  ·rintro x c st2 _ hx ⟨rfl,l,r,rfl,hlr,hrk,hm,hlo,hhi⟩
   dsimp only
   by_cases hge:l>=r
   ·rw [if_pos hge]
    have:l=r:=by lia
    subst this
    exact wpS_pure ⟨rfl,l,rfl,hrk,hlo,hhi⟩
   ·rw [if_neg hge]
    obtain⟨c,hc,c1,c2⟩:∃c,(l+r)/ 2=c/\l<=c/\c<r:=⟨_,rfl,by lia,by lia⟩
    rw [hc]
    refine wpS_bind (a3k C hS hB' (by lia) (by lia) ?_)
    cases hl:R (g (arrOf st2) (lo+k)) (g (arrOf st2) (lo+c))
    ·simp only [AX,if_false]
     refine wpS_pure ⟨rfl,c+1,r,rfl,by lia,by lia,by lia,λi a=> ?_,hhi⟩
     exact C.tr _ (g (arrOf st2) (lo+c)) _ (hB'.sg hS (by lia)) (hB'.sg hS (by lia)) (hB'.sg hS (by lia)) (hs' _ _ (by lia) (by lia) (by lia)) hl
    ·simp only [if_true]
     refine wpS_pure ⟨rfl,l,c,rfl,by lia,by lia,by lia,hlo,λi a b=> ?_⟩
     cases hi:R (g (arrOf st2) (lo+k)) (g (arrOf st2) (lo+i))
     ·exact absurd (C.tr _ (g (arrOf st2) (lo+i)) _ (hB'.sg hS (by lia)) (hB'.sg hS (by lia)) (hB'.sg hS (by lia)) (hs' (lo+c) (lo+i) (by lia) (by lia) (by lia)) hi) (by rw [hl];decide)
     ·rfl
  ·rintro c st2 ⟨rfl,l,r,rfl,hlr,hrk,hm,hlo,hhi⟩
   have:l=r:=by lia
   subst this
   exact⟨rfl,l,rfl,hrk,hlo,hhi⟩
  ·rintro c st2 ⟨rfl,l,rfl,hlk,hlo,hhi⟩
   dsimp only
   rw [moveDown'_eq]
   have hks:lo+k<(arrOf st2).size:=by rw [hB'.size];lia
   refine wpS_bind (wpS_modify (wpS_pure ⟨rfl,hB'.set (bubble_perm _ _ _),hp,hf.trans ?_, ?_⟩))
   ·intro i hi
    show g (bubble (arrOf st2) (lo+k) (lo+k - (lo+l))) i=_
    rw [a5m hks (by lia),if_neg (by lia),if_neg (by lia)]
   ·exact b08 C (λi hi=>hB'.sg hS (by lia)) hks hlk hs' hlo hhi
 ·rintro c st' ⟨rfl,hB',hp,hf,hs'⟩
  rw [show max (max ok 1) n=n by lia] at hs'
  exact⟨rfl,hB',hp,hf,hs'⟩
 ·by_cases hk:ok=0
  ·subst hk
   intro i j hi hij hj
   have:i=j:=by lia
   subst this;exact C.rfl' (hB.sg hS (by lia))
  ·rw [show max ok 1=ok by lia];exact hs
 ·rintro c st' ⟨rfl,hB',hp,hf,hs'⟩
  exact wpS_pure (h st' hB' hp hf hs')
end
def le(R:Keyed->Keyed->Bool)(x y:Keyed):Prop:=R y x=false
def Mg(R:Keyed->Keyed->Bool)(W out la lb:List Keyed):Prop:=(out++la).Pairwise (le R)/\(out++lb).Pairwise (le R)/\(out++(la++lb)).Perm W
section
variable {R:Keyed->Keyed->Bool}{W out la lb xs:List Keyed}
theorem Mg.takeA(h:Mg R W out (xs++la) lb)(k:∀x∈xs,∀y∈lb,le R x y):Mg R W (out++xs) la lb:=by
 obtain⟨h1,h2,h3⟩:=h;have e1:=List.pairwise_append.mp (show((out++xs)++la).Pairwise (le R) by rw [List.append_assoc];exact h1)
 have e2:=List.pairwise_append.mp h2;refine⟨by rw [List.append_assoc];exact h1,List.pairwise_append.mpr ⟨e1.1,e2.2.1,λx hx y hy=> ?_⟩,by rw [List.append_assoc,<-List.append_assoc xs];exact h3⟩
 rcases Ar.mp hx with hx|hx
 ·exact e2.2.2 x hx y hy
 ·exact k x hx y hy
theorem Mg.swap(h:Mg R W out la lb):Mg R W out lb la:=⟨h.2.1,h.1,(List.Perm.append_left out List.perm_append_comm).trans h.2.2⟩
theorem Mg.takeB(h:Mg R W out la (xs++lb))(k:∀x∈xs,∀y∈la,le R x y):Mg R W (out++xs) la lb:=(h.swap.takeA k).swap
def Y7(R:Keyed->Keyed->Bool)(W r:List Keyed):Prop:=r.Pairwise (le R)/\r.Perm W
theorem Mg.doneB(h:Mg R W out la []):Y7 R W (out++la):=⟨h.1,by have:=h.2.2;rwa [Ad] at this⟩
theorem Mg.doneA(h:Mg R W out [] lb):Y7 R W (out++lb):=⟨h.2.1,h.2.2⟩
theorem Mg.last{x:Keyed}(h:Mg R W out [x] lb)(k:∀y∈lb,le R y x):Y7 R W ((out++lb)++[x]):=by
 obtain⟨h1,h2,h3⟩:=h;have e1:=List.pairwise_append.mp h1;refine⟨List.pairwise_append.mpr ⟨h2,e1.2.1,λy hy z hz=> ?_⟩, ?_⟩
 ·cases List.mem_singleton.mp hz;rcases Ar.mp hy with hy|hy
  ·exact e1.2.2 y hy x (List.mem_singleton.mpr rfl)
  ·exact k y hy
 ·rw [List.append_assoc];exact(List.Perm.append_left out List.perm_append_comm).trans h3
end
theorem a1L{a:Array Keyed}{i:Nat}(h:i<a.size):a.toList.drop i=g a i::a.toList.drop (i+1):=by
 have h':i<a.toList.length:=h;rw [List.drop_eq_getElem_cons h']
 congr 1
 have:=W9 h;rw [Ai h'] at this;exact Option.some.inj this
theorem a5D{a:Array Keyed}{i:Nat}{x:Keyed}(h:x∈a.toList.drop i):∃j,i<=j/\j<a.size/\x=g a j:=by
 obtain⟨k,hk,e⟩:=List.mem_iff_getElem.mp h;have hk':i+k<a.size:=by rw [List.length_drop] at hk;have:a.toList.length=a.size:=rfl;lia
 refine⟨i+k,by lia,hk', ?_⟩
 have e2:=W9 hk';rw [List.getElem_drop] at e;rw [Ai (show i+k<a.toList.length from hk')] at e2;exact e.symm.trans (Option.some.inj e2)
theorem X0{a:Array Keyed}{i k:Nat}{x:Keyed}(h:x∈(a.toList.drop i).take k)(hk:i+k<=a.size):∃j,j<k/\x=g a (i+j):=by
 obtain⟨q,hq,e⟩:=List.mem_iff_getElem.mp h;rw [List.length_take,List.length_drop] at hq;rw [List.getElem_take,List.getElem_drop] at e;refine⟨q,by lia, ?_⟩
 have hk':i+q<a.size:=by lia
 have e2:=W9 hk';rw [Ai (show i+q<a.toList.length from hk')] at e2;exact e.symm.trans (Option.some.inj e2)
theorem E2(a:Array Keyed)(i j:Nat):(a.extract i j).toList=(a.toList.drop i).take (j - i):=by
 rw [Array.toList_extract,List.extract_eq_take_drop]
theorem a4B{a:Array Keyed}{i:Nat}:(a.extract i a.size).toList=a.toList.drop i:=by
 rw [E2,List.take_of_length_le];rw [List.length_drop];exact AN _
section
variable {prog:AJ}{w:AI}{A:AK}{E:AA->AC->Prop}{s:AC}
variable {κ:SortKind}{S:Keyed->Prop}{R:Keyed->Keyed->Bool}
theorem a8L(C:Cmp prog w A E s κ S R){key:Keyed}{arr:Array Keyed}{base n hint:Nat}{st:SortSt}{Q:Option Nat->SortSt->Prop}(hk:kindOf st=κ)(hn:base+n<=arr.size)(hh:hint<n)
 (hS:∀i,i<n->S (g arr (base+i))) (hy:S key) (hs:Seg R arr base (base+n))
 (h:∀k,k<=n->(∀i,i<k->le R (g arr (base+i)) key)->(∀i,k<=i->i<n->R key (g arr (base+i))=true)->Q (ξ k) st):
 wpS (model prog w) A E s (gal false key arr base n hint) Q st:=by
 refine b5X C hk hn hh hS hy (λi j hij hj e=> ?_) λk k1 k2 k3=>h k k1 (λi hi=> ?_) (λi a b=> ?_)
 ·have e':R key (g arr (base+j))=false:=by simpa [bb] using e
  have:R key (g arr (base+i))=false:=C.tr _ (g arr (base+j)) _ (hS _ (by lia)) (hS _ hj) hy (hs _ _ (by lia) (by lia) (by lia)) e'
  simpa [bb] using this
 ·exact(by simpa [bb] using k2 i hi:R key (g arr (base+i))=false)
 ·simpa [bb] using k3 i a b
theorem a8M(C:Cmp prog w A E s κ S R){key:Keyed}{arr:Array Keyed}{base n hint:Nat}{st:SortSt}{Q:Option Nat->SortSt->Prop}(hk:kindOf st=κ)(hn:base+n<=arr.size)(hh:hint<n)
 (hS:∀i,i<n->S (g arr (base+i))) (hy:S key) (hs:Seg R arr base (base+n))
 (h:∀k,k<=n->(∀i,i<k->R (g arr (base+i)) key=true)->(∀i,k<=i->i<n->le R key (g arr (base+i)))->Q (ξ k) st):
 wpS (model prog w) A E s (gal true key arr base n hint) Q st:=by
 refine b5X C hk hn hh hS hy (λi j hij hj e=> ?_) λk k1 k2 k3=>h k k1 (λi hi=> ?_) (λi a b=> ?_)
 ·have e':R (g arr (base+j)) key=true:=by simpa [bb] using e
  cases hi:R (g arr (base+i)) key
  ·have:=C.tr _ (g arr (base+i)) _ hy (hS _ (by lia)) (hS _ hj) hi (hs _ _ (by lia) (by lia) (by lia))
   rw [this] at e';cases e'
  ·simpa [bb] using hi
 ·simpa [bb] using k2 i hi
 ·exact(by simpa [bb] using k3 i a b:R (g arr (base+i)) key=false)
structure Sm(st st':SortSt):Prop where
 k:kindOf st'=kindOf st
 a:arrOf st'=arrOf st
 p:pendingOf st'=pendingOf st
 f:failedOf st'=failedOf st
theorem Sm.refl{st:SortSt}:Sm st st:=⟨rfl,rfl,rfl,rfl⟩
def b3g:Nat->SM Unit:=sortPriv% PySem.Builtin.setMinGallop
theorem b7u(k:Nat):b3g k=modify λst=>SortSt.mk' (kindOf st) (arrOf st) (pendingOf st) k (failedOf st):=rfl
theorem a4M{k:Nat}{st₀ st:SortSt}{Q:Unit->SortSt->Prop}(m:Sm st₀ st)(h:∀st',Sm st₀ st'->Q () st'):wpS (model prog w) A E s (b3g k) Q st:=by
 rw [b7u];exact wpS_modify (h _ ⟨m.k,m.a,m.p,m.f⟩)
def mLo:Array Keyed->Array Keyed->SM (Array Keyed):=sortPriv% PySem.Builtin.mergeLo
def mHi:Array Keyed->Array Keyed->SM (Array Keyed):=sortPriv% PySem.Builtin.mergeHi
def rs(a b o:Array Keyed)(i j:Nat):Array Keyed:=o++a.extract i a.size++b.extract j b.size
def D(R:Keyed->Keyed->Bool)(a b o:Array Keyed)(i j:Nat):Prop:=Mg R (a.toList++b.toList) o.toList (a.toList.drop i) (b.toList.drop j)
structure Two(S:Keyed->Prop)(R:Keyed->Keyed->Bool)(a b:Array Keyed):Prop where
 Sa:∀i,i<a.size->S (g a i)
 Sb:∀i,i<b.size->S (g b i)
 sa:Seg R a 0 a.size
 sb:Seg R b 0 b.size
 pa:0<a.size
 pb:0<b.size
 lo:∀i,i<a.size->le R (g b 0) (g a i)
 hi:∀j,j<b.size->le R (g b j) (g a (a.size - 1))
theorem D.takeAk(C:Cmp prog w A E s κ S R){a b o:Array Keyed}{i j k:Nat}(T:Two S R a b)(h:D R a b o i j)(hk:i+k<=a.size)(hj:j<b.size)(q:∀l,l<k->le R (g a (i+l)) (g b j)):
 D R a b (o++a.extract i (i+k)) (i+k) j:=by
 unfold D at h ⊢
 rw [Array.toList_append,E2,show i+k - i=k by lia]
 refine Mg.takeA (by rw [<-List.drop_drop,List.take_append_drop];exact h) λx hx y hy=> ?_
 obtain⟨l,hl,rfl⟩:=X0 hx hk
 obtain⟨m,hm,hm2,rfl⟩:=a5D hy
 exact C.tr _ (g b j) _ (T.Sa _ (by lia)) (T.Sb _ hj) (T.Sb _ hm2) (q l hl) (T.sb j m (by lia) hm hm2)
theorem D.takeBk(C:Cmp prog w A E s κ S R){a b o:Array Keyed}{i j k:Nat}(T:Two S R a b)(h:D R a b o i j)(hk:j+k<=b.size)(hi:i<a.size)(q:∀l,l<k->le R (g b (j+l)) (g a i)):
 D R a b (o++b.extract j (j+k)) i (j+k):=by
 unfold D at h ⊢
 rw [Array.toList_append,E2,show j+k - j=k by lia]
 refine Mg.takeB (by rw [<-List.drop_drop,List.take_append_drop];exact h) λx hx y hy=> ?_
 obtain⟨l,hl,rfl⟩:=X0 hx hk
 obtain⟨m,hm,hm2,rfl⟩:=a5D hy
 exact C.tr _ (g a i) _ (T.Sb _ (by lia)) (T.Sa _ hi) (T.Sa _ hm2) (q l hl) (T.sa i m (by lia) hm hm2)
theorem a5X{o a:Array Keyed}{i:Nat}(h:i<a.size):o.push (g a i)=o++a.extract i (i+1):=by
 apply Array.toList_inj.mp;rw [Array.toList_push,Array.toList_append,E2,a1L h,show i+1 - i=1 by lia]
 rfl
theorem D.takeA(C:Cmp prog w A E s κ S R){a b o:Array Keyed}{i j:Nat}(T:Two S R a b)(h:D R a b o i j)(hi:i<a.size)(hj:j<b.size)(q:le R (g a i) (g b j)):D R a b (o.push (g a i)) (i+1) j:=by
 rw [a5X hi];exact h.takeAk C T (by lia) hj λl hl=>by rw [show i+l=i by lia];exact q
theorem D.takeB(C:Cmp prog w A E s κ S R){a b o:Array Keyed}{i j:Nat}(T:Two S R a b)(h:D R a b o i j)(hi:i<a.size)(hj:j<b.size)(q:le R (g b j) (g a i)):D R a b (o.push (g b j)) i (j+1):=by
 rw [a5X hj];exact h.takeBk C T (by lia) hi λl hl=>by rw [show j+l=j by lia];exact q
theorem D.done{a b o:Array Keyed}{i j:Nat}(h:D R a b o i j)(e:i=a.size\/j=b.size):Y7 R (a.toList++b.toList) (rs a b o i j).toList:=by
 unfold rs;rw [Array.toList_append,Array.toList_append,a4B,a4B];unfold D at h;have nil:∀c:Array Keyed,c.toList.drop c.size=[]:=λc=>List.drop_eq_nil_of_le (AN _);rcases e with rfl|rfl
 ·rw [nil] at h ⊢;rw [Ad];exact h.doneA
 ·rw [nil] at h ⊢;rw [Ad];exact h.doneB
theorem D.last{a b o:Array Keyed}{i j:Nat}(T:Two S R a b)(h:D R a b o i j)(e:i+1=a.size):Y7 R (a.toList++b.toList) (rs b a o j i).toList:=by
 unfold rs;rw [Array.toList_append,Array.toList_append,a4B,a4B];unfold D at h;have e1:a.toList.drop i=[g a (a.size - 1)]:=by
  rw [a1L (by lia),e,show i=a.size - 1 by lia]
  congr 1
  exact List.drop_eq_nil_of_le (AN _)
 rw [e1] at h ⊢;exact h.last λy hy=>by
  obtain⟨m,hm,hm2,rfl⟩:=a5D hy;exact T.hi m hm2
abbrev LoT:=Option (Array Keyed)×Array Keyed×Nat×Nat×Nat×Nat×Nat
def loC(a b o:Array Keyed)(i j mg u v:Nat):StateT SortSt Sem (ForInStep LoT):=do
 let y<-elem' a i
 if i+1+1==a.size then
  pure (.done (ξ (rs b a (o.push y) j (i+1)),o.push y,i+1,j,mg,u,v))
 else if u<7 && v<7 then
  pure (.done (ζ,o.push y,i+1,j,mg,u,v))
 else
  pure (.yield (ζ,o.push y,i+1,j,mg,u,v))
def loB(a b o:Array Keyed)(i j mg u v:Nat):StateT SortSt Sem (ForInStep LoT):=do
 let x<-elem' b j
 if j+1==b.size then
  pure (.done (ξ (rs a b (o.push x) i (j+1)),o.push x,i,j+1,mg,u,v))
 else do
  let y<-elem' a i
  let z<-gal true y b (j+1) (b.size - (j+1)) 0
  match z with
  |some k=>
   if k>0 then
    if j+1+k==b.size then
     pure (.done (ξ (rs a b (o.push x++b.extract (j+1) (j+1+k)) i (j+1+k)),o.push x++b.extract (j+1) (j+1+k),i,j+1+k,mg,u,k))
    else loC a b (o.push x++b.extract (j+1) (j+1+k)) i (j+1+k) mg u k
   else loC a b (o.push x) i (j+1) mg u k
  |_=>pure (.done (ξ (rs a b (o.push x) i (j+1)),o.push x,i,j+1,mg,u,v))
def loA(a b o:Array Keyed)(i j mg u v:Nat):StateT SortSt Sem (ForInStep LoT):=do
 b3g mg
 let x<-elem' b j
 let z<-gal false x a i (a.size - i) 0
 match z with
 |some k=>
  if k>0 then
   if i+k+1==a.size then
    pure (.done (ξ (rs b a (o++a.extract i (i+k)) j (i+k)),o++a.extract i (i+k),i+k,j,mg,k,v))
   else if i+k==a.size then
    pure (.done (ξ (rs a b (o++a.extract i (i+k)) (i+k) j),o++a.extract i (i+k),i+k,j,mg,k,v))
   else loB a b (o++a.extract i (i+k)) (i+k) j mg k v
  else loB a b o i j mg k v
 |_=>pure (.done (ξ (rs a b o i j),o,i,j,mg,u,v))
def LoQ(R:Keyed->Keyed->Bool)(a b:Array Keyed)(st:SortSt)(x₀ x:Nat):ForInStep LoT->SortSt->Prop:=λr st'=>match r with
 | .done c=>Sm st st'/\((∃r,c.1=ξ r/\Y7 R (a.toList++b.toList) r.toList)\/(c.1=ζ/\D R a b c.2.1 c.2.2.1 c.2.2.2.1/\c.2.2.1+1<a.size/\c.2.2.2.1<b.size/\x₀+1<=c.2.2.1+c.2.2.2.1))
 | .yield c=>c.1=ζ/\Sm st st'/\D R a b c.2.1 c.2.2.1 c.2.2.2.1/\c.2.2.1+1<a.size/\c.2.2.2.1<b.size/\x₀+(x+1)<=c.2.2.1+c.2.2.2.1
section
variable {a b o:Array Keyed}{st st':SortSt}{i j mg u v x₀ x:Nat}
theorem b53(C:Cmp prog w A E s κ S R)(T:Two S R a b)(m:Sm st st')(d:D R a b o i j)(hi:i+1<a.size)(hj:j<b.size)(q:le R (g a i) (g b j))(hp:x₀+x<=i+j):wpS (model prog w) A E s (loC a b o i j mg u v) (LoQ R a b st x₀ x) st':=by
 unfold loC;refine wpS_bind (t4 (by lia) ?_)
 have d4:=D.takeA C T d (by lia) hj q
 by_cases e6:i+1+1=a.size
 ·rw [if_pos (by simpa using e6)]
  exact wpS_pure ⟨m,.inl ⟨_,rfl,d4.last T e6⟩⟩
 rw [if_neg (by simpa using e6)]
 split
 ·exact wpS_pure ⟨m,.inr ⟨rfl,d4,(show i+1+1<a.size by lia),hj,(show x₀+1<=i+1+j by lia)⟩⟩
 ·exact wpS_pure ⟨rfl,m,d4,(show i+1+1<a.size by lia),hj,(show x₀+(x+1)<=i+1+j by lia)⟩
theorem b52(C:Cmp prog w A E s κ S R)(T:Two S R a b)(hk:kindOf st=κ)(m:Sm st st')(d:D R a b o i j)(hi:i+1<a.size)(hj:j<b.size)(q:le R (g b j) (g a i))(hp:x₀+x<=i+j):wpS (model prog w) A E s (loB a b o i j mg u v) (LoQ R a b st x₀ x) st':=by
 unfold loB;have d3:=D.takeB C T d (by lia) hj q
 refine wpS_bind (t4 hj ?_)
 by_cases e5:j+1=b.size
 ·rw [if_pos (by simpa using e5)]
  exact wpS_pure ⟨m,.inl ⟨_,rfl,d3.done (.inr e5)⟩⟩
 rw [if_neg (by simpa using e5)]
 refine wpS_bind (t4 (by lia) ?_)
 refine wpS_bind (a8M C (m.k.trans hk) (by lia) (by lia) (λl hl=>T.Sb _ (by lia)) (T.Sa _ (by lia)) (λp q h1 h2 h3=>T.sb p q (by lia) h2 (by lia)) λk' q1 q2 q3=> ?_)
 dsimp only
 by_cases hk':k'>0
 ·rw [if_pos hk'];have d5:=d3.takeBk C T (k:=k') (by lia) (by lia) λl hl=>C.as _ _ (T.Sb _ (by lia)) (T.Sa _ (by lia)) (q2 l hl)
  by_cases e7:j+1+k'=b.size
  ·rw [if_pos (by simpa using e7)]
   exact wpS_pure ⟨m,.inl ⟨_,rfl,d5.done (.inr e7)⟩⟩
  rw [if_neg (by simpa using e7)]
  exact b53 C T m d5 hi (by lia) (q3 k' (AN _) (by lia)) (by lia)
 ·rw [if_neg hk'];exact b53 C T m d3 hi (by lia) (by have:=q3 0 (by lia) (by lia);rwa [Nat.add_zero] at this) (by lia)
theorem b51(C:Cmp prog w A E s κ S R)(T:Two S R a b)(hk:kindOf st=κ)(m:Sm st st')(d:D R a b o i j)(hi:i+1<a.size)(hj:j<b.size)(hp:x₀+x<=i+j):wpS (model prog w) A E s (loA a b o i j mg u v) (LoQ R a b st x₀ x) st':=by
 unfold loA;refine wpS_bind (a4M m λst3 m3=> ?_);refine wpS_bind (t4 hj ?_);refine wpS_bind (a8L C (m3.k.trans hk) (by lia) (by lia) (λl hl=>T.Sa _ (by lia)) (T.Sb _ hj) (λp q h1 h2 h3=>T.sa p q (by lia) h2 (by lia)) λk k1 k2 k3=> ?_)
 dsimp only
 by_cases hk0:k>0
 ·rw [if_pos hk0];have d2:=d.takeAk C T (k:=k) (by lia) hj k2
  by_cases e3:i+k+1=a.size
  ·rw [if_pos (by simpa using e3)]
   exact wpS_pure ⟨m3,.inl ⟨_,rfl,d2.last T e3⟩⟩
  rw [if_neg (by simpa using e3)]
  by_cases e4:i+k=a.size
  ·rw [if_pos (by simpa using e4)]
   exact wpS_pure ⟨m3,.inl ⟨_,rfl,d2.done (.inl e4)⟩⟩
  rw [if_neg (by simpa using e4)]
  exact b52 C T hk m3 d2 (by lia) hj (C.as _ _ (T.Sb _ hj) (T.Sa _ (by lia)) (k3 k (AN _) (by lia))) (by lia)
 ·rw [if_neg hk0];exact b52 C T hk m3 d hi hj (C.as _ _ (T.Sb _ hj) (T.Sa _ (by lia)) (by have:=k3 0 (by lia) (by lia);rwa [Nat.add_zero] at this)) hp
end
abbrev LoV:=Option (Array Keyed)×Array Keyed×Nat×Nat×Nat×Nat
abbrev LoU:=Option (Array Keyed)×Array Keyed×Nat×Nat×Nat
def loS(a b:Array Keyed)(mg:Nat)(c:LoV):StateT SortSt Sem (ForInStep LoV):=do
 let y<-elem' b c.2.2.2.1
 let x<-elem' a c.2.2.1
 let t<-lt' y x
 match t with
 |some t=>
  if t then
   let z<-elem' b c.2.2.2.1
   if c.2.2.2.1+1==b.size then
    pure (.done (ξ (rs a b (c.2.1.push z) c.2.2.1 (c.2.2.2.1+1)),c.2.1.push z,c.2.2.1,c.2.2.2.1+1,0,c.2.2.2.2.2+1))
   else if c.2.2.2.2.2+1>=mg then
    pure (.done (ζ,c.2.1.push z,c.2.2.1,c.2.2.2.1+1,0,c.2.2.2.2.2+1))
   else pure (.yield (ζ,c.2.1.push z,c.2.2.1,c.2.2.2.1+1,0,c.2.2.2.2.2+1))
  else
   let z<-elem' a c.2.2.1
   if c.2.2.1+1+1==a.size then
    pure (.done (ξ (rs b a (c.2.1.push z) c.2.2.2.1 (c.2.2.1+1)),c.2.1.push z,c.2.2.1+1,c.2.2.2.1,c.2.2.2.2.1+1,0))
   else if c.2.2.2.2.1+1>=mg then
    pure (.done (ζ,c.2.1.push z,c.2.2.1+1,c.2.2.2.1,c.2.2.2.2.1+1,0))
   else pure (.yield (ζ,c.2.1.push z,c.2.2.1+1,c.2.2.2.1,c.2.2.2.2.1+1,0))
 |_=>pure (.done (ξ (rs a b c.2.1 c.2.2.1 c.2.2.2.1),c.2.1,c.2.2.1,c.2.2.2.1,c.2.2.2.2.1,c.2.2.2.2.2))
def loG(a b:Array Keyed)(c:LoT):StateT SortSt Sem (ForInStep LoT):=
 if c.2.2.2.2.1>1 then loA a b c.2.1 c.2.2.1 c.2.2.2.1 (c.2.2.2.2.1 - 1) c.2.2.2.2.2.1 c.2.2.2.2.2.2 else loA a b c.2.1 c.2.2.1 c.2.2.2.1 c.2.2.2.2.1 c.2.2.2.2.2.1 c.2.2.2.2.2.2
def loT(a b:Array Keyed)(c:LoU):StateT SortSt Sem (ForInStep LoU):=do
 let r<-forIn [0:a.size+b.size] ((ζ,c.2.1,c.2.2.1,c.2.2.2.1,0,0):LoV) λ_ r=>loS a b c.2.2.2.2 r
 match r.1 with
 |none=>do
  rule "list.sort.gallop"
  let q<-forIn [0:a.size+b.size] ((ζ,r.2.1,r.2.2.1,r.2.2.2.1,c.2.2.2.2+1,r.2.2.2.2.1,r.2.2.2.2.2):LoT) λ_ q=>loG a b q
  match q.1 with
  |none=>do
   b3g (q.2.2.2.2.1+1)
   pure (.yield (ζ,q.2.1,q.2.2.1,q.2.2.2.1,q.2.2.2.2.1+1))
  |some x=>pure (.done (ξ x,q.2.1,q.2.2.1,q.2.2.2.1,q.2.2.2.2.1))
 |some x=>pure (.done (ξ x,r.2.1,r.2.2.1,r.2.2.2.1,c.2.2.2.2))
theorem b9e(p q:Array Keyed):mLo p q=(do
 rule "list.sort.merge-lo"
 let x<-elem' q 0
 if 1==q.size then
  pure (rs p q #[x] 0 1)
 else if 0+1==p.size then
  pure (rs q p #[x] 1 0)
 else do
  let z<-get
  let r<-forIn [0:p.size+q.size] ((ζ, #[x],0,1,gallopOf z):LoU) λ_ c=>loT p q c
  match r.1 with
  |none=>unsupported "internal:list.sort.merge-bound"
  |some v=>pure v):=by kernel_rfl
abbrev LoI(R:Keyed->Keyed->Bool)(a b:Array Keyed)(st:SortSt)(k:Nat)(c:Option (Array Keyed))(o:Array Keyed)(i j:Nat)(st':SortSt):Prop:=c=ζ/\Sm st st'/\D R a b o i j/\i+1<a.size/\j<b.size/\k<=i+j
abbrev LoE(R:Keyed->Keyed->Bool)(a b:Array Keyed)(st:SortSt)(k:Nat)(c:Option (Array Keyed))(o:Array Keyed)(i j:Nat)(st':SortSt):Prop:=Sm st st'/\((∃r,c=ξ r/\Y7 R (a.toList++b.toList) r.toList)\/(c=ζ/\D R a b o i j/\i+1<a.size/\j<b.size/\k<=i+j))
section
variable {a b:Array Keyed}{st st':SortSt}{x₀ x mg:Nat}
theorem c0l(C:Cmp prog w A E s κ S R)(T:Two S R a b)(hk:kindOf st=κ){c:LoV}(h:LoI R a b st x₀ c.1 c.2.1 c.2.2.1 c.2.2.2.1 st'):wpS (model prog w) A E s (loS a b mg c) (λr st'=>match r with| .done c'=>LoE R a b st x₀ c'.1 c'.2.1 c'.2.2.1 c'.2.2.2.1 st'| .yield c'=>LoI R a b st x₀ c'.1 c'.2.1 c'.2.2.1 c'.2.2.2.1 st') st':=by
 obtain⟨c,o,i,j,u,v⟩:=c;obtain⟨hc,m,d,hi,hj,hp⟩:=h;dsimp only at*;unfold loS;dsimp only;refine wpS_bind (t4 hj (wpS_bind (t4 (by lia) (wpS_bind (C.lt _ _ (T.Sb _ hj) (T.Sa _ (by lia)) st' _ (m.k.trans hk) ?_)))))
 dsimp only;cases hl:R (g b j) (g a i)
 ·simp only [AX,if_false];refine wpS_bind (t4 (by lia) ?_)
  have d2:=D.takeA C T d (by lia) hj hl
  by_cases e3:i+1+1=a.size
  ·rw [if_pos (by simpa using e3)]
   exact wpS_pure ⟨m,.inl ⟨_,rfl,d2.last T e3⟩⟩
  rw [if_neg (by simpa using e3)]
  split
  ·exact wpS_pure ⟨m,.inr ⟨rfl,d2,(show i+1+1<a.size by lia),hj,(show x₀<=i+1+j by lia)⟩⟩
  ·exact wpS_pure ⟨rfl,m,d2,(show i+1+1<a.size by lia),hj,(show x₀<=i+1+j by lia)⟩
 ·simp only [if_true];refine wpS_bind (t4 hj ?_);have d2:=D.takeB C T d (by lia) hj (C.as _ _ (T.Sb _ hj) (T.Sa _ (by lia)) hl)
  by_cases e3:j+1=b.size
  ·rw [if_pos (by simpa using e3)]
   exact wpS_pure ⟨m,.inl ⟨_,rfl,d2.done (.inr e3)⟩⟩
  rw [if_neg (by simpa using e3)]
  split
  ·exact wpS_pure ⟨m,.inr ⟨rfl,d2,hi,(show j+1<b.size by lia),(show x₀<=i+(j+1) by lia)⟩⟩
  ·exact wpS_pure ⟨rfl,m,d2,hi,(show j+1<b.size by lia),(show x₀<=i+(j+1) by lia)⟩
theorem c0k(C:Cmp prog w A E s κ S R)(T:Two S R a b)(hk:kindOf st=κ){c:LoT}(h:LoI R a b st (x₀+x) c.1 c.2.1 c.2.2.1 c.2.2.2.1 st'):wpS (model prog w) A E s (loG a b c) (λr st'=>match r with| .done c'=>LoE R a b st (x₀+1) c'.1 c'.2.1 c'.2.2.1 c'.2.2.2.1 st'| .yield c'=>LoI R a b st (x₀+(x+1)) c'.1 c'.2.1 c'.2.2.1 c'.2.2.2.1 st') st':=by
 obtain⟨hc,m,d,hi,hj,hp⟩:=h;unfold loG;split
 ·exact b51 C T hk m d hi hj hp
 ·exact b51 C T hk m d hi hj hp
theorem c0m(C:Cmp prog w A E s κ S R)(T:Two S R a b)(hk:kindOf st=κ){c:LoU}(h:LoI R a b st x₀ c.1 c.2.1 c.2.2.1 c.2.2.2.1 st'):wpS (model prog w) A E s (loT a b c) (λr st'=>match r with| .done c'=>Sm st st'/\∃r,c'.1=ξ r/\Y7 R (a.toList++b.toList) r.toList| .yield c'=>LoI R a b st (x₀+1) c'.1 c'.2.1 c'.2.2.1 c'.2.2.2.1 st') st':=by
 obtain⟨hc,h⟩:=h;unfold loT;refine wpS_bind (wpS_mono (wpS_forRange (I:=λ_ c st'=>LoI R a b st x₀ c.1 c.2.1 c.2.2.1 c.2.2.2.1 st') (Q:=λc st'=>LoE R a b st x₀ c.1 c.2.1 c.2.2.1 c.2.2.2.1 st') (λ_ _ _ _ _ h=>wpS_mono (c0l C T hk h) λr _ q=>by cases r<;>exact q) (λc st' ⟨h1,h2,h3⟩=>⟨h2,.inr ⟨h1,h3⟩⟩) ⟨rfl,h⟩) ?_)
 rintro r st2 ⟨m,⟨y,e,gd⟩|⟨e,h⟩⟩
 ·rw [e];exact wpS_pure ⟨m,y,rfl,gd⟩
 rw [e];refine wpS_bind (wpS_lift (wpAny_rule ⟨rfl, ?_⟩));refine wpS_bind (wpS_mono (wpS_forRange (I:=λx c st'=>LoI R a b st (x₀+x) c.1 c.2.1 c.2.2.1 c.2.2.2.1 st') (Q:=λc st'=>LoE R a b st (x₀+1) c.1 c.2.1 c.2.2.1 c.2.2.2.1 st') (λ_ _ _ _ _ h=>wpS_mono (c0k C T hk h) λr _ q=>by cases r<;>exact q) (λc st' ⟨h1,h2,h3,h4,h5,h6⟩=>⟨h2,.inr ⟨h1,h3,h4,h5,by lia⟩⟩) ⟨rfl,m,h⟩) ?_)
 rintro q st3 ⟨m,⟨y,e,gd⟩|⟨e,h⟩⟩
 ·rw [e];exact wpS_pure ⟨m,y,rfl,gd⟩
 rw [e];exact wpS_bind (a4M m λst3 m3=>wpS_pure ⟨rfl,m3,h⟩)
end
theorem c0p(C:Cmp prog w A E s κ S R){a b:Array Keyed}(T:Two S R a b){st:SortSt}(hk:kindOf st=κ){Q:Array Keyed->SortSt->Prop}
 (h:∀r st',Sm st st'->Y7 R (a.toList++b.toList) r.toList->Q r st'):wpS (model prog w) A E s (mLo a b) Q st:=by
 rw [b9e]
 refine wpS_bind (wpS_lift (wpAny_rule ⟨rfl, ?_⟩))
 refine wpS_bind (t4 T.pb ?_)
 have pw:∀c:Array Keyed,Seg R c 0 c.size->c.toList.Pairwise (le R):=λc hc=>by
  rw [List.pairwise_iff_getElem];intro i j hi hj hij;have h1:=W9 (a:=c) hi;have h2:=W9 (a:=c) hj;rw [Ai hi] at h1;rw [Ai hj] at h2;rw [Option.some.inj h1,Option.some.inj h2];exact hc i j (Nat.zero_le _) (by lia) hj
 have d0:D R a b #[g b 0] 0 1:=by
  have:D R a b #[] 0 0:=by
   refine⟨?_, ?_,List.Perm.refl _⟩
   ·exact pw a T.sa
   ·exact pw b T.sb
  exact this.takeB C T T.pa T.pb (T.lo 0 T.pa)
 have pa:=T.pa
 have pb:=T.pb
 by_cases e1:1=b.size
 ·rw [if_pos (by simpa using e1)]
  exact wpS_pure (h _ _ Sm.refl (d0.done (.inr e1)))
 rw [if_neg (by simpa using e1)]
 by_cases e2:0+1=a.size
 ·rw [if_pos (by simpa using e2)]
  exact wpS_pure (h _ _ Sm.refl (d0.last T e2))
 rw [if_neg (by simpa using e2)]
 refine wpS_bind (wpS_get ?_)
 refine wpS_bind (wpS_mono (wpS_forRange (I:=λx c st'=>LoI R a b st x c.1 c.2.1 c.2.2.1 c.2.2.2.1 st')
  (Q:=λc st'=>Sm st st'/\∃r,c.1=ξ r/\Y7 R (a.toList++b.toList) r.toList) (λ_ _ _ _ _ h=>wpS_mono (c0m C T hk h) λr _ q=>by cases r<;>exact q) (λc st' ⟨h1,h2,h3,h4,h5,h6⟩=>by lia) ⟨rfl,Sm.refl,d0,(show 0+1<a.size by lia),(show 1<b.size by lia),Nat.zero_le _⟩) ?_)
 rintro c st' ⟨m,r,e,gd⟩
 rw [e]
 exact wpS_pure (h r st' m gd)
end
def Mh(R:Keyed->Keyed->Bool)(W out la lb:List Keyed):Prop:=(la++out).Pairwise (le R)/\(lb++out).Pairwise (le R)/\((la++lb)++out).Perm W
section
variable {R:Keyed->Keyed->Bool}{W out la lb xs:List Keyed}
theorem Mh.swap(h:Mh R W out la lb):Mh R W out lb la:=⟨h.2.1,h.1,(List.Perm.append_right out List.perm_append_comm).trans h.2.2⟩
theorem Mh.takeA(h:Mh R W out (la++xs) lb)(k:∀x∈xs,∀y∈lb,le R y x):Mh R W (xs++out) la lb:=by
 obtain⟨h1,h2,h3⟩:=h;have e1:=List.pairwise_append.mp (show(la++(xs++out)).Pairwise (le R) by rw [<-List.append_assoc];exact h1)
 have e2:=List.pairwise_append.mp h2;refine⟨by rw [<-List.append_assoc];exact h1,List.pairwise_append.mpr ⟨e2.1,e1.2.1,λy hy x hx=> ?_⟩, ?_⟩
 ·rcases Ar.mp hx with hx|hx
  ·exact k x hx y hy
  ·exact e2.2.2 y hy x hx
 ·refine List.Perm.trans ?_ h3;rw [<-List.append_assoc];refine List.Perm.append_right out ?_;rw [List.append_assoc,List.append_assoc];exact List.Perm.append_left la List.perm_append_comm
theorem Mh.takeB(h:Mh R W out la (lb++xs))(k:∀x∈xs,∀y∈la,le R y x):Mh R W (xs++out) la lb:=(h.swap.takeA k).swap
theorem Mh.doneB(h:Mh R W out la []):Y7 R W (la++out):=⟨h.1,by have:=h.2.2;rwa [Ad] at this⟩
theorem Mh.doneA(h:Mh R W out [] lb):Y7 R W (lb++out):=⟨h.2.1,h.2.2⟩
theorem Mh.first{x:Keyed}(h:Mh R W out la [x])(k:∀y∈la,le R x y):Y7 R W ([x]++(la++out)):=by
 obtain⟨h1,h2,h3⟩:=h;have e2:=List.pairwise_append.mp h2;refine⟨List.pairwise_append.mpr ⟨e2.1,h1,λy hy z hz=> ?_⟩, ?_⟩
 ·cases List.mem_singleton.mp hy;rcases Ar.mp hz with hz|hz
  ·exact k z hz
  ·exact e2.2.2 x (List.mem_singleton.mpr rfl) z hz
 ·rw [<-List.append_assoc];exact(List.Perm.append_right out List.perm_append_comm).trans h3
end
theorem a5E{a:Array Keyed}{n:Nat}{x:Keyed}(hn:n<=a.size)(h:x∈a.toList.take n):∃j,j<n/\x=g a j:=by
 obtain⟨j,hj,e⟩:=X0 (i:=0) (k:=n) (a:=a) (x:=x) (by rwa [List.drop_zero]) (by lia)
 exact⟨j,hj,by rwa [Nat.zero_add] at e⟩
theorem a0T{a:Array Keyed}{m n:Nat}(h:m<=n):a.toList.take n=a.toList.take m++(a.extract m n).toList:=by
 rw [E2,<-List.take_add,show m+(n - m)=n by lia]
theorem a2R(a:Array Keyed)(n:Nat):(a.extract 0 n).toList=a.toList.take n:=by
 rw [E2,List.drop_zero,Nat.sub_zero]
section
variable {prog:AJ}{w:AI}{A:AK}{E:AA->AC->Prop}{s:AC}
variable {κ:SortKind}{S:Keyed->Prop}{R:Keyed->Keyed->Bool}
def rh(a b o:Array Keyed)(i j:Nat):Array Keyed:=a.extract 0 i++b.extract 0 j++o.reverse
def H(R:Keyed->Keyed->Bool)(a b o:Array Keyed)(i j:Nat):Prop:=Mh R (a.toList++b.toList) o.toList.reverse (a.toList.take i) (b.toList.take j)
theorem H.takeAk(C:Cmp prog w A E s κ S R){a b o:Array Keyed}{i j m:Nat}(T:Two S R a b)(h:H R a b o i j)(hi:i<=a.size)(hm:m<=i)(hj:j<=b.size)(h0:0<j)(q:∀l,m<=l->l<i->le R (g b (j - 1)) (g a l)):
 H R a b (o++(a.extract m i).reverse) m j:=by
 unfold H at h ⊢
 rw [a0T hm] at h
 rw [Array.toList_append,Array.toList_reverse,List.reverse_append,List.reverse_reverse]
 refine Mh.takeA h λx hx y hy=> ?_
 rw [E2] at hx
 obtain⟨l,hl,rfl⟩:=X0 hx (by lia)
 obtain⟨k,hk,rfl⟩:=a5E hj hy
 exact C.tr _ (g b (j - 1)) _ (T.Sb _ (by lia)) (T.Sb _ (by lia)) (T.Sa _ (by lia)) (T.sb k (j - 1) (by lia) (by lia) (by lia)) (q _ (by lia) (by lia))
theorem H.takeBk(C:Cmp prog w A E s κ S R){a b o:Array Keyed}{i j m:Nat}(T:Two S R a b)(h:H R a b o i j)(hj:j<=b.size)(hm:m<=j)(hi:i<=a.size)(h0:0<i)(q:∀l,m<=l->l<j->le R (g a (i - 1)) (g b l)):
 H R a b (o++(b.extract m j).reverse) i m:=by
 unfold H at h ⊢
 rw [a0T hm] at h
 rw [Array.toList_append,Array.toList_reverse,List.reverse_append,List.reverse_reverse]
 refine Mh.takeB h λx hx y hy=> ?_
 rw [E2] at hx
 obtain⟨l,hl,rfl⟩:=X0 hx (by lia)
 obtain⟨k,hk,rfl⟩:=a5E hi hy
 exact C.tr _ (g a (i - 1)) _ (T.Sa _ (by lia)) (T.Sa _ (by lia)) (T.Sb _ (by lia)) (T.sa k (i - 1) (by lia) (by lia) (by lia)) (q _ (by lia) (by lia))
theorem a9Q{o a:Array Keyed}{i:Nat}(h:i<a.size):o.push (g a i)=o++(a.extract i (i+1)).reverse:=by
 rw [a5X h]
 congr 1
 apply Array.toList_inj.mp;rw [Array.toList_reverse,E2,a1L h,show i+1 - i=1 by lia]
 rfl
theorem H.takeA(C:Cmp prog w A E s κ S R){a b o:Array Keyed}{i j:Nat}(T:Two S R a b)(h:H R a b o i j)(hi:i<=a.size)(hi0:0<i)(hj:j<=b.size)(h0:0<j)(q:le R (g b (j - 1)) (g a (i - 1))):H R a b (o.push (g a (i - 1))) (i - 1) j:=by
 rw [a9Q (by lia),show i - 1+1=i by lia]
 exact h.takeAk C T hi (by lia) hj h0 λl h1 h2=>by rw [show l=i - 1 by lia];exact q
theorem H.takeB(C:Cmp prog w A E s κ S R){a b o:Array Keyed}{i j:Nat}(T:Two S R a b)(h:H R a b o i j)(hj:j<=b.size)(hj0:0<j)(hi:i<=a.size)(h0:0<i)(q:le R (g a (i - 1)) (g b (j - 1))):H R a b (o.push (g b (j - 1))) i (j - 1):=by
 rw [a9Q (by lia),show j - 1+1=j by lia]
 exact h.takeBk C T hj (by lia) hi h0 λl h1 h2=>by rw [show l=j - 1 by lia];exact q
theorem H.done{a b o:Array Keyed}{i j:Nat}(h:H R a b o i j)(e:i=0\/j=0):Y7 R (a.toList++b.toList) (rh a b o i j).toList:=by
 unfold rh;rw [Array.toList_append,Array.toList_append,a2R,a2R,Array.toList_reverse];unfold H at h;rcases e with rfl|rfl
 ·rw [List.take_zero] at h ⊢;exact h.doneA
 ·rw [List.take_zero] at h ⊢;rw [Ad];exact h.doneB
theorem H.first{a b o:Array Keyed}{i j:Nat}(T:Two S R a b)(h:H R a b o i j)(hi:i<=a.size)(e:j=1):Y7 R (a.toList++b.toList) (rh b a o j i).toList:=by
 unfold rh;rw [Array.toList_append,Array.toList_append,a2R,a2R,Array.toList_reverse];unfold H at h;subst e;have e1:b.toList.take 1=[g b 0]:=by
  have:=a1L (a:=b) T.pb;rw [List.drop_zero] at this;rw [this];rfl
 rw [e1] at h ⊢;rw [List.append_assoc];exact h.first λy hy=>by
  obtain⟨m,hm,rfl⟩:=a5E hi hy;exact T.lo m (by lia)
abbrev HiT:=Option (Array Keyed)×Nat×Nat×Array Keyed×Nat×Nat×Nat
def hiC(a b o:Array Keyed)(i j mg u v:Nat):StateT SortSt Sem (ForInStep HiT):=do
 let y<-elem' a (i - 1)
 if i - 1==0 then
  pure (.done (ξ (rh a b (o.push y) (i - 1) j),i - 1,j,o.push y,mg,u,v))
 else if u<7 && v<7 then
  pure (.done (ζ,i - 1,j,o.push y,mg,u,v))
 else
  pure (.yield (ζ,i - 1,j,o.push y,mg,u,v))
def hiB(a b o:Array Keyed)(i j mg u v:Nat):StateT SortSt Sem (ForInStep HiT):=do
 let x<-elem' b (j - 1)
 if j - 1==1 then
  pure (.done (ξ (rh b a (o.push x) (j - 1) i),i,j - 1,o.push x,mg,u,v))
 else do
  let y<-elem' a (i - 1)
  let z<-gal true y b 0 (j - 1) (j - 1 - 1)
  match z with
  |some t=>
   if j - 1 - t>0 then
    if t==1 then
     pure (.done (ξ (rh b a (o.push x++(b.extract t (j - 1)).reverse) t i),i,t,o.push x++(b.extract t (j - 1)).reverse,mg,u,j - 1 - t))
    else if t==0 then
     pure (.done (ξ (rh a b (o.push x++(b.extract t (j - 1)).reverse) i t),i,t,o.push x++(b.extract t (j - 1)).reverse,mg,u,j - 1 - t))
    else hiC a b (o.push x++(b.extract t (j - 1)).reverse) i t mg u (j - 1 - t)
   else hiC a b (o.push x) i (j - 1) mg u (j - 1 - t)
  |_=>pure (.done (ξ (rh a b (o.push x) i (j - 1)),i,j - 1,o.push x,mg,u,v))
def hiA(a b o:Array Keyed)(i j mg u v:Nat):StateT SortSt Sem (ForInStep HiT):=do
 b3g mg
 let x<-elem' b (j - 1)
 let z<-gal false x a 0 i (i - 1)
 match z with
 |some t=>
  if i - t>0 then
   if t==0 then
    pure (.done (ξ (rh a b (o++(a.extract t i).reverse) t j),t,j,o++(a.extract t i).reverse,mg,i - t,v))
   else hiB a b (o++(a.extract t i).reverse) t j mg (i - t) v
  else hiB a b o i j mg (i - t) v
 |_=>pure (.done (ξ (rh a b o i j),i,j,o,mg,u,v))
def HiQ(R:Keyed->Keyed->Bool)(a b:Array Keyed)(st:SortSt)(x₀ x:Nat):ForInStep HiT->SortSt->Prop:=λr st'=>match r with
 | .done c=>Sm st st'/\((∃r,c.1=ξ r/\Y7 R (a.toList++b.toList) r.toList)\/(c.1=ζ/\H R a b c.2.2.2.1 c.2.1 c.2.2.1/\0<c.2.1/\c.2.1<=a.size/\1<c.2.2.1/\c.2.2.1<=b.size/\x₀+1+(c.2.1+c.2.2.1)<=a.size+b.size))
 | .yield c=>c.1=ζ/\Sm st st'/\H R a b c.2.2.2.1 c.2.1 c.2.2.1/\0<c.2.1/\c.2.1<=a.size/\1<c.2.2.1/\c.2.2.1<=b.size/\x₀+(x+1)+(c.2.1+c.2.2.1)<=a.size+b.size
section
variable {a b o:Array Keyed}{st st':SortSt}{i j mg u v x₀ x:Nat}
theorem b50(C:Cmp prog w A E s κ S R)(T:Two S R a b)(m:Sm st st')(d:H R a b o i j)(hi:0<i)(hia:i<=a.size)(hj:1<j)(hjb:j<=b.size)(q:le R (g b (j - 1)) (g a (i - 1)))(hp:x₀+x+(i+j)<=a.size+b.size):wpS (model prog w) A E s (hiC a b o i j mg u v) (HiQ R a b st x₀ x) st':=by
 unfold hiC;refine wpS_bind (t4 (by lia) ?_)
 have d4:=H.takeA C T d hia hi hjb (by lia) q
 by_cases e6:i - 1=0
 ·rw [if_pos (by simpa using e6)]
  exact wpS_pure ⟨m,.inl ⟨_,rfl,d4.done (.inl e6)⟩⟩
 rw [if_neg (by simpa using e6)]
 split
 ·exact wpS_pure ⟨m,.inr ⟨rfl,d4,(show 0<i - 1 by lia),(show i - 1<=a.size by lia),hj,hjb,(show x₀+1+(i - 1+j)<=a.size+b.size by lia)⟩⟩
 ·exact wpS_pure ⟨rfl,m,d4,(show 0<i - 1 by lia),(show i - 1<=a.size by lia),hj,hjb,(show x₀+(x+1)+(i - 1+j)<=a.size+b.size by lia)⟩
theorem b5Z(C:Cmp prog w A E s κ S R)(T:Two S R a b)(hk:kindOf st=κ)(m:Sm st st')(d:H R a b o i j)(hi:0<i)(hia:i<=a.size)(hj:1<j)(hjb:j<=b.size)(q:le R (g a (i - 1)) (g b (j - 1)))(hp:x₀+x+(i+j)<=a.size+b.size):wpS (model prog w) A E s (hiB a b o i j mg u v) (HiQ R a b st x₀ x) st':=by
 unfold hiB;have d3:=H.takeB C T d hjb (by lia) hia hi q
 refine wpS_bind (t4 (by lia) ?_)
 by_cases e5:j - 1=1
 ·rw [if_pos (by simpa using e5)]
  exact wpS_pure ⟨m,.inl ⟨_,rfl,d3.first T (by lia) e5⟩⟩
 rw [if_neg (by simpa using e5)]
 refine wpS_bind (t4 (by lia) ?_)
 refine wpS_bind (a8M C (m.k.trans hk) (by lia) (by lia) (λl hl=>T.Sb _ (by lia)) (T.Sa _ (by lia)) (λp q h1 h2 h3=>T.sb p q (by lia) h2 (by lia)) λk' q1 q2 q3=> ?_)
 simp only [Nat.zero_add] at q2 q3;dsimp only
 by_cases hk':j - 1 - k'>0
 ·rw [if_pos hk'];have d5:=d3.takeBk C T (m:=k') (by lia) q1 (by lia) (by lia) q3
  by_cases e7:k'=1
  ·rw [if_pos (by simpa using e7)]
   exact wpS_pure ⟨m,.inl ⟨_,rfl,d5.first T (by lia) e7⟩⟩
  rw [if_neg (by simpa using e7)]
  by_cases e8:k'=0
  ·rw [if_pos (by simpa using e8)]
   exact wpS_pure ⟨m,.inl ⟨_,rfl,d5.done (.inr e8)⟩⟩
  rw [if_neg (by simpa using e8)]
  exact b50 C T m d5 hi hia (by lia) (by lia) (C.as _ _ (T.Sb _ (by lia)) (T.Sa _ (by lia)) (q2 (k' - 1) (by lia))) (by lia)
 ·rw [if_neg hk'];exact b50 C T m d3 hi hia (by lia) (by lia) (C.as _ _ (T.Sb _ (by lia)) (T.Sa _ (by lia)) (q2 (j - 1 - 1) (by lia))) (by lia)
theorem b5Y(C:Cmp prog w A E s κ S R)(T:Two S R a b)(hk:kindOf st=κ)(m:Sm st st')(d:H R a b o i j)(hi:0<i)(hia:i<=a.size)(hj:1<j)(hjb:j<=b.size)(hp:x₀+x+(i+j)<=a.size+b.size):wpS (model prog w) A E s (hiA a b o i j mg u v) (HiQ R a b st x₀ x) st':=by
 unfold hiA;refine wpS_bind (a4M m λst3 m3=> ?_);refine wpS_bind (t4 (by lia) ?_)
 refine wpS_bind (a8L C (m3.k.trans hk) (by lia) (by lia) (λl hl=>T.Sa _ (by lia)) (T.Sb _ (by lia)) (λp q h1 h2 h3=>T.sa p q (by lia) h2 (by lia)) λk k1 k2 k3=> ?_)
 simp only [Nat.zero_add] at k2 k3;dsimp only
 by_cases hk0:i - k>0
 ·rw [if_pos hk0];have d2:=d.takeAk C T (m:=k) hia k1 hjb (by lia) λl h1 h2=>C.as _ _ (T.Sb _ (by lia)) (T.Sa _ (by lia)) (k3 l h1 h2)
  by_cases e3:k=0
  ·rw [if_pos (by simpa using e3)]
   exact wpS_pure ⟨m3,.inl ⟨_,rfl,d2.done (.inl e3)⟩⟩
  rw [if_neg (by simpa using e3)]
  exact b5Z C T hk m3 d2 (by lia) (by lia) hj hjb (k2 (k - 1) (by lia)) (by lia)
 ·rw [if_neg hk0];exact b5Z C T hk m3 d hi hia hj hjb (k2 (i - 1) (by lia)) hp
end
abbrev HiV:=Option (Array Keyed)×Nat×Nat×Array Keyed×Nat×Nat
abbrev HiU:=Option (Array Keyed)×Nat×Nat×Array Keyed×Nat
def hiS(a b:Array Keyed)(mg:Nat)(c:HiV):StateT SortSt Sem (ForInStep HiV):=do
 let y<-elem' b (c.2.2.1 - 1)
 let x<-elem' a (c.2.1 - 1)
 let t<-lt' y x
 match t with
 |some t=>
  if t then
   let z<-elem' a (c.2.1 - 1)
   if c.2.1 - 1==0 then
    pure (.done (ξ (rh a b (c.2.2.2.1.push z) (c.2.1 - 1) c.2.2.1),c.2.1 - 1,c.2.2.1,c.2.2.2.1.push z,c.2.2.2.2.1+1,0))
   else if c.2.2.2.2.1+1>=mg then
    pure (.done (ζ,c.2.1 - 1,c.2.2.1,c.2.2.2.1.push z,c.2.2.2.2.1+1,0))
   else pure (.yield (ζ,c.2.1 - 1,c.2.2.1,c.2.2.2.1.push z,c.2.2.2.2.1+1,0))
  else
   let z<-elem' b (c.2.2.1 - 1)
   if c.2.2.1 - 1==1 then
    pure (.done (ξ (rh b a (c.2.2.2.1.push z) (c.2.2.1 - 1) c.2.1),c.2.1,c.2.2.1 - 1,c.2.2.2.1.push z,0,c.2.2.2.2.2+1))
   else if c.2.2.2.2.2+1>=mg then
    pure (.done (ζ,c.2.1,c.2.2.1 - 1,c.2.2.2.1.push z,0,c.2.2.2.2.2+1))
   else pure (.yield (ζ,c.2.1,c.2.2.1 - 1,c.2.2.2.1.push z,0,c.2.2.2.2.2+1))
 |_=>pure (.done (ξ (rh a b c.2.2.2.1 c.2.1 c.2.2.1),c.2.1,c.2.2.1,c.2.2.2.1,c.2.2.2.2.1,c.2.2.2.2.2))
def hiG(a b:Array Keyed)(c:HiT):StateT SortSt Sem (ForInStep HiT):=
 if c.2.2.2.2.1>1 then hiA a b c.2.2.2.1 c.2.1 c.2.2.1 (c.2.2.2.2.1 - 1) c.2.2.2.2.2.1 c.2.2.2.2.2.2 else hiA a b c.2.2.2.1 c.2.1 c.2.2.1 c.2.2.2.2.1 c.2.2.2.2.2.1 c.2.2.2.2.2.2
def hiX(a b:Array Keyed)(c:HiU):StateT SortSt Sem (ForInStep HiU):=do
 let r<-forIn [0:a.size+b.size] ((ζ,c.2.1,c.2.2.1,c.2.2.2.1,0,0):HiV) λ_ r=>hiS a b c.2.2.2.2 r
 match r.1 with
 |none=>do
  rule "list.sort.gallop"
  let q<-forIn [0:a.size+b.size] ((ζ,r.2.1,r.2.2.1,r.2.2.2.1,c.2.2.2.2+1,r.2.2.2.2.1,r.2.2.2.2.2):HiT) λ_ q=>hiG a b q
  match q.1 with
  |none=>do
   b3g (q.2.2.2.2.1+1)
   pure (.yield (ζ,q.2.1,q.2.2.1,q.2.2.2.1,q.2.2.2.2.1+1))
  |some x=>pure (.done (ξ x,q.2.1,q.2.2.1,q.2.2.2.1,q.2.2.2.2.1))
 |some x=>pure (.done (ξ x,r.2.1,r.2.2.1,r.2.2.2.1,c.2.2.2.2))
theorem b9d(p q:Array Keyed):mHi p q=(do
 rule "list.sort.merge-hi"
 let x<-elem' p (p.size - 1)
 if p.size - 1==0 then
  pure (rh p q #[x] (p.size - 1) q.size)
 else if q.size==1 then
  pure (rh q p #[x] q.size (p.size - 1))
 else do
  let z<-get
  let r<-forIn [0:p.size+q.size] ((ζ,p.size - 1,q.size, #[x],gallopOf z):HiU) λ_ c=>hiX p q c
  match r.1 with
  |none=>unsupported "internal:list.sort.merge-bound"
  |some v=>pure v):=by kernel_rfl
abbrev HiI(R:Keyed->Keyed->Bool)(a b:Array Keyed)(st:SortSt)(k:Nat)(c:Option (Array Keyed))(o:Array Keyed)(i j:Nat)(st':SortSt):Prop:=c=ζ/\Sm st st'/\H R a b o i j/\0<i/\i<=a.size/\1<j/\j<=b.size/\k+(i+j)<=a.size+b.size
abbrev HiE(R:Keyed->Keyed->Bool)(a b:Array Keyed)(st:SortSt)(k:Nat)(c:Option (Array Keyed))(o:Array Keyed)(i j:Nat)(st':SortSt):Prop:=Sm st st'/\((∃r,c=ξ r/\Y7 R (a.toList++b.toList) r.toList)\/(c=ζ/\H R a b o i j/\0<i/\i<=a.size/\1<j/\j<=b.size/\k+(i+j)<=a.size+b.size))
section
variable {a b:Array Keyed}{st st':SortSt}{x₀ x mg:Nat}
theorem c0i(C:Cmp prog w A E s κ S R)(T:Two S R a b)(hk:kindOf st=κ){c:HiV}(h:HiI R a b st x₀ c.1 c.2.2.2.1 c.2.1 c.2.2.1 st'):wpS (model prog w) A E s (hiS a b mg c) (λr st'=>match r with| .done c'=>HiE R a b st x₀ c'.1 c'.2.2.2.1 c'.2.1 c'.2.2.1 st'| .yield c'=>HiI R a b st x₀ c'.1 c'.2.2.2.1 c'.2.1 c'.2.2.1 st') st':=by
 obtain⟨c,i,j,o,u,v⟩:=c;obtain⟨hc,m,d,hi,hia,hj,hjb,hp⟩:=h;dsimp only at*;unfold hiS;dsimp only;refine wpS_bind (t4 (by lia) (wpS_bind (t4 (by lia) (wpS_bind (C.lt _ _ (T.Sb _ (by lia)) (T.Sa _ (by lia)) st' _ (m.k.trans hk) ?_)))))
 dsimp only;cases hl:R (g b (j - 1)) (g a (i - 1))
 ·simp only [AX,if_false];refine wpS_bind (t4 (by lia) ?_)
  have d2:=H.takeB C T d hjb (by lia) hia hi hl
  by_cases e3:j - 1=1
  ·rw [if_pos (by simpa using e3)]
   exact wpS_pure ⟨m,.inl ⟨_,rfl,d2.first T hia e3⟩⟩
  rw [if_neg (by simpa using e3)]
  split
  ·exact wpS_pure ⟨m,.inr ⟨rfl,d2,hi,hia,(show 1<j - 1 by lia),(show j - 1<=b.size by lia),(show x₀+(i+(j - 1))<=a.size+b.size by lia)⟩⟩
  ·exact wpS_pure ⟨rfl,m,d2,hi,hia,(show 1<j - 1 by lia),(show j - 1<=b.size by lia),(show x₀+(i+(j - 1))<=a.size+b.size by lia)⟩
 ·simp only [if_true];refine wpS_bind (t4 (by lia) ?_)
  have d2:=H.takeA C T d hia hi hjb (by lia) (C.as _ _ (T.Sb _ (by lia)) (T.Sa _ (by lia)) hl)
  by_cases e3:i - 1=0
  ·rw [if_pos (by simpa using e3)]
   exact wpS_pure ⟨m,.inl ⟨_,rfl,d2.done (.inl e3)⟩⟩
  rw [if_neg (by simpa using e3)]
  split
  ·exact wpS_pure ⟨m,.inr ⟨rfl,d2,(show 0<i - 1 by lia),(show i - 1<=a.size by lia),hj,hjb,(show x₀+(i - 1+j)<=a.size+b.size by lia)⟩⟩
  ·exact wpS_pure ⟨rfl,m,d2,(show 0<i - 1 by lia),(show i - 1<=a.size by lia),hj,hjb,(show x₀+(i - 1+j)<=a.size+b.size by lia)⟩
theorem c0h(C:Cmp prog w A E s κ S R)(T:Two S R a b)(hk:kindOf st=κ){c:HiT}(h:HiI R a b st (x₀+x) c.1 c.2.2.2.1 c.2.1 c.2.2.1 st'):wpS (model prog w) A E s (hiG a b c) (λr st'=>match r with| .done c'=>HiE R a b st (x₀+1) c'.1 c'.2.2.2.1 c'.2.1 c'.2.2.1 st'| .yield c'=>HiI R a b st (x₀+(x+1)) c'.1 c'.2.2.2.1 c'.2.1 c'.2.2.1 st') st':=by
 obtain⟨hc,m,d,hi,hia,hj,hjb,hp⟩:=h;unfold hiG;split
 ·exact b5Y C T hk m d hi hia hj hjb hp
 ·exact b5Y C T hk m d hi hia hj hjb hp
theorem c0j(C:Cmp prog w A E s κ S R)(T:Two S R a b)(hk:kindOf st=κ){c:HiU}(hx:x₀<a.size+b.size)(h:HiI R a b st x₀ c.1 c.2.2.2.1 c.2.1 c.2.2.1 st'):wpS (model prog w) A E s (hiX a b c) (λr st'=>match r with| .done c'=>Sm st st'/\∃r,c'.1=ξ r/\Y7 R (a.toList++b.toList) r.toList| .yield c'=>HiI R a b st (x₀+1) c'.1 c'.2.2.2.1 c'.2.1 c'.2.2.1 st') st':=by
 obtain⟨hc,h⟩:=h;unfold hiX;refine wpS_bind (wpS_mono (wpS_forRange (I:=λ_ c st'=>HiI R a b st x₀ c.1 c.2.2.2.1 c.2.1 c.2.2.1 st') (Q:=λc st'=>HiE R a b st x₀ c.1 c.2.2.2.1 c.2.1 c.2.2.1 st') (λ_ _ _ _ _ h=>wpS_mono (c0i C T hk h) λr _ q=>by cases r<;>exact q) (λc st' ⟨h1,h2,h3⟩=>⟨h2,.inr ⟨h1,h3⟩⟩) ⟨rfl,h⟩) ?_)
 rintro r st2 ⟨m,⟨y,e,gd⟩|⟨e,h⟩⟩
 ·rw [e];exact wpS_pure ⟨m,y,rfl,gd⟩
 rw [e];refine wpS_bind (wpS_lift (wpAny_rule ⟨rfl, ?_⟩));refine wpS_bind (wpS_mono (wpS_forRange (I:=λx c st'=>HiI R a b st (x₀+x) c.1 c.2.2.2.1 c.2.1 c.2.2.1 st') (Q:=λc st'=>HiE R a b st (x₀+1) c.1 c.2.2.2.1 c.2.1 c.2.2.1 st') (λ_ _ _ _ _ h=>wpS_mono (c0h C T hk h) λr _ q=>by cases r<;>exact q) (λc st' ⟨h1,h2,h3,h4,h5,h6,h7,h8⟩=>⟨h2,.inr ⟨h1,h3,h4,h5,h6,h7,by lia⟩⟩) ⟨rfl,m,h⟩) ?_)
 rintro q st3 ⟨m,⟨y,e,gd⟩|⟨e,h⟩⟩
 ·rw [e];exact wpS_pure ⟨m,y,rfl,gd⟩
 rw [e];exact wpS_bind (a4M m λst3 m3=>wpS_pure ⟨rfl,m3,h⟩)
end
theorem c0o(C:Cmp prog w A E s κ S R){a b:Array Keyed}(T:Two S R a b){st:SortSt}(hk:kindOf st=κ){Q:Array Keyed->SortSt->Prop}
 (h:∀r st',Sm st st'->Y7 R (a.toList++b.toList) r.toList->Q r st'):wpS (model prog w) A E s (mHi a b) Q st:=by
 rw [b9d]
 have pa:=T.pa
 have pb:=T.pb
 refine wpS_bind (wpS_lift (wpAny_rule ⟨rfl, ?_⟩))
 refine wpS_bind (t4 (by lia) ?_)
 have pw:∀c:Array Keyed,Seg R c 0 c.size->c.toList.Pairwise (le R):=λc hc=>by
  rw [List.pairwise_iff_getElem];intro i j hi hj hij;have h1:=W9 (a:=c) hi;have h2:=W9 (a:=c) hj;rw [Ai hi] at h1;rw [Ai hj] at h2;rw [Option.some.inj h1,Option.some.inj h2];exact hc i j (Nat.zero_le _) (by lia) hj
 have d0:H R a b #[g a (a.size - 1)] (a.size - 1) b.size:=by
  have:H R a b #[] a.size b.size:=by
   have f:∀c:Array Keyed,c.toList.take c.size=c.toList:=λc=>List.take_of_length_le (AN _);unfold H;rw [f,f];refine⟨?_, ?_, ?_⟩
   ·show(a.toList++[]).Pairwise _;rw [Ad];exact pw a T.sa
   ·show(b.toList++[]).Pairwise _;rw [Ad];exact pw b T.sb
   ·show(a.toList++b.toList++[]).Perm _;rw [Ad]
  exact this.takeA C T (AN _) pa (AN _) pb (T.hi _ (by lia))
 by_cases e1:a.size - 1=0
 ·rw [if_pos (by simpa using e1)]
  exact wpS_pure (h _ _ Sm.refl (d0.done (.inl e1)))
 rw [if_neg (by simpa using e1)]
 by_cases e2:b.size=1
 ·rw [if_pos (by simpa using e2)]
  exact wpS_pure (h _ _ Sm.refl (d0.first T (by lia) e2))
 rw [if_neg (by simpa using e2)]
 refine wpS_bind (wpS_get ?_)
 refine wpS_bind (wpS_mono (wpS_forRange (I:=λx c st'=>HiI R a b st x c.1 c.2.2.2.1 c.2.1 c.2.2.1 st')
  (Q:=λc st'=>Sm st st'/\∃r,c.1=ξ r/\Y7 R (a.toList++b.toList) r.toList) (λ_ _ _ _ hx h=>wpS_mono (c0j C T hk hx h) λr _ q=>by cases r<;>exact q) (λc st' ⟨h1,h2,h3,h4,h5,h6,h7,h8⟩=>by lia) ⟨rfl,Sm.refl,d0,(show 0<a.size - 1 by lia),(show a.size - 1<=a.size by lia),(show 1<b.size by lia),AN _,(show 0+(a.size - 1+b.size)<=a.size+b.size by lia)⟩) ?_)
 rintro c st' ⟨m,r,e,gd⟩
 rw [e]
 exact wpS_pure (h r st' m gd)
end
def sp(r:Array Keyed)(d:Nat)(a:Array Keyed):Array Keyed:=r.toList.zipIdx.foldl (λa (p,j)=>a.setIfInBounds (d+j) p) a
theorem b8j(d:Nat):∀(l:List Keyed) (k:Nat) (a:Array Keyed),d+k+l.length<=a.size->
 ((l.zipIdx k).foldl (λ(a:Array Keyed) (q:Keyed×Nat)=>a.setIfInBounds (d+q.2) q.1) a).toList=a.toList.take (d+k)++(l++a.toList.drop (d+k+l.length))
 |[],k,a,_=>by
  show a.toList=_;rw [As,Aw,Nat.add_zero,List.take_append_drop]
 |x::l,k,a,h=>by
  rw [AY] at h;rw [List.zipIdx_cons,List.foldl_cons,b8j d l (k+1) _ (by rw [Array.size_setIfInBounds];lia)]
  have e:(a.setIfInBounds (d+k) x).toList=a.toList.take (d+k)++x::a.toList.drop (d+k+1):=by
   rw [Array.toList_setIfInBounds,List.set_eq_take_append_cons_drop,if_pos (show d+k<a.toList.length by show d+k<a.size;lia)]
  dsimp only;rw [e];have hl:(a.toList.take (d+k)).length=d+k:=by rw [List.length_take];have:a.toList.length=a.size:=rfl;lia
  have e1:(a.toList.take (d+k)++x::a.toList.drop (d+k+1)).take (d+(k+1))=a.toList.take (d+k)++[x]:=by
   rw [List.take_append,hl,List.take_of_length_le (by lia),show d+(k+1) - (d+k)=1 by lia];rfl
  have e2:(a.toList.take (d+k)++x::a.toList.drop (d+k+1)).drop (d+(k+1)+l.length)=a.toList.drop (d+k+(l.length+1)):=by
   rw [List.drop_append,hl,List.drop_eq_nil_of_le (by lia),show d+(k+1)+l.length - (d+k)=l.length+1 by lia,List.drop_succ_cons,List.drop_drop,As]
   congr 1;lia
  rw [e1,e2,AY,List.append_assoc];rfl
theorem b2a{r a:Array Keyed}{d:Nat}(h:d+r.size<=a.size):(sp r d a).toList=a.toList.take d++(r.toList++a.toList.drop (d+r.size)):=by
 have:=b8j d r.toList 0 a (by rw [Nat.add_zero];exact h)
 rw [Nat.add_zero] at this;exact this
theorem a3u(a:Array Keyed)(i:Nat):g a i=(a.toList[i]?).getD (Value.none,Value.none):=by unfold g;rw [Array.getElem?_toList]
theorem b81{r a:Array Keyed}{d:Nat}(h:d+r.size<=a.size)(i:Nat):g (sp r d a) i=if i<d then g a i else if i<d+r.size then g r (i - d) else g a i:=by
 rw [a3u,b2a h];have h1:a.toList.length=a.size:=rfl;have h2:r.toList.length=r.size:=rfl;have hl:(a.toList.take d).length=d:=by rw [List.length_take];lia
 by_cases c1:i<d
 ·rw [if_pos c1,At (by lia),List.getElem?_take,if_pos c1,a3u]
 ·rw [if_neg c1,List.getElem?_append_right (by lia),hl]
  by_cases c2:i<d+r.size
  ·rw [if_pos c2,At (by lia),a3u]
  ·rw [if_neg c2,List.getElem?_append_right (by lia),List.getElem?_drop,a3u]
   congr 2;lia
theorem b79{a:Array Keyed}{lo hi i:Nat}(h:hi<=a.size)(hi':lo+i<hi):g (a.extract lo hi) i=g a (lo+i):=by
 rw [a3u,E2,List.getElem?_take,if_pos (by lia),List.getElem?_drop,a3u]
theorem a9k{a:Array Keyed}{lo hi:Nat}(h:hi<=a.size):(a.extract lo hi).size=hi - lo:=by
 rw [Array.size_extract];lia
section
variable {prog:AJ}{w:AI}{A:AK}{E:AA->AC->Prop}{s:AC}
variable {κ:SortKind}{S:Keyed->Prop}{R:Keyed->Keyed->Bool}{a₀:Array Keyed}
theorem c0q{σ:Type}{M:Model}{x st:σ}{Q:PUnit->σ->Prop}(h:Q ⟨⟩ x):wpS M A E s (set x:StateT σ Sem PUnit) Q st:=by
 unfold wpS;rw [StateT.run_set];exact AH ⟨rfl,h⟩
theorem b9c(i:Nat):mergeAt' i=(do
 let c<-get
 let (ξ (p,m,e),ξ (q,n,_)):=((pendingOf c)[i]?,(pendingOf c)[i+1]?)|unsupported "internal:list.sort.pending"
 set (setPending c (((pendingOf c).setIfInBounds i (p,m+n,e)).eraseIdxIfInBounds (i+1)))
 let ξ k<-gal false (<-elem' (arrOf c) q) (arrOf c) p m 0|return false
 if m - k==0 then return true
 let ξ n'<-gal true (<-elem' (arrOf c) (p+k+(m - k) - 1)) (arrOf c) q n (n - 1)|return false
 if n'==0 then return true
 let r<-if m - k<=n' then mLo ((arrOf c).extract (p+k) q) ((arrOf c).extract q (q+n')) else mHi ((arrOf c).extract (p+k) q) ((arrOf c).extract q (q+n'))
 modify λc=>setArr c (sp r (p+k) (arrOf c))
 return (failedOf (<-get)).isNone):=rfl
theorem c0n(C:Cmp prog w A E s κ S R)(hS:∀p∈a₀.toList,S p){st:SortSt}{Q:Bool->SortSt->Prop}(hB:B κ a₀ st){i p m e n e':Nat}(h1:(pendingOf st)[i]?=ξ (p,m,e))(h2:(pendingOf st)[i+1]?=ξ (p+m,n,e'))
 (hm:1<=m) (hn:1<=n) (hz:p+m+n<=a₀.size) (sA:Seg R (arrOf st) p (p+m)) (sB:Seg R (arrOf st) (p+m) (p+m+n))
 (h:∀st',B κ a₀ st'->pendingOf st'=((pendingOf st).setIfInBounds i (p,m+n,e)).eraseIdxIfInBounds (i+1)->Seg R (arrOf st') p (p+m+n)->(∀j,(j<p\/p+m+n<=j)->g (arrOf st') j=g (arrOf st) j)->Q true st'):
 wpS (model prog w) A E s (mergeAt' i) Q st:=by
 rw [b9c]
 refine wpS_bind (wpS_get ?_)
 rw [h1,h2]
 dsimp only
 refine wpS_bind (c0q ?_)
 have hsz:=hB.size
 have hB1:B κ a₀ (setPending st (((pendingOf st).setIfInBounds i (p,m+n,e)).eraseIdxIfInBounds (i+1))):=⟨hB.perm,hB.kind,hB.failed⟩
 refine wpS_bind (t4 (by lia) ?_)
 refine wpS_bind (a8L C hB1.kind (by lia) (by lia) (λl hl=>hB.sg hS (by lia)) (hB.sg hS (by lia)) sA λk k1 k2 k3=> ?_)
 dsimp only
 by_cases c1:m - k=0
 ·rw [if_pos (by simpa using c1)]
  refine wpS_pure (h _ hB1 rfl (λx y hx hxy hy=> ?_) λ_ _=>rfl)
  show R (g (arrOf st) y) (g (arrOf st) x)=false
  by_cases d1:y<p+m
  ·exact sA x y hx hxy d1
  by_cases d2:p+m<=x
  ·exact sB x y d2 hxy hy
  have:=k2 (x - p) (by lia)
  rw [show p+(x - p)=x by lia] at this
  exact C.tr _ (g (arrOf st) (p+m)) _ (hB.sg hS (by lia)) (hB.sg hS (by lia)) (hB.sg hS (by lia)) this (sB _ _ (AN _) (by lia) hy)
 rw [if_neg (by simpa using c1)]
 refine wpS_bind (t4 (by lia) ?_)
 rw [show p+k+(m - k) - 1=p+m - 1 by lia]
 refine wpS_bind (a8M C hB1.kind (by lia) (by lia) (λl hl=>hB.sg hS (by lia)) (hB.sg hS (by lia)) sB λn' q1 q2 q3=> ?_)
 dsimp only
 by_cases c2:n'=0
 ·rw [if_pos (by simpa using c2)]
  refine wpS_pure (h _ hB1 rfl (λx y hx hxy hy=> ?_) λ_ _=>rfl)
  show R (g (arrOf st) y) (g (arrOf st) x)=false
  by_cases d1:y<p+m
  ·exact sA x y hx hxy d1
  by_cases d2:p+m<=x
  ·exact sB x y d2 hxy hy
  have:=q3 (y - (p+m)) (by lia) (by lia)
  rw [show p+m+(y - (p+m))=y by lia] at this
  exact C.tr _ (g (arrOf st) (p+m - 1)) _ (hB.sg hS (by lia)) (hB.sg hS (by lia)) (hB.sg hS (by lia)) (sA x _ hx (by lia) (by lia)) this
 rw [if_neg (by simpa using c2)]
 have zx:((arrOf st).extract (p+k) (p+m)).size=m - k:=by rw [a9k (by lia)];lia
 have zy:((arrOf st).extract (p+m) (p+m+n')).size=n':=by rw [a9k (by lia)];lia
 have gx:∀l,l<m - k->g ((arrOf st).extract (p+k) (p+m)) l=g (arrOf st) (p+k+l):=λl hl=>b79 (by lia) (by lia)
 have gy:∀l,l<n'->g ((arrOf st).extract (p+m) (p+m+n')) l=g (arrOf st) (p+m+l):=λl hl=>b79 (by lia) (by lia)
 have T:Two S R ((arrOf st).extract (p+k) (p+m)) ((arrOf st).extract (p+m) (p+m+n')):=by
  refine⟨?_, ?_, ?_, ?_,by lia,by lia, ?_, ?_⟩
  ·intro l hl;rw [gx l (by lia)];exact hB.sg hS (by lia)
  ·intro l hl;rw [gy l (by lia)];exact hB.sg hS (by lia)
  ·intro x y _ hxy hy;rw [gx x (by lia),gx y (by lia)];exact sA _ _ (by lia) (by lia) (by lia)
  ·intro x y _ hxy hy;rw [gy x (by lia),gy y (by lia)];exact sB _ _ (by lia) (by lia) (by lia)
  ·intro l hl;rw [gy 0 (by lia),gx l (by lia),Nat.add_zero]
   have:=k3 (k+l) (by lia) (by lia)
   rw [<-Nat.add_assoc] at this;exact C.as _ _ (hB.sg hS (by lia)) (hB.sg hS (by lia)) this
  ·intro l hl;rw [gy l (by lia),gx _ (by lia),zx,show p+k+(m - k - 1)=p+m - 1 by lia]
   exact C.as _ _ (hB.sg hS (by lia)) (hB.sg hS (by lia)) (q2 l (by lia))
 have fin:∀(r:Array Keyed) (st2:SortSt),Sm (setPending st (((pendingOf st).setIfInBounds i (p,m+n,e)).eraseIdxIfInBounds (i+1))) st2->Y7 R (((arrOf st).extract (p+k) (p+m)).toList++((arrOf st).extract (p+m) (p+m+n')).toList) r.toList->
  Q (failedOf (setArr st2 (sp r (p+k) (arrOf st2)))).isNone (setArr st2 (sp r (p+k) (arrOf st2))):=by
  intro r st2 m2 gd
  have ea:arrOf st2=arrOf st:=m2.a
  have rz:r.size=m - k+n':=by
   have:=gd.2.length_eq;rw [Am] at this;have h3:r.toList.length=r.size:=rfl;have h4:((arrOf st).extract (p+k) (p+m)).toList.length=m - k:=zx;have h5:((arrOf st).extract (p+m) (p+m+n')).toList.length=n':=zy
   lia
  have hd:p+k+r.size<=(arrOf st).size:=by lia
  have ef:failedOf (setArr st2 (sp r (p+k) (arrOf st2)))=ζ:=m2.f.trans hB.failed
  rw [ef]
  refine h _ ⟨?_,m2.k.trans hB.kind,ef⟩ m2.p ?_ ?_
  ·show(sp r (p+k) (arrOf st2)).Perm a₀
   rw [ea]
   refine Array.Perm.trans ?_ hB.perm
   rw [Array.perm_iff_toList_perm,b2a hd]
   have e1:(arrOf st).toList=(arrOf st).toList.take (p+k)++((((arrOf st).extract (p+k) (p+m)).toList++((arrOf st).extract (p+m) (p+m+n')).toList)++(arrOf st).toList.drop (p+k+r.size)):=by
    have t1:=a0T (a:=arrOf st) (m:=p+k) (n:=p+m) (by lia)
    have t2:=a0T (a:=arrOf st) (m:=p+m) (n:=p+m+n') (by lia)
    rw [rz,show p+k+(m - k+n')=p+m+n' by lia,<-List.append_assoc,<-List.append_assoc,<-t1,<-t2,List.take_append_drop]
   conv=>rhs;rw [e1]
   exact List.Perm.append_left _ (List.Perm.append_right _ gd.2)
  ·have mid:∀l,l<r.size->(∃j,p+k<=j/\j<p+m/\g r l=g (arrOf st) j)\/(∃j,p+m<=j/\j<p+m+n'/\g r l=g (arrOf st) j):=by
    intro l hl;have:=gd.2.mem_iff.mp (b8a hl);rcases Ar.mp this with q|q
    ·rw [E2] at q;obtain⟨j,hj,e⟩:=X0 q (by lia)
     exact .inl ⟨p+k+j,by lia,by lia,e⟩
    ·rw [E2] at q;obtain⟨j,hj,e⟩:=X0 q (by lia)
     exact .inr ⟨p+m+j,by lia,by lia,e⟩
   have lowq:∀x,p<=x->x<p+k->R (g (arrOf st) (p+m)) (g (arrOf st) x)=false:=λx a b=>by
    have:=k2 (x - p) (by lia)
    rwa [show p+(x - p)=x by lia] at this
   have highq:∀y,p+m+n'<=y->y<p+m+n->R (g (arrOf st) y) (g (arrOf st) (p+m - 1))=false:=λy a b=>by
    have:=q3 (y - (p+m)) (by lia) (by lia)
    rwa [show p+m+(y - (p+m))=y by lia] at this
   intro x y hx hxy hy;show R (g (sp r (p+k) (arrOf st2)) y) (g (sp r (p+k) (arrOf st2)) x)=false;rw [ea,b81 hd,b81 hd]
   by_cases x1:x<p+k
   ·rw [if_pos x1]
    by_cases y1:y<p+k
    ·rw [if_pos y1];exact sA x y hx hxy (by lia)
    rw [if_neg y1]
    by_cases y2:y<p+k+r.size
    ·rw [if_pos y2];rcases mid (y - (p+k)) (by lia) with⟨j,j1,j2,e⟩|⟨j,j1,j2,e⟩
     ·rw [e];exact sA x j hx (by lia) j2
     ·rw [e];exact C.tr _ (g (arrOf st) (p+m)) _ (hB.sg hS (by lia)) (hB.sg hS (by lia)) (hB.sg hS (by lia)) (lowq x hx x1) (sB _ _ (AN _) j1 (by lia))
    ·rw [if_neg y2];exact C.tr _ (g (arrOf st) (p+m)) _ (hB.sg hS (by lia)) (hB.sg hS (by lia)) (hB.sg hS (by lia)) (lowq x hx x1) (sB _ _ (AN _) (by lia) (by lia))
   rw [if_neg x1,if_neg (show ¬y<p+k by lia)]
   by_cases x2:x<p+k+r.size
   ·rw [if_pos x2]
    by_cases y2:y<p+k+r.size
    ·rw [if_pos y2]
     by_cases xy:x=y
     ·subst xy;rcases mid (x - (p+k)) (by lia) with⟨j,j1,j2,e⟩|⟨j,j1,j2,e⟩
      ·rw [e];exact C.rfl' (hB.sg hS (by lia))
      ·rw [e];exact C.rfl' (hB.sg hS (by lia))
     ·have hw:=List.pairwise_iff_getElem.mp gd.1 (x - (p+k)) (y - (p+k)) (show x - (p+k)<r.size by lia) (show y - (p+k)<r.size by lia) (by lia)
      have a1:=W9 (a:=r) (i:=x - (p+k)) (by lia)
      have a2:=W9 (a:=r) (i:=y - (p+k)) (by lia)
      rw [Ai (show x - (p+k)<r.size by lia)] at a1
      rw [Ai (show y - (p+k)<r.size by lia)] at a2
      rw [Option.some.inj a1,Option.some.inj a2] at hw;exact hw
    ·rw [if_neg y2];rcases mid (x - (p+k)) (by lia) with⟨j,j1,j2,e⟩|⟨j,j1,j2,e⟩
     ·rw [e];exact C.tr _ (g (arrOf st) (p+m - 1)) _ (hB.sg hS (by lia)) (hB.sg hS (by lia)) (hB.sg hS (by lia)) (sA _ _ (by lia) (by lia) (by lia)) (highq y (by lia) (by lia))
     ·rw [e];exact sB j y j1 (by lia) (by lia)
   ·rw [if_neg x2,if_neg (by lia)]
    exact sB x y (by lia) hxy hy
  ·intro j hj
   show g (sp r (p+k) (arrOf st2)) j=_
   rw [ea,b81 hd]
   split
   ·rfl
   ·rw [if_neg (by lia)]
 have rest:∀(r:Array Keyed) (st2:SortSt),Q (failedOf (setArr st2 (sp r (p+k) (arrOf st2)))).isNone (setArr st2 (sp r (p+k) (arrOf st2)))->
  wpS (model prog w) A E s (modify λc=>setArr c (sp r (p+k) (arrOf c)):SM PUnit) (λ_ st3=>wpS (model prog w) A E s (get:SM SortSt) (λc st4=>Q (failedOf c).isNone st4) st3) st2:=λr st2 hq=>wpS_modify (wpS_get hq)
 split
 ·exact wpS_bind (c0p C T hB1.kind λr st2 m2 gd=>wpS_bind (wpS_mono (rest r st2 (fin r st2 m2 gd)) λ_ _ q=>wpS_bind (wpS_mono q λ_ _ q=>wpS_pure q)))
 ·exact wpS_bind (c0o C T hB1.kind λr st2 m2 gd=>wpS_bind (wpS_mono (rest r st2 (fin r st2 m2 gd)) λ_ _ q=>wpS_bind (wpS_mono q λ_ _ q=>wpS_pure q)))
end
def Cov(R:Keyed->Keyed->Bool)(a:Array Keyed):List (Nat×Nat×Nat)->Nat->Nat->Prop
 |[],f,t=>f=t
 |(p,n,_)::r,f,t=>p=f/\1<=n/\Seg R a p (p+n)/\Cov R a r (p+n) t
section
variable {R:Keyed->Keyed->Bool}{a b:Array Keyed}
theorem Cov.le:∀{l:List (Nat×Nat×Nat)} {f t:Nat},Cov R a l f t->f+l.length<=t
 |[],f,t,h=>by have:f=t:=h;rw [Aw];lia
 |(p,n,e)::r,f,t,h=>by
  obtain⟨h1,h2,_,h4⟩:=h;have:=h4.le;rw [AY];lia
theorem Cov.same:∀{l:List (Nat×Nat×Nat)} {f t:Nat},Cov R a l f t->(∀j,f<=j->j<t->g b j=g a j)->Cov R b l f t
 |[],f,t,h,_=>h
 |(p,n,e)::r,f,t,h,k=>by
  obtain⟨h1,h2,h3,h4⟩:=h;have:=h4.le;refine⟨h1,h2,λi j hi hij hj=> ?_,h4.same λj h5 h6=>k j (by lia) h6⟩
  rw [k i (by lia) (by lia),k j (by lia) (by lia)]
  exact h3 i j hi hij hj
theorem Cov.split:∀{l m:List (Nat×Nat×Nat)} {f t:Nat},Cov R a (l++m) f t->∃u,Cov R a l f u/\Cov R a m u t
 |[],m,f,t,h=>⟨f,rfl,h⟩
 |(p,n,e)::r,m,f,t,h=>by
  obtain⟨h1,h2,h3,h4⟩:=h;obtain⟨u,h5,h6⟩:=h4.split;exact⟨u,⟨h1,h2,h3,h5⟩,h6⟩
theorem Cov.join:∀{l m:List (Nat×Nat×Nat)} {f u t:Nat},Cov R a l f u->Cov R a m u t->Cov R a (l++m) f t
 |[],m,f,u,t,h,k=>by have:f=u:=h;subst this;exact k
 |(p,n,e)::r,m,f,u,t,h,k=>⟨h.1,h.2.1,h.2.2.1,h.2.2.2.join k⟩
theorem Cov.pow(v:Nat):∀{l:List (Nat×Nat×Nat)} {f t i:Nat},Cov R a l f t->Cov R a (l.modify i λ(x:Nat×Nat×Nat)=>(x.1,x.2.1,v)) f t
 |[],f,t,i,h=>by rw [List.modify_nil];exact h
 |(p,n,e)::r,f,t,0,h=>by rw [List.modify_zero_cons];exact h
 |(p,n,e)::r,f,t,i+1,h=>by rw [List.modify_succ_cons];exact⟨h.1,h.2.1,h.2.2.1,h.2.2.2.pow v⟩
end
theorem b1M{α:Type}:∀{l:List α} {i:Nat},i+1<l.length->∃l1 x y l2,l=l1++x::y::l2/\l1.length=i/\l[i]?=ξ x/\l[i+1]?=ξ y
 |x::y::l,0,_=>⟨[],x,y,l,rfl,rfl,rfl,rfl⟩
 |x::l,i+1,h=>by
  obtain⟨l1,u,v,l2,e,e1,e2,e3⟩:=b1M (l:=l) (i:=i) (by rw [AY] at h;lia)
  exact⟨x::l1,u,v,l2,by rw [e];rfl,by rw [AY,e1],by rw [List.getElem?_cons_succ];exact e2,by rw [List.getElem?_cons_succ];exact e3⟩
 |[],_,h=>by simp at h
 |[x],0,h=>by simp at h
theorem a3U{α:Type}(v:α):∀(l1:List α) (x y:α) (l2:List α),((l1++x::y::l2).set l1.length v).eraseIdx (l1.length+1)=l1++v::l2
 |[],x,y,l2=>rfl
 |z::l1,x,y,l2=>by
  show z::((l1++x::y::l2).set l1.length v).eraseIdx (l1.length+1)=_;rw [a3U v l1 x y l2];rfl
section
variable {prog:AJ}{w:AI}{A:AK}{E:AA->AC->Prop}{s:AC}
variable {κ:SortKind}{S:Keyed->Prop}{R:Keyed->Keyed->Bool}{a₀:Array Keyed}
theorem b54(C:Cmp prog w A E s κ S R)(hS:∀p∈a₀.toList,S p){st:SortSt}{Q:Bool->SortSt->Prop}(hB:B κ a₀ st){i lo:Nat}(hc:Cov R (arrOf st) (pendingOf st).toList 0 lo)(hlo:lo<=a₀.size)(hi:i+1<(pendingOf st).size)
 (h:∀st',B κ a₀ st'->Cov R (arrOf st') (pendingOf st').toList 0 lo->(pendingOf st').size+1=(pendingOf st).size->(∀j,lo<=j->g (arrOf st') j=g (arrOf st) j)->Q true st'):
 wpS (model prog w) A E s (mergeAt' i) Q st:=by
 obtain⟨l1,⟨p,m,e⟩,⟨q,n,e'⟩,l2,el,en,e1,e2⟩:=b1M (l:=(pendingOf st).toList) (i:=i) hi
 rw [el] at hc
 obtain⟨u,c1,c2⟩:=hc.split
 obtain⟨rfl,hm,sA,rfl,hn,sB,c3⟩:=c2
 have l3:=c3.le
 rw [Array.getElem?_toList] at e1 e2
 refine c0n C hS hB e1 e2 hm hn (by lia) sA sB λst' b1 b2 b3 b4=>h st' b1 ?_ ?_ λj hj=>b4 j (by lia)
 ·rw [b2]
  have:(((pendingOf st).setIfInBounds i (p,m+n,e)).eraseIdxIfInBounds (i+1)).toList=l1++(p,m+n,e)::l2:=by
   rw [Array.toList_eraseIdxIfInBounds,Array.toList_setIfInBounds,el,<-en,a3U]
  rw [this]
  refine Cov.join (c1.same λj _ h2=>b4 j (by lia)) ⟨rfl,by lia, ?_, ?_⟩
  ·rw [<-Nat.add_assoc];exact b3
  ·rw [<-Nat.add_assoc];exact c3.same λj h1 h2=>b4 j (by lia)
 ·rw [b2]
  have hz:=congrArg List.length el
  rw [Am,AY,AY,Array.length_toList] at hz
  have:(((pendingOf st).setIfInBounds i (p,m+n,e)).eraseIdxIfInBounds (i+1)).toList.length=l1.length+(l2.length+1):=by
   rw [Array.toList_eraseIdxIfInBounds,Array.toList_setIfInBounds,el,<-en,a3U,Am,AY]
  rw [Array.length_toList] at this
  lia
theorem b7M(C:Cmp prog w A E s κ S R)(hS:∀p∈a₀.toList,S p){st:SortSt}{Q:Unit->SortSt->Prop}(hB:B κ a₀ st)(hp:pendingOf st= #[])
 (h:∀st',B κ a₀ st'->Seg R (arrOf st') 0 a₀.size->Q () st'):wpS (model prog w) A E s sortRuns' Q st:=by
 rw [sortRuns'_eq]
 refine wpS_bind (wpS_get ?_)
 dsimp only
 rw [hB.size]
 refine wpS_bind (wpS_mono (wpS_forRange
  (I:=λx c st'=>∃lo,c=(ζ,lo)/\lo<=a₀.size/\min x a₀.size<=lo/\B κ a₀ st'/\Cov R (arrOf st') (pendingOf st').toList 0 lo)
  (Q:=λc st'=>c=(ζ,a₀.size)/\B κ a₀ st'/\Cov R (arrOf st') (pendingOf st').toList 0 a₀.size) ?_ ?_ ⟨0,rfl,by lia,by lia,hB,by rw [hp];exact(rfl:(0:Nat)=0)⟩) ?_)
 ·rintro x c st' _ hx ⟨lo,rfl,hlo,hxl,hB',hc⟩
  dsimp only
  by_cases hge:lo>=a₀.size
  ·rw [if_pos hge]
   have:lo=a₀.size:=by lia
   subst this
   exact wpS_pure ⟨rfl,hB',hc⟩
  rw [if_neg hge]
  refine wpS_bind (c0g C hS hB' (by lia) (by lia) λm st2 hB2 hp2 hf2 hm1 hm2 hs2=> ?_)
  have hc2:Cov R (arrOf st2) (pendingOf st2).toList 0 lo:=by rw [hp2];exact hc.same λj _ hj=>hf2 j hj
  dsimp only
  by_cases hlt:m<minRun' a₀.size a₀.size 0
  ·rw [if_pos hlt]
   generalize hN:min (a₀.size - lo) (minRun' a₀.size a₀.size 0)=N
   have n1:1<=N:=by lia
   have n2:lo+N<=a₀.size:=by lia
   refine wpS_bind (wpS_lift (wpAny_rule ⟨rfl, ?_⟩))
   refine wpS_bind (c0f C hS hB2 n2 (by lia) n1 hs2 λst3 b3 p3 f3 s3=> ?_)
   simp only [Bool.not_true,AX,if_false]
   have c3:Cov R (arrOf st3) (pendingOf st3).toList 0 lo:=by rw [p3];exact hc2.same λj _ hj=>f3 j hj
   refine wpS_bind (wpS_get ?_)
   have push:∀st4:SortSt,B κ a₀ st4->Cov R (arrOf st4) (pendingOf st4).toList 0 lo->Seg R (arrOf st4) lo (lo+N)->
    ∃lo',((ζ,lo+N):Option PUnit×Nat)=(ζ,lo')/\lo'<=a₀.size/\min (x+1) a₀.size<=lo'/\B κ a₀ (setPending st4 ((pendingOf st4).push (lo,N,0)))/\
     Cov R (arrOf (setPending st4 ((pendingOf st4).push (lo,N,0)))) (pendingOf (setPending st4 ((pendingOf st4).push (lo,N,0)))).toList 0 lo':=by
    intro st4 b1 b2 b3
    refine⟨lo+N,rfl,n2,by lia,⟨b1.perm,b1.kind,b1.failed⟩, ?_⟩
    show Cov R (arrOf st4) ((pendingOf st4).push (lo,N,0)).toList 0 (lo+N)
    rw [Array.toList_push]
    exact b2.join ⟨rfl,n1,b3,rfl⟩
   cases hb:(pendingOf st3).back? with
   |none=>
    dsimp only
    exact wpS_bind (wpS_modify (wpS_pure (push st3 b3 c3 s3)))
   |some t3=>
    obtain⟨s1,r1,w1⟩:=t3
    dsimp only
    refine wpS_bind (wpS_mono (wpS_forRange (I:=λ_ c st4=>c=(ζ,())/\B κ a₀ st4/\Cov R (arrOf st4) (pendingOf st4).toList 0 lo/\Seg R (arrOf st4) lo (lo+N))
     (Q:=λc st4=>c=(ζ,())/\B κ a₀ st4/\Cov R (arrOf st4) (pendingOf st4).toList 0 lo/\Seg R (arrOf st4) lo (lo+N)) ?_ (λ_ _ q=>q) ⟨rfl,b3,c3,s3⟩) ?_)
    ·rintro y c st4 _ _ ⟨rfl,b4,c4,s4⟩
     refine wpS_bind (wpS_get ?_)
     by_cases hz:(pendingOf st4).size>1
     ·rw [if_pos hz]
      obtain⟨⟨u1,u2,u3⟩,hu⟩:∃t,(pendingOf st4)[(pendingOf st4).size - 2]?=ξ t:=⟨_,getElem?_pos (pendingOf st4) _ (by lia)⟩
      rw [hu]
      dsimp only
      split
      ·exact wpS_pure ⟨rfl,b4,c4,s4⟩
      ·refine wpS_bind (b54 C hS b4 c4 hlo (by lia) λst5 b5 c5 z5 f5=> ?_)
       simp only [Bool.not_true,AX,if_false]
       exact wpS_pure ⟨rfl,b5,c5,λi j h1 h2 h3=>by rw [f5 i h1,f5 j (by lia)];exact s4 i j h1 h2 h3⟩
     ·rw [if_neg hz]
      exact wpS_pure ⟨rfl,b4,c4,s4⟩
    ·rintro c st4 ⟨rfl,b4,c4,s4⟩
     dsimp only
     refine wpS_bind (wpS_modify (wpS_bind (wpS_modify (wpS_pure (push (setPending st4 _) ⟨b4.perm,b4.kind,b4.failed⟩ ?_ s4)))))
     show Cov R (arrOf st4) ((pendingOf st4).modify _ _).toList 0 lo
     rw [Array.toList_modify]
     exact c4.pow _
  ·rw [if_neg hlt]
   generalize hN:m=N at*
   have n1:1<=N:=by lia
   have n2:lo+N<=a₀.size:=by lia
   have b3:=hB2
   have c3:=hc2
   have s3:=hs2
   refine wpS_bind (wpS_get ?_)
   have push:∀st4:SortSt,B κ a₀ st4->Cov R (arrOf st4) (pendingOf st4).toList 0 lo->Seg R (arrOf st4) lo (lo+N)->
    ∃lo',((ζ,lo+N):Option PUnit×Nat)=(ζ,lo')/\lo'<=a₀.size/\min (x+1) a₀.size<=lo'/\B κ a₀ (setPending st4 ((pendingOf st4).push (lo,N,0)))/\
     Cov R (arrOf (setPending st4 ((pendingOf st4).push (lo,N,0)))) (pendingOf (setPending st4 ((pendingOf st4).push (lo,N,0)))).toList 0 lo':=by
    intro st4 b1 b2 b3
    refine⟨lo+N,rfl,n2,by lia,⟨b1.perm,b1.kind,b1.failed⟩, ?_⟩
    show Cov R (arrOf st4) ((pendingOf st4).push (lo,N,0)).toList 0 (lo+N)
    rw [Array.toList_push]
    exact b2.join ⟨rfl,n1,b3,rfl⟩
   cases hb:(pendingOf st2).back? with
   |none=>
    dsimp only
    exact wpS_bind (wpS_modify (wpS_pure (push st2 b3 c3 s3)))
   |some t3=>
    obtain⟨s1,r1,w1⟩:=t3
    dsimp only
    refine wpS_bind (wpS_mono (wpS_forRange (I:=λ_ c st4=>c=(ζ,())/\B κ a₀ st4/\Cov R (arrOf st4) (pendingOf st4).toList 0 lo/\Seg R (arrOf st4) lo (lo+N))
     (Q:=λc st4=>c=(ζ,())/\B κ a₀ st4/\Cov R (arrOf st4) (pendingOf st4).toList 0 lo/\Seg R (arrOf st4) lo (lo+N)) ?_ (λ_ _ q=>q) ⟨rfl,b3,c3,s3⟩) ?_)
    ·rintro y c st4 _ _ ⟨rfl,b4,c4,s4⟩
     refine wpS_bind (wpS_get ?_)
     by_cases hz:(pendingOf st4).size>1
     ·rw [if_pos hz]
      obtain⟨⟨u1,u2,u3⟩,hu⟩:∃t,(pendingOf st4)[(pendingOf st4).size - 2]?=ξ t:=⟨_,getElem?_pos (pendingOf st4) _ (by lia)⟩
      rw [hu]
      dsimp only
      split
      ·exact wpS_pure ⟨rfl,b4,c4,s4⟩
      ·refine wpS_bind (b54 C hS b4 c4 hlo (by lia) λst5 b5 c5 z5 f5=> ?_)
       simp only [Bool.not_true,AX,if_false]
       exact wpS_pure ⟨rfl,b5,c5,λi j h1 h2 h3=>by rw [f5 i h1,f5 j (by lia)];exact s4 i j h1 h2 h3⟩
     ·rw [if_neg hz]
      exact wpS_pure ⟨rfl,b4,c4,s4⟩
    ·rintro c st4 ⟨rfl,b4,c4,s4⟩
     dsimp only
     refine wpS_bind (wpS_modify (wpS_bind (wpS_modify (wpS_pure (push (setPending st4 _) ⟨b4.perm,b4.kind,b4.failed⟩ ?_ s4)))))
     show Cov R (arrOf st4) ((pendingOf st4).modify _ _).toList 0 lo
     rw [Array.toList_modify]
     exact c4.pow _
 ·rintro c st' ⟨lo,rfl,hlo,hxl,hB',hc⟩
  have:lo=a₀.size:=by lia
  subst this
  exact⟨rfl,hB',hc⟩
 ·rintro c st' ⟨rfl,hB',hc⟩
  dsimp only
  have len:=hc.le
  rw [Array.length_toList] at len
  refine wpS_bind (wpS_mono (wpS_forRange (I:=λx c st4=>c=(ζ,())/\B κ a₀ st4/\Cov R (arrOf st4) (pendingOf st4).toList 0 a₀.size/\(pendingOf st4).size<=max 1 (a₀.size - x))
   (Q:=λc st4=>c=(ζ,())/\B κ a₀ st4/\Cov R (arrOf st4) (pendingOf st4).toList 0 a₀.size/\(pendingOf st4).size<=1) ?_ ?_ ⟨rfl,hB',hc,by lia⟩) ?_)
  ·rintro x c st4 _ hx ⟨rfl,b4,c4,z4⟩
   refine wpS_bind (wpS_get ?_)
   by_cases hz:(pendingOf st4).size<=1
   ·rw [if_pos hz]
    exact wpS_pure ⟨rfl,b4,c4,hz⟩
   ·rw [if_neg hz]
    refine wpS_bind (b54 C hS b4 c4 (AN _) ?_ λst5 b5 c5 z5 f5=> ?_)
    ·repeat' split
     all_goals lia
    simp only [Bool.not_true,AX,if_false]
    exact wpS_pure ⟨rfl,b5,c5,by lia⟩
  ·rintro c st4 ⟨rfl,b4,c4,z4⟩
   exact⟨rfl,b4,c4,by lia⟩
  ·rintro c st4 ⟨rfl,b4,c4,z4⟩
   refine wpS_pure (h st4 b4 ?_)
   match hl:(pendingOf st4).toList,c4,(show(pendingOf st4).toList.length<=1 from z4) with
   |[],c4,_=>
    have:0=a₀.size:=c4
    intro i j _ _ hj;lia
   |[(p,n,e)],c4,_=>
    obtain⟨rfl,_,sg,e1⟩:=c4
    have:0+n=a₀.size:=e1
    rw [<-this];exact sg
   |_::_::_,_,z=>simp at z
end
open PySem PySem.Spec PyProof.Rows
section
variable {prog:AJ}{w:AI}{A:AK}{E:AA->AC->Prop}{s:AC}
variable {κ:SortKind}{S:Keyed->Prop}{R:Keyed->Keyed->Bool}
def tw(v:AA):Keyed:=(v,v)
theorem a9N(vs:List AA):(pairsOf vs).toList=vs.map tw:=by
 rw [pairsOf_toList]
 induction vs with
 |nil=>rfl
 |cons v r ih=>rw [List.zip_cons_cons,ih];rfl
theorem b44{vs:List AA}{a:Array Keyed}(hp:a.Perm (pairsOf vs))(hs:Seg R a 0 (pairsOf vs).size):
 ((a.map (·.2)).toList).Perm vs/\((a.map (·.2)).toList).Pairwise λu v=>R (tw v) (tw u)=false:=by
 have hl:=Array.perm_iff_toList_perm.mp hp
 rw [a9N] at hl
 have e:a.toList=(a.map (·.2)).toList.map tw:=by
  rw [Array.toList_map,BG];have:∀p∈a.toList,(tw∘λp:Keyed=>p.2) p=p:=λp hm=>by
   obtain⟨v,_,rfl⟩:=Ay.mp (hl.mem_iff.mp hm)
   rfl
  rw [List.map_congr_left this,List.map_id']
 refine⟨?_, ?_⟩
 ·have:=hl.map (λp:Keyed=>p.2)
  rw [BG] at this
  have e2:vs.map ((λp:Keyed=>p.2)∘tw)=vs:=by
   have:((λp:Keyed=>p.2)∘tw)=id:=rfl;rw [this,List.map_id]
  rw [e2] at this
  rw [Array.toList_map];exact this
 ·have hw:a.toList.Pairwise λx y=>R y x=false:=by
   rw [List.pairwise_iff_getElem];intro i j hi hj hij;have h1:=W9 (a:=a) hi;have h2:=W9 (a:=a) hj;rw [Ai hi] at h1;rw [Ai hj] at h2;rw [Option.some.inj h1,Option.some.inj h2];have:a.toList.length=a.size:=rfl;exact hs i j (Nat.zero_le _) (by lia) (by rw [<-hp.size_eq];lia)
  rw [e,List.pairwise_map] at hw;exact hw
theorem a6J{a:AB}{vs:List AA}{n:Nat}{P:PySem.Fin->AC->Prop}(ho:s.heap.get? a=ξ (seqObj "list" vs.toArray n))(hz:vs.length<=16777216)
 (hC:2<=vs.length->∀h',(∀b o,b≠a->s.heap.get? b=ξ o->h'.get? b=ξ o)->
  (∀Q:SortKind->AC->Prop,Q κ {s with heap:=h'}->AF (model prog w) A (keyKind' vs.toArray) Q E {s with heap:=h'})/\Cmp prog w A E {s with heap:=h'} κ S R)
 (hS:∀v∈vs,S (tw v))
 (h:∀out:Array AA,out.toList.Perm vs->(out.toList.Pairwise λu v=>R (tw v) (tw u)=false)->P (.done (.ret .none)) {s with heap:=sortedHeap s.heap a vs out}):
 AF (model prog w) A (Builtin.«list.sort» ⟨[.ref a],[]⟩) P E s:=by
 have hb:vs.toArray.size<=AM:=by rw [Ab,sizeLine_eq];exact hz
 have ha:a<s.heap.objs.size:=AT ho
 rw [list_sort_plain]
 refine AD (listItems_at ho rfl (AD (listUpdate_at ho rfl ?_ hb (Nat.zero_le _))))
 obtain⟨e1,q1⟩:∃e1,(s.heap.update a (Obj.mapSeq λ_=> #[])).get? a=ξ (seqObj "list" #[] e1):=⟨_,get?_update_seq ho (λ_=> #[])⟩
 refine AD (seqEpoch_at q1 rfl (AD (wpAny_newTuple (AD (wpAny_newList (wpAny_holding ?_) (Nat.zero_le _))) (by show vs.length<=_;rw [sizeLine_eq];exact hz))))
 have q6:(((s.heap.update a (Obj.mapSeq λ_=> #[])).push (seqObj "tuple" vs.toArray 0)).push (seqObj "list" #[] 0)).get? a=ξ (seqObj "list" #[] e1):=
  AR _ (AR _ q1)
 have keep:∀b o,b≠a->s.heap.get? b=ξ o->(((s.heap.update a (Obj.mapSeq λ_=> #[])).push (seqObj "tuple" vs.toArray 0)).push (seqObj "list" #[] 0)).get? b=ξ o:=λb o hb e=>
  AR _ (AR _ (by rw [Heap.get?_update_ne _ _ _ _ hb];exact e))
 show AF (model prog w) A _ P E {s with heap:=((s.heap.update a (Obj.mapSeq λ_=> #[])).push (seqObj "tuple" vs.toArray 0)).push (seqObj "list" #[] 0)}
 dsimp only
 by_cases h2:vs.toArray.size<2
 ·rw [if_pos h2,if_pos h2]
  have h2':vs.length<2:=by rwa [Ab] at h2
  refine AD (AH ?_)
  rw [StateT.run_pure]
  refine AD (AH ?_)
  dsimp only
  refine AD (seqEpoch_at q6 rfl (AD (listUpdate_at q6 rfl ?_ (hsz2:= ?_))))
  ·simp only [bne_self_eq_false,AX,if_false]
   have ob:=b44 (R:=λ_ _=>false) (vs:=vs) (a:=pairsOf vs) (Array.Perm.refl _) (λi j _ hij hj=>rfl)
   refine AH (h _ ob.1 ?_)
   have hl:=ob.1.length_eq
   match(Array.map (λp:Keyed=>p.2) (pairsOf vs)).toList,hl with
   |[],_=>exact List.Pairwise.nil
   |[u],_=>exact List.pairwise_singleton _ _
   |_::_::_,hl=>simp at hl;lia
  ·rw [Array.size_map]
   show(pairsOf vs).size<=_
   rw [pairsOf_size,sizeLine_eq];lia
 ·rw [if_neg h2,if_neg h2]
  obtain⟨k1,k2⟩:=hC (by rw [Ab] at h2;lia) _ keep
  refine AD (k1 _ ?_)
  have hS':∀p∈(pairsOf vs).toList,S p:=λp hp=>by
   rw [a9N] at hp;obtain⟨v,hv,rfl⟩:=Ay.mp hp;exact hS v hv
  refine AD (wpAny_mono (b7M (a₀:=pairsOf vs) k2 hS' (st:=SortSt.mk' κ (vs.toArray.zip vs.toArray) #[] 7 ζ) (Q:=λ_ st'=>B κ (pairsOf vs) st'/\Seg R (arrOf st') 0 (pairsOf vs).size) ⟨Array.Perm.refl _,rfl,rfl⟩ rfl λst' b1 b2=>⟨b1,b2⟩) ?_ λ_ _ e=>e)
  rintro⟨⟨⟩,st'⟩ s' ⟨rfl,b1,b2⟩
  dsimp only
  refine AD (seqEpoch_at q6 rfl (AD (listUpdate_at q6 rfl ?_ (hsz2:= ?_))))
  ·rw [b1.failed]
   simp only [bne_self_eq_false,AX,if_false]
   have ob:=b44 b1.perm b2
   exact AH (h _ ob.1 ob.2)
  ·refine Nat.le_trans (Nat.le_of_eq ((Array.size_map ..).trans (b1.perm.size_eq.trans (pairsOf_size _)))) ?_
   rw [sizeLine_eq];lia
end
open PySem PySem.Spec PyProof.Rows L2 PU
section
variable {prog:AJ}{w:AI}{A:AK}{E:AA->AC->Prop}{s:AC}
variable {κ:SortKind}{S:Keyed->Prop}{R:Keyed->Keyed->Bool}
theorem b1b{l:AB}{T:String}{o:Obj}{vs:List AA}{n:Nat}{Q:AA->AC->Prop}(hT:T="list"\/T="tuple")(ho:s.heap.get? l=ξ o)(hc:o.cls= .type T)(hd:o.data= .seq vs.toArray n)(hz:vs.length<=16777216)
 (hC:2<=vs.length->∀h',(∀b o,s.heap.get? b=ξ o->h'.get? b=ξ o)->
  (∀Q:SortKind->AC->Prop,Q κ {s with heap:=h'}->AF (model prog w) A.in1.in1 (keyKind' vs.toArray) Q (λ_ _=>False) {s with heap:=h'})/\Cmp prog w A.in1.in1 (λ_ _=>False) {s with heap:=h'} κ S R)
 (hS:∀v∈vs,S (tw v))
 (h:∀(h1 h':Heap) (e:Nat) (us:List AA),(∀b o',s.heap.get? b=ξ o'->h1.get? b=ξ o')->(∀b o',h1.get? b=ξ o'->h'.get? b=ξ o')->us.Perm vs->(us.Pairwise λu v=>R (tw v) (tw u)=false)->
  h'.get? h1.objs.size=ξ (seqObj "list" us.toArray e)->Q (.ref h1.objs.size) {s with heap:=h'}):
 AF (model prog w) A (call (.builtin "sorted") [.ref l]) Q E s:=by
 refine Calls.call_function_entry kind_sorted plain_sorted entry_sorted (args_sorted1 _) ?_
 unfold Builtin.«sorted»
 refine AD (m:=checkCount "sorted" 1 1 _) (AH ?_)
 refine AD (wpAny_collect_seq l hT ho hc hd (λh1 k1=> ?_) (by rw [Ab,sizeLine_eq];exact hz))
 have ev:vs.toArray.toList=vs:=by simp
 rw [ev]
 refine AD (wpAny_newList ?_ (by rw [sizeLine_eq];exact hz))
 have q1:(h1.push (seqObj "list" vs.toArray 0)).get? h1.objs.size=ξ (seqObj "list" vs.toArray 0):=Aa _ rfl
 show AF _ _ _ _ _ {s with heap:=h1.push (seqObj "list" vs.toArray 0)}
 refine AD (wpAny_holding (wpAny_call_entry slot_list_sort ⟨_,q1,rfl⟩ entry_list_sort (wpAny_mono (a6J (E:=λ_ _=>False) (κ:=κ) (S:=S) (R:=R) q1 hz (λh2 h' kp=>hC h2 h' λb o' e=>kp b o' ?_ ?_) hS λout a1 a2=>⟨_,rfl, ?_⟩) (λ_ _ e=>e) λ_ _ e=>e.elim) (args_list_sort _)))
 ·exact AW (AT (k1 b o' e))
 ·exact AR _ (k1 b o' e)
 ·obtain⟨e,he⟩:=sortedHeap_at (out:=out) q1
  refine AH ⟨_,rfl,h h1 _ e out.toList k1 (λb o' hb1=> ?_) a1 a2 (by rw [Array.toArray_toList];exact he)⟩
  have hlt:=AT hb1
  rw [sortedHeap_old (AW hlt) (by rw [size_push'];exact Nat.lt_succ_of_lt hlt),Heap.get?_push_ne _ _ _ (AW hlt)]
  exact hb1
end
end TS
namespace PU
open PySem PySem.Spec PyProof.Rows L2
def b2L{α:Type}(lt:α->α->Bool)(x:α):List α->List α
 |[]=>[x]
 |y::r=>if lt y x then y::b2L lt x r else x::y::r
def a6l{α:Type}(lt:α->α->Bool):List α->List α
 |[]=>[]
 |x::r=>b2L lt x (a6l lt r)
structure b2k{α:Type}(lt:α->α->Bool):Prop where
 tr:∀a b c,lt b a=false->lt c b=false->lt c a=false
 as:∀a b,lt a b=true->lt b a=false
 an:∀a b,lt a b=false->lt b a=false->a=b
section
variable {α:Type}{lt:α->α->Bool}
theorem a3w(x:α):∀l:List α,(b2L lt x l).Perm (x::l)
 |[]=>List.Perm.refl _
 |y::r=>by
  unfold b2L;split
  ·exact((a3w x r).cons y).trans (List.Perm.swap x y r)
  ·exact List.Perm.refl _
theorem a6m:∀l:List α,(a6l lt l).Perm l
 |[]=>List.Perm.refl _
 |x::r=>(a3w x (a6l lt r)).trans ((a6m r).cons x)
theorem a39(L:b2k lt)(x:α):∀{l:List α},(l.Pairwise λa b=>lt b a=false)->(b2L lt x l).Pairwise λa b=>lt b a=false
 |[],_=>List.pairwise_singleton _ _
 |y::r,h=>by
  unfold b2L;have h':=List.pairwise_cons.mp h;split
  ·rename_i c;refine List.pairwise_cons.mpr ⟨λz hz=> ?_,a39 L x h'.2⟩;rcases AU.mp ((a3w x r).mem_iff.mp hz) with e|e
   ·subst e;exact L.as _ _ c
   ·exact h'.1 z e
  ·rename_i c;have c':lt y x=false:=eq_false_of_ne_true c;refine List.pairwise_cons.mpr ⟨λz hz=> ?_,h⟩;rcases AU.mp hz with e|e
   ·subst e;exact c'
   ·exact L.tr _ _ _ c' (h'.1 z e)
theorem a3f(L:b2k lt):∀l:List α,(a6l lt l).Pairwise λa b=>lt b a=false
 |[]=>List.Pairwise.nil
 |x::r=>a39 L x (a3f L r)
theorem a6n(L:b2k lt):∀{l m:List α},(l.Pairwise λa b=>lt b a=false)->(m.Pairwise λa b=>lt b a=false)->l.Perm m->l=m
 |[],m,_,_,p=>(List.Perm.nil_eq p)
 |a::l,[],_,_,p=>by have:=p.length_eq;simp at this
 |a::l,b::m,hl,hm,p=>by
  have hl':=List.pairwise_cons.mp hl;have hm':=List.pairwise_cons.mp hm;have e:a=b:=by
   have m1:a∈b::m:=p.mem_iff.mp Af;have m2:b∈a::l:=p.mem_iff.mpr Af;rcases AU.mp m1 with e|e
   ·exact e
   ·rcases AU.mp m2 with g|g
    ·exact g.symm
    ·exact L.an _ _ (hm'.1 a e) (hl'.1 b g)
  subst e;rw [a6n L hl'.2 hm'.2 (List.Perm.cons_inv p)]
theorem b5F(L:b2k lt){l m:List α}(h:l.Pairwise λa b=>lt b a=false)(p:l.Perm m):a6l lt m=l:=
 a6n L (a3f L m) h ((a6m m).trans p.symm)
end
def a7i:f6->f6->Bool
 | .inl a,.inl b=>decide (a<b)
 | .inr a,.inr b=>decide (a.cps.toList<b.cps.toList)
 | .inl _,.inr _=>true
 | .inr _,.inl _=>false
def a1n:List f6->List f6->Bool
 |[],[]=>false
 |[],_::_=>true
 |_::_,[]=>false
 |a::r,b::t=>if a=b then a1n r t else a7i a b
theorem a4E:b2k a7i where
 tr:=by
  intro a b c h1 h2;cases a<;>cases b<;>cases c<;>simp only [a7i,decide_eq_false_iff_not,reduceCtorEq] at h1 h2 ⊢
  ·lia
  ·exact a3z (a:=_) (b:=_) (c:=_) h1 h2
 as:=by
  intro a b h;cases a<;>cases b<;>simp only [a7i,decide_eq_false_iff_not,decide_eq_true_eq,reduceCtorEq] at h ⊢
  ·lia
  ·exact List.lt_asymm h
 an:=by
  intro a b h1 h2;cases a<;>cases b<;>simp only [a7i,decide_eq_false_iff_not,reduceCtorEq] at h1 h2
  ·congr 1;lia
  ·congr 1;exact a5v h2 h1
theorem a5x:b2k a1n where
 tr:=by
  intro a
  induction a with
  |nil=>intro b c _ h2;cases c<;>rfl
  |cons x a ih=>
   intro b c h1 h2;cases b with
   |nil=>simp [a1n] at h1
   |cons y b=>
    cases c with
    |nil=>simp [a1n] at h2
    |cons z c=>
     unfold a1n at h1 h2 ⊢
     by_cases e1:y=x
     ·subst e1;rw [if_pos rfl] at h1
      by_cases e2:z=y
      ·subst e2;rw [if_pos rfl] at h2 ⊢;exact ih b c h1 h2
      ·rw [if_neg e2] at h2 ⊢;exact h2
     ·rw [if_neg e1] at h1
      by_cases e2:z=y
      ·subst e2;rw [if_neg e1];exact h1
      ·rw [if_neg e2] at h2
       by_cases e3:z=x
       ·subst e3;exact absurd (a4E.an _ _ h1 h2) e1
       ·rw [if_neg e3];exact a4E.tr _ _ _ h1 h2
 as:=by
  intro a
  induction a with
  |nil=>intro b h;cases b<;>first|rfl|(simp [a1n] at h)
  |cons x a ih=>
   intro b h;cases b with
   |nil=>simp [a1n] at h
   |cons y b=>
    unfold a1n at h ⊢
    by_cases e:x=y
    ·subst e;rw [if_pos rfl] at h ⊢;exact ih b h
    ·rw [if_neg e] at h;rw [if_neg (Ne.symm e)];exact a4E.as _ _ h
 an:=by
  intro a
  induction a with
  |nil=>intro b h1 h2;cases b<;>first|rfl|(simp [a1n] at h1)
  |cons x a ih=>
   intro b h1 h2;cases b with
   |nil=>simp [a1n] at h2
   |cons y b=>
    unfold a1n at h1 h2
    by_cases e:x=y
    ·subst e;rw [if_pos rfl] at h1 h2;rw [ih b h1 h2]
    ·rw [if_neg e] at h1;rw [if_neg (Ne.symm e)] at h2;exact absurd (a4E.an _ _ h1 h2) e
def kT(k:List f6):PV:= .tuple (k.map kP)
def a9v:List PV->Option (List (List f6))
 |[]=>ξ []
 | .tuple qs::r=>(keysOf qs).bind λk=>(a9v r).map λt=>k::t
 |_::_=>ζ
def sgK:f6->Bool
 | .inl _=>false
 | .inr _=>true
def okK:List (List f6)->Bool
 |[]=>true
 |k::r=> !k.isEmpty && r.all λj=>j.map sgK==k.map sgK
open PySem PySem.Spec PyProof.Rows L2 PySem.W
theorem b87:∀{a b:f6},kV a=kV b->a=b
 | .inl _,.inl _,h=>by cases h;rfl
 | .inr _,.inr _,h=>by cases h;rfl
 | .inl _,.inr _,h=>nomatch h
 | .inr _,.inl _,h=>nomatch h
theorem b1H:∀{a b:List f6},a.map kV=b.map kV->a=b
 |[],[],_=>rfl
 |[],_::_,h=>nomatch h
 |_::_,[],h=>nomatch h
 |x::a,y::b,h=>by
  rw [AQ,AQ] at h;obtain⟨h1,h2⟩:=List.cons.inj h;rw [b87 h1,b1H h2]
def Z2(h:Heap)(u:AA)(k:List f6):Prop:=∃(a:AB) (o:Obj) (xs:Array AA) (n:Nat),u= .ref a/\h.get? a=ξ o/\o.cls= .type "tuple"/\o.data= .seq xs n/\j4 (k.map kV) xs.toList
theorem Z2.inj{h:Heap}{u:AA}{k j:List f6}(a:Z2 h u k)(b:Z2 h u j):k=j:=by
 obtain⟨a1,o1,x1,n1,rfl,g1,_,d1,v1⟩:=a;obtain⟨a2,o2,x2,n2,e2,g2,_,d2,v2⟩:=b;cases e2;rw [g1] at g2;cases g2;rw [d1] at d2;cases d2;exact b1H (v1.inj v2)
theorem Z2.keep{h h':Heap}{u:AA}{k:List f6}(a:Z2 h u k)(kp:∀b o,h.get? b=ξ o->h'.get? b=ξ o):Z2 h' u k:=
 let ⟨a1,o1,x1,n1,e,g1,c,d1,v1⟩:=a;⟨a1,o1,x1,n1,e,kp _ _ g1,c,d1,v1⟩
open Classical in
def kOf(h:Heap)(u:AA):List f6:=if e:∃k,Z2 h u k then e.choose else []
theorem a8f{h:Heap}{u:AA}{k:List f6}(a:Z2 h u k):kOf h u=k:=by
 have e:∃k,Z2 h u k:=⟨k,a⟩;unfold kOf;rw [dif_pos e];exact e.choose_spec.inj a
section
variable {prog:AJ}{w:AI}{A:AK}{E:AA->AC->Prop}{s:AC}
theorem b4w{a c:f6}{u v:AA}(hu:j3 (kV a) u)(hv:j3 (kV c) v)(hg:sgK a=sgK c):SeqAt.EqAt A s u v (decide (a=c)):=by
 cases a<;>cases c<;>first|(cases hg;done)|skip
 ·obtain⟨t,rfl⟩:=hu;obtain⟨t',rfl⟩:=hv;rename_i i j;have:(decide ((Sum.inl i:f6)=Sum.inl j))=(i==j):=b4x i j;rw [this];exact SeqAt.EqAt.int_int _ _ _ _
 ·obtain⟨t,rfl⟩:=hu;obtain⟨t',rfl⟩:=hv;rename_i i j;rw [b4y i j];have:=SeqAt.EqAt.str_str (A:=A) (s:=s) i t j t';have e:(i==j)=decide (i=j):=by by_cases h:i=j<;>simp [h]
  rw [e] at this;exact this
theorem b2T{a c:f6}{u v:AA}{Q:Bool->AC->Prop}(f:Bool)(hu:j3 (kV a) u)(hv:j3 (kV c) v)(hg:sgK a=sgK c)(h:Q (a7i a c) s):AF (model prog w) A (oneLt' f u v) Q E s:=by
 cases a<;>cases c<;>first|(cases hg;done)|skip
 ·obtain⟨t,rfl⟩:=hu;obtain⟨t',rfl⟩:=hv;cases f
  ·exact kat_one _ _ (b2l.ints _ _ t t' prog w E _ h)
  ·exact oneLt_int h
 ·obtain⟨t,rfl⟩:=hu;obtain⟨t',rfl⟩:=hv;cases f
  ·exact kat_one _ _ (b2l.strs _ _ t t' prog w E _ h)
  ·rw [<-keyLt'_oneType];exact kas_lt_str h
theorem a4b{b:Bool}{Q:Bool->AC->Prop}:∀(ks js:List f6) (us ws:List AA) (i:Nat),j4 (ks.map kV) us->j4 (js.map kV) ws->ks.map sgK=js.map sgK->Q (a1n ks js) s->KatLex prog w A b false Q (us.zip ws) i s
 |[],[],us,ws,i,h1,h2,_,h=>by
  cases h1;cases h2;exact kat_nil h
 |[],_::_,_,_,_,_,_,e,_=>nomatch e
 |_::_,[],_,_,_,_,_,e,_=>nomatch e
 |a::ks,c::js,us,ws,i,h1,h2,e,h=>by
  rw [AQ] at h1 h2;cases h1 with
  |cons r1 h1=>
   cases h2 with
   |cons r2 h2=>
    rw [AQ,AQ] at e;obtain⟨e1,e2⟩:=List.cons.inj e;rw [List.zip_cons_cons];refine kat_cons (b4w r1 r2 e1 prog w _ _ ?_);unfold a1n at h
    by_cases hac:a=c
    ·rw [if_pos hac] at h;rw [decide_eq_true hac];exact kat_yes (a4b ks js _ _ (i+1) h1 h2 e2 h)
    ·rw [if_neg hac] at h;rw [decide_eq_false hac];exact kat_no (b2T _ r1 r2 e1 h)
theorem b5P{h₀:Heap}{σk:List Bool}{b:Bool}(kp:∀b o,h₀.get? b=ξ o->s.heap.get? b=ξ o):
 TS.Cmp prog w A E s (tuples' b) (λx=>∃k,Z2 h₀ x.1 k/\k.map sgK=σk) (λx y=>a1n (kOf h₀ x.1) (kOf h₀ y.1)) where
 lt:=by
  rintro⟨x,x'⟩ ⟨y,y'⟩ ⟨k,hk,gk⟩ ⟨j,hj,gj⟩ st Q hκ h;dsimp only at*;rw [a8f hk,a8f hj] at h;rw [lt'_eq];refine wpS_bind (wpS_get ?_);rw [hκ];refine wpS_bind (wpS_lift (wpAny_attempt ?_));obtain⟨a1,o1,x1,n1,rfl,g1,c1,d1,v1⟩:=hk;obtain⟨a2,o2,x2,n2,rfl,g2,c2,d2,v2⟩:=hj;have z1:k.length=x1.size:=by have:=v1.length;rwa [AV,Array.length_toList] at this
  have z2:j.length=x2.size:=by have:=v2.length;rwa [AV,Array.length_toList] at this
  have zk:k.length=j.length:=by have:=congrArg List.length (gk.trans gj.symm);rwa [AV,AV] at this
  refine kat_lt (kp _ _ g1) d1 (kp _ _ g2) d2 ?_;have:decide (x1.size<x2.size)=false:=decide_eq_false (by rw [<-z1,<-z2,zk];exact Nat.lt_irrefl _)
  rw [this];exact a4b k j _ _ 0 v1 v2 (gk.trans gj.symm) ⟨rfl,wpS_pure h⟩
 tr:=λx y z _ _ _=>a5x.tr _ _ _
 as:=λx y _ _=>a5x.as _ _
end
theorem a5T{α β:Type}{R:α->β->Prop}:∀{l:List α} {m:List β},Paired R l m->∀x∈l,∃y∈m,R x y
 |_,_,.cons r t,x,h=>by
  rcases AU.mp h with rfl|h
  ·exact⟨_,Af,r⟩
  ·obtain⟨y,hy,q⟩:=a5T t x h;exact⟨y,Ae _ hy,q⟩
theorem a2v{h:Heap}:∀{vs:List AA} {ks:List (List f6)},Paired (Z2 h) vs ks->vs.map (kOf h)=ks
 |_,_,.nil=>rfl
 |_,_,.cons r t=>by rw [AQ,a8f r,a2v t]
section
variable {prog:AJ}{w:AI}{A:AK}{E:AA->AC->Prop}{s:AC}
theorem a4m{c:Bool}{σk:List Bool}{h:Heap}:∀{vs:List AA} {ks:List (List f6)},Paired (Z2 h) vs ks->(∀k∈ks,k.map sgK=c::σk)->
 ∃fs:List AA,KatTups h vs fs/\fs.length=vs.length/\∀v∈fs,Looks (model prog w) h (typeOf v) (if c then Value.type "str" else Value.type "int")
 |_,_,.nil,_=>⟨[],.nil,rfl,λv hv=>nomatch hv⟩
 |_,_,.cons r t,hs=>by
  rename_i v k vs ks;obtain⟨fs,f1,f2,f3⟩:=a4m t λk hk=>hs k (Ae _ hk);have e:=hs k Af;obtain⟨a1,o1,x1,n1,rfl,g1,c1,d1,v1⟩:=r;cases k with
  |nil=>cases e
  |cons q k=>
   rw [AQ] at e v1;have e1:=(List.cons.inj e).1;generalize hx:x1.toList=xl at v1;cases v1 with
   |cons r1 v1=>
    rename_i u us;have h0:x1[0]?=ξ u:=by rw [<-Array.getElem?_toList,hx];rfl
    refine⟨u::fs,.cons g1 c1 d1 h0 f1,by rw [AY,AY,f2],λv hv=> ?_⟩
    rcases AU.mp hv with rfl|hv
    ·cases q with
     |inl i=>
      obtain⟨t',rfl⟩:=r1;have:c=false:=e1.symm;subst this;exact(.now:Looks (model prog w) h (pure (Value.type "int")) (Value.type "int"))
     |inr x=>
      obtain⟨t',rfl⟩:=r1;have:c=true:=e1.symm;subst this;exact(.now:Looks (model prog w) h (pure (Value.type "str")) (Value.type "str"))
    ·exact f3 v hv
theorem b3m{c:Bool}{σk:List Bool}{vs:List AA}{ks:List (List f6)}{Q:SortKind->AC->Prop}(hp:Paired (Z2 s.heap) vs ks)(h0:0<vs.length)(hs:∀k∈ks,k.map sgK=c::σk)(h:Q (tuples' true) s):
 AF (model prog w) A (keyKind' vs.toArray) Q E s:=by
 obtain⟨fs,f1,f2,f3⟩:=a4m (prog:=prog) (w:=w) hp hs
 refine kat_kind f1 (by lia) f3 ?_ ?_
 ·cases c<;>decide
 ·have:((if c=true then Value.type "str" else Value.type "int") !=Value.type "tuple")=true:=by cases c<;>decide
  rw [this];exact h
theorem a4e{h h':Heap}(kp:∀b o,h.get? b=ξ o->h'.get? b=ξ o):∀{vs:List AA} {ks:List (List f6)},Paired (Z2 h) vs ks->Paired (Z2 h') vs ks
 |_,_,.nil=> .nil
 |_,_,.cons r t=> .cons (r.keep kp) (a4e kp t)
theorem a92{l:AB}{T:String}{o:Obj}{vs:List AA}{n:Nat}{Q:AA->AC->Prop}(hT:T="list"\/T="tuple")(ho:s.heap.get? l=ξ o)(hc:o.cls= .type T)(hd:o.data= .seq vs.toArray n)(hz:vs.length<=16777216)
 {ks:List (List f6)} (hp:Paired (Z2 s.heap) vs ks) (ok:okK ks=true)
 (h:∀(h1 h':Heap) (e:Nat) (us:List AA),(∀b o',s.heap.get? b=ξ o'->h1.get? b=ξ o')->(∀b o',h1.get? b=ξ o'->h'.get? b=ξ o')->us.Perm vs->us.map (kOf s.heap)=a6l a1n ks->
  h'.get? h1.objs.size=ξ (seqObj "list" us.toArray e)->Q (.ref h1.objs.size) {s with heap:=h'}):
 AF (model prog w) A (call (.builtin "sorted") [.ref l]) Q E s:=by
 obtain⟨c,σk,hs⟩:∃c σk,∀k∈ks,k.map sgK=c::σk:=by
  cases ks with
  |nil=>exact⟨false,[],λk hk=>nomatch hk⟩
  |cons k r=>
   unfold okK at ok;rw [Bool.and_eq_true] at ok;cases k with
   |nil=>exact nomatch ok.1
   |cons q k=>
    refine⟨sgK q,k.map sgK,λj hj=> ?_⟩;rcases AU.mp hj with rfl|hj
    ·rfl
    ·have:=List.all_eq_true.mp ok.2 j hj
     simpa using this
 refine TS.b1b (κ:=tuples' true) (S:=λx=>∃k,Z2 s.heap x.1 k/\k.map sgK=c::σk) (R:=λx y=>a1n (kOf s.heap x.1) (kOf s.heap y.1)) hT ho hc hd hz (λh2 h' kp=>⟨λQ' hq=> ?_,b5P (s:={s with heap:=h'}) kp⟩) (λv hv=> ?_)
  λh1 h' e us k1 k2 pm pw he=>h h1 h' e us k1 k2 pm ?_ he
 ·exact b3m (s:={s with heap:=h'}) (a4e kp hp) (by lia) hs hq
 ·obtain⟨k,hk,r⟩:=a5T hp v hv
  exact⟨k,r,hs k hk⟩
 ·symm
  refine b5F a5x (List.pairwise_map.mpr pw) ?_
  have:=pm.map (kOf s.heap)
  rw [a2v hp] at this
  exact this
end
theorem a7d:∀{qs:List PV} {k:List f6},keysOf qs=ξ k->qs=k.map kP
 |[],k,h=>by cases h;rfl
 |q::qs,k,h=>by
  unfold keysOf at h;obtain⟨a,h1,h⟩:=bind_some h;obtain⟨r,h2,h⟩:=bind_some h;cases h;rw [AQ,<-a7d h2]
  congr 1
  unfold b1J at h1;split at h1<;>cases h1<;>rfl
def a79(x:d7):Option d7:=match PyData.items? x.rd with
 |some ps=>(a9v ps).bind λks=>if okK ks=true/\ks.length<=16777216 then ξ (.own ((a6l a1n ks).map kT)) else ζ
 |none=>ζ
section
variable {X:Cx}{pins:List (AB×Obj)}{σ:L2.St}{F H:Hp}{s:AC}
theorem a7e(I:e9 X pins σ H s)(s0:g8 F H):∀{ps:List PV} {ks:List (List f6)} {xs:List V} {its:List AA},a9v ps=ξ ks->h9 X.K F ps xs->j4 xs its->
 Paired (Z2 s.heap) its ks/\∀u∈its,∃k v,Z2 s.heap u k/\j3 v u/\A5 X.K F (kT k) v
 |[],ks,xs,its,h,r,v=>by
  cases h;cases r;cases v;exact⟨.nil,λu hu=>nomatch hu⟩
 | .tuple qs::ps,ks,xs,its,h,r,v=>by
   unfold a9v at h;obtain⟨k,h1,h⟩:=bind_some h;cases h2:a9v ps with
   |none=>rw [h2] at h;cases h
   |some t=>
    rw [h2] at h;cases h;obtain⟨x,xr,rfl,rx,rr⟩:=r;cases v with
    |cons v1 vr=>
     obtain⟨p1,p2⟩:=a7e I s0 h2 rr vr;have rx':=rx;obtain⟨a,xs',rfl,hq,rl⟩:=rx';cases v1;obtain⟨its',rv,⟨o,ho,hc,n,hd⟩,hz⟩:=I.tuple (b15 s0 hq).sq;have ex:xs'=k.map kV:=Q6 h1 rl;rw [ex] at rv;have tv:Z2 s.heap (.ref a) k:=⟨a,o,its'.toArray,n,rfl,ho,hc,hd,by simpa using rv⟩
     refine⟨.cons tv p1,λu hu=> ?_⟩;rcases AU.mp hu with rfl|hu
     ·refine⟨k,.ref a,tv,rfl, ?_⟩;unfold kT;rw [<-a7d h1];exact rx
     ·exact p2 u hu
 | .none::_,_,_,_,h,_,_=>nomatch h
 | .bool _::_,_,_,_,h,_,_=>nomatch h
 | .int _::_,_,_,_,h,_,_=>nomatch h
 | .str _::_,_,_,_,h,_,_=>nomatch h
 | .list _::_,_,_,_,h,_,_=>nomatch h
 | .dict _::_,_,_,_,h,_,_=>nomatch h
theorem a9X{h:Heap}:∀{us:List AA},(∀u∈us,∃k v,Z2 h u k/\j3 v u/\A5 X.K F (kT k) v)->∃ys,j4 ys us/\h9 X.K F ((us.map (kOf h)).map kT) ys
 |[],_=>⟨[],.nil,rfl⟩
 |u::us,hu=>by
  obtain⟨ys,h1,h2⟩:=a9X (us:=us) λu' h'=>hu u' (Ae _ h');obtain⟨k,v,h3,h4,h5⟩:=hu u Af;refine⟨v::ys,.cons h4 h1,v,ys,rfl, ?_,h2⟩;rw [a8f h3];exact h5
end
section
variable {X:Cx}
theorem a88:M8 X (.builtin "sorted") (rC1 X.K a79):=by
 ext g
 unfold a79 at h2;split at h2
 ·rename_i ps e;obtain⟨ks,e1,h2⟩:=bind_some h2;split at h2
  ·rename_i c;cases h2;obtain⟨a,xs,rfl,hq,r⟩:=K6 s0 h1 e;obtain⟨u,rfl,ru⟩:=a1G rv;cases ru;have fin:∀(its:List AA) (T:String) (o:Obj) (n:Nat),(T="list"\/T="tuple")->s.heap.get? a=ξ o->o.cls= .type T->o.data= .seq its.toArray n->j4 xs its->AF (model X.prog X.w) X.A (call (.builtin "sorted") [.ref a]) (EP X pins σ Q) X.xe s:=by
    intro its T o n hT ho hc hd rvv;obtain⟨p1,p2⟩:=a7e I s0 e1 r rvv;have hlen:its.length=ks.length:=by rw [<-a2v p1,AV]
    refine a92 hT ho hc hd (by rw [hlen];exact c.2) p1 c.1 λhp1 hp2 en us k1 k2 pm ek he=> ?_
    have I1:e9 X pins σ H {s with heap:=hp1}:=I.kept (t':=s.toks) k1
    obtain⟨ys,v1,r1⟩:=a9X (X:=X) (F:=F) (h:=s.heap) (us:=us) λu hu=>p2 u (pm.mem_iff.mp hu);rw [ek] at r1;have hf:H hp1.objs.size=ζ:=I1.hok.fresh (AN _);have hyl:ys.length<=AM:=by rw [v1.length,pm.length_eq,hlen,sizeLine_eq];exact c.2
    exact⟨.ref hp1.objs.size,_,I1.laid (t':=s.toks) (h':=hp2) (o:= .lst ys) k2 (AN _) ⟨hyl,us,en,v1,he⟩,rfl,k _ F _ (o9.lst s0 hf r1)⟩
   rcases hq with hq|hq
   ·obtain⟨its,r',pl,hz⟩:=I.list hq;obtain⟨o,ho,hc,n,hd⟩:=pl.isList;exact fin its "list" o n (.inl rfl) ho hc hd r'
   ·obtain⟨its,r',⟨o,ho,hc,n,hd⟩,hz⟩:=I.tuple hq;exact fin its "tuple" o n (.inr rfl) ho hc hd r'
  ·cases h2
 ·cases h2
end
def a6V(h:Heap)(d:AB)(es:Array DictEntry)(ep:Nat):Prop:=∃o,h.get? d=ξ o/\o.ExactDict/\o.data= .dict es ep
section
variable {prog:AJ}{w:AI}{A:AK}{E:AA->AC->Prop}{s:AC}{it d:AB}{i ep:Nat}{es:Array DictEntry}
theorem a6V.type(h:a6V s.heap d es ep):s.TypeIs (.ref d) "dict":=by obtain⟨o,ho,hc,_⟩:=h;exact⟨o,ho,hc.1⟩
theorem b5q{Q:AA->AC->Prop}(hd:(d==sysModules)=false)(hm:a6V s.heap d es ep)
 (hQ:Q (.ref s.heap.objs.size) {s with heap:=s.heap.push {cls:= .type "dict_keyiterator",data:= .fields #[.ref d,.int 0 0,.int es.size 0,.int ep 0]}}):AF (model prog w) A (pyIter (.ref d)) Q E s:=by
 obtain⟨o,ho,hc,hdat⟩:=id hm
 have hT:=hm.type
 refine wpAny_pyIter_slot hT F.slot_dict_iter (wpAny_call_entry F.slot_dict_iter hT F.entry_dict_iter ?_ (F.args_dict_iter_1 _))
 unfold Builtin.«dict.__iter__»;refine AD ?_;unfold Builtin.Dict.dictSlotNone
 refine AD (wpAny_notOrdered_dict hT ?_)
 show AF _ _ (pure (Value.ref d)) _ _ s
 refine AH ?_;show AF _ _ (Builtin.Dict.showsAll d>>=_) _ _ s;unfold Builtin.Dict.showsAll
 rw [if_neg (by rw [hd];exact Ac)]
 refine AD (AH (AD (wpAny_dictEntries ho hdat (AD (wpAny_dictEpoch ho hdat ?_)))))
 refine AD (wpAny_newObj_type (AH ⟨_,rfl,"dict_keyiterator",_,⟨_,Aa _ rfl,rfl⟩,F.slot_dict_keyiterator_next.lookup, ?_⟩))
 simpa [rawInt] using hQ
theorem b5r{Q:Option AA->AC->Prop}(hit:s.heap.IsKeyIter it d i es.size ep)(hm:a6V s.heap d es ep)(hi:i<es.size)
 (hQ:∀h',h'.IsKeyIter it d (i+1) es.size ep->Heap.SameBut it s.heap h'->Q (ξ es[i].key) {s with heap:=h'}):AF (model prog w) A (pyNext (.ref it)) Q E s:=by
 obtain⟨o,ho,hc,hd⟩:=id hit
 obtain⟨od,hod,hcd,hdd⟩:=id hm
 unfold pyNext
 refine AD (wpAny_attempt (wpAny_callSpecial?_slot (name:=Aj "__next__") hit.typeIs F.slot_dict_keyiterator_next (wpAny_call_entry F.slot_dict_keyiterator_next hit.typeIs F.entry_dict_keyiterator_next ?_ (F.args_dict_keyiterator_next_1 _))))
 refine AD (AH (AD (AD ?_)))
 refine AD (wpAny_typeNameOfWhole_keyiter hit.typeIs (AH (AD (wpAny_fieldsOf ho hd ?_))))
 have hown:Builtin.Dict_items.ownsTuple "dict_keyiterator"=false:=by decide
 simp only [hown,AX,if_false];show AF _ _ (if(Value.ref d==Value.none)=true then _ else _) _ _ s
 rw [if_neg (show ¬((Value.ref d==Value.none)=true) from Ac)];refine AD (AH (AD (wpAny_dictEntries hod hdd ?_)))
 rw [if_neg (by simp)];refine AD (AH (AD (wpAny_dictEpoch hod hdd ?_)));rw [if_neg (by simp)];refine AH ?_
 simp only [show ¬((i:Int)<0) from by lia,if_false,BB,Array.getElem?_eq_getElem hi];refine AD ?_
 refine AD (wpAny_typeNameOfWhole_keyiter hit.typeIs (AH (AD (wpAny_isOneOf_keyiter hit.typeIs ?_))))
 show AF _ _ (setField (.ref it) 1 (rawInt ((i:Int)+1))>>=_) _ _ s;refine AD (wpAny_setField ho hd (by simp) ?_)
 have hit':(s.heap.update it (Obj.mapFields (·.setIfInBounds 1 (rawInt ((i:Int)+1))))).IsKeyIter it d (i+1) es.size ep:=⟨_,Heap.get?_update_self _ ho (Obj.isFreed_of_fields (Obj.data_mapFields hd _)),(Obj.cls_mapFields ..).trans hc,by rw [Obj.data_mapFields hd];simp [rawInt]⟩
 refine AD (wpAny_holding (AD (wpAny_isOneOf_keyiter (s:={s with heap:=s.heap.update it (Obj.mapFields (·.setIfInBounds 1 (rawInt ((i:Int)+1))))}) hit'.typeIs ?_)))
 show AF _ _ (pure es[i].key) _ _ _;exact AH (AH ⟨_,rfl,AH (hQ _ hit' (Heap.SameBut.update ..))⟩)
theorem b7o{Q:Option AA->AC->Prop}(hh:A.handled=ζ)(hit:s.heap.IsKeyIter it d es.size es.size ep)(hm:a6V s.heap d es ep)(hQ:∀h',Heap.ExtBut it s.heap h'->Q ζ {s with heap:=h'}):AF (model prog w) A (pyNext (.ref it)) Q E s:=by
 obtain⟨o,ho,hc,hd⟩:=id hit;obtain⟨od,hod,hcd,hdd⟩:=id hm;unfold pyNext;refine AD (wpAny_attempt (wpAny_callSpecial?_slot (name:=Aj "__next__") hit.typeIs F.slot_dict_keyiterator_next (wpAny_call_entry F.slot_dict_keyiterator_next hit.typeIs F.entry_dict_keyiterator_next ?_ (F.args_dict_keyiterator_next_1 _))));refine AD (AH (AD (AD ?_)));refine AD (wpAny_typeNameOfWhole_keyiter hit.typeIs (AH (AD (wpAny_fieldsOf ho hd ?_))));have hown:Builtin.Dict_items.ownsTuple "dict_keyiterator"=false:=by decide
 simp only [hown,AX,if_false];show AF _ _ (if(Value.ref d==Value.none)=true then _ else _) _ _ s
 rw [if_neg (show ¬((Value.ref d==Value.none)=true) from Ac)];refine AD (AH (AD (wpAny_dictEntries hod hdd ?_)));rw [if_neg (by simp)];refine AD (AH (AD (wpAny_dictEpoch hod hdd ?_)));rw [if_neg (by simp)];refine AH ?_
 simp only [show ¬((es.size:Int)<0) from by lia,if_false,BB,Array.getElem?_eq_none (AN es.size)];refine AD ?_
 refine AD (wpAny_typeNameOfWhole_keyiter hit.typeIs (AH ?_));show AF _ _ (setField (.ref it) 0 .none>>=_) _ _ s;refine AD (wpAny_setField ho hd (by simp) ?_);show AF _ _ (newExc (.type "StopIteration") []>>=_) _ _ _;refine AD ?_
 simp only [newExc,newTuple];refine AD (wpAny_newObj_type ?_ (by size_fits))
 refine AD (m:=firstArgMember _ _) (wpAny_of_eq (a:=Value.none) (by first|rfl|(simp only [firstArgMember];rfl)) (wpAny_newObj_type ?_ (by size_fits)))
 simp only [raiseNew];refine AD (wpAny_handled ?_);rw [show A.in1.handled=ζ from hh];refine AD (AH (wpAny_throw ?_));refine AD (wpAny_isInstance (T:="StopIteration") (b:=true) ⟨_,Aa _ rfl,rfl⟩ isSubtype_stop ?_);exact AH (hQ _ (((Heap.SameBut.update ..).extBut.push _).push _))
end
end PU
namespace TS
open PySem PySem.Spec PyProof.Rows L2 PU
section
variable {prog:AJ}{w:AI}{A:AK}{E:AA->AC->Prop}{s:AC}
variable {κ:SortKind}{S:Keyed->Prop}{R:Keyed->Keyed->Bool}
end
end TS
namespace PU
open PySem PySem.Spec PyProof.Rows L2 PySem.W
section
variable {prog:AJ}{w:AI}{A:AK}{E:AA->AC->Prop}{s:AC}
end
section
variable {X:Cx}
end
open PySem PySem.Spec PyProof.Rows L2
section
variable {X:Cx}{pins:List (AB×Obj)}{σ:L2.St}{H:Hp}{s:AC}{a b:AB}{kvs:List (List f6×V)}{k:List f6}{v:V}{r:AA}{A:AK}{E:AA->AC->Prop}
theorem b6q{Q:Unit->AC->Prop}(hu:A.units+8<cLine)(I:e9 X pins σ H s)(e:H a=ξ (.dT X.K kvs))(eb:KyA X.K H b k)(l:kvs.length<AM)(rv:j3 v r)(h:∀s',e9 X pins σ (i7 H a (.dT X.K (a0K kvs k v))) s'->Q () s'):
 AF (model X.prog X.w) A (dictSet a (.ref b) r) Q E s:=by
 obtain⟨z,hd,xs,rel,dd⟩:=b71 I.hok I.kIn e
 have hz:xs.length<=AM:=by rw [<-Paired.length rel];exact z
 have hl:(a0K kvs k v).length<=AM:=by have:=a1m kvs k v;lia
 refine wpAny_dictSet_heap (hsz:=hz) (show A.units+3<cLine by lia) (a2U I.hok I.kIn eb) dd λh' dd' hs=>h _ ?_
 obtain⟨q,es,ep,hq,h2,h3,h4,_,h5⟩:=dd'
 refine a7X I (by rw [e];exact True.intro) hs ⟨q,hq⟩ ⟨hl,hd,_,(rel.put k eb rv).keeps λc ys ec=>(by rw [a9 (A0 ec e (λz=>nomatch z))];exact ec),q,es,ep,hq,h2,h3,h4,h5⟩
end
section
variable {X:Cx}
end
mutual
def nl:PV->Bool
 | .list _=>false
 | .tuple ps=>nlL ps
 | .dict ((.tuple _,_)::_)=>false
 | .dict ((.str _,.bool false)::_)=>false
 | .dict ((.str _,.int _)::_)=>false
 |_=>true
def nlL:List PV->Bool
 |[]=>true
 |p::ps=>nl p && nlL ps
end
def nlD:List (List f6×PV)->Bool
 |[]=>true
 |(_,p)::r=>nl p && nlD r
def d7.noL:d7->Bool
 | .v p=>nl p
 | .ow (.lst ps)=>nlL ps
 | .ow (.dct kvs)=>nlD kvs
 | .ow (.txt kvs)=>nlD kvs
 | .bo _=>false
def drp(F:Hp)(a:AB):Hp:=λb=>if b=a then ζ else F b
theorem z7{F:Hp}{a b:AB}(h:b≠a):drp F a b=F b:=by unfold drp;rw [if_neg h]
theorem O4{F:Hp}{a:AB}:drp F a a=ζ:=by unfold drp;rw [if_pos rfl]
theorem b9h{F F3:Hp}{a:AB}{o':HO}(h:∀b o u,F3 b=ξ (.frz o u)->i7 F a o' b=ξ (.frz o u)):∀b o u,drp F3 a b=ξ (.frz o u)->F b=ξ (.frz o u):=λb o u z=>by
 by_cases hb:b=a
 ·subst hb;rw [O4] at z;cases z
 ·rw [z7 hb] at z;have:=h _ _ _ z;rw [a9 hb] at this;exact this
section
variable {K:AE}{F:Hp}{a:AB}{xs:List V}
mutual
theorem a8x(ha:F a=ξ (.lst xs)):∀(p:PV) {v:V},A5 K F p v->nl p=true->A5 K (drp F a) p v
 | .none,_,h,_=>h
 | .bool _,_,h,_=>h
 | .int _,_,h,_=>h
 | .str _,_,h,_=>h
 | .list _,_,_,n=>by simp [nl] at n
 | .tuple ps,_,⟨b,ys,e,q,r⟩,n=>⟨b,ys,e,(by
  rcases q with q|q
  ·exact .inl (by rw [z7 (A0 q ha (λz=>nomatch z))];exact q)
  ·exact .inr q),a52 ha ps r (by simpa [nl] using n)⟩
 | .dict kvs,_,h,n=>by
   rcases h with⟨b,ys,q,h,hr⟩|⟨b,ys,q,h,hr⟩|⟨x,t,e,h|⟨z,b,C,φ,q,h,r⟩⟩|⟨x,m,fs,h,hr⟩
   ·cases kvs with
    |nil=>
     have e0:ys=[]:=List.map_eq_nil_iff.mp hr;subst e0;exact .inl ⟨b,[],q,by rw [z7 (A0 h ha (λz=>nomatch z))];exact h,rfl⟩
    |cons f fs=>
     exfalso
     obtain⟨k,p⟩:=f;obtain⟨kk,w,t,e,z,_⟩:=hr;subst z;simp [nl] at n
   ·exfalso
    cases kvs with
    |nil=>cases hr
    |cons f fs=>
     obtain⟨k,p⟩:=f;obtain⟨kk,w,t,e,z,_⟩:=hr;subst z;simp [nl] at n
   ·exact .inr (.inr (.inl ⟨x,t,e,.inl h⟩))
   ·exact .inr (.inr (.inl ⟨x,t,e,.inr ⟨z,b,C,φ,q,by rw [z7 (A0 h ha (λz=>nomatch z))];exact h,r⟩⟩))
   ·exfalso
    cases kvs with
    |nil=>cases hr
    |cons f fs'=>
     obtain⟨k,p⟩:=f;obtain⟨f',v',t',e,z,q,_⟩:=hr;subst z;cases e;rcases h with⟨rfl,_⟩|⟨rfl,_⟩
     ·cases p with
      |bool b=>cases q;simp [nl] at n
      |tuple _=>obtain⟨_,_,e,_⟩:=q;cases e
      |list _=>obtain⟨_,_,e,_⟩:=q;cases e
      |dict _=>
       rcases q with⟨_,_,e,_⟩|⟨_,_,e,_⟩|⟨_,_,_,q⟩|⟨_,_,_,q,_⟩
       ·cases e
       ·cases e
       ·ext l
       ·ext l
      |_=>cases q
     ·cases p with
      |int b=>simp [nl] at n
      |tuple _=>obtain⟨_,_,e,_⟩:=q;cases e
      |list _=>obtain⟨_,_,e,_⟩:=q;cases e
      |dict _=>
       rcases q with⟨_,_,e,_⟩|⟨_,_,e,_⟩|⟨_,_,_,q⟩|⟨_,_,_,q,_⟩
       ·cases e
       ·cases e
       ·ext l
       ·ext l
      |_=>cases q
theorem a52(ha:F a=ξ (.lst xs)):∀(ps:List PV) {vs:List V},h9 K F ps vs->nlL ps=true->h9 K (drp F a) ps vs
 |[],_,h,_=>h
 |p::ps,_,⟨v,r,e,q,t⟩,n=>by
  simp only [nlL,Bool.and_eq_true] at n;exact⟨v,r,e,a8x ha p q n.1,a52 ha ps t n.2⟩
end
theorem a50(ha:F a=ξ (.lst xs)):∀(kvs:List (List f6×PV)) {ys:List (List f6×V)},p7 K F kvs ys->nlD kvs=true->p7 K (drp F a) kvs ys
 |[],_,h,_=>h
 |(k,p)::r,_,⟨v,t,e,q,h⟩,n=>by
  simp only [nlD,Bool.and_eq_true] at n;exact⟨v,t,e,a8x ha p q n.1,a50 ha r h n.2⟩
theorem O3{b:AB}(h:F b=ζ):drp F a b=ζ:=by
 unfold drp;split
 ·rfl
 ·exact h
theorem b5s{H:Hp}{v:V}(ha:F a=ξ (.lst xs)):∀{r:d7},K8 K F H v r->r.noL=true->K8 K (drp F a) H v r
 | .v p,h,n=>a8x ha p h n
 | .ow (.lst ps),⟨b,ys,e,f,q,r⟩,n=>⟨b,ys,e,O3 f,q,a52 ha ps r n⟩
 | .ow (.dct kvs),⟨b,ys,e,f,q,r⟩,n=>⟨b,ys,e,O3 f,q,a50 ha kvs r n⟩
 | .ow (.txt kvs),⟨b,ys,e,f,q,r⟩,n=>⟨b,ys,e,O3 f,q,a50 ha kvs r n⟩
 | .bo _,_,n=>nomatch n
end
def b0N(g:List PV->Option d7)(i:Nat)(m:M):M:=λρ=>((m ρ).bind d7.toVal).bind λp=>match ρ[i]? with
 |some (ξ (.ow (.lst ps)))=>(g [p,.list ps]).bind λr=>if r.noL=true then ξ r else ζ
 |_=>ζ
section
variable {X:Cx}
theorem b1t(i:Nat){k k':Nat}{pa pb:Str}{g:List PV->Option d7}{x y:Str}{p py pos:Pos}{e:AG}{m:M}
 (d:m4 X.prog X.w X.K X.mg X.base x [pa,pb] k g) (hr:D2 k' X.A) (hk:k<=k') (hg:Gl X x) (ha:EE X e m) (hy:PE X (.Name y py) (C7 i))
 (hdb:(x==("__debug__":Str))=false:=by decide) (he:AL [e,.Name y py] X.env=(false,eval e X.env)::AL [.Name y py] X.env:=by rfl) (he2:AL [.Name y py] X.env=(false,eval (.Name y py) X.env)::AL [] X.env:=by rfl)
 (hpl:(backTo pos (AL [.Name y py] X.env)).any (·.1)=false:=by rfl):
 EE X (.Call (.Name x p) [e,.Name y py] [] pos) (b0N g i m):=by
 obtain⟨f,fd,G,h1,h2,h3⟩:=d
 refine m6 (a24 G (hr.mono hk) hg h1 h2 h3 .nil a7s (u7 ha (u7 hy M6 he2) he) hdb he hpl) λσ H Q h0=>k4 h0 λF ρ r en hm kq=> ?_
 obtain⟨q,e1,hm⟩:=bind_some hm
 obtain⟨rq,e2,e3⟩:=bind_some e1
 split at hm
 ·rename_i ps eo
  obtain⟨r',e4,hm⟩:=bind_some hm
  split at hm
  ·rename_i c
   cases hm
   refine⟨F,ρ,rq,en,e2,λv F1 H1 o1=> ?_⟩
   obtain⟨F2,o2⟩:=o1.toVal e3
   have en2:=en.ext o2.x
   obtain⟨w,hw,a,xs,rfl,fa,ha',rl⟩:=en2.at_ i _ eo
   refine⟨.ref a,hw, ?_⟩
   show spP X.K 2 g ([v,.ref a]++[]) H1 Q E0
   rw [Ad]
   have up:g8 F2 (i7 F2 a (.lst xs)):=y3 fa
   refine⟨i7 F2 a (.lst xs),[q,.list ps],_,λb o z=> ?_,⟨v,[.ref a],rfl,A5.mono up _ o2.rep,.ref a,[],rfl,⟨a,xs,rfl,Z0.of c8,h9.mono up _ rl⟩,rfl⟩,rfl,e4,λu F3 H3 o3=>kq u (drp F3 a) H3 (o9.trans o2.x ⟨⟨λb o z=> ?_,o3.x.h,λb o z=> ?_,λb o z y t=> ?_,b9h o3.x.nf⟩, ?_,o3.fr⟩)⟩
   ·by_cases hb:b=a
    ·subst hb;rw [c8] at z;cases z;exact ha'
    ·rw [a9 hb] at z;exact o2.x.fh _ _ z
   ·have hb:b≠a:=f7 z fa
    rw [z7 hb];exact o3.x.f _ _ (up _ _ z)
   ·by_cases hb:b=a
    ·subst hb;rw [O4] at z;cases z
    ·rw [z7 hb] at z;exact o3.x.fh _ _ z
   ·by_cases hb:b=a
    ·subst hb;exact O4
    ·rw [z7 hb];exact o3.x.nw b o (by rw [a9 hb];exact z) y t
   ·exact b5s (o3.x.f _ _ c8) o3.rep c
  ·cases hm
 ·cases hm
end
section
variable {X:Cx}{tg:AG}
end
section
variable {prog:AJ}{w:AI}{A:AK}{E:AA->AC->Prop}{s:AC}
end
section
variable {X:Cx}{pins:List (AB×Obj)}{σ:L2.St}{A:AK}{R:Result->AC->Prop}
end
section
variable {X:Cx}
end
open Builtin Builtin.Str
section
variable {prog:AJ}{w:AI}{A:AK}{E:AA->AC->Prop}{s:AC}{x y:Str}{t u:Tok}{Q:AA->AC->Prop}
end
section
variable {X:Cx}
end
structure Chg(fs ex:List AB)(h h':Heap):Prop where
 keep:∀b o,h.get? b=ξ o->b∉fs->b∉ex->h'.get? b=ξ o
 slot:∀b o,h.get? b=ξ o->b∈fs->b∉ex->∃sl,h'.get? b=ξ {o with slots:=sl}
 size:h.objs.size<=h'.objs.size
structure ExT(h:Heap)(e C T:AB)(fl:AA)(dd:Option AB):Prop where
 obj:∃oe vs,h.get? e=ξ oe/\oe.cls= .ref C/\oe.data= .fields vs/\vs[1]?=ξ (.ref T)/\oe.dict=dd
 ne:T≠e
 tb:∃oT ts,h.get? T=ξ oT/\oT.data= .fields ts/\ts[3]?=ξ fl
def Ex0(h:Heap)(e C:AB)(dd:Option AB):Prop:=∃oe vs,h.get? e=ξ oe/\oe.cls= .ref C/\oe.data= .fields vs/\vs[1]?=ξ .none/\oe.dict=dd
theorem b2w(f:Array AA->Array AA)(o:Obj):(Obj.mapFields f o).dict=o.dict:=by
 obtain⟨c,d,dt,sl⟩:=o;cases dt<;>rfl
section
variable {M:Model}{A:AK}{E:AA->AC->Prop}{s:AC}{base:Heap}{env:Env}{outer:List Env}{L e C:AB}{dd:Option AB}
theorem a7o{oe:Obj}{vs:Array AA}{head:AA}{hadNext:Bool}{Q:Unit->AC->Prop}(hfr:A.frames=ξ (env::outer))(hl:s.heap.FunFrames base (env::outer))(hf:env.frame=ξ L)
 (he:s.heap.get? e=ξ oe) (hc:oe.cls= .ref C) (hd:oe.data= .fields vs) (hdn:oe.dict=dd) (hsz:1<vs.size)
 (k:∀T h',s.heap.objs.size<=T->ExT h' e C T (rawInt L) dd->Chg ((env::outer).filterMap (·.frame)) [e] s.heap h'->Q () {s with heap:=h'}):
 AF M A (do let a<-frameOf env;let pl<-entryPlaceOf L hadNext;let b<-EntryCells.newEntry head a .none (rawInt L) .none pl;setField (.ref e) 1 b) Q E s:=by
 have hef:e∉(env::outer).filterMap (·.frame):=λhm=>by
  obtain⟨_,o,ho,hnf⟩:=hl.mem hm;rw [he] at ho;cases ho;exact hnf vs hd
 refine AD (wpAny_frameOf_fun hfr hl hf λh₁ hs₁=> ?_)
 refine AD (wpAny_entryPlaceOf λpl hpl=> ?_)
 unfold EntryCells.newEntry newFields
 refine AD (wpAny_newObj_type ?_ (hpl.sizeOk5 _ _ _ _ _))
 generalize hT:({cls:= .type "traceback",dict:=ζ,data:= .fields ([head,.ref L,.none,rawInt L,.none]++(if pl.isEmpty then AO 6 Value.none else pl)).toArray}:Obj)=oT
 have he₁:h₁.get? e=ξ oe:=(hs₁.2.1 e hef).trans he
 have he₂:=AR (h:=h₁) oT he₁
 have hTe:h₁.objs.size≠e:=Nat.ne_of_gt (AT he₁)
 have hd₃:=Obj.data_mapFields hd (·.setIfInBounds 1 (Value.ref h₁.objs.size))
 have he₃:=Heap.get?_update_self (Obj.mapFields (·.setIfInBounds 1 (Value.ref h₁.objs.size))) he₂ (Obj.isFreed_of_fields hd₃)
 have oth:∀b o,b≠e->h₁.get? b=ξ o->((h₁.push oT).update e (Obj.mapFields (·.setIfInBounds 1 (Value.ref h₁.objs.size)))).get? b=ξ o:=λb o hb hbo=>by
  rw [Heap.get?_update_other _ _ (Ne.symm hb)];exact AR _ hbo
 have hT3:((h₁.push oT).update e (Obj.mapFields (·.setIfInBounds 1 (Value.ref h₁.objs.size)))).get? h₁.objs.size=ξ oT:=by
  rw [Heap.get?_update_other _ _ (Ne.symm hTe)];exact Aa h₁ (by rw [<-hT];rfl)
 refine wpAny_setField he₂ hd hsz (k h₁.objs.size _ (Nat.le_of_eq hs₁.1.symm) ⟨⟨_,_,he₃,(Obj.cls_mapFields _ _).trans hc,hd₃,by simp [hsz],(b2w _ _).trans hdn⟩,hTe,oT,_,hT3,by rw [<-hT], ?_⟩ ⟨λb o hb hbf hbe=> ?_,λb o hb hbf hbe=> ?_, ?_⟩)
 ·rcases hpl with rfl|⟨_,_,_,_,_,_,_,rfl⟩<;>simp
 ·exact oth b o (λz=>hbe (by rw [z];exact List.mem_singleton.mpr rfl)) ((hs₁.2.1 b hbf).trans hb)
 ·obtain⟨sl,hs⟩:=hs₁.2.2 b o hb
  exact⟨sl,oth b _ (λz=>hbe (by rw [z];exact List.mem_singleton.mpr rfl)) hs⟩
 ·rw [Heap.size_update,Heap.size_push,hs₁.1];lia
theorem b0X{Q:Unit->AC->Prop}(hfr:A.frames=ξ (env::outer))(hl:s.heap.FunFrames base (env::outer))(hf:env.frame=ξ L)(x:Ex0 s.heap e C dd)
 (k:∀T h',s.heap.objs.size<=T->ExT h' e C T (rawInt L) dd->Chg ((env::outer).filterMap (·.frame)) [e] s.heap h'->Q () {s with heap:=h'}):AF M A (noteFrame (.ref e) env) Q E s:=by
 obtain⟨oe,vs,he,hc,hd,h1,hdn⟩:=x
 unfold noteFrame
 simp only [hf]
 refine AD (wpAny_field he hd h1 ?_)
 rw [if_neg (by decide)]
 exact a7o hfr hl hf he hc hd hdn (Array.getElem?_eq_some_iff.mp h1).1 k
theorem a75{fl:AA}{T:AB}{Q:Unit->AC->Prop}(x:ExT s.heap e C T fl dd)(fr:Option AB)(k:∀h',ExT h' e C T (fr.elim .none λf=>rawInt f) dd->Chg [] [T] s.heap h'->h'.objs.size=s.heap.objs.size->Q () {s with heap:=h'}):AF M A (setFlight (.ref e) fr) Q E s:=by
 obtain⟨⟨oe,vs,he,hc,hd,h1,hdn⟩,hne,oT,ts,hT,hdT,h3⟩:=x;have hsz:=(Array.getElem?_eq_some_iff.mp h3).1;unfold setFlight;refine AD (wpAny_field he hd h1 ?_);rw [if_pos (show(Value.ref T !=Value.none)=true from by simp)]
 refine wpAny_setField hT hdT hsz (k _ ⟨⟨oe,vs, ?_,hc,hd,h1,hdn⟩,hne,_,_,Heap.get?_update_self _ hT (Obj.isFreed_of_fields (Obj.data_mapFields hdT _)),Obj.data_mapFields hdT _,by simp [hsz]⟩ ⟨λb o hb _ hbe=> ?_,(λb o _ hb=>nomatch hb), ?_⟩ ?_)
 ·rw [Heap.get?_update_other _ _ hne];exact he
 ·rw [Heap.get?_update_other _ _ (λz=>hbe (by rw [<-z];exact List.mem_singleton.mpr rfl))];exact hb
 ·rw [Heap.size_update];exact AN _
 ·rw [Heap.size_update]
theorem Chg.trans{fs ex ex':List AB}{h h1 h2:Heap}(x:Chg fs ex h h1)(y:Chg fs ex' h1 h2):Chg fs (ex++ex') h h2 where
 keep:=λb o e hf hx=>y.keep b o (x.keep b o e hf λz=>hx (BH _ z)) hf λz=>hx (Ax _ z)
 slot:=λb o e hf hx=>by
  obtain⟨sl,e1⟩:=x.slot b o e hf λz=>hx (BH _ z);obtain⟨sl2,e2⟩:=y.slot b {o with slots:=sl} e1 hf λz=>hx (Ax _ z)
  exact⟨sl2,e2⟩
 size:=Nat.le_trans x.size y.size
theorem Chg.more{fs fs' ex ex':List AB}{h h':Heap}(x:Chg fs ex h h')(hf:∀b∈fs,b∈fs')(he:∀b∈ex,b∈ex'):Chg fs' ex' h h' where
 keep:=λb o e h1 h2=>x.keep b o e (λz=>h1 (hf b z)) λz=>h2 (he b z)
 slot:=λb o e h1 h2=>by
  by_cases hb:b∈fs
  ·exact x.slot b o e hb λz=>h2 (he b z)
  ·exact⟨o.slots,x.keep b o e hb λz=>h2 (he b z)⟩
 size:=x.size
theorem Chg.funs{fs ex:List AB}{h h':Heap}{l:List Env}(x:Chg fs ex h h')(hl:h.FunFrames base l)(hx:∀b∈ex,∀o,h.get? b=ξ o->∃vs,o.data= .fields vs):h'.FunFrames base l:=
 hl.of_keeps λb o hb hnf=>by
  have hbx:b∉ex:=λz=>by
   obtain⟨vs,hd⟩:=hx b z o hb;exact hnf vs hd
  by_cases hbf:b∈fs
  ·obtain⟨sl,e⟩:=x.slot b o hb hbf hbx;exact⟨_,e,rfl⟩
  ·exact⟨o,x.keep b o hb hbf hbx,rfl⟩
theorem a7p{fl:AA}{T:AB}{Q:Unit->AC->Prop}(hfr:A.frames=ξ (env::outer))(hl:s.heap.FunFrames base (env::outer))(hf:env.frame=ξ L)(x:ExT s.heap e C T fl dd)(hne:fl≠rawInt L)
 (k:∀T' h',s.heap.objs.size<=T'->ExT h' e C T' (rawInt L) dd->Chg ((env::outer).filterMap (·.frame)) [T,e] s.heap h'->Q () {s with heap:=h'}):AF M A (noteFrame (.ref e) env) Q E s:=by
 obtain⟨⟨oe,vs,he,hc,hd,h1,hdn⟩,hTe,oT,ts,hT,hdT,h3⟩:=x
 have hsz:=(Array.getElem?_eq_some_iff.mp h3).1
 unfold noteFrame
 simp only [hf]
 refine AD (wpAny_field he hd h1 ?_)
 rw [if_pos (show(Value.ref T !=Value.none)=true from by simp)]
 refine AD (wpAny_field hT hdT h3 ?_)
 rw [if_neg (by simpa using hne)]
 refine AD (wpAny_setField hT hdT hsz ?_)
 have c1:Chg ((env::outer).filterMap (·.frame)) [T] s.heap (s.heap.update T (Obj.mapFields (·.setIfInBounds 3 Value.none))):=⟨λb o hb _ hbe=>by
  rw [Heap.get?_update_other _ _ (λz=>hbe (by rw [<-z];exact List.mem_singleton.mpr rfl))];exact hb,λb o hb _ hbe=>⟨o.slots,by
  rw [Heap.get?_update_other _ _ (λz=>hbe (by rw [<-z];exact List.mem_singleton.mpr rfl))];exact hb⟩,by rw [Heap.size_update];exact AN _⟩
 have hl':=c1.funs hl λb hb o ho=>by
  rw [List.mem_singleton.mp hb,hT] at ho;cases ho;exact⟨ts,hdT⟩
 refine a7o (s:={s with heap:=s.heap.update T (Obj.mapFields (·.setIfInBounds 3 Value.none))}) hfr hl' hf (by rw [Heap.get?_update_other _ _ hTe];exact he) hc hd hdn (Array.getElem?_eq_some_iff.mp h1).1 λT' h' hT' x' c'=>k T' h' ?_ x' (c1.trans c')
 have:(s.heap.update T (Obj.mapFields (·.setIfInBounds 3 Value.none))).objs.size=s.heap.objs.size:=Heap.size_update ..
 rw [<-this];exact hT'
end
def CX1(P:AJ)(w:AI):CXT:=λouter H s E e s'=>∃a C T dd H',e= .ref a/\s'.os=s.os/\AllBare s'.gens/\Un (frs outer) [] H H' s.heap s'.heap/\HOk P w H' s'.heap/\
 s.heap.get? a=ζ/\s.heap.get? T=ζ/\H' a=ζ/\H' T=ζ/\ExT s'.heap a C T .none dd/\E (.ref C) dd H'
theorem ExT.thereT{h:Heap}{e C T:AB}{fl:AA}{dd:Option AB}(x:ExT h e C T fl dd):∃o,h.get? T=ξ o:=by obtain⟨o,_,h1,_⟩:=x.tb;exact⟨o,h1⟩
theorem a8c{P:AJ}{w:AI}{H:Hp}{h h':Heap}{fs ex:List AB}(x:HOk P w H h)(c:Chg fs ex h h')(hf:∀b∈fs,H b=ζ)(he:∀b∈ex,H b=ζ):HOk P w H h':=λa o e=>
 (x a o e).stay (λb u hb q=>by
  have hn:∃z,H b=ξ z:=by
   rcases hb with rfl|hb
   ·exact⟨_,e⟩
   ·exact⟨_,hb⟩
  obtain⟨z,hz⟩:=hn;exact c.keep b u q (λm=>by rw [hf b m] at hz;cases hz) λm=>by rw [he b m] at hz;cases hz) (λ_ q=>q) λ_ _ q=>q
theorem b5T{fs ex fs':List AB}{H H1:Hp}{h h1 h2:Heap}(u:Un fs [] H H1 h h1)(c:Chg fs' ex h1 h2)(hfs:∀b∈fs',b∈fs\/h.objs.size<=b)(hex:∀b∈ex,h.get? b=ζ):Un fs [] H H1 h h2 where
 keep:=λb o e hn hf hx=>by
  have hlt:b<h.objs.size:=AT e;refine c.keep b o (u.keep b o e hn hf hx) (λm=> ?_) λm=>by rw [hex b m] at e;cases e
  rcases hfs b m with h|h
  ·exact hf h
  ·exact Nat.lt_irrefl _ (Ak hlt h)
 slot:=λb o e hn hf hx=>by
  have hlt:b<h.objs.size:=AT e;obtain⟨sl,e1⟩:=u.slot b o e hn hf hx
  by_cases hb:b∈fs'
  ·obtain⟨sl2,e2⟩:=c.slot b {o with slots:=sl} e1 hb λm=>by rw [hex b m] at e;cases e
   exact⟨sl2,e2⟩
  ·exact⟨sl,c.keep b _ e1 hb λm=>by rw [hex b m] at e;cases e⟩
 free:=u.free
 there:=λb o e hx=>by
  obtain⟨o1,e1⟩:=u.there b o e hx
  by_cases hb:b∈ex
  ·rw [hex b hb] at e;cases e
  ·by_cases hb2:b∈fs'
   ·obtain⟨sl,e2⟩:=c.slot b o1 e1 hb2 hb;exact⟨_,e2⟩
   ·exact⟨_,c.keep b o1 e1 hb2 hb⟩
 tups:=u.tups
 frzs:=u.frzs
 tbls:=u.tbls
section
variable {P:AJ}{w:AI}{K:AE}{mg:Str->Option AA}{base:Heap}{N:List Str}{qual:Str}{scope:Scope}{f:AB}{cd:AA}{A:AK}{outer:List Env}{s:AC}{H:Hp}{E:XK}
theorem a9w{pins:List (AB×Obj)}{σ:L2.St}{H2:Hp}{s2:AC}{a C:AB}{dd:Option AB}(I:e9 (a1a (CX1 P w) P w K mg base N qual scope f cd A outer s H E) pins σ H2 s2)(x:Ex0 s2.heap a C dd)(ha:s.heap.get? a=ζ)(hn:H2 a=ζ)(hE:E (.ref C) dd H2):
 (a1a (CX1 P w) P w K mg base N qual scope f cd A outer s H E).xe (.ref a) s2:=by
 show AF (model P w) _ (leaving (envOfC qual scope s.heap.objs.size f cd) (.ref a)) _ _ s2
 unfold leaving
 have hfree:∀b∈(envOfC qual scope s.heap.objs.size f cd::outer).filterMap (·.frame),H2 b=ζ:=I.stkFree
 refine AD (b0X I.ok.frames I.stack rfl x λT h1 hT x1 c1=> ?_)
 refine a75 x1 ζ λh2 x2 c2 _=> ?_
 have hTn:H2 T=ζ:=I.hok.fresh hT
 have c:Chg ((envOfC qual scope s.heap.objs.size f cd::outer).filterMap (·.frame)) ([a]++[T]) s2.heap h2:=c1.trans (c2.more (λb hb=>nomatch hb) λb hb=>hb)
 have hsz:s.heap.objs.size<=s2.heap.objs.size:=I.sz
 have hex:∀b∈[a]++[T],s.heap.get? b=ζ:=λb hb=>by
  rcases Ar.mp hb with h|h<;>rw [List.mem_singleton.mp h]
  ·exact ha
  ·exact Heap.get?_none_of_le (Nat.le_trans hsz hT)
 refine⟨a,C,T,dd,H2,rfl,I.os,I.bare,b5T I.base c (λb hb=> ?_) hex,a8c I.hok c hfree λb hb=> ?_,ha,Heap.get?_none_of_le (Nat.le_trans hsz hT),hn,hTn,x2,hE⟩
 ·rcases AU.mp (I.stkSub b hb) with h|h
  ·exact .inr (by rw [h];exact I.ok.above)
  ·exact .inl h
 ·rcases Ar.mp hb with h|h<;>rw [List.mem_singleton.mp h]
  ·exact hn
  ·exact hTn
theorem b0J:a4R (CX1 P w) (a1a (CX1 P w) P w K mg base N qual scope f cd A outer s H E) E:=by
 intro pins σ H1 s1 e s' I h;obtain⟨a,C,T,dd,H2,rfl,ho,hb,un,hok,ha,hT,hn,hTn,x,hE⟩:=h;have J:e9 (a1a (CX1 P w) P w K mg base N qual scope f cd A outer s H E) pins σ H2 s':=I.call' (ch:=[]) ho un hok hb λb z=>nomatch z;show AF (model P w) _ (leaving (envOfC qual scope s.heap.objs.size f cd) (.ref a)) _ _ s';unfold leaving;have hfree:∀b∈(envOfC qual scope s.heap.objs.size f cd::outer).filterMap (·.frame),H2 b=ζ:=J.stkFree;refine AD (a7p J.ok.frames J.stack rfl x (by simp [rawInt]) λT' h1 hT' x1 c1=> ?_)
 refine a75 x1 ζ λh2 x2 c2 _=> ?_;have hTn':H2 T'=ζ:=J.hok.fresh hT';have c:Chg ((envOfC qual scope s.heap.objs.size f cd::outer).filterMap (·.frame)) ([T,a]++[T']) s'.heap h2:=c1.trans (c2.more (λb hb=>nomatch hb) λb hb=>hb);have hsz:s.heap.objs.size<=s'.heap.objs.size:=J.sz;have back:∀b,s1.heap.get? b=ζ->s.heap.get? b=ζ:=λb hb=>by
  cases h:s.heap.get? b with
  |none=>rfl
  |some o=>
   obtain⟨o',e⟩:=I.base.there b o h (λz=>nomatch z);rw [hb] at e;cases e
 have mem:∀b∈[T,a]++[T'],b=T\/b=a\/b=T':=λb hb=>by simpa using hb
 obtain⟨oT,hoT⟩:=x.thereT;refine⟨a,C,T',dd,H2,rfl,J.os,J.bare,b5T J.base c (λb hb=> ?_) (λb hb=> ?_),a8c J.hok c hfree λb hb=> ?_,back a ha,Heap.get?_none_of_le (Nat.le_trans hsz hT'),hn,hTn',x2,hE⟩
 ·rcases AU.mp (J.stkSub b hb) with h|h
  ·exact .inr (by rw [h];exact J.ok.above)
  ·exact .inl h
 ·rcases mem b hb with rfl|rfl|rfl
  ·exact back _ hT
  ·exact back _ ha
  ·exact Heap.get?_none_of_le (Nat.le_trans hsz hT')
 ·rcases mem b hb with rfl|rfl|rfl
  ·exact hTn
  ·exact hn
  ·exact hTn'
end
theorem b0h{P:AJ}{w:AI}{H:Hp}{h:Heap}{a:AB}:∀{o:HO},v4 P w H h a o->∃ob,h.get? a=ξ ob
 | .lst _,⟨_,_,_,_,e⟩=>⟨_,e⟩
 | .tup _,⟨_,_,_,o,e,_⟩=>⟨_,e⟩
 | .dK _,⟨_,_,_,_,o,_,_,e,_⟩=>⟨_,e⟩
 | .dT _ _,⟨_,_,_,_,o,_,_,e,_⟩=>⟨_,e⟩
 | .set _ _,⟨o,_,_,_,e,_⟩=>⟨_,e⟩
 | .ins _ _ _,⟨_,_,_,e,_⟩=>⟨_,e⟩
 | .own _,⟨_,e⟩=>⟨_,e⟩
 | .xd _,⟨_,⟨_,_,_,e,_⟩,_⟩=>⟨_,e⟩
 | .rng _ _,⟨_,_,_,e⟩=>⟨_,e⟩
 | .frz _ _,⟨e,_⟩=>⟨_,e⟩
 | .tbl _,e=>⟨_,e⟩
 | .met _ _,e=>⟨_,e⟩
 | .ext _,⟨_,e,_⟩=>e
def a6K:List AA:=[.type "ValueError",.type "Exception",.type "BaseException",.type "object"]
def b3G(C:AB)(h:Heap):Prop:=∃tl N nm q bs hdct sn sub ab col dd k0 k1 k2 k3 k5,
 h.get? C=ξ (excClassObj nm q C N bs tl hdct sn sub ab col dd k0 k1 k2 k3 k5 "ValueError.__new__")/\OwnTail h a6K tl
section
variable {X:Cx}{x:Str}{C:AB}{np cpos pos:Pos}{e₀:AG}{rest:List AG}{t:TA}{W:Hp->Prop}
end
section
variable {prog:AJ}{w:AI}{A:AK}{E:AA->AC->Prop}{h:Heap}{g:Array GenState}{d:Drawn}{t:Nat}{os:OsState}
variable {nm q:Str}{C N:AB}{bs bm bmB:List AA}{hdct:Bool}{sn:List Str}{sub:List AA}{ab:Bool}{col:Option Bool}{dd:Option AB}{k0 k1 k2 k3 k5:Option AA}{B newId initId:String}
theorem a4w(F:ExcBaseFacts B newId initId bmB)(T:OwnTail h bmB bm){mN:Str->Option AA}{rest:List AA}{fI:AB}{oI:Obj}{Q:PySem.Fin->AC->Prop}
 (hC:h.get? C=ξ (excClassObj nm q C N bs bm hdct sn sub ab col dd k0 k1 k2 k3 k5 newId)) (hn:h.Ns N mN) (hi:mN "__init__"=ξ (.ref fI))
 (hfI:h.get? fI=ξ oI) (hfc:oI.cls= .type "function")
 (hq:∀h' e,Heap.MadeExcOf h h' e (.ref C) rest->
  AF (model prog w) A (call (.ref fI) (.ref e::rest)) (λr s'=>r= .none/\Q (.done (.ret (.ref e))) s') E ⟨h',g,d,t,os⟩) (hrest:rest.length<=AM):
 AF (model prog w) A (Builtin.«type.__call__» ⟨.ref C::rest,[]⟩) Q E ⟨h,g,d,t,os⟩:=by
 repeat (first|with_reducible refine wpAny_loadPart_at hC ?_|with_reducible refine wpAny_madeBy_exc hC ?_|wp_step)
 refine codeAny_call_builtin_code (Code.quiet_builtin _ F.quiet) (wpAny_check_new_subT F T hC ?_)
 refine codeAny_exc_new_subT F T hC ?_ hrest
 show AF _ _ _ _ _ _
 have hC₁:=AR {cls:= .ref C,data:= .fields #[.ref h.objs.size,.none,.none,.none,.bool false,.none]}
  (AR {cls:= .type "tuple",data:= .seq rest.toArray} hC)
 have hfI₁:=AR {cls:= .ref C,data:= .fields #[.ref h.objs.size,.none,.none,.none,.bool false,.none]}
  (AR {cls:= .type "tuple",data:= .seq rest.toArray} hfI)
 have hn₁:((h.push {cls:= .type "tuple",data:= .seq rest.toArray}).push {cls:= .ref C,data:= .fields #[.ref h.objs.size,.none,.none,.none,.bool false,.none]}).Ns N mN:=
  let ⟨o,es,ep,e,r⟩:=hn;⟨o,es,ep,AR _ (AR _ e),r⟩
 have hget:((h.push {cls:= .type "tuple",data:= .seq rest.toArray}).push
  {cls:= .ref C,data:= .fields #[.ref h.objs.size,.none,.none,.none,.bool false,.none]}).get? (h.objs.size+1)=ξ
  {cls:= .ref C,data:= .fields #[.ref h.objs.size,.none,.none,.none,.bool false,.none]}:=by heap_get
 have hcC:(Value.ref C::bm).contains (.ref C)=true:=by simp
 have T₁:=T.keeps (h':=(h.push {cls:= .type "tuple",data:= .seq rest.toArray}).push {cls:= .ref C,data:= .fields #[.ref h.objs.size,.none,.none,.none,.bool false,.none]})
  λb o e=>AR _ (AR _ e)
 unfold isInstance
 repeat (first|with_reducible refine wpAny_loadPart_at hget ?_|(with_reducible refine wpAny_isSubtype_exc hC₁ ?_;rw [hcC])|wp_step)
 show AF _ _ (typeLookup (.ref C) _) _ _ _
 refine wpAny_typeLookup_tail hC₁ hn₁ T₁ F.mroIs F.init.lookup ?_
 rw [hi]
 refine wpAny_holding (AD ?_)
 unfold bindSpecial
 refine AD (wpAny_typeOf (T:="function") ⟨_,hfI₁,hfc⟩ ?_)
 rw [if_pos (by decide)]
 refine AH (AD (wpAny_mono (hq _ (h.objs.size+1) ⟨λb o hb=>AR _ (AR _ hb),Heap.get?_none_of_le (Nat.le_succ _),h.objs.size,hget,Heap.get?_none_of_le (AN _), ?_⟩) (λr s' hr=> ?_) λ_ _ x=>x))
 ·exact AR _ (Heap.get?_push_at rfl rfl)
 ·obtain⟨rfl,hQ⟩:=hr
  wp_walk
  exact hQ
theorem b0k(F:ExcBaseFacts B newId initId bmB)(T:OwnTail h bmB bm){mN:Str->Option AA}{rest:List AA}{fI:AB}{oI:Obj}{Q:AA->AC->Prop}
 (hC:h.get? C=ξ (excClassObj nm q C N bs bm hdct sn sub ab col dd k0 k1 k2 k3 k5 newId)) (hn:h.Ns N mN) (hi:mN "__init__"=ξ (.ref fI))
 (hfI:h.get? fI=ξ oI) (hfc:oI.cls= .type "function")
 (hq:∀h' e,Heap.MadeExcOf h h' e (.ref C) rest->
  AF (model prog w) (A.under (.builtin "type.__call__" ⟨.ref C::rest,[]⟩)) (call (.ref fI) (.ref e::rest)) (λr s'=>r= .none/\Q (.ref e) s') E ⟨h',g,d,t,os⟩) (hrest:rest.length<=AM):
 AF (model prog w) A (call (.ref C) rest) Q E ⟨h,g,d,t,os⟩:=by
 have f1:=tc_lookup
 have f2:=tc_bind (.ref C)
 have hT:(⟨h,g,d,t,os⟩:AC).TypeIs (.ref C) "type":=⟨_,hC,rfl⟩
 refine wpAny_call (codeAny_of_tree ?_)
 show AF _ _ (callAny (.ref C) _) _ _ _
 repeat (any_goals (first|assumption|with_reducible refine wpAny_loadPart_at hC ?_|wp_step))
 refine⟨rfl, ?_⟩
 refine codeAny_call_builtin_at (Code.quiet_builtin _ (by decide+kernel)) entry_typeCall (wpAny_check_type_call_sub hC (a4w (hrest:=hrest) F T hC hn hi hfI hfc λh' e hm=> ?_))
 exact hq h' e hm
theorem a2w{M:Model}{env:Env}{s:AC}{x:Sem AA}{Q:Flow->AC->Prop}(hbase:bm.contains (.type "BaseException")=true)(hh:A.handled=ζ)
 (h:AF M A x (λv s₁=>∃e oe vs,v= .ref e/\s₁.heap.get? C=ξ (excClassObj nm q C N bs bm hdct sn sub ab col dd k0 k1 k2 k3 k5 newId)/\
  s₁.heap.get? e=ξ oe/\oe.cls= .ref C/\oe.data= .fields vs/\vs[1]?=ξ .none/\E (.ref e) s₁) E s):
 AF M A (raiseStmt env (ξ x) ζ) Q E s:=by
 have hcB:(Value.ref C::bm).contains (.type "BaseException")=true:=by rw [List.contains_cons,hbase,Bool.or_true]
 unfold raiseStmt
 refine AD (wpAny_mono h (λv s₁ h₁=> ?_) λ_ _ x=>x)
 obtain⟨e,oe,vs,rfl,hC,he,hc,hd,h1,hE⟩:=h₁
 obtain⟨oc,od,ods,osl⟩:=oe
 cases hc
 cases hd
 obtain⟨hp,g,d,tk,os⟩:=s₁
 repeat (first|with_reducible refine wpAny_loadPart_at he ?_|with_reducible refine wpAny_loadPart_at hC ?_|(with_reducible refine wpAny_isSubtype_exc hC ?_;rw [hcB])|wp_step)
 rw [h1]
 refine AH ?_
 rw [if_neg (by decide)]
 exact AH (wpAny_raiseNew_none hh hE)
end
section
variable {prog:AJ}{w:AI}{A:AK}{E:AA->AC->Prop}{s:AC}{env:Env}
variable {nm q:Str}{C N:AB}{bs bm bmB:List AA}{hdct:Bool}{sn:List Str}{sub:List AA}{ab:Bool}{col:Option Bool}{dd:Option AB}{k0 k1 k2 k3 k5:Option AA}{B newId initId:String}
theorem a9S(F:ExcBaseFacts B newId initId bmB){mN:Str->Option AA}{x:Str}{np cpos pos:Pos}{args:List AG}{fI:AB}{oI:Obj}{Q:Flow->AC->Prop}
 (hbase:bm.contains (.type "BaseException")=true) (hh:A.handled=ζ) (hplain:(backTo cpos (AL args env)).any (·.1)=false) (hi:mN "__init__"=ξ (.ref fI)) (hfc:oI.cls= .type "function")
 (h:AF (model prog w) A (eval (.Name x np) env) (λf s₁=>f= .ref C/\AF (model prog w) A (evalArgs (.ref C) true (backTo cpos (AL args env)) [])
  (λa s₂=>a.kw=[]/\a.pos.length<=AM/\s₂.heap.get? C=ξ (excClassObj nm q C N bs bm hdct sn sub ab col dd k0 k1 k2 k3 k5 newId)/\s₂.heap.Ns N mN/\OwnTail s₂.heap bmB bm/\s₂.heap.get? fI=ξ oI/\
   ∀h' e,Heap.MadeExcOf s₂.heap h' e (.ref C) a.pos->AF (model prog w) (A.under (.builtin "type.__call__" ⟨.ref C::a.pos,[]⟩)) (call (.ref fI) (.ref e::a.pos))
    (λr s₃=>r= .none/\s₃.heap.get? C=ξ (excClassObj nm q C N bs bm hdct sn sub ab col dd k0 k1 k2 k3 k5 newId)/\(∃oe vs,s₃.heap.get? e=ξ oe/\oe.cls= .ref C/\oe.data= .fields vs/\vs[1]?=ξ .none)/\E (.ref e) s₃) E {s₂ with heap:=h'}) E s₁) E s):
 AF (model prog w) A (exec (.Raise (ξ (.Call (.Name x np) args [] cpos)) ζ pos) env) Q E s:=by
 rw [arm_exec_Raise]
 first
  |refine AD (wpAny_standAt (a2w (C:=C) (nm:=nm) (q:=q) (N:=N) (bs:=bs) (bm:=bm) (hdct:=hdct) (sn:=sn) (sub:=sub) (ab:=ab) (col:=col) (dd:=dd) (k0:=k0) (k1:=k1) (k2:=k2) (k3:=k3) (k5:=k5) (newId:=newId) hbase hh (AD (wpAny_mono (wpAny_Call_ofName (wpAny_mono h (λf s₁ h₁=> ?_) λ_ _ x=>x)) (λv s₃ h₃=>AD (wpAny_standAt (AH h₃))) λ_ _ x=>x))))
  |(simp only [evalOpt,Option.map];refine AD (wpAny_standAt (a2w (C:=C) (nm:=nm) (q:=q) (N:=N) (bs:=bs) (bm:=bm) (hdct:=hdct) (sn:=sn) (sub:=sub) (ab:=ab) (col:=col) (dd:=dd) (k0:=k0) (k1:=k1) (k2:=k2) (k3:=k3) (k5:=k5) (newId:=newId) hbase hh (AD (wpAny_mono (wpAny_Call_ofName (wpAny_mono h (λf s₁ h₁=> ?_) λ_ _ x=>x)) (λv s₃ h₃=>AD (wpAny_standAt (AH h₃))) λ_ _ x=>x)))))
  |(refine AD (wpAny_standAt (a2w (C:=C) (nm:=nm) (q:=q) (N:=N) (bs:=bs) (bm:=bm) (hdct:=hdct) (sn:=sn) (sub:=sub) (ab:=ab) (col:=col) (dd:=dd) (k0:=k0) (k1:=k1) (k2:=k2) (k3:=k3) (k5:=k5) (newId:=newId) hbase hh ?_));refine AD (wpAny_mono (wpAny_Call_ofName (wpAny_mono h (λf s₁ h₁=> ?_) λ_ _ x=>x)) (λv s₃ h₃=>AD (wpAny_standAt (AH h₃))) λ_ _ x=>x))
 obtain⟨rfl,h₁⟩:=h₁
 unfold callWith
 refine AD (wpAny_holding (wpAny_mono h₁ (λa s₂ h₂=>AD (wpAny_standAt ?_)) λ_ _ x=>x))
 obtain⟨apos,akw⟩:=a
 obtain⟨hkw,hlen,hC,hn,T,hfI,h₂⟩:=h₂
 obtain rfl:akw=[]:=hkw
 obtain⟨hp,g,d,tk,os⟩:=s₂
 simp only [hplain]
 refine AD (wpAny_keeperOf_exc hC ?_)
 refine AD (b0k (hrest:=hlen) F T hC hn hi hfI hfc λh' e hm=> ?_)
 refine wpAny_mono (h₂ h' e hm) (λr s₃ h₃=> ?_) λ_ _ x=>x
 obtain⟨r0,hC3,⟨oe,vs,he,hc,hd,h1⟩,hE⟩:=h₃
 exact⟨r0,AD (wpAny_holding (wpAny_point (AH ⟨e,oe,vs,rfl,hC3,he,hc,hd,h1,hE⟩)))⟩
end
open PySem PySem.Spec PyProof.Rows L2 PySem.W Builtin Builtin.ObjectAttr
def a8r:List AA->Bool
 | .ref _::r=>a8r r
 |l=>l==a6K
theorem a7w(self:AA):∀{l:List AA},a8r l=true->refuseLoop self "__setattr__" l=pure ()
 |[],e=>by cases e
 |v::r,e=>by
  cases v with
  |ref c=>rw [refuseLoop_ref];exact a7w self (l:=r) e
  |_=>rw [show(_::r)=a6K from beq_iff_eq.mp e];exact PySem.F.store_ValueError.passes self
theorem b0A(x:String)(hx:a6K.contains (.type x)=true):∀{l:List AA},a8r l=true->l.contains (.type x)=true
 |[],e=>by cases e
 |v::r,e=>by
  cases v with
  |ref c=>rw [List.contains_cons,b0A x hx (l:=r) e,Bool.or_true]
  |_=>rw [show(_::r)=a6K from beq_iff_eq.mp e];exact hx
def a3q(K:Frag)(C:AB):Bool:=(clsIn K C).any λcd=>a8r cd.mro && cd.hasDict
section
variable {prog:AJ}{w:AI}{A:AK}{E:AA->AC->Prop}{s:AC}{K:Frag}{x C:AB}
theorem b8f{ox:Obj}{od:Option Obj}{name:Str}{tk:Tok}{v:AA}{R:Result->AC->Prop}(X:K.In s.heap)(I:InstAt s.heap x ox C od)(hp:a3q K C=true)(ht:findIn K (.ref C) name=ξ ζ)
 (h:AF (model prog w) A.in1 (storeInOwnDict (.ref x) (.ref C) (.str name tk) name v false)
  (λfin s'=>match fin with| .done f=>R (.ok f) s'| .again c'=>c'.quiet=true/\codeAny (model prog w) A c' R s') (λe s'=>R (.error e) s') s):
 codeAny (model prog w) A (.call (.builtin "object.__setattr__") ⟨[.ref x,.str name tk,v],[]⟩) R s:=by
 have SF:=PySem.F.store_object
 obtain⟨cd,hc,ho⟩:=any_some hp
 rw [Bool.and_eq_true] at ho
 have ne:cd.mro.isEmpty=false:=by cases q:cd.mro with|nil=>rw [q] at ho;cases ho.1|cons _ _=>rfl
 have sub:Looks (model prog w) s.heap (isInstance (.ref x) (.type "object")) true:=I.type.andThen (looks_mroIn X (by unfold mroIn;rw [hc,AS,if_neg (by rw [ne];decide),b0A "object" (by decide) ho.1]))
 refine codeAny_call_builtin SF.slot.plain SF.entry (@check_slot (model prog w) _ _ s "object.__setattr__" "object" "__setattr__" (.ref x) [.str name tk,v] [] _ SF.kind SF.split sub (SF.args (.ref x) (.str name tk) v) ?_)
 have hm:Looks (model prog w) s.heap (mroOf (.ref C)) cd.mro:=(looks_clsIn X hc).andThen .now
 rw [osa_eq,refuse_eq]
 refine AD (AD (I.type.here (AD (hm.here ?_))))
 rw [a7w _ ho.1]
 refine AH (AD (I.type.here (AD ((looks_findIn X ht).here (AD ((Looks.now (M:=model prog w) (a:=(ζ:Option AA))).here ?_))))))
 exact h
theorem b09{name:Str}{v:AA}{vs:Array AA}{sl:Array (Option AA)}{Q:Unit->AC->Prop}(X:K.In s.heap)(hx:s.heap.get? x=ξ ⟨.ref C,ζ,.fields vs,sl⟩)(hp:a3q K C=true)(ht:findIn K (.ref C) name=ξ ζ)
 (hs:findIn K (.ref C) "__setattr__"=ξ (ξ (.builtin "object.__setattr__")))
 (h:∀h' d tk,s.heap.get? d=ζ->s.heap.objs.size<=d->h'.get? x=ξ ⟨.ref C,ξ d,.fields vs,sl⟩->h'.Ns1 d (λy=>if y=name then ξ v else ζ)->(∀b o,b≠x->s.heap.get? b=ξ o->h'.get? b=ξ o)->Q () {s with heap:=h',toks:=tk}):
 AF (model prog w) A (setAttr (.ref x) name v) Q E s:=by
 have J:InstAt s.heap x ⟨.ref C,ζ,.fields vs,sl⟩ C ζ:=⟨hx,rfl,rfl,trivial⟩
 refine set_plain X J hs (b8f (s:={s with toks:=s.toks+1}) X J hp ht ?_)
 obtain⟨cd,hc,ho⟩:=any_some hp
 rw [Bool.and_eq_true] at ho
 refine AD (AH (AD (AD (wpAny_loadPart hx (AD (Looks.here (s:={s with toks:=s.toks+1}) (looks_clsIn X hc) ?_))))))
 rw [ho.2]
 rw [if_neg (by decide)]
 have hx1:(s.heap.push {cls:= .type "dict",data:= .dict #[]}).get? x=ξ ⟨.ref C,ζ,.fields vs,sl⟩:=AR _ hx
 have hxs:x≠s.heap.objs.size:=AW (AT hx)
 show AF _ _ (if(!true|| !typeHasDict (.ref C))=true then pure ζ else _) _ _ _
 rw [if_neg (by simp [typeHasDict])]
 refine AD (wpAny_alloc' (AD (wpAny_update' hx1 (AH ?_))))
 have hgd:((s.heap.push {cls:= .type "dict",data:= .dict #[]}).update x λo=>{cls:=o.cls,dict:=ξ s.heap.objs.size,data:=o.data,slots:=o.slots}).get? s.heap.objs.size
  =ξ {cls:= .type "dict",data:= .dict #[]}:=(Heap.get?_update_ne _ _ _ _ hxs.symm).trans (Heap.get?_push_at rfl rfl)
 have hnd:((s.heap.push {cls:= .type "dict",data:= .dict #[]}).update x λo=>{cls:=o.cls,dict:=ξ s.heap.objs.size,data:=o.data,slots:=o.slots}).Ns s.heap.objs.size (λ_=>ζ):=
  ⟨_, #[],_,hgd,rfl,λe he=>absurd he (by simp),λ_=>rfl⟩
 show AF _ _ (storeInDict s.heap.objs.size (.str name s.toks) name v) _ _ _
 unfold storeInDict newKeyGuard
 refine AD (AH (AD (wpAny_nsSet1 (Heap.Ns1.of_empty hnd) λh' hn' hs=> ?_)))
 obtain⟨oD,esD,epD,hoD,hdD,hcD⟩:=hn'.count (Within.cons name v Within.nil)
 refine AD (wpAny_lookBehind hoD (by rw [hdD];exact pastItsLine_dict (Nat.le_trans hcD (by rw [AY,Aw,sizeLine_eq];lia))) ?_)
 refine AH (h h' s.heap.objs.size _ (Heap.get?_none_of_le (AN _)) (AN _) ?_ hn' λb ob hbx hb=> ?_)
 ·exact(hs.2 x hxs).trans (Heap.get?_update_self _ hx1 rfl)
 ·exact(hs.2 b (AW (AT hb))).trans ((Heap.get?_update_ne _ _ _ _ hbx).trans (AR _ hb))
theorem b3h{name:Str}{v:AA}{d:AB}{ox:Obj}{mA:Str->Option AA}{ns:List Str}{Q:Unit->AC->Prop}(X:K.In s.heap)(hx:s.heap.get? x=ξ ox)(hxc:ox.cls= .ref C)(hxd:ox.dict=ξ d)(hxf:∃vs,ox.data= .fields vs)(hd:s.heap.Ns1 d mA)(hp:a3q K C=true)(ht:findIn K (.ref C) name=ξ ζ)
 (hs:findIn K (.ref C) "__setattr__"=ξ (ξ (.builtin "object.__setattr__"))) (hw:Within mA ns) (hsz:ns.length<=AM)
 (h:∀h' tk,h'.Ns1 d (λy=>if y=name then ξ v else mA y)->Heap.SameBut d s.heap h'->Q () {s with heap:=h',toks:=tk}):
 AF (model prog w) A (setAttr (.ref x) name v) Q E s:=by
 obtain⟨od,hod,hl⟩:=a7g hd
 obtain⟨vs,hxf⟩:=hxf
 have J:InstAt s.heap x ox C (ξ od):=⟨hx,hxc,by unfold notCls;rw [hxf],by rw [hxd];exact hod⟩
 refine set_plain X J hs (b8f (s:={s with toks:=s.toks+1}) X J hp ht ?_)
 obtain⟨cd,hc,ho⟩:=any_some hp
 rw [Bool.and_eq_true] at ho
 obtain⟨oc,oD,ods,osl⟩:=ox
 cases hxc
 cases hxd
 cases hxf
 refine AD (AH (AD (AD (wpAny_loadPart hx (AD (Looks.here (s:={s with toks:=s.toks+1}) (looks_clsIn X hc) ?_))))))
 rw [ho.2]
 refine AH (a:=ξ d) (AD (AH (AD ?_)))
 refine wpAny_nsSet1 (s:={s with toks:=s.toks+1}) hd λh' hn2 hs2=> ?_
 obtain⟨oD,esD,epD,hoD,hdD,hcD⟩:=hn2.count (Within.cons name v hw)
 refine AD (wpAny_lookBehind hoD (by rw [hdD];exact pastItsLine_dict (Nat.le_trans hcD (by rw [AY];lia))) ?_)
 exact AH (h _ _ hn2 hs2)
theorem c1C{name:Str}{v:AA}{d:AB}{ox:Obj}{mA:Str->Option AA}{expr:Bool}{Q:AA->AC->Prop}(X:K.In s.heap)(hx:s.heap.get? x=ξ ox)(hxc:ox.cls= .ref C)(hxd:ox.dict=ξ d)(hxf:∃vs,ox.data= .fields vs)(hd:s.heap.Ns1 d mA)(hp:a3q K C=true)(ht:findIn K (.ref C) name=ξ ζ)
 (hga:findIn K (.ref C) "__getattribute__"=ξ (ξ (.builtin "BaseException.__getattribute__"))) (hgg:findIn K (.ref C) "__getattr__"=ξ ζ)
 (hv:mA name=ξ v) (hv':handedIn v=true) (h:Q v {s with toks:=s.toks+1}):
 AF (model prog w) A (getAttr (.ref x) name expr) Q E s:=by
 obtain⟨od,hod,hl⟩:=a7g hd
 obtain⟨vs,hxf⟩:=hxf
 have J:InstAt s.heap x ox C (ξ od):=⟨hx,hxc,by unfold notCls;rw [hxf],by rw [hxd];exact hod⟩
 obtain⟨cd,hc,ho⟩:=any_some hp
 rw [Bool.and_eq_true] at ho
 have ne:cd.mro.isEmpty=false:=by cases q:cd.mro with|nil=>rw [q] at ho;cases ho.1|cons _ _=>rfl
 have hh:hasDictIn K C=true:=by unfold hasDictIn;rw [hc];exact ho.2
 have L0:=J.type (M:=model prog w)
 have L1:=looks_find (M:=model prog w) X J (findObj_own hh ht rfl (by rw [hl,hv]))
 have sub:Looks (model prog w) s.heap (isInstance (.ref x) (.type "BaseException")) true:=J.type.andThen (looks_mroIn X (by unfold mroIn;rw [hc,AS,if_neg (by rw [ne];decide),b0A "BaseException" (by decide) ho.1]))
 have G:=F.attrBase_ValueError.ga
 refine AD (wpAny_mkText (wpAny_holding (AD (L0 _ _ _ _ (λ_ _ e=>e) (AD (looks_findIn X hga _ _ _ _ (λ_ _ e=>e) ?_))))))
 dsimp only
 rw [show(onTheHeap (.ref C)&& Value.builtin "BaseException.__getattribute__"==Value.builtin "object.__getattribute__")=false from by rw [show(Value.builtin "BaseException.__getattribute__"==Value.builtin "object.__getattribute__")=false from by decide+kernel,Bool.and_false],if_neg (by decide)]
 refine AD (looks_hook X (by rw [if_pos (show onTheHeap (.ref C)=true from rfl)];exact hgg) _ _ _ _ (λ_ _ e=>e) (AD (wpAny_attempt (wpAny_holding ?_))))
 unfold callGetattribute
 rw [show(expr && onTheHeap (Value.builtin "BaseException.__getattribute__"))=false from Bool.and_false _,if_neg (by decide)]
 unfold boundAndCalled
 rw [G.bind]
 refine AD (AH ?_)
 show AF _ _ (call (.builtin "BaseException.__getattribute__") [.ref x,.str name s.toks]) _ _ _
 refine wpAny_call ?_
 refine codeAny_call_builtin G.plain F.entry_bexc_ga ?_
 refine @check_slot (model prog w) _ _ {s with toks:=s.toks+1} "BaseException.__getattribute__" "BaseException" "__getattribute__" (.ref x) [.str name s.toks] [] _ (by decide+kernel) (by decide+kernel) sub (F.args_bexc_ga (.ref x) (.str name s.toks)) ?_
 obtain⟨hh',g,dr,t,os⟩:=s
 refine AD (AH (AD (AH (AD (L0.at (AD (L1.at ?_)))))))
 refine AH ?_
 show AF _ _ (handedOut v) _ _ _
 rw [handedOut_of hv'];exact AH h
end
theorem b7K{fs ex0 ex fs':List AB}{H H1:Hp}{h h1 h2:Heap}(u:Un fs ex0 H H1 h h1)(c:Chg fs' ex h1 h2)(hfs:∀b∈fs',b∈fs\/h.objs.size<=b)(hex:∀b∈ex,h.get? b=ζ):Un fs ex0 H H1 h h2 where
 keep:=λb o e hn hf hx=>by
  have hlt:b<h.objs.size:=AT e;refine c.keep b o (u.keep b o e hn hf hx) (λm=> ?_) λm=>by rw [hex b m] at e;cases e
  rcases hfs b m with h|h
  ·exact hf h
  ·exact Nat.lt_irrefl _ (Ak hlt h)
 slot:=λb o e hn hf hx=>by
  obtain⟨sl,e1⟩:=u.slot b o e hn hf hx
  by_cases hb:b∈fs'
  ·obtain⟨sl2,e2⟩:=c.slot b {o with slots:=sl} e1 hb λm=>by rw [hex b m] at e;cases e
   exact⟨sl2,e2⟩
  ·exact⟨sl,c.keep b _ e1 hb λm=>by rw [hex b m] at e;cases e⟩
 free:=u.free
 there:=λb o e hx=>by
  obtain⟨o1,e1⟩:=u.there b o e hx
  by_cases hb:b∈ex
  ·rw [hex b hb] at e;cases e
  ·by_cases hb2:b∈fs'
   ·obtain⟨sl,e2⟩:=c.slot b o1 e1 hb2 hb;exact⟨_,e2⟩
   ·exact⟨_,c.keep b o1 e1 hb2 hb⟩
 tups:=u.tups
 frzs:=u.frzs
 tbls:=u.tbls
theorem Chg.any{fs ex:List AB}{h h':Heap}(c:Chg fs ex h h'){b:AB}{o:Obj}(e:h.get? b=ξ o)(hb:b∉ex):∃sl,h'.get? b=ξ {o with slots:=sl}:=by
 by_cases hf:b∈fs
 ·exact c.slot b o e hf hb
 ·exact⟨o.slots,c.keep b o e hf hb⟩
section
variable {X:Cx}{pins:List (AB×Obj)}{σ:L2.St}{H:Hp}{s:AC}
theorem e9.chg{h':Heap}{ex:List AB}(I:e9 X pins σ H s)(c:Chg (frs X.stack) ex s.heap h')(h0:∀b∈ex,X.s₀.heap.get? b=ζ)(hn:∀b∈ex,H b=ζ)
 (hL:∀b∈ex,b≠X.env.locals) (hc:∀b∈ex,∀x z,X.env.cells.lookup x=ξ z->z≠b) (hp:∀b∈ex,∀p∈X.pn++pins,p.1≠b):e9 X pins σ H {s with heap:=h'} where
 ok:=I.ok
 os:=I.os
 bare:=I.bare
 base:=b7K I.base c (λb hb=>by
  rcases AU.mp (I.stkSub b hb) with h|h
  ·exact .inr (by rw [h];exact I.ok.above)
  ·exact .inl h) h0
 loc:=by
  obtain⟨m,⟨o,es,ep,ho,hd,r⟩,hm⟩:=I.loc;obtain⟨sl,e⟩:=c.any ho λz=>hL _ z rfl;refine⟨m,⟨_,es,ep,e,hd,r⟩,λi x v h1 h2 h3=> ?_⟩;obtain⟨u,ru,hk⟩:=hm i x v h1 h2 h3;refine⟨u,ru, ?_⟩;rcases hk with hk|⟨hk,z,hz,oz,hoz,hdz⟩
  ·exact .inl hk
  ·obtain⟨sl2,e2⟩:=c.any hoz λm=>hc _ m x z hz rfl;exact .inr ⟨hk,z,hz,_,e2,hdz⟩
 cell:=λx z hz=>by
  obtain⟨v,oz,hoz,hdz⟩:=I.cell x z hz;obtain⟨sl2,e2⟩:=c.any hoz λm=>hc _ m x z hz rfl;exact⟨v,_,e2,hdz⟩
 free:=I.free
 freeC:=I.freeC
 pin:=λp hpm=>by
  obtain⟨h1,h2,h3,h4,h5⟩:=I.pin p hpm;refine⟨c.keep _ _ h1 (λm=> ?_) λm=>hp _ m p hpm rfl,h2,h3,h4,h5⟩;rcases AU.mp (I.stkSub _ m) with h|h
  ·exact h3 h
  ·exact h4 h
 hok:=a8c I.hok c (λb hb=>I.stkFree b hb) hn
 len:=I.len
end
structure XT where
 cls:Str
 fs:List (PV×PV)
def XF(K:AE)(F:Hp)(fs:List (PV×PV))(dd:Option AB):Prop:=(fs=[]/\dd=ζ)\/∃d vs,dd=ξ d/\F d=ξ (.xd vs)/\fs≠[]/\a02 K F fs vs
inductive FX where
 |fl (f:Fl)|rz (c:XT) (ρ:b9)
abbrev MX:=b9->Option FX
def b3y(K:AE)(mg:Str->Option AA)(E:L2.St->XK)(F0 H0 F:Hp)(σ0:L2.St)(D:N5):FX->Prop
 | .fl f=>Fin K F0 H0 F D f
 | .rz c ρ=>∃C,mg c.cls=ξ (.ref C)/\∀σ dd F' H',g8 F F'->Y9 K F0 H0 F' H' σ ρ->XF K F' c.fs dd->E σ (.ref C) dd H'
theorem b3y.later{K:AE}{mg:Str->Option AA}{E:L2.St->XK}{F0 H0 F F1:Hp}{σ0 σ1:L2.St}{D:N5}(s:g8 F F1):∀{fx:FX},b3y K mg E F0 H0 F σ0 D fx->b3y K mg E F0 H0 F1 σ1 D fx
 | .fl _,h=>Fin.later s h
 | .rz _ _,⟨C,h1,h2⟩=>⟨C,h1,λσ a F' H' s' so hn=>h2 σ a F' H' (s.trans s') so hn⟩
def tMX(K:AE)(mg:Str->Option AA)(E:L2.St->XK)(m:MX):TS:=λD σ H=>∃F0 H0 F ρ fx,Y9 K F0 H0 F H σ ρ/\m ρ=ξ fx/\b3y K mg E F0 H0 F σ D fx
theorem a8E{K:AE}{mg:Str->Option AA}{E:L2.St->XK}{m:MX}{D:N5}{σ:L2.St}{H:Hp}{C:Prop}(h:tMX K mg E m D σ H)(k:∀F0 H0 F ρ fx,Y9 K F0 H0 F H σ ρ->m ρ=ξ fx->b3y K mg E F0 H0 F σ D fx->C):C:=
 h.elim λa h=>h.elim λb h=>k4 h (k a b)
abbrev EX(X:Cx)(E:L2.St->XK)(st:Stmt)(m:MX):Prop:=PS X st (tMX X.K X.mg E m)
abbrev EXs(X:Cx)(E:L2.St->XK)(st:List Stmt)(m:MX):Prop:=PSs X st (tMX X.K X.mg E m)
def a6L(m:MS):MX:=λρ=>(m ρ).map .fl
def b1U(m n:MX):MX:=λρ=>(m ρ).bind λfx=>match fx with
 | .fl (.nx ρ')=>n ρ'
 |f=>ξ f
def b9g(c:MT)(m n:MX):MX:=λρ=>(c ρ).bind λb=>if b=true then m ρ else n ρ
section
variable {X:Cx}{E:L2.St->XK}
theorem b8p{m:MS}{D:N5}{σ:L2.St}{H:Hp}(h:tMX X.K X.mg E (a6L m) D σ H):tMS X.K m D σ H:=by
 obtain⟨F0,H0,F,ρ,fx,so,e,fin⟩:=h;unfold a6L at e;cases hm:m ρ with
 |none=>rw [hm] at e;cases e
 |some f=>rw [hm] at e;cases e;exact⟨F0,H0,F,ρ,f,so,hm,fin⟩
theorem c0H{st:Stmt}{m:MS}(h:ES X st m):EX X E st (a6L m):=C6 h λ_ _ _ q=>b8p q
theorem b8S{st:List Stmt}{m:MS}(h:ESs X st m):EXs X E st (a6L m):=a4G h λ_ _ _ q=>b8p q
theorem b1x{st:Stmt}{m:MX}(h:EX X E st m):EXs X E [st] m:=b11 h
theorem a9j{st:Stmt}{rest:List Stmt}{m n:MX}(h1:EX X E st m)(h2:EXs X E rest n):EXs X E (st::rest) (b1U m n):=
 a4G (a28 h1 h2) λD σ H h0=>a8E h0 λF0 H0 F ρ fx so e fin=>by
  obtain⟨f1,e1,e⟩:=bind_some e;cases f1 with
  |rz c ρ1=>cases e;exact⟨F0,H0,F,ρ,.rz c ρ1,so,e1,fin⟩
  |fl f=>
   cases f with
   |nx ρ'=>exact⟨F0,H0,F,ρ,.fl (.nx ρ'),so,e1,λσ' F' H' s so'=>⟨F0,H0,F',ρ',fx,so',e,fin.later s⟩⟩
   |rt r=>cases e;exact⟨F0,H0,F,ρ,_,so,e1,fin⟩
   |bk r=>cases e;exact⟨F0,H0,F,ρ,_,so,e1,fin⟩
   |ct r=>cases e;exact⟨F0,H0,F,ρ,_,so,e1,fin⟩
theorem c0G{c:AG}{a b:List Stmt}{mc:MT}{m n:MX}{pos:Pos}(hc:ET X c mc)(ha:EXs X E a m)(hb:EXs X E b n):EX X E (.If c a b pos) (b9g mc m n):=
 C6 (b8g hc ha hb) λD σ H h0=>a8E h0 λF0 H0 F ρ fx so e fin=>by
  obtain⟨b,e1,e⟩:=bind_some e;refine⟨F,ρ,b,so.e,e1,λF1 H1 x=> ?_⟩;cases b with
  |true=>exact b0G ⟨F0,H0,F1,ρ,fx,so.ext x,e,fin.later x.f⟩
  |false=>exact b0F ⟨F0,H0,F1,ρ,fx,so.ext x,e,fin.later x.f⟩
end
def spX(K:AE)(mg:Str->Option AA)(n:Nat)(g:List PV->Option (d7 ⊕ XT)):Sp:=λvs H Q E=>∃F ps r,g8 F H/\h9 K F ps vs/\ps.length=n/\g ps=ξ r/\(match r with
 | .inl r=>∀v F' H',o9 K F H F' H' v r->Q v H'
 | .inr c=>∃C,mg c.cls=ξ (.ref C)/\∀dd F' H',R5 F H F' H'->XF K F' c.fs dd->E (.ref C) dd H')
def a0u(CX:CXT)(X:Cx)(E:L2.St->XK):Prop:=∀(pins:List (AB×Obj)) (σ:L2.St) (H:Hp) (s:AC) (e:AA) (s':AC),e9 X pins σ H s->CX X.stack H s (E σ) e s'->X.xe e s'
section
variable {X:Cx}{E:L2.St->XK}{CX:CXT}
theorem b47{k:Nat}{f:AB}{fd:FuncData}{ps:List Str}{sp:Sp}{x:Str}{p pos:Pos}{e:AG}{es:List AG}{t:TA}(F:P5 X.prog X.w X.K X.mg X.base CX k f fd ps sp)(hr:D2 k X.A)(hg:Gl X x)(hm:X.mg x=ξ (.ref f))(hk:PySem.W.keepIn X.K (.ref f)=true)(hb:a0a X.K fd ps [])(hx:a0u CX X E)
 (ha:PA X (e::es) t) (hdb:(x==("__debug__":Str))=false:=by decide) (he:AL (e::es) X.env=(false,eval e X.env)::AL es X.env:=by rfl) (hpl:(backTo pos (AL es X.env)).any (·.1)=false:=by rfl):
 PE X (.Call (.Name x p) (e::es) [] pos) (λσ H Q=>t σ H λvs H1=>sp vs H1 Q (E σ)):=by
 intro pins s σ H Q I h
 refine wpAny_Call_Name_kw (Y4 I hg hm ?_ hdb)
 refine PySem.W.callWith_K (h₀:=X.base) I.ok.mod.kin hk (C8 (ha pos pins s σ H _ I h) λus s1 h0=>j5 h0 λvs H1 I1 r q=>⟨I1.kIn, ?_⟩) he hpl
 have hl:(us++[]).length=ps.length:=by rw [Ad,<-r.length];exact F.len _ _ _ _ q
 have hb':=hb s1 us I1.kIn hl
 rw [Ad] at hb'
 refine wpAny_call (codeAny_mono (F.run X.A X.stack s1 H1 ⟨us,[]⟩ us vs Q (E σ) hr I1.env0 hb' r q) λr s' hq=> ?_)
 cases r with
 |error e=>exact hx pins σ H1 s1 e s' I1 hq
 |ok fl=>
  cases fl with
  |ret u=>exact I1.after hq
  |next=>exact False.elim hq
  |brk=>exact False.elim hq
  |cont=>exact False.elim hq
def b3M(g:List PV->Option (d7 ⊕ XT))(m:MA):b9->Option (d7 ⊕ XT):=λρ=>(m ρ).bind g
def a7n(g:List PV->Option (d7 ⊕ XT))(m:MA):MX:=λρ=>(b3M g m ρ).bind λr=>match r with
 | .inl _=>ξ (.fl (.nx ρ))
 | .inr c=>ξ (.rz c ρ)
theorem b6j{n:Nat}{g:List PV->Option (d7 ⊕ XT)}{m:MA}{F0 H0 F H:Hp}{σ:L2.St}{ρ:b9}{Q:VK}{r:d7 ⊕ XT}(so:Y9 X.K F0 H0 F H σ ρ)(hn:∀ρ ps,m ρ=ξ ps->ps.length=n)(e:b3M g m ρ=ξ r)
 (k:match r with
  | .inl r=>∀v F' H',o9 X.K F H F' H' v r->Q v H'
  | .inr c=>∃C,X.mg c.cls=ξ (.ref C)/\∀dd F' H',R5 F H F' H'->XF X.K F' c.fs dd->E σ (.ref C) dd H'):
 tMA X.K m σ H λvs H1=>spX X.K X.mg n g vs H1 Q (E σ):=by
 obtain⟨qs,e1,e2⟩:=bind_some e
 refine⟨F,ρ,qs,so.e,e1,λvs F1 H1 x rl=>⟨F1,qs,r,x.fh,rl,hn _ _ e1,e2, ?_⟩⟩
 cases r with
 |inl r=>exact λv F2 H2 o=>k v F2 H2 (o9.trans x o)
 |inr c=>
  obtain⟨C,h1,h2⟩:=k
  exact⟨C,h1,λa F2 H2 y hn=>h2 a F2 H2 (x.trans y) hn⟩
theorem b8Q{k n:Nat}{f:AB}{fd:FuncData}{ps:List Str}{g:List PV->Option (d7 ⊕ XT)}{x:Str}{p pos pos2:Pos}{e:AG}{es:List AG}{m:MA}
 (G:P5 X.prog X.w X.K X.mg X.base CX k f fd ps (spX X.K X.mg n g)) (hr:D2 k X.A) (hg:Gl X x) (hm:X.mg x=ξ (.ref f)) (hk:PySem.W.keepIn X.K (.ref f)=true) (hb:a0a X.K fd ps []) (hx:a0u CX X E) (hn:∀ρ ps,m ρ=ξ ps->ps.length=n) (ha:EA X (e::es) m)
 (hs:swapsWith (.Call (.Name x p) (e::es) [] pos) ζ pos2.line X.env=pure false:=by rfl)
 (hdb:(x==("__debug__":Str))=false:=by decide) (he:AL (e::es) X.env=(false,eval e X.env)::AL es X.env:=by rfl) (hpl:(backTo pos (AL es X.env)).any (·.1)=false:=by rfl):
 EX X E (.Expr (.Call (.Name x p) (e::es) [] pos) pos2) (a7n g m):=
 C6 (a8u (b47 (E:=E) G hr hg hm hk hb hx ha hdb he hpl) hs) λD σ H h0=>a8E h0 λF0 H0 F ρ fx so e fin=>by
  obtain⟨r,e1,e⟩:=bind_some e;refine b6j so hn e1 ?_;cases r with
  |inl r=>cases e;exact λv F' H' o=>fin σ F' H' o.x.f (so.ext o.x)
  |inr c=>
   cases e;obtain⟨C,h1,h2⟩:=fin;exact⟨C,h1,λa F' H' y hn=>h2 σ a F' H' y.f (so.ext y) hn⟩
end
def b5t(n:Nat)(body:MX)(ps:List PV):Option (d7 ⊕ XT):=(body (ps.map (λp=>ξ (d7.v p))++AO n ζ)).bind λfx=>match fx with
 | .fl (.rt r)=>ξ (.inl r)
 | .fl (.nx _)=>ξ (.inl (.v .none))
 | .rz c _=>ξ (.inr c)
 |_=>ζ
theorem b8T{P:AJ}{w:AI}{K:AE}{mg:Str->Option AA}{base:Heap}{x qual:Str}{st:Stmt}{f:AB}{fd:FuncData}{N ps:List Str}{k:Nat}{m:MX}(F:Fun K x qual st f fd)(S:g6 N ps (c7 st))
 (hb:∀(cdv:AA) (A:AK) (outer:List Env) (s:AC) (H:Hp) (E:XK),D2 k (A.deeper (envOfC qual (c7 st) s.heap.objs.size f cdv))->EXs (a1a (CX1 P w) P w K mg base N qual (c7 st) f cdv A outer s H E) (λ_=>E) (A6 st) m):
 P5 P w K mg base (CX1 P w) (k+1) f fd ps (spX K mg ps.length (b5t (N.length - ps.length) m)):=by
 obtain⟨oc,od,kV,doc,pm,an,cdv,ct,osl,rfl,lk,hcd⟩:=F.ex
 refine b76 lk hcd S (λvs H Q E h=> ?_) λA outer s H vs Q E hr h=> ?_
 ·obtain⟨_,qs,_,_,r,h2,_⟩:=h
  rw [r.length,h2]
 ·obtain⟨F1,qs,r,s1,rl,hl,e,k⟩:=h
  refine⟨_,hb cdv A outer s H E hr, ?_⟩
  unfold b5t at e
  obtain⟨fx,e1,e2⟩:=bind_some e
  have hv:vs.length=ps.length:=by rw [rl.length,hl]
  refine⟨F1,H,F1,_,fx, ?_,e1, ?_⟩
  ·have:=a94 (N.length - ps.length) s1 rl
   unfold L2.a0r
   rw [hv]
   exact this
  ·cases fx with
   |rz c ρ1=>
    cases e2
    obtain⟨C,h1,h2⟩:=k
    exact⟨C,h1,λ_ a F' H' _ so' hn=>h2 a F' H' so'.x hn⟩
   |fl f=>
    cases f with
    |rt q=>cases e2;exact λv F' H' o=>k v F' H' o
    |nx ρ=>cases e2;exact λσ' F' H' _ so=>k .non F' H' (o9.val so.x rfl)
    |bk ρ=>cases e2
    |ct ρ=>cases e2
def a7Q(P:AJ)(w:AI)(K:AE)(mg:Str->Option AA)(base:Heap)(x:Str)(ps:List Str)(k:Nat)(g:List PV->Option (d7 ⊕ XT)):Prop:=
 ∃f fd,P5 P w K mg base (CX1 P w) k f fd ps (spX K mg ps.length g)/\mg x=ξ (.ref f)/\PySem.W.keepIn K (.ref f)=true/\a0a K fd ps []
def left(g:List PV->Option (d7 ⊕ XT))(ps:List PV):Option d7:=(g ps).bind λr=>match r with
 | .inl r=>ξ r
 | .inr _=>ζ
section
variable {X:Cx}
theorem b9w:a4R (CX1 X.prog X.w) X E0:=λ_ _ _ _ _ _ _ h=>by
 obtain⟨_,_,_,_,_,_,_,_,_,_,_,_,_,_,_,h⟩:=h;exact False.elim h
theorem b6x{k k':Nat}{ps:List Str}{g:List PV->Option (d7 ⊕ XT)}{x:Str}{p pos:Pos}{e:AG}{es:List AG}{m:MA}
 (d:a7Q X.prog X.w X.K X.mg X.base x ps k g) (hr:D2 k' X.A) (hk:k<=k') (hg:Gl X x) (hn:∀ρ qs,m ρ=ξ qs->qs.length=ps.length) (ha:EA X (e::es) m)
 (hdb:(x==("__debug__":Str))=false:=by decide) (he:AL (e::es) X.env=(false,eval e X.env)::AL es X.env:=by rfl) (hpl:(backTo pos (AL es X.env)).any (·.1)=false:=by rfl):
 EE X (.Call (.Name x p) (e::es) [] pos) (i3 (left g) m):=by
 obtain⟨f,fd,G,h1,h2,h3⟩:=d
 refine m6 (a24 G (hr.mono hk) hg h1 h2 h3 .nil b9w ha hdb he hpl) λσ H Q h0=>k4 h0 λF ρ r he hm k=> ?_
 obtain⟨qs,e1,hm⟩:=bind_some hm
 obtain⟨r',e2,hm⟩:=bind_some hm
 cases r' with
 |inr c=>cases hm
 |inl r'=>
  cases hm
  refine⟨F,ρ,qs,he,e1,λvs F1 H1 x rl=> ?_⟩
  show spX X.K X.mg ps.length g (vs++[]) H1 Q E0
  rw [Ad]
  exact⟨F1,qs,.inl r,x.fh,rl,hn _ _ e1,e2,λv F2 H2 o=>k v F2 H2 (o9.trans x o)⟩
abbrev _root_.L2.Cx.aim(X:Cx)(Y:AA->AC->Prop)(pn:List (AB×Obj)):Cx:={X with xe:=Y,pn:=pn}
theorem b8y{Y:AA->AC->Prop}{pins:List (AB×Obj)}{σ:L2.St}{H:Hp}{s:AC}(I:e9 X pins σ H s):e9 (X.aim Y (X.pn++pins)) [] σ H s:=⟨⟨I.ok.mod,I.ok.kind,I.ok.glob,I.ok.blt,I.ok.above,I.ok.inj,I.ok.has,I.ok.cab,I.ok.hd,I.ok.frames,I.ok.stk,I.ok.exf,I.ok.bs,I.ok.bsz,I.ok.noex,I.ok.exfs,I.ok.funs,I.ok.frf⟩,I.os,I.bare,I.base,I.loc,I.cell,I.free,I.freeC,λp hp=>I.pin p (by simpa using hp),I.hok,I.len⟩
theorem a1I{Y:AA->AC->Prop}{pins pins1:List (AB×Obj)}{σ:L2.St}{H:Hp}{s:AC}(I:e9 (X.aim Y (X.pn++pins)) pins1 σ H s):e9 X pins σ H s:=⟨⟨I.ok.mod,I.ok.kind,I.ok.glob,I.ok.blt,I.ok.above,I.ok.inj,I.ok.has,I.ok.cab,I.ok.hd,I.ok.frames,I.ok.stk,I.ok.exf,I.ok.bs,I.ok.bsz,I.ok.noex,I.ok.exfs,I.ok.funs,I.ok.frf⟩,I.os,I.bare,I.base,I.loc,I.cell,I.free,I.freeC,λp hp=>I.pin p (BH _ hp),I.hok,I.len⟩
def Ap(X:Cx)(pins:List (AB×Obj))(b:AB):Prop:=X.s₀.heap.get? b=ζ/\b≠X.env.locals/\(∀x z,X.env.cells.lookup x=ξ z->z≠b)/\∀p∈X.pn++pins,p.1≠b
def Hnd(X:Cx)(hs:List ExceptHandler)(th:AB->AB->Option AB->TS):Prop:=
 ∀(pins:List (AB×Obj)) (s:AC) (σ:L2.St) (H:Hp) (D:N5) (a C T:AB) (dd:Option AB),e9 X pins σ H s->ExT s.heap a C T .none dd->H a=ζ->H T=ζ->Ap X pins a->Ap X pins T->th a C dd D σ H->
  AF (model X.prog X.w) X.A (handleBy (.ref a) X.env hs) (SP X pins D) X.xe s
theorem apart{pins:List (AB×Obj)}{σ:L2.St}{H:Hp}{s:AC}{b:AB}(I:e9 X pins σ H s)(hx0:X.ex=[])(h:s.heap.get? b=ζ):X.s₀.heap.get? b=ζ/\b≠X.env.locals/\(∀x z,X.env.cells.lookup x=ξ z->z≠b)/\∀p∈X.pn++pins,p.1≠b:=by
 refine⟨?_,λe=> ?_,λx z hz e=> ?_,λp hp e=> ?_⟩
 ·cases h0:X.s₀.heap.get? b with
  |none=>rfl
  |some o=>
   obtain⟨o',e⟩:=I.base.there b o h0 (λz=>by rw [hx0] at z;cases z)
   rw [h] at e;cases e
 ·obtain⟨m,⟨o,_,_,ho,_⟩,_⟩:=I.loc;rw [<-e,h] at ho;cases ho
 ·obtain⟨v,o,ho,_⟩:=I.cell x z hz;rw [e,h] at ho;cases ho
 ·have:=(I.pin p hp).1;rw [e,h] at this;cases this
theorem b9J{body:List Stmt}{h₀:ExceptHandler}{hs:List ExceptHandler}{pos:Pos}{tb:(L2.St->XK)->TS}{th:AB->AB->Option AB->TS}(hx0:X.ex=[])(hst:X.stack=X.env::X.outer)(hfr:X.env.frame=ξ X.env.locals)
 (hb:∀(Y:AA->AC->Prop) (pn:List (AB×Obj)) (E:L2.St->XK),a0u (CX1 X.prog X.w) (X.aim Y pn) E->PSs (X.aim Y pn) body (tb E)) (hh:Hnd X (h₀::hs) th):
 PS X (.Try body (h₀::hs) [] [] pos) (λD σ H=>tb (λσ1 v dd H1=>∃C,v= .ref C/\∀a,H1 a=ζ->th a C dd D σ1 H1) D σ H):=by
 intro pins s σ H D I h
 refine wpAny_Try_except ?_
 have key:=hb (λe s₁=>AF (model X.prog X.w) X.A (noteFrame e X.env) (λ_ s₂=>AF (model X.prog X.w) X.A (setFlight e ζ) (λ_ s₃=>AF (model X.prog X.w) X.A (handleBy e X.env (h₀::hs)) (SP X pins D) X.xe s₃) X.xe s₂) X.xe s₁) (X.pn++pins) _ ?_ [] s σ H D (b8y I) h
 ·refine C8 key λfl s1 hq=> ?_
  cases fl with
  |next=>
   obtain⟨σ',H',J,q⟩:=hq
   exact wpAny_execs_nil ⟨σ',H',a1I J,q⟩
  |brk=>obtain⟨σ',H',J,q⟩:=hq;exact⟨σ',H',a1I J,q⟩
  |cont=>obtain⟨σ',H',J,q⟩:=hq;exact⟨σ',H',a1I J,q⟩
  |ret u=>obtain⟨v,σ',H',J,r,q⟩:=hq;exact⟨v,σ',H',a1I J,r,q⟩
 ·intro pins1 σ1 H1 s1 e s' I1 hx
  obtain⟨a,C,T,dd,H2,rfl,ho,hbare,un,hok,ha,hT,hn,hTn,x,C',e1,ht⟩:=hx
  cases e1
  have J1:=I1.call' (ch:=[]) ho un hok hbare λb z=>nomatch z
  have J:e9 X pins σ1 H2 s':=a1I J1
  have J0:e9 X pins σ1 H1 s1:=a1I I1
  show AF (model X.prog X.w) X.A (noteFrame (.ref a) X.env) _ X.xe s'
  have fr:X.A.frames=ξ (X.env::X.outer):=by rw [<-hst];exact J.ok.frames
  have fn:s'.heap.FunFrames X.base (X.env::X.outer):=by rw [<-hst];exact J.stack
  refine a7p fr fn hfr x (by simp [rawInt]) λT' h1 hT' x1 c1=> ?_
  refine a75 x1 ζ λh2 x2 c2 _=> ?_
  have hTn':H2 T'=ζ:=J.hok.fresh hT'
  have c:Chg (frs X.stack) ([T,a]++[T']) s'.heap h2:=by
   rw [hst];exact c1.trans (c2.more (λb hb=>nomatch hb) λb hb=>hb)
  have mem:∀b∈[T,a]++[T'],b=T\/b=a\/b=T':=λb hb=>by simpa using hb
  have q1:=apart J0 hx0 hT
  have q2:=apart J0 hx0 ha
  have q3:=apart J hx0 (Heap.get?_none_of_le hT')
  have K:e9 X pins σ1 H2 {s' with heap:=h2}:=e9.chg J c (λb hb=> ?_) (λb hb=> ?_) (λb hb=> ?_) (λb hb=> ?_) (λb hb=> ?_)
  ·exact hh pins _ σ1 H2 D a C T' dd K x2 hn hTn' q2 q3 (ht a hn)
  all_goals rcases mem b hb with rfl|rfl|rfl
  ·exact q1.1
  ·exact q2.1
  ·exact q3.1
  ·exact hTn
  ·exact hn
  ·exact hTn'
  ·exact q1.2.1
  ·exact q2.2.1
  ·exact q3.2.1
  ·exact q1.2.2.1
  ·exact q2.2.2.1
  ·exact q3.2.2.1
  ·exact q1.2.2.2
  ·exact q2.2.2.2
  ·exact q3.2.2.2
end
theorem b2E{M:Model}{A:AK}{E:AA->AC->Prop}{h:Heap}{g:Array GenState}{d:Drawn}{t:Nat}{os:OsState}{e C B:AB}{oe:Obj}{Q:Bool->AC->Prop}(hC:b3G C h)(hB:b3G B h)
 (he:h.get? e=ξ oe) (hcls:oe.cls= .ref C) (hq:∀tl:List AA,OwnTail h a6K tl->(∃N nm q bs hdct sn sub ab col dd k0 k1 k2 k3 k5,h.get? C=ξ (excClassObj nm q C N bs tl hdct sn sub ab col dd k0 k1 k2 k3 k5 "ValueError.__new__"))->Q ((Value.ref C::tl).contains (.ref B)) ⟨h,g,d,t,os⟩):AF M A (excMatches (.ref e) (.ref B)) Q E ⟨h,g,d,t,os⟩:=by
 obtain⟨tl,N,nm,q,bs,hdct,sn,sub,ab,col,dd,k0,k1,k2,k3,k5,hC,T⟩:=hC
 obtain⟨tl',N',nm',q',bs',hdct',sn',sub',ab',col',dd',k0',k1',k2',k3',k5',hB,T'⟩:=hB
 have hq':=hq tl T ⟨_,_,_,_,_,_,_,_,_,_,_,_,_,_,_,hC⟩
 have hcB:(Value.ref B::tl').contains (.type "BaseException")=true:=by rw [List.contains_cons,T'.hasType (show a6K.contains (.type "BaseException")=true by decide),Bool.or_true]
 have f:=tc_notTuple
 unfold excMatches
 repeat (first|(with_reducible refine wpAny_loadPart_at he ?_;rw [hcls])|with_reducible refine wpAny_loadPart_at hB ?_|(with_reducible refine wpAny_isSubtype_exc hB ?_;rw [hcB])|with_reducible refine wpAny_isSubtype_exc hC ?_|wp_step)
 cases hb:(Value.ref C::tl).contains (.ref B)<;>(rw [hb] at hq';wp_walk;exact hq')
def a7L(X:Cx)(C B:AB)(b:Bool):Prop:=∀h:Heap,X.K.In h->b3G C h/\b3G B h/\∀(tl:List AA) N nm q bs hdct sn sub ab col dd k0 k1 k2 k3 k5,h.get? C=ξ (excClassObj nm q C N bs tl hdct sn sub ab col dd k0 k1 k2 k3 k5 "ValueError.__new__")->(Value.ref C::tl).contains (.ref B)=b
section
variable {X:Cx}
abbrev _root_.L2.Cx.caught(X:Cx)(a:AB)(Y:AA->AC->Prop):Cx:={X with A:=X.A.mark (ξ (.ref a)),calm:=false,xe:=Y}
theorem a62{a:AB}{Y:AA->AC->Prop}{pins:List (AB×Obj)}{σ:L2.St}{H:Hp}{s:AC}(I:e9 X pins σ H s):e9 (X.caught a Y) pins σ H s:=⟨⟨I.ok.mod,I.ok.kind,I.ok.glob,I.ok.blt,I.ok.above,I.ok.inj,I.ok.has,I.ok.cab,(λz=>nomatch z),I.ok.frames,I.ok.stk,I.ok.exf,I.ok.bs,I.ok.bsz,I.ok.noex,I.ok.exfs,I.ok.funs,I.ok.frf⟩,I.os,I.bare,I.base,I.loc,I.cell,I.free,I.freeC,I.pin,I.hok,I.len⟩
theorem a0y{a:AB}{Y:AA->AC->Prop}{pins:List (AB×Obj)}{σ:L2.St}{H:Hp}{s:AC}(hd:X.calm=true->X.A.handled=ζ)(I:e9 (X.caught a Y) pins σ H s):e9 X pins σ H s:=⟨⟨I.ok.mod,I.ok.kind,I.ok.glob,I.ok.blt,I.ok.above,I.ok.inj,I.ok.has,I.ok.cab,hd,I.ok.frames,I.ok.stk,I.ok.exf,I.ok.bs,I.ok.bsz,I.ok.noex,I.ok.exfs,I.ok.funs,I.ok.frf⟩,I.os,I.bare,I.base,I.loc,I.cell,I.free,I.freeC,I.pin,I.hok,I.len⟩
end
def a9o(K:AE)(C B:AB):Bool:=match K.lookup C with
 |some ⟨_,_,.cls cd,_⟩=>cd.mro.contains (.ref B)
 |_=>false
def b39(K:AE)(C:AB)(g:AB->Bool):Bool:=match K.lookup C with
 |some ⟨.type "type",_,.cls cd,sl⟩=>(match cd.mro,sl.toList with
  | .ref C'::bm,[_,_,_,_,ξ (.builtin n),_]=>C'==C && n=="ValueError.__new__" && !cd.hasDel && PySem.W.tailIn K a6K bm && g cd.ns
  |_,_=>false)
 |_=>false
def a6G(K:AE)(C:AB):Bool:=b39 K C λ_=>true
theorem b1w{K:AE}{h:Heap}{C:AB}{g:AB->Bool}(X:K.In h)(q:b39 K C g=true):∃tl N nm q bs hdct sn sub ab col dd k0 k1 k2 k3 k5,
 h.get? C=ξ (excClassObj nm q C N bs tl hdct sn sub ab col dd k0 k1 k2 k3 k5 "ValueError.__new__")/\OwnTail h a6K tl/\g N=true:=by
 unfold b39 at q
 cases hk:K.lookup C with
 |none=>rw [hk] at q;cases q
 |some o=>
  rw [hk] at q
  split at q
  ·rename_i dd cd sl e
   cases e
   obtain⟨nm,bs,mro,ns,qn,hd,sn,sub,ab,col,del⟩:=cd
   obtain⟨l⟩:=sl
   split at q
   ·rename_i C' bm k0 k1 k2 k3 n k5 hm hs
    subst hm hs
    rw [Bool.and_eq_true,Bool.and_eq_true,Bool.and_eq_true,Bool.and_eq_true] at q
    obtain⟨⟨⟨⟨c1,c2⟩,c3⟩,c4⟩,c5⟩:=q
    have c3':del=false:=by simpa using c3
    cases(beq_iff_eq.mp c1)
    cases(beq_iff_eq.mp c2)
    clear c3
    subst c3'
    exact⟨bm,ns,nm,qn,bs,hd,sn,sub,ab,col,dd,k0,k1,k2,k3,k5,X _ _ hk,PySem.W.tail_of_in X c4,c5⟩
   ·cases q
  ·cases q
theorem a8N{K:AE}{h:Heap}{C:AB}(X:K.In h)(q:a6G K C=true):b3G C h:=by
 obtain⟨tl,N,nm,q,bs,hdct,sn,sub,ab,col,dd,k0,k1,k2,k3,k5,h1,h2,_⟩:=b1w X q;exact⟨tl,N,nm,q,bs,hdct,sn,sub,ab,col,dd,k0,k1,k2,k3,k5,h1,h2⟩
theorem b3L{X:Cx}{C B:AB}(q1:a6G X.K C=true)(q2:a6G X.K B=true):a7L X C B (a9o X.K C B):=λh I=>⟨a8N I q1,a8N I q2,λtl N nm q bs hdct sn sub ab col dd k0 k1 k2 k3 k5 hc=>by
 cases hk:X.K.lookup C with
 |none=>unfold a6G b39 at q1;rw [hk] at q1;cases q1
 |some o=>
  have:=I _ _ hk;rw [hc] at this;cases this;unfold a9o;rw [hk]⟩
section
variable {X:Cx}
end
section
variable {X:Cx}{pins:List (AB×Obj)}{σ:L2.St}{H:Hp}{s:AC}
theorem _root_.L2.e9.track{a:AB}{o:HO}(I:e9 X pins σ H s)(hn:H a=ζ)(ap:Ap X pins a)(new:v4 X.prog X.w (i7 H a o) s.heap a o):e9 X pins σ (i7 H a o) s where
 ok:=I.ok
 os:=I.os
 bare:=I.bare
 base:=⟨I.base.keep,I.base.slot,λb ob e n hx=>by
  rw [a9 (λz=>by rw [z,ap.1] at e;cases e)];exact I.base.free b ob e n hx,I.base.there,
  λb xs e=>by rw [a9 (f7 (I.base.tups b xs e) hn)];exact I.base.tups b xs e,
  λb ob u e=>by rw [a9 (f7 (I.base.frzs b ob u e) hn)];exact I.base.frzs b ob u e,
  λb ps e=>by obtain⟨more,q⟩:=I.base.tbls b ps e;exact⟨more,by rw [a9 (f7 q hn)];exact q⟩⟩
 loc:=I.loc
 cell:=I.cell
 free:=by rw [a9 (Ne.symm ap.2.1)];exact I.free
 freeC:=λx c e=>by rw [a9 (ap.2.2.1 x c e)];exact I.freeC x c e
 pin:=λp hp=>by
  obtain⟨h1,h2,h3⟩:=I.pin p hp;exact⟨h1,by rw [a9 (ap.2.2.2 p hp)];exact h2,h3⟩
 hok:=λb u e=>by
  by_cases hb:b=a
  ·subst hb;rw [c8] at e;cases e;exact new
  ·rw [a9 hb] at e;exact(I.hok b u e).stay (λc v _ q=>q) (λc q=>by rw [a9 (f7 q hn)];exact q) λc xs q=>by rw [a9 (f7 q hn)];exact q
 len:=I.len
theorem a4D{M:Model}{A:AK}{E:AA->AC->Prop}{i:Nat}{x:Str}{pos:Pos}{Q:Unit->AC->Prop}(I:e9 X pins σ H s)(hN:X.N.Nodup)(hi:X.N[i]?=ξ x)(hk:X.env.scope.names.lookup x=ξ .local)
 (h:∀s',e9 X pins (σ.set i ζ) H s'->Q () s'):AF M A (do bindName X.env x .none;unbindBehindTheSuite X.env x pos) Q E s:=by
 obtain⟨m,hn,hl⟩:=id I.loc
 have hcls:(X.env.scope.kind== .class||(X.env.scope.kind== .module && X.env.locals !=X.env.globals))=false:=by rw [I.ok.kind];rfl
 have hiσ:i<σ.length:=by rw [I.len];exact(Ah.mp hi).1
 have cne:=I.cne
 refine wpAny_nameGoes_keeps hk hn hcls λh' v hn' hs=> ?_
 refine h _ ⟨I.ok,I.os,I.bare,⟨λb o e n hb hx=> ?_,λb o e n hb hx=> ?_,I.base.free,λb o e hx=> ?_,I.base.tups,I.base.frzs,I.base.tbls⟩,⟨_,hn',λj y v' e1 e2 e3=> ?_⟩,λy c e=> ?_,I.free,I.freeC,λp hp=> ?_,λb ob e=> ?_,by simpa using I.len⟩
 ·exact(hs.2 b (AW (Ak (AT e) I.ok.above))).trans (I.base.keep b o e n hb hx)
 ·obtain⟨sl,e1⟩:=I.base.slot b o e n hb hx
  exact⟨sl,(hs.2 b (AW (Ak (AT e) I.ok.above))).trans e1⟩
 ·obtain⟨o',e1⟩:=I.base.there b o e hx
  exact⟨o',(hs.2 b (AW (Ak (AT e) I.ok.above))).trans e1⟩
 ·by_cases hj:j=i
  ·subst hj
   rw [BF hiσ] at e2
   cases e2
  ·rw [List.getElem?_set_ne (Ne.symm hj)] at e2
   obtain⟨u',r',q⟩:=hl j y v' e1 e2 e3
   refine⟨u',r', ?_⟩
   rcases q with⟨k,e⟩|⟨k,c,e,z⟩
   ·refine .inl ⟨k, ?_⟩
    have:y≠x:=λe=>hj (a5K hN e1 (e▸hi))
    simp [this,e]
   ·exact .inr ⟨k,c,e,z.sameBut hs (cne y c e)⟩
 ·obtain⟨w',z⟩:=I.cell y c e
  exact⟨w',z.sameBut hs (cne y c e)⟩
 ·obtain⟨e,n,ne,nf,d⟩:=I.pin p hp
  exact⟨(hs.2 p.1 ne).trans e,n,ne,nf,d⟩
 ·refine(I.hok b ob e).stay (λc w' hc q=>(hs.2 c ?_).trans q) (λ_ q=>q) λ_ _ q=>q
  rintro rfl
  have hfree:=I.free
  rcases hc with rfl|hc
  ·rw [hfree] at e;cases e
  ·rw [hfree] at hc;cases hc
end
def XO(a C:AB)(dd:Option AB)(h:Heap):Prop:=∃oe vs,h.get? a=ξ oe/\oe.cls= .ref C/\oe.data= .fields vs/\oe.dict=dd
def N5.drop(D:N5)(i:Nat):N5:=⟨λσ H=>D.nx (σ.set i ζ) H,D.rt,λσ H=>D.bk (σ.set i ζ) H,λσ H=>D.ct (σ.set i ζ) H⟩
section
variable {X:Cx}
theorem b83{i:Nat}{x y:Str}{B:AB}{np pos:Pos}{b₀:Stmt}{suite:List Stmt}{rest:List ExceptHandler}{ts:TS}(hN:X.N.Nodup)(hi:X.N[i]?=ξ y)(hy:X.env.scope.names.lookup y=ξ .local)
 (hg:Gl X x) (hm:X.mg x=ξ (.ref B)) (hdb:(x==("__debug__":Str))=false) (hs:∀a Y,PSs (X.caught a Y) (b₀::suite) ts):
 Hnd X (.ExceptHandler (ξ (.Name x np)) (ξ y) (b₀::suite) pos::rest) (λa C dd D σ H=>a7L X C B true/\ts (N5.drop D i) (σ.set i (ξ (.ref a))) (i7 H a (.ext (XO a C dd)))):=by
 intro pins s σ H D a C T dd0 I ex hn hTn apA apT ⟨hbl,q⟩
 have J:e9 (X.caught a (notedBy (model X.prog X.w) (X.A.mark (ξ (.ref a))) X.env (cameBackBy (model X.prog X.w) X.A X.env X.xe))) pins σ H s:=a62 I
 refine wpAny_handleBy_cons (codeAny_handlers_test (Y4 (X:=X.caught a _) J hg hm ?_ hdb)) (by intro q;cases q)
 obtain⟨hC,hB,hin⟩:=hbl s.heap I.kIn
 obtain⟨oe,vs,he,hcls,_⟩:=ex.obj
 obtain⟨hh,g,d,tk,os⟩:=s
 refine b2E hC hB he hcls λtl T0 ⟨N,nm,q0,bs,hdct,sn,sub,ab,col,dd,k0,k1,k2,k3,k5,hc⟩=> ?_
 rw [hin tl N nm q0 bs hdct sn sub ab col dd k0 k1 k2 k3 k5 hc]
 refine codeAny_handlers_suite_as ?_
 refine a75 (s:=⟨hh,g,d,tk,os⟩) ex ζ λh2 x2 c2 hsz=> ?_
 have one:∀b∈[T],b=T:=λb hb=>List.mem_singleton.mp hb
 have K:e9 X pins σ H ⟨h2,g,d,tk,os⟩:=e9.chg I (c2.more (λb hb=>nomatch hb) λb hb=>hb) (λb hb=>by rw [one b hb];exact apT.1) (λb hb=>by rw [one b hb];exact hTn) (λb hb=>by rw [one b hb];exact apT.2.1) (λb hb=>by rw [one b hb];exact apT.2.2.1) (λb hb=>by rw [one b hb];exact apT.2.2.2)
 obtain⟨oe',vs',he',hcls',hd',_,hdn⟩:=x2.obj
 have K1:e9 X pins σ (i7 H a (.ext (XO a C dd0))) ⟨h2,g,d,tk,os⟩:=K.track hn apA ⟨⟨oe',vs',he',hcls',hd',hdn⟩,⟨oe',he'⟩,λh1 h2 ⟨o1,v1,e1,e2,e3⟩ st=>⟨o1,v1,st _ e1,e2,e3⟩⟩
 refine a3g (v:= .ref a) K1 hN hi (.inl hy) rfl (λs' I'=> ?_) (.inr hy)
 refine C8 (hs a _ pins _ _ _ (N5.drop D i) (a62 I') q) λfl s1 hq=> ?_
 cases fl with
 |next=>obtain⟨σ',H',J,q⟩:=hq;exact a4D (a0y I.ok.hd J) hN hi hy λs2 J2=>⟨_,H',J2,q⟩
 |brk=>obtain⟨σ',H',J,q⟩:=hq;exact a4D (a0y I.ok.hd J) hN hi hy λs2 J2=>⟨_,H',J2,q⟩
 |cont=>obtain⟨σ',H',J,q⟩:=hq;exact a4D (a0y I.ok.hd J) hN hi hy λs2 J2=>⟨_,H',J2,q⟩
 |ret u=>obtain⟨v,σ',H',J,r,q⟩:=hq;exact a4D (a0y I.ok.hd J) hN hi hy λs2 J2=>⟨v,_,H',J2,r,q⟩
end
def xcV(c:XT):PV:=match c.fs with
 |[]=> .dict [(.str c.cls,.bool true)]
 |f::r=> .dict ((.str c.cls,.int 0)::f::r)
theorem b7O{K:AE}{F:Hp}{c:XT}{dd:Option AB}{a C:AB}(ha:F a=ζ)(xf:XF K F c.fs dd)(h3:N6 K c.cls C):A5 K (i7 F a (.ext (XO a C dd))) (xcV c) (.ref a):=by
 obtain⟨cl,fs⟩:=c;rcases xf with⟨e1,e2⟩|⟨d,vs,e1,q,n,r⟩
 ·have e1:fs=[]:=e1;subst e1;subst e2;exact Or.inr (Or.inr (Or.inl ⟨cl,_,rfl,.inr ⟨rfl,a,C,XO a C ζ,rfl,c8,λh q=>q,h3⟩⟩))
 ·cases fs with
  |nil=>exact absurd rfl n
  |cons f r0=>
   subst e1;have s:g8 F (i7 F a (.ext (XO a C (ξ d)))):=y3 ha;refine Or.inr (Or.inr (Or.inr ⟨cl,.int 0,vs,.inr ⟨rfl,a,C,d,XO a C (ξ d),rfl,c8,λh q=>q,s _ _ q,h3⟩,cl,.int 0,vs,rfl,rfl,rfl, ?_⟩));exact a02.mono s _ r
def a74(i:Nat):Fl->Fl
 | .nx ρ=> .nx (ρ.set i ζ)
 | .rt r=> .rt r
 | .bk ρ=> .bk (ρ.set i ζ)
 | .ct ρ=> .ct (ρ.set i ζ)
def a3C(b:MX)(i:Nat)(inm:Str->Bool)(hd:MS):MS:=λρ=>(b ρ).bind λfx=>match fx with
 | .fl f=>ξ f
 | .rz c ρ'=>if inm c.cls=true then(hd (ρ'.set i (ξ (.v (xcV c))))).map (a74 i) else ζ
theorem B3{α:Type}{l:List (Option α)}{i j:Nat}{r:α}(h:(l.set i ζ)[j]?=ξ (ξ r)):i≠j/\l[j]?=ξ (ξ r):=by
 rw [List.getElem?_set] at h
 by_cases hij:i=j
 ·rw [if_pos hij] at h;split at h
  ·cases h
  ·cases h
 ·rw [if_neg hij] at h;exact⟨hij,h⟩
theorem Y9.drop{K:AE}{F0 H0 F H:Hp}{σ:L2.St}{ρ:b9}(s:Y9 K F0 H0 F H σ ρ)(i:Nat):Y9 K F0 H0 F H (σ.set i ζ) (ρ.set i ζ):=by
 refine⟨s.x,⟨s.e.fh,by simp [s.e.len],λj q e=> ?_,λj ps e=> ?_,λj k ps qs a hjk e1 e2 e3 e4=> ?_⟩,λj ps a e1 e2=> ?_⟩
 ·obtain⟨n,e⟩:=B3 e;rw [List.getElem?_set_ne n];exact s.e.at_ j q e
 ·exact s.e.nb j ps (B3 e).2
 ·exact s.e.ap j k ps qs a hjk (B3 e1).2 (B3 e2).2 (B3 e3).2 (B3 e4).2
 ·exact s.nw j ps a (B3 e1).2 (B3 e2).2
theorem Fin.drop{K:AE}{F0 H0 F:Hp}{D:N5}{i:Nat}:∀{fl:Fl},Fin K F0 H0 F D (a74 i fl)->Fin K F0 H0 F (N5.drop D i) fl
 | .nx _,h=>λσ' F' H' s' so=>h _ F' H' s' (so.drop i)
 | .rt _,h=>h
 | .bk _,h=>λσ' F' H' s' so=>h _ F' H' s' (so.drop i)
 | .ct _,h=>λσ' F' H' s' so=>h _ F' H' s' (so.drop i)
section
variable {X:Cx}
theorem b37{i:Nat}{body:List Stmt}{x y:Str}{B:AB}{np hpos pos:Pos}{b₀:Stmt}{suite:List Stmt}{b:MX}{inm:Str->Bool}{hd:MS}(hN:X.N.Nodup)(hi:X.N[i]?=ξ y)(hy:X.env.scope.names.lookup y=ξ .local)(hx0:X.ex=[])(hst:X.stack=X.env::X.outer)(hfr:X.env.frame=ξ X.env.locals)
 (hg:Gl X x) (hm:X.mg x=ξ (.ref B)) (hdb:(x==("__debug__":Str))=false) (hin:∀c,inm c=true->∃C,X.mg c=ξ (.ref C)/\a7L X C B true/\N6 X.K c C)
 (hb:∀(Y:AA->AC->Prop) (pn:List (AB×Obj)) (E:L2.St->XK),a0u (CX1 X.prog X.w) (X.aim Y pn) E->EXs (X.aim Y pn) E body b) (hs:∀a Y,ESs (X.caught a Y) (b₀::suite) hd):
 ES X (.Try body [.ExceptHandler (ξ (.Name x np)) (ξ y) (b₀::suite) hpos] [] [] pos) (a3C b i inm hd):=
 C6 (b9J hx0 hst hfr (tb:=λE=>tMX X.K X.mg E b) hb (b83 (i:=i) (ts:=tMS X.K hd) hN hi hy hg hm hdb λa Y=>hs a Y)) λD σ H h0=>E9 h0 λF0 H0 F ρ fl so e fin=>by
  obtain⟨fx,e1,e⟩:=bind_some e;cases fx with
  |fl f=>cases e;exact⟨F0,H0,F,ρ,.fl _,so,e1,fin⟩
  |rz c ρ1=>
   have e:(if inm c.cls=true then(hd (ρ1.set i (ξ (.v (xcV c))))).map (a74 i) else ζ)=ξ fl:=e
   split at e
   ·rename_i hc;obtain⟨C,h1,h2,h3⟩:=hin c.cls hc;cases hh:hd (ρ1.set i (ξ (.v (xcV c)))) with
    |none=>rw [hh] at e;cases e
    |some f=>
     rw [hh] at e;cases e;refine⟨F0,H0,F,ρ,.rz c ρ1,so,e1,C,h1,λσ1 dd F' H' s' so' xf=>⟨C,rfl,λa hn=>⟨h2,F0,H0,i7 F' a (.ext (XO a C dd)),_,f, ?_,hh, ?_⟩⟩⟩
     ·exact so'.set (r:= .v (xcV c)) (o9.val (p:=xcV c) (R5.lay so'.e.fh hn) (b7O (so'.e.fh.free hn) xf h3)) rfl i
     ·exact Fin.drop ((fin.later s').later (y3 (so'.e.fh.free hn)))
   ·cases e
theorem b6C{E:L2.St->XK}{k k':Nat}{ps:List Str}{g:List PV->Option (d7 ⊕ XT)}{x:Str}{p pos pos2:Pos}{e:AG}{es:List AG}{m:MA}
 (d:a7Q X.prog X.w X.K X.mg X.base x ps k g) (hr:D2 k' X.A) (hk:k<=k') (hg:Gl X x) (hx:a0u (CX1 X.prog X.w) X E) (hn:∀ρ qs,m ρ=ξ qs->qs.length=ps.length) (ha:EA X (e::es) m)
 (hs:swapsWith (.Call (.Name x p) (e::es) [] pos) ζ pos2.line X.env=pure false:=by rfl)
 (hdb:(x==("__debug__":Str))=false:=by decide) (he:AL (e::es) X.env=(false,eval e X.env)::AL es X.env:=by rfl) (hpl:(backTo pos (AL es X.env)).any (·.1)=false:=by rfl):
 EX X E (.Expr (.Call (.Name x p) (e::es) [] pos) pos2) (a7n g m):=by
 obtain⟨f,fd,G,h1,h2,h3⟩:=d
 exact b8Q G (hr.mono hk) hg h1 h2 h3 hx hn ha hs hdb he hpl
end
def a2s(K:AE)(C:AB)(x:Str):Bool:=match K.lookup C with
 |some ⟨_,_,.cls cd,_⟩=>cd.name==x
 |_=>false
structure XC(K:AE)(mg:Str->Option AA)(c:Str)(C:AB):Prop where
 mg:mg c=ξ (.ref C)
 named:N6 K c C
 exc:a6G K C=true
theorem b8r{K:AE}{mg:Str->Option AA}{h:Heap}{c:Str}{C:AB}(X:K.In h)(G:h.Ns mainGlobals mg)(e:PySem.W.nsIn K mainGlobals c=ξ (ξ (.ref C)))(q:(a2s K C c && a6G K C)=true):XC K mg c C:=by
 rw [Bool.and_eq_true] at q;obtain⟨q1,q3⟩:=q;refine⟨PySem.W.mg_of X G e,⟨e, ?_⟩,q3⟩;unfold a2s at q1;split at q1
 ·rename_i oc od cd sl hk;exact⟨oc,od,cd,sl,hk,beq_iff_eq.mp q1⟩
 ·cases q1
theorem b3J{K:AE}{x D:AB}{c:AA}(e:PySem.W.kitOne K (.ref D) c=ξ true):Answers (λs=>K.In s.heap/\∃o,s.heap.get? x=ξ o/\o.cls= .ref D) (.ref x) c true:=λdep tk prog w A R s hs=>by
 obtain⟨hh,gg,dr,tt,oo⟩:=s;obtain⟨⟨kin,o,h1,h2⟩,fin⟩:=hs;have LT:PySem.W.Looks (model prog w) hh (typeOf (.ref x)) (.ref D):=h2▸(PySem.W.Looks.ld h1).andThen .now;unfold Builtin.«isinstance.nested»;refine AD ?_;refine LT.at ?_;cases q:(Value.ref D==c) with
 |true=>
  rw [if_pos rfl];exact AD (wpAny_rule (AH (fin tt)))
 |false=>
  rw [if_neg Ac];unfold PySem.W.kitOne at e;rw [q,if_neg Ac] at e;have z:=PySem.W.kit_cls (M:=model prog w) kin e;have z3:PySem.W.Looks (model prog w) hh (isInstance (.ref x) c) true:=LT.andThen z.2.2;refine AD ?_;refine z.1.at ?_;rw [if_pos (by decide)]
  k_delta "plainIsInstance"
  refine AD ?_;refine AD ?_;refine z.2.1.at ?_;simp only [Bool.not_true,if_false,AX];refine AD ?_;refine z3.at ?_;exact AH (AH (fin tt))
theorem b4t{K:AE}{prog:AJ}{w:AI}{A:AK}{E:AA->AC->Prop}{s:AC}{Q:AA->AC->Prop}{x D:AB}{c:AA}{o:Obj}(kin:K.In s.heap)(h1:s.heap.get? x=ξ o)(h2:o.cls= .ref D)(e:PySem.W.kitOne K (.ref D) c=ξ true)(fin:∀tk,Q (.bool true) {s with toks:=tk}):
 AF (model prog w) A (call (.builtin "isinstance") [.ref x,c]) Q E s:=by
 refine call_isinstance (S:=λ_ R s=>(K.In s.heap/\∃o,s.heap.get? x=ξ o/\o.cls= .ref D)/\∀tk,R (.ok (.ret (.bool true))) {s with toks:=tk}) (λprog w A R s hs=> ?_) ⟨⟨kin,o,h1,h2⟩,fin⟩
 refine isinstance_outer ?_ (λz=>nomatch z)
 exact b3J e 0 _ prog w A R s hs
def c0r:PV->Option Str
 | .dict [(.str c,.bool true)]=>ξ c
 | .dict ((.str c,.int 0)::_)=>ξ c
 |_=>ζ
def b2m(K:AE)(H:Hp)(x:Str)(v:V):Prop:=b8x K H x v\/∃fs,a6A K H x (.int 0) fs v
theorem b2m.mono{K:AE}{H H':Hp}{x:Str}{v:V}(s:g8 H H')(h:b2m K H x v):b2m K H' x v:=by
 rcases h with⟨a,C,φ,e,q,r⟩|⟨fs,h⟩
 ·exact .inl ⟨a,C,φ,e,s _ _ q,r⟩
 ·exact .inr ⟨fs,h.mono s⟩
theorem b7Q{K:AE}{F:Hp}{p:PV}{v:V}{c:Str}(rr:A5 K F p v)(h:c0r p=ξ c):b2m K F c v:=by
 unfold c0r at h;split at h
 ·cases h;rcases rr with⟨_,_,_,_,kk,w,t,_,z,_⟩|⟨_,_,_,_,kk,w,t,_,z,_⟩|⟨y,t,e,hy⟩|⟨_,_,_,ho,hf⟩
  ·cases z
  ·cases z
  ·cases e;rcases hy with⟨z,_⟩|⟨_,h1⟩
   ·cases z
   ·exact .inl h1
  ·rcases(b1V ho hf).2.1 with e|e<;>cases e
 ·cases h;rcases rr with⟨_,_,_,_,kk,w,t,_,z,_⟩|⟨_,_,_,_,kk,w,t,_,z,_⟩|⟨y,t,e,hy⟩|⟨y,m,fs,ho,hf⟩
  ·cases z
  ·cases z
  ·cases e;rcases hy with⟨z,_⟩|⟨z,_⟩<;>cases z
  ·obtain⟨g,w,t,e,z,q,_⟩:=hf;cases z;cases e;cases q;exact .inr ⟨_,ho⟩
 ·cases h
theorem b7S{X:Cx}{pins:List (AB×Obj)}{σ:L2.St}{H:Hp}{s:AC}(I:e9 X pins σ H s){x:Str}{v:V}(h:b2m X.K H x v):∃(a C:AB) (o:Obj) (od:Option Obj),v= .ref a/\N6 X.K x C/\PySem.W.InstAt s.heap a o C od:=by
 rcases h with h|⟨fs,⟨z,_⟩|⟨_,a,C,dx,φ,e,q,r,d,n⟩⟩
 ·obtain⟨a,C,o,vs,e,h1,h2,h3,n,h4⟩:=b7P I h;exact⟨a,C,o,ζ,e,n,h1,h2,by unfold PySem.W.notCls;rw [h3],by rw [h4];trivial⟩
 ·cases z
 ·obtain⟨oe,vs,h1,h2,h3,h4⟩:=r _ (I.hok a _ q).1;obtain⟨mA,⟨od,es,ep,ho,_⟩,_⟩:=I.hok dx _ d;exact⟨a,C,oe,ξ od,e,n,h1,h2,by unfold PySem.W.notCls;rw [h3],by rw [h4];exact ho⟩
def b6I(tab:List (Str×Bool))(x:d7):Option d7:=(c0r x.rd).bind λc=>(tab.lookup c).map λb=> .v (.bool b)
section
variable {X:Cx}
end
def inL(l:List Str)(c:Str):Bool:=l.contains c
section
variable {X:Cx}
def Hin(X:Cx)(B:AB)(l:List Str):Prop:=∀c,inL l c=true->∃C,X.mg c=ξ (.ref C)/\a7L X C B true/\N6 X.K c C
theorem b6M{B:AB}:Hin X B []:=λ_ h=>nomatch h
theorem b4n{B C:AB}{b c:Str}{l:List Str}(xB:XC X.K X.mg b B)(x:XC X.K X.mg c C)(e:a9o X.K C B=true)(h:Hin X B l):Hin X B (c::l):=λc1 q=>by
 unfold inL at q;rw [List.contains_cons,Bool.or_eq_true] at q;rcases q with q|q
 ·rw [beq_iff_eq.mp q];exact⟨C,x.mg,by rw [<-e];exact b3L x.exc xB.exc,x.named⟩
 ·exact h c1 q
theorem b2C{i:Nat}{l:List Str}{body:List Stmt}{x y:Str}{B:AB}{np hpos pos:Pos}{b₀:Stmt}{suite:List Stmt}{b:MX}{hd:MS}(hN:X.N.Nodup)(xB:XC X.K X.mg x B)(hin:Hin X B l)
 (hb:∀(Y:AA->AC->Prop) (pn:List (AB×Obj)) (E:L2.St->XK),a0u (CX1 X.prog X.w) (X.aim Y pn) E->EXs (X.aim Y pn) E body b) (hs:∀a Y,ESs (X.caught a Y) (b₀::suite) hd)
 (hi:X.N[i]?=ξ y:=by rfl) (hy:X.env.scope.names.lookup y=ξ .local:=by rfl) (hx0:X.ex=[]:=by rfl) (hst:X.stack=X.env::X.outer:=by rfl) (hfr:X.env.frame=ξ X.env.locals:=by rfl) (hg:Gl X x:=by rfl) (hdb:(x==("__debug__":Str))=false:=by decide):
 ES X (.Try body [.ExceptHandler (ξ (.Name x np)) (ξ y) (b₀::suite) hpos] [] [] pos) (a3C b i (inL l) hd):=
 b37 hN hi hy hx0 hst hfr hg xB.mg hdb hin hb hs
theorem b1y{E:L2.St->XK}{st:List Stmt}{m:MS}(h:ESs X.nox st m):EXs X E st (a6L m):=b8S (PSs.nox h)
theorem b8R{E:L2.St->XK}{st:Stmt}{m:MS}(h:ES X.nox st m):EX X E st (a6L m):=c0H λpins s σ H D I hw=>
 wpAny_mono (h pins s σ H D (I.wish _) hw) (λfl s1 hq=>by
  cases fl with
  |next=>obtain⟨σ',H',J,q⟩:=hq;exact⟨σ',H',J.unwish,q⟩
  |brk=>obtain⟨σ',H',J,q⟩:=hq;exact⟨σ',H',J.unwish,q⟩
  |cont=>obtain⟨σ',H',J,q⟩:=hq;exact⟨σ',H',J.unwish,q⟩
  |ret u=>obtain⟨v,σ',H',J,r,q⟩:=hq;exact⟨v,σ',H',J.unwish,r,q⟩) λ_ _ z=>z.elim
end
abbrev exO(C:AB)(dd:Option AB)(t:AB):Obj:={cls:= .ref C,dict:=dd,data:= .fields #[.ref t,.none,.none,.none,.bool false,.none]}
def XQ(a C:AB)(dd:Option AB)(h:Heap):Prop:=∃t,h.get? a=ξ (exO C dd t)
def XD(d:AB)(fs:List (Str×V))(h:Heap):Prop:=∃mA,h.Ns1 d mA/\(∀f,a2H (fs.lookup f) (mA f))/\PySem.Within mA (fs.map (·.1))
theorem XQ.ok{P:AJ}{w:AI}{H:Hp}{h:Heap}{a C:AB}{dd:Option AB}(x:XQ a C dd h):v4 P w H h a (.ext (XQ a C dd)):=
 ⟨x,let ⟨t,e⟩:=x;⟨_,e⟩,λh1 h2 ⟨t,e⟩ k=>⟨t,k _ e⟩⟩
theorem XD.ok{P:AJ}{w:AI}{H:Hp}{h:Heap}{d:AB}{fs:List (Str×V)}(x:XD d fs h):v4 P w H h d (.ext (XD d fs)):=
 ⟨x,let ⟨mA,⟨o,_,_,e,_⟩,_⟩:=x;⟨o,e⟩,λh1 h2 ⟨mA,n,r⟩ k=>⟨mA,n.at k,r⟩⟩
structure a6w(K:Frag)(C:AB):Prop where
 ov:a3q K C=true
 sa:findIn K (.ref C) "__setattr__"=ξ (ξ (.builtin "object.__setattr__"))
 ga:findIn K (.ref C) "__getattribute__"=ξ (ξ (.builtin "BaseException.__getattribute__"))
 gg:findIn K (.ref C) "__getattr__"=ξ ζ
 ex:a6G K C=true
section
variable {X:Cx}{pins:List (AB×Obj)}{σ:L2.St}{H:Hp}{s:AC}{a C d:AB}
theorem b5V{H:Hp}{a:AB}{o:HO}(h:H a=ξ o):i7 H a o=H:=by
 funext b
 unfold i7;split
 ·rename_i e;rw [e,h]
 ·rfl
theorem b6a{A:AK}{E:AA->AC->Prop}{us:List AA}{dd:Option AB}{Q:AA->AC->Prop}(I:e9 X pins σ H s)(hl:us.length<=AM)(cx:a6w X.K C)(e:H a=ξ (.ext (XQ a C dd)))
 (h:∀s',e9 X pins σ H s'->Q .none s'):AF (model X.prog X.w) A (call (.builtin "ValueError.__init__") (.ref a::us)) Q E s:=by
 obtain⟨t,he⟩:=(I.hok a _ e).1
 obtain⟨tl,N,nm,q,bs,hdct,sn,sub,ab,col,ddc,k0,k1,k2,k3,k5,hC,T⟩:=a8N I.kIn cx.ex
 have F:=PySem.F.excBase_ValueError
 obtain⟨hh,g,dr,tk,os⟩:=s
 refine wpAny_call (codeAny_call_builtin F.init.plain F.initEntry (wpAny_check_init_subT F T hC he rfl ?_))
 wp_walk
 have h1:=AR (h:=hh) {cls:= .type "tuple",data:= .seq us.toArray} he
 have hget:((hh.push {cls:= .type "tuple",data:= .seq us.toArray}).update a (Obj.mapFields λx=>x.setIfInBounds 0 (Value.ref hh.objs.size))).get? a=ξ (exO C dd hh.objs.size):=Heap.get?_update_self _ h1 rfl
 have I1:=I.write (x:=a) (e:=a) (o:= .ext (XQ a C dd)) (t':=tk) (h':=(hh.push {cls:= .type "tuple",data:= .seq us.toArray}).update a (Obj.mapFields λx=>x.setIfInBounds 0 (Value.ref hh.objs.size))) (by rw [e];trivial) (.inl rfl) (λb u hb z=>(Heap.get?_update_other _ _ (Ne.symm hb)).trans (AR _ z)) ⟨_,hget⟩ (XQ.ok ⟨_,hget⟩)
 rw [b5V e] at I1
 exact h _ I1
theorem b0a{H:Hp}{a b:AB}{o u:HO}(h:a≠b):i7 (i7 H a o) b u=i7 (i7 H b u) a o:=by
 funext c
 unfold i7
 by_cases h1:c=b
 ·rw [if_pos h1,if_neg (by rw [h1];exact Ne.symm h),if_pos h1]
 ·rw [if_neg h1]
  by_cases h2:c=a
  ·rw [if_pos h2,if_pos h2]
  ·rw [if_neg h2,if_neg h2,if_neg h1]
theorem b1h{A:AK}{E:AA->AC->Prop}{f:Str}{y:V}{u:AA}{Q:Unit->AC->Prop}(I:e9 X pins σ H s)(hx0:X.ex=[])(cx:a6w X.K C)(n:Y8 X.K C f)(e:H a=ξ (.ext (XQ a C ζ)))(ry:j3 y u)
 (h:∀s' d,d≠a->H d=ζ->e9 X pins σ (i7 (i7 H d (.ext (XD d [(f,y)]))) a (.ext (XQ a C (ξ d)))) s'->Q () s'):AF (model X.prog X.w) A (setAttr (.ref a) f u) Q E s:=by
 obtain⟨t,he⟩:=(I.hok a _ e).1
 refine b09 I.kIn he cx.ov n cx.sa λh' d tk hd hsz hx hns hk=> ?_
 have hda:d≠a:=λz=>by rw [z,he] at hd;cases hd
 have hdn:H d=ζ:=I.hok.fresh hsz
 have xd:XD d [(f,y)] h':=⟨_,hns,λg=>by
  show a2H (List.lookup g [(f,y)]) (if g=f then ξ u else ζ)
  rw [List.lookup_cons]
  by_cases q:g=f
  ·rw [if_pos q,q,beq_self_eq_true];exact ry
  ·rw [if_neg q];rw [show(g==f)=false from by simpa using q]
   exact True.intro,λg hg=>by
  by_cases q:g=f
  ·rw [q];exact List.mem_singleton.mpr rfl
  ·exact absurd (if_neg q) hg⟩
 have I1:e9 X pins σ (i7 H a (.ext (XQ a C (ξ d)))) {s with heap:=h',toks:=tk}:=
  I.write (x:=a) (e:=a) (o:= .ext (XQ a C (ξ d))) (t':=tk) (by rw [e];trivial) (.inl rfl) hk ⟨_,hx⟩ (XQ.ok ⟨t,hx⟩)
 have ap:Ap X pins d:=apart I hx0 hd
 have I2:=I1.track (o:= .ext (XD d [(f,y)])) (by rw [a9 hda];exact hdn) ap (XD.ok xd)
 rw [b0a (Ne.symm hda)] at I2
 exact h _ d hda hdn I2
theorem b3r{A:AK}{E:AA->AC->Prop}{f:Str}{y:V}{u:AA}{fs:List (Str×V)}{Q:Unit->AC->Prop}(I:e9 X pins σ H s)(cx:a6w X.K C)(n:Y8 X.K C f)(e:H a=ξ (.ext (XQ a C (ξ d))))(ed:H d=ξ (.ext (XD d fs)))(hl:fs.length<1000)(ry:j3 y u)
 (h:∀s',e9 X pins σ (i7 H d (.ext (XD d (a3N f y fs)))) s'->Q () s'):AF (model X.prog X.w) A (setAttr (.ref a) f u) Q E s:=by
 obtain⟨t,he⟩:=(I.hok a _ e).1
 obtain⟨mA,hns,r,wi⟩:=(I.hok d _ ed).1
 have hz:(fs.map (·.1)).length<=AM:=by rw [AV,sizeLine_eq];lia
 refine b3h I.kIn he rfl rfl ⟨_,rfl⟩ hns cx.ov n cx.sa wi hz λh' tk hn2 sb=>h _ ?_
 have hd:∃o,h'.get? d=ξ o:=by obtain⟨o,_,_,e',_⟩:=hn2;exact⟨o,e'⟩
 refine I.write (x:=d) (e:=d) (by rw [ed];trivial) (.inl rfl) (λb q hb z=>(sb.2 b hb).trans z) hd (XD.ok ⟨_,hn2,λg=> ?_,λg hg=> ?_⟩)
 ·show a2H ((a3N f y fs).lookup g) (if g=f then ξ u else mA g)
  rw [a4c]
  by_cases q:g=f
  ·rw [if_pos q,if_pos q];exact ry
  ·rw [if_neg q,if_neg q];exact r g
 ·by_cases q:g=f
  ·rw [q];exact(a3y f y fs).1
  ·refine(a3y f y fs).2 g (wi g λz=>hg ?_)
   show(if g=f then ξ u else mA g)=ζ
   rw [if_neg q];exact z
end
def Df0(K:AE)(x:Str)(st:Stmt):Prop:=∃f fd,PySem.W.nsIn K mainGlobals x=ξ (ξ (.ref f))/\Fun K x x st f fd
def Df(K:AE)(mg:Str->Option AA)(x:Str)(st:Stmt):Prop:=∃f fd,Fun K x x st f fd/\mg x=ξ (.ref f)
theorem b70{K:AE}{x:Str}{st:Stmt}{f:AB}{oc:AA}{od an:Option AB}{osl:Array (Option AA)}{kV doc pm cdv ct:AA}(a:PySem.W.nsIn K mainGlobals x=ξ (ξ (.ref f)))
 (l:K.lookup f=ξ ⟨oc,od,.func (PySem.W.fnOf x x (O2 st) (A6 st) (c7 st) .none kV doc pm an cdv ct),osl⟩) (c:PySem.W.codeIn K cdv x=true) (k:PySem.W.keepIn K (.ref f)=true):Df0 K x st:=⟨_,_,a,b4e l c k⟩
theorem Df0.to{K:AE}{h:Heap}{mg:Str->Option AA}{x:Str}{st:Stmt}(d:Df0 K x st)(X:K.In h)(G:h.Ns mainGlobals mg):Df K mg x st:=by obtain⟨f,fd,a,F⟩:=d;exact⟨f,fd,F,PySem.W.mg_of X G a⟩
theorem mkS{N P:List Str}{sc:Scope}(h1:sc.kind= .function:=by rfl)(h2:sc.isCoroutine=false:=by rfl)(h3:sc.isGenerator=false:=by rfl)(h4:N.Nodup:=by decide+kernel)(h5:N.take P.length=P:=by rfl)
 (h6:∀x∈P,sc.names.lookup x=ξ .local\/sc.names.lookup x=ξ .cell:=by decide+kernel) (h7:∀y∈sc.names,y.2≠.free:=by decide+kernel):g6 N P sc:=⟨h1,h2,h3,h4,h5,h6,h7⟩
section
variable {P:AJ}{w:AI}{K:AE}{mg:Str->Option AA}{base:Heap}
theorem j7{x:Str}{st:Stmt}{N ps:List Str}{k:Nat}{m:MS}(D:Df K mg x st)(S:g6 N ps (c7 st))
 (hi:∀(kV doc pm:AA) (an:Option AB) (cdv ct:AA) (us:List AA),us.length=ps.length->bindArgs (PySem.W.fnOf x x (O2 st) (A6 st) (c7 st) .none kV doc pm an cdv ct) ⟨us,[]⟩=pure (ps.zip us))
 (hb:∀(f:AB) (cdv:AA) (A:AK) (outer:List Env) (s:AC) (H:Hp) (E:XK),D2 k (A.deeper (envOfC x (c7 st) s.heap.objs.size f cdv))->ESs (a1a CX0 P w K mg base N x (c7 st) f cdv A outer s H E).nox (A6 st) m):
 m4 P w K mg base x ps (k+1) (A4 (N.length - ps.length) m):=
 let ⟨f,fd,F,hm⟩:=D
 ⟨f,fd,b77 F S (hb f),hm,F.kp,F.binds hi⟩
theorem b6X{fa:AB}{st:Stmt}{x:Str}{k:Nat}{g:List PV->Option d7}(D:Df K mg "law" st)(hfa:mg "law"=ξ (.ref fa))
 (hi:∀(kV doc pm:AA) (an:Option AB) (cdv ct v:AA),bindArgs (PySem.W.fnOf "law" "law" (O2 st) (A6 st) (c7 st) .none kV doc pm an cdv ct) ⟨[v],[]⟩=pure [(x,v)])
 (main:∀ns:List Int,ns.length<=63->g [.list (ns.map .int)]=ξ (.v (.bool true)))
 (H:∀(base:Heap) (f:AB) (fd:FuncData),K.In base->Fun K "law" "law" st f fd->P5 P w K mg base CX0 k f fd [x] (spP K 1 g)):
 ∃fd:FuncData,(∀(s:AC) (v:AA),BindsTo s fd ⟨[v],[]⟩ [(x,v)])/\∀base:Heap,K.In base->base.Ns mainGlobals mg->P5 P w K mg base CX0 k fa fd [x] (a93 K):=by
 obtain⟨f,fd,F,hm⟩:=D
 have e:=hfa.symm.trans hm
 cases e
 refine⟨fd,λs v=> ?_,λbase kb _=>(H base _ fd kb F).imp (b6Y main)⟩
 obtain⟨oc,od,kV,doc,pm,an,cdv,ct,osl,rfl,lk,hcd⟩:=F.ex
 exact .of_eq (hi kV doc pm an cdv ct v)
end
theorem el1{C:List AA->Prop}(h:∀a,C [a])(us:List AA)(e:us.length=1):C us:=by
 obtain⟨a,rfl⟩:=List.length_eq_one_iff.mp e;exact h a
theorem elS{n:Nat}{us:List AA}(e:us.length=n+1):∃a t,us=a::t/\t.length=n:=by
 cases us with
 |nil=>cases e
 |cons a t=>exact⟨a,t,rfl,Nat.succ.inj e⟩
theorem el2{C:List AA->Prop}(h:∀a b,C [a,b])(us:List AA)(e:us.length=2):C us:=by
 obtain⟨a,t,rfl,z⟩:=elS e;exact el1 (C:=λt=>C (a::t)) (h a) t z
theorem el3{C:List AA->Prop}(h:∀a b c,C [a,b,c])(us:List AA)(e:us.length=3):C us:=by
 obtain⟨a,t,rfl,z⟩:=elS e;exact el2 (C:=λt=>C (a::t)) (h a) t z
theorem el4{C:List AA->Prop}(h:∀a b c d,C [a,b,c,d])(us:List AA)(e:us.length=4):C us:=by
 obtain⟨a,t,rfl,z⟩:=elS e;exact el3 (C:=λt=>C (a::t)) (h a) t z
def b2F(f:Str):List (PV×PV)->Option PV
 |[]=>ζ
 |(.str g,p)::r=>if f==g then ξ p else b2F f r
 |_::_=>ζ
def c0u:List Str->List PV->List (PV×PV)
 |f::fs,q::qs=>(.str f,q)::c0u fs qs
 |_,_=>[]
section
variable {K:AE}{F:Hp}
theorem b1z{f:Str}:∀{es:List (PV×PV)} {fs:List (Str×V)} {p:PV},a02 K F es fs->b2F f es=ξ p->∃v,fs.lookup f=ξ v/\A5 K F p v
 |[],_,_,_,h=>by cases h
 |(k,q)::es,_,p,⟨g,v,t,e,z,r,rt⟩,h=>by
  subst e;subst z;unfold b2F at h;rw [List.lookup_cons];cases hg:f==g with
  |true=>rw [hg] at h;cases h;exact⟨v,rfl,r⟩
  |false=>rw [hg] at h;exact b1z rt h
theorem a9W:∀{fs:List Str} {qs:List PV} {vs:List V},h9 K F qs vs->a02 K F (c0u fs qs) (fs.zip vs)
 |[],qs,vs,_=>rfl
 |f::fs,[],vs,h=>by cases h;rfl
 |f::fs,q::qs,vs,⟨v,t,e,r,rt⟩=>by subst e;exact⟨f,v,_,rfl,rfl,r,a9W rt⟩
end
theorem a9R{f:Str}{v:V}:∀{gs:List (Str×V)},f∉gs.map (·.1)->a3N f v gs=gs++[(f,v)]
 |[],_=>rfl
 |(g,x)::r,h=>by
  simp only [AQ,AU,not_or] at h;show(if g=f then _ else _)=_
  rw [if_neg λe=>h.1 e.symm,a9R h.2];rfl
section
variable {X:Cx}
end
section
variable {P:AJ}{w:AI}{K:AE}{mg:Str->Option AA}{base:Heap}
def Dm(K:AE)(x qual:Str)(st:Stmt)(f:AB):Prop:=PySem.W.isFn K (.ref f)=true/\∃fd,Fun K x qual st f fd
theorem c0E{x qual:Str}{st:Stmt}{f:AB}{oc:AA}{od an:Option AB}{osl:Array (Option AA)}{kV doc pm cdv ct:AA}
 (l:K.lookup f=ξ ⟨oc,od,.func (PySem.W.fnOf x qual (O2 st) (A6 st) (c7 st) .none kV doc pm an cdv ct),osl⟩) (c:PySem.W.codeIn K cdv qual=true) (k:PySem.W.keepIn K (.ref f)=true) (i:PySem.W.isFn K (.ref f)=true):Dm K x qual st f:=⟨i,_,b4e l c k⟩
end
section
variable {X:Cx}
end
def c0A(st:Stmt)(j:Nat):Stmt:=match st with
 | .ClassDef _ _ _ body _ _ _ _ _ _ _=>body.getD j st
 |_=>st
def tXS(K:Frag)(t:TA):TS:=λD σ H=>t σ H λvs H1=>∃a C dd ws,vs= .ref a::ws/\ws.length<=AM/\a6w K C/\H1 a=ξ (.ext (XQ a C dd))/\D.nx σ H1
def sX(K:Frag)(ta tv:TE)(f:Str):TS:=λD σ H=>tv σ H λy H1=>ta σ H1 λx H2=>∃a C,x= .ref a/\a6w K C/\Y8 K C f/\
 ((H2 a=ξ (.ext (XQ a C ζ))/\∀d,d≠a->H2 d=ζ->D.nx σ (i7 (i7 H2 d (.ext (XD d [(f,y)]))) a (.ext (XQ a C (ξ d)))))\/
  ∃d fs,H2 a=ξ (.ext (XQ a C (ξ d)))/\H2 d=ξ (.ext (XD d fs))/\fs.length<1000/\D.nx σ (i7 H2 d (.ext (XD d (a3N f y fs)))))
section
variable {X:Cx}
theorem b5m{CE:AB}{x:Str}{np apos cpos pos:Pos}{e:AG}{es:List AG}{t:TA}{pl:Sem Bool}(hg:Gl X x)(hm:X.mg x=ξ (.ref CE))(hr:readsIn X.K CE (.type "type")=true)
 (hf:findCls X.K (.ref CE) (.type "type") "__init__"=ξ (.val (.builtin "ValueError.__init__"))) (hs:specialIn X.K (.ref CE) "__getattribute__"=ξ (ξ (.builtin "type.__getattribute__"))) (ha:PA X (e::es) t)
 (hsw:swapsWith (.Call (.Attribute (.Name x np) "__init__" apos) (e::es) [] cpos) ζ pos.line X.env=pure false:=by rfl)
 (hdb:(x==("__debug__":Str))=false:=by decide) (he:AL (e::es) X.env=(false,eval e X.env)::AL es X.env:=by rfl) (hpl:(backTo cpos (AL es X.env)).any (·.1)=false:=by rfl)
 (ht:eval (.Call (.Attribute (.Name x np) "__init__" apos) (e::es) [] cpos) X.env=(do
  let ov<-eval (.Name x np) X.env
  standAt apos.atName
  let (f,first)<-holding [ov] (getMethod ov "__init__" pl)
  callWith cpos f first (backTo cpos (AL (e::es) X.env)) (backToKw cpos (keywordEach [] X.env))):=by rfl):
 PS X (.Expr (.Call (.Attribute (.Name x np) "__init__" apos) (e::es) [] cpos) pos) (tXS X.K t):=by
 have h1:PE X (.Call (.Attribute (.Name x np) "__init__" apos) (e::es) [] cpos) (λσ H Q=>t σ H λvs H1=>∃a C dd ws,vs= .ref a::ws/\ws.length<=AM/\a6w X.K C/\H1 a=ξ (.ext (XQ a C dd))/\Q .non H1):=by
  intro pins s σ H Q I h;refine methodCall_KW (pl:=pl) (Y4 I hg hm ?_ hdb) ht;refine method_cls I.kIn hs (cls_value I.kIn hr hf rfl ?_);refine PyProof.Rows.callWith_builtin1 (C8 (ha cpos pins _ σ H _ (I.tok _) h) λus s1 ⟨vs,H1,I1,r1,a,C,dd,ws,ev,hl,cx,ea,q⟩=> ?_) he hpl;subst ev;cases r1 with
  |cons r1 r2=>
   cases r1;exact b6a I1 (by rw [<-r2.length];exact hl) cx ea λs' I'=>⟨.non,H1,I',rfl,q⟩
 exact a8u h1 hsw
theorem b7k{o value:AG}{f:Str}{ta tv:TE}{pos pos':Pos}(hx0:X.ex=[])(ha:PE X o ta)(hv:PE X value tv)(hs:swapsWith value (ξ (.Attribute o f pos')) pos.line X.env=pure false:=by rfl):PS X (.Assign [.Attribute o f pos'] value pos) (sX X.K ta tv f):=by
 intro pins s σ H D I h;refine plainObj_wpAny_Assign_Attribute (C8 (hv pins s σ H _ I h) λu s1 h0=>j5 h0 λy H1 I1 ry q=>C8 (ha pins s1 σ H1 _ I1 q) λov s2 ⟨x,H2,I2,rx,a,C,ex,cx,n,q2⟩=> ?_) hs;subst ex;obtain rfl:ov=Value.ref a:=rx;rcases q2 with⟨e,q2⟩|⟨d,fs,e,ed,hl,q2⟩
 ·exact b1h I2 hx0 cx n e ry λs3 d h1 h2 I3=>⟨σ,_,I3,q2 d h1 h2⟩
 ·exact b3r I2 cx n e ed hl ry λs3 I3=>⟨σ,_,I3,q2⟩
end
def tVs:Nat->Nat->TA
 |_,0=>b7D
 |i,n+1=>a97 (C7 i) (tVs (i+1) n)
theorem b2d{σ:L2.St}{H:Hp}:∀(n i:Nat) (ws:List V) (Q:List V->Hp->Prop),ws.length=n->(∀j w,ws[j]?=ξ w->σ[i+j]?=ξ (ξ w))->Q ws H->tVs i n σ H Q
 |0,_,ws,Q,h,_,q=>by cases ws with
  |nil=>exact q
  |cons _ _=>cases h
 |n+1,i,ws,Q,h,hs,q=>by
  cases ws with
  |nil=>cases h
  |cons w ws=>
   exact⟨w,hs 0 w rfl,b2d n (i+1) ws _ (Nat.succ.inj h) (λj u hj=>by
    have:=hs (j+1) u (by simpa using hj)
    rwa [show i+(j+1)=i+1+j by lia] at this) q⟩
def tXl(K:Frag):Nat->List Str->TS
 |_,[]=>b8k
 |i,f::r=>b5L (sX K (C7 0) (C7 i) f) (tXl K (i+1) r)
theorem b2e{K:Frag}{C:AB}(c:a6w K C){a d:AB}{D:N5}{σ:L2.St}(h0:σ[0]?=ξ (ξ (.ref a))):∀(fs:List Str) (i:Nat) (gs:List (Str×V)) (ws:List V) (H:Hp),
 (∀f∈fs,Y8 K C f)->fs.Nodup->(∀f∈fs,f∉gs.map (·.1))->gs.length+fs.length<=1000->ws.length=fs.length->(∀j w,ws[j]?=ξ w->σ[i+j]?=ξ (ξ w))->d≠a->H a=ξ (.ext (XQ a C (ξ d)))->H d=ξ (.ext (XD d gs))->
 D.nx σ (i7 H d (.ext (XD d (gs++fs.zip ws))))->tXl K i fs D σ H
 |[],i,gs,ws,H,_,_,_,_,_,_,_,_,hH,k=>by
  rw [List.zip_nil_left,Ad,b5V hH] at k;exact k
 |f::fs,i,gs,ws,H,hn,nd,hd,hl,hw,hs,hda,ha,hH,k=>by
  cases ws with
  |nil=>cases hw
  |cons w ws=>
   have hl':gs.length+(fs.length+1)<=1000:=hl;refine⟨w,hs 0 w rfl,.ref a,h0,a,C,rfl,c,hn f Af,.inr ⟨d,gs,ha,hH,by lia, ?_⟩⟩
   have hp:=a9R (v:=w) (hd f Af);rw [hp];rw [List.nodup_cons] at nd;refine b2e c h0 fs (i+1) (gs++[(f,w)]) ws _ (λg hg=>hn g (Ae _ hg)) nd.2 (λg hg=> ?_) (by simp only [Am,AY,Aw];lia) (Nat.succ.inj hw) (λj u hj=> ?_) hda (by rw [a9 (Ne.symm hda)];exact ha) c8 ?_
   ·simp only [BD,AQ,Aq,Ar,List.mem_singleton,not_or];exact⟨hd g (Ae _ hg),λe=>nd.1 (e▸hg)⟩
   ·have:=hs (j+1) u (by simpa using hj)
    rwa [show i+(j+1)=i+1+j by lia] at this
   ·rw [a4L,List.append_assoc];exact k
def b7A(C:AB)(fs:List Str):Sp:=λvs H Q _=>∃a ws,vs= .ref a::ws/\ws.length=fs.length/\H a=ξ (.ext (XQ a C ζ))/\∀d,d≠a->H d=ζ->Q .non (i7 (i7 H d (.ext (XD d (fs.zip ws)))) a (.ext (XQ a C (ξ d))))
theorem b6E{P:AJ}{w:AI}{K:Frag}{mg:Str->Option AA}{base:Heap}{qual:Str}{st:Stmt}{f C:AB}{fd:FuncData}{ps:List Str}{f0:Str}{fs:List Str}{k:Nat}(F:Fun K "__init__" qual st f fd)(S:g6 ps ps (c7 st))(hl:ps.length=fs.length+2)
 (c:a6w K C) (na:∀f∈f0::fs,Y8 K C f) (nd:(f0::fs).Nodup) (hs:fs.length<=900)
 (hb:∀(cdv:AA) (A:AK) (outer:List Env) (s:AC) (H:Hp) (E:XK),D2 k (A.deeper (envOfC qual (c7 st) s.heap.objs.size f cdv))->PSs (a1a CX0 P w K mg base ps qual (c7 st) f cdv A outer s H E).nox (A6 st) (b5L (tXS K (tVs 0 (fs.length+2))) (tXl K 1 (f0::fs)))):
 P5 P w K mg base CX0 (k+1) f fd ps (b7A C (f0::fs)):=by
 refine F.ok S (λvs H Q E h=> ?_) (λcdv A outer s H vs Q E hr h=> ?_)
 ·obtain⟨a,ws,rfl,h2,_⟩:=h
  rw [AY,h2,hl];rfl
 ·obtain⟨a,ws,rfl,h2,hH,q⟩:=h
  refine⟨_,hb cdv A outer s H E hr, ?_⟩
  have at_:∀j u,(V.ref a::ws)[j]?=ξ u->(a0r ps (V.ref a::ws))[0+j]?=ξ (ξ u):=λj u hj=>by
   unfold L2.a0r;rw [Nat.zero_add,At (by rw [AV];exact(Ah.mp hj).1),Ag,hj]
   rfl
  have hw:ws.length=fs.length+1:=h2
  unfold b5L tXS
  refine b2d (σ:=a0r ps (V.ref a::ws)) (H:=H) (fs.length+2) 0 (V.ref a::ws) _ (by rw [AY,hw]) at_ ?_
  refine⟨a,C,ζ,ws,rfl,by rw [sizeLine_eq];lia,c,hH, ?_⟩
  cases ws with
  |nil=>cases hw
  |cons w1 ws=>
   rw [List.nodup_cons] at nd
   refine⟨w1,at_ 1 w1 rfl,.ref a,at_ 0 _ rfl,a,C,rfl,c,na f0 Af,.inl ⟨hH,λd h1 h3=> ?_⟩⟩
   refine b2e (d:=d) c (at_ 0 _ rfl) fs 2 [(f0,w1)] ws _ (λg hg=>na g (Ae _ hg)) nd.2 (λg hg z=>nd.1 (by have e:g=f0:=List.mem_singleton.mp z;rw [<-e];exact hg)) (by simp only [AY,Aw];lia) (Nat.succ.inj hw) (λj u hj=> ?_) h1 c8 (by rw [a9 h1,c8]) ?_
   ·have:=at_ (j+2) u (by simpa using hj)
    rwa [show 0+(j+2)=2+j by lia] at this
   ·rw [b0a (Ne.symm h1),a4L]
    exact q d h1 h3
def rem(H:Hp)(a:AB):Hp:=λb=>if b=a then ζ else H b
theorem a9T{H:Hp}{a:AB}:rem H a a=ζ:=by unfold rem;rw [if_pos rfl]
theorem a2x{H:Hp}{a b:AB}(h:b≠a):rem H a b=H b:=by unfold rem;rw [if_neg h]
section
variable {X:Cx}{pins:List (AB×Obj)}{σ:L2.St}{H:Hp}{s:AC}
theorem _root_.L2.e9.untrack{a:AB}{φ:Heap->Prop}(I:e9 X pins σ H s)(e:H a=ξ (.ext φ)):e9 X pins σ (rem H a) s:=by
 have no:∀b u,H b=ξ u->(∀φ,u≠.ext φ)->b≠a:=λb u q n z=>by
  rw [z,e] at q;cases q;exact n φ rfl
 have dn:∀b,H b=ζ->rem H a b=ζ:=λb h=>by
  by_cases hb:b=a
  ·rw [hb,a9T]
  ·rw [a2x hb];exact h
 exact⟨I.ok,I.os,I.bare,⟨I.base.keep,I.base.slot,λb ob q n hx=>dn b (I.base.free b ob q n hx),I.base.there,
  λb xs q=>by have:=I.base.tups b xs q;rw [a2x (no b _ this λ_ z=>nomatch z)];exact this,
  λb ob u q=>by have:=I.base.frzs b ob u q;rw [a2x (no b _ this λ_ z=>nomatch z)];exact this,
  λb ps q=>by obtain⟨more,this⟩:=I.base.tbls b ps q;exact⟨more,by rw [a2x (no b _ this λ_ z=>nomatch z)];exact this⟩⟩,
  I.loc,I.cell,dn _ I.free,λx c q=>dn _ (I.freeC x c q),λp hp=>by
   obtain⟨h1,h2,h3⟩:=I.pin p hp;exact⟨h1,dn _ h2,h3⟩,λb u q=>by
   by_cases hb:b=a
   ·rw [hb,a9T] at q;cases q
   ·rw [a2x hb] at q;exact(I.hok b u q).stay (λc v _ z=>z) (λc z=>by rw [a2x (no c _ z λ_ y=>nomatch y)];exact z) λc xs z=>by rw [a2x (no c _ z λ_ y=>nomatch y)];exact z,I.len⟩
end
theorem b0Y{K:Frag}{h:Heap}{N:AB}{mg:Str->Option AA}{n:Str}{v:AA}(X:K.In h)(G:h.Ns N mg)(e:nsIn K N n=ξ (ξ v)):mg n=ξ v:=by
 obtain⟨o,es,ep,ho,hd,_,hf⟩:=G;unfold nsIn at e;split at e
 ·rename_i c d es' n' sl q;have:=X _ _ q;rw [ho] at this;cases this;cases hd;split at e
  ·rename_i en he;cases e;rw [<-hf];unfold nsFind findBy;rw [<-Array.find?_toList,he]
   rfl
  ·split at e<;>cases e
 ·cases e
def a5g(K:Frag)(C f:AB):Bool:=b39 K C λns=>nsOkIn K ns && nsIn K ns "__init__"==ξ (ξ (.ref f))
theorem b7R{K:Frag}{h:Heap}{C f:AB}(X:K.In h)(q:a5g K C f=true):∃tl N nm q bs hdct sn sub ab col dd k0 k1 k2 k3 k5,
 h.get? C=ξ (excClassObj nm q C N bs tl hdct sn sub ab col dd k0 k1 k2 k3 k5 "ValueError.__new__")/\h.Ns N (h.nsMap N)/\h.nsMap N "__init__"=ξ (.ref f)/\OwnTail h a6K tl:=by
 obtain⟨tl,N,nm,q,bs,hdct,sn,sub,ab,col,dd,k0,k1,k2,k3,k5,h1,h2,h3⟩:=b1w X q
 rw [Bool.and_eq_true] at h3
 have h5:=Heap.Ns.of_isNs (isNs_of_in X h3.1)
 exact⟨tl,N,nm,q,bs,hdct,sn,sub,ab,col,dd,k0,k1,k2,k3,k5,h1,h5,b0Y X h5 (beq_iff_eq.mp h3.2),h2⟩
theorem b8U{K:Frag}{f:AB}(h:PySem.W.isFn K (.ref f)=true):∃o,K.lookup f=ξ o/\o.cls= .type "function":=by
 have h:(K.lookup f).map (·.cls)=ξ (.type "function"):=beq_iff_eq.mp h;obtain⟨o,h1,h2⟩:=Option.map_eq_some_iff.mp h;exact⟨o,h1,h2⟩
section
variable {X:Cx}{x:Str}{C:AB}{np cpos pos:Pos}{e₀:AG}{rest:List AG}{t:TA}{W:Option AB->Hp->Prop}
theorem b3a{k:Nat}{f:AB}{fd:FuncData}{ps:List Str}{f0:Str}{fs:List Str}(G:P5 X.prog X.w X.K X.mg X.base CX0 k f fd ps (b7A C (f0::fs)))(hr:D2 (k+1) X.A)(hb:a0a X.K fd ps [])(hi:a5g X.K C f=true)(hfn:PySem.W.isFn X.K (.ref f)=true)
 (hc:X.calm=true) (hx0:X.ex=[]) (hg:Gl X x) (hm:X.mg x=ξ (.ref C)) (ha:PA X (e₀::rest) t)
 (hxe:∀(pins:List (AB×Obj)) (σ:L2.St) (H:Hp) (s:AC) (a:AB) (dd:Option AB),e9 X pins σ H s->Ex0 s.heap a C dd->X.s₀.heap.get? a=ζ->H a=ζ->W dd H->X.xe (.ref a) s)
 (he:AL (e₀::rest) X.env=(false,eval e₀ X.env)::AL rest X.env:=by rfl) (hplain:(backTo cpos (AL rest X.env)).any (·.1)=false:=by rfl) (hdb:(x==("__debug__":Str))=false:=by decide):
 PS X (.Raise (ξ (.Call (.Name x np) (e₀::rest) [] cpos)) ζ pos) (λ_ σ H=>t σ H λvs H1=>vs.length=fs.length+1/\vs.length<=AM/\∀d,H1 d=ζ->W (ξ d) (i7 H1 d (.xd ((f0::fs).zip vs)))):=by
 intro pins s σ H D I h
 obtain⟨tl,N,nm,q,bs,hdct,sn,sub,ab,col,dd,k0,k1,k2,k3,k5,hC,hN,hni,T⟩:=b7R I.ok.mod.kin hi
 obtain⟨oI,hoI,hfc⟩:=b8U hfn
 have FB:=F.excBase_ValueError
 refine a9S (C:=C) (nm:=nm) (q:=q) (N:=N) (bs:=bs) (bm:=tl) (hdct:=hdct) (sn:=sn) (sub:=sub) (ab:=ab) (col:=col) (dd:=dd) (k0:=k0) (k1:=k1) (k2:=k2) (k3:=k3) (k5:=k5)
  FB (T.hasType FB.hasBase) (I.ok.hd hc) (by rw [he];show(false||(backTo cpos (AL rest X.env)).any (·.1))=false;rw [hplain];rfl) hni hfc (Y4 I hg hm ⟨rfl, ?_⟩ hdb)
 have hA:=ha cpos pins s σ H _ I h
 rw [he] at hA ⊢
 refine Calls.evalArgs_plain (C8 hA λus s2 ⟨vs,H2,I2,r2,hlen,hl,q2⟩=>⟨rfl,by rw [<-r2.length];exact hl,I2.bk _ _ hC,hN.keeps I2.bk,T.keeps I2.bk,I2.kIn _ _ hoI,λh' e hmk=> ?_⟩)
 obtain⟨tt,h1,_,_⟩:=hmk.there
 have hn:H2 e=ζ:=by
  cases h:H2 e with
  |none=>rfl
  |some o=>
   obtain⟨ob,z⟩:=b0h (I2.hok e o h);rw [hmk.new] at z;cases z
 have ap:Ap X pins e:=apart I2 hx0 hmk.new
 have I3:e9 X pins σ H2 {s2 with heap:=h'}:=I2.kept (t':=s2.toks) hmk.keeps
 have I4:=I3.track (o:= .ext (XQ e C ζ)) hn ap (XQ.ok ⟨tt,h1⟩)
 have r4:j4 (V.ref e::vs) (Value.ref e::us):= .cons rfl r2
 have sp:b7A C (f0::fs) (V.ref e::vs) (i7 H2 e (.ext (XQ e C ζ))) (λv H3=>v= .non/\∃d,d≠e/\H2 d=ζ/\H3=i7 (i7 (i7 H2 e (.ext (XQ e C ζ))) d (.ext (XD d ((f0::fs).zip vs)))) e (.ext (XQ e C (ξ d)))) (λ_ _ _=>False):=
  ⟨e,vs,rfl,hlen,c8,λd h1 h2=>⟨rfl,d,h1,by rw [a9 h1] at h2;exact h2,rfl⟩⟩
 have hps:(Value.ref e::us).length=ps.length:=by rw [<-r4.length];exact G.len _ _ _ _ sp
 have hb':=hb {s2 with heap:=h'} (Value.ref e::us) I4.kIn (by rw [Ad];exact hps)
 rw [Ad] at hb'
 refine wpAny_call (codeAny_mono (G.run _ X.stack _ _ ⟨Value.ref e::us,[]⟩ (Value.ref e::us) _ _ (λ_ _ _=>False) (hr.make C us []) (I4.env0.make C us []) hb' r4 sp) λr s' hq'=> ?_)
 cases r with
 |error e=>exact a7s pins σ _ _ e s' I4 hq'
 |ok fl=>
  cases fl with
  |ret u=>
   obtain⟨v,H',I5,rv,ev,d,hde,hd2,eH⟩:=I4.after hq'
   subst ev
   subst eH
   have e5:i7 (i7 (i7 H2 e (.ext (XQ e C ζ))) d (.ext (XD d ((f0::fs).zip vs)))) e (.ext (XQ e C (ξ d))) d=ξ (.ext (XD d ((f0::fs).zip vs))):=by rw [a9 hde,c8]
   obtain⟨t2,h2⟩:=(I5.hok e _ c8).1
   obtain⟨mA,hns,rel,_⟩:=(I5.hok d _ e5).1
   have I6:=I5.write (x:=d) (e:=d) (o:= .xd ((f0::fs).zip vs)) (h':=s'.heap) (t':=s'.toks) (by rw [e5];trivial) (.inl rfl) (λb u hb z=>z) (let ⟨o,_,_,z,_⟩:=hns;⟨o,z⟩) ⟨mA,hns,rel⟩
   have I7:=I6.untrack (a:=e) (φ:=XQ e C (ξ d)) (by rw [a9 (Ne.symm hde),c8])
   have eq:rem (i7 (i7 (i7 (i7 H2 e (.ext (XQ e C ζ))) d (.ext (XD d ((f0::fs).zip vs)))) e (.ext (XQ e C (ξ d)))) d (.xd ((f0::fs).zip vs))) e=i7 H2 d (.xd ((f0::fs).zip vs)):=by
    funext b
    unfold rem i7
    by_cases hb:b=e
    ·rw [if_pos hb,if_neg (by rw [hb];exact Ne.symm hde),hb,hn]
    ·rw [if_neg hb]
     by_cases hb2:b=d
     ·rw [if_pos hb2,if_pos hb2]
     ·rw [if_neg hb2,if_neg hb2,if_neg hb,if_neg hb2,if_neg hb]
   rw [eq] at I7
   refine⟨rv,I5.bk _ _ hC,⟨_,_,h2,rfl,rfl,rfl⟩, ?_⟩
   exact hxe pins σ _ s' e (ξ d) I7 ⟨_,_,h2,rfl,rfl,rfl,rfl⟩ ap.1 (by rw [a9 (Ne.symm hde)];exact hn) (q2 d hd2)
  |next=>exact False.elim hq'
  |brk=>exact False.elim hq'
  |cont=>exact False.elim hq'
end
def b6e(P:AJ)(w:AI)(K:Frag)(mg:Str->Option AA)(base:Heap)(x:Str)(fs:List Str)(k:Nat):Prop:=
 ∃C f fd ps f0 r,fs=f0::r/\fs.length<=900/\P5 P w K mg base CX0 k f fd ps (b7A C (f0::r))/\mg x=ξ (.ref C)/\a0a K fd ps []/\a5g K C f=true/\PySem.W.isFn K (.ref f)=true
def b1T(x:Str)(fs:List Str)(m:MA):MX:=λρ=>(m ρ).bind λqs=>ξ (.rz ⟨x,c0u fs qs⟩ ρ)
section
variable {X:Cx}
theorem b2D{E1:XK}{k k':Nat}{fs:List Str}{x:Str}{np cpos pos:Pos}{e₀:AG}{rest:List AG}{m:MA}(hc:X.calm=true)(hx0:X.ex=[])(hg:Gl X x)(d:b6e X.prog X.w X.K X.mg X.base x fs k)(hr:D2 k' X.A)(hk:k+1<=k')(hn:∀ρ qs,m ρ=ξ qs->qs.length=fs.length)(ha:EA X (e₀::rest) m)
 (hxe:∀(pins:List (AB×Obj)) (σ:L2.St) (H:Hp) (s:AC) (a C:AB) (dd:Option AB),e9 X pins σ H s->Ex0 s.heap a C dd->X.s₀.heap.get? a=ζ->H a=ζ->E1 (.ref C) dd H->X.xe (.ref a) s)
 (he:AL (e₀::rest) X.env=(false,eval e₀ X.env)::AL rest X.env:=by rfl) (hplain:(backTo cpos (AL rest X.env)).any (·.1)=false:=by rfl) (hdb:(x==("__debug__":Str))=false:=by decide):
 EX X (λ_=>E1) (.Raise (ξ (.Call (.Name x np) (e₀::rest) [] cpos)) ζ pos) (b1T x fs m):=by
 obtain⟨C,f,fd,ps,f0,r,rfl,hl,G,hm,hb,hi,hfn⟩:=d
 refine C6 (b3a (W:=λdd H=>E1 (.ref C) dd H) G (hr.mono hk) hb hi hfn hc hx0 hg hm ha (λpins σ H s a dd I x h0 hn w=>hxe pins σ H s a C dd I x h0 hn w) he hplain hdb) λD σ H h0=>a8E h0 λF0 H0 F ρ fx so e fin=> ?_
 obtain⟨qs,e1,e⟩:=bind_some e
 cases e
 obtain⟨C',h1,h2⟩:=fin
 have h1:X.mg x=ξ (.ref C'):=h1
 rw [hm] at h1
 cases h1
 refine⟨F,ρ,qs,so.e,e1,λvs F1 H1 y rl=> ?_⟩
 have hq:=hn _ _ e1
 have hv:vs.length=r.length+1:=by rw [rl.length,hq];rfl
 have hl':r.length+1<=900:=hl
 refine⟨hv,by rw [hv,sizeLine_eq];lia,λd hd=> ?_⟩
 have x3:R5 F1 H1 (i7 F1 d (.xd ((f0::r).zip vs))) (i7 H1 d (.xd ((f0::r).zip vs))):=R5.lay y.fh hd
 refine h2 σ (ξ d) _ _ (y.trans x3).f (so.ext (y.trans x3)) (.inr ⟨d,_,rfl,c8, ?_,a02.mono x3.f _ (a9W rl)⟩)
 cases qs with
 |nil=>cases hq
 |cons q qs=>intro z;cases z
end
def a6U(K:Frag)(tab:List Str)(f:Str):Prop:=∀x,tab.contains x=true->∀C,N6 K x C->a6w K C/\Y8 K C f
def gFx(tab:List Str)(f:Str)(r:d7):Option d7:=match r with
 | .v (.dict ((.str x,.int 0)::es))=>if tab.contains x=true then(b2F f es).map .v else ζ
 |_=>ζ
theorem c1x{K:Frag}{F:Hp}{x:Str}{es:List (PV×PV)}{v:V}(h:A5 K F (.dict ((.str x,.int 0)::es)) v):∃(a C dx:AB) (φ:Heap->Prop) (fs:List (Str×V)),v= .ref a/\F a=ξ (.ext φ)/\(∀h:Heap,φ h->∃oe vs,h.get? a=ξ oe/\oe.cls= .ref C/\oe.data= .fields vs/\oe.dict=ξ dx)/\F dx=ξ (.xd fs)/\N6 K x C/\a02 K F es fs:=by
 rcases h with⟨a,ys,_,_,kk,w,t,_,z,_⟩|⟨a,ys,_,_,kk,w,t,_,z,_⟩|⟨y,t,e,h⟩|⟨y,m,fs,ho,hf⟩
 ·cases z
 ·cases z
 ·cases e;rcases h with⟨z,_⟩|⟨z,_⟩<;>cases z
 ·obtain⟨g,v',t,e,z,r,rt⟩:=hf;cases e;cases z;rcases ho with⟨rfl,_⟩|⟨rfl,a,C,dx,φ,e,q,k,d,n⟩
  ·cases r
  ·exact⟨a,C,dx,φ,fs,e,q,k,d,n,rt⟩
section
variable {X:Cx}
theorem b73{tab:List Str}{f:Str}{e:AG}{m:M}{pos:Pos}(T:a6U X.K tab f)(ha:EE X e m)(hb:attributeBase e f X.env (eval e X.env)=eval e X.env:=by rfl):EE X (.Attribute e f pos) (m1 (gFx tab f) m):=by
 have h0:PE X (.Attribute e f pos) (λσ H Q=>tM X.K m σ H λv H1=>∃F1 x es q,g8 F1 H1/\A5 X.K F1 (.dict ((.str x,.int 0)::es)) v/\tab.contains x=true/\b2F f es=ξ q/\∀u,A5 X.K F1 q u->Q u H1):=by
  intro pins s σ H Q I h;refine b6i hb (C8 (ha pins s σ H _ I h) λu s1 ⟨v,H1,I1,rx,F1,x,es,q,sm,rp,hc,hp,k⟩=> ?_);obtain⟨a,C,dx,φ,fs,rfl,q1,k1,d1,nm,hr⟩:=c1x rp;obtain rfl:u=Value.ref a:=rx;obtain⟨oe,vs,g1,g2,g3,g4⟩:=k1 _ (I1.hok a _ (sm _ _ q1)).1;obtain⟨mA,hns,rel⟩:=I1.hok dx _ (sm _ _ d1);obtain⟨v2,hl,rv⟩:=b1z hr hp;obtain⟨cx,n⟩:=T x hc C nm;obtain⟨u2,hu,ru⟩:=a2H.some_of (v:=v2) (o:=mA f) (by rw [<-hl];exact rel f)
  exact c1C I1.kIn g1 g2 g4 ⟨vs,g3⟩ hns cx.ov n cx.ga cx.gg hu (b2J ru) ⟨v2,H1,I1.tok _,ru,k v2 rv⟩
 exact m6 h0 λσ H Q h0=>k4 h0 λF ρ r en em k=>by
  obtain⟨rx,e1,e2⟩:=bind_some em;refine⟨F,ρ,rx,en,e1,λv F1 H1 o=> ?_⟩;unfold gFx at e2;split at e2
  ·rename_i x es;split at e2
   ·rename_i hc;cases hp:b2F f es with
    |none=>rw [hp] at e2;cases e2
    |some q=>
     rw [hp] at e2;cases e2;exact⟨F1,x,es,q,o.x.fh,o.rep,hc,hp,λu ru=>k u F1 H1 (o9.val o.x ru)⟩
   ·cases e2
  ·cases e2
end
structure KX(K:Frag)(x:Str)(C:AB):Prop where
 cls:a6w K C
 named:N6 K x C
def b9a(K:Frag)(C:AB):Bool:=a3q K C && findIn K (.ref C) "__setattr__"==ξ (ξ (.builtin "object.__setattr__"))&& findIn K (.ref C) "__getattribute__"==ξ (ξ (.builtin "BaseException.__getattribute__"))&& findIn K (.ref C) "__getattr__"==ξ ζ && a6G K C
theorem c0R{K:Frag}{x:Str}{C:AB}(e:nsIn K mainGlobals x=ξ (ξ (.ref C)))(q:(a2s K C x && b9a K C)=true):KX K x C:=by
 rw [Bool.and_eq_true] at q;obtain⟨q1,q2⟩:=q;unfold b9a at q2;simp only [Bool.and_eq_true,beq_iff_eq] at q2;obtain⟨⟨⟨⟨h1,h2⟩,h3⟩,h4⟩,h5⟩:=q2;refine⟨⟨h1,h2,h3,h4,h5⟩,e, ?_⟩;unfold a2s at q1;split at q1
 ·rename_i oc od cd sl hk;exact⟨oc,od,cd,sl,hk,beq_iff_eq.mp q1⟩
 ·cases q1
theorem b2I{K:Frag}{f:Str}:a6U K [] f:=λ_ h=>nomatch h
theorem b0x{K:Frag}{f x:Str}{C:AB}{t:List Str}(c:KX K x C)(n:Y8 K C f)(h:a6U K t f):a6U K (x::t) f:=λy q D nm=>by
 rw [List.contains_cons,Bool.or_eq_true] at q;rcases q with q|q
 ·rw [beq_iff_eq.mp q] at nm;cases nm.uniq c.named;exact⟨c.cls,n⟩
 ·exact h y q D nm
section
variable {P:AJ}{w:AI}{K:Frag}{mg:Str->Option AA}{base:Heap}
theorem b4r{x qual:Str}{st:Stmt}{ps:List Str}{f0:Str}{fs:List Str}{k:Nat}{f C:AB}(D:Dm K "__init__" qual st f)(S:g6 ps ps (c7 st))(hl:ps.length=fs.length+2)(c:KX K x C)(hm:mg x=ξ (.ref C))(hi0:a5g K C f=true)(na:∀f∈f0::fs,Y8 K C f)(nd:(f0::fs).Nodup)(hs:fs.length<=800)
 (hi:∀(kV doc pm:AA) (an:Option AB) (cdv ct:AA) (us:List AA),us.length=ps.length->bindArgs (PySem.W.fnOf "__init__" qual (O2 st) (A6 st) (c7 st) .none kV doc pm an cdv ct) ⟨us,[]⟩=pure (ps.zip us))
 (hb:∀(cdv:AA) (A:AK) (outer:List Env) (s:AC) (H:Hp) (E:XK),D2 k (A.deeper (envOfC qual (c7 st) s.heap.objs.size f cdv))->PSs (a1a CX0 P w K mg base ps qual (c7 st) f cdv A outer s H E).nox (A6 st) (b5L (tXS K (tVs 0 (fs.length+2))) (tXl K 1 (f0::fs)))):
 b6e P w K mg base x (f0::fs) (k+1):=
 let ⟨i,fd,F⟩:=D
 ⟨C,f,fd,ps,f0,fs,rfl,by rw [AY];lia,b6E F S hl c.cls na nd (by lia) hb,hm,F.binds hi,hi0,i⟩
end
theorem b8A{K:Frag}{C:AB}{fs:List Str}(h:fs.all (λg=>findIn K (.ref C) g==ξ ζ)=true):∀g∈fs,Y8 K C g:=λg hg=>beq_iff_eq.mp (List.all_eq_true.mp h g hg)
section
variable {K:AE}{mg:Str->Option AA}{E:L2.St->XK}{F0 H0 F1:Hp}{body:MX}{tg:PV->b9->Option b9}{g:TG}{ps:List PV}{fl:FX}{D:N5}{k:Nat}{p:PV}{x:V}{σ σ0:L2.St}{H:Hp}
end
section
variable {X:Cx}{E:L2.St->XK}
end
def byT(w:AI):Bool:=w.params.followText "set-order"
def G0(prog:AJ)(w:AI)(h:Heap)(a:AB)(es:Array (Int×AA))(ep:Nat):Prop:=
 ∃o t,h.get? a=ξ o/\o.ExactSet/\o.data= .set es ep t/\ElemsOf (f9 prog w) es.toList/\es.size<scanBound/\t.fits es.size=true/\t.led= !byT w/\(es.size≠0->t.plain=false)
def sOf:AA->Str
 | .str x _=>x
 |_=>⟨#[]⟩
abbrev a5t(es:Array (Int×AA)):List Str:=es.toList.map λe=>sOf e.2
structure TxE(es:Array (Int×AA))(zs:List Str):Prop where
 all:∀e∈es.toList,∃x t,e.2= .str x t
 nd:(a5t es).Nodup
 mem:∀x,x∈a5t es↔x∈zs
theorem G0.at'{prog:AJ}{w:AI}{h h':Heap}{a:AB}{es:Array (Int×AA)}{ep:Nat}(x:G0 prog w h a es ep)(e:∀o,h.get? a=ξ o->h'.get? a=ξ o):G0 prog w h' a es ep:=
 let ⟨o,t,ho,r⟩:=x;⟨o,t,e _ ho,r⟩
theorem b0I(t:SetTable)(es:Array (Int×AA))(h:Int)(x:AA):(layNew t es h x).2.1.led=t.led:=by
 unfold layNew;split
 ·show(SetTable.orStandIn _ _).led=t.led;unfold SetTable.orStandIn;split<;>rfl
 ·rfl
theorem a8w(t:SetTable)(es:Array (Int×AA))(n:Nat):(relayAll t es n).2.1.led=t.led:=by
 unfold relayAll;split
 ·rename_i t' order e;unfold SetTable.relaid SetTable.laid at e;obtain⟨ow,e1,e2⟩:=bind_some e;cases e2;dsimp only;split<;>rfl
 ·rfl
theorem a5Z(t:SetTable)(es:Array (Int×AA))(n:Nat)(hp:t.plain=false):(relayAll t es n).2.1.plain=false:=by
 unfold relayAll;split
 ·rename_i t' order e;unfold SetTable.relaid SetTable.laid at e;obtain⟨ow,e1,e2⟩:=bind_some e;cases e2;dsimp only;split
  ·exact hp
  ·rfl
 ·rfl
section
variable {prog:AJ}{w:AI}{A:AK}{E:AA->AC->Prop}{s:AC}
theorem b2b{h:Heap}{a:AB}{o:Obj}{es:Array (Int×AA)}{ep:Nat}{t:SetTable}(ho:h.get? a=ξ o)(hex:o.ExactSet)(hd:o.data= .set es ep t)
 {es':Array (Int×AA)} {t':SetTable} (hel:ElemsOf (f9 prog w) es'.toList) (hb:es'.size<scanBound) (hf:t'.fits es'.size=true) (hl:t'.led= !byT w) (hp:t'.plain=false):
 (h.update a (Obj.putSet es' t')).get? a=ξ {o with data:= .set es' (ep+1) t'}/\G0 prog w (h.update a (Obj.putSet es' t')) a es' (ep+1):=by
 have hg:(h.update a (Obj.putSet es' t')).get? a=ξ {o with data:= .set es' (ep+1) t'}:=by
  have:=Heap.get?_update_self (Obj.putSet es' t') ho (by rw [putSet_of es' t' hd];rfl)
  rw [putSet_of es' t' hd] at this;exact this
 exact⟨hg,_,t',hg,hex,rfl,hel,hb,hf,hl,λ_=>hp⟩
theorem b5N{g:Bool->Sem Unit}(hg:∀(b:Bool) (s₁:AC) (Q':Unit->AC->Prop),Q' () s₁->AF (model prog w) A (g b) Q' E s₁)
 {a:AB} {o:Obj} {es:Array (Int×AA)} {ep:Nat} {t:SetTable} (ho:s.heap.get? a=ξ o) (hex:o.ExactSet) (hd:o.data= .set es ep t)
 {es1:Array (Int×AA)} {t2:SetTable} (hel1:ElemsOf (f9 prog w) es1.toList) (hb1:es1.size<scanBound) (hf2:t2.fits es1.size=true) (hl:t2.led= !byT w) (hpl:t2.plain=false) {wasDummy:Bool} {R:Option Bool->AC->Prop}
 (h:∀h' es' ep',Heap.SameBut a s.heap h'->es'.toList.Perm es1.toList->G0 prog w h' a es' ep'->R (ξ true) {s with heap:=h'}):
 AF (model prog w) A (do
  storeSet a es1 t2
  if(!wasDummy && t2.tooFull)=true then do
     g (relayAll t2 es1 (SetTable.grown es1.size)).2.2
     storeSet a (relayAll t2 es1 (SetTable.grown es1.size)).1 (relayAll t2 es1 (SetTable.grown es1.size)).2.1
     pure (ξ true)
   else pure (ξ true)) R E s:=by
 refine AD (wpAny_storeSet_of ho hd ?_ (fits_of_scanBound hb1))
 obtain⟨ho1,hS1⟩:=b2b (prog:=prog) (w:=w) ho hex hd hel1 hb1 hf2 hl hpl
 have hsb1:=Heap.SameBut.update s.heap a (Obj.putSet es1 t2)
 split
 ·have hp:=relayAll_perm t2 es1 (SetTable.grown es1.size)
  have hfr:=relayAll_fits t2 es1 (SetTable.grown es1.size)
  have hl2:=a8w t2 es1 (SetTable.grown es1.size)
  have hp2:=a5Z t2 es1 (SetTable.grown es1.size) hpl
  generalize hRl:relayAll t2 es1 (SetTable.grown es1.size)=Rl at hp hfr hl2 hp2 ⊢
  obtain⟨es2,t3,gave2⟩:=Rl
  dsimp only at hp hfr hl2 hp2 ⊢
  have hel2:ElemsOf (f9 prog w) es2.toList:=hel1.perm hp
  have hsz:es2.size=es1.size:=by rw [<-Array.length_toList,hp.length_eq,Array.length_toList]
  have hb2:es2.size<scanBound:=by rw [hsz];exact hb1
  refine AD (hg _ _ _ ?_)
  refine AD (wpAny_storeSet_of ho1 rfl ?_ (fits_of_scanBound hb2))
  obtain⟨_,hS2⟩:=b2b (prog:=prog) (w:=w) ho1 hex rfl hel2 hb2 hfr (hl2.trans hl) hp2
  exact AH (h _ _ _ (hsb1.trans (Heap.SameBut.update _ a _)) hp hS2)
 ·exact AH (h _ _ _ hsb1 (List.Perm.refl _) hS1)
theorem TxE.perm{es es':Array (Int×AA)}{zs:List Str}(p:es'.toList.Perm es.toList)(T:TxE es zs):TxE es' zs where
 all:=λe he=>T.all e (p.mem_iff.mp he)
 nd:=((p.map _).nodup_iff).mpr T.nd
 mem:=λx=>((p.map _).mem_iff).trans (T.mem x)
theorem c0x{a:AB}{es:Array (Int×AA)}{ep:Nat}{zs:List Str}{x:Str}{tk:Tok}{Q:Bool->AC->Prop}(hS:G0 prog w s.heap a es ep)(T:TxE es zs)(hroom:es.size+1<scanBound)
 (h:∀h' es' ep' b,Heap.SameBut a s.heap h'->G0 prog w h' a es' ep'->TxE es' (x::zs)->es'.size<=es.size+1->Q b {s with heap:=h'}):
 AF (model prog w) A (setAddHashed a (.str x tk) ((f9 prog w).hash (.inr x))) Q E s:=by
 obtain⟨o,t,ho,hex,hd,hel,hb,hf,hl,hpl⟩:=hS
 have hsc:(Value.str x tk).scannable=true:=rfl
 have hkey:(f9 prog w).is (.inr x) (.str x tk)=true:=N4 prog w x tk
 unfold setAddHashed setAddHashedIn
 refine wpAny_holding (AD (wpAny_setState_of ho hd hf ?_))
 dsimp only
 rw [byScan_of hsc hb hel]
 simp only [↓reduceIte]
 unfold setAddByScan
 refine AD ?_
 refine AD (wpAny_rule ?_)
 refine AD (wpAny_setScan_of hkey ho hd hf hel ?_)
 cases hr:List.findIdx? (λe=>(f9 prog w).is (.inr x) e.2) es.toList with
 |some j=>
  dsimp only
  obtain⟨hj,hpj,_⟩:=List.findIdx?_eq_some_iff_getElem.mp hr
  have hm:x∈a5t es:=by
   refine Ay.mpr ⟨es.toList[j],List.getElem_mem hj, ?_⟩;rcases u6 (show a2T (.inr x) es.toList[j].2=true from hpj) with⟨i,u,q,_⟩|⟨y,u,q,e2⟩
   ·exact nomatch q
   ·cases q;rw [e2];rfl
  refine AH (AH ?_)
  have e:s={s with heap:=s.heap}:=by cases s;rfl
  rw [e]
  exact h s.heap es ep false (Heap.SameBut.refl a s.heap) ⟨o,t,ho,hex,hd,hel,hb,hf,hl,hpl⟩ ⟨T.all,T.nd,λy=>by
   rw [T.mem y,AU];exact⟨.inr,λz=>z.elim (λz=>by rw [z];exact(T.mem x).mp hm) id⟩⟩ (Nat.le_succ _)
 |none=>
  dsimp only
  have hgw:∀(b:Bool) {s₁:AC} {Q':Unit->AC->Prop},Q' () s₁->AF (model prog w) A (match b with|true=>rule "set.scan.the-table-gave-way"|false=>pure ()) Q' E s₁:=
   λb s₁ Q' hq=>by cases b<;>first|exact AH hq|exact wpAny_rule hq
  have hperm:=layNew_perm t es ((f9 prog w).hash (.inr x)) (.str x tk)
  have hfits:=layNew_fits t es ((f9 prog w).hash (.inr x)) (.str x tk)
  have hled:=b0I t es ((f9 prog w).hash (.inr x)) (.str x tk)
  generalize hL:layNew t es ((f9 prog w).hash (.inr x)) (.str x tk)=L at hperm hfits hled ⊢
  obtain⟨es1,t1,wasDummy,gave⟩:=L
  dsimp only at hperm hfits hled ⊢
  rw [Array.toList_push] at hperm
  have hel1:ElemsOf (f9 prog w) es1.toList:=(hel.push hkey hsc).perm hperm
  have hb1':es1.size<scanBound:=by rw [<-Array.length_toList,hperm.length_eq,Am,Array.length_toList];simpa using hroom
  have hn:x∉a5t es:=λhm=>by
   obtain⟨e,he,e2⟩:=Ay.mp hm;obtain⟨y,u,ey⟩:=T.all e he;have:=List.findIdx?_eq_none_iff.mp hr e he;rw [ey] at e2 this;cases(show y=x from e2);rw [N4] at this;cases this
  have T1:TxE es1 (x::zs):=by
   refine⟨λe he=> ?_, ?_,λy=> ?_⟩
   ·rcases Ar.mp (hperm.mem_iff.mp he) with h|h
    ·exact T.all e h
    ·rw [List.mem_singleton] at h;subst h;exact⟨x,tk,rfl⟩
   ·refine((hperm.map _).nodup_iff).mpr ?_;rw [BD];refine List.nodup_append.mpr ⟨T.nd,by simp,λy hy z hz=> ?_⟩
    simp only [AQ,Aq,List.mem_singleton] at hz;intro e;subst e;subst hz;exact hn hy
   ·rw [(hperm.map _).mem_iff,BD,Ar,T.mem y,AU];simp only [AQ,Aq,List.mem_singleton];exact⟨λz=>z.elim .inr (λz=> .inl z),λz=>z.elim (λz=> .inr z) .inl⟩
  have hsz1:es1.size=es.size+1:=by rw [<-Array.length_toList,hperm.length_eq,Am,Array.length_toList];rfl
  refine AD (hgw _ ?_)
  have hend:∀h' es' ep',Heap.SameBut a s.heap h'->es'.toList.Perm es1.toList->G0 prog w h' a es' ep'->Q true {s with heap:=h'}:=λh' es' ep' hsb p hS'=>by
   refine h h' es' ep' true hsb hS' (T1.perm p) ?_;rw [<-Array.length_toList,p.length_eq,Array.length_toList,hsz1];exact AN _
  split
  ·rename_i hpt
   refine AD ?_
   rw [hashByValue_scannable 8 hsc]
   refine AH ?_
   have hpk:plainKind (Value.str x tk)=false:=rfl
   simp only [hpk,AX,↓reduceIte]
   refine b5N ?_ ho hex hd hel1 hb1' (SetTable.fits_plain_off hfits) (hled.trans hl) rfl ?_
   ·intro b s₁ Q' hq;cases b<;>first|exact AH hq|exact wpAny_rule hq
   ·intro h' es' ep' hsb p hS';dsimp only;exact AH (hend h' es' ep' hsb p hS')
  ·rename_i hpt
   refine AD (AH ?_)
   simp only [↓reduceIte]
   refine b5N ?_ ho hex hd hel1 hb1' hfits (hled.trans hl) (by simpa using hpt) ?_
   ·intro b s₁ Q' hq;cases b<;>first|exact AH hq|exact wpAny_rule hq
   ·intro h' es' ep' hsb p hS';dsimp only;exact AH (hend h' es' ep' hsb p hS')
end
set_option maxHeartbeats 3200000
def b3i(x:Str)(i:Nat):Str:=⟨#[x.cps.getD i 0]⟩
def sgs(x:Str)(i:Nat):List Str:=((AZ i).map (b3i x)).reverse
theorem b5B(x:Str)(i:Nat):sgs x (i+1)=b3i x i::sgs x i:=by simp [sgs,List.range_succ]
abbrev Y5(w:AI):Obj:={cls:= .type "set",dict:=ζ,data:= .set #[] 0 (.fresh 0 0 (!byT w))}
section
variable {prog:AJ}{w:AI}{A:AK}{E:AA->AC->Prop}{s:AC}
theorem b9b{R:Result->AC->Prop}{I:AB}{fp wr:List AB}{G:Array GenState->Array GenState->Prop}{n:Nat}{St:Nat->AC->Prop}{x:Str}
 (W:WalksS prog w A.in1 I fp wr G n (SignAt x) St) (S:AB) (hSf:S∉fp) (hb:n+1<scanBound):
 ∀(k i:Nat) (s:AC) (es:Array (Int×AA)) (ep:Nat),n - i=k->i<=n->St i s->G0 prog w s.heap S es ep->TxE es (sgs x i)->es.size<=i->
  (∀s' es' ep',Moved (S::wr) G s s'->G0 prog w s'.heap S es' ep'->TxE es' (sgs x n)->es'.size<=n->R (.ok (.ret .none)) s')->
  codeAny (model prog w) A (.builtin "set.update.loop" ⟨[.ref S,.ref I],[]⟩) R s:=by
 have hSw:S∉wr:=λh=>hSf (W.sub _ h)
 have hsub:∀b∈wr,b∈S::wr:=λb hb=>Ae _ hb
 intro k
 induction k with
 |zero=>
  intro i s es ep hk hi hst hS hT hz hR
  have hin:i=n:=by lia
  subst hin
  refine codeAny_builtin F.entry_set_update_loop ?_
  rw [Around.under_plainId F.plain_set_update_loop _]
  show AF _ A.in1 (pyNext (.ref I)>>=_) _ _ s
  refine AD (W.done s _ _ hst λs' hm=> ?_)
  show AF _ A.in1 (ret Value.none) _ _ s'
  exact AH (hR s' es ep (hm.mono hsub) (hS.at' λo e=>hm.heap S _ hSw e) hT hz)
 |succ k ih=>
  intro i s es ep hk hi hst hS hT hz hR
  have hlt:i<n:=by lia
  refine codeAny_builtin F.entry_set_update_loop ?_
  rw [Around.under_plainId F.plain_set_update_loop _]
  show AF _ A.in1 (pyNext (.ref I)>>=_) _ _ s
  refine AD (W.item i s _ _ hlt hst λv s' hP hst' hm=> ?_)
  obtain⟨c,u,hc,rfl⟩:=hP
  have hS':G0 prog w s'.heap S es ep:=hS.at' λo e=>hm.heap S _ hSw e
  have hsg:(⟨#[c]⟩:Str)=b3i x i:=by unfold b3i;rw [Array.getD_eq_getD_getElem?,hc];rfl
  show AF _ A.in1 (holding [Value.str ⟨#[c]⟩ u] (setAdd S (.str ⟨#[c]⟩ u))>>=_) _ _ s'
  refine AD (wpAny_holding ?_)
  unfold setAdd
  refine wpAny_holding ?_
  refine AD ((f9 prog w).pyHash (k:= .inr ⟨#[c]⟩) (N4 _ _ _ _) ?_)
  refine c0x (s:={s' with toks:=s'.toks+1}) hS' hT (by lia) λh' es' ep' b hsb hS2 hT2 hz2=> ?_
  rw [hsg,<-b5B] at hT2
  refine AH ⟨plainId_quiet F.plain_set_update_loop _,ih (i+1) _ es' ep' (by lia) hlt (W.frame _ s' _ _ hst' (Nat.le_succ _) λb hb o e=> ?_) hS2 hT2 (by lia) λs'' es'' ep'' hm'' hS'' hT'' hz''=> ?_⟩
  ·rw [hsb.2 b (λh:b=S=>hSf (by rw [<-h];exact hb))];exact e
  ·refine hR s'' es'' ep'' (Moved.trans W.gtrans ((hm.mono hsub).then_heap (Nat.le_succ _) λb o hb e=> ?_) hm'') hS'' hT'' hz''
   rw [hsb.2 b (λh:b=S=>hb (by rw [h];exact Af))];exact e
theorem c0V(a:AA){Q₁:AA->AC->Prop}(h:Q₁ (.ref s.heap.objs.size) {s with heap:=s.heap.push (Y5 w)}):
 codeAny (model prog w) A (.call (.builtin "set.__new__") ⟨[.type "set",a],[]⟩) (wants Q₁ E) s:=by
 refine codeAny_of_tree ?_
 show AF _ A.in1 (do checkBuiltinCall "set.__new__" ⟨[.type "set",a],[]⟩;again (.builtin "set.__new__" ⟨[.type "set",a],[]⟩)) _ _ s
 refine AD (wpAny_of_eq (F.newCall_set_1 a) (AH ⟨plainId_quiet F.plain_set_new _,codeAny_builtin F.entry_set_new ?_⟩))
 rw [Around.under_plainId F.plain_set_new _]
 unfold Builtin.«set.__new__» Builtin.Frozenset.newClass
 have hsub:=sub_set_self
 obtain⟨hp,g,d,tk,os⟩:=s
 dsimp only
 wp_walk
 refine wpAny_askSetting (AH ?_)
 dsimp only
 simp only [newObj]
 refine AD (wpAny_alloc (AH ?_))
 exact AH h
theorem a96:isSubtype (.type "str") (.type "set")=pure false:=by rw [isSubtype_type];kernel_rfl
theorem a3h:isSubtype (.type "str") (.type "frozenset")=pure false:=by rw [isSubtype_type];kernel_rfl
theorem c1e{x:Str}{t:Tok}{Q:AA->AC->Prop}(hh:A.handled=ζ)(hb:x.cps.size+1<scanBound)
 (h:∀(h':Heap) (tk:Nat) es ep,G0 prog w h' s.heap.objs.size es ep->TxE es (sgs x x.cps.size)->es.size<=x.cps.size->
  (∀b o,b<s.heap.objs.size->s.heap.get? b=ξ o->h'.get? b=ξ o)->Q (.ref s.heap.objs.size) {s with heap:=h',toks:=tk}):
 AF (model prog w) A (call (.type "set") [.str x t]) Q E s:=by
 obtain⟨c,tl,hmro⟩:=F.called_set.mro
 have hmade:=F.called_set.made
 have hsub:=F.called_set.sub
 refine wpAny_call (codeAny_of_tree ?_)
 show AF _ _ (callAny (.type "set") _) _ _ _
 refine AH ⟨Code.quiet_builtin _ (by decide+kernel),codeAny_builtin F.entry_type_call ?_⟩
 rw [Around.under_plain (weight_type_call_type "set" [.str x t] []) rfl]
 have h1:=F.called_set.notType
 have h2:=F.called_set.canCreate
 have hct:=F.typeCall_set_1 (.str x t)
 repeat (any_goals (first|assumption|wp_step))
 refine codeAny_mono (c0V (.str x t) (E:=E) (Q₁:=λobj s₁=>obj= .ref s.heap.objs.size/\s₁={s with heap:=s.heap.push (Y5 w)}) ⟨rfl,rfl⟩) λr s₁ hr=> ?_
 cases r with
 |error e=>exact hr
 |ok fl=>
  cases fl with
  |ret obj=>
   obtain⟨rfl,rfl⟩:=hr
   have hS:(s.heap.push (Y5 w)).get? s.heap.objs.size=ξ (Y5 w):=Aa _ rfl
   have hT:Shared.TypeIs {s with heap:=s.heap.push (Y5 w)} (.ref s.heap.objs.size) "set":=⟨_,hS,rfl⟩
   have hli:=F.called_set.init.lookup
   have hbi:=F.called_set.init.bind (.ref s.heap.objs.size)
   repeat (any_goals (first|assumption|wp_step))
   refine codeAny_mono (codeAny_call_builtin (R:=wants (λr s₂=>r= .none/\∃h' tk es ep,s₂={s with heap:=h',toks:=tk}/\
    G0 prog w h' s.heap.objs.size es ep/\TxE es (sgs x x.cps.size)/\es.size<=x.cps.size/\
    (∀b o,b<s.heap.objs.size->s.heap.get? b=ξ o->h'.get? b=ξ o)) E) F.called_set.init.plain F.entry_set_init (check_set_init_1 hT ?_)) λr₂ s₂ hr₂=> ?_
   ·have hsls:=a96
    have hslf:=a3h
    have hne:(Value.type "str"==Value.type "dict")=false:=by decide
    unfold Builtin.«set.__init__» noKeywords Builtin.Frozenset.updateFrom
    generalize hPI:pyIter=PI
    wp_walk
    subst hPI
    refine wpAny_pyIter_str λoI St W hst=> ?_
    refine AD (wpAny_runValue ?_)
    have hh3:A.in1.in1.in1.handled=ζ:=by simp [hh]
    have hSf:s.heap.objs.size∉[(s.heap.push (Y5 w)).objs.size]:=by
     rw [Heap.size_push,List.mem_singleton];exact AW (Nat.lt_succ_self _)
    refine b9b ((W _ hh3).toS) s.heap.objs.size hSf hb (x.cps.size - 0) 0 _ #[] 0 (by lia) (Nat.zero_le _) hst ?hS0 ⟨λe he=>by simp at he,by simp [a5t],λy=>by simp [a5t,sgs]⟩ (AN _) ?hR
    case hS0=>
     exact⟨Y5 w,_,AR _ hS,⟨rfl,rfl,rfl⟩,rfl,λe he=>by simp at he,by decide,by rfl,rfl,λz=>absurd rfl z⟩
    case hR=>
     intro s' es ep hm hS' hT' hz'
     obtain⟨h',g',d',tk',os'⟩:=s'
     have eg:g'=s.gens:=hm.gens
     have ed:d'=s.drawn:=hm.drawn
     have eo:os'=s.os:=hm.os
     subst eg;subst ed;subst eo
     show AF _ _ _ _ _ _
     refine AH ?_
     show AF _ _ (ret Value.none) _ _ _
     refine AH ⟨rfl,h',tk',es,ep,rfl,hS',hT',hz',λb o hb e=> ?_⟩
     have hb1:b≠s.heap.objs.size:=AW hb
     have hb2:b≠(s.heap.push (Y5 w)).objs.size:=by
      rw [Heap.size_push];exact AW (Nat.lt_succ_of_lt hb)
     exact hm.heap b o (by simp only [AU,List.mem_singleton,List.not_mem_nil,or_false,not_or];exact⟨hb1,hb2⟩) (AR _ (AR _ e))
   ·cases r₂ with
    |error e=>exact hr₂
    |ok fl₂=>
     cases fl₂ with
     |ret r=>
      obtain⟨rfl,h',tk,es,ep,rfl,hS',hT',hz',hk'⟩:=hr₂
      repeat (any_goals (first|assumption|wp_step))
      exact h _ _ es ep hS' hT' hz' hk'
     |_=>exact hr₂.elim
  |_=>exact hr.elim
end
set_option maxHeartbeats 1000000
theorem m7:Slot "set_iterator" "__next__" "set_iterator.__next__":=
 .of (owner:="set_iterator") (n:="__next__") (by rw [typeLookup_type,builtinLookup_eq_fast];kernel_rfl) (by decide+kernel) (by decide+kernel) (by decide+kernel)
  (by first|exact .inl (by decide+kernel)|exact .inr (by decide+kernel)) (by rw [isSubtype_type];kernel_rfl)
theorem a2i:Slot "set_iterator" "__iter__" "set_iterator.__iter__":=
 .of (owner:="set_iterator") (n:="__iter__") (by rw [typeLookup_type,builtinLookup_eq_fast];kernel_rfl) (by decide+kernel) (by decide+kernel) (by decide+kernel)
  (by first|exact .inl (by decide+kernel)|exact .inr (by decide+kernel)) (by rw [isSubtype_type];kernel_rfl)
theorem O5:entryFor table "set_iterator.__next__"=ξ Builtin.«set_iterator.__next__»:=entryFor_of_tree (by kernel_rfl)
theorem a5e:entryFor table "set_iterator.__iter__"=ξ Builtin.«dict_keyiterator.__iter__»:=entryFor_alias (id':="dict_keyiterator.__iter__") (by kernel_rfl) rfl (by decide+kernel) (by kernel_rfl)
theorem a72:entryFor table "set.__iter__"=ξ Builtin.«frozenset.__iter__»:=entryFor_alias (id':="frozenset.__iter__") (by kernel_rfl) rfl (by decide+kernel) (by kernel_rfl)
theorem a7r:Manifest.owners.lookup (String.ofList ['r', 'o', 't', 'a', 'r', 'e', 't', 'i', '_', 't', 'e', 's'].reverse)=ξ Manifest.sig_set_iterator:=by kernel_rfl
theorem Q9(a:AA):argsOk "set_iterator.__next__" ⟨[a],[]⟩:=by
 unfold argsOk;rw [signature?_of (id:="set_iterator.__next__") (n:=['_', '_', 't', 'x', 'e', 'n', '_', '_']) (o:=['r', 'o', 't', 'a', 'r', 'e', 't', 'i', '_', 't', 'e', 's']) (by kernel_rfl) a7r];kernel_rfl
theorem a6B(a:AA):argsOk "set_iterator.__iter__" ⟨[a],[]⟩:=by
 unfold argsOk;rw [signature?_of (id:="set_iterator.__iter__") (n:=['_', '_', 'r', 'e', 't', 'i', '_', '_']) (o:=['r', 'o', 't', 'a', 'r', 'e', 't', 'i', '_', 't', 'e', 's']) (by kernel_rfl) a7r];kernel_rfl
def R6(h:Heap)(it:AB)(first:AA)(i:Nat)(a:AB)(n ep:Nat):Prop:=∃o,h.get? it=ξ o/\o.cls= .type "set_iterator"/\o.data= .fields #[first,.int i 0,.ref a,.int n 0,.int ep 0]
theorem R6.typeIs{s:AC}{it:AB}{first:AA}{i:Nat}{a:AB}{n ep:Nat}(x:R6 s.heap it first i a n ep):s.TypeIs (.ref it) "set_iterator":=by obtain⟨o,ho,hc,_⟩:=x;exact⟨o,ho,hc⟩
theorem R6.at'{h h':Heap}{it:AB}{first:AA}{i:Nat}{a:AB}{n ep:Nat}(x:R6 h it first i a n ep)(e:∀o,h.get? it=ξ o->h'.get? it=ξ o):R6 h' it first i a n ep:=by obtain⟨o,ho,r⟩:=x;exact⟨o,e _ ho,r⟩
theorem a2q{α:Type}:∀{l:List α} {i:Nat} (h:i<l.length),(l[i]::l.eraseIdx i).Perm l
 |x::l,0,h=>List.Perm.refl _
 |x::l,i+1,h=>by
  have ih:=a2q (l:=l) (i:=i) (by simpa using h)
  show(l[i]'(by simpa using h)::x::l.eraseIdx i).Perm (x::l)
  exact(List.Perm.swap _ _ _).trans (ih.cons x)
theorem a7v{α:Type}(f:Nat->Nat):∀(n k:Nat) (left:List α) (out:Array α),left.length=n->(pickOrder.go f n k left out).toList.Perm (out.toList++left)
 |0,k,left,out,h=>by
  cases left with
  |nil=>rw [Ad];exact List.Perm.refl _
  |cons a l=>cases h
 |n+1,k,left,out,h=>by
  unfold pickOrder.go;have hlt:f k % left.length<left.length:=Nat.mod_lt _ (by lia)
  rw [Ai hlt];dsimp only;refine(a7v f n (k+1) _ _ (by rw [List.length_eraseIdx];split<;>lia)).trans ?_
  rw [Array.toList_push,List.append_assoc];exact List.Perm.append_left _ (a2q hlt)
theorem X1{α:Type}(f:Nat->Nat)(xs:Array α):(pickOrder f xs).toList.Perm xs.toList:=by
 have:=a7v f xs.size 0 xs.toList #[] (by simp)
 simpa [pickOrder] using this
section
variable {prog:AJ}{w:AI}{A:AK}{E:AA->AC->Prop}{s:AC}{it a:AB}{i ep:Nat}{es:Array (Int×AA)}
theorem a8J{src:Source}{n:Nat}{Q:Nat->AC->Prop}(hn:n≠0)(h:∀i,i<n->Q i {s with drawn:=s.drawn.bump src}):AF (model prog w) A (choose src n) Q E s:=
 λ_ _ _=>⟨hn,h _ (Nat.mod_lt _ (Nat.pos_of_ne_zero hn))⟩
theorem a66{α:Type}:∀(n:Nat) (xs:List α) (s:AC) (Q:List α->AC->Prop),xs.length=n->(∀ys d,ys.Perm xs->Q ys {s with drawn:=d})->AF (model prog w) A (drawOrder n xs) Q E s
 |0,xs,s,Q,h,k=>by
  unfold drawOrder;cases xs with
  |nil=>exact AH (k [] s.drawn (List.Perm.refl _))
  |cons a l=>cases h
 |n+1,[],s,Q,h,k=>by cases h
 |n+1,x::l,s,Q,h,k=>by
  unfold drawOrder;refine AD (a8J (by simp) λi hi=> ?_)
  rw [Ai hi];dsimp only;refine AD (a66 n _ _ _ (by rw [List.length_eraseIdx];split<;>lia) λys d p=> ?_)
  refine AH ?_;exact k _ d ((p.cons _).trans (a2q hi))
theorem a7T{Q:Bool->AC->Prop}(h:Q (byT w) s):AF (model prog w) A setsByText Q E s:=by
 unfold setsByText;exact AD (wpAny_askSetting (AH h))
theorem G0.typeIs(x:G0 prog w s.heap a es ep):s.TypeIs (.ref a) "set":=by obtain⟨o,_,ho,hc,_⟩:=x;exact⟨o,ho,hc.1⟩
theorem b8e{sl:Nat}{Q:Option (AA×Nat)->AC->Prop}(hb:byT w=true)(hS:G0 prog w s.heap a es ep)(h:Q (((pickOrder (w.params.setOrder a ep) es)[i]?).map λe=>(e.2,sl)) s):AF (model prog w) A (setNext a sl i ep) Q E s:=by
 obtain⟨o,t,ho,hex,hd,hel,hz,hf,hl,hpl⟩:=hS;unfold setNext;refine AD (wpAny_setState_of ho hd hf ?_);dsimp only;refine AD (a7T ?_);rw [hb];simp only [↓reduceIte,bne_self_eq_false,AX];unfold setWalk;refine AD (AD (wpAny_setState_of ho hd hf ?_));dsimp only;refine AD (a7T ?_);rw [hb];simp only [↓reduceIte];refine AD (wpAny_askSetting ?_);exact AH (AH h)
theorem a0d{Q:Array (Int×AA)->AC->Prop}(hS:G0 prog w s.heap a es ep)(h:Q es s):AF (model prog w) A (setEntries a) Q E s:=
 let ⟨_,_,ho,_,hd,_,_,hf,_⟩:=hS;wpAny_setEntries_of ho hd hf h
theorem a90{sl nxt:Nat}{v:AA}{Q:Option AA->AC->Prop}(hit:R6 s.heap it (.int sl 0) i a es.size ep)(hS:G0 prog w s.heap a es ep)
 (hN:∀(A:AK) (E:AA->AC->Prop) (Q:Option (AA×Nat)->AC->Prop),Q (ξ (v,nxt)) s->AF (model prog w) A (setNext a sl i ep) Q E s)
 (hQ:∀h',R6 h' it (.int nxt 0) (i+1) a es.size ep->Heap.SameBut it s.heap h'->Q (ξ v) {s with heap:=h'}):AF (model prog w) A (pyNext (.ref it)) Q E s:=by
 obtain⟨o,ho,hc,hd⟩:=id hit
 unfold pyNext
 refine AD (wpAny_attempt (wpAny_callSpecial?_slot (name:=Aj "__next__") hit.typeIs m7 (wpAny_call_entry m7 hit.typeIs O5 ?_ (Q9 _))))
 unfold Builtin.«set_iterator.__next__»
 refine AD (AH ?_)
 refine AD (wpAny_fieldsOf ho hd ?_)
 show AF _ _ (setEntries a>>=_) _ _ s
 refine AD (a0d hS ?_)
 rw [if_neg (by simp)]
 refine AD (hN _ _ _ ?_)
 dsimp only
 refine AD (wpAny_setField ho hd (by simp) ?_)
 have hg1:=Heap.get?_update_self (Obj.mapFields (·.setIfInBounds 0 (rawInt nxt))) ho (Obj.isFreed_of_fields (Obj.data_mapFields hd _))
 have hd1:=Obj.data_mapFields hd (·.setIfInBounds 0 (rawInt nxt))
 refine AD (wpAny_setField hg1 hd1 (by simp) ?_)
 have hg2:=Heap.get?_update_self (Obj.mapFields (·.setIfInBounds 1 (rawInt ((i:Int)+1)))) hg1 (Obj.isFreed_of_fields (Obj.data_mapFields hd1 _))
 have hd2:=Obj.data_mapFields hd1 (·.setIfInBounds 1 (rawInt ((i:Int)+1)))
 refine AH ⟨_,rfl,AH (hQ _ ⟨_,hg2, ?_, ?_⟩ ((Heap.SameBut.update ..).trans (Heap.SameBut.update ..)))⟩
 ·exact(Obj.cls_mapFields ..).trans ((Obj.cls_mapFields ..).trans hc)
 ·rw [hd2];simp [rawInt]
theorem b18{sl:Nat}{Q:Option AA->AC->Prop}(hh:A.handled=ζ)(hit:R6 s.heap it (.int sl 0) i a es.size ep)(hS:G0 prog w s.heap a es ep)
 (hN:∀(A:AK) (E:AA->AC->Prop) (Q:Option (AA×Nat)->AC->Prop),Q ζ s->AF (model prog w) A (setNext a sl i ep) Q E s)
 (hQ:∀h',Heap.ExtBut it s.heap h'->Q ζ {s with heap:=h'}):AF (model prog w) A (pyNext (.ref it)) Q E s:=by
 obtain⟨o,ho,hc,hd⟩:=id hit
 unfold pyNext
 refine AD (wpAny_attempt (wpAny_callSpecial?_slot (name:=Aj "__next__") hit.typeIs m7 (wpAny_call_entry m7 hit.typeIs O5 ?_ (Q9 _))))
 unfold Builtin.«set_iterator.__next__»
 refine AD (AH ?_)
 refine AD (wpAny_fieldsOf ho hd ?_)
 show AF _ _ (setEntries a>>=_) _ _ s
 refine AD (a0d hS ?_)
 rw [if_neg (by simp)]
 refine AD (hN _ _ _ ?_)
 dsimp only
 refine AD (wpAny_setField ho hd (by simp) ?_)
 refine AD ?_
 simp only [newExc,newTuple];refine AD (wpAny_newObj_type ?_ (by size_fits))
 refine AD (m:=firstArgMember _ _) (wpAny_of_eq (a:=Value.none) (by first|rfl|(simp only [firstArgMember];rfl)) (wpAny_newObj_type ?_ (by size_fits)))
 simp only [raiseNew];refine AD (wpAny_handled ?_);rw [show A.in1.handled=ζ from hh]
 refine AD (AH (wpAny_throw ?_));refine AD (wpAny_isInstance (T:="StopIteration") (b:=true) ⟨_,Aa _ rfl,rfl⟩ isSubtype_stop ?_)
 exact AH (hQ _ (((Heap.SameBut.update ..).extBut.push _).push _))
theorem b3j{ft:AB}{ps:List Nat}{pl:Nat}{v:Int×AA}{Q:Option AA->AC->Prop}(hit:R6 s.heap it (.ref ft) i a es.size ep)(hS:G0 prog w s.heap a es ep)(hf:IsTup s.heap ft (ps.map λi:Nat=>rawInt i).toArray)
 (hp:ps[i]?=ξ pl) (hv:es[pl]?=ξ v)
 (hQ:∀h',R6 h' it (.ref ft) (i+1) a es.size ep->Heap.SameBut it s.heap h'->Q (ξ v.2) {s with heap:=h'}):AF (model prog w) A (pyNext (.ref it)) Q E s:=by
 obtain⟨o,ho,hc,hd⟩:=id hit
 obtain⟨oq,tq,hoq,hexq,hdq,helq,hzq,hfq,hlq,hplq⟩:=id hS
 obtain⟨of,hof,hcf,nf,hdf⟩:=id hf
 unfold pyNext
 refine AD (wpAny_attempt (wpAny_callSpecial?_slot (name:=Aj "__next__") hit.typeIs m7 (wpAny_call_entry m7 hit.typeIs O5 ?_ (Q9 _))))
 unfold Builtin.«set_iterator.__next__»
 refine AD (AH ?_)
 refine AD (wpAny_fieldsOf ho hd ?_)
 show AF _ _ (setEntries a>>=_) _ _ s
 refine AD (a0d hS ?_)
 rw [if_neg (by simp)]
 show AF _ _ (seqItems? (.ref ft)>>=_) _ _ s
 refine AD (wpAny_seqItems hof hdf ?_)
 have hg:((ps.map λi:Nat=>rawInt i).toArray)[i]?=ξ (rawInt pl):=by
  rw [List.getElem?_toArray,Ag,hp];rfl
 dsimp only
 rw [show((i:Int).toNat)=i from BB i,hg]
 show AF _ _ (setNextDrawn a ((pl:Int).toNat) ((ep:Int).toNat)>>=_) _ _ s
 unfold setNextDrawn
 refine AD (AD (wpAny_setState_of hoq hdq hfq ?_))
 dsimp only
 rw [show((ep:Int).toNat)=ep from BB ep,show((pl:Int).toNat)=pl from BB pl,hv]
 simp only [bne_self_eq_false,AX,↓reduceIte]
 refine AH ?_
 refine AD (wpAny_setField ho hd (by simp) ?_)
 have hg1:=Heap.get?_update_self (Obj.mapFields (·.setIfInBounds 1 (rawInt ((i:Int)+1)))) ho (Obj.isFreed_of_fields (Obj.data_mapFields hd _))
 have hd1:=Obj.data_mapFields hd (·.setIfInBounds 1 (rawInt ((i:Int)+1)))
 refine AH ⟨_,rfl,AH (hQ _ ⟨_,hg1, ?_, ?_⟩ (Heap.SameBut.update ..))⟩
 ·exact(Obj.cls_mapFields ..).trans hc
 ·rw [hd1];simp [rawInt]
theorem b5C{ft:AB}{ps:List Nat}{Q:Option AA->AC->Prop}(hh:A.handled=ζ)(hit:R6 s.heap it (.ref ft) i a es.size ep)(hS:G0 prog w s.heap a es ep)(hf:IsTup s.heap ft (ps.map λi:Nat=>rawInt i).toArray)
 (hp:ps[i]?=ζ)
 (hQ:∀h',Heap.ExtBut it s.heap h'->Q ζ {s with heap:=h'}):AF (model prog w) A (pyNext (.ref it)) Q E s:=by
 obtain⟨o,ho,hc,hd⟩:=id hit
 obtain⟨of,hof,hcf,nf,hdf⟩:=id hf
 unfold pyNext
 refine AD (wpAny_attempt (wpAny_callSpecial?_slot (name:=Aj "__next__") hit.typeIs m7 (wpAny_call_entry m7 hit.typeIs O5 ?_ (Q9 _))))
 unfold Builtin.«set_iterator.__next__»
 refine AD (AH ?_)
 refine AD (wpAny_fieldsOf ho hd ?_)
 show AF _ _ (setEntries a>>=_) _ _ s
 refine AD (a0d hS ?_)
 rw [if_neg (by simp)]
 show AF _ _ (seqItems? (.ref ft)>>=_) _ _ s
 refine AD (wpAny_seqItems hof hdf ?_)
 have hg:((ps.map λi:Nat=>rawInt i).toArray)[i]?=ζ:=by
  rw [List.getElem?_toArray,Ag,hp];rfl
 dsimp only
 rw [show((i:Int).toNat)=i from BB i,hg]
 dsimp only
 refine AD (wpAny_setField ho hd (by simp) ?_)
 have hg1:=Heap.get?_update_self (Obj.mapFields (·.setIfInBounds 0 (rawInt 0))) ho (Obj.isFreed_of_fields (Obj.data_mapFields hd _))
 have hd1:=Obj.data_mapFields hd (·.setIfInBounds 0 (rawInt 0))
 refine AD (wpAny_setField hg1 hd1 (by simp) ?_)
 refine AD ?_
 simp only [newExc,newTuple];refine AD (wpAny_newObj_type ?_ (by size_fits))
 refine AD (m:=firstArgMember _ _) (wpAny_of_eq (a:=Value.none) (by first|rfl|(simp only [firstArgMember];rfl)) (wpAny_newObj_type ?_ (by size_fits)))
 simp only [raiseNew];refine AD (wpAny_handled ?_);rw [show A.in1.handled=ζ from hh]
 refine AD (AH (wpAny_throw ?_));refine AD (wpAny_isInstance (T:="StopIteration") (b:=true) ⟨_,Aa _ rfl,rfl⟩ isSubtype_stop ?_)
 exact AH (hQ _ ((((Heap.SameBut.update ..).trans (Heap.SameBut.update ..)).extBut.push _).push _))
theorem a6g{first:AA}{n:Nat}{Q:AA->AC->Prop}(hit:R6 s.heap it first i a n ep)(h:Q (.ref it) s):AF (model prog w) A (pyIter (.ref it)) Q E s:=by
 refine wpAny_pyIter_slot hit.typeIs a2i (wpAny_call_entry a2i hit.typeIs a5e ?_ (a6B _));show AF _ _ (ret (.ref it)) _ _ s;exact AH ⟨_,rfl,"set_iterator",_,hit.typeIs,m7.lookup,h⟩
end
section
variable {prog:AJ}{w:AI}{A:AK}{E:AA->AC->Prop}{s:AC}{a:AB}{ep:Nat}{es:Array (Int×AA)}
def PlX(h:Heap)(a:AB)(es:Array (Int×AA))(ep:Nat)(pl:Array Nat):Prop:=∃o t,h.get? a=ξ o/\o.data= .set es ep t/\t.place=pl
theorem b4Q{i sl:Nat}{pl:Array Nat}{Q:Option (AA×Nat)->AC->Prop}(hb:byT w=false)(hS:G0 prog w s.heap a es ep)(hP:PlX s.heap a es ep pl)(h1:es.size<=1)
 (h:Q (match es[SetTable.below pl sl]?,pl[SetTable.below pl sl]? with|some (_,x),ξ j=>ξ (x,j+1)|_,_=>ζ) s):AF (model prog w) A (setNext a sl i ep) Q E s:=by
 obtain⟨o,t,ho,hex,hd,hel,hz,hf,hl,hpl⟩:=hS
 obtain⟨o',t',ho',hd',ep'⟩:=hP
 rw [ho] at ho';cases ho'
 rw [hd] at hd';cases hd'
 subst ep'
 rw [hb] at hl
 unfold setNext
 refine AD (wpAny_setState_of ho hd hf ?_)
 dsimp only
 refine AD (a7T ?_)
 rw [hb]
 simp only [AX,↓reduceIte]
 show AF _ _ (if(!t.plain && decide (es.size>1))=true then _ else _) _ _ s
 rw [if_neg (by simp;lia)]
 show AF _ _ ((if(!t.led && !es.isEmpty)=true then _ else _)>>=_) _ _ s
 rw [hl]
 refine AD (AH ?_)
 exact AH h
theorem b8D(j:Nat):SetTable.below #[j] 0=0:=by simp [SetTable.below,SetTable.below.go]
theorem b8E(j:Nat):SetTable.below #[j] (j+1)=1:=by simp [SetTable.below,SetTable.below.go]
theorem c0e(hb:byT w=true)(hh:A.handled=ζ)(I:AB)(hne:a≠I):Walks prog w A I [I,a] [I] es.size (λi v=>((pickOrder (w.params.setOrder a ep) es).toList.map (·.2))[i]?=ξ v) (λi h=>R6 h I (.int (0:Nat) 0) i a es.size ep/\G0 prog w h a es ep) where
 sub:=λb hb=>by simp at hb;simp [hb]
 frame:=λ_ _ _ st hk=>⟨st.1.at' λo e=>hk I (by simp) o e,st.2.at' λo e=>hk a (by simp) o e⟩
 item:=λi s Q E hi st hQ=>by
  have hz:(pickOrder (w.params.setOrder a ep) es).size=es.size:=by
   have:=(X1 (w.params.setOrder a ep) es).length_eq
   simpa using this
  have hi':i<(pickOrder (w.params.setOrder a ep) es).size:=by lia
  refine a90 (nxt:=0) (v:=(pickOrder (w.params.setOrder a ep) es)[i].2) st.1 st.2 (λA E Q q=>b8e hb st.2 (by rw [getElem?_pos _ i hi'];exact q)) λh' hit' hs'=>hQ _ h' s.toks ?_ ⟨hit',st.2.at' λo e=>hs'.extBut a o hne e⟩ λb o hb e=>hs'.extBut b o (λh=>hb (by simp [h])) e
  rw [Ag,Array.getElem?_toList,getElem?_pos _ i hi'];rfl
 done:=λs Q E st hQ=>by
   have hz:(pickOrder (w.params.setOrder a ep) es).size=es.size:=by
    have:=(X1 (w.params.setOrder a ep) es).length_eq
    simpa using this
   exact b18 hh st.1 st.2 (λA E Q q=>b8e hb st.2 (by rw [getElem?_neg _ es.size (by lia)];exact q)) λh' he'=>hQ h' s.toks λb o hb e=>he' b o (λh=>hb (by simp [h])) e
 self:=λ_ _ _ _ st hQ=>a6g st.1 hQ
theorem c0c(hb:byT w=false)(h1:es.size<=1)(hh:A.handled=ζ)(I:AB)(hne:a≠I){pl:Array Nat}(hp:pl.size=es.size):
 Walks prog w A I [I,a] [I] es.size (λi v=>(es.toList.map (·.2))[i]?=ξ v) (λi h=>∃sl:Nat,R6 h I (.int sl 0) i a es.size ep/\G0 prog w h a es ep/\PlX h a es ep pl/\(i=0->sl=0)/\(i≠0->sl=pl.getD 0 0+1)) where
 sub:=λb hb=>by simp at hb;simp [hb]
 frame:=λ_ _ _ ⟨sl,st1,st2,⟨o,t,ho,r⟩,st4,st5⟩ hk=>⟨sl,st1.at' λo e=>hk I (by simp) o e,st2.at' λo e=>hk a (by simp) o e,⟨o,t,hk a (by simp) o ho,r⟩,st4,st5⟩
 item:=λi s Q E hi ⟨sl,st1,st2,st3,st4,st5⟩ hQ=>by
  have hi0:i=0:=by lia
  subst hi0;cases st4 rfl;have hs1:es.size=1:=by lia
  obtain⟨j,rfl⟩:∃j,pl= #[j]:=by
   obtain⟨l⟩:=pl;cases l with
   |nil=>simp at hp;lia
   |cons j l=>
    cases l with
    |nil=>exact⟨j,rfl⟩
    |cons k l=>simp at hp;lia
  have h0:0<es.size:=by lia
  refine a90 (nxt:=j+1) (v:=es[0].2) st1 st2 (λA E Q q=>b4Q hb st2 st3 h1 (by rw [b8D,getElem?_pos _ 0 h0];exact q)) λh' hit' hs'=>hQ _ h' s.toks ?_ ⟨j+1,hit',st2.at' λo e=>hs'.extBut a o hne e, ?_,λz=>absurd z (Nat.succ_ne_zero 0),λ_=>rfl⟩ λb o hb e=>hs'.extBut b o (λh=>hb (by simp [h])) e
  ·rw [Ag,Array.getElem?_toList,getElem?_pos _ 0 h0];rfl
  ·obtain⟨o,t,ho,r⟩:=st3;exact⟨o,t,hs'.extBut a o hne ho,r⟩
 done:=λs Q E ⟨sl,st1,st2,st3,st4,st5⟩ hQ=>by
   refine b18 hh st1 st2 (λA E Q q=>b4Q hb st2 st3 h1 ?_) λh' he'=>hQ h' s.toks λb o hb e=>he' b o (λh=>hb (by simp [h])) e
   by_cases h0:es.size=0
   ·have e0:es[SetTable.below pl sl]?=ζ:=getElem?_neg _ _ (by lia)
    rw [e0];exact q
   ·cases st5 h0;obtain⟨j,rfl⟩:∃j,pl= #[j]:=by
     obtain⟨l⟩:=pl;cases l with
     |nil=>simp at hp;lia
     |cons j l=>
      cases l with
      |nil=>exact⟨j,rfl⟩
      |cons k l=>simp at hp;lia
    have e1:SetTable.below #[j] ((#[j]:Array Nat).getD 0 0+1)=1:=b8E j;rw [e1,getElem?_neg _ 1 (by lia)];exact q
 self:=λ_ _ _ _ ⟨_,st,_⟩ hQ=>a6g st hQ
theorem c0d(hh:A.handled=ζ)(I ft:AB)(hne:a≠I)(hnf:ft≠I){ps:List Nat}(hp:ps.Perm (AZ es.size)):
 Walks prog w A I [I,a,ft] [I] es.size (λi v=>(ps.map λp:Nat=>(es[p]?.map (·.2)).getD .none)[i]?=ξ v) (λi h=>R6 h I (.ref ft) i a es.size ep/\G0 prog w h a es ep/\IsTup h ft (ps.map λi:Nat=>rawInt i).toArray) where
 sub:=λb hb=>by simp at hb;simp [hb]
 frame:=λ_ _ _ ⟨st1,st2,⟨o,ho,r⟩⟩ hk=>⟨st1.at' λo e=>hk I (by simp) o e,st2.at' λo e=>hk a (by simp) o e,⟨o,hk ft (by simp) o ho,r⟩⟩
 item:=λi s Q E hi ⟨st1,st2,st3⟩ hQ=>by
  have hl:ps.length=es.size:=by have:=hp.length_eq;simpa using this
  have hi':i<ps.length:=by lia
  have hm:ps[i]<es.size:=List.mem_range.mp (hp.mem_iff.mp (List.getElem_mem hi'));refine b3j (pl:=ps[i]) (v:=es[ps[i]]) st1 st2 st3 (Ai hi') (getElem?_pos es ps[i] hm) λh' hit' hs'=>hQ _ h' s.toks ?_ ⟨hit',st2.at' λo e=>hs'.extBut a o hne e, ?_⟩ λb o hb e=>hs'.extBut b o (λh=>hb (by simp [h])) e
  ·rw [Ag,Ai hi',Az,getElem?_pos es ps[i] hm];rfl
  ·obtain⟨o,ho,r⟩:=st3;exact⟨o,hs'.extBut ft o hnf ho,r⟩
 done:=λs Q E ⟨st1,st2,st3⟩ hQ=>by
   have hl:ps.length=es.size:=by have:=hp.length_eq;simpa using this
   exact b5C hh st1 st2 st3 (List.getElem?_eq_none (by lia)) λh' he'=>hQ h' s.toks λb o hb e=>he' b o (λh=>hb (by simp [h])) e
 self:=λ_ _ _ _ st hQ=>a6g st.1 hQ
theorem a9P{es:Array (Int×AA)}{ps:List Nat}(hp:ps.Perm (AZ es.size)):(ps.map λp:Nat=>(es[p]?.map (·.2)).getD .none).Perm (es.toList.map (·.2)):=by
 refine(hp.map _).trans ?_;have:(AZ es.size).map (λp:Nat=>(es[p]?.map (·.2)).getD .none)=es.toList.map (·.2):=by
  apply List.ext_getElem
  ·simp
  ·intro i h1 h2;simp only [AV,BE] at h1;simp [h1]
 rw [this]
theorem b6v{Q:Bool->AC->Prop}(hS:G0 prog w s.heap a es ep)(h:∀t:SetTable,(es.size≠0->t.plain=false)->Q (!byT w &&(!t.plain && decide (es.size>1))) s):AF (model prog w) A (setDrawn a) Q E s:=by
 obtain⟨o,t,ho,hex,hd,hel,hz,hf,hl,hpl⟩:=hS;unfold setDrawn;refine AD (wpAny_setState_of ho hd hf ?_);dsimp only;refine AD (a7T ?_);exact AH (h t hpl)
theorem b1v{Q:Nat->AC->Prop}(hS:G0 prog w s.heap a es ep)(h:Q ep s):AF (model prog w) A (setEpoch a) Q E s:=
 let ⟨_,_,ho,_,hd,_,_,hf,_⟩:=hS;wpAny_setEpoch_of ho hd hf h
theorem b84{Q:AA->AC->Prop}(hS:G0 prog w s.heap a es ep)
 (h:∀(h':Heap) d I fp (St:Nat->Heap->Prop) (ord:List AA),(∀b o,s.heap.get? b=ξ o->h'.get? b=ξ o)->s.heap.objs.size<=I->(∀b∈fp,s.heap.objs.size<=b\/b=a)->ord.Perm (es.toList.map (·.2))->
  (∀A':AK,A'.handled=ζ->Walks prog w A' I fp [I] es.size (λi v=>ord[i]?=ξ v) St)->St 0 h'->Q (.ref I) {s with heap:=h',drawn:=d}):AF (model prog w) A (pyIter (.ref a)) Q E s:=by
 have hlt:a<s.heap.objs.size:=by obtain⟨_,_,ho,_⟩:=hS;exact AT ho
 refine wpAny_pyIter_slot hS.typeIs F.slot_set_iter (wpAny_call_entry F.slot_set_iter hS.typeIs a72 ?_ (F.args_set_iter_1 _))
 unfold Builtin.«frozenset.__iter__»
 refine AD (AH ?_)
 show AF _ _ (Builtin.Frozenset.sizeOf a>>=_) _ _ s
 unfold Builtin.Frozenset.sizeOf
 refine AD (AD (a0d hS (AH ?_)))
 refine AD (b6v hS λt ht=> ?_)
 by_cases hd:(!byT w &&(!t.plain && decide (es.size>1)))=true
 ·rw [if_pos hd]
  simp only [Bool.and_eq_true,Bool.not_eq_true',decide_eq_true_eq] at hd
  refine AD (a66 es.size (AZ es.size) s _ (by simp) λps d hp=> ?_)
  simp only [newTuple]
  refine AD (wpAny_newObj_type ?_ ?_)
  ·have hk:∀b o,s.heap.get? b=ξ o->(s.heap.push {cls:= .type "tuple",data:= .seq (ps.map λi:Nat=>rawInt i).toArray}).get? b=ξ o:=λb o e=>AR _ e
   refine AD (b1v (hS.at' λo e=>hk a o e) ?_)
   simp only [newFields]
   refine AD (wpAny_newObj_type ?_ (by size_fits))
   refine AH ⟨_,rfl,"set_iterator",_,⟨_,Aa _ rfl,rfl⟩,m7.lookup, ?_⟩
   refine h _ d _ [s.heap.objs.size+1,a,s.heap.objs.size] (λi h=>R6 h (s.heap.objs.size+1) (.ref s.heap.objs.size) i a es.size ep/\G0 prog w h a es ep/\IsTup h s.heap.objs.size (ps.map λi:Nat=>rawInt i).toArray) _ (λb o e=>AR _ (hk b o e)) (by rw [Heap.size_push];exact Nat.le_succ _) (λb hb=> ?_) (a9P hp) (λA' hA=> ?_) ?_
   rotate_left
   ·have:=c0d (prog:=prog) (w:=w) (ep:=ep) hA (s.heap.objs.size+1) s.heap.objs.size (AW (Nat.lt_succ_of_lt hlt)) (AW (Nat.lt_succ_self _)) hp
    rw [Heap.size_push]
    exact this
   ·have e1:(s.heap.push {cls:= .type "tuple",data:= .seq (ps.map λi:Nat=>rawInt i).toArray}).objs.size=s.heap.objs.size+1:=Heap.size_push ..
    refine⟨⟨{cls:= .type "set_iterator",data:= .fields [.ref s.heap.objs.size,rawInt 0,.ref a,rawInt es.size,rawInt ep].toArray}, ?_,rfl,rfl⟩,hS.at' λo e=>AR _ (hk a o e),_,AR _ (Aa _ rfl),rfl,_,rfl⟩
    rw [<-e1]
    exact Aa _ rfl
   ·simp only [AU,List.not_mem_nil,or_false] at hb
    rcases hb with rfl|rfl|rfl
    ·exact .inl (Nat.le_succ _)
    ·exact .inr rfl
    ·exact .inl (AN _)
  ·have hz:es.size<scanBound:=by obtain⟨_,_,_,_,_,_,hz,_⟩:=hS;exact hz
   have hl:ps.length=es.size:=by have:=hp.length_eq;simpa using this
   have hsl:=sizeLine_eq
   unfold scanBound at hz
   show(ps.map λi:Nat=>rawInt i).toArray.size<=AM
   simp [hl]
   lia
 ·rw [if_neg hd]
  refine AD (AH ?_)
  refine AD (b1v hS ?_)
  simp only [newFields]
  refine AD (wpAny_newObj_type ?_ (by size_fits))
  refine AH ⟨_,rfl,"set_iterator",_,⟨_,Aa _ rfl,rfl⟩,m7.lookup, ?_⟩
  have hit:R6 (s.heap.push {cls:= .type "set_iterator",data:= .fields [rawInt 0,rawInt 0,.ref a,rawInt es.size,rawInt ep].toArray}) s.heap.objs.size (.int (0:Nat) 0) 0 a es.size ep:=⟨_,Aa _ rfl,rfl,rfl⟩
  have hS':=hS.at' (h':=s.heap.push {cls:= .type "set_iterator",data:= .fields [rawInt 0,rawInt 0,.ref a,rawInt es.size,rawInt ep].toArray}) λo e=>AR _ e
  have hfp:∀b∈[s.heap.objs.size,a],s.heap.objs.size<=b\/b=a:=λb hb=>by
   simp only [AU,List.not_mem_nil,or_false] at hb;rcases hb with rfl|rfl
   ·exact .inl (AN _)
   ·exact .inr rfl
  cases hb:byT w with
  |true=>exact h _ s.drawn _ [s.heap.objs.size,a] _ _ (λb o e=>AR _ e) (AN _) hfp ((X1 (w.params.setOrder a ep) es).map _) (λA' hA=>c0e hb hA _ (AW hlt)) ⟨hit,hS'⟩
  |false=>
   have h1:es.size<=1:=by
    rw [hb] at hd
    by_cases hz:es.size<=1
    ·exact hz
    ·exfalso
     rw [ht (by lia)] at hd
     simp at hd
     lia
   obtain⟨o,t',ho,hex,hdd,hel,hzz,hf,hl,hpl⟩:=id hS
   have hps:t'.place.size=es.size:=by
    simp only [SetTable.fits,Bool.and_eq_true,beq_iff_eq] at hf;exact hf.1
   exact h _ s.drawn _ [s.heap.objs.size,a] _ _ (λb o e=>AR _ e) (AN _) hfp (List.Perm.refl _) (λA' hA=>c0c hb h1 hA _ (AW hlt) hps) ⟨0,hit,hS',⟨o,t',AR _ ho,hdd,rfl⟩,λ_=>rfl,λz=>absurd rfl z⟩
theorem b4o{r:AB}{Q:Bool->AC->Prop}(hT:s.TypeIs (.ref r) "set")(h:Q false s):AF (model prog w) A (Builtin.List.listLengthHint (.ref r)) Q E s:=by
 unfold Builtin.List.listLengthHint;refine AD (wpAny_specialOf hT PySem.F.slot_set_len.lookup ?_);generalize hid:("set.__len__":String)=id0
 wp_delta
 rw [show splitId id0=ξ ("set","__len__") from by subst hid;decide+kernel]
 subst hid;refine AD (wpAny_isInstance (T:="set") (b:=true) hT (by rw [isSubtype_type];kernel_rfl) ?_)
 refine wpAny_ite_split (λhab=>absurd hab (by decide)) (λ_=> ?_)
 refine wpAny_ite_split (λ_=> ?_) (λhab=>absurd (by decide+kernel) hab)
 refine AD (wpAny_typeOf hT ?_);exact AH h
theorem b2q{Q:List AA->AC->Prop}(hh:A.handled=ζ)(hS:G0 prog w s.heap a es ep)
 (hQ:∀h' tk d ord,(∀b o,s.heap.get? b=ξ o->h'.get? b=ξ o)->ord.Perm (es.toList.map (·.2))->Q ord {s with heap:=h',toks:=tk,drawn:=d}):AF (model prog w) A (collect (.ref a)) Q E s:=by
 have hlt:a<s.heap.objs.size:=by obtain⟨_,_,ho,_⟩:=hS;exact AT ho
 have hn:es.size<=AM:=by
  have hz:es.size<scanBound:=by obtain⟨_,_,_,_,_,_,hz,_⟩:=hS;exact hz
  have hsl:=sizeLine_eq;unfold scanBound at hz
  lia
 unfold collect
 refine AD (wpAny_runValue (codeAny_builtin F.entry_proto_collect ?_));rw [Around.under_plainId F.plain_proto_collect _]
 show AF _ A.in1 (newList []>>=λl=>again (.builtin "list.__iadd__" ⟨[l,.ref a],[]⟩)) _ _ s;refine AD (wpAny_newObj_type ?_)
 refine AH ⟨plainId_quiet F.plain_list_iadd _,codeAny_builtin F.entry_list_iadd ?_⟩;rw [Around.under_plainId F.plain_list_iadd _]
 show AF _ A.in1 (Builtin.List.listExtendWith (.ref s.heap.objs.size) (.ref a) (.ref s.heap.objs.size)) _ _ _
 have hS0:(s.heap.push {cls:= .type "list",data:= .seq ([]:List AA).toArray}).get? s.heap.objs.size=ξ {cls:= .type "list",data:= .seq ([]:List AA).toArray}:=Aa _ rfl
 have hSX:=hS.at' (h':=s.heap.push {cls:= .type "list",data:= .seq ([]:List AA).toArray}) λo e=>AR _ e
 have hk0:∀b o,s.heap.get? b=ξ o->(s.heap.push {cls:= .type "list",data:= .seq ([]:List AA).toArray}).get? b=ξ o:=λb o e=>AR _ e
 have hsz:(s.heap.push {cls:= .type "list",data:= .seq ([]:List AA).toArray}).objs.size=s.heap.objs.size+1:=Heap.size_push ..
 generalize hH:s.heap.push {cls:= .type "list",data:= .seq ([]:List AA).toArray}=H at hS0 hSX hk0 hsz ⊢
 unfold Builtin.List.listExtendWith
 refine AD (wpAny_typeOf (T:="set") hSX.typeIs ?_)
 have hne:s.heap.objs.size≠a:=Nat.ne_of_gt hlt
 have h1:Builtin.List.listSameRef (.ref s.heap.objs.size) (.ref a)=false:=by simp [Builtin.List.listSameRef,hne]
 have h2:(Value.type "set"==Value.type "list")=false:=by decide
 have h3:(Value.type "set"==Value.type "tuple")=false:=by decide
 simp only [h1,h2,h3,Bool.or_false,AX,if_false]
 refine AD (b84 hSX λh' d I fp St ord hk hI hfp hp W hst=> ?_)
 refine AD (wpAny_holding (b4o (hSX.at' λo e=>hk _ _ e).typeIs ?_))
 have hSf:s.heap.objs.size∉fp:=λhb=>by
  rcases hfp _ hb with h|h
  ·rw [hsz] at h;exact absurd h (Nat.not_le.mpr (Nat.lt_succ_self _))
  ·exact hne h
 have hIlt:s.heap.objs.size<I:=by
  have hI':s.heap.objs.size+1<=I:=by rw [<-hsz];exact hI
  exact hI'
 have key:∀(h2:Heap) (c₁:Nat),St 0 h2->(∀b o,b≠s.heap.objs.size->s.heap.get? b=ξ o->h2.get? b=ξ o)->h2.get? s.heap.objs.size=ξ {cls:= .type "list",data:= .seq #[] c₁}->
  codeAny (model prog w) A (.builtin "list.extend.loop" ⟨[.ref s.heap.objs.size,.ref I,.ref s.heap.objs.size],[]⟩) (λr s'=>match r with| .ok (.ret v)=>AF (model prog w) A (match v with| .ref a=>(do let o<-load a;match o.data with| .seq xs _=>pure xs.toList|_=>unsupported "internal:collect")|_=>unsupported "internal:collect") Q E s'| .ok _=>False| .error e=>E e s') {s with heap:=h2,drawn:=d}:=by
  intro h2 c₁ hst2 hk2 hS2
  refine codeAny_extend_loopS (W A.in1 hh).toS hn s.heap.objs.size hSf _ es.size 0 _ #[] c₁ rfl (Nat.zero_le _) hst2 hS2 (ItemsOf.nil _) λs' acc' c' hm hS' hacc=> ?_
  show AF _ A (load s.heap.objs.size>>=_) _ _ _
  refine AD (wpAny_load hS' ?_)
  have e:acc'.toList=ord:=by
   have hl:ord.length=es.size:=by have:=hp.length_eq;simpa using this
   apply List.ext_getElem?;intro j
   by_cases hj:j<acc'.size
   ·have h1:j<acc'.size:=hj;have:=hacc.2 j acc'[j] (by simp [h1])
    rw [this,Array.getElem?_toList,getElem?_pos acc' j h1]
   ·rw [Array.getElem?_toList,getElem?_neg acc' j hj,List.getElem?_eq_none (by rw [hl,<-hacc.1];lia)]
  refine AH ?_
  obtain⟨h3,g3,d3,tk3,os3⟩:=s'
  have eg:g3=s.gens:=hm.gens
  have ed:d3=d:=hm.drawn
  have eo:os3=s.os:=hm.os
  subst eg;subst ed;subst eo
  show Q acc'.toList _
  rw [e]
  refine hQ h3 tk3 d3 ord (λb o q=> ?_) hp
  have hblt:=AT q
  refine hm.heap b o (λhb=> ?_) (hk2 b o (AW hblt) q)
  rcases AU.mp hb with h|h
  ·exact absurd hblt (by rw [h];exact Nat.lt_irrefl _)
  ·rw [List.mem_singleton.mp h] at hblt;exact absurd hblt (Nat.not_lt.mpr (BA hIlt))
 refine wpAny_ite_split (λ_=> ?_) (λ_=>AH ⟨plainId_quiet PySem.F.plain_extend_loop _,key _ _ hst (λb o hb q=>hk _ _ (hk0 _ _ q)) (hk _ _ hS0)⟩)
 refine AD (wpAny_rule ?_)
 refine AD ?_
 show AF _ _ (updateSeq s.heap.objs.size (·.push .none)>>=λ_=>updateSeq s.heap.objs.size (·.pop)) _ _ _
 have hS1:=hk _ _ hS0
 refine AD (wpAny_updateSeq hS1 rfl ?_)
 have hS₂:=Heap.get?_update_self (Obj.mapSeq (·.push Value.none)) hS1 rfl
 refine wpAny_updateSeq (hz:=by seq_fits) hS₂ rfl ?_
 have hS₃:=Heap.get?_update_self (Obj.mapSeq (·.pop)) hS₂ rfl
 refine AH ⟨plainId_quiet PySem.F.plain_extend_loop _,key _ _ ?_ (λb o hb e=> ?_) hS₃⟩
 ·refine(W A.in1 hh).frame 0 _ _ hst λb hb o e=> ?_
  have hbS:b≠s.heap.objs.size:=λh=>hSf (h▸hb)
  exact(Heap.get?_update_other _ _ (Ne.symm hbS)).trans ((Heap.get?_update_other _ _ (Ne.symm hbS)).trans e)
 ·exact(Heap.get?_update_other _ _ (Ne.symm hb)).trans ((Heap.get?_update_other _ _ (Ne.symm hb)).trans (hk _ _ (hk0 _ _ e)))
theorem a91{l:AA}{C:List AA->Prop}{Q:AA->AC->Prop}
 (hcol:∀(Q':List AA->AC->Prop) (E':AA->AC->Prop),(∀h1 tk d vs,(∀b o,s.heap.get? b=ξ o->h1.get? b=ξ o)->C vs->Q' vs {s with heap:=h1,toks:=tk,drawn:=d})->AF (model prog w) A.in1 (collect l) Q' E' s)
 (hC:∀vs,C vs->vs.length<64/\∃ss,StrsAre vs ss)
 (h:∀(h1 h':Heap) (tk:Tok) d (e:Nat) (vs us:List AA) (ss:List Str),(∀b o',s.heap.get? b=ξ o'->h1.get? b=ξ o')->(∀b o',h1.get? b=ξ o'->h'.get? b=ξ o')->C vs->StrsAre vs ss->StrsAre us (a0q ss)->
  h'.get? h1.objs.size=ξ (seqObj "list" us.toArray e)->Q (.ref h1.objs.size) {s with heap:=h',toks:=tk,drawn:=d}):
 AF (model prog w) A (call (.builtin "sorted") [l]) Q E s:=by
 refine Calls.call_function_entry kind_sorted plain_sorted entry_sorted (args_sorted1 _) ?_
 unfold Builtin.«sorted»
 refine AD (m:=checkCount "sorted" 1 1 _) (AH ?_)
 refine AD (hcol _ _ λh1 tk d vs k1 hv=> ?_)
 obtain⟨h64,ss,hS⟩:=hC vs hv
 refine AD (wpAny_newList ?_ (by rw [sizeLine_eq];lia))
 have hoL:(h1.push (seqObj "list" vs.toArray 0)).get? h1.objs.size=ξ (seqObj "list" vs.toArray 0):=Aa _ rfl
 show AF _ _ _ _ _ {s with heap:=h1.push (seqObj "list" vs.toArray 0),toks:=tk,drawn:=d}
 refine AD (wpAny_holding (wpAny_call_entry slot_list_sort ⟨_,hoL,rfl⟩ entry_list_sort (list_sort_treeK strKind_oneLt hoL hS.keysOf (λv₁ v₂ rest e=>keyKind_strs (by rw [<-e];exact hS)) h64 λst' a1 a2=>⟨_,rfl, ?_⟩) (args_list_sort _)))
 obtain⟨ss',g1,g2,g3⟩:=sorted_out_str hS a1 a2
 have e1:ss'=a0q ss:=Y6 (a6p g3) (V0 ss) (g2.trans (Q7 ss).symm)
 subst e1
 obtain⟨e,he⟩:=sortedHeap_at (out:=(arrOf st').map (·.2)) hoL
 refine AH ⟨_,rfl,h h1 _ tk d e vs _ ss k1 (λb o' hb1=> ?_) hv hS g1 (by rw [Array.toArray_toList];exact he)⟩
 have hlt:=AT hb1
 rw [sortedHeap_old (AW hlt) (by rw [size_push'];exact Nat.lt_succ_of_lt hlt),Heap.get?_push_ne _ _ _ (AW hlt)]
 exact hb1
end
def b0B(x:Str):List Str->List Str
 |[]=>[x]
 |y::r=>if x=y then y::r else if y.cps.toList<x.cps.toList then y::b0B x r else x::y::r
def a1F:List Str->List Str
 |[]=>[]
 |x::r=>b0B x (a1F r)
theorem a5n(x z:Str):∀l:List Str,z∈b0B x l↔z=x\/z∈l
 |[]=>by simp [b0B]
 |y::r=>by
  unfold b0B;split
  ·rename_i c;subst c;rw [AU];exact⟨λh=> .inr h,λh=>h.elim .inl id⟩
  ·split
   ·rw [AU,a5n x z r,AU];exact⟨λh=>h.elim (λh=> .inr (.inl h)) λh=>h.elim .inl λh=> .inr (.inr h),λh=>h.elim (λh=> .inr (.inl h)) λh=>h.elim .inl λh=> .inr (.inr h)⟩
   ·rw [AU]
theorem a7G(z:Str):∀l:List Str,z∈a1F l↔z∈l
 |[]=>Iff.rfl
 |x::r=>by unfold a1F;rw [a5n,a7G z r,AU]
def ltS(a b:Str):Prop:=a.cps.toList<b.cps.toList
theorem b2W{a b c:Str}(h:ltS a b)(g:ltS b c):ltS a c:=List.lt_trans h g
theorem b1E(x:Str):∀{l:List Str},l.Pairwise ltS->(b0B x l).Pairwise ltS
 |[],_=>List.pairwise_singleton _ _
 |y::r,h=>by
  unfold b0B;have h':=List.pairwise_cons.mp h;split
  ·exact h
  ·rename_i c;split
   ·rename_i c2;refine List.pairwise_cons.mpr ⟨λz hz=> ?_,b1E x h'.2⟩;rcases(a5n x z r).mp hz with e|e
    ·subst e;exact c2
    ·exact h'.1 z e
   ·rename_i c2;have hxy:ltS x y:=by
     have h1:leS x y:=c2;rcases Classical.em (ltS x y) with h|h
     ·exact h
     ·exact absurd (a5v h1 h) c
    refine List.pairwise_cons.mpr ⟨λz hz=> ?_,h⟩;rcases AU.mp hz with e|e
    ·subst e;exact hxy
    ·exact b2W hxy (h'.1 z e)
theorem a6o:∀l:List Str,(a1F l).Pairwise ltS
 |[]=>List.Pairwise.nil
 |x::r=>b1E x (a6o r)
theorem b61(a:Str):¬ltS a a:=List.lt_irrefl _
theorem b5U{l:List Str}(h:l.Pairwise ltS):l.Nodup:=h.imp λ {a b} c e=>by subst e;exact b61 a c
theorem c1s{l:List Str}(h:l.Pairwise ltS):l.Pairwise leS:=h.imp λ {a b} c=>List.lt_asymm c
theorem b1a{l zs:List Str}(h:l.Pairwise leS)(nd:l.Nodup)(m:∀x,x∈l↔x∈zs):l=a1F zs:=
 Y6 h (c1s (a6o zs)) ((List.perm_ext_iff_of_nodup nd (b5U (a6o zs))).mpr λx=>(m x).trans (a7G x zs).symm)
def a1W(z:Str):List Str:=z.cps.toList.map λc=>(⟨#[c]⟩:Str)
theorem b7v(z x:Str):x∈sgs z z.cps.size↔x∈a1W z:=by
 unfold sgs a1W;rw [List.mem_reverse,Ay,Ay];constructor
 ·rintro⟨i,hi,rfl⟩;have hi:=List.mem_range.mp hi;refine⟨z.cps[i],by simp, ?_⟩
  unfold b3i;rw [Array.getD_eq_getD_getElem?,getElem?_pos z.cps i hi];rfl
 ·rintro⟨c,hc,rfl⟩;obtain⟨i,hi,rfl⟩:=List.getElem_of_mem hc;have hi':i<z.cps.size:=by simpa using hi
  refine⟨i,List.mem_range.mpr hi', ?_⟩;unfold b3i;rw [Array.getD_eq_getD_getElem?,getElem?_pos z.cps i hi'];rfl
def a5l(x:d7):Option d7:=match x with
 | .v (.str z)=>if z.length+1<4096/\(a1F (a1W z)).length<64 then ξ (.own ((a1F (a1W z)).map .str)) else ζ
 |_=>ζ
theorem a6q:∀{vs:List AA},(∀v∈vs,∃x t,v= .str x t)->StrsAre vs (vs.map sOf)
 |[],_=> .nil
 |v::r,h=>by
  obtain⟨x,t,rfl⟩:=h v Af;exact .cons x t (a6q λu hu=>h u (Ae _ hu))
theorem a4l:∀{vs:List AA} {ss:List Str},StrsAre vs ss->ss=vs.map sOf
 |_,_,.nil=>rfl
 |_,_,.cons x t h=>by rw [AQ,<-a4l h];rfl
section
variable {X:Cx}{pins:List (AB×Obj)}{σ:L2.St}{H:Hp}{s:AC}
theorem b6P(I:e9 X pins σ H s)(d:Drawn):e9 X pins σ H {s with drawn:=d}:=⟨I.ok,I.os,I.bare,I.base,I.loc,I.cell,I.free,I.freeC,I.pin,I.hok,I.len⟩
def c1b(X:Cx):List V->Hp->VK->Prop:=λxs H Q=>∃z:Str,xs=[.str z]/\z.length+1<4096/\∀p es ep,H p=ζ->TxE es (a1W z)->es.size<=z.length->Q (.ref p) (i7 H p (.ext λh=>G0 X.prog X.w h p es ep))
theorem b2p(hc:X.calm=true):M8 X (.type "set") (c1b X):=by
 intro pins s σ H xs us Q I rv h;obtain⟨z,rfl,hz,q⟩:=h;obtain⟨u,rfl,ru⟩:=a1G rv;obtain⟨t,rfl⟩:=ru;refine c1e (I.ok.hd hc) (by unfold scanBound;exact hz) λh' tk es ep hS hT hle hk=> ?_
 refine⟨.ref s.heap.objs.size,_,I.laid (a:=s.heap.objs.size) (t':=tk) (o:= .ext λh=>G0 X.prog X.w h s.heap.objs.size es ep) (λb o e=>hk b o (AT e) e) (AN _) ⟨hS, ?_, ?_⟩,rfl,q _ es ep (I.hok.fresh (AN _)) ⟨hT.all,hT.nd,λx=>(hT.mem x).trans (b7v z x)⟩ hle⟩
 ·obtain⟨o,_,ho,_⟩:=hS;exact⟨o,ho⟩
 ·exact λh1 h2 p k=>p.at' k
def b9P(X:Cx):List V->Hp->VK->Prop:=λxs H Q=>∃p es ep zs,xs=[.ref p]/\H p=ξ (.ext λh=>G0 X.prog X.w h p es ep)/\TxE es zs/\(a1F zs).length<64/\∀q,H q=ζ->Q (.ref q) (i7 H q (.lst ((a1F zs).map V.str)))
theorem b0l(hc:X.calm=true):M8 X (.builtin "sorted") (b9P X):=by
 intro pins s σ H xs us Q I rv h;obtain⟨p,es,ep,zs,rfl,hp,hT,h64,q⟩:=h;obtain⟨u,rfl,ru⟩:=a1G rv;cases ru;obtain⟨hS,_,_⟩:=(show v4 X.prog X.w H s.heap p (.ext λh=>G0 X.prog X.w h p es ep) from I.hok p _ hp);have facts:∀vs:List AA,vs.Perm (es.toList.map (·.2))->StrsAre vs (vs.map sOf)/\a0q (vs.map sOf)=a1F zs:=λvs pm=>by
  refine⟨a6q λv hv=> ?_, ?_⟩
  ·obtain⟨e,he,rfl⟩:=Ay.mp (pm.mem_iff.mp hv);exact hT.all e he
  ·have pk:(a0q (vs.map sOf)).Perm (a5t es):=by
    refine(Q7 _).trans ?_;have:=pm.map sOf;rw [BG] at this;exact this
   exact b1a (V0 _) (pk.nodup_iff.mpr hT.nd) λx=>(pk.mem_iff).trans (hT.mem x)
 refine a91 (C:=λvs=>vs.Perm (es.toList.map (·.2))) (λQ' E' hq=>b2q (A:=X.A.in1) (I.ok.hd hc) hS λh' tk d ord kp pm=>hq h' tk d ord kp pm) (λvs pm=> ?_) λhp1 hp2 tk d en vs us ss k1 k2 pm hs hu he=> ?_
 ·obtain⟨f1,f2⟩:=facts vs pm;refine⟨?_,_,f1⟩;have:=(Q7 (vs.map sOf)).length_eq;rw [f2,AV] at this
  lia
 ·obtain⟨f1,f2⟩:=facts vs pm;cases a4l hs;rw [f2] at hu;have I1:e9 X pins σ H {s with heap:=hp1,toks:=tk,drawn:=d}:=b6P (I.kept (t':=tk) k1) d
  have hf:H hp1.objs.size=ζ:=I1.hok.fresh (AN _);exact⟨.ref hp1.objs.size,_,I1.laid (t':=tk) (h':=hp2) (o:= .lst ((a1F zs).map V.str)) k2 (AN _) ⟨by rw [AV,sizeLine_eq];lia,us,en,a3V hu,he⟩,rfl,q _ hf⟩
theorem b0r{e:AG}{m:M}{p p2 pos pos2:Pos}(hc:X.calm=true)(hg:Gl X "sorted")(hm:X.mg "sorted"=ζ)(hg2:Gl X "set")(hm2:X.mg "set"=ζ)(ha:EE X e m)
 (hv:bootBuiltins "sorted"=ξ (.builtin "sorted"):=by rfl) (hv2:bootBuiltins "set"=ξ (.type "set"):=by rfl)
 (hs:AL [e] X.env=(false,eval e X.env)::AL [] X.env:=by rfl) (hpl:(backTo pos2 (AL [] X.env)).any (·.1)=false:=by rfl)
 (hs2:AL [.Call (.Name "set" p2) [e] [] pos2] X.env=(false,eval (.Call (.Name "set" p2) [e] [] pos2) X.env)::AL [] X.env:=by rfl) (hpl2:(backTo pos (AL [] X.env)).any (·.1)=false:=by rfl):
 EE X (.Call (.Name "sorted" p) [.Call (.Name "set" p2) [e] [] pos2] [] pos) (m1 a5l m):=
 m6 (a1s (b0l hc) hg hm hv (u7 (a7t (b2p hc) hg2 hm2 hv2 (u7 ha M6 hs) (by decide) (by decide) hs hpl) M6 hs2) (by decide) (by decide) hs2 hpl2) λσ H Q h0=>k4 h0 λF ρ r en em k=>by
  obtain⟨rx,e1,e2⟩:=bind_some em;refine⟨F,ρ,rx,en,e1,λv F1 H1 o1=> ?_⟩;unfold a5l at e2;split at e2
  ·rename_i z;split at e2
   ·rename_i c;cases e2;refine⟨z,by rw [show v=V.str z from o1.rep],c.1,λp es ep hp hT hle=> ?_⟩
    refine⟨p,es,ep,a1W z,rfl,c8,hT,c.2,λq hq=>k _ F1 _ ?_⟩;have s1:g8 F1 (i7 H1 p (.ext λh=>G0 X.prog X.w h p es ep)):=o1.x.fh.trans (y3 hp);have x1:R5 F1 H1 F1 (i7 H1 p (.ext λh=>G0 X.prog X.w h p es ep)):=R5.layH o1.x.fh hp;exact o9.trans (o1.x.trans x1) (o9.lst x1.fh hq (a3Q _))
   ·cases e2
  ·cases e2
end
open PySem PySem.Spec PyProof.Rows L2
def unE:List (PV×PV)->Option (List (List f6×PV))
 |[]=>ξ []
 |(.tuple ks,p)::r=>(keysOf ks).bind λk=>(unE r).map λt=>(k,p)::t
 |_::_=>ζ
theorem a1l:∀k:List f6,keysOf (k.map kP)=ξ k
 |[]=>rfl
 | .inl i::k=>by
   rw [AQ];unfold keysOf;rw [a1l k]
   rfl
 | .inr x::k=>by
   rw [AQ];unfold keysOf;rw [a1l k]
   rfl
theorem a4K{K:AE}{F:Hp}:∀{es:List (PV×PV)} {xs:List (List f6×V)},a0v K F es xs->∃kvs,unE es=ξ kvs/\p7 K F kvs xs
 |[],_,h=>by cases h;exact⟨[],rfl,rfl⟩
 |(k,p)::es,_,⟨kk,v,t,e,z,q,h⟩=>by
  subst e;subst z;obtain⟨kvs,h1,h2⟩:=a4K h;refine⟨(kk,p)::kvs, ?_,v,t,rfl,q,h2⟩;unfold unE;rw [a1l,h1]
  rfl
abbrev dv(kvs:List (List f6×PV)):PV:= .dict ((.tuple [],.none)::kvs.map λkv=>(PyData.tuple (kv.1.map kP),kv.2))
def dvw(i:Nat)(ρ:b9):Option (List (List f6×PV)):=match ρ[i]? with
 |some (ξ (.v (.dict ((.tuple [],.none)::es))))=>unE es
 |_=>ζ
theorem _root_.L2.a1X.r{K:AE}{H:Hp}{a b:AB}{kvs:List (List f6×V)}{k:List f6}(e:Rd H a (.dT K kvs))(eb:KyA K H b k):a1X K H a (.ref b) (P6 kvs k):= .inr ⟨kvs,k,b,e,rfl,eb,rfl⟩
theorem b0p{K:AE}{F H:Hp}{σ:L2.St}{ρ:b9}(en:C9 K F H σ ρ){i:Nat}{kvs:List (List f6×PV)}(h:dvw i ρ=ξ kvs):∃a xs,σ[i]?=ξ (ξ (.ref a))/\Rd F a (.dT K xs)/\p7 K F kvs xs:=by
 unfold dvw at h;split at h
 ·rename_i es eo;obtain⟨v,hv,hr⟩:=en.at_ i _ eo;rcases hr with⟨a,ys,rfl,ha,kk,w,t,e,z,_,hr⟩|⟨a,xs,rfl,ha,kk,w,t,e,_,_,hr⟩|⟨x,t,e,_⟩|⟨x,m,fs,_,_,_,_,_,e,_⟩
  ·cases ys with
   |nil=>cases e
   |cons y ys=>
    cases e;cases z
  ·cases e;obtain⟨kvs',h1,h2⟩:=a4K hr;rw [h] at h1;cases h1;exact⟨a,_,hv,ha,h2⟩
  ·cases e
  ·cases e
 ·cases h
section
variable {X:Cx}
def b4G(i:Nat)(mk:MA):M:=λρ=>(mk ρ).bind λks=>if ks.length<=5 then(keysOf ks).bind λk=>(dvw i ρ).bind λkvs=>(S4 kvs k).map .v else ζ
theorem b3Y(i:Nat){x:Str}{p tp pos:Pos}{es:List AG}{x1}{mk:MA}(hu:X.A.units+64<cLine)(hx:PE X (.Name x p) (C7 i))(hi:EA X es mk)(hs:b0g (.Tuple es x1 tp):=by intro _ _;rfl):EE X (.Subscript (.Name x p) (.Tuple es x1 tp) pos) (b4G i mk):=
 m6 (a26 (by lia) hx (b5d hi) hs) λσ H Q h0=>k4 h0 λF ρ r en e k=>by
  obtain⟨ks,e1,e⟩:=bind_some e;split at e
  ·rename_i hl;obtain⟨kk,e2,e⟩:=bind_some e;obtain⟨kvs,e3,e⟩:=bind_some e;cases hv:S4 kvs kk with
   |none=>rw [hv] at e;cases e
   |some q=>
    rw [hv] at e;cases e;obtain⟨a,xs,hw1,ha',rl⟩:=b0p en e3;obtain⟨y,hy,ry⟩:=(rl.val (k:=kk)).1 q hv;refine⟨.ref a,hw1,F,ρ,ks,en,e1,λvs F3 H3 x3 rl3=>⟨by rw [rl3.length];exact le5 hl,λb hb=> ?_⟩⟩
    have ev:=Q6 e2 rl3;have ha3:=a29 x3.h (a29 en.fh ha');have hne:a≠b:=λh=>by subst h;rcases ha3 with z|⟨_,z⟩<;>(rw [hb] at z;cases z)
    have ha4:Rd (i7 H3 b (.tup vs)) a (.dT X.K xs):=ha3.imp (λz=>by rw [a9 hne];exact z) λ⟨o,z⟩=>⟨o,by rw [a9 hne];exact z⟩
    have xx:=x3.trans (R5.lay (o:= .tup vs) x3.fh hb);exact⟨a,y,rfl,by rw [<-hy];exact a1X.r ha4 (KyA.tup (by rw [c8,ev]) (by have:=rl3.length;rw [ev,AV] at this;lia)),k _ _ _ (o9.val xx (A5.mono xx.f _ ry))⟩
  ·cases e
end
mutual
def nd:PV->Bool
 | .list ps=>ndL ps
 | .tuple ps=>ndL ps
 | .dict ((.tuple _,_)::_)=>false
 | .dict ((.str _,.bool false)::_)=>false
 | .dict ((.str _,.int _)::_)=>false
 |_=>true
def ndL:List PV->Bool
 |[]=>true
 |p::ps=>nd p && ndL ps
end
def ndD:List (List f6×PV)->Bool
 |[]=>true
 |(_,p)::r=>nd p && ndD r
def d7.noD:d7->Bool
 | .v p=>nd p
 | .ow (.lst ps)=>ndL ps
 | .ow (.dct kvs)=>ndD kvs
 | .ow (.txt kvs)=>ndD kvs
 | .bo _=>false
section
variable {K:AE}{F:Hp}{a:AB}{xs:List (List f6×V)}
mutual
theorem a54(ha:F a=ξ (.dT K xs)):∀(p:PV) {v:V},A5 K F p v->nd p=true->A5 K (drp F a) p v
 | .none,_,h,_=>h
 | .bool _,_,h,_=>h
 | .int _,_,h,_=>h
 | .str _,_,h,_=>h
 | .list ps,_,⟨b,ys,e,q,r⟩,n=>⟨b,ys,e,(by
  rcases q with(q|⟨o,q⟩)|q
  ·exact .inl (.inl (by rw [z7 (A0 q ha (λz=>nomatch z))];exact q))
  ·exact .inl (.inr ⟨o,by rw [z7 (A0 q ha (λz=>nomatch z))];exact q⟩)
  ·exact .inr q),a1T ha ps r (by simpa [nd] using n)⟩
 | .tuple ps,_,⟨b,ys,e,q,r⟩,n=>⟨b,ys,e,(by
  rcases q with q|q
  ·exact .inl (by rw [z7 (A0 q ha (λz=>nomatch z))];exact q)
  ·exact .inr q),a1T ha ps r (by simpa [nd] using n)⟩
 | .dict kvs,_,h,n=>by
   rcases h with⟨b,ys,q,h,hr⟩|⟨b,ys,q,h,hr⟩|⟨x,t,e,h|⟨z,b,C,φ,q,h,r⟩⟩|⟨x,m,fs,h,hr⟩
   ·cases kvs with
    |nil=>
     have e0:ys=[]:=List.map_eq_nil_iff.mp hr;subst e0;exact .inl ⟨b,[],q,by rw [z7 (A0 h ha (λz=>nomatch z))];exact h,rfl⟩
    |cons f fs=>
     exfalso
     obtain⟨k,p⟩:=f;obtain⟨kk,w,t,e,z,_⟩:=hr;subst z;simp [nd] at n
   ·exfalso
    cases kvs with
    |nil=>cases hr
    |cons f fs=>
     obtain⟨k,p⟩:=f;obtain⟨kk,w,t,e,z,_⟩:=hr;subst z;simp [nd] at n
   ·exact .inr (.inr (.inl ⟨x,t,e,.inl h⟩))
   ·exact .inr (.inr (.inl ⟨x,t,e,.inr ⟨z,b,C,φ,q,by rw [z7 (A0 h ha (λz=>nomatch z))];exact h,r⟩⟩))
   ·exfalso
    cases kvs with
    |nil=>cases hr
    |cons f fs'=>
     obtain⟨k,p⟩:=f;obtain⟨f',v',t',e,z,q,_⟩:=hr;subst z;cases e;rcases h with⟨rfl,_⟩|⟨rfl,_⟩
     ·cases p with
      |bool b=>cases q;simp [nd] at n
      |tuple _=>obtain⟨_,_,e,_⟩:=q;cases e
      |list _=>obtain⟨_,_,e,_⟩:=q;cases e
      |dict _=>
       rcases q with⟨_,_,e,_⟩|⟨_,_,e,_⟩|⟨_,_,_,q⟩|⟨_,_,_,q,_⟩
       ·cases e
       ·cases e
       ·ext l
       ·ext l
      |_=>cases q
     ·cases p with
      |int b=>simp [nd] at n
      |tuple _=>obtain⟨_,_,e,_⟩:=q;cases e
      |list _=>obtain⟨_,_,e,_⟩:=q;cases e
      |dict _=>
       rcases q with⟨_,_,e,_⟩|⟨_,_,e,_⟩|⟨_,_,_,q⟩|⟨_,_,_,q,_⟩
       ·cases e
       ·cases e
       ·ext l
       ·ext l
      |_=>cases q
theorem a1T(ha:F a=ξ (.dT K xs)):∀(ps:List PV) {vs:List V},h9 K F ps vs->ndL ps=true->h9 K (drp F a) ps vs
 |[],_,h,_=>h
 |p::ps,_,⟨v,r,e,q,t⟩,n=>by
  simp only [ndL,Bool.and_eq_true] at n;exact⟨v,r,e,a54 ha p q n.1,a1T ha ps t n.2⟩
end
theorem a3O(ha:F a=ξ (.dT K xs)):∀(kvs:List (List f6×PV)) {ys:List (List f6×V)},p7 K F kvs ys->ndD kvs=true->p7 K (drp F a) kvs ys
 |[],_,h,_=>h
 |(k,p)::r,_,⟨v,t,e,q,h⟩,n=>by
  simp only [ndD,Bool.and_eq_true] at n;exact⟨v,t,e,a54 ha p q n.1,a3O ha r h n.2⟩
theorem b3d{H:Hp}{v:V}(ha:F a=ξ (.dT K xs)):∀{r:d7},K8 K F H v r->r.noD=true->K8 K (drp F a) H v r
 | .v p,h,n=>a54 ha p h n
 | .ow (.lst ps),⟨b,ys,e,f,q,r⟩,n=>⟨b,ys,e,O3 f,q,a1T ha ps r n⟩
 | .ow (.dct kvs),⟨b,ys,e,f,q,r⟩,n=>⟨b,ys,e,O3 f,q,a3O ha kvs r n⟩
 | .ow (.txt kvs),⟨b,ys,e,f,q,r⟩,n=>⟨b,ys,e,O3 f,q,a3O ha kvs r n⟩
 | .bo _,_,n=>nomatch n
end
def b1N(g:List PV->Option d7)(i:Nat)(m:M):M:=λρ=>((m ρ).bind d7.toVal).bind λp=>match ρ[i]? with
 |some (ξ (.ow (.dct kvs)))=>(g [p,dv kvs]).bind λr=>if r.noD=true then ξ r else ζ
 |_=>ζ
section
variable {X:Cx}
theorem a7f{K:AE}{F2 H1 F3 H3:Hp}{a:AB}{xs:List (List f6×V)}{u:V}{r:d7}(fa:F2 a=ζ)(o3:o9 K (i7 F2 a (.dT K xs)) H1 F3 H3 u r)(c:r.noD=true):o9 K F2 H1 (drp F3 a) H3 u r:=by
 have up:g8 F2 (i7 F2 a (.dT K xs)):=y3 fa;refine⟨⟨λb o z=> ?_,o3.x.h,λb o z=> ?_,λb o z y t=> ?_,λb w u z=> ?_⟩,b3d (o3.x.f _ _ c8) o3.rep c,o3.fr⟩
 ·have hb:b≠a:=f7 z fa;rw [z7 hb];exact o3.x.f _ _ (up _ _ z)
 ·by_cases hb:b=a
  ·subst hb;rw [O4] at z;cases z
  ·rw [z7 hb] at z;exact o3.x.fh _ _ z
 ·by_cases hb:b=a
  ·subst hb;exact O4
  ·rw [z7 hb];exact o3.x.nw b o (by rw [a9 hb];exact z) y t
 ·by_cases hb:b=a
  ·subst hb;rw [O4] at z;cases z
  ·rw [z7 hb] at z;have:=o3.x.nf _ _ _ z;rw [a9 hb] at this;exact this
theorem b6Z{K:AE}{F2 H1:Hp}{a:AB}{xs:List (List f6×V)}(fh:g8 F2 H1)(ha:H1 a=ξ (.dT K xs)):g8 (i7 F2 a (.dT K xs)) H1:=λb o z=>by
 by_cases hb:b=a
 ·subst hb;rw [c8] at z;cases z;exact ha
 ·rw [a9 hb] at z;exact fh _ _ z
theorem a9x{K:AE}{F2:Hp}{a:AB}{xs:List (List f6×V)}{kvs:List (List f6×PV)}(fa:F2 a=ζ)(rl:p7 K F2 kvs xs):A5 K (i7 F2 a (.dT K xs)) (dv kvs) (.ref a):=Or.inr (Or.inl ⟨a,xs,rfl,.inl c8,[],.non,xs,rfl,rfl,rfl,a0v.of (y3 fa) rl⟩)
theorem b3W(i:Nat){k k':Nat}{pa pb:Str}{g:List PV->Option d7}{x y:Str}{p py pos:Pos}{e:AG}{m:M}
 (d:m4 X.prog X.w X.K X.mg X.base x [pa,pb] k g) (hr:D2 k' X.A) (hk:k<=k') (hg:Gl X x) (ha:EE X e m) (hy:PE X (.Name y py) (C7 i))
 (hdb:(x==("__debug__":Str))=false:=by decide) (he:AL [e,.Name y py] X.env=(false,eval e X.env)::AL [.Name y py] X.env:=by rfl) (he2:AL [.Name y py] X.env=(false,eval (.Name y py) X.env)::AL [] X.env:=by rfl)
 (hpl:(backTo pos (AL [.Name y py] X.env)).any (·.1)=false:=by rfl):
 EE X (.Call (.Name x p) [e,.Name y py] [] pos) (b1N g i m):=by
 obtain⟨f,fd,G,h1,h2,h3⟩:=d
 refine m6 (a24 G (hr.mono hk) hg h1 h2 h3 .nil a7s (u7 ha (u7 hy M6 he2) he) hdb he hpl) λσ H Q h0=>k4 h0 λF ρ r en hm kq=> ?_
 obtain⟨q,e1,hm⟩:=bind_some hm
 obtain⟨rq,e2,e3'⟩:=bind_some e1
 split at hm
 ·rename_i kvs eo
  obtain⟨r',e7,hm⟩:=bind_some hm
  split at hm
  ·rename_i c
   cases hm
   refine⟨F,ρ,rq,en,e2,λv F1 H1 o1=> ?_⟩
   obtain⟨F2,o2⟩:=o1.toVal e3'
   have en2:=en.ext o2.x
   obtain⟨w,hw,a,xs,rfl,fa,ha',rl⟩:=en2.at_ i _ eo
   refine⟨.ref a,hw, ?_⟩
   show spP X.K 2 g ([v,.ref a]++[]) H1 Q E0
   rw [Ad]
   have up:g8 F2 (i7 F2 a (.dT X.K xs)):=y3 fa
   exact⟨i7 F2 a (.dT X.K xs),[q,dv kvs],_,b6Z o2.x.fh ha',⟨v,[.ref a],rfl,A5.mono up _ o2.rep,.ref a,[],rfl,a9x fa rl,rfl⟩,rfl,e7,λu F5 H5 o5=>kq u (drp F5 a) H5 (o9.trans o2.x (a7f fa o5 c))⟩
  ·cases hm
 ·cases hm
end
section
variable {prog:AJ}{w:AI}{A:AK}{E:AA->AC->Prop}{s:AC}
end
section
variable {X:Cx}{pins:List (AB×Obj)}{σ:L2.St}{H:Hp}{s:AC}{a:AB}{kvs:List (List f6×V)}{A:AK}{E:AA->AC->Prop}
end
section
variable {X:Cx}{o i:AG}{td ty:TE}
end
section
variable {X:Cx}
end
theorem a8I(k:f6):∀xs:List (f6×V),P6 (xs.map s1) [k]=P6 xs k
 |[]=>rfl
 |x::r=>by
  rw [AQ]
  by_cases c:x.1=k
  ·rw [a0t (p:=x) c,a0t (p:=s1 x) (by show [x.1]=[k];rw [c])];rfl
  ·rw [a0s (p:=x) c,a0s (p:=s1 x) (by show ¬[x.1]=[k];intro h;exact c (List.cons.inj h).1),a8I k r]
theorem b3K(k:f6):∀xs:List (f6×V),((xs.map s1).any λkv=>decide (kv.1=[k]))=(xs.any λkv=>decide (kv.1=k))
 |[]=>rfl
 |x::r=>by
  rw [AQ,List.any_cons,List.any_cons,b3K k r]
  congr 1
  show decide ([x.1]=[k])=decide (x.1=k);simp
theorem b14(k:f6)(v:V):∀xs:List (f6×V),(xs.map λkv=>if kv.1=k then(kv.1,v) else kv).map s1=(xs.map s1).map λkv=>if kv.1=[k] then(kv.1,v) else kv
 |[]=>rfl
 |x::r=>by
  rw [AQ,AQ,AQ,AQ,b14 k v r]
  congr 1
  by_cases c:x.1=k
  ·rw [if_pos c,if_pos (show(s1 x).1=[k] by show [x.1]=[k];rw [c])];rfl
  ·rw [if_neg c,if_neg (show ¬(s1 x).1=[k] by show ¬[x.1]=[k];intro h;exact c (List.cons.inj h).1)]
theorem b9M(k:f6)(v:V)(xs:List (f6×V)):(a0K xs k v).map s1=a0K (xs.map s1) [k] v:=by
 unfold a0K;rw [b3K];split
 ·exact b14 k v xs
 ·rw [BD];rfl
theorem o9.txt{K:AE}{F H:Hp}{a:AB}(s:g8 F H)(n:H a=ζ):o9 K F H F (i7 H a (.dK [])) (.ref a) (.ow (.txt [])):=
 ⟨R5.layH s n,⟨a,[],rfl,s.free n,c8,rfl⟩,λ_ _ _ e=>by cases e;exact n⟩
theorem a9s{K:AE}{F H:Hp}{r:d7}{x:Str}{v:V}(e:b6W r=ξ x)(h:K8 K F H v r):v=kV (.inr x):=by
 unfold b6W at e;split at e
 ·cases e;exact h
 ·cases e
section
variable {X:Cx}
def c0U:M:=λ_=>ξ (.ow (.txt []))
theorem b8M{pos:Pos}:EE X (.Dict [] [] pos) c0U:=
 m6 b5a λσ H Q h0=>k4 h0 λF ρ r en e k=>by
  cases e;exact λd hd=>k _ _ _ (o9.txt en.fh hd)
def b8n(i:Nat)(ρ:b9)(p:PV)(x:Str):Option Fl:=match ρ[i]? with
 |some (ξ (.ow (.txt kvs)))=>if kvs.length<AM then ξ (.nx (ρ.set i (ξ (.ow (.txt (b7l kvs [.inr x] p)))))) else ζ
 |_=>ζ
def b8c(i:Nat)(mk mv:M):MS:=λρ=>((mv ρ).bind d7.toVal).bind λp=>((mk ρ).bind b6W).bind (b8n i ρ p)
theorem b6A(i:Nat){x:Str}{p tp2 pos:Pos}{ek e:AG}{mk mv:M}(hu:X.A.units+64<cLine)(hx:PE X (.Name x p) (C7 i))(hi:EE X ek mk)(he:EE X e mv)
 (hs:swapsWith e (ξ (.Subscript (.Name x p) ek tp2)) pos.line X.env=pure false:=by rfl):ES X (.Assign [.Subscript (.Name x p) ek tp2] e pos) (b8c i mk mv):=
 C6 (b1Z (by lia) hx hi he hs) λD σ H h0=>E9 h0 λF0 H0 F ρ fl so e fin=>by
  obtain⟨q,e1,e⟩:=bind_some e;obtain⟨r,e2,e3⟩:=bind_some e1;obtain⟨k,e4,e⟩:=bind_some e;obtain⟨rk,e4,e5⟩:=bind_some e4;refine⟨F,ρ,r,so.e,e2,λv F1 H1 o=> ?_⟩;obtain⟨F2,o2⟩:=o.toVal e3;have so2:=so.ext o2.x;unfold b8n at e;split at e
  ·rename_i kvs eo;split at e
   ·rename_i hl;cases e;obtain⟨w,hw1,a,xs,rfl,fa,ha',rl⟩:=so2.e.at_ i _ eo;refine⟨.ref a,hw1,F2,ρ,rk,so2.e,e4,λy F3 H3 o3=> ?_⟩;cases a9s e5 o3.rep;have ha3:=o3.x.h _ _ ha';have so3:=so2.ext o3.x;have hlen:xs.length=kvs.length:=by have:=rl.length;rwa [AV] at this
    refine⟨a,_,rfl,a8P.k (k:= .inr k) ha3 (by rw [hlen];exact hl), ?_⟩
    refine fin σ _ _ (o2.x.f.trans o3.x.f) (so3.putT eo hw1 ?_);rw [b9M];exact(p7.mono o3.x.f _ rl).put (A5.mono o3.x.f _ o2.rep)
   ·cases e
  ·cases e
def b8m(i:Nat)(ρ:b9)(x:Str):Option d7:=match ρ[i]? with
 |some (ξ (.ow (.txt kvs)))=>(S4 kvs [.inr x]).map .v
 |_=>ζ
def b8b(i:Nat)(mk:M):M:=λρ=>((mk ρ).bind b6W).bind (b8m i ρ)
theorem b6z(i:Nat){x:Str}{p pos:Pos}{ek:AG}{mk:M}(hu:X.A.units+64<cLine)(hx:PE X (.Name x p) (C7 i))(hi:EE X ek mk)(hs:b0g ek:=by intro _ _;rfl):EE X (.Subscript (.Name x p) ek pos) (b8b i mk):=
 m6 (a26 (by lia) hx hi hs) λσ H Q h0=>k4 h0 λF ρ r en e k=>by
  obtain⟨kk,e4,e⟩:=bind_some e;obtain⟨rk,e4,e5⟩:=bind_some e4;unfold b8m at e;split at e
  ·rename_i kvs eo;cases hv:S4 kvs [.inr kk] with
   |none=>rw [hv] at e;cases e
   |some q=>
    rw [hv] at e;cases e;obtain⟨w,hw1,a,xs,rfl,fa,ha',rl⟩:=en.at_ i _ eo;obtain⟨y,hy,ry⟩:=(rl.val (k:=[.inr kk])).1 q hv;rw [a8I] at hy;refine⟨.ref a,hw1,F,ρ,rk,en,e4,λz F3 H3 o3=> ?_⟩;cases a9s e5 o3.rep;exact⟨a,y,rfl,by rw [<-hy];exact a1X.k (o3.x.h _ _ ha'),k _ _ _ (o9.val o3.x (A5.mono o3.x.f _ ry))⟩
  ·cases e
end
section
variable {prog:AJ}{w:AI}{K:Type}[DecidableEq K]{knd:KeyKind prog w K}{A:AK}{E:AA->AC->Prop}{s:AC}
end
section
variable {prog:AJ}{w:AI}{A:AK}{E:AA->AC->Prop}{s:AC}
end
end PU
namespace TS
open PySem PySem.Spec PyProof.Rows L2 PU
section
variable {prog:AJ}{w:AI}{A:AK}{E:AA->AC->Prop}{s:AC}
variable {κ:SortKind}{S:Heap->Keyed->Prop}{R:Heap->Keyed->Keyed->Bool}
end
end TS
namespace PU
open PySem PySem.Spec PyProof.Rows L2 PySem.W
section
variable {X:Cx}{pins:List (AB×Obj)}{σ:L2.St}{H H':Hp}{s:AC}{h':Heap}
end
theorem b4z{k:f6}{u:AA}(h:a2T k u=true):j3 (kV k) u:=by
 rcases u6 h with⟨i,t,rfl,rfl⟩|⟨x,t,rfl,rfl⟩
 ·exact⟨t,rfl⟩
 ·exact⟨t,rfl⟩
section
variable {X:Cx}
end
open PySem PySem.Spec PyProof.Rows L2
section
variable {X:Cx}{pins:List (AB×Obj)}{σ:L2.St}{H:Hp}{s:AC}{a:AB}{kvs:List (f6×V)}{k:f6}{v:V}{u r:AA}{A:AK}{E:AA->AC->Prop}
end
section
variable {X:Cx}{pins:List (AB×Obj)}{σ:L2.St}{A:AK}{R:Result->AC->Prop}
end
section
variable {X:Cx}
end
abbrev tv(kvs:List (List f6×PV)):PV:= .dict (kvs.map λkv=>(PyData.tuple (kv.1.map kP),kv.2))
def c0Z(kvs:List (List f6×PV)):Bool:=kvs.all λkv=>kv.1.length==1
def tvw(i:Nat)(ρ:b9):Option (List (List f6×PV)):=match ρ[i]? with
 |some (ξ (.v (.dict es)))=>(unE es).bind λkvs=>if c0Z kvs=true then ξ kvs else ζ
 |_=>ζ
theorem b5Q{K:AE}{F H:Hp}{σ:L2.St}{ρ:b9}(en:C9 K F H σ ρ){i:Nat}{kvs:List (List f6×PV)}(h:tvw i ρ=ξ kvs):∃a xs,σ[i]?=ξ (ξ (.ref a))/\F a=ξ (.dK xs)/\p7 K F kvs (xs.map s1):=by
 unfold tvw at h;split at h
 ·rename_i es eo;obtain⟨kvs',e1,h⟩:=bind_some h;split at h
  ·rename_i ho;cases h;obtain⟨v,hv,hr⟩:=en.at_ i _ eo;rcases hr with⟨a,ys,rfl,ha,hr⟩|⟨a,xs,rfl,ha,hr⟩|⟨x,t,e,_⟩|⟨x,m,fs,_,hr⟩
   ·obtain⟨kvs',h1,h2⟩:=a4K hr;rw [e1] at h1;cases h1;exact⟨a,ys,hv,ha,h2⟩
   ·exfalso
    obtain⟨kvs',h1,h2⟩:=a4K hr;rw [e1] at h1;cases h1;cases kvs with
    |nil=>cases h2
    |cons f fs=>
     obtain⟨k,p⟩:=f;obtain⟨v,t,e,_⟩:=h2;cases e;simp [c0Z] at ho
   ·subst e;simp [unE] at e1
   ·cases es with
    |nil=>cases hr
    |cons f es=>obtain⟨k,p⟩:=f;obtain⟨_,_,_,_,z,_⟩:=hr;subst z;simp [unE] at e1
  ·cases h
 ·cases h
section
variable {X:Cx}
end
mutual
def nk:PV->Bool
 | .list ps=>nkL ps
 | .tuple ps=>nkL ps
 | .dict _=>false
 |_=>true
def nkL:List PV->Bool
 |[]=>true
 |p::ps=>nk p && nkL ps
end
def nkD:List (List f6×PV)->Bool
 |[]=>true
 |(_,p)::r=>nk p && nkD r
def d7.noK:d7->Bool
 | .v p=>nk p
 | .ow (.lst ps)=>nkL ps
 | .ow (.dct kvs)=>nkD kvs
 | .ow (.txt kvs)=>nkD kvs
 | .bo _=>false
section
variable {K:AE}{F:Hp}{a:AB}{xs:List (f6×V)}
mutual
theorem a55(ha:F a=ξ (.dK xs)):∀(p:PV) {v:V},A5 K F p v->nk p=true->A5 K (drp F a) p v
 | .none,_,h,_=>h
 | .bool _,_,h,_=>h
 | .int _,_,h,_=>h
 | .str _,_,h,_=>h
 | .list ps,_,⟨b,ys,e,q,r⟩,n=>⟨b,ys,e,(by
  rcases q with(q|⟨o,q⟩)|q
  ·exact .inl (.inl (by rw [z7 (A0 q ha (λz=>nomatch z))];exact q))
  ·exact .inl (.inr ⟨o,by rw [z7 (A0 q ha (λz=>nomatch z))];exact q⟩)
  ·exact .inr q),a1U ha ps r (by simpa [nk] using n)⟩
 | .tuple ps,_,⟨b,ys,e,q,r⟩,n=>⟨b,ys,e,(by
  rcases q with q|q
  ·exact .inl (by rw [z7 (A0 q ha (λz=>nomatch z))];exact q)
  ·exact .inr q),a1U ha ps r (by simpa [nk] using n)⟩
 | .dict kvs,_,h,n=>by simp [nk] at n
theorem a1U(ha:F a=ξ (.dK xs)):∀(ps:List PV) {vs:List V},h9 K F ps vs->nkL ps=true->h9 K (drp F a) ps vs
 |[],_,h,_=>h
 |p::ps,_,⟨v,r,e,q,t⟩,n=>by
  simp only [nkL,Bool.and_eq_true] at n;exact⟨v,r,e,a55 ha p q n.1,a1U ha ps t n.2⟩
end
theorem a3P(ha:F a=ξ (.dK xs)):∀(kvs:List (List f6×PV)) {ys:List (List f6×V)},p7 K F kvs ys->nkD kvs=true->p7 K (drp F a) kvs ys
 |[],_,h,_=>h
 |(k,p)::r,_,⟨v,t,e,q,h⟩,n=>by
  simp only [nkD,Bool.and_eq_true] at n;exact⟨v,t,e,a55 ha p q n.1,a3P ha r h n.2⟩
theorem b3e{H:Hp}{v:V}(ha:F a=ξ (.dK xs)):∀{r:d7},K8 K F H v r->r.noK=true->K8 K (drp F a) H v r
 | .v p,h,n=>a55 ha p h n
 | .ow (.lst ps),⟨b,ys,e,f,q,r⟩,n=>⟨b,ys,e,O3 f,q,a1U ha ps r n⟩
 | .ow (.dct kvs),⟨b,ys,e,f,q,r⟩,n=>⟨b,ys,e,O3 f,q,a3P ha kvs r n⟩
 | .ow (.txt kvs),⟨b,ys,e,f,q,r⟩,n=>⟨b,ys,e,O3 f,q,a3P ha kvs r n⟩
 | .bo _,_,n=>nomatch n
end
theorem b0K{K:AE}{F2 H1 F3 H3:Hp}{a:AB}{xs:List (f6×V)}{u:V}{r:d7}(fa:F2 a=ζ)(o3:o9 K (i7 F2 a (.dK xs)) H1 F3 H3 u r)(c:r.noK=true):o9 K F2 H1 (drp F3 a) H3 u r:=by
 have up:g8 F2 (i7 F2 a (.dK xs)):=y3 fa;refine⟨⟨λb o z=> ?_,o3.x.h,λb o z=> ?_,λb o z y t=> ?_,λb w u z=> ?_⟩,b3e (o3.x.f _ _ c8) o3.rep c,o3.fr⟩
 ·have hb:b≠a:=f7 z fa;rw [z7 hb];exact o3.x.f _ _ (up _ _ z)
 ·by_cases hb:b=a
  ·subst hb;rw [O4] at z;cases z
  ·rw [z7 hb] at z;exact o3.x.fh _ _ z
 ·by_cases hb:b=a
  ·subst hb;exact O4
  ·rw [z7 hb];exact o3.x.nw b o (by rw [a9 hb];exact z) y t
 ·by_cases hb:b=a
  ·subst hb;rw [O4] at z;cases z
  ·rw [z7 hb] at z;have:=o3.x.nf _ _ _ z;rw [a9 hb] at this;exact this
theorem b4E{F2 H1:Hp}{a:AB}{xs:List (f6×V)}(fh:g8 F2 H1)(ha:H1 a=ξ (.dK xs)):g8 (i7 F2 a (.dK xs)) H1:=λb o z=>by
 by_cases hb:b=a
 ·subst hb;rw [c8] at z;cases z;exact ha
 ·rw [a9 hb] at z;exact fh _ _ z
theorem b2V{K:AE}{F2:Hp}{a:AB}{xs:List (f6×V)}{kvs:List (List f6×PV)}(fa:F2 a=ζ)(rl:p7 K F2 kvs (xs.map s1)):A5 K (i7 F2 a (.dK xs)) (tv kvs) (.ref a):=Or.inl ⟨a,xs,rfl,c8,a0v.of (y3 fa) rl⟩
def b1O(g:List PV->Option d7)(i:Nat)(m:M):M:=λρ=>((m ρ).bind d7.toVal).bind λp=>match ρ[i]? with
 |some (ξ (.ow (.txt kvs)))=>(g [tv kvs,p]).bind λr=>if r.noK=true then ξ r else ζ
 |_=>ζ
section
variable {X:Cx}
theorem b3X(i:Nat){k k':Nat}{pa pb:Str}{g:List PV->Option d7}{x y:Str}{p py pos:Pos}{e:AG}{m:M}
 (d:m4 X.prog X.w X.K X.mg X.base x [pa,pb] k g) (hr:D2 k' X.A) (hk:k<=k') (hg:Gl X x) (hy:PE X (.Name y py) (C7 i)) (ha:EE X e m)
 (hdb:(x==("__debug__":Str))=false:=by decide) (he:AL [.Name y py,e] X.env=(false,eval (.Name y py) X.env)::AL [e] X.env:=by rfl) (he2:AL [e] X.env=(false,eval e X.env)::AL [] X.env:=by rfl)
 (hpl:(backTo pos (AL [e] X.env)).any (·.1)=false:=by rfl):
 EE X (.Call (.Name x p) [.Name y py,e] [] pos) (b1O g i m):=by
 obtain⟨f,fd,G,h1,h2,h3⟩:=d
 refine m6 (a24 G (hr.mono hk) hg h1 h2 h3 .nil a7s (u7 hy (u7 ha M6 he2) he) hdb he hpl) λσ H Q h0=>k4 h0 λF ρ r en hm kq=> ?_
 obtain⟨q,e1,hm⟩:=bind_some hm
 obtain⟨rq,e2,e3'⟩:=bind_some e1
 split at hm
 ·rename_i kvs eo
  obtain⟨r',e7,hm⟩:=bind_some hm
  split at hm
  ·rename_i c
   cases hm
   obtain⟨w0,hw0,a,xs0,rfl,_⟩:=en.at_ i _ eo
   refine⟨.ref a,hw0,F,ρ,rq,en,e2,λv F1 H1 o1=> ?_⟩
   obtain⟨F2,o2⟩:=o1.toVal e3'
   have en2:=en.ext o2.x
   obtain⟨w,hw,a',xs,rfl,fa,ha',rl⟩:=en2.at_ i _ eo
   rw [hw0] at hw
   cases hw
   show spP X.K 2 g ([.ref a,v]++[]) H1 Q E0
   rw [Ad]
   have up:g8 F2 (i7 F2 a (.dK xs)):=y3 fa
   exact⟨i7 F2 a (.dK xs),[tv kvs,q],_,b4E o2.x.fh ha',⟨.ref a,[v],rfl,b2V fa rl,v,[],rfl,A5.mono up _ o2.rep,rfl⟩,rfl,e7,λu F5 H5 o5=>kq u (drp F5 a) H5 (o9.trans o2.x (b0K fa o5 c))⟩
  ·cases hm
 ·cases hm
end
section
variable {prog:AJ}{w:AI}{A:AK}{E:AA->AC->Prop}{s:AC}{z TI TO i1 i2:AB}{n1 n2 i:Nat}{P1 P2:Nat->AA->Prop}{St1 St2:Nat->Heap->Prop}{a b:AA}
end
section
variable {X:Cx}
end
section
variable {prog:AJ}{w:AI}{K:Type}[DecidableEq K]{knd:KeyKind prog w K}{A:AK}{E:AA->AC->Prop}{s:AC}
end
section
variable {X:Cx}
end
theorem e9.retold{X:Cx}{pins:List (AB×Obj)}{σ:L2.St}{H H':Hp}{s:AC}(I:e9 X pins σ H s)(hn:∀b,H b=ζ->H' b=ζ)(tups:∀b xs,H b=ξ (.tup xs)->H' b=ξ (.tup xs))
 (frzs:∀b o u,X.H₀ b=ξ (.frz o u)->H' b=ξ (.frz o u)) (tbls:∀b ps,H b=ξ (.tbl ps)->H' b=ξ (.tbl ps)) (hok:HOk X.prog X.w H' s.heap):e9 X pins σ H' s:=
 ⟨I.ok,I.os,I.bare,⟨I.base.keep,I.base.slot,λb o e n hx=>hn b (I.base.free b o e n hx),I.base.there,λb xs e=>tups b xs (I.base.tups b xs e),frzs,λb ps e=>let ⟨m,q⟩:=I.base.tbls b ps e;⟨m,tbls _ _ q⟩⟩,
  I.loc,I.cell,hn _ I.free,λx c e=>hn _ (I.freeC x c e),λp hp=>let ⟨a,b,c⟩:=I.pin p hp;⟨a,hn _ b,c⟩,hok,I.len⟩
theorem e9.frzD{X:Cx}{pins:List (AB×Obj)}{σ:L2.St}{H:Hp}{s:AC}{a:AB}{xs:List (f6×V)}(I:e9 X pins σ H s)(ha:H a=ξ (.dK xs)):∃o,e9 X pins σ (i7 H a (.frz o (.dK xs))) s:=by
 have hd:=I.hok a _ ha;obtain⟨o,ho⟩:∃o,s.heap.get? a=ξ o:=by obtain⟨_,_,_,_,o,_,_,e,_⟩:=hd;exact⟨o,e⟩
 refine⟨o,e9.retold I (λb q=> ?_) (λb ys q=> ?_) (λb o' u q=> ?_) (λb ps q=> ?_) (λb u q=> ?_)⟩
 ·rw [a9 (λz=>by rw [z,ha] at q;cases q)];exact q
 ·ext k
 ·have:=I.base.frzs b o' u q;rw [a9 (A0 this ha (λz=>nomatch z))];exact this
 ·ext k
 ·have st:∀c w,H c=ξ w->v4 X.prog X.w (i7 H a (.frz o (.dK xs))) s.heap c w:=λc w q=>(I.hok c w q).stay (λ_ _ _ e=>e) (λd z=>by rw [a9 (A0 z ha (λz=>nomatch z))];exact z) λd ys z=>by rw [a9 (A0 z ha (λz=>nomatch z))];exact z
  by_cases hb:b=a
  ·subst hb;rw [c8] at q;cases q;exact⟨ho,st _ _ ha⟩
  ·rw [a9 hb] at q;exact st _ _ q
theorem e9.unfrz{X:Cx}{pins:List (AB×Obj)}{σ:L2.St}{H:Hp}{s:AC}{a:AB}{o:Obj}{xs:List (f6×V)}(I:e9 X pins σ H s)(ha:H a=ξ (.frz o (.dK xs)))(h0:∀o u,X.H₀ a≠ξ (.frz o u)):e9 X pins σ (i7 H a (.dK xs)) s:=by
 have st:∀c w,H c=ξ w->v4 X.prog X.w (i7 H a (.dK xs)) s.heap c w:=λc w q=>(I.hok c w q).stay (λ_ _ _ e=>e) (λd z=>by rw [a9 (A0 z ha (λz=>nomatch z))];exact z) λd ys z=>by rw [a9 (A0 z ha (λz=>nomatch z))];exact z
 refine e9.retold I (λb q=> ?_) (λb ys q=> ?_) (λb o' u q=> ?_) (λb ps q=> ?_) (λb u q=> ?_)
 ·rw [a9 (λz=>by rw [z,ha] at q;cases q)];exact q
 ·ext k
 ·rw [a9 (λz=>by rw [z] at q;exact h0 _ _ q)];exact I.base.frzs b o' u q
 ·ext k
 ·by_cases hb:b=a
  ·subst hb;rw [c8] at q;cases q;exact(st _ _ ha).2
  ·rw [a9 hb] at q;exact st _ _ q
def Itk(a:AB)(o:Obj)(xs:List (f6×V)):It:=⟨λi H=>H a=ξ (.frz o (.dK xs))/\i<xs.length,λi H v H'=>H'=H/\∃p,xs[i]?=ξ p/\v=kV p.1,λi H=>H a=ξ (.frz o (.dK xs))/\xs.length=i⟩
def epO(o:Obj):Nat:=match o.data with
 | .dict _ ep=>ep
 |_=>0
theorem b3Q{X:Cx}{pins:List (AB×Obj)}{σ:L2.St}{H:Hp}{s:AC}{a:AB}{o:Obj}{xs:List (f6×V)}(I:e9 X pins σ H s)(ha:H a=ξ (.frz o (.dK xs))):(a==sysModules)=false/\∃vs,KV xs vs/\s.heap.DictAt (f9 X.prog X.w) a vs (epO o):=by
 obtain⟨ho,z,hd,vs,rel,o2,es,ep,e,c,d,r⟩:=(show v4 X.prog X.w H s.heap a (.frz o (.dK xs)) from I.hok a _ ha);have:o2=o:=by rw [ho] at e;exact(Option.some.inj e).symm
 subst this;refine⟨hd,vs,rel,o2,es,e,c, ?_,r⟩;rw [d];unfold epO;rw [d]
theorem b9F{α β:Type}{F:α->β->Prop}:∀{l₁:List α} {l₂:List β} {i:Nat} {a:α},Paired F l₁ l₂->l₁[i]?=ξ a->∃b,l₂[i]?=ξ b/\F a b
 |_,_,_,_,.nil,h=>by simp at h
 |_,_,0,_,.cons r t,h=>by cases h;exact⟨_,rfl,r⟩
 |_,_,i+1,_,.cons r t,h=>b9F (i:=i) t h
theorem b3n{P:AJ}{w:AI}{K:AE}{tg:AG}{it a:AB}{o:Obj}{xs:List (f6×V)}:a81 P w K tg (Itk a o xs) [it] it (λi h=>h.IsKeyIter it a i xs.length (epO o)) where
 mem:=by simp
 obj:=λi h st b hb=>by
  have hb:b=it:=by simpa using hb
  subst hb
  ext e
 keep:=λi h h' st k=>st.at λo e=>k it (by simp) o e
 item:=by
  ext d
  obtain⟨ha,hlt⟩:=hg;obtain⟨hd,vs,rel,dd⟩:=b3Q I ha;have hl:vs.length=xs.length:=(Paired.length rel).symm;have hx:xs[i]?=ξ xs[i]:=by simp [hlt]
  obtain⟨q,hq,rq⟩:=b9F rel hx;rw [<-hl] at st;refine wpAny_pyNext_dict_item st dd (k:=q.1) (v:=q.2) hq λkey h' kk st' sb=>⟨key,rfl, ?_⟩;rw [hl] at st';have I1:e9 X pins σ H {s with heap:=h'}:=I.turned (t':=s.toks) (λb o hb e=>(sb.2 b hb).trans e) f0 f1 f3 f4 f5
  obtain⟨o',e',c',d'⟩:=id st';refine a9n (s:={s with heap:=h'}) (n:="dict_keyiterator") e' c' d' (by decide) ⟨kV q.1,H,I1,b4z kk,⟨rfl,xs[i],hx,by rw [rq.1]⟩,st',λb hb=>(hf b hb).1⟩
 done:=by
   ext d
   obtain⟨ha,hlt⟩:=hg;obtain⟨hd,vs,rel,dd⟩:=b3Q I ha;have hl:vs.length=xs.length:=(Paired.length rel).symm;rw [<-hl] at st;exact wpAny_pyNext_dict_end (I.ok.hd hc) st dd (by simp;lia) λh' eb=>⟨rfl,I.turned (t':=s.toks) (λb o hb e=>eb b o hb e) f0 f1 f3 f4 f5⟩
 self:=λ_ _ _ _ _ st h=>wpAny_pyIter_keyiter st h
section
variable {X:Cx}{tg:AG}
def c1D(tl:TE):TI:=λσ H R=>tl σ H λx H1=>∃a o xs,x= .ref a/\H1 a=ξ (.frz o (.dK xs))/\R (Itk a o xs) H1
theorem b5f{l:AG}{tl:TE}(hl:PE X l tl):PI X tg l (c1D tl):=by
 intro pins s σ H R I h;refine C8 (hl pins s σ H _ I h) λv s1 h0=>j5 h0 λx H1 I1 r1 q1=> ?_;obtain⟨a,o,xs,e,ha,q⟩:=q1;subst e;obtain rfl:v=Value.ref a:=r1;obtain⟨hd,vs,rel,dd⟩:=b3Q I1 ha;have hl:vs.length=xs.length:=(Paired.length rel).symm;refine wpAny_pyIter_dict hd dd ⟨s1.heap.objs.size,[s1.heap.objs.size],_,_,H1,rfl,I1.kept (t':=s1.toks) λb o e=>AR _ e,b3n,⟨_,Aa _ rfl,rfl,by rw [hl];rfl⟩,λc hb=> ?_,q⟩
 have e:c=s1.heap.objs.size:=by simpa using hb
 subst e;exact I1.fpOk (AN _) (I1.hok.fresh (AN _))
def Vls(xs:List (f6×V))(vs:List V):Prop:=vs.length=xs.length/\∀(j:Nat) p,xs[j]?=ξ p->∃v,vs[j]?=ξ v/\P6 xs p.1=ξ v
def b93(i:Nat):TE:=λσ H Q=>∃a xs vs,σ[i]?=ξ (ξ (.ref a))/\H a=ξ (.dK xs)/\xs.length<AM/\Vls xs vs/\∀D,H D=ζ->Q (.ref D) (i7 H D (.lst vs))
theorem b49(i:Nat){x y:Str}{p p2 p3 p4 sp pos:Pos}{scope:Scope}{N0:List Str}(hx:∀e s,X.xe e s->False)(hc:X.calm=true)(S:E3 X.N N0 [y] X.env scope)
 (hd:PE X (.Name x p) (C7 i)) (hu:X.A.units+8<cLine) (hg:∀C fp pins s H,PG (j9 X N0 scope [y] C fp pins s H) (.Name y p2) (a2S X.N.length)) (he1:∀C fp pins s H,PE (j9 X N0 scope [y] C fp pins s H) (.Name x p3) (C7 i))
 (he2:∀C fp pins s H,PE (j9 X N0 scope [y] C fp pins s H) (.Name y p4) (C7 X.N.length)) (hs:∀x',foldedSetIterable (.Name x p) X.env x'=pure x':=by intro _;rfl):
 PE X (.ListComp (.Subscript (.Name x p3) (.Name y p4) sp) [⟨.Name y p2,.Name x p,[],0⟩] scope pos) (b93 i):=by
 intro pins s σ H Q I ⟨a,xs,vs,hσ,ha,hz,⟨hl,hv⟩,q⟩
 obtain⟨o,I1⟩:=e9.frzD I ha
 have h0:∀o u,X.H₀ a≠ξ (.frz o u):=λo u z=>by have:=I.base.frzs a o u z;rw [ha] at this;cases this
 have hR:=a25 (X:=X) (pos:=pos) hx hc S (b5f hd) hg (λC fp pins s H=>b1W) (λC fp pins s H=>(show PE (j9 X N0 scope [y] C fp pins s H) (.Subscript (.Name x p3) (.Name y p4) sp) (b5J X.K (C7 i) (C7 X.N.length)) from a26 (X:=j9 X N0 scope [y] C fp pins s H) (pos:=sp) hu (he1 C fp pins s H) (he2 C fp pins s H) (by intro _ _;rfl))) hs pins s σ (i7 H a (.frz o (.dK xs)))
  (λv H1=>∃D,v= .ref D/\H D=ζ/\H1=i7 (i7 H a (.frz o (.dK xs))) D (.lst vs)) I1 ?_
 ·refine C8 hR λv s1 ⟨x',H1,I2,r2,D,ex,hD,eH⟩=> ?_
  subst ex eH
  have hne:D≠a:=λz=>by rw [z,ha] at hD;cases hD
  refine⟨.ref D,i7 H D (.lst vs), ?_,r2,q D hD⟩
  have hfa:i7 (i7 H a (.frz o (.dK xs))) D (.lst vs) a=ξ (.frz o (.dK xs)):=by rw [a9 (Ne.symm hne),c8]
  have:=e9.unfrz I2 hfa h0
  have eq:i7 (i7 (i7 H a (.frz o (.dK xs))) D (.lst vs)) a (.dK xs)=i7 H D (.lst vs):=by
   funext b
   unfold i7
   by_cases h1:b=a
   ·rw [if_pos h1,h1,if_neg (Ne.symm hne),ha]
   ·rw [if_neg h1,if_neg h1]
  rw [eq] at this
  exact this
 ·refine⟨.ref a,hσ,a,o,xs,rfl,c8,λD hD=> ?_⟩
  have hDa:D≠a:=λz=>by rw [z,c8] at hD;cases hD
  have hD':H D=ζ:=by rw [a9 hDa] at hD;exact hD
  refine⟨λi m ys H2=>m=xs.length - i/\i<=xs.length/\ys=vs.take i/\H2=i7 (i7 H a (.frz o (.dK xs))) D (.lst ys),⟨xs.length,by simp,Nat.zero_le _,by simp,rfl⟩, ?_⟩
  rintro j m ys H2 ⟨rfl,hj,rfl,rfl⟩ -
  have hfa:∀zs,i7 (i7 H a (.frz o (.dK xs))) D (.lst zs) a=ξ (.frz o (.dK xs)):=λzs=>by rw [a9 (Ne.symm hDa),c8]
  by_cases hlt:j<xs.length
  ·refine .inr ⟨⟨hfa _,hlt⟩,λv H3 ⟨e3,pr,hp,e4⟩=> ?_⟩
   subst e3 e4
   obtain⟨v,hv1,hv2⟩:=hv j pr hp
   refine⟨λjj w hw=> ?_, ?_⟩
   ·by_cases hjj:jj=X.N.length
    ·subst hjj
     rw [<-I.len] at hw
     simp at hw
    ·rw [List.getElem?_set_ne (Ne.symm hjj)];exact hw
   ·dsimp only [b8l]
    rw [if_pos rfl]
    have hil:i<σ.length:=(Ah.mp hσ).1
    refine⟨.ref a, ?_,kV pr.1, ?_,a,v,rfl, ?_,c8, ?_,xs.length - (j+1),by lia,rfl,hlt, ?_, ?_⟩
    ·rw [List.getElem?_set_ne (by rw [<-I.len];lia),At hil];exact hσ
    ·rw [BF (by rw [<-I.len];simp)]
    ·rw [<-hv2];exact .inl ⟨xs,pr.1,.inr ⟨o,hfa _⟩,rfl,rfl⟩
    ·rw [List.length_take];lia
    ·rw [List.take_succ,hv1];rfl
    ·rw [a4L]
  ·have ej:j=xs.length:=by lia
   refine .inl ⟨⟨hfa _,ej.symm⟩,D,rfl,hD', ?_⟩
   rw [ej,<-hl,List.take_length]
theorem b5W{K:AE}{F:Hp}{kvs:List (List f6×PV)}{xs:List (f6×V)}(rl:p7 K F kvs (xs.map s1)):∀{es:List (List f6×PV)} {ys:List (f6×V)} {rs:List PV},p7 K F es (ys.map s1)->(es.mapM λe=>S4 kvs e.1)=ξ rs->
 ∃vs,h9 K F rs vs/\vs.length=ys.length/\∀(j:Nat) p,ys[j]?=ξ p->∃v,vs[j]?=ξ v/\P6 xs p.1=ξ v
 |[],[],_,_,h=>by cases h;exact⟨[],rfl,rfl,λj p z=>by simp at z⟩
 |[],y::ys,_,r,_=>by cases r
 |(k,q)::es,[],_,⟨_,_,e,_⟩,_=>by cases e
 |(k,q)::es,y::ys,rs,⟨v,t,e,rv,rt⟩,h=>by
  injection e with e1 e2
  subst e2;have ek:[y.1]=k:=by have:=congrArg Prod.fst e1;exact this
  rw [List.mapM_cons] at h;obtain⟨r1,h1,h⟩:=bind_some h;obtain⟨rs',h2,h⟩:=bind_some h;cases h;obtain⟨vs,g1,g2,g3⟩:=b5W rl rt h2;have h1:S4 kvs [y.1]=ξ r1:=by rw [ek];exact h1
  obtain⟨u,hu,ru⟩:=(rl.val (k:=[y.1])).1 _ h1;rw [a8I] at hu;refine⟨u::vs,⟨u,vs,rfl,ru,g1⟩,by rw [AY,AY,g2],λj p z=> ?_⟩
  cases j with
  |zero=>cases z;exact⟨u,rfl,hu⟩
  |succ j=>exact g3 j p z
end
set_option maxHeartbeats 3200000
section
variable {prog:AJ}{w:AI}{A:AK}{E:AA->AC->Prop}{s:AC}
end
end PU
set_option maxHeartbeats 1000000
namespace PU
open PySem PySem.Spec PyProof.Rows L2
section
variable {X:Cx}
def b1Q(i:Nat):M:=λρ=>(tvw i ρ).bind λkvs=>if kvs.length<AM then(kvs.mapM λe=>S4 kvs e.1).map .own else ζ
theorem b2y(i:Nat){x y:Str}{p p2 p3 p4 sp pos:Pos}{scope:Scope}{N0:List Str}(hx:∀e s,X.xe e s->False)(hc:X.calm=true)(S:E3 X.N N0 [y] X.env scope)
 (hd:PE X (.Name x p) (C7 i)) (hu:X.A.units+64<cLine) (hg:∀C fp pins s H,PG (j9 X N0 scope [y] C fp pins s H) (.Name y p2) (a2S X.N.length)) (he1:∀C fp pins s H,PE (j9 X N0 scope [y] C fp pins s H) (.Name x p3) (C7 i))
 (he2:∀C fp pins s H,PE (j9 X N0 scope [y] C fp pins s H) (.Name y p4) (C7 X.N.length)) (hs:∀x',foldedSetIterable (.Name x p) X.env x'=pure x':=by intro _;rfl):
 EE X (.ListComp (.Subscript (.Name x p3) (.Name y p4) sp) [⟨.Name y p2,.Name x p,[],0⟩] scope pos) (b1Q i):=
 m6 (b49 i hx hc S hd (by lia) hg he1 he2 hs) λσ H Q h0=>k4 h0 λF ρ r en e k=>by
  obtain⟨kvs,eo,e⟩:=bind_some e;split at e
  ·rename_i hl;obtain⟨a,xs,hw1,ha',rl⟩:=b5Q en eo;cases hm:kvs.mapM λe=>S4 kvs e.1 with
   |none=>rw [hm] at e;cases e
   |some rs=>
    rw [hm] at e;cases e;obtain⟨vs,g1,g2,g3⟩:=b5W rl rl hm;have hlen:xs.length=kvs.length:=by have:=rl.length;rwa [AV] at this
    exact⟨a,xs,vs,hw1,en.fh _ _ ha',by rw [hlen];exact hl,⟨g2,g3⟩,λD hD=>k _ F _ (o9.lst en.fh hD g1)⟩
  ·cases e
theorem b13{K:AE}{F:Hp}:∀{kvs:List (List f6×PV)} {xs:List (List f6×V)},p7 K F kvs xs->∀{q},q∈xs->∃e∈kvs,e.1=q.1
 |[],_,r,q,h=>by cases r;cases h
 |(k,p)::r,_,⟨v,t,e,rv,rt⟩,q,h=>by
  subst e;rcases AU.mp h with rfl|h
  ·exact⟨(k,p),Af,rfl⟩
  ·obtain⟨e,he,e1⟩:=b13 rt h;exact⟨e,Ae _ he,e1⟩
def qK(xs:List (f6×V))(z:Int)(p:f6×V):Bool:=decide (P6 xs p.1=ξ (.int z))
def b92(i j:Nat):TE:=λσ H Q=>∃a xs z,σ[i]?=ξ (ξ (.ref a))/\σ[j]?=ξ (ξ (.int z))/\H a=ξ (.dK xs)/\xs.length<AM/\(∀p∈xs,∃k:Int,P6 xs p.1=ξ (.int k))/\∀D,H D=ζ->Q (.ref D) (i7 H D (.lst ((xs.filter (qK xs z)).map λp=>kV p.1)))
theorem b48(i j:Nat){x y u:Str}{p p2 p3 p4 p5 p6 sp cp pos:Pos}{scope:Scope}{N0:List Str}(hx:∀e s,X.xe e s->False)(hc:X.calm=true)(S:E3 X.N N0 [y] X.env scope)
 (hd:PE X (.Name x p) (C7 i)) (hu:X.A.units+8<cLine) (hg:∀C fp pins s H,PG (j9 X N0 scope [y] C fp pins s H) (.Name y p2) (a2S X.N.length)) (he1:∀C fp pins s H,PE (j9 X N0 scope [y] C fp pins s H) (.Name x p3) (C7 i))
 (he2:∀C fp pins s H,PE (j9 X N0 scope [y] C fp pins s H) (.Name y p4) (C7 X.N.length)) (he3:∀C fp pins s H,PE (j9 X N0 scope [y] C fp pins s H) (.Name u p5) (C7 j)) (he4:∀C fp pins s H,PE (j9 X N0 scope [y] C fp pins s H) (.Name y p6) (C7 X.N.length)) (hs:∀x',foldedSetIterable (.Name x p) X.env x'=pure x':=by intro _;rfl):
 PE X (.ListComp (.Name y p6) [⟨.Name y p2,.Name x p,[.Compare (.Subscript (.Name x p3) (.Name y p4) sp) [.Eq] [.Name u p5] cp],0⟩] scope pos) (b92 i j):=by
 intro pins s σ H Q I ⟨a,xs,z,hσ,hj,ha,hz,hv,q⟩
 obtain⟨o,I1⟩:=e9.frzD I ha
 have h0:∀o u,X.H₀ a≠ξ (.frz o u):=λo u z=>by have:=I.base.frzs a o u z;rw [ha] at this;cases this
 have hR:=a25 (X:=X) (pos:=pos) hx hc S (b5f hd) hg (λC fp pins s H=>b1X (b12 (X:=j9 X N0 scope [y] C fp pins s H) (pos:=cp) c00 (show PE (j9 X N0 scope [y] C fp pins s H) (.Subscript (.Name x p3) (.Name y p4) sp) (b5J X.K (C7 i) (C7 X.N.length)) from a26 (X:=j9 X N0 scope [y] C fp pins s H) (pos:=sp) hu (he1 C fp pins s H) (he2 C fp pins s H) (by intro _ _;rfl)) (he3 C fp pins s H) (v7 _))) he4 hs pins s σ (i7 H a (.frz o (.dK xs)))
  (λv H1=>∃D,v= .ref D/\H D=ζ/\H1=i7 (i7 H a (.frz o (.dK xs))) D (.lst ((xs.filter (qK xs z)).map λp=>kV p.1))) I1 ?_
 ·refine C8 hR λv s1 ⟨x',H1,I2,r2,D,ex,hD,eH⟩=> ?_
  subst ex eH
  have hne:D≠a:=λz=>by rw [z,ha] at hD;cases hD
  refine⟨.ref D,i7 H D (.lst ((xs.filter (qK xs z)).map λp=>kV p.1)), ?_,r2,q D hD⟩
  have hfa:i7 (i7 H a (.frz o (.dK xs))) D (.lst ((xs.filter (qK xs z)).map λp=>kV p.1)) a=ξ (.frz o (.dK xs)):=by rw [a9 (Ne.symm hne),c8]
  have:=e9.unfrz I2 hfa h0
  have eq:i7 (i7 (i7 H a (.frz o (.dK xs))) D (.lst ((xs.filter (qK xs z)).map λp=>kV p.1))) a (.dK xs)=i7 H D (.lst ((xs.filter (qK xs z)).map λp=>kV p.1)):=by
   funext b
   unfold i7
   by_cases h1:b=a
   ·rw [if_pos h1,h1,if_neg (Ne.symm hne),ha]
   ·rw [if_neg h1,if_neg h1]
  rw [eq] at this
  exact this
 ·refine⟨.ref a,hσ,a,o,xs,rfl,c8,λD hD=> ?_⟩
  have hDa:D≠a:=λz=>by rw [z,c8] at hD;cases hD
  have hD':H D=ζ:=by rw [a9 hDa] at hD;exact hD
  refine⟨λi m ys H2=>m=xs.length - i/\i<=xs.length/\ys=((xs.take i).filter (qK xs z)).map (λp=>kV p.1)/\H2=i7 (i7 H a (.frz o (.dK xs))) D (.lst ys),⟨xs.length,by simp,Nat.zero_le _,by simp,rfl⟩, ?_⟩
  rintro jj m ys H2 ⟨rfl,hjj,rfl,rfl⟩ -
  have hfa:∀zs,i7 (i7 H a (.frz o (.dK xs))) D (.lst zs) a=ξ (.frz o (.dK xs)):=λzs=>by rw [a9 (Ne.symm hDa),c8]
  have hil:i<σ.length:=(Ah.mp hσ).1
  have hjl:j<σ.length:=(Ah.mp hj).1
  by_cases hlt:jj<xs.length
  ·refine .inr ⟨⟨hfa _,hlt⟩,λv H3 ⟨e3,pr,hp,e4⟩=> ?_⟩
   subst e3 e4
   obtain⟨k,hk⟩:=hv pr (BC hp)
   have ht:xs.take (jj+1)=xs.take jj++[pr]:=by rw [List.take_succ,hp];rfl
   refine⟨λq w hw=> ?_, ?_⟩
   ·by_cases hq:q=X.N.length
    ·subst hq
     rw [<-I.len] at hw
     simp at hw
    ·rw [List.getElem?_set_ne (Ne.symm hq)];exact hw
   ·refine⟨.ref a, ?_,kV pr.1, ?_,a,.int k,rfl, ?_,.int z, ?_,⟨rfl,_,rfl, ?_⟩⟩
    ·rw [List.getElem?_set_ne (by rw [<-I.len];lia),At hil];exact hσ
    ·rw [BF (by rw [<-I.len];simp)]
    ·rw [<-hk];exact .inl ⟨xs,pr.1,.inr ⟨o,hfa _⟩,rfl,rfl⟩
    ·rw [List.getElem?_set_ne (by rw [<-I.len];lia),At hjl];exact hj
    ·by_cases c:k=z
     ·subst c
      rw [show(decide (V.int k=V.int k))=true by simp]
      dsimp only
      rw [if_pos rfl]
      have hq:qK xs k pr=true:=by unfold qK;rw [hk];simp
      have hf:((xs.take (jj+1)).filter (qK xs k)).map (λp=>kV p.1)=((xs.take jj).filter (qK xs k)).map (λp=>kV p.1)++[kV pr.1]:=by
       rw [ht,List.filter_append,BD,List.filter_cons,if_pos hq];rfl
      refine⟨kV pr.1,by rw [BF (by rw [<-I.len];simp)],c8, ?_,xs.length - (jj+1),by lia,rfl,hlt,hf.symm, ?_⟩
      ·have h1:=List.length_filter_le (qK xs k) (xs.take jj)
       rw [AV]
       rw [List.length_take] at h1
       lia
      ·rw [a4L]
     ·rw [show(decide (V.int k=V.int z))=false by simp [c]]
      dsimp only
      rw [if_neg Ac]
      have hq:¬qK xs z pr=true:=by unfold qK;rw [hk];simp [c]
      have hf:((xs.take (jj+1)).filter (qK xs z)).map (λp=>kV p.1)=((xs.take jj).filter (qK xs z)).map (λp=>kV p.1):=by
       rw [ht,List.filter_append,List.filter_cons,if_neg hq];simp
      exact⟨c8,xs.length - (jj+1),by lia,rfl,hlt,hf.symm,rfl⟩
  ·have ej:jj=xs.length:=by lia
   refine .inl ⟨⟨hfa _,ej.symm⟩,D,rfl,hD', ?_⟩
   rw [ej,List.take_length]
def kPV:List f6->PV
 |[.inr x]=> .str x
 |[.inl i]=> .int i
 |_=> .none
def qP(kvs:List (List f6×PV))(z:Int)(e:List f6×PV):Bool:=match S4 kvs e.1 with
 |some (.int k)=>decide (k=z)
 |_=>false
def c0y(kvs:List (List f6×PV)):Bool:=kvs.all λe=>match S4 kvs e.1 with
 |some (.int _)=>true
 |_=>false
def b1P(i j:Nat):M:=λρ=>(tvw i ρ).bind λkvs=>match ρ[j]? with
 |some (ξ (.v (.int z)))=>if kvs.length<AM/\c0y kvs=true then ξ (.own ((kvs.filter (qP kvs z)).map λe=>kPV e.1)) else ζ
 |_=>ζ
theorem b1L{K:AE}{F:Hp}{kvs:List (List f6×PV)}{xs:List (f6×V)}(rl:p7 K F kvs (xs.map s1))(z:Int)(hall:∀p∈xs,∃k:Int,P6 xs p.1=ξ (.int k)/\S4 kvs [p.1]=ξ (.int k)):∀{es:List (List f6×PV)} {ys:List (f6×V)},p7 K F es (ys.map s1)->(∀p∈ys,p∈xs)->
 h9 K F ((es.filter (qP kvs z)).map λe=>kPV e.1) ((ys.filter (qK xs z)).map λp=>kV p.1)
 |[],[],_,_=>rfl
 |[],y::ys,r,_=>by cases r
 |(k,q)::es,[],⟨_,_,e,_⟩,_=>by cases e
 |(k,q)::es,y::ys,⟨v,t,e,rv,rt⟩,hs=>by
  injection e with e1 e2
  subst e2;have ek:[y.1]=k:=by have:=congrArg Prod.fst e1;exact this
  subst ek;have ih:=b1L rl z hall rt λp hp=>hs p (Ae _ hp);obtain⟨k,h1,h2⟩:=hall y (hs y Af);have a1:qK xs z y=decide (k=z):=by unfold qK;rw [h1];simp
  have a2:qP kvs z ([y.1],q)=decide (k=z):=by unfold qP;simp only [h2]
  rw [List.filter_cons,List.filter_cons,a1,a2]
  by_cases c:k=z
  ·rw [decide_eq_true c,if_pos rfl,if_pos rfl,AQ,AQ];refine⟨_,_,rfl, ?_,ih⟩;cases hy:y.1 with
   |inl i=>exact rfl
   |inr x=>exact rfl
  ·rw [decide_eq_false c,if_neg Ac,if_neg Ac];exact ih
theorem c0N{K:AE}{F:Hp}{kvs:List (List f6×PV)}{xs:List (f6×V)}(rl:p7 K F kvs (xs.map s1))(c:c0y kvs=true)(p:f6×V)(hp:p∈xs):∃k:Int,P6 xs p.1=ξ (.int k)/\S4 kvs [p.1]=ξ (.int k):=by
 have hk:∃e∈kvs,e.1=[p.1]:=b13 rl (Ay.mpr ⟨p,hp,rfl⟩);obtain⟨e,he,e1⟩:=hk;have:=List.all_eq_true.mp c e he;rw [e1] at this;cases hv:S4 kvs [p.1] with
 |none=>rw [hv] at this;cases this
 |some q=>
  rw [hv] at this;cases q with
  |int k=>
   obtain⟨u,hu,ru⟩:=(rl.val (k:=[p.1])).1 _ hv;rw [a8I] at hu;cases ru;exact⟨k,hu,rfl⟩
  |_=>cases this
theorem b2x(i j:Nat){x y u:Str}{p p2 p3 p4 p5 p6 sp cp pos:Pos}{scope:Scope}{N0:List Str}(hx:∀e s,X.xe e s->False)(hc:X.calm=true)(S:E3 X.N N0 [y] X.env scope)
 (hd:PE X (.Name x p) (C7 i)) (hu:X.A.units+64<cLine) (hg:∀C fp pins s H,PG (j9 X N0 scope [y] C fp pins s H) (.Name y p2) (a2S X.N.length)) (he1:∀C fp pins s H,PE (j9 X N0 scope [y] C fp pins s H) (.Name x p3) (C7 i))
 (he2:∀C fp pins s H,PE (j9 X N0 scope [y] C fp pins s H) (.Name y p4) (C7 X.N.length)) (he3:∀C fp pins s H,PE (j9 X N0 scope [y] C fp pins s H) (.Name u p5) (C7 j)) (he4:∀C fp pins s H,PE (j9 X N0 scope [y] C fp pins s H) (.Name y p6) (C7 X.N.length)) (hs:∀x',foldedSetIterable (.Name x p) X.env x'=pure x':=by intro _;rfl):
 EE X (.ListComp (.Name y p6) [⟨.Name y p2,.Name x p,[.Compare (.Subscript (.Name x p3) (.Name y p4) sp) [.Eq] [.Name u p5] cp],0⟩] scope pos) (b1P i j):=
 m6 (b48 i j hx hc S hd (by lia) hg he1 he2 he3 he4 hs) λσ H Q h0=>k4 h0 λF ρ r en e k=>by
  obtain⟨kvs,eo,e⟩:=bind_some e;split at e
  ·rename_i z ez;split at e
   ·rename_i c;cases e;obtain⟨a,xs,hw1,ha',rl⟩:=b5Q en eo;obtain⟨w,hz,rz⟩:=en.at_ j _ ez;cases rz;have hlen:xs.length=kvs.length:=by have:=rl.length;rwa [AV] at this
    have hall:=c0N rl c.2;refine⟨a,xs,z,hw1,hz,en.fh _ _ ha',by rw [hlen];exact c.1,λp hp=>let ⟨k,h,_⟩:=hall p hp;⟨k,h⟩,λD hD=>k _ F _ (o9.lst en.fh hD (b1L rl z hall rl λp hp=>hp))⟩
   ·cases e
  ·cases e
end
def a5j(x y:d7):Option d7:=match x,y with
 | .v (.str z),.v (.str y)=>ξ (.v (.int (Txt.count z y)))
 |_,_=>ζ
section
variable {X:Cx}
theorem b4N:MtR X "str.count" (λx xs H Q=>∃F y rx ry rz,xs=[y]/\g8 F H/\K8 X.K F H x rx/\K8 X.K F H y ry/\a5j rx ry=ξ rz/\∀v F' H',o9 X.K F H F' H' v rz->Q v H'):=by
 intro pins s σ H x xs v us Q I rx rv h;obtain⟨F,y,ra,rb,rz,rfl,s0,h1,h2,h3,k⟩:=h;obtain⟨u,rfl,ru⟩:=a1G rv;unfold a5j at h3;split at h3
 ·rename_i z y;cases h3;cases h1;cases h2;obtain⟨t,rfl⟩:=rx;obtain⟨t2,rfl⟩:=ru;exact call_gives PySem.F.slot_str_count (typeIs_str _ _ _) PySem.F.entry_str_count (PySem.F.args_str_count_2 _ _) (gives_str_count z y t t2) ⟨.int _,H,I.tok _,⟨_,rfl⟩,k _ F H (o9.here s0 rfl)⟩
 ·cases h3
theorem b3V{o e:AG}{m n:M}{apos cpos:Pos}(ho:EE X o m)(ha:EE X e n)
 (hbase:attributeBase o "count" X.env (eval o X.env)=eval o X.env:=by rfl)
 (hfew:((backTo cpos (AL [e] X.env)).all (λx=> !x.1)&&(backToKw cpos (keywordEach [] X.env)).all (λx=>x.1.isSome)
  && decide ([e].length+([]:List Keyword).length+(if([]:List Keyword).isEmpty then 0 else 1)<30))=true:=by rfl)
 (hline:(apos.endLine==cpos.line)=true:=by rfl) (hs:AL [e] X.env=(false,eval e X.env)::AL [] X.env:=by rfl) (hplain:(backTo cpos (AL [] X.env)).any (·.1)=false:=by rfl):
 EE X (.Call (.Attribute o "count" apos) [e] [] cpos) (m2 a5j m n):=
 m6 (b46 PySem.F.plainAttrs_str PySem.F.slot_str_count PySem.F.type_str_count b4N ho (u7 ha M6 hs) hbase hfew hline hs hplain) λσ H Q h0=>k4 h0 λF ρ r he hm k=>by
  ext i
  unfold a5j at hm;split at hm
  ·cases o1.rep;rfl
  ·cases hm
def a5p:List PV->Option (List Int)
 |[]=>ξ []
 | .int i::r=>(a5p r).map (i::·)
 |_=>ζ
def b1n(is:List Int):Int:=is.getD (argBest (λi j=>decide (is.getD i 0>is.getD j 0)) (is.length - 1)) 0
def b4k(x:d7):Option d7:=match x with
 | .ow (.lst ps)=>(a5p ps).bind λis=>if 0<is.length then ξ (.v (.int (b1n is))) else ζ
 |_=>ζ
theorem a5q{K:AE}{F:Hp}:∀{ps:List PV} {is:List Int} {xs:List V},a5p ps=ξ is->h9 K F ps xs->xs=is.map V.int
 |[],_,_,h,r=>by cases h;cases r;rfl
 |p::ps,is,xs,h,⟨v,vs,e,rv,rt⟩=>by
  subst e;cases p with
  |int z=>
   cases hs:a5p ps with
   |none=>simp [a5p,hs] at h
   |some is'=>
    have h:is=z::is':=by simpa [a5p,hs] using h.symm
    subst h;have e1:=a5q hs rt;cases rv;rw [e1];rfl
  |_=>simp [a5p] at h
theorem a6t:∀{is:List Int} {its:List AA},j4 (is.map V.int) its->∃xs:List (Int×Tok),xs.map (·.1)=is/\its=xs.map λp=>Value.int p.1 p.2
 |[],_,.nil=>⟨[],rfl,rfl⟩
 |i::is,_,.cons r t=>by
  obtain⟨xs,h1,h2⟩:=a6t t;obtain⟨u,rfl⟩:=r;exact⟨(i,u)::xs,by rw [AQ,h1],by rw [AQ,h2]⟩
theorem b6m(hc:X.calm=true):M8 X (.builtin "max") (rC1 X.K b4k):=by
 ext g
 obtain⟨u,rfl,ru⟩:=a1G rv;unfold b4k at h2;split at h2
 ·rename_i ps;obtain⟨is,e1,h2⟩:=bind_some h2;split at h2
  ·rename_i c;cases h2;obtain⟨a,ys,rfl,fa,ha,rl⟩:=h1;cases ru;have ey:=a5q e1 rl;subst ey;obtain⟨_,its,n,vv,e⟩:=(show v4 X.prog X.w H s.heap a (.lst (is.map V.int)) from I.hok a _ ha);obtain⟨zs,hz1,hz2⟩:=a6t vv;have hit:its.toArray=intItems zs.toArray:=by rw [hz2];simp [intItems]
   have hat:∀i,numAt zs.toArray i=is.getD i 0:=λi=>by
    unfold numAt;rw [<-hz1,List.getD_eq_getElem?_getD,Ag];simp
   have hlen:zs.length=is.length:=by rw [<-hz1,AV]
   refine max_intList (l:=a) (xs:=zs.toArray) (I.ok.hd hc) ⟨_,e,rfl,n,by rw [hit]⟩ (by simp;lia) λv h' tk hv hk=> ?_
   obtain⟨t,rfl⟩:=intItems_at hv;have hb:numAt zs.toArray (argBest (λi j=>decide (numAt zs.toArray i>numAt zs.toArray j)) (zs.toArray.size - 1))=b1n is:=by
    unfold b1n;rw [hat,show zs.toArray.size=is.length by simp [hlen]]
    congr 2
    funext i j
    rw [hat,hat]
   rw [hb];exact⟨.int (b1n is),H,I.kept (t':=tk) hk,⟨t,rfl⟩,k _ F H (o9.here s0 rfl)⟩
  ·cases h2
 ·cases h2
end
def b4H:MS:=λ_=>ζ
theorem b36{X:Cx}{st:Stmt}:ES X st b4H:=C6 b5j λD σ H h0=>E9 h0 λF0 H0 F ρ fl so e fin=>by cases e
section
variable {X:Cx}
end
end PU
set_option maxHeartbeats 2000000
namespace PU
open PySem PySem.Spec PyProof.Rows L2 PySem.W
section
variable {prog:AJ}{w:AI}{A:AK}{E:AA->AC->Prop}{s:AC}
end
section
variable {X:Cx}
end
section
variable {P:AJ}{w:AI}{K:AE}{mg:Str->Option AA}{base:Heap}
theorem b6D{x:Str}{st:Stmt}{N ps:List Str}{k:Nat}{m:MX}(D:Df K mg x st)(S:g6 N ps (c7 st))
 (hi:∀(kV doc pm:AA) (an:Option AB) (cdv ct:AA) (us:List AA),us.length=ps.length->bindArgs (PySem.W.fnOf x x (O2 st) (A6 st) (c7 st) .none kV doc pm an cdv ct) ⟨us,[]⟩=pure (ps.zip us))
 (hb:∀(f:AB) (cdv:AA) (A:AK) (outer:List Env) (s:AC) (H:Hp) (E:XK),D2 k (A.deeper (envOfC x (c7 st) s.heap.objs.size f cdv))->a0u (CX1 P w) (a1a (CX1 P w) P w K mg base N x (c7 st) f cdv A outer s H E) (λ_=>E)->EXs (a1a (CX1 P w) P w K mg base N x (c7 st) f cdv A outer s H E) (λ_=>E) (A6 st) m):
 a7Q P w K mg base x ps (k+1) (b5t (N.length - ps.length) m):=
 let ⟨f,fd,F,hm⟩:=D
 ⟨f,fd,b8T F S λcdv A outer s H E hr=>hb f cdv A outer s H E hr λpins σ H s e s' I h=>b0J pins σ H s e s' I h,hm,F.kp,F.binds hi⟩
end
open PySem PySem.Spec PyProof.Rows L2
end PU
set_option maxHeartbeats 1000000
namespace PU
open PySem PySem.Spec PyProof.Rows L2
section
open PySem.AutoSeq1 (wpAny_loadPart')
open PySem.MeetsSeq3 (plain_eq_loop entry_eq_loop)
variable {A:AK}{s:AC}
end
open PySem PySem.Spec PyProof.Rows L2 PySem.W
section
variable {X:Cx}{pins:List (AB×Obj)}{σ:L2.St}{H:Hp}{s:AC}
end
end PU
namespace L2
open PySem PySem.Spec PyProof.Rows
end L2
namespace PU
open PySem PySem.Spec PyProof.Rows L2
open PySem.W (Looks InstAt looks_findIn looks_find looks_subIn looks_mroIn)
def b55(K:AE)(D:AB):Bool:=(PySem.W.clsIn K D).isSome && PySem.W.findIn K (.ref D) "__getattribute__"==ξ (ξ (.builtin "BaseException.__getattribute__"))&& PySem.W.findIn K (.ref D) "__getattr__"==ξ ζ
 && PySem.W.findIn K (.ref D) "__class__"==ξ (ξ (.builtin "object.__class__"))&& PySem.W.specialIn K (.builtin "object.__class__") "__get__"==ξ (ξ (.builtin "getset_descriptor.__get__"))&& PySem.W.takesIn K (.builtin "object.__class__")==ξ true
 && PySem.W.mroIn K D (.type "object")==ξ true && PySem.W.subIn K (.ref D) (.type "BaseException")==ξ true
structure XcF(K:AE)(D:AB):Prop where
 cl:(PySem.W.clsIn K D).isSome=true
 ga:PySem.W.findIn K (.ref D) "__getattribute__"=ξ (ξ (.builtin "BaseException.__getattribute__"))
 gt:PySem.W.findIn K (.ref D) "__getattr__"=ξ ζ
 ob:∀od,PySem.W.findObj K D od "__class__"=ξ (.bind (.builtin "getset_descriptor.__get__") (.builtin "object.__class__"))
 mo:PySem.W.mroIn K D (.type "object")=ξ true
 sb:PySem.W.subIn K (.ref D) (.type "BaseException")=ξ true
theorem b7N{K:AE}{D:AB}(h:b55 K D=true):XcF K D:=by
 unfold b55 at h;simp only [Bool.and_eq_true,beq_iff_eq] at h;obtain⟨⟨⟨⟨⟨⟨⟨h1,h2⟩,h3⟩,h4⟩,h5⟩,h6⟩,h7⟩,h8⟩:=h;refine⟨h1,h2,h3,λod=> ?_,h7,h8⟩;obtain⟨cd,hc⟩:=Option.isSome_iff_exists.mp h1;unfold PySem.W.findObj;rw [hc,AS,h4,AS];simp [h5,h6]
section
variable {prog:AJ}{w:AI}{A:AK}{E:AA->AC->Prop}{s:AC}{K:AE}{x D:AB}{ox:Obj}{od:Option Obj}
theorem b58{tk:Tok}{Q:PySem.Fin->AC->Prop}(X:K.In s.heap)(I:InstAt s.heap x ox D od)(F:XcF K D)(hq:Q (.done (.ret (.ref D))) s):
 AF (model prog w) A (Builtin.«object.__getattribute__» ⟨[.ref x,.str "__class__" tk],[]⟩) Q E s:=by
 obtain⟨hh,g,d,t,os⟩:=s
 have L0:=I.type (M:=model prog w)
 have L1:=looks_find (M:=model prog w) X I (F.ob od)
 unfold Builtin.«object.__getattribute__»
 repeat (any_goals (first|assumption|with_reducible refine L0.at ?_|with_reducible refine L1.at ?_|wp_step))
 exact PySem.W.class_get (s:=⟨hh,g,d,t,os⟩) X I F.mo (AH hq)
theorem b56{nameV:AA}{Q:Unit->AC->Prop}(X:K.In s.heap)(I:InstAt s.heap x ox D od)(F:XcF K D)(hq:Q () s):AF (model prog w) A (checkBuiltinCall "BaseException.__getattribute__" ⟨[.ref x,nameV],[]⟩) Q E s:=by
 obtain⟨hh,g,d,t,os⟩:=s;have L0:=I.type (M:=model prog w);have L1:=looks_subIn (M:=model prog w) X F.sb;have hk:builtinKind "BaseException.__getattribute__"=ξ .slot:=by decide+kernel
 have hsplit:splitId "BaseException.__getattribute__"=ξ ("BaseException","__getattribute__"):=by decide+kernel
 have ha:=PySem.F.args_bexc_ga (.ref x) nameV;simp only [checkBuiltinCall,hk,hsplit];refine AD ?_
 ·unfold isInstance
  repeat (first|with_reducible refine L0.at ?_|with_reducible refine L1.at ?_|wp_step)
  exact hq
theorem c1w{tk:Tok}{fill expr:Bool}{Q:AA->AC->Prop}(X:K.In s.heap)(I:InstAt s.heap x ox D od)(F:XcF K D)(hq:Q (.ref D) s):AF (model prog w) A (getAttrBy (.ref x) (.str "__class__" tk) fill expr) Q E s:=by
 obtain⟨hh,g,d,t,os⟩:=s;have L0:=I.type (M:=model prog w);have L1:=looks_findIn (M:=model prog w) X F.ga;have L2:=looks_findIn (M:=model prog w) X F.gt;have FB:=PySem.F.attr_ValueError;have f3:=FB.ga.bind (.ref x);have hx0:(expr && onTheHeap (Value.builtin "BaseException.__getattribute__"))=false:=by cases expr<;>rfl
 have hx2:(Value.builtin "BaseException.__getattribute__"==Value.builtin "object.__getattribute__")=false:=by decide+kernel
 have hx1:(onTheHeap (Value.ref D)&& Value.builtin "BaseException.__getattribute__"==Value.builtin "object.__getattribute__")=false:=by rw [hx2];rfl
 repeat (any_goals (first|assumption|with_reducible refine L0.at ?_|with_reducible refine L1.at ?_|with_reducible refine L2.at ?_|wp_step))
 refine codeAny_call_builtin FB.ga.plain PySem.F.entry_bexc_ga (b56 (s:=⟨hh,g,d,t,os⟩) X I F (b58 (s:=⟨hh,g,d,t,os⟩) X I F ?_))
 repeat (any_goals (first|assumption|wp_step))
theorem b57{Q:Option AA->AC->Prop}(X:K.In s.heap)(I:InstAt s.heap x ox D od)(F:XcF K D)(hq:Q (ξ (.ref D)) {s with toks:=s.toks+1}):AF (model prog w) A (getAttr? (.ref x) "__class__") Q E s:=by
 obtain⟨hh,g,d,t,os⟩:=s;unfold getAttr? getAttrBy?;refine AD (wpAny_mkText (AD (wpAny_attempt (c1w (s:=⟨hh,g,d,t+1,os⟩) X I F ?_))));exact AH hq
end
theorem b2n{K:AE}{x D:AB}{c:AA}(F:XcF K D)(e:PySem.W.kitOne K (.ref D) c=ξ false):Answers (λs=>K.In s.heap/\∃o od,InstAt s.heap x o D od) (.ref x) c false:=λdep tk prog w A R s hs=>by
 obtain⟨hh,gg,dr,tt,oo⟩:=s;obtain⟨⟨kin,o,od,I⟩,fin⟩:=hs;have L0:=I.type (M:=model prog w);have hisD:Looks (model prog w) hh (isType (.ref D)) true:=by
  obtain⟨cdD,hcD⟩:=Option.isSome_iff_exists.mp F.cl;unfold PySem.W.clsIn at hcD;split at hcD
  ·rename_i c' d' cd' sl' ho;intro A' Q' E' s' k q;unfold isType loadHead;exact AD (wpAny_loadPart (k _ _ (kin _ _ ho)) (AH q))
  ·cases hcD
 unfold Builtin.«isinstance.nested»;refine AD ?_;refine L0.at ?_;cases q:(Value.ref D==c) with
 |true=>
  unfold PySem.W.kitOne at e;rw [q,if_pos rfl] at e;cases e
 |false=>
  rw [if_neg Ac];unfold PySem.W.kitOne at e;rw [q,if_neg Ac] at e;have z:=PySem.W.kit_cls (M:=model prog w) kin e;have z3:Looks (model prog w) hh (isInstance (.ref x) c) false:=L0.andThen z.2.2;refine AD ?_;refine z.1.at ?_;rw [if_pos (by decide)]
  k_delta "plainIsInstance"
  refine AD ?_;refine AD ?_;refine z.2.1.at ?_;simp only [Bool.not_true,if_false,AX];refine AD ?_;refine z3.at ?_;simp only [AX,if_false];refine AD (b57 (s:=⟨hh,gg,dr,tt,oo⟩) kin I F ?_);refine AD (hisD.at ?_);simp only [Bool.not_true,AX,if_false];refine AD (wpAny_rule ?_);refine z.2.2.at ?_
  first
   |exact AH (fin _)
   |exact AH (AH (fin _))
   |exact AD (AH (AH (fin _)))
theorem b2O{K:AE}{prog:AJ}{w:AI}{A:AK}{E:AA->AC->Prop}{s:AC}{Q:AA->AC->Prop}{x D:AB}{c:AA}{o:Obj}{od:Option Obj}(kin:K.In s.heap)(I:InstAt s.heap x o D od)(F:XcF K D)(e:PySem.W.kitOne K (.ref D) c=ξ false)(fin:∀tk,Q (.bool false) {s with toks:=tk}):
 AF (model prog w) A (call (.builtin "isinstance") [.ref x,c]) Q E s:=by
 refine call_isinstance (S:=λ_ R s=>(K.In s.heap/\∃o od,InstAt s.heap x o D od)/\∀tk,R (.ok (.ret (.bool false))) {s with toks:=tk}) (λprog w A R s hs=> ?_) ⟨⟨kin,o,od,I⟩,fin⟩
 refine isinstance_outer ?_ (λz=>nomatch z)
 exact b2n F e 0 _ prog w A R s hs
def b6g(K:AE)(cv:AA)(tab:List (Str×Bool)):Prop:=∀c b,tab.lookup c=ξ b->∃C,N6 K c C/\XcF K C/\PySem.W.kitOne K (.ref C) cv=ξ b
theorem a98{K:AE}{cv:AA}:b6g K cv []:=λ_ _ h=>nomatch h
theorem a7H{K:AE}{mg:Str->Option AA}{cv:AA}{c:Str}{b:Bool}{C:AB}{t:List (Str×Bool)}(x:XC K mg c C)(f:b55 K C=true)(e:PySem.W.kitOne K (.ref C) cv=ξ b)(h:b6g K cv t):b6g K cv ((c,b)::t):=λc1 b1 q=>by
 rw [List.lookup_cons] at q;split at q
 ·rename_i z;cases q;rw [beq_iff_eq.mp z];exact⟨C,x.named,b7N f,e⟩
 ·exact h c1 b1 q
section
variable {X:Cx}
theorem b30{tab:List (Str×Bool)}{cv:AA}{cV:V}{e:AG}{n:Str}{m:M}{p p2 pos:Pos}(T:b6g X.K cv tab)(rv:∀u,j3 cV u->u=cv)(hg:Gl X "isinstance")(hm:X.mg "isinstance"=ζ)(ha:EE X e m)(hT:PE X (.Name n p2) (tC cV))
 (he:AL [e,.Name n p2] X.env=(false,eval e X.env)::AL [.Name n p2] X.env:=by rfl) (he2:AL [.Name n p2] X.env=(false,eval (.Name n p2) X.env)::AL [] X.env:=by rfl) (hpl:(backTo pos (AL [.Name n p2] X.env)).any (·.1)=false:=by rfl)
 (hv:bootBuiltins "isinstance"=ξ (.builtin "isinstance"):=by rfl):
 EE X (.Call (.Name "isinstance" p) [e,.Name n p2] [] pos) (m1 (b6I tab) m):=by
 have hc:M8 X (.builtin "isinstance") (λxs H Q=>∃F x c b,xs=[x,cV]/\g8 F H/\b2m X.K F c x/\tab.lookup c=ξ b/\Q (.bl b) H):=by
  intro pins s σ H xs us Q I rv0 h;obtain⟨F,x,c,b,rfl,s0,h1,hl,q⟩:=h;obtain⟨u,u2,rfl,ru,ru2⟩:∃u1 u2,us=[u1,u2]/\j3 x u1/\j3 cV u2:=by
   cases rv0 with
   |cons p q=>
    cases q with
    |cons p' q'=>
     cases q';exact⟨_,_,rfl,p,p'⟩
  cases rv _ ru2;obtain⟨C,nm,fc,k1⟩:=T c b hl;have fin:∀tk,EP X pins σ Q (.bool b) {s with toks:=tk}:=λtk=>⟨.bl _,H,I.tok tk,rfl,q⟩
  obtain⟨a,C',o,od,rfl,g4,J⟩:=b7S I (h1.mono s0);cases g4.uniq nm;cases(show u=Value.ref a from ru);cases b with
  |true=>exact b4t I.kIn J.at_ J.cls k1 fin
  |false=>exact b2O I.kIn J fc k1 fin
 exact m6 (a1s hc hg hm hv (u7 ha (u7 hT M6 he2) he) (by decide) (by decide) he hpl) λσ H Q h0=>k4 h0 λF ρ r h1 h2 k=>by
  obtain⟨rx,e1,h2⟩:=bind_some h2;refine⟨F,ρ,rx,h1,e1,λv F1 H1 o=> ?_⟩;obtain⟨c,hc,h2⟩:=bind_some h2;cases hl:tab.lookup c with
  |none=>rw [hl] at h2;cases h2
  |some b=>
   rw [hl] at h2;cases h2;exact⟨H1,v,c,b,rfl,g8.refl H1,b7Q (o.rep.rd o.x.fh) hc,hl,k _ F1 H1 (o9.val o.x rfl)⟩
end
end PU
namespace ZT
open PySem PySem.Spec PyProof.Rows L2 PU
section
variable {prog:AJ}{w:AI}{A:AK}{E:AA->AC->Prop}{s:AC}{z TI TO i1 i2:AB}{n1 n2 i:Nat}{P1 P2:Nat->AA->Prop}{St1 St2:Nat->Heap->Prop}{a b:AA}{l1 l2:AB}
end
section
variable {prog:AJ}{w:AI}{A:AK}{E:AA->AC->Prop}{s:AC}
end
section
variable {X:Cx}
end
end ZT
namespace PU
open PySem PySem.Spec PyProof.Rows L2
section
variable {X:Cx}
end
structure FnV(K:AE)(mg:Str->Option AA)(x:Str)(f:AB):Prop where
 mg:mg x=ξ (.ref f)
 at_:b1i K x (.ref f)
 one:∀a,b1i K x (.ref a)->a=f
def b4W(K:AE)(x:Str)(f:AB):Bool:=K.all λp=>match p.2.data with
 | .func fd=> !(fd.name==x)||p.1==f
 |_=>true
theorem b4F{K:AE}{a:AB}{o:Obj}:K.lookup a=ξ o->(a,o)∈K:=by
 induction K with
 |nil=>intro h;cases h
 |cons p r ih=>
  intro h;obtain⟨b,u⟩:=p;rw [List.lookup_cons] at h;split at h
  ·rename_i z;cases h;rw [beq_iff_eq.mp z];exact Af
  ·exact Ae _ (ih h)
theorem b8V{K:AE}{mg:Str->Option AA}{x:Str}{f:AB}{oc:AA}{od:Option AB}{fd:FuncData}{sl:Array (Option AA)}(hm:mg x=ξ (.ref f))(l:K.lookup f=ξ ⟨oc,od,.func fd,sl⟩)(hn:fd.name=x)(q:b4W K x f=true):FnV K mg x f:=by
 refine⟨hm,⟨f,oc,od,fd,sl,rfl,l,hn⟩,λa h=> ?_⟩;obtain⟨b,oc',od',fd',sl',e,l',hn'⟩:=h;cases e;have:=List.all_eq_true.mp q _ (b4F l');simp only [hn',beq_self_eq_true,Bool.not_true,Bool.false_or] at this;exact beq_iff_eq.mp this
abbrev b75(x:Str):PV:= .dict [(.str x,.none)]
section
variable {X:Cx}
theorem c0F{x:Str}{f:AB}{pos:Pos}(v:FnV X.K X.mg x f)(hg:Gl X x:=by rfl)(hd:(x==("__debug__":Str))=false:=by decide):EE X (.Name x pos) (mC (b75 x)):=
 a0c (v:= .ref f) (a8t hg v.mg rfl hd) λH=>Or.inr (Or.inr (Or.inl ⟨x,_,rfl,.inl ⟨rfl,v.at_⟩⟩))
def b1j(X:Cx)(n k':Nat)(tab:List (Str×(List PV->Option d7))):Prop:=∀x g,tab.lookup x=ξ g->∃f fd ps k,P5 X.prog X.w X.K X.mg X.base CX0 k f fd ps (spP X.K ps.length g)/\k<=k'/\PySem.W.keepIn X.K (.ref f)=true/\a0a X.K fd ps []/\ps.length=n/\∀a,b1i X.K x (.ref a)->a=f
theorem b2G{n k':Nat}:b1j X n k' []:=λ_ _ h=>nomatch h
theorem b0w{n k k':Nat}{x:Str}{f:AB}{ps:List Str}{g:List PV->Option d7}{t:List (Str×(List PV->Option d7))}(d:m4 X.prog X.w X.K X.mg X.base x ps k g)(v:FnV X.K X.mg x f)(hk:k<=k')(hn:ps.length=n)(h:b1j X n k' t):b1j X n k' ((x,g)::t):=λy g' q=>by
 rw [List.lookup_cons] at q;split at q
 ·rename_i z;cases q;obtain⟨f',fd,G,h1,h2,h3⟩:=d;have e:=v.mg.symm.trans h1;cases e;refine⟨f,fd,ps,k,G,hk,h2,h3,hn, ?_⟩;rw [beq_iff_eq.mp z];exact v.one
 ·exact h y g' q
def b0O(tab:List (Str×(List PV->Option d7)))(i:Nat)(m:MA):M:=λρ=>match ρ[i]? with
 |some (ξ (.v (.dict [(.str x,.none)])))=>(tab.lookup x).bind λg=>(m ρ).bind g
 |_=>ζ
theorem b3T(i:Nat){n k':Nat}{y:Str}{p pos:Pos}{tab:List (Str×(List PV->Option d7))}{e:AG}{es:List AG}{m:MA}(T:b1j X n k' tab)(hr:D2 k' X.A)(hv:PE X (.Name y p) (C7 i))(hn:∀ρ qs,m ρ=ξ qs->qs.length=n)(ha:EA X (e::es) m)
 (he:AL (e::es) X.env=(false,eval e X.env)::AL es X.env:=by rfl) (hpl:(backTo pos (AL es X.env)).any (·.1)=false:=by rfl):
 EE X (.Call (.Name y p) (e::es) [] pos) (b0O tab i m):=by
 intro pins s σ H Q I ⟨F,ρ,r,env,hm,k⟩
 unfold b0O at hm
 split at hm
 ·rename_i x hρ
  cases hl:tab.lookup x with
  |none=>rw [hl] at hm;cases hm
  |some g=>
   rw [hl,AS] at hm
   obtain⟨f,fd,ps,kk,G,hk,h2,h3,h4,one⟩:=T x g hl
   obtain⟨v,hσ,hrep⟩:=env.at_ i _ hρ
   have hvf:v= .ref f:=by
    rcases hrep with⟨_,_,_,_,kk1,w1,t1,_,zz,_⟩|⟨_,_,_,_,kk1,w1,t1,_,zz,_⟩|⟨z,t,e,hz⟩|⟨_,_,_,ho,hf⟩
    ·cases zz
    ·cases zz
    ·cases e;rcases hz with⟨_,hz⟩|⟨e,_⟩
     ·obtain⟨a,_,_,_,_,ea,_⟩:=id hz;subst ea;rw [one a hz]
     ·cases e
    ·rcases(b1V ho hf).2.1 with e|e<;>cases e
   subst hvf
   refine wpAny_Call_Name_kw (C8 (hv pins s σ H (λv H1=>v= .ref f/\H1=H) I ⟨.ref f,hσ,rfl,rfl⟩) λu s1 h0=>a4A h0 λv H1 I1 rv hv1 hH=> ?_)
   subst hv1 hH
   cases(show u=Value.ref f from rv)
   obtain⟨qs,e1,e2⟩:=bind_some hm
   refine PySem.W.callWith_K (h₀:=X.base) I1.ok.mod.kin h2 (C8 (ha pos pins s1 σ H1 (λvs H2=>∃F2,R5 F H1 F2 H2/\h9 X.K F2 qs vs) I1 ⟨F,ρ,qs,env,e1,λvs F2 H2 x rl=>⟨F2,x,rl⟩⟩) λus s2 ⟨vs,H2,I2,rr,F2,x2,rl⟩=>⟨I2.kIn, ?_⟩) he hpl
   refine b5w (dvs:=[]) (ds:=[]) (sp:=spP X.K ps.length g) (E:=E0) G (hr.mono hk) h3 .nil a7s I2 rr ?_
   show spP X.K ps.length g (vs++[]) H2 Q E0
   rw [Ad]
   exact⟨F2,qs,r,x2.fh,rl,(hn _ _ e1).trans h4.symm,e2,λv F3 H3 o=>k v F3 H3 (o9.trans x2 o)⟩
 ·cases hm
end
def c1f(n:Nat):f6->Bool
 | .inr s=>s.length==n
 |_=>false
def b0H(k:List f6):Bool:=((k.length==2||k.length==3)&& k.any Sum.isLeft)||((Nat.blt 0 k.length && Nat.blt k.length 6)&& k.all (c1f k.length))
def a22(_:AE):Bool:=true
def a9u:List PV->Option (List (List f6))
 |[]=>ξ []
 | .tuple qs::r=>(keysOf qs).bind λk=>(a9u r).map λt=>k::t
 |_::_=>ζ
def a9t:List PV->Option Ky3
 |[]=>ξ []
 | .tuple qs::r=>(a9u qs).bind λk=>if k.isEmpty=true then ζ else(a9t r).map λt=>k::t
 |_::_=>ζ
def a7c(r:d7):Option (List f6):=match r with
 | .v (.tuple ps)=>((keysOf ps).bind λk=>if b0H k=true then ξ k else ζ).or ((a9t ps).bind λk=>if k.isEmpty=true then ζ else ξ (a1Z k))
 |_=>ζ
theorem a9r{k:List f6}(h:b0H k=true):k.length<=5:=by
 unfold b0H at h;simp at h
 lia
section
variable {K:AE}{F:Hp}
theorem a7y:∀{ps:List PV} {ks:List (List f6)} {xs:List V},a9u ps=ξ ks->h9 K F ps xs->∃as:List AB,xs=as.map V.ref/\Paired (KyF K F) as ks
 |[],ks,xs,h,r=>by cases h;cases r;exact⟨[],rfl,.nil⟩
 | .tuple qs::ps,ks,xs,h,r=>by
   unfold a9u at h;obtain⟨k,h1,h⟩:=bind_some h;cases h2:a9u ps with
   |none=>rw [h2] at h;cases h
   |some t=>
    rw [h2] at h;cases h;obtain⟨x,xr,rfl,rx,rr⟩:=r;obtain⟨as,e,p⟩:=a7y h2 rr;obtain⟨b,ys,rfl,hq,rl⟩:=rx;have ex:=Q6 h1 rl;subst ex e;refine⟨b::as,rfl,.cons ?_ p⟩;rcases hq with hq|⟨o,its,n,g1,g2,g3,g4,g5⟩
    ·exact .inl hq
    ·exact .inr ⟨o,its,n,g1,g2,g3,g5⟩
 | .none::_,_,_,h,_=>nomatch h
 | .bool _::_,_,_,h,_=>nomatch h
 | .int _::_,_,_,h,_=>nomatch h
 | .str _::_,_,_,h,_=>nomatch h
 | .list _::_,_,_,h,_=>nomatch h
 | .dict _::_,_,_,h,_=>nomatch h
theorem b8o{b:AB}{xs:List V}(h:TqT K F b xs):KyT K F b xs:=h.imp id λ⟨o,its,n,g1,g2,g3,_,g5⟩=>⟨o,its,n,g1,g2,g3,g5⟩
theorem a7x(nk:a22 K=true):∀{ps:List PV} {ks:Ky3} {xs:List V},a9t ps=ξ ks->h9 K F ps xs->∃as:List AB,xs=as.map V.ref/\Paired (KyB K F) as ks
 |[],ks,xs,h,r=>by cases h;cases r;exact⟨[],rfl,.nil⟩
 | .tuple qs::ps,ks,xs,h,r=>by
   unfold a9t at h;obtain⟨k,h1,h⟩:=bind_some h;split at h
   ·cases h
   ·rename_i hk;cases h2:a9t ps with
    |none=>rw [h2] at h;cases h
    |some t=>
     rw [h2] at h;cases h;obtain⟨x,xr,rfl,rx,rr⟩:=r;obtain⟨as,e,p⟩:=a7x nk h2 rr;obtain⟨b,ys,rfl,hq,rl⟩:=rx;obtain⟨bs,e2,p2⟩:=a7y h1 rl;subst e2 e;exact⟨b::as,rfl,.cons ⟨bs,b8o hq,p2⟩ p⟩
 | .none::_,_,_,h,_=>nomatch h
 | .bool _::_,_,_,h,_=>nomatch h
 | .int _::_,_,_,h,_=>nomatch h
 | .str _::_,_,_,h,_=>nomatch h
 | .list _::_,_,_,h,_=>nomatch h
 | .dict _::_,_,_,h,_=>nomatch h
end
theorem a1P{K:AE}{F H:Hp}{r:d7}{k:List f6}{v:V}(nk:a22 K=true)(e:a7c r=ξ k)(h:K8 K F H v r):∃b,v= .ref b/\KyA K F b k:=by
 unfold a7c at e;split at e
 ·rename_i ps;obtain⟨b,xs,rfl,hq,rl⟩:=h;rcases Option.or_eq_some_iff.mp e with e|⟨_,e⟩
  ·obtain⟨k',e1,e⟩:=bind_some e;split at e
   ·rename_i hk;cases e;have ex:=Q6 e1 rl;subst ex;rcases hq with hq|⟨o,its,n,h1,h2,h3,h4,h5⟩
    ·exact⟨b,rfl,.inl ⟨a9r hk,.inl hq⟩⟩
    ·exact⟨b,rfl,.inl ⟨a9r hk,.inr ⟨o,its,n,h1,h2,h3,h5⟩⟩⟩
   ·cases e
  ·obtain⟨k',e1,e⟩:=bind_some e;split at e
   ·cases e
   ·rename_i hk;cases e;obtain⟨as,ex,p⟩:=a7x nk e1 rl;subst ex;exact⟨b,rfl,.inr ⟨k',rfl,λz=>hk (by rw [z];rfl),as,b8o hq,p⟩⟩
 ·cases e
section
variable {X:Cx}
def O8(i:Nat)(mk mv:M):MS:=λρ=>((mv ρ).bind d7.toVal).bind λp=>((mk ρ).bind a7c).bind (b3S i ρ p)
theorem V1(i:Nat){x:Str}{p tp2 pos:Pos}{ek e:AG}{mk mv:M}(hu:X.A.units+64<cLine)(nk:a22 X.K=true)(hx:PE X (.Name x p) (C7 i))(hi:EE X ek mk)(he:EE X e mv)
 (hs:swapsWith e (ξ (.Subscript (.Name x p) ek tp2)) pos.line X.env=pure false:=by rfl):ES X (.Assign [.Subscript (.Name x p) ek tp2] e pos) (O8 i mk mv):=
 C6 (b1Z (by lia) hx hi he hs) λD σ H h0=>E9 h0 λF0 H0 F ρ fl so e fin=>by
  obtain⟨q,e1,e⟩:=bind_some e;obtain⟨r,e2,e3⟩:=bind_some e1;obtain⟨k,e4,e⟩:=bind_some e;obtain⟨rk,e4,e5⟩:=bind_some e4;refine⟨F,ρ,r,so.e,e2,λv F1 H1 o=> ?_⟩;obtain⟨F2,o2⟩:=o.toVal e3;have so2:=so.ext o2.x;unfold b3S at e;split at e
  ·rename_i kvs eo;split at e
   ·rename_i hl;cases e;obtain⟨w,hw1,a,xs,rfl,fa,ha',rl⟩:=so2.e.at_ i _ eo;refine⟨.ref a,hw1,F2,ρ,rk,so2.e,e4,λy F3 H3 o3=> ?_⟩;obtain⟨b,rfl,hb⟩:=a1P nk e5 o3.rep;have ha3:=o3.x.h _ _ ha';have so3:=so2.ext o3.x;refine⟨a,_,rfl,a8P.t (k:=k) ha3 (hb.mono o3.x.fh) (by rw [rl.length];exact hl), ?_⟩
    exact fin σ _ _ (o2.x.f.trans o3.x.f) (so3.putD eo hw1 ((p7.mono o3.x.f _ rl).put (A5.mono o3.x.f _ o2.rep)))
   ·cases e
  ·cases e
def a4d(neg:Bool)(i:Nat)(mk:M):M:=λρ=>((mk ρ).bind a7c).bind (c0C neg i ρ)
theorem b3P{i:Nat}{mk:M}{neg:Bool}{σ:L2.St}{H:Hp}{Q:VK}(nk:a22 X.K=true)(h:tM X.K (a4d neg i mk) σ H Q):
 tM X.K mk σ H λy H1=>C7 i σ H1 λx H2=>∃a o,x= .ref a/\a1X X.K H2 a y o/\Q (.bl (if neg then !o.isSome else o.isSome)) H2:=by
 obtain⟨F,ρ,r,en,e,k⟩:=h
 obtain⟨kk,e4,e⟩:=bind_some e
 obtain⟨rk,e4,e5⟩:=bind_some e4
 unfold c0C at e
 split at e
 ·rename_i kvs eo
  cases e
  refine⟨F,ρ,rk,en,e4,λy F3 H3 o3=> ?_⟩
  obtain⟨b,rfl,hb⟩:=a1P nk e5 o3.rep
  obtain⟨w,hw1,a,xs,rfl,fa,ha',rl⟩:=(en.ext o3.x).at_ i _ eo
  refine⟨.ref a,hw1,a,P6 xs kk,rfl,a1X.t ha' (hb.mono o3.x.fh), ?_⟩
  rw [rl.isSome]
  exact k _ _ _ (o9.val o3.x rfl)
 ·cases e
theorem W6(i:Nat){x:Str}{p pos:Pos}{ek:AG}{mk:M}(hu:X.A.units+64<cLine)(nk:a22 X.K=true)(hx:PE X (.Name x p) (C7 i))(hi:EE X ek mk)(hm:behindInMarks .NotIn (.Name x p)=false):ET X (.Compare ek [.NotIn] [.Name x p] pos) (mtB (a4d true i mk)):=
 a8v (b9K (b28 (by lia) hi hx) hm) λσ H Q h=>c1l (λ_ _ _ h=>b3P nk h) h
end
def a5B(mk mv:M):M:=λρ=>((mk ρ).bind a7c).bind λk=>((mv ρ).bind d7.toVal).bind λp=>ξ (.dct [(k,p)])
section
variable {X:Cx}
theorem a5c{ek ev:AG}{mk mv:M}{pos:Pos}(hu:X.A.units+64<cLine)(nk:a22 X.K=true)(hk:EE X ek mk)(hv:EE X ev mv):EE X (.Dict [ξ ek] [ev] pos) (a5B mk mv):=by
 intro pins s σ H Q I h;obtain⟨F,ρ,r,en,e,kq⟩:=h;obtain⟨k,e1,e⟩:=bind_some e;obtain⟨rk,e2,e3⟩:=bind_some e1;obtain⟨p,e4,e⟩:=bind_some e;obtain⟨rv,e5,e6⟩:=bind_some e4;cases e;have hn:=I.hok.fresh (AN s.heap.objs.size);have I1:=I.laid (a:=s.heap.objs.size) (o:= .dT X.K []) (h':=s.heap.push {cls:= .type "dict",data:= .dict #[]}) (t':=s.toks) (λ_ _ q=>AR _ q) (AN _) (a9e s.heap I.big);have x0:R5 F H F (i7 H s.heap.objs.size (.dT X.K [])):=R5.layH en.fh hn;refine wpAny_Dict_any rfl rfl (by simp) (by show 1<=15;decide) (C8 (b5i hk hv b7j pins _ σ _ (λps H2=>∃y b F2,ps=[(V.ref b,y)]/\KyA X.K F2 b k/\R5 F (i7 H s.heap.objs.size (.dT X.K [])) F2 H2/\A5 X.K F2 p y) I1 ?_) λvs s2 hq=> ?_)
 ·refine⟨F,ρ,rk,en.ext x0,e2,λx F1 H1 o1=>⟨F1,ρ,rv,(en.ext x0).ext o1.x,e5,λy F2 H2 o2=> ?_⟩⟩;obtain⟨b,rfl,hb⟩:=a1P nk e3 o1.rep;obtain⟨F3,o3⟩:=o2.toVal e6;exact⟨y,b,F3,rfl,hb.mono o3.x.f,(o1.x).trans o3.x,o3.rep⟩
 ·obtain⟨ps,H2,I2,rel,y,b,F2,hps,hb,x2,rp⟩:=hq;subst hps;cases rel with
  | @cons pq uv _ _ r1 r2=>
    cases r2;obtain⟨u,w⟩:=uv;obtain⟨ru,rw'⟩:=r1;cases(show u=Value.ref b from ru);have hp2:H2 s.heap.objs.size=ξ (.dT X.K []):=x2.h _ _ c8;have fp:F2 s.heap.objs.size=ζ:=x2.nw _ _ (en.fh.free hn) c8 (λ_ h=>nomatch h);unfold storeAll;rw [List.forIn_cons];refine AD (AD (b6q (by lia) I2 hp2 (hb.mono x2.fh) (by rw [sizeLine_eq];decide) rw' λs3 I3=>AH ?_))
    dsimp only;rw [List.forIn_nil];refine AH ⟨.ref s.heap.objs.size,_,I3,rfl,kq _ F2 _ ⟨⟨x2.f,λc o z=> ?_,λc o z=> ?_,λc o z y' t=> ?_,x2.nf⟩,⟨_,_,rfl,fp,c8,y,[],rfl,rp,rfl⟩,λ_ _ _ e=>by cases e;exact hn⟩⟩
    ·rw [a9 (f7 z hn)];exact x2.h _ _ (by rw [a9 (f7 z hn)];exact z)
    ·rw [a9 (f7 z fp)];exact x2.fh _ _ z
    ·exact x2.nw c o z (by rw [a9 (f7 y' hn)];exact y') t
end
section
variable {X:Cx}
variable {Φ:L2.St->Hp->Prop}{I:List Nat}
end
def b66(K:AE):Bool:=K.all λp=>match p.2.cls with
 | .type x=> !(x=="list")
 |_=>true
theorem b4S{K:AE}(nk:b66 K=true){a:AB}{o:Obj}(e:K.lookup a=ξ o)(hc:o.cls= .type "list"):False:=by
 obtain⟨b,hb⟩:=b0L e;have h:=List.all_eq_true.mp nk _ hb;simp only [hc] at h;simp at h
theorem b9v{K:AE}{F H:Hp}{v:V}:∀{c:V2},R7 K F H v c->∃a o,v= .ref a/\F a=ζ/\H a=ξ o/\NT o
 | .lst _,⟨a,_,e,n,q,_⟩=>⟨a,_,e,n,q,λ_ h=>nomatch h⟩
 | .dct _,⟨a,_,e,n,q,_⟩=>⟨a,_,e,n,q,λ_ h=>nomatch h⟩
 | .txt _,⟨a,_,e,n,q,_⟩=>⟨a,_,e,n,q,λ_ h=>nomatch h⟩
theorem b7q{K:AE}{F H F' H':Hp}{a:AB}:∀{c:V2},R7 K F H (.ref a) c->g8 F F'->F' a=ζ->(∀o,H a=ξ o->H' a=ξ o)->R7 K F' H' (.ref a) c
 | .lst _,⟨a',xs,e,n,q,r⟩,s,f,h=>by cases e;exact⟨_,xs,rfl,f,h _ q,h9.mono s _ r⟩
 | .dct _,⟨a',xs,e,n,q,r⟩,s,f,h=>by cases e;exact⟨_,xs,rfl,f,h _ q,p7.mono s _ r⟩
 | .txt _,⟨a',xs,e,n,q,r⟩,s,f,h=>by cases e;exact⟨_,xs,rfl,f,h _ q,p7.mono s _ r⟩
theorem b9T{ρ:b9}{i j:Nat}{r:Option d7}{q:d7}(h:(ρ.set i r)[j]?=ξ (ξ q)):(j=i/\r=ξ q)\/(j≠i/\ρ[j]?=ξ (ξ q)):=by
 rw [List.getElem?_set] at h;split at h
 ·rename_i z;split at h
  ·exact .inl ⟨z.symm,Option.some.inj h⟩
  ·cases h
 ·rename_i z;exact .inr ⟨λy=>z y.symm,h⟩
section
variable {X:Cx}
end
section
variable {X:Cx}{tg:AG}
end
section
variable {X:Cx}
end
open PySem PySem.Spec PyProof.Rows L2 PySem.W
section
variable {X:Cx}
end
section
variable {K:AE}{F F1:Hp}{a:AB}{xs:List (List f6×V)}
structure Alt(K:AE)(F F1:Hp)(a:AB)(xs:List (List f6×V)):Prop where
 ne:∀b u,b≠a->F b=ξ u->F1 b=ξ u
 a0:Rd F a (.dT K xs)
 a1:Rd F1 a (.dT K xs)
theorem Alt.eq(A:Alt K F F1 a xs){b:AB}{u:HO}(h:F b=ξ u)(n1:∀K ys,u≠.dT K ys)(n2:∀o K ys,u≠.frz o (.dT K ys)):F1 b=ξ u:=by
 refine A.ne b u (λe=> ?_) h;subst e;rcases A.a0 with q|⟨o,q⟩
 ·rw [q] at h;cases h;exact n1 _ _ rfl
 ·rw [q] at h;cases h;exact n2 _ _ _ rfl
theorem Alt.rd(A:Alt K F F1 a xs){b:AB}{u:HO}(h:Rd F b u)(n1:∀K ys,u≠.dT K ys)(n2:∀o w,u≠.frz o w):Rd F1 b u:=by
 rcases h with h|⟨o,h⟩
 ·exact .inl (A.eq h n1 λo K ys=>n2 _ _)
 ·exact .inr ⟨o,A.eq h (λ_ _ z=>nomatch z) λo' K ys z=>by cases z;exact n1 _ _ rfl⟩
theorem Alt.fn(A:Alt K F F1 a xs){x:Str}{t:PV}{v:V}(h:a8V K F x t v):a8V K F1 x t v:=by
 rcases h with h|⟨z,b,C,φ,e,q,r⟩
 ·exact .inl h
 ·exact .inr ⟨z,b,C,φ,e,A.eq q (λ_ _ z=>nomatch z) (λ_ _ _ z=>nomatch z),r⟩
theorem Alt.ob(A:Alt K F F1 a xs){x:Str}{m:V}{fs:List (Str×V)}{v:V}(h:a6A K F x m fs v):a6A K F1 x m fs v:=by
 rcases h with⟨z,b,C,dx,e,q,n⟩|⟨z,b,C,dx,φ,e,q,r,d,n⟩
 ·exact .inl ⟨z,b,C,dx,e,A.eq q (λ_ _ z=>nomatch z) (λ_ _ _ z=>nomatch z),n⟩
 ·exact .inr ⟨z,b,C,dx,φ,e,A.eq q (λ_ _ z=>nomatch z) (λ_ _ _ z=>nomatch z),r,A.eq d (λ_ _ z=>nomatch z) (λ_ _ _ z=>nomatch z),n⟩
mutual
theorem a1V(A:Alt K F F1 a xs):∀(p:PV) {v:V},A5 K F p v->A5 K F1 p v
 | .none,_,h=>h
 | .bool _,_,h=>h
 | .int _,_,h=>h
 | .str _,_,h=>h
 | .dict kvs,_,.inl ⟨b,ys,q,h,r⟩=> .inl ⟨b,ys,q,A.eq h (λ_ _ z=>nomatch z) (λ_ _ _ z=>nomatch z),a51 A kvs r⟩
 | .dict kvs,_,.inr (.inl ⟨b,ys,q,h,r⟩)=> .inr (.inl ⟨b,ys,q,(by
  by_cases e:b=a
  ·subst e;have:=b7p h A.a0;subst this;exact A.a1
  ·exact h.imp (A.ne _ _ e) λ⟨o,z⟩=>⟨o,A.ne _ _ e z⟩),a51 A kvs r⟩)
 | .dict _,_,.inr (.inr (.inl ⟨x,t,e,h⟩))=> .inr (.inr (.inl ⟨x,t,e,A.fn h⟩))
 | .dict kvs,_,.inr (.inr (.inr ⟨x,m,fs,h,r⟩))=> .inr (.inr (.inr ⟨x,m,fs,A.ob h,a9V A kvs r⟩))
 | .tuple ps,_,⟨b,ys,e,q,r⟩=>⟨b,ys,e,q.imp (λq=>A.eq q (λ_ _ z=>nomatch z) (λ_ _ _ z=>nomatch z)) id,a1v A ps r⟩
 | .list ps,_,⟨b,ys,e,q,r⟩=>⟨b,ys,e,q.imp (λq=>A.rd q (λ_ _ z=>nomatch z) (λ_ _ z=>nomatch z)) id,a1v A ps r⟩
theorem a1v(A:Alt K F F1 a xs):∀(ps:List PV) {vs:List V},h9 K F ps vs->h9 K F1 ps vs
 |[],_,h=>h
 |p::ps,_,⟨v,r,e,q,t⟩=>⟨v,r,e,a1V A p q,a1v A ps t⟩
theorem a51(A:Alt K F F1 a xs):∀(es:List (PV×PV)) {ys:List (List f6×V)},a0v K F es ys->a0v K F1 es ys
 |[],_,h=>h
 |(k,p)::es,_,⟨kk,v,r,e,z,q,t⟩=>⟨kk,v,r,e,z,a1V A p q,a51 A es t⟩
theorem a9V(A:Alt K F F1 a xs):∀(es:List (PV×PV)) {ys:List (Str×V)},a02 K F es ys->a02 K F1 es ys
 |[],_,h=>h
 |(k,p)::es,_,⟨kk,v,r,e,z,q,t⟩=>⟨kk,v,r,e,z,a1V A p q,a9V A es t⟩
end
theorem a1u(A:Alt K F F1 a xs):∀(kvs:List (List f6×PV)) {ys:List (List f6×V)},p7 K F kvs ys->p7 K F1 kvs ys
 |[],_,h=>h
 |(k,p)::r,_,⟨v,t,e,q,h⟩=>⟨v,t,e,a1V A p q,a1u A r h⟩
end
def a8F:Option HO->Option HO
 |some (.tup xs)=>ξ (.tup xs)
 |_=>ζ
def Fk(F H:Hp)(a:AB)(u:HO):Hp:=λb=>if b=a then ξ u else match F b with
 |some w=>ξ w
 |none=>a8F (H b)
theorem a4J{x:Option HO}{u:HO}(h:a8F x=ξ u):x=ξ u/\∃xs,u= .tup xs:=by
 unfold a8F at h;split at h
 ·cases h;exact⟨rfl,_,rfl⟩
 ·cases h
theorem b8u{F H:Hp}{a:AB}{u:HO}:Fk F H a u a=ξ u:=if_pos rfl
theorem b3z{F H:Hp}{a b:AB}{u w:HO}(hb:b≠a)(h:F b=ξ w):Fk F H a u b=ξ w:=by
 unfold Fk;rw [if_neg hb,h]
theorem b3A{F H:Hp}{a b:AB}{u:HO}(hb:b≠a)(h:F b=ζ):Fk F H a u b=a8F (H b):=by
 unfold Fk;rw [if_neg hb,h]
theorem c1y{F H:Hp}{a b:AB}{u:HO}{ys:List V}(s:g8 F H)(hb:b≠a)(h:H b=ξ (.tup ys)):Fk F H a u b=ξ (.tup ys):=by
 cases q:F b with
 |none=>rw [b3A hb q,h];rfl
 |some w=>
  rw [b3z hb q];have:=s _ _ q;rw [h] at this;exact this.symm
theorem b6d{F H:Hp}{a:AB}{u:HO}(s:g8 F H):g8 (Fk F H a u) (i7 H a u):=λb w z=>by
 by_cases hb:b=a
 ·subst hb;rw [b8u] at z;rw [c8];exact z
 ·rw [a9 hb];cases q:F b with
  |none=>rw [b3A hb q] at z;exact(a4J z).1
  |some v=>rw [b3z hb q] at z;cases z;exact s _ _ q
section
variable {K:AE}{F H:Hp}{a:AB}{o:Obj}{xs:List (List f6×V)}
theorem b8B(s:g8 F H)(ha:F a=ξ (.dT K xs)):Alt K F (Fk F H a (.frz o (.dT K xs))) a xs:=⟨λb u hb h=>b3z hb h,.inl ha,.inr ⟨o,b8u⟩⟩
theorem b8N{σ:L2.St}{ρ:b9}(en:C9 K F H σ ρ)(ha:F a=ξ (.dT K xs)):C9 K (Fk F H a (.frz o (.dT K xs))) (i7 H a (.frz o (.dT K xs))) σ ρ:=by
 have A:=b8B (o:=o) en.fh ha;refine⟨b6d en.fh,en.len,λi r q=> ?_,en.nb,en.ap⟩;obtain⟨v,hv,hr⟩:=en.at_ i r q;refine⟨v,hv, ?_⟩;have own:∀{b:AB} {u:HO},F b=ζ->H b=ξ u->NT u->b≠a/\Fk F H a (.frz o (.dT K xs)) b=ζ/\i7 H a (.frz o (.dT K xs)) b=ξ u:=λ {b u} n q t=>by
  have hb:b≠a:=λe=>by subst e;rw [ha] at n;cases n
  refine⟨hb, ?_,by rw [a9 hb];exact q⟩
  rw [b3A hb n,q];unfold a8F;split
  ·rename_i z;cases z;exact(t _ rfl).elim
  ·rfl
 have ownC:∀{c:V2},R7 K F H v c->R7 K (Fk F H a (.frz o (.dT K xs))) (i7 H a (.frz o (.dT K xs))) v c:=λ {c} h=>by
  cases c with
  |lst ps=>obtain⟨b,ys,e,n,q,r⟩:=h;obtain⟨_,h1,h2⟩:=own n q (λ_ z=>nomatch z);exact⟨b,ys,e,h1,h2,a1v A _ r⟩
  |dct ps=>obtain⟨b,ys,e,n,q,r⟩:=h;obtain⟨_,h1,h2⟩:=own n q (λ_ z=>nomatch z);exact⟨b,ys,e,h1,h2,a1u A _ r⟩
  |txt ps=>obtain⟨b,ys,e,n,q,r⟩:=h;obtain⟨_,h1,h2⟩:=own n q (λ_ z=>nomatch z);exact⟨b,ys,e,h1,h2,a1u A _ r⟩
 cases r with
 |v p=>exact a1V A p hr
 |ow c=>exact ownC hr
 |bo c=>exact ownC hr
theorem b43{F5 H5:Hp}{u:V}{r:d7}(s:g8 F H)(ha:F a=ξ (.dT K xs))(o5:o9 K (Fk F H a (.frz o (.dT K xs))) (i7 H a (.frz o (.dT K xs))) F5 H5 u r):
 H5 a=ξ (.frz o (.dT K xs))/\o9 K F H (i7 F5 a (.dT K xs)) (i7 H5 a (.dT K xs)) u r:=by
 have h5:H5 a=ξ (.frz o (.dT K xs)):=o5.x.h _ _ c8
 have f5:F5 a=ξ (.frz o (.dT K xs)):=o5.x.f _ _ b8u
 have A:Alt K F5 (i7 F5 a (.dT K xs)) a xs:=⟨λb u hb h=>by rw [a9 hb];exact h,.inr ⟨o,f5⟩,.inl c8⟩
 have hH:=s _ _ ha
 refine⟨h5,⟨⟨λb w z=> ?_,λb w z=> ?_,λb w z=> ?_,λb w n q t=> ?_,λb o' w z=> ?_⟩, ?_,λc b e q=> ?_⟩⟩
 ·by_cases hb:b=a
  ·subst hb;rw [ha] at z;cases z;exact c8
  ·rw [a9 hb];exact o5.x.f _ _ (b3z hb z)
 ·by_cases hb:b=a
  ·subst hb;rw [hH] at z;cases z;exact c8
  ·rw [a9 hb];exact o5.x.h _ _ (by rw [a9 hb];exact z)
 ·by_cases hb:b=a
  ·subst hb;rw [c8] at z ⊢;exact z
  ·rw [a9 hb] at z ⊢;exact o5.x.fh _ _ z
 ·have hb:b≠a:=λe=>by subst e;rw [ha] at n;cases n
  rw [a9 hb]
  refine o5.x.nw b w ?_ (by rw [a9 hb];exact q) t
  rw [b3A hb n,q]
  unfold a8F
  split
  ·rename_i z;cases z;exact(t _ rfl).elim
  ·rfl
 ·have hb:b≠a:=λe=>by subst e;rw [c8] at z;cases z
  rw [a9 hb] at z
  have:=o5.x.nf _ _ _ z
  cases q:F b with
  |none=>
   rw [b3A hb q] at this
   obtain⟨_,_,e⟩:=a4J this
   cases e
  |some v=>rw [b3z hb q] at this;exact this
 ·have own:∀{b:AB} {w:HO},F5 b=ζ->H5 b=ξ w->b≠a:=λ {b w} n q e=>by subst e;rw [f5] at n;cases n
  have ownC:∀{c:V2},R7 K F5 H5 u c->R7 K (i7 F5 a (.dT K xs)) (i7 H5 a (.dT K xs)) u c:=λ {c} h=>by
   cases c with
   |lst ps=>obtain⟨b,ys,e,n,q,r⟩:=h;have hb:=own n q;exact⟨b,ys,e,by rw [a9 hb];exact n,by rw [a9 hb];exact q,a1v A _ r⟩
   |dct ps=>obtain⟨b,ys,e,n,q,r⟩:=h;have hb:=own n q;exact⟨b,ys,e,by rw [a9 hb];exact n,by rw [a9 hb];exact q,a1u A _ r⟩
   |txt ps=>obtain⟨b,ys,e,n,q,r⟩:=h;have hb:=own n q;exact⟨b,ys,e,by rw [a9 hb];exact n,by rw [a9 hb];exact q,a1u A _ r⟩
  cases r with
  |v p=>exact a1V A p o5.rep
  |ow c=>exact ownC o5.rep
  |bo c=>exact ownC o5.rep
 ·have:=o5.fr c b e q
  by_cases hb:b=a
  ·subst hb;rw [c8] at this;cases this
  ·rw [a9 hb] at this;exact this
end
theorem e9.frzK{X:Cx}{pins:List (AB×Obj)}{σ:L2.St}{H:Hp}{s:AC}{a:AB}{xs:List (List f6×V)}(I:e9 X pins σ H s)(ha:H a=ξ (.dT X.K xs)):∃o,e9 X pins σ (i7 H a (.frz o (.dT X.K xs))) s:=by
 have hd:=I.hok a _ ha;obtain⟨o,ho⟩:∃o,s.heap.get? a=ξ o:=by obtain⟨_,_,_,_,o,_,_,e,_⟩:=hd;exact⟨o,e⟩
 refine⟨o,e9.retold I (λb q=> ?_) (λb ys q=> ?_) (λb o' u q=> ?_) (λb ps q=> ?_) (λb u q=> ?_)⟩
 ·rw [a9 (λz=>by rw [z,ha] at q;cases q)];exact q
 ·ext k
 ·have:=I.base.frzs b o' u q;rw [a9 (A0 this ha (λz=>nomatch z))];exact this
 ·ext k
 ·have st:∀c w,H c=ξ w->v4 X.prog X.w (i7 H a (.frz o (.dT X.K xs))) s.heap c w:=λc w q=>(I.hok c w q).stay (λ_ _ _ e=>e) (λd z=>by rw [a9 (A0 z ha (λz=>nomatch z))];exact z) λd ys z=>by rw [a9 (A0 z ha (λz=>nomatch z))];exact z
  by_cases hb:b=a
  ·subst hb;rw [c8] at q;cases q;exact⟨ho,st _ _ ha⟩
  ·rw [a9 hb] at q;exact st _ _ q
theorem e9.unfrzK{X:Cx}{pins:List (AB×Obj)}{σ:L2.St}{H:Hp}{s:AC}{a:AB}{o:Obj}{xs:List (List f6×V)}(I:e9 X pins σ H s)(ha:H a=ξ (.frz o (.dT X.K xs)))(h0:∀o u,X.H₀ a≠ξ (.frz o u)):e9 X pins σ (i7 H a (.dT X.K xs)) s:=by
 have st:∀c w,H c=ξ w->v4 X.prog X.w (i7 H a (.dT X.K xs)) s.heap c w:=λc w q=>(I.hok c w q).stay (λ_ _ _ e=>e) (λd z=>by rw [a9 (A0 z ha (λz=>nomatch z))];exact z) λd ys z=>by rw [a9 (A0 z ha (λz=>nomatch z))];exact z
 refine e9.retold I (λb q=> ?_) (λb ys q=> ?_) (λb o' u q=> ?_) (λb ps q=> ?_) (λb u q=> ?_)
 ·rw [a9 (λz=>by rw [z,ha] at q;cases q)];exact q
 ·ext k
 ·rw [a9 (λz=>by rw [z] at q;exact h0 _ _ q)];exact I.base.frzs b o' u q
 ·ext k
 ·by_cases hb:b=a
  ·subst hb;rw [c8] at q;cases q;exact(st _ _ ha).2
  ·rw [a9 hb] at q;exact st _ _ q
def b4v(o:Obj)(i:Nat):Option AA:=match o.data with
 | .dict es _=>(es[i]?).map (·.key)
 |_=>ζ
def ItK(K:AE)(a:AB)(o:Obj)(xs:List (List f6×V)):It:=⟨λi H=>H a=ξ (.frz o (.dT K xs))/\i<xs.length,λi H v H'=>H'=H/\∃b,b4v o i=ξ (.ref b)/\v= .ref b,λi H=>H a=ξ (.frz o (.dT K xs))/\xs.length=i⟩
theorem a7Y{X:Cx}{pins:List (AB×Obj)}{σ:L2.St}{H:Hp}{s:AC}{a:AB}{o:Obj}{xs:List (List f6×V)}(I:e9 X pins σ H s)(ha:H a=ξ (.frz o (.dT X.K xs))):(a==sysModules)=false/\∃es,a6V s.heap a es (epO o)/\es.size=xs.length/\∀(i:Nat) (hi:i<es.size) p,xs[i]?=ξ p->∃b,es[i].key= .ref b/\b4v o i=ξ (.ref b)/\KyA X.K H b p.1:=by
 obtain⟨ho,z,hd,ys,rel,o2,es,ep,e,c,d,r,_⟩:=(show v4 X.prog X.w H s.heap a (.frz o (.dT X.K xs)) from I.hok a _ ha);have:o2=o:=by rw [ho] at e;exact(Option.some.inj e).symm
 subst this;have hl:=Paired.length rel;have hes:es.size=ys.length:=by have:=congrArg List.length r;simpa using this
 refine⟨hd,es,⟨o2,e,c,by rw [d];unfold epO;rw [d]⟩,by lia,λi hi p hp=> ?_⟩
 obtain⟨q,hq,r1,r2,_⟩:=b9F rel hp;have h1:es.toList[i]?=ξ (entryOfKey (a7J X.prog X.w) q):=by rw [r,Ag,hq];rfl
 rw [Array.getElem?_toList,getElem?_pos es i hi] at h1;have h2:es[i].key= .ref q.2.1:=by rw [Option.some.inj h1];rfl
 refine⟨q.2.1,h2, ?_,r2⟩;unfold b4v;rw [d];show(es[i]?).map (·.key)=_;rw [getElem?_pos es i hi,Az,h2]
theorem b1d{P:AJ}{w:AI}{K:AE}{tg:AG}{it a:AB}{o:Obj}{xs:List (List f6×V)}:a81 P w K tg (ItK K a o xs) [it] it (λi h=>h.IsKeyIter it a i xs.length (epO o)) where
 mem:=by simp
 obj:=λi h st b hb=>by
  have hb:b=it:=by simpa using hb
  subst hb
  ext e
 keep:=λi h h' st k=>st.at λo e=>k it (by simp) o e
 item:=by
  ext d
  obtain⟨ha,hlt⟩:=hg;obtain⟨hd,es,ra,hl,at_⟩:=a7Y I ha;have hx:xs[i]?=ξ xs[i]:=by simp [hlt]
  have hi:i<es.size:=by lia
  obtain⟨b,hb,tb,_⟩:=at_ i hi _ hx;rw [<-hl] at st;refine b5r st ra hi λh' st' sb=>⟨es[i].key,rfl, ?_⟩;rw [hl] at st';have I1:e9 X pins σ H {s with heap:=h'}:=I.turned (t':=s.toks) (λb o hb e=>(sb.2 b hb).trans e) f0 f1 f3 f4 f5
  obtain⟨o',e',c',d'⟩:=id st';refine a9n (s:={s with heap:=h'}) (n:="dict_keyiterator") e' c' d' (by decide) ⟨.ref b,H,I1,hb,⟨rfl,b,tb,rfl⟩,st',λb hb=>(hf b hb).1⟩
 done:=by
   ext d
   obtain⟨ha,hlt⟩:=hg;obtain⟨hd,es,ra,hl,at_⟩:=a7Y I ha;rw [<-hlt,<-hl] at st;exact b7o (I.ok.hd hc) st ra λh' eb=>⟨rfl,I.turned (t':=s.toks) (λb o hb e=>eb b o hb e) f0 f1 f3 f4 f5⟩
 self:=λ_ _ _ _ _ st h=>wpAny_pyIter_keyiter st h
section
variable {X:Cx}{tg:AG}
def c0P(K:AE)(tl:TE):TI:=λσ H R=>tl σ H λx H1=>∃a o xs,x= .ref a/\H1 a=ξ (.frz o (.dT K xs))/\R (ItK K a o xs) H1
theorem b1Y{l:AG}{tl:TE}(hl:PE X l tl):PI X tg l (c0P X.K tl):=by
 intro pins s σ H R I h;refine C8 (hl pins s σ H _ I h) λv s1 h0=>j5 h0 λx H1 I1 r1 q1=> ?_;obtain⟨a,o,xs,e,ha,q⟩:=q1;subst e;obtain rfl:v=Value.ref a:=r1;obtain⟨hd,es,ra,hl,_⟩:=a7Y I1 ha;refine b5q hd ra ⟨s1.heap.objs.size,[s1.heap.objs.size],_,_,H1,rfl,I1.kept (t':=s1.toks) λb o e=>AR _ e,b1d,⟨_,Aa _ rfl,rfl,by rw [hl];rfl⟩,λc hb=> ?_,q⟩
 have e:c=s1.heap.objs.size:=by simpa using hb
 subst e;exact I1.fpOk (AN _) (I1.hok.fresh (AN _))
def b0P(i:Nat):MI:=λρ=>(dvw i ρ).bind λkvs=>if kvs.all (λe=>Nat.ble e.1.length 5)=true then ξ (kvs.map λe=> .tuple (e.1.map kP)) else ζ
structure c0w(K:AE)(F H:Hp)(J:It)(ps:List PV):Prop where
 st:∀H',g8 H H'->J.stop ps.length H'
 go:∀i p H',g8 H H'->ps[i]?=ξ p->J.go i H'
 yd:∀i p x H' H'',g8 H H'->ps[i]?=ξ p->J.yld i H' x H''->H''=H'/\A5 K F p x
theorem a42{mi:MI}{wi:TI}{g:TG}{c:MT}{elt:M}{t:PV->b9->Option b9}{N:List Str}{k:Nat}{σ:L2.St}{F H:Hp}{ρ:b9}{r:d7}{ps:List PV}{Q:VK}(en:C9 X.K F H σ ρ)(e1:mi ρ=ξ ps){J:It}(S:c0w X.K F H J ps)(hi:∀R:It->Hp->Prop,R J H->wi σ H R)
 (T:∀n,n=N.length->a31 X.K n g t) (hl:σ.length=N.length) (e:S2 k mi t c elt ρ=ξ r) (kk:∀v F' H',o9 X.K F H F' H' v r->Q v H'):b2c wi g (tMT X.K c) (tM X.K elt) k σ H Q:=by
 obtain⟨ps',e1',e⟩:=bind_some e
 rw [e1] at e1'
 cases e1'
 split at e
 ·rename_i hsz
  obtain⟨rs,e2,e⟩:=bind_some e
  cases e
  refine hi _ λD hD=> ?_
  have T':a31 X.K ρ.length g t:=T _ (by rw [<-en.len,hl])
  have x1:=R5.refl en.fh
  refine⟨WC X.K F H D c elt t (ρ++AO k ζ) ps rs,⟨ps.length,F,[],rs,Nat.zero_le _,rfl,R5.layH x1.fh hD,x1.fh.free hD,rfl,AN _,e2,rfl⟩,λi m xs H2 W hx=> ?_⟩
  have W':=W
  obtain⟨F',done,rest,hi',hm,ex,fD,rl,dl,hc,hr⟩:=W'
  have sF:g8 H H2:=ex.h
  by_cases hlt:i<ps.length
  ·refine .inr ⟨S.go i ps[i] H2 sF (by simp [hlt]),λx H3 y=> ?_⟩
   obtain⟨e3,rx⟩:=S.yd i ps[i] x H2 H3 sF (by simp [hlt]) y
   subst e3
   exact a65 T' en hD hsz W hx (by simp [hlt]) rx
  ·have e3:i=ps.length:=by lia
   subst e3
   refine .inl ⟨S.st H2 sF, ?_⟩
   obtain⟨F2,o⟩:=a87 hD W hx
   exact kk _ F2 H2 o
 ·cases e
theorem a9U{K:AE}{F:Hp}:∀{kvs:List (List f6×PV)} {xs:List (List f6×V)},p7 K F kvs xs->xs.map (·.1)=kvs.map (·.1)
 |[],_,h=>by cases h;rfl
 |(k,p)::r,_,⟨v,t,e,q,h⟩=>by subst e;rw [AQ,AQ,a9U h]
theorem a8g{K:AE}{F:Hp}{b:AB}:∀{k:List f6},h9 K F (k.map kP) (k.map kV)
 |[]=>rfl
 |k::r=>⟨_,_,rfl,by cases k<;>rfl,a8g (b:=b)⟩
theorem c1i{pins:List (AB×Obj)}{s:AC}{σ:L2.St}{F H:Hp}{a:AB}{o:Obj}{xs:List (List f6×V)}{kvs:List (List f6×PV)}(I:e9 X pins σ H s)(ft:∀b ys,H b=ξ (.tup ys)->F b=ξ (.tup ys))(ha:H a=ξ (.frz o (.dT X.K xs)))(ek:xs.map (·.1)=kvs.map (·.1))(h5:kvs.all (λe=>Nat.ble e.1.length 5)=true):
 c0w X.K F H (ItK X.K a o xs) (kvs.map λe=> .tuple (e.1.map kP)):=by
 have hl:xs.length=kvs.length:=by have:=congrArg List.length ek;simpa using this
 obtain⟨_,es,_,hz,at_⟩:=a7Y I ha
 refine⟨λH1 s1=>⟨s1 _ _ ha,by rw [AV];exact hl⟩,λi p H1 s1 hp=>⟨s1 _ _ ha, ?_⟩,λi p x H1 H2 s1 hp hy=> ?_⟩
 ·have:=(Ah.mp hp).1
  rw [AV] at this
  lia
 ·obtain⟨e2,b,hb,ev⟩:=hy
  refine⟨e2, ?_⟩
  have hi:=(Ah.mp hp).1
  rw [AV] at hi
  have hx:xs[i]?=ξ xs[i]:=Ai (by lia)
  obtain⟨b',_,hb',ky⟩:=at_ i (by lia) _ hx
  rw [hb] at hb'
  cases hb'
  have e3:xs[i].1=kvs[i].1:=by
   have:(xs.map (·.1))[i]?=(kvs.map (·.1))[i]?:=by rw [ek]
   rw [Ag,Ag,hx,Ai hi] at this;exact Option.some.inj this
  rw [Ag,Ai hi] at hp
  cases hp
  subst ev
  rw [e3] at ky
  have h5':kvs[i].1.length<=5:=Nat.le_of_ble_eq_true (List.all_eq_true.mp h5 kvs[i] (List.getElem_mem hi))
  rcases ky with⟨_,ky|⟨o',its,n,h1,h2,h3,h4⟩⟩|⟨k,e4,_⟩
  ·exact⟨b,_,rfl,.inl (ft _ _ ky),a8g (b:=b)⟩
  ·refine⟨b,_,rfl,.inr ⟨o',its,n,h1,h2,h3, ?_,h4⟩,a8g (b:=b)⟩
   have:=h4.length
   rw [AV,Array.length_toList] at this
   rw [sizeLine_eq];lia
  ·have:=a1g k
   rw [<-e4] at this
   lia
theorem b3U(i:Nat){elt:AG}{ifs:List AG}{x:Str}{p:Pos}{scope:Scope}{N0 ys:List Str}{g:TG}{c:MT}{m:M}{t:PV->b9->Option b9}{pos:Pos}(hx:∀e s,X.xe e s->False)(hc:X.calm=true)(S:E3 X.N N0 ys X.env scope)(hd:PE X (.Name x p) (C7 i))
 (hg:∀C fp pins s H,PG (j9 X N0 scope ys C fp pins s H) tg g) (T:∀n,n=X.N.length->a31 X.K n g t) (ht:∀C fp pins s H,EC (j9 X N0 scope ys C fp pins s H) ifs c) (he:∀C fp pins s H,EE (j9 X N0 scope ys C fp pins s H) elt m)
 (hs:∀x',foldedSetIterable (.Name x p) X.env x'=pure x':=by intro _;rfl):EE X (.ListComp elt [⟨tg,.Name x p,ifs,0⟩] scope pos) (S2 ys.length (b0P i) t c m):=by
 intro pins s σ H Q I ⟨F,ρ,r,en,e,kk⟩
 obtain⟨ps,e1,_⟩:=bind_some (show(b0P i ρ).bind _=ξ r from e)
 obtain⟨kvs,e2,e3⟩:=bind_some e1
 split at e3
 ·rename_i h5
  cases e3
  obtain⟨a,xs,hσ,hr,rd⟩:=b0p en e2
  have ek:=a9U rd
  rcases hr with ha|⟨o,ha⟩
  ·have hH:=en.fh _ _ ha
   obtain⟨o,I1⟩:=e9.frzK I hH
   have h0:∀o u,X.H₀ a≠ξ (.frz o u):=λo u z=>by have:=I.base.frzs a o u z;rw [hH] at this;cases this
   have en1:=b8N (o:=o) en ha
   have ft:∀b ys,i7 H a (.frz o (.dT X.K xs)) b=ξ (.tup ys)->Fk F H a (.frz o (.dT X.K xs)) b=ξ (.tup ys):=λb ys z=>by
    have hb:b≠a:=λq=>by subst q;rw [c8] at z;cases z
    rw [a9 hb] at z;exact c1y en.fh hb z
   have hR:=a25 (pos:=pos) hx hc S (b1Y hd) hg ht he hs pins s σ _ (λv H5=>H5 a=ξ (.frz o (.dT X.K xs))/\Q v (i7 H5 a (.dT X.K xs))) I1 (a42 (N:=X.N) en1 e1 (c1i I1 ft c8 ek h5) (λR z=>⟨.ref a,hσ,a,o,xs,rfl,c8,z⟩) T I.len e λv F5 H5 o5=>by
    obtain⟨h5,o6⟩:=b43 en.fh ha o5;exact⟨h5,kk v _ _ o6⟩)
   refine C8 hR λv s1 ⟨x',H5,I5,r5,h5,q5⟩=>⟨x',_,e9.unfrzK I5 h5 h0,r5,q5⟩
  ·have hH:=en.fh _ _ ha
   have fx:R5 F H (λb=>match F b with|some w=>ξ w|none=>a8F (H b)) H:=by
    refine⟨λb w z=>by rw [z],g8.refl H,λb w z=> ?_,λb w n q tt=> ?_,λb o' w z=> ?_⟩
    ·split at z
     ·rename_i w' q;cases z;exact en.fh _ _ q
     ·exact(a4J z).1
    ·rw [n,q];unfold a8F;dsimp only;split
     ·rename_i z;cases z;exact(tt _ rfl).elim
     ·rfl
    ·split at z
     ·rename_i w' q;cases z;exact q
     ·obtain⟨_,_,e⟩:=a4J z;cases e
   have en1:=en.ext fx
   have ft:∀b ys,H b=ξ (.tup ys)->(match F b with|some w=>ξ w|none=>a8F (H b))=ξ (.tup ys):=λb ys z=>by
    split
    ·rename_i w q;have:=en.fh _ _ q;rw [z] at this;exact this.symm
    ·rw [z];rfl
   exact a25 (pos:=pos) hx hc S (b1Y hd) hg ht he hs pins s σ _ Q I (a42 (N:=X.N) en1 e1 (c1i I ft hH ek h5) (λR z=>⟨.ref a,hσ,a,o,xs,rfl,hH,z⟩) T I.len e λv F5 H5 o5=>kk v _ _ (o9.trans fx o5))
 ·cases e3
def a5A(i:Nat)(mk:M):M:=λρ=>((mk ρ).bind a7c).bind λk=>(dvw i ρ).bind λkvs=>(S4 kvs k).map .v
theorem a5b(i:Nat){x:Str}{p pos:Pos}{ek:AG}{mk:M}(hu:X.A.units+64<cLine)(nk:a22 X.K=true)(hx:PE X (.Name x p) (C7 i))(hi:EE X ek mk)(hs:b0g ek:=by intro _ _;rfl):EE X (.Subscript (.Name x p) ek pos) (a5A i mk):=
 m6 (a26 (by lia) hx hi hs) λσ H Q h0=>k4 h0 λF ρ r en e k=>by
  obtain⟨kk,e4,e⟩:=bind_some e;obtain⟨rk,e4,e5⟩:=bind_some e4;obtain⟨kvs,e3,e⟩:=bind_some e;cases hv:S4 kvs kk with
  |none=>rw [hv] at e;cases e
  |some q=>
   rw [hv] at e;cases e;obtain⟨a,xs,hw1,ha',rl⟩:=b0p en e3;obtain⟨y,hy,ry⟩:=(rl.val (k:=kk)).1 q hv;refine⟨.ref a,hw1,F,ρ,rk,en,e4,λz F3 H3 o3=> ?_⟩;obtain⟨b,rfl,hb⟩:=a1P nk e5 o3.rep;exact⟨a,y,rfl,by rw [<-hy];exact a1X.r (a29 o3.x.h (a29 en.fh ha')) (hb.mono o3.x.fh),k _ _ _ (o9.val o3.x (A5.mono o3.x.f _ ry))⟩
end
theorem C9.lend{K:AE}{F H:Hp}{σ:L2.St}{ρ:b9}{i:Nat}{c:V2}{a:AB}{o:HO}{p:PV}(en:C9 K F H σ ρ)(e:ρ[i]?=ξ (ξ (.ow c)))(ea:σ[i]?=ξ (ξ (.ref a)))(fa:F a=ζ)(ha:H a=ξ o)(rp:A5 K (i7 F a o) p (.ref a)):
 C9 K (i7 F a o) H σ (ρ.set i (ξ (.v p))):=by
 have up:g8 F (i7 F a o):=y3 fa
 have cl:∀(j:Nat) (q:d7),(ρ.set i (ξ (.v p)))[j]?=ξ (ξ q)->(j=i/\q= .v p)\/(j≠i/\ρ[j]?=ξ (ξ q)):=λj q z=>by
  rcases b9T z with⟨y,y'⟩|y
  ·exact .inl ⟨y,(Option.some.inj y').symm⟩
  ·exact .inr y
 refine⟨λb u z=> ?_,by rw [List.length_set];exact en.len,λj q z=> ?_,λj d z=> ?_,λj k d d' b hne z1 z2=> ?_⟩
 ·by_cases hb:b=a
  ·subst hb;rw [c8] at z;cases z;exact ha
  ·rw [a9 hb] at z;exact en.fh _ _ z
 ·rcases cl j q z with⟨rfl,rfl⟩|⟨hj,w⟩
  ·exact⟨.ref a,ea,rp⟩
  ·obtain⟨v,v1,v2⟩:=en.at_ j q w
   refine⟨v,v1, ?_⟩
   cases q with
   |v r=>exact A5.mono up _ v2
   |ow d=>
    have v2:R7 K F H v d:=v2
    obtain⟨a',u,rfl,f1,h1,nt⟩:=b9v v2
    have hne:a'≠a:=λy=>by subst y;exact en.ap j i d c a' hj w e v1 ea
    exact show R7 K (i7 F a o) H (.ref a') d from b7q v2 up (by rw [a9 hne];exact f1) λ_ h=>h
   |bo d=>exact absurd w (en.nb j d)
 ·rcases cl j _ z with⟨_,y⟩|⟨_,w⟩
  ·cases y
  ·exact en.nb j d w
 ·rcases cl j _ z1 with⟨_,y⟩|⟨_,w⟩
  ·cases y
  ·rcases cl k _ z2 with⟨_,y⟩|⟨_,w'⟩
   ·cases y
   ·exact en.ap j k d d' b hne w w'
def b0Q(i:Nat)(m:M):M:=λρ=>match ρ[i]? with
 |some (ξ (.ow (.dct kvs)))=>(m (ρ.set i (ξ (.v (dv kvs))))).bind λr=>if r.noD=true then ξ r else ζ
 |_=>ζ
section
variable {X:Cx}
theorem b31(i:Nat){e:AG}{m:M}(he:EE X e m):EE X e (b0Q i m):=
 m6 he λσ H Q h0=>k4 h0 λF ρ r en hm kq=>by
  unfold b0Q at hm;split at hm
  ·rename_i kvs eo;obtain⟨r',e1,hm⟩:=bind_some hm;split at hm
   ·rename_i c;cases hm;obtain⟨w,hw,a,xs,rfl,fa,ha,rl⟩:=en.at_ i _ eo;exact⟨i7 F a (.dT X.K xs),_,_,en.lend eo hw fa ha (a9x fa rl),e1,λu F5 H5 o5=>kq u (drp F5 a) H5 (a7f fa o5 c)⟩
   ·cases hm
  ·cases hm
end
section
variable {K:AE}{F H H':Hp}
end
section
variable {X:Cx}
end
def b1A(x y:d7):Option d7:=match x,y.mine with
 | .v (.list qs),ξ ps=>if qs.length+ps.length<=AM then ξ (.own (qs++ps)) else ζ
 |_,_=>ζ
section
variable {X:Cx}
theorem b4Y(nl:b66 X.K=true):OpM X (binaryOp .Add) b1A:=by
 ext c
 unfold b1A at h3;split at h3
 case h_2=>cases h3
 rename_i qs ps e1;split at h3
 case isFalse=>cases h3
 rename_i c;cases h3;obtain⟨a,xs,rfl,_,hq,r⟩:=a5F h2 e1;obtain⟨b,ys,rfl,hq',r'⟩:=(show A5 X.K F (.list qs) x from h1);cases rx;cases ry;obtain⟨z,its,n,rv,hl,e⟩:=I.lstM hq;have hz:ys.length<=AM/\∃(its2:List AA) (n2:Nat),j4 ys its2/\s.heap.get? b=ξ {cls:= .type "list",data:= .seq its2.toArray n2}:=by
  rcases B2 s0 hq' with h|⟨w,_,_,h1,h2,_⟩
  ·obtain⟨z,its,n,r,e⟩:=h.ok I.hok;exact⟨z,its,n,r,e⟩
  ·exact(b4S nl h1 h2).elim
 obtain⟨z2,its2,n2,rv2,e2⟩:=hz;have hl2:=rv2.length;have hs:ys.length+xs.length<=AM:=by rw [r.length,r'.length];exact c
 refine PySem.P.add_list e2 e ?_ (by rw [Ab,Ab];lia)
 have ea:its2.toArray++its.toArray=(its2++its).toArray:=by simp
 rw [ea];exact⟨.ref _,_,I.lnew (t':=s.toks) (rv2.append rv) (by rw [Am];lia),rfl,k _ _ _ (o9.lst s0 I.fresh (r'.append r))⟩
end
end PU
set_option maxHeartbeats 4000000
namespace LW
open PySem PySem.Spec PyProof.Rows L2 PU
def b1g:PV:=(.tuple [(.str "stay"),(.str "turn"),(.str "half"),(.str "back"),(.str "side"),(.str "flip"),(.str "cross"),(.str "other")])
def a3j:List (f6×PV):=[((.inr "stay"),(.tuple [(.int 1),(.int 0),(.int 0),(.int 1)])),((.inr "turn"),(.tuple [(.int 0),(.int 1),(.int (-1)),(.int 0)])),((.inr "half"),(.tuple [(.int (-1)),(.int 0),(.int 0),(.int (-1))])),((.inr "back"),(.tuple [(.int 0),(.int (-1)),(.int 1),(.int 0)])),((.inr "side"),(.tuple [(.int 1),(.int 0),(.int 0),(.int (-1))])),((.inr "flip"),(.tuple [(.int (-1)),(.int 0),(.int 0),(.int 1)])),((.inr "cross"),(.tuple [(.int 0),(.int 1),(.int 1),(.int 0)])),((.inr "other"),(.tuple [(.int 0),(.int (-1)),(.int (-1)),(.int 0)]))]
def a3W:PV:=(.tuple [(.int 1),(.int 2)])
def a6s:List (List f6×PV):=[([(.inl 1),(.inl 2)],(.str "stay")),([(.inl 2),(.inl (-1))],(.str "turn")),([(.inl (-1)),(.inl (-2))],(.str "half")),([(.inl (-2)),(.inl 1)],(.str "back")),([(.inl 1),(.inl (-2))],(.str "side")),([(.inl (-1)),(.inl 2)],(.str "flip")),([(.inl 2),(.inl 1)],(.str "cross")),([(.inl (-2)),(.inl (-1))],(.str "other"))]
def t7:PV:=(.int 3)
def a33:MS:=
 (G1 (m2 (gIc (λ_ j=>0<j) λi j=> .int (i % j)) (m2 K7 (m2 Q4 (m2 (gIc (λ_ j=>0<j) λi j=> .int (i % j)) (a7 0) (mC (.int 2147483647))) (mC (.int 17))) (m2 Q4 (mC (.int 48271)) (m2 K7 (m2 K7 (mC (.int 2)) (a7 1)) (a7 1)))) (mC (.int 2147483629))))
def D1:List PV->Option d7:=A4 0 a33
def a0h:M:=
 (m2 N3 (a7 2) (m2 (gIc (λ_ j=>0<j) λi j=> .int (i % j)) (m2 Q4 (a7 0) (m2 K7 (mC (.int 7)) (a7 3))) (mC (.int 26))))
def a19:MS:=
 (g9 (i9 2 (mC (.str "abcdefghijklmnopqrstuvwxyz")))
 (G1 (S2 1 (P7 (a5 (a7 1) d6)) (j6 3) a0i a0h)))
def R4:List PV->Option d7:=A4 1 a19
def v0:M:=
 (m1 a0F (a7 1))
def B6:MS:=
 (G1 (m1 a0F (S2 1 (a1Q (a7 0)) (j6 1) a0i v0)))
def m5:List PV->Option d7:=A4 0 B6
def n0:MS:=
 (C3 1 (a1o (a5 (a7 2) (a5 (a7 3) (a5 (a7 4) d6)))))
def n4:MS:=
 (M4 (P7 (a5 (a7 0) d6)) (j6 4) n0)
def n5:MS:=
 (M4 (P7 (a5 (a7 0) d6)) (j6 3) n4)
def v9:MS:=
 (g9 (i9 1 (X8 d6))
 (g9 (M4 (M5 (m1 a8a (mC b1g))) (j6 2) n5)
 (U1 1)))
def l6:List PV->Option d7:=A4 4 v9
def L9:MS:=
 (g9 (i9 2 (c0T a3j (a7 0)))
 (G1 (a1o (a5 (m2 Q4 (m2 K7 (m2 N3 (a7 2) (mC (.int 0))) (m2 N3 (a7 1) (mC (.int 0)))) (m2 K7 (m2 N3 (a7 2) (mC (.int 1))) (m2 N3 (a7 1) (mC (.int 1))))) (a5 (m2 Q4 (m2 K7 (m2 N3 (a7 2) (mC (.int 2))) (m2 N3 (a7 1) (mC (.int 0)))) (m2 K7 (m2 N3 (a7 2) (mC (.int 3))) (m2 N3 (a7 1) (mC (.int 1))))) d6)))))
def B7:List PV->Option d7:=A4 1 L9
def a4Z:MS:=
 (g9 (i9 3 (i3 B7 (a5 (m2 N3 (a7 1) (mC (.int 0))) (a5 (a7 2) d6))))
 (G1 (a1o (a5 (m2 (gIc (λ_ j=>0<j) λi j=> .int (i % j)) (m2 Q4 (m2 N3 (a7 3) (mC (.int 0))) (m2 N3 (a7 1) (mC (.int 1)))) (a7 0)) (a5 (m2 (gIc (λ_ j=>0<j) λi j=> .int (i % j)) (m2 Q4 (m2 N3 (a7 3) (mC (.int 1))) (m2 N3 (a7 1) (mC (.int 2)))) (a7 0)) d6)))))
def a2a:List PV->Option d7:=A4 1 a4Z
def u8:MS:=
 (g9 (i9 7 (i3 a2a (a5 (a7 0) (a5 (a7 6) (a5 (m2 N3 (a7 4) (a7 5)) d6)))))
 (U7 (mtB (a4d true 3 (a7 7))) (g9 (O8 3 (a7 7) (mC (.bool true)))
 (C3 4 (a7 7))) F8))
def u9:MS:=
 (g9 (M4 (M5 (a7 1)) (j6 6) u8)
 (a8i 5 (gI λi j=> .int (i+j)) (mC (.int 1))))
def B5:MS:=
 (g9 (i9 3 (a5B (a7 2) (mC (.bool true))))
 (g9 (i9 4 (X8 (a5 (a7 2) d6)))
 (g9 (i9 5 (mC (.int 0)))
 (g9 (Q8 (mtB (m2 a6H (a7 5) (m1 C2 (a7 4)))) u9 100)
 (G1 (m1 a79 (a7 4)))))))
def y8:List PV->Option d7:=A4 5 B5
def J3:MS:=
 (O8 4 (a7 8) (mC (.bool true)))
def J4:MS:=
 (U7 (mtB (a4d true 4 (a1o (a5 (a7 5) (a5 (a7 6) d6))))) (g9 (i9 7 (b0O [("circle_from",y8)] 2 (a5 (a7 0) (a5 (a7 1) (a5 (a1o (a5 (a7 5) (a5 (a7 6) d6))) d6)))))
 (g9 (S3 7 (C3 3 (a7 7)))
 (S3 7 (M4 (M5 (a7 7)) (j6 8) J3)))) F8)
def J5:MS:=
 (M4 (P7 (a5 (a7 0) d6)) (j6 6) J4)
def V7:MS:=
 (g9 (i9 3 (X8 d6))
 (g9 (i9 4 b1R)
 (g9 (M4 (P7 (a5 (a7 0) d6)) (j6 5) J5)
 (U1 3))))
def R9:List PV->Option d7:=A4 6 V7
def P9:MS:=
 (G1 (i3 R9 (a5 (a7 0) (a5 (a7 1) (a5 (mC (b75 "circle_from")) d6)))))
def y9:List PV->Option d7:=A4 0 P9
def r6:M:=
 (b4G 1 (a5 (a7 2) (a5 (a7 3) d6)))
def z6:MS:=
 (G1 (m2 a37 (mC (.str "")) (S2 1 (P7 (a5 (a7 0) d6)) (j6 3) a0i r6)))
def v6:List PV->Option d7:=A4 0 z6
def B8:M:=
 (i3 v6 (a5 (a7 0) (a5 (a7 1) (a5 (a7 2) d6))))
def L7:MS:=
 (G1 (m1 a0F (S2 1 (P7 (a5 (a7 0) d6)) (j6 2) a0i B8)))
def G6:List PV->Option d7:=A4 0 L7
def k6:MS:=
 (O8 2 (a7 4) (m2 N3 (a7 3) (mC (.int 1))))
def k7:MS:=
 (M4 (M5 (m2 N3 (a7 3) (mC (.int 0)))) (j6 4) k6)
def p8:MS:=
 (g9 (i9 2 b1R)
 (g9 (M4 (M5 (a7 1)) (j6 3) k7)
 (G1 (b1N G6 2 (a7 0)))))
def l8:List PV->Option d7:=A4 3 p8
def Q1:MS:=
 (G1 (a1o (a5 (m1 C2 (a7 0)) (a5 (m1 C2 (m2 N3 (a7 0) (mC (.int 0)))) d6))))
def K5:List PV->Option d7:=A4 0 Q1
def J6:MS:=
 (U7 (mtB (m2 gNe (a7 6) (m2 N3 (m2 N3 (a7 1) (a7 3)) (a7 5)))) (C3 2 (a1o (a5 (a7 3) (a5 (a7 5) d6)))) F8)
def J7:MS:=
 (M4 (a9B (a5 (a7 4) d6)) (a7I [5,6]) J6)
def V8:MS:=
 (g9 (U7 (mtB (m2 gNe (i3 K5 (a5 (a7 0) d6)) (i3 K5 (a5 (a7 1) d6)))) b4H F8)
 (g9 (i9 2 (X8 d6))
 (g9 (M4 (a9B (a5 (a7 0) d6)) (a7I [3,4]) J7)
 (U1 2))))
def S1:List PV->Option d7:=A4 5 V8
def w8:MS:=
 (g9 (i9 2 (i3 l8 (a5 (m1 C2 (a7 0)) (a5 (a7 1) d6))))
 (G1 (a1o (a5 (a7 2) (a5 (i3 S1 (a5 (a7 0) (a5 (a7 2) d6))) (a5 (a7 1) d6))))))
def u4:List PV->Option d7:=A4 1 w8
def D6:MS:=
 (G1 (m1 a5l (m2 a37 (mC (.str "")) (a7 0))))
def A9:List PV->Option d7:=A4 0 D6
def k9:MS:=
 (b8c 2 (a7 3) (m2 a5j (a7 1) (a7 3)))
def p9:MS:=
 (g9 (i9 1 (m2 a37 (mC (.str "")) (a7 0)))
 (g9 (i9 2 c0U)
 (g9 (M4 (M5 (i3 A9 (a5 (a7 0) d6))) (j6 3) k9)
 (U1 2))))
def l9:List PV->Option d7:=A4 3 p9
def z0:MS:=
 (g9 (i9 1 (m1 b4k (b1Q 0)))
 (G1 (m1 a8a (b1P 0 1))))
def v5:List PV->Option d7:=A4 1 z0
def w4:MS:=
 (g9 (i9 2 (i3 v5 (a5 (a7 0) d6)))
 (g9 (U7 (mtB (m2 (b8Y false) (a7 1) (a7 2))) (U1 1) F8)
 (G1 (m2 N3 (a7 2) (mC (.int 0))))))
def t8:List PV->Option d7:=A4 1 w4
def a2l:MS:=
 (g9 (i9 3 (m1 C2 (a7 0)))
 (G1 (m2 N3 (m2 N3 (a7 0) (m2 (gIc (λ_ j=>0<j) λi j=> .int (i % j)) (a7 1) (a7 3))) (m2 (gIc (λ_ j=>0<j) λi j=> .int (i % j)) (a7 2) (a7 3)))))
def a1h:List PV->Option d7:=A4 1 a2l
def B9:M:=
 (i3 a1h (a5 (a7 0) (a5 (m2 N3 (a7 2) (mC (.int 0))) (a5 (m2 N3 (a7 2) (mC (.int 1))) d6))))
def L8:MS:=
 (G1 (m2 a37 (mC (.str "")) (S2 1 (a1Q (a7 1)) (j6 2) a0i B9)))
def G7:List PV->Option d7:=A4 0 L8
def w6:MS:=
 (g9 (i9 3 (i3 l9 (a5 (a1o (a5 (i3 G7 (a5 (a7 0) (a5 (a7 1) d6))) d6)) d6)))
 (g9 (i9 4 (b1O t8 3 (a7 2)))
 (G1 (a1o (a5 (a7 1) (a5 (a7 4) (a5 (b8b 3 (a7 4)) d6)))))))
def u0:List PV->Option d7:=A4 2 w6
def J9:M:=
 (i3 u0 (a5 (a7 0) (a5 (a7 3) (a5 (mC .none) d6))))
def V5:MS:=
 (g9 (i9 2 (i3 y9 (a5 (m1 C2 (a7 0)) (a5 (a7 1) d6))))
 (G1 (i3 u4 (a5 (a7 0) (a5 (S2 1 (a1Q (a7 2)) (j6 3) a0i J9) d6)))))
def G8:List PV->Option d7:=A4 1 V5
def D5:MS:=
 (G1 (m1 C2 (m2 N3 (i3 G8 (a5 (a7 0) (a5 (a7 1) d6))) (mC (.int 1)))))
def i8:List PV->Option d7:=A4 0 D5
def n6:MS:=
 (g9 (i9 7 (m2 b1A (m2 N3 (a7 3) (a7 5)) (X8 (a5 (a7 6) d6))))
 (g9 (S3 7 (i9 8 (i3 m5 (a5 (i3 y9 (a5 (a7 2) (a5 (a7 7) d6))) d6))))
 (U7 (mtB (a4d true 4 (a7 8))) (g9 (O8 4 (a7 8) (mC (.bool true)))
 (S3 7 (U7 (mtB (m2 b6K (i3 i8 (a5 (a7 0) (a5 (a7 7) d6))) (a7 1))) (S3 7 (C3 3 (a7 7))) F8))) F8)))
def n8:MS:=
 (g9 (M4 (M5 (i3 l6 (a5 (a7 2) d6))) (j6 6) n6)
 (a8i 5 (gI λi j=> .int (i+j)) (mC (.int 1))))
def x4:MS:=
 (g9 (i9 2 (m1 C2 (a7 0)))
 (g9 (i9 3 (X8 (a5 (X8 d6) d6)))
 (g9 (i9 4 (a5B (i3 m5 (a5 (i3 y9 (a5 (a7 2) (a5 (X8 d6) d6))) d6)) (mC (.bool true))))
 (g9 (i9 5 (mC (.int 0)))
 (g9 (Q8 (mtB (m2 a6H (a7 5) (m1 C2 (a7 3)))) n8 100)
 (U1 3))))))
def u5:List PV->Option d7:=A4 7 x4
def z8:M:=
 (m2 gEq (a5A 2 (i3 a2a (a5 (a7 0) (a5 (a7 1) (a5 (a7 3) d6))))) (a5A 2 (a7 3)))
def G2:MS:=
 (G1 (m1 b8X (S2 1 (b0P 2) (j6 3) a0i z8)))
def D0:List PV->Option d7:=A4 0 G2
def x6:MS:=
 (O8 2 (a7 5) (a7 3))
def x8:MS:=
 (M4 (M5 (a7 4)) (j6 5) x6)
def y0:M:=
 (a7 6)
def D3:MS:=
 (g9 (i9 2 b1R)
 (g9 (M4 (a9B (a5 (i3 y9 (a5 (a7 0) (a5 (a7 1) d6))) d6)) (a7I [3,4]) x8)
 (G1 (S2 1 (a1Q (i3 l6 (a5 (a7 0) d6))) (j6 6) (mtV (b0Q 2 (i3 D0 (a5 (a7 0) (a5 (a7 6) (a5 (a7 2) d6)))))) y0))))
def y6:List PV->Option d7:=A4 4 D3
def x9:MS:=
 (g9 (i9 5 (i3 y6 (a5 (m1 C2 (a7 0)) (a5 (a7 4) d6))))
 (g9 (i9 6 (i3 i8 (a5 (a7 0) (a5 (a7 4) d6))))
 (U7 (b4L (mtB (m2 (gI λi j=> .bool (decide (j<i))) (m1 C2 (a7 5)) (m1 C2 (a7 2)))) (b4K (mtB (m2 gEq (m1 C2 (a7 5)) (m1 C2 (a7 2)))) (mtB (m2 a6H (a7 6) (a7 3))))) (g9 (S3 5 (i9 2 (a7 5)))
 (i9 3 (a7 6))) F8)))
def D4:MS:=
 (g9 (i9 2 (X8 d6))
 (g9 (i9 3 (mC (.int 0)))
 (g9 (M4 (M5 (i3 u5 (a5 (a7 0) (a5 (a7 1) d6)))) (j6 4) x9)
 (U1 2))))
def q4:List PV->Option d7:=A4 5 D4
def M0:MS:=
 (G1 (b8d a6s (i3 B7 (a5 (a7 1) (a5 (i3 B7 (a5 (a7 0) (a5 (mC a3W) d6))) d6)))))
def G9:List PV->Option d7:=A4 0 M0
def a2m:MS:=
 (g9 (i9 3 (i3 a2a (a5 (a7 0) (a5 (a7 2) (a5 (a1o (a5 (m2 N3 (a7 1) (mC (.int 1))) (a5 (m2 N3 (a7 1) (mC (.int 2))) d6))) d6)))))
 (G1 (a1o (a5 (i3 G9 (a5 (m2 N3 (a7 1) (mC (.int 0))) (a5 (m2 N3 (a7 2) (mC (.int 0))) d6))) (a5 (m2 N3 (a7 3) (mC (.int 0))) (a5 (m2 N3 (a7 3) (mC (.int 1))) d6))))))
def a1k:List PV->Option d7:=A4 1 a2m
def D7:MS:=
 (g9 (i9 6 (i3 a1k (a5 (a7 0) (a5 (m2 N3 (a7 3) (a7 4)) (a5 (a7 5) d6)))))
 (U7 (mtB (a4d true 2 (a7 6))) (g9 (O8 2 (a7 6) (mC (.bool true)))
 (C3 3 (a7 6))) F8))
def D8:MS:=
 (g9 (M4 (M5 (a7 1)) (j6 5) D7)
 (a8i 4 (gI λi j=> .int (i+j)) (mC (.int 1))))
def Q0:MS:=
 (g9 (i9 2 (a5B (a1o (a5 (mC (.str "stay")) (a5 (mC (.int 0)) (a5 (mC (.int 0)) d6)))) (mC (.bool true))))
 (g9 (i9 3 (X8 (a5 (a1o (a5 (mC (.str "stay")) (a5 (mC (.int 0)) (a5 (mC (.int 0)) d6)))) d6)))
 (g9 (i9 4 (mC (.int 0)))
 (g9 (Q8 (mtB (m2 a6H (a7 4) (m1 C2 (a7 3)))) D8 300)
 (U1 2)))))
def K4:List PV->Option d7:=A4 5 Q0
def I0:MS:=
 (U7 (mtB (a4d true 4 (a7 6))) (g9 (C3 2 (a7 5))
 (g9 (C3 3 (a7 6))
 (i9 4 (b0N K4 3 (a7 0))))) F8)
def V6:MS:=
 (g9 (i9 2 (X8 d6))
 (g9 (i9 3 (X8 d6))
 (g9 (i9 4 (b0N K4 3 (a7 0)))
 (g9 (M4 (a9B (a5 (a7 1) d6)) (a7I [5,6]) I0)
 (U1 2)))))
def R8:List PV->Option d7:=A4 5 V6
def J8:M:=
 (m2 N3 (a7 2) (a7 3))
def V4:MS:=
 (g9 (i9 2 (m1 a79 (a7 1)))
 (S3 2 (G1 (S2 1 (a1Q (i3 R8 (a5 (a7 0) (a5 (a7 2) d6)))) (j6 3) a0i J8))))
def L3:List PV->Option d7:=A4 1 V4
def B4:MX:=
 (b1U (a6L (i9 2 (m1 C2 (a7 0))))
 (b1U (b9g (mtB (m2 (gI λi j=> .bool (decide (j<i))) (a7 2) (mC t7))) (b1T "TooLarge" ["many"] (a5 (m2 K7 (a7 2) (a7 2)) d6)) (a6L F8))
 (a6L (g9 (i9 3 (i3 q4 (a5 (a7 0) (a5 (a7 1) d6))))
 (g9 (S3 3 (i9 4 (i3 L3 (a5 (a7 2) (a5 (a7 3) d6)))))
 (S3 4 (G1 (a1o (a5 (a7 4) (a5 (m1 C2 (a7 3)) (a5 (i3 G8 (a5 (a7 0) (a5 (a7 4) d6))) d6)))))))))))
def j8:List PV->Option (d7 ⊕ XT):=b5t 3 B4
def a18:MS:=
 (g9 (U7 (mtB (m2 a6H (a7 1) (m1 C2 (a7 0)))) (G1 (m2 N3 (a7 0) (a7 1))) F8)
 (G1 (mC (.int 0))))
def L4:List PV->Option d7:=A4 0 a18
def a82:MS:=
 (G1 (b2X (m1 (b6H "int") (a7 0)) (c0S (m1 (b6H "bool") (a7 0)))))
def a1i:List PV->Option d7:=A4 0 a82
def a32:MS:=
 (g9 (i9 2 (mC .none))
 (g9 (a3C (a7n j8 (a5 (a7 0) (a5 (a7 1) d6))) 3 (inL ["TooLarge"]) (i9 2 (a7 3)))
 (g9 (U7 (b4L (a7l (mtV (m1 (b6I [("TooLarge",true)]) (a7 2)))) (a7l (mtV (m1 (b6I [("TooLarge",true)]) (a7 2))))) (G1 (mC (.bool false))) F8)
 (G1 (b2X (i3 a1i (a5 (m1 (gFx ["TooLarge"] "many") (a7 2)) d6)) (m2 gEq (m1 (gFx ["TooLarge"] "many") (a7 2)) (m2 K7 (m1 C2 (a7 0)) (m1 C2 (a7 0)))))))))
def Y3:List PV->Option d7:=A4 2 a32
def L5:MS:=
 (g9 (i9 8 (m2 Q4 (m2 K7 (a7 5) (a7 1)) (a7 7)))
 (g9 (U7 (mtB (m2 gEq (m2 (gIc (λ_ j=>0<j) λi j=> .int (i % j)) (a7 3) (mC (.int 4))) (mC (.int 1)))) (i9 8 (a7 7)) F8)
 (g9 (U7 (mtB (m2 gEq (m2 (gIc (λ_ j=>0<j) λi j=> .int (i % j)) (a7 3) (mC (.int 4))) (mC (.int 2)))) (i9 8 (m2 (gIc (λ_ j=>0<j) λi j=> .int (i % j)) (m2 Q4 (a7 5) (a7 7)) (a7 1))) F8)
 (g9 (U7 (mtB (m2 gEq (m2 (gIc (λ_ j=>0<j) λi j=> .int (i % j)) (a7 3) (mC (.int 4))) (mC (.int 3)))) (i9 8 (m2 Q4 (m2 (gI λi j=> .int (if j<i then j else i)) (a7 5) (m2 (gI λi j=> .int (i - j)) (m2 (gI λi j=> .int (i - j)) (a7 1) (mC (.int 1))) (a7 5))) (m2 K7 (a7 1) (m2 (gI λi j=> .int (if j<i then j else i)) (a7 7) (m2 (gI λi j=> .int (i - j)) (m2 (gI λi j=> .int (i - j)) (a7 1) (mC (.int 1))) (a7 7)))))) F8)
 (i9 6 (m2 Q4 (a7 6) (m2 N3 (a7 2) (m2 (gIc (λ_ j=>0<j) λi j=> .int (i % j)) (i3 D1 (a5 (m2 N3 (a7 0) (m2 (gIc (λ_ j=>0<j) λi j=> .int (i % j)) (a7 8) (m1 C2 (a7 0)))) (a5 (a7 8) d6))) (m1 C2 (a7 2))))))))))
def L6:MS:=
 (g9 (i9 6 (mC (.str "")))
 (g9 (M4 (P7 (a5 (a7 1) d6)) (j6 7) L5)
 (C3 4 (a7 6))))
def a2O:MS:=
 (g9 (i9 4 (X8 d6))
 (g9 (M4 (P7 (a5 (a7 1) d6)) (j6 5) L6)
 (G1 (m1 a0F (a7 4)))))
def U6:List PV->Option d7:=A4 5 a2O
def a2V:MS:=
 (g9 (i9 6 (i3 D1 (a5 (m2 N3 (a7 4) (a7 5)) (a5 (m2 Q4 (a7 5) (mC (.int 70))) d6))))
 (S3 3 (S3 4 (U7 (a7l (mtV (i3 Y3 (a5 (i3 U6 (a5 (a7 4) (a5 (m2 Q4 (mC (.int 4)) (m2 (gIc (λ_ j=>0<j) λi j=> .int (i % j)) (m2 Q4 (a7 1) (a7 5)) (mC (.int 5)))) (a5 (a7 3) (a5 (m2 (gIc a8O λi j=> .int (i / j)) (a7 6) (mC (.int 7))) d6))))) (a5 (m2 (gIc (λ_ j=>0<j) λi j=> .int (i % j)) (a7 6) (mC (.int 10))) d6))))) (G1 (mC (.bool false))) F8))))
def a5w:M:=
 (m2 K7 (m2 N3 (a7 3) (mC (.int 0))) (a7 7))
def b7X:MS:=
 (g9 (i9 1 (i3 D1 (a5 (i3 L4 (a5 (a7 0) (a5 (mC (.int 0)) d6))) (a5 (mC (.int 0)) d6))))
 (g9 (i9 2 (i3 D1 (a5 (i3 L4 (a5 (a7 0) (a5 (mC (.int 1)) d6))) (a5 (mC (.int 1)) d6))))
 (g9 (i9 3 (i3 R4 (a5 (a7 2) (a5 (m2 Q4 (mC (.int 1)) (m2 (gIc (λ_ j=>0<j) λi j=> .int (i % j)) (m2 (gIc a8O λi j=> .int (i / j)) (a7 2) (mC (.int 26))) (mC (.int 5)))) d6))))
 (g9 (i9 4 (m2 Q4 (b0R (a7 0) (a8l (mC (.int 2))) (a8l (mC (.int 10)))) (X8 (a5 (m1 C2 (a7 0)) d6))))
 (g9 (M4 (P7 (a5 (m1 C2 (a7 4)) d6)) (j6 5) a2V)
 (g9 (i9 7 (m2 Q4 (mC (.int 1)) (m2 (gIc (λ_ j=>0<j) λi j=> .int (i % j)) (m2 (gIc a8O λi j=> .int (i / j)) (a7 1) (mC (.int 5))) (mC (.int 2)))))
 (g9 (i9 8 (m1 a0F (S2 1 (P7 (a5 (a7 7) d6)) (j6 12) a0i a5w)))
 (g9 (b9f [9,10,11] (i3 (left j8) (a5 (a7 8) (a5 (m2 (gIc (λ_ j=>0<j) λi j=> .int (i % j)) (a7 2) (mC (.int 10))) d6))))
 (G1 (b2X (m2 gEq (a7 10) (m2 K7 (m2 K7 (mC (.int 8)) (a7 7)) (a7 7))) (b2X (m2 gEq (m2 N3 (a7 11) (mC (.int 0))) (a7 8)) (m2 gEq (m2 N3 (a7 11) (mC (.int 1))) (X8 d6)))))))))))))
def b1C:List PV->Option d7:=A4 11 b7X
set_option maxHeartbeats 1000000
def a41(n:Nat)(f:Nat->Nat->Nat):PV:=b7Z ((AZ n).map λr=>(AZ n).map λc=>f r c)
theorem a84(n:Nat)(f:Nat->Nat->Nat):C2 (.v (a41 n f))=ξ (.v (.int n)):=by
 show C2 (.v (.tuple _))=_;rw [b4i,AV,AV,BE]
def a5G(c k:Int):Int:=(c % 2147483647+17)*(48271+2*k*k) % 2147483629
theorem b0V(c k:Int):0<=a5G c k/\a5G c k<2147483629:=by
 unfold a5G;exact⟨Int.emod_nonneg _ (by decide),Int.emod_lt_of_pos _ (by decide)⟩
theorem a1S{c k:Int}(hk:0<=k/\k<100000):D1 [.int c,.int k]=ξ (.v (.int (a5G c k))):=by
 unfold D1 a33 a5G;simp! [O6,U5,O7,E8,K0,v3,C0,P0,a1w,X2,a0M,AS,AQ,Aq,Au,Ad]
theorem a9y(c:Int){m:Nat}(hm:m<1000):∃ls:List Nat,ls.length=m/\(∀x∈ls,97<=x/\x<123)/\R4 [.int c,.int m]=ξ (.own (ls.map λx=>row [x])):=by
 refine⟨(AZ m).map λ(k:Nat)=>97+((c+7*(k:Int)) % 26).toNat,by simp,λx hx=> ?_, ?_⟩
 ·obtain⟨k,_,rfl⟩:=Ay.mp hx
  lia
 unfold R4 a19;simp! [K0,B0,P8,P0,z9,F9,X2,AS,AQ,Aq,Al,Au,Av,As,An,Ao];rw [a7j (f:=λk:Nat=>row [97+((c+7*(k:Int)) % 26).toNat]) (AZ m) (a7k (n:=m) rfl (by lia)) (by rw [BE];lia)]
 ·simp! [b9R,a0M,AS,BG]
  rfl
 ·intro k hk;have hk:=List.mem_range.mp hk;refine⟨_,rfl, ?_⟩;unfold a0h;simp! [O6,U5,O7,E8,K0,v3,C0,t6,AS,Al,Au,Av,As,An,Ao,b3H (i:=(c+7*(k:Int)) % 26) (by lia) (by lia)]
theorem b6O{cs:List Int}(h:0<cs.length)(A:Int):∃c:Int,N3 (.v (.list (cs.map .int))) (.v (.int (A %(cs.length:Int))))=ξ (.v (.int c)):=by
 have h0:0<=A %(cs.length:Int):=Int.emod_nonneg _ (by lia)
 have h1:A %(cs.length:Int)<cs.length:=Int.emod_lt_of_pos _ (by lia)
 have hk:(A %(cs.length:Int)).toNat<cs.length:=by lia
 exact⟨cs[(A %(cs.length:Int)).toNat],a0f (by rw [a3n h0,Ag,Ai hk];rfl)⟩
theorem b60{ls:List Nat}(h:0<ls.length)(A:Int):∃x∈ls,N3 (.v (.list (ls.map λx=>row [x]))) (.v (.int (A %(ls.length:Int))))=ξ (.v (row [x])):=by
 have h0:0<=A %(ls.length:Int):=Int.emod_nonneg _ (by lia)
 have h1:A %(ls.length:Int)<ls.length:=Int.emod_lt_of_pos _ (by lia)
 have hk:(A %(ls.length:Int)).toNat<ls.length:=by lia
 exact⟨ls[(A %(ls.length:Int)).toNat],List.getElem_mem _,a0f (by rw [a3n h0,Ag,Ai hk];rfl)⟩
theorem b6k{cs:List Int}(hcs:0<cs.length){ls:List Nat}(hls:0<ls.length){n:Nat}(hn:0<n)(hn8:n<=8)(seed:Int)(s4 q8:Option d7){r c:Nat}(hr:r<n)(hc:c<n){l:List Nat}(hl:l.length<1000):
 ∃x∈ls,∃(q8':Option d7),L5 [ξ (.v (.list (cs.map .int))),ξ (.v (.int n)),ξ (.v (.list (ls.map λx=>row [x]))),ξ (.v (.int seed)),s4,ξ (.v (.int (r:Nat))),ξ (.v (.str (S l))),ξ (.v (.int (c:Nat))),q8]
  =ξ (.nx [ξ (.v (.list (cs.map .int))),ξ (.v (.int n)),ξ (.v (.list (ls.map λx=>row [x]))),ξ (.v (.int seed)),s4,ξ (.v (.int (r:Nat))),ξ (.v (.str (S (l++[x])))),ξ (.v (.int (c:Nat))),q8']):=by
 have m0:0<=(r:Int)*n:=Int.mul_nonneg (by lia) (by lia)
 have m1:(r:Int)*n<=8*8:=Int.mul_le_mul (by lia) (by lia) (by lia) (by lia)
 have key:∀A:Int,0<=A/\A<1000->∃(v:Int) (x:Nat),x∈ls/\N3 (.v (.list (cs.map .int))) (.v (.int (A %(cs.length:Int))))=ξ (.v (.int v))/\D1 [.int v,.int A]=ξ (.v (.int (a5G v A)))/\N3 (.v (.list (ls.map λx=>row [x]))) (.v (.int (a5G v A %(ls.length:Int))))=ξ (.v (row [x])):=by
  intro A hA;obtain⟨v,hv⟩:=b6O hcs A;obtain⟨x,hm,hx⟩:=b60 hls (a5G v A);exact⟨v,x,hm,hv,a1S (by lia),hx⟩
 have h4:seed % 4=0\/seed % 4=1\/seed % 4=2\/seed % 4=3:=by lia
 unfold L5
 rcases h4 with h|h|h|h
 ·obtain⟨v,x,hm,e1,e2,e3⟩:=key ((r:Int)*n+c) (by lia)
  refine⟨x,hm, ?_⟩
  simp! [O6,U5,O7,Q5,E8,T2,K0,v3,C0,v8,o0,t6,E5,B0,P8,z9,F9,O9,a38,E6,U8,a0L,AS,An,Ao,AV,Int.reduceBEq,a69,h,e1,e2,e3,a4C]
  exact⟨_,rfl⟩
 ·obtain⟨v,x,hm,e1,e2,e3⟩:=key (c:Int) (by lia)
  refine⟨x,hm, ?_⟩
  simp! [O6,U5,O7,Q5,E8,T2,K0,v3,C0,v8,o0,t6,E5,B0,P8,z9,F9,O9,b1D,a38,E6,U8,a0L,AS,An,Ao,AV,beq_self_eq_true,Int.reduceBEq,a69,h,e1,e2,e3,a4C]
  exact⟨_,rfl⟩
 ·have b0:0<=((r:Int)+c) % n:=Int.emod_nonneg _ (by lia)
  have b1:((r:Int)+c) % n<n:=Int.emod_lt_of_pos _ (by lia)
  obtain⟨v,x,hm,e1,e2,e3⟩:=key (((r:Int)+c) % n) (by lia)
  refine⟨x,hm, ?_⟩
  simp! [O6,U5,O7,Q5,E8,T2,K0,v3,C0,v8,o0,t6,E5,B0,P8,z9,F9,O9,b1D,a38,E6,U8,a0L,AS,An,Ao,AV,beq_self_eq_true,Int.reduceBEq,a69,h,e1,e2,e3,a4C]
  exact⟨_,rfl⟩
 ·obtain⟨A1,hA1,b1⟩:∃A:Int,(if(n:Int) - 1 - r<r then(n:Int) - 1 - r else(r:Int))=A/\0<=A/\A<8:=⟨_,rfl,by split<;>lia,by split<;>lia⟩
  obtain⟨A2,hA2,b2⟩:∃A:Int,(if(n:Int) - 1 - c<c then(n:Int) - 1 - c else(c:Int))=A/\0<=A/\A<8:=⟨_,rfl,by split<;>lia,by split<;>lia⟩
  have p0:0<=(n:Int)*A2:=Int.mul_nonneg (by lia) (by lia)
  have p1:(n:Int)*A2<=8*8:=Int.mul_le_mul (by lia) (by lia) (by lia) (by lia)
  obtain⟨v,x,hm,e1,e2,e3⟩:=key (A1+(n:Int)*A2) (by lia)
  refine⟨x,hm, ?_⟩
  simp! [O6,a76,U5,O7,Q5,E8,T2,K0,v3,C0,v8,o0,t6,E5,B0,P8,z9,F9,O9,b1D,a38,E6,U8,a0L,AS,An,Ao,AV,beq_self_eq_true,Int.reduceBEq,a69,h,hA1,hA2,e1,e2,e3,a4C]
  exact⟨_,rfl⟩
theorem b6l{cs:List Int}(hcs:0<cs.length){ls:List Nat}(hls:0<ls.length){n:Nat}(hn:0<n)(hn8:n<=8)(seed:Int)(q6 q7 q8:Option d7){r:Nat}(hr:r<n){rows:List (List Nat)}(hR:rows.length<1000):
 ∃k:List Nat,k.length=n/\(∀y∈k,y∈ls)/\∃q6' q7' q8':Option d7,L6 [ξ (.v (.list (cs.map .int))),ξ (.v (.int n)),ξ (.v (.list (ls.map λx=>row [x]))),ξ (.v (.int seed)),ξ (.own (rows.map row)),ξ (.v (.int (r:Nat))),q6,q7,q8]
  =ξ (.nx [ξ (.v (.list (cs.map .int))),ξ (.v (.int n)),ξ (.v (.list (ls.map λx=>row [x]))),ξ (.v (.int seed)),ξ (.own ((rows++[k]).map row)),ξ (.v (.int (r:Nat))),q6',q7',q8']):=by
 obtain⟨ρ3,e5,k,hk1,hk2,r7,r8,rfl⟩:=a3s (body:=L5) (tg:=j6 7) (λj ρ=>∃k:List Nat,k.length=j/\(∀y∈k,y∈ls)/\∃q7 q8:Option d7,ρ=[ξ (.v (.list (cs.map .int))),ξ (.v (.int n)),ξ (.v (.list (ls.map λx=>row [x]))),ξ (.v (.int seed)),ξ (.own (rows.map row)),ξ (.v (.int (r:Nat))),ξ (.v (.str (S k))),q7,q8])
  (ps:=a01 0 n) (ρ:=[ξ (.v (.list (cs.map .int))),ξ (.v (.int n)),ξ (.v (.list (ls.map λx=>row [x]))),ξ (.v (.int seed)),ξ (.own (rows.map row)),ξ (.v (.int (r:Nat))),ξ (.v (.str (S []))),q7,q8])
  (by
   rintro j p hp ρ ⟨k,hk1,hk2,q7,q8,rfl⟩;obtain⟨rfl,hj⟩:=a8z hp;have hj':(0:Int)+(j:Int)=(j:Int):=by lia
   rw [hj'] at hj ⊢;obtain⟨x,hm,b,e⟩:=b6k hcs hls hn hn8 seed (ξ (.own (rows.map row))) q8 hr (c:=j) (by lia) (l:=k) (by lia)
   exact⟨_,_,rfl,.inl e,k++[x],by simp [hk1],λy hy=>(Ar.mp hy).elim (hk2 y) λz=>by rw [List.mem_singleton.mp z];exact hm,_,_,rfl⟩) ⟨[],rfl,(λy hy=>nomatch hy),q7,q8,rfl⟩
 rw [a0k] at hk1
 refine⟨k,by lia,hk2, ?_⟩
 unfold L6
 simp! [K0,v3,C0,v8,o0,t6,B0,P8,z9,F9,a5C,a1R,a4H,AS,An,Ao,show Aj ""=S [] from rfl,e5]
 rw [a9A rfl rfl rfl (by rw [AV];lia)]
 exact⟨_,_,_,by rw [BD];rfl⟩
theorem a86{rows:List (List Nat)}{n:Nat}(h1:rows.length=n)(h2:∀l∈rows,l.length=n):b7Z rows=a41 n λr c=>(rows.getD r []).getD c 0:=by
 unfold a41
 congr 1
 refine List.ext_getElem (by rw [AV,BE,h1]) λi hi hi'=> ?_
 rw [List.getElem_map,List.getElem_range];have hl:=h2 rows[i] (List.getElem_mem _);refine List.ext_getElem (by rw [AV,BE,hl]) λj hj hj'=> ?_
 rw [List.getElem_map,List.getElem_range];simp [List.getD,hi,hj]
theorem b3N{cs:List Int}(hcs:0<cs.length){ls:List Nat}(hls:0<ls.length){n:Nat}(hn:0<n)(hn8:n<=8)(seed:Int):∃f:Nat->Nat->Nat,(∀r c,r<n->c<n->f r c∈ls)/\U6 [.list (cs.map .int),.int n,.list (ls.map λx=>row [x]),.int seed]=ξ (.v (a41 n f)):=by
 obtain⟨ρ2,e2,rows,hr1,hr2',q5,q6,q7,q8,rfl⟩:=a3s (body:=L6) (tg:=j6 5) (λi ρ=>∃rows:List (List Nat),rows.length=i/\(∀l∈rows,l.length=n/\∀y∈l,y∈ls)/\∃q5 q6 q7 q8:Option d7,ρ=[ξ (.v (.list (cs.map .int))),ξ (.v (.int n)),ξ (.v (.list (ls.map λx=>row [x]))),ξ (.v (.int seed)),ξ (.own (rows.map row)),q5,q6,q7,q8])
  (ps:=a01 0 n) (ρ:=[ξ (.v (.list (cs.map .int))),ξ (.v (.int n)),ξ (.v (.list (ls.map λx=>row [x]))),ξ (.v (.int seed)),ξ (.own []),ζ,ζ,ζ,ζ])
  (by
   rintro i p hp ρ ⟨rows,h1,h2,q5,q6,q7,q8,rfl⟩;obtain⟨rfl,hi⟩:=a8z hp;have hi':(0:Int)+(i:Int)=(i:Int):=by lia
   rw [hi'] at hi ⊢;obtain⟨l,hl1,hl2,a',b',c',e⟩:=b6l hcs hls hn hn8 seed q6 q7 q8 (r:=i) (by lia) (rows:=rows) (by lia)
   refine⟨_,_,rfl,.inl e,rows++[l],by simp [h1],λx hx=> ?_,_,_,_,_,rfl⟩
   rcases Ar.mp hx with h|h
   ·exact h2 x h
   ·have:x=l:=by simpa using h
    rw [this];exact⟨by lia,hl2⟩) ⟨[],rfl,(by intro x h;cases h),ζ,ζ,ζ,ζ,rfl⟩
 rw [a0k] at hr1;have hrl:rows.length=n:=by lia
 have hr2:∀l∈rows,l.length=n:=λl hl=>(hr2' l hl).1;refine⟨λr c=>(rows.getD r []).getD c 0,λr c hr hc=> ?_, ?_⟩
 ·have h1:r<rows.length:=by lia
  have h2:=hr2' rows[r] (List.getElem_mem h1);have h3:c<rows[r].length:=by lia
  have:(rows.getD r []).getD c 0=rows[r][c]:=by simp [List.getD,h1,h3]
  show(rows.getD r []).getD c 0∈ls;rw [this];exact h2.2 _ (List.getElem_mem h3)
 unfold U6 a2O;simp! [T2,v3,a8j,C0,v8,o0,t6,a9C,B0,a7R,P0,a1w,z9,F9,X2,a0M,a5C,a1R,a4H,AS,AQ,Aq,Al,Au,Av,As,An,Ao,Aw,↓reduceIte,b0y,sz,BI,e2];rw [<-a86 hrl hr2]
 rfl
def hIc(f:Int->Int->PV):d7->d7->Option d7
 | .v (.int i),.v (.int j)=>if decide (0<j)=true then ξ (.v (f i j)) else ζ
 |_,_=>ζ
theorem c0Y:okC (λ_ j=>0<j)=λ_ j=>decide (0<j):=by
 funext i j
 rw [Bool.eq_iff_iff,U9,decide_eq_true_iff]
theorem a3v(f:Int->Int->PV):gIc (λ_ j=>0<j) f=hIc f:=by
 funext x y
 unfold gIc;rw [c0Y]
 rfl
def c0M(m:MA):MI:=λρ=>(m ρ).bind λps=>match ps with
 |[.int j]=>if decide (-(2 ^ 62)<=j/\j<2 ^ 62)=true then ξ (a01 0 j) else ζ
 |_=>ζ
theorem a0g(m:MA):P7 m=c0M m:=by
 unfold P7;rw [show PU.inR=λj=>decide (-(2 ^ 62)<=j/\j<2 ^ 62) from funext b4p]
 rfl
def c0L:d7->d7->Option d7
 | .v (.int i),.v (.int j)=>if decide (a4n i j)=true then ξ (.v (.int (i*j))) else ζ
 |x,y=>K7 x y
theorem a1M:K7=c0L:=by
 funext x y
 unfold c0L;split
 ·rename_i i j;show gIc a4n (λi j=> .int (i*j)) (.v (.int i)) (.v (.int j))=_;unfold gIc
  by_cases h:a4n i j
  ·show(if okC a4n i j=true then _ else _)=_
   rw [if_pos (U9.mpr h),if_pos (decide_eq_true h)]
  ·show(if okC a4n i j=true then _ else _)=_
   rw [if_neg (λz=>h (U9.mp z)),if_neg (λz=>h (of_decide_eq_true z))]
 ·rfl
def At0(c:PV)(ρ:b9):Prop:=ρ[0]?=ξ (ξ (.v c))
def b7T(c:PV):Fl->Prop
 | .nx ρ=>At0 c ρ
 | .ct ρ=>At0 c ρ
 | .bk ρ=>At0 c ρ
 | .rt _=>True
def Sm(c:PV)(b b':MS):Prop:=∀ρ fl,At0 c ρ->b ρ=ξ fl->b' ρ=ξ fl/\b7T c fl
theorem At0.set{c:PV}{ρ:b9}(h:At0 c ρ)(i:Nat)(r:Option d7):At0 c (ρ.set (i+1) r):=by
 unfold At0 at*;rw [List.getElem?_set_ne (by lia)]
 exact h
section
variable {c:PV}
theorem M7{m n m' n':MS}(h:Sm c m m')(g:Sm c n n'):Sm c (g9 m n) (g9 m' n'):=λρ fl a e=>by
 unfold g9 at e ⊢;obtain⟨f,e1,e⟩:=bind_some e;obtain⟨h1,h2⟩:=h ρ f a e1;rw [h1,AS];cases f with
 |nx ρ1=>exact g ρ1 fl h2 e
 |ct ρ1=>cases e;exact⟨rfl,h2⟩
 |bk ρ1=>cases e;exact⟨rfl,h2⟩
 |rt r=>cases e;exact⟨rfl,trivial⟩
theorem b5D{t t':MT}{m n m' n':MS}(ht:∀ρ b,At0 c ρ->t ρ=ξ b->t' ρ=ξ b)(h:Sm c m m')(g:Sm c n n'):Sm c (U7 t m n) (U7 t' m' n'):=λρ fl a e=>by
 unfold U7 at e ⊢;obtain⟨b,e1,e⟩:=bind_some e;rw [ht ρ b a e1,AS];cases b with
 |true=>exact h ρ fl a e
 |false=>exact g ρ fl a e
theorem a4I{i:Nat}{b b':MS}(h:Sm c b b'):∀(ps:List PV) (ρ:b9) (fl:Fl),At0 c ρ->a2r b (j6 (i+1)) ps ρ=ξ fl->a2r b' (j6 (i+1)) ps ρ=ξ fl/\b7T c fl
 |[],ρ,fl,a,e=>by cases e;exact⟨rfl,a⟩
 |p::ps,ρ,fl,a,e=>by
  rw [a2r] at e ⊢;obtain⟨ρ1,e1,e⟩:=bind_some e;cases e1;obtain⟨f,e2,e⟩:=bind_some e;obtain⟨h1,h2⟩:=h _ f (a.set i _) e2;show(b' (ρ.set (i+1) (ξ (.v p)))).bind _=_/\_;rw [h1,AS];cases f with
  |nx ρ1=>exact a4I h ps ρ1 fl h2 e
  |ct ρ1=>exact a4I h ps ρ1 fl h2 e
  |bk ρ1=>cases e;exact⟨rfl,h2⟩
  |rt r=>cases e;exact⟨rfl,trivial⟩
theorem b9Z{it:MI}{i:Nat}{b b':MS}(h:Sm c b b'):Sm c (M4 it (j6 (i+1)) b) (M4 it (j6 (i+1)) b'):=λρ fl a e=>by
 unfold M4 at e ⊢;obtain⟨ps,e1,e⟩:=bind_some e;rw [e1,AS];exact a4I h ps ρ fl a e
theorem a6j{t:MT}{b b':MS}(h:Sm c b b'):∀k:Nat,Sm c (Q8 t b k) (Q8 t b' k)
 |0,_,_,_,e=>by cases e
 |k+1,ρ,fl,a,e=>by
  rw [Q8] at e ⊢;obtain⟨x,e1,e⟩:=bind_some e;rw [e1,AS];cases x with
  |false=>cases e;exact⟨rfl,a⟩
  |true=>
   obtain⟨f,e2,e⟩:=bind_some e;obtain⟨h1,h2⟩:=h ρ f a e2;rw [if_pos rfl,h1,AS];cases f with
   |nx ρ1=>exact a6j h k ρ1 fl h2 e
   |ct ρ1=>exact a6j h k ρ1 fl h2 e
   |bk ρ1=>cases e;exact⟨rfl,h2⟩
   |rt r=>cases e;exact⟨rfl,trivial⟩
theorem T8{i:Nat}{m m':M}(h:∀ρ r,At0 c ρ->m ρ=ξ r->m' ρ=ξ r):Sm c (i9 (i+1) m) (i9 (i+1) m'):=λρ fl a e=>by
 unfold i9 at e ⊢;obtain⟨r,e1,e⟩:=bind_some e;rw [h ρ r a e1,AS];split at e
 ·rename_i q;cases e;exact⟨by rw [if_pos q],a.set _ _⟩
 ·cases e
theorem a8B{i:Nat}{n n':MS}(h:Sm c n n'):Sm c (S3 (i+1) n) (S3 (i+1) n'):=λρ fl a e=>by
 unfold S3 at e ⊢;split at e
 ·exact h _ fl (a.set _ _) e
 ·exact h ρ fl a e
theorem b9X{i:Nat}{m:M}:Sm c (C3 (i+1) m) (C3 (i+1) m):=λρ fl a e=>by
 refine⟨e, ?_⟩;unfold C3 at e;obtain⟨r,_,e⟩:=bind_some e;obtain⟨p,_,e⟩:=bind_some e;split at e
 ·split at e
  ·cases e;exact a.set _ _
  ·cases e
 ·cases e
theorem b7z{i:Nat}{m n:M}:Sm c (O8 (i+1) m n) (O8 (i+1) m n):=λρ fl a e=>by
 refine⟨e, ?_⟩;unfold O8 at e;obtain⟨p,_,e⟩:=bind_some e;obtain⟨k,_,e⟩:=bind_some e;unfold b3S at e;split at e
 ·split at e
  ·cases e;exact a.set _ _
  ·cases e
 ·cases e
theorem b9Y{i:Nat}{g:d7->d7->Option d7}{m:M}:Sm c (a8i (i+1) g m) (a8i (i+1) g m):=λρ fl a e=>by
 refine⟨e, ?_⟩;unfold a8i at e;split at e
 ·obtain⟨r,_,e⟩:=bind_some e;obtain⟨p,_,e⟩:=bind_some e;split at e
  ·cases e;exact a.set _ _
  ·cases e
 ·cases e
theorem a8C:Sm c F8 F8:=λρ fl a e=>by cases e;exact⟨rfl,a⟩
theorem b19{i:Nat}:Sm c (U1 i) (U1 i):=λρ fl a e=>by
 refine⟨e, ?_⟩;unfold U1 at e;split at e
 ·cases e;trivial
 ·cases e
theorem b5E{k:Nat}{b b':MS}{ps:List PV}{r:d7}(h:Sm c b b')(e:A4 k b (c::ps)=ξ r):A4 k b' (c::ps)=ξ r:=by
 unfold A4 at e ⊢;obtain⟨f,e1,e⟩:=bind_some e;obtain⟨h1,_⟩:=h _ f (show At0 c _ from by unfold At0;rfl) e1
 rw [h1,AS];exact e
end
def wwA(R:List PV->Option d7):MS:=
 (g9 (i9 7 (m2 b1A (m2 N3 (a7 3) (a7 5)) (X8 (a5 (a7 6) d6))))
 (g9 (S3 7 (i9 8 (i3 m5 (a5 (i3 y9 (a5 (a7 2) (a5 (a7 7) d6))) d6))))
 (U7 (mtB (a4d true 4 (a7 8))) (g9 (O8 4 (a7 8) (mC (.bool true)))
 (S3 7 (U7 (mtB (m2 b6K (i3 R (a5 (a7 0) (a5 (a7 7) d6))) (a7 1))) (S3 7 (C3 3 (a7 7))) F8))) F8)))
def wwB(R:List PV->Option d7):MS:=
 (g9 (M4 (M5 (i3 l6 (a5 (a7 2) d6))) (j6 6) (wwA R))
 (a8i 5 (gI λi j=> .int (i+j)) (mC (.int 1))))
def wwC(R:List PV->Option d7):MS:=
 (g9 (i9 2 (m1 C2 (a7 0)))
 (g9 (i9 3 (X8 (a5 (X8 d6) d6)))
 (g9 (i9 4 (a5B (i3 m5 (a5 (i3 y9 (a5 (a7 2) (a5 (X8 d6) d6))) d6)) (mC (.bool true))))
 (g9 (i9 5 (mC (.int 0)))
 (g9 (Q8 (mtB (m2 a6H (a7 5) (m1 C2 (a7 3)))) (wwB R) 100)
 (U1 3))))))
def gWw(R:List PV->Option d7):List PV->Option d7:=A4 7 (wwC R)
def bgA(R:List PV->Option d7):MS:=
 (g9 (i9 5 (i3 y6 (a5 (m1 C2 (a7 0)) (a5 (a7 4) d6))))
 (g9 (i9 6 (i3 R (a5 (a7 0) (a5 (a7 4) d6))))
 (U7 (b4L (mtB (m2 (gI λi j=> .bool (decide (j<i))) (m1 C2 (a7 5)) (m1 C2 (a7 2)))) (b4K (mtB (m2 gEq (m1 C2 (a7 5)) (m1 C2 (a7 2)))) (mtB (m2 a6H (a7 6) (a7 3))))) (g9 (S3 5 (i9 2 (a7 5)))
 (i9 3 (a7 6))) F8)))
def bgB(R:List PV->Option d7):MS:=
 (g9 (i9 2 (X8 d6))
 (g9 (i9 3 (mC (.int 0)))
 (g9 (M4 (M5 (i3 (gWw R) (a5 (a7 0) (a5 (a7 1) d6)))) (j6 4) (bgA R))
 (U1 2))))
def gBg(R:List PV->Option d7):List PV->Option d7:=A4 5 (bgB R)
theorem b4g:gBg i8=q4:=rfl
section
variable {c:PV}{R R':List PV->Option d7}(h:∀w r,R [c,w]=ξ r->R' [c,w]=ξ r)
include h
theorem a7W{j:Nat}{ρ:b9}{r:d7}(a:At0 c ρ)(e:i3 R (a5 (a7 0) (a5 (a7 j) d6)) ρ=ξ r):i3 R' (a5 (a7 0) (a5 (a7 j) d6)) ρ=ξ r:=by
 unfold i3 at e ⊢;obtain⟨qs,e1,e⟩:=bind_some e;rw [e1,AS];unfold a5 at e1;obtain⟨p,e2,e1⟩:=bind_some e1;obtain⟨r0,e3,e2⟩:=bind_some e2;unfold a7 at e3;rw [a] at e3;cases e3;cases e2;obtain⟨ps,e4,e1⟩:=bind_some e1;cases e1;obtain⟨q,e5,e4⟩:=bind_some e4;obtain⟨ps',e6,e4⟩:=bind_some e4;cases e6;cases e4;exact h _ _ e
theorem c1h:Sm c (wwC R) (wwC R'):=by
 unfold wwC;refine M7 (T8 λ_ _ _ e=>e) (M7 (T8 λ_ _ _ e=>e) (M7 (T8 λ_ _ _ e=>e) (M7 (T8 λ_ _ _ e=>e) (M7 (a6j ?_ _) b19))));unfold wwB;refine M7 (b9Z ?_) b9Y;unfold wwA;refine M7 (T8 λ_ _ _ e=>e) (M7 (a8B (T8 λ_ _ _ e=>e)) (b5D (λ_ _ _ e=>e) (M7 b7z (a8B (b5D ?_ (a8B b9X) a8C))) a8C));intro ρ b a e;unfold mtB m2 at e ⊢;obtain⟨z,e1,e⟩:=bind_some e;obtain⟨r,e2,e1⟩:=bind_some e1;rw [a7W h a e2,AS,e1,AS];exact e
theorem c1g:Sm c (bgB R) (bgB R'):=by
 unfold bgB;refine M7 (T8 λ_ _ _ e=>e) (M7 (T8 λ_ _ _ e=>e) (M7 ?_ b19));intro ρ fl a e;unfold M4 at e ⊢;obtain⟨ps,e1,e⟩:=bind_some e;have e1':M5 (i3 (gWw R') (a5 (a7 0) (a5 (a7 1) d6))) ρ=ξ ps:=by
  unfold M5 at e1 ⊢;obtain⟨p,e2,e1⟩:=bind_some e1;obtain⟨r,e3,e2⟩:=bind_some e2;have:i3 (gWw R') (a5 (a7 0) (a5 (a7 1) d6)) ρ=ξ r:=a7W (R:=gWw R) (λw r e=>b5E (c1h h) e) a e3;rw [this,AS,e2,AS];exact e1
 rw [e1',AS];refine a4I ?_ ps ρ fl a e;unfold bgA;refine M7 (T8 λ_ _ _ e=>e) (M7 (T8 λ_ _ a e=>a7W h a e) (b5D (λ_ _ _ e=>e) (M7 (a8B (T8 λ_ _ _ e=>e)) (T8 λ_ _ _ e=>e)) a8C))
theorem b7Y{ps:List PV}{r:d7}(e:gBg R (c::ps)=ξ r):gBg R' (c::ps)=ξ r:=b5E (c1g h) e
end
abbrev tr(x:Str×Int×Int):PV:= .tuple [.str x.1,.int x.2.1,.int x.2.2]
def RkW(L:List (Str×Int×Int))(w:PV):Option d7:=match w with
 | .list []=>ξ (.v (.int 0))
 | .list [.tuple [.str s,.int d,.int t]]=>if decide ((s,d,t)∈L)=true then ξ (.v (.int 0)) else ζ
 |_=>ζ
def Rk(L:List (Str×Int×Int))(qs:List PV):Option d7:=match qs with
 |[_,w]=>RkW L w
 |_=>ζ
def lw:List (Str×Int×Int):=[("back",0,0),("back",0,1),("back",1,1),("flip",0,1),("flip",1,0),("flip",1,1)]
def b4a:List PV:=[tr ("back",0,0),tr ("cross",0,0)]
def b4b:List PV:=[tr ("back",0,0),tr ("back",0,1),tr ("cross",0,0)]
def c1u:List Str:=["back","cross","flip","half","other","side","stay","turn"]
def mvK(n:Nat):List PV:=c1u.flatMap λw=>(AZ n).flatMap λ(d:Nat)=>(AZ n).map λ(t:Nat)=>tr (w,(d:Int),(t:Int))
theorem bg1(x:PV)(m:Nat):gBg (Rk []) [.tuple [x],.int (m:Nat)]=ξ (.v (.list (mvK 1))):=by
 ext h
 kernel_rfl
theorem bg2(x y:PV)(m:Nat):gBg (Rk lw) [.tuple [x,y],.int (m:Nat)]=ξ (.v (.list (mvK 2))):=by
 ext h
 kernel_rfl
theorem fw1:L3 [.int 1,.list (mvK 1)]=ξ (.own b4a):=by
 ext a
 kernel_rfl
theorem fw2:L3 [.int 2,.list (mvK 2)]=ξ (.own b4b):=by
 ext a
 kernel_rfl
def isZ(r:Option d7):Bool:=match r with
 |some (.v (.int i))=>decide (i=0)
 |_=>false
theorem b0E{r:Option d7}(h:isZ r=true):r=ξ (.v (.int 0)):=by
 unfold isZ at h;split at h
 ·rw [of_decide_eq_true h]
 ·cases h
def isY(r:Option d7):Bool:=match r with
 |some (.v (.bool b))=>b
 |_=>false
theorem b4s{r:Option d7}(h:isY r=true):r=ξ (.v (.bool true)):=by
 unfold isY at h;split at h
 ·rw [h]
 ·cases h
def b6R(c:PV)(r:Option d7):Bool:=match r with
 |some (.v (.tuple [a,b,d]))=>isY (gEq (.v a) (.v c))&& isY (gEq (.v b) (.own []))
 |_=>false
theorem b1G{c:PV}{r:Option d7}(h:b6R c r=true):∃a b d,r=ξ (.v (.tuple [a,b,d]))/\gEq (.v a) (.v c)=ξ (.v (.bool true))/\gEq (.v b) (.own [])=ξ (.v (.bool true)):=by
 unfold b6R at h;split at h
 ·rw [Bool.and_eq_true] at h;exact⟨_,_,_,rfl,b4s h.1,b4s h.2⟩
 ·cases h
abbrev cc(n k:Nat):PV:= .tuple (AO n (row (AO n (97+k))))
theorem c1F:((AZ 26).all λk=>isZ (i8 [cc 1 k,.list []])&& b6R (cc 1 k) (G8 [cc 1 k,.list b4a]))=true:=by
 ext a
 decide+kernel
theorem c1G:((AZ 26).all λk=>isZ (i8 [cc 2 k,.list []])&&(lw.all λx=>isZ (i8 [cc 2 k,.list [tr x]]))&& b6R (cc 2 k) (G8 [cc 2 k,.list b4b]))=true:=by
 ext a
 decide+kernel
def b6b(n:MX):FX->Option FX
 | .fl (.nx ρ)=>n ρ
 |f=>ξ f
def c0s(m n:MX)(ρ:b9)(b:Bool):Option FX:=if b=true then m ρ else n ρ
def b5u:FX->Option (d7 ⊕ XT)
 | .fl (.rt r)=>ξ (.inl r)
 | .fl (.nx _)=>ξ (.inl (.v .none))
 | .rz c _=>ξ (.inr c)
 |_=>ζ
theorem a3E(m n:MX)(ρ:b9):b1U m n ρ=(m ρ).bind (b6b n):=Eq.trans rfl rfl
theorem a6v(n:MX)(ρ:b9):b6b n (.fl (.nx ρ))=n ρ:=Eq.trans rfl rfl
theorem b6c(n:MX)(c:XT)(ρ:b9):b6b n (.rz c ρ)=ξ (.rz c ρ):=Eq.trans rfl rfl
theorem a5H(c:MT)(m n:MX)(ρ:b9):b9g c m n ρ=(c ρ).bind (c0s m n ρ):=Eq.trans rfl rfl
theorem c0t(m n:MX)(ρ:b9):c0s m n ρ true=m ρ:=Eq.trans rfl rfl
theorem b59(m n:MX)(ρ:b9):c0s m n ρ false=n ρ:=Eq.trans rfl rfl
theorem a5I(m:MS)(ρ:b9):a6L m ρ=(m ρ).map .fl:=Eq.trans rfl rfl
theorem a57(n:Nat)(b:MX)(ps:List PV):b5t n b ps=(b (ps.map (λp=>ξ (d7.v p))++AO n ζ)).bind b5u:=Eq.trans rfl rfl
theorem a9Z(r:d7):b5u (.fl (.rt r))=ξ (.inl r):=Eq.trans rfl rfl
theorem b5v(c:XT)(ρ:b9):b5u (.rz c ρ)=ξ (.inr c):=Eq.trans rfl rfl
theorem b64{g:List PV->Option (d7 ⊕ XT)}{m:MA}{ρ:b9}{ps:List PV}{c:XT}(h1:m ρ=ξ ps)(h2:g ps=ξ (.inr c)):a7n g m ρ=ξ (.rz c ρ):=by
 unfold a7n b3M;rw [h1,AS,h2]
 rfl
theorem b2Z{b:MX}{i:Nat}{inm:Str->Bool}{hd:MS}{ρ ρ':b9}{c:XT}(h:b ρ=ξ (.rz c ρ'))(hc:inm c.cls=true):a3C b i inm hd ρ=(hd (ρ'.set i (ξ (.v (xcV c))))).map (a74 i):=by
 unfold a3C;rw [h,AS];exact if_pos hc
theorem b63(l:List Nat){k:Nat}(h:k<=100)(hl:l.length<=100):K7 (.v (row l)) (.v (.int (k:Nat)))=ξ (.v (row (AO k l).flatten)):=by
 show(if okC (λk n=>0<=k/\k<=1000000/\n*k<=16777216) (k:Nat) (S l).length=true then ξ (d7.v (.str ⟨(AO (k:Int).toNat (S l).cps.toList).flatten.toArray⟩)) else ζ)=_
 have hm:l.length*k<=100*100:=Nat.mul_le_mul hl h;have e:((l.length:Nat):Int)*((k:Nat):Int)=((l.length*k:Nat):Int):=by rw [Int.natCast_mul]
 rw [if_pos (U9.mpr ⟨by lia,by lia,by rw [b1l,e];lia⟩),b7V]
 rfl
theorem a63{ns:List Int}{k:Int}(h0:0<=k):∃c:Int,L4 [.list (ns.map .int),.int k]=ξ (.v (.int c)):=by
 unfold L4 a18
 by_cases h:k<ns.length
 ·have hk:k.toNat<ns.length:=by lia
  have e:L2.atI (ns.map PyData.int) k=ξ (.int ns[k.toNat]):=by
   rw [a3n h0,Ag,Ai hk];rfl
  refine⟨ns[k.toNat], ?_⟩;simp! [b4j,Q5,E8,T2,v3,C0,z9,O9,X2,U8,a0L,AS,AQ,Aq,Au,Ad,AV,a0f e];simp only [h,decide_true];simp! [E8,v3,C0,P0,a1w,b7t,b1D,a0M,AS,a0f e]
 ·refine⟨0, ?_⟩;simp! [b4j,Q5,E8,T2,v3,C0,z9,O9,X2,U8,a0L,AS,AQ,Aq,Au,Ad,AV];simp only [h,decide_false];simp! [K0,P0,a1w,F9,a38,E6,a0M,AS]
theorem b7w(cs:List Int)(lo hi:Option Int):gSl (.v (.list (cs.map .int))) lo hi=ξ (.own ((cut cs lo hi).map .int)):=by
 show ξ _=_;rw [show cut (cs.map PyData.int) lo hi=(cut cs lo hi).map PyData.int by unfold cut;rw [AV,List.map_take,List.map_drop]]
theorem b3q(k:Int):a1i [.int k]=ξ (.v (.bool true)):=rfl
abbrev tlX(k:Int):XT:=⟨"TooLarge",[(.str "many",.int k)]⟩
theorem b4B{n:Nat}(hn:4<=n)(hn8:n<=8)(f:Nat->Nat->Nat)(p:PV):j8 [a41 n f,p]=ξ (.inr (tlX ((n:Int)*n))):=by
 have gt:decide ((3:Int)<(n:Int))=true:=by rw [decide_eq_true_iff];lia
 have rz:b1T "TooLarge" ["many"] (a5 (m2 K7 (a7 2) (a7 2)) d6) [ξ (.v (a41 n f)),ξ (.v p),ξ (.v (.int (n:Int))),ζ,ζ]=ξ (.rz (tlX ((n:Int)*n)) [ξ (.v (a41 n f)),ξ (.v p),ξ (.v (.int (n:Int))),ζ,ζ]):=by
  unfold b1T;simp! [U5,E8,v3,C0,v8,o0,t6,AS]
  rfl
 unfold j8 B4 t7;simp! [a76,E8,T2,K0,v3,C0,B0,P8,U8,a0L,AS,Az,AQ,Aq,Al,Au,Av,As,An,Ao,a57,a3E,a5I,a5H,a84,gt,a6v,c0t,rz,b6c,b5v]
theorem b4A{n:Nat}(hn:4<=n)(hn8:n<=8)(f:Nat->Nat->Nat)(p:PV):Y3 [a41 n f,p]=ξ (.v (.bool true)):=by
 have tr:a3C (a7n j8 (a5 (a7 0) (a5 (a7 1) d6))) 3 (inL ["TooLarge"]) (i9 2 (a7 3)) [ξ (.v (a41 n f)),ξ (.v p),ξ (.v .none),ζ]=ξ (.nx [ξ (.v (a41 n f)),ξ (.v p),ξ (.v (xcV (tlX ((n:Int)*n)))),ζ]):=by
  rw [b2Z (b64 (ps:=[a41 n f,p]) (by simp! [v3,C0,v8,o0,t6,AS]) (b4B hn hn8 f p)) (show inL ["TooLarge"] "TooLarge"=true by decide+kernel)]
  rfl
 have i1:b6I [("TooLarge",true)] (.v (xcV (tlX ((n:Int)*n))))=ξ (.v (.bool true)):=by rfl
 have i4:gFx ["TooLarge"] "many" (.v (xcV (tlX ((n:Int)*n))))=ξ (.v (.int ((n:Int)*n))):=by rfl
 have eq:gEq (.v (.int ((n:Int)*n))) (.v (.int ((n:Int)*n)))=ξ (.v (.bool true)):=by rw [a69];simp
 unfold Y3 a32;generalize xcV (tlX ((n:Int)*n))=X at*;simp! [U5,E8,T2,K0,v3,C0,v8,o0,t6,E5,B0,P8,P0,a1w,z9,F9,O9,a38,E6,X2,a0M,a8m,b5O,a3D,b4M,c04,a9z,b3I,AS,Az,AQ,Aq,Al,Au,Av,As,An,Ao,Bool.not_true,tr,i1,i4,b3q,a84,eq]
theorem b7U{c:PV}{L:List (Str×Int×Int)}(h0:i8 [c,.list []]=ξ (.v (.int 0)))(h1:∀x∈L,i8 [c,.list [tr x]]=ξ (.v (.int 0))):∀w r,Rk L [c,w]=ξ r->i8 [c,w]=ξ r:=by
 intro w r e;have e:RkW L w=ξ r:=e;unfold RkW at e;split at e
 ·cases e;exact h0
 ·rename_i s d t _;split at e
  ·rename_i hm;cases e;exact h1 (s,d,t) (of_decide_eq_true hm)
  ·cases e
 ·cases e
theorem b90{k:Nat}(hk:k<26)(m:Nat):∃few a b d,j8 [cc 1 k,.int (m:Nat)]=ξ (.inl (.v (.tuple [few,.int 8,.tuple [a,b,d]])))/\gEq (.v a) (.v (cc 1 k))=ξ (.v (.bool true))/\gEq (.v b) (.own [])=ξ (.v (.bool true)):=by
 have h:=List.all_eq_true.mp c1F k (List.mem_range.mpr hk);rw [Bool.and_eq_true] at h;obtain⟨a,b,d,e1,e2,e3⟩:=b1G h.2;have bg:q4 [cc 1 k,.int (m:Nat)]=ξ (.v (.list (mvK 1))):=by
  rw [<-b4g];exact b7Y (b7U (L:=[]) (b0E h.1) (λx hx=>nomatch hx)) (bg1 _ m)
 have gl:C2 (.v (cc 1 k))=ξ (.v (.int 1)):=rfl;have gl2:C2 (.v (.list (mvK 1)))=ξ (.v (.int 8)):=by rfl
 refine⟨.list b4a,a,b,d, ?_,e2,e3⟩;unfold j8 B4 t7;generalize cc 1 k=c at*;have g3:decide ((3:Int)<1)=false:=rfl;have z3:∀nn:MS,S3 3 nn [ξ (.v c),ξ (.v (.int (m:Nat))),ξ (.v (.int 1)),ξ (.v (.list (mvK 1))),ζ]=nn [ξ (.v c),ξ (.v (.int (m:Nat))),ξ (.v (.int 1)),ξ (.v (.list (mvK 1))),ζ]:=λ_=>rfl;have z4:∀nn:MS,S3 4 nn [ξ (.v c),ξ (.v (.int (m:Nat))),ξ (.v (.int 1)),ξ (.v (.list (mvK 1))),ξ (.own b4a)]=nn [ξ (.v c),ξ (.v (.int (m:Nat))),ξ (.v (.int 1)),ξ (.v (.list (mvK 1))),ξ (.v (.list b4a))]:=λ_=>rfl;simp! [a76,E8,T2,K0,v3,C0,v8,o0,t6,a9D,E5,B0,P8,a7R,P0,a1w,z9,F9,E6,U8,a0L,AS,Az,AQ,Aq,Al,Au,Av,As,An,Ao,AY,Aw,↓reduceIte,sz,Nat.reduceAdd,BI,a57,a3E,a5I,a5H,gl,g3,a6v,b59,bg,z3,fw1,z4,gl2,e1,a9Z]
theorem b91{k:Nat}(hk:k<26)(m:Nat):∃few a b d,j8 [cc 2 k,.int (m:Nat)]=ξ (.inl (.v (.tuple [few,.int 32,.tuple [a,b,d]])))/\gEq (.v a) (.v (cc 2 k))=ξ (.v (.bool true))/\gEq (.v b) (.own [])=ξ (.v (.bool true)):=by
 have h:=List.all_eq_true.mp c1G k (List.mem_range.mpr hk);rw [Bool.and_eq_true,Bool.and_eq_true] at h;obtain⟨⟨h0,h1⟩,h2⟩:=h;obtain⟨a,b,d,e1,e2,e3⟩:=b1G h2;have bg:q4 [cc 2 k,.int (m:Nat)]=ξ (.v (.list (mvK 2))):=by
  rw [<-b4g];exact b7Y (b7U (L:=lw) (b0E h0) (λx hx=>b0E (List.all_eq_true.mp h1 x hx))) (bg2 _ _ m)
 have gl:C2 (.v (cc 2 k))=ξ (.v (.int 2)):=rfl;have gl2:C2 (.v (.list (mvK 2)))=ξ (.v (.int 32)):=by rfl
 refine⟨.list b4b,a,b,d, ?_,e2,e3⟩;unfold j8 B4 t7;generalize cc 2 k=c at*;have g3:decide ((3:Int)<2)=false:=rfl;have z3:∀nn:MS,S3 3 nn [ξ (.v c),ξ (.v (.int (m:Nat))),ξ (.v (.int 2)),ξ (.v (.list (mvK 2))),ζ]=nn [ξ (.v c),ξ (.v (.int (m:Nat))),ξ (.v (.int 2)),ξ (.v (.list (mvK 2))),ζ]:=λ_=>rfl;have z4:∀nn:MS,S3 4 nn [ξ (.v c),ξ (.v (.int (m:Nat))),ξ (.v (.int 2)),ξ (.v (.list (mvK 2))),ξ (.own b4b)]=nn [ξ (.v c),ξ (.v (.int (m:Nat))),ξ (.v (.int 2)),ξ (.v (.list (mvK 2))),ξ (.v (.list b4b))]:=λ_=>rfl;simp! [a76,E8,T2,K0,v3,C0,v8,o0,t6,a9D,E5,B0,P8,a7R,P0,a1w,z9,F9,E6,U8,a0L,AS,Az,AQ,Aq,Al,Au,Av,As,An,Ao,AY,Aw,↓reduceIte,sz,Nat.reduceAdd,BI,a57,a3E,a5I,a5H,gl,g3,a6v,b59,bg,z3,fw2,z4,gl2,e1,a9Z]
theorem b4D{cs:List Int}{ls:List Nat}(hls:0<ls.length)(hcs:cs.length<100){i:Nat}(hi:i<cs.length){A:Int}(hA:0<=A)(s0 s2:Option d7){s3 s4:d7}(h3:s3= .ow (.lst (ls.map λx=>row [x]))\/s3= .v (.list (ls.map λx=>row [x])))(h4:s4= .ow (.lst (cs.map .int))\/s4= .v (.list (cs.map .int)))(q6 q7 q8 q9 q10 q11:Option d7):∃a6,
 a2V [s0,ξ (.v (.int A)),s2,ξ s3,ξ s4,ξ (.v (.int (i:Nat))),q6,q7,q8,q9,q10,q11]=ξ (.nx [s0,ξ (.v (.int A)),s2,ξ (.v (.list (ls.map λx=>row [x]))),ξ (.v (.list (cs.map .int))),ξ (.v (.int (i:Nat))),a6,q7,q8,q9,q10,q11]):=by
 obtain⟨c,hc⟩:∃c:Int,cs[i]?=ξ c:=⟨cs[i],Ai hi⟩
 have ix1:N3 (.bo (.lst (cs.map .int))) (.v (.int (i:Nat)))=ξ (.v (.int c)):=b6J (by rw [b7W,Ag,hc];rfl)
 have ix2:N3 (.v (.list (cs.map .int))) (.v (.int (i:Nat)))=ξ (.v (.int c)):=a0f (by rw [b7W,Ag,hc];rfl)
 have xm:=a1S (c:=c) (k:=(i:Int)+70) (by lia)
 have nb:=b0V c ((i:Int)+70)
 generalize a5G c ((i:Int)+70)=N at xm nb
 obtain⟨n,en,hn,hn8⟩:∃n:Nat,4+(A+(i:Int)) % 5=(n:Int)/\4<=n/\n<=8:=⟨(4+(A+(i:Int)) % 5).toNat,by lia,by lia,by lia⟩
 obtain⟨f,_,ef⟩:=b3N (cs:=cs) (by lia) (ls:=ls) hls (n:=n) (by lia) hn8 (N / 7)
 have lg:=b4A hn hn8 f (.int (N % 10))
 refine⟨ξ (.v (.int N)), ?_⟩
 unfold a2V
 have z3:∀(nn:MS) (q6:Option d7),S3 3 nn [s0,ξ (.v (.int A)),s2,ξ s3,ξ s4,ξ (.v (.int (i:Nat))),q6,q7,q8,q9,q10,q11]=nn [s0,ξ (.v (.int A)),s2,ξ (.v (.list (ls.map λx=>row [x]))),ξ s4,ξ (.v (.int (i:Nat))),q6,q7,q8,q9,q10,q11]:=λnn q6=>by
  rcases h3 with rfl|rfl<;>rfl
 have z4:∀(nn:MS) (q6:Option d7),S3 4 nn [s0,ξ (.v (.int A)),s2,ξ (.v (.list (ls.map λx=>row [x]))),ξ s4,ξ (.v (.int (i:Nat))),q6,q7,q8,q9,q10,q11]=nn [s0,ξ (.v (.int A)),s2,ξ (.v (.list (ls.map λx=>row [x]))),ξ (.v (.list (cs.map .int))),ξ (.v (.int (i:Nat))),q6,q7,q8,q9,q10,q11]:=λnn q6=>by
  rcases h4 with rfl|rfl<;>rfl
 rcases h4 with rfl|rfl
 ·simp! [O6,O7,a5k,E8,K0,v3,a8j,C0,v8,o0,t6,E5,B0,P8,z9,F9,O9,a38,E6,a8m,b5O,a3D,AS,Az,An,Ao,Bool.not_true,ix1,xm,z3,z4,en,ef,lg]
 ·simp! [O6,O7,a5k,E8,K0,v3,C0,v8,o0,t6,E5,B0,P8,z9,F9,O9,a38,E6,a8m,b5O,a3D,AS,Az,An,Ao,Bool.not_true,ix2,xm,z3,z4,en,ef,lg]
theorem main:∀ns:List Int,ns.length<=63->b1C [.list (ns.map .int)]=ξ (.v (.bool true)):=by
 intro ns hl;obtain⟨c0,hc0⟩:=a63 (ns:=ns) (k:=0) (by lia)
 obtain⟨c1,hc1⟩:=a63 (ns:=ns) (k:=1) (by lia)
 have x0:=a1S (c:=c0) (k:=0) (by lia)
 have x1:=a1S (c:=c1) (k:=1) (by lia)
 have b0:=b0V c0 0;have b1:=b0V c1 1;generalize a5G c0 0=A at x0 b0;generalize a5G c1 1=B at x1 b1;obtain⟨j,ej,hj⟩:∃j:Nat,1+B / 26 % 5=(j:Int)/\0<j/\j<10:=⟨(1+B / 26 % 5).toNat,by lia,by lia,by lia⟩
 obtain⟨ls,hls,hlr,els⟩:=a9y B (m:=j) (by lia)
 have hcut:(cut ns (ξ 2) (ξ 10)).length<=ns.length:=b1p _ _ _;have gs:=b7w ns (ξ 2) (ξ 10);have cat:Q4 (.own ((cut ns (ξ 2) (ξ 10)).map .int)) (.own [.int (ns.length:Int)])=ξ (.own ((cut ns (ξ 2) (ξ 10)++[(ns.length:Int)]).map .int)):=by
  rw [b6G (by rw [AV,sizeLine_eq];simp only [AY,Aw];lia),BD]
  rfl
 have hcs:(cut ns (ξ 2) (ξ 10)++[(ns.length:Int)]).length<100:=by rw [Am,List.length_singleton];lia
 have hcp:0<(cut ns (ξ 2) (ξ 10)++[(ns.length:Int)]).length:=by rw [Am,List.length_singleton];lia
 generalize cut ns (ξ 2) (ξ 10)++[(ns.length:Int)]=cs at cat hcs hcp;obtain⟨ρ1,e1,s3,s4,q5,q6,h3,h4,rfl⟩:=a3s (body:=a2V) (tg:=j6 5) (λi ρ=>∃(s3 s4:d7) (q5 q6:Option d7),((s3= .ow (.lst (ls.map λx=>row [x]))/\i=0)\/s3= .v (.list (ls.map λx=>row [x])))/\(s4= .ow (.lst (cs.map .int))\/s4= .v (.list (cs.map .int)))/\ρ=[ξ (.v (.list (ns.map .int))),ξ (.v (.int A)),ξ (.v (.int B)),ξ s3,ξ s4,q5,q6,ζ,ζ,ζ,ζ,ζ])
  (ps:=a01 0 cs.length) (ρ:=[ξ (.v (.list (ns.map .int))),ξ (.v (.int A)),ξ (.v (.int B)),ξ (.own (ls.map λx=>row [x])),ξ (.own (cs.map .int)),ζ,ζ,ζ,ζ,ζ,ζ,ζ])
  (by
   rintro i p hp ρ ⟨s3,s4,q5,q6,h3,h4,rfl⟩;obtain⟨rfl,hi⟩:=a8z hp;have hi':(0:Int)+(i:Int)=(i:Int):=by lia
   rw [hi'] at hi ⊢;obtain⟨a6,e⟩:=b4D (cs:=cs) (ls:=ls) (by lia) hcs (i:=i) (by lia) b0.1 (ξ (.v (.list (ns.map .int)))) (ξ (.v (.int B))) (h3.imp And.left id) h4 q6 ζ ζ ζ ζ ζ
   exact b7B rfl e ⟨_,_,_,_,.inr rfl,.inr rfl,rfl⟩) ⟨_,_,ζ,ζ,.inl ⟨rfl,rfl⟩,.inl rfl,rfl⟩
 rw [a0k] at h3;have h3:s3= .v (.list (ls.map λx=>row [x])):=by
  rcases h3 with⟨_,z⟩|h
  ·lia
  ·exact h
 subst h3;have gc:C2 (.bo (.lst (cs.map .int)))=ξ (.v (.int cs.length)):=by
  show ξ _=_;rw [AV]
 obtain⟨x,hx0⟩:∃x,ls[0]?=ξ x:=⟨ls[0],Ai (by lia)⟩
 obtain⟨hx1,hx2⟩:=hlr x (BC hx0);obtain⟨k,rfl,hk⟩:∃k:Nat,x=97+k/\k<26:=⟨x - 97,by lia,by lia⟩
 obtain⟨m,em⟩:∃m:Nat,B % 10=(m:Int):=⟨(B % 10).toNat,by lia⟩
 have i0:N3 (.v (.list (ls.map λx=>row [x]))) (.v (.int 0))=ξ (.v (row [97+k])):=a0f (by rw [a3n (Int.le_refl 0),Ag];show(ls[0]?).map _=_;rw [hx0];rfl)
 have fin:∀(n:Nat) (N8:Int),0<n->n<=2->(1+A / 5 % 2=(n:Int))->N8=8*(n:Int)*n->(∃few a b d,j8 [cc n k,.int (m:Nat)]=ξ (.inl (.v (.tuple [few,.int N8,.tuple [a,b,d]])))/\gEq (.v a) (.v (cc n k))=ξ (.v (.bool true))/\gEq (.v b) (.own [])=ξ (.v (.bool true)))->b1C [.list (ns.map .int)]=ξ (.v (.bool true)):=by
  intro n N8 hn hn2 en e8 ⟨few,a,b,d,eb,ea,ec⟩;have cm:S2 1 (P7 (a5 (a7 7) d6)) (j6 12) a0i a5w [ξ (.v (.list (ns.map .int))),ξ (.v (.int A)),ξ (.v (.int B)),ξ (.v (.list (ls.map λx=>row [x]))),ξ s4,q5,q6,ξ (.v (.int (n:Int))),ζ,ζ,ζ,ζ]=ξ (.own ((AZ n).map λ_=>row (AO n (97+k)))):=by
   refine a7j (ι:=λk:Nat=>PyData.int (k:Int)) (f:=λ_:Nat=>row (AO n (97+k))) (AZ n) (a7k (n:=n) rfl (by lia)) (by rw [BE];lia) ?_
   intro r hr;refine⟨_,rfl, ?_⟩;unfold a5w;have hm:=b63 [97+k] (k:=n) (by lia) (by simp)
   have hf:(AO n [97+k]).flatten=AO n (97+k):=by
    have:n=1\/n=2:=by lia
    rcases this with rfl|rfl<;>rfl
   rw [hf] at hm;simp! [E8,K0,v3,C0,t6,AS,Al,Au,Av,As,An,Ao,i0,hm]
  have ct:a0F (.own ((AZ n).map λ_=>row (AO n (97+k))))=ξ (.v (cc n k)):=by
   have:n=1\/n=2:=by lia
   rcases this with rfl|rfl<;>rfl
  have lf:left j8 [cc n k,.int (m:Nat)]=ξ (.v (.tuple [few,.int N8,.tuple [a,b,d]])):=by
   unfold left;rw [eb]
   rfl
  have j0:N3 (.v (.tuple [a,b,d])) (.v (.int 0))=ξ (.v a):=rfl;have j1:N3 (.v (.tuple [a,b,d])) (.v (.int 1))=ξ (.v b):=rfl;have q8:gEq (.v (.int N8)) (.v (.int (8*(n:Int)*n)))=ξ (.v (.bool true)):=by rw [a69,e8];simp
  generalize cc n k=c at*;have uk:c1r [9,10,11] [ξ (.v (.list (ns.map .int))),ξ (.v (.int A)),ξ (.v (.int B)),ξ (.v (.list (ls.map λx=>row [x]))),ξ s4,q5,q6,ξ (.v (.int (n:Int))),ξ (.v c),ζ,ζ,ζ] (.v (.tuple [few,.int N8,.tuple [a,b,d]]))=ξ (.nx [ξ (.v (.list (ns.map .int))),ξ (.v (.int A)),ξ (.v (.int B)),ξ (.v (.list (ls.map λx=>row [x]))),ξ s4,q5,q6,ξ (.v (.int (n:Int))),ξ (.v c),ξ (.v few),ξ (.v (.int N8)),ξ (.v (.tuple [a,b,d]))]):=rfl;unfold b1C b7X;simp! [O6,U5,O7,a5k,Q5,E8,T2,K0,v3,a8j,C0,v8,o0,t6,a9C,E5,B0,P8,a7R,P0,a1w,z9,F9,X2,a0M,a9z,b3I,b4I,a5C,a1R,a4H,AS,AQ,Aq,Al,Au,Av,As,An,Ao,AY,Aw,↓reduceIte,b0S,b0W,b6N,AV,sz,Nat.reduceAdd,BI,hc0,x0,hc1,x1,ej,els,gs,cat,gc,e1,en,cm,ct,em,lf,uk,j0,j1,q8,ea,ec]
 have:A / 5 % 2=0\/A / 5 % 2=1:=by lia
 rcases this with h|h
 ·exact fin 1 8 (by lia) (by lia) (by lia) (by lia) (b90 hk m)
 ·exact fin 2 32 (by lia) (by lia) (by lia) (by lia) (b91 hk m)
set_option maxHeartbeats 4000000
seal L2.PE L2.PS L2.PSs L2.PT L2.PW L2.PA L2.PG L2.PGs L2.PI
def X7(i:Nat):Stmt:=PySem.Challenge.pw_carpetkin_k95_bettered_refused.main.body.getD i (.Pass ⟨0,0,0,0⟩)
abbrev a1z:Stmt:=X7 52
theorem a3d:g6 ["_law_cell","_law_k"] ["_law_cell","_law_k"] (c7 a1z):=mkS
theorem a3G:List.Nodup (α:=Str) ["_law_seed","_law_many","_law_letters_here","_law_k"]:=by decide+kernel
abbrev Z9:Stmt:=X7 53
theorem a1E:g6 ["_law_seed","_law_many","_law_letters_here"] ["_law_seed","_law_many"] (c7 Z9):=mkS
theorem a3F:List.Nodup (α:=Str) ["found","circle"]:=by decide+kernel
abbrev Z7:Stmt:=X7 42
theorem a1C:g6 ["found"] ["found"] (c7 Z7):=mkS
abbrev T3:Stmt:=X7 12
theorem a0l:g6 ["side","movements","way","down","right"] ["side"] (c7 T3):=mkS
abbrev a2B:Stmt:=X7 13
theorem a4j:g6 ["way","place","lead"] ["way","place"] (c7 a2B):=mkS
abbrev b5y:Stmt:=X7 14
theorem b5A:g6 ["side","movement","place","found"] ["side","movement","place"] (c7 b5y):=mkS
abbrev E7:Stmt:=X7 18
theorem a1B:g6 ["n","movements","place","known","waiting","at","movement","come"] ["n","movements","place"] (c7 E7):=mkS
abbrev a6b:Stmt:=X7 19
theorem a7E:g6 ["n","leading","places_from","told","known","r","c","places","place"] ["n","leading","places_from"] (c7 a6b):=mkS
abbrev a3R:Stmt:=X7 20
theorem a6d:g6 ["n","movements"] ["n","movements"] (c7 a3R):=mkS
theorem a20:List.Nodup (α:=Str) ["n","colours","r","c"]:=by decide+kernel
abbrev X4:Stmt:=X7 21
theorem a00:g6 ["n","colours","r"] ["n","colours","r"] (c7 X4):=mkS
theorem a6M:List.Nodup (α:=Str) ["n","colours","r"]:=by decide+kernel
abbrev a2z:Stmt:=X7 22
theorem a4h:g6 ["n","colours"] ["n","colours"] (c7 a2z):=mkS
abbrev P3:Stmt:=X7 37
theorem X5:g6 ["side","paper","colours","circle","place"] ["side","paper"] (c7 P3):=mkS
abbrev a3T:Stmt:=X7 5
theorem a6f:g6 ["cloth"] ["cloth"] (c7 a3T):=mkS
abbrev a6c:Stmt:=X7 31
theorem a7F:g6 ["one","other","places","r","row","c","colour"] ["one","other"] (c7 a6c):=mkS
abbrev T6:Stmt:=X7 38
theorem a0o:g6 ["carpet","paper","come"] ["carpet","paper"] (c7 T6):=mkS
abbrev a0Q:Stmt:=X7 29
theorem a2g:g6 ["cloth"] ["cloth"] (c7 a0Q):=mkS
abbrev P4:Stmt:=X7 30
theorem X6:g6 ["cloth","knots","many","colour"] ["cloth"] (c7 P4):=mkS
theorem a2Y:List.Nodup (α:=Str) ["many_by_colour","most","colour"]:=by decide+kernel
theorem a2Z:List.Nodup (α:=Str) ["many_by_colour","most","colour"]:=by decide+kernel
abbrev X3:Stmt:=X7 34
theorem a0Z:g6 ["many_by_colour","most"] ["many_by_colour"] (c7 X3):=mkS
abbrev T4:Stmt:=X7 35
theorem a0m:g6 ["many_by_colour","liked","best"] ["many_by_colour","liked"] (c7 T4):=mkS
abbrev b06:Stmt:=X7 6
theorem b16:g6 ["carpet","r","c","side"] ["carpet","r","c"] (c7 b06):=mkS
theorem a6N:List.Nodup (α:=Str) ["carpet","places","place"]:=by decide+kernel
abbrev a2A:Stmt:=X7 33
theorem a4i:g6 ["carpet","places"] ["carpet","places"] (c7 a2A):=mkS
abbrev T5:Stmt:=X7 36
theorem a0n:g6 ["carpet","places","liked","many_by_colour","colour"] ["carpet","places","liked"] (c7 T5):=mkS
theorem a9H:List.Nodup (α:=Str) ["carpet","wish","found","places"]:=by decide+kernel
abbrev a59:Stmt:=X7 39
theorem a7C:g6 ["carpet","wish","found"] ["carpet","wish"] (c7 a59):=mkS
abbrev a0P:Stmt:=X7 43
theorem a2f:g6 ["carpet","wish"] ["carpet","wish"] (c7 a0P):=mkS
abbrev T7:Stmt:=X7 44
theorem a0p:g6 ["carpet","most","side","wishes","known","at","movement","wish","key"] ["carpet","most"] (c7 T7):=mkS
theorem a5J:List.Nodup (α:=Str) ["side","movement","circle_of","place"]:=by decide+kernel
abbrev a1x:Stmt:=X7 45
theorem a3b:g6 ["side","movement","circle_of"] ["side","movement","circle_of"] (c7 a1x):=mkS
theorem a4t:List.Nodup (α:=Str) ["side","wish","circle_of","number","circle","place","movement"]:=by decide+kernel
abbrev a0N:Stmt:=X7 46
theorem a2d:g6 ["side","wish","circle_of","number","circle","place"] ["side","wish"] (c7 a0N):=mkS
abbrev a0O:Stmt:=X7 47
theorem a2e:g6 ["carpet","most","best","fewest","wish","group","changes"] ["carpet","most"] (c7 a0O):=mkS
abbrev a2C:Stmt:=X7 15
theorem a4k:g6 ["one","other"] ["one","other"] (c7 a2C):=mkS
abbrev b07:Stmt:=X7 16
theorem b17:g6 ["side","one","other","shove"] ["side","one","other"] (c7 b07):=mkS
abbrev a3S:Stmt:=X7 24
theorem a6e:g6 ["side","few","known","waiting","at","movement","come"] ["side","few"] (c7 a3S):=mkS
abbrev a6a:Stmt:=X7 25
theorem a7D:g6 ["side","movements","places","few","known","place","movement"] ["side","movements"] (c7 a6a):=mkS
theorem a9G:List.Nodup (α:=Str) ["n","movements","listed","place"]:=by decide+kernel
abbrev a58:Stmt:=X7 27
theorem a7B:g6 ["n","movements","listed"] ["n","movements"] (c7 a58):=mkS
abbrev a2y:Stmt:=X7 48
theorem a4g:g6 ["carpet","most","side","group","few"] ["carpet","most"] (c7 a2y):=mkS
abbrev Z8:Stmt:=X7 50
theorem a1D:g6 ["_law_script","_law_k"] ["_law_script","_law_k"] (c7 Z8):=mkS
abbrev a1A:Stmt:=X7 51
theorem a3e:g6 ["_law_found"] ["_law_found"] (c7 a1A):=mkS
abbrev a1y:Stmt:=X7 55
theorem a3c:g6 ["_law_carpet_here","_law_most","_law_refused","e"] ["_law_carpet_here","_law_most"] (c7 a1y):=mkS
abbrev a0R:Stmt:=X7 54
theorem a2h:g6 ["_law_cells","_law_n","_law_letters_here","_law_seed","_law_rows","_law_r","_law_row","_law_c","_law_at"] ["_law_cells","_law_n","_law_letters_here","_law_seed"] (c7 a0R):=mkS
theorem b4P:List.Nodup (α:=Str) ["_law_script","_law_seed","_law_other","_law_letters_here","_law_cells","_law_k","_law_cell","_law_n","_law_carpet_here","_law_few","_law_size","_law_told","_law_r"]:=by decide+kernel
abbrev b5x:Stmt:=X7 56
theorem b5z:g6 ["_law_script","_law_seed","_law_other","_law_letters_here","_law_cells","_law_k","_law_cell","_law_n","_law_carpet_here","_law_few","_law_size","_law_told"] ["_law_script"] (c7 b5x):=mkS
structure MoB(K:AE)(mg:Str->Option AA):Prop where
 z_ValueError:mg "ValueError"=ζ
 z_all:mg "all"=ζ
 z_bool:mg "bool"=ζ
 z_enumerate:mg "enumerate"=ζ
 z_int:mg "int"=ζ
 z_isinstance:mg "isinstance"=ζ
 z_len:mg "len"=ζ
 z_max:mg "max"=ζ
 z_min:mg "min"=ζ
 z_range:mg "range"=ζ
 z_set:mg "set"=ζ
 z_sorted:mg "sorted"=ζ
 z_tuple:mg "tuple"=ζ
 nk:a22 K=true
 nl:b66 K=true
abbrev a4f:Stmt:=c0A (X7 3) 0
theorem a8A:g6 ["self","many"] ["self","many"] (c7 a4f):=mkS
section
variable (P:AJ)(w:AI)(K:AE)(mg:Str->Option AA)(base:Heap)
abbrev a05:Prop:=m4 P w K mg base "_law_mixed" ["_law_cell","_law_k"] 1 D1
abbrev a15:Prop:=m4 P w K mg base "_law_letters" ["_law_seed","_law_many"] 1 R4
abbrev a13:Prop:=m4 P w K mg base "circles_key" ["found"] 1 m5
abbrev S5:Prop:=m4 P w K mg base "all_movements" ["side"] 1 l6
abbrev a2k:Prop:=m4 P w K mg base "place_by" ["way","place"] 1 B7
abbrev b1m:Prop:=m4 P w K mg base "led" ["side","movement","place"] 2 a2a
abbrev Z1:Prop:=m4 P w K mg base "circle_from" ["n","movements","place"] 3 y8
abbrev a8Y:Prop:=m4 P w K mg base "parted" ["n","leading","places_from"] 4 R9
abbrev a1H:Prop:=m4 P w K mg base "circles" ["n","movements"] 5 y9
abbrev a04:Prop:=m4 P w K mg base "coloured_row" ["n","colours","r"] 1 v6
abbrev a4S:Prop:=m4 P w K mg base "coloured" ["n","colours"] 2 G6
abbrev X9:Prop:=m4 P w K mg base "carpet_of_paper" ["side","paper"] 3 l8
abbrev a6X:Prop:=m4 P w K mg base "size_of" ["cloth"] 1 K5
abbrev a8Z:Prop:=m4 P w K mg base "unlike" ["one","other"] 2 S1
abbrev a0X:Prop:=m4 P w K mg base "told_of_paper" ["carpet","paper"] 4 u4
abbrev a2K:Prop:=m4 P w K mg base "colours_of" ["cloth"] 1 A9
abbrev Y0:Prop:=m4 P w K mg base "knots_by_colour" ["cloth"] 2 l9
abbrev a03:Prop:=m4 P w K mg base "best_colours" ["many_by_colour"] 1 v5
abbrev a0V:Prop:=m4 P w K mg base "chosen_colour" ["many_by_colour","liked"] 2 t8
abbrev b3E:Prop:=m4 P w K mg base "knot" ["carpet","r","c"] 1 a1h
abbrev a4T:Prop:=m4 P w K mg base "knots_at" ["carpet","places"] 2 G7
abbrev a0W:Prop:=m4 P w K mg base "mended_circle" ["carpet","places","liked"] 3 u0
abbrev a4U:Prop:=m4 P w K mg base "mended" ["carpet","wish"] 6 G8
abbrev a0w:Prop:=m4 P w K mg base "changes_to" ["carpet","wish"] 7 i8
abbrev a0Y:Prop:=m4 P w K mg base "wishes_within" ["carpet","most"] 8 u5
abbrev a3Y:Prop:=m4 P w K mg base "is_within" ["side","movement","circle_of"] 3 D0
abbrev a2I:Prop:=m4 P w K mg base "all_within" ["side","wish"] 6 y6
abbrev a2J:Prop:=m4 P w K mg base "best_group" ["carpet","most"] 9 q4
abbrev a4V:Prop:=m4 P w K mg base "way_then" ["one","other"] 2 G9
abbrev b3F:Prop:=m4 P w K mg base "then" ["side","one","other"] 3 a1k
abbrev a6W:Prop:=m4 P w K mg base "made_of" ["side","few"] 4 K4
abbrev a8X:Prop:=m4 P w K mg base "needed" ["side","movements"] 5 R8
abbrev a8W:Prop:=m4 P w K mg base "few_of" ["n","movements"] 6 L3
abbrev a2j:Prop:=a7Q P w K mg base "bettered" ["carpet","most"] 10 j8
abbrev a14:Prop:=m4 P w K mg base "_law_cell_at" ["_law_script","_law_k"] 1 L4
abbrev a30:Prop:=m4 P w K mg base "_law_whole" ["_law_found"] 1 a1i
abbrev a3Z:Prop:=m4 P w K mg base "_law_large" ["_law_carpet_here","_law_most"] 11 Y3
abbrev a2L:Prop:=m4 P w K mg base "_law_carpet" ["_law_cells","_law_n","_law_letters_here","_law_seed"] 2 U6
end
section
variable (P:AJ)(w:AI){K:AE}{mg:Str->Option AA}(base:Heap)
theorem a8p(D:Df K mg "_law_mixed" a1z):a05 P w K mg base:=by
 exists z0,0,a3d,el2 λ_ _=>rfl
 exact d8 (l7 (g7 A7 (g7 A3 (g7 B1 (g7 A7 (a3 0 (pv 0)) d9) d9) (g7 B1 d9 (g7 A3 (g7 A3 d9 (a3 1 (pv 1))) (a3 1 (pv 1))))) d9))
theorem a5Q(D:Df K mg "_law_letters" Z9)(M:MoB K mg):a15 P w K mg base:=by
 exists z0,0,a1E,el2 λ_ _=>rfl
 ext b
 ·exact g0 (i:=2) S.nd a1f rfl (Or.inr rfl)
 refine d8 ?_;refine l7 ?_
 exists y0,["_law_k"],["_law_seed","_law_many","_law_letters_here"],3,a3G
 ·exact rfl
 ·exact a4y rfl M.z_range (a4 (a3 1 (pv 1)) c9)
 intro C fp pins s H;exact m8 (a3 2 (pv 2)) (g7 A7 (g7 B1 (a3 0 (pv 0)) (g7 A3 d9 (a3 3 (pv 3)))) d9)
theorem a5O(D:Df K mg "circles_key" Z7)(M:MoB K mg):a13 P w K mg base:=by
 exists z0,0,a1C,el1 λ_=>rfl
 refine d8 ?_;refine l7 ?_;refine a9f a09 ?_ M.z_tuple ?_ ?_
 ·exact rfl
 ·rfl
 exists y0,["circle"],["found"],1,a3F
 ·exact rfl
 ·exact a5d (a3 0 (pv 0))
 intro C fp pins s H;exact a9f a09 rfl M.z_tuple (by rfl) (a3 1 (pv 1))
theorem a3I(D:Df K mg "all_movements" T3)(M:MoB K mg){u_WAYS:AA}{n_WAYS:Nat}(m_WAYS:mg "WAYS"=ξ u_WAYS)(c_WAYS:a0b K n_WAYS u_WAYS=ξ b1g):S5 P w K mg base:=by
 exists z0,0,a0l,el1 λ_=>rfl
 ext b
 ·exact g0 (i:=1) S.nd (M1 c9)
 ext b
 ·refine Z5 PassesOwn.never ?_ ?_ ?_ (o8 2) ?_
  ·exact rfl
  ·exact A8 a89 rfl M.z_sorted (by rfl) (a71 rfl m_WAYS c_WAYS)
  ·exact i5 (i:=2) S.nd rfl (Or.inl rfl)
  refine d8 ?_;refine W4 PassesOwn.never ?_ ?_ M.z_range ?_ ?_ (o8 3) ?_
  ·exact rfl
  ·exact rfl
  ·exact a4 (a3 0 (pv 0)) c9
  ·exact i5 (i:=3) S.nd rfl (Or.inl rfl)
  exact d8 (W4 PassesOwn.never rfl rfl M.z_range (a4 (a3 0 (pv 0)) c9) (i5 (i:=4) S.nd rfl (Or.inl rfl)) (o8 4) (d8 (K3 1 (pv 1) (M2 (a4 (a3 2 (pv 2)) (a4 (a3 3 (pv 3)) (a4 (a3 4 (pv 4)) c9)))))))
 exact d8 (U4 1 (pv 1))
theorem a9L(D:Df K mg "place_by" a2B){a_LEADS:AB}(m_LEADS:mg "LEADS"=ξ (.ref a_LEADS))(t_LEADS:Tab P w K a_LEADS a3j):a2k P w K mg base:=by
 exists z0,0,a4j,el2 λ_ _=>rfl
 ext b
 ·exact g0 (i:=2) S.nd (b8L t_LEADS rfl m_LEADS (a3 0 (pv 0)))
 refine d8 ?_;refine l7 ?_;refine M2 ?_;refine a4 ?_ ?_
 ·exact g7 B1 (g7 A3 (m8 (a3 2 (pv 2)) d9) (m8 (a3 1 (pv 1)) d9)) (g7 A3 (m8 (a3 2 (pv 2)) d9) (m8 (a3 1 (pv 1)) d9))
 exact a4 (g7 B1 (g7 A3 (m8 (a3 2 (pv 2)) d9) (m8 (a3 1 (pv 1)) d9)) (g7 A3 (m8 (a3 2 (pv 2)) d9) (m8 (a3 1 (pv 1)) d9))) c9
theorem b9l(D:Df K mg "led" b5y)(Q2:a2k P w K mg base):b1m P w K mg base:=by
 exists z0,1,b5A,el3 λ_ _ _=>rfl
 ext b
 ·exact g0 (i:=3) S.nd (i6 Q2 hr (by decide) rfl (a8 (a8 f8)) (a4 (m8 (a3 1 (pv 1)) d9) (a4 (a3 2 (pv 2)) c9)))
 exact d8 (l7 (M2 (a4 (g7 A7 (g7 B1 (m8 (a3 3 (pv 3)) d9) (m8 (a3 1 (pv 1)) d9)) (a3 0 (pv 0))) (a4 (g7 A7 (g7 B1 (m8 (a3 3 (pv 3)) d9) (m8 (a3 1 (pv 1)) d9)) (a3 0 (pv 0))) c9))))
theorem a5N(D:Df K mg "circle_from" E7)(M:MoB K mg)(a45:b1m P w K mg base):Z1 P w K mg base:=by
 exists z0,2,a1B,el3 λ_ _ _=>rfl
 ext b
 ·exact g0 (i:=3) S.nd (a5c hu M.nk (a3 2 (pv 2)) a2Q)
 ext b
 ·exact g0 (i:=4) S.nd (M1 (a4 (a3 2 (pv 2)) c9))
 ext b
 ·exact g0 (i:=5) S.nd d9
 ext b
 ·refine a5f 100 PassesOwn.never ?_ ?_
  ·exact M3 a23 (a3 5 (pv 5)) (A8 y4 rfl M.z_len (by rfl) (a3 4 (pv 4))) (by first|rfl|exact v7 _)
  ext b
  ·refine Z5 PassesOwn.never ?_ ?_ ?_ (o8 6) ?_
   ·exact rfl
   ·exact a3 1 (pv 1)
   ·exact i5 (i:=6) S.nd rfl (Or.inl rfl)
   ext b
   ·exact g0 (i:=7) S.nd (i6 a45 hr (by decide) rfl (a8 (a8 (a8 f8))) (a4 (a3 0 (pv 0)) (a4 (a3 6 (pv 6)) (a4 (m8 (a3 4 (pv 4)) (a3 5 (pv 5))) c9))))
   exact d8 (U0 (W6 3 hu M.nk (pv 3) (a3 7 (pv 7)) (by first|rfl|exact v7 _)) (c6 (V1 3 hu M.nk (pv 3) (a3 7 (pv 7)) a2Q) (d8 (K3 4 (pv 4) (a3 7 (pv 7))))) G4)
  exact d8 (b0u (i:=5) S.nd d9 a5S)
 exact d8 (l7 (A8 a88 rfl M.z_sorted (by rfl) (a3 4 (pv 4))))
theorem b24(D:Df K mg "parted" a6b)(M:MoB K mg){W7:AB}(C4:FnV K mg "circle_from" W7)(R0:Z1 P w K mg base):a8Y P w K mg base:=by
 exists z0,3,a7E,el3 λ_ _ _=>rfl
 ext b
 ·exact g0 (i:=3) S.nd (M1 c9)
 ext b
 ·exact g0 (i:=4) S.nd a70
 ext b
 ·refine W4 PassesOwn.never ?_ ?_ M.z_range ?_ ?_ (o8 5) ?_
  ·exact rfl
  ·exact rfl
  ·exact a4 (a3 0 (pv 0)) c9
  ·exact i5 (i:=5) S.nd rfl (Or.inl rfl)
  refine d8 ?_;refine W4 PassesOwn.never ?_ ?_ M.z_range ?_ ?_ (o8 6) ?_
  ·exact rfl
  ·exact rfl
  ·exact a4 (a3 0 (pv 0)) c9
  ·exact i5 (i:=6) S.nd rfl (Or.inl rfl)
  refine d8 ?_;refine U0 ?_ ?_ ?_
  ·exact W6 4 hu M.nk (pv 4) (M2 (a4 (a3 5 (pv 5)) (a4 (a3 6 (pv 6)) c9))) (by first|rfl|exact v7 _)
  ·ext b
   ·exact g0 (i:=7) S.nd (b3T 2 (b0w R0 C4 (by decide) rfl b2G) hr (pv 2) (a8 (a8 (a8 f8))) (a4 (a3 0 (pv 0)) (a4 (a3 1 (pv 1)) (a4 (M2 (a4 (a3 5 (pv 5)) (a4 (a3 6 (pv 6)) c9))) c9))))
   exact c6 (W5 7 (K3 3 (pv 3) (a3 7 (pv 7)))) (d8 (W5 7 (Z5 PassesOwn.never rfl (a3 7 (pv 7)) (i5 (i:=8) S.nd rfl (Or.inl rfl)) (o8 8) (d8 (V1 4 hu M.nk (pv 4) (a3 8 (pv 8)) a2Q)))))
  exact G4
 exact d8 (U4 3 (pv 3))
theorem b0Z(D:Df K mg "circles" a3R){W7:AB}(C4:FnV K mg "circle_from" W7)(a47:a8Y P w K mg base)(R0:Z1 P w K mg base):a1H P w K mg base:=by
 exists z0,4,a6d,el2 λ_ _=>rfl
 exact d8 (l7 (i6 a47 hr (by decide) rfl (a8 (a8 (a8 f8))) (a4 (a3 0 (pv 0)) (a4 (a3 1 (pv 1)) (a4 (c0F C4) c9)))))
theorem a4v(D:Df K mg "coloured_row" X4)(M:MoB K mg):a04 P w K mg base:=by
 exists z0,0,a00,el3 λ_ _ _=>rfl
 refine d8 ?_;refine l7 ?_;refine a4x ?_ ?_
 ·exact a1f
 exists y0,["c"],["n","colours","r"],3,a20
 ·exact rfl
 ·exact a4y rfl M.z_range (a4 (a3 0 (pv 0)) c9)
 intro C fp pins s H;exact b3Y 1 hu (pv 1) (a4 (a3 2 (pv 2)) (a4 (a3 3 (pv 3)) c9))
theorem a9J(D:Df K mg "coloured" a2z)(M:MoB K mg)(W2:a04 P w K mg base):a4S P w K mg base:=by
 exists z0,1,a4h,el2 λ_ _=>rfl
 refine d8 ?_;refine l7 ?_;refine a9f a09 ?_ M.z_tuple ?_ ?_
 ·exact rfl
 ·rfl
 exists y0,["r"],["n","colours"],2,a6M
 ·exact rfl
 ·exact a4y rfl M.z_range (a4 (a3 0 (pv 0)) c9)
 intro C fp pins s H;exact i6 W2 hr (by decide) rfl (a8 (a8 (a8 f8))) (a4 (a3 0 (pv 0)) (a4 (a3 1 (pv 1)) (a4 (a3 2 (pv 2)) c9)))
theorem a2t(D:Df K mg "carpet_of_paper" P3)(M:MoB K mg)(a2n:a4S P w K mg base):X9 P w K mg base:=by
 exists z0,2,X5,el2 λ_ _=>rfl
 ext b
 ·exact g0 (i:=2) S.nd a70
 ext b
 ·refine Z5 PassesOwn.never ?_ ?_ ?_ (o8 3) ?_
  ·exact rfl
  ·exact a3 1 (pv 1)
  ·exact i5 (i:=3) S.nd rfl (Or.inl rfl)
  exact d8 (Z5 PassesOwn.never rfl (m8 (a3 3 (pv 3)) d9) (i5 (i:=4) S.nd rfl (Or.inl rfl)) (o8 4) (d8 (V1 2 hu M.nk (pv 2) (a3 4 (pv 4)) (m8 (a3 3 (pv 3)) d9))))
 exact d8 (l7 (b3W 2 a2n hr (by decide) rfl (a3 0 (pv 0)) (pv 2)))
theorem b01(D:Df K mg "size_of" a3T)(M:MoB K mg):a6X P w K mg base:=by
 exists z0,0,a6f,el1 λ_=>rfl
 exact d8 (l7 (M2 (a4 (A8 y4 rfl M.z_len (by rfl) (a3 0 (pv 0))) (a4 (A8 y4 rfl M.z_len (by rfl) (m8 (a3 0 (pv 0)) d9)) c9))))
theorem b25(D:Df K mg "unlike" a6c)(M:MoB K mg)(a1K:a6X P w K mg base):a8Z P w K mg base:=by
 exists z0,1,a7F,el2 λ_ _=>rfl
 ext b
 ·exact U0 (M3 (b42 hu) (i6 a1K hr (by decide) rfl (a8 f8) (a4 (a3 0 (pv 0)) c9)) (i6 a1K hr (by decide) rfl (a8 f8) (a4 (a3 1 (pv 1)) c9)) (by first|rfl|exact v7 _)) (d8 b36) G4
 ext b
 ·exact g0 (i:=2) S.nd (M1 c9)
 ext b
 ·refine a4z PassesOwn.never ?_ ?_ M.z_enumerate ?_ ?_ (a3i [3,4]) ?_
  ·exact rfl
  ·exact rfl
  ·exact a4 (a3 0 (pv 0)) c9
  ·exact a5U rfl (K2 (i5 (i:=3) S.nd rfl (Or.inl rfl)) (K2 (i5 (i:=4) S.nd rfl (Or.inl rfl)) a27))
  refine d8 ?_;refine a4z PassesOwn.never ?_ ?_ M.z_enumerate ?_ ?_ (a3i [5,6]) ?_
  ·exact rfl
  ·exact rfl
  ·exact a4 (a3 4 (pv 4)) c9
  ·exact a5U rfl (K2 (i5 (i:=5) S.nd rfl (Or.inl rfl)) (K2 (i5 (i:=6) S.nd rfl (Or.inl rfl)) a27))
  exact d8 (U0 (M3 (b42 hu) (a3 6 (pv 6)) (m8 (m8 (a3 1 (pv 1)) (a3 3 (pv 3))) (a3 5 (pv 5))) (by first|rfl|exact v7 _)) (d8 (K3 2 (pv 2) (M2 (a4 (a3 3 (pv 3)) (a4 (a3 5 (pv 5)) c9))))) G4)
 exact d8 (U4 2 (pv 2))
theorem a3L(D:Df K mg "told_of_paper" T6)(M:MoB K mg)(N9:X9 P w K mg base)(a48:a8Z P w K mg base):a0X P w K mg base:=by
 exists z0,3,a0o,el2 λ_ _=>rfl
 ext b
 ·exact g0 (i:=2) S.nd (i6 N9 hr (by decide) rfl (a8 (a8 f8)) (a4 (A8 y4 rfl M.z_len (by rfl) (a3 0 (pv 0))) (a4 (a3 1 (pv 1)) c9)))
 exact d8 (l7 (M2 (a4 (a3 2 (pv 2)) (a4 (i6 a48 hr (by decide) rfl (a8 (a8 f8)) (a4 (a3 0 (pv 0)) (a4 (a3 2 (pv 2)) c9))) (a4 (a3 1 (pv 1)) c9)))))
theorem a6R(D:Df K mg "colours_of" a0Q)(M:MoB K mg):a2K P w K mg base:=by
 exists z0,0,a2g,el1 λ_=>rfl
 exact d8 (l7 (b0r rfl rfl M.z_sorted rfl M.z_set (a4x a1f (a3 0 (pv 0)))))
theorem a2u(D:Df K mg "knots_by_colour" P4)(a0C:a2K P w K mg base):Y0 P w K mg base:=by
 exists z0,1,X6,el1 λ_=>rfl
 ext b
 ·exact g0 (i:=1) S.nd (a4x a1f (a3 0 (pv 0)))
 ext b
 ·exact g0 (i:=2) S.nd b8M
 ext b
 ·exact Z5 PassesOwn.never rfl (i6 a0C hr (by decide) rfl (a8 f8) (a4 (a3 0 (pv 0)) c9)) (i5 (i:=3) S.nd rfl (Or.inl rfl)) (o8 3) (d8 (b6A 2 hu (pv 2) (a3 3 (pv 3)) (b3V (a3 1 (pv 1)) (a3 3 (pv 3)))))
 exact d8 (U4 2 (pv 2))
theorem a4u(D:Df K mg "best_colours" X3)(M:MoB K mg):a03 P w K mg base:=by
 exists z0,0,a0Z,el1 λ_=>rfl
 ext b
 ·refine g0 (i:=1) ?_ ?_ ?_ (Or.inr rfl)
  ·exact S.nd
  ·refine A8 (b6m rfl) ?_ M.z_max ?_ ?_
   ·exact rfl
   ·rfl
   refine b2y 0 (N0:=["many_by_colour","most"]) (λ_ _ h=>h) ?_ ⟨by kernel_rfl,rfl,of_decide_eq_true rfl,of_decide_eq_true rfl,of_decide_eq_true rfl⟩ (pv 0) ?_ (λC fp pins s H=>i5 (i:=2) a2Y rfl (Or.inl rfl)) (λC fp pins s H=>pv 0) (λC fp pins s H=>pv 2)
   ·exact rfl
   exact hu
  exact rfl
 refine d8 ?_;refine l7 ?_;refine A8 a89 ?_ M.z_sorted ?_ ?_
 ·exact rfl
 ·rfl
 refine b2x 0 1 (N0:=["many_by_colour","most"]) (λ_ _ h=>h) ?_ ⟨by kernel_rfl,rfl,of_decide_eq_true rfl,of_decide_eq_true rfl,of_decide_eq_true rfl⟩ (pv 0) ?_ (λC fp pins s H=>i5 (i:=2) a2Z rfl (Or.inl rfl)) (λC fp pins s H=>pv 0) (λC fp pins s H=>pv 2) (λC fp pins s H=>pv 1) (λC fp pins s H=>pv 2)
 ·exact rfl
 exact hu
theorem a3J(D:Df K mg "chosen_colour" T4)(W0:a03 P w K mg base):a0V P w K mg base:=by
 exists z0,1,a0m,el2 λ_ _=>rfl
 ext b
 ·exact g0 (i:=2) S.nd (i6 W0 hr (by decide) rfl (a8 f8) (a4 (a3 0 (pv 0)) c9))
 exact c6 (U0 (M3 (b7d hu) (a3 1 (pv 1)) (a3 2 (pv 2)) (by first|rfl|exact v7 _)) (d8 (U4 1 (pv 1))) G4) (d8 (l7 (m8 (a3 2 (pv 2)) d9)))
theorem b68(D:Df K mg "knot" b06)(M:MoB K mg):b3E P w K mg base:=by
 exists z0,0,b16,el3 λ_ _ _=>rfl
 exact c6 (g0 (i:=3) S.nd (A8 y4 rfl M.z_len (by rfl) (a3 0 (pv 0)))) (d8 (l7 (m8 (m8 (a3 0 (pv 0)) (g7 A7 (a3 1 (pv 1)) (a3 3 (pv 3)))) (g7 A7 (a3 2 (pv 2)) (a3 3 (pv 3))))))
theorem a9K(D:Df K mg "knots_at" a2A)(b0n:b3E P w K mg base):a4T P w K mg base:=by
 exists z0,1,a4i,el2 λ_ _=>rfl
 refine d8 ?_;refine l7 ?_;refine a4x ?_ ?_
 ·exact a1f
 exists y0,["place"],["carpet","places"],2,a6N
 ·exact rfl
 ·exact a5d (a3 1 (pv 1))
 intro C fp pins s H;exact i6 b0n hr (by decide) rfl (a8 (a8 (a8 f8))) (a4 (a3 0 (pv 0)) (a4 (m8 (a3 2 (pv 2)) d9) (a4 (m8 (a3 2 (pv 2)) d9) c9)))
theorem a3K(D:Df K mg "mended_circle" T5)(O1:Y0 P w K mg base)(S6:a0V P w K mg base)(a2o:a4T P w K mg base):a0W P w K mg base:=by
 exists z0,2,a0n,el3 λ_ _ _=>rfl
 ext b
 ·exact g0 (i:=3) S.nd (i6 O1 hr (by decide) rfl (a8 f8) (a4 (M2 (a4 (i6 a2o hr (by decide) rfl (a8 (a8 f8)) (a4 (a3 0 (pv 0)) (a4 (a3 1 (pv 1)) c9))) c9)) c9))
 exact c6 (g0 (i:=4) S.nd (b3X 3 S6 hr (by decide) rfl (pv 3) (a3 2 (pv 2)))) (d8 (l7 (M2 (a4 (a3 1 (pv 1)) (a4 (a3 4 (pv 4)) (a4 (b6z 3 hu (pv 3) (a3 4 (pv 4))) c9))))))
theorem b22(D:Df K mg "mended" a59)(M:MoB K mg)(N1:a1H P w K mg base)(S8:a0X P w K mg base)(S7:a0W P w K mg base):a4U P w K mg base:=by
 exists z0,5,a7C,el2 λ_ _=>rfl
 ext b
 ·exact g0 (i:=2) S.nd (i6 N1 hr (by decide) rfl (a8 (a8 f8)) (a4 (A8 y4 rfl M.z_len (by rfl) (a3 0 (pv 0))) (a4 (a3 1 (pv 1)) c9)))
 refine d8 ?_;refine l7 ?_;refine i6 S8 hr ?_ ?_ ?_ ?_
 ·decide
 ·exact rfl
 ·exact a8 (a8 f8)
 refine a4 ?_ ?_
 ·exact a3 0 (pv 0)
 refine a4 ?_ ?_
 ·exists y0,["places"],["carpet","wish","found"],3,a9H
  ·exact rfl
  ·exact a5d (a3 2 (pv 2))
  intro C fp pins s H;exact i6 S7 hr (by decide) rfl (a8 (a8 (a8 f8))) (a4 (a3 0 (pv 0)) (a4 (a3 3 (pv 3)) (a4 b32 c9)))
 exact c9
theorem a6Q(D:Df K mg "changes_to" a0P)(M:MoB K mg)(a1e:a4U P w K mg base):a0w P w K mg base:=by
 exists z0,6,a2f,el2 λ_ _=>rfl
 exact d8 (l7 (A8 y4 rfl M.z_len (by rfl) (m8 (i6 a1e hr (by decide) rfl (a8 (a8 f8)) (a4 (a3 0 (pv 0)) (a4 (a3 1 (pv 1)) c9))) d9)))
theorem a3M(D:Df K mg "wishes_within" T7)(M:MoB K mg)(R1:a13 P w K mg base)(D9:S5 P w K mg base)(N1:a1H P w K mg base)(O0:a0w P w K mg base):a0Y P w K mg base:=by
 exists z0,7,a0p,el2 λ_ _=>rfl
 ext b
 ·exact g0 (i:=2) S.nd (A8 y4 rfl M.z_len (by rfl) (a3 0 (pv 0)))
 ext b
 ·exact g0 (i:=3) S.nd (M1 (a4 (M1 c9) c9))
 ext b
 ·exact g0 (i:=4) S.nd (a5c hu M.nk (i6 R1 hr (by decide) rfl (a8 f8) (a4 (i6 N1 hr (by decide) rfl (a8 (a8 f8)) (a4 (a3 2 (pv 2)) (a4 (M1 c9) c9))) c9)) a2Q)
 ext b
 ·exact g0 (i:=5) S.nd d9
 ext b
 ·refine a5f 100 PassesOwn.never ?_ ?_
  ·exact M3 a23 (a3 5 (pv 5)) (A8 y4 rfl M.z_len (by rfl) (a3 3 (pv 3))) (by first|rfl|exact v7 _)
  ext b
  ·refine Z5 PassesOwn.never ?_ ?_ ?_ (o8 6) ?_
   ·exact rfl
   ·exact i6 D9 hr (by decide) rfl (a8 f8) (a4 (a3 2 (pv 2)) c9)
   ·exact i5 (i:=6) S.nd rfl (Or.inl rfl)
   ext b
   ·exact g0 (i:=7) S.nd (g7 (b4Y M.nl) (m8 (a3 3 (pv 3)) (a3 5 (pv 5))) (M1 (a4 (a3 6 (pv 6)) c9)))
   ext b
   ·exact W5 7 (g0 (i:=8) S.nd (i6 R1 hr (by decide) rfl (a8 f8) (a4 (i6 N1 hr (by decide) rfl (a8 (a8 f8)) (a4 (a3 2 (pv 2)) (a4 (a3 7 (pv 7)) c9))) c9)))
   refine d8 ?_;refine U0 ?_ ?_ ?_
   ·exact W6 4 hu M.nk (pv 4) (a3 8 (pv 8)) (by first|rfl|exact v7 _)
   ·ext b
    ·exact V1 4 hu M.nk (pv 4) (a3 8 (pv 8)) a2Q
    exact d8 (W5 7 (U0 (M3 b7e (i6 O0 hr (by decide) rfl (a8 (a8 f8)) (a4 (a3 0 (pv 0)) (a4 (a3 7 (pv 7)) c9))) (a3 1 (pv 1)) (by first|rfl|exact v7 _)) (d8 (W5 7 (K3 3 (pv 3) (a3 7 (pv 7))))) G4))
   exact G4
  exact d8 (b0u (i:=5) S.nd d9 a5S)
 exact d8 (U4 3 (pv 3))
theorem a8n(D:Df K mg "is_within" a1x)(M:MoB K mg)(a45:b1m P w K mg base):a3Y P w K mg base:=by
 exists z0,2,a3b,el3 λ_ _ _=>rfl
 refine d8 ?_;refine l7 ?_;refine A8 (b8G rfl) ?_ M.z_all ?_ ?_
 ·exact rfl
 ·rfl
 refine b3U 2 (ys:=["place"]) (N0:=["side","movement","circle_of"]) (λ_ _ h=>h) ?_ ⟨by kernel_rfl,rfl,of_decide_eq_true rfl,of_decide_eq_true rfl,of_decide_eq_true rfl⟩ (pv 2) (λC fp pins s H=>i5 (i:=3) a5J rfl (Or.inl rfl)) (λn h=>C1 (i:=3) (Nat.le_of_eq h)) (λC fp pins s H=>a0E) ?_
 ·exact rfl
 intro C fp pins s H;exact a5a (a0J hu) (a5b 2 hu M.nk (pv 2) (i6 a45 hr (by decide) rfl (a8 (a8 (a8 f8))) (a4 (a3 0 (pv 0)) (a4 (a3 1 (pv 1)) (a4 (a3 3 (pv 3)) c9))))) (a5b 2 hu M.nk (pv 2) (a3 3 (pv 3))) (by first|rfl|exact v7 _)
theorem a6O(D:Df K mg "all_within" a0N)(M:MoB K mg)(N1:a1H P w K mg base)(D9:S5 P w K mg base)(a1b:a3Y P w K mg base):a2I P w K mg base:=by
 exists z0,5,a2d,el2 λ_ _=>rfl
 ext b
 ·exact g0 (i:=2) S.nd a70 rfl (Or.inr rfl)
 ext b
 ·refine a4z PassesOwn.never ?_ ?_ M.z_enumerate ?_ ?_ (a3i [3,4]) ?_
  ·exact rfl
  ·exact rfl
  ·exact a4 (i6 N1 hr (by decide) rfl (a8 (a8 f8)) (a4 (a3 0 (pv 0)) (a4 (a3 1 (pv 1)) c9))) c9
  ·exact a5U rfl (K2 (i5 (i:=3) S.nd rfl (Or.inl rfl)) (K2 (i5 (i:=4) S.nd rfl (Or.inl rfl)) a27))
  exact d8 (Z5 PassesOwn.never rfl (a3 4 (pv 4)) (i5 (i:=5) S.nd rfl (Or.inl rfl)) (o8 5) (d8 (V1 2 hu M.nk (pv 2) (a3 5 (pv 5)) (a3 3 (pv 3)))))
 refine d8 ?_;refine l7 ?_;refine U2 (ys:=["movement"]) (N0:=["side","wish","circle_of","number","circle","place"]) (λ_ _ h=>h) ?_ ⟨by kernel_rfl,rfl,of_decide_eq_true rfl,of_decide_eq_true rfl,of_decide_eq_true rfl⟩ ?_ (λC fp pins s H=>i5 (i:=6) a4t rfl (Or.inl rfl)) (λn h=>C1 (i:=6) (Nat.le_of_eq h)) ?_ ?_
 ·exact rfl
 ·exact a5d (i6 D9 hr (by decide) rfl (a8 f8) (a4 (a3 0 (pv 0)) c9))
 ·intro C fp pins s H;exact b8J (a73 (b31 2 (i6 a1b hr (by decide) rfl (a8 (a8 (a8 f8))) (a4 (a3 0 (pv 0)) (a4 (a3 6 (pv 6)) (a4 (a3 2 (pv 2)) c9))))))
 intro C fp pins s H;exact a3 6 (pv 6)
theorem a6P(D:Df K mg "best_group" a0O)(M:MoB K mg)(S9:a0Y P w K mg base)(a0A:a2I P w K mg base)(O0:a0w P w K mg base):a2J P w K mg base:=by
 exists z0,8,a2e,el2 λ_ _=>rfl
 ext b
 ·exact g0 (i:=2) S.nd (M1 c9)
 ext b
 ·exact g0 (i:=3) S.nd d9
 ext b
 ·refine Z5 PassesOwn.never ?_ ?_ ?_ (o8 4) ?_
  ·exact rfl
  ·exact i6 S9 hr (by decide) rfl (a8 (a8 f8)) (a4 (a3 0 (pv 0)) (a4 (a3 1 (pv 1)) c9))
  ·exact i5 (i:=4) S.nd rfl (Or.inl rfl)
  ext b
  ·exact g0 (i:=5) S.nd (i6 a0A hr (by decide) rfl (a8 (a8 f8)) (a4 (A8 y4 rfl M.z_len (by rfl) (a3 0 (pv 0))) (a4 (a3 4 (pv 4)) c9)))
  ext b
  ·exact g0 (i:=6) S.nd (i6 O0 hr (by decide) rfl (a8 (a8 f8)) (a4 (a3 0 (pv 0)) (a4 (a3 4 (pv 4)) c9)))
  refine d8 ?_;refine U0 (PW.pt (b74 (M3 b4Z (A8 y4 rfl M.z_len (by rfl) (a3 5 (pv 5))) (A8 y4 rfl M.z_len (by rfl) (a3 2 (pv 2))) (by first|rfl|exact v7 _)) (b38 (PW.pt (b8P (M3 (a0J hu) (A8 y4 rfl M.z_len (by rfl) (a3 5 (pv 5))) (A8 y4 rfl M.z_len (by rfl) (a3 2 (pv 2))) (by first|rfl|exact v7 _)) (b6B (M3 a23 (a3 6 (pv 6)) (a3 3 (pv 3)) (by first|rfl|exact v7 _)))))))) ?_ ?_
  ·exact c6 (W5 5 (g0 (i:=2) S.nd (a3 5 (pv 5)))) (d8 (g0 (i:=3) S.nd (a3 6 (pv 6))))
  exact G4
 exact d8 (U4 2 (pv 2))
theorem a9M(D:Df K mg "way_then" a2C){u_TELLING:AA}{n_TELLING:Nat}(m_TELLING:mg "TELLING"=ξ u_TELLING)(c_TELLING:a0b K n_TELLING u_TELLING=ξ a3W){a_TOLD:AB}(m_TOLD:mg "TOLD"=ξ (.ref a_TOLD))(t_TOLD:b6f P w K a_TOLD a6s)(Q2:a2k P w K mg base):a4V P w K mg base:=by
 exists z0,1,a4k,el2 λ_ _=>rfl
 refine d8 ?_;refine l7 ?_;refine b6y (c0O hr) t_TOLD ?_ m_TOLD ?_
 ·exact rfl
 exact i6 Q2 hr (by decide) rfl (a8 (a8 f8)) (a4 (a3 1 (pv 1)) (a4 (i6 Q2 hr (by decide) rfl (a8 (a8 f8)) (a4 (a3 0 (pv 0)) (a4 (a71 rfl m_TELLING c_TELLING) c9))) c9))
theorem b69(D:Df K mg "then" b07)(a45:b1m P w K mg base)(a2p:a4V P w K mg base):b3F P w K mg base:=by
 exists z0,2,b17,el3 λ_ _ _=>rfl
 ext b
 ·exact g0 (i:=3) S.nd (i6 a45 hr (by decide) rfl (a8 (a8 (a8 f8))) (a4 (a3 0 (pv 0)) (a4 (a3 2 (pv 2)) (a4 (M2 (a4 (m8 (a3 1 (pv 1)) d9) (a4 (m8 (a3 1 (pv 1)) d9) c9))) c9))))
 exact d8 (l7 (M2 (a4 (i6 a2p hr (by decide) rfl (a8 (a8 f8)) (a4 (m8 (a3 1 (pv 1)) d9) (a4 (m8 (a3 2 (pv 2)) d9) c9))) (a4 (m8 (a3 3 (pv 3)) d9) (a4 (m8 (a3 3 (pv 3)) d9) c9)))))
theorem b00(D:Df K mg "made_of" a3S)(M:MoB K mg)(b0o:b3F P w K mg base):a6W P w K mg base:=by
 exists z0,3,a6e,el2 λ_ _=>rfl
 ext b
 ·exact g0 (i:=2) S.nd (a5c hu M.nk (M2 (a4 a1f (a4 d9 (a4 d9 c9)))) a2Q)
 ext b
 ·exact g0 (i:=3) S.nd (M1 (a4 (M2 (a4 a1f (a4 d9 (a4 d9 c9)))) c9))
 ext b
 ·exact g0 (i:=4) S.nd d9
 ext b
 ·refine a5f 300 PassesOwn.never ?_ ?_
  ·exact M3 a23 (a3 4 (pv 4)) (A8 y4 rfl M.z_len (by rfl) (a3 3 (pv 3))) (by first|rfl|exact v7 _)
  ext b
  ·refine Z5 PassesOwn.never ?_ ?_ ?_ (o8 5) ?_
   ·exact rfl
   ·exact a3 1 (pv 1)
   ·exact i5 (i:=5) S.nd rfl (Or.inl rfl)
   ext b
   ·exact g0 (i:=6) S.nd (i6 b0o hr (by decide) rfl (a8 (a8 (a8 f8))) (a4 (a3 0 (pv 0)) (a4 (m8 (a3 3 (pv 3)) (a3 4 (pv 4))) (a4 (a3 5 (pv 5)) c9))))
   exact d8 (U0 (W6 2 hu M.nk (pv 2) (a3 6 (pv 6)) (by first|rfl|exact v7 _)) (c6 (V1 2 hu M.nk (pv 2) (a3 6 (pv 6)) a2Q) (d8 (K3 3 (pv 3) (a3 6 (pv 6))))) G4)
  exact d8 (b0u (i:=4) S.nd d9 a5S)
 exact d8 (U4 2 (pv 2))
theorem b23(D:Df K mg "needed" a6a)(M:MoB K mg)(a1J:a6W P w K mg base):a8X P w K mg base:=by
 exists z0,4,a7D,el2 λ_ _=>rfl
 ext b
 ·exact g0 (i:=2) S.nd (M1 c9)
 ext b
 ·exact g0 (i:=3) S.nd (M1 c9)
 ext b
 ·exact g0 (i:=4) S.nd (b1t 3 a1J hr (by decide) rfl (a3 0 (pv 0)) (pv 3))
 ext b
 ·refine a4z PassesOwn.never ?_ ?_ M.z_enumerate ?_ ?_ (a3i [5,6]) ?_
  ·exact rfl
  ·exact rfl
  ·exact a4 (a3 1 (pv 1)) c9
  ·exact a5U rfl (K2 (i5 (i:=5) S.nd rfl (Or.inl rfl)) (K2 (i5 (i:=6) S.nd rfl (Or.inl rfl)) a27))
  refine d8 ?_;exact U0 (W6 4 hu M.nk (pv 4) (a3 6 (pv 6)) (by first|rfl|exact v7 _)) (c6 (K3 2 (pv 2) (a3 5 (pv 5))) (c6 (K3 3 (pv 3) (a3 6 (pv 6))) (d8 (g0 (i:=4) S.nd (b1t 3 a1J hr (by decide) rfl (a3 0 (pv 0)) (pv 3)))))) G4
 exact d8 (U4 2 (pv 2))
theorem b21(D:Df K mg "few_of" a58)(M:MoB K mg)(a46:a8X P w K mg base):a8W P w K mg base:=by
 exists z0,5,a7B,el2 λ_ _=>rfl
 ext b
 ·exact g0 (i:=2) S.nd (A8 a88 rfl M.z_sorted (by rfl) (a3 1 (pv 1))) rfl (Or.inr rfl)
 refine d8 ?_;refine W5 2 ?_;refine l7 ?_
 exists y0,["place"],["n","movements","listed"],3,a9G
 ·exact rfl
 ·exact a5d (i6 a46 hr (by decide) rfl (a8 (a8 f8)) (a4 (a3 0 (pv 0)) (a4 (a3 2 (pv 2)) c9)))
 intro C fp pins s H;exact m8 (a3 2 (pv 2)) (a3 3 (pv 3))
theorem a9I(D:Df K mg "bettered" a2y)(M:MoB K mg)(xi_TooLarge:b6e P w K mg base "TooLarge" ["many"] 1){u_GREATEST_BETTERED:AA}{n_GREATEST_BETTERED:Nat}(m_GREATEST_BETTERED:mg "GREATEST_BETTERED"=ξ u_GREATEST_BETTERED)(c_GREATEST_BETTERED:a0b K n_GREATEST_BETTERED u_GREATEST_BETTERED=ξ t7)(a0B:a2J P w K mg base)(a44:a8W P w K mg base)(a1e:a4U P w K mg base):a2j P w K mg base:=by
 exists z1,9,a4g,el2 λ_ _=>rfl
 refine a9j ?_ ?_
 ·exact b8R (g0 (i:=2) S.nd (A8 y4 rfl M.z_len (by rfl) (a3 0 (pv 0))))
 refine a9j ?_ ?_
 ·refine c0G ?_ ?_ ?_
  ·exact M3 b4Z (a3 2 (pv 2)) (a71 rfl m_GREATEST_BETTERED c_GREATEST_BETTERED) (by first|rfl|exact v7 _)
  ·exact b1x (b2D rfl rfl rfl xi_TooLarge hr (by decide) (a8 f8) (a4 (g7 A3 (a3 2 (pv 2)) (a3 2 (pv 2))) c9) (λpins σ H s a C dd I x h0 hn e=>a9w I x h0 hn e))
  exact b1y G4
 refine b1y ?_
 ext b
 ·exact g0 (i:=3) S.nd (i6 a0B hr (by decide) rfl (a8 (a8 f8)) (a4 (a3 0 (pv 0)) (a4 (a3 1 (pv 1)) c9)))
 ext b
 ·exact W5 3 (g0 (i:=4) S.nd (i6 a44 hr (by decide) rfl (a8 (a8 f8)) (a4 (a3 2 (pv 2)) (a4 (a3 3 (pv 3)) c9))))
 exact d8 (W5 4 (l7 (M2 (a4 (a3 4 (pv 4)) (a4 (A8 y4 rfl M.z_len (by rfl) (a3 3 (pv 3))) (a4 (i6 a1e hr (by decide) rfl (a8 (a8 f8)) (a4 (a3 0 (pv 0)) (a4 (a3 4 (pv 4)) c9))) c9))))))
theorem a5P(D:Df K mg "_law_cell_at" Z8)(M:MoB K mg):a14 P w K mg base:=by
 exists z0,0,a1D,el2 λ_ _=>rfl
 exact c6 (U0 (M3 a23 (a3 1 (pv 1)) (A8 y4 rfl M.z_len (by rfl) (a3 0 (pv 0))) (by first|rfl|exact v7 _)) (d8 (l7 (m8 (a3 0 (pv 0)) (a3 1 (pv 1))))) G4) (d8 (l7 d9))
theorem a8q(D:Df K mg "_law_whole" a1A)(M:MoB K mg):a30 P w K mg base:=by
 exists z0,0,a3e,el1 λ_=>rfl
 exact d8 (l7 (a7Z (b3Z (.inl rfl) rfl M.z_isinstance (a3 0 (pv 0)) (a8s rfl M.z_int (by rfl) rfl)) (b0q (b8K (b3Z (.inr (.inl rfl)) rfl M.z_isinstance (a3 0 (pv 0)) (a8s rfl M.z_bool (by rfl) rfl))))))
theorem a8o(D:Df K mg "_law_large" a1y)(M:MoB K mg){C_CarpetError:AB}(x_CarpetError:XC K mg "CarpetError" C_CarpetError){C_TooLarge:AB}(x_TooLarge:XC K mg "TooLarge" C_TooLarge)(ks_TooLarge_CarpetError:PySem.W.kitOne K (.ref C_TooLarge) (.ref C_CarpetError)=ξ true)(ks_TooLarge_ValueError:PySem.W.kitOne K (.ref C_TooLarge) (.type "ValueError")=ξ true)(xf_TooLarge:b55 K C_TooLarge=true)(fx_many:a6U K ["TooLarge"] "many")(im_TooLarge_TooLarge:a9o K C_TooLarge C_TooLarge=true)(W1:a2j P w K mg base)(a1d:a30 P w K mg base):a3Z P w K mg base:=by
 exists z0,10,a3c,el2 λ_ _=>rfl
 ext b
 ·exact g0 (i:=2) S.nd b32
 ext b
 ·refine b2C (i:=3) ?_ x_TooLarge (b4n x_TooLarge x_TooLarge im_TooLarge_TooLarge b6M) ?_ ?_
  ·exact S.nd
  ·intro Y pn E hx;exact b1x (b6C W1 hr (by decide) rfl hx (a8 (a8 f8)) (a4 (a3 0 (pv 0)) (a4 (a3 1 (pv 1)) c9)))
  intro a Y;exact d8 (g0 (i:=2) S.nd (a3 3 (pv 3)))
 ext b
 ·refine U0 (PW.pt (b74 (b0v (a73 (b30 (cV:= .ref _) (a7H x_TooLarge xf_TooLarge ks_TooLarge_CarpetError a98) (λu h=>h) rfl M.z_isinstance (a3 2 (pv 2)) (a8t rfl x_CarpetError.mg rfl)))) (b38 (b0v (a73 (b30 (cV:= .ty "ValueError") (a7H x_TooLarge xf_TooLarge ks_TooLarge_ValueError a98) (λu h=>h) rfl M.z_isinstance (a3 2 (pv 2)) (a8s rfl M.z_ValueError (by rfl) rfl))))))) ?_ ?_
  ·exact d8 (l7 a2Q)
  exact G4
 refine d8 ?_;refine l7 ?_;refine a7Z ?_ ?_
 ·exact i6 a1d hr (by decide) rfl (a8 f8) (a4 (b73 fx_many (a3 2 (pv 2))) c9)
 exact b0q (a5a (a0J hu) (b73 fx_many (a3 2 (pv 2))) (g7 A3 (A8 y4 rfl M.z_len (by rfl) (a3 0 (pv 0))) (A8 y4 rfl M.z_len (by rfl) (a3 0 (pv 0)))) (by first|rfl|exact v7 _))
theorem a6S(D:Df K mg "_law_carpet" a0R)(M:MoB K mg)(G3:a05 P w K mg base):a2L P w K mg base:=by
 exists z0,1,a2h,el4 λ_ _ _ _=>rfl
 ext b
 ·exact g0 (i:=4) S.nd (M1 c9)
 ext b
 ·refine W4 PassesOwn.never ?_ ?_ M.z_range ?_ ?_ (o8 5) ?_
  ·exact rfl
  ·exact rfl
  ·exact a4 (a3 1 (pv 1)) c9
  ·exact i5 (i:=5) S.nd rfl (Or.inl rfl)
  ext b
  ·exact g0 (i:=6) S.nd a1f
  ext b
  ·refine W4 PassesOwn.never ?_ ?_ M.z_range ?_ ?_ (o8 7) ?_
   ·exact rfl
   ·exact rfl
   ·exact a4 (a3 1 (pv 1)) c9
   ·exact i5 (i:=7) S.nd rfl (Or.inl rfl)
   ext b
   ·exact g0 (i:=8) S.nd (g7 B1 (g7 A3 (a3 5 (pv 5)) (a3 1 (pv 1))) (a3 7 (pv 7)))
   ext b
   ·exact U0 (M3 (a0J hu) (g7 A7 (a3 3 (pv 3)) d9) d9 (by first|rfl|exact v7 _)) (d8 (g0 (i:=8) S.nd (a3 7 (pv 7)))) G4
   ext b
   ·exact U0 (M3 (a0J hu) (g7 A7 (a3 3 (pv 3)) d9) d9 (by first|rfl|exact v7 _)) (d8 (g0 (i:=8) S.nd (g7 A7 (g7 B1 (a3 5 (pv 5)) (a3 7 (pv 7))) (a3 1 (pv 1))))) G4
   ext b
   ·refine U0 ?_ ?_ ?_
    ·exact M3 (a0J hu) (g7 A7 (a3 3 (pv 3)) d9) d9 (by first|rfl|exact v7 _)
    ·refine d8 ?_;refine g0 (i:=8) ?_ ?_
     ·exact S.nd
     refine g7 B1 ?_ ?_
     ·exact b72 (b3O rfl) rfl M.z_min (by rfl) (a3 5 (pv 5)) (g7 a4F (g7 a4F (a3 1 (pv 1)) d9) (a3 5 (pv 5)))
     exact g7 A3 (a3 1 (pv 1)) (b72 (b3O rfl) rfl M.z_min (by rfl) (a3 7 (pv 7)) (g7 a4F (g7 a4F (a3 1 (pv 1)) d9) (a3 7 (pv 7))))
    exact G4
   refine d8 ?_;refine g0 (i:=6) ?_ ?_
   ·exact S.nd
   refine g7 B1 ?_ ?_
   ·exact a3 6 (pv 6)
   refine m8 ?_ ?_
   ·exact a3 2 (pv 2)
   refine g7 A7 ?_ ?_
   ·exact i6 G3 hr (by decide) rfl (a8 (a8 f8)) (a4 (m8 (a3 0 (pv 0)) (g7 A7 (a3 8 (pv 8)) (A8 y4 rfl M.z_len (by rfl) (a3 0 (pv 0))))) (a4 (a3 8 (pv 8)) c9))
   exact A8 y4 rfl M.z_len (by rfl) (a3 2 (pv 2))
  exact d8 (K3 4 (pv 4) (a3 6 (pv 6)))
 exact d8 (l7 (a9f a09 rfl M.z_tuple (by rfl) (a3 4 (pv 4))))
theorem b9k{f:AB}{fd:FuncData}(F:Fun K "law" "law" b5x f fd)(M:MoB K mg)(G3:a05 P w K mg base)(Z4:a15 P w K mg base)(W1:a2j P w K mg base)(R3:a14 P w K mg base)(a1c:a3Z P w K mg base)(a0D:a2L P w K mg base):P5 P w K mg base CX0 12 f fd ["_law_script"] (spP K 1 b1C):=by
 refine b77 (k:=11) F b5z λcdv A outer s H E hr=> ?_;have S:=b5z;have hu:=hr.units
 ext b
 ·exact g0 (i:=1) S.nd (i6 G3 hr (by decide) rfl (a8 (a8 f8)) (a4 (i6 R3 hr (by decide) rfl (a8 (a8 f8)) (a4 (a3 0 (pv 0)) (a4 d9 c9))) (a4 d9 c9)))
 ext b
 ·exact g0 (i:=2) S.nd (i6 G3 hr (by decide) rfl (a8 (a8 f8)) (a4 (i6 R3 hr (by decide) rfl (a8 (a8 f8)) (a4 (a3 0 (pv 0)) (a4 d9 c9))) (a4 d9 c9)))
 ext b
 ·exact g0 (i:=3) S.nd (i6 Z4 hr (by decide) rfl (a8 (a8 f8)) (a4 (a3 2 (pv 2)) (a4 (g7 B1 d9 (g7 A7 (g7 a5R (a3 2 (pv 2)) d9) d9)) c9))) rfl (Or.inr rfl)
 ext b
 ·exact g0 (i:=4) S.nd (g7 B1 (b33 (a3 0 (pv 0)) (b1u d9) (b1u d9)) (M1 (a4 (A8 y4 rfl M.z_len (by rfl) (a3 0 (pv 0))) c9)))
 ext b
 ·refine W4 PassesOwn.never ?_ ?_ M.z_range ?_ ?_ (o8 5) ?_
  ·exact rfl
  ·exact rfl
  ·exact a4 (A8 y4 rfl M.z_len (by rfl) (a3 4 (pv 4))) c9
  ·exact i5 (i:=5) S.nd rfl (Or.inl rfl)
  ext b
  ·exact g0 (i:=6) S.nd (i6 G3 hr (by decide) rfl (a8 (a8 f8)) (a4 (m8 (a3 4 (pv 4)) (a3 5 (pv 5))) (a4 (g7 B1 (a3 5 (pv 5)) d9) c9)))
  refine d8 ?_;refine W5 3 ?_;refine W5 4 ?_;refine U0 ?_ ?_ ?_
  ·refine b0v ?_;refine a73 ?_;refine i6 a1c hr ?_ ?_ ?_ ?_
   ·decide
   ·exact rfl
   ·exact a8 (a8 f8)
   refine a4 ?_ ?_
   ·refine i6 a0D hr ?_ ?_ ?_ ?_
    ·decide
    ·exact rfl
    ·exact a8 (a8 (a8 (a8 f8)))
    exact a4 (a3 4 (pv 4)) (a4 (g7 B1 d9 (g7 A7 (g7 B1 (a3 1 (pv 1)) (a3 5 (pv 5))) d9)) (a4 (a3 3 (pv 3)) (a4 (g7 a5R (a3 6 (pv 6)) d9) c9)))
   exact a4 (g7 A7 (a3 6 (pv 6)) d9) c9
  ·exact d8 (l7 a2Q)
  exact G4
 ext b
 ·exact g0 (i:=7) S.nd (g7 B1 d9 (g7 A7 (g7 a5R (a3 1 (pv 1)) d9) d9)) rfl (Or.inr rfl)
 ext b
 ·refine g0 (i:=8) ?_ ?_
  ·exact S.nd
  refine a9f a09 ?_ M.z_tuple ?_ ?_
  ·exact rfl
  ·rfl
  exists y0,["_law_r"],["_law_script","_law_seed","_law_other","_law_letters_here","_law_cells","_law_k","_law_cell","_law_n","_law_carpet_here","_law_few","_law_size","_law_told"],12,b4P
  ·exact rfl
  ·exact a4y rfl M.z_range (a4 (a3 7 (pv 7)) c9)
  intro C fp pins s H;exact g7 A3 (m8 (a3 3 (pv 3)) d9) (a3 7 (pv 7))
 ext b
 ·refine b8O (is:=[9,10,11]) ?_ ?_ ?_
  ·exact rfl
  ·exact b6x W1 hr (by decide) rfl (a8 (a8 f8)) (a4 (a3 8 (pv 8)) (a4 (g7 A7 (a3 2 (pv 2)) d9) c9))
  exact K2 (i5 (i:=9) S.nd rfl (Or.inl rfl)) (K2 (i5 (i:=10) S.nd rfl (Or.inl rfl)) (K2 (i5 (i:=11) S.nd rfl (Or.inl rfl)) a27))
 refine d8 ?_;refine l7 ?_;refine a7Z ?_ ?_
 ·exact a5a (a0J hu) (a3 10 (pv 10)) (g7 A3 (g7 A3 d9 (a3 7 (pv 7))) (a3 7 (pv 7))) (by first|rfl|exact v7 _)
 exact a7Z (a5a (a0J hu) (m8 (a3 11 (pv 11)) d9) (a3 8 (pv 8)) (by first|rfl|exact v7 _)) (b0q (a5a (a0J hu) (m8 (a3 11 (pv 11)) d9) (M1 c9) (by first|rfl|exact v7 _)))
end
theorem b8z{l:PySem.W.OpenLaw}{w:AI}{K:AE}{h:Heap}{mg:Str->Option AA}{fa:AB}(X:K.In h)(G:h.Ns mainGlobals mg)(hfa:mg "law"=ξ (.ref fa))
 {K9:AB} {a5M a4X:Option AB} {a6h:Array (Option AA)} {a5L a5s a49 a5W a07 a43:AA}
 {C_CarpetError:AB}
 {C_TooLarge:AB}
 {f0_TooLarge:AB}
 {uu_WAYS:AA}
 {aa_LEADS:AB}
 {uu_TELLING:AA}
 {aa_TOLD:AB}
 {uu_GREATEST_BETTERED:AA}
 (G3:Df0 K "_law_mixed" a1z)
 (Z4:Df0 K "_law_letters" Z9)
 (R1:Df0 K "circles_key" Z7)
 (D9:Df0 K "all_movements" T3)
 (Q2:Df0 K "place_by" a2B)
 (a45:Df0 K "led" b5y)
 (a16:PySem.W.nsIn K mainGlobals "circle_from"=ξ (ξ (.ref K9))) (a2b:K.lookup K9=ξ ⟨a5L,a5M,.func (PySem.W.fnOf "circle_from" "circle_from" (O2 E7) (A6 E7) (c7 E7) .none a5s a49 a5W a4X a07 a43),a6h⟩) (a6C:PySem.W.codeIn K a07 "circle_from"=true) (a6I:PySem.W.keepIn K (.ref K9)=true) (a5i:b4W K "circle_from" K9=true)
 (a47:Df0 K "parted" a6b)
 (N1:Df0 K "circles" a3R)
 (W2:Df0 K "coloured_row" X4)
 (a2n:Df0 K "coloured" a2z)
 (N9:Df0 K "carpet_of_paper" P3)
 (a1K:Df0 K "size_of" a3T)
 (a48:Df0 K "unlike" a6c)
 (S8:Df0 K "told_of_paper" T6)
 (a0C:Df0 K "colours_of" a0Q)
 (O1:Df0 K "knots_by_colour" P4)
 (W0:Df0 K "best_colours" X3)
 (S6:Df0 K "chosen_colour" T4)
 (b0n:Df0 K "knot" b06)
 (a2o:Df0 K "knots_at" a2A)
 (S7:Df0 K "mended_circle" T5)
 (a1e:Df0 K "mended" a59)
 (O0:Df0 K "changes_to" a0P)
 (S9:Df0 K "wishes_within" T7)
 (a1b:Df0 K "is_within" a1x)
 (a0A:Df0 K "all_within" a0N)
 (a0B:Df0 K "best_group" a0O)
 (a2p:Df0 K "way_then" a2C)
 (b0o:Df0 K "then" b07)
 (a1J:Df0 K "made_of" a3S)
 (a46:Df0 K "needed" a6a)
 (a44:Df0 K "few_of" a58)
 (W1:Df0 K "bettered" a2y)
 (R3:Df0 K "_law_cell_at" Z8)
 (a1d:Df0 K "_law_whole" a1A)
 (a1c:Df0 K "_law_large" a1y)
 (a0D:Df0 K "_law_carpet" a0R)
 (c0B:Df0 K "law" b5x)
 (nk:a22 K=true)
 (nl:b66 K=true)
 (xa_CarpetError:PySem.W.nsIn K mainGlobals "CarpetError"=ξ (ξ (.ref C_CarpetError))) (xq_CarpetError:(a2s K C_CarpetError "CarpetError" && a6G K C_CarpetError)=true)
 (xa_TooLarge:PySem.W.nsIn K mainGlobals "TooLarge"=ξ (ξ (.ref C_TooLarge))) (xq_TooLarge:(a2s K C_TooLarge "TooLarge" && a6G K C_TooLarge)=true)
 (xf_TooLarge:b55 K C_TooLarge=true)
 (x0_TooLarge:PySem.W.findIn K (.ref C_TooLarge) "__init__"=ξ (ξ (.ref f0_TooLarge))) (xk_TooLarge:(a2s K C_TooLarge "TooLarge" && b9a K C_TooLarge)=true) (x1_TooLarge:a5g K C_TooLarge f0_TooLarge=true) (x2_TooLarge:(["many"]:List Str).all (λg=>PySem.W.findIn K (.ref C_TooLarge) g==ξ ζ)=true) (dm0_TooLarge:Dm K "__init__" "TooLarge.__init__" a4f f0_TooLarge)
 (xr_CarpetError:PySem.W.readsIn K C_CarpetError (.type "type")=true) (xg_CarpetError:PySem.W.findCls K (.ref C_CarpetError) (.type "type") "__init__"=ξ (.val (.builtin "ValueError.__init__"))) (xs_CarpetError:PySem.W.specialIn K (.ref C_CarpetError) "__getattribute__"=ξ (ξ (.builtin "type.__getattribute__")))
 (ks_TooLarge_CarpetError:PySem.W.kitOne K (.ref C_TooLarge) (.ref C_CarpetError)=ξ true)
 (ks_TooLarge_ValueError:PySem.W.kitOne K (.ref C_TooLarge) (.type "ValueError")=ξ true)
 (im_TooLarge_TooLarge:a9o K C_TooLarge C_TooLarge=true)
 (z_ValueError:PySem.W.nsIn K mainGlobals "ValueError"=ξ ζ)
 (z_all:PySem.W.nsIn K mainGlobals "all"=ξ ζ)
 (z_bool:PySem.W.nsIn K mainGlobals "bool"=ξ ζ)
 (z_enumerate:PySem.W.nsIn K mainGlobals "enumerate"=ξ ζ)
 (z_int:PySem.W.nsIn K mainGlobals "int"=ξ ζ)
 (z_isinstance:PySem.W.nsIn K mainGlobals "isinstance"=ξ ζ)
 (z_len:PySem.W.nsIn K mainGlobals "len"=ξ ζ)
 (z_max:PySem.W.nsIn K mainGlobals "max"=ξ ζ)
 (z_min:PySem.W.nsIn K mainGlobals "min"=ξ ζ)
 (z_range:PySem.W.nsIn K mainGlobals "range"=ξ ζ)
 (z_set:PySem.W.nsIn K mainGlobals "set"=ξ ζ)
 (z_sorted:PySem.W.nsIn K mainGlobals "sorted"=ξ ζ)
 (z_tuple:PySem.W.nsIn K mainGlobals "tuple"=ξ ζ)
 (e_WAYS:PySem.W.nsIn K mainGlobals "WAYS"=ξ (ξ uu_WAYS)) (q_WAYS:a0b K 40 uu_WAYS=ξ b1g)
 (e_LEADS:PySem.W.nsIn K mainGlobals "LEADS"=ξ (ξ (.ref aa_LEADS)))
 (t_LEADS:b98 K 9 aa_LEADS=ξ a3j) (h_LEADS:a1N K aa_LEADS=a3j.map (λkv=>b2Q w kv.1))
 (e_TELLING:PySem.W.nsIn K mainGlobals "TELLING"=ξ (ξ uu_TELLING)) (q_TELLING:a0b K 40 uu_TELLING=ξ a3W)
 (e_TOLD:PySem.W.nsIn K mainGlobals "TOLD"=ξ (ξ (.ref aa_TOLD)))
 (t_TOLD:b5M K 9 aa_TOLD=ξ a6s) (h_TOLD:a1N K aa_TOLD=a6s.map (λkv=>(tupleKind (f9 l.prog w)).hash kv.1))
 (e_GREATEST_BETTERED:PySem.W.nsIn K mainGlobals "GREATEST_BETTERED"=ξ (ξ uu_GREATEST_BETTERED)) (q_GREATEST_BETTERED:a0b K 40 uu_GREATEST_BETTERED=ξ t7)
 :∃fd:FuncData,(∀(s:AC) (v:AA),BindsTo s fd ⟨[v],[]⟩ [("_law_script",v)])/\∀base:Heap,K.In base->base.Ns mainGlobals mg->P5 l.prog w K mg base CX0 12 fa fd ["_law_script"] (a93 K):=by
 have C4:FnV K mg "circle_from" K9:=b8V (PySem.W.mg_of X G a16) a2b rfl a5i
 have R0:Df0 K "circle_from" E7:=b70 a16 a2b a6C a6I
 have x_CarpetError:XC K mg "CarpetError" C_CarpetError:=b8r X G xa_CarpetError xq_CarpetError
 have x_TooLarge:XC K mg "TooLarge" C_TooLarge:=b8r X G xa_TooLarge xq_TooLarge
 have M:MoB K mg:=⟨PySem.W.mg_none_of X G z_ValueError,PySem.W.mg_none_of X G z_all,PySem.W.mg_none_of X G z_bool,PySem.W.mg_none_of X G z_enumerate,PySem.W.mg_none_of X G z_int,PySem.W.mg_none_of X G z_isinstance,PySem.W.mg_none_of X G z_len,PySem.W.mg_none_of X G z_max,PySem.W.mg_none_of X G z_min,PySem.W.mg_none_of X G z_range,PySem.W.mg_none_of X G z_set,PySem.W.mg_none_of X G z_sorted,PySem.W.mg_none_of X G z_tuple,nk,nl⟩
 have mm_WAYS:=PySem.W.mg_of X G e_WAYS
 have mm_LEADS:=PySem.W.mg_of X G e_LEADS
 have tt_LEADS:Tab l.prog w K aa_LEADS a3j:=b99 9 t_LEADS h_LEADS (by decide+kernel)
 have mm_TELLING:=PySem.W.mg_of X G e_TELLING
 have mm_TOLD:=PySem.W.mg_of X G e_TOLD
 have tt_TOLD:b6f l.prog w K aa_TOLD a6s:=b7E 9 t_TOLD h_TOLD (by decide+kernel)
 have mm_GREATEST_BETTERED:=PySem.W.mg_of X G e_GREATEST_BETTERED
 have kx_TooLarge:KX K "TooLarge" C_TooLarge:=c0R xa_TooLarge xk_TooLarge
 have na_TooLarge:∀g∈(["many"]:List Str),Y8 K C_TooLarge g:=b8A x2_TooLarge
 have fx_many:a6U K ["TooLarge"] "many":=(b0x kx_TooLarge (na_TooLarge _ (by decide)) b2I)
 refine b6X (c0B.to X G) hfa (λ_ _ _ _ _ _ _=>rfl) main λbase f fd kb F=> ?_
 have xi_TooLarge:b6e l.prog w K mg base "TooLarge" ["many"] 1:=b4r (k:=0) dm0_TooLarge a8A rfl kx_TooLarge (PySem.W.mg_of X G xa_TooLarge) x1_TooLarge na_TooLarge (by decide+kernel) (by decide) (λ_ _ _ _ _ _=>el2 (λ_ _=>rfl)) λcdv A outer s H E hr=>(a28 (b5m rfl (PySem.W.mg_of X G xa_CarpetError) xr_CarpetError xg_CarpetError xs_CarpetError (u7 (pv 0) (u7 (pv 1) M6))) (a28 (b7k rfl (pv 0) (pv 1)) b10))
 have a3X:=a8p l.prog w base (G3.to X G)
 have a6z:=a5Q l.prog w base (Z4.to X G) M
 have a6x:=a5O l.prog w base (R1.to X G) M
 have a0U:=a3I l.prog w base (D9.to X G) M mm_WAYS q_WAYS
 have a4Q:=a9L l.prog w base (Q2.to X G) mm_LEADS tt_LEADS
 have b3t:=b9l l.prog w base (a45.to X G) a4Q
 have a12:=a5N l.prog w base (R0.to X G) M b3t
 have b3v:=b24 l.prog w base (a47.to X G) M C4 a12
 have a3l:=b0Z l.prog w base (N1.to X G) C4 b3v a12
 have a4P:=a4v l.prog w base (W2.to X G) M
 have b0c:=a9J l.prog w base (a2n.to X G) M a4P
 have a2E:=a2t l.prog w base (N9.to X G) M b0c
 have b2j:=b01 l.prog w base (a1K.to X G) M
 have b3w:=b25 l.prog w base (a48.to X G) M b2j
 have a4q:=a3L l.prog w base (S8.to X G) M a2E b3w
 have a7O:=a6R l.prog w base (a0C.to X G) M
 have a2G:=a2u l.prog w base (O1.to X G) a7O
 have a4N:=a4u l.prog w base (W0.to X G) M
 have a4o:=a3J l.prog w base (S6.to X G) a4N
 have b8s:=b68 l.prog w base (b0n.to X G) M
 have b0d:=a9K l.prog w base (a2o.to X G) b8s
 have a4p:=a3K l.prog w base (S7.to X G) a2G a4o b0d
 have a8T:=b22 l.prog w base (a1e.to X G) M a3l a4q a4p
 have a2F:=a6Q l.prog w base (O0.to X G) M a8T
 have a4r:=a3M l.prog w base (S9.to X G) M a6x a0U a3l a2F
 have a8Q:=a8n l.prog w base (a1b.to X G) M b3t
 have a7M:=a6O l.prog w base (a0A.to X G) M a3l a0U a8Q
 have a7N:=a6P l.prog w base (a0B.to X G) M a4r a7M a2F
 have b0e:=a9M l.prog w base (a2p.to X G) mm_TELLING q_TELLING mm_TOLD tt_TOLD a4Q
 have b8t:=b69 l.prog w base (b0o.to X G) b3t b0e
 have b2h:=b00 l.prog w base (a1J.to X G) M b8t
 have b3u:=b23 l.prog w base (a46.to X G) M b2h
 have b3s:=b21 l.prog w base (a44.to X G) M b3u
 have a4O:=a9I l.prog w base (W1.to X G) M xi_TooLarge mm_GREATEST_BETTERED q_GREATEST_BETTERED a7N b3s a8T
 have a6y:=a5P l.prog w base (R3.to X G) M
 have a8S:=a8q l.prog w base (a1d.to X G) M
 have a8R:=a8o l.prog w base (a1c.to X G) M x_CarpetError x_TooLarge ks_TooLarge_CarpetError ks_TooLarge_ValueError xf_TooLarge fx_many im_TooLarge_TooLarge a4O a8S
 have a7P:=a6S l.prog w base (a0D.to X G) M a3X
 exact b9k l.prog w base F M a3X a6z a4O a6y a8R a7P
end LW
namespace PySem.W.Fast
def tw10770344636413320502:=()
def tw9396135147768198856:=()
def tw1510706924353978141:=()
def tw3107013118370191718:=()
def tw2012945962180890637:=()
def tw986888071441487949:=()
def tw5185983256674991882:=()
def tw11354533668211371028:=()
def tw7564799690644528613:=()
def tw10312399176323624965:=()
def tw17786179926546847974:=()
def tw14466659077686345380:=()
def tw8327089185194403210:=()
def tw14526217767294577496:=()
def tw8085462006631680025:=()
def tw16355556487812542992:=()
def tw12727460574539784131:=()
def tw8745442454367744613:=()
def tw14814314076844875172:=()
def tw7835972086026648931:=()
def tw9484725125916614489:=()
def tw15020308498964561411:=()
def tw15215187822597085171:=()
def tw14202880237632113846:=()
def tw10438584485954525031:=()
def tw15020063221220710692:=()
def tw17132573728202559750:=()
def tw7160081773834840543:=()
def tw5586434241443989668:=()
def tw13528732182849101124:=()
def tw3947965742043308897:=()
def tw18089863887292928774:=()
def tw13309460166827264332:=()
def tw12416373331891641223:=()
def tw511802568504983640:=()
def tw2853406932184693602:=()
def tw6788360834304547663:=()
def tw12747104589534476978:=()
def tw15365025228594969211:=()
def tw9434512655422455880:=()
def tw6927618915623006705:=()
def tw4506747665103286594:=()
def tw2470407274867424185:=()
def tw6356187513023205154:=()
def tw4573915250550688079:=()
def tw13633478083409593216:=()
def tw6124593849471658237:=()
def tw3901204490305774799:=()
def tw4122051886806948459:=()
def tw4989184060389403651:=()
def tw3485840746286665439:=()
def tw2833168555401652476:=()
def tw14309691810145207788:=()
def tw2403195400925848230:=()
def tw2590626676371681876:=()
def tw3421034880427801809:=()
def tw6185002954166246205:=()
def tw3562114192645626004:=()
def tw1999377667127014511:=()
def tw7593352718583778830:=()
def tw10025992158946816331:=()
def tw4221407882739423228:=()
def tw96394933954868330:=()
def tw112523763137380587:=()
def tw3799245092997848614:=()
def tw8641963447940132924:=()
def tw17604723665558359281:=()
def tw18444206090434600687:=()
def tw12969821245680169344:=()
def tw14458703175880236899:=()
def tw7115854555117222632:=()
def tw13535583797572788849:=()
def tw3520239223786459713:=()
def tw554448708629977836:=()
def tw245577141151615689:=()
def tw9275817937011647921:=()
def tw13933780332999159540:=()
def tw12930342502272618055:=()
def tw2495478602738534860:=()
def tw15323278606366974763:=()
def tw260181818220357691:=()
def tw17410096523725126491:=()
def tw3863800656744366924:=()
def tw16644729509467024897:=()
def tw14274806025668992885:=()
def tw4120543134663161075:=()
def tw16503561355161211823:=()
def tw15566678768984350906:=()
def tw17306996934061492151:=()
def tw17669918218133810189:=()
def tw12219107860759816695:=()
def tw10530691653901093104:=()
def tw5509363839904645826:=()
def tw6709694708178222528:=()
end PySem.W.Fast
open PySem PySem.W PyProof.Rows
set_option maxRecDepth 100000 in
set_option maxHeartbeats 0 in
theorem PySem.Challenge.cw_carpetkin_k95_bettered_refused_holds : PySem.Challenge.rw_carpetkin_k95_bettered_refused.Holds := by
 w_on;o_law;k_head;(case hw=>w_witness2)
 k_fill
 refine PU.c1W (k:=12) (x:="_law_script") (l:=PySem.Challenge.rw_carpetkin_k95_bettered_refused) (by decide) rfl rfl (fun w h Y=>PySem.W.kIn_of Y) ?F
 case F=>
  intro w mg fa h KX G hmg;refine' LW.b8z KX G hmg ?_ ?_ ?_ ?_ ?_ ?_ ?_ ?_ ?_ ?_ ?_ ?_ ?_ ?_ ?_ ?_ ?_ ?_ ?_ ?_ ?_ ?_ ?_ ?_ ?_ ?_ ?_ ?_ ?_ ?_ ?_ ?_ ?_ ?_ ?_ ?_ ?_ ?_ ?_ ?_ ?_ ?_ ?_ ?_ ?_ ?_ ?_ ?_ ?_ ?_ ?_ ?_ ?_ ?_ ?_ ?_ ?_ ?_ ?_ ?_ ?_ ?_ ?_ ?_ ?_ ?_ ?_ ?_ ?_ ?_ ?_ ?_ ?_ ?_ ?_ ?_ ?_ ?_ ?_ ?_ ?_ ?_ ?_ ?_ ?_ ?_
  all_goals first|(apply PU.b70<;>k_is)|(apply PU.c0E<;>first|k_is|kernel_rfl)|k_is|kernel_rfl|skip
