import PyProof.Rows.All
import Wide.All
import OpenK.AllK
import Wide.FinOn
import Lean
import PyProof.EqAt
import PyProof.EqKinds
import PyProof.TupleCall
import PyProof.Rows.SortPure
import PyProof.Rows.SortWalk
import PyProof.AttrMissHeap
import KE.KDictOf
import KE.KIntText
import PyProof.StrBlockH
import PyProof.CallStr
import PyProof.StrLawsIn
import PyProof.StrLawsOcc
import PyProof.StationsW
import PyProof.ExcClass2
import PyProof.ExcBaseAll.ValueError
import PyProof.RulesTry
import PyProof.Rows.CatchBare
import PyProof.Rows.CatchOwn
import OpenK.KOwn
import PyProof.NsDelKeeps
import PyProof.Rows.RuleDivmod
import PyProof.Rows.SumAny
import PyProof.ExcInit
import PyProof.InstStore
import OpenK.KMake
import PyProof.InstStoreFacts
import PyProof.ExcAttrAll.ValueError
import OpenK.KCls
import PyProof.IsiTuple
import PySem.Challenge.RW_carpetkin_k24_sizes
set_option hygiene false in
local macro_rules
|`(tactic|simp! [$a,*])=>`(tactic|simp (disch:=omega) only [$a,*])
|`(tactic|simp! [$a,*] at $l:ident)=>`(tactic|simp (disch:=omega) only [$a,*] at $l:ident)
set_option hygiene false in
local macro_rules
|`(tactic|ext a)=>`(tactic|(refine a3T (i:=3) ?_ (a2q (b8 j6 O.kc_Plain O.fi_Plain_size (by lia) rfl (b8 j5 O.kc_Named O.fi_Named_size (by lia) rfl (b8 g.d_Beside_size O.kc_Beside O.fi_Beside_size (by lia) rfl (b8 g.d_Above_size O.kc_Above O.fi_Above_size (by lia) rfl (b8 g.d_Across_size O.kc_Across O.fi_Across_size (by lia) rfl (b8 g.d_Down_size O.kc_Down O.fi_Down_size (by lia) rfl (b8 g.d_Turned_size O.kc_Turned O.fi_Turned_size (by lia) rfl (b8 g.d_Dyed_size O.kc_Dyed O.fi_Dyed_size (by lia) rfl J9)))))))) hr hx (P6 O.fld_part (d6 0)) (a9 (a9 d8)) (a6 (d6 1) (a6 (d6 2) b7)))))
|`(tactic|ext b)=>`(tactic|(refine b9 ?_ ?_))
|`(tactic|ext c)=>`(tactic|(intro pins s σ H x y v u Q I rx ry h;obtain⟨F,ra,rb,rz,s0,h1,h2,h3,k⟩:=h))
|`(tactic|ext d)=>`(tactic|(refine(B8 (l:=[.str (AD "name"),.str (AD "misfit"),.str (AD "wide")]) rfl).trans ?_;refine(b4 (a6S (a7G (U2 rfl)) rfl)).trans ?_;refine(b4 (U2 rfl)).trans ?_;refine(b4 (a6S (a7G (U2 rfl)) (a6S (U2 rfl) (D3 (r:= .v (.int (j:Nat))) rfl (q:= .v (.int (j:Nat))) rfl nej)))).trans ?_))
|`(tactic|ext e)=>`(tactic|(intro pins s σ H xs us Q I rv h;obtain⟨F,x,rx,rz,rfl,s0,h1,h2,k⟩:=h))
|`(tactic|ext f)=>`(tactic|(intro pins s σ H Q I h))
|`(tactic|ext g)=>`(tactic|(intro X hP hw hK hc i pins s σ H E I hf st hg;subst hP hw hK))
|`(tactic|ext h)=>`(tactic|(intro X hP hw hK hc i pins s σ H I fi st hg;subst hP hw hK))
|`(tactic|ext i)=>`(tactic|(refine(A3 (B5 (r:= .v (PR d)) (p:=PR d) (ps:=T.map PR) rfl rfl rfl (by rw [AX];lia))).trans ?_))
|`(tactic|ext j)=>`(tactic|(obtain⟨o,e,c,d⟩:=st;exact⟨o,e,λv z=>by rw [d] at z;cases z⟩))
|`(tactic|ext k)=>`(tactic|(obtain⟨ps,e1,e⟩:=bind_some e;obtain⟨qs,e1,e2⟩:=bind_some e1;refine⟨F,ρ,qs,so.e,e1,λvs F1 H1 x rl=> ?_⟩;split at e2))
|`(tactic|ext l)=>`(tactic|(have hu:=hr.units;refine x6 ?_ ?_))
|`(tactic|ext m)=>`(tactic|(intro pins s σ H x y v u Q I rx ry h))
|`(tactic|ext n)=>`(tactic|(show AH (model P w) _ (leaving (envOfC qual scope s.heap.objs.size f cd) (.ref a)) _ _ s';unfold leaving;have hfree:∀b∈(envOfC qual scope s.heap.objs.size f cd::outer).filterMap (·.frame),H2 b=ζ:=J.stkFree))
|`(tactic|ext o)=>`(tactic|(cases e;obtain⟨C,h1,h2⟩:=fin;exact⟨C,h1,λa F' H' y hn=>h2 σ a F' H' y.f (so.ext y) hn⟩))
|`(tactic|ext p)=>`(tactic|(intro pins s σ H x v vl vu lo hi sl Q I rx hs pl pu h;obtain⟨a,xs,rfl,hx,hw,q⟩:=h;cases rx;obtain⟨its,r,ht,hz⟩:=I.tuple hx;have hlen:its.toArray.size=xs.length:=by rw [Ae];exact r.length.symm))
|`(tactic|ext q)=>`(tactic|(obtain⟨f0,f1,f2,f3,f4,f5⟩:=hf it (by simp)))
|`(tactic|ext r)=>`(tactic|(obtain⟨r,e1,e⟩:=bind_some e))
|`(tactic|ext s)=>`(tactic|(obtain⟨t,rfl⟩:=rx;obtain⟨t',rfl⟩:=ry))
|`(tactic|ext t)=>`(tactic|(refine⟨T.keep _ _ _ st7 λb hb o e=>(I8.pin (b,o) (Al _ (Al _ (Q4 hb e)))).1,λb hb=> ?_⟩;obtain⟨o,e,d⟩:=T.obj _ _ st7 b hb;exact(I8.pin (b,o) (Al _ (Al _ (Q4 hb e)))).2.1))
|`(tactic|ext u)=>`(tactic|(rw [es] at t1;have t1:=t1.trans (show ξ (isS (Z8 (.inr q))||false)=ξ true by cases q<;>rfl)))
|`(tactic|ext v)=>`(tactic|(obtain⟨ps,e1,e⟩:=bind_some e;obtain⟨q,e1,e2⟩:=bind_some e1;obtain⟨r,e1,e3⟩:=bind_some e1;refine⟨F,ρ,r,so.e,e1,λv F' H' o=> ?_⟩;obtain⟨F1,o1⟩:=o.toVal e3))
|`(tactic|ext w)=>`(tactic|(rw [D1] at ok))
|`(tactic|ext x)=>`(tactic|(refine D5 (hi pins s σ H _ I h) λiv s1 h0=>k9 h0 λy H1 I1 ry q1=>D5 (ho pins s1 σ H1 _ I1 q1) λu s2 ⟨x,H2,I2,rx,a,ov,ex,g,q2⟩=> ?_;subst ex;obtain rfl:u=Value.ref a:=rx))
set_option hygiene false in
local macro_rules
|`(tactic|exists z0,$k,$s,$e)=>`(tactic|(refine C3 (k:=$k) D $s (λ_ _ _ _ _ _=>$e) λf cdv A outer s H E hr=> ?_;have S:=$s;have hu:=hr.units))
|`(tactic|exists y0,$y,$n,$i,$d)=>`(tactic|refine a5J (ys:=$y) (N0:=$n) (λ_ _ h=>h) ?_ ⟨by kernel_rfl,rfl,of_decide_eq_true rfl,of_decide_eq_true rfl,of_decide_eq_true rfl⟩ ?_ (λC fp pins s H=>u4 (i:=$i) $d rfl (Or.inl rfl)) (λn h=>M3 (i:=$i) (Nat.le_of_eq h)) (λC fp pins s H=>a4A) ?_)
set_option Elab.async false
set_option linter.all false
set_option maxRecDepth 100000
noncomputable section
open PySem renaming Addr -> AA
open PySem renaming Value -> AB
open PySem renaming Shared -> AC
open PySem.Str renaming ofString -> AD
open PySem.W renaming Frag -> AE
open PySem renaming Expr -> AF
open PySem renaming wpAny_bind -> AG
open PySem renaming wpAny -> AH
open PySem renaming World -> AI
open PySem renaming Program -> AJ
open PySem renaming Around -> AK
open PySem renaming starEach -> AL
open PySem renaming sizeLine -> AM
open PySem renaming wpAny_pure -> AN
open List renaming replicate -> AO
open Nat renaming le_refl -> AQ
open Option renaming bind_some -> AR
open List renaming map_cons -> AS
open PySem.Heap renaming lt_size -> AT
open List renaming length_cons -> AU
open PySem.Heap renaming get?_push_of_some -> AV
open List renaming length_append -> AW
open List renaming length_map -> AX
open List renaming mem_cons_of_mem -> AY
open Nat renaming ne_of_lt -> AZ
open List renaming mem_cons_self -> Aa
open List renaming range -> Ab
open List renaming getElem?_eq_some_iff -> Ac
open List renaming size_toArray -> Ae
open Bool renaming false_ne_true -> Af
open List renaming mem_cons -> Ag
open List renaming append_nil -> Ah
open Nat renaming lt_of_lt_of_le -> Ai
open List renaming length_nil -> Aj
open PySem.Heap renaming get?_push_size -> Ak
open List renaming mem_append_right -> Al
open List renaming getElem?_map -> Am
open List renaming mem_append -> An
open List renaming map_append -> Ao
open List renaming replicate_succ -> Aq
open List renaming getElem?_append_left -> Ar
open Bool renaming false_eq_true -> As
open List renaming map_map -> At
open List renaming getElem?_eq_getElem -> Au
open List renaming map_nil -> Av
open List renaming mem_map -> Aw
open Nat renaming le_of_lt -> Ax
open List renaming mem_append_left -> Ay
open List renaming mem_of_getElem? -> Az
open List renaming length_range -> BA
open List renaming getElem?_set_self -> BB
open Option renaming some→ξ,none→ζ
namespace L2
open PySem PySem.Spec PyProof.Rows
theorem n8{α β γ:Type _}{p q r:α->β->γ->Prop}{C:Prop}(h:∃a b c,p a b c/\q a b c/\r a b c)(k:∀a b c,p a b c->q a b c->r a b c->C):C:=
 h.elim λa h=>h.elim λb h=>h.elim λc h=>k a b c h.1 h.2.1 h.2.2
theorem k9{α β:Type _}{p q r:α->β->Prop}{C:Prop}(h:∃a b,p a b/\q a b/\r a b)(k:∀a b,p a b->q a b->r a b->C):C:=
 h.elim λa h=>h.elim λb h=>k a b h.1 h.2.1 h.2.2
theorem a3S{α β:Type _}{p q r s:α->β->Prop}{C:Prop}(h:∃a b,p a b/\q a b/\r a b/\s a b)(k:∀a b,p a b->q a b->r a b->s a b->C):C:=
 h.elim λa h=>h.elim λb h=>k a b h.1 h.2.1 h.2.2.1 h.2.2.2
abbrev n5:=Sum Int Str
def a30:n5->AB->Bool
 | .inl k,v=>Value.isInt k v
 | .inr x,v=>Value.isStrOf x v
def c0k(w:AI):n5->Int
 | .inl k=>hashInt k
 | .inr x=>hashStr w x
theorem B4:∀{k:n5} {v:AB},a30 k v=true->(∃i t,k=Sum.inl i/\v=Value.int i t)\/(∃x t,k=Sum.inr x/\v=Value.str x t)
 | .inl i,v,h=>by
   obtain⟨t,e⟩:=Value.isInt_shape (k:=i) (v:=v) h;exact .inl ⟨i,t,rfl,e⟩
 | .inr x,v,h=>by
   obtain⟨t,e⟩:=Value.isStrOf_shape (x:=x) (v:=v) h;exact .inr ⟨x,t,rfl,e⟩
theorem b3D(i:Int)(t:Tok):a30 (.inl i) (.int i t)=true:=by simp [a30,Value.isInt]
theorem b3F(x:Str)(t:Tok):a30 (.inr x) (.str x t)=true:=by simp [a30,Value.isStrOf]
theorem b83(a b:Int):decide ((Sum.inl a:n5)=Sum.inl b)=(a==b):=by
 by_cases e:a=b
 ·subst e;simp
 ·have h:¬(Sum.inl a:n5)=Sum.inl b:=λq=>e (Sum.inl.inj q);rw [decide_eq_false h];exact(beq_eq_false_iff_ne.mpr e).symm
theorem b86(a b:Str):decide ((Sum.inr a:n5)=Sum.inr b)=decide (a=b):=by
 by_cases e:a=b
 ·subst e;simp
 ·have h:¬(Sum.inr a:n5)=Sum.inr b:=λq=>e (Sum.inr.inj q);rw [decide_eq_false h,decide_eq_false e]
theorem b84(a:Int)(b:Str):decide ((Sum.inl a:n5)=Sum.inr b)=false:=decide_eq_false (λq=>nomatch q)
theorem b85(a:Str)(b:Int):decide ((Sum.inr a:n5)=Sum.inl b)=false:=decide_eq_false (λq=>nomatch q)
def v0(prog:AJ)(w:AI):PySem.KeyKind prog w n5 where
 is:=a30
 hash:=c0k w
 inj:=λv a b ha hb=>by
  rcases B4 ha with⟨i,t,rfl,rfl⟩|⟨x,t,rfl,rfl⟩
  ·rcases B4 hb with⟨j,u,rfl,e⟩|⟨y,u,rfl,e⟩
   ·injection e with e1 _;rw [e1]
   ·exact nomatch e
  ·rcases B4 hb with⟨j,u,rfl,e⟩|⟨y,u,rfl,e⟩
   ·exact nomatch e
   ·injection e with e1 _;rw [e1]
 byValue:=λk v h=>by
   rcases B4 h with⟨i,t,rfl,rfl⟩|⟨x,t,rfl,rfl⟩<;>rfl
 pyHash:=λhv h=>by
  rcases B4 hv with⟨i,t,rfl,rfl⟩|⟨x,t,rfl,rfl⟩
  ·exact wpAny_pyHash_int h
  ·exact wpAny_pyHash_str h
 eqBool:=λhu hv h=>by
  rcases B4 hu with⟨i,t,rfl,rfl⟩|⟨x,t,rfl,rfl⟩
  ·rcases B4 hv with⟨j,u,rfl,rfl⟩|⟨y,u,rfl,rfl⟩
   ·rw [b83] at h;exact wpAny_eqBool_int h
   ·rw [b84] at h;exact SeqAt.EqAt.int_str i t y u _ _ _ _ h
  ·rcases B4 hv with⟨j,u,rfl,rfl⟩|⟨y,u,rfl,rfl⟩
   ·rw [b85] at h;exact SeqAt.EqAt.str_int x t j u _ _ _ _ h
   ·rw [b86] at h;exact wpAny_eqBool_str h
 «strs»:=λk x t v h=>by
  rcases B4 h with⟨i,u,rfl,e⟩|⟨y,u,rfl,e⟩
  ·exact nomatch e
  ·injection e with e1 _
   subst e1;cases v<;>rfl
theorem a5m(prog:AJ)(w:AI)(i:Int)(t:Tok):(v0 prog w).is (.inl i) (.int i t)=true:=b3D i t
theorem a5n(prog:AJ)(w:AI)(x:Str)(t:Tok):(v0 prog w).is (.inr x) (.str x t)=true:=b3F x t
inductive V where
 |non|bl (b:Bool)|int (i:Int)|str (x:Str)|byt (b:Array UInt8)|flt (b:UInt64)|ref (a:AA)|ty (n:String)
 deriving DecidableEq
def l8:V->AB->Prop
 | .non,u=>u=Value.none
 | .bl b,u=>u=Value.bool b
 | .int i,u=>∃t,u=Value.int i t
 | .str x,u=>∃t,u=Value.str x t
 | .byt b,u=>∃t,u=Value.bytes b t
 | .flt b,u=>∃t,u=Value.float b t
 | .ref a,u=>u=Value.ref a
 | .ty n,u=>u=Value.type n
abbrev l9:List V->List AB->Prop:=Paired l8
theorem l9.length{xs:List V}{us:List AB}(r:l9 xs us):xs.length=us.length:=Paired.length r
theorem l9.get:∀{xs:List V} {us:List AB} {i:Nat} {x:V},l9 xs us->xs[i]?=ξ x->∃u,us[i]?=ξ u/\l8 x u
 |_,_,_,_,.nil,e=>by simp at e
 |_,_,0,_,.cons r _,e=>by simp at e;subst e;exact⟨_,rfl,r⟩
 |_,_,i+1,x,.cons _ t,e=>by
  obtain⟨u,h1,h2⟩:=l9.get (i:=i) (x:=x) t (by simpa using e)
  exact⟨u,by simpa using h1,h2⟩
theorem l9.append:∀{xs ys:List V} {us ws:List AB},l9 xs us->l9 ys ws->l9 (xs++ys) (us++ws)
 |_,_,_,_,.nil,s=>s
 |_,_,_,_,.cons r t,s=> .cons r (l9.append t s)
theorem l9.take:∀{xs:List V} {us:List AB} (n:Nat),l9 xs us->l9 (xs.take n) (us.take n)
 |_,_,0,_=> .nil
 |_,_,_+1,.nil=> .nil
 |_,_,n+1,.cons r t=> .cons r (l9.take n t)
theorem l9.drop:∀{xs:List V} {us:List AB} (n:Nat),l9 xs us->l9 (xs.drop n) (us.drop n)
 |_,_,0,r=>r
 |_,_,_+1,.nil=> .nil
 |_,_,n+1,.cons _ t=>l9.drop n t
def Z6:Option V->Option AB->Prop
 |some v,ξ u=>l8 v u
 |none,ζ=>True
 |_,_=>False
def KV{κ:Type}:List (κ×V)->List (κ×AB)->Prop:=Paired λ(p:κ×V) (q:κ×AB)=>p.1=q.1/\l8 p.2 q.2
def kV:n5->V
 | .inl i=> .int i
 | .inr x=> .str x
inductive HO where
 |lst (xs:List V)
 |tup (xs:List V)
 |dK (kvs:List (n5×V))|dT (kvs:List (List n5×V))
 |set (S:Int->Bool) (n:Nat)
 |ins (C dx:AA) (fs:List (Str×V))
 |own (x:AA)
 |xd (fs:List (Str×V))
 |met (f x:AA)
 |rng (lo hi:Int)
 |frz (o:Obj) (u:HO)
 |tbl (ps:Array AB)
 |ext (φ:Heap->Prop)
abbrev Hp:=AA->Option HO
def m9(H:Hp)(a:AA)(o:HO):Hp:=λb=>if b=a then ξ o else H b
theorem i3{H:Hp}{a:AA}{o:HO}:m9 H a o a=ξ o:=by unfold m9;rw [if_pos rfl]
theorem g6{H:Hp}{a b:AA}{o:HO}(h:b≠a):m9 H a o b=H b:=by unfold m9;rw [if_neg h]
theorem a5S{H:Hp}{a:AA}{o u:HO}:m9 (m9 H a o) a u=m9 H a u:=by
 funext b;unfold m9;split<;>rfl
theorem b0l{H:Hp}{a b:AA}{o u:HO}(h:H a=ξ o)(h':H b=ξ u)(d:o≠u):a≠b:=by
 intro e;subst e;rw [h] at h';exact d (Option.some.inj h')
theorem i5{H:Hp}{a b:AA}{o:HO}(h:H a=ξ o)(h':H b=ζ):a≠b:=by
 intro e;subst e;rw [h] at h';cases h'
section
variable (P:AJ)(w:AI)
def C7(H:Hp)(h:Heap)(a:AA):HO->Prop
 | .lst xs=>xs.length<=AM/\∃(its:List AB) (n:Nat),l9 xs its/\h.get? a=ξ {cls:= .type "list",data:= .seq its.toArray n}
 | .tup xs=>xs.length<=AM/\∃its:List AB,l9 xs its/\IsTup h a its.toArray
 | .dK kvs=>kvs.length<=AM/\(a==sysModules)=false/\∃vs,KV kvs vs/\h.DictOf (v0 P w) a vs
 | .dT kvs=>kvs.length<=AM/\(a==sysModules)=false/\∃xs:List (List n5×AA×AB),
  Paired (λ(p:List n5×V) (q:List n5×AA×AB)=>p.1=q.1/\H q.2.1=ξ (.tup (p.1.map kV))/\l8 p.2 q.2.2) kvs xs/\
  ∃o es ep,h.get? a=ξ o/\o.ExactDict/\o.data= .dict es ep/\es.toList=xs.map (entryOfKey (tupleKind (v0 P w)))/\(xs.map (·.1)).Nodup
 | .set S n=>h.SetOf (intKind P w) a S n
 | .ins C dx fs=>H dx=ξ (.own a)/\fs.length<=1000/\dx≠a/\h.get? a=ξ (PySem.W.instObj C dx)/\
  ∃mA,h.Ns1 dx mA/\(∀f,Z6 (fs.lookup f) (mA f))/\PySem.Within mA (fs.map (·.1))
 | .own _=>∃o,h.get? a=ξ o
 | .xd fs=>∃mA,h.Ns1 a mA/\∀f,Z6 (fs.lookup f) (mA f)
 | .rng lo hi=>∃t u v,h.get? a=ξ {cls:= .type "range",data:= .fields #[.int lo t,.int hi u,.int 1 v]}
 | .frz o u=>h.get? a=ξ o/\C7 H h a u
 | .tbl ps=>h.get? a=ξ {cls:= .none,data:= .fields ps}
 | .met f x=>h.get? a=ξ (PySem.W.methodObj (.ref f) (.ref x))
 | .ext φ=>φ h/\(∃o,h.get? a=ξ o)/\∀h1 h2:Heap,φ h1->(∀o,h1.get? a=ξ o->h2.get? a=ξ o)->φ h2
def HOk(H:Hp)(h:Heap):Prop:=∀a o,H a=ξ o->C7 P w H h a o
end
section
variable {P:AJ}{w:AI}{H H':Hp}{h h':Heap}{a:AA}{o:HO}
theorem C7.lt(x:C7 P w H h a o):a<h.objs.size:=by
 cases o with
 |lst xs=>obtain⟨_,_,_,_,e⟩:=x;exact AT e
 |tup xs=>obtain⟨_,_,_,p⟩:=x;exact p.lt
 |dK kvs=>obtain⟨_,_,_,_,o,_,_,e,_⟩:=x;exact AT e
 |dT kvs=>obtain⟨_,_,_,_,o,_,_,e,_⟩:=x;exact AT e
 |set S n=>obtain⟨o,_,_,_,e,_⟩:=x;exact AT e
 |ins C dx fs=>obtain⟨_,_,_,e,_⟩:=x;exact AT e
 |own y=>obtain⟨_,e⟩:=x;exact AT e
 |xd fs=>obtain⟨_,⟨_,_,_,e,_⟩,_⟩:=x;exact AT e
 |rng lo hi=>obtain⟨_,_,_,e⟩:=x;exact AT e
 |frz ob u=>obtain⟨e,_⟩:=x;exact AT e
 |tbl ps=>exact AT (show h.get? a=ξ _ from x)
 |met f y=>exact AT (show h.get? a=ξ _ from x)
 |ext φ=>obtain⟨_,⟨_,e⟩,_⟩:=x;exact AT e
theorem Paired.mapP{α β:Type}{F G:α->β->Prop}:∀{l₁:List α} {l₂:List β},Paired F l₁ l₂->(∀a b,F a b->G a b)->Paired G l₁ l₂
 |_,_,.nil,_=> .nil
 |_,_,.cons r t,f=> .cons (f _ _ r) (Paired.mapP t f)
theorem C7.stay(x:C7 P w H h a o)(k:∀b u,(b=a\/H b=ξ (.own a))->h.get? b=ξ u->h'.get? b=ξ u)
 (ho:∀b,H b=ξ (.own a)->H' b=ξ (.own a)) (ht:∀b xs,H b=ξ (.tup xs)->H' b=ξ (.tup xs)):C7 P w H' h' a o:=by
 induction o with
 |lst xs=>obtain⟨z,its,n,r,e⟩:=x;exact⟨z,its,n,r,k _ _ (.inl rfl) e⟩
 |tup xs=>obtain⟨z,its,r,ob,e,c⟩:=x;exact⟨z,its,r,ob,k _ _ (.inl rfl) e,c⟩
 |dK kvs=>obtain⟨z,y,vs,r,ob,es,ep,e,c⟩:=x;exact⟨z,y,vs,r,ob,es,ep,k _ _ (.inl rfl) e,c⟩
 |dT kvs=>
  obtain⟨z,y,xs,r,ob,es,ep,e,c⟩:=x
  exact⟨z,y,xs,Paired.mapP r λp q z=>⟨z.1,ht _ _ z.2.1,z.2.2⟩,ob,es,ep,k _ _ (.inl rfl) e,c⟩
 |set S n=>obtain⟨ob,es,ep,t,e,c⟩:=x;exact⟨ob,es,ep,t,k _ _ (.inl rfl) e,c⟩
 |ins C dx fs=>
  obtain⟨d,z,ne,e,mA,⟨od,es,ep,e2,c⟩,r⟩:=x
  exact⟨ho _ d,z,ne,k _ _ (.inl rfl) e,mA,⟨od,es,ep,k _ _ (.inr d) e2,c⟩,r⟩
 |own y=>obtain⟨ob,e⟩:=x;exact⟨ob,k _ _ (.inl rfl) e⟩
 |xd fs=>obtain⟨mA,⟨od,es,ep,e,c⟩,r⟩:=x;exact⟨mA,⟨od,es,ep,k _ _ (.inl rfl) e,c⟩,r⟩
 |rng lo hi=>obtain⟨t,u,v,e⟩:=x;exact⟨t,u,v,k _ _ (.inl rfl) e⟩
 |frz ob u ih=>obtain⟨e,q⟩:=x;exact⟨k _ _ (.inl rfl) e,ih q⟩
 |tbl ps=>
  have e:h.get? a=ξ {cls:= .none,data:= .fields ps}:=x
  show h'.get? a=ξ {cls:= .none,data:= .fields ps}
  exact k a _ (.inl rfl) e
 |met f y=>
  have e:h.get? a=ξ (PySem.W.methodObj (.ref f) (.ref y)):=x
  show h'.get? a=ξ (PySem.W.methodObj (.ref f) (.ref y))
  exact k a _ (.inl rfl) e
 |ext φ=>obtain⟨p,⟨o,e⟩,st⟩:=x;exact⟨st _ _ p λo q=>k _ _ (.inl rfl) q,⟨o,k _ _ (.inl rfl) e⟩,st⟩
theorem HOk.lt(x:HOk P w H h)(e:H a=ξ o):a<h.objs.size:=(x a o e).lt
theorem HOk.fresh(x:HOk P w H h)(e:h.objs.size<=a):H a=ζ:=by
 cases q:H a with
 |none=>rfl
 |some u=>exact absurd (Ai (x.lt q) e) (Nat.lt_irrefl _)
theorem HOk.kept(x:HOk P w H h)(k:∀b u,h.get? b=ξ u->h'.get? b=ξ u):HOk P w H h':=λa o e=>
 (x a o e).stay (λb u _ q=>k b u q) (λ_ q=>q) λ_ _ q=>q
theorem HOk.laid(x:HOk P w H h)(k:∀b u,h.get? b=ξ u->h'.get? b=ξ u)(hp:h.objs.size<=a)(new:C7 P w (m9 H a o) h' a o):HOk P w (m9 H a o) h':=λb u e=>by
 have hn:=x.fresh hp
 by_cases hb:b=a
 ·subst hb;rw [i3] at e;cases e;exact new
 ·rw [g6 hb] at e;exact(x b u e).stay (λc v _ q=>k c v q) (λc q=>by rw [g6 (i5 q hn)];exact q) λc xs q=>by rw [g6 (i5 q hn)];exact q
end
def Rd(H:Hp)(a:AA)(u:HO):Prop:=H a=ξ u\/∃o,H a=ξ (.frz o u)
theorem Rd.ok{P:AJ}{w:AI}{H:Hp}{h:Heap}{a:AA}{u:HO}(r:Rd H a u)(x:HOk P w H h):C7 P w H h a u:=by
 rcases r with r|⟨o,r⟩
 ·exact x a u r
 ·obtain⟨_,q⟩:=x a _ r;exact q
def Mut:Option HO->Prop
 |some (.lst _)=>True
 |some (.dK _)=>True
 |some (.dT _)=>True
 |some (.set _ _)=>True
 |some (.ins _ _ _)=>True
 |some (.ext _)=>True
 |_=>False
section
variable {P:AJ}{w:AI}{H:Hp}{h h':Heap}{x e:AA}{o':HO}
theorem HOk.write(ok:HOk P w H h)(mu:Mut (H x))(he:e=x\/H e=ξ (.own x))(k:∀b u,b≠e->h.get? b=ξ u->h'.get? b=ξ u)(heo:∃u,h'.get? e=ξ u)
 (new:C7 P w (m9 H x o') h' x o'):HOk P w (m9 H x o') h':=λb u q=>by
 have nown:∀c y,H c=ξ (.own y)->c≠x:=λc y r z=>by subst z;rw [r] at mu;exact mu
 have ntup:∀c xs,H c=ξ (.tup xs)->c≠x:=λc xs r z=>by subst z;rw [r] at mu;exact mu
 by_cases hb:b=x
 ·subst hb;rw [i3] at q;cases q;exact new
 ·rw [g6 hb] at q
  by_cases hbe:b=e
  ·have q':H b=ξ (.own x):=by
    rcases he with z|z
    ·exact absurd (hbe.trans z) hb
    ·rw [hbe];exact z
   rw [q] at q';cases q';obtain⟨v,hv⟩:=heo;exact⟨v,by rw [hbe];exact hv⟩
  ·refine(ok b u q).stay (λc v hc r=>k c v ?_ r) (λc r=>by rw [g6 (nown c b r)];exact r) λc xs r=>by rw [g6 (ntup c xs r)];exact r
   rcases hc with rfl|hc
   ·exact hbe
   ·rintro rfl
    rcases he with z|z
    ·exact nown c b hc z
    ·rw [hc] at z;cases z;exact hb rfl
end
structure Un(fs ex:List AA)(H H':Hp)(h h':Heap):Prop where
 keep:∀b o,h.get? b=ξ o->H b=ζ->b∉fs->b∉ex->h'.get? b=ξ o
 slot:∀b o,h.get? b=ξ o->H b=ζ->b∈fs->b∉ex->∃sl,h'.get? b=ξ {o with slots:=sl}
 free:∀b o,h.get? b=ξ o->H b=ζ->b∉ex->H' b=ζ
 there:∀b o,h.get? b=ξ o->b∉ex->∃o',h'.get? b=ξ o'
 tups:∀b xs,H b=ξ (.tup xs)->H' b=ξ (.tup xs)
 frzs:∀b o u,H b=ξ (.frz o u)->H' b=ξ (.frz o u)
 tbls:∀b ps,H b=ξ (.tbl ps)->∃more,H' b=ξ (.tbl (ps++more))
section
variable {fs fs' ex ex':List AA}{H H1 H2:Hp}{h h1 h2 h':Heap}{a x e:AA}{o:HO}
theorem Un.any(u:Un fs ex H H1 h h1){b:AA}{ob:Obj}(q:h.get? b=ξ ob)(n:H b=ζ)(hx:b∉ex):∃sl,h1.get? b=ξ {ob with slots:=sl}:=by
 by_cases hb:b∈fs
 ·exact u.slot b ob q n hb hx
 ·exact⟨ob.slots,u.keep b ob q n hb hx⟩
theorem Un.kept(k:∀b u,h.get? b=ξ u->h'.get? b=ξ u):Un fs ex H H h h':=
 ⟨λb ob q _ _ _=>k b ob q,λb ob q _ _ _=>⟨ob.slots,k b ob q⟩,λ_ _ _ n _=>n,λb ob q _=>⟨ob,k b ob q⟩,λ_ _ q=>q,λ_ _ _ q=>q,λ_ ps q=>⟨#[],by rw [q];simp⟩⟩
theorem Un.refl:Un fs ex H H h h:=Un.kept λ_ _ q=>q
theorem Un.laid(k:∀b u,h.get? b=ξ u->h'.get? b=ξ u)(hp:h.objs.size<=a)(hn:H a=ζ):Un fs ex H (m9 H a o) h h' where
 keep:=λb u q _ _ _=>k b u q
 slot:=λb u q _ _ _=>⟨u.slots,k b u q⟩
 free:=λb u q n _=>by rw [g6 (AZ (Ai (AT q) hp))];exact n
 there:=λb u q _=>⟨u,k b u q⟩
 tups:=λb xs q=>by rw [g6 (i5 q hn)];exact q
 frzs:=λb u xs q=>by rw [g6 (i5 q hn)];exact q
 tbls:=λb ps q=>⟨#[],by rw [g6 (i5 q hn),q];simp⟩
theorem Un.write(mu:Mut (H x))(he:e=x\/H e=ξ (.own x))(k:∀b u,b≠e->h.get? b=ξ u->h'.get? b=ξ u)(heo:∃u,h'.get? e=ξ u):Un fs ex H (m9 H x o) h h':=by
 have hx:∀b,H b=ζ->b≠x:=λb n z=>by subst z;rw [n] at mu;exact mu
 have hb:∀b,H b=ζ->b≠e:=λb n z=>by
  subst z;rcases he with r|r
  ·exact hx b n r
  ·rw [n] at r;cases r
 have hm:∀b u,H b=ξ u->¬Mut (ξ u)->b≠x:=λb u q nm z=>by subst z;rw [q] at mu;exact nm mu
 refine⟨λb u q n _ _=>k b u (hb b n) q,λb u q n _ _=>⟨u.slots,k b u (hb b n) q⟩,λb u q n _=>by rw [g6 (hx b n)];exact n,λb u q _=> ?_,
  λb xs q=>by rw [g6 (hm b _ q λz=>z)];exact q,λb u xs q=>by rw [g6 (hm b _ q λz=>z)];exact q,λb ps q=>⟨#[],by rw [g6 (hm b _ q λz=>z),q];simp⟩⟩
 by_cases hbe:b=e
 ·subst hbe;exact heo
 ·exact⟨u,k b u hbe q⟩
end
def trk(h:Heap)(H:Hp):List AA:=(Ab h.objs.size).filter λa=>(H a).isSome
def a8Y(h:Heap)(H:Hp):Heap:=PySem.W.hideAll h (trk h H)
theorem b3z(h:Heap)(H:Hp):(a8Y h H).objs.size=h.objs.size:=PySem.W.hideAll_size _ _
theorem b42{h:Heap}{H:Hp}{b:AA}{o:Obj}(e:h.get? b=ξ o)(n:H b=ζ):(a8Y h H).get? b=ξ o:=
 PySem.W.hideAll_get _ e λhm=>by
  have q:(H b).isSome=true:=(List.mem_filter.mp hm).2;rw [n] at q;simp at q
theorem b62{h:Heap}{H:Hp}{b:AA}{o:Obj}(e:(a8Y h H).get? b=ξ o):h.get? b=ξ o/\H b=ζ:=by
 have e':h.get? b=ξ o:=PySem.W.of_hideAll (trk h H) e;refine⟨e', ?_⟩;cases q:H b with
 |none=>rfl
 |some x=>
  have hm:b∈trk h H:=List.mem_filter.mpr ⟨List.mem_range.mpr (AT e'),by simp [q]⟩
  have z:(a8Y h H).get? b=ζ:=PySem.W.hideAll_none (trk h H) hm;rw [z] at e;cases e
structure Mod(K:AE)(mg:Str->Option AB)(base:Heap):Prop where
 kin:K.In base
 glob:base.Ns mainGlobals mg
 blt:∃mb,base.Ns builtinsNs mb/\∀x:Str,x≠"__name__"->mb x=bootBuiltins x
 nolimit:base.NoLimit
structure Cx where
 prog:AJ
 w:AI
 K:AE
 mg:Str->Option AB
 base:Heap
 A:AK
 N:List Str
 s₀:AC
 H₀:Hp
 env:Env
 outer:List Env
 stack:List Env
 ex:List AA
 fn:Str->Bool
 calm:Bool
 pn:List (AA×Obj)
 xe:AB->AC->Prop
def frs(l:List Env):List AA:=l.filterMap (·.frame)
abbrev Cx.fs(X:Cx):List AA:=frs X.outer
def Vis(sc:Scope)(x:Str):Prop:=sc.names.lookup x=ξ .local\/sc.names.lookup x=ξ .cell\/sc.names.lookup x=ξ .free
def Loc(sc:Scope)(x:Str):Prop:=sc.names.lookup x=ξ .local\/sc.names.lookup x=ξ .cell
def c0X(env:Env)(h:Heap)(m:Str->Option AB)(x:Str)(u:AB):Prop:=
 (env.kindOf x=ξ .local/\m x=ξ u)\/((env.kindOf x=ξ .cell\/env.kindOf x=ξ .free)/\∃c,env.cells.lookup x=ξ c/\h.IsCell c (ξ u))
structure Cx.Ok(X:Cx):Prop where
 mod:Mod X.K X.mg X.base
 kind:X.env.scope.kind= .function
 glob:X.env.globals=mainGlobals
 blt:X.env.builtins=builtinsNs
 above:X.s₀.heap.objs.size<=X.env.locals
 inj:∀x y c,X.env.cells.lookup x=ξ c->X.env.cells.lookup y=ξ c->x=y
 has:∀x,(X.env.kindOf x=ξ .cell\/X.env.kindOf x=ξ .free)->∃c,X.env.cells.lookup x=ξ c
 cab:∀x c,X.fn x=true->X.env.cells.lookup x=ξ c->X.s₀.heap.objs.size<=c
 hd:X.calm=true->X.A.handled=ζ
 frames:X.A.frames=ξ X.stack
 stk:X.stack=X.outer\/(X.stack=X.env::X.outer/\X.env.frame=ξ X.env.locals)
 exf:∀b∈X.ex,b≠X.env.locals/\∀x c,X.env.cells.lookup x=ξ c->c≠b
 bs:∀b o,X.base.get? b=ξ o->X.s₀.heap.get? b=ξ o/\X.H₀ b=ζ
 bsz:X.base.objs.size<=X.s₀.heap.objs.size
 noex:∀b o,X.base.get? b=ξ o->b∉X.ex
 exfs:∀b∈X.ex,b∉X.fs
 funs:X.s₀.heap.FunFrames X.base X.outer
 frf:∀b∈X.fs,X.H₀ b=ζ
structure g9(X:Cx)(pins:List (AA×Obj))(σ:List (Option V))(H:Hp)(s:AC):Prop where
 ok:X.Ok
 os:s.os=X.s₀.os
 bare:AllBare s.gens
 base:Un X.fs X.ex X.H₀ H X.s₀.heap s.heap
 loc:∃m,s.heap.Ns X.env.locals m/\∀(i:Nat) (x:Str) (v:V),X.N[i]?=ξ x->σ[i]?=ξ (ξ v)->Vis X.env.scope x->∃u,l8 v u/\c0X X.env s.heap m x u
 cell:∀x c,X.env.cells.lookup x=ξ c->∃v,s.heap.IsCell c v
 free:H X.env.locals=ζ
 freeC:∀x c,X.env.cells.lookup x=ξ c->H c=ζ
 pin:∀p∈X.pn++pins,s.heap.get? p.1=ξ p.2/\H p.1=ζ/\p.1≠X.env.locals/\p.1∉X.fs/\∀v,p.2.data≠.cell v
 hok:HOk X.prog X.w H s.heap
 len:σ.length=X.N.length
section
variable {X:Cx}{pins:List (AA×Obj)}{σ:List (Option V)}{H H':Hp}{s:AC}{h':Heap}
theorem Cx.Ok.nofr(ok:X.Ok){b:AA}{o:Obj}(e:X.base.get? b=ξ o):b∉X.fs:=λhb=>by
 have:=(ok.funs.mem hb).1;rw [e] at this;cases this
theorem g9.bs(I:g9 X pins σ H s):∀b o,X.base.get? b=ξ o->s.heap.get? b=ξ o/\H b=ζ:=λb o e=>
 ⟨I.base.keep b o (I.ok.bs b o e).1 (I.ok.bs b o e).2 (I.ok.nofr e) (I.ok.noex b o e),I.base.free b o (I.ok.bs b o e).1 (I.ok.bs b o e).2 (I.ok.noex b o e)⟩
theorem g9.bk(I:g9 X pins σ H s):∀b o,X.base.get? b=ξ o->s.heap.get? b=ξ o:=λb o e=>(I.bs b o e).1
theorem g9.mod(I:g9 X pins σ H s):Mod X.K X.mg X.base:=I.ok.mod
theorem g9.kIn(I:g9 X pins σ H s):X.K.In s.heap:=I.ok.mod.kin.keeps I.bk
theorem g9.lt(I:g9 X pins σ H s):X.env.locals<s.heap.objs.size:=by obtain⟨_,hn,_⟩:=I.loc;exact hn.lt
theorem g9.sz(I:g9 X pins σ H s):X.s₀.heap.objs.size<=s.heap.objs.size:=Nat.le_trans I.ok.above (Ax I.lt)
theorem g9.nofs(I:g9 X pins σ H s){a:AA}(h:s.heap.objs.size<=a):a∉X.fs:=λhb=>by
 obtain⟨_,o,ho,_⟩:=I.ok.funs.mem hb;exact absurd (Ai (AT ho) (Nat.le_trans I.sz h)) (Nat.lt_irrefl _)
theorem g9.cne(I:g9 X pins σ H s):∀x c,X.env.cells.lookup x=ξ c->c≠X.env.locals:=λx c e z=>by
 obtain⟨v,o,ho,hd⟩:=I.cell x c e;obtain⟨m,⟨o',es,ep,ho',hd',_⟩,_⟩:=I.loc;rw [z,ho'] at ho;cases ho;rw [hd'] at hd;cases hd
theorem g9.funs(I:g9 X pins σ H s):s.heap.FunFrames X.base X.outer:=by
 have all:∀(l:List Env),(∀b∈frs l,b∈X.fs)->X.s₀.heap.FunFrames X.base l->s.heap.FunFrames X.base l:=by
  intro l
  induction l with
  |nil=>intro _ _;trivial
  |cons env r ih=>
   intro hs hl;obtain⟨hk,⟨L,o,hf,hn,ho,hd⟩,hr⟩:=hl;have hL:L∈X.fs:=hs L (by unfold frs;rw [List.filterMap_cons,hf];exact Aa)
   obtain⟨sl,e⟩:=I.base.slot L o ho (I.ok.frf L hL) hL λz=>I.ok.exfs L z hL;exact⟨hk,⟨L,_,hf,hn,e,hd⟩,ih (λb hb=>hs b (by unfold frs;rw [List.filterMap_cons,hf];exact AY _ hb)) hr⟩
 exact all X.outer (λ_ hb=>hb) I.ok.funs
theorem g9.stack(I:g9 X pins σ H s):s.heap.FunFrames X.base X.stack:=by
 rcases I.ok.stk with e|⟨e,hf⟩
 ·rw [e];exact I.funs
 ·rw [e];obtain⟨m,hn,_⟩:=I.loc;refine .cons (by rw [I.ok.kind];decide) hf hn ?_ I.funs
  exact Heap.get?_none_of_le (Nat.le_trans I.ok.bsz I.ok.above)
theorem g9.stkSub(I:g9 X pins σ H s):∀b∈frs X.stack,b∈X.env.locals::X.fs:=λb hb=>by
 rcases I.ok.stk with e|⟨e,hf⟩
 ·rw [e] at hb;exact AY _ hb
 ·rw [e] at hb;unfold frs at hb;rw [List.filterMap_cons,hf] at hb;exact hb
theorem g9.stkFree(I:g9 X pins σ H s):∀b∈frs X.stack,H b=ζ:=λb hb=>by
 rcases Ag.mp (I.stkSub b hb) with e|hb
 ·rw [e];exact I.free
 ·obtain⟨_,o,ho,_⟩:=I.ok.funs.mem hb;exact I.base.free b o ho (I.ok.frf b hb) λz=>I.ok.exfs b z hb
theorem g9.step{g':Array GenState}{t':Nat}{d':Drawn}{ch:List AA}(I:g9 X pins σ H s)
 (hch:∀b∈ch,(b∈X.ex\/X.s₀.heap.objs.size<=b)/\b≠X.env.locals/\(∀x c,X.env.cells.lookup x=ξ c->c≠b)/\∀p∈X.pn++pins,p.1≠b)
 (keep:∀b o,b≠X.env.locals->b∉X.fs->b∉ch->s.heap.get? b=ξ o->H b=ζ->h'.get? b=ξ o)
 (slot:∀b o,b≠X.env.locals->b∈X.fs->b∉ch->s.heap.get? b=ξ o->H b=ζ->∃sl,h'.get? b=ξ {o with slots:=sl}) (free:∀b o,b∉ch->s.heap.get? b=ξ o->H b=ζ->H' b=ζ)
 (there:∀b o,b∉ch->s.heap.get? b=ξ o->∃o',h'.get? b=ξ o')
 (tups:∀b xs,H b=ξ (.tup xs)->H' b=ξ (.tup xs)) (frzs:∀b o u,H b=ξ (.frz o u)->H' b=ξ (.frz o u)) (tbls:∀b ps,H b=ξ (.tbl ps)->∃more,H' b=ξ (.tbl (ps++more)))
 (ns:∀m,s.heap.Ns X.env.locals m->h'.Ns X.env.locals m) (hok:HOk X.prog X.w H' h') (hg:AllBare g'):
 g9 X pins σ H' {s with heap:=h',gens:=g',drawn:=d',toks:=t'}:=by
 have neL:∀b o,X.s₀.heap.get? b=ξ o->b≠X.env.locals:=λb o e=>AZ (Ai (AT e) I.ok.above)
 have neC:∀b o,X.s₀.heap.get? b=ξ o->b∉X.ex->b∉ch:=λb o e hx hb=>by
  rcases(hch b hb).1 with z|z
  ·exact hx z
  ·exact absurd (Ai (AT e) z) (Nat.lt_irrefl _)
 have cellK:∀x c,X.env.cells.lookup x=ξ c->∀v,s.heap.IsCell c v->h'.IsCell c v:=λx c e v ⟨o,ho,hd⟩=>by
  have nch:c∉ch:=λz=>(hch c z).2.2.1 x c e rfl
  by_cases hc:c∈X.fs
  ·obtain⟨sl,q⟩:=slot c o (I.cne x c e) hc nch ho (I.freeC x c e);exact⟨_,q,hd⟩
  ·exact⟨o,keep c o (I.cne x c e) hc nch ho (I.freeC x c e),hd⟩
 refine⟨I.ok,I.os,hg,⟨λb o e n hb hx=> ?_,λb o e n hb hx=> ?_,λb o e n hx=> ?_,λb o e hx=> ?_,λb xs e=>tups b xs (I.base.tups b xs e),λb o xs e=>frzs b o xs (I.base.frzs b o xs e),λb ps e=> ?_⟩, ?_,λx c e=> ?_, ?_,λx c e=> ?_,λp hp=> ?_,hok,I.len⟩
 ·exact keep b o (neL b o e) hb (neC b o e hx) (I.base.keep b o e n hb hx) (I.base.free b o e n hx)
 ·obtain⟨sl,e1⟩:=I.base.slot b o e n hb hx
  obtain⟨sl',e2⟩:=slot b _ (neL b o e) hb (neC b o e hx) e1 (I.base.free b o e n hx)
  exact⟨sl',e2⟩
 ·obtain⟨o',e1⟩:=I.base.there b o e hx
  exact free b o' (neC b o e hx) e1 (I.base.free b o e n hx)
 ·obtain⟨o',e1⟩:=I.base.there b o e hx
  exact there b o' (neC b o e hx) e1
 ·obtain⟨m1,e1⟩:=I.base.tbls b ps e
  obtain⟨m2,e2⟩:=tbls b _ e1
  exact⟨m1++m2,by rw [e2,Array.append_assoc]⟩
 ·obtain⟨m,hn,hl⟩:=I.loc
  refine⟨m,ns m hn,λi x v e1 e2 e3=> ?_⟩
  obtain⟨u,r,l⟩:=hl i x v e1 e2 e3
  refine⟨u,r, ?_⟩
  rcases l with l|⟨k,c,e,z⟩
  ·exact .inl l
  ·exact .inr ⟨k,c,e,cellK x c e _ z⟩
 ·obtain⟨v,z⟩:=I.cell x c e
  exact⟨v,cellK x c e v z⟩
 ·obtain⟨m,⟨o,_,_,ho,_⟩,_⟩:=I.loc
  exact free _ o (λz=>(hch _ z).2.1 rfl) ho I.free
 ·obtain⟨v,o,ho,hd⟩:=I.cell x c e
  exact free c o (λz=>(hch c z).2.2.1 x c e rfl) ho (I.freeC x c e)
 ·obtain⟨e,n,ne,nf,d⟩:=I.pin p hp
  have nch:p.1∉ch:=λz=>(hch p.1 z).2.2.2 p hp rfl
  exact⟨keep p.1 p.2 ne nf nch e n,free p.1 p.2 nch e n,ne,nf,d⟩
theorem g9.un{t':Nat}(I:g9 X pins σ H s)(u:Un X.fs [] H H' s.heap h')(hok:HOk X.prog X.w H' h'):g9 X pins σ H' {s with heap:=h',toks:=t'}:=by
 obtain⟨m,⟨o,es,ep,ho,r⟩,_⟩:=id I.loc;obtain⟨sl,hL⟩:=u.any ho I.free (by simp)
 exact I.step (g':=s.gens) (d':=s.drawn) (ch:=[]) (λ_ z=>nomatch z) (λb o _ hb _ e n=>u.keep b o e n hb (by simp)) (λb o _ hb _ e n=>u.slot b o e n hb (by simp)) (λb o _ e n=>u.free b o e n (by simp)) (λb o _ e=>u.there b o e (by simp)) u.tups u.frzs u.tbls (λm' hm=>by
  obtain⟨o',es',ep',ho',r'⟩:=hm;rw [ho] at ho';cases ho';exact⟨_,es',ep',hL,r'⟩) hok I.bare
theorem g9.call{g':Array GenState}{t':Nat}{d':Drawn}{ch:List AA}(I:g9 X pins σ H s)(u:Un (frs X.stack) ch H H' s.heap h')(hok:HOk X.prog X.w H' h')(hg:AllBare g')
 (hch:∀b∈ch,(b∈X.ex\/X.s₀.heap.objs.size<=b)/\b≠X.env.locals/\(∀x c,X.env.cells.lookup x=ξ c->c≠b)/\∀p∈X.pn++pins,p.1≠b):
 g9 X pins σ H' {s with heap:=h',gens:=g',drawn:=d',toks:=t'}:=by
 obtain⟨m,⟨o,es,ep,ho,r⟩,_⟩:=id I.loc
 obtain⟨sl,hL⟩:=u.any ho I.free λz=>(hch _ z).2.1 rfl
 exact I.step (ch:=ch) hch (λb o hL hb hc e n=>u.keep b o e n (λz=>(Ag.mp (I.stkSub b z)).elim hL hb) hc) (λb o _ _ hc e n=>u.any e n hc) (λb o hc e n=>u.free b o e n hc) (λb o hc e=>u.there b o e hc) u.tups u.frzs u.tbls (λm' hm=>by
  obtain⟨o',es',ep',ho',r'⟩:=hm;rw [ho] at ho';cases ho';exact⟨_,es',ep',hL,r'⟩) hok hg
theorem g9.turned{t':Nat}{it:AA}(I:g9 X pins σ H s)(k:∀b o,b≠it->s.heap.get? b=ξ o->h'.get? b=ξ o)(hn:H it=ζ)(hL:it≠X.env.locals)
 (h1:it∈X.ex\/X.s₀.heap.objs.size<=it) (h2:∀x c,X.env.cells.lookup x=ξ c->c≠it) (h3:∀p∈X.pn++pins,p.1≠it):g9 X pins σ H {s with heap:=h',toks:=t'}:=by
 have nit:∀b u,H b=ξ u->b≠it:=λb u e z=>by rw [z,hn] at e;cases e
 refine I.step (g':=s.gens) (d':=s.drawn) (ch:=[it]) (λb hb=> ?_) (λb o _ _ hc e _=>k b o (λz=>hc (by simp [z])) e) (λb o _ _ hc e _=>⟨o.slots,k b o (λz=>hc (by simp [z])) e⟩) (λ_ _ _ _ n=>n)
  (λb o hc e=>⟨o,k b o (λz=>hc (by simp [z])) e⟩) (λ_ _ e=>e) (λ_ _ _ e=>e) (λb ps e=>⟨#[],by rw [e];simp⟩) (λm hm=> ?_) (λb u e=> ?_) I.bare
 ·have e:b=it:=by simpa using hb
  subst e
  exact⟨h1,hL,h2,h3⟩
 ·obtain⟨o,es,ep,ho,r⟩:=hm
  exact⟨o,es,ep,k _ o (Ne.symm hL) ho,r⟩
 ·refine(I.hok b u e).stay (λc v hc q=>k c v ?_ q) (λ_ q=>q) λ_ _ q=>q
  rcases hc with z|z
  ·rw [z];exact nit b u e
  ·exact nit c _ z
theorem g9.tok(I:g9 X pins σ H s)(t:Nat):g9 X pins σ H {s with toks:=t}:=I.un (h':=s.heap) (t':=t) Un.refl I.hok
theorem g9.kept{t':Nat}(I:g9 X pins σ H s)(k:∀b u,s.heap.get? b=ξ u->h'.get? b=ξ u):g9 X pins σ H {s with heap:=h',toks:=t'}:=I.un (Un.kept k) (I.hok.kept k)
theorem g9.laid{a:AA}{o:HO}{t':Nat}(I:g9 X pins σ H s)(k:∀b u,s.heap.get? b=ξ u->h'.get? b=ξ u)(hp:s.heap.objs.size<=a)(new:C7 X.prog X.w (m9 H a o) h' a o):
 g9 X pins σ (m9 H a o) {s with heap:=h',toks:=t'}:=I.un (Un.laid k hp (I.hok.fresh hp)) (I.hok.laid k hp new)
theorem g9.write{x e:AA}{o:HO}{t':Nat}(I:g9 X pins σ H s)(mu:Mut (H x))(he:e=x\/H e=ξ (.own x))(k:∀b u,b≠e->s.heap.get? b=ξ u->h'.get? b=ξ u)(heo:∃u,h'.get? e=ξ u)
 (new:C7 X.prog X.w (m9 H x o) h' x o):g9 X pins σ (m9 H x o) {s with heap:=h',toks:=t'}:=I.un (Un.write mu he k heo) (I.hok.write mu he k heo new)
theorem g9.weak{σ':List (Option V)}(I:g9 X pins σ H s)(hl:σ'.length=σ.length)(w:∀(i:Nat) v,σ'[i]?=ξ (ξ v)->σ[i]?=ξ (ξ v)):g9 X pins σ' H s:=
 ⟨I.ok,I.os,I.bare,I.base,let ⟨m,hn,hl'⟩:=I.loc;⟨m,hn,λi x v e1 e2 e3=>hl' i x v e1 (w i v e2) e3⟩,I.cell,I.free,I.freeC,I.pin,I.hok,hl.trans I.len⟩
theorem g9.pins_of{pins':List (AA×Obj)}(I:g9 X pins σ H s)(h:∀p∈pins',s.heap.get? p.1=ξ p.2/\H p.1=ζ/\p.1≠X.env.locals/\p.1∉X.fs/\∀v,p.2.data≠.cell v):g9 X pins' σ H s:=
 ⟨I.ok,I.os,I.bare,I.base,I.loc,I.cell,I.free,I.freeC,λp hp=>(An.mp hp).elim (λz=>I.pin p (Ay _ z)) (h p),I.hok,I.len⟩
theorem a6H{N:List Str}(hN:N.Nodup){i j:Nat}{x:Str}(a:N[i]?=ξ x)(b:N[j]?=ξ x):i=j:=by
 obtain⟨h1,e1⟩:=Ac.mp a;obtain⟨h2,e2⟩:=Ac.mp b;exact(List.getElem_inj hN).mp (e1.trans e2.symm)
theorem a4Z{M:Model}{A:AK}{E:AB->AC->Prop}{i:Nat}{x:Str}{v:V}{u:AB}{Q:Unit->AC->Prop}(I:g9 X pins σ H s)(hN:X.N.Nodup)(hi:X.N[i]?=ξ x)(hx:Loc X.env.scope x)(r:l8 v u)
 (h:∀s',g9 X pins (σ.set i (ξ v)) H s'->(∃a,Heap.SameBut a s.heap s'.heap/\(a=X.env.locals\/X.env.cells.lookup x=ξ a))->Q () s') (hf:X.fn x=true\/X.env.scope.names.lookup x=ξ .local:=by first|exact .inl rfl|exact .inr rfl|assumption):AH M A (storeName X.env x u) Q E s:=by
 obtain⟨m,hn,hl⟩:=id I.loc
 have hcls:(X.env.scope.kind== .class||(X.env.scope.kind== .module && X.env.locals !=X.env.globals))=false:=by rw [I.ok.kind];rfl
 have hiσ:i<σ.length:=by rw [I.len];exact(Ac.mp hi).1
 have cne:=I.cne
 have tracked:∀{a:AA} {h':Heap},(∃o,s.heap.get? a=ξ o/\H a=ζ)->Heap.SameBut a s.heap h'->HOk X.prog X.w H h':=λ {a h'} ha hs b ob e=>by
  obtain⟨_,_,hfree⟩:=ha;refine(I.hok b ob e).stay (λc w' hc q=>(hs.2 c ?_).trans q) (λ_ q=>q) λ_ _ q=>q;rintro rfl;rcases hc with rfl|hc
  ·rw [hfree] at e;cases e
  ·rw [hfree] at hc;cases hc
 rcases hx with hk|hk
 ·refine wpAny_storeName_local hk hn (λh' hn' hs=> ?_) hcls
  obtain⟨oL,_,_,hoL,_⟩:=id hn
  refine h _ ⟨I.ok,I.os,I.bare,⟨λb o e n hb hx=> ?_,λb o e n hb hx=> ?_,I.base.free,λb o e hx=> ?_,I.base.tups,I.base.frzs,I.base.tbls⟩,⟨_,hn',λj y v' e1 e2 e3=> ?_⟩,λy c e=> ?_,I.free,I.freeC,λp hp=> ?_,tracked ⟨oL,hoL,I.free⟩ hs,by simpa using I.len⟩ ⟨_,hs,.inl rfl⟩
  ·exact(hs.2 b (AZ (Ai (AT e) I.ok.above))).trans (I.base.keep b o e n hb hx)
  ·obtain⟨sl,e1⟩:=I.base.slot b o e n hb hx
   exact⟨sl,(hs.2 b (AZ (Ai (AT e) I.ok.above))).trans e1⟩
  ·obtain⟨o',e1⟩:=I.base.there b o e hx
   exact⟨o',(hs.2 b (AZ (Ai (AT e) I.ok.above))).trans e1⟩
  ·by_cases hj:j=i
   ·subst hj
    rw [hi] at e1;cases e1
    rw [BB hiσ] at e2
    cases e2
    exact⟨u,r,.inl ⟨hk,by simp⟩⟩
   ·rw [List.getElem?_set_ne (Ne.symm hj)] at e2
    obtain⟨u',r',q⟩:=hl j y v' e1 e2 e3
    refine⟨u',r', ?_⟩
    rcases q with⟨k,e⟩|⟨k,c,e,z⟩
    ·refine .inl ⟨k, ?_⟩
     have:y≠x:=λe=>hj (a6H hN e1 (e▸hi))
     simp [this,e]
    ·exact .inr ⟨k,c,e,z.sameBut hs (cne y c e)⟩
  ·obtain⟨w',z⟩:=I.cell y c e
   exact⟨w',z.sameBut hs (cne y c e)⟩
  ·obtain⟨e,n,ne,nf,d⟩:=I.pin p hp
   exact⟨(hs.2 p.1 ne).trans e,n,ne,nf,d⟩
 ·have hfn:X.fn x=true:=by
   rcases hf with z|z
   ·exact z
   ·rw [z] at hk;cases hk
  obtain⟨c,hc⟩:=I.ok.has x (.inl hk);obtain⟨w',z⟩:=I.cell x c hc;refine wpAny_storeName_cell I.ok.kind hk hc z (λh' hc' hs=> ?_);obtain⟨oc,hoc,hocd⟩:=id z;refine h {s with heap:=h'} ⟨I.ok,I.os,I.bare,⟨λb o e n hb hx=> ?_,λb o e n hb hx=> ?_,I.base.free,λb o e hx=> ?_,I.base.tups,I.base.frzs,I.base.tbls⟩,⟨m,hn.sameBut hs (Ne.symm (cne x c hc)),λj y v' e1 e2 e3=> ?_⟩,λy c' e=> ?_,I.free,I.freeC,λp hp=> ?_,tracked ⟨oc,hoc,I.freeC x c hc⟩ hs,by simpa using I.len⟩ ⟨c,hs,.inr hc⟩
  ·exact(hs.2 b (AZ (Ai (AT e) (I.ok.cab x c hfn hc)))).trans (I.base.keep b o e n hb hx)
  ·obtain⟨sl,e1⟩:=I.base.slot b o e n hb hx;exact⟨sl,(hs.2 b (AZ (Ai (AT e) (I.ok.cab x c hfn hc)))).trans e1⟩
  ·obtain⟨o',e1⟩:=I.base.there b o e hx;exact⟨o',(hs.2 b (AZ (Ai (AT e) (I.ok.cab x c hfn hc)))).trans e1⟩
  ·by_cases hj:j=i
   ·subst hj;rw [hi] at e1;cases e1;rw [BB hiσ] at e2;cases e2;exact⟨u,r,.inr ⟨.inl hk,c,hc,hc'⟩⟩
   ·rw [List.getElem?_set_ne (Ne.symm hj)] at e2;obtain⟨u',r',q⟩:=hl j y v' e1 e2 e3;refine⟨u',r', ?_⟩;rcases q with q|⟨k,c',e,z'⟩
    ·exact .inl q
    ·refine .inr ⟨k,c',e,z'.sameBut hs ?_⟩;rintro rfl;exact hj (a6H hN e1 (I.ok.inj _ _ _ e hc▸hi))
  ·by_cases hcc:c'=c
   ·subst hcc;exact⟨_,hc'⟩
   ·obtain⟨w2,z2⟩:=I.cell y c' e;exact⟨w2,z2.sameBut hs hcc⟩
  ·obtain⟨e,n,ne,nf,d⟩:=I.pin p hp;refine⟨(hs.2 p.1 ?_).trans e,n,ne,nf,d⟩;intro q;rw [q,hoc] at e;have q':oc=p.2:=Option.some.inj e;exact d w' (by rw [<-q'];exact hocd)
theorem a69{M:Model}{A:AK}{E:AB->AC->Prop}{i:Nat}{x:Str}{v:V}{u:AB}{Q:Unit->AC->Prop}(I:g9 X pins σ H s)(hN:X.N.Nodup)(hi:X.N[i]?=ξ x)(hx:Loc X.env.scope x)(r:l8 v u)
 (h:∀s',g9 X pins (σ.set i (ξ v)) H s'->Q () s') (hf:X.fn x=true\/X.env.scope.names.lookup x=ξ .local:=by first|exact .inl rfl|exact .inr rfl|assumption):AH M A (storeName X.env x u) Q E s:=
 a4Z I hN hi hx r (λs' I' _=>h s' I') hf
theorem g9.call'{s':AC}{ch:List AA}(I:g9 X pins σ H s)(ho:s'.os=s.os)(u:Un (frs X.stack) ch H H' s.heap s'.heap)(hok:HOk X.prog X.w H' s'.heap)(hg:AllBare s'.gens)
 (hch:∀b∈ch,(b∈X.ex\/X.s₀.heap.objs.size<=b)/\b≠X.env.locals/\(∀x c,X.env.cells.lookup x=ξ c->c≠b)/\∀p∈X.pn++pins,p.1≠b):g9 X pins σ H' s':=by
 obtain⟨h',g',d',t',o'⟩:=s'
 have e:o'=s.os:=ho
 subst e
 exact I.call (g':=g') (t':=t') (d':=d') u hok hg hch
end
abbrev XK:=AB->Option AA->Hp->Prop
abbrev St:=List (Option V)
abbrev VK:=V->Hp->Prop
abbrev TE:=St->Hp->VK->Prop
abbrev TT:=St->Hp->(Bool->Hp->Prop)->Prop
abbrev TA:=St->Hp->(List V->Hp->Prop)->Prop
structure O7 where
 nx:St->Hp->Prop
 rt:VK
 bk:St->Hp->Prop:=λ_ _=>False
 ct:St->Hp->Prop:=λ_ _=>False
abbrev TS:=O7->St->Hp->Prop
def EP(X:Cx)(pins:List (AA×Obj))(σ:St)(Q:VK)(u:AB)(s':AC):Prop:=∃v H',g9 X pins σ H' s'/\l8 v u/\Q v H'
def TP(X:Cx)(pins:List (AA×Obj))(σ:St)(Q:Bool->Hp->Prop)(b:Bool)(s':AC):Prop:=∃H',g9 X pins σ H' s'/\Q b H'
def AP(X:Cx)(pins:List (AA×Obj))(σ:St)(Q:List V->Hp->Prop)(us:List AB)(s':AC):Prop:=∃vs H',g9 X pins σ H' s'/\l9 vs us/\Q vs H'
def SP(X:Cx)(pins:List (AA×Obj))(D:O7)(f:Flow)(s':AC):Prop:=
 match f with
 | .next=>∃σ' H',g9 X pins σ' H' s'/\D.nx σ' H'
 | .brk=>∃σ' H',g9 X pins σ' H' s'/\D.bk σ' H'
 | .cont=>∃σ' H',g9 X pins σ' H' s'/\D.ct σ' H'
 | .ret u=>∃v σ' H',g9 X pins σ' H' s'/\l8 v u/\D.rt v H'
def PE(X:Cx)(e:AF)(t:TE):Prop:=
 ∀(pins:List (AA×Obj)) (s:AC) (σ:St) (H:Hp) (Q:VK),g9 X pins σ H s->t σ H Q->AH (model X.prog X.w) X.A (eval e X.env) (EP X pins σ Q) X.xe s
def PT(X:Cx)(e:AF)(t:TT):Prop:=
 ∀(pins:List (AA×Obj)) (s:AC) (σ:St) (H:Hp) (Q:Bool->Hp->Prop),g9 X pins σ H s->t σ H Q->AH (model X.prog X.w) X.A (isTrue e X.env (eval e X.env)) (TP X pins σ Q) X.xe s
def PW(X:Cx)(e:AF)(t:TT):Prop:=
 ∀(whole:Sem AB) (pins:List (AA×Obj)) (s:AC) (σ:St) (H:Hp) (Q:Bool->Hp->Prop),g9 X pins σ H s->t σ H Q->AH (model X.prog X.w) X.A (isTrue e X.env whole) (TP X pins σ Q) X.xe s
theorem PW.pt{X:Cx}{e:AF}{t:TT}(h:PW X e t):PT X e t:=h _
def PA(X:Cx)(es:List AF)(t:TA):Prop:=
 ∀(pos:Pos) (pins:List (AA×Obj)) (s:AC) (σ:St) (H:Hp) (Q:List V->Hp->Prop),g9 X pins σ H s->t σ H Q->AH (model X.prog X.w) X.A (spliced (backTo pos (AL es X.env))) (AP X pins σ Q) X.xe s
def PS(X:Cx)(st:Stmt)(t:TS):Prop:=
 ∀(pins:List (AA×Obj)) (s:AC) (σ:St) (H:Hp) (D:O7),g9 X pins σ H s->t D σ H->AH (model X.prog X.w) X.A (exec st X.env) (SP X pins D) X.xe s
def PSs(X:Cx)(st:List Stmt)(t:TS):Prop:=
 ∀(pins:List (AA×Obj)) (s:AC) (σ:St) (H:Hp) (D:O7),g9 X pins σ H s->t D σ H->AH (model X.prog X.w) X.A (execs st X.env) (SP X pins D) X.xe s
theorem D5{α:Type}{t:Sem α}{Q Q':α->AC->Prop}{M:Model}{A:AK}{E:AB->AC->Prop}{s:AC}(h:AH M A t Q E s)(hQ:∀a s,Q a s->Q' a s):AH M A t Q' E s:=wpAny_mono h hQ λ_ _ x=>x
section
variable {X:Cx}
def a0a(i:Nat):TE:=λσ H Q=>∃v,σ[i]?=ξ (ξ v)/\Q v H
def tC(v:V):TE:=λ_ H Q=>Q v H
theorem b9z{i:Nat}{x:Str}{pos:Pos}(hN:X.N[i]?=ξ x)(hv:Vis X.env.scope x)(hd:(x==("__debug__":Str))=false:=by decide)(hcd:(x==("__classdict__":Str))=false:=by decide):PE X (.Name x pos) (a0a i):=by
 ext f
 obtain⟨v,e,h⟩:=h;obtain⟨m,hn,hl⟩:=I.loc;obtain⟨u,r,l⟩:=hl i x v hN e hv;have fin:EP X pins σ Q u s:=⟨v,H,I,r,h⟩;rcases l with⟨hk,hm⟩|⟨hk,c,hc,hcell⟩
 ·exact wpAny_Name (wpAny_loadName_local I.ok.kind hk hn hm fin) hd
 ·rcases hk with hk|hk
  ·exact wpAny_Name (wpAny_loadName_cell I.ok.kind hk hc hcell fin) hd
  ·exact wpAny_Name (wpAny_loadName_free I.ok.kind hk hc hcell fin hcd) hd
theorem b9t{i j pos}:PE X (.Constant (.int i) j pos) (tC (.int i)):=λ_ _ _ H _ I h=>wpAny_Constant_int ⟨.int i,H,I.tok _,⟨_,rfl⟩,h⟩
theorem c0u{b j pos}:PE X (.Constant (.bool b) j pos) (tC (.bl b)):=λ_ _ _ H _ I h=>Constant_bool ⟨.bl b,H,I,rfl,h⟩
theorem b9v{j pos}:PE X (.Constant .none j pos) (tC .non):=λ_ _ _ H _ I h=>Constant_none ⟨.non,H,I,rfl,h⟩
theorem b9y{x j pos}:PE X (.Constant (.str x) j pos) (tC (.str x)):=λ_ _ _ H _ I h=>Calls.Constant_str ⟨.str x,H,I.tok _,⟨_,rfl⟩,h⟩
def Gl(X:Cx)(x:Str):Prop:=X.env.kindOf x=ξ .globalImplicit
theorem a0m{E:AB->AC->Prop}{pins:List (AA×Obj)}{s:AC}{σ:St}{H:Hp}{x:Str}{u:AB}{pos:Pos}{Q:AB->AC->Prop}(I:g9 X pins σ H s)(hg:Gl X x)(hm:X.mg x=ξ u)(h:Q u s)
 (hd:(x==("__debug__":Str))=false:=by decide):AH (model X.prog X.w) X.A (eval (.Name x pos) X.env) Q E s:=
 Calls.Name_function_global I.ok.kind hg (Calls.loadGlobal_global (by rw [I.ok.glob];exact I.mod.glob.keeps I.bk) hm h) hd
theorem a4I{E:AB->AC->Prop}{pins:List (AA×Obj)}{s:AC}{σ:St}{H:Hp}{x:Str}{u:AB}{pos:Pos}{Q:AB->AC->Prop}(I:g9 X pins σ H s)(hg:Gl X x)(hm:X.mg x=ζ)(hv:bootBuiltins x=ξ u)(h:Q u s)
 (hn:x≠"__name__":=by decide) (hd:(x==("__debug__":Str))=false:=by decide):AH (model X.prog X.w) X.A (eval (.Name x pos) X.env) Q E s:=by
 obtain⟨mb,h1,h2⟩:=I.mod.blt
 exact Calls.Name_function_global I.ok.kind hg (Calls.loadGlobal_builtin (by rw [I.ok.glob];exact I.mod.glob.keeps I.bk) hm (by rw [I.ok.blt];exact h1.keeps I.bk) ((h2 x hn).trans hv) h) hd
theorem W3{x:Str}{v:V}{u:AB}{pos:Pos}(hg:Gl X x)(hm:X.mg x=ξ u)(r:l8 v u)(hd:(x==("__debug__":Str))=false:=by decide):PE X (.Name x pos) (tC v):=
 λ_ _ _ H _ I h=>a0m I hg hm ⟨v,H,I,r,h⟩ hd
theorem L9{x:Str}{v:V}{u:AB}{pos:Pos}(hg:Gl X x)(hm:X.mg x=ζ)(hv:bootBuiltins x=ξ u)(r:l8 v u)(hn:x≠"__name__":=by decide)(hd:(x==("__debug__":Str))=false:=by decide):PE X (.Name x pos) (tC v):=
 λ_ _ _ H _ I h=>a4I I hg hm hv ⟨v,H,I,r,h⟩ hn hd
variable {a b:AF}{ta tb:TE}{pos:Pos}
def PC(X:Cx)(op:CmpOp)(a b:AF)(t:TE):Prop:=
 ∀(pins:List (AA×Obj)) (s:AC) (σ:St) (H:Hp) (Q:VK),g9 X pins σ H s->t σ H Q->
  AH (model X.prog X.w) X.A (eval a X.env) (λv s₁=>AH (model X.prog X.w) X.A (eval b X.env) (λu s₂=>AH (model X.prog X.w) X.A (compareOp op v u) (EP X pins σ Q) X.xe s₂) X.xe s₁) X.xe s
def tB(t:TE):TT:=λσ H Q=>t σ H λx H1=>∃c,x= .bl c/\Q c H1
theorem b1V{op:CmpOp}{t:TE}(h:PC X op a b t)(h1:behindInMarks op b=false:=by first|exact nobehind _ (by decide) (by decide)|rfl):PT X (.Compare a [op] [b] pos) (tB t):=by
 intro pins s σ H Q I hw;refine wpAny_isTrue_Compare1 (D5 (h pins s σ H _ I hw) λv s1 h1=>D5 h1 λu s2 h2=>D5 h2 λc s3 h0=>k9 h0 λx H1 I1 r1 q1=> ?_) h1;obtain⟨d,rfl,q⟩:=q1;cases r1;exact wpAny_truthy_bool ⟨H1,I1,q⟩
variable {tA tB':TT}{rest:List AF}
def c1f(t u:TT):TT:=λσ H Q=>t σ H λc H1=>if c=true then u σ H1 Q else Q false H1
def tOr(t u:TT):TT:=λσ H Q=>t σ H λc H1=>if c=true then Q true H1 else u σ H1 Q
def c1m(t:TT):TT:=λσ H Q=>t σ H λc H1=>Q (!c) H1
theorem b7o(ha:PT X a tA):PW X (.BoolOp .And [a] pos) tA:=by
 intro wh pins s σ H Q I h;refine isTrue_and (D5 (ha pins s σ H Q I h) λc s1 e=> ?_);cases c with
 |true=>exact isTrue_and_nil e
 |false=>exact e
theorem b9G(ha:PT X a tA):PW X (.BoolOp .Or [a] pos) tA:=by
 intro wh pins s σ H Q I h;refine isTrue_or (D5 (ha pins s σ H Q I h) λc s1 e=> ?_);cases c with
 |false=>exact isTrue_or_nil e
 |true=>exact e
theorem b9F(ha:PT X a tA)(hb:PW X (.BoolOp .And (b::rest) pos) tB'):PW X (.BoolOp .And (a::b::rest) pos) (c1f tA tB'):=by
 intro wh pins s σ H Q I h;refine isTrue_and (D5 (ha pins s σ H _ I h) λc s1 ⟨H1,I1,q1⟩=> ?_);cases c with
 |true=>exact hb wh pins s1 σ H1 Q I1 q1
 |false=>exact⟨H1,I1,q1⟩
theorem c0z(ha:PT X a tA)(hb:PW X (.BoolOp .Or (b::rest) pos) tB'):PW X (.BoolOp .Or (a::b::rest) pos) (tOr tA tB'):=by
 intro wh pins s σ H Q I h;refine isTrue_or (D5 (ha pins s σ H _ I h) λc s1 ⟨H1,I1,q1⟩=> ?_);cases c with
 |true=>exact⟨H1,I1,q1⟩
 |false=>exact hb wh pins s1 σ H1 Q I1 q1
theorem b9C(ha:PT X a tA):PT X (.UnaryOp .Not a pos) (c1m tA):=by
 ext f
 exact isTrue_not (ha pins s σ H (λc H1=>Q (!c) H1) I h)
def c0F(ta tb:TE):TE:=λσ H Q=>ta σ H λx H1=>∃c,x= .bl c/\if c=true then tb σ H1 Q else Q (.bl false) H1
def c1n(ta tb:TE):TE:=λσ H Q=>ta σ H λx H1=>∃c,x= .bl c/\if c=true then Q (.bl true) H1 else tb σ H1 Q
def c0K(ta:TE):TE:=λσ H Q=>ta σ H λx H1=>∃c,x= .bl c/\Q (.bl (!c)) H1
theorem b9x{op}{t:TE}(h:PE X a t):PE X (.BoolOp op [a] pos) t:=λpins s σ H Q I hw=>BoolOp_one (h pins s σ H Q I hw)
theorem b9q(ha:PE X a ta)(hb:PE X (.BoolOp .And (b::rest) pos) tb):PE X (.BoolOp .And (a::b::rest) pos) (c0F ta tb):=by
 ext f
 refine BoolOp_and (D5 (ha pins s σ H _ I h) λv s1 h0=>k9 h0 λx H1 I1 r1 q1=> ?_);obtain⟨c,rfl,q1⟩:=q1;cases r1;refine wpAny_truthy_bool ?_;cases c with
 |true=>exact hb pins s1 σ H1 Q I1 q1
 |false=>exact⟨.bl false,H1,I1,rfl,q1⟩
theorem c0x(ha:PE X a ta)(hb:PE X (.BoolOp .Or (b::rest) pos) tb):PE X (.BoolOp .Or (a::b::rest) pos) (c1n ta tb):=by
 ext f
 refine BoolOp_or (D5 (ha pins s σ H _ I h) λv s1 h0=>k9 h0 λx H1 I1 r1 q1=> ?_);obtain⟨c,rfl,q1⟩:=q1;cases r1;refine wpAny_truthy_bool ?_;cases c with
 |false=>exact hb pins s1 σ H1 Q I1 q1
 |true=>exact⟨.bl true,H1,I1,rfl,q1⟩
theorem b9w(ha:PE X a ta):PE X (.UnaryOp .Not a pos) (c0K ta):=by
 ext f
 refine UnaryOp_ (D5 (ha pins s σ H _ I h) λv s1 h0=>k9 h0 λx H1 I1 r1 q1=> ?_);obtain⟨c,rfl,q1⟩:=q1;cases r1;exact not_of (wpAny_truthy_bool ⟨.bl (!c),H1,I1,rfl,q1⟩)
end
def SqL(K:AE)(H:Hp)(a:AA)(xs:List V):Prop:=
 Rd H a (.lst xs)\/
  ∃(o:Obj) (its:Array AB) (n:Nat),K.lookup a=ξ o/\o.cls= .type "list"/\o.dict=ζ/\o.data= .seq its n/\its.size<=AM/\l9 xs its.toList
def SqT(K:AE)(H:Hp)(a:AA)(xs:List V):Prop:=
 Rd H a (.tup xs)\/
  ∃(o:Obj) (its:Array AB) (n:Nat),K.lookup a=ξ o/\o.cls= .type "tuple"/\o.data= .seq its n/\its.size<=AM/\l9 xs its.toList
def c0Z:AB->Option V
 | .none=>ξ .non
 | .bool b=>ξ (.bl b)
 | .int i _=>ξ (.int i)
 | .str x _=>ξ (.str x)
 | .bytes b _=>ξ (.byt b)
 | .float b _=>ξ (.flt b)
 | .ref a=>ξ (.ref a)
 | .type n=>ξ (.ty n)
 |_=>ζ
theorem l8.abs{x:V}{u:AB}(r:l8 x u):c0Z u=ξ x:=by
 cases x with
 |non=>cases r;rfl
 |bl _=>cases r;rfl
 |int _=>obtain⟨t,rfl⟩:=r;rfl
 |str _=>obtain⟨t,rfl⟩:=r;rfl
 |byt _=>obtain⟨t,rfl⟩:=r;rfl
 |flt _=>obtain⟨t,rfl⟩:=r;rfl
 |ref _=>cases r;rfl
 |ty _=>cases r;rfl
theorem l8.inj{x y:V}{u:AB}(r:l8 x u)(q:l8 y u):x=y:=Option.some.inj (r.abs.symm.trans q.abs)
theorem l9.inj:∀{xs ys:List V} {us:List AB},l9 xs us->l9 ys us->xs=ys
 |_,_,_,.nil,.nil=>rfl
 |_,_,_,.cons r t,.cons r' t'=>by rw [r.inj r',l9.inj t t']
section
variable {X:Cx}{pins:List (AA×Obj)}{σ:St}{H:Hp}{s:AC}{a:AA}{xs ys:List V}
theorem SqL.of{K:AE}(h:H a=ξ (.lst xs)):SqL K H a xs:= .inl (.inl h)
theorem g9.list(I:g9 X pins σ H s)(h:SqL X.K H a xs):∃its:List AB,l9 xs its/\PlainL s.heap a its.toArray/\xs.length<=AM:=by
 rcases h with h|⟨o,its,n,hk,hc,hd,hs,hz,r⟩
 ·obtain⟨z,its,n,r,e⟩:=h.ok I.hok;exact⟨its,r,⟨_,n,e,rfl,rfl,rfl⟩,z⟩
 ·refine⟨its.toList,r,⟨o,n,I.kIn a o hk,hc,hd,by simpa using hs⟩, ?_⟩
  have e:=r.length;simp only [Array.length_toList] at e
  lia
theorem g9.tuple(I:g9 X pins σ H s)(h:SqT X.K H a xs):∃its:List AB,l9 xs its/\IsTup s.heap a its.toArray/\xs.length<=AM:=by
 rcases h with h|⟨o,its,n,hk,hc,hs,hz,r⟩
 ·obtain⟨z,its,r,p⟩:=h.ok I.hok;exact⟨its,r,p,z⟩
 ·refine⟨its.toList,r,⟨o,I.kIn a o hk,hc,n,by simpa using hs⟩, ?_⟩
  have e:=r.length;simp only [Array.length_toList] at e
  lia
theorem g9.list_inj(I:g9 X pins σ H s)(h:SqL X.K H a xs)(h':SqL X.K H a ys):xs=ys:=by
 obtain⟨its,r,⟨o,n,e,_,_,d⟩,_⟩:=I.list h;obtain⟨its',r',⟨o',n',e',_,_,d'⟩,_⟩:=I.list h';rw [e] at e';cases e';rw [d] at d';injection d' with d1 _
 have:its=its':=by simpa using congrArg Array.toList d1
 subst this;exact r.inj r'
theorem g9.tuple_inj(I:g9 X pins σ H s)(h:SqT X.K H a xs)(h':SqT X.K H a ys):xs=ys:=by
 obtain⟨its,r,⟨o,e,_,n,d⟩,_⟩:=I.tuple h;obtain⟨its',r',⟨o',e',_,n',d'⟩,_⟩:=I.tuple h';rw [e] at e';cases e';rw [d] at d';injection d' with d1 _
 have:its=its':=by simpa using congrArg Array.toList d1
 subst this;exact r.inj r'
end
abbrev Cx.wish(X:Cx)(E:AB->AC->Prop):Cx:={X with xe:=E}
abbrev Cx.nox(X:Cx):Cx:=X.wish λ_ _=>False
theorem Cx.Ok.wish{X:Cx}(ok:X.Ok)(E:AB->AC->Prop):(X.wish E).Ok:=
 ⟨ok.mod,ok.kind,ok.glob,ok.blt,ok.above,ok.inj,ok.has,ok.cab,ok.hd,ok.frames,ok.stk,ok.exf,ok.bs,ok.bsz,ok.noex,ok.exfs,ok.funs,ok.frf⟩
theorem Cx.Ok.unwish{X:Cx}{E:AB->AC->Prop}(ok:(X.wish E).Ok):X.Ok:=
 ⟨ok.mod,ok.kind,ok.glob,ok.blt,ok.above,ok.inj,ok.has,ok.cab,ok.hd,ok.frames,ok.stk,ok.exf,ok.bs,ok.bsz,ok.noex,ok.exfs,ok.funs,ok.frf⟩
section
variable {X:Cx}{pins:List (AA×Obj)}{σ:St}{H:Hp}{s:AC}{E:AB->AC->Prop}
theorem g9.wish(I:g9 X pins σ H s)(E:AB->AC->Prop):g9 (X.wish E) pins σ H s:=⟨I.ok.wish E,I.os,I.bare,I.base,I.loc,I.cell,I.free,I.freeC,I.pin,I.hok,I.len⟩
theorem g9.unwish(I:g9 (X.wish E) pins σ H s):g9 X pins σ H s:=⟨I.ok.unwish,I.os,I.bare,I.base,I.loc,I.cell,I.free,I.freeC,I.pin,I.hok,I.len⟩
theorem SP.unwish{D:O7}{f:Flow}{s':AC}(h:SP (X.wish E) pins D f s'):SP X pins D f s':=by
 cases f with
 |next=>obtain⟨σ',H',I,q⟩:=h;exact⟨σ',H',I.unwish,q⟩
 |brk=>obtain⟨σ',H',I,q⟩:=h;exact⟨σ',H',I.unwish,q⟩
 |cont=>obtain⟨σ',H',I,q⟩:=h;exact⟨σ',H',I.unwish,q⟩
 |ret u=>obtain⟨v,σ',H',I,r,q⟩:=h;exact⟨v,σ',H',I.unwish,r,q⟩
theorem PSs.nox{st:List Stmt}{t:TS}(h:PSs X.nox st t):PSs X st t:=λpins s σ H D I hw=>
 wpAny_mono (h pins s σ H D (I.wish _) hw) (λ_ _ q=>q.unwish) λ_ _ z=>False.elim z
end
section
variable {X:Cx}{st:Stmt}{rest:List Stmt}{t u:TS}{e:AF}{te:TE}{pos:Pos}
def b5Z:TS:=λD σ H=>D.nx σ H
def b4a(t u:TS):TS:=λD σ H=>t {D with nx:=u D} σ H
theorem K0:PSs X [] b5Z:=λ_ _ σ H _ I h=>wpAny_execs_nil ⟨σ,H,I,h⟩
theorem p0(h1:PS X st t)(h2:PSs X rest u):PSs X (st::rest) (b4a t u):=by
 intro pins s σ H D I h;refine wpAny_execs_cons (D5 (h1 pins s σ H {D with nx:=u D} I h) λf s1 q=> ?_)
 cases f with
 |next=>
  obtain⟨σ',H',I',q⟩:=q;exact h2 pins s1 σ' H' D I' q
 |ret v=>exact q
 |brk=>exact q
 |cont=>exact q
theorem a9z(h1:PS X st t):PSs X [st] t:=by
 intro pins s σ H D I h;refine wpAny_execs_cons (D5 (h1 pins s σ H D I h) λf s1 q=> ?_);cases f with
 |next=>exact wpAny_execs_nil q
 |ret v=>exact q
 |brk=>exact q
 |cont=>exact q
theorem g9.quiet{pins:List (AA×Obj)}{σ:St}{H:Hp}{s:AC}(I:g9 X pins σ H s):interactive X.env=false:=by simp [interactive,I.ok.kind]
def c0I(te:TE):TS:=λD σ H=>te σ H λ_ H1=>D.nx σ H1
theorem a5P(he:PE X e te)(hs:swapsWith e ζ pos.line X.env=pure false:=by rfl):PS X (.Expr e pos) (c0I te):=by
 intro pins s σ H D I h;exact wpAny_Expr_any (D5 (he pins s σ H _ I h) λv s1 h0=>k9 h0 λx H1 I1 r1 q1=>⟨σ,H1,I1,q1⟩) I.quiet hs
def c1o(te:TE):TS:=λD σ H=>te σ H D.rt
theorem a9y(he:PE X e te):PS X (.Return (ξ e) pos) (c1o te):=by
 intro pins s σ H D I h;exact wpAny_Return_some (D5 (he pins s σ H _ I h) λv s1 h0=>k9 h0 λx H1 I1 r1 q1=>⟨x,σ,H1,I1,r1,q1⟩)
def c1k(c:TT)(t u:TS):TS:=λD σ H=>c σ H λb H1=>if b=true then t D σ H1 else u D σ H1
theorem b5G{c:AF}{a b:List Stmt}{tc:TT}(hc:PT X c tc)(ha:PSs X a t)(hb:PSs X b u):PS X (.If c a b pos) (c1k tc t u):=by
 intro pins s σ H D I h;refine wpAny_If (D5 (hc pins s σ H _ I h) λd s1 ⟨H1,I1,q1⟩=> ?_);cases d with
 |true=>exact ha pins s1 σ H1 D I1 q1
 |false=>exact hb pins s1 σ H1 D I1 q1
end
abbrev TG:=V->St->Hp->(St->Hp->Prop)->Prop
abbrev TGs:=List V->St->Hp->(St->Hp->Prop)->Prop
def PG(X:Cx)(target:AF)(t:TG):Prop:=
 ∀(pins:List (AA×Obj)) (s:AC) (σ:St) (H:Hp) (v:V) (u:AB) (Q:St->Hp->Prop),g9 X pins σ H s->l8 v u->t v σ H Q->
  AH (model X.prog X.w) X.A (assign target X.env u) (λ_ s'=>∃σ' H',g9 X pins σ' H' s'/\Q σ' H') X.xe s
def PGs(X:Cx)(ts:List AF)(t:TGs):Prop:=
 ∀(pins:List (AA×Obj)) (s:AC) (σ:St) (H:Hp) (vs:List V) (us:List AB) (Q:St->Hp->Prop),g9 X pins σ H s->l9 vs us->t vs σ H Q->
  AH (model X.prog X.w) X.A (assignInOrder ((assignEach ts X.env).map (·.2)) us) (λ_ s'=>∃σ' H',g9 X pins σ' H' s'/\Q σ' H') X.xe s
section
variable {X:Cx}{pos:Pos}
def a8h(i:Nat):TG:=λv σ H Q=>Q (σ.set i (ξ v)) H
theorem u4{i:Nat}{x:Str}(hN:X.N.Nodup)(hi:X.N[i]?=ξ x)(hx:Loc X.env.scope x)(hf:X.fn x=true\/X.env.scope.names.lookup x=ξ .local:=by first|exact .inl rfl|exact .inr rfl|assumption):PG X (.Name x pos) (a8h i):=by
 intro pins s σ H v u Q I r h;exact wpAny_assign_Name (a69 I hN hi hx r (λs' I'=>⟨_,H,I',h⟩) hf)
def c0e:TGs:=λvs σ H Q=>vs=[]/\Q σ H
def b73(t:TG)(u:TGs):TGs:=λvs σ H Q=>∃v r,vs=v::r/\t v σ H λσ' H'=>u r σ' H' Q
theorem b2O:PGs X [] c0e:=by
 intro pins s σ H vs us Q I r h;obtain⟨e,h⟩:=h;subst e;cases r;exact assignInOrder_nil ⟨σ,H,I,h⟩
theorem a16{e:AF}{es:List AF}{t:TG}{u:TGs}(h1:PG X e t)(h2:PGs X es u)
 (hs:(assignEach (e::es) X.env).map (·.2)=assign e X.env::(assignEach es X.env).map (·.2):=by rfl):PGs X (e::es) (b73 t u):=by
 intro pins s σ H vs us Q I r h
 obtain⟨v,vr,e1,h⟩:=h
 subst e1
 cases r with
 |cons r rr=>
  rw [hs]
  refine assignInOrder_cons (D5 (h1 pins s σ H _ _ _ I r h) λ_ s1 ⟨σ1,H1,I1,q1⟩=> ?_)
  exact h2 pins s1 σ1 H1 _ _ Q I1 rr q1
def c0f(K:AE)(n:Nat)(t:TGs):TG:=λv σ H Q=>∃a xs,v= .ref a/\SqT K H a xs/\xs.length=n/\t xs σ H Q
theorem b5D{es:List AF}{k:Nat}{t:TGs}{n:Nat}(hc:X.calm=true)(h:PGs X es t)
 (hn:(assignEach es X.env).length=n:=by rfl) (hst:(assignEach es X.env).findIdx? (·.1)=ζ:=by rfl):PG X (.Tuple es k pos) (c0f X.K n t):=by
 intro pins s σ H v u Q I r hw
 obtain⟨a,xs,e1,hq,hl,hw⟩:=hw
 subst e1
 cases r
 obtain⟨its,rv,ht,hz⟩:=I.tuple hq
 refine assign_Tuple_tuple (I.ok.hd hc) ht (by simp [hn,<-hl,rv.length]) hst λh' hx=> ?_
 have I1:g9 X pins σ H {s with heap:=h'}:=I.kept (t':=s.toks) λb o e=>hx b o (AZ (AT e)) e
 exact h pins _ σ H xs _ Q I1 (by simpa using rv) hw
def c0G(te:TE)(g:TG):TS:=λD σ H=>te σ H λx H1=>g x σ H1 D.nx
theorem b9A{tg e:AF}{te:TE}{g:TG}(he:PE X e te)(hg:PG X tg g)(hs:swapsWithSole [tg] e pos.line X.env=pure false:=by rfl)(hw:swappedStores [tg] e X.env=pure ζ:=by rfl)
 (h1:(assignEach [tg] X.env).map (·.2)=[assign tg X.env]:=by rfl):PS X (.Assign [tg] e pos) (c0G te g):=by
 intro pins s σ H D I h
 refine wpAny_Assign_stores (D5 (he pins s σ H _ I h) λv s1 h0=>k9 h0 λx H1 I1 r1 q1=> ?_) hs hw
 rw [h1]
 exact D5 (hg pins s1 σ H1 x v _ I1 r1 q1) λ_ s2 q=>q
theorem b5H{i:Nat}{x:Str}{e:AF}{te:TE}{pos':Pos}(hN:X.N.Nodup)(hi:X.N[i]?=ξ x)(hx:Loc X.env.scope x)(he:PE X e te)(hs:swapsWith e (ξ (.Name x pos')) pos.line X.env=pure false:=by rfl)(hf:X.fn x=true\/X.env.scope.names.lookup x=ξ .local:=by first|exact .inl rfl|exact .inr rfl|assumption):
 PS X (.Assign [.Name x pos'] e pos) (c0G te (a8h i)):=by
 intro pins s σ H D I h
 refine wpAny_Assign_Name (D5 (he pins s σ H _ I h) λv s1 h0=>k9 h0 λy H1 I1 r1 q1=> ?_) hs
 exact a69 I1 hN hi hx r1 (λs2 I2=>⟨_,H1,I2,q1⟩) hf
end
structure It where
 go:Nat->Hp->Prop
 yld:Nat->Hp->V->Hp->Prop
 stop:Nat->Hp->Prop
def a25(X:Cx)(pins:List (AA×Obj))(H:Hp)(b:AA):Prop:=
 H b=ζ/\b≠X.env.locals/\b∉X.fs/\(b∈X.ex\/X.s₀.heap.objs.size<=b)/\(∀x c,X.env.cells.lookup x=ξ c->c≠b)/\∀p∈X.pn++pins,p.1≠b
theorem g9.fpOk{X:Cx}{pins:List (AA×Obj)}{σ:St}{H H':Hp}{s:AC}{b:AA}(I:g9 X pins σ H s)(hb:s.heap.objs.size<=b)(hn:H' b=ζ):a25 X pins H' b:=by
 refine⟨hn,Nat.ne_of_gt (Ai I.lt hb),I.nofs hb,.inr (Nat.le_trans I.sz hb),λx c e z=> ?_,λp hp z=> ?_⟩
 ·obtain⟨v,q⟩:=I.cell x c e;exact absurd (Ai q.lt (by rw [z];exact hb)) (Nat.lt_irrefl _)
 ·exact absurd (Ai (AT (I.pin p hp).1) (by rw [z];exact hb)) (Nat.lt_irrefl _)
structure b08(P:AJ)(w:AI)(K:AE)(tg:AF)(J:It)(fp:List AA)(it:AA)(tn:Nat->Heap->Prop):Prop where
 mem:it∈fp
 obj:∀i h,tn i h->∀b∈fp,∃o,h.get? b=ξ o/\∀v,o.data≠.cell v
 keep:∀i h h',tn i h->(∀b∈fp,∀o,h.get? b=ξ o->h'.get? b=ξ o)->tn i h'
 item:∀(X:Cx),X.prog=P->X.w=w->X.K=K->X.calm=true->∀(i:Nat) (pins:List (AA×Obj)) (s:AC) (σ:St) (H:Hp) (E:AB->AC->Prop),g9 X pins σ H s->(∀b∈fp,a25 X pins H b)->tn i s.heap->J.go i H->
  AH (model P w) X.A (pyNext (.ref it)) (λr s1=>∃u,r=ξ u/\
   AH (model P w) X.A (letOwnedTupleGo tg (.ref it) u) (λ_ s2=>∃x H',g9 X pins σ H' s2/\l8 x u/\J.yld i H x H'/\tn (i+1) s2.heap/\∀b∈fp,H' b=ζ) E s1) E s
 done:∀(X:Cx),X.prog=P->X.w=w->X.K=K->X.calm=true->∀(i:Nat) (pins:List (AA×Obj)) (s:AC) (σ:St) (H:Hp) (E:AB->AC->Prop),g9 X pins σ H s->(∀b∈fp,a25 X pins H b)->tn i s.heap->J.stop i H->
   AH (model P w) X.A (pyNext (.ref it)) (λr s1=>r=ζ/\g9 X pins σ H s1) E s
 self:∀(A:AK) (i:Nat) (s:AC) (Q:AB->AC->Prop) (E:AB->AC->Prop),tn i s.heap->Q (.ref it) s->AH (model P w) A (pyIter (.ref it)) Q E s
abbrev TI:=St->Hp->(It->Hp->Prop)->Prop
def PIE(X:Cx)(pins:List (AA×Obj))(σ:St)(tg:AF)(R:It->Hp->Prop)(itv:AB)(s2:AC):Prop:=
 ∃(it:AA) (fp:List AA) (tn:Nat->Heap->Prop) (J:It) (H':Hp),itv= .ref it/\g9 X pins σ H' s2/\b08 X.prog X.w X.K tg J fp it tn/\tn 0 s2.heap/\(∀b∈fp,a25 X pins H' b)/\R J H'
def PI(X:Cx)(tg iter:AF)(wi:TI):Prop:=
 ∀(pins:List (AA×Obj)) (s:AC) (σ:St) (H:Hp) (R:It->Hp->Prop),g9 X pins σ H s->wi σ H R->
  AH (model X.prog X.w) X.A (eval iter X.env) (λv s1=>AH (model X.prog X.w) X.A (pyIter v) (PIE X pins σ tg R) X.xe s1) X.xe s
theorem b40{M:Model}{A:AK}{E:AB->AC->Prop}{s:AC}{tg:AF}{it:AA}{u:AB}{o:Obj}{n:String}{vs:Array AB}{Q:Unit->AC->Prop}(ho:s.heap.get? it=ξ o)(hc:o.cls= .type n)(hd:o.data= .fields vs)
 (hn:["enumerate","zip","dict_itemiterator","dict_reverseitemiterator","odict_iterator","itertools.zip_longest","itertools.pairwise"].contains n=false) (hQ:Q () s):AH M A (letOwnedTupleGo tg (.ref it) u) Q E s:=by
 unfold letOwnedTupleGo
 cases tg<;>first
  |exact AN hQ
  |(cases u<;>first
   |exact AN hQ
   |(refine AG (wpAny_load ho ?_)
     rw [hc,hd]
     show AH M A (if(["enumerate","zip","dict_itemiterator","dict_reverseitemiterator","odict_iterator","itertools.zip_longest","itertools.pairwise"].contains n && vs[0]?==ξ (rawInt _))=true then _ else _) Q E s
     rw [if_neg (by intro h;rw [hn,Bool.false_and] at h;cases h)]
     exact AN hQ))
def Itl(K:AE)(a:AA):It:=
 ⟨λi H=>∃xs x,SqL K H a xs/\xs[i]?=ξ x,λi H x H'=>H'=H/\∀xs,SqL K H a xs->xs[i]?=ξ x,λi H=>∃xs,SqL K H a xs/\xs.length<=i⟩
def Itt(K:AE)(a:AA):It:=
 ⟨λi H=>∃xs x,SqT K H a xs/\xs[i]?=ξ x,λi H x H'=>H'=H/\∀xs,SqT K H a xs->xs[i]?=ξ x,λi H=>∃xs,SqT K H a xs/\xs.length<=i⟩
def Itr(lo:Int)(n:Nat):It:=⟨λi _=>i<n,λi H x H'=>H'=H/\x= .int (lo+i),λi _=>n<=i⟩
theorem b4c{P:AJ}{w:AI}{K:AE}{tg:AF}(a it:AA):b08 P w K tg (Itl K a) [it] it (λi h=>h.IsListIter it a i) where
 mem:=by simp
 obj:=λi h st b hb=>by
  have e:b=it:=by simpa using hb
  subst e
  ext j
 keep:=λi h h' st k=>st.at λo e=>k it (by simp) o e
 item:=by
  ext g
  obtain⟨xs,x,hq,hx⟩:=hg;obtain⟨its,rv,p,hz⟩:=I.list hq;obtain⟨u,hu,ru⟩:=rv.get hx
  ext q
  refine wpAny_pyNext_list_item st p.isList (x:=u) (by simpa using hu) λh' st' sb=> ?_
  have I1:g9 X pins σ H {s with heap:=h'}:=I.turned (t':=s.toks) (λb o hb e=>(sb.2 b hb).trans e) f0 f1 f3 f4 f5
  obtain⟨o,e,c,d⟩:=id st';exact⟨u,rfl,b40 (s:={s with heap:=h'}) e c d (by decide) ⟨x,H,I1,ru,⟨rfl,λys hy=>by rw [I.list_inj hy hq];exact hx⟩,st',λb hb=>(hf b hb).1⟩⟩
 done:=by
   ext g
   obtain⟨xs,hq,hx⟩:=hg;obtain⟨its,rv,p,hz⟩:=I.list hq
   ext q
   have hl:=rv.length;exact wpAny_pyNext_list_end (I.ok.hd hc) st p.isList (by simp;lia) λh' eb=>⟨rfl,I.turned (t':=s.toks) (λb o hb e=>eb b o hb e) f0 f1 f3 f4 f5⟩
 self:=λ_ _ _ _ _ st h=>wpAny_pyIter_listiter st h
theorem b18{P:AJ}{w:AI}{K:AE}{tg:AF}(a it:AA):b08 P w K tg (Itt K a) [it] it (λi h=>h.IsTupleIter it a i) where
 mem:=by simp
 obj:=λi h st b hb=>by
  have e:b=it:=by simpa using hb
  subst e
  ext j
 keep:=λi h h' st k=>st.at λo e=>k it (by simp) o e
 item:=by
  ext g
  obtain⟨xs,x,hq,hx⟩:=hg;obtain⟨its,rv,p,hz⟩:=I.tuple hq;obtain⟨u,hu,ru⟩:=rv.get hx
  ext q
  refine wpAny_pyNext_tuple_item st (show s.heap.IsTuple a its.toArray from p) (x:=u) (by simpa using hu) λh' st' sb=> ?_
  have I1:g9 X pins σ H {s with heap:=h'}:=I.turned (t':=s.toks) (λb o hb e=>(sb.2 b hb).trans e) f0 f1 f3 f4 f5
  obtain⟨o,e,c,d⟩:=id st';exact⟨u,rfl,b40 (s:={s with heap:=h'}) e c d (by decide) ⟨x,H,I1,ru,⟨rfl,λys hy=>by rw [I.tuple_inj hy hq];exact hx⟩,st',λb hb=>(hf b hb).1⟩⟩
 done:=by
   ext g
   obtain⟨xs,hq,hx⟩:=hg;obtain⟨its,rv,p,hz⟩:=I.tuple hq
   ext q
   have hl:=rv.length;exact wpAny_pyNext_tuple_end (I.ok.hd hc) st (show s.heap.IsTuple a its.toArray from p) (by simp;lia) λh' eb=>⟨rfl,I.turned (t':=s.toks) (λb o hb e=>eb b o hb e) f0 f1 f3 f4 f5⟩
 self:=λ_ _ _ _ _ st h=>wpAny_pyIter_tupleiter st h
theorem b17{P:AJ}{w:AI}{K:AE}{tg:AF}(it:AA)(lo:Int)(n:Nat):b08 P w K tg (Itr lo n) [it] it (λi h=>IsRangeIter h it (lo+(i:Nat)*1) ((n:Int) - (i:Nat)) 1) where
 mem:=by simp
 obj:=λi h st b hb=>by
  have e:b=it:=by simpa using hb
  subst e;exact⟨_,st,λv z=>by
   have z':Data.fields _=Data.cell v:=z;cases z'⟩
 keep:=λi h h' st k=>k it (by simp) _ st
 item:=by
  ext g
  ext q
  have W:=Walks.range (prog:=X.prog) (w:=X.w) (I.ok.hd hc) it lo 1 n;refine W.item i s _ _ hg st λv h' tk hv st' kk=> ?_;obtain⟨t,rfl⟩:=hv;have I1:g9 X pins σ H {s with heap:=h',toks:=tk}:=I.turned (λb o hb e=>kk b o (by simpa using hb) e) f0 f1 f3 f4 f5
  refine⟨_,rfl,b40 (s:={s with heap:=h',toks:=tk}) (n:="range_iterator") st' rfl rfl (by decide) ⟨.int (lo+i),H,I1,⟨t, ?_⟩,⟨rfl,rfl⟩,st',λb hb=>(hf b hb).1⟩⟩
  rw [Int.mul_one]
 done:=by
   ext g
   ext q
   exact wpAny_pyNext_range_end (I.ok.hd hc) st (by have:n<=i:=hg;lia) λh' eb=>⟨rfl,I.turned (t':=s.toks) (λb o hb e=>eb b o hb e) f0 f1 f3 f4 f5⟩
 self:=λ_ _ _ _ _ st h=>wpAny_pyIter_rangeiter st h
section
variable {X:Cx}{tg:AF}
theorem b0C{pins:List (AA×Obj)}{σ:St}{H:Hp}{s:AC}{R:It->Hp->Prop}{E:AB->AC->Prop}{lo hi:Int}{t u v:Tok}{tk:Nat}(I:g9 X pins σ H s)(h1: -(2 ^ 62)<=lo)(h2:lo<2 ^ 62)(h3: -(2 ^ 62)<=hi)(h4:hi<2 ^ 62)
 (q:R (Itr lo (hi - lo).toNat) H):AH (model X.prog X.w) X.A (pyIter (.ref s.heap.objs.size)) (PIE X pins σ tg R) E {s with heap:=s.heap.push {cls:= .type "range",data:= .fields #[.int lo t,.int hi u,.int 1 v]},toks:=tk}:=by
 refine wpAny_pyIter_range (IsRange.new ..) (small_one h1 h2 h3 h4) ?_
 have I1:g9 X pins σ H {s with heap:=s.heap.push {cls:= .type "range",data:= .fields #[.int lo t,.int hi u,.int 1 v]},toks:=tk}:=I.kept λb o e=>AV _ e
 refine⟨(s.heap.push {cls:= .type "range",data:= .fields #[.int lo t,.int hi u,.int 1 v]}).objs.size,[(s.heap.push {cls:= .type "range",data:= .fields #[.int lo t,.int hi u,.int 1 v]}).objs.size],_,_,H,rfl,
  I1.kept (t':=tk) λb o e=>AV _ e,b17 _ lo (hi - lo).toNat, ?_,λb hb=> ?_,q⟩
 ·have e1:lo+((0:Nat):Int)*1=lo:=by simp
  have e2:(((hi - lo).toNat:Nat):Int) - ((0:Nat):Int)=Builtin.Range.rangeSize lo hi 1:=by rw [rangeSize_one];split<;>lia
  show IsRangeIter _ _ (lo+((0:Nat):Int)*1) ((((hi - lo).toNat:Nat):Int) - ((0:Nat):Int)) 1
  rw [e1,e2]
  exact Ak _ rfl
 ·have e:b=(s.heap.push {cls:= .type "range",data:= .fields #[.int lo t,.int hi u,.int 1 v]}).objs.size:=by simpa using hb
  subst e
  exact I1.fpOk (AQ _) (I1.hok.fresh (AQ _))
def c0g(ta:TA):TI:=λσ H R=>ta σ H λvs H1=>∃j:Int,vs=[.int j]/\ -(2 ^ 62)<=j/\j<2 ^ 62/\R (Itr 0 j.toNat) H1
def c0h(ta:TA):TI:=λσ H R=>ta σ H λvs H1=>∃i j:Int,vs=[.int i,.int j]/\(-(2 ^ 62)<=i/\i<2 ^ 62/\ -(2 ^ 62)<=j/\j<2 ^ 62)/\R (Itr i (j - i).toNat) H1
theorem a8r{a:AF}{ta:TA}{p pos:Pos}(hg:Gl X "range")(hm:X.mg "range"=ζ)(ha:PA X [a] ta)(hs:AL [a] X.env=[(false,eval a X.env)]:=by rfl):PI X tg (.Call (.Name "range" p) [a] [] pos) (c0g ta):=by
 intro pins s σ H R I h;refine Call_ (a4I I hg hm boot_range (PyProof.Rows.callWith_type1 (D5 (ha pos pins s σ H _ I h) λus s1 h0=>k9 h0 λvs H1 I1 r1 q1=> ?_) hs rfl));obtain⟨j,e,q1,q2,q⟩:=q1;subst e;cases r1 with
 |cons r rr=>
  cases rr;obtain⟨t,rfl⟩:=r;exact call_range_1 (b0C I1 (by lia) (by lia) q1 q2 (by simpa using q))
theorem b3V{a b:AF}{ta:TA}{p pos:Pos}(hg:Gl X "range")(hm:X.mg "range"=ζ)(ha:PA X [a,b] ta)(hs:AL [a,b] X.env=[(false,eval a X.env),(false,eval b X.env)]:=by rfl)(hs2:AL [b] X.env=[(false,eval b X.env)]:=by rfl):
 PI X tg (.Call (.Name "range" p) [a,b] [] pos) (c0h ta):=by
 intro pins s σ H R I h
 refine Call_ (a4I I hg hm boot_range (PyProof.Rows.callWith_type1 (D5 (ha pos pins s σ H _ I h) λus s1 h0=>k9 h0 λvs H1 I1 r1 q1=> ?_) (by rw [hs,hs2]) (by rw [hs2];rfl)))
 obtain⟨i,j,e,⟨q1,q2,q3,q4⟩,q⟩:=q1
 subst e
 cases r1 with
 |cons r rr=>
  cases rr with
  |cons r' rr=>
   cases rr
   obtain⟨t,rfl⟩:=r
   obtain⟨t',rfl⟩:=r'
   exact call_range_2 (b0C I1 q1 q2 q3 q4 q)
def c1j(wi:TI)(g:TG)(tb:TS):TS:=λD σ H=>wi σ H λJ H1=>∃W:Nat->Nat->St->Hp->Prop,(∃m,W 0 m σ H1)/\∀i m σ H,W i m σ H->
 (J.stop i H/\D.nx σ H)\/(J.go i H/\∃N:St->Hp->Prop,(∀σ' H',N σ' H'->∃m',m'<m/\W (i+1) m' σ' H')/\∀x H',J.yld i H x H'->g x σ H' λσ2 H2=>tb {D with nx:=N,ct:=N,bk:=D.nx} σ2 H2)
def a4S(fp:List AA)(h:Heap):List (AA×Obj):=fp.filterMap λb=>(h.get? b).map λo=>(b,o)
theorem Q4{fp:List AA}{h:Heap}{b:AA}{o:Obj}(hb:b∈fp)(e:h.get? b=ξ o):(b,o)∈a4S fp h:=List.mem_filterMap.mpr ⟨b,hb,by rw [e];rfl⟩
theorem b3R{fp:List AA}{h:Heap}{p:AA×Obj}(hp:p∈a4S fp h):p.1∈fp/\h.get? p.1=ξ p.2:=by
 obtain⟨b,hb,e⟩:=List.mem_filterMap.mp hp;cases q:h.get? b with
 |none=>rw [q] at e;cases e
 |some o=>
  rw [q] at e;have e':(b,o)=p:=Option.some.inj e;subst e';exact⟨hb,q⟩
theorem g9.pinned{pins:List (AA×Obj)}{σ:St}{H:Hp}{s:AC}{fp:List AA}(I:g9 X pins σ H s)(hf:∀b∈fp,a25 X pins H b)(ho:∀b∈fp,∃o,s.heap.get? b=ξ o/\∀v,o.data≠.cell v):g9 X (pins++a4S fp s.heap) σ H s:=
 I.pins_of λp hp=>(An.mp hp).elim (λz=>I.pin p (Al _ z)) λz=>by
  obtain⟨hb,e⟩:=b3R z;obtain⟨f0,f1,f2,_⟩:=hf p.1 hb;obtain⟨o,e',d⟩:=ho p.1 hb;rw [e] at e';cases e';exact⟨e,f0,f1,f2,d⟩
theorem g9.unpinned{pins pl:List (AA×Obj)}{σ:St}{H:Hp}{s:AC}(I:g9 X (pins++pl) σ H s):g9 X pins σ H s:=I.pins_of λp hp=>I.pin p (Al _ (Ay _ hp))
theorem a3r{iter:AF}{body:List Stmt}{wi:TI}{g:TG}{tb:TS}{pos:Pos}(hp:PassesOwn (model X.prog X.w) X.A X.env X.xe)(hc:X.calm=true)(hi:PI X tg iter wi)(hg:PG X tg g)(hb:PSs X body tb)
 (hs:∀x,foldedSetIterable iter X.env x=pure x:=by intro _;rfl):PS X (.For tg iter body [] pos) (c1j wi g tb):=by
 intro pins s σ H D I h
 refine wpAny_For (D5 (hi pins s σ H _ I h) λv s1 h1=>D5 h1 λitv s2 h2=> ?_) hs
 obtain⟨it,fp,tn,J,H2,e,I2,T,st2,f2,W,⟨m0,w0⟩,turn⟩:=h2
 subst e
 have stat:∀{H':Hp},(∀b∈fp,H' b=ζ)->∀b∈fp,a25 X pins H' b:=λhn b hb=>⟨hn b hb,(f2 b hb).2⟩
 refine codeAny_forLoop_any (λn s'=>∃i σ' H',g9 X pins σ' H' s'/\tn i s'.heap/\(∀b∈fp,H' b=ζ)/\W i n σ' H') ?_ m0 ⟨0,σ,H2,I2,st2,λb hb=>(f2 b hb).1,w0⟩
 rintro n s3 ⟨i,σ3,H3,I3,st3,fr3,w3⟩
 rcases turn i n σ3 H3 w3 with⟨stop,qn⟩|⟨go,N,hN,step⟩
 ·refine wpAny_passesOwn hp (D5 (T.done X rfl rfl rfl hc i pins s3 σ3 H3 X.xe I3 (stat fr3) st3 stop) λr s4 ⟨hr,I4⟩=> ?_)
  subst hr
  exact wpAny_execs_nil ⟨σ3,H3,I4,qn⟩
 ·refine wpAny_passesOwn hp (D5 (T.item X rfl rfl rfl hc i pins s3 σ3 H3 X.xe I3 (stat fr3) st3 go) λr s4 ⟨u,hr,h4⟩=> ?_)
  subst hr
  refine wpAny_passesOwn hp (D5 h4 λ_ s5 ⟨x,H5,I5,r5,y5,st5,fr5⟩=> ?_)
  have I5':=I5.pinned (stat fr5) (T.obj _ _ st5)
  refine wpAny_passesOwn hp (D5 (hg _ s5 σ3 H5 x u _ I5' r5 (step x H5 y5)) λ_ s6 ⟨σ6,H6,I6,q6⟩=> ?_)
  refine wpAny_passesOwn hp (D5 (hb _ s6 σ6 H6 _ I6 q6) λf s7 q7=> ?_)
  have again:∀{σ7:St} {H7:Hp},g9 X (pins++a4S fp s5.heap) σ7 H7 s7->N σ7 H7->∃m,m<n/\∃i σ' H',g9 X pins σ' H' s7/\tn i s7.heap/\(∀b∈fp,H' b=ζ)/\W i m σ' H':=λ {σ7 H7} I7 n7=>by
   obtain⟨m',hm,w7⟩:=hN σ7 H7 n7;refine⟨m',hm,i+1,σ7,H7,I7.unpinned,T.keep _ _ _ st5 λb hb o e=>(I7.pin (b,o) (Al _ (Al _ (Q4 hb e)))).1,λb hb=> ?_,w7⟩;obtain⟨o,e,d⟩:=T.obj _ _ st5 b hb;exact(I7.pin (b,o) (Al _ (Al _ (Q4 hb e)))).2.1
  cases f with
  |next=>obtain⟨σ7,H7,I7,n7⟩:=q7;exact again I7 n7
  |cont=>obtain⟨σ7,H7,I7,n7⟩:=q7;exact again I7 n7
  |brk=>obtain⟨σ7,H7,I7,q7⟩:=q7;exact⟨σ7,H7,I7.unpinned,q7⟩
  |ret v=>obtain⟨x7,σ7,H7,I7,r7,q7⟩:=q7;exact⟨x7,σ7,H7,I7.unpinned,r7,q7⟩
end
theorem a6k{K:AE}{a:AA}{xs:List V}{g:TG}{tb:TS}{D:O7}{σ:St}{H:Hp}(Pv:Nat->St->Hp->Prop)(h0:Pv 0 σ H)(hl:∀i σ H,i<=xs.length->Pv i σ H->SqL K H a xs)
 (hs:∀i x σ H,xs[i]?=ξ x->Pv i σ H->g x σ H λσ2 H2=>tb {D with nx:=Pv (i+1),ct:=Pv (i+1),bk:=D.nx} σ2 H2) (hd:∀σ H,Pv xs.length σ H->D.nx σ H):
 ∃W:Nat->Nat->St->Hp->Prop,(∃m,W 0 m σ H)/\∀i m σ H,W i m σ H->
  ((Itl K a).stop i H/\D.nx σ H)\/((Itl K a).go i H/\∃N:St->Hp->Prop,(∀σ' H',N σ' H'->∃m',m'<m/\W (i+1) m' σ' H')/\∀x H',(Itl K a).yld i H x H'->g x σ H' λσ2 H2=>tb {D with nx:=N,ct:=N,bk:=D.nx} σ2 H2):=by
 refine⟨λi m σ H=>m=xs.length - i/\i<=xs.length/\Pv i σ H,⟨xs.length,by simp,Nat.zero_le _,h0⟩, ?_⟩
 rintro i m σ H ⟨rfl,hi,p⟩
 have q:=hl i σ H hi p
 by_cases hlt:i<xs.length
 ·refine .inr ⟨⟨xs,xs[i],q,by simp [hlt]⟩,Pv (i+1),λσ' H' p'=>⟨xs.length - (i+1),by lia,rfl,hlt,p'⟩,λx H' y=> ?_⟩
  obtain⟨e,y⟩:=y
  subst e
  exact hs i x σ _ (y xs q) p
 ·have e:i=xs.length:=by lia
  subst e
  exact .inl ⟨⟨xs,q,AQ _⟩,hd σ H p⟩
theorem b2v{K:AE}{a:AA}{xs:List V}{g:TG}{tb:TS}{D:O7}{σ:St}{H:Hp}(Pv:Nat->St->Hp->Prop)(h0:Pv 0 σ H)(hl:∀i σ H,i<=xs.length->Pv i σ H->SqT K H a xs)
 (hs:∀i x σ H,xs[i]?=ξ x->Pv i σ H->g x σ H λσ2 H2=>tb {D with nx:=Pv (i+1),ct:=Pv (i+1),bk:=D.nx} σ2 H2) (hd:∀σ H,Pv xs.length σ H->D.nx σ H):
 ∃W:Nat->Nat->St->Hp->Prop,(∃m,W 0 m σ H)/\∀i m σ H,W i m σ H->
  ((Itt K a).stop i H/\D.nx σ H)\/((Itt K a).go i H/\∃N:St->Hp->Prop,(∀σ' H',N σ' H'->∃m',m'<m/\W (i+1) m' σ' H')/\∀x H',(Itt K a).yld i H x H'->g x σ H' λσ2 H2=>tb {D with nx:=N,ct:=N,bk:=D.nx} σ2 H2):=by
 refine⟨λi m σ H=>m=xs.length - i/\i<=xs.length/\Pv i σ H,⟨xs.length,by simp,Nat.zero_le _,h0⟩, ?_⟩
 rintro i m σ H ⟨rfl,hi,p⟩
 have q:=hl i σ H hi p
 by_cases hlt:i<xs.length
 ·refine .inr ⟨⟨xs,xs[i],q,by simp [hlt]⟩,Pv (i+1),λσ' H' p'=>⟨xs.length - (i+1),by lia,rfl,hlt,p'⟩,λx H' y=> ?_⟩
  obtain⟨e,y⟩:=y
  subst e
  exact hs i x σ _ (y xs q) p
 ·have e:i=xs.length:=by lia
  subst e
  exact .inl ⟨⟨xs,q,AQ _⟩,hd σ H p⟩
theorem a4E{lo:Int}{n:Nat}{g:TG}{tb:TS}{D:O7}{σ:St}{H:Hp}(Pv:Nat->St->Hp->Prop)(h0:Pv 0 σ H)
 (hs:∀i σ H,i<n->Pv i σ H->g (.int (lo+i)) σ H λσ2 H2=>tb {D with nx:=Pv (i+1),ct:=Pv (i+1),bk:=D.nx} σ2 H2) (hd:∀σ H,Pv n σ H->D.nx σ H):
 ∃W:Nat->Nat->St->Hp->Prop,(∃m,W 0 m σ H)/\∀i m σ H,W i m σ H->
  ((Itr lo n).stop i H/\D.nx σ H)\/((Itr lo n).go i H/\∃N:St->Hp->Prop,(∀σ' H',N σ' H'->∃m',m'<m/\W (i+1) m' σ' H')/\∀x H',(Itr lo n).yld i H x H'->g x σ H' λσ2 H2=>tb {D with nx:=N,ct:=N,bk:=D.nx} σ2 H2):=by
 refine⟨λi m σ H=>m=n - i/\i<=n/\Pv i σ H,⟨n,by simp,Nat.zero_le _,h0⟩, ?_⟩
 rintro i m σ H ⟨rfl,hi,p⟩
 by_cases hlt:i<n
 ·refine .inr ⟨hlt,Pv (i+1),λσ' H' p'=>⟨n - (i+1),by lia,rfl,hlt,p'⟩,λx H' y=> ?_⟩
  obtain⟨e,y⟩:=y
  subst e y
  exact hs i σ _ hlt p
 ·have e:i=n:=by lia
  subst e
  exact .inl ⟨AQ _,hd σ H p⟩
abbrev R2:=V->V->Hp->VK->Prop
def OpR(X:Cx)(f:AB->AB->Sem AB)(r:R2):Prop:=
 ∀(pins:List (AA×Obj)) (s:AC) (σ:St) (H:Hp) (x y:V) (v u:AB) (Q:VK),g9 X pins σ H s->l8 x v->l8 y u->r x y H Q->
  AH (model X.prog X.w) X.A (f v u) (EP X pins σ Q) X.xe s
def UnR(X:Cx)(f:AB->Sem AB)(r:V->Hp->VK->Prop):Prop:=
 ∀(pins:List (AA×Obj)) (s:AC) (σ:St) (H:Hp) (x:V) (v:AB) (Q:VK),g9 X pins σ H s->l8 x v->r x H Q->
  AH (model X.prog X.w) X.A (f v) (EP X pins σ Q) X.xe s
def M5(X:Cx)(f:AB)(r:List V->Hp->VK->Prop):Prop:=
 ∀(pins:List (AA×Obj)) (s:AC) (σ:St) (H:Hp) (xs:List V) (us:List AB) (Q:VK),g9 X pins σ H s->l9 xs us->r xs H Q->
  AH (model X.prog X.w) X.A (call f us) (EP X pins σ Q) X.xe s
def c0Y(X:Cx)(r:V->Hp->(Bool->Hp->Prop)->Prop):Prop:=
 ∀(pins:List (AA×Obj)) (s:AC) (σ:St) (H:Hp) (x:V) (v:AB) (Q:Bool->Hp->Prop),g9 X pins σ H s->l8 x v->r x H Q->
  AH (model X.prog X.w) X.A (truthy v) (TP X pins σ Q) X.xe s
def tOp(r:R2)(ta tb:TE):TE:=λσ H Q=>ta σ H λx H1=>tb σ H1 λy H2=>r x y H2 Q
def tUn(r:V->Hp->VK->Prop)(ta:TE):TE:=λσ H Q=>ta σ H λx H1=>r x H1 Q
def rI(C:Int->Int->Prop)(g:Int->Int->V):R2:=λx y H Q=>∃i j,x= .int i/\y= .int j/\C i j/\Q (g i j) H
def rI0(g:Int->Int->V):R2:=λx y H Q=>∃i j,x= .int i/\y= .int j/\Q (g i j) H
def rU(g:Int->V):V->Hp->VK->Prop:=λx H Q=>∃i,x= .int i/\Q (g i) H
section
variable {X:Cx}{a b c:AF}{ta tb tc:TE}{pos:Pos}
theorem b8q(ha:PE X a ta)(hb:PE X b tb){pins:List (AA×Obj)}{s:AC}{σ:St}{H:Hp}{R:V->V->Hp->Prop}(I:g9 X pins σ H s)
 (h:ta σ H λx H1=>tb σ H1 λy H2=>R x y H2) {Q:AB->AC->Prop} {f:AB->AB->Sem AB}
 (hf:∀v u s2 x y H2,g9 X pins σ H2 s2->l8 x v->l8 y u->R x y H2->AH (model X.prog X.w) X.A (f v u) Q X.xe s2):
 AH (model X.prog X.w) X.A (eval a X.env) (λv s₁=>AH (model X.prog X.w) X.A (eval b X.env) (λu s₂=>AH (model X.prog X.w) X.A (f v u) Q X.xe s₂) X.xe s₁) X.xe s:=by
 refine D5 (ha pins s σ H _ I h) λv s1 h0=>k9 h0 λx H1 I1 r1 q1=> ?_
 refine D5 (hb pins s1 σ H1 _ I1 q1) λu s2 h0=>k9 h0 λy H2 I2 r2 q2=> ?_
 exact hf v u s2 x y H2 I2 r1 r2 q2
theorem c0w{op:Operator}{r:R2}(ho:OpR X (binaryOp op) r)(ha:PE X a ta)(hb:PE X b tb):PE X (.BinOp a op b pos) (tOp r ta tb):=by
 ext f
 exact wpAny_BinOp (b8q ha hb I h λv u s2 x y H2 I2 rx ry q=>ho pins s2 σ H2 x y v u Q I2 rx ry q)
theorem c0y{op:UnaryOp}{r:V->Hp->VK->Prop}(ho:UnR X (unaryOp op) r)(ha:PE X a ta):PE X (.UnaryOp op a pos) (tUn r ta):=by
 ext f
 exact UnaryOp_ (D5 (ha pins s σ H _ I h) λv s1 h0=>k9 h0 λx H1 I1 r1 q1=>ho pins s1 σ H1 x v Q I1 r1 q1)
theorem opI{f:AB->AB->Sem AB}{C:Int->Int->Prop}{g:Int->Int->Int}
 (rule:∀(i j:Int) (t u:Tok) (s:AC) (Q:AB->AC->Prop) (E:AB->AC->Prop),C i j->Q (.int (g i j) s.toks) {s with toks:=s.toks+1}->AH (model X.prog X.w) X.A (f (.int i t) (.int j u)) Q E s):
 OpR X f (rI C λi j=> .int (g i j)):=by
 intro pins s σ H x y v u Q I rx ry h
 obtain⟨i,j,rfl,rfl,hc,q⟩:=h
 obtain⟨t,rfl⟩:=rx
 obtain⟨t',rfl⟩:=ry
 exact rule i j t t' s _ _ hc ⟨.int (g i j),H,I.tok _,⟨_,rfl⟩,q⟩
theorem c06{f:AB->AB->Sem AB}{g:Int->Int->Int}
 (rule:∀(i j:Int) (t u:Tok) (s:AC) (Q:AB->AC->Prop) (E:AB->AC->Prop),Q (.int (g i j) s.toks) {s with toks:=s.toks+1}->AH (model X.prog X.w) X.A (f (.int i t) (.int j u)) Q E s):
 OpR X f (rI0 λi j=> .int (g i j)):=by
 intro pins s σ H x y v u Q I rx ry h
 obtain⟨i,j,rfl,rfl,q⟩:=h
 obtain⟨t,rfl⟩:=rx
 obtain⟨t',rfl⟩:=ry
 exact rule i j t t' s _ _ ⟨.int (g i j),H,I.tok _,⟨_,rfl⟩,q⟩
theorem b9e{f:AB->AB->Sem AB}{g:Int->Int->Bool}
 (rule:∀(i j:Int) (t u:Tok) (s:AC) (Q:AB->AC->Prop) (E:AB->AC->Prop),Q (.bool (g i j)) s->AH (model X.prog X.w) X.A (f (.int i t) (.int j u)) Q E s):
 OpR X f (rI0 λi j=> .bl (g i j)):=by
 intro pins s σ H x y v u Q I rx ry h
 obtain⟨i,j,rfl,rfl,q⟩:=h
 obtain⟨t,rfl⟩:=rx
 obtain⟨t',rfl⟩:=ry
 exact rule i j t t' s _ _ ⟨.bl (g i j),H,I,rfl,q⟩
def a5z(i j:Int):Prop:=0<j/\j<1073741824
def b25(i j:Int):Prop:=0<=j/\j<=1000000/\i.natAbs<2 ^ 64
def b0W(i j:Int):Prop:=(-(2 ^ 64)<i/\i<2 ^ 64)\/(-(2 ^ 64)<j/\j<2 ^ 64)
theorem b0W.ok{i j:Int}(h:b0W i j):IntMulOk i j:=by
 rcases h with⟨h1,h2⟩|⟨h1,h2⟩
 ·exact .of_left (intBits_le_64 h1 h2)
 ·exact .of_right (intBits_le_64 h1 h2)
theorem b9f:OpR X (binaryOp .Add) (rI0 λi j=> .int (i+j)):=c06 λ_ _ _ _ _ _ _ q=>add_int q
theorem b9i:OpR X (binaryOp .Mult) (rI b0W λi j=> .int (i*j)):=opI λ_ _ _ _ _ _ _ hc q=>mul_int q hc.ok
theorem b64:OpR X (binaryOp .FloorDiv) (rI a5z λi j=> .int (i / j)):=opI λi j _ _ _ _ _ hc q=>by
 have h1:(0:Int)<j:=hc.1;have h2:j<1073741824:=hc.2;exact floordiv_int (by lia) (by rw [Int.fdiv_eq_ediv_of_nonneg i (by lia)];exact q) (.inl (PyProof.noPylong_small (by lia)))
theorem b9h:OpR X (binaryOp .Mod) (rI (λ_ j=>0<j) λi j=> .int (i % j)):=opI λi j _ _ _ _ _ hc q=>by
 have h1:(0:Int)<j:=hc;exact mod_int' (by lia) (by rw [Int.fmod_eq_emod_of_nonneg i (by lia)];exact q)
theorem b9j:OpR X (binaryOp .Pow) (rI b25 λi j=> .int (i ^ j.toNat)):=opI λ_ _ _ _ _ _ _ hc q=>pow_int_small hc.1 hc.2.1 hc.2.2 q
theorem unI{f:AB->Sem AB}{g:Int->Int}
 (rule:∀(i:Int) (t:Tok) (s:AC) (Q:AB->AC->Prop) (E:AB->AC->Prop),Q (.int (g i) s.toks) {s with toks:=s.toks+1}->AH (model X.prog X.w) X.A (f (.int i t)) Q E s):
 UnR X f (rU λi=> .int (g i)):=by
 intro pins s σ H x v Q I rx h
 obtain⟨i,rfl,q⟩:=h
 obtain⟨t,rfl⟩:=rx
 exact rule i t s _ _ ⟨.int (g i),H,I.tok _,⟨_,rfl⟩,q⟩
theorem b9W:UnR X (unaryOp .USub) (rU λi=> .int (-i)):=unI λ_ _ _ _ _ q=>neg_int q
theorem b1s{pins:List (AA×Obj)}{σ:St}{H:Hp}{s:AC}{Q:VK}{k k':Bool}(I:g9 X pins σ H s)(q:Q (.bl k) H)(e:k=k'):EP X pins σ Q (.bool k') s:=by
 subst e;exact⟨.bl k,H,I,rfl,q⟩
theorem c0s:OpR X (compareOp .Lt) (rI0 λi j=> .bl (decide (i<j))):=b9e λ_ _ _ _ _ _ _ q=>lt_int q
theorem c0r:OpR X (compareOp .LtE) (rI0 λi j=> .bl (decide (i<=j))):=b9e λ_ _ _ _ _ _ _ q=>le_int q
theorem c0q:OpR X (compareOp .Gt) (rI0 λi j=> .bl (decide (j<i))):=b9e λ_ _ _ _ _ _ _ q=>gt_int q
theorem b3T:OpR X (compareOp .Lt) (λx y H Q=>∃i j,x= .str i/\y= .str j/\Q (.bl (decide (i.cps.toList<j.cps.toList))) H):=by
 ext m
 obtain⟨i,j,rfl,rfl,q⟩:=h
 ext s
 exact lt_str (b1s I q rfl)
theorem b3S:OpR X (compareOp .In) (λx y H Q=>∃i j,x= .str i/\y= .str j/\Q (.bl (!(Builtin.Str.occurrences j i 0 j.length 1).isEmpty)) H):=by
 ext m
 obtain⟨i,j,rfl,rfl,q⟩:=h
 ext s
 exact in_str (b1s I q rfl)
theorem b65:OpR X (compareOp .IsNot) (λx y H Q=>y= .non/\Q (.bl (!decide (x= .non))) H):=by
 ext m
 obtain⟨rfl,q⟩:=h;cases ry;refine isnot_none_gen (b1s I q ?_);cases x<;>first
  |(cases rx;rfl)
  |(obtain⟨t,rfl⟩:=rx;rfl)
theorem b7e{op:CmpOp}{r:R2}(ho:OpR X (compareOp op) r)(ha:PE X a ta)(hb:PE X b tb)(hm:behindInMarks op b=false):PE X (.Compare a [op] [b] pos) (tOp r ta tb):=by
 ext f
 exact wpAny_Compare1 (b8q ha hb I h λv u s2 x y H2 I2 rx ry q=>ho pins s2 σ H2 x y v u Q I2 rx ry q) hm
def c0M(t:TE):TT:=λσ H Q=>t σ H λx H'=>∃k,x= .bl k/\Q k H'
theorem b7n{op:CmpOp}{r:R2}(ho:OpR X (compareOp op) r)(ha:PE X a ta)(hb:PE X b tb)(hm:behindInMarks op b=false):PT X (.Compare a [op] [b] pos) (c0M (tOp r ta tb)):=by
 ext f
 refine wpAny_isTrue_Compare1 (D5 (ha pins s σ H _ I h) λv s1 h0=>k9 h0 λx H1 I1 r1 q1=>D5 (hb pins s1 σ H1 _ I1 q1) λu s2 h0=>k9 h0 λy H2 I2 r2 q2=>
  D5 (ho pins s2 σ H2 x y v u _ I2 r1 r2 q2) λc s3 ⟨z,H3,I3,r3,k,e,q3⟩=> ?_) hm
 subst e;cases r3;exact wpAny_truthy_bool ⟨H3,I3,q3⟩
def b8m(K:AE)(x:V)(H:Hp)(k:Bool):Prop:=
 match x with
 | .non=>k=false
 | .bl b=>k=b
 | .int i=>k=(i !=0)
 | .str y=>y.length<=AM/\k=((y.length:Int) !=0)
 | .byt y=>y.size<=AM/\k=((y.size:Int) !=0)
 | .ref p=>(∃xs,SqL K H p xs/\k= !xs.isEmpty)\/(∃xs,SqT K H p xs/\k= !xs.isEmpty)\/∃kvs,H p=ξ (.dK kvs)/\k= !kvs.isEmpty
 |_=>False
theorem b1z{κ:Type}{kvs:List (κ×V)}{vs:List (κ×AB)}(r:KV kvs vs):(!vs.isEmpty)= !kvs.isEmpty:=by
 cases r<;>rfl
theorem a6t{xs:List V}{its:List AB}(r:l9 xs its):(!its.toArray.isEmpty)= !xs.isEmpty:=by
 cases r<;>simp
theorem a4K:(AM:Nat)<2 ^ 63:=by rw [sizeLine_eq];decide
theorem b9T:c0Y X (λx H Q=>∃k,b8m X.K x H k/\Q k H):=by
 intro pins s σ H x v Q I rx h;obtain⟨k,e,q⟩:=h;have hl:=a4K;have hs:AM=16777216:=sizeLine_eq;cases x with
 |non=>
  cases rx;have e':k=false:=e;subst e';exact truthy_none ⟨H,I,q⟩
 |bl b=>
  cases rx;have e':k=b:=e;subst e';exact wpAny_truthy_bool ⟨H,I,q⟩
 |int i=>
  obtain⟨t,rfl⟩:=rx;have e':k=(i !=0):=e;subst e';exact PySem.P.truthy_int ⟨H,I,q⟩
 |str y=>
  obtain⟨t,rfl⟩:=rx;obtain⟨hy,e'⟩:y.length<=AM/\k=((y.length:Int) !=0):=e;subst e';exact PySem.P.truthy_str (by lia) ⟨H,I.tok _,q⟩
 |byt y=>
  obtain⟨t,rfl⟩:=rx;obtain⟨hy,e'⟩:y.size<=AM/\k=((y.size:Int) !=0):=e;subst e';exact PySem.W.truthy_bytes (by lia) ⟨H,I.tok _,q⟩
 |ref p=>
  cases rx;have e':(∃xs,SqL X.K H p xs/\k= !xs.isEmpty)\/(∃xs,SqT X.K H p xs/\k= !xs.isEmpty)\/∃kvs,H p=ξ (.dK kvs)/\k= !kvs.isEmpty:=e;rcases e' with⟨xs,hx,e'⟩|⟨xs,hx,e'⟩|⟨kvs,hx,e'⟩
  ·subst e';obtain⟨its,r,pl,hz⟩:=I.list hx;have hlen:=r.length;exact wpAny_truthy_list pl.isList (by simp only [Ae];lia) ⟨H,I.tok _,by rw [a6t r];exact q⟩
  ·subst e';obtain⟨its,r,pl,hz⟩:=I.tuple hx;have hlen:=r.length;exact truthy_tuple pl (by simp only [Ae];lia) ⟨H,I.tok _,by rw [a6t r];exact q⟩
  ·subst e';obtain⟨hz,hS,vs,r,m⟩:kvs.length<=AM/\(p==sysModules)=false/\∃vs,KV kvs vs/\s.heap.DictOf (v0 X.prog X.w) p vs:=I.hok p _ hx;have hlen:kvs.length=vs.length:=Paired.length r;exact wpAny_truthy_dict hS m (by lia) ⟨H,I.tok _,by rw [b1z r];exact q⟩
 |_=>exact(show False from e).elim
theorem b5J(ha:PE X a ta)(he:∀whole,isTrue a X.env whole=(do let v<-whole;standAt a.pos;holding [v] (truthy v))):
 PT X a (λσ H Q=>ta σ H λx H'=>∃k,b8m X.K x H' k/\Q k H'):=by
 intro pins s σ H Q I h
 exact isTrue_plain (D5 (ha pins s σ H _ I h) λv s1 h0=>k9 h0 λx H1 I1 r1 q1=>b9T pins s1 σ H1 x v Q I1 r1 q1) (he _)
theorem b1S:OpR X (binaryOp .Add) (λx y H Q=>∃i j,x= .str i/\y= .str j/\i.length+j.length<=AM/\Q (.str (i++j)) H):=by
 ext m
 obtain⟨i,j,rfl,rfl,hz,q⟩:=h
 ext s
 exact add_str (λt' tk=>⟨.str (i++j),H,I.tok _,⟨_,rfl⟩,q⟩) hz
theorem a4q{x:V}{us:List AB}(r:l9 [x] us):∃u,us=[u]/\l8 x u:=by
 cases r with
 |cons r1 r2=>cases r2;exact⟨_,rfl,r1⟩
theorem c0R{x y:V}{us:List AB}(r:l9 [x,y] us):∃u w',us=[u,w']/\l8 x u/\l8 y w':=by
 cases r with
 |cons r1 r2=>
  cases r2 with
  |cons r3 r4=>cases r4;exact⟨_,_,rfl,r1,r3⟩
theorem b3e(hc:X.calm=true):M5 X (.builtin "min") (λxs H Q=>∃i j,xs=[.int i,.int j]/\Q (.int (if j<i then j else i)) H):=by
 intro pins s σ H xs us Q I r h;obtain⟨i,j,rfl,q⟩:=h;obtain⟨u,w',rfl,⟨t,rfl⟩,⟨t',rfl⟩⟩:=c0R r;refine min_two_ints (I.ok.hd hc) λh' tk k=>⟨_,H,I.kept k, ?_,q⟩
 by_cases hj:j<i
 ·rw [if_pos hj,if_pos hj];exact⟨_,rfl⟩
 ·rw [if_neg hj,if_neg hj];exact⟨_,rfl⟩
end
structure b04(h:Heap)(x dx C:AA)(mA:Str->Option AB):Prop where
 obj:h.get? x=ξ (PySem.W.instObj C dx)
 ns:h.Ns1 dx mA
 ne:dx≠x
theorem a4L{h:Heap}{dx:AA}{mA:Str->Option AB}(n:h.Ns1 dx mA):∃od,h.get? dx=ξ od/\∀name,PySem.W.lookIn name od=ξ (mA name):=by
 obtain⟨o,es,ep,ho,hd,hk,_,hm⟩:=n;refine⟨o,ho,λname=> ?_⟩;have e:=hm name;unfold nsFind findBy at e;rw [<-Array.find?_toList] at e;unfold PySem.W.lookIn;rw [hd];dsimp only;split
 ·rename_i y q;rw [q] at e;exact congrArg ξ e
 ·rename_i q;rw [q] at e;have a:es.toList.any (·.refKey)=false:=by
   rw [List.any_eq_false];intro y hy;obtain⟨z,t,hkey⟩:=hk y (Array.mem_toList_iff.mp hy);simp [DictEntry.refKey,hkey]
  have a':¬es.toList.any (·.refKey)=true:=by rw [a];exact Af
  rw [if_neg a'];exact congrArg ξ e
theorem b04.look{h:Heap}{x dx C:AA}{mA:Str->Option AB}(I:b04 h x dx C mA):∃od,PySem.W.InstAt h x (PySem.W.instObj C dx) C (ξ od)/\∀name,PySem.W.lookIn name od=ξ (mA name):=
 let ⟨od,ho,hl⟩:=a4L I.ns
 ⟨od,⟨I.obj,rfl,rfl,ho⟩,hl⟩
section
variable {prog:AJ}{w:AI}{A:AK}{E:AB->AC->Prop}{s:AC}{K:AE}{x dx C f:AA}{mA:Str->Option AB}{name:Str}{v:AB}
theorem b6L{expr:Bool}{Q:AB->AC->Prop}(X:K.In s.heap)(I:b04 s.heap x dx C mA)(hg:PySem.W.plainGet K C name=true)(hh:PySem.W.hasDictIn K C=true)
 (ha:PySem.W.findIn K (.ref C) name=ξ ζ) (hv:mA name=ξ v) (hv':PySem.W.handedIn v=true) (h:Q v {s with toks:=s.toks+1}):
 AH (model prog w) A (getAttr (.ref x) name expr) Q E s:=by
 obtain⟨od,J,hl⟩:=I.look
 exact PySem.W.get_value X J (PySem.W.plainGet_of hg).1 (PySem.W.findObj_own hh ha rfl (by rw [hl,hv])) hv' h
theorem b4X{pl:Sem Bool}{Q:AB×List AB->AC->Prop}(X:K.In s.heap)(I:b04 s.heap x dx C mA)(hg:PySem.W.plainGet K C name=true)
 (hf:PySem.W.findIn K (.ref C) name=ξ (ξ (.ref f))) (ht:PySem.W.isFn K (.ref f)=true) (hv:mA name=ζ) (h:Q (.ref f,[.ref x]) s):
 AH (model prog w) A (getMethod (.ref x) name pl) Q E s:=by
 obtain⟨od,J,hl⟩:=I.look
 exact PySem.W.method_fn X J (PySem.W.plainGet_of hg).1 (PySem.W.plainGet_of hg).2 hf (beq_iff_eq.mp ht) (by show(PySem.W.lookIn name od).map (·.isSome)=ξ false;rw [hl,hv];rfl) h
theorem b7z{ns:List Str}{Q:Unit->AC->Prop}(X:K.In s.heap)(I:b04 s.heap x dx C mA)
 (hs:PySem.W.findIn K (.ref C) "__setattr__"=ξ (ξ (.builtin "object.__setattr__"))) (hp:PySem.W.plainOver K C=true) (ht:PySem.W.takerIn K C name=ξ ζ) (hh:PySem.W.hasDictIn K C=true)
 (hw:PySem.Within mA ns) (hsz:ns.length<=AM)
 (h:∀h',b04 h' x dx C (λy=>if y=name then ξ v else mA y)->Heap.SameBut dx s.heap h'->Q () {s with heap:=h',toks:=s.toks+2}):
 AH (model prog w) A (setAttr (.ref x) name v) Q E s:=by
 obtain⟨od,J,hl⟩:=I.look
 refine PySem.W.set_plain X J hs (PySem.W.osa_open (s:={s with toks:=s.toks+1}) (r:=ζ) X J hp ht λb=> ?_)
 obtain⟨cd,hc,hd'⟩:=PySem.W.any_some hh
 have hx:s.heap.get? x=ξ ⟨.ref C,ξ dx,.plain, #[]⟩:=I.obj
 refine AG (AN (AG (AG (wpAny_loadPart hx (AG (PySem.W.Looks.here (s:={s with toks:=s.toks+1}) (PySem.W.looks_clsIn X hc) ?_))))))
 rw [hd']
 refine AN (a:=ξ dx) (AG (AN (AG ?_)))
 refine wpAny_nsSet1 (s:={s with toks:=s.toks+1}) I.ns λh' hn2 hs2=> ?_
 obtain⟨oD,esD,epD,hoD,hdD,hcD⟩:=hn2.count (PySem.Within.cons name v hw)
 refine AG (wpAny_lookBehind hoD (by rw [hdD];exact pastItsLine_dict (Nat.le_trans hcD (by rw [AU];lia))) ?_)
 exact AN (h _ ⟨(hs2.2 _ (Ne.symm I.ne)).trans I.obj,hn2,I.ne⟩ hs2)
theorem b5j{R:Result->AC->Prop}{vs:List AB}{kw:List (Str×AB)}(X:K.In s.heap)(hm:PySem.W.makesIn K C=true)
 (hi:PySem.W.findIn K (.ref C) "__init__"=ξ (ξ (.ref f))) (hf:PySem.W.typeIn K (.ref f)=ξ (.type "function"))
 (h:codeAny (model prog w) (A.under (.builtin "type.__call__" ⟨.ref C::vs,kw⟩)) (.call (.ref f) ⟨.ref (s.heap.objs.size+1)::vs,kw⟩) (PySem.W.InitBack (s.heap.objs.size+1) R)
  {s with heap:=(s.heap.push PySem.W.emptyDict).push (PySem.W.instObj C s.heap.objs.size)}):
 codeAny (model prog w) A (.call (.ref C) ⟨vs,kw⟩) R s:=by
 obtain⟨hh,g,d,t,os⟩:=s
 exact PySem.W.make_core (PySem.W.makes_of X hm) (PySem.W.looks_findIn X hi) (λself=>PySem.W.bind_fn X self hf) (.inl rfl) h
end
def a0U(f:Str)(v:V):List (Str×V)->List (Str×V)
 |[]=>[(f,v)]
 |(g,x)::r=>if g=f then(g,v)::r else(g,x)::a0U f v r
theorem a12(f g:Str)(v:V):∀fs:List (Str×V),(a0U f v fs).lookup g=if g=f then ξ v else fs.lookup g
 |[]=>by
  show List.lookup g [(f,v)]=_
  by_cases h:g=f
  ·have hb:(g==f)=true:=beq_iff_eq.mpr h;simp only [List.lookup,hb,if_pos h]
  ·have hb:(g==f)=false:=beq_eq_false_iff_ne.mpr h;simp only [List.lookup,hb,if_neg h]
 |(k,x)::r=>by
  have ih:=a12 f g v r;rw [show a0U f v ((k,x)::r)=(if k=f then(k,v)::r else(k,x)::a0U f v r) from rfl]
  by_cases hk:k=f
  ·rw [if_pos hk]
   by_cases h:g=k
   ·have hb:(g==k)=true:=beq_iff_eq.mpr h;simp only [List.lookup,hb,if_pos (h.trans hk)]
   ·have hb:(g==k)=false:=beq_eq_false_iff_ne.mpr h;simp only [List.lookup,hb,if_neg (λe:g=f=>h (e.trans hk.symm))]
  ·rw [if_neg hk]
   by_cases h:g=k
   ·have hb:(g==k)=true:=beq_iff_eq.mpr h;simp only [List.lookup,hb,if_neg (λe:g=f=>hk (h.symm.trans e))]
   ·have hb:(g==k)=false:=beq_eq_false_iff_ne.mpr h;simp only [List.lookup,hb];exact ih
theorem a0R(f:Str)(v:V):∀fs:List (Str×V),f∈(a0U f v fs).map (·.1)/\∀g,g∈fs.map (·.1)->g∈(a0U f v fs).map (·.1)
 |[]=>⟨by simp [a0U],λg h=>by simp at h⟩
 |(k,x)::r=>by
  obtain⟨i1,i2⟩:=a0R f v r;rw [show a0U f v ((k,x)::r)=(if k=f then(k,v)::r else(k,x)::a0U f v r) from rfl]
  by_cases hk:k=f
  ·rw [if_pos hk];subst hk;exact⟨by simp,λg h=>by simpa using h⟩
  ·rw [if_neg hk];refine⟨?_,λg h=> ?_⟩
   ·rw [AS];exact AY _ i1
   ·rw [AS] at h ⊢;rcases Ag.mp h with e|e
    ·exact Ag.mpr (.inl e)
    ·exact AY _ (i2 g e)
theorem a5j(f:Str)(v:V):∀fs:List (Str×V),(a0U f v fs).length<=fs.length+1
 |[]=>by simp [a0U]
 |(k,x)::r=>by
  have ih:=a5j f v r;rw [show a0U f v ((k,x)::r)=(if k=f then(k,v)::r else(k,x)::a0U f v r) from rfl]
  by_cases hk:k=f
  ·rw [if_pos hk,AU,AU];lia
  ·rw [if_neg hk,AU,AU];lia
theorem Z6.some_of{v:V}{o:Option AB}(r:Z6 (ξ v) o):∃u,o=ξ u/\l8 v u:=by
 cases o with
 |none=>exact(show False from r).elim
 |some u=>exact⟨u,rfl,r⟩
theorem Z6.none_of{o:Option AB}(r:Z6 ζ o):o=ζ:=by
 cases o with
 |none=>rfl
 |some u=>exact(show False from r).elim
theorem a8j{v:V}{u:AB}(r:l8 v u):PySem.W.handedIn u=true:=by
 cases v with
 |non=>cases(show u=Value.none from r);rfl
 |bl b=>cases(show u=Value.bool b from r);rfl
 |int i=>obtain⟨t,e⟩:=(show ∃t,u=Value.int i t from r);cases e;rfl
 |str x=>obtain⟨t,e⟩:=(show ∃t,u=Value.str x t from r);cases e;rfl
 |byt b=>obtain⟨t,e⟩:=(show ∃t,u=Value.bytes b t from r);cases e;rfl
 |flt b=>obtain⟨t,e⟩:=(show ∃t,u=Value.float b t from r);cases e;rfl
 |ref a=>cases(show u=Value.ref a from r);rfl
 |ty n=>cases(show u=Value.type n from r);rfl
section
variable {P:AJ}{w:AI}{H H':Hp}{h h':Heap}{a C dx:AA}{fs fs':List (Str×V)}
theorem a8Z(hok:HOk P w H h)(e:H a=ξ (.ins C dx fs)):∃mA,b04 h a dx C mA/\(∀f,Z6 (fs.lookup f) (mA f))/\PySem.Within mA (fs.map (·.1))/\fs.length<=1000/\H dx=ξ (.own a):=by
 obtain⟨d,z,ne,ob,mA,n,r,q⟩:=(show C7 P w H h a (.ins C dx fs) from hok a _ e);exact⟨mA,⟨ob,n,ne⟩,r,q,z,d⟩
end
structure Cls(K:AE)(C:AA):Prop where
 pg:PySem.W.plainGet K C Str.empty=true
 hd:PySem.W.hasDictIn K C=true
 po:PySem.W.plainOver K C=true
 sa:PySem.W.findIn K (.ref C) "__setattr__"=ξ (ξ (.builtin "object.__setattr__"))
theorem Cls.get{K:AE}{C:AA}(c:Cls K C)(f:Str):PySem.W.plainGet K C f=true:=c.pg
def x9(K:AE)(C:AA)(f:Str):Prop:=PySem.W.findIn K (.ref C) f=ξ ζ
theorem x9.taker{K:AE}{C:AA}{f:Str}(n:x9 K C f):PySem.W.takerIn K C f=ξ ζ:=by
 unfold PySem.W.takerIn;rw [show PySem.W.findIn K (.ref C) f=ξ ζ from n]
 rfl
structure b90(K:AE)(C:AA)(m:Str)(f:AA):Prop where
 at_:PySem.W.findIn K (.ref C) m=ξ (ξ (.ref f))
 fn:PySem.W.isFn K (.ref f)=true
 kp:PySem.W.keepIn K (.ref f)=true
section
variable {X:Cx}{pins:List (AA×Obj)}{σ:St}{H:Hp}{s:AC}{a C dx:AA}{fs:List (Str×V)}{f:Str}{v:V}{A:AK}{E:AB->AC->Prop}
theorem b1v{b:Bool}{Q:AB->AC->Prop}(I:g9 X pins σ H s)(e:H a=ξ (.ins C dx fs))(c:Cls X.K C)(n:x9 X.K C f)(l:fs.lookup f=ξ v)
 (h:∀u s',g9 X pins σ H s'->l8 v u->Q u s'):AH (model X.prog X.w) A (getAttr (.ref a) f b) Q E s:=by
 obtain⟨mA,O,r,_,_,_⟩:=a8Z I.hok e
 obtain⟨u,hu,ru⟩:=Z6.some_of (v:=v) (o:=mA f) (by rw [<-l];exact r f)
 exact b6L I.kIn O (c.get f) c.hd n hu (a8j ru) (h u _ (I.tok _) ru)
theorem b1w{m:Str}{g:AA}{pl:Sem Bool}{Q:AB×List AB->AC->Prop}(I:g9 X pins σ H s)(e:H a=ξ (.ins C dx fs))(c:Cls X.K C)(k:b90 X.K C m g)(l:fs.lookup m=ζ)
 (h:Q (.ref g,[.ref a]) s):AH (model X.prog X.w) A (getMethod (.ref a) m pl) Q E s:=by
 obtain⟨mA,O,r,_,_,_⟩:=a8Z I.hok e
 have hn:mA m=ζ:=Z6.none_of (by rw [<-l];exact r m)
 exact b4X I.kIn O (c.get m) k.at_ k.fn hn h
theorem b15{y:V}{u:AB}{Q:Unit->AC->Prop}(I:g9 X pins σ H s)(e:H a=ξ (.ins C dx fs))(c:Cls X.K C)(n:x9 X.K C f)(hl:fs.length<1000)(ry:l8 y u)
 (h:∀s',g9 X pins σ (m9 H a (.ins C dx (a0U f y fs))) s'->Q () s'):AH (model X.prog X.w) A (setAttr (.ref a) f u) Q E s:=by
 obtain⟨mA,O,r,wi,_,ho⟩:=a8Z I.hok e
 have hz:(fs.map (·.1)).length<=AM:=by rw [AX,sizeLine_eq];lia
 refine b7z I.kIn O c.sa c.po n.taker c.hd wi hz λh' O' sb=>h _ ?_
 have hd:∃o,h'.get? dx=ξ o:=by obtain⟨o,_,_,e',_⟩:=O'.ns;exact⟨o,e'⟩
 refine I.write (x:=a) (e:=dx) (by rw [e];exact True.intro) (.inr ho) (λb q hb z=>(sb.2 b hb).trans z) hd ?_
 refine⟨by rw [g6 O.ne];exact ho, ?_,O.ne,O'.obj,_,O'.ns,λg=> ?_,λg hg=> ?_⟩
 ·have:=a5j f y fs;lia
 ·show Z6 ((a0U f y fs).lookup g) (if g=f then ξ u else mA g)
  rw [a12]
  by_cases q:g=f
  ·rw [if_pos q,if_pos q];exact ry
  ·rw [if_neg q,if_neg q];exact r g
 ·by_cases q:g=f
  ·rw [q];exact(a0R f y fs).1
  ·refine(a0R f y fs).2 g (wi g λz=>hg ?_)
   show(if g=f then ξ u else mA g)=ζ
   rw [if_neg q];exact z
theorem g9.made(I:g9 X pins σ H s):g9 X pins σ (m9 (m9 H s.heap.objs.size (.own (s.heap.objs.size+1))) (s.heap.objs.size+1) (.ins C s.heap.objs.size []))
 {s with heap:=(s.heap.push PySem.W.emptyDict).push (PySem.W.instObj C s.heap.objs.size)}:=by
 have e1:(s.heap.push PySem.W.emptyDict).get? s.heap.objs.size=ξ PySem.W.emptyDict:=Ak s.heap rfl
 have e2:((s.heap.push PySem.W.emptyDict).push (PySem.W.instObj C s.heap.objs.size)).get? (s.heap.objs.size+1)=ξ (PySem.W.instObj C s.heap.objs.size):=by
  have:=Ak (s.heap.push PySem.W.emptyDict) (o:=PySem.W.instObj C s.heap.objs.size) rfl
  rwa [Heap.size_push] at this
 have e3:(s.heap.push PySem.W.emptyDict).Ns s.heap.objs.size (λ_=>ζ):=⟨PySem.W.emptyDict, #[],_,e1,rfl,(λe he=>absurd he (by simp)),λ_=>rfl⟩
 have I1:=I.laid (a:=s.heap.objs.size) (o:= .own (s.heap.objs.size+1)) (h':=s.heap.push PySem.W.emptyDict) (t':=s.toks) (λb u q=>AV _ q) (AQ _) ⟨_,e1⟩
 refine I1.laid (a:=s.heap.objs.size+1) (o:= .ins C s.heap.objs.size []) (t':=s.toks) (λb u q=>AV _ q) (Nat.le_of_eq (Heap.size_push _ _)) ?_
 have ne:s.heap.objs.size≠s.heap.objs.size+1:=AZ (Nat.lt_succ_self _)
 refine⟨by rw [g6 ne,i3],Nat.zero_le _,ne,e2,λ_=>ζ,(Heap.Ns1.of_empty e3).at λo q=>AV _ q,λ_=>True.intro,λy hy=>absurd rfl hy⟩
theorem b2g{prog:AJ}{w:AI}{env:Env}{e:AF}{f:Str}{pos:Pos}{s:AC}{Q:AB->AC->Prop}(hb:attributeBase e f env (eval e env)=eval e env)
 (h:AH (model prog w) A (eval e env) (λo s₁=>AH (model prog w) A (getAttr o f true) Q E s₁) E s):AH (model prog w) A (eval (.Attribute e f pos) env) Q E s:=
 Attribute_any_ h (by rw [arm_eval_Attribute,hb])
end
def c1i(K:AE)(ta:TE)(f:Str):TE:=λσ H Q=>ta σ H λx H1=>∃a C dx fs v,x= .ref a/\H1 a=ξ (.ins C dx fs)/\Cls K C/\x9 K C f/\fs.lookup f=ξ v/\Q v H1
def c0E(K:AE)(ta tv:TE)(f:Str):TS:=λD σ H=>tv σ H λy H1=>ta σ H1 λx H2=>∃a C dx fs,x= .ref a/\H2 a=ξ (.ins C dx fs)/\Cls K C/\x9 K C f/\fs.length<1000/\
 D.nx σ (m9 H2 a (.ins C dx (a0U f y fs)))
section
variable {X:Cx}{o e value:AF}{f:Str}{pos pos' tpos:Pos}{ta tv:TE}
theorem b9s(he:PE X e ta)(hb:attributeBase e f X.env (eval e X.env)=eval e X.env):PE X (.Attribute e f pos) (c1i X.K ta f):=by
 ext f
 refine b2g hb (D5 (he pins s σ H _ I h) λu s1 ⟨x,H1,I1,rx,a,C,dx,fs,v,ex,ea,c,n,l,q⟩=> ?_);subst ex;obtain rfl:u=Value.ref a:=rx;exact b1v I1 ea c n l λu' s2 I2 ru=>⟨v,H1,I2,ru,q⟩
theorem Q7(ha:PE X o ta)(hv:PE X value tv)(hs:swapsWith value (ξ (.Attribute o f pos')) pos.line X.env=pure false):PS X (.Assign [.Attribute o f pos'] value pos) (c0E X.K ta tv f):=by
 intro pins s σ H D I h;refine plainObj_wpAny_Assign_Attribute (D5 (hv pins s σ H _ I h) λu s1 h0=>k9 h0 λy H1 I1 ry q=>D5 (ha pins s1 σ H1 _ I1 q) λov s2 ⟨x,H2,I2,rx,a,C,dx,fs,ex,ea,c,n,l,q2⟩=> ?_) hs;subst ex;obtain rfl:ov=Value.ref a:=rx;exact b15 I2 ea c n l ry λs3 I3=>⟨σ,_,I3,q2⟩
end
section
variable {X:Cx}{pins:List (AA×Obj)}{σ:St}{H:Hp}{s:AC}{A:AK}{E:AB->AC->Prop}{Q:AB->AC->Prop}{c:AB}{b:Bool}
end
structure y0(k:Nat)(A:AK):Prop where
 hd:A.handled=ζ
 dp:A.depth+3*k+5<recursionLimit
 un:A.units+16*k+200<cLine
theorem y0.mono{j k:Nat}{A:AK}(r:y0 k A)(h:j<=k):y0 j A:=⟨r.hd,by have:=r.dp;lia,by have:=r.un;lia⟩
theorem y0.deeper{k:Nat}{A:AK}(r:y0 (k+1) A)(env:Env):y0 k (A.deeper env):=
 ⟨r.hd,by have:=r.dp;show A.depth+1+3*k+5<_;lia,by have:=r.un;show A.units+3+16*k+200<_;lia⟩
theorem b1J{A:AK}{C:AA}{us:List AB}{kw:List (Str×AB)}:(A.under (.builtin "type.__call__" ⟨.ref C::us,kw⟩)).depth=A.depth+1:=by
 first|rfl|simp [Around.under,Code.weight,Code.isCreation,Code.isGuard,Code.isCaller,Code.frames,Code.isFrame,guardIds]
theorem b1K{A:AK}{C:AA}{us:List AB}{kw:List (Str×AB)}:(A.under (.builtin "type.__call__" ⟨.ref C::us,kw⟩)).units=A.units+1:=by
 first|rfl|simp [Around.under,Code.cUnits,Code.frames,Code.isFrame]
theorem y0.make{k:Nat}{A:AK}(r:y0 (k+1) A)(C:AA)(us:List AB)(kw:List (Str×AB)):y0 k (A.under (.builtin "type.__call__" ⟨.ref C::us,kw⟩)):=
 ⟨r.hd,by have:=r.dp;rw [b1J];lia,by have:=r.un;rw [b1K];lia⟩
theorem y0.depth{k:Nat}{A:AK}(r:y0 k A):A.depth<recursionLimit:=by have:=r.dp;lia
theorem y0.units{k:Nat}{A:AK}(r:y0 k A):A.units+64<cLine:=by have:=r.un;lia
def b50:TA:=λ_ H Q=>Q [] H
def b0P(ta:TE)(tr:TA):TA:=λσ H Q=>ta σ H λx H1=>tr σ H1 λxs H2=>Q (x::xs) H2
section
variable {X:Cx}{e:AF}{es:List AF}{te:TE}{t:TA}{pos:Pos}
theorem O4:PA X [] b50:=λ_ _ _ _ H Q I h=>Calls.spliced_nil ⟨[],H,I,.nil,h⟩
theorem p8(ha:PE X e te)(hr:PA X es t)(hs:AL (e::es) X.env=(false,eval e X.env)::AL es X.env:=by rfl):PA X (e::es) (b0P te t):=by
 intro pos pins s σ H Q I h;rw [hs];show AH _ _ (spliced ((false,eval e X.env)::backTo pos (AL es X.env))) _ _ s;refine Calls.spliced_cons (D5 (ha pins s σ H _ I h) λu s1 h0=>k9 h0 λx H1 I1 r1 q1=> ?_);exact D5 (hr pos pins s1 σ H1 _ I1 q1) λus s2 h0=>k9 h0 λxs H2 I2 r2 q2=>⟨x::xs,H2,I2,.cons r1 r2,q2⟩
def c1p(t:TA):TE:=λσ H Q=>t σ H λxs H1=>xs.length<=AM/\∀p,H1 p=ζ->Q (.ref p) (m9 H1 p (.tup xs))
def c1l(t:TA):TE:=λσ H Q=>t σ H λxs H1=>xs.length<=AM/\∀p,H1 p=ζ->Q (.ref p) (m9 H1 p (.lst xs))
theorem b5C{x1}(h:PA X es t):PE X (.Tuple es x1 pos) (c1p t):=by
 intro pins s σ H Q I hq;refine wpAny_Tuple_spliced (D5 (h pos pins s σ H _ I hq) λus s1 h0=>a3S h0 λxs H1 I1 r z q=>⟨by rw [<-r.length];exact z, ?_⟩)
 have hf:H1 s1.heap.objs.size=ζ:=I1.hok.fresh (AQ _);refine⟨.ref s1.heap.objs.size,m9 H1 s1.heap.objs.size (.tup xs),I1.laid (t':=s1.toks) (λb u e=>AV _ e) (AQ _) ?_,rfl,q _ hf⟩;exact⟨z,us,r,⟨_,Ak _ rfl,rfl,_,rfl⟩⟩
theorem b9u(h:PA X es t):PE X (.List es pos) (c1l t):=by
 intro pins s σ H Q I hq;refine wpAny_List_spliced (D5 (h pos pins s σ H _ I hq) λus s1 h0=>a3S h0 λxs H1 I1 r z q=>⟨by rw [<-r.length];exact z, ?_⟩)
 have hf:H1 s1.heap.objs.size=ζ:=I1.hok.fresh (AQ _);refine⟨.ref s1.heap.objs.size,m9 H1 s1.heap.objs.size (.lst xs),I1.laid (t':=s1.toks) (λb u e=>AV _ e) (AQ _) ?_,rfl,q _ hf⟩;exact⟨z,us,0,r,Ak _ rfl⟩
end
abbrev Sp:=List V->Hp->VK->XK->Prop
abbrev CXT:=List Env->Hp->AC->XK->AB->AC->Prop
structure b03(P:AJ)(w:AI)(K:AE)(mg:Str->Option AB)(base:Heap)(A:AK)(outer:List Env)(s:AC)(H:Hp):Prop where
 frames:A.frames=ξ outer
 mod:Mod K mg base
 bs:∀b o,base.get? b=ξ o->s.heap.get? b=ξ o/\H b=ζ
 bsz:base.objs.size<=s.heap.objs.size
 funs:s.heap.FunFrames base outer
 frf:∀b∈frs outer,H b=ζ
 hok:HOk P w H s.heap
 bare:AllBare s.gens
def CE(outer:List Env)(P:AJ)(w:AI)(H:Hp)(s:AC)(Q:VK)(u:AB)(s':AC):Prop:=
 ∃v H',s'.os=s.os/\AllBare s'.gens/\Un (frs outer) [] H H' s.heap s'.heap/\HOk P w H' s'.heap/\l8 v u/\Q v H'
def CR(CX:CXT)(outer:List Env)(P:AJ)(w:AI)(H:Hp)(s:AC)(Q:VK)(E:XK)(r:Result)(s':AC):Prop:=
 match r with
 | .ok (.ret u)=>CE outer P w H s Q u s'
 | .ok _=>False
 | .error e=>CX outer H s E e s'
structure G4(P:AJ)(w:AI)(K:AE)(mg:Str->Option AB)(base:Heap)(CX:CXT)(k:Nat)(f:AA)(fd:FuncData)(ps:List Str)(sp:Sp):Prop where
 len:∀vs H Q E,sp vs H Q E->vs.length=ps.length
 run:∀(A:AK) (outer:List Env) (s:AC) (H:Hp) (args:Args) (us:List AB) (vs:List V) (Q:VK) (E:XK),y0 k A->b03 P w K mg base A outer s H->BindsTo s fd args (ps.zip us)->l9 vs us->sp vs H Q E->
  codeAny (model P w) A (.call (.ref f) args) (CR CX outer P w H s Q E) s
theorem G4.mono{P:AJ}{w:AI}{K:AE}{mg:Str->Option AB}{base:Heap}{CX:CXT}{j k:Nat}{f:AA}{fd:FuncData}{ps:List Str}{sp:Sp}(F:G4 P w K mg base CX j f fd ps sp)(h:j<=k):
 G4 P w K mg base CX k f fd ps sp:=⟨F.len,λA outer s H args us vs Q E hr=>F.run A outer s H args us vs Q E (hr.mono h)⟩
theorem G4.imp{P:AJ}{w:AI}{K:AE}{mg:Str->Option AB}{base:Heap}{CX:CXT}{k:Nat}{f:AA}{fd:FuncData}{ps:List Str}{sp sp':Sp}(F:G4 P w K mg base CX k f fd ps sp)
 (h:∀vs H Q E,sp' vs H Q E->sp vs H Q E):G4 P w K mg base CX k f fd ps sp':=
 ⟨λvs H Q E q=>F.len vs H Q E (h _ _ _ _ q),λA outer s H args us vs Q E hr he hb hv hs=>F.run A outer s H args us vs Q E hr he hb hv (h _ _ _ _ hs)⟩
theorem b03.make{P:AJ}{w:AI}{K:AE}{mg:Str->Option AB}{base:Heap}{A:AK}{outer:List Env}{s:AC}{H:Hp}(e:b03 P w K mg base A outer s H)(C:AA)(us:List AB)(kw:List (Str×AB)):
 b03 P w K mg base (A.under (.builtin "type.__call__" ⟨.ref C::us,kw⟩)) outer s H:=⟨by first|exact e.frames|(simpa [Around.under,Code.envs,Code.isFrame,pushEnvs] using e.frames),e.mod,e.bs,e.bsz,e.funs,e.frf,e.hok,e.bare⟩
section
variable {X:Cx}{pins:List (AA×Obj)}{σ:St}{H:Hp}{s s':AC}
theorem g9.env0(I:g9 X pins σ H s):b03 X.prog X.w X.K X.mg X.base X.A X.stack s H:=
 ⟨I.ok.frames,I.ok.mod,I.bs,Nat.le_trans I.ok.bsz I.sz,I.stack,I.stkFree,I.hok,I.bare⟩
theorem g9.after{Q:VK}{u:AB}(I:g9 X pins σ H s)(h:CE X.stack X.prog X.w H s Q u s'):EP X pins σ Q u s':=by
 obtain⟨v,H',os,bare,un,hok,r,q⟩:=h;obtain⟨hh,g,d,t,os'⟩:=s';obtain rfl:os'=s.os:=os;exact⟨v,H',I.call (h':=hh) (g':=g) (d':=d) (t':=t) (ch:=[]) un hok bare (λb z=>absurd z (by simp)),r,q⟩
end
def b8i(sp:Sp)(dvs:List V)(E:XK)(t:TA):TE:=λσ H Q=>t σ H λvs H1=>sp (vs++dvs) H1 Q E
def c0J(C:AA)(sp:Sp)(dvs:List V)(E:XK)(t:TA):TE:=λσ H Q=>t σ H λvs H1=>∀x dx,H1 x=ζ->H1 dx=ζ->dx≠x->
 sp (.ref x::(vs++dvs)) (m9 (m9 H1 dx (.own x)) x (.ins C dx [])) (λv H2=>v= .non/\Q (.ref x) H2) E
def M4(K:AE)(fd:FuncData)(ps:List Str)(ds:List AB):Prop:=
 ∀(s:AC) (us:List AB),K.In s.heap->(us++ds).length=ps.length->BindsTo s fd ⟨us,[]⟩ (ps.zip (us++ds))
theorem M4.all{K:AE}{fd:FuncData}{ps:List Str}(h:∀us:List AB,us.length=ps.length->bindArgs fd ⟨us,[]⟩=pure (ps.zip us)):M4 K fd ps []:=λs us _ hl=>by
 rw [Ah] at hl ⊢;exact .of_eq (h us hl)
def a1z(CX:CXT)(X:Cx)(E:XK):Prop:=∀(pins:List (AA×Obj)) (σ:St) (H:Hp) (s:AC) (e:AB) (s':AC),g9 X pins σ H s->CX X.stack H s E e s'->X.xe e s'
section
variable {X:Cx}{CX:CXT}{k:Nat}{f C:AA}{fd:FuncData}{ps:List Str}{sp:Sp}{dvs:List V}{ds:List AB}{E:XK}{x m:Str}{p pos apos:Pos}{e o:AF}{es:List AF}{ta:TE}{t:TA}
theorem a9B{pins:List (AA×Obj)}{σ:St}{H:Hp}{s:AC}{Q:VK}{us:List AB}{vs:List V}(F:G4 X.prog X.w X.K X.mg X.base CX k f fd ps sp)(hr:y0 k X.A)(hb:M4 X.K fd ps ds)(hd:l9 dvs ds)(hx:a1z CX X E)
 (I:g9 X pins σ H s) (r:l9 vs us) (h:sp (vs++dvs) H Q E):AH (model X.prog X.w) X.A (call (.ref f) us) (EP X pins σ Q) X.xe s:=by
 have r2:l9 (vs++dvs) (us++ds):=r.append hd
 have hl:(us++ds).length=ps.length:=by rw [<-r2.length];exact F.len _ _ _ _ h
 refine wpAny_call (codeAny_mono (F.run X.A X.stack s H ⟨us,[]⟩ (us++ds) (vs++dvs) Q E hr I.env0 (hb s us I.kIn hl) r2 h) λr s' hq=> ?_)
 cases r with
 |error e=>exact hx pins σ H s e s' I hq
 |ok fl=>
  cases fl with
  |ret u=>exact I.after hq
  |next=>exact False.elim hq
  |brk=>exact False.elim hq
  |cont=>exact False.elim hq
theorem a9v(F:G4 X.prog X.w X.K X.mg X.base CX k f fd ps sp)(hr:y0 k X.A)(hg:Gl X x)(hm:X.mg x=ξ (.ref f))(hk:PySem.W.keepIn X.K (.ref f)=true)(hb:M4 X.K fd ps ds)(hd:l9 dvs ds)(hx:a1z CX X E)
 (ha:PA X (e::es) t) (hdb:(x==("__debug__":Str))=false:=by decide) (he:AL (e::es) X.env=(false,eval e X.env)::AL es X.env:=by rfl) (hpl:(backTo pos (AL es X.env)).any (·.1)=false:=by rfl):
 PE X (.Call (.Name x p) (e::es) [] pos) (b8i sp dvs E t):=by
 intro pins s σ H Q I h
 refine wpAny_Call_Name_kw (a0m I hg hm ?_ hdb)
 refine PySem.W.callWith_K (h₀:=X.base) I.ok.mod.kin hk (D5 (ha pos pins s σ H _ I h) λus s1 h0=>k9 h0 λvs H1 I1 r q=>⟨I1.kIn, ?_⟩) he hpl
 exact a9B F hr hb hd hx I1 r q
theorem b5y(F:G4 X.prog X.w X.K X.mg X.base CX k f fd ps sp)(hr:y0 k X.A)(hg:Gl X x)(hm:X.mg x=ξ (.ref f))(hk:PySem.W.keepIn X.K (.ref f)=true)(hb:M4 X.K fd ps ds)(hd:l9 dvs ds)(hx:a1z CX X E)
 (hdb:(x==("__debug__":Str))=false:=by decide):PE X (.Call (.Name x p) [] [] pos) (b8i sp dvs E b50):=by
 intro pins s σ H Q I h
 refine wpAny_Call_Name_kw (a0m I hg hm ?_ hdb)
 exact PySem.W.callWith_K0 I.kIn hk (a9B (us:=[]) F hr hb hd hx I .nil h)
structure Mk(K:AE)(C f:AA):Prop where
 makes:PySem.W.makesIn K C=true
 init:PySem.W.findIn K (.ref C) "__init__"=ξ (ξ (.ref f))
 fn:PySem.W.isFn K (.ref f)=true
 kp:PySem.W.keepIn K (.ref C)=true
theorem b5P{pins:List (AA×Obj)}{σ:St}{H:Hp}{s:AC}{Q:VK}{us:List AB}{vs:List V}(M:Mk X.K C f)(F:G4 X.prog X.w X.K X.mg X.base CX k f fd ps sp)(hr:y0 (k+1) X.A)(hb:M4 X.K fd ps ds)(hd:l9 dvs ds)
 (hx:a1z CX X E) (I:g9 X pins σ H s) (r:l9 vs us)
 (h:∀x dx,H x=ζ->H dx=ζ->dx≠x->sp (.ref x::(vs++dvs)) (m9 (m9 H dx (.own x)) x (.ins C dx [])) (λv H2=>v= .non/\Q (.ref x) H2) E):
 AH (model X.prog X.w) X.A (call (.ref C) us) (EP X pins σ Q) X.xe s:=by
 have hq:=h (s.heap.objs.size+1) s.heap.objs.size (I.hok.fresh (Nat.le_succ _)) (I.hok.fresh (AQ _)) (AZ (Nat.lt_succ_self _))
 have I2:=g9.made (C:=C) I
 have r2:l9 (V.ref (s.heap.objs.size+1)::(vs++dvs)) (Value.ref (s.heap.objs.size+1)::(us++ds)):= .cons rfl (r.append hd)
 have hl:(Value.ref (s.heap.objs.size+1)::us++ds).length=ps.length:=by
  have e:=r2.length;rw [F.len _ _ _ _ hq] at e;exact e.symm
 refine wpAny_call (b5j (f:=f) I.kIn M.makes M.init (beq_iff_eq.mp M.fn) (codeAny_mono (F.run _ X.stack _ _ ⟨Value.ref (s.heap.objs.size+1)::us,[]⟩ (Value.ref (s.heap.objs.size+1)::(us++ds)) _ _ E (hr.make C us [])
  (I2.env0.make C us []) (hb _ (Value.ref (s.heap.objs.size+1)::us) I2.kIn hl) r2 hq) λr s' hq'=> ?_))
 cases r with
 |error e=>exact hx pins σ _ _ e s' I2 hq'
 |ok fl=>
  cases fl with
  |ret u=>
   obtain⟨v,H',I3,rv,ev,q3⟩:=I2.after hq'
   subst ev
   exact⟨rv,⟨V.ref (s.heap.objs.size+1),H',I3,rfl,q3⟩⟩
  |next=>exact False.elim hq'
  |brk=>exact False.elim hq'
  |cont=>exact False.elim hq'
theorem b7h(M:Mk X.K C f)(F:G4 X.prog X.w X.K X.mg X.base CX k f fd ps sp)(hr:y0 (k+1) X.A)(hg:Gl X x)(hm:X.mg x=ξ (.ref C))(hb:M4 X.K fd ps ds)(hd:l9 dvs ds)(hx:a1z CX X E)
 (ha:PA X (e::es) t) (hdb:(x==("__debug__":Str))=false:=by decide) (he:AL (e::es) X.env=(false,eval e X.env)::AL es X.env:=by rfl) (hpl:(backTo pos (AL es X.env)).any (·.1)=false:=by rfl):
 PE X (.Call (.Name x p) (e::es) [] pos) (c0J C sp dvs E t):=by
 intro pins s σ H Q I h
 refine wpAny_Call_Name_kw (a0m I hg hm ?_ hdb)
 refine PySem.W.callWith_K (h₀:=X.base) I.ok.mod.kin M.kp (D5 (ha pos pins s σ H _ I h) λus s1 h0=>k9 h0 λvs H1 I1 r q=>⟨I1.kIn, ?_⟩) he hpl
 exact b5P M F hr hb hd hx I1 r q
end
section
variable {X:Cx}{CX:CXT}{k:Nat}{f C:AA}{fd:FuncData}{ps ks:List Str}{sp:Sp}{E:XK}{x m:Str}{p pos apos kpos:Pos}{e o:AF}{es:List AF}{kws:List Keyword}{te ta:TE}{t tk:TA}{nm:Option Str}
variable {g:List AB->List AB->List AB}{gV:List V->List V->List V}
end
structure g0(N P:List Str)(sc:Scope):Prop where
 kind:sc.kind= .function
 co:sc.isCoroutine=false
 gen:sc.isGenerator=false
 nd:N.Nodup
 pre:N.take P.length=P
 par:∀x∈P,sc.names.lookup x=ξ .local\/sc.names.lookup x=ξ .cell
 nofree:∀y∈sc.names,y.2≠.free
theorem a72{kindOf:Str->Option NameKind}{x:Str}:∀{binds:List (Str×AB)} {m:Str->Option AB},(∀v,(x,v)∉binds)->bindL kindOf binds m x=m x
 |[],_,_=>rfl
 |(n,v)::r,m,h=>by
  unfold bindL;rw [a72 λw hw=>h w (AY _ hw)];split
  ·have:x≠n:=by rintro rfl;exact h v Aa
   simp [this]
  ·rfl
theorem a70{kindOf:Str->Option NameKind}{x:Str}:∀{binds:List (Str×AB)} {m:Str->Option AB},(∀v,(x,v)∉binds)->bindC kindOf binds m x=m x
 |[],_,_=>rfl
 |(n,v)::r,m,h=>by
  unfold bindC;rw [a70 λw hw=>h w (AY _ hw)];split
  ·rfl
  ·have:x≠n:=by rintro rfl;exact h v Aa
   simp [this]
theorem a71{kindOf:Str->Option NameKind}{x:Str}{v:AB}:∀{P:List Str} {vs:List AB} {i:Nat} {m:Str->Option AB},P.Nodup->P[i]?=ξ x->vs[i]?=ξ v->kindOf x=ξ .local->
 bindL kindOf (P.zip vs) m x=ξ v
 |[],_,_,_,_,h,_,_=>by simp at h
 |_::_,[],_,_,_,_,h,_=>by simp at h
 |p::P,w::vs,0,m,nd,h1,h2,hk=>by
  simp at h1 h2;subst h1;subst h2;show bindL kindOf ((p,w)::P.zip vs) m p=_;unfold bindL;rw [a72 λv hv=>(List.nodup_cons.mp nd).1 (List.of_mem_zip hv).1,if_pos hk];simp
 |p::P,w::vs,i+1,m,nd,h1,h2,hk=>by
  show bindL kindOf ((p,w)::P.zip vs) m x=_;unfold bindL;exact a71 (i:=i) (List.nodup_cons.mp nd).2 (by simpa using h1) (by simpa using h2) hk
theorem a7Z{kindOf:Str->Option NameKind}{x:Str}{v:AB}:∀{P:List Str} {vs:List AB} {i:Nat} {m:Str->Option AB},P.Nodup->P[i]?=ξ x->vs[i]?=ξ v->kindOf x≠ξ .local->
 bindC kindOf (P.zip vs) m x=ξ v
 |[],_,_,_,_,h,_,_=>by simp at h
 |_::_,[],_,_,_,_,h,_=>by simp at h
 |p::P,w::vs,0,m,nd,h1,h2,hk=>by
  simp at h1 h2;subst h1;subst h2;show bindC kindOf ((p,w)::P.zip vs) m p=_;unfold bindC;rw [a70 λv hv=>(List.nodup_cons.mp nd).1 (List.of_mem_zip hv).1,if_neg hk];simp
 |p::P,w::vs,i+1,m,nd,h1,h2,hk=>by
  show bindC kindOf ((p,w)::P.zip vs) m x=_;unfold bindC;exact a7Z (i:=i) (List.nodup_cons.mp nd).2 (by simpa using h1) (by simpa using h2) hk
def Z4(N:List Str)(vs:List V):St:=vs.map ξ++AO (N.length - vs.length) ζ
def P4(CX:CXT)(P:AJ)(w:AI)(K:AE)(mg:Str->Option AB)(base:Heap)(N:List Str)(qual:Str)(scope:Scope)(f:AA)(cd:AB)(A:AK)(outer:List Env)(s:AC)(H:Hp)(E:XK):Cx where
 prog:=P
 w:=w
 K:=K
 mg:=mg
 base:=base
 A:=A.deeper (envOfC qual scope s.heap.objs.size f cd)
 N:=N
 s₀:=s
 H₀:=H
 env:=envOfC qual scope s.heap.objs.size f cd
 outer:=outer
 stack:=envOfC qual scope s.heap.objs.size f cd::outer
 ex:=[]
 calm:=true
 fn:=λ_=>true
 pn:=[]
 xe:=λe s'=>AH (model P w) (A.deeper (envOfC qual scope s.heap.objs.size f cd)) (leaving (envOfC qual scope s.heap.objs.size f cd) e) (λ_ s''=>CX outer H s E e s'') (λe' s''=>CX outer H s E e' s'') s'
theorem a9S{sc:Scope}{n:Nat}{x:Str}(h:sc.names.lookup x=ξ .cell):∃c,(cellsFrom n sc.names []).lookup x=ξ c:=by
 have q:=PySem.W.cellsFrom_some sc.names n [] (.inl h);exact Option.isSome_iff_exists.mp q
theorem b3A{CX:CXT}{P:AJ}{w:AI}{K:AE}{mg:Str->Option AB}{base:Heap}{N ps:List Str}{qual:Str}{scope:Scope}{f:AA}{cd:AB}{A:AK}{outer:List Env}{s s1:AC}{H:Hp}{E:XK}{us:List AB}{vs:List V}
 (S:g0 N ps scope) (hd:A.handled=ζ) (e0:b03 P w K mg base A outer s H) (hl:vs.length=ps.length) (r:l9 vs us)
 (x:InCallC s s.heap.objs.size (bindL (envOfC qual scope s.heap.objs.size f cd).kindOf (ps.zip us) λ_=>ζ) (cellsFrom (s.heap.objs.size+1) scope.names []) (bindC (envOfC qual scope s.heap.objs.size f cd).kindOf (ps.zip us) λ_=>ζ) s1):
 g9 (P4 CX P w K mg base N qual scope f cd A outer s H E) [] (Z4 N vs) H s1:=by
 have hpl:ps.length<=N.length:=by have:=congrArg List.length S.pre;rw [List.length_take] at this;lia
 obtain⟨h1,tk,rfl,hk⟩:=x.done
 have noA:∀b:AA,b∉(P4 CX P w K mg base N qual scope f cd A outer s H E).ex:=λb z=>absurd (show b∈([]:List AA) from z) (by simp)
 refine⟨⟨e0.mod,S.kind,rfl,rfl,AQ _,λy z c h1 h2=> ?_,λy hy=> ?_,λy c _ h=> ?_,λ_=>hd,Around.frames_deeper e0.frames,.inr ⟨rfl,rfl⟩,λb z=>absurd z (noA b),e0.bs,e0.bsz,λb _ _=>noA b,λb z=>absurd z (noA b),e0.funs,e0.frf⟩,
  rfl,e0.bare,Un.kept hk,⟨_,x.toInCall.ns,λi y v h1 h2 h3=> ?_⟩,λy c h=>⟨_,x.cell y c h⟩,e0.hok.fresh (AQ _),λy c h=> ?_,λp hp=>absurd (show p∈([]:List (AA×Obj)) from hp) (by simp),e0.hok.kept hk, ?_⟩
 ·exact name_of_addr x.apart (PySem.mem_of_lookup h1) (PySem.mem_of_lookup h2)
 ·have hy:scope.names.lookup y=ξ .cell\/scope.names.lookup y=ξ .free:=hy
  rcases hy with hy|hy
  ·exact a9S hy
  ·exact absurd rfl (S.nofree _ (PySem.mem_of_lookup hy))
 ·exact Ax (x.above y c (PySem.mem_of_lookup h))
 ·have hi:i<vs.length:=by
   unfold Z4 at h2
   by_cases hi:i<vs.length
   ·exact hi
   ·rw [List.getElem?_append_right (by simpa using hi)] at h2
    rw [List.getElem?_replicate] at h2;split at h2<;>cases h2
  have ha:vs[i]?=ξ v:=by
   unfold Z4 at h2;rw [Ar (by simpa using hi),Am] at h2
   cases e:vs[i]? with
   |none=>rw [e] at h2;cases h2
   |some a=>rw [e] at h2;cases h2;rfl
  obtain⟨u,hu,rv⟩:=r.get ha;have hp:ps[i]?=ξ y:=by
   rw [<-S.pre,List.getElem?_take_of_lt (by lia)];exact h1
  have ndP:ps.Nodup:=by rw [<-S.pre];exact S.nd.sublist (List.take_sublist _ _)
  refine⟨u,rv, ?_⟩;rcases S.par y (Az hp) with k|k
  ·exact .inl ⟨k,a71 ndP hp hu k⟩
  ·obtain⟨c,e⟩:=a9S (n:=s.heap.objs.size+1) k;refine .inr ⟨.inl k,c,e, ?_⟩;have q:=x.cell y c e;rw [a7Z ndP hp hu (by show scope.names.lookup y≠_;rw [k];decide)] at q
   exact q
 ·exact e0.hok.fresh (Ax (x.above y c (PySem.mem_of_lookup h)))
 ·unfold Z4
  show _=N.length
  rw [AW,AX,List.length_replicate]
  lia
theorem b71{CX:CXT}{P:AJ}{w:AI}{K:AE}{mg:Str->Option AB}{base:Heap}{k:Nat}{f:AA}{name qual:Str}{params:Arguments}{body:List Stmt}{scope:Scope}{dV kV doc pm cdv ct oc:AB}{an od:Option AA}
 {osl:Array (Option AB)} {N ps:List Str} {sp:Sp} (lk:K.lookup f=ξ ⟨oc,od,.func (PySem.W.fnOf name qual params body scope dV kV doc pm an cdv ct),osl⟩) (hcd:PySem.W.codeIn K cdv qual=true) (S:g0 N ps scope)
 (len:∀vs H Q E,sp vs H Q E->vs.length=ps.length)
 (hbody:∀(A:AK) (outer:List Env) (s:AC) (H:Hp) (vs:List V) (Q:VK) (E:XK),y0 k (A.deeper (envOfC qual scope s.heap.objs.size f cdv))->sp vs H Q E->
  ∃t,PSs (P4 CX P w K mg base N qual scope f cdv A outer s H E) body t/\t {nx:=λ_ H'=>Q .non H',rt:=Q} (Z4 N vs) H):
 G4 P w K mg base CX (k+1) f (PySem.W.fnOf name qual params body scope dV kV doc pm an cdv ct) ps sp:=by
 refine⟨len,λA outer s H args us vs Q E hr e0 hb r hsp=> ?_⟩
 have hl:=len _ _ _ _ hsp
 have KX:K.In s.heap:=e0.mod.kin.keeps λb o e=>(e0.bs b o e).1
 have lim:s.heap.NoLimit:=e0.mod.nolimit.keeps λb o e=>(e0.bs b o e).1
 have hkind:∀y∈ps.zip us,scope.names.lookup y.1=ξ .local\/(scope.names.lookup y.1=ξ .cell/\((cellsFrom (s.heap.objs.size+1) scope.names []).lookup y.1).isSome=true):=λ⟨n,v⟩ hy=>by
  rcases S.par n (List.of_mem_zip hy).1 with q|q
  ·exact .inl q
  ·exact .inr ⟨q,PySem.W.cellsFrom_some _ _ _ (.inl q)⟩
 refine codeAny_call_function hr.depth (KX _ _ lk) rfl S.co S.gen rfl (PySem.W.codeRec_of KX hcd) (hb _ _ _ _ ?_)
 refine wpAny_newFunctionEnv_cells S.kind hkind λenv he s1 x=> ?_
 subst he
 refine⟨lim.keeps x.toInCall.keep,codeAny_func ?_⟩
 obtain⟨t,ht,hq⟩:=hbody A outer s H vs Q E (hr.deeper _) hsp
 have I:g9 (P4 CX P w K mg base N qual scope f cdv A outer s H E) [] (Z4 N vs) H s1:=b3A S hr.hd e0 hl r x
 refine wpAny_mono (ht [] s1 (Z4 N vs) H _ I hq) (λfl s' hs=> ?_) λe s' hs=>hs
 have fin:∀{σ':St} {H':Hp} {v:V} {u:AB},g9 (P4 CX P w K mg base N qual scope f cdv A outer s H E) [] σ' H' s'->l8 v u->Q v H'->CE outer P w H s Q u s':=
  λ {σ' H' v u} J rv q=>⟨v,H',J.os,J.bare,J.base,J.hok,rv,q⟩
 cases fl with
 |ret u=>
  obtain⟨v,σ',H',J,rv,q⟩:=hs
  exact fin J rv q
 |next=>
  obtain⟨σ',H',J,q⟩:=hs
  exact fin (v:=V.non) (u:=Value.none) J rfl q
 |brk=>
  obtain⟨_,_,_,q⟩:=hs
  exact False.elim q
 |cont=>
  obtain⟨_,_,_,q⟩:=hs
  exact False.elim q
section
variable {X:Cx}{x:Str}{p pos:Pos}{e:AF}{es:List AF}{t:TA}{id T:String}{r:List V->Hp->VK->Prop}
def tCB(r:List V->Hp->VK->Prop)(t:TA):TE:=λσ H Q=>t σ H λvs H1=>r vs H1 Q
theorem a15(hc:M5 X (.builtin id) r)(hg:Gl X x)(hm:X.mg x=ζ)(hv:bootBuiltins x=ξ (.builtin id))(ha:PA X (e::es) t)(hn:x≠"__name__":=by decide)(hdb:(x==("__debug__":Str))=false:=by decide)
 (he:AL (e::es) X.env=(false,eval e X.env)::AL es X.env:=by rfl) (hpl:(backTo pos (AL es X.env)).any (·.1)=false:=by rfl):PE X (.Call (.Name x p) (e::es) [] pos) (tCB r t):=by
 intro pins s σ H Q I h
 refine wpAny_Call_Name_kw (a4I I hg hm hv ?_ hn hdb)
 exact PyProof.Rows.callWith_builtin1 (D5 (ha pos pins s σ H _ I h) λus s1 h0=>k9 h0 λvs H1 I1 r1 q1=>hc pins s1 σ H1 vs us Q I1 r1 q1) he hpl
theorem b3U(hc:M5 X (.type T) r)(hg:Gl X x)(hm:X.mg x=ζ)(hv:bootBuiltins x=ξ (.type T))(ha:PA X (e::es) t)(hn:x≠"__name__":=by decide)(hdb:(x==("__debug__":Str))=false:=by decide)
 (he:AL (e::es) X.env=(false,eval e X.env)::AL es X.env:=by rfl) (hpl:(backTo pos (AL es X.env)).any (·.1)=false:=by rfl):PE X (.Call (.Name x p) (e::es) [] pos) (tCB r t):=by
 intro pins s σ H Q I h
 refine wpAny_Call_Name_kw (a4I I hg hm hv ?_ hn hdb)
 exact PyProof.Rows.callWith_type1 (D5 (ha pos pins s σ H _ I h) λus s1 h0=>k9 h0 λvs H1 I1 r1 q1=>hc pins s1 σ H1 vs us Q I1 r1 q1) he hpl
end
end L2
namespace HT
open PySem PyProof.Rows
section
open PySem.SeqAt
open PySem.AutoSeq1 (wpAny_loadPart')
open PySem.MeetsSeq PySem.MeetsSeq2 PySem.MeetsSeq3
end
section
variable {prog:AJ}{w:AI}{A:AK}{E:AB->AC->Prop}{s:AC}
theorem cat_tup{t b:AA}{vs ws:List AB}{Q:AB->AC->Prop}(ht:IsTup s.heap t vs.toArray)(hb:IsTup s.heap b ws.toArray)(hv:vs≠[])
 (h1:ws=[]->Q (.ref t) s) (h2:ws≠[]->Q (.ref s.heap.objs.size) {s with heap:=s.heap.push {cls:= .type "tuple",data:= .seq (vs++ws).toArray}})
 (hsz:vs.length+ws.length<=AM):AH (model prog w) A (binaryOp .Add (.ref t) (.ref b)) Q E s:=by
 obtain⟨⟨cls,dd,data,sl⟩,ho,hc,n,hd⟩:=id ht
 obtain⟨⟨cls2,dd2,data2,sl2⟩,ho2,hc2,n2,hd2⟩:=id hb
 simp only at hc hd hc2 hd2
 subst hc hd hc2 hd2
 have e:vs.toArray++ws.toArray=(vs++ws).toArray:=by simp
 by_cases hw:ws=[]
 ·exact concat_meets ⟨_,ho,rfl⟩ ⟨_,ho2,rfl⟩ noFill_tuple_add seq_tuple_add PySem.F.slot_tuple_add PySem.F.entry_tuple_add (PySem.F.args_tuple_add_2 _ _)
   (tuple_addW1 t b vs.toArray ws.toArray n n2 dd dd2 sl sl2 (by simpa using hv) (by simp [hw])) ⟨ho,ho2,h1 hw⟩
 ·refine concat_meets ⟨_,ho,rfl⟩ ⟨_,ho2,rfl⟩ noFill_tuple_add seq_tuple_add PySem.F.slot_tuple_add PySem.F.entry_tuple_add (PySem.F.args_tuple_add_2 _ _)
   (tuple_addW2 t b vs.toArray ws.toArray n n2 dd dd2 sl sl2 (by simpa using hv) (by simpa using hw) (by rw [Ae,Ae];exact hsz)) ⟨ho,ho2, ?_⟩
  rw [e]
  exact h2 hw
def sIx(n d:Nat):Option Int->Nat
 |none=>d
 |some v=>if v<0 then(v+(n:Int)).toNat else min v.toNat n
theorem sIx_le(n d:Nat)(hd:d<=n)(o:Option Int):sIx n d o<=n:=by
 cases o with
 |none=>exact hd
 |some v=>
  show(if v<0 then(v+(n:Int)).toNat else min v.toNat n)<=n
  by_cases hv:v<0
  ·rw [if_pos hv];lia
  ·rw [if_neg hv];exact Nat.min_le_right _ _
theorem b2j(v:Int)(n d:Nat):(if v<0 then max (v+(n:Int)) 0 else min v (n:Int))=((sIx n d (ξ v):Nat):Int):=by
 show(if v<0 then max (v+(n:Int)) 0 else min v (n:Int))=(((if v<0 then(v+(n:Int)).toNat else min v.toNat n):Nat):Int)
 by_cases hv:v<0
 ·simp only [if_pos hv];lia
 ·simp only [if_neg hv];lia
theorem b1b(lo hi:Option Int)(n:Nat):Builtin.Slice.sliceAdjust lo hi 1 (n:Int)=(((sIx n 0 lo:Nat):Int),((sIx n n hi:Nat):Int)):=by
 have h1:¬((1:Int)<0):=by lia
 unfold Builtin.Slice.sliceAdjust;simp only [h1,if_false];refine Prod.ext ?_ ?_
 ·cases lo with
  |none=>rfl
  |some v=>exact b2j v n 0
 ·cases hi with
  |none=>rfl
  |some v=>exact b2j v n n
theorem b1U(i j:Nat):Builtin.Slice.slicePlaces (i:Int) (j:Int) 1=j - i:=by
 unfold Builtin.Slice.slicePlaces;have h1:(1:Int)>0:=by lia
 simp only [h1,if_true,Int.ediv_one];split<;>lia
theorem a67{v:AB}{o:Option Int}{Q:Option Int->AC->Prop}(p:IsPart v o)(h:Q o s):AH (model prog w) A (Builtin.Slice.slicePartIndex v) Q E s:=by
 cases p with
 |none=>exact slicePart_none h
 |int i t=>exact slicePart_int h
theorem sliceApplied_gen{sl:AA}{vl vu:AB}{lo hi:Option Int}{n:Nat}{Q:Int×Int×Nat->AC->Prop}(hs:s.heap.IsSliceOf sl vl vu .none)(pl:IsPart vl lo)(pu:IsPart vu hi)
 (h:Q (((sIx n 0 lo:Nat):Int),1,sIx n n hi - sIx n 0 lo) s):AH (model prog w) A (Builtin.Slice.sliceApplied (.ref sl) (pure (n:Int))) Q E s:=by
 obtain⟨os,hos,hcs,hds⟩:=id hs
 unfold Builtin.Slice.sliceApplied Builtin.Slice.sliceFields
 refine AG (AG (wpAny_field hos hds (x:=vl) rfl (AG (wpAny_field hos hds (x:=vu) rfl (AG (wpAny_field hos hds (x:= .none) rfl (AN ?_)))))))
 refine AG (slicePart_none ?_)
 show AH _ _ (if((1:Int)==0)=true then _ else _) _ _ s
 rw [if_neg (by decide)]
 refine AG (a67 pl (AG (a67 pu (AG (AN ?_)))))
 show AH _ _ (match Builtin.Slice.sliceAdjust lo hi 1 (n:Int) with|(lo,hi)=>pure (lo,(1:Int),Builtin.Slice.slicePlaces lo hi 1)) _ _ s
 rw [b1b lo hi n]
 show AH _ _ (pure (((sIx n 0 lo:Nat):Int),(1:Int),Builtin.Slice.slicePlaces ((sIx n 0 lo:Nat):Int) ((sIx n n hi:Nat):Int) 1)) _ _ s
 rw [b1U]
 exact AN h
theorem b5E(xs:Array AB)(i k:Nat):((Ab k).filterMap λ(m:Nat)=>xs[((i:Int)+(m:Int)*1).toNat]?).toArray=((xs.toList.drop i).take k).toArray:=by
 have e:(λ(m:Nat)=>xs[((i:Int)+(m:Int)*1).toNat]?)=λm=>xs[i+m]?:=by
  funext m
  have:((i:Int)+(m:Int)*1).toNat=i+m:=by lia
  rw [this]
 rw [e];have:=pick_run xs i k;rw [List.filterMap_map] at this;have e2:((λx=>xs[x]?)∘λx=>i+x)=λm=>xs[i+m]?:=rfl;rw [e2] at this;rw [this]
theorem getItem_tuple_cut{t sl:AA}{items:Array AB}{vl vu:AB}{lo hi:Option Int}{Q:AB->AC->Prop}(ht:IsTup s.heap t items)(hs:s.heap.IsSliceOf sl vl vu .none)(pl:IsPart vl lo)(pu:IsPart vu hi)
 (hw:¬(sIx items.size 0 lo=0/\sIx items.size items.size hi=items.size))
 (h:Q (.ref s.heap.objs.size) {s with heap:=s.heap.push {cls:= .type "tuple",data:= .seq ((items.toList.drop (sIx items.size 0 lo)).take (sIx items.size items.size hi - sIx items.size 0 lo)).toArray}})
 (hsz:items.size<=AM):AH (model prog w) A (getItem (.ref t) (.ref sl)) Q E s:=by
 have htake:sizeOk (.seq ((items.toList.drop (sIx items.size 0 lo)).take (sIx items.size items.size hi - sIx items.size 0 lo)).toArray):=by
  show((items.toList.drop (sIx items.size 0 lo)).take (sIx items.size items.size hi - sIx items.size 0 lo)).toArray.size<=AM;rw [Ae,List.length_take,List.length_drop,Array.length_toList]
  lia
 have hj:sIx items.size items.size hi<=items.size:=sIx_le _ _ (AQ _) hi
 obtain⟨os,hos,hcs,hds⟩:=id hs
 have hTs:s.TypeIs (.ref sl) "slice":=⟨os,hos,hcs⟩
 unfold getItem
 try with_reducible refine wpAny_holding ?_
 first|refine AG (AN ?_)|skip
 refine AG (wpAny_sequenceKey ht.typeIs (by decide) ?_)
 refine AG (wpAny_callSpecial?_slot (name:=AD "__getitem__") ht.typeIs PyProof.Rows.slot_tuple_getitem
  (wpAny_call_entry PyProof.Rows.slot_tuple_getitem ht.typeIs entry_tuple_getitem ?_ (args_tuple_getitem _ _)))
 show AH _ _ (Builtin.Tuple.tupleItemsOf (.ref t)>>=_) _ _ s
 refine AG (tupleItemsOf_ ht ?_)
 refine AG (wpAny_typeOf hTs ?_)
 rw [if_pos (by decide)]
 refine AG (sliceApplied_gen hs pl pu ?_)
 have hno:¬((((sIx items.size 0 lo:Nat):Int)==0 &&(1:Int)==1 &&(sIx items.size items.size hi - sIx items.size 0 lo)==items.size)=true):=by
  intro q;rw [Bool.and_eq_true,Bool.and_eq_true] at q;have q1:((sIx items.size 0 lo:Nat):Int)=0:=eq_of_beq q.1.1;have q2:sIx items.size items.size hi - sIx items.size 0 lo=items.size:=eq_of_beq q.2;exact hw ⟨by lia,by lia⟩
 show AH _ _ (if(((sIx items.size 0 lo:Nat):Int)==0 &&(1:Int)==1 &&(sIx items.size items.size hi - sIx items.size 0 lo)==items.size)=true then _ else _) _ _ s
 rw [if_neg hno,b5E]
 first
  |exact AG (m:=Builtin.Tuple.tupleExact _) (wpAny_newObj_type (AN ⟨_,rfl,AN h⟩) htake)
  |exact AG (m:=Builtin.Tuple.tupleExact _) (wpAny_newObj_type (AG (AN (AN ⟨_,rfl,AN h⟩))) htake)
  |exact AG (AG (m:=Builtin.Tuple.tupleExact _) (wpAny_newObj_type (AN (AN ⟨_,rfl,AN h⟩)) htake))
  |exact AG (AG (m:=Builtin.Tuple.tupleExact _) (wpAny_newObj_type (AN ⟨_,rfl,AN h⟩) htake))
end
end HT
namespace L2
open PySem PySem.Spec PyProof.Rows
abbrev TO:=St->Hp->(Option Int->Hp->Prop)->Prop
def PO(X:Cx)(e:Option AF)(t:TO):Prop:=
 ∀(pins:List (AA×Obj)) (s:AC) (σ:St) (H:Hp) (Q:Option Int->Hp->Prop),g9 X pins σ H s->t σ H Q->
  AH (model X.prog X.w) X.A (evalPart e X.env) (λu s'=>∃o H',g9 X pins σ H' s'/\IsPart u o/\Q o H') X.xe s
def b7H:TO:=λ_ H Q=>Q ζ H
def c0L(t:TE):TO:=λσ H Q=>t σ H λx H1=>∃i,x= .int i/\Q (ξ i) H1
section
variable {X:Cx}{e:AF}{te:TE}{lo hi:Option AF}{tl th:TO}{pos p2:Pos}
theorem b7j:PO X ζ b7H:=by
 ext f
 rw [evalPart_none];exact AN ⟨ζ,H,I,.none,h⟩
theorem b7k(h:PE X e te):PO X (ξ e) (c0L te):=by
 intro pins s σ H Q I hw;rw [evalPart_some];refine D5 (h pins s σ H _ I hw) λu s1 h0=>k9 h0 λx H1 I1 r1 q1=> ?_;obtain⟨i,rfl,q⟩:=q1;obtain⟨t,rfl⟩:=r1;exact⟨ξ i,H1,I1,.int i t,q⟩
def SlR(X:Cx)(r:V->Option Int->Option Int->Hp->VK->Prop):Prop:=
 ∀(pins:List (AA×Obj)) (s:AC) (σ:St) (H:Hp) (x:V) (v vl vu:AB) (lo hi:Option Int) (sl:AA) (Q:VK),g9 X pins σ H s->l8 x v->s.heap.IsSliceOf sl vl vu .none->IsPart vl lo->IsPart vu hi->r x lo hi H Q->
  ∃T id,typeLookup (.type T) "__getitem__"=pure (ξ (.builtin id))/\s.TypeIs v T/\AH (model X.prog X.w) X.A (getItem v (.ref sl)) (EP X pins σ Q) X.xe s
def tSl(r:V->Option Int->Option Int->Hp->VK->Prop)(te:TE)(tl th:TO):TE:=λσ H Q=>te σ H λx H1=>tl σ H1 λl H2=>th σ H2 λu H3=>r x l u H3 Q
theorem b5B{r:V->Option Int->Option Int->Hp->VK->Prop}(hr:SlR X r)(he:PE X e te)(hl:PO X lo tl)(hu:PO X hi th):PE X (.Subscript e (.Slice lo hi ζ p2) pos) (tSl r te tl th):=by
 ext f
 refine Subscript_ (D5 (he pins s σ H _ I h) λv s1 h0=>k9 h0 λx H1 I1 r1 q1=> ?_);refine wpAny_Slice (D5 (hl pins s1 σ H1 _ I1 q1) λvl s2 h0=>k9 h0 λl H2 I2 pl q2=>D5 (hu pins s2 σ H2 _ I2 q2) λvu s3 h0=>k9 h0 λu H3 I3 pu q3=> ?_);rw [evalPart_none];refine AN ?_;have I4:g9 X pins σ H3 {s3 with heap:=s3.heap.push {cls:= .type "slice",data:= .fields #[vl,vu,.none]}}:=I3.kept (t':=s3.toks) λb ob q=>AV _ q
 obtain⟨T,id,hT,ht,hg⟩:=hr pins {s3 with heap:=s3.heap.push {cls:= .type "slice",data:= .fields #[vl,vu,.none]}} σ H3 x v vl vu l u s3.heap.objs.size Q I4 r1 (Heap.IsSliceOf.new ..) pl pu q3
 show AH (model X.prog X.w) X.A (subscriptTail e (.Slice lo hi ζ p2) v (.ref s3.heap.objs.size)) (EP X pins σ Q) X.xe {s3 with heap:=s3.heap.push {cls:= .type "slice",data:= .fields #[vl,vu,.none]}}
 exact tail_any (ops:=[.ref s3.heap.objs.size,v]) ht hT hg (by with_unfolding_all rfl)
def b6p(xs:List V)(lo hi:Option Int):List V:=(xs.drop (HT.sIx xs.length 0 lo)).take (HT.sIx xs.length xs.length hi - HT.sIx xs.length 0 lo)
theorem a9V(xs:List V)(lo hi:Option Int):(b6p xs lo hi).length<=xs.length:=by
 unfold b6p;rw [List.length_take,List.length_drop]
 lia
def c1c(K:AE):V->Option Int->Option Int->Hp->VK->Prop:=λx lo hi H Q=>∃a xs,x= .ref a/\SqT K H a xs/\
 ¬(HT.sIx xs.length 0 lo=0/\HT.sIx xs.length xs.length hi=xs.length)/\∀p,H p=ζ->Q (.ref p) (m9 H p (.tup (b6p xs lo hi)))
theorem b9N:SlR X (c1c X.K):=by
 ext p
 refine⟨"tuple",_,PyProof.Rows.slot_tuple_getitem.lookup,ht.typeIs, ?_⟩;refine HT.getItem_tuple_cut ht hs pl pu (by rw [hlen];exact hw) ?_ (by rw [hlen];exact hz)
 rw [hlen];refine⟨.ref s.heap.objs.size,_,I.laid (t':=s.toks) (o:= .tup (b6p xs lo hi)) (λb ob q=>AV _ q) (AQ _) ?_,rfl,q _ (I.hok.fresh (AQ _))⟩;exact⟨Nat.le_trans (a9V xs lo hi) hz,_,(r.drop (HT.sIx xs.length 0 lo)).take (HT.sIx xs.length xs.length hi - HT.sIx xs.length 0 lo),IsTup.new _ _⟩
def c0A(K:AE):R2:=λx y H Q=>∃a b xs ys,x= .ref a/\y= .ref b/\SqT K H a xs/\SqT K H b ys/\xs≠[]/\xs.length+ys.length<=AM/\
 (ys=[]->Q (.ref a) H)/\(ys≠[]->∀p,H p=ζ->Q (.ref p) (m9 H p (.tup (xs++ys))))
theorem l9.nil_iff{xs:List V}{us:List AB}(r:l9 xs us):us=[]↔xs=[]:=by
 cases r with
 |nil=>simp
 |cons _ _=>simp
theorem b63:OpR X (binaryOp .Add) (c0A X.K):=by
 ext m
 obtain⟨a,b,xs,ys,rfl,rfl,ha,hb,hx,hz,q1,q2⟩:=h;cases rx;cases ry;obtain⟨its,r1,p1,_⟩:=I.tuple ha;obtain⟨its2,r2,p2,_⟩:=I.tuple hb;refine HT.cat_tup p1 p2 (λz=>hx (r1.nil_iff.mp z)) (λz=>⟨.ref a,H,I,rfl,q1 (r2.nil_iff.mp z)⟩) (λz=> ?_) (by rw [<-r1.length,<-r2.length];exact hz)
 refine⟨.ref s.heap.objs.size,_,I.laid (t':=s.toks) (o:= .tup (xs++ys)) (λb ob q=>AV _ q) (AQ _) ?_,rfl,q2 (λw=>z (r2.nil_iff.mpr w)) _ (I.hok.fresh (AQ _))⟩;exact⟨by rw [AW];exact hz,_,r1.append r2,IsTup.new _ _⟩
end
def ixN(n:Nat)(i:Int):Option Nat:=if 0<=i then(if i<n then ξ i.toNat else ζ) else if -(n:Int)<=i then ξ (i+n).toNat else ζ
def atI{α:Type}(xs:List α)(i:Int):Option α:=(ixN xs.length i).bind λj=>xs[j]?
theorem b6P{n:Nat}{i:Int}{j:Nat}(h:ixN n i=ξ j):seqIndex? i n=ξ j/\j<n/\ -(n:Int)<=i/\i<n:=by
 unfold ixN at h
 by_cases h0:0<=i
 ·rw [if_pos h0] at h
  by_cases h1:i<n
  ·rw [if_pos h1] at h;have e:i.toNat=j:=Option.some.inj h;exact⟨by rw [seqIndex_of h0 h1,e],by lia,by lia,h1⟩
  ·rw [if_neg h1] at h;cases h
 ·rw [if_neg h0] at h
  by_cases h1: -(n:Int)<=i
  ·rw [if_pos h1] at h;have e:(i+n).toNat=j:=Option.some.inj h;exact⟨by rw [seqIndex_neg (by lia) h1,e],by lia,h1,by lia⟩
  ·rw [if_neg h1] at h;cases h
theorem a8L{α:Type}{xs:List α}{i:Int}{v:α}(h:atI xs i=ξ v):∃j,seqIndex? i xs.length=ξ j/\xs[j]?=ξ v/\j<xs.length/\ -(xs.length:Int)<=i/\i<xs.length:=by
 unfold atI at h;cases e:ixN xs.length i with
 |none=>rw [e] at h;cases h
 |some j=>
  rw [e] at h;obtain⟨h1,h2,h3,h4⟩:=b6P e;exact⟨j,h1,h,h2,h3,h4⟩
def b2e(b:AF):Prop:=∀o i,subscripted b false o i=operate [o,i] (getItem o i)
def IxR(X:Cx)(r:R2):Prop:=
 ∀(value slice:AF) (pins:List (AA×Obj)) (s:AC) (σ:St) (H:Hp) (x y:V) (v u:AB) (Q:VK),g9 X pins σ H s->l8 x v->l8 y u->r x y H Q->
  subscripted slice false v u=operate [v,u] (getItem v u)->AH (model X.prog X.w) X.A (subscriptTail value slice v u) (EP X pins σ Q) X.xe s
def MtR(X:Cx)(id:String)(r:V->List V->Hp->VK->Prop):Prop:=
 ∀(pins:List (AA×Obj)) (s:AC) (σ:St) (H:Hp) (x:V) (xs:List V) (v:AB) (us:List AB) (Q:VK),g9 X pins σ H s->l8 x v->l9 xs us->r x xs H Q->
  AH (model X.prog X.w) X.A (call (.builtin id) (v::us)) (EP X pins σ Q) X.xe s
section
variable {X:Cx}{a b:AF}{ta tb:TE}{pos:Pos}
theorem c0v{r:R2}(hr:IxR X r)(ha:PE X a ta)(hb:PE X b tb)(hs:b2e b):PE X (.Subscript a b pos) (tOp r ta tb):=by
 ext f
 exact Subscript_ (b8q ha hb I h λv u s2 x y H2 I2 rx ry q=>hr a b pins s2 σ H2 x y v u Q I2 rx ry q (hs _ _))
def c08(K:AE):R2:=λx y H Q=>∃p xs i v,x= .ref p/\y= .int i/\SqL K H p xs/\atI xs i=ξ v/\Q v H
def c1a(K:AE):R2:=λx y H Q=>∃p xs i v,x= .ref p/\y= .int i/\SqT K H p xs/\atI xs i=ξ v/\Q v H
def c09:R2:=λx y H Q=>∃z i c,x= .str z/\y= .int i/\z.length<=AM/\atI z.cps.toList i=ξ c/\Q (.str ⟨#[c]⟩) H
theorem b6Q:IxR X (c08 X.K):=by
 intro value slice pins s σ H x y v u Q I rx ry h hs;obtain⟨p,xs,i,z,rfl,rfl,hq,he,q⟩:=h;cases rx;obtain⟨t,rfl⟩:=ry;obtain⟨its,r,pl,hz⟩:=I.list hq;obtain⟨j,h1,h2,h3,h4,h5⟩:=a8L he;obtain⟨w,ew,rw'⟩:=r.get h2;have hl:=r.length;have hn:=a4K;have fin:EP X pins σ Q w s:=⟨z,H,I,rw',q⟩
 by_cases h0:0<=i
 ·have hj:i.toNat=j:=by
   rw [seqIndex_of h0 h5] at h1;exact Option.some.inj h1
  exact item_listR pl.isList h0 (by lia) (by rw [hj];simpa using ew) fin hs
 ·have hj:(i+(its.toArray.size:Int)).toNat=j:=by
   rw [seqIndex_neg (by lia) h4] at h1
   rw [Ae,<-hl];exact Option.some.inj h1
  exact subscriptTail_builtinR (x:=w) pl.isList.typeIs slot_list_getitem.lookup
   (wpAny_getItem_list_neg (Q:=λr s'=>r=w/\EP X pins σ Q r s') pl.isList (by lia) (by rw [Ae]<;>lia) (by lia) (by rw [hj];simpa using ew) ⟨rfl,fin⟩) hs
theorem b81:IxR X (c1a X.K):=by
 intro value slice pins s σ H x y v u Q I rx ry h hs;obtain⟨p,xs,i,z,rfl,rfl,hq,he,q⟩:=h;cases rx;obtain⟨t,rfl⟩:=ry;obtain⟨its,r,pl,hz⟩:=I.tuple hq;obtain⟨j,h1,h2,h3,h4,h5⟩:=a8L he;obtain⟨w,ew,rw'⟩:=r.get h2;have hl:=r.length;have hn:=a4K;have fin:EP X pins σ Q w s:=⟨z,H,I,rw',q⟩;exact subscriptTail_builtinR (x:=w) pl.typeIs slot_tuple_getitem.lookup
  (getItem_tuple (j:=j) (Q:=λr s'=>r=w/\EP X pins σ Q r s') pl (by lia) (by lia) (by rw [Ae,<-hl];exact h1) (by simpa using ew) ⟨rfl,fin⟩) hs
theorem b80:IxR X c09:=by
 intro value slice pins s σ H x y v u Q I rx ry h hs;obtain⟨z,i,c,rfl,rfl,hz,he,q⟩:=h
 ext s
 obtain⟨j,h1,h2,h3,h4,h5⟩:=a8L he;have hl:z.cps.toList.length=z.length:=by simp [Str.length]
 rw [hl] at h1 h4 h5;have hn:=a4K;exact tail_any (typeIs_str s z t) slot_str_getitem.lookup (getItem_str (c:=c) (by
  have e1:decide (i< -(2 ^ 63:Int))=false:=decide_eq_false (by lia)
  have e2:decide (i>=2 ^ 63)=false:=decide_eq_false (by lia)
  rw [e1,e2,Bool.or_false]) (by rw [h1];simpa using h2) ⟨.str ⟨#[c]⟩,H,I.tok _,⟨_,rfl⟩,q⟩) hs
theorem a8N:M5 X (.builtin "len") (λxs H Q=>∃p ys,xs=[.ref p]/\(SqL X.K H p ys\/SqT X.K H p ys)/\Q (.int ys.length) H):=by
 intro pins s σ H xs us Q I r h;obtain⟨p,ys,rfl,hq,q⟩:=h;obtain⟨u,rfl,rx⟩:=a4q r;cases rx;have hn:=a4K;rcases hq with hq|hq
 ·obtain⟨its,r',pl,hz⟩:=I.list hq;have hlen:=r'.length;exact Calls.call_len_list pl.isList (by simp only [Ae]<;>lia) ⟨.int ys.length,H,I.tok _,⟨s.toks+1,by rw [Ae,hlen]⟩,q⟩
 ·obtain⟨its,r',pl,hz⟩:=I.tuple hq;have hlen:=r'.length;exact len_tuple pl (by simp only [Ae]<;>lia) ⟨.int ys.length,H,I.tok _,⟨s.toks+1,by rw [Ae,hlen]⟩,q⟩
theorem a8O:M5 X (.builtin "len") (λxs H Q=>∃z,xs=[.str z]/\z.length<=AM/\Q (.int z.length) H):=by
 intro pins s σ H xs us Q I r h;obtain⟨z,rfl,hz,q⟩:=h;obtain⟨u,rfl,t,rfl⟩:=a4q r;have hn:=a4K;exact len_str (by lia) ⟨.int z.length,H,I.tok _,⟨_,rfl⟩,q⟩
theorem a7r:M5 X (.type "tuple") (λxs H Q=>∃p ys,xs=[.ref p]/\((SqL X.K H p ys/\∀l,H l=ζ->Q (.ref l) (m9 H l (.tup ys)))\/(SqT X.K H p ys/\Q (.ref p) H))):=by
 intro pins s σ H xs us Q I r h;obtain⟨p,ys,rfl,h⟩:=h;obtain⟨u,rfl,rx⟩:=a4q r;cases rx;rcases h with⟨hq,q⟩|⟨hq,q⟩
 ·obtain⟨its,r',pl,hz⟩:=I.list hq;have hlen:=r'.length;refine call_tuple_list pl.isList (λh' kp=> ?_) (by simp only [Ae]<;>lia)
  have I1:g9 X pins σ H {s with heap:=h'}:=I.kept (t':=s.toks) kp
  have I2:g9 X pins σ (m9 H h'.objs.size (.tup ys)) {s with heap:=h'.push {cls:= .type "tuple",data:= .seq its.toArray}}:=
   I1.laid (t':=s.toks) (λb o e=>AV _ e) (AQ _) (show C7 X.prog X.w _ _ _ (.tup ys) from⟨hz,its,r',IsTup.new _ _⟩)
  exact⟨.ref h'.objs.size,_,I2,rfl,q _ (I1.hok.fresh (AQ _))⟩
 ·obtain⟨its,r',pl,hz⟩:=I.tuple hq;exact call_tuple_same pl ⟨.ref p,H,I,rfl,q⟩
def tyV(K:AE)(T:String)(x:V)(H:Hp):Prop:=match x with
 | .str _=>T="str"
 | .int _=>T="int"
 | .ref p=>(T="list"/\∃xs,SqL K H p xs)\/(T="tuple"/\∃o,K.lookup p=ξ o/\o.cls= .type "tuple"/\o.dict=ζ)\/
  (T="dict"/\((∃kvs,H p=ξ (.dK kvs))\/∃kvs,H p=ξ (.dT kvs)))\/(T="set"/\∃S n,H p=ξ (.set S n))
 |_=>False
theorem b57{pins:List (AA×Obj)}{σ:St}{H:Hp}{s:AC}{T:String}{x:V}{v:AB}(I:g9 X pins σ H s)(r:l8 x v)(ty:tyV X.K T x H):
 s.TypeIs v T/\∀a,v= .ref a->∃ob,s.heap.get? a=ξ ob/\ob.dict=ζ:=by
 cases x with
 |str z=>
  obtain⟨t,rfl⟩:=r
  cases(show T="str" from ty)
  exact⟨typeIs_str s z t,λ_ e=>nomatch e⟩
 |int i=>
  obtain⟨t,rfl⟩:=r
  cases(show T="int" from ty)
  exact⟨typeIs_int s i t,λ_ e=>nomatch e⟩
 |ref p=>
  cases r
  rcases ty with⟨rfl,xs,hq⟩|⟨rfl,o,hk,hc,hd⟩|⟨rfl,hk⟩|⟨rfl,S,n,hk⟩
  ·obtain⟨its,_,pl,_⟩:=I.list hq
   refine⟨pl.isList.typeIs,λa e=> ?_⟩
   cases e
   obtain⟨o,n,e,c,hd,_⟩:=pl
   exact⟨o,e,hd⟩
  ·refine⟨⟨o,I.kIn p o hk,hc⟩,λa e=> ?_⟩
   cases e
   exact⟨o,I.kIn _ o hk,hd⟩
  ·have z:∃o,s.heap.get? p=ξ o/\o.ExactDict:=by
    rcases hk with⟨kvs,hk⟩|⟨kvs,hk⟩
    ·obtain⟨_,_,_,_,o,_,_,e,ex,_⟩:=I.hok p _ hk;exact⟨o,e,ex⟩
    ·obtain⟨_,_,_,_,o,_,_,e,ex,_⟩:=I.hok p _ hk;exact⟨o,e,ex⟩
   obtain⟨o,e,ex⟩:=z;refine⟨⟨o,e,ex.1⟩,λa e2=> ?_⟩;cases e2;exact⟨o,e,ex.2.1⟩
  ·obtain⟨o,_,_,_,e,ex,_⟩:=I.hok p _ hk
   refine⟨⟨o,e,ex.1⟩,λa e2=> ?_⟩
   cases e2
   exact⟨o,e,ex.2.1⟩
 |_=>exact False.elim ty
def c1g(K:AE)(T:String)(r:V->List V->Hp->VK->Prop)(to:TE):TE:=λσ H Q=>to σ H λx H1=>tyV K T x H1/\r x [] H1 Q
def tBM(K:AE)(T:String)(r:V->List V->Hp->VK->Prop)(to:TE)(t:TA):TE:=λσ H Q=>to σ H λx H1=>tyV K T x H1/\t σ H1 λxs H2=>r x xs H2 Q
variable {o e:AF}{es:List AF}{to:TE}{t:TA}{name:Str}{apos cpos:Pos}{T id:String}{r:V->List V->Hp->VK->Prop}
theorem b9r(pa:PlainAttrs T)(slot:Slot T name id)(hty:typeOf (.builtin id)=pure (.type "method_descriptor"))(hm:MtR X id r)(ho:PE X o to)
 (hbase:attributeBase o name X.env (eval o X.env)=eval o X.env:=by rfl) (hline:(apos.endLine==cpos.line)=true:=by rfl):PE X (.Call (.Attribute o name apos) [] [] cpos) (c1g X.K T r to):=by
 intro pins s σ H Q I h
 refine wpAny_Call_method0_late hbase hline (D5 (ho pins s σ H _ I h) λv s1 h0=>a3S h0 λx H1 I1 r1 ty q1=> ?_)
 obtain⟨h1,h2⟩:=b57 I1 r1 ty
 exact⟨T,id,pa,slot,hty,h1,h2,Calls.callWith_builtin rfl (PySem.evalArgs_none (hm pins s1 σ H1 x [] v [] Q I1 r1 .nil q1))⟩
theorem b8e(pa:PlainAttrs T)(slot:Slot T name id)(hty:typeOf (.builtin id)=pure (.type "method_descriptor"))(hm:MtR X id r)(ho:PE X o to)(ha:PA X (e::es) t)
 (hbase:attributeBase o name X.env (eval o X.env)=eval o X.env:=by rfl)
 (hfew:((backTo cpos (AL (e::es) X.env)).all (λx=> !x.1)&&(backToKw cpos (keywordEach [] X.env)).all (λx=>x.1.isSome)
  && decide ((e::es).length+([]:List Keyword).length+(if([]:List Keyword).isEmpty then 0 else 1)<30))=true:=by rfl)
 (hline:(apos.endLine==cpos.line)=true:=by rfl) (hs:AL (e::es) X.env=(false,eval e X.env)::AL es X.env:=by rfl) (hplain:(backTo cpos (AL es X.env)).any (·.1)=false:=by rfl):
 PE X (.Call (.Attribute o name apos) (e::es) [] cpos) (tBM X.K T r to t):=by
 intro pins s σ H Q I h
 refine wpAny_Call_method_late hbase hfew hline rfl (D5 (ho pins s σ H _ I h) λv s1 h0=>a3S h0 λx H1 I1 r1 ty q1=> ?_)
 obtain⟨h1,h2⟩:=b57 I1 r1 ty
 refine⟨T,id,pa,slot,hty,h1,h2, ?_⟩
 have hA:=ha cpos pins s1 σ H1 _ I1 q1
 rw [hs] at hA ⊢
 refine Calls.callWith_builtin (by show(false||(backTo cpos (AL es X.env)).any (·.1))=false;rw [hplain]<;>rfl) (Calls.evalArgs_plain ?_)
 exact D5 hA λus s2 h0=>k9 h0 λvs H2 I2 r2 q2=>hm pins s2 σ H2 x vs v us Q I2 r1 r2 q2
end
def MtM(X:Cx)(id:String)(r:V->List V->Hp->VK->Prop):Prop:=
 ∀(pins:List (AA×Obj)) (s:AC) (σ:St) (H:Hp) (x:V) (xs:List V) (v:AB) (us:List AB) (Q:VK),g9 X pins σ H s->l8 x v->l9 xs us->r x xs H Q->
  AH (model X.prog X.w) X.A (call (.builtin id) (v::us)) (EP X pins σ Q) X.xe s
theorem l9.one:∀{x:V} {us:List AB},l9 [x] us->∃u,us=[u]/\l8 x u
 |_,_,.cons r .nil=>⟨_,rfl,r⟩
theorem l9.zero:∀{us:List AB},l9 [] us->us=[]
 |_,.nil=>rfl
theorem l9.rep{xs:List V}{us:List AB}(h:l9 xs us):∀k:Nat,l9 (AO k xs).flatten (AO k us).flatten
 |0=> .nil
 |k+1=>by
  rw [Aq,Aq,List.flatten_cons,List.flatten_cons];exact l9.append h (l9.rep h k)
theorem a4D(its:List AB):∀(k:Nat) (acc:List AB),
 List.foldl (λx1 x2=>x1++x2) acc.toArray (AO k its.toArray)=(acc++(AO k its).flatten).toArray
 |0,acc=>by simp
 |k+1,acc=>by
  have e:acc.toArray++its.toArray=(acc++its).toArray:=by simp
  have e2:(acc++its)++(AO k its).flatten=acc++(AO (k+1) its).flatten:=by
   rw [Aq,List.flatten_cons,List.append_assoc]
  rw [<-e2,<-a4D its k (acc++its),<-e,Aq,List.foldl_cons]
section
variable {X:Cx}{pins:List (AA×Obj)}{σ:St}{H:Hp}{s:AC}{l b:AA}{xs ys zs:List V}
theorem g9.lset{its its':List AB}{n:Nat}{f:Array AB->Array AB}{t':Nat}(I:g9 X pins σ H s)(hH:H l=ξ (.lst xs))
 (e:s.heap.get? l=ξ {cls:= .type "list",data:= .seq its.toArray n}) (hf:f its.toArray=its'.toArray) (hv:l9 ys its') (hz:ys.length<=AM):
 g9 X pins σ (m9 H l (.lst ys)) {s with heap:=s.heap.update l (Obj.mapSeq f),toks:=t'}:=by
 have q:=PySem.IsL.update e f
 rw [hf] at q
 refine I.write (x:=l) (e:=l) (by rw [hH];exact trivial) (.inl rfl) (λb' u hb hu=>(Heap.get?_update_other s.heap (Obj.mapSeq f) (Ne.symm hb)).trans hu) ⟨_,q⟩ ?_
 exact⟨hz,its',_,hv,q⟩
theorem g9.lnew{its:List AB}{t':Nat}(I:g9 X pins σ H s)(hv:l9 ys its)(hz:ys.length<=AM):
 g9 X pins σ (m9 H s.heap.objs.size (.lst ys)) {s with heap:=s.heap.push {cls:= .type "list",data:= .seq its.toArray},toks:=t'}:=
 I.laid (λ_ _ q=>AV _ q) (AQ _) ⟨hz,its,0,hv,Ak _ rfl⟩
theorem g9.fresh(I:g9 X pins σ H s):H s.heap.objs.size=ζ:=I.hok.fresh (AQ _)
theorem g9.lstM(I:g9 X pins σ H s)(hH:H l=ξ (.lst xs)):xs.length<=AM/\∃(its:List AB) (n:Nat),l9 xs its/\xs.length=its.length/\s.heap.get? l=ξ {cls:= .type "list",data:= .seq its.toArray n}:=by
 obtain⟨z,its,n,r,e⟩:=I.hok l _ hH;exact⟨z,its,n,r,r.length,e⟩
theorem b5o{n:Nat}(h:n<=AM):Builtin.List.listTooLong n=false:=by
 unfold Builtin.List.listTooLong;exact decide_eq_false (by lia)
end
section
variable {X:Cx}
def b7p:V->List V->Hp->VK->Prop:=λx vs H Q=>∃l xs y,x= .ref l/\vs=[y]/\H l=ξ (.lst xs)/\xs.length<AM/\Q .non (m9 H l (.lst (xs++[y])))
theorem a4O:MtM X "list.append" b7p:=by
 intro pins s σ H x vs v us Q I rx rv h;obtain⟨l,xs,y,rfl,rfl,hH,hz,q⟩:=h;cases rx;obtain⟨u,rfl,ru⟩:=rv.one;obtain⟨z,its,n,r,hl,e⟩:=I.lstM hH;refine call_meets F.slot_list_append ⟨_,e,rfl⟩ F.entry_list_append (F.args_list_append_2 _ _) (PySem.list_append l its.toArray n u (by rw [Ae];lia)) ⟨e, ?_⟩
 refine⟨.non,_,I.lset (its':=its++[u]) hH e (by simp) (r.append (.cons ru .nil)) ?_,rfl,q⟩
 rw [AW,List.length_singleton]
 lia
def b9H:V->List V->Hp->VK->Prop:=λx vs H Q=>∃l xs,x= .ref l/\vs=[]/\H l=ξ (.lst xs)/\Q .non (m9 H l (.lst []))
theorem b5m:MtM X "list.clear" b9H:=by
 intro pins s σ H x vs v us Q I rx rv h;obtain⟨l,xs,rfl,rfl,hH,q⟩:=h;cases rx;have hus:=rv.zero;subst hus;obtain⟨z,its,n,r,hl,e⟩:=I.lstM hH;refine call_meets F.slot_list_clear ⟨_,e,rfl⟩ F.entry_list_clear (F.args_list_clear_1 _) (AutoSeq1.list_clear_list_0 l its.toArray n (by rw [Ae];lia)) ⟨e, ?_⟩
 exact⟨.non,_,I.lset (its':=[]) (ys:=[]) hH e rfl .nil (Nat.zero_le _),rfl,q⟩
def c07:R2:=λx y H Q=>∃l b xs zs,x= .ref l/\y= .ref b/\H l=ξ (.lst xs)/\H b=ξ (.lst zs)/\xs.length+zs.length<=AM/\∀p,H p=ζ->Q (.ref p) (m9 H p (.lst (xs++zs)))
theorem b9g:OpR X (binaryOp .Add) c07:=by
 ext m
 obtain⟨l,b,xs,zs,rfl,rfl,hH,hB,hz,q⟩:=h;cases rx;cases ry;obtain⟨z,its,n,r,hl,e⟩:=I.lstM hH;obtain⟨z2,its2,n2,r2,hl2,e2⟩:=I.lstM hB;refine PySem.P.add_list e e2 ?_ (by rw [Ae,Ae];lia)
 have ea:its.toArray++its2.toArray=(its++its2).toArray:=by simp
 rw [ea];exact⟨.ref _,_,I.lnew (t':=s.toks) (r.append r2) (by rw [AW];lia),rfl,q _ I.fresh⟩
def c1b:R2:=λx y H Q=>∃l k xs,x= .ref l/\y= .int k/\H l=ξ (.lst xs)/\ -(2 ^ 63)<=k/\k<2 ^ 63/\xs.length*k.toNat<=AM/\
 ∀p,H p=ζ->Q (.ref p) (m9 H p (.lst (AO k.toNat xs).flatten))
theorem a86{α:Type}(xs:List α)(k:Nat):(AO k xs).flatten.length=k*xs.length:=by
 induction k with
 |zero=>simp
 |succ k ih=>rw [Aq,List.flatten_cons,AW,ih,Nat.succ_mul,Nat.add_comm]
theorem b9k:OpR X (binaryOp .Mult) c1b:=by
 ext m
 obtain⟨l,k,xs,rfl,rfl,hH,h1,h2,hz,q⟩:=h;cases rx;obtain⟨t,rfl⟩:=ry;obtain⟨z,its,n,r,hl,e⟩:=I.lstM hH;have hlen:its.toArray.size*k.toNat<=AM:=by rw [Ae,<-hl];exact hz
 have hcap:¬its.toArray.size*k.toNat>(2 ^ 63 - 1)/ 8:=by
  have:(AM:Nat)<=(2 ^ 63 - 1)/ 8:=by decide
  lia
 have hfit:¬(!Builtin.List.listFitsIndex k)=true:=by
  rw [fitsIndex_both h1 h2];exact Af
 have hlong:¬Builtin.List.listTooLong (its.toArray.size*k.toNat)=true:=by
  rw [b5o hlen];exact Af
 have hnew:List.foldl (λx1 x2=>x1++x2) #[] (AO (if its.toArray.isEmpty=true then 0 else k.toNat) its.toArray)=(AO k.toNat its).flatten.toArray:=by
  have f0:∀m:Nat,List.foldl (λx1 x2=>x1++x2) #[] (AO m its.toArray)=(AO m its).flatten.toArray:=λm=>by
   have:=a4D its m [];rw [List.nil_append] at this;exact this
  rw [f0];cases its with
  |nil=>simp
  |cons a r'=>rw [if_neg (by simp)]
 refine wpAny_binaryOp_repeat_ref (T:="list") (U:="int") (by decide) ⟨_,e,rfl⟩ (λs'=>typeIs_int s' k t) noFill_list_mul F.fills_int_mul F.slot_int_rmul repeat_list F.slot_int_index.lookup
  (call_meets F.slot_int_rmul (typeIs_int s k t) F.entry_int_rmul (F.args_int_rmul_2 _ _) (int___rmul___int_list k t l its.toArray n)
   ⟨e,rfl,⟨_,e,rfl⟩,call_meets F.slot_list_mul ⟨_,e,rfl⟩ F.entry_list_mul (F.args_list_mul_2 _ _) (AutoListH.list___mul___list_int_3 l its.toArray n k t hfit hcap hlong) ⟨e, ?_⟩⟩)
 rw [hnew];exact⟨.ref _,_,I.lnew (t':=s.toks) (r.rep k.toNat) (by rw [a86,Nat.mul_comm];exact hz),rfl,q _ I.fresh⟩
end
section
variable {prog:AJ}{w:AI}{A:AK}{E:AB->AC->Prop}{s:AC}
end
section
variable {X:Cx}
end
end L2
namespace Att
open PySem PySem.W PySem.Calls PyProof.Rows
theorem a5C{P:Params}{h:Heap}:∀(ns:List Int) (vs:List AB),WellAll P h vs (ns.map WData.int)->IntsAre vs ns:=by
 intro ns
 induction ns with
 |nil=>
  intro vs w;rw [Av] at w;cases w;exact .nil
 |cons n ns ih=>
  intro vs w;rw [AS] at w;cases w with
  |cons a b=>
   cases a;exact .cons _ _ (ih _ b)
theorem b37{l:OpenLaw}{n:Nat}(hn:l.most=ξ n){P:Params}{h:Heap}{args:List WData}{vals:List AB}
 (hpre:l.row.toRowW.claim.pre args=true) (hwl:WellAll P h vals args):
 ∃a vs ns,vals=[Value.ref a]/\args=[WData.list (ns.map WData.int)]/\h.get? a=ξ {cls:= .type "list",data:= .seq vs.toArray}/\IntsAre vs ns/\ns.length<=n:=by
 have hsh:WShape.hasAll [] args [.list .int]=true:=(pre_splitW hpre).1
 have hc:l.pre.holds [] {args:=args}=true:=(pre_splitW hpre).2
 obtain⟨d,r,rfl,h1,h2⟩:=hasAllW_cons hsh
 obtain rfl:=hasAllW_nil h2
 obtain⟨xs,rfl,h3⟩:=hasW_list h1
 obtain⟨ns,rfl⟩:=items_int h3
 have hlen:ns.length<=n:=by
  unfold OpenLaw.pre at hc;have h4:(WTm.not (.lt (.lit (.int (n:Int))) (.len (.arg 0)))).holds [] {args:=[.list (ns.map .int)]}=true:=by
   have h4:=(holds_andW hc).1;rw [hn] at h4;exact h4
  have h5:=condW_of h4 (w_not (w_lt w_lit (w_len_list (w_arg rfl))));rw [AX] at h5;refine Nat.le_of_not_lt λq=> ?_;have q':(n:Int)<((ns.length:Nat):Int):=by lia
  first
   |(rw [decide_eq_true q'] at h5;exact absurd h5 (by decide))
   |(simp at h5;lia)
 cases hwl with
 |cons w1 w2=>
  cases w2
  cases w1 with
  |list ho hall=>exact⟨_,_,ns,rfl,rfl,ho,a5C ns _ hall,hlen⟩
theorem b3X(l:OpenLaw)(args:List WData):l.row.toRowW.claim.post args (.bool true) args=true:=
 postW_of (r:=l.row.toRowW) (X:=(true==true))
  (show WShape.has [] (.bool true) .bool=true by first|rfl|decide|simp [WShape.has,WShape.arms,WShape.armsAll])
  (show(WTm.eq .res (.lit (.bool true))).value [] {args:=args,res:=ξ (.bool true),after:=args}=ξ (.bool (true==true)) from w_eq_bool (w_res rfl) w_lit) rfl
theorem attach_call{l:OpenLaw}{n:Nat}{q:AJ}{loose:List Str}{XP:(Str->Option AB)->Heap->Prop}{YP:AI->Heap->Prop}{d:DefRec}
 (hn:l.most=ξ n) (hdf:d.params.defaults=[])
 (call:∀(w:AI) (s₀ s₁:AC) (mg mb:Str->Option AB) (fa:AA) (o:Obj) (pm cd doc:AB) (a:AA) (vs:List AB) (ns:List Int),
  Ground q loose [] XP w s₀ mg mb s₁.heap->YP w s₁.heap->
  s₁.heap.get? fa=ξ o->o.data= .func (docDef d.name d.params d.body d.scope pm cd doc)->s₁.heap.CodeRec cd d.name->mg d.name=ξ (.ref fa)->
  s₁.heap.get? a=ξ {cls:= .type "list",data:= .seq vs.toArray}->IntsAre vs ns->ns.length<=n->s₁.gens= #[]->
  codeAny (model l.prog w) callerA (.call (.ref fa) ⟨[.ref a],[]⟩) (λr s'=>r= .ok (.ret (.bool true))/\OldK s₁.heap s'.heap/\s'.os=s₁.os/\AllBare s'.gens) s₁):
 WalkO q loose XP YP l.row.toRowW d [] (λf vs=>PySem.call f vs):=by
 intro w s₀ s₁ mg mb G Y fa o pm cd doc dV kV ho hd hcd hD hmg hg args vals as hpre hlay hrd hwl hlo
 obtain rfl:dV= .none:=Dflts.none hD hdf
 obtain rfl:kV= .none:=Dflts.noKw hD
 obtain⟨a,vs,ns,rfl,rfl,hobj,hints,hlen⟩:=b37 hn hpre hwl
 refine enter_call (codeAny_mono (call w s₀ s₁ mg mb fa o pm cd doc a vs ns G Y ho (fd_plain hd) hcd hmg hobj hints hlen hg) λr s' hq=> ?_)
 obtain⟨rfl,h2,h3,h4⟩:=hq
 exact⟨.inl ⟨.bool true,.bool true,[],rfl,λ_=>rfl,.bool true,b3X l _,λ_=>⟨List.Pairwise.nil,λ_ hm=>(nomatch hm)⟩⟩,h2,h3,h4⟩
section
variable {prog:AJ}{w:AI}{A:AK}{E:AB->AC->Prop}{s:AC}{K:Frag}
end
end Att
namespace L2
open PySem PySem.Spec PyProof.Rows
theorem a8A:∀{vs:List AB} {ns:List Int},IntsAre vs ns->l9 (ns.map V.int) vs
 |_,_,.nil=> .nil
 |_,_,.cons n t h=> .cons ⟨t,rfl⟩ (a8A h)
def b8l(H:Hp):Prop:=∀b,H b=ζ\/∃o xs,H b=ξ (.frz o (.lst xs))
theorem b5a{P:AJ}{w:AI}{K:AE}{mg mb:Str->Option AB}{CX:CXT}{k:Nat}{fa a:AA}{fd:FuncData}{x:Str}{sp:Sp}{s₁:AC}{vs:List AB}{ns:List Int}
 (KX:K.In s₁.heap) (hns:s₁.heap.Ns mainGlobals mg) (hb:s₁.heap.Ns builtinsNs mb) (hbb:∀x:Str,x≠"__name__"->mb x=bootBuiltins x) (hlim:s₁.heap.NoLimit) (hg:s₁.gens= #[])
 (ha:s₁.heap.get? a=ξ {cls:= .type "list",data:= .seq vs.toArray}) (hi:IntsAre vs ns) (hl:ns.length<=AM) (hr:y0 k callerA)
 (F:∀base:Heap,K.In base->base.Ns mainGlobals mg->G4 P w K mg base CX k fa fd [x] sp) (hbind:∀(s:AC) (u:AB),BindsTo s fd ⟨[u],[]⟩ [(x,u)])
 (hsp:∀H:Hp,b8l H->SqL K H a (ns.map V.int)->sp [.ref a] H (λv _=>v= .bl true) λ_ _ _=>False)
 (hCX:∀H e s',CX [] H s₁ (λ_ _ _=>False) e s'->False):
 codeAny (model P w) callerA (.call (.ref fa) ⟨[.ref a],[]⟩) (λr s'=>r= .ok (.ret (.bool true))/\OldK s₁.heap s'.heap/\s'.os=s₁.os/\AllBare s'.gens) s₁:=by
 have rv:=a8A hi
 have lenV:=hi.length
 have core:∀H:Hp,b8l H->SqL K H a (ns.map V.int)->HOk P w H s₁.heap->(∀b,H b≠ζ->b=a)->(H a≠ζ->K.lookup a=ζ)->
  codeAny (model P w) callerA (.call (.ref fa) ⟨[.ref a],[]⟩) (λr s'=>r= .ok (.ret (.bool true))/\OldK s₁.heap s'.heap/\s'.os=s₁.os/\AllBare s'.gens) s₁:=by
  intro H hO hS hok hA hK
  have base_of:∀{b:AA} {o:Obj},s₁.heap.get? b=ξ o->H b=ζ->(a8Y s₁.heap H).get? b=ξ o:=λe n=>b42 e n
  have noA:∀{b:AA} {o:Obj} {es:Array DictEntry} {ep:Nat},s₁.heap.get? b=ξ o->o.data= .dict es ep->H b=ζ:=λ {b o es ep} e d=>by
   cases q:H b with
   |none=>rfl
   |some u=>
    have e':b=a:=hA b (by rw [q];simp)
    subst e';rw [ha] at e;cases e;have d':Data.seq vs.toArray _=Data.dict es ep:=d;cases d'
  have nsK:∀{b:AA} {m:Str->Option AB},s₁.heap.Ns b m->(a8Y s₁.heap H).Ns b m:=λ {b m} ⟨o,es,ep,e,d,r⟩=>⟨o,es,ep,base_of e (noA e d),d,r⟩
  have hKb:K.In (a8Y s₁.heap H):=λb o e=>base_of (KX b o e) (by
   cases q:H b with
   |none=>rfl
   |some u=>
    have e':b=a:=hA b (by rw [q];simp)
    subst e';rw [hK (by rw [q];simp)] at e;cases e)
  have hM:Mod K mg (a8Y s₁.heap H):=⟨hKb,nsK hns,⟨mb,nsK hb,hbb⟩,let ⟨mc,h1,h2⟩:=hlim;⟨mc,nsK h1,h2⟩⟩
  have e0:b03 P w K mg (a8Y s₁.heap H) callerA [] s₁ H:=⟨rfl,hM,λb o e=>b62 e,Nat.le_of_eq (b3z _ _),trivial,λb hb=>absurd (show b∈([]:List AA) from hb) (by simp),hok,.of_eq hg⟩
  refine codeAny_mono ((F _ hKb (nsK hns)).run callerA [] s₁ H ⟨[.ref a],[]⟩ [.ref a] [.ref a] _ _ hr e0 (hbind s₁ (.ref a)) (.cons rfl .nil) (hsp H hO hS)) λr s' h=> ?_
  cases r with
  |error e=>exact(hCX H e s' h).elim
  |ok fl=>
   cases fl with
   |next=>exact False.elim h
   |brk=>exact False.elim h
   |cont=>exact False.elim h
   |ret u=>
    obtain⟨v,H',os,bare,un,hok',r',q⟩:=h
    have q':v= .bl true:=q
    subst q'
    obtain rfl:u=Value.bool true:=r'
    refine⟨rfl,OldK.of_keep λb o e=> ?_,os,bare⟩
    cases q:H b with
    |none=>exact un.keep b o e q (by intro z;exact absurd (show b∈([]:List AA) from z) (by simp)) (by simp)
    |some u=>
     rcases hO b with z|⟨ob,xs,z⟩
     ·rw [q] at z;cases z
     ·have z2:=un.frzs b ob _ z
      obtain⟨e1,_⟩:=hok b _ z
      obtain⟨e2,_⟩:=hok' b _ z2
      rw [e] at e1;cases e1
      exact e2
 cases hk:K.lookup a with
 |some o=>
  have e:=KX a o hk
  rw [ha] at e
  cases e
  refine core (λ_=>ζ) (λ_=> .inl rfl) (.inr ⟨_,vs.toArray,_,hk,rfl,rfl,rfl,by rw [Ae,lenV];exact hl,by simpa using rv⟩) (λb u z=>by have z':(ζ:Option HO)=ξ u:=z;cases z') (λb z=>absurd rfl z) λz=>absurd rfl z
 |none=>
  refine core (λb=>if b=a then ξ (.frz {cls:= .type "list",data:= .seq vs.toArray} (.lst (ns.map V.int))) else ζ) (λb=> ?_) (.inl (.inr ⟨{cls:= .type "list",data:= .seq vs.toArray},if_pos rfl⟩)) (λb u z=> ?_) (λb z=> ?_) λ_=>hk
  ·by_cases hb:b=a
   ·exact .inr ⟨_,_,if_pos hb⟩
   ·exact .inl (if_neg hb)
  ·by_cases hb:b=a
   ·have z':=(if_pos hb).symm.trans z
    cases z'
    subst hb
    exact⟨ha,by rw [AX];exact hl,vs,_,rv,ha⟩
   ·have z':=(if_neg hb).symm.trans z
    cases z'
  ·by_cases hb:b=a
   ·exact hb
   ·exact absurd (if_neg hb) z
theorem b7P{l:PySem.W.OpenLaw}{n k:Nat}{q:AJ}{loose:List Str}{XP:(Str->Option AB)->Heap->Prop}{YP:AI->Heap->Prop}{d:DefRec}{K:Params->AE}{CX:AI->CXT}{sp:AI->Sp}{x:Str}
 (hn:l.most=ξ n) (hn2:n<=AM) (hdf:d.params.defaults=[]) (hr:y0 k callerA)
 (hY:∀(w:AI) (h:Heap),YP w h->(K w.params).In h)
 (F:∀(w:AI) (mg:Str->Option AB) (fa:AA) (h:Heap),(K w.params).In h->h.Ns mainGlobals mg->mg d.name=ξ (.ref fa)->
  ∃fd:FuncData,(∀(s:AC) (u:AB),BindsTo s fd ⟨[u],[]⟩ [(x,u)])/\
   ∀base:Heap,(K w.params).In base->base.Ns mainGlobals mg->G4 l.prog w (K w.params) mg base (CX w) k fa fd [x] (sp w))
 (hsp:∀(w:AI) (H:Hp) (a:AA) (ns:List Int),ns.length<=n->b8l H->SqL (K w.params) H a (ns.map V.int)->sp w [.ref a] H (λv _=>v= .bl true) λ_ _ _=>False)
 (hCX:∀(w:AI) (H:Hp) (s:AC) (e:AB) (s':AC),CX w [] H s (λ_ _ _=>False) e s'->False):
 PySem.W.WalkO q loose XP YP l.row.toRowW d [] (λf vs=>PySem.call f vs):=by
 refine Att.attach_call hn hdf λw s₀ s₁ mg mb fa o pm cd doc a vs ns G Y ho hd hcd hmg hobj hints hlen hg=> ?_
 have KX:=hY w _ Y
 obtain⟨fd,hb,hF⟩:=F w mg fa _ KX G.T.g hmg
 exact b5a KX G.T.g G.T.b G.T.builtins G.T.nolimit hg hobj hints (Nat.le_trans hlen hn2) hr hF hb (λH hO hS=>hsp w H a ns hlen hO hS) λH e s'=>hCX w H s₁ e s'
def y4(s:Stmt):Arguments:=match s with
 | .FunctionDef _ a _ _ _ _ _ _ _ _=>a
 |_=>{posonlyargs:=[],args:=[],vararg:=ζ,kwonlyargs:=[],kw_defaults:=[],kwarg:=ζ,defaults:=[]}
def m7(s:Stmt):List Stmt:=match s with
 | .FunctionDef _ _ b _ _ _ _ _ _ _=>b
 |_=>[]
def b5(s:Stmt):Scope:=match s with
 | .FunctionDef _ _ _ _ _ _ sc _ _ _=>sc
 |_=>{kind:= .function,names:=[],isGenerator:=false,isCoroutine:=false}
abbrev CX0:CXT:=λ_ _ _ _ _ _=>False
abbrev E0:XK:=λ_ _ _=>False
theorem b0x{X:Cx}:a1z CX0 X E0:=λ_ _ _ _ _ _ _ h=>h.elim
structure Fun(K:AE)(x qual:Str)(st:Stmt)(f:AA)(fd:FuncData):Prop where
 ex:∃(oc:AB) (od:Option AA) (kV doc pm:AB) (an:Option AA) (cdv ct:AB) (osl:Array (Option AB)),
  fd=PySem.W.fnOf x qual (y4 st) (m7 st) (b5 st) .none kV doc pm an cdv ct/\K.lookup f=ξ ⟨oc,od,.func fd,osl⟩/\PySem.W.codeIn K cdv qual=true
 kp:PySem.W.keepIn K (.ref f)=true
section
variable {P:AJ}{w:AI}{K:AE}{mg:Str->Option AB}{base:Heap}
theorem Fun.ok{x qual:Str}{st:Stmt}{f:AA}{fd:FuncData}{N ps:List Str}{k:Nat}{sp:Sp}(F:Fun K x qual st f fd)(S:g0 N ps (b5 st))(len:∀vs H Q E,sp vs H Q E->vs.length=ps.length)
 (hbody:∀(cdv:AB) (A:AK) (outer:List Env) (s:AC) (H:Hp) (vs:List V) (Q:VK) (E:XK),y0 k (A.deeper (envOfC qual (b5 st) s.heap.objs.size f cdv))->sp vs H Q E->
  ∃t,PSs (P4 CX0 P w K mg base N qual (b5 st) f cdv A outer s H E).nox (m7 st) t/\t {nx:=λ_ H'=>Q .non H',rt:=Q} (Z4 N vs) H):G4 P w K mg base CX0 (k+1) f fd ps sp:=by
 obtain⟨oc,od,kV,doc,pm,an,cdv,ct,osl,rfl,lk,hcd⟩:=F.ex
 refine b71 lk hcd S len λA outer s H vs Q E hr hsp=> ?_
 obtain⟨t,h,q⟩:=hbody cdv A outer s H vs Q E hr hsp
 exact⟨t,h.nox,q⟩
theorem Fun.binds{x qual:Str}{st:Stmt}{f:AA}{fd:FuncData}{ps:List Str}(F:Fun K x qual st f fd)
 (h:∀(kV doc pm:AB) (an:Option AA) (cdv ct:AB) (us:List AB),us.length=ps.length->bindArgs (PySem.W.fnOf x qual (y4 st) (m7 st) (b5 st) .none kV doc pm an cdv ct) ⟨us,[]⟩=pure (ps.zip us)):M4 K fd ps []:=by
 obtain⟨oc,od,kV,doc,pm,an,cdv,ct,osl,rfl,lk,hcd⟩:=F.ex
 exact .all (h kV doc pm an cdv ct)
theorem b4O{x qual:Str}{st:Stmt}{f:AA}{oc:AB}{od an:Option AA}{osl:Array (Option AB)}{kV doc pm cdv ct:AB}(l:K.lookup f=ξ ⟨oc,od,.func (PySem.W.fnOf x qual (y4 st) (m7 st) (b5 st) .none kV doc pm an cdv ct),osl⟩)
 (c:PySem.W.codeIn K cdv qual=true) (k:PySem.W.keepIn K (.ref f)=true):Fun K x qual st f (PySem.W.fnOf x qual (y4 st) (m7 st) (b5 st) .none kV doc pm an cdv ct):=⟨⟨oc,od,kV,doc,pm,an,cdv,ct,osl,rfl,l,c⟩,k⟩
end
theorem b39{n:Nat}(h:n<=1000):n<AM:=Nat.lt_of_le_of_lt h (by decide)
section
variable {X:Cx}
theorem pv(i:Nat){x:Str}{pos:Pos}(hN:X.N[i]?=ξ x:=by rfl)(hv:Vis X.env.scope x:=by first|exact Or.inl rfl|exact Or.inr (Or.inl rfl)|exact Or.inr (Or.inr rfl))(hd:(x==("__debug__":Str))=false:=by decide)
 (hcd:(x==("__classdict__":Str))=false:=by decide):PE X (.Name x pos) (a0a i):=b9z hN hv hd hcd
end
theorem a81{A B:Prop}(h:B):if false=true then A else B:=by
 rw [if_neg Af];exact h
theorem a82{A B:Prop}(h:A):if true=true then A else B:=by
 rw [if_pos rfl];exact h
def j2(H H':Hp):Prop:=∀b o,H b=ξ o->H' b=ξ o
theorem j2.trans{H H1 H2:Hp}(a:j2 H H1)(b:j2 H1 H2):j2 H H2:=λc o h=>b c o (a c o h)
theorem j2.free{H H':Hp}(e:j2 H H'){l:AA}(h:H' l=Option.none):H l=Option.none:=by
 cases q:H l with
 |none=>rfl
 |some o=>
  rw [e l o q] at h;cases h
section
variable (P:AJ)(w:AI)
end
section
variable {P:AJ}{w:AI}{H H':Hp}{h h':Heap}{a:AA}{o:HO}
end
section
variable {P:AJ}{w:AI}{H:Hp}{h h':Heap}{x e:AA}{o':HO}
end
section
variable {fs fs' ex ex':List AA}{H H1 H2:Hp}{h h1 h2 h':Heap}{a x e:AA}{o:HO}
end
section
variable {X:Cx}{pins:List (AA×Obj)}{σ:List (Option V)}{H H':Hp}{s:AC}{h':Heap}
end
section
variable {X:Cx}
variable {a b:AF}{ta tb:TE}{pos:Pos}
variable {tA tB':TT}{rest:List AF}
end
section
variable {X:Cx}{pins:List (AA×Obj)}{σ:St}{H:Hp}{s:AC}{a:AA}{xs ys:List V}
end
section
variable {X:Cx}{pins:List (AA×Obj)}{σ:St}{H:Hp}{s:AC}{E:AB->AC->Prop}
end
section
variable {X:Cx}{st:Stmt}{rest:List Stmt}{t u:TS}{e:AF}{te:TE}{pos:Pos}
end
section
variable {X:Cx}{pos:Pos}
end
section
variable {X:Cx}{tg:AF}
end
section
variable {X:Cx}{a b c:AF}{ta tb tc:TE}{pos:Pos}
end
section
variable {prog:AJ}{w:AI}{A:AK}{E:AB->AC->Prop}{s:AC}{K:AE}{x dx C f:AA}{mA:Str->Option AB}{name:Str}{v:AB}
end
section
variable {P:AJ}{w:AI}{H H':Hp}{h h':Heap}{a C dx:AA}{fs fs':List (Str×V)}
end
section
variable {X:Cx}{pins:List (AA×Obj)}{σ:St}{H:Hp}{s:AC}{a C dx:AA}{fs:List (Str×V)}{f:Str}{v:V}{A:AK}{E:AB->AC->Prop}
end
section
variable {X:Cx}{o e value:AF}{f:Str}{pos pos' tpos:Pos}{ta tv:TE}
end
section
variable {X:Cx}{pins:List (AA×Obj)}{σ:St}{H:Hp}{s:AC}{A:AK}{E:AB->AC->Prop}{Q:AB->AC->Prop}{c:AB}{b:Bool}
end
section
variable {X:Cx}{e:AF}{es:List AF}{te:TE}{t:TA}{pos:Pos}
end
section
variable {X:Cx}{pins:List (AA×Obj)}{σ:St}{H:Hp}{s s':AC}
end
section
variable {X:Cx}{CX:CXT}{k:Nat}{f C:AA}{fd:FuncData}{ps:List Str}{sp:Sp}{dvs:List V}{ds:List AB}{E:XK}{x m:Str}{p pos apos:Pos}{e o:AF}{es:List AF}{ta:TE}{t:TA}
end
section
variable {X:Cx}{CX:CXT}{k:Nat}{f C:AA}{fd:FuncData}{ps ks:List Str}{sp:Sp}{E:XK}{x m:Str}{p pos apos kpos:Pos}{e o:AF}{es:List AF}{kws:List Keyword}{te ta:TE}{t tk:TA}{nm:Option Str}
variable {g:List AB->List AB->List AB}{gV:List V->List V->List V}
end
section
variable {X:Cx}{x:Str}{p pos:Pos}{e:AF}{es:List AF}{t:TA}{id T:String}{r:List V->Hp->VK->Prop}
end
section
variable {κ:Type}[DecidableEq κ]
def a0G(kvs:List (κ×V))(k:κ):Option V:=(kvs.find? λkv=>decide (kv.1=k)).map (·.2)
def a2J(kvs:List (κ×V))(k:κ)(v:V):List (κ×V):=
 if(kvs.any λkv=>decide (kv.1=k))=true then kvs.map (λkv=>if kv.1=k then(kv.1,v) else kv) else kvs++[(k,v)]
theorem a0W{p:κ×V}{r:List (κ×V)}{k:κ}(e:p.1=k):a0G (p::r) k=ξ p.2:=by simp [a0G,List.find?_cons,e]
theorem a0V{p:κ×V}{r:List (κ×V)}{k:κ}(e:¬p.1=k):a0G (p::r) k=a0G r k:=by simp [a0G,List.find?_cons,e]
theorem b0T(k:κ):∀kvs:List (κ×V),(kvs.any λkv=>decide (kv.1=k))=(a0G kvs k).isSome
 |[]=>rfl
 |p::r=>by
  rw [List.any_cons]
  by_cases e:p.1=k
  ·simp only [a0W e,decide_eq_true e,Bool.true_or,Option.isSome_some]
  ·rw [a0V e,decide_eq_false e,Bool.false_or];exact b0T k r
theorem a5k(kvs:List (κ×V))(k:κ)(v:V):(a2J kvs k v).length<=kvs.length+1:=by
 unfold a2J;split
 ·rw [AX];lia
 ·rw [AW,AU,Aj];lia
theorem Z6.isSome_eq{o:Option V}{u:Option AB}(r:Z6 o u):o.isSome=u.isSome:=by
 cases o with
 |none=>cases u with
  |none=>rfl
  |some _=>exact(show False from r).elim
 |some _=>cases u with
  |none=>exact(show False from r).elim
  |some _=>rfl
theorem Z6.getD{o:Option V}{u:Option AB}{d:V}{d':AB}(r:Z6 o u)(rd:l8 d d'):l8 (o.getD d) (u.getD d'):=by
 cases o with
 |none=>cases u with
  |none=>exact rd
  |some _=>exact(show False from r).elim
 |some _=>cases u with
  |none=>exact(show False from r).elim
  |some _=>exact r
theorem KV.val{kvs:List (κ×V)}{vs:List (κ×AB)}(r:KV kvs vs)(k:κ):Z6 (a0G kvs k) (valueAt vs k):=by
 unfold KV at r
 induction r with
 |nil=>exact True.intro
 | @cons p q ps qs h t ih=>
   obtain⟨h1,h2⟩:=h
   by_cases e:p.1=k
   ·have e':q.1=k:=h1.symm.trans e;have b:valueAt (q::qs) k=ξ q.2:=by simp [valueAt,List.find?_cons,e']
    rw [a0W e,b];exact h2
   ·have e':¬q.1=k:=λz=>e (h1.trans z);have b:valueAt (q::qs) k=valueAt qs k:=by simp [valueAt,List.find?_cons,e']
    rw [a0V e,b];exact ih
theorem KV.any{kvs:List (κ×V)}{vs:List (κ×AB)}(r:KV kvs vs)(k:κ):(kvs.any λkv=>decide (kv.1=k))=vs.any λkv=>decide (kv.1=k):=by
 unfold KV at r
 induction r with
 |nil=>rfl
 |cons h t ih=>rw [List.any_cons,List.any_cons,ih,h.1]
theorem KV.repl{kvs:List (κ×V)}{vs:List (κ×AB)}(r:KV kvs vs)(k:κ){y:V}{u:AB}(ry:l8 y u):
 KV (kvs.map λkv=>if kv.1=k then(kv.1,y) else kv) (vs.map λkv=>if kv.1=k then(kv.1,u) else kv):=by
 unfold KV at r ⊢
 induction r with
 |nil=>exact .nil
 | @cons p q ps qs h t ih=>
   rw [AS,AS]
   refine .cons ?_ ih
   obtain⟨h1,h2⟩:=h
   by_cases e:p.1=k
   ·rw [if_pos e,if_pos (h1.symm.trans e)];exact⟨h1,ry⟩
   ·rw [if_neg e,if_neg (λz=>e (h1.trans z))];exact⟨h1,h2⟩
theorem KV.put{kvs:List (κ×V)}{vs:List (κ×AB)}(r:KV kvs vs)(k:κ){y:V}{u:AB}(ry:l8 y u):KV (a2J kvs k y) (stored vs k u):=by
 unfold a2J stored;rw [r.any k]
 by_cases e:(vs.any λkv=>decide (kv.1=k))=true
 ·rw [if_pos e,if_pos e];exact r.repl k ry
 ·rw [if_neg e,if_neg e];exact Paired.snoc r ⟨rfl,ry⟩
theorem KV.length{kvs:List (κ×V)}{vs:List (κ×AB)}(r:KV kvs vs):kvs.length=vs.length:=Paired.length r
end
theorem a8m{P:AJ}{w:AI}{k:n5}{u:AB}(r:l8 (kV k) u):(v0 P w).is k u=true:=by
 cases k with
 |inl i=>obtain⟨t,e⟩:=(show ∃t,u=Value.int i t from r);subst e;exact a5m P w i t
 |inr x=>obtain⟨t,e⟩:=(show ∃t,u=Value.str x t from r);subst e;exact a5n P w x t
theorem a8l{P:AJ}{w:AI}:∀{ks:List n5} {us:List AB},l9 (ks.map kV) us->ItemsAre (v0 P w) ks us
 |[],_,r=>by rw [Av] at r;cases r;exact .nil
 |k::ks,_,r=>by
  rw [AS] at r;cases r with
  |cons h t=>exact .cons (a8m h) (a8l t)
abbrev KT(H:Hp):List (List n5×V)->List (List n5×AA×AB)->Prop:=Paired λp q=>p.1=q.1/\H q.2.1=ξ (.tup (p.1.map kV))/\l8 p.2 q.2.2
theorem KT.val{H:Hp}{kvs:List (List n5×V)}{xs:List (List n5×AA×AB)}(r:KT H kvs xs)(k:List n5):Z6 (a0G kvs k) ((atKey xs k).map (·.2)):=by
 induction r with
 |nil=>exact True.intro
 | @cons p q ps qs h t ih=>
   obtain⟨h1,_,h2⟩:=h
   by_cases e:p.1=k
   ·have e':q.1=k:=h1.symm.trans e;have b:atKey (q::qs) k=ξ q.2:=by simp [atKey,List.find?_cons,e']
    rw [a0W e,b];exact h2
   ·have e':¬q.1=k:=λz=>e (h1.trans z);have b:atKey (q::qs) k=atKey qs k:=by simp [atKey,List.find?_cons,e']
    rw [a0V e,b];exact ih
theorem KT.repl{H:Hp}{kvs:List (List n5×V)}{xs:List (List n5×AA×AB)}(r:KT H kvs xs)(k:List n5){y:V}{u:AB}(ry:l8 y u):
 KT H (kvs.map λkv=>if kv.1=k then(kv.1,y) else kv) (xs.map (putAt k u)):=by
 induction r with
 |nil=>exact .nil
 | @cons p q ps qs h t ih=>
   rw [AS,AS]
   refine .cons ?_ ih
   obtain⟨h1,h2,h3⟩:=h
   unfold putAt
   by_cases e:p.1=k
   ·rw [if_pos e,if_pos (h1.symm.trans e)];exact⟨h1,h2,ry⟩
   ·rw [if_neg e,if_neg (λz=>e (h1.trans z))];exact⟨h1,h2,h3⟩
theorem KT.put{H:Hp}{kvs:List (List n5×V)}{xs:List (List n5×AA×AB)}(r:KT H kvs xs)(k:List n5){b:AA}{y:V}{u:AB}(hb:H b=ξ (.tup (k.map kV)))(ry:l8 y u):
 KT H (a2J kvs k y) (storedH xs k b u):=by
 have e:(kvs.any λkv=>decide (kv.1=k))=(atKey xs k).isSome:=by
  rw [b0T,(r.val k).isSome_eq,Option.isSome_map]
 unfold a2J storedH
 rw [e]
 by_cases q:(atKey xs k).isSome=true
 ·rw [if_pos q,if_pos q];exact r.repl k ry
 ·rw [if_neg q,if_neg q];exact Paired.snoc r ⟨rfl,hb,ry⟩
theorem KT.keeps{H H':Hp}{kvs:List (List n5×V)}{xs:List (List n5×AA×AB)}(r:KT H kvs xs)(ht:∀b ys,H b=ξ (.tup ys)->H' b=ξ (.tup ys)):KT H' kvs xs:=
 Paired.mapP r λ_ _ z=>⟨z.1,ht _ _ z.2.1,z.2.2⟩
section
variable {P:AJ}{w:AI}{H:Hp}{h:Heap}{a:AA}
theorem b8f{u:HO}(ok:HOk P w H h)(e:Rd H a u):C7 P w H h a u:=e.ok ok
theorem a59{kvs:List (n5×V)}(ok:HOk P w H h)(e:Rd H a (.dK kvs)):kvs.length<=AM/\(a==sysModules)=false/\∃vs,KV kvs vs/\h.DictOf (v0 P w) a vs:=
 show C7 P w H h a (.dK kvs) from b8f ok e
theorem b7Z{kvs:List (n5×V)}(ok:HOk P w H h)(e:H a=ξ (.dK kvs)):kvs.length<=AM/\(a==sysModules)=false/\∃vs,KV kvs vs/\h.DictOf (v0 P w) a vs:=a59 ok (.inl e)
theorem a4H{ks:List n5}(ok:HOk P w H h)(e:H a=ξ (.tup (ks.map kV))):(tupleKind (v0 P w)).is h ks a:=by
 obtain⟨_,its,r,o,h1,h2,n,h3⟩:=(show C7 P w H h a (.tup (ks.map kV)) from ok a _ e);exact⟨o,its.toArray,n,h1,h2,h3,by simpa using a8l r⟩
theorem a6b{kvs:List (List n5×V)}(ok:HOk P w H h)(e:Rd H a (.dT kvs)):kvs.length<=AM/\(a==sysModules)=false/\
 ∃xs,KT H kvs xs/\h.DictOfH (tupleKind (v0 P w)) a xs:=by
 obtain⟨z,y,xs,r,o,es,ep,h1,h2,h3,h4,h5⟩:=(show C7 P w H h a (.dT kvs) from b8f ok e)
 refine⟨z,y,xs,r,o,es,ep,h1,h2,h3,h4,λx hx=> ?_,h5⟩
 have all:∀{l:List (List n5×V)} {m:List (List n5×AA×AB)},KT H l m->∀x∈m,(tupleKind (v0 P w)).is h x.1 x.2.1:=by
  intro l m q
  induction q with
  |nil=>intro x hx;exact nomatch hx
  | @cons p q ps qs hq t ih=>
    intro x hx;rcases Ag.mp hx with e|hx
    ·subst e;exact a4H ok (by rw [<-hq.1];exact hq.2.1)
    ·exact ih x hx
 exact all r x hx
theorem b99{kvs:List (List n5×V)}(ok:HOk P w H h)(e:H a=ξ (.dT kvs)):kvs.length<=AM/\(a==sysModules)=false/\
 ∃xs,KT H kvs xs/\h.DictOfH (tupleKind (v0 P w)) a xs:=a6b ok (.inl e)
end
def a1y(H:Hp)(a:AA)(y:V)(r:Option V):Prop:=
 (∃kvs k,Rd H a (.dK kvs)/\y=kV k/\r=a0G kvs k)\/∃kvs k b,Rd H a (.dT kvs)/\y= .ref b/\H b=ξ (.tup (k.map kV))/\r=a0G kvs k
def b4f(H:Hp)(a:AA)(y v:V)(H':Hp):Prop:=
 (∃kvs k,H a=ξ (.dK kvs)/\y=kV k/\kvs.length<AM/\H'=m9 H a (.dK (a2J kvs k v)))\/
 ∃kvs k b,H a=ξ (.dT kvs)/\y= .ref b/\H b=ξ (.tup (k.map kV))/\kvs.length<AM/\H'=m9 H a (.dT (a2J kvs k v))
theorem a1y.k{H:Hp}{a:AA}{kvs:List (n5×V)}{k:n5}(e:H a=ξ (.dK kvs)):a1y H a (kV k) (a0G kvs k):= .inl ⟨kvs,k,.inl e,rfl,rfl⟩
theorem b4f.k{H:Hp}{a:AA}{kvs:List (n5×V)}{k:n5}{v:V}(e:H a=ξ (.dK kvs))(hl:kvs.length<AM):b4f H a (kV k) v (m9 H a (.dK (a2J kvs k v))):= .inl ⟨kvs,k,e,rfl,hl,rfl⟩
section
variable {X:Cx}{pins:List (AA×Obj)}{σ:St}{H:Hp}{s:AC}{a:AA}{y v:V}{u r:AB}{o:Option V}{A:AK}{E:AB->AC->Prop}
theorem g9.big(I:g9 X pins σ H s):sysModules<s.heap.objs.size:=by
 have h:mainGlobals<s.heap.objs.size:=(I.mod.glob.keeps I.bk).lt;exact Nat.lt_trans (by decide) h
theorem b3i{Q:AB->AC->Prop}(hu:A.units+1<cLine)(I:g9 X pins σ H s)(g:a1y H a y (ξ v))(ry:l8 y u)(h:∀w' s',g9 X pins σ H s'->l8 v w'->Q w' s'):
 AH (model X.prog X.w) A (getItem (.ref a) u) Q E s:=by
 rcases g with⟨kvs,k,e,ey,l⟩|⟨kvs,k,b,e,ey,eb,l⟩
 ·subst ey
  obtain⟨z,hd,vs,rel,dd⟩:=a59 I.hok e
  obtain⟨w',hw,rw'⟩:=Z6.some_of (v:=v) (o:=valueAt vs k) (by rw [l];exact rel.val k)
  exact wpAny_getItem_of (a8m ry) dd.mapOf hw (h w' _ (I.tok _) rw')
 ·subst ey
  cases(show u=Value.ref b from ry)
  obtain⟨z,hd,xs,rel,dd⟩:=a6b I.hok e
  obtain⟨w',hw,rw'⟩:=Z6.some_of (v:=v) (o:=(atKey xs k).map (·.2)) (by rw [l];exact rel.val k)
  obtain⟨p,hp,hp2⟩:=Option.map_eq_some_iff.mp hw
  refine wpAny_getItem_heap (tupleKind_room_in1 hu) (a4H I.hok eb) dd hp ?_
  rw [hp2]
  exact h w' _ (I.tok _) rw'
theorem c00{Q:AB->AC->Prop}(hu:A.units+1<cLine)(I:g9 X pins σ H s)(g:a1y H a y o)(ry:l8 y u)(h:∀s',g9 X pins σ H s'->Q (.bool o.isSome) s'):
 AH (model X.prog X.w) A (compareOp .In u (.ref a)) Q E s:=by
 rcases g with⟨kvs,k,e,ey,l⟩|⟨kvs,k,b,e,ey,eb,l⟩
 ·subst ey
  obtain⟨z,hd,vs,rel,dd⟩:=a59 I.hok e
  refine wpAny_in_of (a8m ry) hd dd.mapOf ?_
  rw [<-(rel.val k).isSome_eq,<-l]
  exact h _ (I.tok _)
 ·subst ey
  cases(show u=Value.ref b from ry)
  obtain⟨z,hd,xs,rel,dd⟩:=a6b I.hok e
  refine wpAny_in_heap (tupleKind_room_in1 hu) (a4H I.hok eb) hd dd ?_
  have q:=(rel.val k).isSome_eq
  rw [Option.isSome_map] at q
  rw [<-q,<-l]
  exact h _ (I.tok _)
theorem b6s{Q:AB->AC->Prop}(hu:A.units+1<cLine)(I:g9 X pins σ H s)(g:a1y H a y o)(ry:l8 y u)(h:∀s',g9 X pins σ H s'->Q (.bool (!o.isSome)) s'):
 AH (model X.prog X.w) A (compareOp .NotIn u (.ref a)) Q E s:=by
 rcases g with⟨kvs,k,e,ey,l⟩|⟨kvs,k,b,e,ey,eb,l⟩
 ·subst ey
  obtain⟨z,hd,vs,rel,dd⟩:=a59 I.hok e
  refine wpAny_notIn_of (a8m ry) hd dd.mapOf ?_
  rw [<-(rel.val k).isSome_eq,<-l]
  exact h _ (I.tok _)
 ·subst ey
  cases(show u=Value.ref b from ry)
  obtain⟨z,hd,xs,rel,dd⟩:=a6b I.hok e
  refine wpAny_notIn_heap (tupleKind_room_in1 hu) (a4H I.hok eb) hd dd ?_
  have q:=(rel.val k).isSome_eq
  rw [Option.isSome_map] at q
  rw [<-q,<-l]
  exact h _ (I.tok _)
theorem b2k{h':Heap}{t':Nat}{ob:HO}(I:g9 X pins σ H s)(mu:Mut (H a))(hs:Heap.SameBut a s.heap h')(he:∃q,h'.get? a=ξ q)(new:C7 X.prog X.w (m9 H a ob) h' a ob):
 g9 X pins σ (m9 H a ob) {s with heap:=h',toks:=t'}:=
 I.write (x:=a) (e:=a) mu (.inl rfl) (λb q hb z=>(hs.2 b hb).trans z) he new
theorem b8w{P:AJ}{w:AI}{H':Hp}{h':Heap}{kvs:List (n5×V)}{vs:List (n5×AB)}(z:kvs.length<=AM)(hd:(a==sysModules)=false)(rel:KV kvs vs)(dd:h'.DictOf (v0 P w) a vs):
 C7 P w H' h' a (.dK kvs):=⟨z,hd,vs,rel,dd⟩
theorem b3j{H':Hp}{Q:Unit->AC->Prop}(hu:A.units+1<cLine)(I:g9 X pins σ H s)(g:b4f H a y v H')(ry:l8 y u)(rv:l8 v r)(h:∀s',g9 X pins σ H' s'->Q () s'):
 AH (model X.prog X.w) A (setItem (.ref a) u r) Q E s:=by
 rcases g with⟨kvs,k,e,ey,l,eH⟩|⟨kvs,k,b,e,ey,eb,l,eH⟩
 ·subst ey eH
  obtain⟨z,hd,vs,rel,dd⟩:=b7Z I.hok e
  have hz:vs.length<=AM:=by rw [<-rel.length];exact z
  have hl:(a2J kvs k v).length<=AM:=by have:=a5k kvs k v;lia
  refine wpAny_setItem_pairs (hsz:=hz) (a8m ry) dd λh' dd' hs=>h _ ?_
  have he:∃q,h'.get? a=ξ q:=by obtain⟨q,_,_,hq,_⟩:=dd';exact⟨q,hq⟩
  exact b2k I (by rw [e];exact True.intro) hs he (b8w hl hd (rel.put k rv) dd')
 ·subst ey eH
  cases(show u=Value.ref b from ry)
  obtain⟨z,hd,xs,rel,dd⟩:=b99 I.hok e
  have hz:xs.length<=AM:=by rw [<-Paired.length rel];exact z
  have hl:(a2J kvs k v).length<=AM:=by have:=a5k kvs k v;lia
  refine wpAny_setItem_heap (hsz:=hz) (tupleKind_room_in1 hu) (a4H I.hok eb) dd λh' dd' hs=>h _ ?_
  obtain⟨q,es,ep,hq,h2,h3,h4,_,h5⟩:=dd'
  refine b2k I (by rw [e];exact True.intro) hs ⟨q,hq⟩ ⟨hl,hd,_,(rel.put k eb rv).keeps λc ys ec=> ?_,q,es,ep,hq,h2,h3,h4,h5⟩
  rw [g6 (b0l ec e (λz=>nomatch z))]
  exact ec
end
section
variable {X:Cx}{pins:List (AA×Obj)}{σ:St}{H:Hp}{s:AC}{a:AA}{kvs:List (n5×V)}{k:n5}{u:AB}{A:AK}{E:AB->AC->Prop}
end
def b8k(i:AF):Prop:=∀ov iv,subscripted i false ov iv=operate [ov,iv] (getItem ov iv)
theorem b7F{prog:AJ}{w:AI}{A:AK}{E:AB->AC->Prop}{s:AC}{env:Env}{value slice:AF}{pos:Pos}{T id:String}{Q:AB->AC->Prop}
 (hl:typeLookup (.type T) "__getitem__"=pure (ξ (.builtin id))) (hs:b8k slice)
 (h:AH (model prog w) A (eval value env) (λo s₁=>AH (model prog w) A (eval slice env) (λi s₂=>s₂.TypeIs o T/\AH (model prog w) A (getItem o i) Q E s₂) E s₁) E s):
 AH (model prog w) A (eval (.Subscript value slice pos) env) Q E s:=by
 refine Subscript_ (wpAny_mono h (λo s₁ h₁=>wpAny_mono h₁ (λi s₂ h₂=> ?_) λ_ _ x=>x) λ_ _ x=>x)
 obtain⟨hT,h₂⟩:=h₂
 unfold subscriptTail
 refine AG ?_
 rw [getitemInPython_of_ne hT.not_modules]
 refine AG (wpAny_specialOf hT hl ?_)
 have fin:AH (model prog w) A (subscripted slice false o i) (λr s₃=>AH (model prog w) A (letTemporaryGo value o r>>=λ_=>pure r) Q E s₃) E s₂:=by
  rw [hs o i];exact wpAny_operating (wpAny_mono h₂ (λr s₃ h₃=>AG (wpAny_letTemporaryGo (AN h₃))) λ_ _ x=>x)
 first
  |exact AN (AG fin)
  |exact AG (AN (AG fin))
  |exact AG fin
theorem a9W{X:Cx}{pins:List (AA×Obj)}{σ:St}{H:Hp}{s:AC}{a:AA}{y:V}{o:Option V}(I:g9 X pins σ H s)(g:a1y H a y o):s.TypeIs (.ref a) "dict":=by
 rcases g with⟨kvs,k,e,_,_⟩|⟨kvs,k,b,e,_,_,_⟩
 ·obtain⟨_,_,vs,_,dd⟩:=a59 I.hok e;exact dd.typeIs
 ·obtain⟨_,_,xs,_,dd⟩:=a6b I.hok e;exact dd.typeIs
def c0H(td ty:TE):TE:=λσ H Q=>td σ H λx H1=>ty σ H1 λy H2=>∃a v,x= .ref a/\a1y H2 a y (ξ v)/\Q v H2
def c1h(ty td:TE):TE:=λσ H Q=>ty σ H λy H1=>td σ H1 λx H2=>∃a o,x= .ref a/\a1y H2 a y o/\Q (.bl o.isSome) H2
def b7G(ty td:TE):TE:=λσ H Q=>ty σ H λy H1=>td σ H1 λx H2=>∃a o,x= .ref a/\a1y H2 a y o/\Q (.bl (!o.isSome)) H2
def c0D(td ty tv:TE):TS:=λD σ H=>tv σ H λv H1=>td σ H1 λx H2=>ty σ H2 λy H3=>∃a H4,x= .ref a/\b4f H3 a y v H4/\D.nx σ H4
section
variable {X:Cx}{o i e value:AF}{pos pos' tpos:Pos}{td ty tv:TE}
theorem b7g(hu:X.A.units+1<cLine)(ho:PE X o td)(hi:PE X i ty)(hs:b8k i):PE X (.Subscript o i pos) (c0H td ty):=by
 ext f
 refine b7F PySem.F.slot_dict_getitem.lookup hs (D5 (ho pins s σ H _ I h) λu s1 h0=>k9 h0 λx H1 I1 rx q1=>D5 (hi pins s1 σ H1 _ I1 q1) λiv s2 ⟨y,H2,I2,ry,a,v,ex,g,q2⟩=> ?_);subst ex;obtain rfl:u=Value.ref a:=rx;exact⟨a9W I2 g,b3i hu I2 g ry λw' s3 I3 rw'=>⟨v,H2,I3,rw',q2⟩⟩
theorem b9p(hu:X.A.units+1<cLine)(hi:PE X i ty)(ho:PE X o td):PC X .In i o (c1h ty td):=by
 ext f
 ext x
 exact c00 hu I2 g ry λs3 I3=>⟨.bl ov.isSome,H2,I3,rfl,q2⟩
theorem a8q(hu:X.A.units+1<cLine)(hi:PE X i ty)(ho:PE X o td):PC X .NotIn i o (b7G ty td):=by
 ext f
 ext x
 exact b6s hu I2 g ry λs3 I3=>⟨.bl (!ov.isSome),H2,I3,rfl,q2⟩
theorem b7l(hu:X.A.units+1<cLine)(ho:PE X o td)(hi:PE X i ty)(hv:PE X value tv)(hs:swapsWith value (ξ (.Subscript o i pos')) pos.line X.env=pure false):
 PS X (.Assign [.Subscript o i pos'] value pos) (c0D td ty tv):=by
 intro pins s σ H D I h
 refine wpAny_Assign_Subscript (D5 (hv pins s σ H _ I h) λr s1 h0=>k9 h0 λv H1 I1 rv q1=>D5 (ho pins s1 σ H1 _ I1 q1) λu s2 h0=>k9 h0 λx H2 I2 rx q2=>D5 (hi pins s2 σ H2 _ I2 q2) λiv s3 ⟨y,H3,I3,ry,a,H4,ex,g,q3⟩=> ?_) hs
 subst ex
 obtain rfl:u=Value.ref a:=rx
 exact b3j hu I3 g ry rv λs4 I4=>⟨σ,H4,I4,q3⟩
end
theorem b4v{P:AJ}{w:AI}{H:Hp}(h:Heap)(hb:sysModules<h.objs.size):C7 P w H (h.push {cls:= .type "dict",data:= .dict #[]}) h.objs.size (.dK []):=
 ⟨Nat.zero_le _,beq_eq_false_iff_ne.mpr (Ne.symm (AZ hb)),[],.nil,Heap.DictOf.new h⟩
def b9R:TE:=λ_ H Q=>∀p,H p=ζ->Q (.ref p) (m9 H p (.dK []))
section
variable {X:Cx}{pos:Pos}
theorem b5A:PE X (.Dict [] [] pos) b9R:=λpins s σ H Q I h=>
 wpAny_Dict_empty ⟨.ref s.heap.objs.size,_,I.laid (a:=s.heap.objs.size) (o:= .dK []) (t':=s.toks) (λ_ _ q=>AV _ q) (AQ _) (b4v s.heap I.big),rfl,h _ (I.hok.fresh (AQ _))⟩
end
structure M2(X:Cx)(o:AF)(m:Str)(apos:Pos)(e f:AF)(cpos:Pos):Prop where
 base:attributeBase o m X.env (eval o X.env)=eval o X.env
 few:((backTo cpos (AL [e,f] X.env)).all (λx=> !x.1)&&(backToKw cpos (keywordEach [] X.env)).all (λx=>x.1.isSome)
  && decide (([e,f]:List AF).length+([]:List Keyword).length+(if([]:List Keyword).isEmpty then 0 else 1)<30))=true
 line:(apos.endLine==cpos.line)=true
 trees:backTo cpos (AL [e,f] X.env)=[(false,eval e X.env),(false,eval f X.env)]
def IsD(H:Hp)(a:AA):Prop:=(∃kvs,Rd H a (.dK kvs))\/∃kvs,Rd H a (.dT kvs)
theorem b8Z{X:Cx}{pins:List (AA×Obj)}{σ:St}{H:Hp}{s:AC}{a:AA}(I:g9 X pins σ H s)(d:IsD H a):
 s.TypeIs (.ref a) "dict"/\(∀b,Value.ref a= .ref b->∃ob,s.heap.get? b=ξ ob/\ob.dict=ζ)/\(a==sysModules)=false:=by
 rcases d with⟨kvs,e⟩|⟨kvs,e⟩
 ·obtain⟨_,hd,vs,_,dd⟩:=a59 I.hok e
  refine⟨dd.typeIs,λb q=> ?_,hd⟩
  cases q
  obtain⟨ob,_,_,h1,h2,_⟩:=dd
  exact⟨ob,h1,h2.2.1⟩
 ·obtain⟨_,hd,xs,_,dd⟩:=a6b I.hok e
  refine⟨dd.typeIs,λb q=> ?_,hd⟩
  cases q
  obtain⟨ob,_,_,h1,h2,_⟩:=dd
  exact⟨ob,h1,h2.2.1⟩
section
variable {X:Cx}{pins:List (AA×Obj)}{σ:St}{H:Hp}{s:AC}{a:AA}{y d:V}{u r:AB}{o:Option V}{A:AK}{E:AB->AC->Prop}
theorem b8u{Q:AB->AC->Prop}(hu:A.units+1<cLine)(I:g9 X pins σ H s)(g:a1y H a y o)(ry:l8 y u)(rd:l8 d r)(h:∀w' s',g9 X pins σ H s'->l8 (o.getD d) w'->Q w' s'):
 AH (model X.prog X.w) A (call (.builtin "dict.get") [.ref a,u,r]) Q E s:=by
 rcases g with⟨kvs,k,e,ey,l⟩|⟨kvs,k,b,e,ey,eb,l⟩
 ·subst ey
  obtain⟨z,hd,vs,rel,dd⟩:=a59 I.hok e
  refine call_meetsIn PySem.F.slot_dict_get dd.typeIs PySem.F.entry_dict_get (PySem.F.args_dict_get_3 _ _ _) (meets_dict_get_default (v0 X.prog X.w) a (a8m ry) hd r) ⟨_,dd.mapOf,h _ _ (I.tok _) ?_⟩
  rw [l]
  exact(rel.val k).getD rd
 ·subst ey
  cases(show u=Value.ref b from ry)
  obtain⟨z,hd,xs,rel,dd⟩:=a6b I.hok e
  refine call_meetsIn PySem.F.slot_dict_get dd.typeIs PySem.F.entry_dict_get (PySem.F.args_dict_get_3 _ _ _) (meetsH_dict_get_default (tupleKind (v0 X.prog X.w)) a b hd r) ⟨tupleKind_room_in1 hu,k,xs,a4H I.hok eb,dd,h _ _ (I.tok _) ?_⟩
  rw [l]
  exact(rel.val k).getD rd
end
def b9Q(td ty tx:TE):TE:=λσ H Q=>td σ H λx H1=>∃a,x= .ref a/\IsD H1 a/\ty σ H1 λy H2=>tx σ H2 λz H3=>∃o,a1y H3 a y o/\Q (o.getD z) H3
section
variable {X:Cx}{o e f:AF}{apos cpos:Pos}{td ty tx:TE}
theorem b5z(hu:X.A.units+1<cLine)(ho:PE X o td)(he:PE X e ty)(hf:PE X f tx)(m:M2 X o "get" apos e f cpos):PE X (.Call (.Attribute o "get" apos) [e,f] [] cpos) (b9Q td ty tx):=by
 ext f
 refine wpAny_Call_method m.base m.few m.line PySem.F.plainAttrs_dict PySem.F.slot_dict_get PySem.F.type_dict_get (D5 (ho pins s σ H _ I h) λu s1 ⟨x,H1,I1,rx,a,ex,d,q1⟩=> ?_);subst ex;obtain rfl:u=Value.ref a:=rx;obtain⟨t1,t2,_⟩:=b8Z I1 d;refine⟨t1,t2, ?_⟩;rw [m.trees];refine Calls.callWith_builtin rfl (Calls.evalArgs_plain (Calls.spliced_cons (D5 (he pins s1 σ H1 _ I1 q1) λiv s2 h0=>k9 h0 λy H2 I2 ry q2=>
  Calls.spliced_cons (D5 (hf pins s2 σ H2 _ I2 q2) λfv s3 ⟨z,H3,I3,rz,ov,g,q3⟩=>Calls.spliced_nil ?_))))
 exact b8u hu I3 g ry rz λw' s4 I4 rw'=>⟨_,H3,I4,rw',q3⟩
end
section
variable {X:Cx}{pins:List (AA×Obj)}{σ:St}{H:Hp}{s:AC}{a:AA}{kvs:List (n5×V)}{A:AK}{E:AB->AC->Prop}
end
section
variable {X:Cx}{pins:List (AA×Obj)}{σ:St}{H:Hp}{s:AC}{a:AA}{y:V}{u:AB}{A:AK}{E:AB->AC->Prop}
end
end L2
namespace Att
open PySem PySem.W PySem.Calls PyProof.Rows
section
variable {prog:AJ}{w:AI}{A:AK}{E:AB->AC->Prop}{s:AC}{K:Frag}
end
end Att
namespace L2
open PySem PySem.Spec PyProof.Rows
section
variable {P:AJ}{w:AI}{K:AE}{mg:Str->Option AB}{base:Heap}
end
section
variable {X:Cx}
end
section
variable {κ:Type}[DecidableEq κ]
end
end L2
set_option maxHeartbeats 4000000
namespace PU
open PySem PySem.Spec PyProof.Rows L2
abbrev PV:=PyData
def TqT(K:AE)(H:Hp)(a:AA)(xs:List V):Prop:=
 H a=ξ (.tup xs)\/∃(o:Obj) (its:Array AB) (n:Nat),K.lookup a=ξ o/\o.cls= .type "tuple"/\o.data= .seq its n/\its.size<=AM/\l9 xs its.toList
theorem TqT.of{K:AE}{H:Hp}{a:AA}{xs:List V}(h:H a=ξ (.tup xs)):TqT K H a xs:= .inl h
theorem TqT.sq{K:AE}{H:Hp}{a:AA}{xs:List V}(h:TqT K H a xs):SqT K H a xs:=h.elim (λh=> .inl (.inl h)) .inr
theorem b7y{K:AE}{H H':Hp}{a:AA}{xs:List V}(s:j2 H H')(h:TqT K H a xs):TqT K H' a xs:=h.elim (λh=> .inl (s _ _ h)) .inr
def b2d(K:AE)(x:Str)(v:V):Prop:=∃(a:AA) (oc:AB) (od:Option AA) (fd:FuncData) (osl:Array (Option AB)),v= .ref a/\K.lookup a=ξ ⟨oc,od,.func fd,osl⟩/\fd.name=x
def E7(K:AE)(x:Str)(C:AA):Prop:=PySem.W.nsIn K mainGlobals x=ξ (ξ (.ref C))/\∃(oc:AB) (od:Option AA) (cd:ClassData) (osl:Array (Option AB)),K.lookup C=ξ ⟨oc,od,.cls cd,osl⟩/\cd.name=x
theorem E7.inj{K:AE}{x y:Str}{C:AA}(h:E7 K x C)(h':E7 K y C):x=y:=by
 obtain⟨_,_,_,_,_,k,n⟩:=h;obtain⟨_,_,_,_,_,k',n'⟩:=h';rw [k] at k';cases k';rw [<-n,n']
theorem E7.uniq{K:AE}{x:Str}{C D:AA}(h:E7 K x C)(h':E7 K x D):C=D:=by
 have:=h.1.symm.trans h'.1;cases this;rfl
def b8n(K:AE)(H:Hp)(x:Str)(v:V):Prop:=∃(a C:AA) (φ:Heap->Prop),v= .ref a/\H a=ξ (.ext φ)/\
 (∀h:Heap,φ h->∃oe vs,h.get? a=ξ oe/\oe.cls= .ref C/\oe.data= .fields vs/\oe.dict=ζ)/\E7 K x C
def b3a(K:AE)(H:Hp)(x:Str)(t:PV)(v:V):Prop:=(t= .none/\b2d K x v)\/(t= .bool true/\b8n K H x v)
theorem b3a.ref{K:AE}{H:Hp}{x:Str}{t:PV}{v:V}(h:b3a K H x t v):∃a,v= .ref a:=by
 rcases h with⟨_,a,_,_,_,_,e,_⟩|⟨_,a,_,_,e,_⟩<;>exact⟨a,e⟩
theorem b3a.mono{K:AE}{H H':Hp}{x:Str}{t:PV}{v:V}(s:j2 H H')(h:b3a K H x t v):b3a K H' x t v:=by
 rcases h with h|⟨z,a,C,φ,e,q,r⟩
 ·exact .inl h
 ·exact .inr ⟨z,a,C,φ,e,s _ _ q,r⟩
def a9L(K:AE)(H:Hp)(x:Str)(m:V)(fs:List (Str×V))(v:V):Prop:=
 (m= .bl false/\∃a C dx,v= .ref a/\H a=ξ (.ins C dx fs)/\E7 K x C)\/
 (m= .int 0/\∃(a C dx:AA) (φ:Heap->Prop),v= .ref a/\H a=ξ (.ext φ)/\(∀h:Heap,φ h->∃oe vs,h.get? a=ξ oe/\oe.cls= .ref C/\oe.data= .fields vs/\oe.dict=ξ dx)/\H dx=ξ (.xd fs)/\E7 K x C)
theorem a9L.ref{K:AE}{H:Hp}{x:Str}{m:V}{fs:List (Str×V)}{v:V}(h:a9L K H x m fs v):∃a,v= .ref a:=by
 rcases h with⟨_,a,_,_,e,_⟩|⟨_,a,_,_,_,e,_⟩<;>exact⟨a,e⟩
theorem a9L.mono{K:AE}{H H':Hp}{x:Str}{m:V}{fs:List (Str×V)}{v:V}(s:j2 H H')(h:a9L K H x m fs v):a9L K H' x m fs v:=by
 rcases h with⟨z,a,C,dx,e,q,n⟩|⟨z,a,C,dx,φ,e,q,r,d,n⟩
 ·exact .inl ⟨z,a,C,dx,e,s _ _ q,n⟩
 ·exact .inr ⟨z,a,C,dx,φ,e,s _ _ q,r,s _ _ d,n⟩
def kP:n5->PV
 | .inl i=> .int i
 | .inr x=> .str x
def s1{α:Type}(kv:n5×α):List n5×α:=([kv.1],kv.2)
mutual
def C0(K:AE)(H:Hp):PV->V->Prop
 | .none,v=>v= .non
 | .bool b,v=>v= .bl b
 | .int i,v=>v= .int i
 | .str x,v=>v= .str x
 | .tuple ps,v=>∃a xs,v= .ref a/\TqT K H a xs/\j4 K H ps xs
 | .list ps,v=>∃a xs,v= .ref a/\SqL K H a xs/\j4 K H ps xs
 | .dict kvs,v=>(∃a ys,v= .ref a/\H a=ξ (.dK ys)/\a2D K H kvs (ys.map s1))\/(∃a xs,v= .ref a/\H a=ξ (.dT xs)/\a2D K H kvs (([],.non)::xs))\/(∃x t,kvs=[(.str x,t)]/\b3a K H x t v)\/(∃x m fs,a9L K H x m fs v/\a0J K H kvs ((x,m)::fs))
def j4(K:AE)(H:Hp):List PV->List V->Prop
 |[],vs=>vs=[]
 |p::ps,vs=>∃v r,vs=v::r/\C0 K H p v/\j4 K H ps r
def a2D(K:AE)(H:Hp):List (PV×PV)->List (List n5×V)->Prop
 |[],ys=>ys=[]
 |(k,p)::r,ys=>∃kk v t,ys=(kk,v)::t/\k= .tuple (kk.map kP)/\C0 K H p v/\a2D K H r t
def a0J(K:AE)(H:Hp):List (PV×PV)->List (Str×V)->Prop
 |[],ys=>ys=[]
 |(k,p)::r,ys=>∃f v t,ys=(f,v)::t/\k= .str f/\C0 K H p v/\a0J K H r t
end
theorem t4{K:AE}{H H':Hp}{a:AA}{xs:List V}(s:j2 H H')(h:SqT K H a xs):SqT K H' a xs:=by
 rcases h with(h|⟨o,h⟩)|h
 ·exact .inl (.inl (s _ _ h))
 ·exact .inl (.inr ⟨o,s _ _ h⟩)
 ·exact .inr h
theorem A2{K:AE}{H H':Hp}{a:AA}{xs:List V}(s:j2 H H')(h:SqL K H a xs):SqL K H' a xs:=by
 rcases h with(h|⟨o,h⟩)|h
 ·exact .inl (.inl (s _ _ h))
 ·exact .inl (.inr ⟨o,s _ _ h⟩)
 ·exact .inr h
mutual
theorem C0.mono{K:AE}{H H':Hp}(s:j2 H H'):∀(p:PV) {v:V},C0 K H p v->C0 K H' p v
 | .none,_,h=>h
 | .bool _,_,h=>h
 | .int _,_,h=>h
 | .str _,_,h=>h
 | .dict kvs,_,.inl ⟨a,ys,q,h,r⟩=> .inl ⟨a,ys,q,s _ _ h,a2D.mono s kvs r⟩
 | .dict kvs,_,.inr (.inl ⟨a,xs,q,h,r⟩)=> .inr (.inl ⟨a,xs,q,s _ _ h,a2D.mono s kvs r⟩)
 | .dict _,_,.inr (.inr (.inl ⟨x,t,e,h⟩))=> .inr (.inr (.inl ⟨x,t,e,h.mono s⟩))
 | .dict kvs,_,.inr (.inr (.inr ⟨x,m,fs,h,r⟩))=> .inr (.inr (.inr ⟨x,m,fs,h.mono s,a0J.mono s kvs r⟩))
 | .tuple ps,_,⟨a,xs,e,q,r⟩=>⟨a,xs,e,b7y s q,j4.mono s ps r⟩
 | .list ps,_,⟨a,xs,e,q,r⟩=>⟨a,xs,e,A2 s q,j4.mono s ps r⟩
theorem j4.mono{K:AE}{H H':Hp}(s:j2 H H'):∀(ps:List PV) {vs:List V},j4 K H ps vs->j4 K H' ps vs
 |[],_,h=>h
 |p::ps,_,⟨v,r,e,q,t⟩=>⟨v,r,e,C0.mono s p q,j4.mono s ps t⟩
theorem a2D.mono{K:AE}{H H':Hp}(s:j2 H H'):∀(es:List (PV×PV)) {ys:List (List n5×V)},a2D K H es ys->a2D K H' es ys
 |[],_,h=>h
 |(k,p)::es,_,⟨kk,v,r,e,z,q,t⟩=>⟨kk,v,r,e,z,C0.mono s p q,a2D.mono s es t⟩
theorem a0J.mono{K:AE}{H H':Hp}(s:j2 H H'):∀(es:List (PV×PV)) {ys:List (Str×V)},a0J K H es ys->a0J K H' es ys
 |[],_,h=>h
 |(k,p)::es,_,⟨kk,v,r,e,z,q,t⟩=>⟨kk,v,r,e,z,C0.mono s p q,a0J.mono s es t⟩
end
theorem j4.length{K:AE}{H:Hp}:∀{ps:List PV} {vs:List V},j4 K H ps vs->vs.length=ps.length
 |[],_,h=>by cases h;rfl
 |_::ps,_,⟨v,r,e,_,t⟩=>by subst e;rw [AU,AU,j4.length t]
theorem j4.get{K:AE}{H:Hp}:∀{ps:List PV} {vs:List V} {i:Nat} {p:PV},j4 K H ps vs->ps[i]?=ξ p->∃v,vs[i]?=ξ v/\C0 K H p v
 |[],_,_,_,_,h=>by simp at h
 |q::ps,_,0,p,⟨v,r,e,a,t⟩,h=>by subst e;simp at h;subst h;exact⟨v,rfl,a⟩
 |q::ps,_,i+1,p,⟨v,r,e,a,t⟩,h=>by subst e;exact j4.get (i:=i) t (by simpa using h)
theorem j4.getV{K:AE}{H:Hp}:∀{ps:List PV} {vs:List V} {i:Nat} {v:V},j4 K H ps vs->vs[i]?=ξ v->∃p,ps[i]?=ξ p/\C0 K H p v
 |[],_,_,_,h,e=>by cases h;simp at e
 |q::ps,_,0,v,⟨w,r,e,a,t⟩,h=>by subst e;simp at h;subst h;exact⟨q,rfl,a⟩
 |q::ps,_,i+1,v,⟨w,r,e,a,t⟩,h=>by subst e;exact j4.getV (i:=i) t (by simpa using h)
theorem j4.append{K:AE}{H:Hp}:∀{ps qs:List PV} {vs ws:List V},j4 K H ps vs->j4 K H qs ws->j4 K H (ps++qs) (vs++ws)
 |[],_,_,_,h,t=>by cases h;exact t
 |_::ps,_,_,_,⟨v,r,e,a,t⟩,s=>by subst e;exact⟨v,_,rfl,a,j4.append t s⟩
theorem j4.drop{K:AE}{H:Hp}:∀{ps:List PV} {vs:List V} (n:Nat),j4 K H ps vs->j4 K H (ps.drop n) (vs.drop n)
 |_,_,0,h=>h
 |[],_,n+1,h=>by cases h;rfl
 |_::ps,_,n+1,⟨v,r,e,a,t⟩=>by subst e;exact j4.drop n t
theorem j4.take{K:AE}{H:Hp}:∀{ps:List PV} {vs:List V} (n:Nat),j4 K H ps vs->j4 K H (ps.take n) (vs.take n)
 |_,_,0,h=>rfl
 |[],_,n+1,h=>by cases h;rfl
 |_::ps,_,n+1,⟨v,r,e,a,t⟩=>by subst e;exact⟨v,_,rfl,a,j4.take n t⟩
def A4(K:AE)(H:Hp):List (List n5×PV)->List (List n5×V)->Prop
 |[],ys=>ys=[]
 |(k,p)::r,ys=>∃v t,ys=(k,v)::t/\C0 K H p v/\A4 K H r t
theorem A4.mono{K:AE}{H H':Hp}(s:j2 H H'):∀(kvs:List (List n5×PV)) {ys:List (List n5×V)},A4 K H kvs ys->A4 K H' kvs ys
 |[],_,h=>h
 |(k,p)::r,_,⟨v,t,e,q,h⟩=>⟨v,t,e,C0.mono s p q,A4.mono s r h⟩
inductive a0H where
 |lst (ps:List PV)|dct (kvs:List (List n5×PV))|txt (kvs:List (List n5×PV))
inductive c6 where
 |v (p:PV)|ow (c:a0H)|bo (c:a0H)
abbrev c6.own(ps:List PV):c6:= .ow (.lst ps)
abbrev c6.bor(ps:List PV):c6:= .bo (.lst ps)
def Z7(K:AE)(F H:Hp)(v:V):a0H->Prop
 | .lst ps=>∃a xs,v= .ref a/\F a=ζ/\H a=ξ (.lst xs)/\j4 K F ps xs
 | .dct kvs=>∃a xs,v= .ref a/\F a=ζ/\H a=ξ (.dT xs)/\A4 K F kvs xs
 | .txt kvs=>∃a xs,v= .ref a/\F a=ζ/\H a=ξ (.dK xs)/\A4 K F kvs (xs.map s1)
def O9(K:AE)(F H:Hp)(v:V):c6->Prop
 | .v p=>C0 K F p v
 | .ow c=>Z7 K F H v c
 | .bo c=>Z7 K F H v c
theorem Z7.at_{K:AE}{F H:Hp}{v:V}:∀{c:a0H},Z7 K F H v c->∃a o,v= .ref a/\F a=ζ/\H a=ξ o
 | .lst _,⟨a,_,e,n,q,_⟩=>⟨a,_,e,n,q⟩
 | .dct _,⟨a,_,e,n,q,_⟩=>⟨a,_,e,n,q⟩
 | .txt _,⟨a,_,e,n,q,_⟩=>⟨a,_,e,n,q⟩
def NT(o:HO):Prop:=∀xs,o≠.tup xs
structure O8(F H F' H':Hp):Prop where
 f:j2 F F'
 h:j2 H H'
 fh:j2 F' H'
 nw:∀b o,F b=ζ->H b=ξ o->NT o->F' b=ζ
 nf:∀b o u,F' b=ξ (.frz o u)->F b=ξ (.frz o u)
theorem j2.refl(H:Hp):j2 H H:=λ_ _ e=>e
theorem O8.refl{F H:Hp}(s:j2 F H):O8 F H F H:=⟨j2.refl F,j2.refl H,s,λ_ _ e _ _=>e,λ_ _ _ e=>e⟩
theorem O8.trans{F H F1 H1 F2 H2:Hp}(a:O8 F H F1 H1)(b:O8 F1 H1 F2 H2):O8 F H F2 H2:=
 ⟨a.f.trans b.f,a.h.trans b.h,b.fh,λc o e q t=>b.nw c o (a.nw c o e q t) (a.h c o q) t,λc o u e=>a.nf c o u (b.nf c o u e)⟩
theorem b5n{F0 F:Hp}{a:AA}{xs:List V}(h:∀b o u,F b=ξ (.frz o u)->F0 b=ξ (.frz o u)):∀b o u,m9 F a (.lst xs) b=ξ (.frz o u)->F0 b=ξ (.frz o u):=λb o u z=>by
 by_cases hb:b=a
 ·subst hb;rw [i3] at z;cases z
 ·rw [g6 hb] at z;exact h _ _ _ z
theorem Z7.ext{K:AE}{F H F' H':Hp}{v:V}(x:O8 F H F' H'):∀{c:a0H},Z7 K F H v c->Z7 K F' H' v c
 | .lst _,⟨a,xs,e,n,q,r⟩=>⟨a,xs,e,x.nw _ _ n q (λ_ h=>nomatch h),x.h _ _ q,j4.mono x.f _ r⟩
 | .dct _,⟨a,xs,e,n,q,r⟩=>⟨a,xs,e,x.nw _ _ n q (λ_ h=>nomatch h),x.h _ _ q,A4.mono x.f _ r⟩
 | .txt _,⟨a,xs,e,n,q,r⟩=>⟨a,xs,e,x.nw _ _ n q (λ_ h=>nomatch h),x.h _ _ q,A4.mono x.f _ r⟩
theorem O9.ext{K:AE}{F H F' H':Hp}{v:V}(x:O8 F H F' H'):∀{r:c6},O9 K F H v r->O9 K F' H' v r
 | .v p,h=>C0.mono x.f p h
 | .ow _,h=>Z7.ext x h
 | .bo _,h=>Z7.ext x h
def a0H.rd:a0H->PV
 | .lst ps=> .list ps
 | .dct kvs=> .dict ((.tuple [],.none)::kvs.map λkv=>(.tuple (kv.1.map kP),kv.2))
 | .txt kvs=> .dict (kvs.map λkv=>(.tuple (kv.1.map kP),kv.2))
def c6.rd:c6->PV
 | .v p=>p
 | .ow c=>c.rd
 | .bo c=>c.rd
def c6.toVal:c6->Option PV
 | .v p=>ξ p
 | .ow (.lst ps)=>ξ (.list ps)
 | .ow (.dct _)=>ζ
 | .ow (.txt _)=>ζ
 | .bo _=>ζ
theorem a2D.of{K:AE}{F H:Hp}(s:j2 F H):∀{kvs:List (List n5×PV)} {xs:List (List n5×V)},A4 K F kvs xs->a2D K H (kvs.map λkv=>(PyData.tuple (kv.1.map kP),kv.2)) xs
 |[],_,h=>h
 |(k,p)::r,_,⟨v,t,e,q,h⟩=>⟨k,v,t,e,rfl,C0.mono s p q,a2D.of s h⟩
theorem Z7.rd{K:AE}{F H:Hp}{v:V}(s:j2 F H):∀{c:a0H},Z7 K F H v c->C0 K H c.rd v
 | .lst ps,⟨a,xs,e,n,q,r⟩=>⟨a,xs,e,SqL.of q,j4.mono s _ r⟩
 | .dct kvs,⟨a,xs,e,n,q,r⟩=> .inr (.inl ⟨a,xs,e,q,[],.non,xs,rfl,rfl,rfl,a2D.of s r⟩)
 | .txt kvs,⟨a,xs,e,n,q,r⟩=> .inl ⟨a,xs,e,q,a2D.of s r⟩
theorem O9.rd{K:AE}{F H:Hp}{v:V}(s:j2 F H):∀{r:c6},O9 K F H v r->C0 K H r.rd v
 | .v p,h=>C0.mono s p h
 | .ow _,h=>Z7.rd s h
 | .bo _,h=>Z7.rd s h
structure u6(K:AE)(F H F' H':Hp)(v:V)(r:c6):Prop where
 x:O8 F H F' H'
 rep:O9 K F' H' v r
 fr:∀c a,r= .ow c->v= .ref a->H a=ζ
theorem u6.val{K:AE}{F H F' H':Hp}{v:V}{p:PV}(x:O8 F H F' H')(r:C0 K F' p v):u6 K F H F' H' v (.v p):=⟨x,r,λ_ _ e=>nomatch e⟩
theorem u6.here{K:AE}{F H:Hp}{v:V}{p:PV}(s:j2 F H)(r:C0 K F p v):u6 K F H F H v (.v p):=u6.val (O8.refl s) r
theorem u6.trans{K:AE}{F H F1 H1 F2 H2:Hp}{v:V}{r:c6}(a:O8 F H F1 H1)(b:u6 K F1 H1 F2 H2 v r):u6 K F H F2 H2 v r:=
 ⟨a.trans b.x,b.rep,λps c e q=>a.h.free (b.fr ps c e q)⟩
theorem u6.toVal{K:AE}{F H F' H':Hp}{v:V}{p:PV}:∀{r:c6},u6 K F H F' H' v r->r.toVal=ξ p->∃F2,u6 K F H F2 H' v (.v p)
 | .v q,o,e=>by cases e;exact⟨F',o⟩
 | .bo _,_,e=>nomatch e
 | .ow (.dct _),_,e=>nomatch e
 | .ow (.txt _),_,e=>nomatch e
 | .ow (.lst ps),o,e=>by
   cases e;obtain⟨a,xs,rfl,n,q,r⟩:=o.rep;have fr:=o.fr _ a rfl rfl;have up:j2 F' (m9 F' a (.lst xs)):=λb u z=>by rw [g6 (i5 z n)];exact z
   refine⟨m9 F' a (.lst xs),u6.val ⟨o.x.f.trans up,o.x.h,λb u z=> ?_,λb u z y t=> ?_,b5n o.x.nf⟩ ⟨a,xs,rfl,SqL.of i3,j4.mono up _ r⟩⟩
   ·by_cases hb:b=a
    ·subst hb;rw [i3] at z;cases z;exact q
    ·rw [g6 hb] at z;exact o.x.fh _ _ z
   ·rw [g6 (i5 y fr)];exact o.x.nw b u z y t
theorem D2{H:Hp}{a:AA}{o:HO}(n:H a=ζ):j2 H (m9 H a o):=λb u z=>by rw [g6 (i5 z n)];exact z
theorem O8.lay{F H:Hp}{a:AA}{o:HO}(s:j2 F H)(n:H a=ζ)(hf:∀x u,o≠.frz x u:=by intro _ _ h;cases h):O8 F H (m9 F a o) (m9 H a o):=
 ⟨D2 (s.free n),D2 n,λb u z=>by
  by_cases hb:b=a
  ·subst hb;rw [i3] at z ⊢;exact z
  ·rw [g6 hb] at z ⊢;exact s _ _ z,λb u z y _=>by rw [g6 (i5 y n)];exact z,λb w u z=>by
  by_cases hb:b=a
  ·subst hb;rw [i3] at z;exact absurd (Option.some.inj z) (hf w u)
  ·rw [g6 hb] at z;exact z⟩
theorem O8.layH{F H:Hp}{a:AA}{o:HO}(s:j2 F H)(n:H a=ζ):O8 F H F (m9 H a o):=
 ⟨j2.refl F,D2 n,λb u z=>by rw [g6 (i5 (s _ _ z) n)];exact s _ _ z,λb u z y _=>z,λ_ _ _ z=>z⟩
theorem u6.tup{K:AE}{F H:Hp}{a:AA}{xs:List V}{ps:List PV}(s:j2 F H)(n:H a=ζ)(r:j4 K F ps xs):u6 K F H (m9 F a (.tup xs)) (m9 H a (.tup xs)) (.ref a) (.v (.tuple ps)):=
 u6.val (O8.lay s n) ⟨a,xs,rfl,TqT.of i3,j4.mono (D2 (s.free n)) _ r⟩
theorem u6.lst{K:AE}{F H:Hp}{a:AA}{xs:List V}{ps:List PV}(s:j2 F H)(n:H a=ζ)(r:j4 K F ps xs):u6 K F H F (m9 H a (.lst xs)) (.ref a) (.own ps):=
 ⟨O8.layH s n,⟨a,xs,rfl,s.free n,i3,r⟩,λ_ _ _ e=>by cases e;exact n⟩
abbrev b0:=List (Option c6)
structure A5(K:AE)(F H:Hp)(σ:L2.St)(ρ:b0):Prop where
 fh:j2 F H
 len:σ.length=ρ.length
 at_:∀(i:Nat) (r:c6),ρ[i]?=ξ (ξ r)->∃v,σ[i]?=ξ (ξ v)/\O9 K F H v r
 nb:∀(i:Nat) (c:a0H),ρ[i]?≠ξ (ξ (.bo c))
 ap:∀(i j:Nat) (c d:a0H) (a:AA),i≠j->ρ[i]?=ξ (ξ (.ow c))->ρ[j]?=ξ (ξ (.ow d))->σ[i]?=ξ (ξ (.ref a))->σ[j]?≠ξ (ξ (.ref a))
theorem A5.ext{K:AE}{F H F' H':Hp}{σ:L2.St}{ρ:b0}(e:A5 K F H σ ρ)(x:O8 F H F' H'):A5 K F' H' σ ρ:=
 ⟨x.fh,e.len,λi r q=>let ⟨v,a,b⟩:=e.at_ i r q;⟨v,a,b.ext x⟩,e.nb,e.ap⟩
abbrev M:=b0->Option c6
def tM(K:AE)(m:M):TE:=λσ H Q=>∃F ρ r,A5 K F H σ ρ/\m ρ=ξ r/\∀v F' H',u6 K F H F' H' v r->Q v H'
abbrev EE(X:Cx)(e:AF)(m:M):Prop:=PE X e (tM X.K m)
theorem r9{X:Cx}{e:AF}{t t':TE}(h:PE X e t)(i:∀σ H Q,t' σ H Q->t σ H Q):PE X e t':=λpins s σ H Q I q=>h pins s σ H Q I (i σ H Q q)
theorem a4T{X:Cx}{e:AF}{t t':TT}(h:PT X e t)(i:∀σ H Q,t' σ H Q->t σ H Q):PT X e t':=λpins s σ H Q I q=>h pins s σ H Q I (i σ H Q q)
theorem b5L{X:Cx}{e:AF}{t t':TT}(h:PW X e t)(i:∀σ H Q,t' σ H Q->t σ H Q):PW X e t':=λwh pins s σ H Q I q=>h wh pins s σ H Q I (i σ H Q q)
theorem b5x{X:Cx}{e:List AF}{t t':TA}(h:PA X e t)(i:∀σ H Q,t' σ H Q->t σ H Q):PA X e t':=λpos pins s σ H Q I q=>h pos pins s σ H Q I (i σ H Q q)
theorem w8{X:Cx}{e:Stmt}{t t':TS}(h:PS X e t)(i:∀D σ H,t' D σ H->t D σ H):PS X e t':=λpins s σ H D I q=>h pins s σ H D I (i D σ H q)
theorem a4b{X:Cx}{e:List Stmt}{t t':TS}(h:PSs X e t)(i:∀D σ H,t' D σ H->t D σ H):PSs X e t':=λpins s σ H D I q=>h pins s σ H D I (i D σ H q)
def mC(p:PV):M:=λ_=>ξ (.v p)
def a5(i:Nat):M:=λρ=>match ρ[i]? with
 |some (ξ (.ow c))=>ξ (.bo c)
 |some (ξ r)=>ξ r
 |_=>ζ
section
variable {X:Cx}{a b c:AF}{ma mb mc:M}{pos:Pos}
theorem a0N{e:AF}{v:V}{p:PV}(h:PE X e (tC v))(r:∀H,C0 X.K H p v):EE X e (mC p):=
 r9 h λσ H Q h0=>n8 h0 λF ρ q he hm k=>by
  cases hm;exact k v F H (u6.here he.fh (r F))
theorem a7{i j pos}:EE X (.Constant (.int i) j pos) (mC (.int i)):=a0N b9t λ_=>rfl
theorem a8a{b j pos}:EE X (.Constant (.bool b) j pos) (mC (.bool b)):=a0N c0u λ_=>rfl
theorem b1k{j pos}:EE X (.Constant .none j pos) (mC .none):=a0N b9v λ_=>rfl
theorem d3{x j pos}:EE X (.Constant (.str x) j pos) (mC (.str x)):=a0N b9y λ_=>rfl
theorem b8D(i:Nat){x:Str}{pos:Pos}(h:PE X (.Name x pos) (a0a i)):EE X (.Name x pos) (a5 i):=
 r9 h λσ H Q h0=>n8 h0 λF ρ r he hm k=>by
  unfold a5 at hm;split at hm
  ·rename_i ps e;cases hm;obtain⟨v,e1,rr⟩:=he.at_ i _ e;exact⟨v,e1,k v F H ⟨O8.refl he.fh,rr,λ_ _ z=>nomatch z⟩⟩
  ·rename_i r' nn e;cases hm;obtain⟨v,e1,rr⟩:=he.at_ i _ e;exact⟨v,e1,k v F H ⟨O8.refl he.fh,rr,λps _ z=>absurd z (nn ps)⟩⟩
  ·cases hm
def rM2(K:AE)(g:c6->c6->Option c6):R2:=λx y H Q=>∃F rx ry rz,j2 F H/\O9 K F H x rx/\O9 K F H y ry/\g rx ry=ξ rz/\∀v F' H',u6 K F H F' H' v rz->Q v H'
abbrev OpM(X:Cx)(f:AB->AB->Sem AB)(g:c6->c6->Option c6):Prop:=OpR X f (rM2 X.K g)
def m2(g:c6->c6->Option c6)(ma mb:M):M:=λρ=>(ma ρ).bind λx=>(mb ρ).bind λy=>g x y
theorem bind_some{α β:Type}{o:Option α}{f:α->Option β}{b:β}(h:o.bind f=ξ b):∃a,o=ξ a/\f a=ξ b:=by
 cases o with
 |none=>cases h
 |some a=>exact⟨a,rfl,h⟩
theorem a9E{K:AE}{g:c6->c6->Option c6}{σ:L2.St}{H:Hp}{Q:VK}(h:tM K (m2 g ma mb) σ H Q):tOp (rM2 K g) (tM K ma) (tM K mb) σ H Q:=by
 obtain⟨F,ρ,r,he,hm,k⟩:=h;obtain⟨rx,e1,hm⟩:=bind_some hm;obtain⟨ry,e2,hm⟩:=bind_some hm;exact⟨F,ρ,rx,he,e1,λv F1 H1 o1=>⟨F1,ρ,ry,he.ext o1.x,e2,λu F2 H2 o2=>⟨F2,rx,ry,r,o2.x.fh,o1.rep.ext o2.x,o2.rep,hm,λz F3 H3 o3=>k z F3 H3 (u6.trans (o1.x.trans o2.x) o3)⟩⟩⟩
theorem d2{op:Operator}{g:c6->c6->Option c6}(ho:OpM X (binaryOp op) g)(ha:EE X a ma)(hb:EE X b mb):EE X (.BinOp a op b pos) (m2 g ma mb):=
 r9 (c0w ho ha hb) λ_ _ _ h=>a9E h
theorem b8B{op:CmpOp}{g:c6->c6->Option c6}(ho:OpM X (compareOp op) g)(ha:EE X a ma)(hb:EE X b mb)(hm:behindInMarks op b=false):EE X (.Compare a [op] [b] pos) (m2 g ma mb):=
 r9 (b7e ho ha hb hm) λ_ _ _ h=>a9E h
theorem a4R{f:AB->AB->Sem AB}{r:R2}{g:c6->c6->Option c6}(h:OpR X f r)
 (i:∀F H x y rx ry rz,j2 F H->O9 X.K F H x rx->O9 X.K F H y ry->g rx ry=ξ rz->∀Q:VK,(∀v F' H',u6 X.K F H F' H' v rz->Q v H')->r x y H Q):OpM X f g:=
 λpins s σ H x y v u Q I rx ry ⟨F,ra,rb,rz,s0,h1,h2,h3,k⟩=>h pins s σ H x y v u Q I rx ry (i F H x y ra rb rz s0 h1 h2 h3 Q k)
end
def gI(f:Int->Int->PV):c6->c6->Option c6
 | .v (.int i),.v (.int j)=>ξ (.v (f i j))
 |_,_=>ζ
theorem b5q:∃f:(Int->Int->Prop)->Int->Int->Bool,∀C i j,f C i j=true↔C i j:=⟨λC i j=> @decide (C i j) (Classical.propDecidable _),λC i j=> @decide_eq_true_iff (C i j) (Classical.propDecidable _)⟩
def okC:(Int->Int->Prop)->Int->Int->Bool:=b5q.choose
theorem a0q{C:Int->Int->Prop}{i j:Int}:okC C i j=true↔C i j:=b5q.choose_spec C i j
def x8(C:Int->Int->Prop)[∀i j,Decidable (C i j)](f:Int->Int->PV):c6->c6->Option c6
 | .v (.int i),.v (.int j)=>if okC C i j=true then ξ (.v (f i j)) else ζ
 |_,_=>ζ
theorem b2w{f:Int->Int->PV}{rx ry rz:c6}(h:gI f rx ry=ξ rz):∃i j,rx= .v (.int i)/\ry= .v (.int j)/\rz= .v (f i j):=by
 unfold gI at h;split at h
 ·cases h;exact⟨_,_,rfl,rfl,rfl⟩
 ·cases h
theorem b4S{C:Int->Int->Prop}[∀i j,Decidable (C i j)]{f:Int->Int->PV}{rx ry rz:c6}(h:x8 C f rx ry=ξ rz):∃i j,rx= .v (.int i)/\ry= .v (.int j)/\C i j/\rz= .v (f i j):=by
 unfold x8 at h;split at h
 ·split at h
  ·rename_i c;cases h;exact⟨_,_,rfl,rfl,a0q.mp c,rfl⟩
  ·cases h
 ·cases h
section
variable {X:Cx}
theorem c0t{f:AB->AB->Sem AB}{g:Int->Int->V}{g':Int->Int->PV}(h:OpR X f (rI0 g))(e:∀i j H,C0 X.K H (g' i j) (g i j)):OpM X f (gI g'):=
 a4R h λF H x y rx ry rz s h1 h2 h3 Q k=>by
  obtain⟨i,j,rfl,rfl,rfl⟩:=b2w h3;exact⟨i,j,h1,h2,k _ F H (u6.here s (e i j F))⟩
theorem a9s{f:AB->AB->Sem AB}{C:Int->Int->Prop}[∀i j,Decidable (C i j)]{g:Int->Int->V}{g':Int->Int->PV}(h:OpR X f (rI C g))(e:∀i j H,C0 X.K H (g' i j) (g i j)):OpM X f (x8 C g'):=
 a4R h λF H x y rx ry rz s h1 h2 h3 Q k=>by
  obtain⟨i,j,rfl,rfl,c,rfl⟩:=b4S h3;exact⟨i,j,h1,h2,c,k _ F H (u6.here s (e i j F))⟩
end
mutual
def p6:PV->Nat->Bool
 | .list xs,n+1=>x4 xs n
 | .tuple xs,n+1=>x4 xs n
 | .list _,0=>false
 | .tuple _,0=>false
 | .dict _,_=>false
 | .none,_=>true
 | .bool _,_=>true
 | .int _,_=>true
 | .str _,_=>true
def x4:List PV->Nat->Bool
 |[],_=>true
 |x::xs,n=>p6 x n && x4 xs n
end
section
variable {X:Cx}{pins:List (AA×Obj)}{σ:L2.St}{H:Hp}{s:AC}
theorem a5p(I:g9 X pins σ H s){a:AA}{xs ys:List V}(h:SqL X.K H a xs)(h':SqT X.K H a ys):False:=by
 obtain⟨its,r,p,_⟩:=I.list h;obtain⟨its',r',p',_⟩:=I.tuple h';exact SeqAt.ne_of_list_tuple p.isList (show s.heap.IsTuple a its'.toArray from p') rfl
theorem b7S(I:g9 X pins σ H s){x:Str}{v:V}(h:b8n X.K H x v):∃(a C:AA) (o:Obj) (vs:Array AB),v= .ref a/\s.heap.get? a=ξ o/\o.cls= .ref C/\o.data= .fields vs/\E7 X.K x C/\o.dict=ζ:=by
 obtain⟨a,C,φ,e,q,k,n⟩:=h;obtain⟨oe,vs,h1,h2,h3,h4⟩:=k _ (I.hok a _ q).1;exact⟨a,C,oe,vs,e,h1,h2,h3,n,h4⟩
theorem b2M{K:AE}{F:Hp}{k p:PV}{r:List (PV×PV)}{y:Str}{m v:V}{fs:List (Str×V)}(h:a9L K F y m fs v)(hr:a0J K F ((k,p)::r) ((y,m)::fs)):k= .str y/\(p= .bool false\/p= .int 0)/\a0J K F r fs:=by
 obtain⟨f,w,t,e,z,q,hr⟩:=hr;cases e;refine⟨z, ?_,hr⟩;rcases h with⟨rfl,_⟩|⟨rfl,_⟩
 ·cases p with
  |bool b=>cases q;exact .inl rfl
  |tuple _=>obtain⟨_,_,e,_⟩:=q;cases e
  |list _=>obtain⟨_,_,e,_⟩:=q;cases e
  |dict _=>
   rcases q with⟨_,_,e,_⟩|⟨_,_,e,_⟩|⟨_,_,_,q⟩|⟨_,_,_,q,_⟩
   ·cases e
   ·cases e
   ·obtain⟨_,e⟩:=q.ref;cases e
   ·obtain⟨_,e⟩:=q.ref;cases e
  |_=>cases q
 ·cases p with
  |int b=>cases q;exact .inr rfl
  |tuple _=>obtain⟨_,_,e,_⟩:=q;cases e
  |list _=>obtain⟨_,_,e,_⟩:=q;cases e
  |dict _=>
   rcases q with⟨_,_,e,_⟩|⟨_,_,e,_⟩|⟨_,_,_,q⟩|⟨_,_,_,q,_⟩
   ·cases e
   ·cases e
   ·obtain⟨_,e⟩:=q.ref;cases e
   ·obtain⟨_,e⟩:=q.ref;cases e
  |_=>cases q
mutual
theorem C0.inj(I:g9 X pins σ H s):∀(p q:PV) {v:V} {n m:Nat},p6 p n=true->p6 q m=true->C0 X.K H p v->C0 X.K H q v->p=q
 | .tuple ps,q,v,n,m,hp,hq,⟨a,xs,e,h,r⟩,h'=>by
   subst e;cases q with
   |tuple qs=>
    obtain⟨a',xs',e',h',r'⟩:=h';cases e';cases I.tuple_inj h.sq h'.sq;cases n<;>cases m<;>simp only [p6,As] at hp hq
    rw [j4.inj I ps qs hp hq r r']
   |list qs=>obtain⟨a',xs',e',h',r'⟩:=h';cases e';exact(a5p I h' h.sq).elim
   |dict qs=>simp [p6] at hq
   |_=>cases h'
 | .list ps,q,v,n,m,hp,hq,⟨a,xs,e,h,r⟩,h'=>by
   subst e;cases q with
   |list qs=>
    obtain⟨a',xs',e',h',r'⟩:=h';cases e';cases I.list_inj h h';cases n<;>cases m<;>simp only [p6,As] at hp hq
    rw [j4.inj I ps qs hp hq r r']
   |tuple qs=>obtain⟨a',xs',e',h',r'⟩:=h';cases e';exact(a5p I h h'.sq).elim
   |dict qs=>simp [p6] at hq
   |_=>cases h'
 | .dict _,_,_,_,_,hp,_,_,_=>by simp [p6] at hp
 | .none,q,v,n,m,hp,hq,h,h'| .bool _,q,v,n,m,hp,hq,h,h'| .int _,q,v,n,m,hp,hq,h,h'| .str _,q,v,n,m,hp,hq,h,h'=>by
   cases h;cases q with
   |tuple _=>obtain⟨_,_,e,_⟩:=h';cases e
   |list _=>obtain⟨_,_,e,_⟩:=h';cases e
   |dict _=>simp [p6] at hq
   |_=>cases h'<;>rfl
theorem j4.inj(I:g9 X pins σ H s):∀(ps qs:List PV) {vs:List V} {n m:Nat},x4 ps n=true->x4 qs m=true->j4 X.K H ps vs->j4 X.K H qs vs->ps=qs
 |[],qs,vs,n,m,_,_,h,h'=>by
  cases h;cases qs with
  |nil=>rfl
  |cons q qs=>obtain⟨_,_,e,_⟩:=h';cases e
 |p::ps,qs,vs,n,m,hp,hq,⟨v,r,e,h,t⟩,h'=>by
  subst e;cases qs with
  |nil=>cases h'
  |cons q qs=>
   obtain⟨v',r',e',h',t'⟩:=h';cases e';simp only [x4,Bool.and_eq_true] at hp hq;rw [C0.inj I p q hp.1 hq.1 h h',j4.inj I ps qs hp.2 hq.2 t t']
end
end
mutual
theorem a3Q:∀(p:PV) (n:Nat),p6 p n=true->PyData.eqv p p=true
 | .none,_,_=>by simp [PyData.eqv]
 | .bool _,_,_=>by simp [PyData.eqv]
 | .int _,_,_=>by simp [PyData.eqv]
 | .str _,_,_=>by simp [PyData.eqv]
 | .list xs,n+1,h=>by simp only [PyData.eqv];exact a0O xs n (by simpa [p6] using h)
 | .tuple xs,n+1,h=>by simp only [PyData.eqv];exact a0O xs n (by simpa [p6] using h)
 | .list xs,0,h=>by simp [p6] at h
 | .tuple xs,0,h=>by simp [p6] at h
 | .dict _,_,h=>by simp [p6] at h
theorem a0O:∀(ps:List PV) (n:Nat),x4 ps n=true->PyData.eqvAll ps ps=true
 |[],_,_=>by simp [PyData.eqvAll]
 |x::xs,n,h=>by
  have h':p6 x n=true/\x4 xs n=true:=by simpa [x4] using h
  simp only [PyData.eqvAll,a3Q x n h'.1,a0O xs n h'.2,Bool.and_self]
end
def eAt(ps qs:List PV)(j:Nat):Bool:=match ps[j]?,qs[j]? with
 |some p,ξ q=>PyData.eqv p q
 |_,_=>false
theorem W2:∀(ps qs:List PV),PyData.eqvAll ps qs=((Ab (min ps.length qs.length)).all (eAt ps qs)&& ps.length==qs.length)
 |[],[]=>by simp [PyData.eqvAll]
 |[],_::_=>by simp [PyData.eqvAll]
 |_::_,[]=>by simp [PyData.eqvAll]
 |p::ps,q::qs=>by
  have e:min (p::ps).length (q::qs).length=min ps.length qs.length+1:=by simp only [AU];lia
  rw [e,List.range_succ_eq_map,List.all_cons,List.all_map];have h0:eAt (p::ps) (q::qs) 0=PyData.eqv p q:=rfl;have h1:(eAt (p::ps) (q::qs)∘Nat.succ)=eAt ps qs:=by funext j;simp [eAt,Function.comp]
  rw [h0,h1];simp only [PyData.eqvAll,W2 ps qs,AU,Bool.and_assoc];have e2:(ps.length+1==qs.length+1)=(ps.length==qs.length):=by
   rw [Bool.eq_iff_iff];simp
  rw [e2]
section
variable {X:Cx}{pins:List (AA×Obj)}{σ:L2.St}{H:Hp}{s:AC}
structure b4g(A:AK)(s:AC)(u w:AB)(b:Bool):Prop where
 rc:SeqAt.RcAt A s u w b
 ne:SeqAt.RcNeAt A s u w (!b)
 eq:SeqAt.EqAt A s u w b
theorem a8k(A:AK):A.in1.units=A.units+1:=rfl
theorem b2Z{xs:List V}{its:List AB}{j:Nat}(r:l9 xs its)(h:j<its.length):∃x,xs[j]?=ξ x/\l8 x its[j]:=by
 have hx:j<xs.length:=by rw [r.length];exact h
 obtain⟨u,h1,h2⟩:=r.get (i:=j) (x:=xs[j]) (by simp [hx])
 rw [Au h] at h1;cases h1;exact⟨xs[j],by simp [hx],h2⟩
theorem b0R{A:AK}{ps qs:List PV}{xs ys:List V}{its its2:List AB}(r:j4 X.K H ps xs)(r':j4 X.K H qs ys)(rv:l9 xs its)(rv':l9 ys its2)
 (ih:∀p q x y u w,p∈ps->q∈qs->C0 X.K H p x->C0 X.K H q y->l8 x u->l8 y w->b4g A s u w (PyData.eqv p q)):
 ∀j (h1:j<its.toArray.size) (h2:j<its2.toArray.size),SeqAt.EqAt A s its.toArray[j] its2.toArray[j] (eAt ps qs j):=by
 intro j h1 h2
 have h1':j<its.length:=by simpa using h1
 have h2':j<its2.length:=by simpa using h2
 obtain⟨x,ex,rx⟩:=b2Z rv h1'
 obtain⟨y,ey,ry⟩:=b2Z rv' h2'
 obtain⟨p,ep,hp⟩:=r.getV ex
 obtain⟨q,eq,hq⟩:=r'.getV ey
 have:eAt ps qs j=PyData.eqv p q:=by simp [eAt,ep,eq]
 rw [this]
 have z:=(ih p q x y _ _ (Az ep) (Az eq) hp hq rx ry).eq
 simpa using z
theorem P7:∀{ps:List PV} {n:Nat} {p:PV},x4 ps n=true->p∈ps->p6 p n=true
 |[],_,_,_,h=>by cases h
 |x::xs,n,p,h,hp=>by
  have h':p6 x n=true/\x4 xs n=true:=by simpa [x4] using h
  rcases Ag.mp hp with rfl|hp
  ·exact h'.1
  ·exact P7 h'.2 hp
theorem b1o(I:g9 X pins σ H s):∀(n:Nat) (A:AK) (p q:PV) (x y:V) (u w:AB),A.units+n<cLine->p6 p n=true->p6 q n=true->C0 X.K H p x->C0 X.K H q y->l8 x u->l8 y w->b4g A s u w (PyData.eqv p q):=by
 intro n
 induction n with
 |zero=>
  intro A p q x y u w hu hp hq rp rq rx ry;cases p with
  |none=>
   cases rp;cases rx;cases q with
   |none=>cases rq;cases ry;simp only [PyData.eqv];exact⟨.none_none,.none_none,.same _⟩
   |bool j=>cases rq;cases ry;simp only [PyData.eqv];exact⟨.none_bool _,.none_bool _,.none_bool _⟩
   |int j=>cases rq;obtain⟨ty,rfl⟩:=ry;simp only [PyData.eqv];exact⟨.none_int _ _,.none_int _ _,.none_int _ _⟩
   |str j=>cases rq;obtain⟨ty,rfl⟩:=ry;simp only [PyData.eqv];exact⟨.none_str _ _,.none_str _ _,.none_str _ _⟩
   |dict _=>simp [p6] at hq
   |list _=>simp [p6] at hq
   |tuple _=>simp [p6] at hq
  |bool i=>
   cases rp;cases rx;cases q with
   |none=>cases rq;cases ry;simp only [PyData.eqv];exact⟨.bool_none _,.bool_none _,.bool_none _⟩
   |bool j=>cases rq;cases ry;simp only [PyData.eqv];exact⟨.bool_bool _ _,.bool_bool _ _,.bool_bool _ _⟩
   |int j=>cases rq;obtain⟨ty,rfl⟩:=ry;simp only [PyData.eqv];exact⟨.bool_int _ _ _,.bool_int _ _ _,.bool_int _ _ _⟩
   |str j=>cases rq;obtain⟨ty,rfl⟩:=ry;simp only [PyData.eqv];exact⟨.bool_str _ _ _,.bool_str _ _ _,.bool_str _ _ _⟩
   |dict _=>simp [p6] at hq
   |list _=>simp [p6] at hq
   |tuple _=>simp [p6] at hq
  |int i=>
   cases rp;obtain⟨tx,rfl⟩:=rx;cases q with
   |none=>cases rq;cases ry;simp only [PyData.eqv];exact⟨.int_none _ _,.int_none _ _,.int_none _ _⟩
   |bool j=>cases rq;cases ry;simp only [PyData.eqv];exact⟨.int_bool _ _ _,.int_bool _ _ _,.int_bool _ _ _⟩
   |int j=>cases rq;obtain⟨ty,rfl⟩:=ry;simp only [PyData.eqv];exact⟨.int_int _ _ _ _,.int_int _ _ _ _,.int_int _ _ _ _⟩
   |str j=>cases rq;obtain⟨ty,rfl⟩:=ry;simp only [PyData.eqv];exact⟨.int_str _ _ _ _,.int_str _ _ _ _,.int_str _ _ _ _⟩
   |dict _=>simp [p6] at hq
   |list _=>simp [p6] at hq
   |tuple _=>simp [p6] at hq
  |str i=>
   cases rp;obtain⟨tx,rfl⟩:=rx;cases q with
   |none=>cases rq;cases ry;simp only [PyData.eqv];exact⟨.str_none _ _,.str_none _ _,.str_none _ _⟩
   |bool j=>cases rq;cases ry;simp only [PyData.eqv];exact⟨.str_bool _ _ _,.str_bool _ _ _,.str_bool _ _ _⟩
   |int j=>cases rq;obtain⟨ty,rfl⟩:=ry;simp only [PyData.eqv];exact⟨.str_int _ _ _ _,.str_int _ _ _ _,.str_int _ _ _ _⟩
   |str j=>cases rq;obtain⟨ty,rfl⟩:=ry;simp only [PyData.eqv];exact⟨.str_str _ _ _ _,.str_str _ _ _ _,.str_str _ _ _ _⟩
   |dict _=>simp [p6] at hq
   |list _=>simp [p6] at hq
   |tuple _=>simp [p6] at hq
  |dict _=>simp [p6] at hp
  |list _=>simp [p6] at hp
  |tuple _=>simp [p6] at hp
 |succ n ih=>
  intro A p q x y u w hu hp hq rp rq rx ry;have hu0:A.units<cLine:=by lia
  have hu1:A.in1.units+n<cLine:=by rw [a8k];lia
  cases p with
  |dict _=>simp [p6] at hp
  |list ps=>
   obtain⟨a,xs,rfl,hs,r⟩:=rp;cases rx;obtain⟨its,rv,pl,hz⟩:=I.list hs;have okp:x4 ps n=true:=by simpa [p6] using hp
   cases q with
   |dict _=>simp [p6] at hq
   |list qs=>
    obtain⟨b,ys,rfl,hs',r'⟩:=rq;cases ry;obtain⟨its2,rv',pl',hz'⟩:=I.list hs';have okq:x4 qs n=true:=by simpa [p6] using hq
    have hle:its.toArray.size=ps.length:=by rw [<-r.length,rv.length];simp
    have hle':its2.toArray.size=qs.length:=by rw [<-r'.length,rv'.length];simp
    have he:=b0R (A:=A.in1) (s:=s) r r' rv rv' λp q x y u w hp' hq' rp' rq' rx' ry'=>ih A.in1 p q x y u w hu1 (P7 okp hp') (P7 okq hq') rp' rq' rx' ry';simp only [PyData.eqv];have main:SeqAt.RcAt A s (.ref a) (.ref b) (PyData.eqvAll ps qs)/\SeqAt.RcNeAt A s (.ref a) (.ref b) (!PyData.eqvAll ps qs):=by
     by_cases e:its.toArray.size=its2.toArray.size
     ·have el:ps.length=qs.length:=by rw [<-hle,<-hle',e]
      have e3:PyData.eqvAll ps qs=(Ab its.toArray.size).all (eAt ps qs):=by
       rw [W2,el,Nat.min_self,hle,el];simp
      rw [e3];exact⟨.lists pl.isList pl'.isList e hu0 he,.lists pl.isList pl'.isList e hu0 he⟩
     ·have e3:PyData.eqvAll ps qs=false:=by
       rw [W2];have:(ps.length==qs.length)=false:=by
        rw [beq_eq_false_iff_ne];intro z;exact e (by rw [hle,hle',z])
       rw [this,Bool.and_false]
      have e4:(its.toArray.size !=its2.toArray.size)=true:=by simpa using e
      rw [e3];exact⟨.lists_lengths pl.isList pl'.isList e4 hu0,.lists_lengths pl.isList pl'.isList e4 hu0⟩
    refine⟨main.1,main.2, ?_⟩
    by_cases hab:a=b
    ·subst hab;cases I.list_inj hs hs';cases j4.inj I ps qs okp okq r r';rw [a0O ps n okp];exact .same _
    ·exact .of_refs hab main.1
   |tuple qs=>
    obtain⟨b,ys,rfl,hs',r'⟩:=rq;cases ry;obtain⟨its2,rv',pl',hz'⟩:=I.tuple hs'.sq;simp only [PyData.eqv];exact⟨.list_tuple pl.isList pl' hu0,.list_tuple pl.isList pl' hu0,.list_tuple pl.isList pl' hu0⟩
   |none=>cases rq;cases ry;simp only [PyData.eqv];exact⟨.list_none pl.isList hu0,.list_none pl.isList hu0,.list_none pl.isList hu0⟩
   |bool k=>cases rq;cases ry;simp only [PyData.eqv];exact⟨.list_bool _ pl.isList hu0,.list_bool _ pl.isList hu0,.list_bool _ pl.isList hu0⟩
   |int k=>cases rq;obtain⟨t,rfl⟩:=ry;simp only [PyData.eqv];exact⟨.list_int _ _ pl.isList hu0,.list_int _ _ pl.isList hu0,.list_int _ _ pl.isList hu0⟩
   |str k=>cases rq;obtain⟨t,rfl⟩:=ry;simp only [PyData.eqv];exact⟨.list_str _ _ pl.isList hu0,.list_str _ _ pl.isList hu0,.list_str _ _ pl.isList hu0⟩
  |tuple ps=>
   obtain⟨a,xs,rfl,hs,r⟩:=rp;cases rx;obtain⟨its,rv,pl,hz⟩:=I.tuple hs.sq;have okp:x4 ps n=true:=by simpa [p6] using hp
   cases q with
   |dict _=>simp [p6] at hq
   |tuple qs=>
    obtain⟨b,ys,rfl,hs',r'⟩:=rq;cases ry;obtain⟨its2,rv',pl',hz'⟩:=I.tuple hs'.sq;have okq:x4 qs n=true:=by simpa [p6] using hq
    have hle:its.toArray.size=ps.length:=by rw [<-r.length,rv.length];simp
    have hle':its2.toArray.size=qs.length:=by rw [<-r'.length,rv'.length];simp
    have he:=b0R (A:=A.in1) (s:=s) r r' rv rv' λp q x y u w hp' hq' rp' rq' rx' ry'=>ih A.in1 p q x y u w hu1 (P7 okp hp') (P7 okq hq') rp' rq' rx' ry';simp only [PyData.eqv];have e3:PyData.eqvAll ps qs=((Ab (min its.toArray.size its2.toArray.size)).all (eAt ps qs)&& its.toArray.size==its2.toArray.size):=by
     rw [W2,hle,hle']
    have main:SeqAt.RcAt A s (.ref a) (.ref b) (PyData.eqvAll ps qs)/\SeqAt.RcNeAt A s (.ref a) (.ref b) (!PyData.eqvAll ps qs):=by
     rw [e3];exact⟨.tuples pl pl' hu0 he,.tuples pl pl' hu0 he⟩
    refine⟨main.1,main.2, ?_⟩
    by_cases hab:a=b
    ·subst hab;cases I.tuple_inj hs.sq hs'.sq;cases j4.inj I ps qs okp okq r r';rw [a0O ps n okp];exact .same _
    ·exact .of_refs hab main.1
   |list qs=>
    obtain⟨b,ys,rfl,hs',r'⟩:=rq;cases ry;obtain⟨its2,rv',pl',hz'⟩:=I.list hs';simp only [PyData.eqv];exact⟨.tuple_list pl pl'.isList hu0,.tuple_list pl pl'.isList hu0,.tuple_list pl pl'.isList hu0⟩
   |none=>cases rq;cases ry;simp only [PyData.eqv];exact⟨.tuple_none pl hu0,.tuple_none pl hu0,.tuple_none pl hu0⟩
   |bool k=>cases rq;cases ry;simp only [PyData.eqv];exact⟨.tuple_bool _ pl hu0,.tuple_bool _ pl hu0,.tuple_bool _ pl hu0⟩
   |int k=>cases rq;obtain⟨t,rfl⟩:=ry;simp only [PyData.eqv];exact⟨.tuple_int _ _ pl hu0,.tuple_int _ _ pl hu0,.tuple_int _ _ pl hu0⟩
   |str k=>cases rq;obtain⟨t,rfl⟩:=ry;simp only [PyData.eqv];exact⟨.tuple_str _ _ pl hu0,.tuple_str _ _ pl hu0,.tuple_str _ _ pl hu0⟩
  |none=>
   cases q with
   |list qs=>
    obtain⟨b,ys,rfl,hs',r'⟩:=rq;cases ry;obtain⟨its2,rv',pl',hz'⟩:=I.list hs';cases rp;cases rx;simp only [PyData.eqv];exact⟨.none_list pl'.isList hu0,.none_list pl'.isList hu0,.none_list pl'.isList hu0⟩
   |tuple qs=>
    obtain⟨b,ys,rfl,hs',r'⟩:=rq;cases ry;obtain⟨its2,rv',pl',hz'⟩:=I.tuple hs'.sq;cases rp;cases rx;simp only [PyData.eqv];exact⟨.none_tuple pl' hu0,.none_tuple pl' hu0,.none_tuple pl' hu0⟩
   |dict _=>simp [p6] at hq
   |_=>exact ih A _ _ x y u w (by lia) (by simp [p6]) (by simp [p6]) rp rq rx ry
  |bool k=>
   cases q with
   |list qs=>
    obtain⟨b,ys,rfl,hs',r'⟩:=rq;cases ry;obtain⟨its2,rv',pl',hz'⟩:=I.list hs';cases rp;cases rx;simp only [PyData.eqv];exact⟨.bool_list _ pl'.isList hu0,.bool_list _ pl'.isList hu0,.bool_list _ pl'.isList hu0⟩
   |tuple qs=>
    obtain⟨b,ys,rfl,hs',r'⟩:=rq;cases ry;obtain⟨its2,rv',pl',hz'⟩:=I.tuple hs'.sq;cases rp;cases rx;simp only [PyData.eqv];exact⟨.bool_tuple _ pl' hu0,.bool_tuple _ pl' hu0,.bool_tuple _ pl' hu0⟩
   |dict _=>simp [p6] at hq
   |_=>exact ih A _ _ x y u w (by lia) (by simp [p6]) (by simp [p6]) rp rq rx ry
  |int k=>
   cases q with
   |list qs=>
    obtain⟨b,ys,rfl,hs',r'⟩:=rq;cases ry;obtain⟨its2,rv',pl',hz'⟩:=I.list hs';cases rp;obtain⟨t,rfl⟩:=rx;simp only [PyData.eqv];exact⟨.int_list _ _ pl'.isList hu0,.int_list _ _ pl'.isList hu0,.int_list _ _ pl'.isList hu0⟩
   |tuple qs=>
    obtain⟨b,ys,rfl,hs',r'⟩:=rq;cases ry;obtain⟨its2,rv',pl',hz'⟩:=I.tuple hs'.sq;cases rp;obtain⟨t,rfl⟩:=rx;simp only [PyData.eqv];exact⟨.int_tuple _ _ pl' hu0,.int_tuple _ _ pl' hu0,.int_tuple _ _ pl' hu0⟩
   |dict _=>simp [p6] at hq
   |_=>exact ih A _ _ x y u w (by lia) (by simp [p6]) (by simp [p6]) rp rq rx ry
  |str k=>
   cases q with
   |list qs=>
    obtain⟨b,ys,rfl,hs',r'⟩:=rq;cases ry;obtain⟨its2,rv',pl',hz'⟩:=I.list hs';cases rp;obtain⟨t,rfl⟩:=rx;simp only [PyData.eqv];exact⟨.str_list _ _ pl'.isList hu0,.str_list _ _ pl'.isList hu0,.str_list _ _ pl'.isList hu0⟩
   |tuple qs=>
    obtain⟨b,ys,rfl,hs',r'⟩:=rq;cases ry;obtain⟨its2,rv',pl',hz'⟩:=I.tuple hs'.sq;cases rp;obtain⟨t,rfl⟩:=rx;simp only [PyData.eqv];exact⟨.str_tuple _ _ pl' hu0,.str_tuple _ _ pl' hu0,.str_tuple _ _ pl' hu0⟩
   |dict _=>simp [p6] at hq
   |_=>exact ih A _ _ x y u w (by lia) (by simp [p6]) (by simp [p6]) rp rq rx ry
end
set_option maxHeartbeats 1000000
instance (i j:Int):Decidable (b0W i j):=by unfold b0W;infer_instance
instance (i j:Int):Decidable (a5z i j):=by unfold a5z;infer_instance
instance (i j:Int):Decidable (b25 i j):=by unfold b25;infer_instance
def c6.mine:c6->Option (List PV)
 | .ow (.lst ps)=>ξ ps
 | .bo (.lst ps)=>ξ ps
 |_=>ζ
theorem b0j{K:AE}{F H:Hp}{v:V}{r:c6}{ps:List PV}(h:O9 K F H v r)(e:r.mine=ξ ps):∃a xs,v= .ref a/\F a=ζ/\H a=ξ (.lst xs)/\j4 K F ps xs:=by
 cases r with
 |v _=>cases e
 |ow c=>cases c<;>cases e;exact h
 |bo c=>cases c<;>cases e;exact h
def p9(x y:c6):Option c6:=match x,y with
 | .v (.int i),.v (.int j)=>ξ (.v (.int (i+j)))
 | .v (.str i),.v (.str j)=>if i.length+j.length<=AM then ξ (.v (.str (i++j))) else ζ
 | .v (.tuple ps),.v (.tuple qs)=>if(ps.length≠0/\qs.length≠0)/\ps.length+qs.length<=AM then ξ (.v (.tuple (ps++qs))) else ζ
 |x,y=>match x.mine,y.mine with
  |some ps,ξ qs=>if ps.length+qs.length<=AM then ξ (.own (ps++qs)) else ζ
  |_,_=>ζ
section
variable {X:Cx}
theorem j7:OpM X (binaryOp .Add) p9:=by
 ext c
 unfold p9 at h3;split at h3
 ·cases h3;cases h1;cases h2;exact b9f pins s σ H _ _ v u Q I rx ry ⟨_,_,rfl,rfl,k _ F H (u6.here s0 rfl)⟩
 ·rename_i i j;split at h3
  ·rename_i c;cases h3;cases h1;cases h2;exact b1S pins s σ H _ _ v u Q I rx ry ⟨i,j,rfl,rfl,c,k _ F H (u6.here s0 rfl)⟩
  ·cases h3
 ·rename_i ps qs;split at h3
  ·rename_i c;cases h3;obtain⟨a,xs,rfl,hq,r⟩:=h1;obtain⟨b,ys,rfl,hq',r'⟩:=h2;refine b63 pins s σ H _ _ v u Q I rx ry ⟨a,b,xs,ys,rfl,rfl,t4 s0 hq.sq,t4 s0 hq'.sq, ?_,by rw [r.length,r'.length];exact c.2, ?_⟩
   ·intro z;subst z;exact c.1.1 r.length.symm
   ·refine⟨λz=> ?_,λ_ p hp=>k _ _ _ (u6.tup s0 hp (r.append r'))⟩;subst z;exact absurd r'.length.symm c.1.2
  ·cases h3
 ·split at h3
  ·rename_i ps qs e1 e2;split at h3
   ·rename_i c;cases h3;obtain⟨a,xs,rfl,_,hq,r⟩:=b0j h1 e1;obtain⟨b,ys,rfl,_,hq',r'⟩:=b0j h2 e2;refine b9g pins s σ H _ _ v u Q I rx ry ⟨a,b,xs,ys,rfl,rfl,hq,hq',by rw [r.length,r'.length];exact c,λp hp=> ?_⟩
    exact k _ _ _ (u6.lst s0 hp (r.append r'))
   ·cases h3
  ·cases h3
theorem b68:OpM X (binaryOp .Mult) (x8 b0W λi j=> .int (i*j)):=a9s b9i λ_ _ _=>rfl
theorem l6:OpM X (binaryOp .Mod) (x8 (λ_ j=>0<j) λi j=> .int (i % j)):=a9s b9h λ_ _ _=>rfl
theorem b0w:OpM X (binaryOp .FloorDiv) (x8 a5z λi j=> .int (i / j)):=a9s b64 λ_ _ _=>rfl
theorem b69:OpM X (binaryOp .Pow) (x8 b25 λi j=> .int (i ^ j.toNat)):=a9s b9j λ_ _ _=>rfl
theorem a6R:OpM X (compareOp .Gt) (gI λi j=> .bool (decide (j<i))):=c0t c0q λ_ _ _=>rfl
def D6(x y:c6):Option c6:=if p6 x.rd 50=true/\p6 y.rd 50=true then ξ (.v (.bool (PyData.eqv x.rd y.rd))) else ζ
def gNe(x y:c6):Option c6:=if p6 x.rd 50=true/\p6 y.rd 50=true then ξ (.v (.bool (!PyData.eqv x.rd y.rd))) else ζ
theorem k6(hu:X.A.units+64<cLine):OpM X (compareOp .Eq) D6:=by
 ext c
 unfold D6 at h3;split at h3
 ·rename_i c;cases h3;have z:=b1o I 50 X.A _ _ x y v u (by lia) c.1 c.2 (h1.rd s0) (h2.rd s0) rx ry
  exact z.rc _ _ _ _ ⟨.bl _,H,I,rfl,k _ F H (u6.here s0 rfl)⟩
 ·cases h3
theorem U6(hu:X.A.units+64<cLine):OpM X (compareOp .NotEq) gNe:=by
 ext c
 unfold gNe at h3;split at h3
 ·rename_i c;cases h3;have z:=b1o I 50 X.A _ _ x y v u (by lia) c.1 c.2 (h1.rd s0) (h2.rd s0) rx ry
  exact z.ne _ _ _ _ ⟨.bl _,H,I,rfl,k _ F H (u6.here s0 rfl)⟩
 ·cases h3
open Classical in
def a7u(K:AE)(H:Hp)(q:PV)(u:AB):Bool:=if h:∃p v,l8 v u/\C0 K H p v/\p6 p 50=true then PyData.eqv h.choose q else false
theorem b2n{pins:List (AA×Obj)}{σ:L2.St}{H:Hp}{s:AC}(I:g9 X pins σ H s){p q:PV}{v:V}{u:AB}(r:l8 v u)(h:C0 X.K H p v)(ok:p6 p 50=true):a7u X.K H q u=PyData.eqv p q:=by
 have hx:∃p v,l8 v u/\C0 X.K H p v/\p6 p 50=true:=⟨p,v,r,h,ok⟩;unfold a7u;rw [dif_pos hx];obtain⟨v',r',h',o'⟩:=hx.choose_spec;cases r.inj r';rw [C0.inj I _ _ o' ok h' h]
theorem a51{pins:List (AA×Obj)}{σ:L2.St}{H:Hp}{s:AC}(I:g9 X pins σ H s){q:PV}:∀{ps:List PV} {xs:List V} {us:List AB},j4 X.K H ps xs->l9 xs us->x4 ps 50=true->us.any (a7u X.K H q)=ps.any λp=>PyData.eqv p q
 |[],_,_,r,v,_=>by cases r;cases v;rfl
 |p::ps,_,_,⟨x,r,e,h,t⟩,v,ok=>by
  simp only [x4,Bool.and_eq_true] at ok;subst e;cases v with
  |cons a b=>rw [List.any_cons,List.any_cons,b2n I a h ok.1,a51 I t b ok.2]
theorem b2K{H:Hp}:∀{ps:List PV} {xs:List V} {us:List AB} {u:AB},j4 X.K H ps xs->l9 xs us->u∈us->∃p x,p∈ps/\l8 x u/\C0 X.K H p x
 |[],_,_,_,r,v,h=>by cases r;cases v;cases h
 |p::ps,_,_,u,⟨x,r,e,hp,t⟩,v,h=>by
  subst e;cases v with
  |cons a b=>
   rcases Ag.mp h with rfl|h
   ·exact⟨p,x,Aa,a,hp⟩
   ·obtain⟨p',x',h1,h2,h3⟩:=b2K t b h;exact⟨p',x',AY _ h1,h2,h3⟩
def PyData.items?:PV->Option (List PV)
 | .list ps=>ξ ps
 | .tuple ps=>ξ ps
 |_=>ζ
def gIn(neg:Bool)(x y:c6):Option c6:=match PyData.items? y.rd with
 |some ps=>if p6 x.rd 50=true/\x4 ps 50=true then ξ (.v (.bool (if neg then !(ps.any λp=>PyData.eqv p x.rd) else ps.any λp=>PyData.eqv p x.rd))) else ζ
 |none=>ζ
theorem b0a{pins:List (AA×Obj)}{σ:L2.St}{H:Hp}{s:AC}(I:g9 X pins σ H s)(hu:X.A.units+64<cLine){q:PV}{ps:List PV}{x:V}{xs:List V}{v:AB}{us:List AB}(hq:p6 q 50=true)(hp:x4 ps 50=true)
 (rq:C0 X.K H q x) (rx:l8 x v) (r:j4 X.K H ps xs) (rv:l9 xs us):∀y,y∈us.toArray->SeqAt.EqAt X.A.in1 s y v (a7u X.K H q y):=by
 intro y hy
 have hy':y∈us:=by simpa using hy
 obtain⟨p,z,h1,h2,h3⟩:=b2K r rv hy'
 rw [b2n I h2 h3 (P7 hp h1)]
 exact(b1o I 50 X.A.in1 p q z x y v (by rw [a8k];lia) (P7 hp h1) hq h3 rq h2 rx).eq
theorem Q3{F H:Hp}{v:V}{r:c6}{ps:List PV}(s0:j2 F H)(h:O9 X.K F H v r)(e:PyData.items? r.rd=ξ ps):∃a xs,v= .ref a/\(SqL X.K H a xs\/SqT X.K H a xs)/\j4 X.K F ps xs:=by
 cases r with
 |v p=>
  cases p with
  |list qs=>cases e;obtain⟨a,xs,rfl,hq,r⟩:=h;exact⟨a,xs,rfl,.inl (A2 s0 hq),r⟩
  |tuple qs=>cases e;obtain⟨a,xs,rfl,hq,r⟩:=h;exact⟨a,xs,rfl,.inr (t4 s0 hq.sq),r⟩
  |_=>cases e
 |ow c=>cases c<;>cases e;obtain⟨a,xs,rfl,_,hq,r⟩:=h;exact⟨a,xs,rfl,.inl (SqL.of hq),r⟩
 |bo c=>cases c<;>cases e;obtain⟨a,xs,rfl,_,hq,r⟩:=h;exact⟨a,xs,rfl,.inl (SqL.of hq),r⟩
theorem b9l(hu:X.A.units+64<cLine):OpM X (compareOp .In) (gIn false):=by
 ext c
 unfold gIn at h3;split at h3
 ·rename_i ps e;split at h3
  ·rename_i c;cases h3;obtain⟨a,xs,rfl,hq,r⟩:=Q3 s0 h2 e;cases ry;have rH:=j4.mono s0 _ r;rcases hq with hq|hq
   ·obtain⟨its,rv,pl,hz⟩:=I.list hq;refine SeqAt.in_listAt (a7u X.K H ra.rd) pl.isList (b0a I hu c.1 c.2 (h1.rd s0) rx rH rv) ⟨.bl _,H,I,rfl, ?_⟩;rw [show its.toArray.any (a7u X.K H ra.rd)=its.any (a7u X.K H ra.rd) by simp,a51 I rH rv c.2]
    exact k _ F H (u6.here s0 rfl)
   ·obtain⟨its,rv,pl,hz⟩:=I.tuple hq;refine SeqAt.in_tupleAt (a7u X.K H ra.rd) pl (b0a I hu c.1 c.2 (h1.rd s0) rx rH rv) ⟨.bl _,H,I,rfl, ?_⟩;rw [show its.toArray.any (a7u X.K H ra.rd)=its.any (a7u X.K H ra.rd) by simp,a51 I rH rv c.2]
    exact k _ F H (u6.here s0 rfl)
  ·cases h3
 ·cases h3
def b8S(neg:Bool)(x y:c6):Option c6:=match y with
 | .v .none=>(match x.rd with
   | .none=>ξ (.v (.bool (!neg)))
   |_=>ξ (.v (.bool neg)))
 |_=>ζ
def PyData.isNone:PV->Bool
 | .none=>true
 |_=>false
theorem b7r{K:AE}{H:Hp}{p:PV}{v:V}(h:C0 K H p v):decide (v=V.non)=PyData.isNone p:=by
 cases p with
 |none=>cases h;rfl
 |bool _=>cases h;rfl
 |int _=>cases h;rfl
 |str _=>cases h;rfl
 |list _=>obtain⟨_,_,rfl,_⟩:=h;rfl
 |tuple _=>obtain⟨_,_,rfl,_⟩:=h;rfl
 |dict _=>
  rcases h with⟨_,_,rfl,_⟩|⟨_,_,rfl,_⟩|⟨_,_,_,h⟩|⟨_,_,_,h,_⟩
  ·rfl
  ·rfl
  ·obtain⟨_,rfl⟩:=h.ref;rfl
  ·obtain⟨_,rfl⟩:=h.ref;rfl
theorem b5w:OpM X (compareOp .IsNot) (b8S true):=
 a4R b65 λF H x y rx ry rz s0 h1 h2 h3 Q k=>by
  unfold b8S at h3;split at h3
  ·cases h2;have e:=b7r (h1.rd s0);refine⟨rfl, ?_⟩;rw [e];cases hp:rx.rd<;>rw [hp] at h3<;>cases h3<;>exact k _ F H (u6.here s0 rfl)
  ·cases h3
def L6(m:M):M:=λρ=>(m ρ).bind λr=>match r with
 | .v (.int i)=>ξ (.v (.int (-i)))
 |_=>ζ
theorem a3f{a:AF}{ma:M}{pos:Pos}(ha:EE X a ma):EE X (.UnaryOp .USub a pos) (L6 ma):=
 r9 (c0y b9W ha) λσ H Q h0=>n8 h0 λF ρ r he hm k=>by
  obtain⟨rx,e1,hm⟩:=bind_some hm;refine⟨F,ρ,rx,he,e1,λv F1 H1 o1=> ?_⟩;split at hm
  ·cases hm;exact⟨_,o1.rep,k _ F1 H1 (u6.trans o1.x (u6.here o1.x.fh rfl))⟩
  ·cases hm
def i9(x y:c6):Option c6:=match y with
 | .v (.int i)=>(match x.rd with
   | .str z=>if z.length<=AM then(atI z.cps.toList i).map λc=> .v (.str ⟨#[c]⟩) else ζ
   |p=>match PyData.items? p with
    |some ps=>(atI ps i).map .v
    |none=>ζ)
 |_=>ζ
theorem j4.atI{K:AE}{H:Hp}{ps:List PV}{xs:List V}{i:Int}{p:PV}(r:j4 K H ps xs)(e:L2.atI ps i=ξ p):∃v,L2.atI xs i=ξ v/\C0 K H p v:=by
 unfold L2.atI at e ⊢;rw [r.length];obtain⟨j,e1,e2⟩:=bind_some e;rw [e1];exact r.get e2
theorem ixm:IxR X (rM2 X.K i9):=by
 intro value slice pins s σ H x y v u Q I rx ry h hs;obtain⟨F,ra,rb,rz,s0,h1,h2,h3,k⟩:=h;unfold i9 at h3;split at h3
 ·rename_i i;cases h2;split at h3
  ·rename_i z ez;split at h3
   ·rename_i c;have rr:=h1.rd s0;rw [ez] at rr;cases rr;cases ea:L2.atI z.cps.toList i with
    |none=>rw [ea] at h3;cases h3
    |some ch=>
     rw [ea] at h3;cases h3;exact b80 value slice pins s σ H _ _ v u Q I rx ry ⟨z,i,ch,rfl,rfl,c,ea,k _ F H (u6.here s0 rfl)⟩ hs
   ·cases h3
  ·split at h3
   ·rename_i ps e;cases ea:L2.atI ps i with
    |none=>rw [ea] at h3;cases h3
    |some p=>
     rw [ea] at h3;cases h3;obtain⟨a,xs,rfl,hq,r⟩:=Q3 s0 h1 e;obtain⟨z,ez,rp⟩:=r.atI ea;rcases hq with hq|hq
     ·exact b6Q value slice pins s σ H _ _ v u Q I rx ry ⟨a,xs,i,z,rfl,rfl,hq,ez,k _ F H (u6.here s0 rp)⟩ hs
     ·exact b81 value slice pins s σ H _ _ v u Q I rx ry ⟨a,xs,i,z,rfl,rfl,hq,ez,k _ F H (u6.here s0 rp)⟩ hs
   ·cases h3
 ·cases h3
theorem d9{a b:AF}{ma mb:M}{pos:Pos}(ha:EE X a ma)(hb:EE X b mb)(hs:b2e b:=by intro _ _;rfl):EE X (.Subscript a b pos) (m2 i9 ma mb):=
 r9 (c0v ixm ha hb hs) λ_ _ _ h=>a9E h
abbrev MA:=b0->Option (List PV)
def tMA(K:AE)(m:MA):TA:=λσ H Q=>∃F ρ ps,A5 K F H σ ρ/\m ρ=ξ ps/\∀vs F' H',O8 F H F' H'->j4 K F' ps vs->Q vs H'
abbrev EA(X:Cx)(es:List AF)(m:MA):Prop:=PA X es (tMA X.K m)
def a8:MA:=λ_=>ξ []
def a4(m:M)(r:MA):MA:=λρ=>((m ρ).bind c6.toVal).bind λp=>(r ρ).bind λps=>ξ (p::ps)
theorem b7:EA X [] a8:=b5x O4 λσ H Q h0=>n8 h0 λF ρ ps he hm k=>by
 cases hm;exact k [] F H (O8.refl he.fh) rfl
theorem a6{e:AF}{es:List AF}{m:M}{r:MA}(ha:EE X e m)(hr:EA X es r)(hs:AL (e::es) X.env=(false,eval e X.env)::AL es X.env:=by rfl):EA X (e::es) (a4 m r):=
 b5x (p8 ha hr hs) λσ H Q h0=>n8 h0 λF ρ ps he hm k=>by
  obtain⟨p,e1,hm⟩:=bind_some hm;obtain⟨r1,e1,e2⟩:=bind_some e1;obtain⟨qs,e3,hm⟩:=bind_some hm;cases hm;refine⟨F,ρ,r1,he,e1,λv F1 H1 o1=> ?_⟩;obtain⟨F2,o2⟩:=o1.toVal e2;exact⟨F2,ρ,qs,he.ext o2.x,e3,λvs F3 H3 x3 rl=>k _ F3 H3 (o2.x.trans x3) ⟨v,vs,rfl,C0.mono x3.f _ o2.rep,rl⟩⟩
def u3(m:MA):M:=λρ=>(m ρ).bind λps=>if ps.length<=AM then ξ (.v (.tuple ps)) else ζ
def D0(m:MA):M:=λρ=>(m ρ).bind λps=>if ps.length<=AM then ξ (.own ps) else ζ
theorem n6{es:List AF}{m:MA}{x1:Nat}{pos:Pos}(h:EA X es m):EE X (.Tuple es x1 pos) (u3 m):=
 r9 (b5C h) λσ H Q h0=>n8 h0 λF ρ r he hm k=>by
  obtain⟨ps,e1,hm⟩:=bind_some hm;split at hm
  ·rename_i c;cases hm;exact⟨F,ρ,ps,he,e1,λvs F1 H1 x rl=>⟨by rw [rl.length];exact c,λp hp=>k _ _ _ (u6.trans x (u6.tup x.fh hp rl))⟩⟩
  ·cases hm
theorem A6{es:List AF}{m:MA}{pos:Pos}(h:EA X es m):EE X (.List es pos) (D0 m):=
 r9 (b9u h) λσ H Q h0=>n8 h0 λF ρ r he hm k=>by
  obtain⟨ps,e1,hm⟩:=bind_some hm;split at hm
  ·rename_i c;cases hm;exact⟨F,ρ,ps,he,e1,λvs F1 H1 x rl=>⟨by rw [rl.length];exact c,λp hp=>k _ _ _ (u6.trans x (u6.lst x.fh hp rl))⟩⟩
  ·cases hm
def spP(K:AE)(n:Nat)(g:List PV->Option c6):Sp:=λvs H Q _=>∃F ps r,j2 F H/\j4 K F ps vs/\ps.length=n/\g ps=ξ r/\∀v F' H',u6 K F H F' H' v r->Q v H'
def i6(g:List PV->Option c6)(m:MA):M:=λρ=>(m ρ).bind g
theorem b6u{k n:Nat}{f:AA}{fd:FuncData}{ps:List Str}{g:List PV->Option c6}{x:Str}{p pos:Pos}{e:AF}{es:List AF}{m:MA}
 (G:G4 X.prog X.w X.K X.mg X.base CX0 k f fd ps (spP X.K n g)) (hr:y0 k X.A) (hg:Gl X x) (hm:X.mg x=ξ (.ref f)) (hk:PySem.W.keepIn X.K (.ref f)=true) (hb:M4 X.K fd ps []) (hn:∀ρ ps,m ρ=ξ ps->ps.length=n) (ha:EA X (e::es) m)
 (hdb:(x==("__debug__":Str))=false:=by decide) (he:AL (e::es) X.env=(false,eval e X.env)::AL es X.env:=by rfl) (hpl:(backTo pos (AL es X.env)).any (·.1)=false:=by rfl):
 EE X (.Call (.Name x p) (e::es) [] pos) (i6 g m):=
 r9 (a9v G hr hg hm hk hb .nil b0x ha hdb he hpl) λσ H Q h0=>n8 h0 λF ρ r he hm k=>by
  obtain⟨qs,e1,hm⟩:=bind_some hm;refine⟨F,ρ,qs,he,e1,λvs F1 H1 x rl=> ?_⟩;show spP X.K n g (vs++[]) H1 Q E0;rw [Ah];exact⟨F1,qs,r,x.fh,rl,hn _ _ e1,hm,λv F2 H2 o=>k v F2 H2 (u6.trans x o)⟩
theorem b4x{k:Nat}{f:AA}{fd:FuncData}{ps:List Str}{g:List PV->Option c6}{x:Str}{p pos:Pos}
 (G:G4 X.prog X.w X.K X.mg X.base CX0 k f fd ps (spP X.K 0 g)) (hr:y0 k X.A) (hg:Gl X x) (hm:X.mg x=ξ (.ref f)) (hk:PySem.W.keepIn X.K (.ref f)=true) (hb:M4 X.K fd ps [])
 (hdb:(x==("__debug__":Str))=false:=by decide):
 EE X (.Call (.Name x p) [] [] pos) (λ_=>g []):=
 r9 (b5y G hr hg hm hk hb .nil b0x hdb) λσ H Q h0=>n8 h0 λF ρ r he hm k=>by
  exact⟨F,[],r,he.fh,rfl,rfl,hm,k⟩
theorem d8:∀ρ ps,a8 ρ=ξ ps->ps.length=0:=λ_ _ h=>by cases h;rfl
theorem a9{m:M}{r:MA}{n:Nat}(h:∀ρ ps,r ρ=ξ ps->ps.length=n):∀ρ ps,a4 m r ρ=ξ ps->ps.length=n+1:=λρ ps e=>by
 obtain⟨p,e1,e⟩:=bind_some e;obtain⟨qs,e3,e⟩:=bind_some e;cases e;rw [AU,h ρ qs e3]
end
mutual
def a1E(K:AE):Nat->AB->Option PV
 |0,_=>ζ
 |_+1,.none=>ξ .none
 |_+1,.bool b=>ξ (.bool b)
 |_+1,.int i _=>ξ (.int i)
 |_+1,.str x _=>ξ (.str x)
 |n+1,.ref a=>match K.lookup a with
  |some ⟨.type "tuple",_,.seq its _,_⟩=>if its.size<=1000 then(a3G K n its.toList).map .tuple else ζ
  |some ⟨.type "list",ζ,.seq its _,_⟩=>if its.size<=1000 then(a3G K n its.toList).map .list else ζ
  |_=>ζ
 |_+1,_=>ζ
def a3G(K:AE):Nat->List AB->Option (List PV)
 |0,_=>ζ
 |_+1,[]=>ξ []
 |n+1,u::us=>(a1E K n u).bind λp=>(a3G K n us).bind λps=>ξ (p::ps)
end
theorem a68{n:Nat}(h:n<=1000):n<=AM:=Ax (b39 h)
theorem b4k(K:AE):∀(n:Nat),(∀(u:AB) (p:PV),a1E K n u=ξ p->∃v,l8 v u/\∀H,C0 K H p v)/\(∀(us:List AB) (ps:List PV),a3G K n us=ξ ps->∃vs,l9 vs us/\∀H,j4 K H ps vs):=by
 intro n
 induction n with
 |zero=>exact⟨λu p h=>by simp [a1E] at h,λu p h=>by simp [a3G] at h⟩
 |succ n ih=>
  constructor
  ·intro u p h;cases u with
   |none=>simp only [a1E] at h;cases h;exact⟨.non,rfl,λ_=>rfl⟩
   |bool b=>simp only [a1E] at h;cases h;exact⟨.bl b,rfl,λ_=>rfl⟩
   |int i t=>simp only [a1E] at h;cases h;exact⟨.int i,⟨t,rfl⟩,λ_=>rfl⟩
   |str x t=>simp only [a1E] at h;cases h;exact⟨.str x,⟨t,rfl⟩,λ_=>rfl⟩
   |ref a=>
    simp only [a1E] at h;split at h
    ·rename_i d its m sl e;split at h
     ·rename_i c;cases q:a3G K n its.toList with
      |none=>rw [q] at h;cases h
      |some ps=>
       rw [q] at h;cases h;obtain⟨vs,h1,h2⟩:=ih.2 _ _ q;exact⟨.ref a,rfl,λH=>⟨a,vs,rfl,.inr ⟨_,its,m,e,rfl,rfl,a68 c,h1⟩,h2 H⟩⟩
     ·cases h
    ·rename_i its m sl e;split at h
     ·rename_i c;cases q:a3G K n its.toList with
      |none=>rw [q] at h;cases h
      |some ps=>
       rw [q] at h;cases h;obtain⟨vs,h1,h2⟩:=ih.2 _ _ q;exact⟨.ref a,rfl,λH=>⟨a,vs,rfl,.inr ⟨_,its,m,e,rfl,rfl,rfl,a68 c,h1⟩,h2 H⟩⟩
     ·cases h
    ·cases h
   |_=>simp [a1E] at h
  ·intro us ps h;cases us with
   |nil=>simp only [a3G] at h;cases h;exact⟨[],.nil,λ_=>rfl⟩
   |cons u us=>
    simp only [a3G] at h;obtain⟨p,e1,h⟩:=bind_some h;obtain⟨qs,e2,h⟩:=bind_some h;cases h;obtain⟨v,r1,r2⟩:=ih.1 _ _ e1;obtain⟨vs,r3,r4⟩:=ih.2 _ _ e2;exact⟨v::vs,.cons r1 r3,λH=>⟨v,vs,rfl,r2 H,r4 H⟩⟩
section
variable {X:Cx}
theorem a8S{x:Str}{u:AB}{p:PV}{pos:Pos}{n:Nat}(hg:Gl X x)(hm:X.mg x=ξ u)(ha:a1E X.K n u=ξ p)(hd:(x==("__debug__":Str))=false:=by decide):EE X (.Name x pos) (mC p):=by
 obtain⟨v,r,h⟩:=(b4k X.K n).1 u p ha;exact a0N (W3 hg hm r hd) h
def c0l:PV->Option n5
 | .int i=>ξ (.inl i)
 | .str x=>ξ (.inr x)
 |_=>ζ
def a8b:List DictEntry->Option (List (n5×AB))
 |[]=>ξ []
 |e::es=>match e.key with
  | .int i _=>(a8b es).map λr=>(.inl i,e.val)::r
  | .str x _=>(a8b es).map λr=>(.inr x,e.val)::r
  |_=>ζ
theorem a5e{P:AJ}{w:AI}:∀{es:List DictEntry} {kvs:List (n5×AB)},a8b es=ξ kvs->es.map (·.hash)=kvs.map (λkv=>c0k w kv.1)->Pairs (v0 P w) es kvs/\∀e∈es,∃k,(v0 P w).is k e.key=true/\e.hash=(v0 P w).hash k
 |[],_,h,_=>by cases h;exact⟨.nil,λ_ h=>nomatch h⟩
 |e::es,kvs,h,hh=>by
  simp only [a8b] at h;split at h
  ·rename_i i t ek;cases q:a8b es with
   |none=>rw [q] at h;cases h
   |some r=>
    rw [q] at h;cases h;simp only [AS,List.cons.injEq] at hh;obtain⟨h1,h2⟩:=a5e q hh.2;have hi:(v0 P w).is (.inl i) e.key=true:=by rw [ek];exact a5m P w i t
    exact⟨.cons hi rfl h1,λe' he=>(Ag.mp he).elim (λz=>by subst z;exact⟨_,hi,hh.1⟩) (h2 e')⟩
  ·rename_i x t ek;cases q:a8b es with
   |none=>rw [q] at h;cases h
   |some r=>
    rw [q] at h;cases h;simp only [AS,List.cons.injEq] at hh;obtain⟨h1,h2⟩:=a5e q hh.2;have hi:(v0 P w).is (.inr x) e.key=true:=by rw [ek];exact a5n P w x t
    exact⟨.cons hi rfl h1,λe' he=>(Ag.mp he).elim (λz=>by subst z;exact⟨_,hi,hh.1⟩) (h2 e')⟩
  ·cases h
def a3H{κ:Type}(K:AE)(n:Nat):List (κ×AB)->Option (List (κ×PV))
 |[]=>ξ []
 |(k,u)::r=>(a1E K n u).bind λp=>(a3H K n r).bind λt=>ξ ((k,p)::t)
def b5e{κ:Type}[DecidableEq κ](tbl:List (κ×PV))(k:κ):Option PV:=match tbl with
 |[]=>ζ
 |(k',p)::r=>if k'=k then ξ p else b5e r k
theorem b3K{K:AE}{n:Nat}{k:n5}:∀{kvs:List (n5×AB)} {tbl:List (n5×PV)} {p:PV},a3H K n kvs=ξ tbl->b5e tbl k=ξ p->∃u,valueAt kvs k=ξ u/\a1E K n u=ξ p
 |[],_,_,h,e=>by cases h;cases e
 |(k',u)::r,tbl,p,h,e=>by
  simp only [a3H] at h;obtain⟨q,e1,h⟩:=bind_some h;obtain⟨t,e2,h⟩:=bind_some h;cases h;simp only [b5e] at e;split at e
  ·rename_i c;cases e;exact⟨u,by simp [valueAt,List.find?_cons,c],e1⟩
  ·rename_i c;obtain⟨u',h1,h2⟩:=b3K e2 e;refine⟨u', ?_,h2⟩
   simpa [valueAt,List.find?_cons,c] using h1
def a6v:List PV->Option (List n5)
 |[]=>ξ []
 |p::ps=>(c0l p).bind λk=>(a6v ps).bind λks=>ξ (k::ks)
abbrev MT:=b0->Option Bool
def tMT(K:AE)(c:MT):TT:=λσ H Q=>∃F ρ b,A5 K F H σ ρ/\c ρ=ξ b/\∀F' H',O8 F H F' H'->Q b H'
abbrev ET(X:Cx)(e:AF)(c:MT):Prop:=PT X e (tMT X.K c)
abbrev EW(X:Cx)(e:AF)(c:MT):Prop:=PW X e (tMT X.K c)
def b32:c6->Option Bool
 | .v (.bool b)=>ξ b
 |_=>ζ
def tru(r:c6):Option Bool:=match r.rd with
 | .none=>ξ false
 | .bool b=>ξ b
 | .int i=>ξ (i !=0)
 | .str z=>if z.length<=AM then ξ ((z.length:Int) !=0) else ζ
 | .list ps=>ξ (!ps.isEmpty)
 | .tuple ps=>ξ (!ps.isEmpty)
 | .dict _=>ζ
def mtV(m:M):MT:=λρ=>(m ρ).bind tru
def r6(m:M):MT:=λρ=>(m ρ).bind b32
theorem j4.empty{K:AE}{H:Hp}{ps:List PV}{vs:List V}(r:j4 K H ps vs):vs.isEmpty=ps.isEmpty:=by
 cases ps with
 |nil=>cases r;rfl
 |cons p ps=>obtain⟨_,_,e,_⟩:=r;subst e;rfl
theorem b7I{H:Hp}{r:c6}{v:V}{b:Bool}(h:C0 X.K H r.rd v)(e:tru r=ξ b):b8m X.K v H b:=by
 unfold tru at e;cases hp:r.rd with
 |none=>rw [hp] at h e;cases h;cases e;exact rfl
 |bool k=>rw [hp] at h e;cases h;cases e;exact rfl
 |int i=>rw [hp] at h e;cases h;cases e;exact rfl
 |str z=>
  rw [hp] at h e;cases h;dsimp only at e;split at e
  ·rename_i c;cases e;exact⟨c,rfl⟩
  ·cases e
 |list ps=>rw [hp] at h e;obtain⟨a,xs,rfl,hq,rl⟩:=h;cases e;exact .inl ⟨xs,hq,by rw [rl.empty]⟩
 |tuple ps=>rw [hp] at h e;obtain⟨a,xs,rfl,hq,rl⟩:=h;cases e;exact .inr (.inl ⟨xs,hq.sq,by rw [rl.empty]⟩)
 |dict _=>rw [hp] at e;cases e
theorem N4{e:AF}{m:M}(h:EE X e m)(he:∀whole,isTrue e X.env whole=(do let v<-whole;standAt e.pos;holding [v] (truthy v)):=by intro _;rfl):ET X e (mtV m):=
 a4T (b5J h he) λσ H Q h0=>n8 h0 λF ρ b h1 h2 k=>by
  obtain⟨r,e1,e2⟩:=bind_some h2;exact⟨F,ρ,r,h1,e1,λv F1 H1 o=>⟨b,b7I (o.rep.rd o.x.fh) e2,k F1 H1 o.x⟩⟩
theorem a18{K:AE}{F H:Hp}{r:c6}{v:V}{b:Bool}(h:O9 K F H v r)(e:b32 r=ξ b):v= .bl b:=by
 unfold b32 at e;split at e
 ·cases e;exact h
 ·cases e
theorem b8I{a b:AF}{ma mb:M}{pos:Pos}{op:CmpOp}{g:c6->c6->Option c6}(ho:OpM X (compareOp op) g)(ha:EE X a ma)(hb:EE X b mb)(hm:behindInMarks op b=false):ET X (.Compare a [op] [b] pos) (r6 (m2 g ma mb)):=
 a4T (b7n ho ha hb hm) λσ H Q h0=>n8 h0 λF ρ k h1 h2 q=>by
  obtain⟨r,e1,e2⟩:=bind_some h2;exact a9E ⟨F,ρ,r,h1,e1,λv F1 H1 o=>⟨k,a18 o.rep e2,q F1 H1 o.x⟩⟩
def a0o(c:MT):MT:=λρ=>(c ρ).map not
theorem a4B{a:AF}{c:MT}{pos:Pos}(ha:ET X a c):ET X (.UnaryOp .Not a pos) (a0o c):=
 a4T (b9C ha) λσ H Q h0=>n8 h0 λF ρ k h1 h2 q=>by
  unfold a0o at h2;cases e:c ρ with
  |none=>rw [e] at h2;cases h2
  |some b=>rw [e] at h2;cases h2;exact⟨F,ρ,b,h1,e,q⟩
def K6(c d:MT):MT:=λρ=>(c ρ).bind λb=>if b=true then d ρ else ξ false
def Z9(c d:MT):MT:=λρ=>(c ρ).bind λb=>if b=true then ξ true else d ρ
theorem a3R{a:AF}{c:MT}{pos:Pos}(ha:ET X a c):EW X (.BoolOp .And [a] pos) c:=b7o ha
theorem Y0{a:AF}{c:MT}{pos:Pos}(ha:ET X a c):EW X (.BoolOp .Or [a] pos) c:=b9G ha
theorem a6f{a b:AF}{rest:List AF}{c d:MT}{pos:Pos}(ha:ET X a c)(hb:EW X (.BoolOp .And (b::rest) pos) d):EW X (.BoolOp .And (a::b::rest) pos) (K6 c d):=
 b5L (b9F ha hb) λσ H Q h0=>n8 h0 λF ρ k h1 h2 q=>by
  obtain⟨b,e1,e2⟩:=bind_some h2;refine⟨F,ρ,b,h1,e1,λF1 H1 x=> ?_⟩;cases b with
  |true=>exact a82 ⟨F1,ρ,k,h1.ext x,e2,λF2 H2 y=>q F2 H2 (x.trans y)⟩
  |false=>cases e2;exact a81 (q F1 H1 x)
theorem a1t{a b:AF}{rest:List AF}{c d:MT}{pos:Pos}(ha:ET X a c)(hb:EW X (.BoolOp .Or (b::rest) pos) d):EW X (.BoolOp .Or (a::b::rest) pos) (Z9 c d):=
 b5L (c0z ha hb) λσ H Q h0=>n8 h0 λF ρ k h1 h2 q=>by
  obtain⟨b,e1,e2⟩:=bind_some h2;refine⟨F,ρ,b,h1,e1,λF1 H1 x=> ?_⟩;cases b with
  |false=>exact a81 ⟨F1,ρ,k,h1.ext x,e2,λF2 H2 y=>q F2 H2 (x.trans y)⟩
  |true=>cases e2;exact a82 (q F1 H1 x)
def b1G(m n:M):M:=λρ=>(m ρ).bind λr=>(b32 r).bind λb=>if b=true then n ρ else ξ (.v (.bool false))
def mOr(m n:M):M:=λρ=>(m ρ).bind λr=>(b32 r).bind λb=>if b=true then ξ (.v (.bool true)) else n ρ
def b5h(m:M):M:=λρ=>(m ρ).bind λr=>(b32 r).bind λb=>ξ (.v (.bool (!b)))
theorem b1l{op:BoolOp}{a:AF}{m:M}{pos:Pos}(h:EE X a m):EE X (.BoolOp op [a] pos) m:=b9x h
theorem b4w{a b:AF}{rest:List AF}{m n:M}{pos:Pos}(ha:EE X a m)(hb:EE X (.BoolOp .And (b::rest) pos) n):EE X (.BoolOp .And (a::b::rest) pos) (b1G m n):=
 r9 (b9q ha hb) λσ H Q h0=>n8 h0 λF ρ r h1 h2 q=>by
  obtain⟨r1,e1,h2⟩:=bind_some h2;obtain⟨b,e2,h2⟩:=bind_some h2;refine⟨F,ρ,r1,h1,e1,λv F1 H1 o=>⟨b,a18 o.rep e2, ?_⟩⟩;cases b with
  |true=>exact a82 ⟨F1,ρ,r,h1.ext o.x,h2,λw F2 H2 y=>q w F2 H2 (u6.trans o.x y)⟩
  |false=>cases h2;exact a81 (q _ F1 H1 (u6.val o.x rfl))
theorem c0b{a b:AF}{rest:List AF}{m n:M}{pos:Pos}(ha:EE X a m)(hb:EE X (.BoolOp .Or (b::rest) pos) n):EE X (.BoolOp .Or (a::b::rest) pos) (mOr m n):=
 r9 (c0x ha hb) λσ H Q h0=>n8 h0 λF ρ r h1 h2 q=>by
  obtain⟨r1,e1,h2⟩:=bind_some h2;obtain⟨b,e2,h2⟩:=bind_some h2;refine⟨F,ρ,r1,h1,e1,λv F1 H1 o=>⟨b,a18 o.rep e2, ?_⟩⟩;cases b with
  |false=>exact a81 ⟨F1,ρ,r,h1.ext o.x,h2,λw F2 H2 y=>q w F2 H2 (u6.trans o.x y)⟩
  |true=>cases h2;exact a82 (q _ F1 H1 (u6.val o.x rfl))
theorem b8C{a:AF}{m:M}{pos:Pos}(ha:EE X a m):EE X (.UnaryOp .Not a pos) (b5h m):=
 r9 (b9w ha) λσ H Q h0=>n8 h0 λF ρ r h1 h2 q=>by
  obtain⟨r1,e1,h2⟩:=bind_some h2;obtain⟨b,e2,h2⟩:=bind_some h2;cases h2;exact⟨F,ρ,r1,h1,e1,λv F1 H1 o=>⟨b,a18 o.rep e2,q _ F1 H1 (u6.val o.x rfl)⟩⟩
end
inductive Fl where
 |nx (ρ:b0)|rt (r:c6)|bk (ρ:b0)|ct (ρ:b0)
abbrev MS:=b0->Option Fl
structure SOk(K:AE)(F0 H0 F H:Hp)(σ:L2.St)(ρ:b0):Prop where
 x:O8 F0 H0 F H
 e:A5 K F H σ ρ
 nw:∀(i:Nat) (c:a0H) (a:AA),ρ[i]?=ξ (ξ (.ow c))->σ[i]?=ξ (ξ (.ref a))->H0 a=ζ
def Fin(K:AE)(F0 H0 F:Hp)(D:O7):Fl->Prop
 | .nx ρ=>∀σ' F' H',j2 F F'->SOk K F0 H0 F' H' σ' ρ->D.nx σ' H'
 | .rt r=>∀v F' H',u6 K F0 H0 F' H' v r->D.rt v H'
 | .bk ρ=>∀σ' F' H',j2 F F'->SOk K F0 H0 F' H' σ' ρ->D.bk σ' H'
 | .ct ρ=>∀σ' F' H',j2 F F'->SOk K F0 H0 F' H' σ' ρ->D.ct σ' H'
theorem Fin.later{K:AE}{F0 H0 F F1:Hp}{D:O7}(s:j2 F F1):∀{fl:Fl},Fin K F0 H0 F D fl->Fin K F0 H0 F1 D fl
 | .nx _,h=>λσ' F' H' s' so=>h σ' F' H' (s.trans s') so
 | .rt _,h=>h
 | .bk _,h=>λσ' F' H' s' so=>h σ' F' H' (s.trans s') so
 | .ct _,h=>λσ' F' H' s' so=>h σ' F' H' (s.trans s') so
def tMS(K:AE)(m:MS):TS:=λD σ H=>∃F0 H0 F ρ fl,SOk K F0 H0 F H σ ρ/\m ρ=ξ fl/\Fin K F0 H0 F D fl
theorem K8{K:AE}{m:MS}{D:O7}{σ:L2.St}{H:Hp}{C:Prop}(h:tMS K m D σ H)(k:∀F0 H0 F ρ fl,SOk K F0 H0 F H σ ρ->m ρ=ξ fl->Fin K F0 H0 F D fl->C):C:=
 h.elim λa h=>h.elim λb h=>n8 h (k a b)
abbrev ES(X:Cx)(st:Stmt)(m:MS):Prop:=PS X st (tMS X.K m)
abbrev ESs(X:Cx)(st:List Stmt)(m:MS):Prop:=PSs X st (tMS X.K m)
theorem SOk.ext{K:AE}{F0 H0 F H F' H':Hp}{σ:L2.St}{ρ:b0}(s:SOk K F0 H0 F H σ ρ)(x:O8 F H F' H'):SOk K F0 H0 F' H' σ ρ:=⟨s.x.trans x,s.e.ext x,s.nw⟩
def c6.nb:c6->Bool
 | .bo _=>false
 |_=>true
theorem SOk.set{K:AE}{F0 H0 F H F' H':Hp}{σ:L2.St}{ρ:b0}{v:V}{r:c6}(s:SOk K F0 H0 F H σ ρ)(o:u6 K F H F' H' v r)(hb:r.nb=true)(i:Nat):SOk K F0 H0 F' H' (σ.set i (ξ v)) (ρ.set i (ξ r)):=by
 have s1:=s.ext o.x;have le:=s.e.len;refine⟨s1.x,⟨s1.e.fh,by simp [le],λj q e=> ?_,λj ps e=> ?_,λj k ps qs a hjk e1 e2 e3 e4=> ?_⟩,λj ps a e1 e2=> ?_⟩
 ·rw [List.getElem?_set] at e ⊢
  by_cases hij:i=j
  ·subst hij;rw [if_pos rfl] at e ⊢;rw [le];split at e
   ·rename_i c;cases e;rw [if_pos c];exact⟨v,rfl,o.rep⟩
   ·cases e
  ·rw [if_neg hij] at e ⊢;exact s1.e.at_ j q e
 ·rw [List.getElem?_set] at e
  by_cases hij:i=j
  ·subst hij;rw [if_pos rfl] at e;split at e
   ·cases e;cases hb
   ·cases e
  ·rw [if_neg hij] at e;exact s1.e.nb j ps e
 ·rw [List.getElem?_set] at e1 e2 e3 e4
  by_cases hij:i=j
  ·subst hij;rw [if_pos rfl] at e1 e3;rw [if_neg hjk] at e2 e4;split at e1
   ·cases e1;split at e3
    ·cases e3;have fr:=o.fr ps a rfl rfl;obtain⟨w,h1,rr⟩:=s.e.at_ k _ e2;obtain⟨a',xs,h2,_,h3⟩:=Z7.at_ rr;rw [e4] at h1;cases h1;cases h2;rw [fr] at h3;cases h3
    ·cases e3
   ·cases e1
  ·rw [if_neg hij] at e1 e3
   by_cases hik:i=k
   ·subst hik;rw [if_pos rfl] at e2 e4;split at e2
    ·cases e2;split at e4
     ·cases e4;have fr:=o.fr qs a rfl rfl;obtain⟨w,h1,rr⟩:=s.e.at_ j _ e1;obtain⟨a',xs,h2,_,h3⟩:=Z7.at_ rr;rw [e3] at h1;cases h1;cases h2;rw [fr] at h3;cases h3
     ·cases e4
    ·cases e2
   ·rw [if_neg hik] at e2 e4;exact s1.e.ap j k ps qs a hjk e1 e2 e3 e4
 ·rw [List.getElem?_set] at e1 e2
  by_cases hij:i=j
  ·subst hij;rw [if_pos rfl] at e1 e2;split at e1
   ·cases e1;split at e2
    ·cases e2;exact s.x.h.free (o.fr ps a rfl rfl)
    ·cases e2
   ·cases e1
  ·rw [if_neg hij] at e1 e2;exact s.nw j ps a e1 e2
section
variable {X:Cx}
def j0:MS:=λρ=>ξ (.nx ρ)
def g8(m n:MS):MS:=λρ=>(m ρ).bind λfl=>match fl with
 | .nx ρ'=>n ρ'
 |f=>ξ f
theorem i8:ESs X [] j0:=a4b K0 λD σ H h0=>K8 h0 λF0 H0 F ρ fl so e fin=>by
 cases e;exact fin σ F H (PU.j2.refl F) so
theorem b9{st:Stmt}{rest:List Stmt}{m n:MS}(h1:ES X st m)(h2:ESs X rest n):ESs X (st::rest) (g8 m n):=
 a4b (p0 h1 h2) λD σ H h0=>K8 h0 λF0 H0 F ρ fl so e fin=>by
  obtain⟨f1,e1,e⟩:=bind_some e;cases f1 with
  |nx ρ'=>exact⟨F0,H0,F,ρ,.nx ρ',so,e1,λσ' F' H' s so'=>⟨F0,H0,F',ρ',fl,so',e,fin.later s⟩⟩
  |rt r=>cases e;exact⟨F0,H0,F,ρ,_,so,e1,fin⟩
  |bk r=>cases e;exact⟨F0,H0,F,ρ,_,so,e1,fin⟩
  |ct r=>cases e;exact⟨F0,H0,F,ρ,_,so,e1,fin⟩
theorem d4{st:Stmt}{m:MS}(h1:ES X st m):ESs X [st] m:=a9z h1
def l7(i:Nat)(m:M):MS:=λρ=>(m ρ).bind λr=>if r.nb=true then ξ (.nx (ρ.set i (ξ r))) else ζ
theorem j1{i:Nat}{x:Str}{e:AF}{m:M}{pos pos':Pos}(hN:X.N.Nodup)(he:EE X e m)(hi:X.N[i]?=ξ x:=by rfl)(hx:Loc X.env.scope x:=by exact Or.inl rfl)(hs:swapsWith e (ξ (.Name x pos')) pos.line X.env=pure false:=by rfl)(hf:X.fn x=true\/X.env.scope.names.lookup x=ξ .local:=by first|exact .inl rfl|exact .inr rfl|assumption):
 ES X (.Assign [.Name x pos'] e pos) (l7 i m):=
 w8 (b5H hN hi hx he hs hf) λD σ H h0=>K8 h0 λF0 H0 F ρ fl so e fin=>by
  ext r
  split at e
  ·rename_i c;cases e;exact⟨F,ρ,r,so.e,e1,λv F' H' o=>fin _ F' H' o.x.f (so.set o c i)⟩
  ·cases e
def m4(m:M):MS:=λρ=>(m ρ).bind λr=>if r.nb=true then ξ (.rt r) else ζ
theorem i7{e:AF}{m:M}{pos:Pos}(he:EE X e m):ES X (.Return (ξ e) pos) (m4 m):=
 w8 (a9y he) λD σ H h0=>K8 h0 λF0 H0 F ρ fl so e fin=>by
  ext r
  split at e
  ·rename_i c;cases e;exact⟨F,ρ,r,so.e,e1,λv F' H' o=>fin v F' H' (u6.trans so.x o)⟩
  ·cases e
def V4(i:Nat):MS:=λρ=>match ρ[i]? with
 |some (ξ r)=>ξ (.rt r)
 |_=>ζ
theorem R7(i:Nat){x:Str}{p pos:Pos}(h:PE X (.Name x p) (a0a i)):ES X (.Return (ξ (.Name x p)) pos) (V4 i):=
 w8 (a9y h) λD σ H h0=>K8 h0 λF0 H0 F ρ fl so e fin=>by
  unfold V4 at e;split at e
  ·rename_i r er;cases e;obtain⟨v,e1,rr⟩:=so.e.at_ i _ er;exact⟨v,e1,fin v F H ⟨so.x,rr,λps a z1 z2=>by subst z1;subst z2;exact so.nw i ps a er e1⟩⟩
  ·cases e
def n3(c:MT)(m n:MS):MS:=λρ=>(c ρ).bind λb=>if b=true then m ρ else n ρ
theorem m6{c:AF}{a b:List Stmt}{mc:MT}{m n:MS}{pos:Pos}(hc:ET X c mc)(ha:ESs X a m)(hb:ESs X b n):ES X (.If c a b pos) (n3 mc m n):=
 w8 (b5G hc ha hb) λD σ H h0=>K8 h0 λF0 H0 F ρ fl so e fin=>by
  obtain⟨b,e1,e⟩:=bind_some e;refine⟨F,ρ,b,so.e,e1,λF1 H1 x=> ?_⟩;cases b with
  |true=>exact a82 ⟨F0,H0,F1,ρ,fl,so.ext x,e,fin.later x.f⟩
  |false=>exact a81 ⟨F0,H0,F1,ρ,fl,so.ext x,e,fin.later x.f⟩
def setAll{α:Type}:List (Option α)->List Nat->List α->List (Option α)
 |σ,i::is,x::xs=>setAll (σ.set i (ξ x)) is xs
 |σ,_,_=>σ
def a8X:List Nat->TGs
 |[]=>c0e
 |i::is=>b73 (a8h i) (a8X is)
theorem a4F:∀{is:List Nat} {xs:List V} {σ:L2.St} {H:Hp} {Q:L2.St->Hp->Prop},xs.length=is.length->Q (setAll σ is xs) H->a8X is xs σ H Q
 |[],[],_,_,_,_,q=>⟨rfl,q⟩
 |[],_::_,_,_,_,h,_=>by cases h
 |_::_,[],_,_,_,h,_=>by cases h
 |i::is,x::xs,σ,H,Q,h,q=>⟨x,xs,rfl,a4F (is:=is) (xs:=xs) (by simpa using h) q⟩
theorem SOk.setAll{K:AE}{F0 H0 F H:Hp}:∀{is:List Nat} {xs:List V} {ps:List PV} {σ:L2.St} {ρ:b0},SOk K F0 H0 F H σ ρ->j4 K F ps xs->SOk K F0 H0 F H (PU.setAll σ is xs) (PU.setAll ρ is (ps.map .v))
 |[],xs,ps,σ,ρ,s,r=>by
  have e1:PU.setAll σ [] xs=σ:=by cases xs<;>rfl
  have e2:PU.setAll ρ [] (ps.map c6.v)=ρ:=by cases ps<;>rfl
  rw [e1,e2];exact s
 |i::is,xs,[],σ,ρ,s,r=>by cases r;exact s
 |i::is,xs,p::ps,σ,ρ,s,⟨v,t,e,rp,rl⟩=>by
  subst e;exact SOk.setAll (is:=is) (s.set (u6.here s.e.fh rp) rfl i) rl
def b3N(is:List Nat)(m:M):MS:=λρ=>(m ρ).bind λr=>match r with
 | .v (.tuple ps)=>if ps.length=is.length then ξ (.nx (setAll ρ is (ps.map .v))) else ζ
 |_=>ζ
theorem b8H{is:List Nat}{es:List AF}{k:Nat}{e:AF}{m:M}{pos tpos:Pos}(hc:X.calm=true)(he:EE X e m)(hg:PGs X es (a8X is))
 (hn:(assignEach es X.env).length=is.length:=by rfl) (hst:(assignEach es X.env).findIdx? (·.1)=ζ:=by rfl)
 (hs:swapsWithSole [.Tuple es k tpos] e pos.line X.env=pure false:=by rfl) (hw:swappedStores [.Tuple es k tpos] e X.env=pure ζ:=by rfl)
 (h1:(assignEach [.Tuple es k tpos] X.env).map (·.2)=[assign (.Tuple es k tpos) X.env]:=by rfl):ES X (.Assign [.Tuple es k tpos] e pos) (b3N is m):=
 w8 (b9A he (b5D hc hg hn hst) hs hw h1) λD σ H h0=>K8 h0 λF0 H0 F ρ fl so e fin=>by
  ext r
  split at e
  ·rename_i ps;split at e
   ·rename_i c;cases e;refine⟨F,ρ,_,so.e,e1,λv F' H' o=> ?_⟩;obtain⟨a,xs,rfl,hq,rl⟩:=o.rep;have hl:xs.length=is.length:=by rw [rl.length];exact c
    exact⟨a,xs,rfl,t4 o.x.fh hq.sq,hl,a4F hl (fin _ F' H' o.x.f ((so.ext o.x).setAll rl))⟩
   ·cases e
  ·cases e
def v7(body:MS)(tg:PV->b0->Option b0):List PV->b0->Option Fl
 |[],ρ=>ξ (.nx ρ)
 |p::ps,ρ=>(tg p ρ).bind λρ1=>(body ρ1).bind λfl=>match fl with
  | .nx ρ'=>v7 body tg ps ρ'
  | .ct ρ'=>v7 body tg ps ρ'
  | .bk ρ'=>ξ (.nx ρ')
  | .rt r=>ξ (.rt r)
def d7(i:Nat):PV->b0->Option b0:=λp ρ=>ξ (ρ.set i (ξ (.v p)))
def a4o(is:List Nat):PV->b0->Option b0:=λp ρ=>match p with
 | .tuple ps=>if ps.length=is.length then ξ (setAll ρ is (ps.map .v)) else ζ
 |_=>ζ
def a5A(K:AE)(g:TG)(tg:PV->b0->Option b0):Prop:=
 ∀F0 H0 F H σ ρ ρ1 p x (Q:L2.St->Hp->Prop),SOk K F0 H0 F H σ ρ->C0 K F p x->tg p ρ=ξ ρ1->(∀σ',SOk K F0 H0 F H σ' ρ1->Q σ' H)->g x σ H Q
theorem D4{K:AE}(i:Nat):a5A K (a8h i) (d7 i):=λF0 H0 F H σ ρ ρ1 p x Q so r e k=>by
 cases e;exact k _ (so.set (u6.here so.e.fh r) rfl i)
theorem b52{K:AE}(is:List Nat):a5A K (c0f K is.length (a8X is)) (a4o is):=λF0 H0 F H σ ρ ρ1 p x Q so r e k=>by
 unfold a4o at e;split at e
 ·split at e
  ·rename_i c;cases e;obtain⟨a,xs,rfl,hq,rl⟩:=r;have hl:xs.length=is.length:=by rw [rl.length];exact c
   exact⟨a,xs,rfl,t4 so.e.fh hq.sq,hl,a4F hl (k _ (so.setAll rl))⟩
  ·cases e
 ·cases e
theorem a8d{body:MS}{tg:PV->b0->Option b0}{ps:List PV}{p:PV}{ρ:b0}{fl:Fl}(h:v7 body tg (p::ps) ρ=ξ fl):∃ρ1 f1,tg p ρ=ξ ρ1/\body ρ1=ξ f1/\(match f1 with
 | .nx ρ'=>v7 body tg ps ρ'
 | .ct ρ'=>v7 body tg ps ρ'
 | .bk ρ'=>ξ (.nx ρ')
 | .rt r=>ξ (.rt r))=ξ fl:=by
 unfold v7 at h
 obtain⟨ρ1,e1,h⟩:=bind_some h
 obtain⟨f1,e2,h⟩:=bind_some h
 exact⟨ρ1,f1,e1,e2,h⟩
def PvL(K:AE)(F0 H0 F1:Hp)(body:MS)(tg:PV->b0->Option b0)(ps:List PV)(fl:Fl)(k:Nat)(σ:L2.St)(H:Hp):Prop:=
 ∃F ρ,j2 F1 F/\SOk K F0 H0 F H σ ρ/\v7 body tg (ps.drop k) ρ=ξ fl
theorem a2y{K:AE}{F0 H0 F1:Hp}{body:MS}{tg:PV->b0->Option b0}{g:TG}{ps:List PV}{fl:Fl}{D:O7}{k:Nat}{p:PV}{x:V}{σ:L2.St}{H:Hp}(T:a5A K g tg)(fin:Fin K F0 H0 F1 D fl)(ep:ps[k]?=ξ p)
 (hp:PvL K F0 H0 F1 body tg ps fl k σ H) (rx:∀F,j2 F1 F->C0 K F p x):
 g x σ H λσ2 H2=>tMS K body {D with nx:=PvL K F0 H0 F1 body tg ps fl (k+1),ct:=PvL K F0 H0 F1 body tg ps fl (k+1),bk:=D.nx} σ2 H2:=by
 obtain⟨F,ρ,s,so,e⟩:=hp
 have hk:k<ps.length:=(Ac.mp ep).1
 have hd:ps.drop k=p::ps.drop (k+1):=by
  rw [List.drop_eq_getElem_cons hk]
  congr 1
  exact(Ac.mp ep).2
 rw [hd] at e
 obtain⟨ρ1,f1,e1,e2,e3⟩:=a8d e
 refine T F0 H0 F H σ ρ ρ1 p x _ so (rx F s) e1 λσ' so'=>⟨F0,H0,F,ρ1,f1,so',e2, ?_⟩
 cases f1 with
 |nx ρ'=>exact λσ2 F2 H2 s2 so2=>⟨F2,ρ',s.trans s2,so2,e3⟩
 |ct ρ'=>exact λσ2 F2 H2 s2 so2=>⟨F2,ρ',s.trans s2,so2,e3⟩
 |bk ρ'=>cases e3;exact λσ2 F2 H2 s2 so2=>fin σ2 F2 H2 (s.trans s2) so2
 |rt r=>cases e3;exact fin
theorem a35{K:AE}{F0 H0 F1:Hp}{body:MS}{tg:PV->b0->Option b0}{ps:List PV}{fl:Fl}{D:O7}{σ:L2.St}{H:Hp}(fin:Fin K F0 H0 F1 D fl)
 (hp:PvL K F0 H0 F1 body tg ps fl ps.length σ H):D.nx σ H:=by
 obtain⟨F,ρ,s,so,e⟩:=hp
 rw [List.drop_length] at e
 cases e
 exact fin σ F H s so
abbrev MI:=b0->Option (List PV)
def a3n(m:M):MI:=λρ=>((m ρ).bind c6.toVal).bind PyData.items?
def c02(K:AE)(tl:TE):TI:=λσ H R=>tl σ H λx H1=>∃a,x= .ref a/\(((∃xs,SqL K H1 a xs)/\R (Itl K a) H1)\/((∃xs,SqT K H1 a xs)/\R (Itt K a) H1))
theorem a9w{tg l:AF}{tl:TE}(hl:PE X l tl):PI X tg l (c02 X.K tl):=by
 intro pins s σ H R I h;refine D5 (hl pins s σ H _ I h) λv s1 h0=>k9 h0 λx H1 I1 r1 q1=> ?_;obtain⟨a,e,q⟩:=q1;subst e;cases r1;rcases q with⟨⟨xs,hq⟩,q⟩|⟨⟨xs,hq⟩,q⟩
 ·obtain⟨its,rv,p,hz⟩:=I1.list hq;refine wpAny_pyIter_list p.isList ?_;refine⟨s1.heap.objs.size,[s1.heap.objs.size],_,_,H1,rfl,I1.kept (t':=s1.toks) λb o e=>AV _ e,b4c a _,⟨_,Ak _ rfl,rfl,rfl⟩,λb hb=> ?_,q⟩;have e:b=s1.heap.objs.size:=by simpa using hb
  subst e;exact I1.fpOk (AQ _) (I1.hok.fresh (AQ _))
 ·obtain⟨its,rv,p,hz⟩:=I1.tuple hq;refine wpAny_pyIter_tuple (show s1.heap.IsTuple a its.toArray from p) ?_;refine⟨s1.heap.objs.size,[s1.heap.objs.size],_,_,H1,rfl,I1.kept (t':=s1.toks) λb o e=>AV _ e,b18 a _,⟨_,Ak _ rfl,rfl,rfl⟩,λb hb=> ?_,q⟩;have e:b=s1.heap.objs.size:=by simpa using hb
  subst e;exact I1.fpOk (AQ _) (I1.hok.fresh (AQ _))
def O1(it:MI)(tg:PV->b0->Option b0)(body:MS):MS:=λρ=>(it ρ).bind λps=>v7 body tg ps ρ
theorem b4B{tg iter:AF}{body:List Stmt}{m:M}{g:TG}{t:PV->b0->Option b0}{b:MS}{pos:Pos}(hp:PassesOwn (model X.prog X.w) X.A X.env X.xe)(hc:X.calm=true)(hi:EE X iter m)(hg:PG X tg g)(T:a5A X.K g t)(hb:ESs X body b)
 (hs:∀x,foldedSetIterable iter X.env x=pure x:=by intro _;rfl):ES X (.For tg iter body [] pos) (O1 (a3n m) t b):=
 w8 (a3r hp hc (a9w hi) hg hb hs) λD σ H h0=>K8 h0 λF0 H0 F ρ fl so e fin=>by
  ext v
  have fin1:=fin.later o1.x.f;have so1:=so.ext o1.x;obtain⟨a,xs,rfl,hq,rl⟩:=Q3 (F:=F1) (H:=F1) (PU.j2.refl F1) (show O9 X.K F1 F1 v (.v q) from o1.rep) e2;have hlen:=rl.length;have get:∀k x,xs[k]?=ξ x->∃p,ps[k]?=ξ p/\∀F,j2 F1 F->C0 X.K F p x:=λk x ex=>by
   obtain⟨p,ep,rp⟩:=rl.getV ex;exact⟨p,ep,λF s=>C0.mono s _ rp⟩
  rcases hq with hq|hq
  ·refine⟨a,rfl,.inl ⟨⟨xs,A2 o1.x.fh hq⟩,a6k (K:=X.K) (a:=a) (xs:=xs) (PvL X.K F0 H0 F1 b t ps fl) ⟨F1,ρ,PU.j2.refl F1,so1,e⟩ (λk σ H _ ⟨F,_,s,so2,_⟩=>A2 (s.trans so2.e.fh) hq) (λk x σ H ex hp=> ?_) (λσ H hp=> ?_)⟩⟩
   ·obtain⟨p,ep,rp⟩:=get k x ex;exact a2y T fin1 ep hp rp
   ·rw [hlen] at hp;exact a35 fin1 hp
  ·refine⟨a,rfl,.inr ⟨⟨xs,t4 o1.x.fh hq⟩,b2v (K:=X.K) (a:=a) (xs:=xs) (PvL X.K F0 H0 F1 b t ps fl) ⟨F1,ρ,PU.j2.refl F1,so1,e⟩ (λk σ H _ ⟨F,_,s,so2,_⟩=>t4 (s.trans so2.e.fh) hq) (λk x σ H ex hp=> ?_) (λσ H hp=> ?_)⟩⟩
   ·obtain⟨p,ep,rp⟩:=get k x ex;exact a2y T fin1 ep hp rp
   ·rw [hlen] at hp;exact a35 fin1 hp
def Y8(lo hi:Int):List PV:=(Ab (hi - lo).toNat).map λk=> .int (lo+(k:Nat))
theorem b43:∃f:Int->Bool,∀j,f j=decide (-(2 ^ 62)<=j/\j<2 ^ 62):=⟨_,λ_=>rfl⟩
def inR:Int->Bool:=b43.choose
theorem b8X(j:Int):inR j=decide (-(2 ^ 62)<=j/\j<2 ^ 62):=b43.choose_spec j
theorem a1i{j:Int}:inR j=true↔(-(2 ^ 62)<=j/\j<2 ^ 62):=by rw [b8X,decide_eq_true_iff]
def B7(m:MA):MI:=λρ=>(m ρ).bind λps=>match ps with
 |[.int j]=>if inR j=true then ξ (Y8 0 j) else ζ
 |_=>ζ
def b2J(m:MA):MI:=λρ=>(m ρ).bind λps=>match ps with
 |[.int i,.int j]=>if inR i=true/\inR j=true then ξ (Y8 i j) else ζ
 |_=>ζ
theorem a4f{lo hi:Int}{k:Nat}(h:k<(hi - lo).toNat):(Y8 lo hi)[k]?=ξ (.int (lo+k)):=by
 simp [Y8,h]
theorem a19(lo hi:Int):(Y8 lo hi).length=(hi - lo).toNat:=by simp [Y8]
theorem a0P{tg a:AF}{body:List Stmt}{m:MA}{g:TG}{t:PV->b0->Option b0}{b:MS}{p rp pos:Pos}(hp:PassesOwn (model X.prog X.w) X.A X.env X.xe)(hc:X.calm=true)(hgl:Gl X "range")(hm:X.mg "range"=ζ)(ha:EA X [a] m)(hg:PG X tg g)(T:a5A X.K g t)(hb:ESs X body b)
 (hst:AL [a] X.env=[(false,eval a X.env)]:=by rfl) (hs:∀x,foldedSetIterable (.Call (.Name "range" p) [a] [] rp) X.env x=pure x:=by intro _;rfl):ES X (.For tg (.Call (.Name "range" p) [a] [] rp) body [] pos) (O1 (B7 m) t b):=
 w8 (a3r hp hc (a8r hgl hm ha hst) hg hb hs) λD σ H h0=>K8 h0 λF0 H0 F ρ fl so e fin=>by
  ext k
  ·rename_i j;split at e2
   ·rename_i c;have c:=a1i.mp c;cases e2;obtain⟨v,r,rfl,rv,rr⟩:=rl;cases rv;cases rr;have fin1:=fin.later x.f;have hz:(j - 0).toNat=j.toNat:=by lia
    refine⟨j,rfl,c.1,c.2,a4E (lo:=0) (n:=j.toNat) (PvL X.K F0 H0 F1 b t (Y8 0 j) fl) ⟨F1,ρ,PU.j2.refl F1,so.ext x,e⟩ (λk σ H hk hp=> ?_) (λσ H hp=> ?_)⟩
    ·exact a2y T fin1 (a4f (by lia)) hp λ_ _=>rfl
    ·have:j.toNat=(Y8 0 j).length:=by rw [a19,hz]
     rw [this] at hp;exact a35 fin1 hp
   ·cases e2
  ·cases e2
theorem b4C{tg a a2:AF}{body:List Stmt}{m:MA}{g:TG}{t:PV->b0->Option b0}{b:MS}{p rp pos:Pos}(hp:PassesOwn (model X.prog X.w) X.A X.env X.xe)(hc:X.calm=true)(hgl:Gl X "range")(hm:X.mg "range"=ζ)(ha:EA X [a,a2] m)(hg:PG X tg g)(T:a5A X.K g t)(hb:ESs X body b)
 (hst:AL [a,a2] X.env=[(false,eval a X.env),(false,eval a2 X.env)]:=by rfl) (hst2:AL [a2] X.env=[(false,eval a2 X.env)]:=by rfl) (hs:∀x,foldedSetIterable (.Call (.Name "range" p) [a,a2] [] rp) X.env x=pure x:=by intro _;rfl):
 ES X (.For tg (.Call (.Name "range" p) [a,a2] [] rp) body [] pos) (O1 (b2J m) t b):=
 w8 (a3r hp hc (b3V hgl hm ha hst hst2) hg hb hs) λD σ H h0=>K8 h0 λF0 H0 F ρ fl so e fin=>by
  ext k
  ·rename_i i j;split at e2
   ·rename_i c;have c:(-(2 ^ 62)<=i/\i<2 ^ 62)/\ -(2 ^ 62)<=j/\j<2 ^ 62:=⟨a1i.mp c.1,a1i.mp c.2⟩;cases e2;obtain⟨v,r,rfl,rv,v2,r2,rfl,rv2,rr⟩:=rl;cases rv;cases rv2;cases rr;have fin1:=fin.later x.f;refine⟨i,j,rfl,⟨c.1.1,c.1.2,c.2.1,c.2.2⟩,a4E (lo:=i) (n:=(j - i).toNat) (PvL X.K F0 H0 F1 b t (Y8 i j) fl) ⟨F1,ρ,PU.j2.refl F1,so.ext x,e⟩ (λk σ H hk hp=> ?_) (λσ H hp=> ?_)⟩
    ·exact a2y T fin1 (a4f hk) hp λ_ _=>rfl
    ·rw [<-a19 i j] at hp;exact a35 fin1 hp
   ·cases e2
  ·cases e2
def G5(n:Nat)(body:MS)(ps:List PV):Option c6:=(body (ps.map (λp=>ξ (c6.v p))++AO n ζ)).bind λfl=>match fl with
 | .rt r=>ξ r
 | .nx _=>ξ (.v .none)
 |_=>ζ
end
theorem b0N{K:AE}{F H:Hp}{ps:List PV}{vs:List V}(n:Nat)(s:j2 F H)(r:j4 K F ps vs):SOk K F H F H (vs.map ξ++AO n ζ) (ps.map (λp=>ξ (c6.v p))++AO n ζ):=by
 have hl:=r.length;have key:∀(i:Nat) (q:c6),(ps.map (λp=>ξ (c6.v p))++AO n ζ)[i]?=ξ (ξ q)->∃p v,q= .v p/\(vs.map ξ++AO n ζ)[i]?=ξ (ξ v)/\C0 K F p v:=by
  intro i q e
  by_cases h:i<ps.length
  ·rw [Ar (by simpa using h),Am] at e
   rw [Ar (by rw [AX,hl];exact h),Am]
   cases q':ps[i]? with
   |none=>rw [q'] at e;cases e
   |some p=>
    rw [q'] at e;cases e;obtain⟨v,h1,h2⟩:=r.get q';exact⟨p,v,rfl,by rw [h1];rfl,h2⟩
  ·rw [List.getElem?_append_right (by simpa using h),List.getElem?_replicate] at e
   split at e<;>cases e
 refine⟨O8.refl s,⟨s,by simp [hl],λi q e=> ?_,λi qs e=> ?_,λi j qs _ a _ e=> ?_⟩,λi qs a e=> ?_⟩
 ·obtain⟨p,v,rfl,h1,h2⟩:=key i q e;exact⟨v,h1,h2⟩
 ·obtain⟨p,v,z,_⟩:=key i _ e;cases z
 ·obtain⟨p,v,z,_⟩:=key i _ e;cases z
 ·obtain⟨p,v,z,_⟩:=key i _ e;cases z
theorem b72{P:AJ}{w:AI}{K:AE}{mg:Str->Option AB}{base:Heap}{x qual:Str}{st:Stmt}{f:AA}{fd:FuncData}{N ps:List Str}{k:Nat}{m:MS}(F:Fun K x qual st f fd)(S:g0 N ps (b5 st))
 (hb:∀(cdv:AB) (A:AK) (outer:List Env) (s:AC) (H:Hp) (E:XK),y0 k (A.deeper (envOfC qual (b5 st) s.heap.objs.size f cdv))->ESs (P4 CX0 P w K mg base N qual (b5 st) f cdv A outer s H E).nox (m7 st) m):
 G4 P w K mg base CX0 (k+1) f fd ps (spP K ps.length (G5 (N.length - ps.length) m)):=by
 refine F.ok S (λvs H Q E h=> ?_) (λcdv A outer s H vs Q E hr h=> ?_)
 ·obtain⟨_,qs,_,_,r,h2,_⟩:=h
  rw [r.length,h2]
 ·obtain⟨F1,qs,r,s1,rl,hl,e,k⟩:=h
  refine⟨_,hb cdv A outer s H E hr, ?_⟩
  unfold G5 at e
  obtain⟨fl,e1,e2⟩:=bind_some e
  have hv:vs.length=ps.length:=by rw [rl.length,hl]
  refine⟨F1,H,F1,_,fl, ?_,e1, ?_⟩
  ·have:=b0N (N.length - ps.length) s1 rl
   unfold L2.Z4
   rw [hv]
   exact this
  ·cases fl with
   |rt q=>cases e2;exact λv F' H' o=>k v F' H' o
   |nx ρ=>cases e2;exact λσ' F' H' _ so=>k .non F' H' (u6.val so.x rfl)
   |bk ρ=>cases e2
   |ct ρ=>cases e2
section
variable {X:Cx}
def rC1(K:AE)(g:c6->Option c6):List V->Hp->VK->Prop:=λxs H Q=>∃F x rx rz,xs=[x]/\j2 F H/\O9 K F H x rx/\g rx=ξ rz/\∀v F' H',u6 K F H F' H' v rz->Q v H'
def rC2(K:AE)(g:c6->c6->Option c6):List V->Hp->VK->Prop:=λxs H Q=>∃F x y rx ry rz,xs=[x,y]/\j2 F H/\O9 K F H x rx/\O9 K F H y ry/\g rx ry=ξ rz/\∀v F' H',u6 K F H F' H' v rz->Q v H'
def m1(g:c6->Option c6)(m:M):M:=λρ=>(m ρ).bind g
theorem b5s{m:M}{g:c6->Option c6}{σ:L2.St}{H:Hp}{Q:VK}(h:tM X.K (m1 g m) σ H Q):tCB (rC1 X.K g) (b0P (tM X.K m) b50) σ H Q:=by
 obtain⟨F,ρ,r,he,hm,k⟩:=h;obtain⟨rx,e1,hm⟩:=bind_some hm;exact⟨F,ρ,rx,he,e1,λv F1 H1 o1=>⟨F1,v,rx,r,rfl,o1.x.fh,o1.rep,hm,λz F2 H2 o2=>k z F2 H2 (u6.trans o1.x o2)⟩⟩
theorem b7K{m n:M}{g:c6->c6->Option c6}{σ:L2.St}{H:Hp}{Q:VK}(h:tM X.K (m2 g m n) σ H Q):tCB (rC2 X.K g) (b0P (tM X.K m) (b0P (tM X.K n) b50)) σ H Q:=by
 obtain⟨F,ρ,r,he,hm,k⟩:=h;obtain⟨rx,e1,hm⟩:=bind_some hm;obtain⟨ry,e2,hm⟩:=bind_some hm;exact⟨F,ρ,rx,he,e1,λv F1 H1 o1=>⟨F1,ρ,ry,he.ext o1.x,e2,λu F2 H2 o2=>⟨F2,v,u,rx,ry,r,rfl,o2.x.fh,o1.rep.ext o2.x,o2.rep,hm,λz F3 H3 o3=>k z F3 H3 (u6.trans (o1.x.trans o2.x) o3)⟩⟩⟩
theorem T5{id:String}{x:Str}{p pos:Pos}{e:AF}{g:c6->Option c6}{m:M}(hc:M5 X (.builtin id) (rC1 X.K g))(hg:Gl X x)(hm:X.mg x=ζ)(hv:bootBuiltins x=ξ (.builtin id))(ha:EE X e m)(hn:x≠"__name__":=by decide)(hdb:(x==("__debug__":Str))=false:=by decide)
 (he:AL [e] X.env=(false,eval e X.env)::AL [] X.env:=by rfl) (hpl:(backTo pos (AL [] X.env)).any (·.1)=false:=by rfl):EE X (.Call (.Name x p) [e] [] pos) (m1 g m):=
 r9 (a15 hc hg hm hv (p8 ha O4 he) hn hdb he hpl) λ_ _ _ h=>b5s h
theorem c0a{id:String}{x:Str}{p pos:Pos}{e e2:AF}{g:c6->c6->Option c6}{m n:M}(hc:M5 X (.builtin id) (rC2 X.K g))(hg:Gl X x)(hm:X.mg x=ζ)(hv:bootBuiltins x=ξ (.builtin id))(ha:EE X e m)(hb:EE X e2 n)(hn:x≠"__name__":=by decide)(hdb:(x==("__debug__":Str))=false:=by decide)
 (he:AL [e,e2] X.env=(false,eval e X.env)::AL [e2] X.env:=by rfl) (he2:AL [e2] X.env=(false,eval e2 X.env)::AL [] X.env:=by rfl) (hpl:(backTo pos (AL [e2] X.env)).any (·.1)=false:=by rfl):EE X (.Call (.Name x p) [e,e2] [] pos) (m2 g m n):=
 r9 (a15 hc hg hm hv (p8 ha (p8 hb O4 he2) he) hn hdb he hpl) λ_ _ _ h=>b7K h
theorem a6c{T:String}{x:Str}{p pos:Pos}{e:AF}{g:c6->Option c6}{m:M}(hc:M5 X (.type T) (rC1 X.K g))(hg:Gl X x)(hm:X.mg x=ζ)(hv:bootBuiltins x=ξ (.type T))(ha:EE X e m)(hn:x≠"__name__":=by decide)(hdb:(x==("__debug__":Str))=false:=by decide)
 (he:AL [e] X.env=(false,eval e X.env)::AL [] X.env:=by rfl) (hpl:(backTo pos (AL [] X.env)).any (·.1)=false:=by rfl):EE X (.Call (.Name x p) [e] [] pos) (m1 g m):=
 r9 (b3U hc hg hm hv (p8 ha O4 he) hn hdb he hpl) λ_ _ _ h=>b5s h
def K7(x:c6):Option c6:=match x.rd with
 | .str z=>if z.length<=AM then ξ (.v (.int z.length)) else ζ
 |p=>match PyData.items? p with
  |some ps=>ξ (.v (.int ps.length))
  |none=>ζ
theorem N2:M5 X (.builtin "len") (rC1 X.K K7):=by
 ext e
 unfold K7 at h2;split at h2
 ·rename_i z ez;split at h2
  ·rename_i c;cases h2;have rr:=h1.rd s0;rw [ez] at rr;cases rr;exact a8O pins s σ H _ us Q I rv ⟨z,rfl,c,k _ F H (u6.here s0 rfl)⟩
  ·cases h2
 ·split at h2
  ·rename_i ps e;cases h2;obtain⟨a,xs,rfl,hq,r⟩:=Q3 s0 h1 e;refine a8N pins s σ H _ us Q I rv ⟨a,xs,rfl,hq, ?_⟩;rw [r.length];exact k _ F H (u6.here s0 rfl)
  ·cases h2
theorem b8s(hc:X.calm=true):M5 X (.builtin "min") (rC2 X.K (gI λi j=> .int (if j<i then j else i))):=by
 intro pins s σ H xs us Q I rv h;obtain⟨F,x,y,rx,ry,rz,rfl,s0,h1,h2,h3,k⟩:=h;obtain⟨i,j,rfl,rfl,rfl⟩:=b2w h3;cases h1;cases h2;exact b3e hc pins s σ H _ us Q I rv ⟨i,j,rfl,k _ F H (u6.here s0 rfl)⟩
def a1W(x:c6):Option c6:=match PyData.items? x.rd with
 |some ps=>ξ (.v (.tuple ps))
 |none=>ζ
theorem b3C{F H:Hp}{v:V}{r:c6}{ps:List PV}(s0:j2 F H)(h:O9 X.K F H v r)(e:PyData.items? r.rd=ξ ps):∃a xs,v= .ref a/\(SqL X.K H a xs\/(SqT X.K H a xs/\C0 X.K F (.tuple ps) v))/\j4 X.K F ps xs:=by
 cases r with
 |v p=>
  cases p with
  |list qs=>cases e;obtain⟨a,xs,rfl,hq,r⟩:=h;exact⟨a,xs,rfl,.inl (A2 s0 hq),r⟩
  |tuple qs=>cases e;obtain⟨a,xs,rfl,hq,r⟩:=h;exact⟨a,xs,rfl,.inr ⟨t4 s0 hq.sq,⟨a,xs,rfl,hq,r⟩⟩,r⟩
  |_=>cases e
 |ow c=>cases c<;>cases e;obtain⟨a,xs,rfl,_,hq,r⟩:=h;exact⟨a,xs,rfl,.inl (SqL.of hq),r⟩
 |bo c=>cases c<;>cases e;obtain⟨a,xs,rfl,_,hq,r⟩:=h;exact⟨a,xs,rfl,.inl (SqL.of hq),r⟩
theorem a56:M5 X (.type "tuple") (rC1 X.K a1W):=by
 ext e
 unfold a1W at h2;split at h2
 ·rename_i ps e;cases h2;obtain⟨a,xs,rfl,hq,r⟩:=b3C s0 h1 e;refine a7r pins s σ H _ us Q I rv ⟨a,xs,rfl, ?_⟩;rcases hq with hq|⟨hq,rp⟩
  ·exact .inl ⟨hq,λl hl=>k _ _ _ (u6.tup s0 hl r)⟩
  ·exact .inr ⟨hq,k _ F H (u6.here s0 rp)⟩
 ·cases h2
def kindOf:PV->String
 | .none=>"NoneType"
 | .bool _=>"bool"
 | .int _=>"int"
 | .str _=>"str"
 | .list _=>"list"
 | .tuple _=>"tuple"
 | .dict _=>"dict"
def a80(T:String)(p:PV):Bool:=kindOf p==T||(kindOf p=="bool" && T=="int")
def isFn:PV->Bool
 | .dict ((.str _,_)::_)=>true
 |_=>false
def Y1(T:String)(x:c6):Option c6:=bif isFn x.rd then ζ else ξ (.v (.bool (a80 T x.rd)))
def b4i(T:String):Prop:=T="int"\/T="bool"\/T="str"\/T="list"\/T="tuple"\/T="dict"
theorem b3G{K:AE}{T:String}(h:b4i T):∀p:PV,PySem.W.kitOne K (.type (kindOf p)) (.type T)=ξ (a80 T p):=by
 intro p;rcases h with rfl|rfl|rfl|rfl|rfl|rfl<;>cases p<;>kernel_rfl
theorem X9{T:String}{e:AF}{m:M}{p p2 pos:Pos}(kt:b4i T)(hg:Gl X "isinstance")(hm:X.mg "isinstance"=ζ)(ha:EE X e m)(hT:PE X (.Name (AD T) p2) (tC (.ty T)))
 (he:AL [e,.Name (AD T) p2] X.env=(false,eval e X.env)::AL [.Name (AD T) p2] X.env:=by rfl) (he2:AL [.Name (AD T) p2] X.env=(false,eval (.Name (AD T) p2) X.env)::AL [] X.env:=by rfl) (hpl:(backTo pos (AL [.Name (AD T) p2] X.env)).any (·.1)=false:=by rfl)
 (hv:bootBuiltins "isinstance"=ξ (.builtin "isinstance"):=by rfl):
 EE X (.Call (.Name "isinstance" p) [e,.Name (AD T) p2] [] pos) (m1 (Y1 T) m):=by
 have hc:M5 X (.builtin "isinstance") (λxs H Q=>∃F x rx,xs=[x,.ty T]/\j2 F H/\O9 X.K F H x rx/\isFn rx.rd=false/\Q (.bl (a80 T rx.rd)) H):=by
  intro pins s σ H xs us Q I rv h;obtain⟨F,x,rx,rfl,s0,h1,nf,q⟩:=h;obtain⟨u,u2,rfl,ru,ru2⟩:∃u1 u2,us=[u1,u2]/\l8 x u1/\l8 (.ty T) u2:=by
   cases rv with
   |cons p q=>
    cases q with
    |cons p' q'=>
     cases q';exact⟨_,_,rfl,p,p'⟩
  cases ru2;have rr:=h1.rd s0;have kk:=b3G (K:=X.K) kt rx.rd;have fin:∀tk,EP X pins σ Q (.bool (a80 T rx.rd)) {s with toks:=tk}:=λtk=>⟨.bl _,H,I.tok tk,rfl,q⟩
  cases hp:rx.rd with
  |none=>rw [hp] at rr kk fin;cases rr;cases ru;exact PySem.W.kia_one PySem.W.kitx_none I.kIn True.intro kk (λz=>nomatch z) fin
  |bool b=>rw [hp] at rr kk fin;cases rr;cases ru;exact PySem.W.kia_one PySem.W.kitx_bool I.kIn True.intro kk (λz=>nomatch z) fin
  |int b=>rw [hp] at rr kk fin;cases rr;obtain⟨t,rfl⟩:=ru;exact PySem.W.kia_one PySem.W.kitx_int I.kIn True.intro kk (λz=>nomatch z) fin
  |str b=>rw [hp] at rr kk fin;cases rr;obtain⟨t,rfl⟩:=ru;exact PySem.W.kia_one PySem.W.kitx_str I.kIn True.intro kk (λz=>nomatch z) fin
  |list ps=>
   rw [hp] at rr kk fin;obtain⟨a,ys,rfl,hq,_⟩:=rr;cases ru;obtain⟨its,_,⟨o,n,e1,e2,_⟩,_⟩:=I.list hq;exact PySem.W.kia_one PySem.W.kitx_list I.kIn ⟨o,e1,e2⟩ kk (λz=>nomatch z) fin
  |tuple ps=>
   rw [hp] at rr kk fin;obtain⟨a,ys,rfl,hq,_⟩:=rr;cases ru;obtain⟨its,_,⟨o,e1,e2,_⟩,_⟩:=I.tuple hq.sq;exact PySem.W.kia_one PySem.W.kitx_tuple I.kIn ⟨o,e1,e2⟩ kk (λz=>nomatch z) fin
  |dict ps=>
   rw [hp] at rr kk fin nf;rcases rr with⟨a,_,rfl,hq,_⟩|⟨a,_,rfl,hq,_⟩|⟨x,_,rfl,_⟩|⟨x,m,fs,_,hf⟩
   ·cases ru;obtain⟨_,_,_,_,o,_,_,e1,e2,_⟩:=I.hok a _ hq;exact PySem.W.kia_one PySem.W.kitx_dict I.kIn ⟨o,e1,e2.1⟩ kk (λz=>nomatch z) fin
   ·cases ru;obtain⟨_,_,_,_,o,_,_,e1,e2,_⟩:=I.hok a _ hq;exact PySem.W.kia_one PySem.W.kitx_dict I.kIn ⟨o,e1,e2.1⟩ kk (λz=>nomatch z) fin
   ·cases nf
   ·cases ps with
    |nil=>cases hf
    |cons f ps=>obtain⟨k,p⟩:=f;obtain⟨_,_,_,_,z,_⟩:=hf;subst z;cases nf
 exact r9 (a15 hc hg hm hv (p8 ha (p8 hT O4 he2) he) (by decide) (by decide) he hpl) λσ H Q h0=>n8 h0 λF ρ r h1 h2 k=>by
  obtain⟨rx,e1,h2⟩:=bind_some h2;unfold Y1 at h2;cases nf:isFn rx.rd with
  |true=>rw [nf] at h2;cases h2
  |false=>
   rw [nf] at h2;cases h2;exact⟨F,ρ,rx,h1,e1,λv F1 H1 o=>⟨F1,v,rx,rfl,o.x.fh,o.rep,nf,k _ F1 H1 (u6.val o.x rfl)⟩⟩
theorem SOk.putC{K:AE}{F0 H0 F H:Hp}{σ:L2.St}{ρ:b0}{i:Nat}{c d:a0H}{a:AA}{o:HO}(s:SOk K F0 H0 F H σ ρ)(e:ρ[i]?=ξ (ξ (.ow c)))(ea:σ[i]?=ξ (ξ (.ref a)))(r:F a=ζ->Z7 K F (m9 H a o) (.ref a) d):
 SOk K F0 H0 F (m9 H a o) σ (ρ.set i (ξ (.ow d))):=by
 obtain⟨v,h1,rr0⟩:=s.e.at_ i _ e
 obtain⟨a',xs,rfl,fa,ha⟩:=Z7.at_ rr0
 rw [ea] at h1;cases h1
 have na:H0 a=ζ:=s.nw i c a e ea
 have hi:i<ρ.length:=(Ac.mp e).1
 refine⟨⟨s.x.f,λb o z=>by rw [g6 (i5 z na)];exact s.x.h _ _ z,λb o z=>by rw [g6 (i5 z fa)];exact s.x.fh _ _ z,s.x.nw,s.x.nf⟩,⟨λb o z=>by rw [g6 (i5 z fa)];exact s.e.fh _ _ z,by simp [s.e.len],λj q ej=> ?_,λj z ej=> ?_,λj k z1 z2 c' hjk e1 e2 e3 e4=> ?_⟩,λj z c' e1 e2=> ?_⟩
 ·rw [List.getElem?_set] at ej
  by_cases hij:i=j
  ·subst hij
   rw [if_pos rfl,if_pos hi] at ej
   cases ej
   exact⟨.ref a,ea,r fa⟩
  ·rw [if_neg hij] at ej
   obtain⟨v,h1,rr⟩:=s.e.at_ j q ej
   refine⟨v,h1, ?_⟩
   cases q with
   |v p=>exact rr
   |bo z=>exact absurd ej (s.e.nb j z)
   |ow z=>
    have key:∀b,v= .ref b->b≠a:=λb hb hab=>by subst hab;subst hb;exact s.e.ap i j c z b hij e ej ea h1
    cases z with
    |lst z=>
     obtain⟨b,zs,rfl,fb,hb,rz⟩:=rr
     exact⟨b,zs,rfl,fb,by rw [g6 (key b rfl)];exact hb,rz⟩
    |dct z=>
     obtain⟨b,zs,rfl,fb,hb,rz⟩:=rr
     exact⟨b,zs,rfl,fb,by rw [g6 (key b rfl)];exact hb,rz⟩
    |txt z=>
     obtain⟨b,zs,rfl,fb,hb,rz⟩:=rr
     exact⟨b,zs,rfl,fb,by rw [g6 (key b rfl)];exact hb,rz⟩
 ·rw [List.getElem?_set] at ej
  by_cases hij:i=j
  ·subst hij;rw [if_pos rfl,if_pos hi] at ej;cases ej
  ·rw [if_neg hij] at ej;exact s.e.nb j z ej
 ·have own_at:∀(j:Nat) (z:a0H),(ρ.set i (ξ (c6.ow d)))[j]?=ξ (ξ (c6.ow z))->∃z':a0H,ρ[j]?=ξ (ξ (c6.ow z')):=λj z h=>by
   rw [List.getElem?_set] at h
   by_cases hij:i=j
   ·subst hij;exact⟨c,e⟩
   ·rw [if_neg hij] at h;exact⟨z,h⟩
  obtain⟨y1,h1⟩:=own_at j z1 e1;obtain⟨y2,h2⟩:=own_at k z2 e2;exact s.e.ap j k y1 y2 c' hjk h1 h2 e3 e4
 ·rw [List.getElem?_set] at e1
  by_cases hij:i=j
  ·subst hij;rw [ea] at e2;cases e2;exact na
  ·rw [if_neg hij] at e1;exact s.nw j z c' e1 e2
theorem SOk.put{K:AE}{F0 H0 F H:Hp}{σ:L2.St}{ρ:b0}{i:Nat}{ps qs:List PV}{a:AA}{ys:List V}(s:SOk K F0 H0 F H σ ρ)(e:ρ[i]?=ξ (ξ (.own ps)))(ea:σ[i]?=ξ (ξ (.ref a)))(r:j4 K F qs ys):
 SOk K F0 H0 F (m9 H a (.lst ys)) σ (ρ.set i (ξ (.own qs))):=s.putC e ea λfa=>⟨a,ys,rfl,fa,i3,r⟩
theorem SOk.putT{K:AE}{F0 H0 F H:Hp}{σ:L2.St}{ρ:b0}{i:Nat}{ps qs:List (List n5×PV)}{a:AA}{ys:List (n5×V)}(s:SOk K F0 H0 F H σ ρ)(e:ρ[i]?=ξ (ξ (.ow (.txt ps))))(ea:σ[i]?=ξ (ξ (.ref a)))(r:A4 K F qs (ys.map s1)):
 SOk K F0 H0 F (m9 H a (.dK ys)) σ (ρ.set i (ξ (.ow (.txt qs)))):=s.putC e ea λfa=>⟨a,ys,rfl,fa,i3,r⟩
def L8(i:Nat)(m:M):MS:=λρ=>(m ρ).bind λr=>r.toVal.bind λp=>match ρ[i]? with
 |some (ξ (.ow (.lst ps)))=>if ps.length<AM then ξ (.nx (ρ.set i (ξ (.own (ps++[p]))))) else ζ
 |_=>ζ
theorem W6(i:Nat){x:Str}{p apos cpos pos:Pos}{e:AF}{m:M}(hx:PE X (.Name x p) (a0a i))(ha:EE X e m)
 (hbase:attributeBase (.Name x p) "append" X.env (eval (.Name x p) X.env)=eval (.Name x p) X.env:=by rfl)
 (hfew:((backTo cpos (AL [e] X.env)).all (λx=> !x.1)&&(backToKw cpos (keywordEach [] X.env)).all (λx=>x.1.isSome)
  && decide ([e].length+([]:List Keyword).length+(if([]:List Keyword).isEmpty then 0 else 1)<30))=true:=by rfl)
 (hline:(apos.endLine==cpos.line)=true:=by rfl) (hs:AL [e] X.env=(false,eval e X.env)::AL [] X.env:=by rfl) (hplain:(backTo cpos (AL [] X.env)).any (·.1)=false:=by rfl)
 (hsw:swapsWith (.Call (.Attribute (.Name x p) "append" apos) [e] [] cpos) ζ pos.line X.env=pure false:=by rfl):
 ES X (.Expr (.Call (.Attribute (.Name x p) "append" apos) [e] [] cpos) pos) (L8 i m):=
 w8 (a5P (b8e PySem.F.plainAttrs_list PySem.F.slot_list_append PySem.F.type_list_append a4O hx (p8 ha O4 hs) hbase hfew hline hs hplain) hsw) λD σ H h0=>K8 h0 λF0 H0 F ρ fl so e fin=>by
  ext r
  obtain⟨q,e2,e⟩:=bind_some e;split at e
  ·rename_i ps eo;split at e
   ·rename_i c;cases e;obtain⟨v,h1,a,xs,rfl,fa,ha',rl⟩:=so.e.at_ i _ eo;refine⟨.ref a,h1,.inl ⟨rfl,xs,SqL.of ha'⟩,F,ρ,r,so.e,e1,λw F1 H1 o=> ?_⟩;obtain⟨F2,o2⟩:=o.toVal e2;have so2:=so.ext o2.x;refine⟨a,xs,w,rfl,rfl,o.x.h _ _ ha',by rw [rl.length];exact c, ?_⟩
    exact fin σ F2 _ o2.x.f (so2.put eo h1 ((j4.mono o2.x.f _ rl).append ⟨w,[],rfl,o2.rep,rfl⟩))
   ·cases e
  ·cases e
def a36(i:Nat)(n:MS):MS:=λρ=>match ρ[i]? with
 |some (ξ (.ow (.lst ps)))=>n (ρ.set i (ξ (.v (.list ps))))
 |_=>n ρ
theorem SOk.frz{K:AE}{F0 H0 F H:Hp}{σ:L2.St}{ρ:b0}{i:Nat}{ps:List PV}(s:SOk K F0 H0 F H σ ρ)(e:ρ[i]?=ξ (ξ (.own ps))):∃F',j2 F F'/\SOk K F0 H0 F' H σ (ρ.set i (ξ (.v (.list ps)))):=by
 obtain⟨v,h1,a,xs,rfl,fa,ha,rl⟩:=s.e.at_ i _ e;have na:H0 a=ζ:=s.nw i _ a e h1;have hi:i<ρ.length:=(Ac.mp e).1;have up:j2 F (m9 F a (.lst xs)):=D2 fa;have fh:j2 (m9 F a (.lst xs)) H:=λb o z=>by
  by_cases hb:b=a
  ·subst hb;rw [i3] at z;cases z;exact ha
  ·rw [g6 hb] at z;exact s.e.fh _ _ z
 refine⟨m9 F a (.lst xs),up,⟨⟨s.x.f.trans up,s.x.h,fh,λb o z y t=>by rw [g6 (i5 y na)];exact s.x.nw b o z y t,b5n s.x.nf⟩,⟨fh,by simp [s.e.len],λj q ej=> ?_,λj z ej=> ?_,λj k z1 z2 c hjk e1 e2 e3 e4=> ?_⟩,λj z c e1 e2=> ?_⟩⟩
 ·rw [List.getElem?_set] at ej
  by_cases hij:i=j
  ·subst hij;rw [if_pos rfl,if_pos hi] at ej;cases ej;exact⟨.ref a,h1,a,xs,rfl,SqL.of i3,j4.mono up _ rl⟩
  ·rw [if_neg hij] at ej;obtain⟨v,h2,rr⟩:=s.e.at_ j q ej;refine⟨v,h2, ?_⟩;cases q with
   |v p=>exact C0.mono up p rr
   |bo z=>exact absurd ej (s.e.nb j z)
   |ow z=>
    have key:∀b,v= .ref b->b≠a:=λb hb hab=>by subst hab;subst hb;exact s.e.ap i j _ z b hij e ej h1 h2
    cases z with
    |lst z=>
     obtain⟨b,zs,rfl,fb,hb,rz⟩:=rr;exact⟨b,zs,rfl,by rw [g6 (key b rfl)];exact fb,hb,j4.mono up _ rz⟩
    |dct z=>
     obtain⟨b,zs,rfl,fb,hb,rz⟩:=rr;exact⟨b,zs,rfl,by rw [g6 (key b rfl)];exact fb,hb,A4.mono up _ rz⟩
    |txt z=>
     obtain⟨b,zs,rfl,fb,hb,rz⟩:=rr;exact⟨b,zs,rfl,by rw [g6 (key b rfl)];exact fb,hb,A4.mono up _ rz⟩
 ·rw [List.getElem?_set] at ej
  by_cases hij:i=j
  ·subst hij;rw [if_pos rfl,if_pos hi] at ej;cases ej
  ·rw [if_neg hij] at ej;exact s.e.nb j z ej
 ·have own_at:∀(j:Nat) (z:a0H),(ρ.set i (ξ (c6.v (.list ps))))[j]?=ξ (ξ (c6.ow z))->ρ[j]?=ξ (ξ (c6.ow z)):=λj z h=>by
   rw [List.getElem?_set] at h
   by_cases hij:i=j
   ·subst hij;rw [if_pos rfl,if_pos hi] at h;cases h
   ·rw [if_neg hij] at h;exact h
  exact s.e.ap j k z1 z2 c hjk (own_at j z1 e1) (own_at k z2 e2) e3 e4
 ·rw [List.getElem?_set] at e1
  by_cases hij:i=j
  ·subst hij;rw [if_pos rfl,if_pos hi] at e1;cases e1
  ·rw [if_neg hij] at e1;exact s.nw j z c e1 e2
theorem a0z(i:Nat){st:Stmt}{n:MS}(h:ES X st n):ES X st (a36 i n):=w8 h λD σ H h0=>K8 h0 λF0 H0 F ρ fl so e fin=>by
 unfold a36 at e;split at e
 ·rename_i ps eo;obtain⟨F',s,so'⟩:=so.frz eo;exact⟨F0,H0,F',_,fl,so',e,fin.later s⟩
 ·exact⟨F0,H0,F,ρ,fl,so,e,fin⟩
end
theorem a8J{κ:Type}{K:AE}{n:Nat}:∀{kvs:List (κ×AB)} {tbl:List (κ×PV)},a3H K n kvs=ξ tbl->tbl.map (·.1)=kvs.map (·.1)
 |[],_,h=>by cases h;rfl
 |(k,u)::r,tbl,h=>by
  simp only [a3H] at h;obtain⟨q,e1,h⟩:=bind_some h;obtain⟨t,e2,h⟩:=bind_some h;cases h;rw [AS,AS,a8J e2]
def z8(P:AJ)(w:AI)(K:AE)(mg:Str->Option AB)(base:Heap)(x:Str)(ps:List Str)(k:Nat)(g:List PV->Option c6):Prop:=
 ∃f fd,G4 P w K mg base CX0 k f fd ps (spP K ps.length g)/\mg x=ξ (.ref f)/\PySem.W.keepIn K (.ref f)=true/\M4 K fd ps []
section
variable {X:Cx}
theorem o8{k k':Nat}{ps:List Str}{g:List PV->Option c6}{x:Str}{p pos:Pos}{e:AF}{es:List AF}{m:MA}
 (d:z8 X.prog X.w X.K X.mg X.base x ps k g) (hr:y0 k' X.A) (hk:k<=k') (hg:Gl X x) (hn:∀ρ qs,m ρ=ξ qs->qs.length=ps.length) (ha:EA X (e::es) m)
 (hdb:(x==("__debug__":Str))=false:=by decide) (he:AL (e::es) X.env=(false,eval e X.env)::AL es X.env:=by rfl) (hpl:(backTo pos (AL es X.env)).any (·.1)=false:=by rfl):
 EE X (.Call (.Name x p) (e::es) [] pos) (i6 g m):=by
 obtain⟨f,fd,G,h1,h2,h3⟩:=d
 exact b6u G (hr.mono hk) hg h1 h2 h3 hn ha hdb he hpl
theorem b2o{k k':Nat}{g:List PV->Option c6}{x:Str}{p pos:Pos}
 (d:z8 X.prog X.w X.K X.mg X.base x [] k g) (hr:y0 k' X.A) (hk:k<=k') (hg:Gl X x) (hdb:(x==("__debug__":Str))=false:=by decide):
 EE X (.Call (.Name x p) [] [] pos) (λ_=>g []):=by
 obtain⟨f,fd,G,h1,h2,h3⟩:=d
 exact b4x G (hr.mono hk) hg h1 h2 h3 hdb
end
def b0M(K:AE):Sp:=λvs H Q _=>∃(a:AA) (ns:List Int),vs=[.ref a]/\SqL K H a (ns.map V.int)/\ns.length<=63/\∀H',Q (.bl true) H'
theorem a8u{K:AE}{H:Hp}:∀ns:List Int,j4 K H (ns.map PyData.int) (ns.map V.int)
 |[]=>rfl
 |n::ns=>⟨.int n,_,rfl,rfl,a8u ns⟩
theorem b6S{K:AE}{g:List PV->Option c6}(h:∀ns:List Int,ns.length<=63->g [.list (ns.map .int)]=ξ (.v (.bool true))):∀vs H Q E,b0M K vs H Q E->spP K 1 g vs H Q E:=
 λvs H Q E ⟨a,ns,e,hs,hl,k⟩=>by
  subst e;exact⟨H,[.list (ns.map .int)],_,PU.j2.refl H,⟨.ref a,[],rfl,⟨a,_,rfl,hs,a8u ns⟩,rfl⟩,rfl,h ns hl,λv F' H' o=>by
   have:v= .bl true:=o.rep;subst this;exact k H'⟩
def b6I(x y:c6):Option c6:=x8 b0W (λi j=> .int (i*j)) x y
theorem b5t{X:Cx}:OpM X (binaryOp .Mult) b6I:=b68
theorem b4P(i j:Int):p9 (.v (.int i)) (.v (.int j))=ξ (.v (.int (i+j))):=Eq.trans rfl rfl
theorem b4Q{i j:Str}(h:i.length+j.length<=AM):p9 (.v (.str i)) (.v (.str j))=ξ (.v (.str (i++j))):=by simp [p9,h]
theorem b6E{ps qs:List PV}(h:ps.length+qs.length<=AM):p9 (.bor ps) (.own qs)=ξ (.own (ps++qs)):=by simp [p9,c6.mine,h]
theorem a5L{C:Int->Int->Prop}[∀i j,Decidable (C i j)](f:Int->Int->PV){i j:Int}(h:C i j):x8 C f (.v (.int i)) (.v (.int j))=ξ (.v (f i j)):=by
 show(if okC C i j=true then ξ (c6.v (f i j)) else ζ)=_
 rw [if_pos (a0q.mpr h)]
theorem b8T{i j:Int}(h: -18446744073709551616<i/\i<18446744073709551616):b6I (.v (.int i)) (.v (.int j))=ξ (.v (.int (i*j))):=a5L _ (.inl (by lia))
theorem b8U{i j:Int}(h: -18446744073709551616<j/\j<18446744073709551616):b6I (.v (.int i)) (.v (.int j))=ξ (.v (.int (i*j))):=a5L _ (.inr (by lia))
theorem b4V{f:Int->Int->PV}{i j:Int}(h:0<j):x8 (λ_ j=>0<j) f (.v (.int i)) (.v (.int j))=ξ (.v (f i j)):=a5L _ h
theorem b4W{f:Int->Int->PV}{i j:Int}(h:(0<=j/\j<=1000000)/\i.natAbs<18446744073709551616):x8 b25 f (.v (.int i)) (.v (.int j))=ξ (.v (f i j)):=a5L _ ⟨h.1.1,h.1.2,h.2⟩
theorem b8R{x y:c6}(h:p6 x.rd 50=true/\p6 y.rd 50=true):D6 x y=ξ (.v (.bool (PyData.eqv x.rd y.rd))):=by simp [D6,h]
theorem a2t(ps:List PV):K7 (.v (.list ps))=ξ (.v (.int ps.length)):=Eq.trans rfl rfl
theorem a3U{ps:List PV}{i:Int}{p:PV}(h:L2.atI ps i=ξ p):i9 (.v (.list ps)) (.v (.int i))=ξ (.v p):=by simp [i9,c6.rd,a0H.rd,PyData.items?,h]
theorem b87(g:c6->c6->Option c6)(ma mb:M)(ρ:b0):m2 g ma mb ρ=(ma ρ).bind λx=>(mb ρ).bind λy=>g x y:=Eq.trans rfl rfl
theorem b88(p:PV)(ρ:b0):mC p ρ=ξ (.v p):=Eq.trans rfl rfl
theorem b6V(p:PV)(ρ:b0):a5 0 (ξ (.v p)::ρ)=ξ (.v p):=Eq.trans rfl rfl
theorem b89(n:Nat)(r:Option c6)(ρ:b0):a5 (n+1) (r::ρ)=a5 n ρ:=Eq.trans rfl rfl
theorem b1I(m:M)(r:MA)(ρ:b0):a4 m r ρ=((m ρ).bind c6.toVal).bind λp=>(r ρ).bind λps=>ξ (p::ps):=Eq.trans rfl rfl
def c0B(r:c6):Option Fl:=if r.nb=true then ξ (.rt r) else ζ
theorem b5i(m:M)(ρ:b0):m4 m ρ=(m ρ).bind c0B:=Eq.trans rfl rfl
theorem b9J(p:PV):c0B (.v p)=ξ (.rt (.v p)):=Eq.trans rfl rfl
def c0C:Fl->Option c6
 | .rt r=>ξ r
 | .nx _=>ξ (.v .none)
 |_=>ζ
theorem b5O(n:Nat)(b:MS)(ps:List PV):G5 n b ps=(b (ps.map (λp=>ξ (c6.v p))++AO n ζ)).bind c0C:=Eq.trans rfl rfl
theorem b7x(r:c6):c0C (.rt r)=ξ r:=Eq.trans rfl rfl
theorem b9I(p:PV):(c6.v p).rd=p:=Eq.trans rfl rfl
def b8g:List PV->Option (List PV)
 |[.int j]=>if inR j=true then ξ (Y8 0 j) else ζ
 |_=>ζ
theorem b3L(m:MA)(ρ:b0):B7 m ρ=(m ρ).bind b8g:=Eq.trans rfl rfl
theorem b7s{j:Int}(h: -4611686018427387904<=j/\j<4611686018427387904):b8g [.int j]=ξ (Y8 0 j):=by
 show(if inR j=true then ξ (Y8 0 j) else ζ)=_
 rw [if_pos (a1i.mpr (by lia))]
def b8h:List PV->Option (List PV)
 |[.int i,.int j]=>if inR i=true/\inR j=true then ξ (Y8 i j) else ζ
 |_=>ζ
theorem b3M(m:MA)(ρ:b0):b2J m ρ=(m ρ).bind b8h:=Eq.trans rfl rfl
theorem b7t{i j:Int}(h:(-4611686018427387904<=i/\i<4611686018427387904)/\ -4611686018427387904<=j/\j<4611686018427387904):b8h [.int i,.int j]=ξ (Y8 i j):=by
 show(if inR i=true/\inR j=true then ξ (Y8 i j) else ζ)=_
 rw [if_pos ⟨a1i.mpr (by lia),a1i.mpr (by lia)⟩]
theorem a8g(i j:Int):D6 (.v (.int i)) (.v (.int j))=ξ (.v (.bool (i==j))):=Eq.trans rfl rfl
theorem b4R{p:PV}(h:p6 p 50=true):D6 (.v p) (.v p)=ξ (.v (.bool true)):=by
 rw [b8R (x:= .v p) (y:= .v p) ⟨h,h⟩,b9I,a3Q p 50 h]
end PU
namespace L2
open PySem PySem.Spec PyProof.Rows
theorem E9:∀(names:List (Str×NameKind)) (n:Nat) (acc:List (Str×AA)),cellsFrom n names acc=cellsFrom n names []++acc
 |[],_,_=>rfl
 |(x,k)::r,n,acc=>by
  unfold cellsFrom;split
  ·rw [E9 r (n+1) ((x,n)::acc),E9 r (n+1) [(x,n)],List.append_assoc];rfl
  ·exact E9 r n acc
theorem M9:∀{names:List (Str×NameKind)} {n:Nat} {x:Str} {c:AA},(x,c)∈cellsFrom n names []->n<=c/\(x,NameKind.cell)∈names
 |[],_,_,_,h=>nomatch h
 |(y,k)::r,n,x,c,h=>by
  unfold cellsFrom at h;split at h
  ·rename_i hk;rw [E9] at h;rcases An.mp h with h|h
   ·obtain⟨a,b⟩:=M9 h;exact⟨by lia,AY _ b⟩
   ·have e:(x,c)=(y,n):=by simpa using h
    cases e;have:k= .cell:=by simpa using hk
    subst this;exact⟨AQ _,Aa⟩
  ·obtain⟨a,b⟩:=M9 h;exact⟨a,AY _ b⟩
theorem a6A{α:Type}:∀{l:List (Str×α)} {x:Str},(∀c,(x,c)∉l)->l.lookup x=ζ:=λ {l x} h=>by
 cases e:l.lookup x with
 |none=>rfl
 |some c=>exact absurd (PySem.mem_of_lookup e) (h c)
theorem a2Y{α:Type}:∀{l r:List (Str×α)} {x:Str},l.lookup x=ζ->(l++r).lookup x=r.lookup x
 |[],_,_,_=>rfl
 |(y,v)::l,r,x,h=>by
  rw [List.cons_append,List.lookup_cons];rw [List.lookup_cons] at h;cases e:x==y with
  |true=>rw [e] at h;cases h
  |false=>rw [e] at h;exact a2Y h
def T2(cells:List (Str×AA)):List (Str×NameKind)->List (Str×AA)->List (Str×AA)
 |[],acc=>acc
 |(x,k)::r,acc=>if k== .free then T2 cells r ((x,(cells.lookup x).getD 0)::acc) else T2 cells r acc
theorem a4u{cells:List (Str×AA)}:∀{names:List (Str×NameKind)} {acc:List (Str×AA)} {x:Str} {c:AA},(x,c)∈T2 cells names acc->(x,c)∈acc\/((x,NameKind.free)∈names/\c=(cells.lookup x).getD 0)
 |[],_,_,_,h=> .inl h
 |(y,k)::r,acc,x,c,h=>by
  unfold T2 at h;split at h
  ·rename_i hk;rcases a4u h with h|⟨h1,h2⟩
   ·rcases Ag.mp h with e|h
    ·cases e;have:k= .free:=by simpa using hk
     subst this;exact .inr ⟨Aa,rfl⟩
    ·exact .inl h
   ·exact .inr ⟨AY _ h1,h2⟩
  ·rcases a4u h with h|⟨h1,h2⟩
   ·exact .inl h
   ·exact .inr ⟨AY _ h1,h2⟩
theorem a1N{cells:List (Str×AA)}:∀{names:List (Str×NameKind)} {acc:List (Str×AA)} {x:Str},x∉names.map (·.1)->(T2 cells names acc).lookup x=acc.lookup x
 |[],_,_,_=>rfl
 |(y,k)::r,acc,x,h=>by
  have h':¬(x=y)/\x∉r.map (·.1):=by simpa using h
  unfold T2;split
  ·rw [a1N h'.2,List.lookup_cons];have e:(x==y)=false:=by simpa using h'.1
   rw [e]
  ·exact a1N h'.2
theorem a06{cells:List (Str×AA)}:∀{names:List (Str×NameKind)} {acc:List (Str×AA)} {x:Str},(names.map (·.1)).Nodup->names.lookup x=ξ .free->(T2 cells names acc).lookup x=ξ ((cells.lookup x).getD 0)
 |[],_,_,_,h=>by cases h
 |(y,k)::r,acc,x,nd,h=>by
  have nd':y∉r.map (·.1)/\(r.map (·.1)).Nodup:=List.nodup_cons.mp nd;rw [List.lookup_cons] at h;unfold T2;cases e:x==y with
  |true=>
   rw [e] at h;have hk:k= .free:=by simpa using h
   subst hk;have exy:x=y:=by simpa using e
   subst exy;rw [if_pos (show(NameKind.free==NameKind.free)=true from rfl),a1N nd'.1,List.lookup_cons,e]
  |false=>
   rw [e] at h;split
   ·exact a06 nd'.2 h
   ·exact a06 nd'.2 h
theorem a0w{env:Env}(f:Str×NameKind->List (Str×AA)->Sem (ForInStep (List (Str×AA))))(hf:∀x k cs,f (x,k) cs=if k== .free then(do let c<-cellOf env x;pure (.yield ((x,c)::cs))) else pure (.yield cs)):
 ∀(names:List (Str×NameKind)) (acc:List (Str×AA)),(∀x∈names,x.2= .free->(env.cells.lookup x.1).isSome=true)->forIn names acc f=pure (T2 env.cells names acc)
 |[],acc,_=>rfl
 |(x,k)::r,acc,h=>by
  rw [List.forIn_cons,hf];unfold T2;have hr:=λy hy=>h y (AY _ hy);split
  ·rename_i hk;have:=h (x,k) Aa (by simpa using hk)
   obtain⟨c,hc⟩:=Option.isSome_iff_exists.mp this;unfold cellOf;rw [hc];show forIn r ((x,c)::acc) f=_;exact a0w f hf r _ hr
  ·exact a0w f hf r acc hr
theorem a2Q{scope:Scope}{env:Env}(h:∀x∈scope.names,x.2= .free->(env.cells.lookup x.1).isSome=true):closureFor scope env=pure (T2 env.cells scope.names []):=by
 unfold closureFor;have e:=a0w (env:=env) (λ(x:Str×NameKind) (cs:List (Str×AA))=>if x.2== .free then(do let c<-cellOf env x.1;pure (.yield ((x.1,c)::cs))) else pure (.yield cs)) (λ_ _ _=>rfl) scope.names [] h
 show(forIn scope.names [] _>>=λr=>pure r)=_;refine Eq.trans (congrArg (· >>=λr=>pure r) (Eq.trans (congrArg (forIn scope.names []) ?_) e)) rfl
 funext x cs
 cases x with
 |mk n k=>cases k<;>rfl
theorem a17{env:Env}{x:Str}:∀{names:List (Str×NameKind)},(names.map λ(p:Str×NameKind)=>if(p.2==NameKind.free && env.scope.kind== .function && env.kindOf p.1==ξ .cell) then(p.1,NameKind.cell) else(p.1,p.2)).lookup x
 =(names.lookup x).map λk=>if(k==NameKind.free && env.scope.kind== .function && env.kindOf x==ξ .cell) then NameKind.cell else k
 |[]=>rfl
 |(n,k)::r=>by
  rw [AS];have ih:= @a17 env x r;show List.lookup x ((if(k==NameKind.free && env.scope.kind== .function && env.kindOf n==ξ .cell)=true then(n,NameKind.cell) else(n,k))::_)=_
  cases hx:x==n with
  |true=>
   have e:x=n:=by simpa using hx
   subst e
   by_cases c:(k==NameKind.free && env.scope.kind== .function && env.kindOf x==ξ .cell)=true
   ·rw [if_pos c,List.lookup_cons,hx,List.lookup_cons,hx];exact congrArg ξ (if_pos c).symm
   ·rw [if_neg c,List.lookup_cons,hx,List.lookup_cons,hx];exact congrArg ξ (if_neg c).symm
  |false=>
   by_cases c:(k==NameKind.free && env.scope.kind== .function && env.kindOf n==ξ .cell)=true
   ·rw [if_pos c,List.lookup_cons,hx,List.lookup_cons,hx];exact ih
   ·rw [if_neg c,List.lookup_cons,hx,List.lookup_cons,hx];exact ih
def B3(scope:Scope)(C:AA)(env:Env):Env:=
 {scope:=relabel scope env,locals:=C,globals:=env.globals,cells:=cellsFrom (C+1) scope.names (T2 env.cells scope.names []),qual:=env.qual,func:=ζ,code:=env.code,frame:=env.frame,builtins:=env.builtins}
def hid(ys:List Str)(x:Str):Str:=if ys.contains x=true then AD "0"++x else x
def p5(X:Cx)(N0:List Str)(scope:Scope)(ys:List Str)(C:AA)(fp:List AA)(pins:List (AA×Obj))(s₃:AC)(H₃:Hp):Cx:=
 {X with N:=N0++ys,s₀:=s₃,H₀:=H₃,env:=B3 scope C X.env,outer:=X.stack,ex:=fp,fn:=λx=>scope.names.lookup x==ξ .cell,pn:=X.pn++pins}
theorem X6{scope:Scope}{C:AA}{env:Env}{x:Str}:(B3 scope C env).kindOf x=(scope.names.lookup x).map λk=>if(k==NameKind.free && env.scope.kind== .function && env.kindOf x==ξ .cell) then NameKind.cell else k:=
 a17
structure E8(N N0 ys:List Str)(env:Env)(scope:Scope):Prop where
 eq:N0=N.map (hid ys)
 kind:scope.kind= .function
 nd:(scope.names.map (·.1)).Nodup
 fr:∀x∈scope.names,x.2= .free->env.kindOf x.1=ξ .cell\/env.kindOf x.1=ξ .free
 ou:∀x∈N,(ys.contains x=true->scope.names.lookup (hid ys x)=ζ)/\(ys.contains x=false->scope.names.lookup x=ζ\/scope.names.lookup x=ξ .free\/scope.names.lookup x=ξ .globalImplicit)
theorem z7{α:Type}:∀{l:List (Str×α)} {x:Str} {v:α},(l.map (·.1)).Nodup->(x,v)∈l->l.lookup x=ξ v
 |[],_,_,_,h=>nomatch h
 |(y,w)::r,x,v,nd,h=>by
  have nd':y∉r.map (·.1)/\(r.map (·.1)).Nodup:=List.nodup_cons.mp nd;rw [List.lookup_cons];rcases Ag.mp h with e|h
  ·cases e;simp
  ·have:x≠y:=λe=>nd'.1 (by rw [<-e];exact Aw.mpr ⟨_,h,rfl⟩)
   have e:(x==y)=false:=by simpa using this
   rw [e];exact z7 nd'.2 h
section
variable {M:Model}{A:AK}{E:AB->AC->Prop}{s:AC}
theorem V6{scope:Scope}{globals:AA}{cl:List (Str×AA)}{qual:Str}{env:Env}{builtins:AA}{Q:Env->AC->Prop}
 (h:Q (newEnv scope s.heap.objs.size globals (cellsFrom (s.heap.objs.size+1) scope.names cl) qual ζ .none (ξ env) builtins) {s with heap:=pushCells (s.heap.push {cls:= .type "dict",data:= .dict #[]}) scope.names}):
 AH M A (newFunctionEnv scope globals cl [] qual ζ .none (ξ env) builtins) Q E s:=by
 simp only [newFunctionEnv,Option.isSome_some,if_true]
 refine AG (wpAny_alloc ?_)
 refine AG (wpAny_layCells _ (λname kind cells=>by cases hkc:kind==NameKind.cell<;>simp [hkc]) _ _ _ _ ?_)
 rw [show({s with heap:=s.heap.push {cls:= .type "dict",data:= .dict #[]}}:AC).heap.objs.size=s.heap.objs.size+1 from Heap.size_push ..]
 exact AG (AN (AN h))
end
section
variable {prog:AJ}{w:AI}{A:AK}{R:Result->AC->Prop}{s:AC}
theorem a2E{elt target iter:AF}{ifs:List AF}{scope:Scope}{pos:Pos}{it acc:AB}{env:Env}(I:Nat->AC->Prop)
 (turn:∀n s,I n s->AH (model prog w) A (pyNext it) (λr s₁=>match r with
  |none=>R (.ok .next) s₁
  |some v=>AH (model prog w) A (letOwnedTupleGo target it v) (λ_ s₁'=>AH (model prog w) A (assign target env v) (λ_ s₂=>
   AH (model prog w) A (forIn ifs true λc r=>if r=true then do let ok<-isTrue c env (eval c env);pure (ForInStep.yield ok) else pure (ForInStep.yield r)) (λok s₃=>
    if ok=true then AH (model prog w) A (eval elt env) (λx s₄=>
     AH (model prog w) A (call (.builtin "list.append") [acc,x]) (λ_ s₅=>∃m,m<n/\I m s₅) (λ_ _=>False) s₄) (λ_ _=>False) s₃
    else ∃m,m<n/\I m s₃) (λ_ _=>False) s₂) (λ_ _=>False) s₁') (λ_ _=>False) s₁) (λ_ _=>False) s)
 (n:Nat) (h:I n s):
 codeAny (model prog w) A (.compLoop (.ListComp elt [⟨target,iter,ifs,0⟩] scope pos) 0 it acc env) R s:=by
 refine codeAny_loop rfl I (λn s hI=> ?_) n h
 show AH _ A ((compTurn (.ListComp elt [⟨target,iter,ifs,0⟩] scope pos) 0 it acc env).onRaise (λx=>do noteFrame x env;theTreesLotGoes x)) _ _ s
 refine wpAny_noted ?_
 rw [compTurn_list]
 refine AG (wpAny_standAt (AG (wpAny_mono (turn n s hI) (λr s₁ h₁=> ?_) λ_ _ h'=>h'.elim)))
 cases r with
 |none=>exact AN h₁
 |some v=>
  refine AG (wpAny_mono h₁ (λ_ s₁' h₁'=> ?_) λ_ _ h'=>h'.elim)
  refine AG (wpAny_mono h₁' (λ_ s₂ h₂=>AG (wpAny_mono h₂ (λok s₃ h₃=> ?_) λ_ _ h'=>h'.elim)) λ_ _ h'=>h'.elim)
  cases ok with
  |false=>exact AN ⟨rfl,h₃⟩
  |true=>
   exact AG (AG (wpAny_mono h₃ (λx s₄ h₄=>AG (wpAny_mono h₄ (λ_ s₅ h₅=>AN (AN ⟨rfl,h₅⟩)) λ_ _ h'=>h'.elim)) λ_ _ h'=>h'.elim))
end
def PCs(X:Cx)(ifs:List AF)(t:TT):Prop:=
 ∀(pins:List (AA×Obj)) (s:AC) (σ:St) (H:Hp) (Q:Bool->Hp->Prop),g9 X pins σ H s->t σ H Q->
  AH (model X.prog X.w) X.A (forIn ifs true λc r=>if r=true then do let ok<-isTrue c X.env (eval c X.env);pure (ForInStep.yield ok) else pure (ForInStep.yield r)) (TP X pins σ Q) X.xe s
def c0N:TT:=λ_ H Q=>Q true H
theorem b7c{X:Cx}:PCs X [] c0N:=λpins s σ H Q I h=>wpAny_tests_nil ⟨H,I,h⟩
theorem b7d{X:Cx}{c:AF}{t:TT}(h:PT X c t):PCs X [c] t:=λpins s σ H Q I hq=>wpAny_tests_one (h pins s σ H Q I hq)
def a7d(wi:TI)(g:TG)(tc:TT)(te:TE)(k:Nat):TE:=λσ H Q=>wi σ H λJ H1=>∀D,H1 D=ζ->∃W:Nat->Nat->List V->Hp->Prop,(∃m,W 0 m [] (m9 H1 D (.lst [])))/\∀i m xs H2,W i m xs H2->H2 D=ξ (.lst xs)->
 (J.stop i H2/\Q (.ref D) H2)\/(J.go i H2/\∀x H3,J.yld i H2 x H3->g x (σ++AO k ζ) H3 λσ4 H4=>(∀(j:Nat) v,(σ++AO k ζ)[j]?=ξ (ξ v)->σ4[j]?=ξ (ξ v))/\tc σ4 H4 λb H5=>if b=true then te σ4 H5 λv H6=>H6 D=ξ (.lst xs)/\xs.length<AM/\∃m',m'<m/\W (i+1) m' (xs++[v]) (m9 H6 D (.lst (xs++[v])))
  else H5 D=ξ (.lst xs)/\∃m',m'<m/\W (i+1) m' xs H5)
section
variable {X:Cx}{elt iter tg:AF}{ifs:List AF}{scope:Scope}{N0 ys:List Str}{wi:TI}{g:TG}{tc:TT}{te:TE}{pos:Pos}
theorem Y6{pins:List (AA×Obj)}{σ:St}{H:Hp}{s:AC}(I:g9 X pins σ H s)(S:E8 X.N N0 ys X.env scope){x:Str}(h:(x,NameKind.free)∈scope.names):∃c,X.env.cells.lookup x=ξ c:=I.ok.has x (S.fr _ h rfl)
theorem a55{pins:List (AA×Obj)}{σ:St}{H:Hp}{s:AC}{fp:List AA}(S:E8 X.N N0 ys X.env scope)(I:g9 X pins σ H s)(hf:∀b∈fp,a25 X pins H b)(ho:∀b∈fp,∃o,s.heap.get? b=ξ o/\∀v,o.data≠.cell v):
 g9 (p5 X N0 scope ys s.heap.objs.size fp pins s H) [] (σ++AO ys.length ζ) H {s with heap:=pushCells (s.heap.push {cls:= .type "dict",data:= .dict #[]}) scope.names}:=by
 have up:∀b o,s.heap.get? b=ξ o->(pushCells (s.heap.push {cls:= .type "dict",data:= .dict #[]}) scope.names).get? b=ξ o:=λb o e=>pushCells_keeps _ _ b o (AV _ e)
 have okc:=cellsFrom_ok scope.names (s.heap.push {cls:= .type "dict",data:= .dict #[]}) (s.heap.objs.size+1) [] ⟨λ_ _ hm=>(nomatch hm),List.Pairwise.nil⟩ (by rw [Heap.size_push];exact AQ _)
 rw [Heap.size_push] at okc
 have cel:∀x c,(B3 scope s.heap.objs.size X.env).cells.lookup x=ξ c->((x,c)∈cellsFrom (s.heap.objs.size+1) scope.names []/\(x,NameKind.cell)∈scope.names/\s.heap.objs.size<c)\/(X.env.cells.lookup x=ξ c/\(x,NameKind.free)∈scope.names):=λx c e=>by
  have m:=PySem.mem_of_lookup e;have m:(x,c)∈cellsFrom (s.heap.objs.size+1) scope.names (T2 X.env.cells scope.names []):=m;rw [E9] at m;rcases An.mp m with m|m
  ·obtain⟨h1,h2⟩:=M9 m;exact .inl ⟨m,h2,h1⟩
  ·rcases a4u m with m|⟨m,e⟩
   ·exact nomatch m
   ·obtain⟨c',hc'⟩:=Y6 I S m;rw [hc'] at e;exact .inr ⟨by rw [hc',e];rfl,m⟩
 have celLt:∀x c,X.env.cells.lookup x=ξ c->c<s.heap.objs.size:=λx c e=>let ⟨_,h⟩:=I.cell x c e;h.lt
 have fpLt:∀b∈fp,b<s.heap.objs.size:=λb hb=>let ⟨_,e,_⟩:=ho b hb;AT e
 have cellNo:∀x,(x,NameKind.cell)∉scope.names->(cellsFrom (s.heap.objs.size+1) scope.names []).lookup x=ζ:=λx hx=>a6A λc m=>hx (M9 m).2
 have look:∀x,(x,NameKind.free)∈scope.names->(B3 scope s.heap.objs.size X.env).cells.lookup x=X.env.cells.lookup x:=λx m=>by
  have hl:=z7 S.nd m;have hn:(x,NameKind.cell)∉scope.names:=λz=>by
   have:=z7 S.nd z;rw [hl] at this;cases this
  show(cellsFrom (s.heap.objs.size+1) scope.names (T2 X.env.cells scope.names [])).lookup x=_;rw [E9,a2Y (cellNo x hn),a06 S.nd hl];obtain⟨c,hc⟩:=Y6 I S m;rw [hc];rfl
 have kindF:∀x,scope.names.lookup x=ξ .free->X.env.kindOf x=ξ .cell\/X.env.kindOf x=ξ .free:=λx h=>S.fr _ (PySem.mem_of_lookup h) rfl
 refine⟨⟨I.mod,S.kind,I.ok.glob,I.ok.blt,AQ _,λx y c h1 h2=> ?_,λx h=> ?_,λx c h1 h2=> ?_,I.ok.hd,I.ok.frames,.inl rfl,λb hb=> ?_,I.bs,Nat.le_trans I.ok.bsz I.sz,λb o e hb=> ?_,λb hb hz=> ?_,I.stack,I.stkFree⟩,
  rfl,I.bare,Un.kept up,⟨λ_=>ζ, ?_,λi x v h1 h2 h3=> ?_⟩,λx c e=> ?_,I.hok.fresh (AQ _),λx c e=> ?_,λp hp=> ?_,I.hok.kept up, ?_⟩
 ·rcases cel x c h1 with⟨a1,b1,c1⟩|⟨a1,b1⟩
  ·rcases cel y c h2 with⟨a2,b2,c2⟩|⟨a2,b2⟩
   ·exact name_of_addr okc.apart a1 a2
   ·exact absurd (Nat.lt_trans c1 (celLt y c a2)) (Nat.lt_irrefl _)
  ·rcases cel y c h2 with⟨a2,b2,c2⟩|⟨a2,b2⟩
   ·exact absurd (Nat.lt_trans c2 (celLt x c a1)) (Nat.lt_irrefl _)
   ·exact I.ok.inj x y c a1 a2
 ·have hk:(B3 scope s.heap.objs.size X.env).kindOf x=ξ .cell\/(B3 scope s.heap.objs.size X.env).kindOf x=ξ .free:=h
  rw [X6] at hk
  cases e:scope.names.lookup x with
  |none=>rw [e] at hk;rcases hk with z|z<;>cases z
  |some k=>
   rw [e] at hk
   have hk':k= .cell\/k= .free:=by
    by_cases c:(k==NameKind.free && X.env.scope.kind== .function && X.env.kindOf x==ξ .cell)=true
    ·have:(k==NameKind.free)=true:=by
      rw [Bool.and_eq_true,Bool.and_eq_true] at c;exact c.1.1
     exact .inr (by simpa using this)
    ·simp only [Option.map_some] at hk;rw [if_neg c] at hk;rcases hk with z|z
     ·cases z;exact .inl rfl
     ·cases z;exact .inr rfl
   rcases hk' with rfl|rfl
   ·have q:=PySem.W.cellsFrom_some (x:=x) scope.names (s.heap.objs.size+1) (T2 X.env.cells scope.names []) (.inl e)
    exact Option.isSome_iff_exists.mp q
   ·obtain⟨c,hc⟩:=Y6 I S (PySem.mem_of_lookup e)
    exact⟨c,by show(B3 scope s.heap.objs.size X.env).cells.lookup x=_;rw [look x (PySem.mem_of_lookup e)];exact hc⟩
 ·rcases cel x c h2 with⟨_,_,c1⟩|⟨_,b1⟩
  ·exact Ax c1
  ·have h1':(scope.names.lookup x==ξ .cell)=true:=h1
   rw [z7 S.nd b1] at h1'
   cases h1'
 ·refine⟨AZ (fpLt b hb),λx c e z=> ?_⟩
  rcases cel x c e with⟨_,_,c1⟩|⟨a1,_⟩
  ·rw [z] at c1;exact absurd (Nat.lt_trans c1 (fpLt b hb)) (Nat.lt_irrefl _)
  ·exact(hf b hb).2.2.2.2.1 x c a1 z
 ·have hb:b∈fp:=hb
  rcases(hf b hb).2.2.2.1 with z|z
  ·exact I.ok.noex b o e z
  ·have h1:=(I.ok.bs b o e).1
   have:=AT h1
   exact absurd (Ai this z) (Nat.lt_irrefl _)
 ·have hb:b∈fp:=hb
  have hz:b∈frs X.stack:=hz
  rcases Ag.mp (I.stkSub b hz) with z|z
  ·exact(hf b hb).2.1 z
  ·exact(hf b hb).2.2.1 z
 ·exact(Heap.Ns.new s.heap (.type "dict")).keeps (pushCells_keeps _ _)
 ·have h1:(N0++ys)[i]?=ξ x:=h1
  rw [S.eq] at h1
  have hi:i<σ.length:=by
   by_cases hi:i<σ.length
   ·exact hi
   ·rw [List.getElem?_append_right (by lia),List.getElem?_replicate] at h2
    split at h2<;>cases h2
  rw [Ar hi] at h2
  rw [Ar (by rw [AX,<-I.len];exact hi),Am] at h1
  have hvis:Vis (B3 scope s.heap.objs.size X.env).scope x:=h3
  have hkn:scope.names.lookup x=ζ->False:=λz=>by
   have hk:∀k,(B3 scope s.heap.objs.size X.env).kindOf x=ξ k->scope.names.lookup x≠ζ:=λk z e=>by
    rw [X6,e] at z;cases z
   rcases hvis with e|e|e<;>exact absurd z (hk _ e)
  have h1:X.N[i]?=ξ x/\ys.contains x=false:=by
   cases e0:X.N[i]? with
   |none=>rw [e0] at h1;cases h1
   |some x0=>
    rw [e0] at h1;have h1:hid ys x0=x:=Option.some.inj h1;have ho:=S.ou x0 (Az e0);cases hc:ys.contains x0 with
    |true=>exact(hkn (by rw [<-h1];exact ho.1 hc)).elim
    |false=>
     have hx:x0=x:=by rw [<-h1];unfold hid;rw [if_neg (by rw [hc];exact Af)]
     subst hx;exact⟨rfl,hc⟩
  obtain⟨h1,hys⟩:=h1
  have hfree:scope.names.lookup x=ξ .free:=by
   have hk:∀k,(B3 scope s.heap.objs.size X.env).kindOf x=ξ k->scope.names.lookup x≠ζ:=λk z e=>by
    rw [X6,e] at z;cases z
   rcases(S.ou x (Az h1)).2 hys with z|z|z
   ·rcases hvis with e|e|e<;>exact absurd z (hk _ e)
   ·exact z
   ·have hg:(B3 scope s.heap.objs.size X.env).kindOf x=ξ .globalImplicit:=by
     rw [X6,z];rfl
    rcases hvis with e|e|e
    ·have e:(B3 scope s.heap.objs.size X.env).kindOf x=ξ .local:=e;rw [hg] at e;cases e
    ·have e:(B3 scope s.heap.objs.size X.env).kindOf x=ξ .cell:=e;rw [hg] at e;cases e
    ·have e:(B3 scope s.heap.objs.size X.env).kindOf x=ξ .free:=e;rw [hg] at e;cases e
  obtain⟨m,hn,hl⟩:=I.loc
  have hv:Vis X.env.scope x:=by
   rcases kindF x hfree with z|z
   ·exact .inr (.inl z)
   ·exact .inr (.inr z)
  obtain⟨u,r,l⟩:=hl i x v h1 h2 hv
  refine⟨u,r, ?_⟩
  rcases l with⟨k,_⟩|⟨k,c,e,z⟩
  ·rcases kindF x hfree with q|q<;>rw [q] at k<;>cases k
  ·refine .inr ⟨?_,c,by show(B3 scope s.heap.objs.size X.env).cells.lookup x=_;rw [look x (PySem.mem_of_lookup hfree)];exact e,z.keeps up⟩
   show(B3 scope s.heap.objs.size X.env).kindOf x=ξ .cell\/(B3 scope s.heap.objs.size X.env).kindOf x=ξ .free
   rw [X6,hfree]
   by_cases cc:((NameKind.free==NameKind.free)&& X.env.scope.kind== .function && X.env.kindOf x==ξ .cell)=true
   ·exact .inl (congrArg ξ (if_pos cc))
   ·exact .inr (congrArg ξ (if_neg cc))
 ·rcases cel x c e with⟨a1,_,_⟩|⟨a1,_⟩
  ·exact⟨ζ,(okc.empty x c a1).1⟩
  ·obtain⟨v,z⟩:=I.cell x c a1
   exact⟨v,z.keeps up⟩
 ·rcases cel x c e with⟨_,_,c1⟩|⟨a1,_⟩
  ·exact I.hok.fresh (Ax c1)
  ·exact I.freeC x c a1
 ·have hp:p∈(X.pn++pins)++[]:=hp
  rw [Ah] at hp
  obtain⟨e,n,ne,nf,d⟩:=I.pin p hp
  refine⟨up _ _ e,n,AZ (AT e),λhz=> ?_,d⟩
  have hz:p.1∈frs X.stack:=hz
  rcases Ag.mp (I.stkSub p.1 hz) with z|z
  ·exact ne z
  ·exact nf z
 ·show(σ++AO ys.length ζ).length=(N0++ys).length
  rw [AW,List.length_replicate,AW,S.eq,AX,I.len]
def a26(X:Cx)(pins:List (AA×Obj))(C:AA):Prop:=C≠X.env.locals/\X.s₀.heap.objs.size<=C/\(∀x c,X.env.cells.lookup x=ξ c->c≠C)/\∀p∈X.pn++pins,p.1≠C
theorem a77{pos':Pos}{use:Option (AB->Sem Unit)}{QQ:AB->AC->Prop}(hx:∀e s,X.xe e s->False)(hc:X.calm=true)(S:E8 X.N N0 ys X.env scope)(hi:PI X tg iter wi)
 (hg:∀C fp pins s H,PG (p5 X N0 scope ys C fp pins s H) tg g) (ht:∀C fp pins s H,PCs (p5 X N0 scope ys C fp pins s H) ifs tc) (he:∀C fp pins s H,PE (p5 X N0 scope ys C fp pins s H) elt te)
 (hs:∀x,foldedSetIterable iter X.env x=pure x) {pins:List (AA×Obj)} {s:AC} {σ:St} {H:Hp} {Q:VK} (I:g9 X pins σ H s) (h:a7d wi g tc te ys.length σ H Q)
 (fin:∀D C s' H' m,g9 X pins σ H' s'->s'.heap.Ns C m->H' C=ζ->a26 X pins C->Q (.ref D) H'->compPost (model X.prog X.w) X.A X.xe use QQ (.ref D) C (.ok .next) s'):
 AH (model X.prog X.w) X.A (comprehension (.ListComp elt [⟨tg,iter,ifs,0⟩] scope pos) scope X.env pos' (newList []) false (eval iter X.env) use) QQ X.xe s:=by
 have hcl:closureFor scope X.env=pure (T2 X.env.cells scope.names []):=a2Q λx hx' hk=>by
  obtain⟨c,e⟩:=Y6 (ys:=ys) I S (x:=x.1) (by rw [<-hk];exact hx')
  rw [e];rfl
 refine wpAny_comprehension_free (use:=use) rfl hs hcl S.kind (λx hx' hk=>z7 S.nd (by rw [<-hk];exact hx')) (D5 (hi pins s σ H _ I h) λv s1 h1=>D5 h1 λitv s2 h2=> ?_)
 obtain⟨it,fp,tn,J,H2,e,I2,T,st2,f2,hW⟩:=h2
 subst e
 have hfr:=I2.hok.fresh (AQ _)
 obtain⟨W,⟨m0,w0⟩,turn⟩:=hW s2.heap.objs.size hfr
 have fpLt:∀b∈fp,b<s2.heap.objs.size:=λb hb=>let ⟨_,e,_⟩:=T.obj _ _ st2 b hb;AT e
 refine wpAny_newObj_type ?_
 have I3:g9 X pins σ (m9 H2 s2.heap.objs.size (.lst [])) {s2 with heap:=s2.heap.push {cls:= .type "list",data:= .seq ([]:List AB).toArray}}:=
  I2.laid (t':=s2.toks) (λb o e=>AV _ e) (AQ _) ⟨by decide,[],0,.nil,Ak _ rfl⟩
 have up3:∀b o,s2.heap.get? b=ξ o->(s2.heap.push {cls:= .type "list",data:= .seq ([]:List AB).toArray}).get? b=ξ o:=λb o e=>AV _ e
 have st3:tn 0 (s2.heap.push {cls:= .type "list",data:= .seq ([]:List AB).toArray}):=T.keep _ _ _ st2 λb _ o e=>up3 b o e
 have f3:∀b∈fp,a25 X pins (m9 H2 s2.heap.objs.size (.lst [])) b:=λb hb=>⟨by rw [g6 (AZ (fpLt b hb))];exact(f2 b hb).1,(f2 b hb).2⟩
 generalize hs3:({s2 with heap:=s2.heap.push {cls:= .type "list",data:= .seq ([]:List AB).toArray}}:AC)=s3 at I3
 have hs3h:s3.heap=s2.heap.push {cls:= .type "list",data:= .seq ([]:List AB).toArray}:=by rw [<-hs3]
 rw [<-hs3h] at st3 up3
 refine V6 ?_
 have I4:=a55 S I3 f3 (T.obj _ _ st3)
 generalize hs4:({s3 with heap:=pushCells (s3.heap.push {cls:= .type "dict",data:= .dict #[]}) scope.names}:AC)=s4 at I4 ⊢
 have hs4h:s4.heap=pushCells (s3.heap.push {cls:= .type "dict",data:= .dict #[]}) scope.names:=by rw [<-hs4]
 have st4:tn 0 s4.heap:=T.keep _ _ _ st3 λb _ o e=>by rw [hs4h];exact pushCells_keeps _ _ b o (AV _ e)
 generalize hX:p5 X N0 scope ys s3.heap.objs.size fp pins s3 (m9 H2 s2.heap.objs.size (.lst []))=Y at I4
 have Yp:Y.prog=X.prog:=by rw [<-hX];rfl
 have Yw:Y.w=X.w:=by rw [<-hX];rfl
 have YK:Y.K=X.K:=by rw [<-hX];rfl
 have YA:Y.A=X.A:=by rw [<-hX];rfl
 have Yc:Y.calm=true:=by rw [<-hX];exact hc
 have Yx:Y.xe=X.xe:=by rw [<-hX];rfl
 have YL:Y.env.locals=s3.heap.objs.size:=by rw [<-hX];rfl
 have Yf:Y.fs=frs X.stack:=by rw [<-hX];rfl
 have Ye:Y.ex=fp:=by rw [<-hX];rfl
 have Yn:Y.pn=X.pn++pins:=by rw [<-hX];rfl
 have Ys:Y.s₀=s3:=by rw [<-hX];rfl
 have YH:Y.H₀=m9 H2 s2.heap.objs.size (.lst []):=by rw [<-hX];rfl
 have YE:Y.env=B3 scope s3.heap.objs.size X.env:=by rw [<-hX];rfl
 have hgY:PG Y tg g:=by rw [<-hX];exact hg _ _ _ _ _
 have htY:PCs Y ifs tc:=by rw [<-hX];exact ht _ _ _ _ _
 have heY:PE Y elt te:=by rw [<-hX];exact he _ _ _ _ _
 have nlen:(σ++AO ys.length ζ).length=Y.N.length:=I4.len
 have exf:=I4.ok.exf
 have exfs:=I4.ok.exfs
 have stat:∀{H':Hp},(∀b∈fp,H' b=ζ)->∀b∈fp,a25 Y [] H' b:=λ {H'} hn b hb=>by
  have hb':b∈Y.ex:=by rw [Ye];exact hb
  refine⟨hn b hb,(exf b hb').1,exfs b hb',.inl hb',(exf b hb').2,λp hp=> ?_⟩;rw [Ah,Yn] at hp;exact(f2 b hb).2.2.2.2.2 p hp
 have TY:b08 Y.prog Y.w Y.K tg J fp it tn:=by rw [Yp,Yw,YK];exact T
 have noX:∀e s,Y.xe e s->False:=λe s h=>hx e s (by rw [<-Yx];exact h)
 have loop:∀R:Result->AC->Prop,(∀s' H' m,g9 X pins σ H' s'->s'.heap.Ns s3.heap.objs.size m->H' s3.heap.objs.size=ζ->a26 X pins s3.heap.objs.size->Q (.ref s2.heap.objs.size) H'->R (.ok .next) s')->
  codeAny (model X.prog X.w) X.A (.compLoop (.ListComp elt [⟨tg,iter,ifs,0⟩] scope pos) 0 (.ref it) (.ref s2.heap.objs.size) (B3 scope s3.heap.objs.size X.env)) R s4:=by
  intro R hR
  refine a2E (λn s'=>∃i xs H' σ',g9 Y [] σ' H' s'/\(∀(j:Nat) v,(σ++AO ys.length ζ)[j]?=ξ (ξ v)->σ'[j]?=ξ (ξ v))/\tn i s'.heap/\(∀b∈fp,H' b=ζ)/\H' s2.heap.objs.size=ξ (.lst xs)/\W i n xs H') ?_ m0
   ⟨0,[],_,_,I4,λ_ _ e=>e,st4,λb hb=>(f3 b hb).1,i3,w0⟩
  rintro n s5 ⟨i,xs,H5,σ5,I5,k5,st5,fr5,hD5,w5⟩
  have I5:g9 Y [] (σ++AO ys.length ζ) H5 s5:=I5.weak (by rw [nlen,I5.len]) k5
  rw [<-Yp,<-Yw,<-YA]
  rcases turn i n xs H5 w5 hD5 with⟨stop,q⟩|⟨go,step⟩
  ·refine wpAny_mono (TY.done Y rfl rfl rfl Yc i [] s5 _ H5 (λ_ _=>False) I5 (stat fr5) st5 stop) (λr s6 ⟨hr,I6⟩=> ?_) λ_ _ z=>z
   subst hr
   obtain⟨m,hn,_⟩:=I6.loc
   have un:=I6.base
   rw [Yf,Ye,Ys,YH] at un
   rw [YL] at hn
   have hfC:=I6.free
   rw [YL] at hfC
   refine hR s6 H5 m (I3.call' (ch:=fp) (by rw [I6.os,Ys]) un (by have z:=I6.hok;rw [Yp,Yw] at z;exact z) I6.bare λb hb=>⟨(f3 b hb).2.2.2.1,(f3 b hb).2.1,(f3 b hb).2.2.2.2.1,(f3 b hb).2.2.2.2.2⟩) hn hfC ⟨Nat.ne_of_gt I3.lt,I3.sz,λx c e=> ?_,λp hp=> ?_⟩ q
   ·obtain⟨v,z⟩:=I3.cell x c e
    exact AZ z.lt
   ·exact AZ (AT (I3.pin p hp).1)
  ·refine wpAny_mono (TY.item Y rfl rfl rfl Yc i [] s5 _ H5 (λ_ _=>False) I5 (stat fr5) st5 go) (λr s6 ⟨u,hr,h6⟩=> ?_) λ_ _ z=>z
   subst hr
   dsimp only
   refine wpAny_mono h6 (λ_ s7 ⟨x,H7,I7,r7,y7,st7,fr7⟩=> ?_) λ_ _ z=>z
   have I7':=I7.pinned (stat fr7) (T.obj _ _ st7)
   rw [<-YE]
   have keepT:∀{σ8:St} {H8:Hp} {s8:AC},g9 Y ([]++a4S fp s7.heap) σ8 H8 s8->tn (i+1) s8.heap/\∀b∈fp,H8 b=ζ:=λ {σ8 H8 s8} I8=>by
    ext t
   refine wpAny_mono (hgY _ s7 _ H7 x u _ I7' r7 (step x H7 y7)) (λ_ s8 h0=>k9 h0 λσ8 H8 I8 k8 q8=> ?_) λe s z=>noX e s z
   refine wpAny_mono (htY _ s8 σ8 H8 _ I8 q8) (λb s9 ⟨H9,I9,q9⟩=> ?_) λe s z=>noX e s z
   cases b with
   |false=>
    rw [if_neg Af] at q9 ⊢
    obtain⟨hD9,m',lt,w9⟩:=q9
    obtain⟨t9,n9⟩:=keepT I9
    exact⟨m',lt,i+1,xs,H9,σ8,I9.pins_of (λp hp=>nomatch hp),k8,t9,n9,hD9,w9⟩
   |true=>
    rw [if_pos rfl] at q9 ⊢
    refine wpAny_mono (heY _ s9 σ8 H9 _ I9 q9) (λy s10 ⟨v,H10,I10,r10,hD10,hz,m',lt,w10⟩=> ?_) λe s z=>noX e s z
    refine wpAny_mono (a4O _ s10 σ8 H10 (.ref s2.heap.objs.size) [v] (.ref s2.heap.objs.size) [y] (λ_ H'=>H'=m9 H10 s2.heap.objs.size (.lst (xs++[v]))) I10 rfl (.cons r10 .nil) ⟨_,xs,v,rfl,rfl,hD10,hz,rfl⟩) (λ_ s11 h0=>k9 h0 λ_ H11 I11 _ e11=> ?_) λe s z=>noX e s z
    subst e11
    obtain⟨t11,n11⟩:=keepT I11
    exact⟨m',lt,i+1,xs++[v],_,σ8,I11.pins_of (λp hp=>nomatch hp),k8,t11,n11,i3,w10⟩
 show codeAny _ _ (.compStart _ 0 _ _ (B3 scope s3.heap.objs.size X.env)) _ _
 refine codeAny_compStart_list (loop _ λs' H' m a b c d e=>fin _ _ s' H' m a b c d e) (T.self _ 0 _ _ _ st4 (loop _ λs' H' m a b c d e=>fin _ _ s' H' m a b c d e))
theorem b7f(hx:∀e s,X.xe e s->False)(hc:X.calm=true)(S:E8 X.N N0 ys X.env scope)(hi:PI X tg iter wi)
 (hg:∀C fp pins s H,PG (p5 X N0 scope ys C fp pins s H) tg g) (ht:∀C fp pins s H,PCs (p5 X N0 scope ys C fp pins s H) ifs tc) (he:∀C fp pins s H,PE (p5 X N0 scope ys C fp pins s H) elt te)
 (hs:∀x,foldedSetIterable iter X.env x=pure x:=by intro _;rfl):PE X (.ListComp elt [⟨tg,iter,ifs,0⟩] scope pos) (a7d wi g tc te ys.length):=by
 intro pins s σ H Q I h
 rw [eval_ListComp]
 refine a77 hx hc S hi hg ht he hs I h λD C s' H' m I' hn hC gone q=>⟨m,hn,λh' hs'=>⟨.ref D,H', ?_,rfl,q⟩⟩
 obtain⟨g1,g2,g3,g4⟩:=gone
 exact I'.turned (t':=s'.toks) (λb o hb e=>hs'.extBut b o hb e) hC g1 (.inr g2) g3 g4
theorem b7m{i:Nat}{y:Str}{py spos:Pos}(hx:∀e s,X.xe e s->False)(hc:X.calm=true)(S:E8 X.N N0 ys X.env scope)(hi:PI X tg iter wi)
 (hg:∀C fp pins s H,PG (p5 X N0 scope ys C fp pins s H) tg g) (ht:∀C fp pins s H,PCs (p5 X N0 scope ys C fp pins s H) ifs tc) (he:∀C fp pins s H,PE (p5 X N0 scope ys C fp pins s H) elt te)
 (hN:X.N.Nodup) (hiy:X.N[i]?=ξ y) (hy:X.env.scope.names.lookup y=ξ .local)
 (hsw:swapsWith (.ListComp elt [⟨tg,iter,ifs,0⟩] scope pos) (ξ (.Name y py)) spos.line X.env=pure true)
 (hs:∀x,foldedSetIterable iter X.env x=pure x:=by intro _;rfl):PS X (.Assign [.Name y py] (.ListComp elt [⟨tg,iter,ifs,0⟩] scope pos) spos) (λD σ H=>a7d wi g tc te ys.length σ H λv H'=>D.nx (σ.set i (ξ v)) H'):=by
 intro pins s σ H D I h
 rw [exec_Assign_Name_used _ _ _ _ hsw]
 refine AG (wpAny_standAt (AG ?_))
 show AH _ X.A (do let _<-comprehension (.ListComp elt [⟨tg,iter,ifs,0⟩] scope pos) scope X.env _ (newList []) false (eval iter X.env) (ξ (assign (.Name y py) X.env))) _ _ s
 refine AG (wpAny_mono (a77 (QQ:=λ_ s'=>SP X pins D .next s') hx hc S hi hg ht he hs I h λL C s' H' m I' hn hC gone q=> ?_) (λ_ s' hq=>AN (AN hq)) λ_ _ e=>e)
 obtain⟨g1,g2,g3,g4⟩:=gone
 show AH _ X.A (assign (.Name y py) X.env (.ref L)) _ _ _
 refine wpAny_assign_Name (a4Z (v:= .ref L) I' hN hiy (.inl hy) rfl (λs2 I2 ⟨a,sb,ha⟩=> ?_) (.inr hy))
 have hCa:C≠a:=by
  rcases ha with z|z
  ·rw [z];exact g1
  ·exact λe=>g3 y a z e.symm
 refine⟨m,hn.sameBut sb hCa,λh' hs'=>⟨_,H',I2.turned (t':=s2.toks) (λb o hb e=>hs'.extBut b o hb e) hC g1 (.inr g2) g3 g4,q⟩⟩
end
end L2
namespace PU
open PySem PySem.Spec PyProof.Rows L2
def a2R(c:MT)(elt:M)(tg:PV->b0->Option b0)(ρ:b0):List PV->Option (List PV)
 |[]=>ξ []
 |p::ps=>(tg p ρ).bind λρ1=>(c ρ1).bind λb=>if b=true then((elt ρ1).bind c6.toVal).bind λq=>(a2R c elt tg ρ ps).bind λr=>ξ (q::r) else a2R c elt tg ρ ps
def V5:MT:=λ_=>ξ true
def V3(k:Nat)(it:MI)(tg:PV->b0->Option b0)(c:MT)(elt:M):M:=λρ=>(it ρ).bind λps=>if ps.length<=AM then(a2R c elt tg (ρ++AO k ζ) ps).bind λr=>ξ (.own r) else ζ
def a2N(K:AE)(n:Nat)(g:TG)(tg:PV->b0->Option b0):Prop:=
 ∀F H σ ρ ρ1 p x (Q:L2.St->Hp->Prop),A5 K F H σ ρ->C0 K F p x->tg p ρ=ξ ρ1->(∀σ',A5 K F H σ' ρ1->(∀(j:Nat),j<n->σ'[j]?=σ[j]?)->Q σ' H)->g x σ H Q
theorem A5.set{K:AE}{F H:Hp}{σ:L2.St}{ρ:b0}{p:PV}{x:V}(e:A5 K F H σ ρ)(r:C0 K F p x)(i:Nat):A5 K F H (σ.set i (ξ x)) (ρ.set i (ξ (.v p))):=by
 refine⟨e.fh,by simp [e.len],λj q h=> ?_,λj ps h=> ?_,λj k ps qs a hjk h1 h2 h3 h4=> ?_⟩
 ·rw [List.getElem?_set] at h ⊢
  by_cases hij:i=j
  ·subst hij;rw [if_pos rfl] at h ⊢;rw [e.len];split at h
   ·rename_i c;cases h;rw [if_pos c];exact⟨x,rfl,r⟩
   ·cases h
  ·rw [if_neg hij] at h ⊢;exact e.at_ j q h
 ·rw [List.getElem?_set] at h
  by_cases hij:i=j
  ·subst hij;rw [if_pos rfl] at h;split at h<;>cases h
  ·rw [if_neg hij] at h;exact e.nb j ps h
 ·have get:∀(j:Nat) (ps:a0H),(ρ.set i (ξ (c6.v p)))[j]?=ξ (ξ (c6.ow ps))->i≠j/\ρ[j]?=ξ (ξ (c6.ow ps)):=λj ps h=>by
   rw [List.getElem?_set] at h
   by_cases hij:i=j
   ·subst hij;rw [if_pos rfl] at h;split at h<;>cases h
   ·rw [if_neg hij] at h;exact⟨hij,h⟩
  obtain⟨n1,h1⟩:=get j ps h1;obtain⟨n2,h2⟩:=get k qs h2;rw [List.getElem?_set_ne n1] at h3;rw [List.getElem?_set_ne n2] at h4;exact e.ap j k ps qs a hjk h1 h2 h3 h4
theorem M3{K:AE}{n i:Nat}(h:n<=i):a2N K n (a8h i) (d7 i):=λF H σ ρ ρ1 p x Q e r q k=>by
 cases q;exact k _ (e.set r i) λj hj=>by rw [List.getElem?_set_ne (by lia)]
theorem A5.setAll{K:AE}{F H:Hp}{n:Nat}:∀{is:List Nat} {xs:List V} {ps:List PV} {σ:L2.St} {ρ:b0},(∀i∈is,n<=i)->A5 K F H σ ρ->j4 K F ps xs->A5 K F H (PU.setAll σ is xs) (PU.setAll ρ is (ps.map .v))/\∀(j:Nat),j<n->(PU.setAll σ is xs)[j]?=σ[j]?
 |[],xs,ps,σ,ρ,_,s,r=>by
  have e1:PU.setAll σ [] xs=σ:=by cases xs<;>rfl
  have e2:PU.setAll ρ [] (ps.map c6.v)=ρ:=by cases ps<;>rfl
  rw [e1,e2];exact⟨s,λ_ _=>rfl⟩
 |i::is,xs,[],σ,ρ,_,s,r=>by cases r;exact⟨s,λ_ _=>rfl⟩
 |i::is,xs,p::ps,σ,ρ,h,s,⟨v,t,e,rp,rl⟩=>by
  subst e;obtain⟨h1,h2⟩:=A5.setAll (is:=is) (n:=n) (λj hj=>h j (AY _ hj)) (s.set rp i) rl;refine⟨h1,λj hj=> ?_⟩;have hi:=h i Aa;show(PU.setAll (σ.set i (ξ v)) is t)[j]?=_;rw [h2 j hj,List.getElem?_set_ne (by lia)]
theorem A5.more{K:AE}{F H:Hp}{σ:L2.St}{ρ:b0}(e:A5 K F H σ ρ)(k:Nat):A5 K F H (σ++AO k ζ) (ρ++AO k ζ):=by
 have key:∀(j:Nat) (q:c6),(ρ++AO k ζ)[j]?=ξ (ξ q)->ρ[j]?=ξ (ξ q)/\(σ++AO k ζ)[j]?=σ[j]?:=λj q h=>by
  by_cases hj:j<ρ.length
  ·rw [Ar hj] at h;rw [Ar (by rw [e.len];exact hj)]
   exact⟨h,rfl⟩
  ·rw [List.getElem?_append_right (by lia),List.getElem?_replicate] at h
   split at h<;>cases h
 refine⟨e.fh,by simp [e.len],λj q h=> ?_,λj ps h=>e.nb j ps (key j _ h).1,λj k' ps qs a hjk h1 h2 h3 h4=> ?_⟩
 ·obtain⟨h1,h2⟩:=key j q h;rw [h2];exact e.at_ j q h1
 ·obtain⟨a1,b1⟩:=key j _ h1;obtain⟨a2,b2⟩:=key k' _ h2;rw [b1] at h3;rw [b2] at h4;exact e.ap j k' ps qs a hjk a1 a2 h3 h4
def WC(K:AE)(F H:Hp)(D:AA)(c:MT)(elt:M)(tg:PV->b0->Option b0)(ρ:b0)(ps r:List PV)(i m:Nat)(xs:List V)(H':Hp):Prop:=
 ∃F' done rest,i<=ps.length/\m=ps.length - i/\O8 F H F' H'/\F' D=ζ/\j4 K F' done xs/\done.length<=i/\a2R c elt tg ρ (ps.drop i)=ξ rest/\done++rest=r
theorem b3g{K:AE}{F H:Hp}{D:AA}{c:MT}{elt:M}{tg:PV->b0->Option b0}{g:TG}{σ:L2.St}{ρ:b0}{k:Nat}{ps r:List PV}{i m:Nat}{xs:List V}{H':Hp}{p:PV}{x:V}
 (T:a2N K ρ.length g tg) (en:A5 K F H σ ρ) (hD:H D=ζ) (hsz:ps.length<=AM) (W:WC K F H D c elt tg (ρ++AO k ζ) ps r i m xs H') (hx:H' D=ξ (.lst xs)) (ep:ps[i]?=ξ p) (rx:C0 K F p x):
 g x (σ++AO k ζ) H' λσ4 H4=>(∀(j:Nat) v,(σ++AO k ζ)[j]?=ξ (ξ v)->σ4[j]?=ξ (ξ v))/\tMT K c σ4 H4 λb H5=>if b=true then tM K elt σ4 H5 λv H6=>H6 D=ξ (.lst xs)/\xs.length<AM/\∃m',m'<m/\WC K F H D c elt tg (ρ++AO k ζ) ps r (i+1) m' (xs++[v]) (m9 H6 D (.lst (xs++[v])))
  else H5 D=ξ (.lst xs)/\∃m',m'<m/\WC K F H D c elt tg (ρ++AO k ζ) ps r (i+1) m' xs H5:=by
 obtain⟨F',done,rest,hi,hm,ex,fD,rl,dl,hc,hr⟩:=W
 have hk:i<ps.length:=(Ac.mp ep).1
 have hd:ps.drop i=p::ps.drop (i+1):=by
  rw [List.drop_eq_getElem_cons hk]
  congr 1
  exact(Ac.mp ep).2
 rw [hd] at hc
 unfold a2R at hc
 obtain⟨ρ1,e1,hc⟩:=bind_some hc
 obtain⟨b,e2,hc⟩:=bind_some hc
 have en':=(en.ext ex).more k
 refine T F' H' _ _ ρ1 p x _ en' (C0.mono ex.f _ rx) e1 λσ4 en4 keep=>⟨λj v e=> ?_, ?_⟩
 ·by_cases hj:j<ρ.length
  ·rw [keep j hj];exact e
  ·rw [List.getElem?_append_right (by rw [en.len];lia),List.getElem?_replicate] at e
   split at e<;>cases e
 refine⟨F',ρ1,b,en4,e2,λF5 H5 x5=> ?_⟩
 have ex5:=ex.trans x5
 have fD5:F5 D=ζ:=x5.nw D _ fD hx (λ_ h=>nomatch h)
 cases b with
 |false=>
  rw [if_neg Af] at hc
  refine a81 ⟨x5.h _ _ hx,ps.length - (i+1),by lia,F5,done,rest,by lia,rfl,ex5,fD5,j4.mono x5.f _ rl,by lia,hc,hr⟩
 |true=>
  rw [if_pos rfl] at hc
  obtain⟨q,e3,hc⟩:=bind_some hc
  obtain⟨rt,e4,hc⟩:=bind_some hc
  cases hc
  obtain⟨re,e5,e6⟩:=bind_some e3
  refine a82 ⟨F5,ρ1,re,en4.ext x5,e5,λv F6 H6 o6=> ?_⟩
  obtain⟨F7,o7⟩:=o6.toVal e6
  have hx6:H6 D=ξ (.lst xs):=o6.x.h _ _ (x5.h _ _ hx)
  have fD7:F7 D=ζ:=o7.x.nw D _ fD5 (x5.h _ _ hx) (λ_ h=>nomatch h)
  have ex7:=ex5.trans o7.x
  have hlen:=rl.length
  refine⟨hx6,by lia,ps.length - (i+1),by lia,F7,done++[q],rt,by lia,rfl,⟨ex7.f,λa o z=> ?_,λa o z=> ?_,ex7.nw,ex7.nf⟩,fD7,j4.append (j4.mono (x5.f.trans o7.x.f) _ rl) ⟨v,[],rfl,o7.rep,rfl⟩,by simp;lia,e4,by rw [List.append_assoc];exact hr⟩
  ·rw [g6 (i5 z hD)];exact ex7.h _ _ z
  ·rw [g6 (i5 z fD7)];exact ex7.fh _ _ z
theorem b4u{K:AE}{F H:Hp}{D:AA}{c:MT}{elt:M}{tg:PV->b0->Option b0}{ρ:b0}{ps r:List PV}{m:Nat}{xs:List V}{H':Hp}(hD:H D=ζ)(W:WC K F H D c elt tg ρ ps r ps.length m xs H')(hx:H' D=ξ (.lst xs)):∃F',u6 K F H F' H' (.ref D) (.own r):=by
 obtain⟨F',done,rest,hi,hm,ex,fD,rl,dl,hc,hr⟩:=W;rw [List.drop_length] at hc;cases hc;rw [Ah] at hr;subst hr;exact⟨F',ex,⟨D,xs,rfl,fD,hx,rl⟩,λ_ _ _ e=>by cases e;exact hD⟩
structure Src(K:AE)(F0 F H:Hp)(J:It)(ps:List PV):Prop where
 st:∀i H',j2 H H'->ps.length<=i->J.stop i H'
 go:∀i p H',j2 H H'->ps[i]?=ξ p->J.go i H'
 yd:∀i p x H' H'',j2 H H'->ps[i]?=ξ p->J.yld i H' x H''->H''=H'/\C0 K F p x
def SI(K:AE)(mi:MI)(wi:TI):Prop:=∀F H σ ρ ps (R:It->Hp->Prop),A5 K F H σ ρ->mi ρ=ξ ps->(∀F1 H1 J,O8 F H F1 H1->Src K F F1 H1 J ps->R J H1)->wi σ H R
abbrev EI(X:Cx)(tg iter:AF)(mi:MI):Prop:=∃wi,PI X tg iter wi/\SI X.K mi wi
section
variable {X:Cx}{tg:AF}
def B6(m:M):MI:=λρ=>(m ρ).bind λr=>PyData.items? r.rd
theorem a3g{l:AF}{m:M}(h:EE X l m):EI X tg l (B6 m):=⟨_,a9w h,λF H σ ρ ps R en e k=>by
 obtain⟨r,e1,e2⟩:=bind_some e;refine⟨F,ρ,r,en,e1,λv F1 H1 o1=> ?_⟩;obtain⟨a,xs,rfl,hq,rl⟩:=Q3 o1.x.fh o1.rep e2;have hlen:=rl.length;rcases hq with hq|hq
 ·refine⟨a,rfl,.inl ⟨⟨xs,hq⟩,k F1 H1 _ o1.x ⟨λi H2 s h=>⟨xs,A2 s hq,by lia⟩,λi p H2 s h=> ?_,λi p x H2 H3 s h y=> ?_⟩⟩⟩
  ·obtain⟨v,ev,_⟩:=rl.get h;exact⟨xs,v,A2 s hq,ev⟩
  ·obtain⟨v,ev,rv⟩:=rl.get h;obtain⟨e,y⟩:=y;have:=y xs (A2 s hq);rw [ev] at this;cases this;exact⟨e,rv⟩
 ·refine⟨a,rfl,.inr ⟨⟨xs,hq⟩,k F1 H1 _ o1.x ⟨λi H2 s h=>⟨xs,t4 s hq,by lia⟩,λi p H2 s h=> ?_,λi p x H2 H3 s h y=> ?_⟩⟩⟩
  ·obtain⟨v,ev,_⟩:=rl.get h;exact⟨xs,v,t4 s hq,ev⟩
  ·obtain⟨v,ev,rv⟩:=rl.get h;obtain⟨e,y⟩:=y;have:=y xs (t4 s hq);rw [ev] at this;cases this;exact⟨e,rv⟩⟩
abbrev EC(X:Cx)(ifs:List AF)(c:MT):Prop:=PCs X ifs (tMT X.K c)
theorem a4A:EC X [] V5:=λpins s σ H Q I ⟨F,ρ,b,en,e,k⟩=>by
 cases e;exact b7c pins s σ H Q I (k F H (O8.refl en.fh))
theorem b8A{c:AF}{mc:MT}(h:ET X c mc):EC X [c] mc:=b7d h
theorem a78{mi:MI}{wi:TI}{g:TG}{c:MT}{elt:M}{t:PV->b0->Option b0}{N:List Str}{k:Nat}(hi:SI X.K mi wi)(T:∀n,n=N.length->a2N X.K n g t){σ:L2.St}{H:Hp}{Q:VK}(hl:σ.length=N.length)(h:tM X.K (V3 k mi t c elt) σ H Q):a7d wi g (tMT X.K c) (tM X.K elt) k σ H Q:=by
 obtain⟨F,ρ,r,en,e,kk⟩:=h;obtain⟨ps,e1,e⟩:=bind_some e;split at e
 ·rename_i hsz;obtain⟨rs,e2,e⟩:=bind_some e;cases e;refine hi F H σ ρ ps _ en e1 λF1 H1 J x1 S D hD=> ?_;have en1:=en.ext x1;have T':a2N X.K ρ.length g t:=T _ (by rw [<-en.len,hl])
  refine⟨WC X.K F1 H1 D c elt t (ρ++AO k ζ) ps rs,⟨ps.length,F1,[],rs,Nat.zero_le _,rfl,O8.layH x1.fh hD,x1.fh.free hD,rfl,AQ _,e2,rfl⟩,λi m xs H2 W hx=> ?_⟩;have W':=W;obtain⟨F',done,rest,hi',hm,ex,fD,rl,dl,hc,hr⟩:=W';have sF:j2 H1 H2:=ex.h
  by_cases hlt:i<ps.length
  ·refine .inr ⟨S.go i ps[i] H2 sF (by simp [hlt]),λx H3 y=> ?_⟩
   obtain⟨e3,rx⟩:=S.yd i ps[i] x H2 H3 sF (by simp [hlt]) y
   subst e3;exact b3g T' en1 hD hsz W hx (by simp [hlt]) rx
  ·have e3:i=ps.length:=by lia
   subst e3;refine .inl ⟨S.st _ H2 sF (AQ _), ?_⟩;obtain⟨F2,o⟩:=b4u hD W hx;exact kk _ F2 H2 (u6.trans x1 o)
 ·cases e
theorem a5J{elt iter:AF}{ifs:List AF}{scope:Scope}{N0 ys:List Str}{mi:MI}{g:TG}{c:MT}{m:M}{t:PV->b0->Option b0}{pos:Pos}(hx:∀e s,X.xe e s->False)(hc:X.calm=true)(S:E8 X.N N0 ys X.env scope)(hi:EI X tg iter mi)
 (hg:∀C fp pins s H,PG (p5 X N0 scope ys C fp pins s H) tg g) (T:∀n,n=X.N.length->a2N X.K n g t) (ht:∀C fp pins s H,EC (p5 X N0 scope ys C fp pins s H) ifs c) (he:∀C fp pins s H,EE (p5 X N0 scope ys C fp pins s H) elt m)
 (hs:∀x,foldedSetIterable iter X.env x=pure x:=by intro _;rfl):EE X (.ListComp elt [⟨tg,iter,ifs,0⟩] scope pos) (V3 ys.length mi t c m):=by
 obtain⟨wi,h1,h2⟩:=hi
 intro pins s σ H Q I h
 exact b7f hx hc S h1 hg ht he hs pins s σ H Q I (a78 (N:=X.N) h2 T I.len h)
theorem b2s{i:Nat}{y:Str}{elt iter:AF}{ifs:List AF}{scope:Scope}{N0 ys:List Str}{mi:MI}{g:TG}{c:MT}{m:M}{t:PV->b0->Option b0}{pos py spos:Pos}(hN:X.N.Nodup)(hx:∀e s,X.xe e s->False)(hc:X.calm=true)(S:E8 X.N N0 ys X.env scope)(hi:EI X tg iter mi)
 (hg:∀C fp pins s H,PG (p5 X N0 scope ys C fp pins s H) tg g) (T:∀n,n=X.N.length->a2N X.K n g t) (ht:∀C fp pins s H,EC (p5 X N0 scope ys C fp pins s H) ifs c) (he:∀C fp pins s H,EE (p5 X N0 scope ys C fp pins s H) elt m)
 (hiy:X.N[i]?=ξ y:=by rfl) (hy:X.env.scope.names.lookup y=ξ .local:=by rfl) (hsw:swapsWith (.ListComp elt [⟨tg,iter,ifs,0⟩] scope pos) (ξ (.Name y py)) spos.line X.env=pure true:=by rfl)
 (hs:∀x,foldedSetIterable iter X.env x=pure x:=by intro _;rfl):ES X (.Assign [.Name y py] (.ListComp elt [⟨tg,iter,ifs,0⟩] scope pos) spos) (l7 i (V3 ys.length mi t c m)):=by
 obtain⟨wi,h1,h2⟩:=hi
 intro pins s σ H D I ⟨F0,H0,F,ρ,fl,so,e,fin⟩
 obtain⟨r,e1,e⟩:=bind_some e
 split at e
 ·rename_i c
  cases e
  exact b7m hx hc S h1 hg ht he hN hiy hy hsw hs pins s σ H D I (a78 (N:=X.N) h2 T I.len ⟨F,ρ,r,so.e,e1,λv F' H' o=>fin _ F' H' o.x.f (so.set o c i)⟩)
 ·cases e
end
def a1r:List PV->Option (List Str)
 |[]=>ξ []
 | .str x::r=>(a1r r).map (x::·)
 |_=>ζ
theorem a7a:∀xs:List Str,a1r (xs.map .str)=ξ xs
 |[]=>rfl
 |x::xs=>by rw [AS];simp only [a1r,a7a xs,Option.map_some]
theorem a3z{K:AE}{H:Hp}:∀{ps:List PV} {ys:List Str} {xs:List V} {us:List AB},a1r ps=ξ ys->j4 K H ps xs->l9 xs us->StrsAre us ys
 |[],_,_,_,h,r,v=>by cases h;cases r;cases v;exact .nil
 |p::ps,ys,_,_,h,⟨x,r,e,hp,t⟩,v=>by
  subst e;cases p with
  |str z=>
   simp only [a1r] at h;cases q:a1r ps with
   |none=>rw [q] at h;cases h
   |some zs=>
    rw [q] at h;cases h;cases hp;cases v with
    |cons a b=>
     obtain⟨tk,rfl⟩:=a;exact .cons z tk (a3z q t b)
  |_=>simp [a1r] at h
def a1V(x y:c6):Option c6:=match x with
 | .v (.str z)=>(match PyData.items? y.rd with
   |some ps=>(a1r ps).bind λys=>if(ys.map (·.length)).sum+ys.length*z.length<=16777216 then ξ (.v (.str (Txt.join z ys))) else ζ
   |none=>ζ)
 |_=>ζ
section
variable {X:Cx}
theorem b60:MtR X "str.join" (λx xs H Q=>∃F y rx ry rz,xs=[y]/\j2 F H/\O9 X.K F H x rx/\O9 X.K F H y ry/\a1V rx ry=ξ rz/\∀v F' H',u6 X.K F H F' H' v rz->Q v H'):=by
 intro pins s σ H x xs v us Q I rx rv h;obtain⟨F,y,ra,rb,rz,rfl,s0,h1,h2,h3,k⟩:=h;obtain⟨u,rfl,ru⟩:=a4q rv;unfold a1V at h3;split at h3
 ·rename_i z;split at h3
  ·rename_i ps e;obtain⟨ys,e2,h3⟩:=bind_some h3;split at h3
   ·rename_i c;cases h3;cases h1;obtain⟨t,rfl⟩:=rx;obtain⟨a,xs,rfl,hq,r⟩:=Q3 s0 h2 e;cases ru;rcases hq with hq|hq
    ·obtain⟨its,rv,pl,hz⟩:=I.list hq;exact join_list pl.isList (by simpa using a3z e2 r rv) c λt' k'=>⟨.str _,H,I.tok _,⟨_,rfl⟩,k _ F H (u6.here s0 rfl)⟩
    ·obtain⟨its,rv,pl,hz⟩:=I.tuple hq;exact join_tuple pl (by simpa using a3z e2 r rv) c λt' k'=>⟨.str _,H,I.tok _,⟨_,rfl⟩,k _ F H (u6.here s0 rfl)⟩
   ·cases h3
  ·cases h3
 ·cases h3
theorem b2r{o e:AF}{m n:M}{apos cpos:Pos}(ho:EE X o m)(ha:EE X e n)
 (hbase:attributeBase o "join" X.env (eval o X.env)=eval o X.env:=by rfl)
 (hfew:((backTo cpos (AL [e] X.env)).all (λx=> !x.1)&&(backToKw cpos (keywordEach [] X.env)).all (λx=>x.1.isSome)
  && decide ([e].length+([]:List Keyword).length+(if([]:List Keyword).isEmpty then 0 else 1)<30))=true:=by rfl)
 (hline:(apos.endLine==cpos.line)=true:=by rfl) (hs:AL [e] X.env=(false,eval e X.env)::AL [] X.env:=by rfl) (hplain:(backTo cpos (AL [] X.env)).any (·.1)=false:=by rfl):
 EE X (.Call (.Attribute o "join" apos) [e] [] cpos) (m2 a1V m n):=
 r9 (b8e PySem.F.plainAttrs_str PySem.F.slot_str_join PySem.F.type_str_join b60 ho (p8 ha O4 hs) hbase hfew hline hs hplain) λσ H Q h0=>n8 h0 λF ρ r he hm k=>by
  obtain⟨rx,e1,hm⟩:=bind_some hm;obtain⟨ry,e2,hm⟩:=bind_some hm;refine⟨F,ρ,rx,he,e1,λv F1 H1 o1=>⟨?_,⟨F1,ρ,ry,he.ext o1.x,e2,λu F2 H2 o2=>⟨F2,u,rx,ry,r,rfl,o2.x.fh,o1.rep.ext o2.x,o2.rep,hm,λz F3 H3 o3=>k z F3 H3 (u6.trans (o1.x.trans o2.x) o3)⟩⟩⟩⟩;unfold a1V at hm;split at hm
  ·cases o1.rep;rfl
  ·cases hm
end
def cut{α:Type}(xs:List α)(lo hi:Option Int):List α:=(xs.drop (HT.sIx xs.length 0 lo)).take (HT.sIx xs.length xs.length hi - HT.sIx xs.length 0 lo)
theorem a3K(n d:Nat)(hd:d<=n)(o:Option Int):(match o with|none=>(d:Int)|some i=>max 0 (min (if i<0 then i+n else i) n))=((HT.sIx n d o:Nat):Int):=by
 cases o with
 |none=>rfl
 |some i=>unfold HT.sIx;dsimp only;split<;>lia
theorem b6q(n:Nat)(lo hi:Option Int):Builtin.Str.strSliceIndices lo hi 1 n=(Ab (HT.sIx n n hi - HT.sIx n 0 lo)).map (HT.sIx n 0 lo+·):=by
 have h1:=a3K n 0 (Nat.zero_le _) lo;have h2:=a3K n n (AQ _) hi;have key:∀a b:Int,a=((HT.sIx n 0 lo:Nat):Int)->b=((HT.sIx n n hi:Nat):Int)->sliceRange a b 1=(Ab (HT.sIx n n hi - HT.sIx n 0 lo)).map (HT.sIx n 0 lo+·):=λa b ha hb=>by rw [ha,hb,sliceRange_one]
 refine key _ _ ?_ ?_
 ·cases lo with
  |none=>rfl
  |some i=>exact h1
 ·cases hi with
  |none=>rfl
  |some i=>exact h2
theorem b7C(z:Str)(lo hi:Option Int):Txt.slice z lo hi=⟨(cut z.cps.toList lo hi).toArray⟩:=by
 have hz:z.cps.toList.length=z.length:=by simp [Str.length]
 unfold Txt.slice;rw [b6q,pick_run z.cps];split
 ·rename_i c;have c':HT.sIx z.length z.length hi - HT.sIx z.length 0 lo=z.length:=by
   simpa using c
  have hle:=HT.sIx_le z.length z.length (AQ _) hi;unfold cut;rw [hz,c'];have:HT.sIx z.length 0 lo=0\/z.length=0:=by lia
  cases z with
  |mk a=>
   congr 1
   rcases this with h|h
   ·rw [h,List.drop_zero];have:a.toList.length=(⟨a⟩:Str).length:=hz;rw [<-this,List.take_length]
   ·have h0:a.toList=[]:=List.length_eq_zero_iff.mp (by rw [<-h];exact hz)
    have:a= #[]:=by
     apply Array.ext';rw [h0]
    subst this;simp
 ·unfold cut;rw [hz]
theorem a7Q(items:Array AB)(lo hi:Option Int):slicePick items lo hi ζ=(cut items.toList lo hi).toArray:=by
 have hz:items.toList.length=items.size:=by simp
 unfold slicePick cut;rw [hz];have key:∀a b:Int,a=((HT.sIx items.size 0 lo:Nat):Int)->b=((HT.sIx items.size items.size hi:Nat):Int)->(List.filterMap (items[·]?) (sliceRange a b 1)).toArray=((items.toList.drop (HT.sIx items.size 0 lo)).take (HT.sIx items.size items.size hi - HT.sIx items.size 0 lo)).toArray:=λa b ha hb=>by rw [ha,hb,sliceRange_one,pick_run]
 refine key _ _ ?_ ?_
 ·cases lo with
  |none=>rfl
  |some i=>exact a3K items.size 0 (Nat.zero_le _) (ξ i)
 ·cases hi with
  |none=>rfl
  |some i=>exact a3K items.size items.size (AQ _) (ξ i)
theorem j4.cut{K:AE}{H:Hp}{ps:List PV}{xs:List V}(r:j4 K H ps xs)(lo hi:Option Int):j4 K H (PU.cut ps lo hi) (PU.cut xs lo hi):=by
 unfold PU.cut;rw [r.length];exact(r.drop _).take _
theorem b6r{α:Type}(xs:List α)(lo hi:Option Int):(cut xs lo hi).length<=xs.length:=by
 unfold cut;rw [List.length_take,List.length_drop];lia
theorem a2G{prog:AJ}{w:AI}{A:AK}{E:AB->AC->Prop}{s:AC}{t sl:AA}{items:Array AB}{vl vu:AB}{lo hi:Option Int}{Q:AB->AC->Prop}(ht:IsTup s.heap t items)(hs:s.heap.IsSliceOf sl vl vu .none)(pl:IsPart vl lo)(pu:IsPart vu hi)
 (hw:HT.sIx items.size 0 lo=0/\HT.sIx items.size items.size hi=items.size)
 (h:Q (.ref t) s):AH (model prog w) A (getItem (.ref t) (.ref sl)) Q E s:=by
 obtain⟨os,hos,hcs,hds⟩:=id hs
 have hTs:s.TypeIs (.ref sl) "slice":=⟨os,hos,hcs⟩
 unfold getItem
 try with_reducible refine wpAny_holding ?_
 first|refine AG (AN ?_)|skip
 refine AG (wpAny_sequenceKey ht.typeIs (by decide) ?_)
 refine AG (wpAny_callSpecial?_slot (name:=AD "__getitem__") ht.typeIs PyProof.Rows.slot_tuple_getitem
  (wpAny_call_entry PyProof.Rows.slot_tuple_getitem ht.typeIs entry_tuple_getitem ?_ (args_tuple_getitem _ _)))
 show AH _ _ (Builtin.Tuple.tupleItemsOf (.ref t)>>=_) _ _ s
 refine AG (tupleItemsOf_ ht ?_)
 refine AG (wpAny_typeOf hTs ?_)
 rw [if_pos (by decide)]
 refine AG (HT.sliceApplied_gen hs pl pu ?_)
 have hno:(((HT.sIx items.size 0 lo:Nat):Int)==0 &&(1:Int)==1 &&(HT.sIx items.size items.size hi - HT.sIx items.size 0 lo)==items.size)=true:=by
  rw [hw.1,hw.2];simp
 show AH _ _ (if(((HT.sIx items.size 0 lo:Nat):Int)==0 &&(1:Int)==1 &&(HT.sIx items.size items.size hi - HT.sIx items.size 0 lo)==items.size)=true then _ else _) _ _ s
 rw [if_pos hno]
 refine AG (AG (m:=typeOf (.ref t)) (wpAny_typeOf ht.typeIs (AN ?_)))
 rw [if_pos (by decide)]
 wp_walk
 exact⟨_,rfl,AN h⟩
theorem b7A{X:Cx}:SlR X (λx lo hi H Q=>∃a xs,x= .ref a/\SqT X.K H a xs/\(HT.sIx xs.length 0 lo=0/\HT.sIx xs.length xs.length hi=xs.length)/\Q (.ref a) H):=by
 ext p
 refine⟨"tuple",_,PyProof.Rows.slot_tuple_getitem.lookup,ht.typeIs, ?_⟩;exact a2G ht hs pl pu (by rw [hlen];exact hw) ⟨.ref a,H,I,rfl,q⟩
theorem b3h{α:Type}{xs:List α}{lo hi:Option Int}(h:HT.sIx xs.length 0 lo=0/\HT.sIx xs.length xs.length hi=xs.length):cut xs lo hi=xs:=by
 unfold cut;rw [h.1,h.2,List.drop_zero,Nat.sub_zero,List.take_length]
section
variable {X:Cx}
theorem b1A{h:Heap}{sl:AA}{vl vu:AB}{lo hi:Option Int}(hs:h.IsSliceOf sl vl vu .none)(pl:IsPart vl lo)(pu:IsPart vu hi):∃l u:Option (Int×Tok),h.IsSlice sl l u ζ/\l.map (·.1)=lo/\u.map (·.1)=hi:=by
 obtain⟨o,ho,hc,hd⟩:=hs;cases pl with
 |none=>
  cases pu with
  |none=>exact⟨ζ,ζ,⟨o,ho,hc,hd⟩,rfl,rfl⟩
  |int j t=>exact⟨ζ,ξ (j,t),⟨o,ho,hc,hd⟩,rfl,rfl⟩
 |int i t=>
  cases pu with
  |none=>exact⟨ξ (i,t),ζ,⟨o,ho,hc,hd⟩,rfl,rfl⟩
  |int j t'=>exact⟨ξ (i,t),ξ (j,t'),⟨o,ho,hc,hd⟩,rfl,rfl⟩
theorem b9M:SlR X (λx lo hi H Q=>∃z,x= .str z/\z.length<=AM/\Q (.str (Txt.slice z lo hi)) H):=by
 intro pins s σ H x v vl vu lo hi sl Q I rx hs pl pu h;obtain⟨z,rfl,hz,q⟩:=h;obtain⟨t,rfl⟩:=rx;obtain⟨l,u,hs',e1,e2⟩:=b1A hs pl pu;subst e1 e2;exact⟨"str",_,PySem.F.slot_str_getitem.lookup,typeIs_str _ _ _,wpAny_getItem_str_slice hs' rfl (post_val_or_str ⟨Nat.le_trans (Txt.slice_le z _ _) hz,λt' k=>⟨.str _,H,I.tok _,⟨_,rfl⟩,q⟩⟩)⟩
theorem b9L:SlR X (λx lo hi H Q=>∃a xs,x= .ref a/\SqL X.K H a xs/\∀p,H p=ζ->Q (.ref p) (m9 H p (.lst (PU.cut xs lo hi)))):=by
 intro pins s σ H x v vl vu lo hi sl Q I rx hs pl pu h;obtain⟨a,xs,rfl,hx,q⟩:=h;cases rx;obtain⟨its,r,pl',hz⟩:=I.list hx;have hlen:=r.length;refine⟨"list",_,list_getitem_lookup,pl'.isList.typeIs, ?_⟩;refine wpAny_getItem_list_slice pl'.isList hs pl pu .none (by simp) ?_ (by rw [Ae];lia)
 rw [a7Q];refine⟨.ref s.heap.objs.size,_,I.laid (t':=s.toks) (o:= .lst (PU.cut xs lo hi)) (λb ob q=>AV _ q) (AQ _) ?_,rfl,q _ (I.hok.fresh (AQ _))⟩;refine⟨Nat.le_trans (b6r xs lo hi) hz,PU.cut its lo hi,0, ?_,Ak _ rfl⟩;unfold PU.cut;rw [hlen];exact(r.drop _).take _
def gSl(x:c6)(lo hi:Option Int):Option c6:=match x with
 | .v (.str z)=>if z.length<=AM then ξ (.v (.str ⟨(cut z.cps.toList lo hi).toArray⟩)) else ζ
 | .v (.tuple ps)=>ξ (.v (.tuple (cut ps lo hi)))
 | .v (.list ps)=>ξ (.own (cut ps lo hi))
 | .ow (.lst ps)=>ξ (.own (cut ps lo hi))
 | .bo (.lst ps)=>ξ (.own (cut ps lo hi))
 |_=>ζ
def rSl(K:AE):V->Option Int->Option Int->Hp->VK->Prop:=λx lo hi H Q=>∃F rx rz,j2 F H/\O9 K F H x rx/\gSl rx lo hi=ξ rz/\∀v F' H',u6 K F H F' H' v rz->Q v H'
theorem slm:SlR X (rSl X.K):=by
 intro pins s σ H x v vl vu lo hi sl Q I rx hs pl pu h;obtain⟨F,ra,rz,s0,h1,h2,k⟩:=h;have lst:∀ps,PyData.items? ra.rd=ξ ps->(∃a xs,x= .ref a/\SqL X.K H a xs/\j4 X.K F ps xs)->rz= .own (cut ps lo hi)->∃T id,typeLookup (.type T) "__getitem__"=pure (ξ (.builtin id))/\s.TypeIs v T/\AH (model X.prog X.w) X.A (getItem v (.ref sl)) (EP X pins σ Q) X.xe s:=λps e ⟨a,xs,e1,hq,rl⟩ e2=>by
  subst e2;exact b9L pins s σ H x v vl vu lo hi sl Q I rx hs pl pu ⟨a,xs,e1,hq,λp hp=>k _ _ _ (u6.lst s0 hp (rl.cut lo hi))⟩
 unfold gSl at h2;split at h2
 ·rename_i z;split at h2
  ·rename_i c;cases h2;cases h1;refine b9M pins s σ H _ v vl vu lo hi sl Q I rx hs pl pu ⟨z,rfl,c, ?_⟩;rw [b7C];exact k _ F H (u6.here s0 rfl)
  ·cases h2
 ·rename_i ps;cases h2
  by_cases c:HT.sIx ps.length 0 lo=0/\HT.sIx ps.length ps.length hi=ps.length
  ·obtain⟨a,xs,rfl,hq,rl⟩:=h1;have hlen:=rl.length;refine b7A pins s σ H _ v vl vu lo hi sl Q I rx hs pl pu ⟨a,xs,rfl,t4 s0 hq.sq,by rw [hlen];exact c, ?_⟩
   rw [b3h c] at k;exact k _ F H (u6.here s0 ⟨a,xs,rfl,hq,rl⟩)
  ·obtain⟨a,xs,rfl,hq,rl⟩:=h1;have hlen:=rl.length;refine b9N pins s σ H _ v vl vu lo hi sl Q I rx hs pl pu ⟨a,xs,rfl,t4 s0 hq.sq,by rw [hlen];exact c,λp hp=> ?_⟩
   exact k _ _ _ (u6.tup s0 hp (rl.cut lo hi))
 ·rename_i ps;cases h2;obtain⟨a,xs,e1,hq,rl⟩:=h1;exact lst ps rfl ⟨a,xs,e1,A2 s0 hq,rl⟩ rfl
 ·rename_i ps;cases h2;obtain⟨a,xs,e1,_,hq,rl⟩:=h1;exact lst ps rfl ⟨a,xs,e1,SqL.of hq,rl⟩ rfl
 ·rename_i ps;cases h2;obtain⟨a,xs,e1,_,hq,rl⟩:=h1;exact lst ps rfl ⟨a,xs,e1,SqL.of hq,rl⟩ rfl
 ·cases h2
abbrev MO:=b0->Option (Option Int)
def tMO(K:AE)(m:MO):TO:=λσ H Q=>∃F ρ o,A5 K F H σ ρ/\m ρ=ξ o/\∀F' H',O8 F H F' H'->Q o H'
abbrev EO(X:Cx)(e:Option AF)(m:MO):Prop:=PO X e (tMO X.K m)
def Q5:MO:=λ_=>ξ ζ
def b44:c6->Option (Option Int)
 | .v (.int i)=>ξ (ξ i)
 |_=>ζ
def O2(m:M):MO:=λρ=>(m ρ).bind b44
theorem a3O:EO X ζ Q5:=λpins s σ H Q I ⟨F,ρ,o,en,e,k⟩=>by
 cases e;exact b7j pins s σ H Q I (k F H (O8.refl en.fh))
theorem a3P{e:AF}{m:M}(h:EE X e m):EO X (ξ e) (O2 m):=λpins s σ H Q I ⟨F,ρ,o,en,e1,k⟩=>by
 obtain⟨r,e2,e3⟩:=bind_some e1;refine b7k h pins s σ H Q I ⟨F,ρ,r,en,e2,λv F1 H1 o1=> ?_⟩;unfold b44 at e3;split at e3
 ·cases e3;exact⟨_,o1.rep,k F1 H1 o1.x⟩
 ·cases e3
def M1(m:M)(lo hi:MO):M:=λρ=>(m ρ).bind λr=>(lo ρ).bind λl=>(hi ρ).bind λh=>gSl r l h
theorem a1S{e:AF}{lo hi:Option AF}{m:M}{ml mh:MO}{pos p2:Pos}(he:EE X e m)(hl:EO X lo ml)(hh:EO X hi mh):EE X (.Subscript e (.Slice lo hi ζ p2) pos) (M1 m ml mh):=
 r9 (b5B slm he hl hh) λσ H Q h0=>n8 h0 λF ρ r en e k=>by
  obtain⟨ra,e1,e⟩:=bind_some e;obtain⟨l,e2,e⟩:=bind_some e;obtain⟨h,e3,e⟩:=bind_some e;exact⟨F,ρ,ra,en,e1,λv F1 H1 o1=>⟨F1,ρ,l,en.ext o1.x,e2,λF2 H2 x2=>⟨F2,ρ,h,(en.ext o1.x).ext x2,e3,λF3 H3 x3=>⟨F3,ra,r,x3.fh,(o1.rep.ext x2).ext x3,e,λz F4 H4 o4=>k z F4 H4 (u6.trans ((o1.x.trans x2).trans x3) o4)⟩⟩⟩⟩
end
def Its(x:Str):It:=⟨λi _=>i<x.cps.size,λi H v H'=>H'=H/\∃c,x.cps[i]?=ξ c/\v= .str ⟨#[c]⟩,λi _=>x.cps.size<=i⟩
section
variable {X:Cx}{tg:AF}
structure b3b(K:AE)(F:Hp)(J:It)(ps:List PV):Prop where
 st:∀i H',j2 F H'->ps.length<=i->J.stop i H'
 go:∀i p H',j2 F H'->ps[i]?=ξ p->J.go i H'
 yd:∀i p x H' H'',j2 F H'->ps[i]?=ξ p->J.yld i H' x H''->H''=H'/\C0 K F p x
def SIF(K:AE)(mi:MI)(wi:TI):Prop:=∀F H σ ρ ps (R:It->Hp->Prop),A5 K F H σ ρ->mi ρ=ξ ps->(∀F1 H1 J,O8 F H F1 H1->b3b K F1 J ps->R J H1)->wi σ H R
abbrev EIF(X:Cx)(tg iter:AF)(mi:MI):Prop:=∃wi,PI X tg iter wi/\SIF X.K mi wi
theorem EIF.ei{iter:AF}{mi:MI}(h:EIF X tg iter mi):EI X tg iter mi:=by
 obtain⟨wi,h1,h2⟩:=h;exact⟨wi,h1,λF H σ ρ ps R en e k=>h2 F H σ ρ ps R en e λF1 H1 J x S=>k F1 H1 J x ⟨λi H' s=>S.st i H' (x.fh.trans s),λi p H' s=>S.go i p H' (x.fh.trans s),λi p y H' H'' s=>S.yd i p y H' H'' (x.fh.trans s)⟩⟩
end
def a6n:c6->c6->Option c6
 | .v (.int i),.v (.int j)=>ξ (.v (.bool (decide (i<j))))
 | .v (.str i),.v (.str j)=>ξ (.v (.bool (decide (i.cps.toList<j.cps.toList))))
 |_,_=>ζ
def b6H:c6->c6->Option c6
 | .v (.int i),.v (.int j)=>ξ (.v (.bool (decide (i<=j))))
 | .v (.str i),.v (.str j)=>ξ (.v (.bool (!decide (j.cps.toList<i.cps.toList))))
 |_,_=>ζ
section
variable {X:Cx}
theorem a9t:OpM X (compareOp .Lt) a6n:=by
 ext c
 unfold a6n at h3;split at h3
 ·cases h3;cases h1;cases h2;exact c0s pins s σ H _ _ v u Q I rx ry ⟨_,_,rfl,rfl,k _ F H (u6.here s0 rfl)⟩
 ·cases h3;cases h1;cases h2;exact b3T pins s σ H _ _ v u Q I rx ry ⟨_,_,rfl,rfl,k _ F H (u6.here s0 rfl)⟩
 ·cases h3
theorem b67:OpM X (compareOp .LtE) b6H:=by
 ext c
 unfold b6H at h3;split at h3
 ·cases h3;cases h1;cases h2;exact c0r pins s σ H _ _ v u Q I rx ry ⟨_,_,rfl,rfl,k _ F H (u6.here s0 rfl)⟩
 ·cases h3;cases h1;cases h2
  ext s
  exact PySem.P.le_str ⟨.bl _,H,I,rfl,k _ F H (u6.here s0 rfl)⟩
 ·cases h3
def a97(neg:Bool)(x y:c6):Option c6:=match x,y with
 | .v (.str i),.v (.str j)=>ξ (.v (.bool (if neg then !(!(Builtin.Str.occurrences j i 0 j.length 1).isEmpty) else !(Builtin.Str.occurrences j i 0 j.length 1).isEmpty)))
 |x,y=>gIn neg x y
theorem b2N(hu:X.A.units+64<cLine):OpM X (compareOp .In) (a97 false):=by
 ext c
 unfold a97 at h3;split at h3
 ·cases h3;cases h1;cases h2;exact b3S pins s σ H _ _ v u Q I rx ry ⟨_,_,rfl,rfl,k _ F H (u6.here s0 rfl)⟩
 ·exact b9l hu pins s σ H x y v u Q I rx ry ⟨F,_,_,rz,s0,h1,h2,h3,k⟩
def b6F(neg:Bool)(x y:c6):Option c6:=match x,y with
 | .v (.bool a),.v (.bool b)=>ξ (.v (.bool (if neg then !(a==b) else a==b)))
 |x,y=>b8S neg x y
theorem b0b{a b:Bool}{M:Model}{A:AK}{E:AB->AC->Prop}{s:AC}{Q:AB->AC->Prop}(h:Q (.bool (!(a==b))) s):AH M A (compareOp .IsNot (.bool a) (.bool b)) Q E s:=by
 refine wpAny_isNot_plain (by cases a<;>cases b<;>rfl) ?_
 have e:(Value.bool a==Value.bool b)=(a==b):=by cases a<;>cases b<;>rfl
 first
  |(rw [e];exact h)
  |(have e2:(Value.bool a !=Value.bool b)= !(a==b):=by cases a<;>cases b<;>rfl
    rw [e2];exact h)
theorem b5v:OpM X (compareOp .IsNot) (b6F true):=by
 ext c
 unfold b6F at h3;split at h3
 ·cases h3;cases h1;cases h2;cases rx;cases ry;exact b0b ⟨.bl _,H,I,rfl,k _ F H (u6.here s0 rfl)⟩
 ·exact b5w pins s σ H x y v u Q I rx ry ⟨F,_,_,rz,s0,h1,h2,h3,k⟩
def a3W:c6->c6->Option c6
 | .v (.str z),.v (.int k)=>if okC (λk n=>0<=k/\k<=1000000/\n*k<=16777216) k z.length=true then ξ (.v (.str ⟨(AO k.toNat z.cps.toList).flatten.toArray⟩)) else ζ
 | .ow (.lst ps),.v (.int k)=>if okC (λk n=>0<=k/\k<=1000000/\n*k<=16777216) k ps.length=true then ξ (.own (AO k.toNat ps).flatten) else ζ
 |x,y=>b6I x y
theorem a6j(xs:List Nat):∀(m:Nat) (acc:Array Nat),(AO m xs.toArray).foldl (· ++·) acc=acc++(AO m xs).flatten.toArray
 |0,acc=>by simp
 |m+1,acc=>by
  rw [Aq,List.foldl_cons,a6j xs m,Aq,List.flatten_cons];apply Array.ext';simp
theorem b7L{z:Str}{k:Int}(h0:0<=k):Txt.mul z k=⟨(AO k.toNat z.cps.toList).flatten.toArray⟩:=by
 unfold Txt.mul
 by_cases h1:k<1
 ·have:k=0:=by lia
  subst this
  rfl
 ·rw [if_neg h1]
  by_cases h2:(k==1||z.length==0)=true
  ·rw [if_pos h2];rw [Bool.or_eq_true] at h2;cases z with
   |mk a=>
    rcases h2 with h2|h2
    ·have:k=1:=by simpa using h2
     subst this;show(⟨a⟩:Str)=_
     congr 1
     apply Array.ext';simp
    ·have ha:a.size=0:=by simpa [Str.length] using h2
     have:a= #[]:=Array.eq_empty_of_size_eq_zero ha;subst this
     congr 1
     apply Array.ext';simp
  ·rw [if_neg h2];have e:z.cps=z.cps.toList.toArray:=by simp
   congr 1
   rw [e,a6j];simp
theorem a6Y{K:AE}{H:Hp}{ps:List PV}{xs:List V}(r:j4 K H ps xs):∀m:Nat,j4 K H (AO m ps).flatten (AO m xs).flatten
 |0=>rfl
 |m+1=>by
  rw [Aq,Aq,List.flatten_cons,List.flatten_cons];exact r.append (a6Y r m)
theorem b5u:OpM X (binaryOp .Mult) a3W:=by
 ext c
 unfold a3W at h3;split at h3
 ·rename_i z n;split at h3
  ·rename_i c;obtain⟨c0,c1,c2⟩:=a0q.mp c;cases h3;cases h1;cases h2
   ext s
   have hz:z.length*n.toNat<=AM:=by
    rw [sizeLine_eq];have:((z.length*n.toNat:Nat):Int)=z.length*n:=by rw [Int.natCast_mul,Int.toNat_of_nonneg c0]
    lia
   refine SB.mul ⟨?_,λh4 h5 h6=> ?_,λh4 h5=> ?_⟩ λt' k'=>⟨.str _,H,I.tok _,⟨_,rfl⟩, ?_⟩
   ·have e1:¬n< -(2 ^ 63:Int):=by lia
    have e2:¬n>=2 ^ 63:=by lia
    simp [e1,e2]
    lia
   ·have h7:(2 ^ 63 - 1:Int)/ n<z.length:=h6;have h8:(2 ^ 63 - 1:Int)<(z.length:Int)*n:=by
     have:=Int.lt_mul_of_ediv_lt (a:=(2 ^ 63 - 1:Int)) (b:=(z.length:Int)) (c:=n) (by lia) h7
     exact this
    lia
   ·unfold Builtin.Str.tooLong;rw [decide_eq_false (by lia)]
   ·rw [b7L c0];exact k _ F H (u6.here s0 rfl)
  ·cases h3
 ·rename_i ps n;split at h3
  ·rename_i c;obtain⟨c0,c1,c2⟩:=a0q.mp c;cases h3;cases h2;obtain⟨a,xs,rfl,fa,hq,rl⟩:=h1;have hlen:=rl.length;have hz:xs.length*n.toNat<=AM:=by
    rw [sizeLine_eq,hlen];have:((ps.length*n.toNat:Nat):Int)=ps.length*n:=by rw [Int.natCast_mul,Int.toNat_of_nonneg c0]
    lia
   exact b9k pins s σ H _ _ v u Q I rx ry ⟨a,n,xs,rfl,rfl,hq,by lia,by lia,hz,λp hp=>k _ _ _ (u6.lst s0 hp (a6Y rl _))⟩
  ·cases h3
 ·exact b5t pins s σ H x y v u Q I rx ry ⟨F,_,_,rz,s0,h1,h2,h3,k⟩
end
theorem a4P:fillsNumberSlot (.type "tuple") "mul"=pure false:=
 PySem.fillsNumberSlot_seq (id:="tuple.__mul__") (r:=ξ (.builtin "tuple.__rmul__")) PySem.F.slot_tuple_mul.lookup (by decide+kernel) PySem.F.slot_tuple_rmul.lookup (by decide+kernel)
theorem a9A:seqRepeat? (.type "tuple")=pure (ξ (.builtin "tuple.__mul__")):=by
 unfold seqRepeat?;rw [PySem.seqSlot_of (T:="tuple") (name:="__mul__") (id:="tuple.__mul__") PySem.F.slot_tuple_mul.lookup (by decide+kernel),PySem.seqSlot_of (T:="tuple") (name:="__rmul__") (id:="tuple.__rmul__") PySem.F.slot_tuple_rmul.lookup (by decide+kernel)]
 rfl
theorem a6r(a:Int)(t:Tok)(l:AA)(items:Array AB)(n:Nat)(dd:Option AA)(sl:Array (Option AB)):Meets (Builtin.«int.__rmul__» ⟨[.int a t,.ref l],[]⟩) (λ_ R s=>s.heap.get? l=ξ {cls:= .type "tuple",dict:=dd,data:= .seq items n,slots:=sl}/\R (.ok (.ret Value.notImplemented)) s):=
 .of_wp λprog w A R s h=>by obtain⟨hp,g,d,tk,os⟩:=s;obtain⟨hl,h⟩:=h;wp_walk;exact⟨_,rfl,h⟩
theorem a7e(l:AA)(items:Array AB)(n:Nat)(dd:Option AA)(sl:Array (Option AB))(x:Int)(u:Tok)(hc0:(decide (x< -(2 ^ 63))||decide (x>=2 ^ 63))=false)(hc1:(items.isEmpty||x==1)=false)(hc2:(decide (x<=0)||items.isEmpty)=false)(hc3:¬(items.size:Int)*x>(2 ^ 63 - 1)/ 8)(hc4:Builtin.Tuple.tupleTooMany ((items.size:Int)*x)=false)(hz:((AO x.toNat items).foldl (· ++·) #[]).size<=AM):
 Meets (Builtin.«tuple.__mul__» ⟨[.ref l,.int x u],[]⟩) (λ_ R s=>s.heap.get? l=ξ {cls:= .type "tuple",dict:=dd,data:= .seq items n,slots:=sl}/\R (.ok (.ret (Value.ref s.heap.objs.size))) {s with heap:=s.heap.push {cls:=Value.type "tuple",data:=Data.seq ((AO x.toNat items).foldl (· ++·) #[])},toks:=s.toks}):=
 .of_wp λprog w A R s h=>by
  obtain⟨hp,g,d,tk,os⟩:=s;obtain⟨hl,h⟩:=h
  wp_walk
  have ht:IsTup hp l items:=⟨_,hl,rfl,n,rfl⟩;rw [if_neg (by rw [hc0];exact Af)]
  wp_walk
  rw [if_neg hc3]
  wp_walk
  exact⟨_,rfl,h⟩
section
variable {X:Cx}
theorem b66:OpR X (binaryOp .Mult) (λx y H Q=>∃a xs n,x= .ref a/\y= .int n/\SqT X.K H a xs/\xs≠[]/\2<=n/\n<=1000000/\xs.length*n.toNat<=AM/\∀p,H p=ζ->Q (.ref p) (m9 H p (.tup (AO n.toNat xs).flatten))):=by
 ext m
 obtain⟨a,xs,n,rfl,rfl,hx,hne,h1,h2,hz,q⟩:=h;cases rx;obtain⟨t,rfl⟩:=ry;obtain⟨its,r,ht,_⟩:=I.tuple hx;have hlen:its.toArray.size=xs.length:=by rw [Ae];exact r.length.symm
 have hie:its.toArray.isEmpty=false:=by
  cases its with
  |nil=>exact absurd (r.nil_iff.mp rfl) hne
  |cons _ _=>rfl
 have hnew:List.foldl (λx1 x2=>x1++x2) #[] (AO n.toNat its.toArray)=(AO n.toNat its).flatten.toArray:=by
  have:=a4D its n.toNat [];rw [List.nil_append] at this;exact this
 have hc:((xs.length*n.toNat:Nat):Int)=(xs.length:Int)*n:=by rw [Int.natCast_mul,Int.toNat_of_nonneg (by lia)]
 have hsl:=sizeLine_eq;obtain⟨⟨cls,dd,data,sl⟩,ho,hc',m,hd⟩:=id ht;simp only at hc' hd;subst hc' hd;have hzz:(List.foldl (λx1 x2=>x1++x2) #[] (AO n.toNat its.toArray)).size<=AM:=by
  rw [hnew,Ae,a86,Nat.mul_comm,<-r.length];exact hz
 refine wpAny_binaryOp_repeat_ref (T:="tuple") (U:="int") (by decide) ht.typeIs (λs'=>typeIs_int s' n t) a4P F.fills_int_mul F.slot_int_rmul a9A F.slot_int_index.lookup
  (call_meets F.slot_int_rmul (typeIs_int s n t) F.entry_int_rmul (F.args_int_rmul_2 _ _) (a6r n t a its.toArray m dd sl)
   ⟨ho,rfl,ht.typeIs,call_meets PySem.F.slot_tuple_mul ht.typeIs PySem.F.entry_tuple_mul (PySem.F.args_tuple_mul_2 _ _) (a7e a its.toArray m dd sl n t ?_ ?_ ?_ ?_ ?_ hzz) ⟨ho, ?_⟩⟩)
 ·have e1:¬n< -(2 ^ 63:Int):=by lia
  have e2:¬n>=2 ^ 63:=by lia
  simp [e1,e2]
  lia
 ·rw [hie];have:n≠1:=by lia
  simp [this]
 ·rw [hie];have:¬n<=0:=by lia
  simp [this]
 ·rw [hlen,<-hc]
  lia
 ·rw [hlen,<-hc];unfold Builtin.Tuple.tupleTooMany;rw [decide_eq_false (by lia)]
 ·rw [hnew];refine⟨.ref s.heap.objs.size,_,I.laid (t':=s.toks) (o:= .tup (AO n.toNat xs).flatten) (λb ob q=>AV _ q) (AQ _) ?_,rfl,q _ (I.hok.fresh (AQ _))⟩;exact⟨by rw [a86,Nat.mul_comm];exact hz,_,r.rep n.toNat,IsTup.new _ _⟩
def m8:c6->c6->Option c6
 | .v (.tuple ps),.v (.int k)=>if okC (λk n=>2<=k/\k<=1000000/\1<=n/\n*k<=16777216) k ps.length=true then ξ (.v (.tuple (AO k.toNat ps).flatten)) else ζ
 |x,y=>a3W x y
theorem o0:OpM X (binaryOp .Mult) m8:=by
 ext c
 unfold m8 at h3;split at h3
 ·rename_i ps n;split at h3
  ·rename_i c;obtain⟨c0,c1,c2,c3⟩:=a0q.mp c;cases h3;cases h2;obtain⟨a,xs,rfl,hq,rl⟩:=h1;have hlen:=rl.length;have hz:xs.length*n.toNat<=AM:=by
    rw [sizeLine_eq,hlen];have:((ps.length*n.toNat:Nat):Int)=ps.length*n:=by rw [Int.natCast_mul,Int.toNat_of_nonneg (by lia)]
    lia
   refine b66 pins s σ H _ _ v u Q I rx ry ⟨a,xs,n,rfl,rfl,t4 s0 hq.sq, ?_,by lia,by lia,hz,λp hp=>k _ _ _ (u6.tup s0 hp (a6Y rl _))⟩
   intro e;rw [e] at hlen;simp at hlen
   lia
  ·cases h3
 ·exact b5u pins s σ H x y v u Q I rx ry ⟨F,_,_,rz,s0,h1,h2,h3,k⟩
end
section
variable {prog:AJ}{w:AI}{A:AK}{E:AB->AC->Prop}{s:AC}
end
def b4h(h:Heap)(it:AA)(v:AB)(i:Int):Prop:=∃o,h.get? it=ξ o/\o.cls= .type "reversed"/\o.data= .fields #[v,rawInt i]
theorem b4h.typeIs{s:AC}{it:AA}{v:AB}{i:Int}(x:b4h s.heap it v i):s.TypeIs (.ref it) "reversed":=by obtain⟨o,ho,hc,_⟩:=x;exact⟨o,ho,hc⟩
theorem b4h.at{h h':Heap}{it:AA}{v:AB}{i:Int}(x:b4h h it v i)(e:∀o,h.get? it=ξ o->h'.get? it=ξ o):b4h h' it v i:=by obtain⟨o,ho,r⟩:=x;exact⟨o,e _ ho,r⟩
section
variable {prog:AJ}{w:AI}{A:AK}{E:AB->AC->Prop}{s:AC}{u:AB}{T gid:String}{fp:List AA}{n:Nat}{P:Nat->AB->Prop}{Sq:Heap->Prop}
end
section
variable {prog:AJ}{w:AI}{A:AK}{E:AB->AC->Prop}{s:AC}
end
section
variable {X:Cx}
theorem j4.reverse{K:AE}{H:Hp}:∀{ps:List PV} {xs:List V},j4 K H ps xs->j4 K H ps.reverse xs.reverse
 |[],_,r=>by cases r;exact rfl
 |p::ps,_,⟨x,r,e,hp,t⟩=>by
  subst e;rw [List.reverse_cons,List.reverse_cons];exact(j4.reverse t).append ⟨x,[],rfl,hp,rfl⟩
theorem l9.reverse:∀{xs:List V} {us:List AB},l9 xs us->l9 xs.reverse us.reverse
 |_,_,.nil=> .nil
 |_,_,.cons a b=>by
  rw [List.reverse_cons,List.reverse_cons];exact(l9.reverse b).append (.cons a .nil)
end
def U9(kvs:List (List n5×PV))(k:List n5):Option PV:=(kvs.find? λkv=>decide (kv.1=k)).map (·.2)
def b5K(kvs:List (List n5×PV))(k:List n5)(v:PV):List (List n5×PV):=
 if(kvs.any λkv=>decide (kv.1=k))=true then kvs.map (λkv=>if kv.1=k then(kv.1,v) else kv) else kvs++[(k,v)]
theorem A4.length{K:AE}{H:Hp}:∀{kvs:List (List n5×PV)} {ys:List (List n5×V)},A4 K H kvs ys->ys.length=kvs.length
 |[],_,h=>by cases h;rfl
 |(k,p)::r,_,⟨v,t,e,q,h⟩=>by subst e;rw [AU,AU,A4.length h]
theorem A4.any{K:AE}{H:Hp}{k:List n5}:∀{kvs:List (List n5×PV)} {ys:List (List n5×V)},A4 K H kvs ys->(ys.any λkv=>decide (kv.1=k))=(kvs.any λkv=>decide (kv.1=k))
 |[],_,h=>by cases h;rfl
 |(k',p)::r,_,⟨v,t,e,q,h⟩=>by subst e;rw [List.any_cons,List.any_cons,A4.any h]
theorem A4.val{K:AE}{H:Hp}{k:List n5}:∀{kvs:List (List n5×PV)} {ys:List (List n5×V)},A4 K H kvs ys->(∀p,U9 kvs k=ξ p->∃v,a0G ys k=ξ v/\C0 K H p v)/\(U9 kvs k=ζ->a0G ys k=ζ)
 |[],_,h=>by cases h;exact⟨λp e=>(nomatch e),λ_=>rfl⟩
 |(k',p)::r,_,⟨v,t,e,q,h⟩=>by
  subst e
  by_cases c:k'=k
  ·have e1:U9 ((k',p)::r) k=ξ p:=by simp [U9,List.find?_cons,c]
   have e2:a0G ((k',v)::t) k=ξ v:=a0W c;rw [e1,e2];exact⟨λp' e'=>(by cases e';exact⟨v,rfl,q⟩),λe'=>(nomatch e')⟩
  ·have e1:U9 ((k',p)::r) k=U9 r k:=by simp [U9,List.find?_cons,c]
   have e2:a0G ((k',v)::t) k=a0G t k:=a0V c;rw [e1,e2];exact A4.val h
theorem A4.repl{K:AE}{H:Hp}{k:List n5}{p:PV}{v:V}(hp:C0 K H p v):∀{kvs:List (List n5×PV)} {ys:List (List n5×V)},A4 K H kvs ys->A4 K H (kvs.map λkv=>if kv.1=k then(kv.1,p) else kv) (ys.map λkv=>if kv.1=k then(kv.1,v) else kv)
 |[],_,h=>by cases h;exact rfl
 |(k',p')::r,_,⟨v',t,e,q,h⟩=>by
  subst e
  by_cases c:k'=k
  ·rw [AS,AS];simp only [if_pos c];exact⟨v,_,rfl,hp,A4.repl hp h⟩
  ·rw [AS,AS];simp only [if_neg c];exact⟨v',_,rfl,q,A4.repl hp h⟩
theorem A4.snoc{K:AE}{H:Hp}{k:List n5}{p:PV}{v:V}(hp:C0 K H p v):∀{kvs:List (List n5×PV)} {ys:List (List n5×V)},A4 K H kvs ys->A4 K H (kvs++[(k,p)]) (ys++[(k,v)])
 |[],_,h=>by cases h;exact⟨v,[],rfl,hp,rfl⟩
 |(k',p')::r,_,⟨v',t,e,q,h⟩=>by subst e;exact⟨v',_,rfl,q,A4.snoc hp h⟩
theorem A4.put{K:AE}{H:Hp}{k:List n5}{p:PV}{v:V}{kvs:List (List n5×PV)}{ys:List (List n5×V)}(r:A4 K H kvs ys)(hp:C0 K H p v):A4 K H (b5K kvs k p) (a2J ys k v):=by
 unfold b5K a2J;rw [r.any];split
 ·exact r.repl hp
 ·exact r.snoc hp
section
variable {X:Cx}
end
section
variable {prog:AJ}{w:AI}{A:AK}{E:AB->AC->Prop}{s:AC}
end
section
variable {X:Cx}{pins:List (AA×Obj)}{σ:L2.St}{H:Hp}{s:AC}{a:AA}{A:AK}{E:AB->AC->Prop}
end
section
variable {X:Cx}
end
theorem A4.isSome{K:AE}{H:Hp}{k:List n5}{kvs:List (List n5×PV)}{ys:List (List n5×V)}(r:A4 K H kvs ys):(a0G ys k).isSome=(U9 kvs k).isSome:=by
 cases hv:U9 kvs k with
 |none=>rw [(r.val (k:=k)).2 hv];rfl
 |some p=>
  obtain⟨v,e,_⟩:=(r.val (k:=k)).1 p hv;rw [e];rfl
section
variable {X:Cx}
theorem b5Y{t:TE}{m:M}(i:∀σ H Q,tM X.K m σ H Q->t σ H Q){σ:L2.St}{H:Hp}{Q:Bool->Hp->Prop}(h:tMT X.K (r6 m) σ H Q):tB t σ H Q:=by
 obtain⟨F,ρ,b,h1,h2,k⟩:=h;obtain⟨r,e1,e2⟩:=bind_some h2;exact i _ _ _ ⟨F,ρ,r,h1,e1,λv F1 H1 o=>⟨b,a18 o.rep e2,k F1 H1 o.x⟩⟩
def a85(r:c6):Option Str:=match r with
 | .v (.str x)=>ξ x
 |_=>ζ
end
section
variable {prog:AJ}{w:AI}{A:AK}{E:AB->AC->Prop}{s:AC}
end
section
variable {X:Cx}
end
def b9S(K:AE)(m:MS):TS:=λD σ H=>∃F0 H0 F ρ fl,SOk K F0 H0 F H σ ρ/\m ρ=ξ fl/\(match fl with
 | .nx ρ'=>ρ'=ρ/\∀F' H',O8 F H F' H'->D.nx σ H'
 | .rt r=>∀v F' H',u6 K F0 H0 F' H' v r->D.rt v H'
 |_=>False)
abbrev EK(X:Cx)(st:Stmt)(m:MS):Prop:=PS X st (b9S X.K m)
abbrev EKs(X:Cx)(sts:List Stmt)(m:MS):Prop:=PSs X sts (b9S X.K m)
def a00(b:MS):Prop:=∀ρ fl,b ρ=ξ fl->fl= .nx ρ\/∃r,fl= .rt r
theorem b2H:a00 j0:=λρ fl e=>by cases e;exact .inl rfl
theorem b5c(m:M):a00 (m4 m):=λρ fl e=>by
 ext r
 split at e
 ·cases e;exact .inr ⟨_,rfl⟩
 ·cases e
theorem c0m{c:MT}{m n:MS}(h1:a00 m)(h2:a00 n):a00 (n3 c m n):=λρ fl e=>by
 obtain⟨b,e1,e⟩:=bind_some e;split at e
 ·exact h1 ρ fl e
 ·exact h2 ρ fl e
section
variable {X:Cx}
theorem b8E:EKs X [] j0:=a4b K0 λD σ H ⟨F0,H0,F,ρ,fl,so,⟨e,fin⟩⟩=>by
 cases e;exact fin.2 F H (O8.refl so.e.fh)
theorem b4z{st:Stmt}{m:MS}(h1:EK X st m):EKs X [st] m:=a9z h1
theorem b8F{e:AF}{m:M}{pos:Pos}(he:EE X e m):EK X (.Return (ξ e) pos) (m4 m):=
 w8 (a9y he) λD σ H ⟨F0,H0,F,ρ,fl,so,⟨e,fin⟩⟩=>by
  ext r
  split at e
  ·cases e;exact⟨F,ρ,r,so.e,e1,λv F' H' o=>fin v F' H' (u6.trans so.x o)⟩
  ·cases e
theorem c0c{c:AF}{a b:List Stmt}{mc:MT}{m n:MS}{pos:Pos}(l1:a00 m)(l2:a00 n)(hc:ET X c mc)(ha:EKs X a m)(hb:EKs X b n):EK X (.If c a b pos) (n3 mc m n):=
 w8 (b5G hc ha hb) λD σ H ⟨F0,H0,F,ρ,fl,so,⟨e,fin⟩⟩=>by
  obtain⟨b,e1,e⟩:=bind_some e;refine⟨F,ρ,b,so.e,e1,λF1 H1 x=> ?_⟩;have go:∀k:MS,a00 k->k ρ=ξ fl->b9S X.K k D σ H1:=λk lk ek=>by
   refine⟨F0,H0,F1,ρ,fl,so.ext x,ek, ?_⟩;rcases lk ρ fl ek with rfl|⟨r,rfl⟩
   ·exact⟨rfl,λF2 H2 x2=>fin.2 F2 H2 (x.trans x2)⟩
   ·exact fin
  cases b with
  |true=>exact a82 (go m l1 e)
  |false=>exact a81 (go n l2 e)
def a89(i:Nat):MI:=λρ=>match ρ[i]? with
 |some (ξ (.ow (.lst ps)))=>ξ ps
 |_=>ζ
theorem b6w(i j:Nat){x:Str}{tg:AF}{body:List Stmt}{b:MS}{p pos:Pos}(hp:PassesOwn (model X.prog X.w) X.A X.env X.xe)(hc:X.calm=true)(hx:PE X (.Name x p) (a0a i))(hg:PG X tg (a8h j))(lk:a00 b)(hb:EKs X body b)(hij:i≠j:=by decide)
 (hs:∀y,foldedSetIterable (.Name x p) X.env y=pure y:=by intro _;rfl):ES X (.For tg (.Name x p) body [] pos) (O1 (a89 i) (d7 j) b):=
 w8 (a3r hp hc (a9w hx) hg hb hs) λD σ H h0=>K8 h0 λF0 H0 F ρ fl so e fin=>by
  obtain⟨ps,e1,e⟩:=bind_some e;unfold a89 at e1;split at e1
  ·rename_i qs eo;cases e1;obtain⟨v,hv,a,xs,rfl,fa,ha,rl⟩:=so.e.at_ i _ eo;have hlen:=rl.length;refine⟨.ref a,hv,a,rfl,.inl ⟨⟨xs,SqL.of ha⟩,a6k (K:=X.K) (a:=a) (xs:=xs)
    (λk σ' H'=>∃F' ρ',j2 F F'/\SOk X.K F0 H0 F' H' σ' ρ'/\ρ'[i]?=ξ (ξ (.ow (.lst ps)))/\σ'[i]?=ξ (ξ (.ref a))/\H' a=ξ (.lst xs)/\v7 b (d7 j) (ps.drop k) ρ'=ξ fl)
    ⟨F,ρ,j2.refl F,so,eo,hv,ha,e⟩ (λk σ' H' _ ⟨_,_,_,_,_,_,h,_⟩=>SqL.of h) (λk y σ' H' ey ⟨F',ρ',s',so',eo',hv',ha',e'⟩=> ?_) (λσ' H' ⟨F',ρ',s',so',eo',hv',ha',e'⟩=> ?_)⟩⟩
   ·obtain⟨p,ep,rp⟩:=rl.getV ey;have hk:k<ps.length:=(Ac.mp ep).1;have hd:ps.drop k=p::ps.drop (k+1):=by
     rw [List.drop_eq_getElem_cons hk]
     congr 1
     exact(Ac.mp ep).2
    rw [hd] at e';obtain⟨ρ1,f1,g1,g2,g3⟩:=a8d e';cases g1;have so1:=so'.set (u6.here so'.e.fh (C0.mono s' _ rp)) rfl j;refine⟨F0,H0,F',_,f1,so1,g2, ?_⟩;rcases lk _ f1 g2 with rfl|⟨r,rfl⟩
    ·refine⟨rfl,λF2 H2 x2=>⟨F2,_,s'.trans x2.f,so1.ext x2, ?_, ?_,x2.h _ _ ha',g3⟩⟩
     ·rw [List.getElem?_set_ne (Ne.symm hij)];exact eo'
     ·rw [List.getElem?_set_ne (Ne.symm hij)];exact hv'
    ·cases g3;exact fin
   ·rw [hlen,List.drop_length] at e';cases e';exact fin σ' F' H' s' so'
  ·cases e1
def a87(i:Nat):MS:=λρ=>match ρ[i]? with
 |some (ξ (.ow (.lst _)))=>ξ (.nx (ρ.set i (ξ (.own []))))
 |_=>ζ
theorem b3p(j:Nat){x:Str}{p apos cpos pos:Pos}(hx:PE X (.Name x p) (a0a j))
 (hbase:attributeBase (.Name x p) "clear" X.env (eval (.Name x p) X.env)=eval (.Name x p) X.env:=by rfl) (hline:(apos.endLine==cpos.line)=true:=by rfl)
 (hsw:swapsWith (.Call (.Attribute (.Name x p) "clear" apos) [] [] cpos) ζ pos.line X.env=pure false:=by rfl):
 ES X (.Expr (.Call (.Attribute (.Name x p) "clear" apos) [] [] cpos) pos) (a87 j):=
 w8 (a5P (b9r PySem.F.plainAttrs_list PySem.F.slot_list_clear PySem.F.type_list_clear b5m hx hbase hline) hsw) λD σ H h0=>K8 h0 λF0 H0 F ρ fl so e fin=>by
  unfold a87 at e;split at e
  ·rename_i ps eo;cases e;obtain⟨v,h1,a,xs,rfl,fa,ha',rl⟩:=so.e.at_ j _ eo;exact⟨.ref a,h1,.inl ⟨rfl,xs,SqL.of ha'⟩,a,xs,rfl,rfl,ha',fin σ F _ (j2.refl F) (so.put eo h1 rfl)⟩
  ·cases e
end
section
variable {prog:AJ}{w:AI}{A:AK}{E:AB->AC->Prop}{s:AC}
theorem a39{it t:AA}{i:Nat}{items}{x:AB}{Q:AB->AC->Prop}(hit:s.heap.IsTupleIter it t i)(ht:s.heap.IsTuple t items)(hx:items[i]?=ξ x)
 (hQ:∀h',h'.IsTupleIter it t (i+1)->Heap.SameBut it s.heap h'->Q x {s with heap:=h'}):AH (model prog w) A (Builtin.SmallTypes.nextOf (.ref it)) Q E s:=by
 obtain⟨o,ho,hc,hd⟩:=id hit
 obtain⟨ol,hol,_,nl,hdl⟩:=ht
 unfold Builtin.SmallTypes.nextOf
 refine AG (wpAny_callSpecial?_slot (name:=AD "__next__") hit.typeIs F.slot_tuple_iterator_next
  (wpAny_call_entry F.slot_tuple_iterator_next hit.typeIs F.entry_tuple_iterator_next ?_ (F.args_tuple_iterator_next_1 _)))
 show AH _ _ (field (.ref it) 0>>=_) _ _ s
 refine AG (wpAny_field ho hd (x:= .ref t) rfl ?_)
 show AH _ _ (if(Value.ref t==Value.none)=true then _ else _) _ _ s
 rw [if_neg (show ¬((Value.ref t==Value.none)=true) from Af)]
 show AH _ _ (field (.ref it) 1>>=_) _ _ s
 refine AG (wpAny_field ho hd (x:= .int i 0) rfl ?_)
 show AH _ _ (seqItems? (.ref t)>>=_) _ _ s
 refine AG (wpAny_seqItems hol hdl ?_)
 simp only [Int.toNat_natCast,hx]
 refine AG (wpAny_setField ho hd (by simp) (AN ⟨x,rfl,AN (hQ _ ?_ (Heap.SameBut.update ..))⟩))
 exact⟨_,Heap.get?_update_self _ ho (Obj.isFreed_of_fields (Obj.data_mapFields hd _)),(Obj.cls_mapFields ..).trans hc,by
  rw [Obj.data_mapFields hd];simp [rawInt]⟩
theorem a0T{it t:AA}{i:Nat}{items}{Q:AB->AC->Prop}(hh:A.handled=ζ)(hit:s.heap.IsTupleIter it t i)(ht:s.heap.IsTuple t items)(hx:items[i]?=ζ)
 (hE:∀h' e,Heap.ExtBut it s.heap h'->(∃o,h'.get? e=ξ o/\o.cls= .type "StopIteration")->E (.ref e) {s with heap:=h'}):AH (model prog w) A (Builtin.SmallTypes.nextOf (.ref it)) Q E s:=by
 obtain⟨o,ho,hc,hd⟩:=id hit
 obtain⟨ol,hol,_,nl,hdl⟩:=ht
 unfold Builtin.SmallTypes.nextOf
 refine AG (wpAny_callSpecial?_slot (name:=AD "__next__") hit.typeIs F.slot_tuple_iterator_next
  (wpAny_call_entry F.slot_tuple_iterator_next hit.typeIs F.entry_tuple_iterator_next ?_ (F.args_tuple_iterator_next_1 _)))
 show AH _ _ (field (.ref it) 0>>=_) _ _ s
 refine AG (wpAny_field ho hd (x:= .ref t) rfl ?_)
 show AH _ _ (if(Value.ref t==Value.none)=true then _ else _) _ _ s
 rw [if_neg (show ¬((Value.ref t==Value.none)=true) from Af)]
 show AH _ _ (field (.ref it) 1>>=_) _ _ s
 refine AG (wpAny_field ho hd (x:= .int i 0) rfl ?_)
 show AH _ _ (seqItems? (.ref t)>>=_) _ _ s
 refine AG (wpAny_seqItems hol hdl ?_)
 simp only [Int.toNat_natCast,hx]
 refine AG (wpAny_rule (AG (wpAny_setField ho hd (by simp) ?_)))
 show AH _ _ (newExc (.type "StopIteration") []>>=_) _ _ _
 refine AG ?_
 simp only [newExc,newTuple]
 refine AG (wpAny_newObj_type ?_ (by size_fits))
 refine AG (m:=firstArgMember _ _) (wpAny_of_eq (a:=Value.none) (by first|rfl|(simp only [firstArgMember];rfl)) ?_)
 refine wpAny_newObj_type ?_ (by size_fits)
 simp only [raiseNew]
 refine AG (wpAny_handled ?_)
 first|rw [show A.in1.handled=ζ from hh]|rw [hh]
 refine AG (AN (wpAny_throw ?_))
 exact hE _ _ (((Heap.SameBut.update ..).extBut.push _).push _) ⟨_,Ak _ rfl,rfl⟩
end
theorem a9X{prog:AJ}{w:AI}{A:AK}(hh:A.handled=ζ)(it l:AA)(hne:l≠it)(items:Array AB):
 Draws prog w A it [it,l] items.size (λi v=>items[i]?=ξ v) (λi h=>h.IsTupleIter it l i/\h.IsTuple l items) where
 live:=λ_ _ st=>let ⟨o,ho,_⟩:=st.1;⟨o,ho⟩
 frame:=λ_ _ _ st hk=>⟨st.1.at λo e=>hk it (by simp) o e,let ⟨o,e,r⟩:=st.2;⟨o,hk l (by simp) o e,r⟩⟩
 item:=λi s Q E hi st hQ=>by
  refine a39 st.1 st.2 (x:=items[i]) (by simp [hi]) λh' hit' hs'=> ?_
  exact hQ _ h' s.toks (by simp [hi]) ⟨hit',let ⟨o,e,r⟩:=st.2;⟨o,(hs'.2 l hne).trans e,r⟩⟩ hs'
 done:=λs Q E st hE=>a0T hh st.1 st.2 (by simp) hE
theorem a14(l:AA)(items:Array AB)(n:Nat)(dct:Option AA)(sl:Array (Option AB)):
 Meets (Builtin.«enumerate.__new__» ⟨[.type "enumerate",.ref l],[]⟩) (λ_ R s=>s.heap.get? l=ξ {cls:= .type "tuple",dict:=dct,data:= .seq items n,slots:=sl}/\
  R (.ok (.ret (.ref (s.heap.push {cls:= .type "tuple_iterator",data:= .fields #[.ref l,.int 0 0]}).objs.size)))
   {s with heap:=(s.heap.push {cls:= .type "tuple_iterator",data:= .fields #[.ref l,.int 0 0]}).push {cls:= .type "enumerate",data:= .fields #[.none,.bool false,.ref s.heap.objs.size,rawInt 0,.none,.none]}}):=
 .of_wp λprog w A R s h=>by
  obtain⟨hp,g,d,tk,os⟩:=s;obtain⟨hl,h⟩:=h;have hsub:=sub_enumerate;have hL:Heap.IsTuple (Shared.heap ⟨hp,g,d,tk,os⟩) l items:=⟨_,hl,rfl,n,rfl⟩
  wp_walk using AutoSeq1.wpAny_loadPart' hl
  refine wpAny_stack_any λst=>AN ?_;split
  ·rename_i c _ _ _ _ _;cases(c==Value.type "enumerate")
   ·wp_walk using AutoSeq1.wpAny_loadPart' hl,wpAny_pyIter_tuple hL
    exact⟨_,rfl,h⟩
   ·wp_walk using AutoSeq1.wpAny_loadPart' hl,wpAny_pyIter_tuple hL
    exact⟨_,rfl,h⟩
  ·wp_walk using AutoSeq1.wpAny_loadPart' hl,wpAny_pyIter_tuple hL
   exact⟨_,rfl,h⟩
section
variable {prog:AJ}{w:AI}{A:AK}{E:AB->AC->Prop}{s:AC}
theorem a1L{l:AA}{items:Array AB}{Q:AB->AC->Prop}(hL:s.heap.IsTuple l items)
 (h:∀h',IsEnum h' (s.heap.objs.size+1) s.heap.objs.size 0 .none->h'.IsTupleIter s.heap.objs.size l 0->h'.objs.size=s.heap.objs.size+2->
  (∀b o,s.heap.get? b=ξ o->h'.get? b=ξ o)->Q (.ref (s.heap.objs.size+1)) {s with heap:=h'}):
 AH (model prog w) A (call (.type "enumerate") [.ref l]) Q E s:=by
 obtain⟨⟨c,dct,dt,sl⟩,hl,hc,n,hd⟩:=hL
 replace hc:c= .type "tuple":=hc
 replace hd:dt= .seq items n:=hd
 subst hc hd
 refine callType_new F.called_enumerate (by decide) (F.typeCall_enumerate_1 _) (F.newCall_enumerate_1 _) (λobj=>F.args_object_init_2 obj _) F.entry_enumerate_new
  (a14 l items n dct sl) ⟨hl, ?_⟩
 have hz:(s.heap.push {cls:= .type "tuple_iterator",data:= .fields #[.ref l,.int 0 0]}).objs.size=s.heap.objs.size+1:=Heap.size_push ..
 show _/\_
 rw [hz]
 have he:IsEnum ((s.heap.push {cls:= .type "tuple_iterator",data:= .fields #[.ref l,.int 0 0]}).push
  {cls:= .type "enumerate",data:= .fields #[.none,.bool false,.ref s.heap.objs.size,rawInt 0,.none,.none]}) (s.heap.objs.size+1) s.heap.objs.size 0 .none:=by
  have:=Ak (s.heap.push {cls:= .type "tuple_iterator",data:= .fields #[.ref l,.int 0 0]})
   (o:={cls:= .type "enumerate",data:= .fields #[.none,.bool false,.ref s.heap.objs.size,rawInt 0,.none,.none]}) rfl
  rw [hz] at this;exact this
 refine⟨⟨_,he,rfl⟩,h _ he ⟨_,AV _ (Ak _ rfl),rfl,rfl⟩ (by rw [Heap.size_push,hz]) λb o x=>AV _ (AV _ x)⟩
end
theorem g9.turnedTup{X:Cx}{pins:List (AA×Obj)}{σ:L2.St}{H:Hp}{s:AC}{h':Heap}{t':Nat}{e it:AA}{xs:List V}(I:g9 X pins σ H s)(fe:a25 X pins H e)(fi:a25 X pins H it)
 (k:∀b o,b≠e->b≠it->s.heap.get? b=ξ o->h'.get? b=ξ o) (new:C7 X.prog X.w (m9 H s.heap.objs.size (.tup xs)) h' s.heap.objs.size (.tup xs)):
 g9 X pins σ (m9 H s.heap.objs.size (.tup xs)) {s with heap:=h',toks:=t'}:=by
 have hn:H s.heap.objs.size=ζ:=I.hok.fresh (AQ _)
 have nb:∀b u,H b=ξ u->b≠e/\b≠it:=λb u q=>⟨λz=>(by rw [z,fe.1] at q;cases q),λz=>(by rw [z,fi.1] at q;cases q)⟩
 refine I.step (g':=s.gens) (d':=s.drawn) (ch:=[e,it]) (λb hb=> ?_) (λb o _ _ hc q _=>k b o (λz=>hc (by simp [z])) (λz=>hc (by simp [z])) q) (λb o _ _ hc q _=>⟨o.slots,k b o (λz=>hc (by simp [z])) (λz=>hc (by simp [z])) q⟩)
  (λb o _ q n=>by rw [g6 (AZ (AT q))];exact n) (λb o hc q=>⟨o,k b o (λz=>hc (by simp [z])) (λz=>hc (by simp [z])) q⟩)
  (λb xs q=>by rw [g6 (i5 q hn)];exact q) (λb o u q=>by rw [g6 (i5 q hn)];exact q) (λb ps q=>⟨#[],by rw [g6 (i5 q hn),q];simp⟩) (λm hm=> ?_) (λb u q=> ?_) I.bare
 ·have hb:b=e\/b=it:=by simpa using hb
  rcases hb with rfl|rfl
  ·exact⟨fe.2.2.2.1,fe.2.1,fe.2.2.2.2.1,fe.2.2.2.2.2⟩
  ·exact⟨fi.2.2.2.1,fi.2.1,fi.2.2.2.2.1,fi.2.2.2.2.2⟩
 ·obtain⟨o,es,ep,ho,r⟩:=hm
  exact⟨o,es,ep,k _ o (Ne.symm fe.2.1) (Ne.symm fi.2.1) ho,r⟩
 ·by_cases hb:b=s.heap.objs.size
  ·subst hb
   rw [i3] at q
   cases q
   exact new
  ·rw [g6 hb] at q
   refine(I.hok b u q).stay (λc v hc y=>k c v ?_ ?_ y) (λc y=>by rw [g6 (i5 y hn)];exact y) λc ys y=>by rw [g6 (i5 y hn)];exact y
   ·rcases hc with z|z
    ·rw [z];exact(nb b u q).1
    ·exact(nb c _ z).1
   ·rcases hc with z|z
    ·rw [z];exact(nb b u q).2
    ·exact(nb c _ z).2
def Ite(J:It):It:=⟨J.go,λi H v H'=>∃x t,J.yld i H x H/\H t=ζ/\v= .ref t/\H'=m9 H t (.tup [.int i,x]),J.stop⟩
structure a9K(P:AJ)(w:AI)(K:AE)(J:It)(it:AA)(tn:Nat->Heap->Prop):Prop where
 obj:∀i h,tn i h->∃o,h.get? it=ξ o/\∀v,o.data≠.cell v
 keep:∀i h h',tn i h->(∀o,h.get? it=ξ o->h'.get? it=ξ o)->tn i h'
 item:∀(X:Cx),X.prog=P->X.w=w->X.K=K->X.calm=true->∀(i:Nat) (pins:List (AA×Obj)) (s:AC) (σ:L2.St) (H:Hp),g9 X pins σ H s->a25 X pins H it->tn i s.heap->J.go i H->
  ∃(fp:List AA) (n:Nat) (Pq:Nat->AB->Prop) (St:Nat->Heap->Prop),Draws P w X.A.in1 it fp n Pq St/\St i s.heap/\i<n/\(∀e old,e≠it->IsEnum s.heap e it i old->e∉fp)/\(∀v,Pq i v->∃x,l8 x v/\J.yld i H x H)/\∀h',St (i+1) h'->tn (i+1) h'
 done:∀(X:Cx),X.prog=P->X.w=w->X.K=K->X.calm=true->∀(i:Nat) (pins:List (AA×Obj)) (s:AC) (σ:L2.St) (H:Hp),g9 X pins σ H s->a25 X pins H it->tn i s.heap->J.stop i H->
   ∃(fp:List AA) (n:Nat) (Pq:Nat->AB->Prop) (St:Nat->Heap->Prop),Draws P w X.A.in1 it fp n Pq St/\St n s.heap
theorem b4b{P:AJ}{w:AI}{K:AE}{J:It}{e it:AA}{tn:Nat->Heap->Prop}{elts:List AF}{x1}{pos:Pos}(D:a9K P w K J it tn)(hne:e≠it):
 b08 P w K (.Tuple elts x1 pos) (Ite J) [e,it] e (λi h=>(∃old,IsEnum h e it i old)/\tn i h) where
 mem:=by simp
 obj:=λi h ⟨⟨old,he⟩,st⟩ b hb=>by
  have hb:b=e\/b=it:=by simpa using hb
  rcases hb with rfl|rfl
  ·exact⟨_,he,λv z=>by cases z⟩
  ·exact D.obj i h st
 keep:=λi h h' ⟨⟨old,he⟩,st⟩ k=>⟨⟨old,k e (by simp) _ he⟩,D.keep i h h' st λo q=>k it (by simp) o q⟩
 item:=by
  intro X hP hw hK hc i pins s σ H E I hf ⟨⟨old,he⟩,st⟩ hg;have fe:=hf e (by simp)
  have fi:=hf it (by simp)
  obtain⟨fp,n,Pq,St,DD,hst,hlt,hef,hy,hnx⟩:=D.item X hP hw hK hc i pins s σ H I fi st hg;subst hP hw hK;refine wpAny_pyNext_enum_itemD DD he hst hlt hne (hef e old hne he) λu h' tk hPu hout hst' htup hsz hk=>⟨_,rfl, ?_⟩;obtain⟨x,rx,yx⟩:=hy u hPu;refine wpAny_letOwnedTupleGo_enum hout λh2 he2 hs2=> ?_;have helt:e<s.heap.objs.size:=AT he;have hilt:it<s.heap.objs.size:=by obtain⟨o,q,_⟩:=D.obj i _ st;exact AT q
  have htup2:h2.get? s.heap.objs.size=ξ {cls:= .type "tuple",data:= .seq #[.int i tk,u]}:=(hs2.2 _ (Nat.ne_of_gt helt)).trans htup;have I2:g9 X pins σ (m9 H s.heap.objs.size (.tup [.int i,x])) {s with heap:=h2,toks:=tk+1}:=by
   refine g9.turnedTup I fe fi (λb o hbe hbi q=>(hs2.2 b hbe).trans (hk b o hbe hbi q)) ?_;exact⟨by rw [sizeLine_eq];simp,[.int i tk,u],.cons ⟨tk,rfl⟩ (.cons rx .nil),⟨_,htup2,rfl,0,rfl⟩⟩
  refine⟨.ref s.heap.objs.size,_,I2,rfl,⟨x,s.heap.objs.size,yx,I.hok.fresh (AQ _),rfl,rfl⟩,⟨⟨_,by simpa using he2⟩,D.keep _ _ _ (hnx h' hst') λo q=>(hs2.2 it (Ne.symm hne)).trans q⟩,λb hb=> ?_⟩
  have hb:b=e\/b=it:=by simpa using hb
  rcases hb with rfl|rfl
  ·rw [g6 (AZ helt)];exact fe.1
  ·rw [g6 (AZ hilt)];exact fi.1
 done:=by
   intro X hP hw hK hc i pins s σ H E I hf ⟨⟨old,he⟩,st⟩ hg;have fi:=hf it (by simp)
   obtain⟨fp,n,Pq,St,DD,hst⟩:=D.done X hP hw hK hc i pins s σ H I fi st hg;subst hP hw hK;exact wpAny_pyNext_enum_endD DD he hst λh' eb=>⟨rfl,I.turned (t':=s.toks) (λb o hb q=>eb b o hb q) fi.1 fi.2.1 fi.2.2.2.1 fi.2.2.2.2.1 fi.2.2.2.2.2⟩
 self:=λ_ _ _ _ _ ⟨⟨_,he⟩,_⟩ h=>wpAny_pyIter_enum he h
theorem a4z{prog:AJ}{w:AI}{A:AK}{it:AA}{fp:List AA}{i:Nat}{S0:Heap->Prop}(lv:∀h,S0 h->∃o,h.get? it=ξ o)(fr:∀h h',S0 h->(∀b∈fp,∀o,h.get? b=ξ o->h'.get? b=ξ o)->S0 h')
 (en:∀(s:AC) (Q:AB->AC->Prop) (E:AB->AC->Prop),S0 s.heap->(∀h' e,Heap.ExtBut it s.heap h'->(∃o,h'.get? e=ξ o/\o.cls= .type "StopIteration")->E (.ref e) {s with heap:=h'})->AH (model prog w) A (Builtin.SmallTypes.nextOf (.ref it)) Q E s):
 Draws prog w A it fp i (λ_ _=>True) (λk h=>k=i/\S0 h) where
 live:=λ_ h st=>lv h st.2
 frame:=λ_ h h' st k=>⟨st.1,fr h h' st.2 k⟩
 item:=λk s Q E hk st _=>by have:=st.1;lia
 done:=λs Q E st hE=>en s Q E st.2 hE
theorem a91{P:AJ}{w:AI}{K:AE}(a it:AA):a9K P w K (Itt K a) it (λi h=>h.IsTupleIter it a i) where
 obj:=λi h st=>by
  ext j
 keep:=λi h h' st k=>st.at λo e=>k o e
 item:=by
  ext h
  obtain⟨xs,x,hq,hx⟩:=hg;obtain⟨its,rv,p,hz⟩:=I.tuple hq;obtain⟨u,hu,ru⟩:=rv.get hx;have p':s.heap.IsTuple a its.toArray:=p;have hai:a≠it:=λz=>by
   subst z;obtain⟨o,e,c,_⟩:=p';obtain⟨o2,e2,c2,_⟩:=st;rw [e] at e2;cases e2;rw [c] at c2;injection c2 with c2
   exact absurd c2 (by decide)
  refine⟨_,_,_,_,a9X (prog:=X.prog) (w:=X.w) (A:=X.A.in1) (show X.A.in1.handled=ζ from I.ok.hd hc) it a hai its.toArray,⟨st,p'⟩, ?_,λe old hne he hm=> ?_,λv hv=> ?_,λh' z=>z.1⟩
  ·have:=(Ac.mp hu).1
   simpa using this
  ·have hm:e=it\/e=a:=by simpa using hm
   rcases hm with rfl|rfl
   ·exact hne rfl
   ·obtain⟨o,q,c,_⟩:=p';rw [he] at q;cases q;injection c with c
    exact absurd c (by decide)
  ·have hv:its[i]?=ξ v:=by simpa using hv
   rw [hu] at hv;cases hv;exact⟨x,ru,rfl,λys hy=>by rw [I.tuple_inj hy hq];exact hx⟩
 done:=by
   ext h
   obtain⟨xs,hq,hx⟩:=hg;obtain⟨its,rv,p,hz⟩:=I.tuple hq;have p':s.heap.IsTuple a its.toArray:=p;have hl:=rv.length;exact⟨_,_,_,_,a4z (prog:=X.prog) (w:=X.w) (A:=X.A.in1) (it:=it) (fp:=[it,a]) (i:=i) (S0:=λh=>h.IsTupleIter it a i/\h.IsTuple a its.toArray) (λh z=>let ⟨o,ho,_⟩:=z.1;⟨o,ho⟩)
    (λh h' z k=>⟨z.1.at λo e=>k it (by simp) o e,let ⟨o,e,r⟩:=z.2;⟨o,k a (by simp) o e,r⟩⟩)
    (λs Q E z hE=>a0T (show X.A.in1.handled=ζ from I.ok.hd hc) z.1 z.2 (by simp;lia) hE),rfl,st,p'⟩
theorem b1n{P:AJ}{w:AI}{K:AE}(a it:AA):a9K P w K (Itl K a) it (λi h=>h.IsListIter it a i) where
 obj:=λi h st=>by
  ext j
 keep:=λi h h' st k=>st.at λo e=>k o e
 item:=by
  ext h
  obtain⟨xs,x,hq,hx⟩:=hg;obtain⟨its,rv,p,hz⟩:=I.list hq;obtain⟨u,hu,ru⟩:=rv.get hx;have p':s.heap.IsList a its.toArray:=p.isList;have hai:a≠it:=λz=>by
   subst z;obtain⟨o,e,c,_⟩:=p';obtain⟨o2,e2,c2,_⟩:=st;rw [e] at e2;cases e2;rw [c] at c2;injection c2 with c2
   exact absurd c2 (by decide)
  refine⟨_,_,_,_,Draws.list (prog:=X.prog) (w:=X.w) (A:=X.A.in1) (show X.A.in1.handled=ζ from I.ok.hd hc) it a hai its.toArray,⟨st,p'⟩, ?_,λe old hne he hm=> ?_,λv hv=> ?_,λh' z=>z.1⟩
  ·have:=(Ac.mp hu).1
   simpa using this
  ·have hm:e=it\/e=a:=by simpa using hm
   rcases hm with rfl|rfl
   ·exact hne rfl
   ·obtain⟨o,q,c,_⟩:=p';rw [he] at q;cases q;injection c with c
    exact absurd c (by decide)
  ·have hv:its[i]?=ξ v:=by simpa using hv
   rw [hu] at hv;cases hv;exact⟨x,ru,rfl,λys hy=>by rw [I.list_inj hy hq];exact hx⟩
 done:=by
   ext h
   obtain⟨xs,hq,hx⟩:=hg;obtain⟨its,rv,p,hz⟩:=I.list hq;have p':s.heap.IsList a its.toArray:=p.isList;have hl:=rv.length;exact⟨_,_,_,_,a4z (prog:=X.prog) (w:=X.w) (A:=X.A.in1) (it:=it) (fp:=[it,a]) (i:=i) (S0:=λh=>h.IsListIter it a i/\h.IsList a its.toArray) (λh z=>let ⟨o,ho,_⟩:=z.1;⟨o,ho⟩)
    (λh h' z k=>⟨z.1.at λo e=>k it (by simp) o e,z.2.at λo e=>k a (by simp) o e⟩)
    (λs Q E z hE=>wpAny_nextOf_list_end (show X.A.in1.handled=ζ from I.ok.hd hc) z.1 z.2 (by simp;lia) hE),rfl,st,p'⟩
theorem b3m{P:AJ}{w:AI}{K:AE}(it:AA)(x:Str)(t:Tok):a9K P w K (Its x) it (λi h=>h.IsStrIter it (strIterType x) x t i) where
 obj:=λi h st=>by
  ext j
 keep:=λi h h' st k=>let ⟨o,e,r⟩:=st;⟨o,k o e,r⟩
 item:=by
  ext h
  have hg:i<x.cps.size:=hg;have yl:∀v,(∃c u,x.cps[i]?=ξ c/\v=Value.str ⟨#[c]⟩ u)->∃y,l8 y v/\(Its x).yld i H y H:=λv ⟨c,u,h1,h2⟩=>⟨.str ⟨#[c]⟩,⟨u,h2⟩,rfl,c,h1,rfl⟩;cases ha:x.cps.all (· <128) with
  |true=>
   have et:strIterType x="str_ascii_iterator":=by simp [strIterType,ha]
   rw [et] at st ⊢;exact⟨_,_,_,_,Draws.strAscii (prog:=X.prog) (w:=X.w) (A:=X.A.in1) (show X.A.in1.handled=ζ from I.ok.hd hc) it x t,st,hg,λe old hne he hm=>hne (by simpa using hm),yl,λh' z=>z⟩
  |false=>
   have et:strIterType x="str_iterator":=by simp [strIterType,ha]
   rw [et] at st ⊢;exact⟨_,_,_,_,Draws.strWide (prog:=X.prog) (w:=X.w) (A:=X.A.in1) (show X.A.in1.handled=ζ from I.ok.hd hc) it x t,st,hg,λe old hne he hm=>hne (by simpa using hm),yl,λh' z=>z⟩
 done:=by
   ext h
   have hg:x.cps.size<=i:=hg;have hx:x.cps[i]?=ζ:=by simp [hg]
   refine⟨_,_,_,_,a4z (prog:=X.prog) (w:=X.w) (A:=X.A.in1) (it:=it) (fp:=[it]) (i:=i) (S0:=λh=>h.IsStrIter it (strIterType x) x t i) (λh z=>let ⟨o,ho,_⟩:=z;⟨o,ho⟩)
    (λh h' z k=>let ⟨o,e,r⟩:=z;⟨o,k it (by simp) o e,r⟩) (λs Q E z hE=> ?_),rfl,st⟩
   cases ha:x.cps.all (· <128) with
   |true=>
    have et:strIterType x="str_ascii_iterator":=by simp [strIterType,ha]
    rw [et] at z;exact wpAny_nextOf_ascii_end (show X.A.in1.handled=ζ from I.ok.hd hc) z hx hE
   |false=>
    have et:strIterType x="str_iterator":=by simp [strIterType,ha]
    rw [et] at z;exact wpAny_nextOf_wide_end (show X.A.in1.handled=ζ from I.ok.hd hc) z hx hE
theorem a53:bootBuiltins "enumerate"=ξ (.type "enumerate"):=by decide+kernel
section
variable {X:Cx}
def iEn(K:AE)(ta:TA):TI:=λσ H R=>ta σ H λvs H1=>(∃a xs,vs=[.ref a]/\SqT K H1 a xs/\R (Ite (Itt K a)) H1)\/(∃a xs,vs=[.ref a]/\SqL K H1 a xs/\R (Ite (Itl K a)) H1)\/∃z,vs=[.str z]/\R (Ite (Its z)) H1
theorem b4A{tg:AF}{pins:List (AA×Obj)}{σ:L2.St}{H:Hp}{s:AC}{R:It->Hp->Prop}{E:AB->AC->Prop}{J:It}{h':Heap}{tn:Nat->Heap->Prop}{elts:List AF}{x1}{tpos:Pos}(htg:tg= .Tuple elts x1 tpos)(I:g9 X pins σ H s)(D:a9K X.prog X.w X.K J s.heap.objs.size tn)
 (he:IsEnum h' (s.heap.objs.size+1) s.heap.objs.size 0 .none) (st:tn 0 h') (hk:∀b o,s.heap.get? b=ξ o->h'.get? b=ξ o) (q:R (Ite J) H):
 AH (model X.prog X.w) X.A (pyIter (.ref (s.heap.objs.size+1))) (PIE X pins σ tg R) E {s with heap:=h'}:=by
 subst htg
 refine wpAny_pyIter_enum (s:={s with heap:=h'}) he ?_
 refine⟨s.heap.objs.size+1,[s.heap.objs.size+1,s.heap.objs.size],_,_,H,rfl,I.kept (t':=s.toks) hk,b4b D (Nat.succ_ne_self _),⟨⟨_,he⟩,st⟩,λb hb=> ?_,q⟩
 have hb:b=s.heap.objs.size+1\/b=s.heap.objs.size:=by simpa using hb
 rcases hb with rfl|rfl
 ·exact I.fpOk (Nat.le_succ _) (I.hok.fresh (Nat.le_succ _))
 ·exact I.fpOk (AQ _) (I.hok.fresh (AQ _))
theorem b7i{a:AF}{ta:TA}{p pos tpos:Pos}{elts:List AF}{x1}(hg:Gl X "enumerate")(hm:X.mg "enumerate"=ζ)(ha:PA X [a] ta)(hs:AL [a] X.env=[(false,eval a X.env)]:=by rfl):
 PI X (.Tuple elts x1 tpos) (.Call (.Name "enumerate" p) [a] [] pos) (iEn X.K ta):=by
 intro pins s σ H R I h
 refine Call_ (a4I I hg hm a53 (PyProof.Rows.callWith_type1 (D5 (ha pos pins s σ H _ I h) λus s1 h0=>k9 h0 λvs H1 I1 r1 q1=> ?_) hs rfl))
 rcases q1 with⟨b,xs,rfl,hq,q⟩|⟨b,xs,rfl,hq,q⟩|⟨z,rfl,q⟩
 ·cases r1 with
  |cons r rr=>
   cases rr
   cases r
   obtain⟨its,rv,p',hz⟩:=I1.tuple hq
   exact a1L (show s1.heap.IsTuple b its.toArray from p') λh' he hit hsz hk=>b4A rfl I1 (a91 b _) he hit hk q
 ·cases r1 with
  |cons r rr=>
   cases rr
   cases r
   obtain⟨its,rv,p',hz⟩:=I1.list hq
   exact call_enumerate_list p'.isList λh' he hit hsz hk=>b4A rfl I1 (b1n b _) he hit hk q
 ·cases r1 with
  |cons r rr=>
   cases rr
   obtain⟨t,rfl⟩:=r
   exact call_enumerate_str λh' he hit hsz hk=>b4A rfl I1 (b3m _ z t) he hit hk q
def V0(ps:List PV):List PV:=ps.zipIdx.map λq=> .tuple [.int ((q.2:Nat):Int),q.1]
theorem b3n(ps:List PV)(k:Nat):(V0 ps)[k]?=ps[k]?.map λp=> .tuple [.int ((k:Nat):Int),p]:=by
 unfold V0;rw [Am,List.getElem?_zipIdx];cases ps[k]? with
 |none=>rfl
 |some p=>simp
theorem b3o(ps:List PV):(V0 ps).length=ps.length:=by unfold V0;simp
def b47(p:PV):Option (List PV):=match p with
 | .str z=>ξ (z.cps.toList.map λc=> .str ⟨#[c]⟩)
 |p=>PyData.items? p
def b2I(m:MA):MI:=λρ=>(m ρ).bind λas=>match as with
 |[p]=>(b47 p).map V0
 |_=>ζ
theorem b5X{F1:Hp}{a:AA}{xs:List V}{ps:List PV}(hq:SqT X.K F1 a xs)(rl:j4 X.K F1 ps xs):b3b X.K F1 (Itt X.K a) ps:=by
 have hlen:=rl.length;refine⟨λi H2 s h=>⟨xs,t4 s hq,by lia⟩,λi p H2 s h=> ?_,λi p x H2 H3 s h y=> ?_⟩
 ·obtain⟨v,ev,_⟩:=rl.get h;exact⟨xs,v,t4 s hq,ev⟩
 ·obtain⟨e,y⟩:=y;have:=y xs (t4 s hq);obtain⟨v,ev,rv⟩:=rl.get h;rw [this] at ev;cases ev;exact⟨e,rv⟩
theorem b5V{F1:Hp}{a:AA}{xs:List V}{ps:List PV}(hq:SqL X.K F1 a xs)(rl:j4 X.K F1 ps xs):b3b X.K F1 (Itl X.K a) ps:=by
 have hlen:=rl.length;refine⟨λi H2 s h=>⟨xs,A2 s hq,by lia⟩,λi p H2 s h=> ?_,λi p x H2 H3 s h y=> ?_⟩
 ·obtain⟨v,ev,_⟩:=rl.get h;exact⟨xs,v,A2 s hq,ev⟩
 ·obtain⟨e,y⟩:=y;have:=y xs (A2 s hq);obtain⟨v,ev,rv⟩:=rl.get h;rw [this] at ev;cases ev;exact⟨e,rv⟩
theorem b5W{F1:Hp}(z:Str):b3b X.K F1 (Its z) (z.cps.toList.map λc=> .str ⟨#[c]⟩):=by
 refine⟨λi H2 s h=> ?_,λi p H2 s h=> ?_,λi p x H2 H3 s h y=> ?_⟩
 ·have h:z.cps.size<=i:=by simpa using h
  exact h
 ·have:=(Ac.mp h).1;have h:i<z.cps.size:=by simpa using this
  exact h
 ·obtain⟨e,c,hc,rfl⟩:=y;refine⟨e, ?_⟩;rw [Am,Array.getElem?_toList,hc] at h;cases h
  rfl
end
def S(l:List Nat):Str:=⟨l.toArray⟩
theorem b91(a b:List Nat):S a++S b=S (a++b):=by
 show Str.append (S a) (S b)=_;simp [Str.append,S]
theorem a7S(a:List Nat):(S a).length=a.length:=by simp [S,Str.length]
theorem b92(a:List Nat):(S a).cps.toList=a:=by simp [S]
theorem b93{a b:List Nat}(h:S a=S b):a=b:=by
 have:=congrArg (λz:Str=>z.cps.toList) h
 simpa [S] using this
def G0(sep:List Nat):List (List Nat)->List Nat
 |[]=>[]
 |[x]=>x
 |x::y::r=>x++sep++G0 sep (y::r)
theorem a8i(sep:List Nat):∀(ls:List (List Nat)) (acc:List Nat),(ls.foldl (λa p=>a++sep++p) acc)=if ls=[] then acc else acc++sep++G0 sep ls
 |[],acc=>rfl
 |[x],acc=>by simp [G0]
 |x::y::r,acc=>by
  rw [List.foldl_cons,a8i sep (y::r)];simp [G0]
theorem b2u(sep:List Nat):∀(ls:List (List Nat)) (acc:List Nat),(ls.map S).foldl (λa (p:Str)=>a++(S sep).cps++p.cps) acc.toArray=(ls.foldl (λa p=>a++sep++p) acc).toArray
 |[],acc=>rfl
 |x::r,acc=>by
  rw [AS,List.foldl_cons,List.foldl_cons];have:acc.toArray++(S sep).cps++(S x).cps=(acc++sep++x).toArray:=by simp [S]
  rw [this];exact b2u sep r (acc++sep++x)
theorem b82(sep:List Nat)(ls:List (List Nat)):Txt.join (S sep) (ls.map S)=S (G0 sep ls):=by
 unfold Txt.join Builtin.Str.glued;cases ls with
 |nil=>rfl
 |cons x r=>
  show(⟨((r.map S).foldl (λacc (p:Str)=>acc++(S sep).cps++p.cps) (S x).cps)⟩:Str)=_;rw [show(S x).cps=x.toArray from rfl,b2u,a8i];cases r with
  |nil=>rfl
  |cons y r=>rw [if_neg (by simp)];simp [S,G0]
theorem b4p{α:Type}{xs:List α}{i:Int}(h:0<=i):L2.atI xs i=xs[i.toNat]?:=by
 unfold L2.atI L2.ixN;rw [if_pos h]
 by_cases c:i<xs.length
 ·rw [if_pos c];rfl
 ·rw [if_neg c];have:xs.length<=i.toNat:=by lia
  rw [List.getElem?_eq_none_iff.mpr this];rfl
theorem a7Y{α:Type}{xs:List α}{k:Nat}:L2.atI xs (k:Int)=xs[k]?:=by
 rw [b4p (by lia)];simp
theorem b74{l:List Nat}{i:Int}{c:Nat}(hl:l.length<=16777216)(h:L2.atI l i=ξ c):i9 (.v (.str (S l))) (.v (.int i))=ξ (.v (.str (S [c]))):=by
 have hs:(S l).length<=AM:=by rw [a7S,sizeLine_eq];exact hl
 unfold i9;simp only [c6.rd,b92,h,Option.map_some,if_pos hs]
 rfl
theorem b8Q{l k:List Nat}(h:l.length+k.length<=16777216):p9 (.v (.str (S l))) (.v (.str (S k)))=ξ (.v (.str (S (l++k)))):=by
 rw [b4Q (by rw [a7S,a7S,sizeLine_eq];exact h),b91]
theorem b6J{i j:Int}(h: -18446744073709551616<i/\i<18446744073709551616):a3W (.v (.int i)) (.v (.int j))=ξ (.v (.int (i*j))):=b8T h
theorem b6K{i j:Int}(h: -18446744073709551616<j/\j<18446744073709551616):a3W (.v (.int i)) (.v (.int j))=ξ (.v (.int (i*j))):=b8U h
theorem b3w{l:List PV}{k:Int}(h:(0<=k/\k<=1000)/\l.length<=1000):a3W (.own l) (.v (.int k))=ξ (.own (AO k.toNat l).flatten):=by
 have hm:(l.length:Int)*k<=1000*1000:=Int.mul_le_mul (by lia) (by lia) (by lia) (by lia)
 show(if okC (λk n=>0<=k/\k<=1000000/\n*k<=16777216) k l.length=true then ξ (c6.own (AO k.toNat l).flatten) else ζ)=_
 rw [if_pos (a0q.mpr ⟨by lia,by lia,by lia⟩)]
theorem b2x{i j:Int}(h: -18446744073709551616<i/\i<18446744073709551616):m8 (.v (.int i)) (.v (.int j))=ξ (.v (.int (i*j))):=(show _=a3W (.v (.int i)) (.v (.int j)) from rfl).trans (b6J h)
theorem b2y{i j:Int}(h: -18446744073709551616<j/\j<18446744073709551616):m8 (.v (.int i)) (.v (.int j))=ξ (.v (.int (i*j))):=(show _=a3W (.v (.int i)) (.v (.int j)) from rfl).trans (b6K h)
theorem b3x{l:List PV}{k:Int}(h:(0<=k/\k<=1000)/\l.length<=1000):m8 (.own l) (.v (.int k))=ξ (.own (AO k.toNat l).flatten):=(show _=a3W (.own l) (.v (.int k)) from rfl).trans (b3w h)
abbrev row(l:List Nat):PV:= .str (S l)
theorem a96{body:MS}{tg:PV->b0->Option b0}{I:Nat->b0->Prop}:∀{ps:List PV} {ρ:b0} (k:Nat),(∀(i:Nat) p,ps[i]?=ξ p->∀ρ,I (k+i) ρ->∃ρ1 ρ2,tg p ρ=ξ ρ1/\(body ρ1=ξ (.nx ρ2)\/body ρ1=ξ (.ct ρ2))/\I (k+i+1) ρ2)->I k ρ->∃ρ',v7 body tg ps ρ=ξ (.nx ρ')/\I (k+ps.length) ρ'
 |[],ρ,k,_,h=>⟨ρ,rfl,h⟩
 |p::ps,ρ,k,s,h=>by
  obtain⟨ρ1,ρ2,h1,h2,h3⟩:=s 0 p rfl ρ h;obtain⟨ρ',h4,h5⟩:=a96 (ps:=ps) (ρ:=ρ2) (k+1) (λi q hq ρ hi=>by
   have e:k+1+i=k+(i+1):=by lia
   rw [e] at hi ⊢;exact s (i+1) q (by simpa using hq) ρ hi) h3
  refine⟨ρ', ?_,by rw [AU];have e:k+(ps.length+1)=k+1+ps.length:=by lia
                   rw [e];exact h5⟩
  unfold v7;rw [h1];show(body ρ1).bind _=_;rcases h2 with h2|h2<;>rw [h2]<;>exact h4
theorem a2r{body:MS}{tg:PV->b0->Option b0}(I:Nat->b0->Prop){ps:List PV}{ρ:b0}(s:∀(i:Nat) p,ps[i]?=ξ p->∀ρ,I i ρ->∃ρ1 ρ2,tg p ρ=ξ ρ1/\(body ρ1=ξ (.nx ρ2)\/body ρ1=ξ (.ct ρ2))/\I (i+1) ρ2)(h:I 0 ρ):∃ρ',v7 body tg ps ρ=ξ (.nx ρ')/\I ps.length ρ':=by
 obtain⟨ρ',a,b⟩:=a96 (I:=I) 0 (λi p hp ρ hi=>by rw [Nat.zero_add] at hi ⊢;exact s i p hp ρ hi) h
 rw [Nat.zero_add] at b;exact⟨ρ',a,b⟩
theorem a5R{body:MS}{tg:PV->b0->Option b0}{I:b0->Prop}{p:PV}{ρ ρ1 ρ2:b0}(h1:tg p ρ=ξ ρ1)(h2:body ρ1=ξ (.nx ρ2))(h3:I ρ2):∃ρ1 ρ2,tg p ρ=ξ ρ1/\(body ρ1=ξ (.nx ρ2)\/body ρ1=ξ (.ct ρ2))/\I ρ2:=⟨ρ1,ρ2,h1,.inl h2,h3⟩
theorem b7u{lo hi:Int}{i:Nat}{p:PV}(h:(Y8 lo hi)[i]?=ξ p):p= .int (lo+i)/\lo+i<hi:=by
 have hi':=(Ac.mp h).1;rw [a19] at hi';rw [a4f hi'] at h;cases h;exact⟨rfl,by lia⟩
theorem b7v(n:Nat):Y8 0 (n:Int)=(Ab n).map λk=> .int (k:Nat):=by
 unfold Y8;have e:((n:Int) - 0).toNat=n:=by lia
 rw [e];exact List.map_congr_left λk _=>by simp
theorem a8o(k:Nat)(it:MI)(tg:PV->b0->Option b0)(c:MT)(elt:M)(ρ:b0):V3 k it tg c elt ρ=(it ρ).bind λps=>if ps.length<=AM then(a2R c elt tg (ρ++AO k ζ) ps).bind λr=>ξ (.own r) else ζ:=Eq.trans rfl rfl
theorem a76{α:Type}{ι f:α->PV}{elt:M}{tg:PV->b0->Option b0}{ρ:b0}:∀{xs:List α},(∀x∈xs,∃ρ1,tg (ι x) ρ=ξ ρ1/\(elt ρ1).bind c6.toVal=ξ (f x))->a2R V5 elt tg ρ (xs.map ι)=ξ (xs.map f)
 |[],_=>rfl
 |x::xs,h=>by
  obtain⟨ρ1,h1,h2⟩:=h x Aa;rw [AS,AS];unfold a2R;rw [h1,AR];show((elt ρ1).bind c6.toVal).bind _=_;rw [h2,AR,a76 λy hy=>h y (AY _ hy),AR]
theorem a4M{α:Type}{ι f:α->PV}{k:Nat}{it:MI}{elt:M}{tg:PV->b0->Option b0}{ρ:b0}(xs:List α)(h1:it ρ=ξ (xs.map ι))(h2:xs.length<=16777216)
 (h:∀x∈xs,∃ρ1,tg (ι x) (ρ++AO k ζ)=ξ ρ1/\(elt ρ1).bind c6.toVal=ξ (f x)):V3 k it tg V5 elt ρ=ξ (.own (xs.map f)):=by
 rw [a8o,h1,AR,if_pos (by rw [AX,sizeLine_eq];exact h2),a76 h,AR]
theorem a3M{α:Type}{ι f:α->PV}{q:α->Bool}{c:MT}{elt:M}{tg:PV->b0->Option b0}{ρ:b0}:∀{xs:List α},(∀x∈xs,∃ρ1,tg (ι x) ρ=ξ ρ1/\c ρ1=ξ (q x)/\(q x=true->(elt ρ1).bind c6.toVal=ξ (f x)))->a2R c elt tg ρ (xs.map ι)=ξ ((xs.filter q).map f)
 |[],_=>rfl
 |x::xs,h=>by
  obtain⟨ρ1,h1,h2,h3⟩:=h x Aa;have ih:=a3M (xs:=xs) λy hy=>h y (AY _ hy);rw [AS];unfold a2R;rw [h1,AR,h2,AR];cases e:q x with
  |true=>rw [if_pos rfl,h3 e,AR,ih,AR,List.filter_cons_of_pos (by rw [e])];rfl
  |false=>rw [if_neg Af,ih,List.filter_cons_of_neg (by rw [e];exact Af)]
theorem b1H(m:M)(lo hi:MO)(ρ:b0):M1 m lo hi ρ=(m ρ).bind λr=>(lo ρ).bind λl=>(hi ρ).bind λh=>gSl r l h:=Eq.trans rfl rfl
theorem J8{m:M}{ρ:b0}{n:Nat}(h:m ρ=ξ (.v (.int n)))(hn:n<4611686018427387904):B7 (a4 m a8) ρ=ξ ((Ab n).map λk=> .int (k:Nat)):=by
 have e:a4 m a8 ρ=ξ [.int n]:=by rw [b1I,h];rfl
 rw [b3L,e,AR,b7s (j:=(n:Int)) ⟨by lia,by lia⟩,b7v]
theorem a6m{sep:List Nat}{rows:List (List Nat)}{y:c6}(h:PyData.items? y.rd=ξ (rows.map row))(hl:(rows.map (·.length)).sum+rows.length*sep.length<=16777216):a1V (.v (.str (S sep))) y=ξ (.v (row (G0 sep rows))):=by
 have e1:a1r (rows.map row)=ξ (rows.map S):=by
  have:rows.map row=(rows.map S).map PyData.str:=by rw [At];rfl
  rw [this,a7a]
 have e2:((rows.map S).map (·.length))=rows.map (·.length):=by rw [At];exact List.map_congr_left λa _=>a7S a
 unfold a1V;simp only [h,e1,AR,e2,AX,a7S,if_pos hl,b82]
theorem B5{i:Nat}{m:M}{ρ:b0}{r:c6}{p:PV}{ps:List PV}(h1:m ρ=ξ r)(h2:r.toVal=ξ p)(h3:ρ[i]?=ξ (ξ (.own ps)))(h:ps.length<16777216):L8 i m ρ=ξ (.nx (ρ.set i (ξ (.own (ps++[p]))))):=by
 unfold L8;rw [h1,AR,h2,AR,h3];simp only [sizeLine_eq,if_pos h]
theorem b4d(k:List n5)(v:PV)(D:List (List n5×PV))(k':List n5):U9 ((k,v)::D) k'=if k=k' then ξ v else U9 D k':=by
 unfold U9;rw [List.find?_cons]
 by_cases h:k=k'
 ·simp [h]
 ·simp [h]
theorem a88{α:Type}{ι f:α->PV}{q:α->Bool}{k:Nat}{it:MI}{c:MT}{elt:M}{tg:PV->b0->Option b0}{ρ:b0}(xs:List α)(h1:it ρ=ξ (xs.map ι))(h2:xs.length<=16777216)
 (h:∀x∈xs,∃ρ1,tg (ι x) (ρ++AO k ζ)=ξ ρ1/\c ρ1=ξ (q x)/\(q x=true->(elt ρ1).bind c6.toVal=ξ (f x))):V3 k it tg c elt ρ=ξ (.own ((xs.filter q).map f)):=by
 rw [a8o,h1,AR,if_pos (by rw [AX,sizeLine_eq];exact h2),a3M h,AR]
theorem a6d{ps:List PV}{n:Nat}(h:∀p∈ps,p6 p n=true):x4 ps n=true:=by
 induction ps with
 |nil=>rfl
 |cons p ps ih=>simp [x4,h p Aa,ih λq hq=>h q (AY _ hq)]
section
open PySem.AutoSeq1 (wpAny_loadPart')
variable {A:AK}{s:AC}
end
section
variable {X:Cx}{pins:List (AA×Obj)}{σ:L2.St}{H:Hp}{s:AC}
end
section
variable {X:Cx}
end
section
variable {prog:AJ}{w:AI}{A:AK}{R:Result->AC->Prop}{I:AA}{fp wr:List AA}{n:Nat}{P:Nat->AB->Prop}{St:Nat->Heap->Prop}
end
section
variable {prog:AJ}{w:AI}{A:AK}{E:AB->AC->Prop}{s:AC}
end
section
variable {X:Cx}
end
end PU
namespace TS
open PySem PyProof.Rows
section
variable {prog:AJ}{w:AI}{A:AK}{E:AB->AC->Prop}{s:AC}
variable {κ:SortKind}{S:Keyed->Prop}{R:Keyed->Keyed->Bool}
end
section
variable {prog:AJ}{w:AI}{A:AK}{E:AB->AC->Prop}{s:AC}
variable {κ:SortKind}{S:Keyed->Prop}{R:Keyed->Keyed->Bool}{a₀:Array Keyed}
end
section
variable {R:Keyed->Keyed->Bool}{W out la lb xs:List Keyed}
end
section
variable {prog:AJ}{w:AI}{A:AK}{E:AB->AC->Prop}{s:AC}
variable {κ:SortKind}{S:Keyed->Prop}{R:Keyed->Keyed->Bool}
section
variable {a b o:Array Keyed}{st st':SortSt}{i j mg u v x₀ x:Nat}
end
section
variable {a b:Array Keyed}{st st':SortSt}{x₀ x mg:Nat}
end
end
section
variable {R:Keyed->Keyed->Bool}{W out la lb xs:List Keyed}
end
section
variable {prog:AJ}{w:AI}{A:AK}{E:AB->AC->Prop}{s:AC}
variable {κ:SortKind}{S:Keyed->Prop}{R:Keyed->Keyed->Bool}
section
variable {a b o:Array Keyed}{st st':SortSt}{i j mg u v x₀ x:Nat}
end
section
variable {a b:Array Keyed}{st st':SortSt}{x₀ x mg:Nat}
end
end
section
variable {prog:AJ}{w:AI}{A:AK}{E:AB->AC->Prop}{s:AC}
variable {κ:SortKind}{S:Keyed->Prop}{R:Keyed->Keyed->Bool}{a₀:Array Keyed}
end
section
variable {R:Keyed->Keyed->Bool}{a b:Array Keyed}
end
section
variable {prog:AJ}{w:AI}{A:AK}{E:AB->AC->Prop}{s:AC}
variable {κ:SortKind}{S:Keyed->Prop}{R:Keyed->Keyed->Bool}{a₀:Array Keyed}
end
open PySem PySem.Spec PyProof.Rows
section
variable {prog:AJ}{w:AI}{A:AK}{E:AB->AC->Prop}{s:AC}
variable {κ:SortKind}{S:Keyed->Prop}{R:Keyed->Keyed->Bool}
end
open PySem PySem.Spec PyProof.Rows L2 PU
section
variable {prog:AJ}{w:AI}{A:AK}{E:AB->AC->Prop}{s:AC}
variable {κ:SortKind}{S:Keyed->Prop}{R:Keyed->Keyed->Bool}
end
end TS
namespace PU
open PySem PySem.Spec PyProof.Rows L2
section
variable {α:Type}{lt:α->α->Bool}
end
open PySem PySem.Spec PyProof.Rows L2 PySem.W
section
variable {prog:AJ}{w:AI}{A:AK}{E:AB->AC->Prop}{s:AC}
end
section
variable {X:Cx}{pins:List (AA×Obj)}{σ:L2.St}{F H:Hp}{s:AC}
end
section
variable {X:Cx}
end
section
variable {prog:AJ}{w:AI}{A:AK}{E:AB->AC->Prop}{s:AC}{it d:AA}{i ep:Nat}{es:Array DictEntry}
end
end PU
namespace TS
open PySem PySem.Spec PyProof.Rows L2 PU
section
variable {prog:AJ}{w:AI}{A:AK}{E:AB->AC->Prop}{s:AC}
variable {κ:SortKind}{S:Keyed->Prop}{R:Keyed->Keyed->Bool}
end
end TS
namespace PU
open PySem PySem.Spec PyProof.Rows L2 PySem.W
section
variable {prog:AJ}{w:AI}{A:AK}{E:AB->AC->Prop}{s:AC}
end
section
variable {X:Cx}
end
open PySem PySem.Spec PyProof.Rows L2
section
variable {X:Cx}{pins:List (AA×Obj)}{σ:L2.St}{H:Hp}{s:AC}{a b:AA}{kvs:List (List n5×V)}{k:List n5}{v:V}{r:AB}{A:AK}{E:AB->AC->Prop}
end
section
variable {X:Cx}
end
def drp(F:Hp)(a:AA):Hp:=λb=>if b=a then ζ else F b
theorem U3{F:Hp}{a b:AA}(h:b≠a):drp F a b=F b:=by unfold drp;rw [if_neg h]
theorem a0M{F:Hp}{a:AA}:drp F a a=ζ:=by unfold drp;rw [if_pos rfl]
section
variable {K:AE}{F:Hp}{a:AA}{xs:List V}
theorem a6a{b:AA}(h:F b=ζ):drp F a b=ζ:=by
 unfold drp;split
 ·rfl
 ·exact h
end
section
variable {X:Cx}
end
section
variable {X:Cx}{tg:AF}
end
section
variable {prog:AJ}{w:AI}{A:AK}{E:AB->AC->Prop}{s:AC}
end
section
variable {X:Cx}{pins:List (AA×Obj)}{σ:L2.St}{A:AK}{R:Result->AC->Prop}
end
section
variable {X:Cx}
end
open Builtin Builtin.Str
section
variable {prog:AJ}{w:AI}{A:AK}{E:AB->AC->Prop}{s:AC}{x y:Str}{t u:Tok}{Q:AB->AC->Prop}
end
section
variable {X:Cx}
def b3y(x:c6):Option c6:=match x with
 | .v (.int i)=>if i.natAbs.log2<1920 then ξ (.v (.str (AD (toString i)))) else ζ
 |_=>ζ
theorem b8t:M5 X (.type "str") (rC1 X.K b3y):=by
 ext e
 obtain⟨u,rfl,ru⟩:=a4q rv;unfold b3y at h2;split at h2
 ·rename_i i;split at h2
  ·rename_i c;cases h2;cases h1;obtain⟨t,rfl⟩:=ru;exact PySem.P.str_of_int c ⟨.str _,H,I.tok _,⟨_,rfl⟩,k _ F H (u6.here s0 rfl)⟩
  ·cases h2
 ·cases h2
end
structure Chg(fs ex:List AA)(h h':Heap):Prop where
 keep:∀b o,h.get? b=ξ o->b∉fs->b∉ex->h'.get? b=ξ o
 slot:∀b o,h.get? b=ξ o->b∈fs->b∉ex->∃sl,h'.get? b=ξ {o with slots:=sl}
 size:h.objs.size<=h'.objs.size
structure ExT(h:Heap)(e C T:AA)(fl:AB)(dd:Option AA):Prop where
 obj:∃oe vs,h.get? e=ξ oe/\oe.cls= .ref C/\oe.data= .fields vs/\vs[1]?=ξ (.ref T)/\oe.dict=dd
 ne:T≠e
 tb:∃oT ts,h.get? T=ξ oT/\oT.data= .fields ts/\ts[3]?=ξ fl
def Ex0(h:Heap)(e C:AA)(dd:Option AA):Prop:=∃oe vs,h.get? e=ξ oe/\oe.cls= .ref C/\oe.data= .fields vs/\vs[1]?=ξ .none/\oe.dict=dd
theorem b3k(f:Array AB->Array AB)(o:Obj):(Obj.mapFields f o).dict=o.dict:=by
 obtain⟨c,d,dt,sl⟩:=o;cases dt<;>rfl
section
variable {M:Model}{A:AK}{E:AB->AC->Prop}{s:AC}{base:Heap}{env:Env}{outer:List Env}{L e C:AA}{dd:Option AA}
theorem a8p{oe:Obj}{vs:Array AB}{head:AB}{hadNext:Bool}{Q:Unit->AC->Prop}(hfr:A.frames=ξ (env::outer))(hl:s.heap.FunFrames base (env::outer))(hf:env.frame=ξ L)
 (he:s.heap.get? e=ξ oe) (hc:oe.cls= .ref C) (hd:oe.data= .fields vs) (hdn:oe.dict=dd) (hsz:1<vs.size)
 (k:∀T h',s.heap.objs.size<=T->ExT h' e C T (rawInt L) dd->Chg ((env::outer).filterMap (·.frame)) [e] s.heap h'->Q () {s with heap:=h'}):
 AH M A (do let a<-frameOf env;let pl<-entryPlaceOf L hadNext;let b<-EntryCells.newEntry head a .none (rawInt L) .none pl;setField (.ref e) 1 b) Q E s:=by
 have hef:e∉(env::outer).filterMap (·.frame):=λhm=>by
  obtain⟨_,o,ho,hnf⟩:=hl.mem hm;rw [he] at ho;cases ho;exact hnf vs hd
 refine AG (wpAny_frameOf_fun hfr hl hf λh₁ hs₁=> ?_)
 refine AG (wpAny_entryPlaceOf λpl hpl=> ?_)
 unfold EntryCells.newEntry newFields
 refine AG (wpAny_newObj_type ?_ (hpl.sizeOk5 _ _ _ _ _))
 generalize hT:({cls:= .type "traceback",dict:=ζ,data:= .fields ([head,.ref L,.none,rawInt L,.none]++(if pl.isEmpty then AO 6 Value.none else pl)).toArray}:Obj)=oT
 have he₁:h₁.get? e=ξ oe:=(hs₁.2.1 e hef).trans he
 have he₂:=AV (h:=h₁) oT he₁
 have hTe:h₁.objs.size≠e:=Nat.ne_of_gt (AT he₁)
 have hd₃:=Obj.data_mapFields hd (·.setIfInBounds 1 (Value.ref h₁.objs.size))
 have he₃:=Heap.get?_update_self (Obj.mapFields (·.setIfInBounds 1 (Value.ref h₁.objs.size))) he₂ (Obj.isFreed_of_fields hd₃)
 have oth:∀b o,b≠e->h₁.get? b=ξ o->((h₁.push oT).update e (Obj.mapFields (·.setIfInBounds 1 (Value.ref h₁.objs.size)))).get? b=ξ o:=λb o hb hbo=>by
  rw [Heap.get?_update_other _ _ (Ne.symm hb)];exact AV _ hbo
 have hT3:((h₁.push oT).update e (Obj.mapFields (·.setIfInBounds 1 (Value.ref h₁.objs.size)))).get? h₁.objs.size=ξ oT:=by
  rw [Heap.get?_update_other _ _ (Ne.symm hTe)];exact Ak h₁ (by rw [<-hT];rfl)
 refine wpAny_setField he₂ hd hsz (k h₁.objs.size _ (Nat.le_of_eq hs₁.1.symm) ⟨⟨_,_,he₃,(Obj.cls_mapFields _ _).trans hc,hd₃,by simp [hsz],(b3k _ _).trans hdn⟩,hTe,oT,_,hT3,by rw [<-hT], ?_⟩ ⟨λb o hb hbf hbe=> ?_,λb o hb hbf hbe=> ?_, ?_⟩)
 ·rcases hpl with rfl|⟨_,_,_,_,_,_,_,rfl⟩<;>simp
 ·exact oth b o (λz=>hbe (by rw [z];exact List.mem_singleton.mpr rfl)) ((hs₁.2.1 b hbf).trans hb)
 ·obtain⟨sl,hs⟩:=hs₁.2.2 b o hb
  exact⟨sl,oth b _ (λz=>hbe (by rw [z];exact List.mem_singleton.mpr rfl)) hs⟩
 ·rw [Heap.size_update,Heap.size_push,hs₁.1];lia
theorem b1M{Q:Unit->AC->Prop}(hfr:A.frames=ξ (env::outer))(hl:s.heap.FunFrames base (env::outer))(hf:env.frame=ξ L)(x:Ex0 s.heap e C dd)
 (k:∀T h',s.heap.objs.size<=T->ExT h' e C T (rawInt L) dd->Chg ((env::outer).filterMap (·.frame)) [e] s.heap h'->Q () {s with heap:=h'}):AH M A (noteFrame (.ref e) env) Q E s:=by
 obtain⟨oe,vs,he,hc,hd,h1,hdn⟩:=x
 unfold noteFrame
 simp only [hf]
 refine AG (wpAny_field he hd h1 ?_)
 rw [if_neg (by decide)]
 exact a8p hfr hl hf he hc hd hdn (Array.getElem?_eq_some_iff.mp h1).1 k
theorem a1T{fl:AB}{T:AA}{Q:Unit->AC->Prop}(x:ExT s.heap e C T fl dd)(fr:Option AA)(k:∀h',ExT h' e C T (fr.elim .none λf=>rawInt f) dd->Chg [] [T] s.heap h'->h'.objs.size=s.heap.objs.size->Q () {s with heap:=h'}):AH M A (setFlight (.ref e) fr) Q E s:=by
 obtain⟨⟨oe,vs,he,hc,hd,h1,hdn⟩,hne,oT,ts,hT,hdT,h3⟩:=x;have hsz:=(Array.getElem?_eq_some_iff.mp h3).1;unfold setFlight;refine AG (wpAny_field he hd h1 ?_);rw [if_pos (show(Value.ref T !=Value.none)=true from by simp)]
 refine wpAny_setField hT hdT hsz (k _ ⟨⟨oe,vs, ?_,hc,hd,h1,hdn⟩,hne,_,_,Heap.get?_update_self _ hT (Obj.isFreed_of_fields (Obj.data_mapFields hdT _)),Obj.data_mapFields hdT _,by simp [hsz]⟩ ⟨λb o hb _ hbe=> ?_,(λb o _ hb=>nomatch hb), ?_⟩ ?_)
 ·rw [Heap.get?_update_other _ _ hne];exact he
 ·rw [Heap.get?_update_other _ _ (λz=>hbe (by rw [<-z];exact List.mem_singleton.mpr rfl))];exact hb
 ·rw [Heap.size_update];exact AQ _
 ·rw [Heap.size_update]
theorem Chg.trans{fs ex ex':List AA}{h h1 h2:Heap}(x:Chg fs ex h h1)(y:Chg fs ex' h1 h2):Chg fs (ex++ex') h h2 where
 keep:=λb o e hf hx=>y.keep b o (x.keep b o e hf λz=>hx (Ay _ z)) hf λz=>hx (Al _ z)
 slot:=λb o e hf hx=>by
  obtain⟨sl,e1⟩:=x.slot b o e hf λz=>hx (Ay _ z);obtain⟨sl2,e2⟩:=y.slot b {o with slots:=sl} e1 hf λz=>hx (Al _ z)
  exact⟨sl2,e2⟩
 size:=Nat.le_trans x.size y.size
theorem Chg.more{fs fs' ex ex':List AA}{h h':Heap}(x:Chg fs ex h h')(hf:∀b∈fs,b∈fs')(he:∀b∈ex,b∈ex'):Chg fs' ex' h h' where
 keep:=λb o e h1 h2=>x.keep b o e (λz=>h1 (hf b z)) λz=>h2 (he b z)
 slot:=λb o e h1 h2=>by
  by_cases hb:b∈fs
  ·exact x.slot b o e hb λz=>h2 (he b z)
  ·exact⟨o.slots,x.keep b o e hb λz=>h2 (he b z)⟩
 size:=x.size
theorem Chg.funs{fs ex:List AA}{h h':Heap}{l:List Env}(x:Chg fs ex h h')(hl:h.FunFrames base l)(hx:∀b∈ex,∀o,h.get? b=ξ o->∃vs,o.data= .fields vs):h'.FunFrames base l:=
 hl.of_keeps λb o hb hnf=>by
  have hbx:b∉ex:=λz=>by
   obtain⟨vs,hd⟩:=hx b z o hb;exact hnf vs hd
  by_cases hbf:b∈fs
  ·obtain⟨sl,e⟩:=x.slot b o hb hbf hbx;exact⟨_,e,rfl⟩
  ·exact⟨o,x.keep b o hb hbf hbx,rfl⟩
theorem a2z{fl:AB}{T:AA}{Q:Unit->AC->Prop}(hfr:A.frames=ξ (env::outer))(hl:s.heap.FunFrames base (env::outer))(hf:env.frame=ξ L)(x:ExT s.heap e C T fl dd)(hne:fl≠rawInt L)
 (k:∀T' h',s.heap.objs.size<=T'->ExT h' e C T' (rawInt L) dd->Chg ((env::outer).filterMap (·.frame)) [T,e] s.heap h'->Q () {s with heap:=h'}):AH M A (noteFrame (.ref e) env) Q E s:=by
 obtain⟨⟨oe,vs,he,hc,hd,h1,hdn⟩,hTe,oT,ts,hT,hdT,h3⟩:=x
 have hsz:=(Array.getElem?_eq_some_iff.mp h3).1
 unfold noteFrame
 simp only [hf]
 refine AG (wpAny_field he hd h1 ?_)
 rw [if_pos (show(Value.ref T !=Value.none)=true from by simp)]
 refine AG (wpAny_field hT hdT h3 ?_)
 rw [if_neg (by simpa using hne)]
 refine AG (wpAny_setField hT hdT hsz ?_)
 have c1:Chg ((env::outer).filterMap (·.frame)) [T] s.heap (s.heap.update T (Obj.mapFields (·.setIfInBounds 3 Value.none))):=⟨λb o hb _ hbe=>by
  rw [Heap.get?_update_other _ _ (λz=>hbe (by rw [<-z];exact List.mem_singleton.mpr rfl))];exact hb,λb o hb _ hbe=>⟨o.slots,by
  rw [Heap.get?_update_other _ _ (λz=>hbe (by rw [<-z];exact List.mem_singleton.mpr rfl))];exact hb⟩,by rw [Heap.size_update];exact AQ _⟩
 have hl':=c1.funs hl λb hb o ho=>by
  rw [List.mem_singleton.mp hb,hT] at ho;cases ho;exact⟨ts,hdT⟩
 refine a8p (s:={s with heap:=s.heap.update T (Obj.mapFields (·.setIfInBounds 3 Value.none))}) hfr hl' hf (by rw [Heap.get?_update_other _ _ hTe];exact he) hc hd hdn (Array.getElem?_eq_some_iff.mp h1).1 λT' h' hT' x' c'=>k T' h' ?_ x' (c1.trans c')
 have:(s.heap.update T (Obj.mapFields (·.setIfInBounds 3 Value.none))).objs.size=s.heap.objs.size:=Heap.size_update ..
 rw [<-this];exact hT'
end
def CX1(P:AJ)(w:AI):CXT:=λouter H s E e s'=>∃a C T dd H',e= .ref a/\s'.os=s.os/\AllBare s'.gens/\Un (frs outer) [] H H' s.heap s'.heap/\HOk P w H' s'.heap/\
 s.heap.get? a=ζ/\s.heap.get? T=ζ/\H' a=ζ/\H' T=ζ/\ExT s'.heap a C T .none dd/\E (.ref C) dd H'
theorem ExT.thereT{h:Heap}{e C T:AA}{fl:AB}{dd:Option AA}(x:ExT h e C T fl dd):∃o,h.get? T=ξ o:=by obtain⟨o,_,h1,_⟩:=x.tb;exact⟨o,h1⟩
theorem a5N{P:AJ}{w:AI}{H:Hp}{h h':Heap}{fs ex:List AA}(x:HOk P w H h)(c:Chg fs ex h h')(hf:∀b∈fs,H b=ζ)(he:∀b∈ex,H b=ζ):HOk P w H h':=λa o e=>
 (x a o e).stay (λb u hb q=>by
  have hn:∃z,H b=ξ z:=by
   rcases hb with rfl|hb
   ·exact⟨_,e⟩
   ·exact⟨_,hb⟩
  obtain⟨z,hz⟩:=hn;exact c.keep b u q (λm=>by rw [hf b m] at hz;cases hz) λm=>by rw [he b m] at hz;cases hz) (λ_ q=>q) λ_ _ q=>q
theorem b2b{fs ex fs':List AA}{H H1:Hp}{h h1 h2:Heap}(u:Un fs [] H H1 h h1)(c:Chg fs' ex h1 h2)(hfs:∀b∈fs',b∈fs\/h.objs.size<=b)(hex:∀b∈ex,h.get? b=ζ):Un fs [] H H1 h h2 where
 keep:=λb o e hn hf hx=>by
  have hlt:b<h.objs.size:=AT e;refine c.keep b o (u.keep b o e hn hf hx) (λm=> ?_) λm=>by rw [hex b m] at e;cases e
  rcases hfs b m with h|h
  ·exact hf h
  ·exact Nat.lt_irrefl _ (Ai hlt h)
 slot:=λb o e hn hf hx=>by
  have hlt:b<h.objs.size:=AT e;obtain⟨sl,e1⟩:=u.slot b o e hn hf hx
  by_cases hb:b∈fs'
  ·obtain⟨sl2,e2⟩:=c.slot b {o with slots:=sl} e1 hb λm=>by rw [hex b m] at e;cases e
   exact⟨sl2,e2⟩
  ·exact⟨sl,c.keep b _ e1 hb λm=>by rw [hex b m] at e;cases e⟩
 free:=u.free
 there:=λb o e hx=>by
  obtain⟨o1,e1⟩:=u.there b o e hx
  by_cases hb:b∈ex
  ·rw [hex b hb] at e;cases e
  ·by_cases hb2:b∈fs'
   ·obtain⟨sl,e2⟩:=c.slot b o1 e1 hb2 hb;exact⟨_,e2⟩
   ·exact⟨_,c.keep b o1 e1 hb2 hb⟩
 tups:=u.tups
 frzs:=u.frzs
 tbls:=u.tbls
section
variable {P:AJ}{w:AI}{K:AE}{mg:Str->Option AB}{base:Heap}{N:List Str}{qual:Str}{scope:Scope}{f:AA}{cd:AB}{A:AK}{outer:List Env}{s:AC}{H:Hp}{E:XK}
theorem U1{pins:List (AA×Obj)}{σ:L2.St}{H2:Hp}{s2:AC}{a C:AA}{dd:Option AA}(I:g9 (P4 (CX1 P w) P w K mg base N qual scope f cd A outer s H E) pins σ H2 s2)(x:Ex0 s2.heap a C dd)(ha:s.heap.get? a=ζ)(hn:H2 a=ζ)(hE:E (.ref C) dd H2):
 (P4 (CX1 P w) P w K mg base N qual scope f cd A outer s H E).xe (.ref a) s2:=by
 show AH (model P w) _ (leaving (envOfC qual scope s.heap.objs.size f cd) (.ref a)) _ _ s2
 unfold leaving
 have hfree:∀b∈(envOfC qual scope s.heap.objs.size f cd::outer).filterMap (·.frame),H2 b=ζ:=I.stkFree
 refine AG (b1M I.ok.frames I.stack rfl x λT h1 hT x1 c1=> ?_)
 refine a1T x1 ζ λh2 x2 c2 _=> ?_
 have hTn:H2 T=ζ:=I.hok.fresh hT
 have c:Chg ((envOfC qual scope s.heap.objs.size f cd::outer).filterMap (·.frame)) ([a]++[T]) s2.heap h2:=c1.trans (c2.more (λb hb=>nomatch hb) λb hb=>hb)
 have hsz:s.heap.objs.size<=s2.heap.objs.size:=I.sz
 have hex:∀b∈[a]++[T],s.heap.get? b=ζ:=λb hb=>by
  rcases An.mp hb with h|h<;>rw [List.mem_singleton.mp h]
  ·exact ha
  ·exact Heap.get?_none_of_le (Nat.le_trans hsz hT)
 refine⟨a,C,T,dd,H2,rfl,I.os,I.bare,b2b I.base c (λb hb=> ?_) hex,a5N I.hok c hfree λb hb=> ?_,ha,Heap.get?_none_of_le (Nat.le_trans hsz hT),hn,hTn,x2,hE⟩
 ·rcases Ag.mp (I.stkSub b hb) with h|h
  ·exact .inr (by rw [h];exact I.ok.above)
  ·exact .inl h
 ·rcases An.mp hb with h|h<;>rw [List.mem_singleton.mp h]
  ·exact hn
  ·exact hTn
theorem a6y:a1z (CX1 P w) (P4 (CX1 P w) P w K mg base N qual scope f cd A outer s H E) E:=by
 intro pins σ H1 s1 e s' I h;obtain⟨a,C,T,dd,H2,rfl,ho,hb,un,hok,ha,hT,hn,hTn,x,hE⟩:=h;have J:g9 (P4 (CX1 P w) P w K mg base N qual scope f cd A outer s H E) pins σ H2 s':=I.call' (ch:=[]) ho un hok hb λb z=>nomatch z
 ext n
 refine AG (a2z J.ok.frames J.stack rfl x (by simp [rawInt]) λT' h1 hT' x1 c1=> ?_)
 refine a1T x1 ζ λh2 x2 c2 _=> ?_;have hTn':H2 T'=ζ:=J.hok.fresh hT';have c:Chg ((envOfC qual scope s.heap.objs.size f cd::outer).filterMap (·.frame)) ([T,a]++[T']) s'.heap h2:=c1.trans (c2.more (λb hb=>nomatch hb) λb hb=>hb);have hsz:s.heap.objs.size<=s'.heap.objs.size:=J.sz;have back:∀b,s1.heap.get? b=ζ->s.heap.get? b=ζ:=λb hb=>by
  cases h:s.heap.get? b with
  |none=>rfl
  |some o=>
   obtain⟨o',e⟩:=I.base.there b o h (λz=>nomatch z);rw [hb] at e;cases e
 have mem:∀b∈[T,a]++[T'],b=T\/b=a\/b=T':=λb hb=>by simpa using hb
 obtain⟨oT,hoT⟩:=x.thereT;refine⟨a,C,T',dd,H2,rfl,J.os,J.bare,b2b J.base c (λb hb=> ?_) (λb hb=> ?_),a5N J.hok c hfree λb hb=> ?_,back a ha,Heap.get?_none_of_le (Nat.le_trans hsz hT'),hn,hTn',x2,hE⟩
 ·rcases Ag.mp (J.stkSub b hb) with h|h
  ·exact .inr (by rw [h];exact J.ok.above)
  ·exact .inl h
 ·rcases mem b hb with rfl|rfl|rfl
  ·exact back _ hT
  ·exact back _ ha
  ·exact Heap.get?_none_of_le (Nat.le_trans hsz hT')
 ·rcases mem b hb with rfl|rfl|rfl
  ·exact hTn
  ·exact hn
  ·exact hTn'
end
theorem b05{P:AJ}{w:AI}{H:Hp}{h:Heap}{a:AA}:∀{o:HO},C7 P w H h a o->∃ob,h.get? a=ξ ob
 | .lst _,⟨_,_,_,_,e⟩=>⟨_,e⟩
 | .tup _,⟨_,_,_,o,e,_⟩=>⟨_,e⟩
 | .dK _,⟨_,_,_,_,o,_,_,e,_⟩=>⟨_,e⟩
 | .dT _,⟨_,_,_,_,o,_,_,e,_⟩=>⟨_,e⟩
 | .set _ _,⟨o,_,_,_,e,_⟩=>⟨_,e⟩
 | .ins _ _ _,⟨_,_,_,e,_⟩=>⟨_,e⟩
 | .own _,⟨_,e⟩=>⟨_,e⟩
 | .xd _,⟨_,⟨_,_,_,e,_⟩,_⟩=>⟨_,e⟩
 | .rng _ _,⟨_,_,_,e⟩=>⟨_,e⟩
 | .frz _ _,⟨e,_⟩=>⟨_,e⟩
 | .tbl _,e=>⟨_,e⟩
 | .met _ _,e=>⟨_,e⟩
 | .ext _,⟨_,e,_⟩=>e
def a7A:List AB:=[.type "ValueError",.type "Exception",.type "BaseException",.type "object"]
def b4j(C:AA)(h:Heap):Prop:=∃tl N nm q bs hdct sn sub ab col dd k0 k1 k2 k3 k5,
 h.get? C=ξ (excClassObj nm q C N bs tl hdct sn sub ab col dd k0 k1 k2 k3 k5 "ValueError.__new__")/\OwnTail h a7A tl
section
variable {X:Cx}{x:Str}{C:AA}{np cpos pos:Pos}{e₀:AF}{rest:List AF}{t:TA}{W:Hp->Prop}
end
theorem b7M{fs ex0 ex fs':List AA}{H H1:Hp}{h h1 h2:Heap}(u:Un fs ex0 H H1 h h1)(c:Chg fs' ex h1 h2)(hfs:∀b∈fs',b∈fs\/h.objs.size<=b)(hex:∀b∈ex,h.get? b=ζ):Un fs ex0 H H1 h h2 where
 keep:=λb o e hn hf hx=>by
  have hlt:b<h.objs.size:=AT e;refine c.keep b o (u.keep b o e hn hf hx) (λm=> ?_) λm=>by rw [hex b m] at e;cases e
  rcases hfs b m with h|h
  ·exact hf h
  ·exact Nat.lt_irrefl _ (Ai hlt h)
 slot:=λb o e hn hf hx=>by
  obtain⟨sl,e1⟩:=u.slot b o e hn hf hx
  by_cases hb:b∈fs'
  ·obtain⟨sl2,e2⟩:=c.slot b {o with slots:=sl} e1 hb λm=>by rw [hex b m] at e;cases e
   exact⟨sl2,e2⟩
  ·exact⟨sl,c.keep b _ e1 hb λm=>by rw [hex b m] at e;cases e⟩
 free:=u.free
 there:=λb o e hx=>by
  obtain⟨o1,e1⟩:=u.there b o e hx
  by_cases hb:b∈ex
  ·rw [hex b hb] at e;cases e
  ·by_cases hb2:b∈fs'
   ·obtain⟨sl,e2⟩:=c.slot b o1 e1 hb2 hb;exact⟨_,e2⟩
   ·exact⟨_,c.keep b o1 e1 hb2 hb⟩
 tups:=u.tups
 frzs:=u.frzs
 tbls:=u.tbls
theorem Chg.any{fs ex:List AA}{h h':Heap}(c:Chg fs ex h h'){b:AA}{o:Obj}(e:h.get? b=ξ o)(hb:b∉ex):∃sl,h'.get? b=ξ {o with slots:=sl}:=by
 by_cases hf:b∈fs
 ·exact c.slot b o e hf hb
 ·exact⟨o.slots,c.keep b o e hf hb⟩
section
variable {X:Cx}{pins:List (AA×Obj)}{σ:L2.St}{H:Hp}{s:AC}
theorem g9.chg{h':Heap}{ex:List AA}(I:g9 X pins σ H s)(c:Chg (frs X.stack) ex s.heap h')(h0:∀b∈ex,X.s₀.heap.get? b=ζ)(hn:∀b∈ex,H b=ζ)
 (hL:∀b∈ex,b≠X.env.locals) (hc:∀b∈ex,∀x z,X.env.cells.lookup x=ξ z->z≠b) (hp:∀b∈ex,∀p∈X.pn++pins,p.1≠b):g9 X pins σ H {s with heap:=h'} where
 ok:=I.ok
 os:=I.os
 bare:=I.bare
 base:=b7M I.base c (λb hb=>by
  rcases Ag.mp (I.stkSub b hb) with h|h
  ·exact .inr (by rw [h];exact I.ok.above)
  ·exact .inl h) h0
 loc:=by
  obtain⟨m,⟨o,es,ep,ho,hd,r⟩,hm⟩:=I.loc;obtain⟨sl,e⟩:=c.any ho λz=>hL _ z rfl;refine⟨m,⟨_,es,ep,e,hd,r⟩,λi x v h1 h2 h3=> ?_⟩;obtain⟨u,ru,hk⟩:=hm i x v h1 h2 h3;refine⟨u,ru, ?_⟩;rcases hk with hk|⟨hk,z,hz,oz,hoz,hdz⟩
  ·exact .inl hk
  ·obtain⟨sl2,e2⟩:=c.any hoz λm=>hc _ m x z hz rfl;exact .inr ⟨hk,z,hz,_,e2,hdz⟩
 cell:=λx z hz=>by
  obtain⟨v,oz,hoz,hdz⟩:=I.cell x z hz;obtain⟨sl2,e2⟩:=c.any hoz λm=>hc _ m x z hz rfl;exact⟨v,_,e2,hdz⟩
 free:=I.free
 freeC:=I.freeC
 pin:=λp hpm=>by
  obtain⟨h1,h2,h3,h4,h5⟩:=I.pin p hpm;refine⟨c.keep _ _ h1 (λm=> ?_) λm=>hp _ m p hpm rfl,h2,h3,h4,h5⟩;rcases Ag.mp (I.stkSub _ m) with h|h
  ·exact h3 h
  ·exact h4 h
 hok:=a5N I.hok c (λb hb=>I.stkFree b hb) hn
 len:=I.len
end
structure XT where
 cls:Str
 fs:List (PV×PV)
def XF(K:AE)(F:Hp)(fs:List (PV×PV))(dd:Option AA):Prop:=(fs=[]/\dd=ζ)\/∃d vs,dd=ξ d/\F d=ξ (.xd vs)/\fs≠[]/\a0J K F fs vs
inductive FX where
 |fl (f:Fl)|rz (c:XT) (ρ:b0)
abbrev MX:=b0->Option FX
def a2C(K:AE)(mg:Str->Option AB)(E:L2.St->XK)(F0 H0 F:Hp)(σ0:L2.St)(D:O7):FX->Prop
 | .fl f=>Fin K F0 H0 F D f
 | .rz c ρ=>∃C,mg c.cls=ξ (.ref C)/\∀σ dd F' H',j2 F F'->SOk K F0 H0 F' H' σ ρ->XF K F' c.fs dd->E σ (.ref C) dd H'
theorem a2C.later{K:AE}{mg:Str->Option AB}{E:L2.St->XK}{F0 H0 F F1:Hp}{σ0 σ1:L2.St}{D:O7}(s:j2 F F1):∀{fx:FX},a2C K mg E F0 H0 F σ0 D fx->a2C K mg E F0 H0 F1 σ1 D fx
 | .fl _,h=>Fin.later s h
 | .rz _ _,⟨C,h1,h2⟩=>⟨C,h1,λσ a F' H' s' so hn=>h2 σ a F' H' (s.trans s') so hn⟩
def tMX(K:AE)(mg:Str->Option AB)(E:L2.St->XK)(m:MX):TS:=λD σ H=>∃F0 H0 F ρ fx,SOk K F0 H0 F H σ ρ/\m ρ=ξ fx/\a2C K mg E F0 H0 F σ D fx
theorem a2m{K:AE}{mg:Str->Option AB}{E:L2.St->XK}{m:MX}{D:O7}{σ:L2.St}{H:Hp}{C:Prop}(h:tMX K mg E m D σ H)(k:∀F0 H0 F ρ fx,SOk K F0 H0 F H σ ρ->m ρ=ξ fx->a2C K mg E F0 H0 F σ D fx->C):C:=
 h.elim λa h=>h.elim λb h=>n8 h (k a b)
abbrev EX(X:Cx)(E:L2.St->XK)(st:Stmt)(m:MX):Prop:=PS X st (tMX X.K X.mg E m)
abbrev EXs(X:Cx)(E:L2.St->XK)(st:List Stmt)(m:MX):Prop:=PSs X st (tMX X.K X.mg E m)
def Q6(m:MS):MX:=λρ=>(m ρ).map .fl
def D9(m n:MX):MX:=λρ=>(m ρ).bind λfx=>match fx with
 | .fl (.nx ρ')=>n ρ'
 |f=>ξ f
def a2I(c:MT)(m n:MX):MX:=λρ=>(c ρ).bind λb=>if b=true then m ρ else n ρ
section
variable {X:Cx}{E:L2.St->XK}
theorem b8j{m:MS}{D:O7}{σ:L2.St}{H:Hp}(h:tMX X.K X.mg E (Q6 m) D σ H):tMS X.K m D σ H:=by
 obtain⟨F0,H0,F,ρ,fx,so,e,fin⟩:=h;unfold Q6 at e;cases hm:m ρ with
 |none=>rw [hm] at e;cases e
 |some f=>rw [hm] at e;cases e;exact⟨F0,H0,F,ρ,f,so,hm,fin⟩
theorem c0d{st:Stmt}{m:MS}(h:ES X st m):EX X E st (Q6 m):=w8 h λ_ _ _ q=>b8j q
theorem b8M{st:List Stmt}{m:MS}(h:ESs X st m):EXs X E st (Q6 m):=a4b h λ_ _ _ q=>b8j q
theorem u7{st:Stmt}{m:MX}(h:EX X E st m):EXs X E [st] m:=a9z h
theorem x6{st:Stmt}{rest:List Stmt}{m n:MX}(h1:EX X E st m)(h2:EXs X E rest n):EXs X E (st::rest) (D9 m n):=
 a4b (p0 h1 h2) λD σ H h0=>a2m h0 λF0 H0 F ρ fx so e fin=>by
  obtain⟨f1,e1,e⟩:=bind_some e;cases f1 with
  |rz c ρ1=>cases e;exact⟨F0,H0,F,ρ,.rz c ρ1,so,e1,fin⟩
  |fl f=>
   cases f with
   |nx ρ'=>exact⟨F0,H0,F,ρ,.fl (.nx ρ'),so,e1,λσ' F' H' s so'=>⟨F0,H0,F',ρ',fx,so',e,fin.later s⟩⟩
   |rt r=>cases e;exact⟨F0,H0,F,ρ,_,so,e1,fin⟩
   |bk r=>cases e;exact⟨F0,H0,F,ρ,_,so,e1,fin⟩
   |ct r=>cases e;exact⟨F0,H0,F,ρ,_,so,e1,fin⟩
theorem a6g{c:AF}{a b:List Stmt}{mc:MT}{m n:MX}{pos:Pos}(hc:ET X c mc)(ha:EXs X E a m)(hb:EXs X E b n):EX X E (.If c a b pos) (a2I mc m n):=
 w8 (b5G hc ha hb) λD σ H h0=>a2m h0 λF0 H0 F ρ fx so e fin=>by
  obtain⟨b,e1,e⟩:=bind_some e;refine⟨F,ρ,b,so.e,e1,λF1 H1 x=> ?_⟩;cases b with
  |true=>exact a82 ⟨F0,H0,F1,ρ,fx,so.ext x,e,fin.later x.f⟩
  |false=>exact a81 ⟨F0,H0,F1,ρ,fx,so.ext x,e,fin.later x.f⟩
end
def spX(K:AE)(mg:Str->Option AB)(n:Nat)(g:List PV->Option (c6 ⊕ XT)):Sp:=λvs H Q E=>∃F ps r,j2 F H/\j4 K F ps vs/\ps.length=n/\g ps=ξ r/\(match r with
 | .inl r=>∀v F' H',u6 K F H F' H' v r->Q v H'
 | .inr c=>∃C,mg c.cls=ξ (.ref C)/\∀dd F' H',O8 F H F' H'->XF K F' c.fs dd->E (.ref C) dd H')
def C6(CX:CXT)(X:Cx)(E:L2.St->XK):Prop:=∀(pins:List (AA×Obj)) (σ:L2.St) (H:Hp) (s:AC) (e:AB) (s':AC),g9 X pins σ H s->CX X.stack H s (E σ) e s'->X.xe e s'
section
variable {X:Cx}{E:L2.St->XK}{CX:CXT}
theorem b0y{k:Nat}{f:AA}{fd:FuncData}{ps:List Str}{sp:Sp}{x:Str}{p pos:Pos}{e:AF}{es:List AF}{t:TA}(F:G4 X.prog X.w X.K X.mg X.base CX k f fd ps sp)(hr:y0 k X.A)(hg:Gl X x)(hm:X.mg x=ξ (.ref f))(hk:PySem.W.keepIn X.K (.ref f)=true)(hb:M4 X.K fd ps [])(hx:C6 CX X E)
 (ha:PA X (e::es) t) (hdb:(x==("__debug__":Str))=false:=by decide) (he:AL (e::es) X.env=(false,eval e X.env)::AL es X.env:=by rfl) (hpl:(backTo pos (AL es X.env)).any (·.1)=false:=by rfl):
 PE X (.Call (.Name x p) (e::es) [] pos) (λσ H Q=>t σ H λvs H1=>sp vs H1 Q (E σ)):=by
 intro pins s σ H Q I h
 refine wpAny_Call_Name_kw (a0m I hg hm ?_ hdb)
 refine PySem.W.callWith_K (h₀:=X.base) I.ok.mod.kin hk (D5 (ha pos pins s σ H _ I h) λus s1 h0=>k9 h0 λvs H1 I1 r q=>⟨I1.kIn, ?_⟩) he hpl
 have hl:(us++[]).length=ps.length:=by rw [Ah,<-r.length];exact F.len _ _ _ _ q
 have hb':=hb s1 us I1.kIn hl
 rw [Ah] at hb'
 refine wpAny_call (codeAny_mono (F.run X.A X.stack s1 H1 ⟨us,[]⟩ us vs Q (E σ) hr I1.env0 hb' r q) λr s' hq=> ?_)
 cases r with
 |error e=>exact hx pins σ H1 s1 e s' I1 hq
 |ok fl=>
  cases fl with
  |ret u=>exact I1.after hq
  |next=>exact False.elim hq
  |brk=>exact False.elim hq
  |cont=>exact False.elim hq
def b2h(g:List PV->Option (c6 ⊕ XT))(m:MA):b0->Option (c6 ⊕ XT):=λρ=>(m ρ).bind g
def a1u(g:List PV->Option (c6 ⊕ XT))(m:MA):MX:=λρ=>(b2h g m ρ).bind λr=>match r with
 | .inl _=>ξ (.fl (.nx ρ))
 | .inr c=>ξ (.rz c ρ)
theorem b6l{n:Nat}{g:List PV->Option (c6 ⊕ XT)}{m:MA}{F0 H0 F H:Hp}{σ:L2.St}{ρ:b0}{Q:VK}{r:c6 ⊕ XT}(so:SOk X.K F0 H0 F H σ ρ)(hn:∀ρ ps,m ρ=ξ ps->ps.length=n)(e:b2h g m ρ=ξ r)
 (k:match r with
  | .inl r=>∀v F' H',u6 X.K F H F' H' v r->Q v H'
  | .inr c=>∃C,X.mg c.cls=ξ (.ref C)/\∀dd F' H',O8 F H F' H'->XF X.K F' c.fs dd->E σ (.ref C) dd H'):
 tMA X.K m σ H λvs H1=>spX X.K X.mg n g vs H1 Q (E σ):=by
 obtain⟨qs,e1,e2⟩:=bind_some e
 refine⟨F,ρ,qs,so.e,e1,λvs F1 H1 x rl=>⟨F1,qs,r,x.fh,rl,hn _ _ e1,e2, ?_⟩⟩
 cases r with
 |inl r=>exact λv F2 H2 o=>k v F2 H2 (u6.trans x o)
 |inr c=>
  obtain⟨C,h1,h2⟩:=k
  exact⟨C,h1,λa F2 H2 y hn=>h2 a F2 H2 (x.trans y) hn⟩
theorem b8K{k n:Nat}{f:AA}{fd:FuncData}{ps:List Str}{g:List PV->Option (c6 ⊕ XT)}{x:Str}{p pos pos2:Pos}{e:AF}{es:List AF}{m:MA}
 (G:G4 X.prog X.w X.K X.mg X.base CX k f fd ps (spX X.K X.mg n g)) (hr:y0 k X.A) (hg:Gl X x) (hm:X.mg x=ξ (.ref f)) (hk:PySem.W.keepIn X.K (.ref f)=true) (hb:M4 X.K fd ps []) (hx:C6 CX X E) (hn:∀ρ ps,m ρ=ξ ps->ps.length=n) (ha:EA X (e::es) m)
 (hs:swapsWith (.Call (.Name x p) (e::es) [] pos) ζ pos2.line X.env=pure false:=by rfl)
 (hdb:(x==("__debug__":Str))=false:=by decide) (he:AL (e::es) X.env=(false,eval e X.env)::AL es X.env:=by rfl) (hpl:(backTo pos (AL es X.env)).any (·.1)=false:=by rfl):
 EX X E (.Expr (.Call (.Name x p) (e::es) [] pos) pos2) (a1u g m):=
 w8 (a5P (b0y (E:=E) G hr hg hm hk hb hx ha hdb he hpl) hs) λD σ H h0=>a2m h0 λF0 H0 F ρ fx so e fin=>by
  ext r
  refine b6l so hn e1 ?_;cases r with
  |inl r=>cases e;exact λv F' H' o=>fin σ F' H' o.x.f (so.ext o.x)
  |inr c=>
   ext o
end
def A7(n:Nat)(body:MX)(ps:List PV):Option (c6 ⊕ XT):=(body (ps.map (λp=>ξ (c6.v p))++AO n ζ)).bind λfx=>match fx with
 | .fl (.rt r)=>ξ (.inl r)
 | .fl (.nx _)=>ξ (.inl (.v .none))
 | .rz c _=>ξ (.inr c)
 |_=>ζ
theorem b4M{P:AJ}{w:AI}{K:AE}{mg:Str->Option AB}{base:Heap}{x qual:Str}{st:Stmt}{f:AA}{fd:FuncData}{N ps:List Str}{k:Nat}{m:MX}(F:Fun K x qual st f fd)(S:g0 N ps (b5 st))
 (hb:∀(cdv:AB) (A:AK) (outer:List Env) (s:AC) (H:Hp) (E:XK),y0 k (A.deeper (envOfC qual (b5 st) s.heap.objs.size f cdv))->EXs (P4 (CX1 P w) P w K mg base N qual (b5 st) f cdv A outer s H E) (λ_=>E) (m7 st) m):
 G4 P w K mg base (CX1 P w) (k+1) f fd ps (spX K mg ps.length (A7 (N.length - ps.length) m)):=by
 obtain⟨oc,od,kV,doc,pm,an,cdv,ct,osl,rfl,lk,hcd⟩:=F.ex
 refine b71 lk hcd S (λvs H Q E h=> ?_) λA outer s H vs Q E hr h=> ?_
 ·obtain⟨_,qs,_,_,r,h2,_⟩:=h
  rw [r.length,h2]
 ·obtain⟨F1,qs,r,s1,rl,hl,e,k⟩:=h
  refine⟨_,hb cdv A outer s H E hr, ?_⟩
  unfold A7 at e
  obtain⟨fx,e1,e2⟩:=bind_some e
  have hv:vs.length=ps.length:=by rw [rl.length,hl]
  refine⟨F1,H,F1,_,fx, ?_,e1, ?_⟩
  ·have:=b0N (N.length - ps.length) s1 rl
   unfold L2.Z4
   rw [hv]
   exact this
  ·cases fx with
   |rz c ρ1=>
    cases e2
    obtain⟨C,h1,h2⟩:=k
    exact⟨C,h1,λ_ a F' H' _ so' hn=>h2 a F' H' so'.x hn⟩
   |fl f=>
    cases f with
    |rt q=>cases e2;exact λv F' H' o=>k v F' H' o
    |nx ρ=>cases e2;exact λσ' F' H' _ so=>k .non F' H' (u6.val so.x rfl)
    |bk ρ=>cases e2
    |ct ρ=>cases e2
def G7(P:AJ)(w:AI)(K:AE)(mg:Str->Option AB)(base:Heap)(x:Str)(ps:List Str)(k:Nat)(g:List PV->Option (c6 ⊕ XT)):Prop:=
 ∃f fd,G4 P w K mg base (CX1 P w) k f fd ps (spX K mg ps.length g)/\mg x=ξ (.ref f)/\PySem.W.keepIn K (.ref f)=true/\M4 K fd ps []
def left(g:List PV->Option (c6 ⊕ XT))(ps:List PV):Option c6:=(g ps).bind λr=>match r with
 | .inl r=>ξ r
 | .inr _=>ζ
section
variable {X:Cx}
theorem b9o:a1z (CX1 X.prog X.w) X E0:=λ_ _ _ _ _ _ _ h=>by
 obtain⟨_,_,_,_,_,_,_,_,_,_,_,_,_,_,_,h⟩:=h;exact False.elim h
theorem b2p{k k':Nat}{ps:List Str}{g:List PV->Option (c6 ⊕ XT)}{x:Str}{p pos:Pos}{e:AF}{es:List AF}{m:MA}
 (d:G7 X.prog X.w X.K X.mg X.base x ps k g) (hr:y0 k' X.A) (hk:k<=k') (hg:Gl X x) (hn:∀ρ qs,m ρ=ξ qs->qs.length=ps.length) (ha:EA X (e::es) m)
 (hdb:(x==("__debug__":Str))=false:=by decide) (he:AL (e::es) X.env=(false,eval e X.env)::AL es X.env:=by rfl) (hpl:(backTo pos (AL es X.env)).any (·.1)=false:=by rfl):
 EE X (.Call (.Name x p) (e::es) [] pos) (i6 (left g) m):=by
 obtain⟨f,fd,G,h1,h2,h3⟩:=d
 refine r9 (a9v G (hr.mono hk) hg h1 h2 h3 .nil b9o ha hdb he hpl) λσ H Q h0=>n8 h0 λF ρ r he hm k=> ?_
 obtain⟨qs,e1,hm⟩:=bind_some hm
 obtain⟨r',e2,hm⟩:=bind_some hm
 cases r' with
 |inr c=>cases hm
 |inl r'=>
  cases hm
  refine⟨F,ρ,qs,he,e1,λvs F1 H1 x rl=> ?_⟩
  show spX X.K X.mg ps.length g (vs++[]) H1 Q E0
  rw [Ah]
  exact⟨F1,qs,.inl r,x.fh,rl,hn _ _ e1,e2,λv F2 H2 o=>k v F2 H2 (u6.trans x o)⟩
abbrev _root_.L2.Cx.aim(X:Cx)(Y:AB->AC->Prop)(pn:List (AA×Obj)):Cx:={X with xe:=Y,pn:=pn}
theorem b4l{Y:AB->AC->Prop}{pins:List (AA×Obj)}{σ:L2.St}{H:Hp}{s:AC}(I:g9 X pins σ H s):g9 (X.aim Y (X.pn++pins)) [] σ H s:=⟨⟨I.ok.mod,I.ok.kind,I.ok.glob,I.ok.blt,I.ok.above,I.ok.inj,I.ok.has,I.ok.cab,I.ok.hd,I.ok.frames,I.ok.stk,I.ok.exf,I.ok.bs,I.ok.bsz,I.ok.noex,I.ok.exfs,I.ok.funs,I.ok.frf⟩,I.os,I.bare,I.base,I.loc,I.cell,I.free,I.freeC,λp hp=>I.pin p (by simpa using hp),I.hok,I.len⟩
theorem a2o{Y:AB->AC->Prop}{pins pins1:List (AA×Obj)}{σ:L2.St}{H:Hp}{s:AC}(I:g9 (X.aim Y (X.pn++pins)) pins1 σ H s):g9 X pins σ H s:=⟨⟨I.ok.mod,I.ok.kind,I.ok.glob,I.ok.blt,I.ok.above,I.ok.inj,I.ok.has,I.ok.cab,I.ok.hd,I.ok.frames,I.ok.stk,I.ok.exf,I.ok.bs,I.ok.bsz,I.ok.noex,I.ok.exfs,I.ok.funs,I.ok.frf⟩,I.os,I.bare,I.base,I.loc,I.cell,I.free,I.freeC,λp hp=>I.pin p (Ay _ hp),I.hok,I.len⟩
def Ap(X:Cx)(pins:List (AA×Obj))(b:AA):Prop:=X.s₀.heap.get? b=ζ/\b≠X.env.locals/\(∀x z,X.env.cells.lookup x=ξ z->z≠b)/\∀p∈X.pn++pins,p.1≠b
def Hnd(X:Cx)(hs:List ExceptHandler)(th:AA->AA->Option AA->TS):Prop:=
 ∀(pins:List (AA×Obj)) (s:AC) (σ:L2.St) (H:Hp) (D:O7) (a C T:AA) (dd:Option AA),g9 X pins σ H s->ExT s.heap a C T .none dd->H a=ζ->H T=ζ->Ap X pins a->Ap X pins T->th a C dd D σ H->
  AH (model X.prog X.w) X.A (handleBy (.ref a) X.env hs) (SP X pins D) X.xe s
theorem apart{pins:List (AA×Obj)}{σ:L2.St}{H:Hp}{s:AC}{b:AA}(I:g9 X pins σ H s)(hx0:X.ex=[])(h:s.heap.get? b=ζ):X.s₀.heap.get? b=ζ/\b≠X.env.locals/\(∀x z,X.env.cells.lookup x=ξ z->z≠b)/\∀p∈X.pn++pins,p.1≠b:=by
 refine⟨?_,λe=> ?_,λx z hz e=> ?_,λp hp e=> ?_⟩
 ·cases h0:X.s₀.heap.get? b with
  |none=>rfl
  |some o=>
   obtain⟨o',e⟩:=I.base.there b o h0 (λz=>by rw [hx0] at z;cases z)
   rw [h] at e;cases e
 ·obtain⟨m,⟨o,_,_,ho,_⟩,_⟩:=I.loc;rw [<-e,h] at ho;cases ho
 ·obtain⟨v,o,ho,_⟩:=I.cell x z hz;rw [e,h] at ho;cases ho
 ·have:=(I.pin p hp).1;rw [e,h] at this;cases this
theorem b9B{body:List Stmt}{h₀:ExceptHandler}{hs:List ExceptHandler}{pos:Pos}{tb:(L2.St->XK)->TS}{th:AA->AA->Option AA->TS}(hx0:X.ex=[])(hst:X.stack=X.env::X.outer)(hfr:X.env.frame=ξ X.env.locals)
 (hb:∀(Y:AB->AC->Prop) (pn:List (AA×Obj)) (E:L2.St->XK),C6 (CX1 X.prog X.w) (X.aim Y pn) E->PSs (X.aim Y pn) body (tb E)) (hh:Hnd X (h₀::hs) th):
 PS X (.Try body (h₀::hs) [] [] pos) (λD σ H=>tb (λσ1 v dd H1=>∃C,v= .ref C/\∀a,H1 a=ζ->th a C dd D σ1 H1) D σ H):=by
 intro pins s σ H D I h
 refine wpAny_Try_except ?_
 have key:=hb (λe s₁=>AH (model X.prog X.w) X.A (noteFrame e X.env) (λ_ s₂=>AH (model X.prog X.w) X.A (setFlight e ζ) (λ_ s₃=>AH (model X.prog X.w) X.A (handleBy e X.env (h₀::hs)) (SP X pins D) X.xe s₃) X.xe s₂) X.xe s₁) (X.pn++pins) _ ?_ [] s σ H D (b4l I) h
 ·refine D5 key λfl s1 hq=> ?_
  cases fl with
  |next=>
   obtain⟨σ',H',J,q⟩:=hq
   exact wpAny_execs_nil ⟨σ',H',a2o J,q⟩
  |brk=>obtain⟨σ',H',J,q⟩:=hq;exact⟨σ',H',a2o J,q⟩
  |cont=>obtain⟨σ',H',J,q⟩:=hq;exact⟨σ',H',a2o J,q⟩
  |ret u=>obtain⟨v,σ',H',J,r,q⟩:=hq;exact⟨v,σ',H',a2o J,r,q⟩
 ·intro pins1 σ1 H1 s1 e s' I1 hx
  obtain⟨a,C,T,dd,H2,rfl,ho,hbare,un,hok,ha,hT,hn,hTn,x,C',e1,ht⟩:=hx
  cases e1
  have J1:=I1.call' (ch:=[]) ho un hok hbare λb z=>nomatch z
  have J:g9 X pins σ1 H2 s':=a2o J1
  have J0:g9 X pins σ1 H1 s1:=a2o I1
  show AH (model X.prog X.w) X.A (noteFrame (.ref a) X.env) _ X.xe s'
  have fr:X.A.frames=ξ (X.env::X.outer):=by rw [<-hst];exact J.ok.frames
  have fn:s'.heap.FunFrames X.base (X.env::X.outer):=by rw [<-hst];exact J.stack
  refine a2z fr fn hfr x (by simp [rawInt]) λT' h1 hT' x1 c1=> ?_
  refine a1T x1 ζ λh2 x2 c2 _=> ?_
  have hTn':H2 T'=ζ:=J.hok.fresh hT'
  have c:Chg (frs X.stack) ([T,a]++[T']) s'.heap h2:=by
   rw [hst];exact c1.trans (c2.more (λb hb=>nomatch hb) λb hb=>hb)
  have mem:∀b∈[T,a]++[T'],b=T\/b=a\/b=T':=λb hb=>by simpa using hb
  have q1:=apart J0 hx0 hT
  have q2:=apart J0 hx0 ha
  have q3:=apart J hx0 (Heap.get?_none_of_le hT')
  have K:g9 X pins σ1 H2 {s' with heap:=h2}:=g9.chg J c (λb hb=> ?_) (λb hb=> ?_) (λb hb=> ?_) (λb hb=> ?_) (λb hb=> ?_)
  ·exact hh pins _ σ1 H2 D a C T' dd K x2 hn hTn' q2 q3 (ht a hn)
  all_goals rcases mem b hb with rfl|rfl|rfl
  ·exact q1.1
  ·exact q2.1
  ·exact q3.1
  ·exact hTn
  ·exact hn
  ·exact hTn'
  ·exact q1.2.1
  ·exact q2.2.1
  ·exact q3.2.1
  ·exact q1.2.2.1
  ·exact q2.2.2.1
  ·exact q3.2.2.1
  ·exact q1.2.2.2
  ·exact q2.2.2.2
  ·exact q3.2.2.2
end
theorem b3r{M:Model}{A:AK}{E:AB->AC->Prop}{h:Heap}{g:Array GenState}{d:Drawn}{t:Nat}{os:OsState}{e C B:AA}{oe:Obj}{Q:Bool->AC->Prop}(hC:b4j C h)(hB:b4j B h)
 (he:h.get? e=ξ oe) (hcls:oe.cls= .ref C) (hq:∀tl:List AB,OwnTail h a7A tl->(∃N nm q bs hdct sn sub ab col dd k0 k1 k2 k3 k5,h.get? C=ξ (excClassObj nm q C N bs tl hdct sn sub ab col dd k0 k1 k2 k3 k5 "ValueError.__new__"))->Q ((Value.ref C::tl).contains (.ref B)) ⟨h,g,d,t,os⟩):AH M A (excMatches (.ref e) (.ref B)) Q E ⟨h,g,d,t,os⟩:=by
 obtain⟨tl,N,nm,q,bs,hdct,sn,sub,ab,col,dd,k0,k1,k2,k3,k5,hC,T⟩:=hC
 obtain⟨tl',N',nm',q',bs',hdct',sn',sub',ab',col',dd',k0',k1',k2',k3',k5',hB,T'⟩:=hB
 have hq':=hq tl T ⟨_,_,_,_,_,_,_,_,_,_,_,_,_,_,_,hC⟩
 have hcB:(Value.ref B::tl').contains (.type "BaseException")=true:=by rw [List.contains_cons,T'.hasType (show a7A.contains (.type "BaseException")=true by decide),Bool.or_true]
 have f:=tc_notTuple
 unfold excMatches
 repeat (first|(with_reducible refine wpAny_loadPart_at he ?_;rw [hcls])|with_reducible refine wpAny_loadPart_at hB ?_|(with_reducible refine wpAny_isSubtype_exc hB ?_;rw [hcB])|with_reducible refine wpAny_isSubtype_exc hC ?_|wp_step)
 cases hb:(Value.ref C::tl).contains (.ref B)<;>(rw [hb] at hq';wp_walk;exact hq')
def a8D(X:Cx)(C B:AA)(b:Bool):Prop:=∀h:Heap,X.K.In h->b4j C h/\b4j B h/\∀(tl:List AB) N nm q bs hdct sn sub ab col dd k0 k1 k2 k3 k5,h.get? C=ξ (excClassObj nm q C N bs tl hdct sn sub ab col dd k0 k1 k2 k3 k5 "ValueError.__new__")->(Value.ref C::tl).contains (.ref B)=b
section
variable {X:Cx}
abbrev _root_.L2.Cx.caught(X:Cx)(a:AA)(Y:AB->AC->Prop):Cx:={X with A:=X.A.mark (ξ (.ref a)),calm:=false,xe:=Y}
theorem a75{a:AA}{Y:AB->AC->Prop}{pins:List (AA×Obj)}{σ:L2.St}{H:Hp}{s:AC}(I:g9 X pins σ H s):g9 (X.caught a Y) pins σ H s:=⟨⟨I.ok.mod,I.ok.kind,I.ok.glob,I.ok.blt,I.ok.above,I.ok.inj,I.ok.has,I.ok.cab,(λz=>nomatch z),I.ok.frames,I.ok.stk,I.ok.exf,I.ok.bs,I.ok.bsz,I.ok.noex,I.ok.exfs,I.ok.funs,I.ok.frf⟩,I.os,I.bare,I.base,I.loc,I.cell,I.free,I.freeC,I.pin,I.hok,I.len⟩
theorem a05{a:AA}{Y:AB->AC->Prop}{pins:List (AA×Obj)}{σ:L2.St}{H:Hp}{s:AC}(hd:X.calm=true->X.A.handled=ζ)(I:g9 (X.caught a Y) pins σ H s):g9 X pins σ H s:=⟨⟨I.ok.mod,I.ok.kind,I.ok.glob,I.ok.blt,I.ok.above,I.ok.inj,I.ok.has,I.ok.cab,hd,I.ok.frames,I.ok.stk,I.ok.exf,I.ok.bs,I.ok.bsz,I.ok.noex,I.ok.exfs,I.ok.funs,I.ok.frf⟩,I.os,I.bare,I.base,I.loc,I.cell,I.free,I.freeC,I.pin,I.hok,I.len⟩
end
def a3Y(K:AE)(C B:AA):Bool:=match K.lookup C with
 |some ⟨_,_,.cls cd,_⟩=>cd.mro.contains (.ref B)
 |_=>false
def b4H(K:AE)(C:AA)(g:AA->Bool):Bool:=match K.lookup C with
 |some ⟨.type "type",_,.cls cd,sl⟩=>(match cd.mro,sl.toList with
  | .ref C'::bm,[_,_,_,_,ξ (.builtin n),_]=>C'==C && n=="ValueError.__new__" && !cd.hasDel && PySem.W.tailIn K a7A bm && g cd.ns
  |_,_=>false)
 |_=>false
def a2F(K:AE)(C:AA):Bool:=b4H K C λ_=>true
theorem b2t{K:AE}{h:Heap}{C:AA}{g:AA->Bool}(X:K.In h)(q:b4H K C g=true):∃tl N nm q bs hdct sn sub ab col dd k0 k1 k2 k3 k5,
 h.get? C=ξ (excClassObj nm q C N bs tl hdct sn sub ab col dd k0 k1 k2 k3 k5 "ValueError.__new__")/\OwnTail h a7A tl/\g N=true:=by
 unfold b4H at q
 cases hk:K.lookup C with
 |none=>rw [hk] at q;cases q
 |some o=>
  rw [hk] at q
  split at q
  ·rename_i dd cd sl e
   cases e
   obtain⟨nm,bs,mro,ns,qn,hd,sn,sub,ab,col,del⟩:=cd
   obtain⟨l⟩:=sl
   split at q
   ·rename_i C' bm k0 k1 k2 k3 n k5 hm hs
    subst hm hs
    rw [Bool.and_eq_true,Bool.and_eq_true,Bool.and_eq_true,Bool.and_eq_true] at q
    obtain⟨⟨⟨⟨c1,c2⟩,c3⟩,c4⟩,c5⟩:=q
    have c3':del=false:=by simpa using c3
    cases(beq_iff_eq.mp c1)
    cases(beq_iff_eq.mp c2)
    clear c3
    subst c3'
    exact⟨bm,ns,nm,qn,bs,hd,sn,sub,ab,col,dd,k0,k1,k2,k3,k5,X _ _ hk,PySem.W.tail_of_in X c4,c5⟩
   ·cases q
  ·cases q
theorem a9F{K:AE}{h:Heap}{C:AA}(X:K.In h)(q:a2F K C=true):b4j C h:=by
 obtain⟨tl,N,nm,q,bs,hdct,sn,sub,ab,col,dd,k0,k1,k2,k3,k5,h1,h2,_⟩:=b2t X q;exact⟨tl,N,nm,q,bs,hdct,sn,sub,ab,col,dd,k0,k1,k2,k3,k5,h1,h2⟩
theorem b4r{X:Cx}{C B:AA}(q1:a2F X.K C=true)(q2:a2F X.K B=true):a8D X C B (a3Y X.K C B):=λh I=>⟨a9F I q1,a9F I q2,λtl N nm q bs hdct sn sub ab col dd k0 k1 k2 k3 k5 hc=>by
 cases hk:X.K.lookup C with
 |none=>unfold a2F b4H at q1;rw [hk] at q1;cases q1
 |some o=>
  have:=I _ _ hk;rw [hc] at this;cases this;unfold a3Y;rw [hk]⟩
section
variable {X:Cx}
end
section
variable {X:Cx}{pins:List (AA×Obj)}{σ:L2.St}{H:Hp}{s:AC}
theorem _root_.L2.g9.track{a:AA}{o:HO}(I:g9 X pins σ H s)(hn:H a=ζ)(ap:Ap X pins a)(new:C7 X.prog X.w (m9 H a o) s.heap a o):g9 X pins σ (m9 H a o) s where
 ok:=I.ok
 os:=I.os
 bare:=I.bare
 base:=⟨I.base.keep,I.base.slot,λb ob e n hx=>by
  rw [g6 (λz=>by rw [z,ap.1] at e;cases e)];exact I.base.free b ob e n hx,I.base.there,
  λb xs e=>by rw [g6 (i5 (I.base.tups b xs e) hn)];exact I.base.tups b xs e,
  λb ob u e=>by rw [g6 (i5 (I.base.frzs b ob u e) hn)];exact I.base.frzs b ob u e,
  λb ps e=>by obtain⟨more,q⟩:=I.base.tbls b ps e;exact⟨more,by rw [g6 (i5 q hn)];exact q⟩⟩
 loc:=I.loc
 cell:=I.cell
 free:=by rw [g6 (Ne.symm ap.2.1)];exact I.free
 freeC:=λx c e=>by rw [g6 (ap.2.2.1 x c e)];exact I.freeC x c e
 pin:=λp hp=>by
  obtain⟨h1,h2,h3⟩:=I.pin p hp;exact⟨h1,by rw [g6 (ap.2.2.2 p hp)];exact h2,h3⟩
 hok:=λb u e=>by
  by_cases hb:b=a
  ·subst hb;rw [i3] at e;cases e;exact new
  ·rw [g6 hb] at e;exact(I.hok b u e).stay (λc v _ q=>q) (λc q=>by rw [g6 (i5 q hn)];exact q) λc xs q=>by rw [g6 (i5 q hn)];exact q
 len:=I.len
theorem a5M{M:Model}{A:AK}{E:AB->AC->Prop}{i:Nat}{x:Str}{pos:Pos}{Q:Unit->AC->Prop}(I:g9 X pins σ H s)(hN:X.N.Nodup)(hi:X.N[i]?=ξ x)(hk:X.env.scope.names.lookup x=ξ .local)
 (h:∀s',g9 X pins (σ.set i ζ) H s'->Q () s'):AH M A (do bindName X.env x .none;unbindBehindTheSuite X.env x pos) Q E s:=by
 obtain⟨m,hn,hl⟩:=id I.loc
 have hcls:(X.env.scope.kind== .class||(X.env.scope.kind== .module && X.env.locals !=X.env.globals))=false:=by rw [I.ok.kind];rfl
 have hiσ:i<σ.length:=by rw [I.len];exact(Ac.mp hi).1
 have cne:=I.cne
 refine wpAny_nameGoes_keeps hk hn hcls λh' v hn' hs=> ?_
 refine h _ ⟨I.ok,I.os,I.bare,⟨λb o e n hb hx=> ?_,λb o e n hb hx=> ?_,I.base.free,λb o e hx=> ?_,I.base.tups,I.base.frzs,I.base.tbls⟩,⟨_,hn',λj y v' e1 e2 e3=> ?_⟩,λy c e=> ?_,I.free,I.freeC,λp hp=> ?_,λb ob e=> ?_,by simpa using I.len⟩
 ·exact(hs.2 b (AZ (Ai (AT e) I.ok.above))).trans (I.base.keep b o e n hb hx)
 ·obtain⟨sl,e1⟩:=I.base.slot b o e n hb hx
  exact⟨sl,(hs.2 b (AZ (Ai (AT e) I.ok.above))).trans e1⟩
 ·obtain⟨o',e1⟩:=I.base.there b o e hx
  exact⟨o',(hs.2 b (AZ (Ai (AT e) I.ok.above))).trans e1⟩
 ·by_cases hj:j=i
  ·subst hj
   rw [BB hiσ] at e2
   cases e2
  ·rw [List.getElem?_set_ne (Ne.symm hj)] at e2
   obtain⟨u',r',q⟩:=hl j y v' e1 e2 e3
   refine⟨u',r', ?_⟩
   rcases q with⟨k,e⟩|⟨k,c,e,z⟩
   ·refine .inl ⟨k, ?_⟩
    have:y≠x:=λe=>hj (a6H hN e1 (e▸hi))
    simp [this,e]
   ·exact .inr ⟨k,c,e,z.sameBut hs (cne y c e)⟩
 ·obtain⟨w',z⟩:=I.cell y c e
  exact⟨w',z.sameBut hs (cne y c e)⟩
 ·obtain⟨e,n,ne,nf,d⟩:=I.pin p hp
  exact⟨(hs.2 p.1 ne).trans e,n,ne,nf,d⟩
 ·refine(I.hok b ob e).stay (λc w' hc q=>(hs.2 c ?_).trans q) (λ_ q=>q) λ_ _ q=>q
  rintro rfl
  have hfree:=I.free
  rcases hc with rfl|hc
  ·rw [hfree] at e;cases e
  ·rw [hfree] at hc;cases hc
end
def XO(a C:AA)(dd:Option AA)(h:Heap):Prop:=∃oe vs,h.get? a=ξ oe/\oe.cls= .ref C/\oe.data= .fields vs/\oe.dict=dd
def O7.drop(D:O7)(i:Nat):O7:=⟨λσ H=>D.nx (σ.set i ζ) H,D.rt,λσ H=>D.bk (σ.set i ζ) H,λσ H=>D.ct (σ.set i ζ) H⟩
section
variable {X:Cx}
theorem b8W{i:Nat}{x y:Str}{B:AA}{np pos:Pos}{b₀:Stmt}{suite:List Stmt}{rest:List ExceptHandler}{ts:TS}(hN:X.N.Nodup)(hi:X.N[i]?=ξ y)(hy:X.env.scope.names.lookup y=ξ .local)
 (hg:Gl X x) (hm:X.mg x=ξ (.ref B)) (hdb:(x==("__debug__":Str))=false) (hs:∀a Y,PSs (X.caught a Y) (b₀::suite) ts):
 Hnd X (.ExceptHandler (ξ (.Name x np)) (ξ y) (b₀::suite) pos::rest) (λa C dd D σ H=>a8D X C B true/\ts (O7.drop D i) (σ.set i (ξ (.ref a))) (m9 H a (.ext (XO a C dd)))):=by
 intro pins s σ H D a C T dd0 I ex hn hTn apA apT ⟨hbl,q⟩
 have J:g9 (X.caught a (notedBy (model X.prog X.w) (X.A.mark (ξ (.ref a))) X.env (cameBackBy (model X.prog X.w) X.A X.env X.xe))) pins σ H s:=a75 I
 refine wpAny_handleBy_cons (codeAny_handlers_test (a0m (X:=X.caught a _) J hg hm ?_ hdb)) (by intro q;cases q)
 obtain⟨hC,hB,hin⟩:=hbl s.heap I.kIn
 obtain⟨oe,vs,he,hcls,_⟩:=ex.obj
 obtain⟨hh,g,d,tk,os⟩:=s
 refine b3r hC hB he hcls λtl T0 ⟨N,nm,q0,bs,hdct,sn,sub,ab,col,dd,k0,k1,k2,k3,k5,hc⟩=> ?_
 rw [hin tl N nm q0 bs hdct sn sub ab col dd k0 k1 k2 k3 k5 hc]
 refine codeAny_handlers_suite_as ?_
 refine a1T (s:=⟨hh,g,d,tk,os⟩) ex ζ λh2 x2 c2 hsz=> ?_
 have one:∀b∈[T],b=T:=λb hb=>List.mem_singleton.mp hb
 have K:g9 X pins σ H ⟨h2,g,d,tk,os⟩:=g9.chg I (c2.more (λb hb=>nomatch hb) λb hb=>hb) (λb hb=>by rw [one b hb];exact apT.1) (λb hb=>by rw [one b hb];exact hTn) (λb hb=>by rw [one b hb];exact apT.2.1) (λb hb=>by rw [one b hb];exact apT.2.2.1) (λb hb=>by rw [one b hb];exact apT.2.2.2)
 obtain⟨oe',vs',he',hcls',hd',_,hdn⟩:=x2.obj
 have K1:g9 X pins σ (m9 H a (.ext (XO a C dd0))) ⟨h2,g,d,tk,os⟩:=K.track hn apA ⟨⟨oe',vs',he',hcls',hd',hdn⟩,⟨oe',he'⟩,λh1 h2 ⟨o1,v1,e1,e2,e3⟩ st=>⟨o1,v1,st _ e1,e2,e3⟩⟩
 refine a69 (v:= .ref a) K1 hN hi (.inl hy) rfl (λs' I'=> ?_) (.inr hy)
 refine D5 (hs a _ pins _ _ _ (O7.drop D i) (a75 I') q) λfl s1 hq=> ?_
 cases fl with
 |next=>obtain⟨σ',H',J,q⟩:=hq;exact a5M (a05 I.ok.hd J) hN hi hy λs2 J2=>⟨_,H',J2,q⟩
 |brk=>obtain⟨σ',H',J,q⟩:=hq;exact a5M (a05 I.ok.hd J) hN hi hy λs2 J2=>⟨_,H',J2,q⟩
 |cont=>obtain⟨σ',H',J,q⟩:=hq;exact a5M (a05 I.ok.hd J) hN hi hy λs2 J2=>⟨_,H',J2,q⟩
 |ret u=>obtain⟨v,σ',H',J,r,q⟩:=hq;exact a5M (a05 I.ok.hd J) hN hi hy λs2 J2=>⟨v,_,H',J2,r,q⟩
end
def xcV(c:XT):PV:=match c.fs with
 |[]=> .dict [(.str c.cls,.bool true)]
 |f::r=> .dict ((.str c.cls,.int 0)::f::r)
theorem b7R{K:AE}{F:Hp}{c:XT}{dd:Option AA}{a C:AA}(ha:F a=ζ)(xf:XF K F c.fs dd)(h3:E7 K c.cls C):C0 K (m9 F a (.ext (XO a C dd))) (xcV c) (.ref a):=by
 obtain⟨cl,fs⟩:=c;rcases xf with⟨e1,e2⟩|⟨d,vs,e1,q,n,r⟩
 ·have e1:fs=[]:=e1;subst e1;subst e2;exact Or.inr (Or.inr (Or.inl ⟨cl,_,rfl,.inr ⟨rfl,a,C,XO a C ζ,rfl,i3,λh q=>q,h3⟩⟩))
 ·cases fs with
  |nil=>exact absurd rfl n
  |cons f r0=>
   subst e1;have s:j2 F (m9 F a (.ext (XO a C (ξ d)))):=D2 ha;refine Or.inr (Or.inr (Or.inr ⟨cl,.int 0,vs,.inr ⟨rfl,a,C,d,XO a C (ξ d),rfl,i3,λh q=>q,s _ _ q,h3⟩,cl,.int 0,vs,rfl,rfl,rfl, ?_⟩));exact a0J.mono s _ r
def b1t(i:Nat):Fl->Fl
 | .nx ρ=> .nx (ρ.set i ζ)
 | .rt r=> .rt r
 | .bk ρ=> .bk (ρ.set i ζ)
 | .ct ρ=> .ct (ρ.set i ζ)
def a6D(b:MX)(i:Nat)(inm:Str->Bool)(hd:MS):MS:=λρ=>(b ρ).bind λfx=>match fx with
 | .fl f=>ξ f
 | .rz c ρ'=>if inm c.cls=true then(hd (ρ'.set i (ξ (.v (xcV c))))).map (b1t i) else ζ
theorem B9{α:Type}{l:List (Option α)}{i j:Nat}{r:α}(h:(l.set i ζ)[j]?=ξ (ξ r)):i≠j/\l[j]?=ξ (ξ r):=by
 rw [List.getElem?_set] at h
 by_cases hij:i=j
 ·rw [if_pos hij] at h;split at h
  ·cases h
  ·cases h
 ·rw [if_neg hij] at h;exact⟨hij,h⟩
theorem SOk.drop{K:AE}{F0 H0 F H:Hp}{σ:L2.St}{ρ:b0}(s:SOk K F0 H0 F H σ ρ)(i:Nat):SOk K F0 H0 F H (σ.set i ζ) (ρ.set i ζ):=by
 refine⟨s.x,⟨s.e.fh,by simp [s.e.len],λj q e=> ?_,λj ps e=> ?_,λj k ps qs a hjk e1 e2 e3 e4=> ?_⟩,λj ps a e1 e2=> ?_⟩
 ·obtain⟨n,e⟩:=B9 e;rw [List.getElem?_set_ne n];exact s.e.at_ j q e
 ·exact s.e.nb j ps (B9 e).2
 ·exact s.e.ap j k ps qs a hjk (B9 e1).2 (B9 e2).2 (B9 e3).2 (B9 e4).2
 ·exact s.nw j ps a (B9 e1).2 (B9 e2).2
theorem Fin.drop{K:AE}{F0 H0 F:Hp}{D:O7}{i:Nat}:∀{fl:Fl},Fin K F0 H0 F D (b1t i fl)->Fin K F0 H0 F (O7.drop D i) fl
 | .nx _,h=>λσ' F' H' s' so=>h _ F' H' s' (so.drop i)
 | .rt _,h=>h
 | .bk _,h=>λσ' F' H' s' so=>h _ F' H' s' (so.drop i)
 | .ct _,h=>λσ' F' H' s' so=>h _ F' H' s' (so.drop i)
section
variable {X:Cx}
theorem b4D{i:Nat}{body:List Stmt}{x y:Str}{B:AA}{np hpos pos:Pos}{b₀:Stmt}{suite:List Stmt}{b:MX}{inm:Str->Bool}{hd:MS}(hN:X.N.Nodup)(hi:X.N[i]?=ξ y)(hy:X.env.scope.names.lookup y=ξ .local)(hx0:X.ex=[])(hst:X.stack=X.env::X.outer)(hfr:X.env.frame=ξ X.env.locals)
 (hg:Gl X x) (hm:X.mg x=ξ (.ref B)) (hdb:(x==("__debug__":Str))=false) (hin:∀c,inm c=true->∃C,X.mg c=ξ (.ref C)/\a8D X C B true/\E7 X.K c C)
 (hb:∀(Y:AB->AC->Prop) (pn:List (AA×Obj)) (E:L2.St->XK),C6 (CX1 X.prog X.w) (X.aim Y pn) E->EXs (X.aim Y pn) E body b) (hs:∀a Y,ESs (X.caught a Y) (b₀::suite) hd):
 ES X (.Try body [.ExceptHandler (ξ (.Name x np)) (ξ y) (b₀::suite) hpos] [] [] pos) (a6D b i inm hd):=
 w8 (b9B hx0 hst hfr (tb:=λE=>tMX X.K X.mg E b) hb (b8W (i:=i) (ts:=tMS X.K hd) hN hi hy hg hm hdb λa Y=>hs a Y)) λD σ H h0=>K8 h0 λF0 H0 F ρ fl so e fin=>by
  obtain⟨fx,e1,e⟩:=bind_some e;cases fx with
  |fl f=>cases e;exact⟨F0,H0,F,ρ,.fl _,so,e1,fin⟩
  |rz c ρ1=>
   have e:(if inm c.cls=true then(hd (ρ1.set i (ξ (.v (xcV c))))).map (b1t i) else ζ)=ξ fl:=e
   split at e
   ·rename_i hc;obtain⟨C,h1,h2,h3⟩:=hin c.cls hc;cases hh:hd (ρ1.set i (ξ (.v (xcV c)))) with
    |none=>rw [hh] at e;cases e
    |some f=>
     rw [hh] at e;cases e;refine⟨F0,H0,F,ρ,.rz c ρ1,so,e1,C,h1,λσ1 dd F' H' s' so' xf=>⟨C,rfl,λa hn=>⟨h2,F0,H0,m9 F' a (.ext (XO a C dd)),_,f, ?_,hh, ?_⟩⟩⟩
     ·exact so'.set (r:= .v (xcV c)) (u6.val (p:=xcV c) (O8.lay so'.e.fh hn) (b7R (so'.e.fh.free hn) xf h3)) rfl i
     ·exact Fin.drop ((fin.later s').later (D2 (so'.e.fh.free hn)))
   ·cases e
theorem a5K{E:L2.St->XK}{k k':Nat}{ps:List Str}{g:List PV->Option (c6 ⊕ XT)}{x:Str}{p pos pos2:Pos}{e:AF}{es:List AF}{m:MA}
 (d:G7 X.prog X.w X.K X.mg X.base x ps k g) (hr:y0 k' X.A) (hk:k<=k') (hg:Gl X x) (hx:C6 (CX1 X.prog X.w) X E) (hn:∀ρ qs,m ρ=ξ qs->qs.length=ps.length) (ha:EA X (e::es) m)
 (hs:swapsWith (.Call (.Name x p) (e::es) [] pos) ζ pos2.line X.env=pure false:=by rfl)
 (hdb:(x==("__debug__":Str))=false:=by decide) (he:AL (e::es) X.env=(false,eval e X.env)::AL es X.env:=by rfl) (hpl:(backTo pos (AL es X.env)).any (·.1)=false:=by rfl):
 EX X E (.Expr (.Call (.Name x p) (e::es) [] pos) pos2) (a1u g m):=by
 obtain⟨f,fd,G,h1,h2,h3⟩:=d
 exact b8K G (hr.mono hk) hg h1 h2 h3 hx hn ha hs hdb he hpl
end
def G3(K:AE)(C:AA)(x:Str):Bool:=match K.lookup C with
 |some ⟨_,_,.cls cd,_⟩=>cd.name==x
 |_=>false
structure XC(K:AE)(mg:Str->Option AB)(c:Str)(C:AA):Prop where
 mg:mg c=ξ (.ref C)
 named:E7 K c C
 exc:a2F K C=true
theorem a5y{K:AE}{mg:Str->Option AB}{h:Heap}{c:Str}{C:AA}(X:K.In h)(G:h.Ns mainGlobals mg)(e:PySem.W.nsIn K mainGlobals c=ξ (ξ (.ref C)))(q:(G3 K C c && a2F K C)=true):XC K mg c C:=by
 rw [Bool.and_eq_true] at q;obtain⟨q1,q3⟩:=q;refine⟨PySem.W.mg_of X G e,⟨e, ?_⟩,q3⟩;unfold G3 at q1;split at q1
 ·rename_i oc od cd sl hk;exact⟨oc,od,cd,sl,hk,beq_iff_eq.mp q1⟩
 ·cases q1
theorem b4m{K:AE}{x D:AA}{c:AB}(e:PySem.W.kitOne K (.ref D) c=ξ true):Answers (λs=>K.In s.heap/\∃o,s.heap.get? x=ξ o/\o.cls= .ref D) (.ref x) c true:=λdep tk prog w A R s hs=>by
 obtain⟨hh,gg,dr,tt,oo⟩:=s;obtain⟨⟨kin,o,h1,h2⟩,fin⟩:=hs;have LT:PySem.W.Looks (model prog w) hh (typeOf (.ref x)) (.ref D):=h2▸(PySem.W.Looks.ld h1).andThen .now;unfold Builtin.«isinstance.nested»;refine AG ?_;refine LT.at ?_;cases q:(Value.ref D==c) with
 |true=>
  rw [if_pos rfl];exact AG (wpAny_rule (AN (fin tt)))
 |false=>
  rw [if_neg Af];unfold PySem.W.kitOne at e;rw [q,if_neg Af] at e;have z:=PySem.W.kit_cls (M:=model prog w) kin e;have z3:PySem.W.Looks (model prog w) hh (isInstance (.ref x) c) true:=LT.andThen z.2.2;refine AG ?_;refine z.1.at ?_;rw [if_pos (by decide)]
  k_delta "plainIsInstance"
  refine AG ?_;refine AG ?_;refine z.2.1.at ?_;simp only [Bool.not_true,if_false,As];refine AG ?_;refine z3.at ?_;exact AN (AN (fin tt))
theorem b46{K:AE}{prog:AJ}{w:AI}{A:AK}{E:AB->AC->Prop}{s:AC}{Q:AB->AC->Prop}{x D:AA}{c:AB}{o:Obj}(kin:K.In s.heap)(h1:s.heap.get? x=ξ o)(h2:o.cls= .ref D)(e:PySem.W.kitOne K (.ref D) c=ξ true)(fin:∀tk,Q (.bool true) {s with toks:=tk}):
 AH (model prog w) A (call (.builtin "isinstance") [.ref x,c]) Q E s:=by
 refine call_isinstance (S:=λ_ R s=>(K.In s.heap/\∃o,s.heap.get? x=ξ o/\o.cls= .ref D)/\∀tk,R (.ok (.ret (.bool true))) {s with toks:=tk}) (λprog w A R s hs=> ?_) ⟨⟨kin,o,h1,h2⟩,fin⟩
 refine isinstance_outer ?_ (λz=>nomatch z)
 exact b4m e 0 _ prog w A R s hs
def b9Z:PV->Option Str
 | .dict [(.str c,.bool true)]=>ξ c
 | .dict ((.str c,.int 0)::_)=>ξ c
 |_=>ζ
def b09(K:AE)(H:Hp)(x:Str)(v:V):Prop:=b8n K H x v\/∃fs,a9L K H x (.int 0) fs v
theorem b09.mono{K:AE}{H H':Hp}{x:Str}{v:V}(s:j2 H H')(h:b09 K H x v):b09 K H' x v:=by
 rcases h with⟨a,C,φ,e,q,r⟩|⟨fs,h⟩
 ·exact .inl ⟨a,C,φ,e,s _ _ q,r⟩
 ·exact .inr ⟨fs,h.mono s⟩
theorem b21{K:AE}{F:Hp}{p:PV}{v:V}{c:Str}(rr:C0 K F p v)(h:b9Z p=ξ c):b09 K F c v:=by
 unfold b9Z at h;split at h
 ·cases h;rcases rr with⟨_,_,_,_,kk,w,t,_,z,_⟩|⟨_,_,_,_,kk,w,t,_,z,_⟩|⟨y,t,e,hy⟩|⟨_,_,_,ho,hf⟩
  ·cases z
  ·cases z
  ·cases e;rcases hy with⟨z,_⟩|⟨_,h1⟩
   ·cases z
   ·exact .inl h1
  ·rcases(b2M ho hf).2.1 with e|e<;>cases e
 ·cases h;rcases rr with⟨_,_,_,_,kk,w,t,_,z,_⟩|⟨_,_,_,_,kk,w,t,_,z,_⟩|⟨y,t,e,hy⟩|⟨y,m,fs,ho,hf⟩
  ·cases z
  ·cases z
  ·cases e;rcases hy with⟨z,_⟩|⟨z,_⟩<;>cases z
  ·obtain⟨g,w,t,e,z,q,_⟩:=hf;cases z;cases e;cases q;exact .inr ⟨_,ho⟩
 ·cases h
theorem b24{X:Cx}{pins:List (AA×Obj)}{σ:L2.St}{H:Hp}{s:AC}(I:g9 X pins σ H s){x:Str}{v:V}(h:b09 X.K H x v):∃(a C:AA) (o:Obj) (od:Option Obj),v= .ref a/\E7 X.K x C/\PySem.W.InstAt s.heap a o C od:=by
 rcases h with h|⟨fs,⟨z,_⟩|⟨_,a,C,dx,φ,e,q,r,d,n⟩⟩
 ·obtain⟨a,C,o,vs,e,h1,h2,h3,n,h4⟩:=b7S I h;exact⟨a,C,o,ζ,e,n,h1,h2,by unfold PySem.W.notCls;rw [h3],by rw [h4];trivial⟩
 ·cases z
 ·obtain⟨oe,vs,h1,h2,h3,h4⟩:=r _ (I.hok a _ q).1;obtain⟨mA,⟨od,es,ep,ho,_⟩,_⟩:=I.hok dx _ d;exact⟨a,C,oe,ξ od,e,n,h1,h2,by unfold PySem.W.notCls;rw [h3],by rw [h4];exact ho⟩
def b1u(tab:List (Str×Bool))(x:c6):Option c6:=(b9Z x.rd).bind λc=>(tab.lookup c).map λb=> .v (.bool b)
section
variable {X:Cx}
end
def inL(l:List Str)(c:Str):Bool:=l.contains c
section
variable {X:Cx}
def Hin(X:Cx)(B:AA)(l:List Str):Prop:=∀c,inL l c=true->∃C,X.mg c=ξ (.ref C)/\a8D X C B true/\E7 X.K c C
theorem b6O{B:AA}:Hin X B []:=λ_ h=>nomatch h
theorem a6p{B C:AA}{b c:Str}{l:List Str}(xB:XC X.K X.mg b B)(x:XC X.K X.mg c C)(e:a3Y X.K C B=true)(h:Hin X B l):Hin X B (c::l):=λc1 q=>by
 unfold inL at q;rw [List.contains_cons,Bool.or_eq_true] at q;rcases q with q|q
 ·rw [beq_iff_eq.mp q];exact⟨C,x.mg,by rw [<-e];exact b4r x.exc xB.exc,x.named⟩
 ·exact h c1 q
theorem b3q{i:Nat}{l:List Str}{body:List Stmt}{x y:Str}{B:AA}{np hpos pos:Pos}{b₀:Stmt}{suite:List Stmt}{b:MX}{hd:MS}(hN:X.N.Nodup)(xB:XC X.K X.mg x B)(hin:Hin X B l)
 (hb:∀(Y:AB->AC->Prop) (pn:List (AA×Obj)) (E:L2.St->XK),C6 (CX1 X.prog X.w) (X.aim Y pn) E->EXs (X.aim Y pn) E body b) (hs:∀a Y,ESs (X.caught a Y) (b₀::suite) hd)
 (hi:X.N[i]?=ξ y:=by rfl) (hy:X.env.scope.names.lookup y=ξ .local:=by rfl) (hx0:X.ex=[]:=by rfl) (hst:X.stack=X.env::X.outer:=by rfl) (hfr:X.env.frame=ξ X.env.locals:=by rfl) (hg:Gl X x:=by rfl) (hdb:(x==("__debug__":Str))=false:=by decide):
 ES X (.Try body [.ExceptHandler (ξ (.Name x np)) (ξ y) (b₀::suite) hpos] [] [] pos) (a6D b i (inL l) hd):=
 b4D hN hi hy hx0 hst hfr hg xB.mg hdb hin hb hs
theorem L7{E:L2.St->XK}{st:List Stmt}{m:MS}(h:ESs X.nox st m):EXs X E st (Q6 m):=b8M (PSs.nox h)
theorem b1q{E:L2.St->XK}{st:Stmt}{m:MS}(h:ES X.nox st m):EX X E st (Q6 m):=c0d λpins s σ H D I hw=>
 wpAny_mono (h pins s σ H D (I.wish _) hw) (λfl s1 hq=>by
  cases fl with
  |next=>obtain⟨σ',H',J,q⟩:=hq;exact⟨σ',H',J.unwish,q⟩
  |brk=>obtain⟨σ',H',J,q⟩:=hq;exact⟨σ',H',J.unwish,q⟩
  |cont=>obtain⟨σ',H',J,q⟩:=hq;exact⟨σ',H',J.unwish,q⟩
  |ret u=>obtain⟨v,σ',H',J,r,q⟩:=hq;exact⟨v,σ',H',J.unwish,r,q⟩) λ_ _ z=>z.elim
end
def unE:List (PV×PV)->Option (List (List n5×PV))
 |[]=>ξ []
 |(.tuple ks,p)::r=>(a6v ks).bind λk=>(unE r).map λt=>(k,p)::t
 |_::_=>ζ
theorem a0l:∀k:List n5,a6v (k.map kP)=ξ k
 |[]=>rfl
 | .inl i::k=>by
   rw [AS];unfold a6v;rw [a0l k]
   rfl
 | .inr x::k=>by
   rw [AS];unfold a6v;rw [a0l k]
   rfl
theorem a4p{K:AE}{F:Hp}:∀{es:List (PV×PV)} {xs:List (List n5×V)},a2D K F es xs->∃kvs,unE es=ξ kvs/\A4 K F kvs xs
 |[],_,h=>by cases h;exact⟨[],rfl,rfl⟩
 |(k,p)::es,_,⟨kk,v,t,e,z,q,h⟩=>by
  subst e;subst z;obtain⟨kvs,h1,h2⟩:=a4p h;refine⟨(kk,p)::kvs, ?_,v,t,rfl,q,h2⟩;unfold unE;rw [a0l,h1]
  rfl
theorem b2a:∀kvs:List (List n5×PV),unE (kvs.map λkv=>(PyData.tuple (kv.1.map kP),kv.2))=ξ kvs
 |[]=>rfl
 |(k,p)::r=>by
  rw [AS];unfold unE;rw [a0l,b2a r]
  rfl
section
variable {X:Cx}
end
section
variable {K:AE}{F:Hp}{a:AA}{xs:List (List n5×V)}
end
section
variable {X:Cx}
end
section
variable {prog:AJ}{w:AI}{K:Type}[DecidableEq K]{kd:KeyKind prog w K}{A:AK}{E:AB->AC->Prop}{s:AC}
end
section
variable {X:Cx}{pins:List (AA×Obj)}{σ:L2.St}{H:Hp}{s:AC}{a:AA}{kvs:List (List n5×V)}{A:AK}{E:AB->AC->Prop}
end
section
variable {X:Cx}{o i:AF}{td ty:TE}
end
section
variable {X:Cx}
end
def b4T(x:c6):Option c6:=match x with
 | .v (.bool b)=>ξ (.v (.int (if b then 1 else 0)))
 |_=>ζ
theorem b8r{X:Cx}:M5 X (.type "int") (rC1 X.K b4T):=by
 ext e
 obtain⟨u,rfl,ru⟩:=a4q rv;unfold b4T at h2;split at h2
 ·rename_i b;cases h2;cases h1;cases(show u=Value.bool b from ru);exact PySem.call_int_bool ⟨.int _,H,I.tok _,⟨_,rfl⟩,k _ F H (u6.here s0 rfl)⟩
 ·cases h2
end PU
namespace L2
open PySem PySem.Spec PyProof.Rows
end L2
namespace PU
open PySem PySem.Spec PyProof.Rows L2
open PySem.W (Looks InstAt looks_findIn looks_find looks_subIn looks_mroIn)
def a7R(K:AE)(D:AA):Bool:=(PySem.W.clsIn K D).isSome && PySem.W.findIn K (.ref D) "__getattribute__"==ξ (ξ (.builtin "BaseException.__getattribute__"))&& PySem.W.findIn K (.ref D) "__getattr__"==ξ ζ
 && PySem.W.findIn K (.ref D) "__class__"==ξ (ξ (.builtin "object.__class__"))&& PySem.W.specialIn K (.builtin "object.__class__") "__get__"==ξ (ξ (.builtin "getset_descriptor.__get__"))&& PySem.W.takesIn K (.builtin "object.__class__")==ξ true
 && PySem.W.mroIn K D (.type "object")==ξ true && PySem.W.subIn K (.ref D) (.type "BaseException")==ξ true
structure XcF(K:AE)(D:AA):Prop where
 cl:(PySem.W.clsIn K D).isSome=true
 ga:PySem.W.findIn K (.ref D) "__getattribute__"=ξ (ξ (.builtin "BaseException.__getattribute__"))
 gt:PySem.W.findIn K (.ref D) "__getattr__"=ξ ζ
 ob:∀od,PySem.W.findObj K D od "__class__"=ξ (.bind (.builtin "getset_descriptor.__get__") (.builtin "object.__class__"))
 mo:PySem.W.mroIn K D (.type "object")=ξ true
 sb:PySem.W.subIn K (.ref D) (.type "BaseException")=ξ true
theorem b20{K:AE}{D:AA}(h:a7R K D=true):XcF K D:=by
 unfold a7R at h;simp only [Bool.and_eq_true,beq_iff_eq] at h;obtain⟨⟨⟨⟨⟨⟨⟨h1,h2⟩,h3⟩,h4⟩,h5⟩,h6⟩,h7⟩,h8⟩:=h;refine⟨h1,h2,h3,λod=> ?_,h7,h8⟩;obtain⟨cd,hc⟩:=Option.isSome_iff_exists.mp h1;unfold PySem.W.findObj;rw [hc,AR,h4,AR];simp [h5,h6]
section
variable {prog:AJ}{w:AI}{A:AK}{E:AB->AC->Prop}{s:AC}{K:AE}{x D:AA}{ox:Obj}{od:Option Obj}
theorem b6c{tk:Tok}{Q:PySem.Fin->AC->Prop}(X:K.In s.heap)(I:InstAt s.heap x ox D od)(F:XcF K D)(hq:Q (.done (.ret (.ref D))) s):
 AH (model prog w) A (Builtin.«object.__getattribute__» ⟨[.ref x,.str "__class__" tk],[]⟩) Q E s:=by
 obtain⟨hh,g,d,t,os⟩:=s
 have L0:=I.type (M:=model prog w)
 have L1:=looks_find (M:=model prog w) X I (F.ob od)
 unfold Builtin.«object.__getattribute__»
 repeat (any_goals (first|assumption|with_reducible refine L0.at ?_|with_reducible refine L1.at ?_|wp_step))
 exact PySem.W.class_get (s:=⟨hh,g,d,t,os⟩) X I F.mo (AN hq)
theorem b6a{nameV:AB}{Q:Unit->AC->Prop}(X:K.In s.heap)(I:InstAt s.heap x ox D od)(F:XcF K D)(hq:Q () s):AH (model prog w) A (checkBuiltinCall "BaseException.__getattribute__" ⟨[.ref x,nameV],[]⟩) Q E s:=by
 obtain⟨hh,g,d,t,os⟩:=s;have L0:=I.type (M:=model prog w);have L1:=looks_subIn (M:=model prog w) X F.sb;have hk:builtinKind "BaseException.__getattribute__"=ξ .slot:=by decide+kernel
 have hsplit:splitId "BaseException.__getattribute__"=ξ ("BaseException","__getattribute__"):=by decide+kernel
 have ha:=PySem.F.args_bexc_ga (.ref x) nameV;simp only [checkBuiltinCall,hk,hsplit];refine AG ?_
 ·unfold isInstance
  repeat (first|with_reducible refine L0.at ?_|with_reducible refine L1.at ?_|wp_step)
  exact hq
theorem c0U{tk:Tok}{fill expr:Bool}{Q:AB->AC->Prop}(X:K.In s.heap)(I:InstAt s.heap x ox D od)(F:XcF K D)(hq:Q (.ref D) s):AH (model prog w) A (getAttrBy (.ref x) (.str "__class__" tk) fill expr) Q E s:=by
 obtain⟨hh,g,d,t,os⟩:=s;have L0:=I.type (M:=model prog w);have L1:=looks_findIn (M:=model prog w) X F.ga;have L2:=looks_findIn (M:=model prog w) X F.gt;have FB:=PySem.F.attr_ValueError;have f3:=FB.ga.bind (.ref x);have hx0:(expr && onTheHeap (Value.builtin "BaseException.__getattribute__"))=false:=by cases expr<;>rfl
 have hx2:(Value.builtin "BaseException.__getattribute__"==Value.builtin "object.__getattribute__")=false:=by decide+kernel
 have hx1:(onTheHeap (Value.ref D)&& Value.builtin "BaseException.__getattribute__"==Value.builtin "object.__getattribute__")=false:=by rw [hx2];rfl
 repeat (any_goals (first|assumption|with_reducible refine L0.at ?_|with_reducible refine L1.at ?_|with_reducible refine L2.at ?_|wp_step))
 refine codeAny_call_builtin FB.ga.plain PySem.F.entry_bexc_ga (b6a (s:=⟨hh,g,d,t,os⟩) X I F (b6c (s:=⟨hh,g,d,t,os⟩) X I F ?_))
 repeat (any_goals (first|assumption|wp_step))
theorem b6b{Q:Option AB->AC->Prop}(X:K.In s.heap)(I:InstAt s.heap x ox D od)(F:XcF K D)(hq:Q (ξ (.ref D)) {s with toks:=s.toks+1}):AH (model prog w) A (getAttr? (.ref x) "__class__") Q E s:=by
 obtain⟨hh,g,d,t,os⟩:=s;unfold getAttr? getAttrBy?;refine AG (wpAny_mkText (AG (wpAny_attempt (c0U (s:=⟨hh,g,d,t+1,os⟩) X I F ?_))));exact AN hq
end
theorem a7X{K:AE}{x D:AA}{c:AB}(F:XcF K D)(e:PySem.W.kitOne K (.ref D) c=ξ false):Answers (λs=>K.In s.heap/\∃o od,InstAt s.heap x o D od) (.ref x) c false:=λdep tk prog w A R s hs=>by
 obtain⟨hh,gg,dr,tt,oo⟩:=s;obtain⟨⟨kin,o,od,I⟩,fin⟩:=hs;have L0:=I.type (M:=model prog w);have hisD:Looks (model prog w) hh (isType (.ref D)) true:=by
  obtain⟨cdD,hcD⟩:=Option.isSome_iff_exists.mp F.cl;unfold PySem.W.clsIn at hcD;split at hcD
  ·rename_i c' d' cd' sl' ho;intro A' Q' E' s' k q;unfold isType loadHead;exact AG (wpAny_loadPart (k _ _ (kin _ _ ho)) (AN q))
  ·cases hcD
 unfold Builtin.«isinstance.nested»;refine AG ?_;refine L0.at ?_;cases q:(Value.ref D==c) with
 |true=>
  unfold PySem.W.kitOne at e;rw [q,if_pos rfl] at e;cases e
 |false=>
  rw [if_neg Af];unfold PySem.W.kitOne at e;rw [q,if_neg Af] at e;have z:=PySem.W.kit_cls (M:=model prog w) kin e;have z3:Looks (model prog w) hh (isInstance (.ref x) c) false:=L0.andThen z.2.2;refine AG ?_;refine z.1.at ?_;rw [if_pos (by decide)]
  k_delta "plainIsInstance"
  refine AG ?_;refine AG ?_;refine z.2.1.at ?_;simp only [Bool.not_true,if_false,As];refine AG ?_;refine z3.at ?_;simp only [As,if_false];refine AG (b6b (s:=⟨hh,gg,dr,tt,oo⟩) kin I F ?_);refine AG (hisD.at ?_);simp only [Bool.not_true,As,if_false];refine AG (wpAny_rule ?_);refine z.2.2.at ?_
  first
   |exact AN (fin _)
   |exact AN (AN (fin _))
   |exact AG (AN (AN (fin _)))
theorem b3B{K:AE}{prog:AJ}{w:AI}{A:AK}{E:AB->AC->Prop}{s:AC}{Q:AB->AC->Prop}{x D:AA}{c:AB}{o:Obj}{od:Option Obj}(kin:K.In s.heap)(I:InstAt s.heap x o D od)(F:XcF K D)(e:PySem.W.kitOne K (.ref D) c=ξ false)(fin:∀tk,Q (.bool false) {s with toks:=tk}):
 AH (model prog w) A (call (.builtin "isinstance") [.ref x,c]) Q E s:=by
 refine call_isinstance (S:=λ_ R s=>(K.In s.heap/\∃o od,InstAt s.heap x o D od)/\∀tk,R (.ok (.ret (.bool false))) {s with toks:=tk}) (λprog w A R s hs=> ?_) ⟨⟨kin,o,od,I⟩,fin⟩
 refine isinstance_outer ?_ (λz=>nomatch z)
 exact a7X F e 0 _ prog w A R s hs
def b6g(K:AE)(cv:AB)(tab:List (Str×Bool)):Prop:=∀c b,tab.lookup c=ξ b->∃C,E7 K c C/\XcF K C/\PySem.W.kitOne K (.ref C) cv=ξ b
theorem a4n{K:AE}{cv:AB}:b6g K cv []:=λ_ _ h=>nomatch h
theorem A9{K:AE}{mg:Str->Option AB}{cv:AB}{c:Str}{b:Bool}{C:AA}{t:List (Str×Bool)}(x:XC K mg c C)(f:a7R K C=true)(e:PySem.W.kitOne K (.ref C) cv=ξ b)(h:b6g K cv t):b6g K cv ((c,b)::t):=λc1 b1 q=>by
 rw [List.lookup_cons] at q;split at q
 ·rename_i z;cases q;rw [beq_iff_eq.mp z];exact⟨C,x.named,b20 f,e⟩
 ·exact h c1 b1 q
section
variable {X:Cx}
theorem a8T{tab:List (Str×Bool)}{cv:AB}{cV:V}{e:AF}{n:Str}{m:M}{p p2 pos:Pos}(T:b6g X.K cv tab)(rv:∀u,l8 cV u->u=cv)(hg:Gl X "isinstance")(hm:X.mg "isinstance"=ζ)(ha:EE X e m)(hT:PE X (.Name n p2) (tC cV))
 (he:AL [e,.Name n p2] X.env=(false,eval e X.env)::AL [.Name n p2] X.env:=by rfl) (he2:AL [.Name n p2] X.env=(false,eval (.Name n p2) X.env)::AL [] X.env:=by rfl) (hpl:(backTo pos (AL [.Name n p2] X.env)).any (·.1)=false:=by rfl)
 (hv:bootBuiltins "isinstance"=ξ (.builtin "isinstance"):=by rfl):
 EE X (.Call (.Name "isinstance" p) [e,.Name n p2] [] pos) (m1 (b1u tab) m):=by
 have hc:M5 X (.builtin "isinstance") (λxs H Q=>∃F x c b,xs=[x,cV]/\j2 F H/\b09 X.K F c x/\tab.lookup c=ξ b/\Q (.bl b) H):=by
  intro pins s σ H xs us Q I rv0 h;obtain⟨F,x,c,b,rfl,s0,h1,hl,q⟩:=h;obtain⟨u,u2,rfl,ru,ru2⟩:∃u1 u2,us=[u1,u2]/\l8 x u1/\l8 cV u2:=by
   cases rv0 with
   |cons p q=>
    cases q with
    |cons p' q'=>
     cases q';exact⟨_,_,rfl,p,p'⟩
  cases rv _ ru2;obtain⟨C,nm,fc,k1⟩:=T c b hl;have fin:∀tk,EP X pins σ Q (.bool b) {s with toks:=tk}:=λtk=>⟨.bl _,H,I.tok tk,rfl,q⟩
  obtain⟨a,C',o,od,rfl,g4,J⟩:=b24 I (h1.mono s0);cases g4.uniq nm;cases(show u=Value.ref a from ru);cases b with
  |true=>exact b46 I.kIn J.at_ J.cls k1 fin
  |false=>exact b3B I.kIn J fc k1 fin
 exact r9 (a15 hc hg hm hv (p8 ha (p8 hT O4 he2) he) (by decide) (by decide) he hpl) λσ H Q h0=>n8 h0 λF ρ r h1 h2 k=>by
  obtain⟨rx,e1,h2⟩:=bind_some h2;refine⟨F,ρ,rx,h1,e1,λv F1 H1 o=> ?_⟩;obtain⟨c,hc,h2⟩:=bind_some h2;cases hl:tab.lookup c with
  |none=>rw [hl] at h2;cases h2
  |some b=>
   rw [hl] at h2;cases h2;exact⟨H1,v,c,b,rfl,j2.refl H1,b21 (o.rep.rd o.x.fh) hc,hl,k _ F1 H1 (u6.val o.x rfl)⟩
end
end PU
namespace ZT
open PySem PySem.Spec PyProof.Rows L2 PU
section
variable {prog:AJ}{w:AI}{A:AK}{E:AB->AC->Prop}{s:AC}{z TI TO i1 i2:AA}{n1 n2 i:Nat}{P1 P2:Nat->AB->Prop}{St1 St2:Nat->Heap->Prop}{a b:AB}{l1 l2:AA}
end
section
variable {prog:AJ}{w:AI}{A:AK}{E:AB->AC->Prop}{s:AC}
end
section
variable {X:Cx}
end
end ZT
namespace PU
open PySem PySem.Spec PyProof.Rows L2
section
variable {X:Cx}
end
def Df0(K:AE)(x:Str)(st:Stmt):Prop:=∃f fd,PySem.W.nsIn K mainGlobals x=ξ (ξ (.ref f))/\Fun K x x st f fd
def Df(K:AE)(mg:Str->Option AB)(x:Str)(st:Stmt):Prop:=∃f fd,Fun K x x st f fd/\mg x=ξ (.ref f)
theorem a79{K:AE}{x:Str}{st:Stmt}{f:AA}{oc:AB}{od an:Option AA}{osl:Array (Option AB)}{kV doc pm cdv ct:AB}(a:PySem.W.nsIn K mainGlobals x=ξ (ξ (.ref f)))
 (l:K.lookup f=ξ ⟨oc,od,.func (PySem.W.fnOf x x (y4 st) (m7 st) (b5 st) .none kV doc pm an cdv ct),osl⟩) (c:PySem.W.codeIn K cdv x=true) (k:PySem.W.keepIn K (.ref f)=true):Df0 K x st:=⟨_,_,a,b4O l c k⟩
theorem Df0.to{K:AE}{h:Heap}{mg:Str->Option AB}{x:Str}{st:Stmt}(d:Df0 K x st)(X:K.In h)(G:h.Ns mainGlobals mg):Df K mg x st:=by obtain⟨f,fd,a,F⟩:=d;exact⟨f,fd,F,PySem.W.mg_of X G a⟩
theorem W7{N P:List Str}{sc:Scope}(h1:sc.kind= .function:=by rfl)(h2:sc.isCoroutine=false:=by rfl)(h3:sc.isGenerator=false:=by rfl)(h4:N.Nodup:=by decide+kernel)(h5:N.take P.length=P:=by rfl)
 (h6:∀x∈P,sc.names.lookup x=ξ .local\/sc.names.lookup x=ξ .cell:=by decide+kernel) (h7:∀y∈sc.names,y.2≠.free:=by decide+kernel):g0 N P sc:=⟨h1,h2,h3,h4,h5,h6,h7⟩
section
variable {P:AJ}{w:AI}{K:AE}{mg:Str->Option AB}{base:Heap}
theorem C3{x:Str}{st:Stmt}{N ps:List Str}{k:Nat}{m:MS}(D:Df K mg x st)(S:g0 N ps (b5 st))
 (hi:∀(kV doc pm:AB) (an:Option AA) (cdv ct:AB) (us:List AB),us.length=ps.length->bindArgs (PySem.W.fnOf x x (y4 st) (m7 st) (b5 st) .none kV doc pm an cdv ct) ⟨us,[]⟩=pure (ps.zip us))
 (hb:∀(f:AA) (cdv:AB) (A:AK) (outer:List Env) (s:AC) (H:Hp) (E:XK),y0 k (A.deeper (envOfC x (b5 st) s.heap.objs.size f cdv))->ESs (P4 CX0 P w K mg base N x (b5 st) f cdv A outer s H E).nox (m7 st) m):
 z8 P w K mg base x ps (k+1) (G5 (N.length - ps.length) m):=
 let ⟨f,fd,F,hm⟩:=D
 ⟨f,fd,b72 F S (hb f),hm,F.kp,F.binds hi⟩
theorem b6R{fa:AA}{st:Stmt}{x:Str}{k:Nat}{g:List PV->Option c6}(D:Df K mg "law" st)(hfa:mg "law"=ξ (.ref fa))
 (hi:∀(kV doc pm:AB) (an:Option AA) (cdv ct v:AB),bindArgs (PySem.W.fnOf "law" "law" (y4 st) (m7 st) (b5 st) .none kV doc pm an cdv ct) ⟨[v],[]⟩=pure [(x,v)])
 (main:∀ns:List Int,ns.length<=63->g [.list (ns.map .int)]=ξ (.v (.bool true)))
 (H:∀(base:Heap) (f:AA) (fd:FuncData),K.In base->Fun K "law" "law" st f fd->G4 P w K mg base CX0 k f fd [x] (spP K 1 g)):
 ∃fd:FuncData,(∀(s:AC) (v:AB),BindsTo s fd ⟨[v],[]⟩ [(x,v)])/\∀base:Heap,K.In base->base.Ns mainGlobals mg->G4 P w K mg base CX0 k fa fd [x] (b0M K):=by
 obtain⟨f,fd,F,hm⟩:=D
 have e:=hfa.symm.trans hm
 cases e
 refine⟨fd,λs v=> ?_,λbase kb _=>(H base _ fd kb F).imp (b6S main)⟩
 obtain⟨oc,od,kV,doc,pm,an,cdv,ct,osl,rfl,lk,hcd⟩:=F.ex
 exact .of_eq (hi kV doc pm an cdv ct v)
end
theorem el0{C:List AB->Prop}(h:C [])(us:List AB)(e:us.length=0):C us:=List.length_eq_zero_iff.mp e▸h
theorem el1{C:List AB->Prop}(h:∀a,C [a])(us:List AB)(e:us.length=1):C us:=by
 obtain⟨a,rfl⟩:=List.length_eq_one_iff.mp e;exact h a
theorem elS{n:Nat}{us:List AB}(e:us.length=n+1):∃a t,us=a::t/\t.length=n:=by
 cases us with
 |nil=>cases e
 |cons a t=>exact⟨a,t,rfl,Nat.succ.inj e⟩
theorem el2{C:List AB->Prop}(h:∀a b,C [a,b])(us:List AB)(e:us.length=2):C us:=by
 obtain⟨a,t,rfl,z⟩:=elS e;exact el1 (C:=λt=>C (a::t)) (h a) t z
theorem el3{C:List AB->Prop}(h:∀a b c,C [a,b,c])(us:List AB)(e:us.length=3):C us:=by
 obtain⟨a,t,rfl,z⟩:=elS e;exact el2 (C:=λt=>C (a::t)) (h a) t z
theorem el4{C:List AB->Prop}(h:∀a b c d,C [a,b,c,d])(us:List AB)(e:us.length=4):C us:=by
 obtain⟨a,t,rfl,z⟩:=elS e;exact el3 (C:=λt=>C (a::t)) (h a) t z
abbrev obV(x:Str)(es:List (PV×PV)):PV:= .dict ((.str x,.bool false)::es)
def a5B(f:Str):List (PV×PV)->Option PV
 |[]=>ζ
 |(.str g,p)::r=>if f==g then ξ p else a5B f r
 |_::_=>ζ
def b7V:List Str->List PV->List (PV×PV)
 |f::fs,q::qs=>(.str f,q)::b7V fs qs
 |_,_=>[]
section
variable {K:AE}{F:Hp}
theorem a8V{f:Str}:∀{es:List (PV×PV)} {fs:List (Str×V)} {p:PV},a0J K F es fs->a5B f es=ξ p->∃v,fs.lookup f=ξ v/\C0 K F p v
 |[],_,_,_,h=>by cases h
 |(k,q)::es,_,p,⟨g,v,t,e,z,r,rt⟩,h=>by
  subst e;subst z;unfold a5B at h;rw [List.lookup_cons];cases hg:f==g with
  |true=>rw [hg] at h;cases h;exact⟨v,rfl,r⟩
  |false=>rw [hg] at h;exact a8V rt h
theorem a95{f:Str}:∀{es:List (PV×PV)} {fs:List (Str×V)},a0J K F es fs->a5B f es=ζ->fs.lookup f=ζ
 |[],_,h,_=>by cases h;rfl
 |(k,q)::es,_,⟨g,v,t,e,z,r,rt⟩,h=>by
  subst e;subst z;unfold a5B at h;rw [List.lookup_cons];cases hg:f==g with
  |true=>rw [hg] at h;cases h
  |false=>rw [hg] at h;exact a95 rt h
theorem a6X:∀{fs:List Str} {qs:List PV} {vs:List V},j4 K F qs vs->a0J K F (b7V fs qs) (fs.zip vs)
 |[],qs,vs,_=>rfl
 |f::fs,[],vs,h=>by cases h;rfl
 |f::fs,q::qs,vs,⟨v,t,e,r,rt⟩=>by subst e;exact⟨f,v,_,rfl,rfl,r,a6X rt⟩
theorem b8b{x:Str}{es:List (PV×PV)}{v:V}(h:C0 K F (obV x es) v):∃a C dx fs,v= .ref a/\F a=ξ (.ins C dx fs)/\E7 K x C/\a0J K F es fs:=by
 rcases h with⟨a,ys,_,_,kk,w,t,_,z,_⟩|⟨a,ys,_,_,kk,w,t,_,z,_⟩|⟨y,t,e,h⟩|⟨y,m,fs,ho,hf⟩
 ·cases z
 ·cases z
 ·cases e;rcases h with⟨z,_⟩|⟨z,_⟩<;>cases z
 ·obtain⟨g,v',t,e,z,r,rt⟩:=hf;cases e;cases z;rcases ho with⟨rfl,a,C,dx,e,q,n⟩|⟨rfl,_⟩
  ·exact⟨a,C,dx,fs,e,q,n,rt⟩
  ·cases r
end
theorem b59{H:Hp}{a:AA}{o:HO}(h:H a=ξ o):m9 H a o=H:=by
 funext b;unfold m9;split
 ·rename_i e;rw [e,h]
 ·rfl
theorem a6V{f:Str}{v:V}:∀{gs:List (Str×V)},f∉gs.map (·.1)->a0U f v gs=gs++[(f,v)]
 |[],_=>rfl
 |(g,x)::r,h=>by
  simp only [AS,Ag,not_or] at h;show(if g=f then _ else _)=_
  rw [if_neg λe=>h.1 e.symm,a6V h.2];rfl
def tFl(K:AE):Nat->List Str->TS
 |_,[]=>b5Z
 |i,f::r=>b4a (c0E K (a0a 0) (a0a i) f) (tFl K (i+1) r)
theorem b2T{K:AE}{C:AA}(c:Cls K C){a dx:AA}{D:O7}{σ:L2.St}(h0:σ[0]?=ξ (ξ (.ref a))):∀(fs:List Str) (i:Nat) (gs:List (Str×V)) (ws:List V) (H:Hp),
 (∀f∈fs,x9 K C f)->fs.Nodup->(∀f∈fs,f∉gs.map (·.1))->gs.length+fs.length<=1000->ws.length=fs.length->(∀j w,ws[j]?=ξ w->σ[i+j]?=ξ (ξ w))->H a=ξ (.ins C dx gs)->
 D.nx σ (m9 H a (.ins C dx (gs++fs.zip ws)))->tFl K i fs D σ H
 |[],i,gs,ws,H,_,_,_,_,_,_,hH,k=>by
  rw [List.zip_nil_left,Ah,b59 hH] at k;exact k
 |f::fs,i,gs,ws,H,hn,nd,hd,hl,hw,hs,hH,k=>by
  cases ws with
  |nil=>cases hw
  |cons w ws=>
   have hl':gs.length+(fs.length+1)<=1000:=hl;refine⟨w,hs 0 w rfl,.ref a,h0,a,C,dx,gs,rfl,hH,c,hn f Aa,by lia, ?_⟩
   have hp:=a6V (v:=w) (hd f Aa);rw [hp];rw [List.nodup_cons] at nd;refine b2T c h0 fs (i+1) (gs++[(f,w)]) ws _ (λg hg=>hn g (AY _ hg)) nd.2 (λg hg=> ?_) (by simp only [AW,AU,Aj];lia) (Nat.succ.inj hw) (λj u hj=> ?_) i3 ?_
   ·simp only [Ao,AS,Av,An,List.mem_singleton,not_or];exact⟨hd g (AY _ hg),λe=>nd.1 (e▸hg)⟩
   ·have:=hs (j+1) u (by simpa using hj)
    rwa [show i+(j+1)=i+1+j by lia] at this
   ·rw [a5S,List.append_assoc];exact k
def spI(C:AA)(fs:List Str):Sp:=λvs H Q _=>∃a dx ws,vs= .ref a::ws/\ws.length=fs.length/\H a=ξ (.ins C dx [])/\Q .non (m9 H a (.ins C dx (fs.zip ws)))
theorem b8P{P:AJ}{w:AI}{K:AE}{mg:Str->Option AB}{base:Heap}{qual:Str}{st:Stmt}{f C:AA}{fd:FuncData}{ps fs:List Str}{k:Nat}(F:Fun K "__init__" qual st f fd)(S:g0 ps ps (b5 st))(hl:ps.length=fs.length+1)
 (c:Cls K C) (na:∀f∈fs,x9 K C f) (nd:fs.Nodup) (hs:fs.length<=1000)
 (hb:∀(cdv:AB) (A:AK) (outer:List Env) (s:AC) (H:Hp) (E:XK),y0 k (A.deeper (envOfC qual (b5 st) s.heap.objs.size f cdv))->PSs (P4 CX0 P w K mg base ps qual (b5 st) f cdv A outer s H E).nox (m7 st) (tFl K 1 fs)):
 G4 P w K mg base CX0 (k+1) f fd ps (spI C fs):=by
 refine F.ok S (λvs H Q E h=> ?_) (λcdv A outer s H vs Q E hr h=> ?_)
 ·obtain⟨a,dx,ws,rfl,h2,_⟩:=h
  rw [AU,h2,hl]
 ·obtain⟨a,dx,ws,rfl,h2,hH,q⟩:=h
  refine⟨_,hb cdv A outer s H E hr, ?_⟩
  refine b2T (σ:=Z4 ps (.ref a::ws)) c rfl fs 1 [] ws H na nd (λ_ _ z=>nomatch z) (by simpa using hs) h2 (λj u hj=> ?_) hH q
  unfold L2.Z4
  rw [Ar (by rw [AX,AU];have:=(Ac.mp hj).1;lia),Nat.add_comm,AS,List.getElem?_cons_succ,Am,hj]
  rfl
def F9(P:AJ)(w:AI)(K:AE)(mg:Str->Option AB)(base:Heap)(x:Str)(fs:List Str)(k:Nat):Prop:=
 ∃C f fd ps,Mk K C f/\G4 P w K mg base CX0 k f fd ps (spI C fs)/\mg x=ξ (.ref C)/\M4 K fd ps []/\E7 K x C
def a3o(x:Str)(fs:List Str)(m:MA):M:=λρ=>(m ρ).bind λqs=>ξ (.v (obV x (b7V fs qs)))
section
variable {X:Cx}
theorem a1R{k k':Nat}{fs:List Str}{x:Str}{p pos:Pos}{e:AF}{es:List AF}{m:MA}
 (d:F9 X.prog X.w X.K X.mg X.base x fs k) (hr:y0 k' X.A) (hk:k+1<=k') (hg:Gl X x) (hn:∀ρ qs,m ρ=ξ qs->qs.length=fs.length) (ha:EA X (e::es) m)
 (hdb:(x==("__debug__":Str))=false:=by decide) (he:AL (e::es) X.env=(false,eval e X.env)::AL es X.env:=by rfl) (hpl:(backTo pos (AL es X.env)).any (·.1)=false:=by rfl):
 EE X (.Call (.Name x p) (e::es) [] pos) (a3o x fs m):=by
 obtain⟨C,f,fd,ps,M,G,hm,hb,nm⟩:=d
 refine r9 (b7h M G (hr.mono hk) hg hm hb .nil b0x ha hdb he hpl) λσ H Q h0=>n8 h0 λF ρ r en em kk=> ?_
 obtain⟨qs,e1,e2⟩:=bind_some em
 cases e2
 refine⟨F,ρ,qs,en,e1,λvs F1 H1 x1 rl=> ?_⟩
 intro y dx hy hdx hne
 refine⟨y,dx,vs,by rw [Ah],by rw [rl.length,hn _ _ e1],i3,rfl, ?_⟩
 rw [a5S]
 have x2:O8 F1 H1 F1 (m9 H1 dx (.own y)):=O8.layH x1.fh hdx
 have hy2:m9 H1 dx (.own y) y=ζ:=by rw [g6 λz=>hne z.symm];exact hy
 have x3:O8 F1 (m9 H1 dx (.own y)) (m9 F1 y (.ins C dx (fs.zip vs))) (m9 (m9 H1 dx (.own y)) y (.ins C dx (fs.zip vs))):=O8.lay x2.fh hy2
 refine kk _ _ _ (u6.trans (x1.trans x2) (u6.val x3 ?_))
 refine .inr (.inr (.inr ⟨x,.bl false,fs.zip vs,.inl ⟨rfl,y,C,dx,rfl,i3,nm⟩,x,.bl false,_,rfl,rfl,rfl, ?_⟩))
 exact a0J.mono x3.f _ (a6X rl)
def a0t(K:AE)(tab:List Str)(f:Str):Prop:=∀x,tab.contains x=true->∀C,E7 K x C->Cls K C/\x9 K C f
def L4(tab:List Str)(f:Str)(r:c6):Option c6:=match r with
 | .v (.dict ((.str x,.bool false)::es))=>if tab.contains x=true then(a5B f es).map .v else ζ
 |_=>ζ
theorem P6{tab:List Str}{f:Str}{e:AF}{m:M}{pos:Pos}(T:a0t X.K tab f)(ha:EE X e m)(hb:attributeBase e f X.env (eval e X.env)=eval e X.env:=by rfl):EE X (.Attribute e f pos) (m1 (L4 tab f) m):=
 r9 (b9s ha hb) λσ H Q h0=>n8 h0 λF ρ r en em k=>by
  obtain⟨rx,e1,e2⟩:=bind_some em;refine⟨F,ρ,rx,en,e1,λv F1 H1 o=> ?_⟩;unfold L4 at e2;split at e2
  ·rename_i x es;split at e2
   ·rename_i hc;cases hp:a5B f es with
    |none=>rw [hp] at e2;cases e2
    |some q=>
     rw [hp] at e2;cases e2;obtain⟨a,C,dx,fs,rfl,ha,nm,hr⟩:=b8b o.rep;obtain⟨v,hl,rv⟩:=a8V hr hp;obtain⟨c,n⟩:=T x hc C nm;exact⟨a,C,dx,fs,v,rfl,o.x.fh _ _ ha,c,n,hl,k v F1 H1 (u6.val o.x rv)⟩
   ·cases e2
  ·cases e2
structure KC(K:AE)(x:Str)(C:AA):Prop where
 named:E7 K x C
 cls:Cls K C
end
section
variable {P:AJ}{w:AI}{K:AE}{mg:Str->Option AB}{base:Heap}
def Dm(K:AE)(x qual:Str)(st:Stmt)(f:AA):Prop:=PySem.W.isFn K (.ref f)=true/\∃fd,Fun K x qual st f fd
theorem b98{x qual:Str}{st:Stmt}{f:AA}{oc:AB}{od an:Option AA}{osl:Array (Option AB)}{kV doc pm cdv ct:AB}
 (l:K.lookup f=ξ ⟨oc,od,.func (PySem.W.fnOf x qual (y4 st) (m7 st) (b5 st) .none kV doc pm an cdv ct),osl⟩) (c:PySem.W.codeIn K cdv qual=true) (k:PySem.W.keepIn K (.ref f)=true) (i:PySem.W.isFn K (.ref f)=true):Dm K x qual st f:=⟨i,_,b4O l c k⟩
theorem U0{x qual:Str}{st:Stmt}{ps fs:List Str}{k:Nat}{f C:AA}(D:Dm K "__init__" qual st f)(S:g0 ps ps (b5 st))(hl:ps.length=fs.length+1)(c:KC K x C)(hm:mg x=ξ (.ref C))(M:Mk K C f)(na:∀f∈fs,x9 K C f)(nd:fs.Nodup)(hs:fs.length<=1000)
 (hi:∀(kV doc pm:AB) (an:Option AA) (cdv ct:AB) (us:List AB),us.length=ps.length->bindArgs (PySem.W.fnOf "__init__" qual (y4 st) (m7 st) (b5 st) .none kV doc pm an cdv ct) ⟨us,[]⟩=pure (ps.zip us))
 (hb:∀(cdv:AB) (A:AK) (outer:List Env) (s:AC) (H:Hp) (E:XK),y0 k (A.deeper (envOfC qual (b5 st) s.heap.objs.size f cdv))->PSs (P4 CX0 P w K mg base ps qual (b5 st) f cdv A outer s H E).nox (m7 st) (tFl K 1 fs)):
 F9 P w K mg base x fs (k+1):=
 let ⟨i,fd,F⟩:=D
 ⟨C,f,fd,ps,M,b8P F S hl c.cls na nd hs hb,hm,F.binds hi,c.named⟩
end
theorem P8{K:AE}{f:Str}:a0t K [] f:=λ_ h=>nomatch h
theorem v9{K:AE}{f x:Str}{C:AA}{t:List Str}(c:KC K x C)(n:x9 K C f)(h:a0t K t f):a0t K (x::t) f:=λy q D nm=>by
 rw [List.contains_cons,Bool.or_eq_true] at q;rcases q with q|q
 ·rw [beq_iff_eq.mp q] at nm;cases nm.uniq c.named;exact⟨c.cls,n⟩
 ·exact h y q D nm
section
variable {X:Cx}
end
def N1(st:Stmt)(j:Nat):Stmt:=match st with
 | .ClassDef _ _ _ body _ _ _ _ _ _ _=>body.getD j st
 |_=>st
open PySem PySem.Spec PyProof.Rows L2 PySem.W
section
variable {prog:AJ}{w:AI}{A:AK}{E:AB->AC->Prop}{s:AC}
end
end PU
set_option maxHeartbeats 3200000
namespace PU
open PySem PySem.Spec PyProof.Rows L2 PySem.W
section
variable {prog:AJ}{w:AI}{A:AK}{E:AB->AC->Prop}{s:AC}
end
set_option maxHeartbeats 1000000
section
variable {prog:AJ}{w:AI}{A:AK}{E:AB->AC->Prop}{s:AC}{it a:AA}{i ep:Nat}{es:Array (Int×AB)}
end
section
variable {prog:AJ}{w:AI}{A:AK}{E:AB->AC->Prop}{s:AC}{a:AA}{ep:Nat}{es:Array (Int×AB)}
end
section
variable {X:Cx}{pins:List (AA×Obj)}{σ:L2.St}{H:Hp}{s:AC}
end
open PySem PySem.Spec PyProof.Rows L2
theorem a42(k:n5):∀xs:List (n5×V),a0G (xs.map s1) [k]=a0G xs k
 |[]=>rfl
 |x::r=>by
  rw [AS]
  by_cases c:x.1=k
  ·rw [a0W (p:=x) c,a0W (p:=s1 x) (by show [x.1]=[k];rw [c])];rfl
  ·rw [a0V (p:=x) c,a0V (p:=s1 x) (by show ¬[x.1]=[k];intro h;exact c (List.cons.inj h).1),a42 k r]
theorem b4o(k:n5):∀xs:List (n5×V),((xs.map s1).any λkv=>decide (kv.1=[k]))=(xs.any λkv=>decide (kv.1=k))
 |[]=>rfl
 |x::r=>by
  rw [AS,List.any_cons,List.any_cons,b4o k r]
  congr 1
  show decide ([x.1]=[k])=decide (x.1=k);simp
theorem b2P(k:n5)(v:V):∀xs:List (n5×V),(xs.map λkv=>if kv.1=k then(kv.1,v) else kv).map s1=(xs.map s1).map λkv=>if kv.1=[k] then(kv.1,v) else kv
 |[]=>rfl
 |x::r=>by
  rw [AS,AS,AS,AS,b2P k v r]
  congr 1
  by_cases c:x.1=k
  ·rw [if_pos c,if_pos (show(s1 x).1=[k] by show [x.1]=[k];rw [c])];rfl
  ·rw [if_neg c,if_neg (show ¬(s1 x).1=[k] by show ¬[x.1]=[k];intro h;exact c (List.cons.inj h).1)]
theorem b9E(k:n5)(v:V)(xs:List (n5×V)):(a2J xs k v).map s1=a2J (xs.map s1) [k] v:=by
 unfold a2J;rw [b4o];split
 ·exact b2P k v xs
 ·rw [Ao];rfl
theorem u6.txt{K:AE}{F H:Hp}{a:AA}(s:j2 F H)(n:H a=ζ):u6 K F H F (m9 H a (.dK [])) (.ref a) (.ow (.txt [])):=
 ⟨O8.layH s n,⟨a,[],rfl,s.free n,i3,rfl⟩,λ_ _ _ e=>by cases e;exact n⟩
theorem a11{K:AE}{F H:Hp}{r:c6}{x:Str}{v:V}(e:a85 r=ξ x)(h:O9 K F H v r):v=kV (.inr x):=by
 unfold a85 at e;split at e
 ·cases e;exact h
 ·cases e
section
variable {X:Cx}
def b6U:M:=λ_=>ξ (.ow (.txt []))
theorem b1m{pos:Pos}:EE X (.Dict [] [] pos) b6U:=
 r9 b5A λσ H Q h0=>n8 h0 λF ρ r en e k=>by
  cases e;exact λd hd=>k _ _ _ (u6.txt en.fh hd)
def b2Y(i:Nat)(ρ:b0)(p:PV)(x:Str):Option Fl:=match ρ[i]? with
 |some (ξ (.ow (.txt kvs)))=>if kvs.length<AM then ξ (.nx (ρ.set i (ξ (.ow (.txt (b5K kvs [.inr x] p)))))) else ζ
 |_=>ζ
def a5l(i:Nat)(mk mv:M):MS:=λρ=>((mv ρ).bind c6.toVal).bind λp=>((mk ρ).bind a85).bind (b2Y i ρ p)
theorem a8U(i:Nat){x:Str}{p tp2 pos:Pos}{ek e:AF}{mk mv:M}(hu:X.A.units+64<cLine)(hx:PE X (.Name x p) (a0a i))(hi:EE X ek mk)(he:EE X e mv)
 (hs:swapsWith e (ξ (.Subscript (.Name x p) ek tp2)) pos.line X.env=pure false:=by rfl):ES X (.Assign [.Subscript (.Name x p) ek tp2] e pos) (a5l i mk mv):=
 w8 (b7l (by lia) hx hi he hs) λD σ H h0=>K8 h0 λF0 H0 F ρ fl so e fin=>by
  obtain⟨q,e1,e⟩:=bind_some e;obtain⟨r,e2,e3⟩:=bind_some e1;obtain⟨k,e4,e⟩:=bind_some e;obtain⟨rk,e4,e5⟩:=bind_some e4;refine⟨F,ρ,r,so.e,e2,λv F1 H1 o=> ?_⟩;obtain⟨F2,o2⟩:=o.toVal e3;have so2:=so.ext o2.x;unfold b2Y at e;split at e
  ·rename_i kvs eo;split at e
   ·rename_i hl;cases e;obtain⟨w,hw1,a,xs,rfl,fa,ha',rl⟩:=so2.e.at_ i _ eo;refine⟨.ref a,hw1,F2,ρ,rk,so2.e,e4,λy F3 H3 o3=> ?_⟩;cases a11 e5 o3.rep;have ha3:=o3.x.h _ _ ha';have so3:=so2.ext o3.x;have hlen:xs.length=kvs.length:=by have:=rl.length;rwa [AX] at this
    refine⟨a,_,rfl,b4f.k (k:= .inr k) ha3 (by rw [hlen];exact hl), ?_⟩
    refine fin σ _ _ (o2.x.f.trans o3.x.f) (so3.putT eo hw1 ?_);rw [b9E];exact(A4.mono o3.x.f _ rl).put (C0.mono o3.x.f _ o2.rep)
   ·cases e
  ·cases e
def c0P(neg:Bool)(i:Nat)(ρ:b0)(x:Str):Option c6:=match ρ[i]? with
 |some (ξ (.ow (.txt kvs)))=>ξ (.v (.bool (if neg then !(U9 kvs [.inr x]).isSome else(U9 kvs [.inr x]).isSome)))
 |_=>ζ
def a4N(neg:Bool)(i:Nat)(mk:M):M:=λρ=>((mk ρ).bind a85).bind (c0P neg i ρ)
theorem b2W{i:Nat}{mk:M}{neg:Bool}{σ:L2.St}{H:Hp}{Q:VK}(h:tM X.K (a4N neg i mk) σ H Q):
 tM X.K mk σ H λy H1=>a0a i σ H1 λx H2=>∃a o,x= .ref a/\a1y H2 a y o/\Q (.bl (if neg then !o.isSome else o.isSome)) H2:=by
 obtain⟨F,ρ,r,en,e,k⟩:=h
 obtain⟨kk,e4,e⟩:=bind_some e
 obtain⟨rk,e4,e5⟩:=bind_some e4
 unfold c0P at e
 split at e
 ·rename_i kvs eo
  cases e
  refine⟨F,ρ,rk,en,e4,λy F3 H3 o3=> ?_⟩
  cases a11 e5 o3.rep
  obtain⟨w,hw1,a,xs,rfl,fa,ha',rl⟩:=(en.ext o3.x).at_ i _ eo
  refine⟨.ref a,hw1,a,a0G xs (.inr kk),rfl,a1y.k ha', ?_⟩
  have:=rl.isSome (k:=[.inr kk])
  rw [a42] at this
  rw [this]
  exact k _ _ _ (u6.val o3.x rfl)
 ·cases e
theorem b8J(i:Nat){x:Str}{p pos:Pos}{ek:AF}{mk:M}(hu:X.A.units+64<cLine)(hx:PE X (.Name x p) (a0a i))(hi:EE X ek mk)(hm:behindInMarks .In (.Name x p)=false):ET X (.Compare ek [.In] [.Name x p] pos) (r6 (a4N false i mk)):=
 a4T (b1V (b9p (by lia) hi hx) hm) λσ H Q h=>b5Y (λ_ _ _ h=>b2W h) h
theorem a8c(i:Nat){x:Str}{p pos:Pos}{ek:AF}{mk:M}(hu:X.A.units+64<cLine)(hx:PE X (.Name x p) (a0a i))(hi:EE X ek mk)(hm:behindInMarks .NotIn (.Name x p)=false):ET X (.Compare ek [.NotIn] [.Name x p] pos) (r6 (a4N true i mk)):=
 a4T (b1V (a8q (by lia) hi hx) hm) λσ H Q h=>b5Y (λ_ _ _ h=>b2W h) h
end
section
variable {prog:AJ}{w:AI}{K:Type}[DecidableEq K]{knd:KeyKind prog w K}{A:AK}{E:AB->AC->Prop}{s:AC}
end
section
variable {prog:AJ}{w:AI}{A:AK}{E:AB->AC->Prop}{s:AC}
end
end PU
namespace TS
open PySem PySem.Spec PyProof.Rows L2 PU
section
variable {prog:AJ}{w:AI}{A:AK}{E:AB->AC->Prop}{s:AC}
variable {κ:SortKind}{S:Heap->Keyed->Prop}{R:Heap->Keyed->Keyed->Bool}
end
end TS
namespace PU
open PySem PySem.Spec PyProof.Rows L2 PySem.W
section
variable {X:Cx}{pins:List (AA×Obj)}{σ:L2.St}{H H':Hp}{s:AC}{h':Heap}
end
section
variable {X:Cx}
end
open PySem PySem.Spec PyProof.Rows L2
section
variable {X:Cx}{pins:List (AA×Obj)}{σ:L2.St}{H:Hp}{s:AC}{a:AA}{kvs:List (n5×V)}{k:n5}{v:V}{u r:AB}{A:AK}{E:AB->AC->Prop}
end
section
variable {X:Cx}{pins:List (AA×Obj)}{σ:L2.St}{A:AK}{R:Result->AC->Prop}
end
section
variable {X:Cx}
end
abbrev tv(kvs:List (List n5×PV)):PV:= .dict (kvs.map λkv=>(PyData.tuple (kv.1.map kP),kv.2))
def b0v(kvs:List (List n5×PV)):Bool:=kvs.all λkv=>kv.1.length==1
def tvw(i:Nat)(ρ:b0):Option (List (List n5×PV)):=match ρ[i]? with
 |some (ξ (.v (.dict es)))=>(unE es).bind λkvs=>if b0v kvs=true then ξ kvs else ζ
 |_=>ζ
theorem b56{i:Nat}{ρ:b0}{kvs:List (List n5×PV)}(h:ρ[i]?=ξ (ξ (.v (tv kvs))))(ho:b0v kvs=true):tvw i ρ=ξ kvs:=by
 unfold tvw;rw [h];show(unE _).bind _=_;rw [b2a,AR,if_pos ho]
theorem b19{K:AE}{F H:Hp}{σ:L2.St}{ρ:b0}(en:A5 K F H σ ρ){i:Nat}{kvs:List (List n5×PV)}(h:tvw i ρ=ξ kvs):∃a xs,σ[i]?=ξ (ξ (.ref a))/\F a=ξ (.dK xs)/\A4 K F kvs (xs.map s1):=by
 unfold tvw at h;split at h
 ·rename_i es eo;obtain⟨kvs',e1,h⟩:=bind_some h;split at h
  ·rename_i ho;cases h;obtain⟨v,hv,hr⟩:=en.at_ i _ eo;rcases hr with⟨a,ys,rfl,ha,hr⟩|⟨a,xs,rfl,ha,hr⟩|⟨x,t,e,_⟩|⟨x,m,fs,_,hr⟩
   ·obtain⟨kvs',h1,h2⟩:=a4p hr;rw [e1] at h1;cases h1;exact⟨a,ys,hv,ha,h2⟩
   ·exfalso
    obtain⟨kvs',h1,h2⟩:=a4p hr;rw [e1] at h1;cases h1;cases kvs with
    |nil=>cases h2
    |cons f fs=>
     obtain⟨k,p⟩:=f;obtain⟨v,t,e,_⟩:=h2;cases e;simp [b0v] at ho
   ·subst e;simp [unE] at e1
   ·cases es with
    |nil=>cases hr
    |cons f es=>obtain⟨k,p⟩:=f;obtain⟨_,_,_,_,z,_⟩:=hr;subst z;simp [unE] at e1
  ·cases h
 ·cases h
section
variable {X:Cx}
def a9a(i:Nat)(mk:M):M:=λρ=>((mk ρ).bind a85).bind λx=>(tvw i ρ).bind λkvs=>(U9 kvs [.inr x]).map .v
theorem b4y(i:Nat){x:Str}{p pos:Pos}{ek:AF}{mk:M}(hu:X.A.units+64<cLine)(hx:PE X (.Name x p) (a0a i))(hi:EE X ek mk)(hs:b8k ek:=by intro _ _;rfl):EE X (.Subscript (.Name x p) ek pos) (a9a i mk):=
 r9 (b7g (by lia) hx hi hs) λσ H Q h0=>n8 h0 λF ρ r en e k=>by
  obtain⟨kk,e4,e⟩:=bind_some e;obtain⟨rk,e4,e5⟩:=bind_some e4;obtain⟨kvs,e3,e⟩:=bind_some e;cases hv:U9 kvs [.inr kk] with
  |none=>rw [hv] at e;cases e
  |some q=>
   rw [hv] at e;cases e;obtain⟨a,xs,hw1,ha',rl⟩:=b19 en e3;obtain⟨y,hy,ry⟩:=(rl.val (k:=[.inr kk])).1 q hv;rw [a42] at hy;refine⟨.ref a,hw1,F,ρ,rk,en,e4,λz F3 H3 o3=> ?_⟩;cases a11 e5 o3.rep;exact⟨a,y,rfl,by rw [<-hy];exact a1y.k (o3.x.h _ _ (en.fh _ _ ha')),k _ _ _ (u6.val o3.x (C0.mono o3.x.f _ ry))⟩
end
mutual
def nk:PV->Bool
 | .list ps=>nkL ps
 | .tuple ps=>nkL ps
 | .dict _=>false
 |_=>true
def nkL:List PV->Bool
 |[]=>true
 |p::ps=>nk p && nkL ps
end
def nkD:List (List n5×PV)->Bool
 |[]=>true
 |(_,p)::r=>nk p && nkD r
def c6.noK:c6->Bool
 | .v p=>nk p
 | .ow (.lst ps)=>nkL ps
 | .ow (.dct kvs)=>nkD kvs
 | .ow (.txt kvs)=>nkD kvs
 | .bo _=>false
section
variable {K:AE}{F:Hp}{a:AA}{xs:List (n5×V)}
mutual
theorem a4e(ha:F a=ξ (.dK xs)):∀(p:PV) {v:V},C0 K F p v->nk p=true->C0 K (drp F a) p v
 | .none,_,h,_=>h
 | .bool _,_,h,_=>h
 | .int _,_,h,_=>h
 | .str _,_,h,_=>h
 | .list ps,_,⟨b,ys,e,q,r⟩,n=>⟨b,ys,e,(by
  rcases q with(q|⟨o,q⟩)|q
  ·exact .inl (.inl (by rw [U3 (b0l q ha (λz=>nomatch z))];exact q))
  ·exact .inl (.inr ⟨o,by rw [U3 (b0l q ha (λz=>nomatch z))];exact q⟩)
  ·exact .inr q),a2B ha ps r (by simpa [nk] using n)⟩
 | .tuple ps,_,⟨b,ys,e,q,r⟩,n=>⟨b,ys,e,(by
  rcases q with q|q
  ·exact .inl (by rw [U3 (b0l q ha (λz=>nomatch z))];exact q)
  ·exact .inr q),a2B ha ps r (by simpa [nk] using n)⟩
 | .dict kvs,_,h,n=>by simp [nk] at n
theorem a2B(ha:F a=ξ (.dK xs)):∀(ps:List PV) {vs:List V},j4 K F ps vs->nkL ps=true->j4 K (drp F a) ps vs
 |[],_,h,_=>h
 |p::ps,_,⟨v,r,e,q,t⟩,n=>by
  simp only [nkL,Bool.and_eq_true] at n;exact⟨v,r,e,a4e ha p q n.1,a2B ha ps t n.2⟩
end
theorem a4U(ha:F a=ξ (.dK xs)):∀(kvs:List (List n5×PV)) {ys:List (List n5×V)},A4 K F kvs ys->nkD kvs=true->A4 K (drp F a) kvs ys
 |[],_,h,_=>h
 |(k,p)::r,_,⟨v,t,e,q,h⟩,n=>by
  simp only [nkD,Bool.and_eq_true] at n;exact⟨v,t,e,a4e ha p q n.1,a4U ha r h n.2⟩
theorem b31{H:Hp}{v:V}(ha:F a=ξ (.dK xs)):∀{r:c6},O9 K F H v r->r.noK=true->O9 K (drp F a) H v r
 | .v p,h,n=>a4e ha p h n
 | .ow (.lst ps),⟨b,ys,e,f,q,r⟩,n=>⟨b,ys,e,a6a f,q,a2B ha ps r n⟩
 | .ow (.dct kvs),⟨b,ys,e,f,q,r⟩,n=>⟨b,ys,e,a6a f,q,a4U ha kvs r n⟩
 | .ow (.txt kvs),⟨b,ys,e,f,q,r⟩,n=>⟨b,ys,e,a6a f,q,a4U ha kvs r n⟩
 | .bo _,_,n=>nomatch n
end
theorem a3l{K:AE}{F2 H1 F3 H3:Hp}{a:AA}{xs:List (n5×V)}{u:V}{r:c6}(fa:F2 a=ζ)(o3:u6 K (m9 F2 a (.dK xs)) H1 F3 H3 u r)(c:r.noK=true):u6 K F2 H1 (drp F3 a) H3 u r:=by
 have up:j2 F2 (m9 F2 a (.dK xs)):=D2 fa;refine⟨⟨λb o z=> ?_,o3.x.h,λb o z=> ?_,λb o z y t=> ?_,λb w u z=> ?_⟩,b31 (o3.x.f _ _ i3) o3.rep c,o3.fr⟩
 ·have hb:b≠a:=i5 z fa;rw [U3 hb];exact o3.x.f _ _ (up _ _ z)
 ·by_cases hb:b=a
  ·subst hb;rw [a0M] at z;cases z
  ·rw [U3 hb] at z;exact o3.x.fh _ _ z
 ·by_cases hb:b=a
  ·subst hb;exact a0M
  ·rw [U3 hb];exact o3.x.nw b o (by rw [g6 hb];exact z) y t
 ·by_cases hb:b=a
  ·subst hb;rw [a0M] at z;cases z
  ·rw [U3 hb] at z;have:=o3.x.nf _ _ _ z;rw [g6 hb] at this;exact this
theorem b5b{F2 H1:Hp}{a:AA}{xs:List (n5×V)}(fh:j2 F2 H1)(ha:H1 a=ξ (.dK xs)):j2 (m9 F2 a (.dK xs)) H1:=λb o z=>by
 by_cases hb:b=a
 ·subst hb;rw [i3] at z;cases z;exact ha
 ·rw [g6 hb] at z;exact fh _ _ z
theorem a4J{K:AE}{F2:Hp}{a:AA}{xs:List (n5×V)}{kvs:List (List n5×PV)}(fa:F2 a=ζ)(rl:A4 K F2 kvs (xs.map s1)):C0 K (m9 F2 a (.dK xs)) (tv kvs) (.ref a):=Or.inl ⟨a,xs,rfl,i3,a2D.of (D2 fa) rl⟩
def S5(g:List PV->Option c6)(i:Nat)(m:M):M:=λρ=>((m ρ).bind c6.toVal).bind λp=>match ρ[i]? with
 |some (ξ (.ow (.txt kvs)))=>(g [p,tv kvs]).bind λr=>if r.noK=true then ξ r else ζ
 |_=>ζ
section
variable {X:Cx}
theorem a9Y(i:Nat){k k':Nat}{pa pb:Str}{g:List PV->Option c6}{x y:Str}{p py pos:Pos}{e:AF}{m:M}
 (d:z8 X.prog X.w X.K X.mg X.base x [pa,pb] k g) (hr:y0 k' X.A) (hk:k<=k') (hg:Gl X x) (ha:EE X e m) (hy:PE X (.Name y py) (a0a i))
 (hdb:(x==("__debug__":Str))=false:=by decide) (he:AL [e,.Name y py] X.env=(false,eval e X.env)::AL [.Name y py] X.env:=by rfl) (he2:AL [.Name y py] X.env=(false,eval (.Name y py) X.env)::AL [] X.env:=by rfl)
 (hpl:(backTo pos (AL [.Name y py] X.env)).any (·.1)=false:=by rfl):
 EE X (.Call (.Name x p) [e,.Name y py] [] pos) (S5 g i m):=by
 obtain⟨f,fd,G,h1,h2,h3⟩:=d
 refine r9 (a9v G (hr.mono hk) hg h1 h2 h3 .nil b0x (p8 ha (p8 hy O4 he2) he) hdb he hpl) λσ H Q h0=>n8 h0 λF ρ r en hm kq=> ?_
 obtain⟨q,e1,hm⟩:=bind_some hm
 obtain⟨rq,e2,e3'⟩:=bind_some e1
 split at hm
 ·rename_i kvs eo
  obtain⟨r',e7,hm⟩:=bind_some hm
  split at hm
  ·rename_i c
   cases hm
   refine⟨F,ρ,rq,en,e2,λv F1 H1 o1=> ?_⟩
   obtain⟨F2,o2⟩:=o1.toVal e3'
   have en2:=en.ext o2.x
   obtain⟨w,hw,a,xs,rfl,fa,ha',rl⟩:=en2.at_ i _ eo
   refine⟨.ref a,hw, ?_⟩
   show spP X.K 2 g ([v,.ref a]++[]) H1 Q E0
   rw [Ah]
   have up:j2 F2 (m9 F2 a (.dK xs)):=D2 fa
   exact⟨m9 F2 a (.dK xs),[q,tv kvs],_,b5b o2.x.fh ha',⟨v,[.ref a],rfl,C0.mono up _ o2.rep,.ref a,[],rfl,a4J fa rl,rfl⟩,rfl,e7,λu F5 H5 o5=>kq u (drp F5 a) H5 (u6.trans o2.x (a3l fa o5 c))⟩
  ·cases hm
 ·cases hm
end
theorem b0g(g:List PV->Option c6)(i:Nat)(m:M)(ρ:b0)(kvs:List (List n5×PV))(h:ρ[i]?=ξ (ξ (.ow (.txt kvs)))):S5 g i m ρ=((m ρ).bind c6.toVal).bind λp=>(g [p,tv kvs]).bind λr=>if r.noK=true then ξ r else ζ:=by unfold S5;rw [h]
section
variable {prog:AJ}{w:AI}{A:AK}{E:AB->AC->Prop}{s:AC}{z TI TO i1 i2:AA}{n1 n2 i:Nat}{P1 P2:Nat->AB->Prop}{St1 St2:Nat->Heap->Prop}{a b:AB}
end
section
variable {X:Cx}
end
section
variable {prog:AJ}{w:AI}{K:Type}[DecidableEq K]{knd:KeyKind prog w K}{A:AK}{E:AB->AC->Prop}{s:AC}
end
section
variable {X:Cx}
end
section
variable {X:Cx}{tg:AF}
end
set_option maxHeartbeats 3200000
section
variable {prog:AJ}{w:AI}{A:AK}{E:AB->AC->Prop}{s:AC}
end
end PU
set_option maxHeartbeats 1000000
namespace PU
open PySem PySem.Spec PyProof.Rows L2
section
variable {X:Cx}
def a5h:List PV->Option (List Int)
 |[]=>ξ []
 | .int i::r=>(a5h r).map (i::·)
 |_=>ζ
def a0L(is:List Int):Int:=is.getD (argBest (λi j=>decide (is.getD i 0>is.getD j 0)) (is.length - 1)) 0
def b4U(x:c6):Option c6:=match x with
 | .ow (.lst ps)=>(a5h ps).bind λis=>if 0<is.length then ξ (.v (.int (a0L is))) else ζ
 |_=>ζ
theorem a3j{K:AE}{F:Hp}:∀{ps:List PV} {is:List Int} {xs:List V},a5h ps=ξ is->j4 K F ps xs->xs=is.map V.int
 |[],_,_,h,r=>by cases h;cases r;rfl
 |p::ps,is,xs,h,⟨v,vs,e,rv,rt⟩=>by
  subst e;cases p with
  |int z=>
   cases hs:a5h ps with
   |none=>simp [a5h,hs] at h
   |some is'=>
    have h:is=z::is':=by simpa [a5h,hs] using h.symm
    subst h;have e1:=a3j hs rt;cases rv;rw [e1];rfl
  |_=>simp [a5h] at h
theorem a3A:∀{is:List Int} {its:List AB},l9 (is.map V.int) its->∃xs:List (Int×Tok),xs.map (·.1)=is/\its=xs.map λp=>Value.int p.1 p.2
 |[],_,.nil=>⟨[],rfl,rfl⟩
 |i::is,_,.cons r t=>by
  obtain⟨xs,h1,h2⟩:=a3A t;obtain⟨u,rfl⟩:=r;exact⟨(i,u)::xs,by rw [AS,h1],by rw [AS,h2]⟩
theorem b6o(hc:X.calm=true):M5 X (.builtin "max") (rC1 X.K b4U):=by
 ext e
 obtain⟨u,rfl,ru⟩:=a4q rv;unfold b4U at h2;split at h2
 ·rename_i ps;obtain⟨is,e1,h2⟩:=bind_some h2;split at h2
  ·rename_i c;cases h2;obtain⟨a,ys,rfl,fa,ha,rl⟩:=h1;cases ru;have ey:=a3j e1 rl;subst ey;obtain⟨_,its,n,vv,e⟩:=(show C7 X.prog X.w H s.heap a (.lst (is.map V.int)) from I.hok a _ ha);obtain⟨zs,hz1,hz2⟩:=a3A vv;have hit:its.toArray=intItems zs.toArray:=by rw [hz2];simp [intItems]
   have hat:∀i,numAt zs.toArray i=is.getD i 0:=λi=>by
    unfold numAt;rw [<-hz1,List.getD_eq_getElem?_getD,Am];simp
   have hlen:zs.length=is.length:=by rw [<-hz1,AX]
   refine max_intList (l:=a) (xs:=zs.toArray) (I.ok.hd hc) ⟨_,e,rfl,n,by rw [hit]⟩ (by simp;lia) λv h' tk hv hk=> ?_
   obtain⟨t,rfl⟩:=intItems_at hv;have hb:numAt zs.toArray (argBest (λi j=>decide (numAt zs.toArray i>numAt zs.toArray j)) (zs.toArray.size - 1))=a0L is:=by
    unfold a0L;rw [hat,show zs.toArray.size=is.length by simp [hlen]]
    congr 2
    funext i j
    rw [hat,hat]
   rw [hb];exact⟨.int (a0L is),H,I.kept (t':=tk) hk,⟨t,rfl⟩,k _ F H (u6.here s0 rfl)⟩
  ·cases h2
 ·cases h2
theorem a6e{st:List Stmt}:ESs X st (λ_=>ζ):=λpins s σ H D I h=>by
 obtain⟨F0,H0,F,ρ,fl,so,e,fin⟩:=h;cases e
end
end PU
set_option maxHeartbeats 2000000
namespace PU
open PySem PySem.Spec PyProof.Rows L2 PySem.W
section
variable {prog:AJ}{w:AI}{A:AK}{E:AB->AC->Prop}{s:AC}
end
section
variable {X:Cx}
def a5O(i:Nat)(mk md:M):M:=λρ=>((mk ρ).bind a85).bind λx=>((md ρ).bind c6.toVal).bind λd=>(tvw i ρ).bind λkvs=>ξ (.v ((U9 kvs [.inr x]).getD d))
theorem b3l(i:Nat){x:Str}{p apos cpos:Pos}{ek f:AF}{mk:M}{md:M}(hu:X.A.units+64<cLine)(hx:PE X (.Name x p) (a0a i))(hi:EE X ek mk)(hf:EE X f md)
 (m:M2 X (.Name x p) "get" apos ek f cpos:=by exact⟨rfl,rfl,rfl,rfl⟩):EE X (.Call (.Attribute (.Name x p) "get" apos) [ek,f] [] cpos) (a5O i mk md):=
 r9 (b5z (by lia) hx hi hf m) λσ H Q h0=>n8 h0 λF ρ r en e k=>by
  obtain⟨kk,e4,e⟩:=bind_some e;obtain⟨rk,e4,e5⟩:=bind_some e4;obtain⟨d,e6,e⟩:=bind_some e;obtain⟨rd,e6,e7⟩:=bind_some e6;obtain⟨kvs,e3,e⟩:=bind_some e;cases e;obtain⟨a,xs,hw1,ha',rl⟩:=b19 en e3;have hH:=en.fh _ _ ha';refine⟨.ref a,hw1,a,rfl,.inl ⟨xs,.inl hH⟩,F,ρ,rk,en,e4,λy F3 H3 o3=> ?_⟩;cases a11 e5 o3.rep;refine⟨_,ρ,rd,en.ext o3.x,e6,λz F4 H4 o4=> ?_⟩;obtain⟨F5,o5⟩:=o4.toVal e7;have x5:=o3.x.trans o5.x;refine⟨_,a1y.k (k:= .inr kk) (o5.x.h _ _ (o3.x.h _ _ hH)),k _ _ _ (u6.val x5 ?_)⟩;cases hv:U9 kvs [.inr kk] with
  |none=>
   have:=(rl.val (k:=[.inr kk])).2 hv;rw [a42] at this;rw [this];exact o5.rep
  |some q=>
   obtain⟨y,hy,ry⟩:=(rl.val (k:=[.inr kk])).1 q hv;rw [a42] at hy;rw [hy];exact C0.mono x5.f _ ry
end
section
variable {P:AJ}{w:AI}{K:AE}{mg:Str->Option AB}{base:Heap}
theorem b6C{x:Str}{st:Stmt}{N ps:List Str}{k:Nat}{m:MX}(D:Df K mg x st)(S:g0 N ps (b5 st))
 (hi:∀(kV doc pm:AB) (an:Option AA) (cdv ct:AB) (us:List AB),us.length=ps.length->bindArgs (PySem.W.fnOf x x (y4 st) (m7 st) (b5 st) .none kV doc pm an cdv ct) ⟨us,[]⟩=pure (ps.zip us))
 (hb:∀(f:AA) (cdv:AB) (A:AK) (outer:List Env) (s:AC) (H:Hp) (E:XK),y0 k (A.deeper (envOfC x (b5 st) s.heap.objs.size f cdv))->C6 (CX1 P w) (P4 (CX1 P w) P w K mg base N x (b5 st) f cdv A outer s H E) (λ_=>E)->EXs (P4 (CX1 P w) P w K mg base N x (b5 st) f cdv A outer s H E) (λ_=>E) (m7 st) m):
 G7 P w K mg base x ps (k+1) (A7 (N.length - ps.length) m):=
 let ⟨f,fd,F,hm⟩:=D
 ⟨f,fd,b4M F S λcdv A outer s H E hr=>hb f cdv A outer s H E hr λpins σ H s e s' I h=>a6y pins σ H s e s' I h,hm,F.kp,F.binds hi⟩
end
theorem c0T{l:PySem.W.OpenLaw}{q:AJ}{loose:List Str}{XP:(Str->Option AB)->Heap->Prop}{YP:AI->Heap->Prop}{d:DefRec}{K:Params->AE}{x:Str}{k:Nat}(hk:k<=200)(hn:l.most=ξ 63)(hdf:d.params.defaults=[])
 (hY:∀(w:AI) (h:Heap),YP w h->(K w.params).In h)
 (F:∀(w:AI) (mg:Str->Option AB) (fa:AA) (h:Heap),(K w.params).In h->h.Ns mainGlobals mg->mg d.name=ξ (.ref fa)->
  ∃fd:FuncData,(∀(s:AC) (u:AB),BindsTo s fd ⟨[u],[]⟩ [(x,u)])/\∀base:Heap,(K w.params).In base->base.Ns mainGlobals mg->G4 l.prog w (K w.params) mg base CX0 k fa fd [x] (b0M (K w.params))):
 PySem.W.WalkO q loose XP YP l.row.toRowW d [] (λf vs=>PySem.call f vs):=
 L2.b7P (n:=63) (k:=200) (x:=x) (CX:=λ_=>CX0) (sp:=λw=>b0M (K w.params)) hn (by decide) hdf ⟨rfl,by decide,by decide⟩ hY (λw mg fa h a b c=>let ⟨fd,h1,h2⟩:=F w mg fa h a b c;⟨fd,h1,λbase x y=>(h2 base x y).mono hk⟩) (λ_ _ a ns hl _ hS=>⟨a,ns,rfl,hS,hl,λ_=>rfl⟩) λ_ _ _ _ _ z=>z
theorem c0j{K:AE}{x:Str}{C:AA}(e:PySem.W.nsIn K mainGlobals x=ξ (ξ (.ref C)))(q:G3 K C x=true)(o1:PySem.W.plainGet K C Str.empty=true)(o2:PySem.W.hasDictIn K C=true)(o3:PySem.W.plainOver K C=true)
 (o4:PySem.W.findIn K (.ref C) "__setattr__"=ξ (ξ (.builtin "object.__setattr__"))):KC K x C:=by
 refine⟨⟨e, ?_⟩,o1,o2,o3,o4⟩
 unfold G3 at q
 split at q
 ·rename_i oc od cd sl hk
  exact⟨oc,od,cd,sl,hk,beq_iff_eq.mp q⟩
 ·cases q
open PySem PySem.Spec PyProof.Rows L2
end PU
set_option maxHeartbeats 1000000
namespace ZL
open PySem PySem.Spec PyProof.Rows L2 PU ZT
section
variable {X:Cx}
end
end ZL
namespace PU
open PySem PySem.Spec PyProof.Rows L2
section
variable {X:Cx}
end
def a2S(x:c6):Option c6:=match x with
 | .v (.tuple ps)=>(a5h ps).bind λis=>if 0<is.length then ξ (.v (.int (a0L is))) else ζ
 |x=>b4U x
theorem b6X{prog:AJ}{w:AI}{A:AK}{E:AB->AC->Prop}{s:AC}{t:AA}{xs:Array (Int×Tok)}{Q:AB->AC->Prop}(hh:A.handled=ζ)(ht:s.heap.IsTuple t (intItems xs))(hn:0<xs.size)
 (h:∀v h' tk,(intItems xs)[argBest (λi j=>decide (numAt xs i>numAt xs j)) (xs.size - 1)]?=ξ v->(∀b o,s.heap.get? b=ξ o->h'.get? b=ξ o)->Q v {s with heap:=h',toks:=tk}):
 AH (model prog w) A (call (.builtin "max") [.ref t]) Q E s:=by
 obtain⟨o,ho,_⟩:=id ht
 have ne:t≠s.heap.objs.size:=AZ (AT ho)
 have hz:(intItems xs).size=xs.size:=by simp [intItems]
 refine call_max_walk (wpAny_pyIter_tuple ht ⟨s.heap.objs.size,_,_,_,_,_,_,rfl,Walks.tuple (A:=A.in1) hh s.heap.objs.size t ne (intItems xs),⟨⟨_,Ak _ rfl,rfl,rfl⟩,ht.at λo e=>AV _ e⟩,λb hb=> ?_,by rw [hz];exact hn,CmpOf.ints_gt (numAt xs) (λ_ _=>intItems_at),λv h' tk hP hk=> ?_⟩)
 ·rcases Ag.mp hb with rfl|hb
  ·exact AT (Ak _ rfl)
  ·rw [List.mem_singleton.mp hb];exact AT (AV _ ho)
 ·exact h v h' tk (by rw [hz] at hP;exact hP) λb o e=>hk b o (λhb=>absurd (AT e) (List.mem_singleton.mp hb▸Nat.lt_irrefl _)) (AV _ e)
section
variable {X:Cx}
theorem a8P(hc:X.calm=true):M5 X (.builtin "max") (rC1 X.K a2S):=by
 ext e
 unfold a2S at h2;split at h2
 ·rename_i ps;obtain⟨u,rfl,ru⟩:=a4q rv;obtain⟨is,e1,h2⟩:=bind_some h2;split at h2
  ·rename_i c;cases h2;obtain⟨a,ys,rfl,hq,rl⟩:=(show C0 X.K F (.tuple ps) x from h1);cases ru;have ey:=a3j e1 rl;subst ey;obtain⟨its,rvs,pt,_⟩:=I.tuple (t4 s0 hq.sq);obtain⟨zs,hz1,hz2⟩:=a3A rvs;have hit:its.toArray=intItems zs.toArray:=by rw [hz2];simp [intItems]
   have hat:∀i,numAt zs.toArray i=is.getD i 0:=λi=>by
    unfold numAt;rw [<-hz1,List.getD_eq_getElem?_getD,Am];simp
   have hlen:zs.length=is.length:=by rw [<-hz1,AX]
   rw [hit] at pt;refine b6X (t:=a) (xs:=zs.toArray) (I.ok.hd hc) pt (by simp;lia) λv h' tk hv hk=> ?_
   obtain⟨t,rfl⟩:=intItems_at hv;have hb:numAt zs.toArray (argBest (λi j=>decide (numAt zs.toArray i>numAt zs.toArray j)) (zs.toArray.size - 1))=a0L is:=by
    unfold a0L;rw [hat,show zs.toArray.size=is.length by simp [hlen]]
    congr 2
    funext i j
    rw [hat,hat]
   rw [hb];exact⟨.int (a0L is),H,I.kept (t':=tk) hk,⟨t,rfl⟩,k _ F H (u6.here s0 rfl)⟩
  ·cases h2
 ·exact b6o hc pins s σ H _ us Q I rv ⟨F,x,_,rz,rfl,s0,h1,h2,k⟩
end
def ckC(K:AE)(C:AA)(x:Str)(f:AA)(fs:List Str):Bool:=G3 K C x &&(PySem.W.plainGet K C Str.empty &&(PySem.W.hasDictIn K C &&(PySem.W.plainOver K C &&(PySem.W.findIn K (.ref C) "__setattr__"==ξ (ξ (.builtin "object.__setattr__"))
 &&(PySem.W.makesIn K C &&(PySem.W.isFn K (.ref f)&&(PySem.W.keepIn K (.ref C)&&(PySem.W.findIn K (.ref C) "__class__"==ξ (ξ (.builtin "object.__class__"))&&(PySem.W.mroIn K C (.type "object")==ξ true
 && fs.all λg=>PySem.W.findIn K (.ref C) g==ξ ζ)))))))))
section
variable {K:AE}{C f:AA}{x:Str}{fs:List Str}
structure CkC(K:AE)(C:AA)(x:Str)(f:AA)(fs:List Str):Prop where
 kc:KC K x C
 mo:Mk K C f
 h8:PySem.W.findIn K (.ref C) "__class__"=ξ (ξ (.builtin "object.__class__"))
 h9:PySem.W.mroIn K C (.type "object")=ξ true
 na:∀g∈fs,x9 K C g
theorem a5c(e:PySem.W.nsIn K mainGlobals x=ξ (ξ (.ref C)))(i:PySem.W.findIn K (.ref C) "__init__"=ξ (ξ (.ref f)))(h:ckC K C x f fs=true):CkC K C x f fs:=by
 unfold ckC at h;simp only [Bool.and_eq_true,beq_iff_eq,List.all_eq_true] at h;obtain⟨h0,h1,h2,h3,h4,h5,h6,h7,h8,h9,h10⟩:=h;exact⟨c0j e h0 h1 h2 h3 h4,⟨h5,i,h6,h7⟩,h8,h9,h10⟩
end
section
variable {X:Cx}
theorem j9{a b:AF}{ma mb:M}{pos:Pos}{op:CmpOp}{g:c6->c6->Option c6}(ho:OpM X (compareOp op) g)(ha:EE X a ma)(hb:EE X b mb)(hm:behindInMarks op b=false:=by first|rfl|exact nomark _):ET X (.Compare a [op] [b] pos) (r6 (m2 g ma mb)):=b8I ho ha hb hm
theorem a5d{a b:AF}{ma mb:M}{pos:Pos}{op:CmpOp}{g:c6->c6->Option c6}(ho:OpM X (compareOp op) g)(ha:EE X a ma)(hb:EE X b mb)(hm:behindInMarks op b=false:=by first|rfl|exact nomark _):EE X (.Compare a [op] [b] pos) (m2 g ma mb):=b8B ho ha hb hm
theorem d6(i:Nat){x:Str}{pos:Pos}(hN:X.N[i]?=ξ x:=by rfl)(hv:Vis X.env.scope x:=by first|exact Or.inl rfl|exact Or.inr (Or.inl rfl)|exact Or.inr (Or.inr rfl))(hd:(x==("__debug__":Str))=false:=by decide)(hcd:(x==("__classdict__":Str))=false:=by decide):EE X (.Name x pos) (a5 i):=b8D i (pv i hN hv hd hcd)
end
structure FnV(K:AE)(mg:Str->Option AB)(x:Str)(f:AA):Prop where
 mg:mg x=ξ (.ref f)
 at_:b2d K x (.ref f)
 one:∀a,b2d K x (.ref a)->a=f
def a4Q(K:AE)(x:Str)(f:AA):Bool:=K.all λp=>match p.2.data with
 | .func fd=> !(fd.name==x)||p.1==f
 |_=>true
theorem b5f{K:AE}{a:AA}{o:Obj}:K.lookup a=ξ o->(a,o)∈K:=by
 induction K with
 |nil=>intro h;cases h
 |cons p r ih=>
  intro h;obtain⟨b,u⟩:=p;rw [List.lookup_cons] at h;split at h
  ·rename_i z;cases h;rw [beq_iff_eq.mp z];exact Aa
  ·exact AY _ (ih h)
theorem a6i{K:AE}{mg:Str->Option AB}{x:Str}{f:AA}{oc:AB}{od:Option AA}{fd:FuncData}{sl:Array (Option AB)}(hm:mg x=ξ (.ref f))(l:K.lookup f=ξ ⟨oc,od,.func fd,sl⟩)(hn:fd.name=x)(q:a4Q K x f=true):FnV K mg x f:=by
 refine⟨hm,⟨f,oc,od,fd,sl,rfl,l,hn⟩,λa h=> ?_⟩;obtain⟨b,oc',od',fd',sl',e,l',hn'⟩:=h;cases e;have:=List.all_eq_true.mp q _ (b5f l');simp only [hn',beq_self_eq_true,Bool.not_true,Bool.false_or] at this;exact beq_iff_eq.mp this
abbrev T8(x:Str):PV:= .dict [(.str x,.none)]
section
variable {X:Cx}
theorem a9Z{x:Str}{f:AA}{pos:Pos}(v:FnV X.K X.mg x f)(hg:Gl X x:=by rfl)(hd:(x==("__debug__":Str))=false:=by decide):EE X (.Name x pos) (mC (T8 x)):=
 a0N (v:= .ref f) (W3 hg v.mg rfl hd) λH=>Or.inr (Or.inr (Or.inl ⟨x,_,rfl,.inl ⟨rfl,v.at_⟩⟩))
end
def a6s:List PV->Option (List Int)
 |[]=>ξ []
 | .int i::ps=>(a6s ps).map (i::·)
 |_::_=>ζ
theorem b45{K:AE}{H:Hp}:∀{ps:List PV} {xs:List V} {its:List AB} {ns:List Int},j4 K H ps xs->l9 xs its->a6s ps=ξ ns->IntsAre its ns
 |[],_,_,_,h,r,e=>by
  cases h;cases e;cases r;exact .nil
 |p::ps,_,_,ns,⟨v,t,e0,a,rl⟩,r,e=>by
  subst e0;cases p with
  |int i=>
   cases h:a6s ps with
   |none=>rw [a6s,h] at e;cases e
   |some ms=>
    rw [a6s,h] at e;cases e;cases r with
    |cons r1 r2=>
     cases a;obtain⟨t,rfl⟩:=r1;exact .cons _ _ (b45 rl r2 h)
  |_=>cases e
section
variable {X:Cx}
end
section
variable {X:Cx}
variable {Φ:L2.St->Hp->Prop}{I:List Nat}
end
theorem b9n{K:AE}{F H:Hp}{v:V}:∀{c:a0H},Z7 K F H v c->∃a o,v= .ref a/\F a=ζ/\H a=ξ o/\NT o
 | .lst _,⟨a,_,e,n,q,_⟩=>⟨a,_,e,n,q,λ_ h=>nomatch h⟩
 | .dct _,⟨a,_,e,n,q,_⟩=>⟨a,_,e,n,q,λ_ h=>nomatch h⟩
 | .txt _,⟨a,_,e,n,q,_⟩=>⟨a,_,e,n,q,λ_ h=>nomatch h⟩
theorem b7q{K:AE}{F H F' H':Hp}{a:AA}:∀{c:a0H},Z7 K F H (.ref a) c->j2 F F'->F' a=ζ->(∀o,H a=ξ o->H' a=ξ o)->Z7 K F' H' (.ref a) c
 | .lst _,⟨a',xs,e,n,q,r⟩,s,f,h=>by cases e;exact⟨_,xs,rfl,f,h _ q,j4.mono s _ r⟩
 | .dct _,⟨a',xs,e,n,q,r⟩,s,f,h=>by cases e;exact⟨_,xs,rfl,f,h _ q,A4.mono s _ r⟩
 | .txt _,⟨a',xs,e,n,q,r⟩,s,f,h=>by cases e;exact⟨_,xs,rfl,f,h _ q,A4.mono s _ r⟩
theorem b9K{ρ:b0}{i j:Nat}{r:Option c6}{q:c6}(h:(ρ.set i r)[j]?=ξ (ξ q)):(j=i/\r=ξ q)\/(j≠i/\ρ[j]?=ξ (ξ q)):=by
 rw [List.getElem?_set] at h;split at h
 ·rename_i z;split at h
  ·exact .inl ⟨z.symm,Option.some.inj h⟩
  ·cases h
 ·rename_i z;exact .inr ⟨λy=>z y.symm,h⟩
section
variable {X:Cx}
end
section
open PySem.AutoSeq1 (wpAny_loadPart')
open PySem.MeetsSeq3 (plain_eq_loop entry_eq_loop)
variable {A:AK}{s:AC}
end
open PySem PySem.Spec PyProof.Rows L2 PySem.W
section
variable {X:Cx}{pins:List (AA×Obj)}{σ:L2.St}{H:Hp}{s:AC}
end
section
variable {X:Cx}
end
theorem b8p{α:Type}(x:α)(xs:List α):L2.atI (x::xs) 0=ξ x:=by
 unfold L2.atI L2.ixN;rw [if_pos (by lia)]
 simp
section
variable {K:AE}{H J J':Hp}{ah a0 a3 b1 b2 b3 c:AA}{z0 z3 y1 y2 y3:List V}{n:Nat}
end
section
variable {X:Cx}
end
section
variable {X:Cx}{tg:AF}
end
section
variable {X:Cx}
end
section
variable {prog:AJ}{w:AI}{A:AK}{E:AB->AC->Prop}{h:Heap}{g:Array GenState}{d:Drawn}{t:Nat}{os:OsState}
variable {nm q:Str}{C N:AA}{bs bm bmB:List AB}{hdct:Bool}{sn:List Str}{sub:List AB}{ab:Bool}{col:Option Bool}{dd:Option AA}{k0 k1 k2 k3 k5:Option AB}{B newId initId:String}
theorem a5G(F:ExcBaseFacts B newId initId bmB)(T:OwnTail h bmB bm){mN:Str->Option AB}{rest:List AB}{fI:AA}{oI:Obj}{Q:PySem.Fin->AC->Prop}
 (hC:h.get? C=ξ (excClassObj nm q C N bs bm hdct sn sub ab col dd k0 k1 k2 k3 k5 newId)) (hn:h.Ns N mN) (hi:mN "__init__"=ξ (.ref fI))
 (hfI:h.get? fI=ξ oI) (hfc:oI.cls= .type "function")
 (hq:∀h' e,Heap.MadeExcOf h h' e (.ref C) rest->
  AH (model prog w) A (call (.ref fI) (.ref e::rest)) (λr s'=>r= .none/\Q (.done (.ret (.ref e))) s') E ⟨h',g,d,t,os⟩) (hrest:rest.length<=AM):
 AH (model prog w) A (Builtin.«type.__call__» ⟨.ref C::rest,[]⟩) Q E ⟨h,g,d,t,os⟩:=by
 repeat (first|with_reducible refine wpAny_loadPart_at hC ?_|with_reducible refine wpAny_madeBy_exc hC ?_|wp_step)
 refine codeAny_call_builtin_code (Code.quiet_builtin _ F.quiet) (wpAny_check_new_subT F T hC ?_)
 refine codeAny_exc_new_subT F T hC ?_ hrest
 show AH _ _ _ _ _ _
 have hC₁:=AV {cls:= .ref C,data:= .fields #[.ref h.objs.size,.none,.none,.none,.bool false,.none]}
  (AV {cls:= .type "tuple",data:= .seq rest.toArray} hC)
 have hfI₁:=AV {cls:= .ref C,data:= .fields #[.ref h.objs.size,.none,.none,.none,.bool false,.none]}
  (AV {cls:= .type "tuple",data:= .seq rest.toArray} hfI)
 have hn₁:((h.push {cls:= .type "tuple",data:= .seq rest.toArray}).push {cls:= .ref C,data:= .fields #[.ref h.objs.size,.none,.none,.none,.bool false,.none]}).Ns N mN:=
  let ⟨o,es,ep,e,r⟩:=hn;⟨o,es,ep,AV _ (AV _ e),r⟩
 have hget:((h.push {cls:= .type "tuple",data:= .seq rest.toArray}).push
  {cls:= .ref C,data:= .fields #[.ref h.objs.size,.none,.none,.none,.bool false,.none]}).get? (h.objs.size+1)=ξ
  {cls:= .ref C,data:= .fields #[.ref h.objs.size,.none,.none,.none,.bool false,.none]}:=by heap_get
 have hcC:(Value.ref C::bm).contains (.ref C)=true:=by simp
 have T₁:=T.keeps (h':=(h.push {cls:= .type "tuple",data:= .seq rest.toArray}).push {cls:= .ref C,data:= .fields #[.ref h.objs.size,.none,.none,.none,.bool false,.none]})
  λb o e=>AV _ (AV _ e)
 unfold isInstance
 repeat (first|with_reducible refine wpAny_loadPart_at hget ?_|(with_reducible refine wpAny_isSubtype_exc hC₁ ?_;rw [hcC])|wp_step)
 show AH _ _ (typeLookup (.ref C) _) _ _ _
 refine wpAny_typeLookup_tail hC₁ hn₁ T₁ F.mroIs F.init.lookup ?_
 rw [hi]
 refine wpAny_holding (AG ?_)
 unfold bindSpecial
 refine AG (wpAny_typeOf (T:="function") ⟨_,hfI₁,hfc⟩ ?_)
 rw [if_pos (by decide)]
 refine AN (AG (wpAny_mono (hq _ (h.objs.size+1) ⟨λb o hb=>AV _ (AV _ hb),Heap.get?_none_of_le (Nat.le_succ _),h.objs.size,hget,Heap.get?_none_of_le (AQ _), ?_⟩) (λr s' hr=> ?_) λ_ _ x=>x))
 ·exact AV _ (Heap.get?_push_at rfl rfl)
 ·obtain⟨rfl,hQ⟩:=hr
  wp_walk
  exact hQ
theorem b1f(F:ExcBaseFacts B newId initId bmB)(T:OwnTail h bmB bm){mN:Str->Option AB}{rest:List AB}{fI:AA}{oI:Obj}{Q:AB->AC->Prop}
 (hC:h.get? C=ξ (excClassObj nm q C N bs bm hdct sn sub ab col dd k0 k1 k2 k3 k5 newId)) (hn:h.Ns N mN) (hi:mN "__init__"=ξ (.ref fI))
 (hfI:h.get? fI=ξ oI) (hfc:oI.cls= .type "function")
 (hq:∀h' e,Heap.MadeExcOf h h' e (.ref C) rest->
  AH (model prog w) (A.under (.builtin "type.__call__" ⟨.ref C::rest,[]⟩)) (call (.ref fI) (.ref e::rest)) (λr s'=>r= .none/\Q (.ref e) s') E ⟨h',g,d,t,os⟩) (hrest:rest.length<=AM):
 AH (model prog w) A (call (.ref C) rest) Q E ⟨h,g,d,t,os⟩:=by
 have f1:=tc_lookup
 have f2:=tc_bind (.ref C)
 have hT:(⟨h,g,d,t,os⟩:AC).TypeIs (.ref C) "type":=⟨_,hC,rfl⟩
 refine wpAny_call (codeAny_of_tree ?_)
 show AH _ _ (callAny (.ref C) _) _ _ _
 repeat (any_goals (first|assumption|with_reducible refine wpAny_loadPart_at hC ?_|wp_step))
 refine⟨rfl, ?_⟩
 refine codeAny_call_builtin_at (Code.quiet_builtin _ (by decide+kernel)) entry_typeCall (wpAny_check_type_call_sub hC (a5G (hrest:=hrest) F T hC hn hi hfI hfc λh' e hm=> ?_))
 exact hq h' e hm
theorem a3s{M:Model}{env:Env}{s:AC}{x:Sem AB}{Q:Flow->AC->Prop}(hbase:bm.contains (.type "BaseException")=true)(hh:A.handled=ζ)
 (h:AH M A x (λv s₁=>∃e oe vs,v= .ref e/\s₁.heap.get? C=ξ (excClassObj nm q C N bs bm hdct sn sub ab col dd k0 k1 k2 k3 k5 newId)/\
  s₁.heap.get? e=ξ oe/\oe.cls= .ref C/\oe.data= .fields vs/\vs[1]?=ξ .none/\E (.ref e) s₁) E s):
 AH M A (raiseStmt env (ξ x) ζ) Q E s:=by
 have hcB:(Value.ref C::bm).contains (.type "BaseException")=true:=by rw [List.contains_cons,hbase,Bool.or_true]
 unfold raiseStmt
 refine AG (wpAny_mono h (λv s₁ h₁=> ?_) λ_ _ x=>x)
 obtain⟨e,oe,vs,rfl,hC,he,hc,hd,h1,hE⟩:=h₁
 obtain⟨oc,od,ods,osl⟩:=oe
 cases hc
 cases hd
 obtain⟨hp,g,d,tk,os⟩:=s₁
 repeat (first|with_reducible refine wpAny_loadPart_at he ?_|with_reducible refine wpAny_loadPart_at hC ?_|(with_reducible refine wpAny_isSubtype_exc hC ?_;rw [hcB])|wp_step)
 rw [h1]
 refine AN ?_
 rw [if_neg (by decide)]
 exact AN (wpAny_raiseNew_none hh hE)
end
section
variable {prog:AJ}{w:AI}{A:AK}{E:AB->AC->Prop}{s:AC}{env:Env}
variable {nm q:Str}{C N:AA}{bs bm bmB:List AB}{hdct:Bool}{sn:List Str}{sub:List AB}{ab:Bool}{col:Option Bool}{dd:Option AA}{k0 k1 k2 k3 k5:Option AB}{B newId initId:String}
theorem b0B(F:ExcBaseFacts B newId initId bmB){mN:Str->Option AB}{x:Str}{np cpos pos:Pos}{args:List AF}{fI:AA}{oI:Obj}{Q:Flow->AC->Prop}
 (hbase:bm.contains (.type "BaseException")=true) (hh:A.handled=ζ) (hplain:(backTo cpos (AL args env)).any (·.1)=false) (hi:mN "__init__"=ξ (.ref fI)) (hfc:oI.cls= .type "function")
 (h:AH (model prog w) A (eval (.Name x np) env) (λf s₁=>f= .ref C/\AH (model prog w) A (evalArgs (.ref C) true (backTo cpos (AL args env)) [])
  (λa s₂=>a.kw=[]/\a.pos.length<=AM/\s₂.heap.get? C=ξ (excClassObj nm q C N bs bm hdct sn sub ab col dd k0 k1 k2 k3 k5 newId)/\s₂.heap.Ns N mN/\OwnTail s₂.heap bmB bm/\s₂.heap.get? fI=ξ oI/\
   ∀h' e,Heap.MadeExcOf s₂.heap h' e (.ref C) a.pos->AH (model prog w) (A.under (.builtin "type.__call__" ⟨.ref C::a.pos,[]⟩)) (call (.ref fI) (.ref e::a.pos))
    (λr s₃=>r= .none/\s₃.heap.get? C=ξ (excClassObj nm q C N bs bm hdct sn sub ab col dd k0 k1 k2 k3 k5 newId)/\(∃oe vs,s₃.heap.get? e=ξ oe/\oe.cls= .ref C/\oe.data= .fields vs/\vs[1]?=ξ .none)/\E (.ref e) s₃) E {s₂ with heap:=h'}) E s₁) E s):
 AH (model prog w) A (exec (.Raise (ξ (.Call (.Name x np) args [] cpos)) ζ pos) env) Q E s:=by
 rw [arm_exec_Raise]
 first
  |refine AG (wpAny_standAt (a3s (C:=C) (nm:=nm) (q:=q) (N:=N) (bs:=bs) (bm:=bm) (hdct:=hdct) (sn:=sn) (sub:=sub) (ab:=ab) (col:=col) (dd:=dd) (k0:=k0) (k1:=k1) (k2:=k2) (k3:=k3) (k5:=k5) (newId:=newId) hbase hh (AG (wpAny_mono (wpAny_Call_ofName (wpAny_mono h (λf s₁ h₁=> ?_) λ_ _ x=>x)) (λv s₃ h₃=>AG (wpAny_standAt (AN h₃))) λ_ _ x=>x))))
  |(simp only [evalOpt,Option.map];refine AG (wpAny_standAt (a3s (C:=C) (nm:=nm) (q:=q) (N:=N) (bs:=bs) (bm:=bm) (hdct:=hdct) (sn:=sn) (sub:=sub) (ab:=ab) (col:=col) (dd:=dd) (k0:=k0) (k1:=k1) (k2:=k2) (k3:=k3) (k5:=k5) (newId:=newId) hbase hh (AG (wpAny_mono (wpAny_Call_ofName (wpAny_mono h (λf s₁ h₁=> ?_) λ_ _ x=>x)) (λv s₃ h₃=>AG (wpAny_standAt (AN h₃))) λ_ _ x=>x)))))
  |(refine AG (wpAny_standAt (a3s (C:=C) (nm:=nm) (q:=q) (N:=N) (bs:=bs) (bm:=bm) (hdct:=hdct) (sn:=sn) (sub:=sub) (ab:=ab) (col:=col) (dd:=dd) (k0:=k0) (k1:=k1) (k2:=k2) (k3:=k3) (k5:=k5) (newId:=newId) hbase hh ?_));refine AG (wpAny_mono (wpAny_Call_ofName (wpAny_mono h (λf s₁ h₁=> ?_) λ_ _ x=>x)) (λv s₃ h₃=>AG (wpAny_standAt (AN h₃))) λ_ _ x=>x))
 obtain⟨rfl,h₁⟩:=h₁
 unfold callWith
 refine AG (wpAny_holding (wpAny_mono h₁ (λa s₂ h₂=>AG (wpAny_standAt ?_)) λ_ _ x=>x))
 obtain⟨apos,akw⟩:=a
 obtain⟨hkw,hlen,hC,hn,T,hfI,h₂⟩:=h₂
 obtain rfl:akw=[]:=hkw
 obtain⟨hp,g,d,tk,os⟩:=s₂
 simp only [hplain]
 refine AG (wpAny_keeperOf_exc hC ?_)
 refine AG (b1f (hrest:=hlen) F T hC hn hi hfI hfc λh' e hm=> ?_)
 refine wpAny_mono (h₂ h' e hm) (λr s₃ h₃=> ?_) λ_ _ x=>x
 obtain⟨r0,hC3,⟨oe,vs,he,hc,hd,h1⟩,hE⟩:=h₃
 exact⟨r0,AG (wpAny_holding (wpAny_point (AN ⟨e,oe,vs,rfl,hC3,he,hc,hd,h1,hE⟩)))⟩
end
open PySem PySem.Spec PyProof.Rows L2 PySem.W Builtin Builtin.ObjectAttr
def a9u:List AB->Bool
 | .ref _::r=>a9u r
 |l=>l==a7A
theorem a8s(self:AB):∀{l:List AB},a9u l=true->refuseLoop self "__setattr__" l=pure ()
 |[],e=>by cases e
 |v::r,e=>by
  cases v with
  |ref c=>rw [refuseLoop_ref];exact a8s self (l:=r) e
  |_=>rw [show(_::r)=a7A from beq_iff_eq.mp e];exact PySem.F.store_ValueError.passes self
theorem b1y(x:String)(hx:a7A.contains (.type x)=true):∀{l:List AB},a9u l=true->l.contains (.type x)=true
 |[],e=>by cases e
 |v::r,e=>by
  cases v with
  |ref c=>rw [List.contains_cons,b1y x hx (l:=r) e,Bool.or_true]
  |_=>rw [show(_::r)=a7A from beq_iff_eq.mp e];exact hx
def a4C(K:Frag)(C:AA):Bool:=(clsIn K C).any λcd=>a9u cd.mro && cd.hasDict
section
variable {prog:AJ}{w:AI}{A:AK}{E:AB->AC->Prop}{s:AC}{K:Frag}{x C:AA}
theorem b8c{ox:Obj}{od:Option Obj}{name:Str}{tk:Tok}{v:AB}{R:Result->AC->Prop}(X:K.In s.heap)(I:InstAt s.heap x ox C od)(hp:a4C K C=true)(ht:findIn K (.ref C) name=ξ ζ)
 (h:AH (model prog w) A.in1 (storeInOwnDict (.ref x) (.ref C) (.str name tk) name v false)
  (λfin s'=>match fin with| .done f=>R (.ok f) s'| .again c'=>c'.quiet=true/\codeAny (model prog w) A c' R s') (λe s'=>R (.error e) s') s):
 codeAny (model prog w) A (.call (.builtin "object.__setattr__") ⟨[.ref x,.str name tk,v],[]⟩) R s:=by
 have SF:=PySem.F.store_object
 obtain⟨cd,hc,ho⟩:=any_some hp
 rw [Bool.and_eq_true] at ho
 have ne:cd.mro.isEmpty=false:=by cases q:cd.mro with|nil=>rw [q] at ho;cases ho.1|cons _ _=>rfl
 have sub:Looks (model prog w) s.heap (isInstance (.ref x) (.type "object")) true:=I.type.andThen (looks_mroIn X (by unfold mroIn;rw [hc,AR,if_neg (by rw [ne];decide),b1y "object" (by decide) ho.1]))
 refine codeAny_call_builtin SF.slot.plain SF.entry (@check_slot (model prog w) _ _ s "object.__setattr__" "object" "__setattr__" (.ref x) [.str name tk,v] [] _ SF.kind SF.split sub (SF.args (.ref x) (.str name tk) v) ?_)
 have hm:Looks (model prog w) s.heap (mroOf (.ref C)) cd.mro:=(looks_clsIn X hc).andThen .now
 rw [osa_eq,refuse_eq]
 refine AG (AG (I.type.here (AG (hm.here ?_))))
 rw [a8s _ ho.1]
 refine AN (AG (I.type.here (AG ((looks_findIn X ht).here (AG ((Looks.now (M:=model prog w) (a:=(ζ:Option AB))).here ?_))))))
 exact h
theorem b16{name:Str}{v:AB}{vs:Array AB}{sl:Array (Option AB)}{Q:Unit->AC->Prop}(X:K.In s.heap)(hx:s.heap.get? x=ξ ⟨.ref C,ζ,.fields vs,sl⟩)(hp:a4C K C=true)(ht:findIn K (.ref C) name=ξ ζ)
 (hs:findIn K (.ref C) "__setattr__"=ξ (ξ (.builtin "object.__setattr__")))
 (h:∀h' d tk,s.heap.get? d=ζ->s.heap.objs.size<=d->h'.get? x=ξ ⟨.ref C,ξ d,.fields vs,sl⟩->h'.Ns1 d (λy=>if y=name then ξ v else ζ)->(∀b o,b≠x->s.heap.get? b=ξ o->h'.get? b=ξ o)->Q () {s with heap:=h',toks:=tk}):
 AH (model prog w) A (setAttr (.ref x) name v) Q E s:=by
 have J:InstAt s.heap x ⟨.ref C,ζ,.fields vs,sl⟩ C ζ:=⟨hx,rfl,rfl,trivial⟩
 refine set_plain X J hs (b8c (s:={s with toks:=s.toks+1}) X J hp ht ?_)
 obtain⟨cd,hc,ho⟩:=any_some hp
 rw [Bool.and_eq_true] at ho
 refine AG (AN (AG (AG (wpAny_loadPart hx (AG (Looks.here (s:={s with toks:=s.toks+1}) (looks_clsIn X hc) ?_))))))
 rw [ho.2]
 rw [if_neg (by decide)]
 have hx1:(s.heap.push {cls:= .type "dict",data:= .dict #[]}).get? x=ξ ⟨.ref C,ζ,.fields vs,sl⟩:=AV _ hx
 have hxs:x≠s.heap.objs.size:=AZ (AT hx)
 show AH _ _ (if(!true|| !typeHasDict (.ref C))=true then pure ζ else _) _ _ _
 rw [if_neg (by simp [typeHasDict])]
 refine AG (wpAny_alloc' (AG (wpAny_update' hx1 (AN ?_))))
 have hgd:((s.heap.push {cls:= .type "dict",data:= .dict #[]}).update x λo=>{cls:=o.cls,dict:=ξ s.heap.objs.size,data:=o.data,slots:=o.slots}).get? s.heap.objs.size
  =ξ {cls:= .type "dict",data:= .dict #[]}:=(Heap.get?_update_ne _ _ _ _ hxs.symm).trans (Heap.get?_push_at rfl rfl)
 have hnd:((s.heap.push {cls:= .type "dict",data:= .dict #[]}).update x λo=>{cls:=o.cls,dict:=ξ s.heap.objs.size,data:=o.data,slots:=o.slots}).Ns s.heap.objs.size (λ_=>ζ):=
  ⟨_, #[],_,hgd,rfl,λe he=>absurd he (by simp),λ_=>rfl⟩
 show AH _ _ (storeInDict s.heap.objs.size (.str name s.toks) name v) _ _ _
 unfold storeInDict newKeyGuard
 refine AG (AN (AG (wpAny_nsSet1 (Heap.Ns1.of_empty hnd) λh' hn' hs=> ?_)))
 obtain⟨oD,esD,epD,hoD,hdD,hcD⟩:=hn'.count (Within.cons name v Within.nil)
 refine AG (wpAny_lookBehind hoD (by rw [hdD];exact pastItsLine_dict (Nat.le_trans hcD (by rw [AU,Aj,sizeLine_eq];lia))) ?_)
 refine AN (h h' s.heap.objs.size _ (Heap.get?_none_of_le (AQ _)) (AQ _) ?_ hn' λb ob hbx hb=> ?_)
 ·exact(hs.2 x hxs).trans (Heap.get?_update_self _ hx1 rfl)
 ·exact(hs.2 b (AZ (AT hb))).trans ((Heap.get?_update_ne _ _ _ _ hbx).trans (AV _ hb))
theorem b38{name:Str}{v:AB}{d:AA}{ox:Obj}{mA:Str->Option AB}{ns:List Str}{Q:Unit->AC->Prop}(X:K.In s.heap)(hx:s.heap.get? x=ξ ox)(hxc:ox.cls= .ref C)(hxd:ox.dict=ξ d)(hxf:∃vs,ox.data= .fields vs)(hd:s.heap.Ns1 d mA)(hp:a4C K C=true)(ht:findIn K (.ref C) name=ξ ζ)
 (hs:findIn K (.ref C) "__setattr__"=ξ (ξ (.builtin "object.__setattr__"))) (hw:Within mA ns) (hsz:ns.length<=AM)
 (h:∀h' tk,h'.Ns1 d (λy=>if y=name then ξ v else mA y)->Heap.SameBut d s.heap h'->Q () {s with heap:=h',toks:=tk}):
 AH (model prog w) A (setAttr (.ref x) name v) Q E s:=by
 obtain⟨od,hod,hl⟩:=a4L hd
 obtain⟨vs,hxf⟩:=hxf
 have J:InstAt s.heap x ox C (ξ od):=⟨hx,hxc,by unfold notCls;rw [hxf],by rw [hxd];exact hod⟩
 refine set_plain X J hs (b8c (s:={s with toks:=s.toks+1}) X J hp ht ?_)
 obtain⟨cd,hc,ho⟩:=any_some hp
 rw [Bool.and_eq_true] at ho
 obtain⟨oc,oD,ods,osl⟩:=ox
 cases hxc
 cases hxd
 cases hxf
 refine AG (AN (AG (AG (wpAny_loadPart hx (AG (Looks.here (s:={s with toks:=s.toks+1}) (looks_clsIn X hc) ?_))))))
 rw [ho.2]
 refine AN (a:=ξ d) (AG (AN (AG ?_)))
 refine wpAny_nsSet1 (s:={s with toks:=s.toks+1}) hd λh' hn2 hs2=> ?_
 obtain⟨oD,esD,epD,hoD,hdD,hcD⟩:=hn2.count (Within.cons name v hw)
 refine AG (wpAny_lookBehind hoD (by rw [hdD];exact pastItsLine_dict (Nat.le_trans hcD (by rw [AU];lia))) ?_)
 exact AN (h _ _ hn2 hs2)
theorem c01{name:Str}{v:AB}{d:AA}{ox:Obj}{mA:Str->Option AB}{expr:Bool}{Q:AB->AC->Prop}(X:K.In s.heap)(hx:s.heap.get? x=ξ ox)(hxc:ox.cls= .ref C)(hxd:ox.dict=ξ d)(hxf:∃vs,ox.data= .fields vs)(hd:s.heap.Ns1 d mA)(hp:a4C K C=true)(ht:findIn K (.ref C) name=ξ ζ)
 (hga:findIn K (.ref C) "__getattribute__"=ξ (ξ (.builtin "BaseException.__getattribute__"))) (hgg:findIn K (.ref C) "__getattr__"=ξ ζ)
 (hv:mA name=ξ v) (hv':handedIn v=true) (h:Q v {s with toks:=s.toks+1}):
 AH (model prog w) A (getAttr (.ref x) name expr) Q E s:=by
 obtain⟨od,hod,hl⟩:=a4L hd
 obtain⟨vs,hxf⟩:=hxf
 have J:InstAt s.heap x ox C (ξ od):=⟨hx,hxc,by unfold notCls;rw [hxf],by rw [hxd];exact hod⟩
 obtain⟨cd,hc,ho⟩:=any_some hp
 rw [Bool.and_eq_true] at ho
 have ne:cd.mro.isEmpty=false:=by cases q:cd.mro with|nil=>rw [q] at ho;cases ho.1|cons _ _=>rfl
 have hh:hasDictIn K C=true:=by unfold hasDictIn;rw [hc];exact ho.2
 have L0:=J.type (M:=model prog w)
 have L1:=looks_find (M:=model prog w) X J (findObj_own hh ht rfl (by rw [hl,hv]))
 have sub:Looks (model prog w) s.heap (isInstance (.ref x) (.type "BaseException")) true:=J.type.andThen (looks_mroIn X (by unfold mroIn;rw [hc,AR,if_neg (by rw [ne];decide),b1y "BaseException" (by decide) ho.1]))
 have G:=F.attrBase_ValueError.ga
 refine AG (wpAny_mkText (wpAny_holding (AG (L0 _ _ _ _ (λ_ _ e=>e) (AG (looks_findIn X hga _ _ _ _ (λ_ _ e=>e) ?_))))))
 dsimp only
 rw [show(onTheHeap (.ref C)&& Value.builtin "BaseException.__getattribute__"==Value.builtin "object.__getattribute__")=false from by rw [show(Value.builtin "BaseException.__getattribute__"==Value.builtin "object.__getattribute__")=false from by decide+kernel,Bool.and_false],if_neg (by decide)]
 refine AG (looks_hook X (by rw [if_pos (show onTheHeap (.ref C)=true from rfl)];exact hgg) _ _ _ _ (λ_ _ e=>e) (AG (wpAny_attempt (wpAny_holding ?_))))
 unfold callGetattribute
 rw [show(expr && onTheHeap (Value.builtin "BaseException.__getattribute__"))=false from Bool.and_false _,if_neg (by decide)]
 unfold boundAndCalled
 rw [G.bind]
 refine AG (AN ?_)
 show AH _ _ (call (.builtin "BaseException.__getattribute__") [.ref x,.str name s.toks]) _ _ _
 refine wpAny_call ?_
 refine codeAny_call_builtin G.plain F.entry_bexc_ga ?_
 refine @check_slot (model prog w) _ _ {s with toks:=s.toks+1} "BaseException.__getattribute__" "BaseException" "__getattribute__" (.ref x) [.str name s.toks] [] _ (by decide+kernel) (by decide+kernel) sub (F.args_bexc_ga (.ref x) (.str name s.toks)) ?_
 obtain⟨hh',g,dr,t,os⟩:=s
 refine AG (AN (AG (AN (AG (L0.at (AG (L1.at ?_)))))))
 refine AN ?_
 show AH _ _ (handedOut v) _ _ _
 rw [handedOut_of hv'];exact AN h
end
abbrev exO(C:AA)(dd:Option AA)(t:AA):Obj:={cls:= .ref C,dict:=dd,data:= .fields #[.ref t,.none,.none,.none,.bool false,.none]}
def XQ(a C:AA)(dd:Option AA)(h:Heap):Prop:=∃t,h.get? a=ξ (exO C dd t)
def XD(d:AA)(fs:List (Str×V))(h:Heap):Prop:=∃mA,h.Ns1 d mA/\(∀f,Z6 (fs.lookup f) (mA f))/\PySem.Within mA (fs.map (·.1))
theorem XQ.ok{P:AJ}{w:AI}{H:Hp}{h:Heap}{a C:AA}{dd:Option AA}(x:XQ a C dd h):C7 P w H h a (.ext (XQ a C dd)):=
 ⟨x,let ⟨t,e⟩:=x;⟨_,e⟩,λh1 h2 ⟨t,e⟩ k=>⟨t,k _ e⟩⟩
theorem XD.ok{P:AJ}{w:AI}{H:Hp}{h:Heap}{d:AA}{fs:List (Str×V)}(x:XD d fs h):C7 P w H h d (.ext (XD d fs)):=
 ⟨x,let ⟨mA,⟨o,_,_,e,_⟩,_⟩:=x;⟨o,e⟩,λh1 h2 ⟨mA,n,r⟩ k=>⟨mA,n.at k,r⟩⟩
structure a7g(K:Frag)(C:AA):Prop where
 ov:a4C K C=true
 sa:findIn K (.ref C) "__setattr__"=ξ (ξ (.builtin "object.__setattr__"))
 ga:findIn K (.ref C) "__getattribute__"=ξ (ξ (.builtin "BaseException.__getattribute__"))
 gg:findIn K (.ref C) "__getattr__"=ξ ζ
 ex:a2F K C=true
section
variable {X:Cx}{pins:List (AA×Obj)}{σ:L2.St}{H:Hp}{s:AC}{a C d:AA}
theorem b58{H:Hp}{a:AA}{o:HO}(h:H a=ξ o):m9 H a o=H:=by
 funext b
 unfold m9;split
 ·rename_i e;rw [e,h]
 ·rfl
theorem b6d{A:AK}{E:AB->AC->Prop}{us:List AB}{dd:Option AA}{Q:AB->AC->Prop}(I:g9 X pins σ H s)(hl:us.length<=AM)(cx:a7g X.K C)(e:H a=ξ (.ext (XQ a C dd)))
 (h:∀s',g9 X pins σ H s'->Q .none s'):AH (model X.prog X.w) A (call (.builtin "ValueError.__init__") (.ref a::us)) Q E s:=by
 obtain⟨t,he⟩:=(I.hok a _ e).1
 obtain⟨tl,N,nm,q,bs,hdct,sn,sub,ab,col,ddc,k0,k1,k2,k3,k5,hC,T⟩:=a9F I.kIn cx.ex
 have F:=PySem.F.excBase_ValueError
 obtain⟨hh,g,dr,tk,os⟩:=s
 refine wpAny_call (codeAny_call_builtin F.init.plain F.initEntry (wpAny_check_init_subT F T hC he rfl ?_))
 wp_walk
 have h1:=AV (h:=hh) {cls:= .type "tuple",data:= .seq us.toArray} he
 have hget:((hh.push {cls:= .type "tuple",data:= .seq us.toArray}).update a (Obj.mapFields λx=>x.setIfInBounds 0 (Value.ref hh.objs.size))).get? a=ξ (exO C dd hh.objs.size):=Heap.get?_update_self _ h1 rfl
 have I1:=I.write (x:=a) (e:=a) (o:= .ext (XQ a C dd)) (t':=tk) (h':=(hh.push {cls:= .type "tuple",data:= .seq us.toArray}).update a (Obj.mapFields λx=>x.setIfInBounds 0 (Value.ref hh.objs.size))) (by rw [e];trivial) (.inl rfl) (λb u hb z=>(Heap.get?_update_other _ _ (Ne.symm hb)).trans (AV _ z)) ⟨_,hget⟩ (XQ.ok ⟨_,hget⟩)
 rw [b58 e] at I1
 exact h _ I1
theorem b0S{H:Hp}{a b:AA}{o u:HO}(h:a≠b):m9 (m9 H a o) b u=m9 (m9 H b u) a o:=by
 funext c
 unfold m9
 by_cases h1:c=b
 ·rw [if_pos h1,if_neg (by rw [h1];exact Ne.symm h),if_pos h1]
 ·rw [if_neg h1]
  by_cases h2:c=a
  ·rw [if_pos h2,if_pos h2]
  ·rw [if_neg h2,if_neg h2,if_neg h1]
theorem b2c{A:AK}{E:AB->AC->Prop}{f:Str}{y:V}{u:AB}{Q:Unit->AC->Prop}(I:g9 X pins σ H s)(hx0:X.ex=[])(cx:a7g X.K C)(n:x9 X.K C f)(e:H a=ξ (.ext (XQ a C ζ)))(ry:l8 y u)
 (h:∀s' d,d≠a->H d=ζ->g9 X pins σ (m9 (m9 H d (.ext (XD d [(f,y)]))) a (.ext (XQ a C (ξ d)))) s'->Q () s'):AH (model X.prog X.w) A (setAttr (.ref a) f u) Q E s:=by
 obtain⟨t,he⟩:=(I.hok a _ e).1
 refine b16 I.kIn he cx.ov n cx.sa λh' d tk hd hsz hx hns hk=> ?_
 have hda:d≠a:=λz=>by rw [z,he] at hd;cases hd
 have hdn:H d=ζ:=I.hok.fresh hsz
 have xd:XD d [(f,y)] h':=⟨_,hns,λg=>by
  show Z6 (List.lookup g [(f,y)]) (if g=f then ξ u else ζ)
  rw [List.lookup_cons]
  by_cases q:g=f
  ·rw [if_pos q,q,beq_self_eq_true];exact ry
  ·rw [if_neg q];rw [show(g==f)=false from by simpa using q]
   exact True.intro,λg hg=>by
  by_cases q:g=f
  ·rw [q];exact List.mem_singleton.mpr rfl
  ·exact absurd (if_neg q) hg⟩
 have I1:g9 X pins σ (m9 H a (.ext (XQ a C (ξ d)))) {s with heap:=h',toks:=tk}:=
  I.write (x:=a) (e:=a) (o:= .ext (XQ a C (ξ d))) (t':=tk) (by rw [e];trivial) (.inl rfl) hk ⟨_,hx⟩ (XQ.ok ⟨t,hx⟩)
 have ap:Ap X pins d:=apart I hx0 hd
 have I2:=I1.track (o:= .ext (XD d [(f,y)])) (by rw [g6 hda];exact hdn) ap (XD.ok xd)
 rw [b0S (Ne.symm hda)] at I2
 exact h _ d hda hdn I2
theorem b4e{A:AK}{E:AB->AC->Prop}{f:Str}{y:V}{u:AB}{fs:List (Str×V)}{Q:Unit->AC->Prop}(I:g9 X pins σ H s)(cx:a7g X.K C)(n:x9 X.K C f)(e:H a=ξ (.ext (XQ a C (ξ d))))(ed:H d=ξ (.ext (XD d fs)))(hl:fs.length<1000)(ry:l8 y u)
 (h:∀s',g9 X pins σ (m9 H d (.ext (XD d (a0U f y fs)))) s'->Q () s'):AH (model X.prog X.w) A (setAttr (.ref a) f u) Q E s:=by
 obtain⟨t,he⟩:=(I.hok a _ e).1
 obtain⟨mA,hns,r,wi⟩:=(I.hok d _ ed).1
 have hz:(fs.map (·.1)).length<=AM:=by rw [AX,sizeLine_eq];lia
 refine b38 I.kIn he rfl rfl ⟨_,rfl⟩ hns cx.ov n cx.sa wi hz λh' tk hn2 sb=>h _ ?_
 have hd:∃o,h'.get? d=ξ o:=by obtain⟨o,_,_,e',_⟩:=hn2;exact⟨o,e'⟩
 refine I.write (x:=d) (e:=d) (by rw [ed];trivial) (.inl rfl) (λb q hb z=>(sb.2 b hb).trans z) hd (XD.ok ⟨_,hn2,λg=> ?_,λg hg=> ?_⟩)
 ·show Z6 ((a0U f y fs).lookup g) (if g=f then ξ u else mA g)
  rw [a12]
  by_cases q:g=f
  ·rw [if_pos q,if_pos q];exact ry
  ·rw [if_neg q,if_neg q];exact r g
 ·by_cases q:g=f
  ·rw [q];exact(a0R f y fs).1
  ·refine(a0R f y fs).2 g (wi g λz=>hg ?_)
   show(if g=f then ξ u else mA g)=ζ
   rw [if_neg q];exact z
end
def tXS(K:Frag)(t:TA):TS:=λD σ H=>t σ H λvs H1=>∃a C dd ws,vs= .ref a::ws/\ws.length<=AM/\a7g K C/\H1 a=ξ (.ext (XQ a C dd))/\D.nx σ H1
def sX(K:Frag)(ta tv:TE)(f:Str):TS:=λD σ H=>tv σ H λy H1=>ta σ H1 λx H2=>∃a C,x= .ref a/\a7g K C/\x9 K C f/\
 ((H2 a=ξ (.ext (XQ a C ζ))/\∀d,d≠a->H2 d=ζ->D.nx σ (m9 (m9 H2 d (.ext (XD d [(f,y)]))) a (.ext (XQ a C (ξ d)))))\/
  ∃d fs,H2 a=ξ (.ext (XQ a C (ξ d)))/\H2 d=ξ (.ext (XD d fs))/\fs.length<1000/\D.nx σ (m9 H2 d (.ext (XD d (a0U f y fs)))))
section
variable {X:Cx}
theorem a6U{CE:AA}{x:Str}{np apos cpos pos:Pos}{e:AF}{es:List AF}{t:TA}{pl:Sem Bool}(hg:Gl X x)(hm:X.mg x=ξ (.ref CE))(hr:readsIn X.K CE (.type "type")=true)
 (hf:findCls X.K (.ref CE) (.type "type") "__init__"=ξ (.val (.builtin "ValueError.__init__"))) (hs:specialIn X.K (.ref CE) "__getattribute__"=ξ (ξ (.builtin "type.__getattribute__"))) (ha:PA X (e::es) t)
 (hsw:swapsWith (.Call (.Attribute (.Name x np) "__init__" apos) (e::es) [] cpos) ζ pos.line X.env=pure false:=by rfl)
 (hdb:(x==("__debug__":Str))=false:=by decide) (he:AL (e::es) X.env=(false,eval e X.env)::AL es X.env:=by rfl) (hpl:(backTo cpos (AL es X.env)).any (·.1)=false:=by rfl)
 (ht:eval (.Call (.Attribute (.Name x np) "__init__" apos) (e::es) [] cpos) X.env=(do
  let ov<-eval (.Name x np) X.env
  standAt apos.atName
  let (f,first)<-holding [ov] (getMethod ov "__init__" pl)
  callWith cpos f first (backTo cpos (AL (e::es) X.env)) (backToKw cpos (keywordEach [] X.env))):=by rfl):
 PS X (.Expr (.Call (.Attribute (.Name x np) "__init__" apos) (e::es) [] cpos) pos) (tXS X.K t):=by
 have h1:PE X (.Call (.Attribute (.Name x np) "__init__" apos) (e::es) [] cpos) (λσ H Q=>t σ H λvs H1=>∃a C dd ws,vs= .ref a::ws/\ws.length<=AM/\a7g X.K C/\H1 a=ξ (.ext (XQ a C dd))/\Q .non H1):=by
  ext f
  refine methodCall_KW (pl:=pl) (a0m I hg hm ?_ hdb) ht;refine method_cls I.kIn hs (cls_value I.kIn hr hf rfl ?_);refine PyProof.Rows.callWith_builtin1 (D5 (ha cpos pins _ σ H _ (I.tok _) h) λus s1 ⟨vs,H1,I1,r1,a,C,dd,ws,ev,hl,cx,ea,q⟩=> ?_) he hpl;subst ev;cases r1 with
  |cons r1 r2=>
   cases r1;exact b6d I1 (by rw [<-r2.length];exact hl) cx ea λs' I'=>⟨.non,H1,I',rfl,q⟩
 exact a5P h1 hsw
theorem a5Q{o value:AF}{f:Str}{ta tv:TE}{pos pos':Pos}(hx0:X.ex=[])(ha:PE X o ta)(hv:PE X value tv)(hs:swapsWith value (ξ (.Attribute o f pos')) pos.line X.env=pure false:=by rfl):PS X (.Assign [.Attribute o f pos'] value pos) (sX X.K ta tv f):=by
 intro pins s σ H D I h;refine plainObj_wpAny_Assign_Attribute (D5 (hv pins s σ H _ I h) λu s1 h0=>k9 h0 λy H1 I1 ry q=>D5 (ha pins s1 σ H1 _ I1 q) λov s2 ⟨x,H2,I2,rx,a,C,ex,cx,n,q2⟩=> ?_) hs;subst ex;obtain rfl:ov=Value.ref a:=rx;rcases q2 with⟨e,q2⟩|⟨d,fs,e,ed,hl,q2⟩
 ·exact b2c I2 hx0 cx n e ry λs3 d h1 h2 I3=>⟨σ,_,I3,q2 d h1 h2⟩
 ·exact b4e I2 cx n e ed hl ry λs3 I3=>⟨σ,_,I3,q2⟩
end
def tVs:Nat->Nat->TA
 |_,0=>b50
 |i,n+1=>b0P (a0a i) (tVs (i+1) n)
theorem b2U{σ:L2.St}{H:Hp}:∀(n i:Nat) (ws:List V) (Q:List V->Hp->Prop),ws.length=n->(∀j w,ws[j]?=ξ w->σ[i+j]?=ξ (ξ w))->Q ws H->tVs i n σ H Q
 |0,_,ws,Q,h,_,q=>by cases ws with
  |nil=>exact q
  |cons _ _=>cases h
 |n+1,i,ws,Q,h,hs,q=>by
  cases ws with
  |nil=>cases h
  |cons w ws=>
   exact⟨w,hs 0 w rfl,b2U n (i+1) ws _ (Nat.succ.inj h) (λj u hj=>by
    have:=hs (j+1) u (by simpa using hj)
    rwa [show i+(j+1)=i+1+j by lia] at this) q⟩
def tXl(K:Frag):Nat->List Str->TS
 |_,[]=>b5Z
 |i,f::r=>b4a (sX K (a0a 0) (a0a i) f) (tXl K (i+1) r)
theorem b2V{K:Frag}{C:AA}(c:a7g K C){a d:AA}{D:O7}{σ:L2.St}(h0:σ[0]?=ξ (ξ (.ref a))):∀(fs:List Str) (i:Nat) (gs:List (Str×V)) (ws:List V) (H:Hp),
 (∀f∈fs,x9 K C f)->fs.Nodup->(∀f∈fs,f∉gs.map (·.1))->gs.length+fs.length<=1000->ws.length=fs.length->(∀j w,ws[j]?=ξ w->σ[i+j]?=ξ (ξ w))->d≠a->H a=ξ (.ext (XQ a C (ξ d)))->H d=ξ (.ext (XD d gs))->
 D.nx σ (m9 H d (.ext (XD d (gs++fs.zip ws))))->tXl K i fs D σ H
 |[],i,gs,ws,H,_,_,_,_,_,_,_,_,hH,k=>by
  rw [List.zip_nil_left,Ah,b58 hH] at k;exact k
 |f::fs,i,gs,ws,H,hn,nd,hd,hl,hw,hs,hda,ha,hH,k=>by
  cases ws with
  |nil=>cases hw
  |cons w ws=>
   have hl':gs.length+(fs.length+1)<=1000:=hl;refine⟨w,hs 0 w rfl,.ref a,h0,a,C,rfl,c,hn f Aa,.inr ⟨d,gs,ha,hH,by lia, ?_⟩⟩
   have hp:=a6V (v:=w) (hd f Aa);rw [hp];rw [List.nodup_cons] at nd;refine b2V c h0 fs (i+1) (gs++[(f,w)]) ws _ (λg hg=>hn g (AY _ hg)) nd.2 (λg hg=> ?_) (by simp only [AW,AU,Aj];lia) (Nat.succ.inj hw) (λj u hj=> ?_) hda (by rw [g6 (Ne.symm hda)];exact ha) i3 ?_
   ·simp only [Ao,AS,Av,An,List.mem_singleton,not_or];exact⟨hd g (AY _ hg),λe=>nd.1 (e▸hg)⟩
   ·have:=hs (j+1) u (by simpa using hj)
    rwa [show i+(j+1)=i+1+j by lia] at this
   ·rw [a5S,List.append_assoc];exact k
def b7D(C:AA)(fs:List Str):Sp:=λvs H Q _=>∃a ws,vs= .ref a::ws/\ws.length=fs.length/\H a=ξ (.ext (XQ a C ζ))/\∀d,d≠a->H d=ζ->Q .non (m9 (m9 H d (.ext (XD d (fs.zip ws)))) a (.ext (XQ a C (ξ d))))
theorem b6D{P:AJ}{w:AI}{K:Frag}{mg:Str->Option AB}{base:Heap}{qual:Str}{st:Stmt}{f C:AA}{fd:FuncData}{ps:List Str}{f0:Str}{fs:List Str}{k:Nat}(F:Fun K "__init__" qual st f fd)(S:g0 ps ps (b5 st))(hl:ps.length=fs.length+2)
 (c:a7g K C) (na:∀f∈f0::fs,x9 K C f) (nd:(f0::fs).Nodup) (hs:fs.length<=900)
 (hb:∀(cdv:AB) (A:AK) (outer:List Env) (s:AC) (H:Hp) (E:XK),y0 k (A.deeper (envOfC qual (b5 st) s.heap.objs.size f cdv))->PSs (P4 CX0 P w K mg base ps qual (b5 st) f cdv A outer s H E).nox (m7 st) (b4a (tXS K (tVs 0 (fs.length+2))) (tXl K 1 (f0::fs)))):
 G4 P w K mg base CX0 (k+1) f fd ps (b7D C (f0::fs)):=by
 refine F.ok S (λvs H Q E h=> ?_) (λcdv A outer s H vs Q E hr h=> ?_)
 ·obtain⟨a,ws,rfl,h2,_⟩:=h
  rw [AU,h2,hl];rfl
 ·obtain⟨a,ws,rfl,h2,hH,q⟩:=h
  refine⟨_,hb cdv A outer s H E hr, ?_⟩
  have at_:∀j u,(V.ref a::ws)[j]?=ξ u->(Z4 ps (V.ref a::ws))[0+j]?=ξ (ξ u):=λj u hj=>by
   unfold L2.Z4;rw [Nat.zero_add,Ar (by rw [AX];exact(Ac.mp hj).1),Am,hj]
   rfl
  have hw:ws.length=fs.length+1:=h2
  unfold b4a tXS
  refine b2U (σ:=Z4 ps (V.ref a::ws)) (H:=H) (fs.length+2) 0 (V.ref a::ws) _ (by rw [AU,hw]) at_ ?_
  refine⟨a,C,ζ,ws,rfl,by rw [sizeLine_eq];lia,c,hH, ?_⟩
  cases ws with
  |nil=>cases hw
  |cons w1 ws=>
   rw [List.nodup_cons] at nd
   refine⟨w1,at_ 1 w1 rfl,.ref a,at_ 0 _ rfl,a,C,rfl,c,na f0 Aa,.inl ⟨hH,λd h1 h3=> ?_⟩⟩
   refine b2V (d:=d) c (at_ 0 _ rfl) fs 2 [(f0,w1)] ws _ (λg hg=>na g (AY _ hg)) nd.2 (λg hg z=>nd.1 (by have e:g=f0:=List.mem_singleton.mp z;rw [<-e];exact hg)) (by simp only [AU,Aj];lia) (Nat.succ.inj hw) (λj u hj=> ?_) h1 i3 (by rw [g6 h1,i3]) ?_
   ·have:=at_ (j+2) u (by simpa using hj)
    rwa [show 0+(j+2)=2+j by lia] at this
   ·rw [b0S (Ne.symm h1),a5S]
    exact q d h1 h3
def rem(H:Hp)(a:AA):Hp:=λb=>if b=a then ζ else H b
theorem b0D{H:Hp}{a:AA}:rem H a a=ζ:=by unfold rem;rw [if_pos rfl]
theorem a3t{H:Hp}{a b:AA}(h:b≠a):rem H a b=H b:=by unfold rem;rw [if_neg h]
section
variable {X:Cx}{pins:List (AA×Obj)}{σ:L2.St}{H:Hp}{s:AC}
theorem _root_.L2.g9.untrack{a:AA}{φ:Heap->Prop}(I:g9 X pins σ H s)(e:H a=ξ (.ext φ)):g9 X pins σ (rem H a) s:=by
 have no:∀b u,H b=ξ u->(∀φ,u≠.ext φ)->b≠a:=λb u q n z=>by
  rw [z,e] at q;cases q;exact n φ rfl
 have dn:∀b,H b=ζ->rem H a b=ζ:=λb h=>by
  by_cases hb:b=a
  ·rw [hb,b0D]
  ·rw [a3t hb];exact h
 exact⟨I.ok,I.os,I.bare,⟨I.base.keep,I.base.slot,λb ob q n hx=>dn b (I.base.free b ob q n hx),I.base.there,
  λb xs q=>by have:=I.base.tups b xs q;rw [a3t (no b _ this λ_ z=>nomatch z)];exact this,
  λb ob u q=>by have:=I.base.frzs b ob u q;rw [a3t (no b _ this λ_ z=>nomatch z)];exact this,
  λb ps q=>by obtain⟨more,this⟩:=I.base.tbls b ps q;exact⟨more,by rw [a3t (no b _ this λ_ z=>nomatch z)];exact this⟩⟩,
  I.loc,I.cell,dn _ I.free,λx c q=>dn _ (I.freeC x c q),λp hp=>by
   obtain⟨h1,h2,h3⟩:=I.pin p hp;exact⟨h1,dn _ h2,h3⟩,λb u q=>by
   by_cases hb:b=a
   ·rw [hb,b0D] at q;cases q
   ·rw [a3t hb] at q;exact(I.hok b u q).stay (λc v _ z=>z) (λc z=>by rw [a3t (no c _ z λ_ y=>nomatch y)];exact z) λc xs z=>by rw [a3t (no c _ z λ_ y=>nomatch y)];exact z,I.len⟩
end
theorem b1N{K:Frag}{h:Heap}{N:AA}{mg:Str->Option AB}{n:Str}{v:AB}(X:K.In h)(G:h.Ns N mg)(e:nsIn K N n=ξ (ξ v)):mg n=ξ v:=by
 obtain⟨o,es,ep,ho,hd,_,hf⟩:=G;unfold nsIn at e;split at e
 ·rename_i c d es' n' sl q;have:=X _ _ q;rw [ho] at this;cases this;cases hd;split at e
  ·rename_i en he;cases e;rw [<-hf];unfold nsFind findBy;rw [<-Array.find?_toList,he]
   rfl
  ·split at e<;>cases e
 ·cases e
def a3h(K:Frag)(C f:AA):Bool:=b4H K C λns=>nsOkIn K ns && nsIn K ns "__init__"==ξ (ξ (.ref f))
theorem b7T{K:Frag}{h:Heap}{C f:AA}(X:K.In h)(q:a3h K C f=true):∃tl N nm q bs hdct sn sub ab col dd k0 k1 k2 k3 k5,
 h.get? C=ξ (excClassObj nm q C N bs tl hdct sn sub ab col dd k0 k1 k2 k3 k5 "ValueError.__new__")/\h.Ns N (h.nsMap N)/\h.nsMap N "__init__"=ξ (.ref f)/\OwnTail h a7A tl:=by
 obtain⟨tl,N,nm,q,bs,hdct,sn,sub,ab,col,dd,k0,k1,k2,k3,k5,h1,h2,h3⟩:=b2t X q
 rw [Bool.and_eq_true] at h3
 have h5:=Heap.Ns.of_isNs (isNs_of_in X h3.1)
 exact⟨tl,N,nm,q,bs,hdct,sn,sub,ab,col,dd,k0,k1,k2,k3,k5,h1,h5,b1N X h5 (beq_iff_eq.mp h3.2),h2⟩
theorem b8O{K:Frag}{f:AA}(h:PySem.W.isFn K (.ref f)=true):∃o,K.lookup f=ξ o/\o.cls= .type "function":=by
 have h:(K.lookup f).map (·.cls)=ξ (.type "function"):=beq_iff_eq.mp h;obtain⟨o,h1,h2⟩:=Option.map_eq_some_iff.mp h;exact⟨o,h1,h2⟩
section
variable {X:Cx}{x:Str}{C:AA}{np cpos pos:Pos}{e₀:AF}{rest:List AF}{t:TA}{W:Option AA->Hp->Prop}
theorem b3Z{k:Nat}{f:AA}{fd:FuncData}{ps:List Str}{f0:Str}{fs:List Str}(G:G4 X.prog X.w X.K X.mg X.base CX0 k f fd ps (b7D C (f0::fs)))(hr:y0 (k+1) X.A)(hb:M4 X.K fd ps [])(hi:a3h X.K C f=true)(hfn:PySem.W.isFn X.K (.ref f)=true)
 (hc:X.calm=true) (hx0:X.ex=[]) (hg:Gl X x) (hm:X.mg x=ξ (.ref C)) (ha:PA X (e₀::rest) t)
 (hxe:∀(pins:List (AA×Obj)) (σ:L2.St) (H:Hp) (s:AC) (a:AA) (dd:Option AA),g9 X pins σ H s->Ex0 s.heap a C dd->X.s₀.heap.get? a=ζ->H a=ζ->W dd H->X.xe (.ref a) s)
 (he:AL (e₀::rest) X.env=(false,eval e₀ X.env)::AL rest X.env:=by rfl) (hplain:(backTo cpos (AL rest X.env)).any (·.1)=false:=by rfl) (hdb:(x==("__debug__":Str))=false:=by decide):
 PS X (.Raise (ξ (.Call (.Name x np) (e₀::rest) [] cpos)) ζ pos) (λ_ σ H=>t σ H λvs H1=>vs.length=fs.length+1/\vs.length<=AM/\∀d,H1 d=ζ->W (ξ d) (m9 H1 d (.xd ((f0::fs).zip vs)))):=by
 intro pins s σ H D I h
 obtain⟨tl,N,nm,q,bs,hdct,sn,sub,ab,col,dd,k0,k1,k2,k3,k5,hC,hN,hni,T⟩:=b7T I.ok.mod.kin hi
 obtain⟨oI,hoI,hfc⟩:=b8O hfn
 have FB:=F.excBase_ValueError
 refine b0B (C:=C) (nm:=nm) (q:=q) (N:=N) (bs:=bs) (bm:=tl) (hdct:=hdct) (sn:=sn) (sub:=sub) (ab:=ab) (col:=col) (dd:=dd) (k0:=k0) (k1:=k1) (k2:=k2) (k3:=k3) (k5:=k5)
  FB (T.hasType FB.hasBase) (I.ok.hd hc) (by rw [he];show(false||(backTo cpos (AL rest X.env)).any (·.1))=false;rw [hplain];rfl) hni hfc (a0m I hg hm ⟨rfl, ?_⟩ hdb)
 have hA:=ha cpos pins s σ H _ I h
 rw [he] at hA ⊢
 refine Calls.evalArgs_plain (D5 hA λus s2 ⟨vs,H2,I2,r2,hlen,hl,q2⟩=>⟨rfl,by rw [<-r2.length];exact hl,I2.bk _ _ hC,hN.keeps I2.bk,T.keeps I2.bk,I2.kIn _ _ hoI,λh' e hmk=> ?_⟩)
 obtain⟨tt,h1,_,_⟩:=hmk.there
 have hn:H2 e=ζ:=by
  cases h:H2 e with
  |none=>rfl
  |some o=>
   obtain⟨ob,z⟩:=b05 (I2.hok e o h);rw [hmk.new] at z;cases z
 have ap:Ap X pins e:=apart I2 hx0 hmk.new
 have I3:g9 X pins σ H2 {s2 with heap:=h'}:=I2.kept (t':=s2.toks) hmk.keeps
 have I4:=I3.track (o:= .ext (XQ e C ζ)) hn ap (XQ.ok ⟨tt,h1⟩)
 have r4:l9 (V.ref e::vs) (Value.ref e::us):= .cons rfl r2
 have sp:b7D C (f0::fs) (V.ref e::vs) (m9 H2 e (.ext (XQ e C ζ))) (λv H3=>v= .non/\∃d,d≠e/\H2 d=ζ/\H3=m9 (m9 (m9 H2 e (.ext (XQ e C ζ))) d (.ext (XD d ((f0::fs).zip vs)))) e (.ext (XQ e C (ξ d)))) (λ_ _ _=>False):=
  ⟨e,vs,rfl,hlen,i3,λd h1 h2=>⟨rfl,d,h1,by rw [g6 h1] at h2;exact h2,rfl⟩⟩
 have hps:(Value.ref e::us).length=ps.length:=by rw [<-r4.length];exact G.len _ _ _ _ sp
 have hb':=hb {s2 with heap:=h'} (Value.ref e::us) I4.kIn (by rw [Ah];exact hps)
 rw [Ah] at hb'
 refine wpAny_call (codeAny_mono (G.run _ X.stack _ _ ⟨Value.ref e::us,[]⟩ (Value.ref e::us) _ _ (λ_ _ _=>False) (hr.make C us []) (I4.env0.make C us []) hb' r4 sp) λr s' hq'=> ?_)
 cases r with
 |error e=>exact b0x pins σ _ _ e s' I4 hq'
 |ok fl=>
  cases fl with
  |ret u=>
   obtain⟨v,H',I5,rv,ev,d,hde,hd2,eH⟩:=I4.after hq'
   subst ev
   subst eH
   have e5:m9 (m9 (m9 H2 e (.ext (XQ e C ζ))) d (.ext (XD d ((f0::fs).zip vs)))) e (.ext (XQ e C (ξ d))) d=ξ (.ext (XD d ((f0::fs).zip vs))):=by rw [g6 hde,i3]
   obtain⟨t2,h2⟩:=(I5.hok e _ i3).1
   obtain⟨mA,hns,rel,_⟩:=(I5.hok d _ e5).1
   have I6:=I5.write (x:=d) (e:=d) (o:= .xd ((f0::fs).zip vs)) (h':=s'.heap) (t':=s'.toks) (by rw [e5];trivial) (.inl rfl) (λb u hb z=>z) (let ⟨o,_,_,z,_⟩:=hns;⟨o,z⟩) ⟨mA,hns,rel⟩
   have I7:=I6.untrack (a:=e) (φ:=XQ e C (ξ d)) (by rw [g6 (Ne.symm hde),i3])
   have eq:rem (m9 (m9 (m9 (m9 H2 e (.ext (XQ e C ζ))) d (.ext (XD d ((f0::fs).zip vs)))) e (.ext (XQ e C (ξ d)))) d (.xd ((f0::fs).zip vs))) e=m9 H2 d (.xd ((f0::fs).zip vs)):=by
    funext b
    unfold rem m9
    by_cases hb:b=e
    ·rw [if_pos hb,if_neg (by rw [hb];exact Ne.symm hde),hb,hn]
    ·rw [if_neg hb]
     by_cases hb2:b=d
     ·rw [if_pos hb2,if_pos hb2]
     ·rw [if_neg hb2,if_neg hb2,if_neg hb,if_neg hb2,if_neg hb]
   rw [eq] at I7
   refine⟨rv,I5.bk _ _ hC,⟨_,_,h2,rfl,rfl,rfl⟩, ?_⟩
   exact hxe pins σ _ s' e (ξ d) I7 ⟨_,_,h2,rfl,rfl,rfl,rfl⟩ ap.1 (by rw [g6 (Ne.symm hde)];exact hn) (q2 d hd2)
  |next=>exact False.elim hq'
  |brk=>exact False.elim hq'
  |cont=>exact False.elim hq'
end
def a7k(P:AJ)(w:AI)(K:Frag)(mg:Str->Option AB)(base:Heap)(x:Str)(fs:List Str)(k:Nat):Prop:=
 ∃C f fd ps f0 r,fs=f0::r/\fs.length<=900/\G4 P w K mg base CX0 k f fd ps (b7D C (f0::r))/\mg x=ξ (.ref C)/\M4 K fd ps []/\a3h K C f=true/\PySem.W.isFn K (.ref f)=true
def a5o(x:Str)(fs:List Str)(m:MA):MX:=λρ=>(m ρ).bind λqs=>ξ (.rz ⟨x,b7V fs qs⟩ ρ)
section
variable {X:Cx}
theorem a0Q{E1:XK}{k k':Nat}{fs:List Str}{x:Str}{np cpos pos:Pos}{e₀:AF}{rest:List AF}{m:MA}(hc:X.calm=true)(hx0:X.ex=[])(hg:Gl X x)(d:a7k X.prog X.w X.K X.mg X.base x fs k)(hr:y0 k' X.A)(hk:k+1<=k')(hn:∀ρ qs,m ρ=ξ qs->qs.length=fs.length)(ha:EA X (e₀::rest) m)
 (hxe:∀(pins:List (AA×Obj)) (σ:L2.St) (H:Hp) (s:AC) (a C:AA) (dd:Option AA),g9 X pins σ H s->Ex0 s.heap a C dd->X.s₀.heap.get? a=ζ->H a=ζ->E1 (.ref C) dd H->X.xe (.ref a) s)
 (he:AL (e₀::rest) X.env=(false,eval e₀ X.env)::AL rest X.env:=by rfl) (hplain:(backTo cpos (AL rest X.env)).any (·.1)=false:=by rfl) (hdb:(x==("__debug__":Str))=false:=by decide):
 EX X (λ_=>E1) (.Raise (ξ (.Call (.Name x np) (e₀::rest) [] cpos)) ζ pos) (a5o x fs m):=by
 obtain⟨C,f,fd,ps,f0,r,rfl,hl,G,hm,hb,hi,hfn⟩:=d
 refine w8 (b3Z (W:=λdd H=>E1 (.ref C) dd H) G (hr.mono hk) hb hi hfn hc hx0 hg hm ha (λpins σ H s a dd I x h0 hn w=>hxe pins σ H s a C dd I x h0 hn w) he hplain hdb) λD σ H h0=>a2m h0 λF0 H0 F ρ fx so e fin=> ?_
 obtain⟨qs,e1,e⟩:=bind_some e
 cases e
 obtain⟨C',h1,h2⟩:=fin
 have h1:X.mg x=ξ (.ref C'):=h1
 rw [hm] at h1
 cases h1
 refine⟨F,ρ,qs,so.e,e1,λvs F1 H1 y rl=> ?_⟩
 have hq:=hn _ _ e1
 have hv:vs.length=r.length+1:=by rw [rl.length,hq];rfl
 have hl':r.length+1<=900:=hl
 refine⟨hv,by rw [hv,sizeLine_eq];lia,λd hd=> ?_⟩
 have x3:O8 F1 H1 (m9 F1 d (.xd ((f0::r).zip vs))) (m9 H1 d (.xd ((f0::r).zip vs))):=O8.lay y.fh hd
 refine h2 σ (ξ d) _ _ (y.trans x3).f (so.ext (y.trans x3)) (.inr ⟨d,_,rfl,i3, ?_,a0J.mono x3.f _ (a6X rl)⟩)
 cases qs with
 |nil=>cases hq
 |cons q qs=>intro z;cases z
end
def a46(K:Frag)(tab:List Str)(f:Str):Prop:=∀x,tab.contains x=true->∀C,E7 K x C->a7g K C/\x9 K C f
def gFx(tab:List Str)(f:Str)(r:c6):Option c6:=match r with
 | .v (.dict ((.str x,.int 0)::es))=>if tab.contains x=true then(a5B f es).map .v else ζ
 |_=>ζ
theorem c0W{K:Frag}{F:Hp}{x:Str}{es:List (PV×PV)}{v:V}(h:C0 K F (.dict ((.str x,.int 0)::es)) v):∃(a C dx:AA) (φ:Heap->Prop) (fs:List (Str×V)),v= .ref a/\F a=ξ (.ext φ)/\(∀h:Heap,φ h->∃oe vs,h.get? a=ξ oe/\oe.cls= .ref C/\oe.data= .fields vs/\oe.dict=ξ dx)/\F dx=ξ (.xd fs)/\E7 K x C/\a0J K F es fs:=by
 rcases h with⟨a,ys,_,_,kk,w,t,_,z,_⟩|⟨a,ys,_,_,kk,w,t,_,z,_⟩|⟨y,t,e,h⟩|⟨y,m,fs,ho,hf⟩
 ·cases z
 ·cases z
 ·cases e;rcases h with⟨z,_⟩|⟨z,_⟩<;>cases z
 ·obtain⟨g,v',t,e,z,r,rt⟩:=hf;cases e;cases z;rcases ho with⟨rfl,_⟩|⟨rfl,a,C,dx,φ,e,q,k,d,n⟩
  ·cases r
  ·exact⟨a,C,dx,φ,fs,e,q,k,d,n,rt⟩
section
variable {X:Cx}
theorem b2q{tab:List Str}{f:Str}{e:AF}{m:M}{pos:Pos}(T:a46 X.K tab f)(ha:EE X e m)(hb:attributeBase e f X.env (eval e X.env)=eval e X.env:=by rfl):EE X (.Attribute e f pos) (m1 (gFx tab f) m):=by
 have h0:PE X (.Attribute e f pos) (λσ H Q=>tM X.K m σ H λv H1=>∃F1 x es q,j2 F1 H1/\C0 X.K F1 (.dict ((.str x,.int 0)::es)) v/\tab.contains x=true/\a5B f es=ξ q/\∀u,C0 X.K F1 q u->Q u H1):=by
  ext f
  refine b2g hb (D5 (ha pins s σ H _ I h) λu s1 ⟨v,H1,I1,rx,F1,x,es,q,sm,rp,hc,hp,k⟩=> ?_);obtain⟨a,C,dx,φ,fs,rfl,q1,k1,d1,nm,hr⟩:=c0W rp;obtain rfl:u=Value.ref a:=rx;obtain⟨oe,vs,g1,g2,g3,g4⟩:=k1 _ (I1.hok a _ (sm _ _ q1)).1;obtain⟨mA,hns,rel⟩:=I1.hok dx _ (sm _ _ d1);obtain⟨v2,hl,rv⟩:=a8V hr hp;obtain⟨cx,n⟩:=T x hc C nm;obtain⟨u2,hu,ru⟩:=Z6.some_of (v:=v2) (o:=mA f) (by rw [<-hl];exact rel f)
  exact c01 I1.kIn g1 g2 g4 ⟨vs,g3⟩ hns cx.ov n cx.ga cx.gg hu (a8j ru) ⟨v2,H1,I1.tok _,ru,k v2 rv⟩
 exact r9 h0 λσ H Q h0=>n8 h0 λF ρ r en em k=>by
  obtain⟨rx,e1,e2⟩:=bind_some em;refine⟨F,ρ,rx,en,e1,λv F1 H1 o=> ?_⟩;unfold gFx at e2;split at e2
  ·rename_i x es;split at e2
   ·rename_i hc;cases hp:a5B f es with
    |none=>rw [hp] at e2;cases e2
    |some q=>
     rw [hp] at e2;cases e2;exact⟨F1,x,es,q,o.x.fh,o.rep,hc,hp,λu ru=>k u F1 H1 (u6.val o.x ru)⟩
   ·cases e2
  ·cases e2
end
structure KX(K:Frag)(x:Str)(C:AA):Prop where
 cls:a7g K C
 named:E7 K x C
def b48(K:Frag)(C:AA):Bool:=a4C K C && findIn K (.ref C) "__setattr__"==ξ (ξ (.builtin "object.__setattr__"))&& findIn K (.ref C) "__getattribute__"==ξ (ξ (.builtin "BaseException.__getattribute__"))&& findIn K (.ref C) "__getattr__"==ξ ζ && a2F K C
theorem b49{K:Frag}{x:Str}{C:AA}(e:nsIn K mainGlobals x=ξ (ξ (.ref C)))(q:(G3 K C x && b48 K C)=true):KX K x C:=by
 rw [Bool.and_eq_true] at q;obtain⟨q1,q2⟩:=q;unfold b48 at q2;simp only [Bool.and_eq_true,beq_iff_eq] at q2;obtain⟨⟨⟨⟨h1,h2⟩,h3⟩,h4⟩,h5⟩:=q2;refine⟨⟨h1,h2,h3,h4,h5⟩,e, ?_⟩;unfold G3 at q1;split at q1
 ·rename_i oc od cd sl hk;exact⟨oc,od,cd,sl,hk,beq_iff_eq.mp q1⟩
 ·cases q1
theorem a8f{K:Frag}{f:Str}:a46 K [] f:=λ_ h=>nomatch h
theorem a1c{K:Frag}{f x:Str}{C:AA}{t:List Str}(c:KX K x C)(n:x9 K C f)(h:a46 K t f):a46 K (x::t) f:=λy q D nm=>by
 rw [List.contains_cons,Bool.or_eq_true] at q;rcases q with q|q
 ·rw [beq_iff_eq.mp q] at nm;cases nm.uniq c.named;exact⟨c.cls,n⟩
 ·exact h y q D nm
section
variable {P:AJ}{w:AI}{K:Frag}{mg:Str->Option AB}{base:Heap}
theorem a6q{x qual:Str}{st:Stmt}{ps:List Str}{f0:Str}{fs:List Str}{k:Nat}{f C:AA}(D:Dm K "__init__" qual st f)(S:g0 ps ps (b5 st))(hl:ps.length=fs.length+2)(c:KX K x C)(hm:mg x=ξ (.ref C))(hi0:a3h K C f=true)(na:∀f∈f0::fs,x9 K C f)(nd:(f0::fs).Nodup)(hs:fs.length<=800)
 (hi:∀(kV doc pm:AB) (an:Option AA) (cdv ct:AB) (us:List AB),us.length=ps.length->bindArgs (PySem.W.fnOf "__init__" qual (y4 st) (m7 st) (b5 st) .none kV doc pm an cdv ct) ⟨us,[]⟩=pure (ps.zip us))
 (hb:∀(cdv:AB) (A:AK) (outer:List Env) (s:AC) (H:Hp) (E:XK),y0 k (A.deeper (envOfC qual (b5 st) s.heap.objs.size f cdv))->PSs (P4 CX0 P w K mg base ps qual (b5 st) f cdv A outer s H E).nox (m7 st) (b4a (tXS K (tVs 0 (fs.length+2))) (tXl K 1 (f0::fs)))):
 a7k P w K mg base x (f0::fs) (k+1):=
 let ⟨i,fd,F⟩:=D
 ⟨C,f,fd,ps,f0,fs,rfl,by rw [AU];lia,b6D F S hl c.cls na nd (by lia) hb,hm,F.binds hi,hi0,i⟩
end
theorem b1c{K:Frag}{C:AA}{fs:List Str}(h:fs.all (λg=>findIn K (.ref C) g==ξ ζ)=true):∀g∈fs,x9 K C g:=λg hg=>beq_iff_eq.mp (List.all_eq_true.mp h g hg)
def P0(body:MX)(tg:PV->b0->Option b0):List PV->b0->Option FX
 |[],ρ=>ξ (.fl (.nx ρ))
 |p::ps,ρ=>(tg p ρ).bind λρ1=>(body ρ1).bind λfx=>match fx with
  | .fl (.nx ρ')=>P0 body tg ps ρ'
  | .fl (.ct ρ')=>P0 body tg ps ρ'
  | .fl (.bk ρ')=>ξ (.fl (.nx ρ'))
  | .fl (.rt r)=>ξ (.fl (.rt r))
  | .rz c ρ'=>ξ (.rz c ρ')
def a0p(it:MI)(tg:PV->b0->Option b0)(body:MX):MX:=λρ=>(it ρ).bind λps=>P0 body tg ps ρ
theorem a8e{body:MX}{tg:PV->b0->Option b0}{ps:List PV}{p:PV}{ρ:b0}{fl:FX}(h:P0 body tg (p::ps) ρ=ξ fl):∃ρ1 f1,tg p ρ=ξ ρ1/\body ρ1=ξ f1/\(match f1 with
 | .fl (.nx ρ')=>P0 body tg ps ρ'
 | .fl (.ct ρ')=>P0 body tg ps ρ'
 | .fl (.bk ρ')=>ξ (.fl (.nx ρ'))
 | .fl (.rt r)=>ξ (.fl (.rt r))
 | .rz c ρ'=>ξ (.rz c ρ'))=ξ fl:=by
 unfold P0 at h
 obtain⟨ρ1,e1,h⟩:=bind_some h
 obtain⟨f1,e2,h⟩:=bind_some h
 exact⟨ρ1,f1,e1,e2,h⟩
def PvX(K:AE)(F0 H0 F1:Hp)(body:MX)(tg:PV->b0->Option b0)(ps:List PV)(fl:FX)(k:Nat)(σ:L2.St)(H:Hp):Prop:=
 ∃F ρ,j2 F1 F/\SOk K F0 H0 F H σ ρ/\P0 body tg (ps.drop k) ρ=ξ fl
section
variable {K:AE}{mg:Str->Option AB}{E:L2.St->XK}{F0 H0 F1:Hp}{body:MX}{tg:PV->b0->Option b0}{g:TG}{ps:List PV}{fl:FX}{D:O7}{k:Nat}{p:PV}{x:V}{σ σ0:L2.St}{H:Hp}
theorem a93{F:Hp}{f1:FX}{N:L2.St->Hp->Prop}{rs:List PV}(fin:a2C K mg E F0 H0 F1 σ0 D fl)(up:j2 F1 F)
 (hN:∀σ' F' H' ρ',j2 F F'->SOk K F0 H0 F' H' σ' ρ'->P0 body tg rs ρ'=ξ fl->N σ' H')
 (e3:(match f1 with
 | .fl (.nx ρ')=>P0 body tg rs ρ'
 | .fl (.ct ρ')=>P0 body tg rs ρ'
 | .fl (.bk ρ')=>ξ (.fl (.nx ρ'))
 | .fl (.rt r)=>ξ (.fl (.rt r))
 | .rz c ρ'=>ξ (.rz c ρ'))=ξ fl):a2C K mg E F0 H0 F σ {D with nx:=N,ct:=N,bk:=D.nx} f1:=by
 cases f1 with
 |rz c ρ'=>cases e3;exact a2C.later (σ0:=σ0) (fx:= .rz c ρ') up fin
 |fl f=>
  cases f with
  |nx ρ'=>exact λσ2 F2 H2 s2 so2=>hN σ2 F2 H2 ρ' s2 so2 e3
  |ct ρ'=>exact λσ2 F2 H2 s2 so2=>hN σ2 F2 H2 ρ' s2 so2 e3
  |bk ρ'=>cases e3;exact λσ2 F2 H2 s2 so2=>fin σ2 F2 H2 (up.trans s2) so2
  |rt r=>cases e3;exact λv F' H' o=>a2C.later (fx:= .fl (.rt r)) (σ1:=σ0) up fin v F' H' o
theorem a2x(fin:a2C K mg E F0 H0 F1 σ0 D fl)(hp:PvX K F0 H0 F1 body tg ps fl ps.length σ H):D.nx σ H:=by
 obtain⟨F,ρ,s,so,e⟩:=hp;rw [List.drop_length] at e;cases e;exact fin σ F H s so
theorem a3m(T:a5A K g tg)(fin:a2C K mg E F0 H0 F1 σ0 D fl)(ep:ps[k]?=ξ p)
 (hp:PvX K F0 H0 F1 body tg ps fl k σ H) (rx:∀F,j2 F1 F->C0 K F p x):
 g x σ H λσ2 H2=>tMX K mg E body {D with nx:=PvX K F0 H0 F1 body tg ps fl (k+1),ct:=PvX K F0 H0 F1 body tg ps fl (k+1),bk:=D.nx} σ2 H2:=by
 obtain⟨F,ρ,s,so,e⟩:=hp
 have hk:k<ps.length:=(Ac.mp ep).1
 have hd:ps.drop k=p::ps.drop (k+1):=by
  rw [List.drop_eq_getElem_cons hk]
  congr 1
  exact(Ac.mp ep).2
 rw [hd] at e
 obtain⟨ρ1,f1,e1,e2,e3⟩:=a8e e
 refine T F0 H0 F H σ ρ ρ1 p x _ so (rx F s) e1 λσ' so'=>⟨F0,H0,F,ρ1,f1,so',e2, ?_⟩
 exact a93 (σ0:=σ0) fin s (λσ' F' H' ρ' s2 so2 e=>⟨F',ρ',s.trans s2,so2,e⟩) e3
theorem b0e{t:AA}(T:a5A K g tg)(fin:a2C K mg E F0 H0 F1 σ0 D fl)(ep:ps[k]?=ξ p)
 (hp:PvX K F0 H0 F1 body tg (V0 ps) fl k σ H) (hn:H t=ζ) (rx:C0 K F1 p x):
 g (.ref t) σ (m9 H t (.tup [.int k,x])) λσ2 H2=>tMX K mg E body {D with nx:=PvX K F0 H0 F1 body tg (V0 ps) fl (k+1),ct:=PvX K F0 H0 F1 body tg (V0 ps) fl (k+1),bk:=D.nx} σ2 H2:=by
 obtain⟨F,ρ,s,so,e⟩:=hp
 have eq:(V0 ps)[k]?=ξ (.tuple [.int ((k:Nat):Int),p]):=by rw [b3n,ep];rfl
 have hk:k<(V0 ps).length:=(Ac.mp eq).1
 have hd:(V0 ps).drop k= .tuple [.int ((k:Nat):Int),p]::(V0 ps).drop (k+1):=by
  rw [List.drop_eq_getElem_cons hk]
  congr 1
  exact(Ac.mp eq).2
 rw [hd] at e
 obtain⟨ρ1,f1,e1,e2,e3⟩:=a8e e
 have xl:O8 F H (m9 F t (.tup [.int k,x])) (m9 H t (.tup [.int k,x])):=O8.lay so.e.fh hn
 have up:j2 F1 (m9 F t (.tup [.int k,x])):=s.trans xl.f
 refine T F0 H0 _ _ σ ρ ρ1 _ (.ref t) _ (so.ext xl) (show C0 K (m9 F t (.tup [.int k,x])) (.tuple [.int ((k:Nat):Int),p]) (.ref t) from⟨t,[.int k,x],rfl,TqT.of i3,⟨_,_,rfl,rfl,⟨_,_,rfl,C0.mono up _ rx,rfl⟩⟩⟩) e1 λσ' so'=>⟨F0,H0,_,ρ1,f1,so',e2, ?_⟩
 exact a93 (σ0:=σ0) fin up (λσ' F' H' ρ' s2 so2 e=>⟨F',ρ',up.trans s2,so2,e⟩) e3
theorem b3u{J:It}(S:b3b K F1 J ps)(T:a5A K g tg)(fin:a2C K mg E F0 H0 F1 σ0 D fl)(h0:PvX K F0 H0 F1 body tg (V0 ps) fl 0 σ H):
 ∃W:Nat->Nat->L2.St->Hp->Prop,(∃m,W 0 m σ H)/\∀i m σ H,W i m σ H->
  ((Ite J).stop i H/\D.nx σ H)\/((Ite J).go i H/\∃N:L2.St->Hp->Prop,(∀σ' H',N σ' H'->∃m',m'<m/\W (i+1) m' σ' H')/\∀x H',(Ite J).yld i H x H'->g x σ H' λσ2 H2=>tMX K mg E body {D with nx:=N,ct:=N,bk:=D.nx} σ2 H2):=by
 refine⟨λi m σ H=>m=ps.length - i/\i<=ps.length/\PvX K F0 H0 F1 body tg (V0 ps) fl i σ H,⟨ps.length,by simp,Nat.zero_le _,h0⟩, ?_⟩
 rintro i m σ H ⟨rfl,hi,pv⟩
 have sm:j2 F1 H:=by obtain⟨_,_,s,so,_⟩:=pv;exact s.trans so.e.fh
 by_cases hlt:i<ps.length
 ·have ep:ps[i]?=ξ ps[i]:=by simp [hlt]
  refine .inr ⟨S.go i _ H sm ep,PvX K F0 H0 F1 body tg (V0 ps) fl (i+1),λσ' H' p'=>⟨ps.length - (i+1),by lia,rfl,hlt,p'⟩,λv H' y=> ?_⟩
  obtain⟨x,t,yx,hn,rfl,rfl⟩:=y
  exact b0e T fin ep pv hn (S.yd i _ x H H sm ep yx).2
 ·have ei:i=ps.length:=by lia
  refine .inl ⟨S.st i H sm (by lia), ?_⟩
  rw [ei,<-b3o ps] at pv
  exact a2x fin pv
end
section
variable {X:Cx}{E:L2.St->XK}
theorem b8L{tg iter:AF}{body:List Stmt}{m:M}{g:TG}{t:PV->b0->Option b0}{b:MX}{pos:Pos}(hp:PassesOwn (model X.prog X.w) X.A X.env X.xe)(hc:X.calm=true)(hi:EE X iter m)(hg:PG X tg g)(T:a5A X.K g t)(hb:EXs X E body b)
 (hs:∀x,foldedSetIterable iter X.env x=pure x:=by intro _;rfl):EX X E (.For tg iter body [] pos) (a0p (a3n m) t b):=
 w8 (a3r hp hc (a9w hi) hg hb hs) λD σ H h0=>a2m h0 λF0 H0 F ρ fl so e fin=>by
  ext v
  have fin1:=a2C.later (σ1:=σ) o1.x.f fin;have so1:=so.ext o1.x;obtain⟨a,xs,rfl,hq,rl⟩:=Q3 (F:=F1) (H:=F1) (PU.j2.refl F1) (show O9 X.K F1 F1 v (.v q) from o1.rep) e2;have hlen:=rl.length;have get:∀k x,xs[k]?=ξ x->∃p,ps[k]?=ξ p/\∀F,j2 F1 F->C0 X.K F p x:=λk x ex=>by
   obtain⟨p,ep,rp⟩:=rl.getV ex;exact⟨p,ep,λF s=>C0.mono s _ rp⟩
  rcases hq with hq|hq
  ·refine⟨a,rfl,.inl ⟨⟨xs,A2 o1.x.fh hq⟩,a6k (K:=X.K) (a:=a) (xs:=xs) (PvX X.K F0 H0 F1 b t ps fl) ⟨F1,ρ,PU.j2.refl F1,so1,e⟩ (λk σ H _ ⟨F,_,s,so2,_⟩=>A2 (s.trans so2.e.fh) hq) (λk x σ H ex hp=> ?_) (λσ H hp=> ?_)⟩⟩
   ·obtain⟨p,ep,rp⟩:=get k x ex;exact a3m T fin1 ep hp rp
   ·rw [hlen] at hp;exact a2x fin1 hp
  ·refine⟨a,rfl,.inr ⟨⟨xs,t4 o1.x.fh hq⟩,b2v (K:=X.K) (a:=a) (xs:=xs) (PvX X.K F0 H0 F1 b t ps fl) ⟨F1,ρ,PU.j2.refl F1,so1,e⟩ (λk σ H _ ⟨F,_,s,so2,_⟩=>t4 (s.trans so2.e.fh) hq) (λk x σ H ex hp=> ?_) (λσ H hp=> ?_)⟩⟩
   ·obtain⟨p,ep,rp⟩:=get k x ex;exact a3m T fin1 ep hp rp
   ·rw [hlen] at hp;exact a2x fin1 hp
theorem b6x{a:AF}{body:List Stmt}{m:MA}{g:TG}{t:PV->b0->Option b0}{b:MX}{p rp pos tpos:Pos}{elts:List AF}{x1}(hp:PassesOwn (model X.prog X.w) X.A X.env X.xe)(hc:X.calm=true)(hgl:Gl X "enumerate")(hm:X.mg "enumerate"=ζ)(ha:EA X [a] m)(hg:PG X (.Tuple elts x1 tpos) g)(T:a5A X.K g t)(hb:EXs X E body b)
 (hst:AL [a] X.env=[(false,eval a X.env)]:=by rfl) (hs:∀x,foldedSetIterable (.Call (.Name "enumerate" p) [a] [] rp) X.env x=pure x:=by intro _;rfl):EX X E (.For (.Tuple elts x1 tpos) (.Call (.Name "enumerate" p) [a] [] rp) body [] pos) (a0p (b2I m) t b):=
 w8 (a3r hp hc (b7i hgl hm ha hst) hg hb hs) λD σ H h0=>a2m h0 λF0 H0 F ρ fl so e fin=>by
  obtain⟨es,e1,e⟩:=bind_some e;obtain⟨as,e1,e2⟩:=bind_some e1;split at e2
  ·rename_i q;refine⟨F,ρ,_,so.e,e1,λvs F1 H1 x rl=> ?_⟩;obtain⟨v,r,rfl,rq,rr⟩:=rl;cases rr;have fin1:=a2C.later (σ1:=σ) x.f fin;cases hi:b47 q with
   |none=>rw [hi] at e2;cases e2
   |some ps=>
    rw [hi] at e2;cases e2;have core:∀J,b3b X.K F1 J ps->_:=λJ S=>b3u (g:=g) (σ:=σ) (H:=H1) S T fin1 ⟨F1,ρ,PU.j2.refl F1,so.ext x,e⟩;cases q with
    |tuple qs=>
     cases hi;obtain⟨a,xs,rfl,hq,rl⟩:=rq;exact .inl ⟨a,xs,rfl,t4 x.fh hq.sq,core _ (b5X hq.sq rl)⟩
    |list qs=>
     cases hi;obtain⟨a,xs,rfl,hq,rl⟩:=rq;exact .inr (.inl ⟨a,xs,rfl,A2 x.fh hq,core _ (b5V hq rl)⟩)
    |str z=>
     cases hi;cases rq;exact .inr (.inr ⟨z,rfl,core _ (b5W z)⟩)
    |_=>cases hi
  ·cases e2
end
theorem A5.lend{K:AE}{F H:Hp}{σ:L2.St}{ρ:b0}{i:Nat}{c:a0H}{a:AA}{o:HO}{p:PV}(en:A5 K F H σ ρ)(e:ρ[i]?=ξ (ξ (.ow c)))(ea:σ[i]?=ξ (ξ (.ref a)))(fa:F a=ζ)(ha:H a=ξ o)(rp:C0 K (m9 F a o) p (.ref a)):
 A5 K (m9 F a o) H σ (ρ.set i (ξ (.v p))):=by
 have up:j2 F (m9 F a o):=D2 fa
 have cl:∀(j:Nat) (q:c6),(ρ.set i (ξ (.v p)))[j]?=ξ (ξ q)->(j=i/\q= .v p)\/(j≠i/\ρ[j]?=ξ (ξ q)):=λj q z=>by
  rcases b9K z with⟨y,y'⟩|y
  ·exact .inl ⟨y,(Option.some.inj y').symm⟩
  ·exact .inr y
 refine⟨λb u z=> ?_,by rw [List.length_set];exact en.len,λj q z=> ?_,λj d z=> ?_,λj k d d' b hne z1 z2=> ?_⟩
 ·by_cases hb:b=a
  ·subst hb;rw [i3] at z;cases z;exact ha
  ·rw [g6 hb] at z;exact en.fh _ _ z
 ·rcases cl j q z with⟨rfl,rfl⟩|⟨hj,w⟩
  ·exact⟨.ref a,ea,rp⟩
  ·obtain⟨v,v1,v2⟩:=en.at_ j q w
   refine⟨v,v1, ?_⟩
   cases q with
   |v r=>exact C0.mono up _ v2
   |ow d=>
    have v2:Z7 K F H v d:=v2
    obtain⟨a',u,rfl,f1,h1,nt⟩:=b9n v2
    have hne:a'≠a:=λy=>by subst y;exact en.ap j i d c a' hj w e v1 ea
    exact show Z7 K (m9 F a o) H (.ref a') d from b7q v2 up (by rw [g6 hne];exact f1) λ_ h=>h
   |bo d=>exact absurd w (en.nb j d)
 ·rcases cl j _ z with⟨_,y⟩|⟨_,w⟩
  ·cases y
  ·exact en.nb j d w
 ·rcases cl j _ z1 with⟨_,y⟩|⟨_,w⟩
  ·cases y
  ·rcases cl k _ z2 with⟨_,y⟩|⟨_,w'⟩
   ·cases y
   ·exact en.ap j k d d' b hne w w'
def a0C(i:Nat)(m:M):M:=λρ=>match ρ[i]? with
 |some (ξ (.ow (.txt kvs)))=>(m (ρ.set i (ξ (.v (tv kvs))))).bind λr=>if r.noK=true then ξ r else ζ
 |_=>ζ
section
variable {X:Cx}
theorem a90(i:Nat){e:AF}{m:M}(he:EE X e m):EE X e (a0C i m):=
 r9 he λσ H Q h0=>n8 h0 λF ρ r en hm kq=>by
  unfold a0C at hm;split at hm
  ·rename_i kvs eo;obtain⟨r',e1,hm⟩:=bind_some hm;split at hm
   ·rename_i c;cases hm;obtain⟨w,hw,a,xs,rfl,fa,ha,rl⟩:=en.at_ i _ eo;exact⟨m9 F a (.dK xs),_,_,en.lend eo hw fa ha (a4J fa rl),e1,λu F5 H5 o5=>kq u (drp F5 a) H5 (a3l fa o5 c)⟩
   ·cases hm
  ·cases hm
end
section
variable {K:AE}{F H H':Hp}
end
section
variable {X:Cx}
end
abbrev MV:=b0->Option (c6 ⊕ XT)
def b02(K:AE)(mg:Str->Option AB)(E:XK)(F H:Hp)(Q:VK):c6 ⊕ XT->Prop
 | .inl r=>∀v F' H',u6 K F H F' H' v r->Q v H'
 | .inr c=>∃C,mg c.cls=ξ (.ref C)/\∀dd F' H',O8 F H F' H'->XF K F' c.fs dd->E (.ref C) dd H'
theorem b02.trans{K:AE}{mg:Str->Option AB}{E:XK}{F H F1 H1:Hp}{Q:VK}(x:O8 F H F1 H1):∀{r:c6 ⊕ XT},b02 K mg E F H Q r->b02 K mg E F1 H1 Q r
 | .inl _,k=>λv F' H' o=>k v F' H' (u6.trans x o)
 | .inr _,⟨C,h1,h2⟩=>⟨C,h1,λdd F' H' y xf=>h2 dd F' H' (x.trans y) xf⟩
def tMV(K:AE)(mg:Str->Option AB)(E:XK)(m:MV):TE:=λσ H Q=>∃F ρ r,A5 K F H σ ρ/\m ρ=ξ r/\b02 K mg E F H Q r
abbrev EV(X:Cx)(E:XK)(e:AF)(m:MV):Prop:=PE X e (tMV X.K X.mg E m)
def G1(g:List PV->Option (c6 ⊕ XT))(m:MA):MV:=λρ=>(m ρ).bind g
def u9(i:Nat)(m:MV):MX:=λρ=>(m ρ).bind λr=>match r with
 | .inl r=>if r.nb=true then ξ (.fl (.nx (ρ.set i (ξ r)))) else ζ
 | .inr c=>ξ (.rz c ρ)
def G2(m:MV):MX:=λρ=>(m ρ).bind λr=>match r with
 | .inl r=>if r.nb=true then ξ (.fl (.rt r)) else ζ
 | .inr c=>ξ (.rz c ρ)
section
variable {X:Cx}{E:XK}
theorem b4t{n:Nat}{g:List PV->Option (c6 ⊕ XT)}{m:MA}{F H:Hp}{σ:L2.St}{ρ:b0}{Q:VK}{r:c6 ⊕ XT}(en:A5 X.K F H σ ρ)(hn:∀ρ ps,m ρ=ξ ps->ps.length=n)(e:G1 g m ρ=ξ r)(k:b02 X.K X.mg E F H Q r):
 tMA X.K m σ H λvs H1=>spX X.K X.mg n g vs H1 Q E:=by
 obtain⟨qs,e1,e2⟩:=bind_some e
 refine⟨F,ρ,qs,en,e1,λvs F1 H1 x rl=>⟨F1,qs,r,x.fh,rl,hn _ _ e1,e2, ?_⟩⟩
 have k2:=k.trans x
 cases r with
 |inl r=>exact k2
 |inr c=>exact k2
theorem a09{k k':Nat}{ps:List Str}{g:List PV->Option (c6 ⊕ XT)}{x:Str}{p pos:Pos}{e:AF}{es:List AF}{m:MA}
 (d:G7 X.prog X.w X.K X.mg X.base x ps k g) (hr:y0 k' X.A) (hk:k<=k') (hg:Gl X x) (hx:C6 (CX1 X.prog X.w) X (λ_=>E)) (hn:∀ρ qs,m ρ=ξ qs->qs.length=ps.length) (ha:EA X (e::es) m)
 (hdb:(x==("__debug__":Str))=false:=by decide) (he:AL (e::es) X.env=(false,eval e X.env)::AL es X.env:=by rfl) (hpl:(backTo pos (AL es X.env)).any (·.1)=false:=by rfl):
 EV X E (.Call (.Name x p) (e::es) [] pos) (G1 g m):=by
 obtain⟨f,fd,G,h1,h2,h3⟩:=d
 exact r9 (b0y (E:=λ_=>E) G (hr.mono hk) hg h1 h2 h3 hx ha hdb he hpl) λσ H Q h0=>n8 h0 λF ρ r en em k=>b4t en hn em k
theorem a3T{i:Nat}{e:AF}{m:MV}{y:Str}{pos' pos2:Pos}(hN:X.N.Nodup)(h:EV X E e m)(hi:X.N[i]?=ξ y:=by rfl)(hy:Loc X.env.scope y:=by exact Or.inl rfl)(hs:swapsWith e (ξ (.Name y pos')) pos2.line X.env=pure false:=by rfl)
 (hf:X.fn y=true\/X.env.scope.names.lookup y=ξ .local:=by first|exact .inl rfl|exact .inr rfl|assumption):EX X (λ_=>E) (.Assign [.Name y pos'] e pos2) (u9 i m):=
 w8 (b5H hN hi hy h hs hf) λD σ H h0=>a2m h0 λF0 H0 F ρ fx so e fin=>by
  ext r
  refine⟨F,ρ,r,so.e,e1, ?_⟩;cases r with
  |inl r=>
   have e:(if r.nb=true then ξ (FX.fl (.nx (ρ.set i (ξ r)))) else ζ)=ξ fx:=e
   split at e
   ·rename_i c;cases e;exact λv F' H' o=>fin _ F' H' o.x.f (so.set o c i)
   ·cases e
  |inr c=>
   ext o
theorem N5{e:AF}{m:MV}{pos:Pos}(h:EV X E e m):EX X (λ_=>E) (.Return (ξ e) pos) (G2 m):=
 w8 (a9y h) λD σ H h0=>a2m h0 λF0 H0 F ρ fx so e fin=>by
  ext r
  refine⟨F,ρ,r,so.e,e1, ?_⟩;cases r with
  |inl r=>
   have e:(if r.nb=true then ξ (FX.fl (.rt r)) else ζ)=ξ fx:=e
   split at e
   ·cases e;exact λv F' H' o=>fin v F' H' (u6.trans so.x o)
   ·cases e
  |inr c=>
   ext o
def z9(P:AJ)(w:AI)(K:AE)(mg:Str->Option AB)(base:Heap)(f:AA)(ps:List Str)(k:Nat)(g:List PV->Option (c6 ⊕ XT)):Prop:=
 ∃fd,G4 P w K mg base (CX1 P w) k f fd ps (spX K mg ps.length g)/\PySem.W.isFn K (.ref f)=true/\PySem.W.keepIn K (.ref f)=true/\M4 K fd ps []
def a3D(X:Cx)(m:Str)(n k':Nat)(tab:List (Str×(List PV->Option (c6 ⊕ XT)))):Prop:=∀x g,tab.lookup x=ξ g->∀C,E7 X.K x C->∃f fd ps k,Cls X.K C/\b90 X.K C m f/\G4 X.prog X.w X.K X.mg X.base (CX1 X.prog X.w) k f fd ps (spX X.K X.mg ps.length g)/\k<=k'/\M4 X.K fd ps []/\ps.length=n+1
theorem J9{m:Str}{n k':Nat}:a3D X m n k' []:=λ_ _ h=>nomatch h
theorem b8{m:Str}{n k k':Nat}{x:Str}{f C:AA}{ps:List Str}{g:List PV->Option (c6 ⊕ XT)}{t:List (Str×(List PV->Option (c6 ⊕ XT)))}(d:z9 X.prog X.w X.K X.mg X.base f ps k g)(c:KC X.K x C)(h:PySem.W.findIn X.K (.ref C) m=ξ (ξ (.ref f)))(hk:k<=k')(hn:ps.length=n+1)(T:a3D X m n k' t):a3D X m n k' ((x,g)::t):=λy g' q D nm=>by
 rw [List.lookup_cons] at q;split at q
 ·rename_i z;cases q;rw [beq_iff_eq.mp z] at nm;cases nm.uniq c.named;obtain⟨fd,G,h1,h2,h3⟩:=d;exact⟨f,fd,ps,k,c.cls,⟨h,h1,h2⟩,G,hk,h3,hn⟩
 ·exact T y g' q D nm
def U5(tab:List (Str×(List PV->Option (c6 ⊕ XT))))(m:Str)(mo:M)(ma:MA):MV:=λρ=>(mo ρ).bind λr=>match r with
 | .v (.dict ((.str x,.bool false)::es))=>if(a5B m es).isNone=true then(tab.lookup x).bind λg=>(ma ρ).bind λqs=>g (obV x es::qs) else ζ
 |_=>ζ
theorem b5l{tab:List (Str×(List PV->Option (c6 ⊕ XT)))}{m:Str}{mo:M}{ma:MA}{ρ:b0}{r:c6 ⊕ XT}(h:U5 tab m mo ma ρ=ξ r):∃x es g qs,mo ρ=ξ (.v (obV x es))/\a5B m es=ζ/\tab.lookup x=ξ g/\ma ρ=ξ qs/\g (obV x es::qs)=ξ r:=by
 unfold U5 at h;obtain⟨r1,e1,h⟩:=bind_some h;split at h
 ·rename_i x es;split at h
  ·rename_i hn;obtain⟨g,e2,h⟩:=bind_some h;obtain⟨qs,e3,h⟩:=bind_some h;exact⟨x,es,g,qs,e1,Option.isNone_iff_eq_none.mp hn,e2,e3,h⟩
  ·cases h
 ·cases h
theorem a2q{tab:List (Str×(List PV->Option (c6 ⊕ XT)))}{m:Str}{n k':Nat}{o e:AF}{es:List AF}{mo:M}{ma:MA}{pl:Sem Bool}{apos pos:Pos}(T:a3D X m n k' tab)(hr:y0 k' X.A)(hx:C6 (CX1 X.prog X.w) X (λ_=>E))(ho:EE X o mo)(hn:∀ρ qs,ma ρ=ξ qs->qs.length=n)(ha:EA X (e::es) ma)
 (hst:AL (e::es) X.env=(false,eval e X.env)::AL es X.env:=by rfl) (hpl:(backTo pos (AL es X.env)).any (·.1)=false:=by rfl)
 (ht:eval (.Call (.Attribute o m apos) (e::es) [] pos) X.env=(do
  let ov<-eval o X.env
  standAt apos.atName
  let (f,first)<-holding [ov] (getMethod ov m pl)
  callWith pos f first (backTo pos (AL (e::es) X.env)) (backToKw pos (keywordEach [] X.env))):=by rfl):
 EV X E (.Call (.Attribute o m apos) (e::es) [] pos) (U5 tab m mo ma):=by
 intro pins s σ H Q I ⟨F,ρ,r,env,hm,k⟩
 obtain⟨x,fe,g,qs,e1,e2,e3,e4,e5⟩:=b5l hm
 refine PySem.W.methodCall_KW (pl:=pl) (D5 (ho pins s σ H _ I ⟨F,ρ,_,env,e1,λv F1 H1 o1=>(⟨F1,o1⟩:∃F1,u6 X.K F H F1 H1 v (.v (obV x fe)))⟩) λu s1 h0=> ?_) ht;obtain⟨v,H1,I1,rx,F1,o1⟩:=h0
 obtain⟨a,C,dx,fs,rfl,ha',nm,hf⟩:=b8b o1.rep
 obtain rfl:u=Value.ref a:=rx
 obtain⟨f,fd,ps,kk,c,hM,G,hk,hb,hl⟩:=T x g e3 C nm
 refine b1w I1 (o1.x.fh _ _ ha') c hM (a95 hf e2) ?_
 refine PySem.W.callWith_K (first:=[.ref a]) (h₀:=X.base) I.ok.mod.kin hM.kp (D5 (ha pos pins s1 σ H1 (λvs H2=>∃F2,O8 F1 H1 F2 H2/\j4 X.K F2 qs vs) I1 ⟨F1,ρ,qs,env.ext o1.x,e4,λvs F2 H2 x2 rl=>⟨F2,x2,rl⟩⟩) λus s2 ⟨vs,H2,I2,rr,F2,x2,rl⟩=>⟨I2.kIn, ?_⟩) hst hpl
 refine a9B (us:= .ref a::us) (vs:= .ref a::vs) (dvs:=[]) (ds:=[]) (sp:=spX X.K X.mg ps.length g) (E:=E) G (hr.mono hk) hb .nil (λpins σ H s e s' I h=>hx pins σ H s e s' I h) I2 (.cons rfl rr) ?_
 show spX X.K X.mg ps.length g (.ref a::vs++[]) H2 Q E
 rw [Ah]
 have k2:=k.trans (o1.x.trans x2)
 refine⟨F2,obV x fe::qs,r,x2.fh,⟨.ref a,vs,rfl,C0.mono x2.f _ o1.rep,rl⟩,by rw [AU,hn _ _ e4,hl],e5, ?_⟩
 cases r with
 |inl r=>exact k2
 |inr c=>exact k2
def a8H(X:Cx)(n k':Nat)(tab:List (Str×(List PV->Option (c6 ⊕ XT)))):Prop:=∀x g,tab.lookup x=ξ g->∃f fd ps k,G4 X.prog X.w X.K X.mg X.base (CX1 X.prog X.w) k f fd ps (spX X.K X.mg ps.length g)/\k<=k'/\PySem.W.keepIn X.K (.ref f)=true/\M4 X.K fd ps []/\ps.length=n/\∀a,b2d X.K x (.ref a)->a=f
theorem a6h{n k':Nat}:a8H X n k' []:=λ_ _ h=>nomatch h
theorem a1U{n k k':Nat}{x:Str}{f:AA}{ps:List Str}{g:List PV->Option (c6 ⊕ XT)}{t:List (Str×(List PV->Option (c6 ⊕ XT)))}(d:G7 X.prog X.w X.K X.mg X.base x ps k g)(v:FnV X.K X.mg x f)(hk:k<=k')(hn:ps.length=n)(h:a8H X n k' t):a8H X n k' ((x,g)::t):=λy g' q=>by
 rw [List.lookup_cons] at q;split at q
 ·rename_i z;cases q;obtain⟨f',fd,G,h1,h2,h3⟩:=d;have e:=v.mg.symm.trans h1;cases e;refine⟨f,fd,ps,k,G,hk,h2,h3,hn, ?_⟩;rw [beq_iff_eq.mp z];exact v.one
 ·exact h y g' q
def y6(tab:List (Str×(List PV->Option (c6 ⊕ XT))))(i:Nat)(m:MA):MV:=λρ=>match ρ[i]? with
 |some (ξ (.v (.dict [(.str x,.none)])))=>(tab.lookup x).bind λg=>(m ρ).bind g
 |_=>ζ
theorem a92(i:Nat){n k':Nat}{y:Str}{p pos:Pos}{tab:List (Str×(List PV->Option (c6 ⊕ XT)))}{e:AF}{es:List AF}{m:MA}(T:a8H X n k' tab)(hr:y0 k' X.A)(hx:C6 (CX1 X.prog X.w) X (λ_=>E))(hv:PE X (.Name y p) (a0a i))(hn:∀ρ qs,m ρ=ξ qs->qs.length=n)(ha:EA X (e::es) m)
 (he:AL (e::es) X.env=(false,eval e X.env)::AL es X.env:=by rfl) (hpl:(backTo pos (AL es X.env)).any (·.1)=false:=by rfl):
 EV X E (.Call (.Name y p) (e::es) [] pos) (y6 tab i m):=by
 intro pins s σ H Q I ⟨F,ρ,r,env,hm,k⟩
 unfold y6 at hm
 split at hm
 ·rename_i x hρ
  cases hl:tab.lookup x with
  |none=>rw [hl] at hm;cases hm
  |some g=>
   rw [hl,AR] at hm
   obtain⟨f,fd,ps,kk,G,hk,h2,h3,h4,one⟩:=T x g hl
   obtain⟨v,hσ,hrep⟩:=env.at_ i _ hρ
   have hvf:v= .ref f:=by
    rcases hrep with⟨_,_,_,_,kk1,w1,t1,_,zz,_⟩|⟨_,_,_,_,kk1,w1,t1,_,zz,_⟩|⟨z,t,e,hz⟩|⟨_,_,_,ho,hf⟩
    ·cases zz
    ·cases zz
    ·cases e;rcases hz with⟨_,hz⟩|⟨e,_⟩
     ·obtain⟨a,_,_,_,_,ea,_⟩:=id hz;subst ea;rw [one a hz]
     ·cases e
    ·rcases(b2M ho hf).2.1 with e|e<;>cases e
   subst hvf
   refine wpAny_Call_Name_kw (D5 (hv pins s σ H (λv H1=>v= .ref f/\H1=H) I ⟨.ref f,hσ,rfl,rfl⟩) λu s1 h0=>a3S h0 λv H1 I1 rv hv1 hH=> ?_)
   subst hv1 hH
   cases(show u=Value.ref f from rv)
   obtain⟨qs,e1,e2⟩:=bind_some hm
   refine PySem.W.callWith_K (h₀:=X.base) I1.ok.mod.kin h2 (D5 (ha pos pins s1 σ H1 (λvs H2=>∃F2,O8 F H1 F2 H2/\j4 X.K F2 qs vs) I1 ⟨F,ρ,qs,env,e1,λvs F2 H2 x rl=>⟨F2,x,rl⟩⟩) λus s2 ⟨vs,H2,I2,rr,F2,x2,rl⟩=>⟨I2.kIn, ?_⟩) he hpl
   refine a9B (dvs:=[]) (ds:=[]) (sp:=spX X.K X.mg ps.length g) (E:=E) G (hr.mono hk) h3 .nil (λpins σ H s e s' I h=>hx pins σ H s e s' I h) I2 rr ?_
   show spX X.K X.mg ps.length g (vs++[]) H2 Q E
   rw [Ah]
   have k2:=k.trans x2
   refine⟨F2,qs,r,x2.fh,rl,(hn _ _ e1).trans h4.symm,e2, ?_⟩
   cases r with
   |inl r=>exact k2
   |inr c=>exact k2
 ·cases hm
end
def nkF:List (PV×PV)->Bool
 |[]=>true
 |(_,p)::r=>nk p && nkF r
theorem a8t{K:AE}{F:Hp}{a:AA}{xs:List (n5×V)}(ha:F a=ξ (.dK xs)):∀(fs:List (PV×PV)) {vs:List (Str×V)},a0J K F fs vs->nkF fs=true->a0J K (drp F a) fs vs
 |[],_,h,_=>h
 |(k,p)::r,_,⟨f,v,t,e1,e2,q,h⟩,n=>by
  simp only [nkF,Bool.and_eq_true] at n;exact⟨f,v,t,e1,e2,a4e ha p q n.1,a8t ha r h n.2⟩
def a37(i:Nat)(m:MV):MV:=λρ=>match ρ[i]? with
 |some (ξ (.ow (.txt kvs)))=>(m (ρ.set i (ξ (.v (tv kvs))))).bind λr=>match r with
  | .inl r=>if r.noK=true then ξ (.inl r) else ζ
  | .inr c=>if nkF c.fs=true then ξ (.inr c) else ζ
 |_=>ζ
theorem b3J{F2 H1 F3 H3:Hp}{a:AA}{xs:List (n5×V)}(fa:F2 a=ζ)(x:O8 (m9 F2 a (.dK xs)) H1 F3 H3):O8 F2 H1 (drp F3 a) H3:=by
 have up:j2 F2 (m9 F2 a (.dK xs)):=D2 fa;refine⟨λb o z=> ?_,x.h,λb o z=> ?_,λb o z y t=> ?_,λb w u z=> ?_⟩
 ·have hb:b≠a:=i5 z fa;rw [U3 hb];exact x.f _ _ (up _ _ z)
 ·by_cases hb:b=a
  ·subst hb;rw [a0M] at z;cases z
  ·rw [U3 hb] at z;exact x.fh _ _ z
 ·by_cases hb:b=a
  ·subst hb;exact a0M
  ·rw [U3 hb];exact x.nw b o (by rw [g6 hb];exact z) y t
 ·by_cases hb:b=a
  ·subst hb;rw [a0M] at z;cases z
  ·rw [U3 hb] at z;have:=x.nf _ _ _ z;rw [g6 hb] at this;exact this
section
variable {X:Cx}{E:XK}
theorem b4E(i:Nat){e:AF}{m:MV}(he:EV X E e m):EV X E e (a37 i m):=
 r9 he λσ H Q h0=>n8 h0 λF ρ r en hm kq=>by
  unfold a37 at hm;split at hm
  ·rename_i kvs eo;obtain⟨r',e1,hm⟩:=bind_some hm;obtain⟨w,hw,a,xs,rfl,fa,ha,rl⟩:=en.at_ i _ eo;refine⟨m9 F a (.dK xs),_,r',en.lend eo hw fa ha (a4J fa rl),e1, ?_⟩;cases r' with
   |inl r'=>
    have hm:(if r'.noK=true then ξ (Sum.inl r') else ζ)=ξ r:=hm
    split at hm
    ·rename_i c;cases hm;exact λu F5 H5 o5=>kq u (drp F5 a) H5 (a3l fa o5 c)
    ·cases hm
   |inr q=>
    have hm:(if nkF q.fs=true then ξ (Sum.inr q) else ζ)=ξ r:=hm
    split at hm
    ·rename_i c;cases hm;obtain⟨C,h1,h2⟩:=kq;refine⟨C,h1,λdd F5 H5 x xf=>h2 dd (drp F5 a) H5 (b3J fa x) ?_⟩;have fa5:F5 a=ξ (.dK xs):=x.f _ _ i3;rcases xf with xf|⟨d,vs,e,q2,n,rf⟩
     ·exact .inl xf
     ·exact .inr ⟨d,vs,e,by rw [U3 (b0l q2 fa5 (λz=>nomatch z))];exact q2,n,a8t fa5 _ rf c⟩
    ·cases hm
  ·cases hm
end
theorem b4L{P:AJ}{w:AI}{K:AE}{mg:Str->Option AB}{base:Heap}{x qual:Str}{st:Stmt}{N ps:List Str}{k:Nat}{m:MX}{f:AA}(D:Dm K x qual st f)(S:g0 N ps (b5 st))
 (hi:∀(kV doc pm:AB) (an:Option AA) (cdv ct:AB) (us:List AB),us.length=ps.length->bindArgs (PySem.W.fnOf x qual (y4 st) (m7 st) (b5 st) .none kV doc pm an cdv ct) ⟨us,[]⟩=pure (ps.zip us))
 (hb:∀(cdv:AB) (A:AK) (outer:List Env) (s:AC) (H:Hp) (E:XK),y0 k (A.deeper (envOfC qual (b5 st) s.heap.objs.size f cdv))->EXs (P4 (CX1 P w) P w K mg base N qual (b5 st) f cdv A outer s H E) (λ_=>E) (m7 st) m):
 z9 P w K mg base f ps (k+1) (A7 (N.length - ps.length) m):=by
 obtain⟨hf,fd,F⟩:=D
 exact⟨fd,b4M F S hb,hf,F.kp,F.binds hi⟩
theorem b3Q{e:AB}{env env':Env}(h:env.frame=env'.frame):noteFrame e env=noteFrame e env':=by
 unfold noteFrame PySem.frameOf;rw [h]
section
variable {M:Model}{A:AK}{E:AB->AC->Prop}{s:AC}{env:Env}{L e C:AA}{dd:Option AA}
theorem b3P{T:AA}{Q:Unit->AC->Prop}(hf:env.frame=ξ L)(x:ExT s.heap e C T (rawInt L) dd)(k:Q () s):AH M A (noteFrame (.ref e) env) Q E s:=by
 obtain⟨⟨oe,vs,he,hc,hd,h1,hdn⟩,hTe,oT,ts,hT,hdT,h3⟩:=x;unfold noteFrame;simp only [hf];refine AG (wpAny_field he hd h1 ?_);rw [if_pos (show(Value.ref T !=Value.none)=true from by simp)]
 refine AG (wpAny_field hT hdT h3 ?_);rw [if_pos (by simp)]
 exact AN k
theorem b7b{α:Type}{what:String}{T:AA}{fl:AB}{Q:α->AC->Prop}(x:ExT s.heap e C T fl dd)(k:∀fl' h',ExT h' e C T fl' dd->Chg [] [T] s.heap h'->E (.ref e) {s with heap:=h'}):AH M A (PySem.passOn what (.ref e) env:Sem α) Q E s:=by
 obtain⟨⟨oe,vs,he,hc,hd,h1,hdn⟩,hTe,oT,ts,hT,hdT,h3⟩:=id x;unfold PySem.passOn;refine AG (wpAny_field he hd h1 ?_);rw [if_neg (show ¬((Value.ref T==Value.none)=true) from by simp)]
 first
  |exact AG (AN (AG (a1T x env.frame λh' x' c' _=>wpAny_throw (k _ h' x' c'))))
  |exact AG (a1T x env.frame λh' x' c' _=>wpAny_throw (k _ h' x' c'))
end
def a0I(X:Cx)(E:XK):Prop:=∀(pins:List (AA×Obj)) (σ:L2.St) (H:Hp) (s:AC) (a C T:AA) (fl:AB) (dd:Option AA),g9 X pins σ H s->ExT s.heap a C T fl dd->X.s₀.heap.get? a=ζ->X.s₀.heap.get? T=ζ->H a=ζ->H T=ζ->E (.ref C) dd H->X.xe (.ref a) s
theorem b0d{P:AJ}{w:AI}{K:AE}{mg:Str->Option AB}{base:Heap}{N:List Str}{qual:Str}{scope:Scope}{f:AA}{cd:AB}{A:AK}{outer:List Env}{s:AC}{H:Hp}{E:XK}:a0I (P4 (CX1 P w) P w K mg base N qual scope f cd A outer s H E) E:=by
 intro pins σ H2 s' a C T fl dd J x ha hT hn hTn hE
 ext n
 have hsz:s.heap.objs.size<=s'.heap.objs.size:=J.sz;have fin:∀T' h2,s.heap.get? T'=ζ->H2 T'=ζ->ExT h2 a C T' .none dd->Chg ((envOfC qual scope s.heap.objs.size f cd::outer).filterMap (·.frame)) ([T,a]++[T']) s'.heap h2->CX1 P w outer H s E (.ref a) {s' with heap:=h2}:=λT' h2 hT' hTn' x2 c=>by
  have mem:∀b∈[T,a]++[T'],b=T\/b=a\/b=T':=λb hb=>by simpa using hb
  refine⟨a,C,T',dd,H2,rfl,J.os,J.bare,b2b J.base c (λb hb=> ?_) (λb hb=> ?_),a5N J.hok c hfree λb hb=> ?_,ha,hT',hn,hTn',x2,hE⟩
  ·rcases Ag.mp (J.stkSub b hb) with h|h
   ·exact .inr (by rw [h];exact J.ok.above)
   ·exact .inl h
  ·rcases mem b hb with rfl|rfl|rfl
   ·exact hT
   ·exact ha
   ·exact hT'
  ·rcases mem b hb with rfl|rfl|rfl
   ·exact hTn
   ·exact hn
   ·exact hTn'
 by_cases hfl:fl=rawInt s.heap.objs.size
 ·subst hfl;refine AG (b3P rfl x ?_);refine a1T x ζ λh2 x2 c2 _=> ?_;exact fin T h2 hT hTn x2 (c2.more (λb hb=>nomatch hb) λb hb=>by simpa using .inl (List.mem_singleton.mp hb))
 ·refine AG (a2z J.ok.frames J.stack rfl x hfl λT' h1 hT' x1 c1=> ?_);refine a1T x1 ζ λh2 x2 c2 _=> ?_;exact fin T' h2 (Heap.get?_none_of_le (Nat.le_trans hsz hT')) (J.hok.fresh hT') x2 (c1.trans (c2.more (λb hb=>nomatch hb) λb hb=>hb))
end PU
namespace L2
open PySem PySem.Spec PyProof.Rows
section
variable {prog:AJ}{w:AI}{A:AK}{R:Result->AC->Prop}{s:AC}
theorem a1O{elt target iter:AF}{ifs:List AF}{scope:Scope}{pos:Pos}{it acc:AB}{env:Env}(I:Nat->AC->Prop)
 (turn:∀n s,I n s->AH (model prog w) A (pyNext it) (λr s₁=>match r with
  |none=>R (.ok .next) s₁
  |some v=>AH (model prog w) A (letOwnedTupleGo target it v) (λ_ s₁'=>AH (model prog w) A (assign target env v) (λ_ s₂=>
   AH (model prog w) A (forIn ifs true λc r=>if r=true then do let ok<-isTrue c env (eval c env);pure (ForInStep.yield ok) else pure (ForInStep.yield r)) (λok s₃=>
    if ok=true then AH (model prog w) A (eval elt env) (λx s₄=>
     AH (model prog w) A (call (.builtin "list.append") [acc,x]) (λ_ s₅=>∃m,m<n/\I m s₅) (notedBy (model prog w) A env λx s'=>R (.error x) s') s₄) (notedBy (model prog w) A env λx s'=>R (.error x) s') s₃
    else ∃m,m<n/\I m s₃) (notedBy (model prog w) A env λx s'=>R (.error x) s') s₂) (notedBy (model prog w) A env λx s'=>R (.error x) s') s₁') (λ_ _=>False) s₁) (λ_ _=>False) s)
 (n:Nat) (h:I n s):
 codeAny (model prog w) A (.compLoop (.ListComp elt [⟨target,iter,ifs,0⟩] scope pos) 0 it acc env) R s:=by
 refine codeAny_loop rfl I (λn s hI=> ?_) n h
 show AH _ A ((compTurn (.ListComp elt [⟨target,iter,ifs,0⟩] scope pos) 0 it acc env).onRaise (λx=>do noteFrame x env;theTreesLotGoes x)) _ _ s
 refine wpAny_noted ?_
 rw [compTurn_list]
 refine AG (wpAny_standAt (AG (wpAny_mono (turn n s hI) (λr s₁ h₁=> ?_) λ_ _ h'=>h'.elim)))
 cases r with
 |none=>exact AN h₁
 |some v=>
  refine AG (wpAny_mono h₁ (λ_ s₁' h₁'=> ?_) λ_ _ h'=>h'.elim)
  refine AG (wpAny_mono h₁' (λ_ s₂ h₂=>AG (wpAny_mono h₂ (λok s₃ h₃=> ?_) λ_ _ h'=>h')) λ_ _ h'=>h')
  cases ok with
  |false=>exact AN ⟨rfl,h₃⟩
  |true=>
   exact AG (AG (wpAny_mono h₃ (λx s₄ h₄=>AG (wpAny_mono h₄ (λ_ s₅ h₅=>AN (AN ⟨rfl,h₅⟩)) λ_ _ h'=>h')) λ_ _ h'=>h'))
end
end L2
namespace PU
open PySem PySem.Spec PyProof.Rows L2
section
variable {X:Cx}{elt iter tg:AF}{ifs:List AF}{scope:Scope}{N0 ys:List Str}{wi:TI}{g:TG}{tc:TT}{te:TE}{pos:Pos}
theorem b1i{E:XK}{pos':Pos}{use:Option (AB->Sem Unit)}{QQ:AB->AC->Prop}(hL:a0I X E)(hx0:X.ex=[])(hst:X.stack=X.env::X.outer)(hfm:X.env.frame=ξ X.env.locals)(hc:X.calm=true)(S:E8 X.N N0 ys X.env scope)(hi:PI X tg iter wi)
 (hg:∀C fp pins s H Y pn,PG ((p5 X N0 scope ys C fp pins s H).aim Y pn) tg g) (ht:∀C fp pins s H Y pn,PCs ((p5 X N0 scope ys C fp pins s H).aim Y pn) ifs tc) (he:∀C fp pins s H Y pn,C6 (CX1 X.prog X.w) ((p5 X N0 scope ys C fp pins s H).aim Y pn) (λ_=>E)->PE ((p5 X N0 scope ys C fp pins s H).aim Y pn) elt te)
 (hs:∀x,foldedSetIterable iter X.env x=pure x) {pins:List (AA×Obj)} {s:AC} {σ:L2.St} {H:Hp} {Q:VK} (I:g9 X pins σ H s) (h:a7d wi g tc te ys.length σ H Q)
 (fin:∀D C s' H' m,g9 X pins σ H' s'->s'.heap.Ns C m->H' C=ζ->a26 X pins C->Q (.ref D) H'->compPost (model X.prog X.w) X.A X.xe use QQ (.ref D) C (.ok .next) s'):
 AH (model X.prog X.w) X.A (comprehension (.ListComp elt [⟨tg,iter,ifs,0⟩] scope pos) scope X.env pos' (newList []) false (eval iter X.env) use) QQ X.xe s:=by
 have hcl:closureFor scope X.env=pure (T2 X.env.cells scope.names []):=a2Q λx hx' hk=>by
  obtain⟨c,e⟩:=Y6 (ys:=ys) I S (x:=x.1) (by rw [<-hk];exact hx')
  rw [e];rfl
 refine wpAny_comprehension_free (use:=use) rfl hs hcl S.kind (λx hx' hk=>z7 S.nd (by rw [<-hk];exact hx')) (D5 (hi pins s σ H _ I h) λv s1 h1=>D5 h1 λitv s2 h2=> ?_)
 obtain⟨it,fp,tn,J,H2,e,I2,T,st2,f2,hW⟩:=h2
 subst e
 have hfr:=I2.hok.fresh (AQ _)
 obtain⟨W,⟨m0,w0⟩,turn⟩:=hW s2.heap.objs.size hfr
 have fpLt:∀b∈fp,b<s2.heap.objs.size:=λb hb=>let ⟨_,e,_⟩:=T.obj _ _ st2 b hb;AT e
 refine wpAny_newObj_type ?_
 have I3:g9 X pins σ (m9 H2 s2.heap.objs.size (.lst [])) {s2 with heap:=s2.heap.push {cls:= .type "list",data:= .seq ([]:List AB).toArray}}:=
  I2.laid (t':=s2.toks) (λb o e=>AV _ e) (AQ _) ⟨by decide,[],0,.nil,Ak _ rfl⟩
 have up3:∀b o,s2.heap.get? b=ξ o->(s2.heap.push {cls:= .type "list",data:= .seq ([]:List AB).toArray}).get? b=ξ o:=λb o e=>AV _ e
 have st3:tn 0 (s2.heap.push {cls:= .type "list",data:= .seq ([]:List AB).toArray}):=T.keep _ _ _ st2 λb _ o e=>up3 b o e
 have f3:∀b∈fp,a25 X pins (m9 H2 s2.heap.objs.size (.lst [])) b:=λb hb=>⟨by rw [g6 (AZ (fpLt b hb))];exact(f2 b hb).1,(f2 b hb).2⟩
 generalize hs3:({s2 with heap:=s2.heap.push {cls:= .type "list",data:= .seq ([]:List AB).toArray}}:AC)=s3 at I3
 have hs3h:s3.heap=s2.heap.push {cls:= .type "list",data:= .seq ([]:List AB).toArray}:=by rw [<-hs3]
 rw [<-hs3h] at st3 up3
 refine V6 ?_
 have I4:=a55 S I3 f3 (T.obj _ _ st3)
 generalize hs4:({s3 with heap:=pushCells (s3.heap.push {cls:= .type "dict",data:= .dict #[]}) scope.names}:AC)=s4 at I4 ⊢
 have hs4h:s4.heap=pushCells (s3.heap.push {cls:= .type "dict",data:= .dict #[]}) scope.names:=by rw [<-hs4]
 have st4:tn 0 s4.heap:=T.keep _ _ _ st3 λb _ o e=>by rw [hs4h];exact pushCells_keeps _ _ b o (AV _ e)
 have gone:a26 X pins s3.heap.objs.size:=by
  refine⟨Nat.ne_of_gt I3.lt,I3.sz,λx c e=> ?_,λp hp=> ?_⟩
  ·obtain⟨v,z⟩:=I3.cell x c e;exact AZ z.lt
  ·exact AZ (AT (I3.pin p hp).1)
 have loop:∀R:Result->AC->Prop,(∀s' H' m,g9 X pins σ H' s'->s'.heap.Ns s3.heap.objs.size m->H' s3.heap.objs.size=ζ->a26 X pins s3.heap.objs.size->Q (.ref s2.heap.objs.size) H'->R (.ok .next) s')->
  (∀s' H' m a C T fl dd,g9 X pins σ H' s'->s'.heap.Ns s3.heap.objs.size m->H' s3.heap.objs.size=ζ->a26 X pins s3.heap.objs.size->ExT s'.heap a C T fl dd->a≠s3.heap.objs.size->T≠s3.heap.objs.size->Ap X pins a->Ap X pins T->H' a=ζ->H' T=ζ->E (.ref C) dd H'->R (.error (.ref a)) s')->
  codeAny (model X.prog X.w) X.A (.compLoop (.ListComp elt [⟨tg,iter,ifs,0⟩] scope pos) 0 (.ref it) (.ref s2.heap.objs.size) (B3 scope s3.heap.objs.size X.env)) R s4:=by
  intro R hR hRE
  have I4:=b4l (Y:=notedBy (model X.prog X.w) X.A (B3 scope s3.heap.objs.size X.env) λx s'=>R (.error x) s') I4
  have pass:C6 (CX1 X.prog X.w) ((p5 X N0 scope ys s3.heap.objs.size fp pins s3 (m9 H2 s2.heap.objs.size (.lst []))).aim (notedBy (model X.prog X.w) X.A (B3 scope s3.heap.objs.size X.env) λx s'=>R (.error x) s') ((p5 X N0 scope ys s3.heap.objs.size fp pins s3 (m9 H2 s2.heap.objs.size (.lst []))).pn++[])) (λ_=>E):=by
   intro pins5 σ5 H5 s5 e s6 I5 hx;obtain⟨a,Cc,T,dd,H6,rfl,ho,hbare,un,hok,ha,hT,hn,hTn,x,hE⟩:=hx;have ap:∀b,s5.heap.get? b=ζ->Ap X pins b:=λb hb=>by
    by_cases hbf:b∈fp
    ·obtain⟨z1,z2,z3,z4,z5,z6⟩:=f3 b hbf;refine⟨?_,z2,z5,z6⟩;rcases z4 with z|z
     ·rw [hx0] at z;cases z
     ·exact Heap.get?_none_of_le z
    ·refine apart I3 hx0 ?_;cases h0:s3.heap.get? b with
     |none=>rfl
     |some o=>
      obtain⟨o',e⟩:=I5.base.there b o h0 hbf;rw [hb] at e;cases e
   obtain⟨m5,⟨o5,_,_,hC5,_⟩,_⟩:=I5.loc;have neC:∀b,s5.heap.get? b=ζ->b≠s3.heap.objs.size:=λb hb z=>by
    rw [z] at hb;have hC5:s5.heap.get? s3.heap.objs.size=ξ o5:=hC5;rw [hb] at hC5;cases hC5
   have J:=I5.call' (ch:=[]) ho un hok hbare λb z=>nomatch z;obtain⟨m,hnC,_⟩:=J.loc;have hnC:s6.heap.Ns s3.heap.objs.size m:=hnC;have hfC:H6 s3.heap.objs.size=ζ:=J.free;have IX:g9 X pins σ H6 s6:=I3.call' (ch:=fp) J.os J.base J.hok J.bare λb hb=>⟨(f3 b hb).2.2.2.1,(f3 b hb).2.1,(f3 b hb).2.2.2.2.1,(f3 b hb).2.2.2.2.2⟩;show AH (model X.prog X.w) X.A (noteFrame (.ref a) (B3 scope s3.heap.objs.size X.env)) _ _ s6;rw [b3Q (env:=B3 scope s3.heap.objs.size X.env) (env':=X.env) rfl];have fr:X.A.frames=ξ (X.env::X.outer):=by rw [<-hst];exact IX.ok.frames
   have fn:s6.heap.FunFrames X.base (X.env::X.outer):=by rw [<-hst];exact IX.stack
   refine a2z fr fn hfm x (by simp [rawInt]) λT' h1 hT' x1 c1=> ?_
   have hTn':H6 T'=ζ:=IX.hok.fresh hT';have q1:=ap T hT;have q2:=ap a ha;have q3:Ap X pins T':=apart IX hx0 (Heap.get?_none_of_le hT');have mem:∀b∈[T,a],b=T\/b=a:=λb hb=>by simpa using hb
   have c:Chg (frs X.stack) [T,a] s6.heap h1:=by rw [hst];exact c1
   have IY:g9 X pins σ H6 {s6 with heap:=h1}:=g9.chg IX c (λb hb=> ?_) (λb hb=> ?_) (λb hb=> ?_) (λb hb=> ?_) (λb hb=> ?_)
   ·obtain⟨o,es,ep,ho,hd,r⟩:=hnC;have hCs:s3.heap.objs.size<s6.heap.objs.size:=AT ho;obtain⟨sl,e⟩:=c.any ho λz=>by
     rcases mem _ z with z|z
     ·exact neC T hT z.symm
     ·exact neC a ha z.symm
    exact hRE _ H6 m a Cc T' _ dd IY ⟨_,es,ep,e,hd,r⟩ hfC gone x1 (neC a ha) (λz=>by rw [z] at hT';exact Nat.lt_irrefl _ (Ai hCs hT')) q2 q3 hn hTn' hE
   all_goals rcases mem b hb with rfl|rfl
   ·exact q1.1
   ·exact q2.1
   ·exact hTn
   ·exact hn
   ·exact q1.2.1
   ·exact q2.2.1
   ·exact q1.2.2.1
   ·exact q2.2.2.1
   ·exact q1.2.2.2
   ·exact q2.2.2.2
  generalize hX:(p5 X N0 scope ys s3.heap.objs.size fp pins s3 (m9 H2 s2.heap.objs.size (.lst []))).aim (notedBy (model X.prog X.w) X.A (B3 scope s3.heap.objs.size X.env) λx s'=>R (.error x) s') ((p5 X N0 scope ys s3.heap.objs.size fp pins s3 (m9 H2 s2.heap.objs.size (.lst []))).pn++[])=Y at I4 pass
  have Yp:Y.prog=X.prog:=by rw [<-hX];rfl
  have Yw:Y.w=X.w:=by rw [<-hX];rfl
  have YK:Y.K=X.K:=by rw [<-hX];rfl
  have YA:Y.A=X.A:=by rw [<-hX];rfl
  have Yc:Y.calm=true:=by rw [<-hX];exact hc
  have Yx:Y.xe=notedBy (model X.prog X.w) X.A (B3 scope s3.heap.objs.size X.env) λx s'=>R (.error x) s':=by rw [<-hX]
  have YL:Y.env.locals=s3.heap.objs.size:=by rw [<-hX];rfl
  have Yf:Y.fs=frs X.stack:=by rw [<-hX];rfl
  have Ye:Y.ex=fp:=by rw [<-hX];rfl
  have Yn:Y.pn=X.pn++pins:=by rw [<-hX];exact Ah _
  have Ys:Y.s₀=s3:=by rw [<-hX];rfl
  have YH:Y.H₀=m9 H2 s2.heap.objs.size (.lst []):=by rw [<-hX];rfl
  have YE:Y.env=B3 scope s3.heap.objs.size X.env:=by rw [<-hX];rfl
  have hgY:PG Y tg g:=by rw [<-hX];exact hg _ _ _ _ _ _ _
  have htY:PCs Y ifs tc:=by rw [<-hX];exact ht _ _ _ _ _ _ _
  have heY:PE Y elt te:=by
   subst hX;exact he _ _ _ _ _ _ _ pass
  have nlen:(σ++AO ys.length ζ).length=Y.N.length:=I4.len
  have exf:=I4.ok.exf
  have exfs:=I4.ok.exfs
  have stat:∀{H':Hp},(∀b∈fp,H' b=ζ)->∀b∈fp,a25 Y [] H' b:=λ {H'} hn b hb=>by
   have hb':b∈Y.ex:=by rw [Ye];exact hb
   refine⟨hn b hb,(exf b hb').1,exfs b hb',.inl hb',(exf b hb').2,λp hp=> ?_⟩;rw [Ah,Yn] at hp;exact(f2 b hb).2.2.2.2.2 p hp
  have TY:b08 Y.prog Y.w Y.K tg J fp it tn:=by rw [Yp,Yw,YK];exact T
  have noX:∀e s,Y.xe e s->notedBy (model Y.prog Y.w) Y.A Y.env (λx s'=>R (.error x) s') e s:=λe s h=>by rw [Yp,Yw,YA,YE,<-Yx];exact h
  refine a1O (λn s'=>∃i xs H' σ',g9 Y [] σ' H' s'/\(∀(j:Nat) v,(σ++AO ys.length ζ)[j]?=ξ (ξ v)->σ'[j]?=ξ (ξ v))/\tn i s'.heap/\(∀b∈fp,H' b=ζ)/\H' s2.heap.objs.size=ξ (.lst xs)/\W i n xs H') ?_ m0
   ⟨0,[],_,_,I4,λ_ _ e=>e,st4,λb hb=>(f3 b hb).1,i3,w0⟩
  rintro n s5 ⟨i,xs,H5,σ5,I5,k5,st5,fr5,hD5,w5⟩
  have I5:g9 Y [] (σ++AO ys.length ζ) H5 s5:=I5.weak (by rw [nlen,I5.len]) k5
  rw [<-Yp,<-Yw,<-YA]
  rcases turn i n xs H5 w5 hD5 with⟨stop,q⟩|⟨go,step⟩
  ·refine wpAny_mono (TY.done Y rfl rfl rfl Yc i [] s5 _ H5 (λ_ _=>False) I5 (stat fr5) st5 stop) (λr s6 ⟨hr,I6⟩=> ?_) λ_ _ z=>z
   subst hr
   obtain⟨m,hn,_⟩:=I6.loc
   have un:=I6.base
   rw [Yf,Ye,Ys,YH] at un
   rw [YL] at hn
   have hfC:=I6.free
   rw [YL] at hfC
   refine hR s6 H5 m (I3.call' (ch:=fp) (by rw [I6.os,Ys]) un (by have z:=I6.hok;rw [Yp,Yw] at z;exact z) I6.bare λb hb=>⟨(f3 b hb).2.2.2.1,(f3 b hb).2.1,(f3 b hb).2.2.2.2.1,(f3 b hb).2.2.2.2.2⟩) hn hfC ⟨Nat.ne_of_gt I3.lt,I3.sz,λx c e=> ?_,λp hp=> ?_⟩ q
   ·obtain⟨v,z⟩:=I3.cell x c e
    exact AZ z.lt
   ·exact AZ (AT (I3.pin p hp).1)
  ·refine wpAny_mono (TY.item Y rfl rfl rfl Yc i [] s5 _ H5 (λ_ _=>False) I5 (stat fr5) st5 go) (λr s6 ⟨u,hr,h6⟩=> ?_) λ_ _ z=>z
   subst hr
   dsimp only
   refine wpAny_mono h6 (λ_ s7 ⟨x,H7,I7,r7,y7,st7,fr7⟩=> ?_) λ_ _ z=>z
   have I7':=I7.pinned (stat fr7) (T.obj _ _ st7)
   rw [<-YE]
   have keepT:∀{σ8:L2.St} {H8:Hp} {s8:AC},g9 Y ([]++a4S fp s7.heap) σ8 H8 s8->tn (i+1) s8.heap/\∀b∈fp,H8 b=ζ:=λ {σ8 H8 s8} I8=>by
    ext t
   refine wpAny_mono (hgY _ s7 _ H7 x u _ I7' r7 (step x H7 y7)) (λ_ s8 h0=>k9 h0 λσ8 H8 I8 k8 q8=> ?_) λe s z=>noX e s z
   refine wpAny_mono (htY _ s8 σ8 H8 _ I8 q8) (λb s9 ⟨H9,I9,q9⟩=> ?_) λe s z=>noX e s z
   cases b with
   |false=>
    rw [if_neg Af] at q9 ⊢
    obtain⟨hD9,m',lt,w9⟩:=q9
    obtain⟨t9,n9⟩:=keepT I9
    exact⟨m',lt,i+1,xs,H9,σ8,I9.pins_of (λp hp=>nomatch hp),k8,t9,n9,hD9,w9⟩
   |true=>
    rw [if_pos rfl] at q9 ⊢
    refine wpAny_mono (heY _ s9 σ8 H9 _ I9 q9) (λy s10 ⟨v,H10,I10,r10,hD10,hz,m',lt,w10⟩=> ?_) λe s z=>noX e s z
    refine wpAny_mono (a4O _ s10 σ8 H10 (.ref s2.heap.objs.size) [v] (.ref s2.heap.objs.size) [y] (λ_ H'=>H'=m9 H10 s2.heap.objs.size (.lst (xs++[v]))) I10 rfl (.cons r10 .nil) ⟨_,xs,v,rfl,rfl,hD10,hz,rfl⟩) (λ_ s11 h0=>k9 h0 λ_ H11 I11 _ e11=> ?_) λe s z=>noX e s z
    subst e11
    obtain⟨t11,n11⟩:=keepT I11
    exact⟨m',lt,i+1,xs++[v],_,σ8,I11.pins_of (λp hp=>nomatch hp),k8,t11,n11,i3,w10⟩
 have hEr:∀(D:AB) s' H' m a C T fl dd,g9 X pins σ H' s'->s'.heap.Ns s3.heap.objs.size m->H' s3.heap.objs.size=ζ->a26 X pins s3.heap.objs.size->ExT s'.heap a C T fl dd->a≠s3.heap.objs.size->T≠s3.heap.objs.size->Ap X pins a->Ap X pins T->H' a=ζ->H' T=ζ->E (.ref C) dd H'->compPost (model X.prog X.w) X.A X.xe use QQ D s3.heap.objs.size (.error (.ref a)) s':=by
  intro D s' H' m a C T fl dd J hn hC gn x na nT q2 q3 an Tn hE;obtain⟨g1,g2,g3,g4⟩:=gn;have key:∃m,s'.heap.Ns s3.heap.objs.size m/\∀h',Heap.SameBut s3.heap.objs.size s'.heap h'->∀cenv:Env,cenv.locals=s3.heap.objs.size->AH (model X.prog X.w) X.A (PySem.passOn "comprehension.variables-let-go" (.ref a) cenv:Sem AB) (λ_ _=>False) X.xe {s' with heap:=h'}:=by
   refine⟨m,hn,λh' hs' cenv hce=> ?_⟩;obtain⟨⟨oe,vs,he',hc',hd',h1',hdn'⟩,hTe,oT,ts,hT',hdT,h3'⟩:=x;have x':ExT h' a C T fl dd:=⟨⟨oe,vs,hs'.extBut a oe na he',hc',hd',h1',hdn'⟩,hTe,oT,ts,hs'.extBut T oT nT hT',hdT,h3'⟩;have J2:g9 X pins σ H' {s' with heap:=h'}:=J.turned (t':=s'.toks) (λb o hb e=>hs'.extBut b o hb e) hC g1 (.inr g2) g3 g4
   refine b7b x' λfl' h2 x2 c2=> ?_;have c:Chg (frs X.stack) [T] h' h2:=c2.more (λb hb=>nomatch hb) λb hb=>hb;have J3:g9 X pins σ H' {s' with heap:=h2}:=g9.chg (s:={s' with heap:=h'}) J2 c (λb hb=>by rw [List.mem_singleton.mp hb];exact q3.1) (λb hb=>by rw [List.mem_singleton.mp hb];exact Tn) (λb hb=>by rw [List.mem_singleton.mp hb];exact q3.2.1) (λb hb=>by rw [List.mem_singleton.mp hb];exact q3.2.2.1) (λb hb=>by rw [List.mem_singleton.mp hb];exact q3.2.2.2)
   exact hL pins σ H' _ a C T fl' dd J3 x2 q2.1 q3.1 an Tn hE
  unfold compPost;cases use<;>exact key
 show codeAny _ _ (.compStart _ 0 _ _ (B3 scope s3.heap.objs.size X.env)) _ _
 refine codeAny_compStart_list (loop _ (λs' H' m a b c d e=>fin _ _ s' H' m a b c d e) (hEr _)) (T.self _ 0 _ _ _ st4 (loop _ (λs' H' m a b c d e=>fin _ _ s' H' m a b c d e) (hEr _)))
end
section
variable {X:Cx}{E:XK}{elt iter tg:AF}{ifs:List AF}{scope:Scope}{N0 ys:List Str}{wi:TI}{g:TG}{tc:TT}{te:TE}{pos:Pos}
theorem b5I{i:Nat}{y:Str}{py spos:Pos}(hL:a0I X E)(hx0:X.ex=[])(hst:X.stack=X.env::X.outer)(hfm:X.env.frame=ξ X.env.locals)(hc:X.calm=true)(S:E8 X.N N0 ys X.env scope)(hi:PI X tg iter wi)
 (hg:∀C fp pins s H Y pn,PG ((p5 X N0 scope ys C fp pins s H).aim Y pn) tg g) (ht:∀C fp pins s H Y pn,PCs ((p5 X N0 scope ys C fp pins s H).aim Y pn) ifs tc) (he:∀C fp pins s H Y pn,C6 (CX1 X.prog X.w) ((p5 X N0 scope ys C fp pins s H).aim Y pn) (λ_=>E)->PE ((p5 X N0 scope ys C fp pins s H).aim Y pn) elt te)
 (hN:X.N.Nodup) (hiy:X.N[i]?=ξ y) (hy:X.env.scope.names.lookup y=ξ .local)
 (hsw:swapsWith (.ListComp elt [⟨tg,iter,ifs,0⟩] scope pos) (ξ (.Name y py)) spos.line X.env=pure true)
 (hs:∀x,foldedSetIterable iter X.env x=pure x:=by intro _;rfl):PS X (.Assign [.Name y py] (.ListComp elt [⟨tg,iter,ifs,0⟩] scope pos) spos) (λD σ H=>a7d wi g tc te ys.length σ H λv H'=>D.nx (σ.set i (ξ v)) H'):=by
 intro pins s σ H D I h
 rw [exec_Assign_Name_used _ _ _ _ hsw]
 refine AG (wpAny_standAt (AG ?_))
 show AH _ X.A (do let _<-comprehension (.ListComp elt [⟨tg,iter,ifs,0⟩] scope pos) scope X.env _ (newList []) false (eval iter X.env) (ξ (assign (.Name y py) X.env))) _ _ s
 refine AG (wpAny_mono (b1i (QQ:=λ_ s'=>SP X pins D .next s') hL hx0 hst hfm hc S hi hg ht he hs I h λL C s' H' m I' hn hC gone q=> ?_) (λ_ s' hq=>AN (AN hq)) λ_ _ e=>e)
 obtain⟨g1,g2,g3,g4⟩:=gone
 show AH _ X.A (assign (.Name y py) X.env (.ref L)) _ _ _
 refine wpAny_assign_Name (a4Z (v:= .ref L) I' hN hiy (.inl hy) rfl (λs2 I2 ⟨a,sb,ha⟩=> ?_) (.inr hy))
 have hCa:C≠a:=by
  rcases ha with z|z
  ·rw [z];exact g1
  ·exact λe=>g3 y a z e.symm
 refine⟨m,hn.sameBut sb hCa,λh' hs'=>⟨_,H',I2.turned (t':=s2.toks) (λb o hb e=>hs'.extBut b o hb e) hC g1 (.inr g2) g3 g4,q⟩⟩
end
def b96(q:PV):List PV ⊕ XT->List PV ⊕ XT
 | .inl l=> .inl (q::l)
 | .inr x=> .inr x
def a07(c:MT)(elt:MV)(tg:PV->b0->Option b0)(ρ:b0):List PV->Option (List PV ⊕ XT)
 |[]=>ξ (.inl [])
 |p::ps=>(tg p ρ).bind λρ1=>(c ρ1).bind λb=>if b=true then(elt ρ1).bind λr=>match r with
  | .inl r=>(r.toVal).bind λq=>(a07 c elt tg ρ ps).bind λz=>ξ (b96 q z)
  | .inr x=>ξ (.inr x)
  else a07 c elt tg ρ ps
def b7a:List PV ⊕ XT->c6 ⊕ XT
 | .inl l=> .inl (.own l)
 | .inr x=> .inr x
def a6E(k:Nat)(it:MI)(tg:PV->b0->Option b0)(c:MT)(elt:MV):MV:=λρ=>(it ρ).bind λps=>if ps.length<=AM then(a07 c elt tg (ρ++AO k ζ) ps).bind λr=>ξ (b7a r) else ζ
def c0i(done:List PV):List PV ⊕ XT->List PV ⊕ XT
 | .inl l=> .inl (done++l)
 | .inr x=> .inr x
def WX(K:AE)(F H:Hp)(D:AA)(c:MT)(elt:MV)(tg:PV->b0->Option b0)(ρ:b0)(ps:List PV)(r:List PV ⊕ XT)(i m:Nat)(xs:List V)(H':Hp):Prop:=
 ∃F' done rest,i<=ps.length/\m=ps.length - i/\O8 F H F' H'/\F' D=ζ/\j4 K F' done xs/\done.length<=i/\a07 c elt tg ρ (ps.drop i)=ξ rest/\c0i done rest=r
theorem b1h{K:AE}{mg:Str->Option AB}{E:XK}{Q:VK}{F H:Hp}{D:AA}{c:MT}{elt:MV}{tg:PV->b0->Option b0}{g:TG}{σ:L2.St}{ρ:b0}{k:Nat}{ps:List PV}{r:List PV ⊕ XT}{i m:Nat}{xs:List V}{H':Hp}{p:PV}{x:V}
 (T:a2N K ρ.length g tg) (en:A5 K F H σ ρ) (hD:H D=ζ) (hsz:ps.length<=AM) (W:WX K F H D c elt tg (ρ++AO k ζ) ps r i m xs H') (hx:H' D=ξ (.lst xs)) (ep:ps[i]?=ξ p) (rx:C0 K F p x) (kk:b02 K mg E F H Q (b7a r)):
 g x (σ++AO k ζ) H' λσ4 H4=>(∀(j:Nat) v,(σ++AO k ζ)[j]?=ξ (ξ v)->σ4[j]?=ξ (ξ v))/\tMT K c σ4 H4 λb H5=>if b=true then tMV K mg E elt σ4 H5 λv H6=>H6 D=ξ (.lst xs)/\xs.length<AM/\∃m',m'<m/\WX K F H D c elt tg (ρ++AO k ζ) ps r (i+1) m' (xs++[v]) (m9 H6 D (.lst (xs++[v])))
  else H5 D=ξ (.lst xs)/\∃m',m'<m/\WX K F H D c elt tg (ρ++AO k ζ) ps r (i+1) m' xs H5:=by
 obtain⟨F',done,rest,hi,hm,ex,fD,rl,dl,hc,hr⟩:=W
 have hk:i<ps.length:=(Ac.mp ep).1
 have hd:ps.drop i=p::ps.drop (i+1):=by
  rw [List.drop_eq_getElem_cons hk]
  congr 1
  exact(Ac.mp ep).2
 rw [hd] at hc
 unfold a07 at hc
 obtain⟨ρ1,e1,hc⟩:=bind_some hc
 obtain⟨b,e2,hc⟩:=bind_some hc
 have en':=(en.ext ex).more k
 refine T F' H' _ _ ρ1 p x _ en' (C0.mono ex.f _ rx) e1 λσ4 en4 keep=>⟨λj v e=> ?_, ?_⟩
 ·by_cases hj:j<ρ.length
  ·rw [keep j hj];exact e
  ·rw [List.getElem?_append_right (by rw [en.len];lia),List.getElem?_replicate] at e
   split at e<;>cases e
 refine⟨F',ρ1,b,en4,e2,λF5 H5 x5=> ?_⟩
 have ex5:=ex.trans x5
 have fD5:F5 D=ζ:=x5.nw D _ fD hx (λ_ h=>nomatch h)
 cases b with
 |false=>
  rw [if_neg Af] at hc
  refine a81 ⟨x5.h _ _ hx,ps.length - (i+1),by lia,F5,done,rest,by lia,rfl,ex5,fD5,j4.mono x5.f _ rl,by lia,hc,hr⟩
 |true=>
  rw [if_pos rfl] at hc
  obtain⟨re,e5,hc⟩:=bind_some hc
  refine a82 ⟨F5,ρ1,re,en4.ext x5,e5, ?_⟩
  cases re with
  |inr q=>
   cases hc
   subst hr
   exact kk.trans ex5
  |inl re=>
   obtain⟨q,e6,hc⟩:=bind_some hc
   obtain⟨rt,e4,hc⟩:=bind_some hc
   cases hc
   intro v F6 H6 o6
   obtain⟨F7,o7⟩:=o6.toVal e6
   have hx6:H6 D=ξ (.lst xs):=o6.x.h _ _ (x5.h _ _ hx)
   have fD7:F7 D=ζ:=o7.x.nw D _ fD5 (x5.h _ _ hx) (λ_ h=>nomatch h)
   have ex7:=ex5.trans o7.x
   have hlen:=rl.length
   refine⟨hx6,by lia,ps.length - (i+1),by lia,F7,done++[q],rt,by lia,rfl,⟨ex7.f,λa o z=> ?_,λa o z=> ?_,ex7.nw,ex7.nf⟩,fD7,j4.append (j4.mono (x5.f.trans o7.x.f) _ rl) ⟨v,[],rfl,o7.rep,rfl⟩,by simp;lia,e4, ?_⟩
   ·rw [g6 (i5 z hD)];exact ex7.h _ _ z
   ·rw [g6 (i5 z fD7)];exact ex7.fh _ _ z
   ·rw [<-hr]
    cases rt with
    |inl l=>show Sum.inl _=Sum.inl _;rw [List.append_assoc];rfl
    |inr x=>rfl
theorem b3f{K:AE}{mg:Str->Option AB}{E:XK}{Q:VK}{F H:Hp}{D:AA}{c:MT}{elt:MV}{tg:PV->b0->Option b0}{ρ:b0}{ps:List PV}{r:List PV ⊕ XT}{m:Nat}{xs:List V}{H':Hp}(hD:H D=ζ)(W:WX K F H D c elt tg ρ ps r ps.length m xs H')(hx:H' D=ξ (.lst xs))(kk:b02 K mg E F H Q (b7a r)):Q (.ref D) H':=by
 obtain⟨F',done,rest,hi,hm,ex,fD,rl,dl,hc,hr⟩:=W;rw [List.drop_length] at hc;cases hc;subst hr;have kk:∀v F' H',u6 K F H F' H' v (.own (done++[]))->Q v H':=kk;rw [Ah] at kk;exact kk _ F' H' ⟨ex,⟨D,xs,rfl,fD,hx,rl⟩,λ_ _ _ e=>by cases e;exact hD⟩
section
variable {X:Cx}{E:XK}{tg:AF}
theorem b1g{mi:MI}{wi:TI}{g:TG}{c:MT}{elt:MV}{t:PV->b0->Option b0}{N:List Str}{k:Nat}(hi:SI X.K mi wi)(T:∀n,n=N.length->a2N X.K n g t){σ:L2.St}{H:Hp}{Q:VK}(hl:σ.length=N.length)(h:tMV X.K X.mg E (a6E k mi t c elt) σ H Q):a7d wi g (tMT X.K c) (tMV X.K X.mg E elt) k σ H Q:=by
 obtain⟨F,ρ,r,en,e,kk⟩:=h;obtain⟨ps,e1,e⟩:=bind_some e;split at e
 ·rename_i hsz;obtain⟨rs,e2,e⟩:=bind_some e;cases e;refine hi F H σ ρ ps _ en e1 λF1 H1 J x1 S D hD=> ?_;have en1:=en.ext x1;have kk1:=kk.trans x1;have T':a2N X.K ρ.length g t:=T _ (by rw [<-en.len,hl])
  refine⟨WX X.K F1 H1 D c elt t (ρ++AO k ζ) ps rs,⟨ps.length,F1,[],rs,Nat.zero_le _,rfl,O8.layH x1.fh hD,x1.fh.free hD,rfl,AQ _,e2,by cases rs<;>rfl⟩,λi m xs H2 W hx=> ?_⟩
  have W':=W;obtain⟨F',done,rest,hi',hm,ex,fD,rl,dl,hc,hr⟩:=W';have sF:j2 H1 H2:=ex.h
  by_cases hlt:i<ps.length
  ·refine .inr ⟨S.go i ps[i] H2 sF (by simp [hlt]),λx H3 y=> ?_⟩
   obtain⟨e3,rx⟩:=S.yd i ps[i] x H2 H3 sF (by simp [hlt]) y
   subst e3;exact b1h T' en1 hD hsz W hx (by simp [hlt]) rx kk1
  ·have e3:i=ps.length:=by lia
   subst e3;exact .inl ⟨S.st _ H2 sF (AQ _),b3f hD W hx kk1⟩
 ·cases e
theorem b4F{i:Nat}{y:Str}{elt iter:AF}{ifs:List AF}{scope:Scope}{N0 ys:List Str}{mi:MI}{g:TG}{c:MT}{m:MV}{t:PV->b0->Option b0}{pos py spos:Pos}(hN:X.N.Nodup)(hL:a0I X E)(hc:X.calm=true)(S:E8 X.N N0 ys X.env scope)(hi:EI X tg iter mi)
 (hg:∀C fp pins s H Y pn,PG ((p5 X N0 scope ys C fp pins s H).aim Y pn) tg g) (T:∀n,n=X.N.length->a2N X.K n g t) (ht:∀C fp pins s H Y pn,EC ((p5 X N0 scope ys C fp pins s H).aim Y pn) ifs c) (he:∀C fp pins s H Y pn,C6 (CX1 X.prog X.w) ((p5 X N0 scope ys C fp pins s H).aim Y pn) (λ_=>E)->EV ((p5 X N0 scope ys C fp pins s H).aim Y pn) E elt m)
 (hx0:X.ex=[]:=by rfl) (hst:X.stack=X.env::X.outer:=by rfl) (hfm:X.env.frame=ξ X.env.locals:=by rfl)
 (hiy:X.N[i]?=ξ y:=by rfl) (hy:X.env.scope.names.lookup y=ξ .local:=by rfl) (hsw:swapsWith (.ListComp elt [⟨tg,iter,ifs,0⟩] scope pos) (ξ (.Name y py)) spos.line X.env=pure true:=by rfl)
 (hs:∀x,foldedSetIterable iter X.env x=pure x:=by intro _;rfl):EX X (λ_=>E) (.Assign [.Name y py] (.ListComp elt [⟨tg,iter,ifs,0⟩] scope pos) spos) (u9 i (a6E ys.length mi t c m)):=by
 obtain⟨wi,h1,h2⟩:=hi
 intro pins s σ H D I ⟨F0,H0,F,ρ,fx,so,e,fin⟩
 obtain⟨r,e1,e⟩:=bind_some e
 refine b5I (E:=E) hL hx0 hst hfm hc S h1 hg ht he hN hiy hy hsw hs pins s σ H D I (b1g (N:=X.N) h2 T I.len ⟨F,ρ,r,so.e,e1, ?_⟩)
 cases r with
 |inl r=>
  have e:(if r.nb=true then ξ (FX.fl (.nx (ρ.set i (ξ r)))) else ζ)=ξ fx:=e
  split at e
  ·rename_i c
   cases e
   exact λv F' H' o=>fin _ F' H' o.x.f (so.set o c i)
  ·cases e
 |inr c=>
  cases e
  obtain⟨C,h1,h2⟩:=fin
  exact⟨C,h1,λa F' H' y hn=>h2 σ a F' H' y.f (so.ext y) hn⟩
end
section
variable {X:Cx}{E:L2.St->XK}
theorem T6{st:List Stmt}:EXs X E st (λ_=>ζ):=λpins s σ H D I h=>by
 obtain⟨F0,H0,F,ρ,fl,so,e,fin⟩:=h;cases e
theorem b4G{tg a:AF}{body:List Stmt}{m:MA}{g:TG}{t:PV->b0->Option b0}{b:MX}{p rp pos:Pos}(hp:PassesOwn (model X.prog X.w) X.A X.env X.xe)(hc:X.calm=true)(hgl:Gl X "range")(hm:X.mg "range"=ζ)(ha:EA X [a] m)(hg:PG X tg g)(T:a5A X.K g t)(hb:EXs X E body b)
 (hst:AL [a] X.env=[(false,eval a X.env)]:=by rfl) (hs:∀x,foldedSetIterable (.Call (.Name "range" p) [a] [] rp) X.env x=pure x:=by intro _;rfl):EX X E (.For tg (.Call (.Name "range" p) [a] [] rp) body [] pos) (a0p (B7 m) t b):=
 w8 (a3r hp hc (a8r hgl hm ha hst) hg hb hs) λD σ H ⟨F0,H0,F,ρ,fl,so,⟨e,fin⟩⟩=>by
  ext k
  ·rename_i j;split at e2
   ·rename_i c;have c:=a1i.mp c;cases e2;obtain⟨v,r,rfl,rv,rr⟩:=rl;cases rv;cases rr;have fin1:=a2C.later (σ1:=σ) x.f fin;have hz:(j - 0).toNat=j.toNat:=by lia
    refine⟨j,rfl,c.1,c.2,a4E (lo:=0) (n:=j.toNat) (PvX X.K F0 H0 F1 b t (Y8 0 j) fl) ⟨F1,ρ,PU.j2.refl F1,so.ext x,e⟩ (λk σ H hk hp=> ?_) (λσ H hp=> ?_)⟩
    ·exact a3m T fin1 (a4f (by lia)) hp λ_ _=>rfl
    ·have:j.toNat=(Y8 0 j).length:=by rw [a19,hz]
     rw [this] at hp;exact a2x fin1 hp
   ·cases e2
  ·cases e2
end
theorem w6{P:AJ}{w:AI}{K:AE}{mg:Str->Option AB}{base:Heap}{x qual:Str}{st:Stmt}{N ps:List Str}{k:Nat}{m:MX}{f:AA}(D:Dm K x qual st f)(S:g0 N ps (b5 st))
 (hi:∀(kV doc pm:AB) (an:Option AA) (cdv ct:AB) (us:List AB),us.length=ps.length->bindArgs (PySem.W.fnOf x qual (y4 st) (m7 st) (b5 st) .none kV doc pm an cdv ct) ⟨us,[]⟩=pure (ps.zip us))
 (hb:∀(cdv:AB) (A:AK) (outer:List Env) (s:AC) (H:Hp) (E:XK),y0 k (A.deeper (envOfC qual (b5 st) s.heap.objs.size f cdv))->C6 (CX1 P w) (P4 (CX1 P w) P w K mg base N qual (b5 st) f cdv A outer s H E) (λ_=>E)->a0I (P4 (CX1 P w) P w K mg base N qual (b5 st) f cdv A outer s H E) E->EXs (P4 (CX1 P w) P w K mg base N qual (b5 st) f cdv A outer s H E) (λ_=>E) (m7 st) m):
 z9 P w K mg base f ps (k+1) (A7 (N.length - ps.length) m):=
 b4L D S hi λcdv A outer s H E hr=>hb cdv A outer s H E hr (λpins σ H s e s' I h=>a6y pins σ H s e s' I h) b0d
theorem J4{P:AJ}{w:AI}{K:AE}{mg:Str->Option AB}{base:Heap}{x:Str}{st:Stmt}{N ps:List Str}{k:Nat}{m:MX}(D:Df K mg x st)(S:g0 N ps (b5 st))
 (hi:∀(kV doc pm:AB) (an:Option AA) (cdv ct:AB) (us:List AB),us.length=ps.length->bindArgs (PySem.W.fnOf x x (y4 st) (m7 st) (b5 st) .none kV doc pm an cdv ct) ⟨us,[]⟩=pure (ps.zip us))
 (hb:∀(f:AA) (cdv:AB) (A:AK) (outer:List Env) (s:AC) (H:Hp) (E:XK),y0 k (A.deeper (envOfC x (b5 st) s.heap.objs.size f cdv))->C6 (CX1 P w) (P4 (CX1 P w) P w K mg base N x (b5 st) f cdv A outer s H E) (λ_=>E)->a0I (P4 (CX1 P w) P w K mg base N x (b5 st) f cdv A outer s H E) E->EXs (P4 (CX1 P w) P w K mg base N x (b5 st) f cdv A outer s H E) (λ_=>E) (m7 st) m):
 G7 P w K mg base x ps (k+1) (A7 (N.length - ps.length) m):=
 b6C D S hi λf cdv A outer s H E hr hx=>hb f cdv A outer s H E hr hx b0d
open PySem PySem.Spec PyProof.Rows L2 PySem.W
section
variable {X:Cx}
end
def tvr(r:c6):Option (List (List n5×PV)):=match r with
 | .v (.dict es)=>(unE es).bind λkvs=>if b0v kvs=true then ξ kvs else ζ
 | .ow (.txt kvs)=>ξ kvs
 | .bo (.txt kvs)=>ξ kvs
 |_=>ζ
def k1(k:List n5):PV:=match k with
 |[x]=>kP x
 |_=> .none
theorem b9V{kvs:List (List n5×PV)}(ho:b0v kvs=true):tvr (.v (tv kvs))=ξ kvs:=by
 show(unE _).bind _=_;rw [b2a,AR,if_pos ho]
section
variable {K:AE}{F H:Hp}
theorem b9U{v:V}{r:c6}{kvs:List (List n5×PV)}(s:j2 F H)(hr:O9 K F H v r)(h:tvr r=ξ kvs):∃a xs,v= .ref a/\H a=ξ (.dK xs)/\A4 K F kvs (xs.map s1):=by
 unfold tvr at h;split at h
 ·rename_i es;obtain⟨kvs',e1,h⟩:=bind_some h;split at h
  ·rename_i ho;cases h;rcases hr with⟨a,ys,rfl,ha,hr⟩|⟨a,xs,rfl,ha,hr⟩|⟨x,t,e,_⟩|⟨x,m,fs,_,hr⟩
   ·obtain⟨kvs',h1,h2⟩:=a4p hr;rw [e1] at h1;cases h1;exact⟨a,ys,rfl,s _ _ ha,h2⟩
   ·exfalso
    obtain⟨kvs',h1,h2⟩:=a4p hr;rw [e1] at h1;cases h1;cases kvs with
    |nil=>cases h2
    |cons f fs=>
     obtain⟨k,p⟩:=f;obtain⟨v,t,e,_⟩:=h2;cases e;simp [b0v] at ho
   ·subst e;simp [unE] at e1
   ·cases es with
    |nil=>cases hr
    |cons f es=>obtain⟨k,p⟩:=f;obtain⟨_,_,_,_,z,_⟩:=hr;subst z;simp [unE] at e1
  ·cases h
 ·cases h;obtain⟨a,xs,rfl,_,ha,rl⟩:=hr;exact⟨a,xs,rfl,ha,rl⟩
 ·cases h;obtain⟨a,xs,rfl,_,ha,rl⟩:=hr;exact⟨a,xs,rfl,ha,rl⟩
 ·cases h
theorem b0E:∀{kvs:List (List n5×PV)} {xs:List (n5×V)},A4 K F kvs (xs.map s1)->j4 K F (kvs.map λkv=>k1 kv.1) (xs.map λx=>kV x.1)
 |[],[],_=>rfl
 |[],_::_,r=>by cases r
 |_::_,[],⟨_,_,e,_⟩=>by cases e
 |(k,q)::es,y::ys,⟨v,t,e,rv,rt⟩=>by
  injection e with e1 e2
  subst e2;have ek:k=[y.1]:=(congrArg Prod.fst e1).symm;subst ek;refine⟨_,_,rfl, ?_,b0E rt⟩;show C0 K F (kP y.1) (kV y.1);cases y.1<;>rfl
end
theorem b3E{k:n5}{v:AB}(h:a30 k v=true):L2.l8 (kV k) v:=by
 unfold a30 at h;cases k with
 |inl i=>
  cases v<;>first|cases h|skip
  rename_i j t;have:j=i:=beq_iff_eq.mp h;subst this;exact⟨t,rfl⟩
 |inr x=>
  cases v<;>first|cases h|skip
  rename_i y t;have:y=x:=beq_iff_eq.mp h;subst this;exact⟨t,rfl⟩
def P9(r:c6):Option c6:=(tvr r).bind λkvs=>if kvs.length<=AM then ξ (.own (kvs.map λkv=>k1 kv.1)) else ζ
section
variable {X:Cx}
theorem b2C:∀{ys:List (n5×V)} {vs:List (n5×AB)} {us:List AB},KV ys vs->us.length=vs.length->(∀(j:Nat) (v:AB),us[j]?=ξ v->∃k x,vs[j]?=ξ (k,x)/\a30 k v=true)->l9 (ys.map λy=>kV y.1) us
 |_,_,[],.nil,_,_=> .nil
 |_,_,_::_,.nil,e,_=>nomatch e
 |_,_,[],.cons _ _,e,_=>nomatch e
 |_,_,u::us,.cons (a:=y) (b:=z) r t,e,h=>by
  refine .cons ?_ (b2C t (by simpa using e) λj v q=>h (j+1) v q)
  obtain⟨k,x,e1,e2⟩:=h 0 u rfl;have e1:ξ z=ξ (k,x):=e1;cases e1;show L2.l8 (kV y.1) u;rw [show y.1=k from r.1];exact b3E e2
theorem a9U(hc:X.calm=true):M5 X (.type "list") (rC1 X.K P9):=by
 ext e
 obtain⟨u,rfl,ru⟩:=a4q rv;unfold P9 at h2;obtain⟨kvs,e1,h2⟩:=bind_some h2;split at h2
 ·rename_i hl;cases h2;obtain⟨a,ys,rfl,ha,rl⟩:=b9U s0 h1 e1;cases ru;obtain⟨z,hd,vals,rel,dd⟩:=b7Z I.hok ha;obtain⟨ep,hat⟩:=dd.dictAt;have hz:ys.length<=AM:=by have:=rl.length;rw [AX] at this;lia
  refine kdl_call (kdl_dict (d:=a) (kvs:=vals) (ep:=ep) (knd:=v0 X.prog X.w) hd) (I.ok.hd hc) hat (by rw [<-Paired.length rel];exact hz) λh' tk acc' c' kp hS hacc=> ?_
  have hw:l9 (ys.map λy=>kV y.1) acc'.toList:=b2C rel (by rw [Array.length_toList];exact hacc.1) λj v e=>hacc.2 j v (by rw [<-Array.getElem?_toList];exact e)
  exact⟨.ref s.heap.objs.size,_,I.laid (t':=tk) (o:= .lst (ys.map λy=>kV y.1)) kp (AQ _) ⟨by rw [AX];exact hz,acc'.toList,c',hw,by rw [hS]⟩,rfl,k _ F _ (u6.lst s0 (I.hok.fresh (AQ _)) (b0E rl))⟩
 ·cases h2
def b0h(neg:Bool)(i:Nat)(mk:M):M:=λρ=>((mk ρ).bind a85).bind λx=>(tvw i ρ).bind λkvs=>ξ (.v (.bool (if neg then !(U9 kvs [.inr x]).isSome else(U9 kvs [.inr x]).isSome)))
theorem b54{i:Nat}{mk:M}{neg:Bool}{σ:L2.St}{H:Hp}{Q:VK}(h:tM X.K (b0h neg i mk) σ H Q):
 tM X.K mk σ H λy H1=>a0a i σ H1 λx H2=>∃a o,x= .ref a/\a1y H2 a y o/\Q (.bl (if neg then !o.isSome else o.isSome)) H2:=by
 obtain⟨F,ρ,r,en,e,k⟩:=h
 obtain⟨kk,e4,e⟩:=bind_some e
 obtain⟨rk,e4,e5⟩:=bind_some e4
 obtain⟨kvs,e3,e⟩:=bind_some e
 cases e
 refine⟨F,ρ,rk,en,e4,λy F3 H3 o3=> ?_⟩
 cases a11 e5 o3.rep
 obtain⟨a,xs,hw1,ha',rl⟩:=b19 en e3
 refine⟨.ref a,hw1,a,a0G xs (.inr kk),rfl,a1y.k (o3.x.h _ _ (en.fh _ _ ha')), ?_⟩
 have:=rl.isSome (k:=[.inr kk])
 rw [a42] at this
 rw [this]
 exact k _ _ _ (u6.val o3.x rfl)
theorem b1p(i:Nat){x:Str}{p pos:Pos}{ek:AF}{mk:M}(hu:X.A.units+64<cLine)(hx:PE X (.Name x p) (a0a i))(hi:EE X ek mk)(hm:behindInMarks .NotIn (.Name x p)=false):ET X (.Compare ek [.NotIn] [.Name x p] pos) (r6 (b0h true i mk)):=
 a4T (b1V (a8q (by lia) hi hx) hm) λσ H Q h=>b5Y (λ_ _ _ h=>b54 h) h
end
open PySem.W (Looks InstAt looks_findIn looks_find looks_subIn looks_mroIn)
theorem b1L{K:AE}{prog:AJ}{w:AI}{A:AK}{E:AB->AC->Prop}{s:AC}{x D tp:AA}{o ob:Obj}{od:Option Obj}{its:Array AB}{n:Nat}{vs:List Bool}{tk:Tok}{Q:PySem.Fin->AC->Prop}
 (kin:K.In s.heap) (I:InstAt s.heap x o D od) (htp:s.heap.get? tp=ξ ob) (hc:ob.cls= .type "tuple") (hd:ob.data= .seq its n)
 (hne:(Value.ref D==Value.ref tp)=false) (ha:AnswersAll (λs=>K.In s.heap/\∃o od,InstAt s.heap x o D od) (.ref x) its.toList vs)
 (hq:∀tk',Q (.done (.ret (.bool (vs.any id)))) {s with toks:=tk'}):AH (model prog w) A (Builtin.«isinstance.nested» ⟨[.ref x,.ref tp,.int 0 tk],[]⟩) Q E s:=by
 obtain⟨h,g,d,t,os⟩:=s
 obtain⟨cls,dct,dat,slo⟩:=ob
 cases hc
 cases hd
 have hT2:(⟨h,g,d,t,os⟩:AC).TypeIs (.ref tp) "tuple":=⟨_,htp,rfl⟩
 have f1:=F.isi_sub_tuple
 have L0:=I.type (M:=model prog w)
 repeat (any_goals (first|assumption|with_reducible refine L0.at ?_|wp_step))
 refine wpAny_arrayLoop ?_
 simp only [Option.getD_some]
 refine isinstance_items (dep:=0) (P:=λs=>K.In s.heap/\∃o od,InstAt s.heap x o D od) (λ_ _ h=>h) its.toList vs _ _ ha ⟨kin,o,od,I⟩ λtk'=> ?_
 cases hv:vs.any id with
 |true=>
  simp only [if_true]
  repeat (any_goals (first|assumption|wp_step))
  exact hv▸hq tk'
 |false=>
  simp only [As,if_false]
  repeat (any_goals (first|assumption|wp_step))
  exact hv▸hq tk'
theorem b2f{K:AE}{x D:AA}(F:XcF K D):∀cs:List AB,(∀c∈cs,PySem.W.kitOne K (.ref D) c=ξ false)->AnswersAll (λs=>K.In s.heap/\∃o od,InstAt s.heap x o D od) (.ref x) cs (cs.map λ_=>false)
 |[],_=>trivial
 |c::cs,h=>⟨a7X F (h c Aa),b2f F cs λd hd=>h d (AY _ hd)⟩
theorem b4n:∀cs:List AB,(cs.map λ_=>false).any id=false
 |[]=>rfl
 |_::cs=>b4n cs
theorem a5Z{P:AA->Prop}:∀d∈([]:List AA),P d:=λ_ h=>nomatch h
theorem A8{P:AA->Prop}{a:AA}{l:List AA}(h:P a)(t:∀d∈l,P d):∀d∈a::l,P d:=List.forall_mem_cons.mpr ⟨h,t⟩
def b6h(K:AE)(cs:List AA)(tab:List (Str×Bool)):Prop:=∀c b,tab.lookup c=ξ b->b=false/\∃C,E7 K c C/\XcF K C/\∀d∈cs,PySem.W.kitOne K (.ref C) (.ref d)=ξ false
theorem b51{K:AE}{cs:List AA}:b6h K cs []:=λ_ _ h=>nomatch h
theorem a40{K:AE}{mg:Str->Option AB}{cs:List AA}{c:Str}{C:AA}{t:List (Str×Bool)}(x:XC K mg c C)(f:a7R K C=true)(e:∀d∈cs,PySem.W.kitOne K (.ref C) (.ref d)=ξ false)(h:b6h K cs t):b6h K cs ((c,false)::t):=λc1 b1 q=>by
 rw [List.lookup_cons] at q;split at q
 ·rename_i z;cases q;rw [beq_iff_eq.mp z];exact⟨rfl,C,x.named,b20 f,e⟩
 ·exact h c1 b1 q
theorem a8B:∀{cs:List AA} {us:List AB},l9 (cs.map V.ref) us->us=cs.map Value.ref
 |[],_,h=>by cases h;rfl
 |c::cs,_,h=>by
  rw [AS] at h;cases h with
  |cons p q=>rw [a8B q,AS,show _=Value.ref c from p]
section
variable {X:Cx}
theorem b6v{tab:List (Str×Bool)}{cs:List AA}{e:AF}{es:List AF}{x1}{m:M}{tA:TA}{p p2 pos:Pos}(T:b6h X.K cs tab)(hz:cs.length<=AM)(hg:Gl X "isinstance")(hm:X.mg "isinstance"=ζ)(ha:EE X e m)(hT:PA X es tA)(hA:∀σ H Q,Q (cs.map V.ref) H->tA σ H Q)
 (he:AL [e,.Tuple es x1 p2] X.env=(false,eval e X.env)::AL [.Tuple es x1 p2] X.env:=by rfl) (he2:AL [.Tuple es x1 p2] X.env=(false,eval (.Tuple es x1 p2) X.env)::AL [] X.env:=by rfl) (hpl:(backTo pos (AL [.Tuple es x1 p2] X.env)).any (·.1)=false:=by rfl)
 (hv:bootBuiltins "isinstance"=ξ (.builtin "isinstance"):=by rfl):
 EE X (.Call (.Name "isinstance" p) [e,.Tuple es x1 p2] [] pos) (m1 (b1u tab) m):=by
 have hc:M5 X (.builtin "isinstance") (λxs H Q=>∃F x c tp,xs=[x,.ref tp]/\j2 F H/\b09 X.K F c x/\H tp=ξ (.tup (cs.map V.ref))/\tab.lookup c=ξ false/\Q (.bl false) H):=by
  intro pins s σ H xs us Q I rv0 h;obtain⟨F,x,c,tp,rfl,s0,h1,ht,hl,q⟩:=h;obtain⟨u,u2,rfl,ru,ru2⟩:∃u1 u2,us=[u1,u2]/\l8 x u1/\l8 (.ref tp) u2:=by
   cases rv0 with
   |cons p q=>
    cases q with
    |cons p' q'=>
     cases q';exact⟨_,_,rfl,p,p'⟩
  cases(show u2=Value.ref tp from ru2);obtain⟨_,C,nm,fc,k1⟩:=T c false hl;have fin:∀tk,EP X pins σ Q (.bool false) {s with toks:=tk}:=λtk=>⟨.bl _,H,I.tok tk,rfl,q⟩
  obtain⟨a,C',o,od,rfl,g4,J⟩:=b24 I (h1.mono s0);cases g4.uniq nm;cases(show u=Value.ref a from ru);obtain⟨z,its,r,ob,e1,e2,n,e3⟩:=I.hok _ _ ht;have kin:=I.kIn;have hne:(Value.ref C==Value.ref tp)=false:=by
   cases hq:(Value.ref C==Value.ref tp) with
   |false=>rfl
   |true=>
    have hq:Value.ref C=Value.ref tp:=eq_of_beq hq;injection hq with hq
    obtain⟨cdD,hcD⟩:=Option.isSome_iff_exists.mp fc.cl;unfold PySem.W.clsIn at hcD;split at hcD
    ·rename_i c' d' cd' sl' ho;have:=kin _ _ ho;rw [hq,e1] at this;cases this;cases e3
    ·cases hcD
  have eits:=a8B r;refine call_isinstance (S:=λ_ R s=>((X.K.In s.heap/\∃o od,InstAt s.heap a o C od)/\s.heap.get? tp=ξ ob)/\∀tk,R (.ok (.ret (.bool false))) {s with toks:=tk}) (λprog w A R s hs=> ?_) ⟨⟨⟨kin,o,od,J⟩,e1⟩,fin⟩
  obtain⟨⟨⟨kin,o,od,J⟩,e1⟩,fin⟩:=hs;refine isinstance_outer ?_ (λz=>nomatch z);refine b1L (vs:=its.map λ_=>false) kin J e1 e2 e3 hne ?_ λtk=> ?_
  ·rw [List.toList_toArray];exact b2f fc its λd hd=>by
    rw [eits] at hd;obtain⟨d',hd',rfl⟩:=Aw.mp hd;exact k1 d' hd'
  ·rw [b4n];exact fin tk
 exact r9 (a15 hc hg hm hv (p8 ha (p8 (b5C hT) O4 he2) he) (by decide) (by decide) he hpl) λσ H Q h0=>n8 h0 λF ρ r h1 h2 k=>by
  obtain⟨rx,e1,h2⟩:=bind_some h2;refine⟨F,ρ,rx,h1,e1,λv F1 H1 o=> ?_⟩;obtain⟨c,hc,h2⟩:=bind_some h2;refine hA _ _ _ ⟨by rw [AX];exact hz,λtp hp=> ?_⟩
  cases hl:tab.lookup c with
  |none=>rw [hl] at h2;cases h2
  |some b=>
   rw [hl] at h2;cases h2;cases(T c b hl).1;exact⟨H1,v,c,tp,rfl,D2 hp,b21 (o.rep.rd o.x.fh) hc,i3,hl,k _ (m9 F1 tp (.tup (cs.map V.ref))) _ (u6.val (o.x.trans (O8.lay o.x.fh hp)) rfl)⟩
end
end PU
set_option maxHeartbeats 4000000
namespace LW
open PySem PySem.Spec PyProof.Rows L2 PU
def W8:PV:=(.int 24)
def K4:PV:=(.tuple [(.str "turn"),(.str "back"),(.str "cross"),(.str "other")])
def a3I:MS:=
 (m4 (m2 p9 (m2 m8 (m2 (x8 (λ_ j=>0<j) λi j=> .int (i % j)) (a5 0) (m2 (x8 b25 λi j=> .int (i ^ j.toNat)) (mC (.int 10)) (mC (.int 18)))) (m2 p9 (m2 m8 (mC (.int 2)) (a5 1)) (mC (.int 3)))) (m2 m8 (a5 1) (a5 1))))
def E6:List PV->Option c6:=G5 0 a3I
def N9:MS:=
 (g8 (l7 7 (m2 (x8 (λ_ j=>0<j) λi j=> .int (i % j)) (m2 m8 (a5 0) (m2 p9 (m2 p9 (m2 m8 (mC (.int 2)) (a5 4)) (m2 m8 (mC (.int 3)) (a5 6))) (mC (.int 69621)))) (mC (.int 1000003))))
 (l7 5 (m2 p9 (a5 5) (m2 i9 (a5 2) (m2 (x8 (λ_ j=>0<j) λi j=> .int (i % j)) (a5 7) (m1 K7 (a5 2)))))))
def O0:MS:=
 (g8 (l7 5 (mC (.str "")))
 (g8 (O1 (B7 (a4 (a5 3) a8)) (d7 6) N9)
 (L8 1 (a5 5))))
def a1I:MS:=
 (g8 (l7 1 (D0 a8))
 (g8 (l7 2 (M1 (mC (.str "abcdefghijklmnopqrstuvwxyz")) Q5 (O2 (m2 i9 (D0 (a4 (mC (.int 2)) (a4 (mC (.int 4)) (a4 (mC (.int 26)) a8)))) (m2 (x8 (λ_ j=>0<j) λi j=> .int (i % j)) (a5 0) (mC (.int 3)))))))
 (g8 (l7 3 (m2 p9 (mC (.int 1)) (m2 (x8 (λ_ j=>0<j) λi j=> .int (i % j)) (m2 (x8 (λ_ j=>0<j) λi j=> .int (i % j)) (m2 m8 (a5 0) (mC (.int 16807))) (mC (.int 999979))) (mC (.int 3)))))
 (g8 (O1 (B7 (a4 (m2 p9 (mC (.int 1)) (m2 (x8 (λ_ j=>0<j) λi j=> .int (i % j)) (m2 (x8 (λ_ j=>0<j) λi j=> .int (i % j)) (m2 m8 (a5 0) (mC (.int 48271))) (mC (.int 999983))) (mC (.int 3)))) a8)) (d7 4) O0)
 (m4 (u3 (a4 (mC (.str "plain")) (a4 (m1 a1W (a5 1)) a8))))))))
def T9:List PV->Option c6:=G5 7 a1I
def X2:MS:=
 (g8 (n3 (K6 (r6 (m2 gNe (a5 1) (D0 a8))) (r6 (m2 a6n (m2 (x8 (λ_ j=>0<j) λi j=> .int (i % j)) (m2 (x8 (λ_ j=>0<j) λi j=> .int (i % j)) (m2 m8 (a5 0) (mC (.int 40692))) (mC (.int 999961))) (mC (.int 5))) (mC (.int 3))))) (m4 (u3 (a4 (mC (.str "name")) (a4 (m2 i9 (a5 1) (m2 (x8 (λ_ j=>0<j) λi j=> .int (i % j)) (m2 (x8 (λ_ j=>0<j) λi j=> .int (i % j)) (m2 m8 (a5 0) (mC (.int 39373))) (mC (.int 999953))) (m1 K7 (a5 1)))) a8)))) j0)
 (m4 (i6 T9 (a4 (a5 0) a8))))
def Y2:List PV->Option c6:=G5 0 X2
def a52:MS:=
 (g8 (l7 3 (m2 (x8 (λ_ j=>0<j) λi j=> .int (i % j)) (m2 (x8 (λ_ j=>0<j) λi j=> .int (i % j)) (m2 m8 (a5 0) (mC (.int 62089911))) (mC (.int 999931))) (mC (.int 9))))
 (g8 (l7 4 (m2 p9 (mC (.int 1)) (m2 (x8 (λ_ j=>0<j) λi j=> .int (i % j)) (m2 (x8 (λ_ j=>0<j) λi j=> .int (i % j)) (m2 m8 (a5 0) (mC (.int 742938285))) (mC (.int 999959))) (m2 i9 (D0 (a4 (mC (.int 4)) (a4 (mC (.int 24)) a8))) (m1 b4T (m2 D6 (m2 (x8 (λ_ j=>0<j) λi j=> .int (i % j)) (a5 0) (mC (.int 7))) (mC (.int 1))))))))
 (g8 (l7 5 (mC (.str "abcdefghijklmnopqrstuvwxyz")))
 (g8 (n3 (r6 (m2 D6 (a5 3) (mC (.int 0)))) (g8 (l7 6 (D0 (a4 (mC (.str "turn")) (a4 (mC (.str "half")) (a4 (mC (.str "back")) (a4 (mC (.str "side")) (a4 (mC (.str "flip")) (a4 (mC (.str "cross")) (a4 (mC (.str "other")) a8)))))))))
 (m4 (u3 (a4 (mC (.str "turned")) (a4 (m2 i9 (a5 6) (m2 (x8 (λ_ j=>0<j) λi j=> .int (i % j)) (a5 0) (mC (.int 7)))) (a4 (a5 1) a8)))))) j0)
 (g8 (n3 (r6 (m2 D6 (a5 3) (mC (.int 1)))) (m4 (u3 (a4 (mC (.str "dye")) (a4 (m2 i9 (a5 5) (m2 (x8 (λ_ j=>0<j) λi j=> .int (i % j)) (a5 0) (mC (.int 4)))) (a4 (m2 i9 (a5 5) (m2 (x8 (λ_ j=>0<j) λi j=> .int (i % j)) (m2 (x8 a5z λi j=> .int (i / j)) (a5 0) (mC (.int 4))) (mC (.int 26)))) (a4 (a5 1) a8)))))) j0)
 (g8 (n3 (r6 (m2 D6 (a5 3) (mC (.int 2)))) (m4 (u3 (a4 (mC (.str "across")) (a4 (a5 4) (a4 (a5 1) a8))))) j0)
 (g8 (n3 (r6 (m2 D6 (a5 3) (mC (.int 3)))) (m4 (u3 (a4 (mC (.str "down")) (a4 (a5 4) (a4 (a5 1) a8))))) j0)
 (g8 (n3 (r6 (m2 D6 (a5 3) (mC (.int 4)))) (m4 (u3 (a4 (mC (.str "beside")) (a4 (D0 (a4 (a5 1) (a4 (a5 2) a8))) a8)))) j0)
 (g8 (n3 (r6 (m2 D6 (a5 3) (mC (.int 5)))) (m4 (u3 (a4 (mC (.str "above")) (a4 (D0 (a4 (a5 1) (a4 (a5 2) a8))) a8)))) j0)
 (g8 (n3 (r6 (m2 D6 (a5 3) (mC (.int 6)))) (m4 (u3 (a4 (mC (.str "beside")) (a4 (D0 (a4 (a5 1) (a4 (u3 (a4 (mC (.str "turned")) (a4 (mC (.str "side")) (a4 (a5 1) a8)))) a8))) a8)))) j0)
 (g8 (n3 (r6 (m2 D6 (a5 3) (mC (.int 7)))) (m4 (u3 (a4 (mC (.str "above")) (a4 (D0 (a4 (a5 1) (a4 (u3 (a4 (mC (.str "turned")) (a4 (mC (.str "flip")) (a4 (a5 1) a8)))) (a4 (a5 1) a8)))) a8)))) j0)
 (m4 (u3 (a4 (mC (.str "beside")) (a4 (M1 (m2 m8 (D0 (a4 (a5 2) (a4 (a5 1) a8))) (mC (.int 3))) Q5 (O2 (m2 p9 (mC (.int 2)) (m2 (x8 (λ_ j=>0<j) λi j=> .int (i % j)) (a5 0) (mC (.int 5)))))) a8)))))))))))))))
def Q0:List PV->Option c6:=G5 4 a52
def j8:MS:=
 (g8 (n3 (r6 (m2 D6 (a5 0) (mC (.str "beside")))) (g8 (n3 (r6 (m2 gNe (m2 i9 (a5 3) (mC (.int 0))) (m2 i9 (a5 2) (mC (.int 0))))) (m4 (u3 (a4 (mC (.str "misfit")) (a4 (mC (.str "")) a8)))) j0)
 (l7 2 (u3 (a4 (m2 i9 (a5 2) (mC (.int 0))) (a4 (m2 p9 (m2 i9 (a5 2) (mC (.int 1))) (m2 i9 (a5 3) (mC (.int 1)))) a8))))) (g8 (n3 (r6 (m2 gNe (m2 i9 (a5 3) (mC (.int 1))) (m2 i9 (a5 2) (mC (.int 1))))) (m4 (u3 (a4 (mC (.str "misfit")) (a4 (mC (.str "")) a8)))) j0)
 (l7 2 (u3 (a4 (m2 p9 (m2 i9 (a5 2) (mC (.int 0))) (m2 i9 (a5 3) (mC (.int 0)))) (a4 (m2 i9 (a5 2) (mC (.int 1))) a8))))))
 (n3 (r6 (m2 (gI λi j=> .bool (decide (j<i))) (m1 a2S (a5 2)) (mC (.int 24)))) (m4 (u3 (a4 (mC (.str "wide")) (a4 (mC (.str "")) a8)))) j0))
def a29:MS:=
 (g8 (l7 2 (m2 i9 (a5 1) (mC (.int 0))))
 (g8 (O1 (a3n (M1 (a5 1) (O2 (mC (.int 1))) Q5)) (d7 3) j8)
 (V4 2)))
def a1d:List PV->Option c6:=G5 2 a29
def S3(E3:List PV->Option c6):M:=
 (i6 E3 (a4 (a5 6) (a4 (a5 1) a8)))
def a0B(E3:List PV->Option c6):M:=
 (a5 6)
def X4(E3:List PV->Option c6):MS:=
 (g8 (l7 2 (m2 i9 (a5 0) (mC (.int 0))))
 (g8 (n3 (r6 (m2 D6 (a5 2) (mC (.str "plain")))) (m4 (u3 (a4 (m1 K7 (m2 i9 (a5 0) (mC (.int 1)))) (a4 (m1 K7 (m2 i9 (m2 i9 (a5 0) (mC (.int 1))) (mC (.int 0)))) a8)))) j0)
 (g8 (n3 (r6 (m2 D6 (a5 2) (mC (.str "name")))) (m4 (a5O 1 (m2 i9 (a5 0) (mC (.int 1))) (u3 (a4 (mC (.str "name")) (a4 (m2 i9 (a5 0) (mC (.int 1))) a8))))) j0)
 (g8 (n3 (Z9 (r6 (m2 D6 (a5 2) (mC (.str "beside")))) (r6 (m2 D6 (a5 2) (mC (.str "above"))))) (g8 (l7 3 (V3 1 (B6 (m2 i9 (a5 0) (mC (.int 1)))) (d7 6) V5 (S3 E3)))
 (g8 (l7 4 (V3 1 (B6 (a5 3)) (d7 6) (mtV (m1 (Y1 "str") (m2 i9 (a5 6) (mC (.int 0))))) (a0B E3)))
 (g8 (n3 (r6 (m2 gNe (a5 4) (D0 a8))) (m4 (m2 i9 (a5 4) (mC (.int 0)))) j0)
 (a36 3 (m4 (i6 a1d (a4 (a5 2) (a4 (a5 3) a8)))))))) j0)
 (g8 (l7 5 (i6 E3 (a4 (m2 i9 (a5 0) (L6 (mC (.int 1)))) (a4 (a5 1) a8))))
 (g8 (n3 (Z9 (mtV (m1 (Y1 "str") (m2 i9 (a5 5) (mC (.int 0))))) (r6 (m2 D6 (a5 2) (mC (.str "dye"))))) (V4 5) j0)
 (g8 (n3 (r6 (m2 D6 (a5 2) (mC (.str "turned")))) (g8 (n3 (r6 (m2 (a97 false) (m2 i9 (a5 0) (mC (.int 1))) (D0 (a4 (mC (.str "turn")) (a4 (mC (.str "back")) (a4 (mC (.str "cross")) (a4 (mC (.str "other")) a8))))))) (m4 (u3 (a4 (m2 i9 (a5 5) (mC (.int 1))) (a4 (m2 i9 (a5 5) (mC (.int 0))) a8)))) j0)
 (V4 5)) j0)
 (g8 (n3 (r6 (m2 D6 (a5 2) (mC (.str "across")))) (l7 5 (u3 (a4 (m2 i9 (a5 5) (mC (.int 0))) (a4 (m2 m8 (m2 i9 (a5 5) (mC (.int 1))) (m2 i9 (a5 0) (mC (.int 1)))) a8)))) (l7 5 (u3 (a4 (m2 m8 (m2 i9 (a5 5) (mC (.int 0))) (m2 i9 (a5 0) (mC (.int 1)))) (a4 (m2 i9 (a5 5) (mC (.int 1))) a8)))))
 (g8 (n3 (r6 (m2 (gI λi j=> .bool (decide (j<i))) (m1 a2S (a5 5)) (mC (.int 24)))) (m4 (u3 (a4 (mC (.str "wide")) (a4 (mC (.str "")) a8)))) j0)
 (V4 5))))))))))
def a5r:Nat->(List PV->Option c6)
 |0=>(G5 4 (λ_=>ζ))
 |n+1=>(G5 4 (X4 ((a5r n))))
def a1Z(n:Nat):List PV->Option c6:=(a5r n)
def u8:List PV->Option c6:=a1Z 12
def S4(E4:List PV->Option c6):M:=
 (i6 E4 (a4 (a5 2) a8))
def X5(E4:List PV->Option c6):MS:=
 (g8 (l7 1 (m2 i9 (a5 0) (mC (.int 0))))
 (g8 (n3 (r6 (m2 D6 (a5 1) (mC (.str "plain")))) (m4 (m2 p9 (m2 p9 (mC (.str "[")) (m2 a1V (mC (.str "/")) (m2 i9 (a5 0) (mC (.int 1))))) (mC (.str "]")))) j0)
 (g8 (n3 (r6 (m2 D6 (a5 1) (mC (.str "name")))) (m4 (m2 i9 (a5 0) (mC (.int 1)))) j0)
 (g8 (n3 (Z9 (r6 (m2 D6 (a5 1) (mC (.str "beside")))) (r6 (m2 D6 (a5 1) (mC (.str "above"))))) (m4 (m2 p9 (m2 p9 (m2 p9 (a5 1) (mC (.str "("))) (m2 a1V (mC (.str ", ")) (V3 1 (B6 (m2 i9 (a5 0) (mC (.int 1)))) (d7 2) V5 (S4 E4)))) (mC (.str ")")))) j0)
 (g8 (n3 (Z9 (r6 (m2 D6 (a5 1) (mC (.str "across")))) (r6 (m2 D6 (a5 1) (mC (.str "down"))))) (m4 (m2 p9 (m2 p9 (m2 p9 (m2 p9 (m2 p9 (a5 1) (mC (.str "("))) (m1 b3y (m2 i9 (a5 0) (mC (.int 1))))) (mC (.str ", "))) (i6 E4 (a4 (m2 i9 (a5 0) (mC (.int 2))) a8))) (mC (.str ")")))) j0)
 (g8 (n3 (r6 (m2 D6 (a5 1) (mC (.str "turned")))) (m4 (m2 p9 (m2 p9 (m2 p9 (m2 i9 (a5 0) (mC (.int 1))) (mC (.str "("))) (i6 E4 (a4 (m2 i9 (a5 0) (mC (.int 2))) a8))) (mC (.str ")")))) j0)
 (m4 (m2 p9 (m2 p9 (m2 p9 (m2 p9 (m2 p9 (m2 p9 (mC (.str "dye(")) (m2 i9 (a5 0) (mC (.int 1)))) (mC (.str ", "))) (m2 i9 (a5 0) (mC (.int 2)))) (mC (.str ", "))) (i6 E4 (a4 (m2 i9 (a5 0) (mC (.int 3))) a8))) (mC (.str ")"))))))))))
def a5s:Nat->(List PV->Option c6)
 |0=>(G5 1 (λ_=>ζ))
 |n+1=>(G5 1 (X5 ((a5s n))))
def a10(n:Nat):List PV->Option c6:=(a5s n)
def Q1:List PV->Option c6:=a10 12
def J6:MS:=
 (g8 (l7 6 (m2 (x8 (λ_ j=>0<j) λi j=> .int (i % j)) (m2 m8 (a5 0) (m2 p9 (m2 m8 (mC (.int 2)) (a5 5)) (mC (.int 39373)))) (mC (.int 2147483629))))
 (g8 (l7 7 (i6 Q0 (a4 (a5 6) (a4 (a5 4) (a4 (i6 Y2 (a4 (m2 p9 (m2 m8 (a5 6) (mC (.int 7))) (mC (.int 1))) (a4 (a5 2) a8))) a8)))))
 (g8 (l7 8 (i6 u8 (a4 (a5 7) (a4 (a5 1) a8))))
 (g8 (l7 9 (b1G (b5h (m1 (Y1 "str") (m2 i9 (a5 8) (mC (.int 0))))) (m2 b6H (m1 a2S (a5 8)) (a5 3))))
 (n3 (K6 (Z9 (mtV (a5 9)) (r6 (m2 D6 (a5 3) (mC (.int 0))))) (r6 (m2 a6n (m1 K7 (i6 Q1 (a4 (a5 7) a8))) (mC (.int 381))))) (l7 4 (a5 7)) j0)))))
def a1H:MS:=
 (g8 (l7 4 (i6 Y2 (a4 (a5 0) (a4 (a5 2) a8))))
 (g8 (n3 (K6 (r6 (m2 (gI λi j=> .bool (decide (j<i))) (a5 3) (mC (.int 0)))) (mtV (m1 (Y1 "str") (m2 i9 (i6 u8 (a4 (a5 4) (a4 (a5 1) a8))) (mC (.int 0)))))) (l7 4 (i6 T9 (a4 (a5 0) a8))) j0)
 (g8 (O1 (B7 (a4 (m2 (x8 (λ_ j=>0<j) λi j=> .int (i % j)) (m2 (x8 (λ_ j=>0<j) λi j=> .int (i % j)) (m2 m8 (a5 0) (mC (.int 69621))) (mC (.int 1000003))) (mC (.int 4))) a8)) (d7 5) J6)
 (V4 4))))
def D8:List PV->Option c6:=G5 6 a1H
def a7p:MS:=
 (g8 (n3 (r6 (m2 a6n (a5 1) (m1 K7 (a5 0)))) (m4 (m2 i9 (a5 0) (a5 1))) j0)
 (m4 (mC (.int 0))))
def R8:List PV->Option c6:=G5 0 a7p
def a9P:MS:=
 (m4 (D0 (a4 (mC (.str "k")) (a4 (mC (.str "stay")) (a4 (mC (.str "let")) (a4 (mC (.str "knots")) (a4 (mC (.str "zz")) a8)))))))
def M7:List PV->Option c6:=G5 0 a9P
def L5:MS:=
 (g8 (l7 4 (i6 E6 (a4 (m2 i9 (a5 0) (a5 3)) (a4 (a5 3) a8))))
 (g8 (l7 5 (m2 i9 (λ_=>M7 []) (m2 (x8 (λ_ j=>0<j) λi j=> .int (i % j)) (m2 (x8 (λ_ j=>0<j) λi j=> .int (i % j)) (m2 m8 (a5 4) (mC (.int 950706376))) (mC (.int 999917))) (mC (.int 5)))))
 (g8 (l7 6 (m2 i9 (D0 (a4 (mC (.int 24)) (a4 (mC (.int 24)) (a4 (mC (.int 24)) (a4 (mC (.int 24)) (a4 (mC (.int 24)) (a4 (mC (.int 24)) (a4 (mC (.int 24)) (a4 (mC (.int 0)) a8))))))))) (m2 (x8 (λ_ j=>0<j) λi j=> .int (i % j)) (a5 4) (mC (.int 8)))))
 (g8 (l7 7 (m1 P9 (a5 2)))
 (g8 (n3 (r6 (m2 D6 (m2 (x8 (λ_ j=>0<j) λi j=> .int (i % j)) (a5 4) (mC (.int 61))) (mC (.int 1)))) (l7 7 (λ_=>M7 [])) j0)
 (g8 (a36 7 (l7 8 (a0C 2 (i6 D8 (a4 (a5 4) (a4 (a5 2) (a4 (a5 7) (a4 (a5 6) a8))))))))
 (g8 (n3 (K6 (r6 (m2 D6 (m2 (x8 (λ_ j=>0<j) λi j=> .int (i % j)) (a5 4) (mC (.int 4))) (mC (.int 1)))) (Z9 (r6 (a4N false 2 (a5 5))) (r6 (m2 D6 (m2 (x8 (λ_ j=>0<j) λi j=> .int (i % j)) (a5 4) (mC (.int 11))) (mC (.int 1)))))) (g8 (l7 9 (m2 p9 (mC (.int 1)) (m2 (x8 (λ_ j=>0<j) λi j=> .int (i % j)) (m2 (x8 (λ_ j=>0<j) λi j=> .int (i % j)) (m2 m8 (a5 4) (mC (.int 742938285))) (mC (.int 999959))) (m2 i9 (D0 (a4 (mC (.int 2)) (a4 (mC (.int 8)) a8))) (m2 (x8 (λ_ j=>0<j) λi j=> .int (i % j)) (m2 (x8 a5z λi j=> .int (i / j)) (a5 4) (mC (.int 8))) (mC (.int 2)))))))
 (L8 1 (u3 (a4 (mC (.str "again")) (a4 (a5 9) (a4 (a5 5) (a4 (a5 8) a8))))))) (L8 1 (u3 (a4 (mC (.str "let")) (a4 (a5 5) (a4 (a5 8) a8))))))
 (g8 (l7 10 (S5 u8 2 (a5 8)))
 (n3 (a0o (mtV (m1 (Y1 "str") (m2 i9 (a5 10) (mC (.int 0)))))) (a5l 2 (a5 5) (a5 10)) j0)))))))))
def a3a:MS:=
 (g8 (l7 1 (D0 a8))
 (g8 (l7 2 b6U)
 (g8 (O1 (b2J (a4 (mC (.int 1)) (a4 (m2 (gI λi j=> .int (if j<i then j else i)) (m1 K7 (a5 0)) (mC (.int 40))) a8))) (d7 3) L5)
 (g8 (l7 4 (i6 E6 (a4 (i6 R8 (a4 (a5 0) (a4 (mC (.int 0)) a8))) (a4 (mC (.int 5)) a8))))
 (m4 (m2 p9 (a5 1) (D0 (a4 (u3 (a4 (mC (.str "knot")) (a4 (a0C 2 (i6 D8 (a4 (a5 4) (a4 (a5 2) (a4 (m1 P9 (a5 2)) (a4 (mC (.int 24)) a8)))))) a8))) a8))))))))
def a1e:List PV->Option c6:=G5 10 a3a
def g7:MS:=
 (g8 (l7 7 (S5 u8 1 (m2 i9 (a5 4) (L6 (mC (.int 1))))))
 (g8 (n3 (mtV (m1 (Y1 "str") (m2 i9 (a5 7) (mC (.int 0))))) (a36 2 (m4 (u3 (a4 (a5 2) (a4 (a5 7) (a4 (a5 3) a8)))))) j0)
 (g8 (L8 2 (a5 7))
 (n3 (r6 (m2 gNe (m2 i9 (a5 4) (mC (.int 0))) (mC (.str "knot")))) (a5l 1 (m2 i9 (a5 4) (L6 (mC (.int 2)))) (a5 7)) j0))))
def i4:MS:=
 (g8 (l7 4 (m2 i9 (a5 0) (a5 3)))
 (g8 (l7 5 (mC (.int 1)))
 (g8 (n3 (r6 (m2 D6 (m2 i9 (a5 4) (mC (.int 0))) (mC (.str "again")))) (g8 (l7 5 (m2 i9 (a5 4) (mC (.int 1))))
 (n3 (r6 (a4N true 1 (m2 i9 (a5 4) (mC (.int 2))))) (a36 2 (m4 (u3 (a4 (a5 2) (a4 (u3 (a4 (mC (.str "name")) (a4 (m2 i9 (a5 4) (mC (.int 2))) a8))) (a4 (a5 3) a8)))))) j0)) j0)
 (O1 (B7 (a4 (a5 5) a8)) (d7 6) g7))))
def a0K:MS:=
 (g8 (l7 1 b6U)
 (g8 (l7 2 (D0 a8))
 (g8 (O1 (B7 (a4 (m1 K7 (a5 0)) a8)) (d7 3) i4)
 (a36 2 (m4 (u3 (a4 (a5 2) (a4 (mC .none) (a4 (mC (.int 0)) a8)))))))))
def a2w:List PV->Option c6:=G5 7 a0K
def a7y(v6:List PV->Option c6):M:=
 (i6 v6 (a4 (a5 2) a8))
def a7z(v6:List PV->Option c6):M:=
 (i6 v6 (a4 (a5 2) a8))
def X3(v6:List PV->Option c6):MS:=
 (g8 (l7 1 (m2 i9 (a5 0) (mC (.int 0))))
 (g8 (n3 (r6 (m2 D6 (a5 1) (mC (.str "plain")))) (m4 (a3o "Plain" ["rows"] (a4 (m2 i9 (a5 0) (mC (.int 1))) a8))) j0)
 (g8 (n3 (r6 (m2 D6 (a5 1) (mC (.str "name")))) (m4 (a3o "Named" ["name"] (a4 (m2 i9 (a5 0) (mC (.int 1))) a8))) j0)
 (g8 (n3 (r6 (m2 D6 (a5 1) (mC (.str "beside")))) (m4 (a3o "Beside" ["parts"] (a4 (m1 a1W (V3 1 (B6 (m2 i9 (a5 0) (mC (.int 1)))) (d7 2) V5 (a7y v6))) a8))) j0)
 (g8 (n3 (r6 (m2 D6 (a5 1) (mC (.str "above")))) (m4 (a3o "Above" ["parts"] (a4 (m1 a1W (V3 1 (B6 (m2 i9 (a5 0) (mC (.int 1)))) (d7 2) V5 (a7z v6))) a8))) j0)
 (g8 (n3 (r6 (m2 D6 (a5 1) (mC (.str "across")))) (m4 (a3o "Across" ["many","part"] (a4 (m2 i9 (a5 0) (mC (.int 1))) (a4 (i6 v6 (a4 (m2 i9 (a5 0) (mC (.int 2))) a8)) a8)))) j0)
 (g8 (n3 (r6 (m2 D6 (a5 1) (mC (.str "down")))) (m4 (a3o "Down" ["many","part"] (a4 (m2 i9 (a5 0) (mC (.int 1))) (a4 (i6 v6 (a4 (m2 i9 (a5 0) (mC (.int 2))) a8)) a8)))) j0)
 (g8 (n3 (r6 (m2 D6 (a5 1) (mC (.str "turned")))) (m4 (a3o "Turned" ["way","part"] (a4 (m2 i9 (a5 0) (mC (.int 1))) (a4 (i6 v6 (a4 (m2 i9 (a5 0) (mC (.int 2))) a8)) a8)))) j0)
 (m4 (a3o "Dyed" ["one","other","part"] (a4 (m2 i9 (a5 0) (mC (.int 1))) (a4 (m2 i9 (a5 0) (mC (.int 2))) (a4 (i6 v6 (a4 (m2 i9 (a5 0) (mC (.int 3))) a8)) a8)))))))))))))
def a5q:Nat->(List PV->Option c6)
 |0=>(G5 1 (λ_=>ζ))
 |n+1=>(G5 1 (X3 ((a5q n))))
def a1Y(n:Nat):List PV->Option c6:=(a5q n)
def A1:List PV->Option c6:=a1Y 12
def r8:MS:=
 (L8 1 (m2 p9 (M1 (a5 2) Q5 (O2 (L6 (mC (.int 1))))) (u3 (a4 (i6 A1 (a4 (m2 i9 (a5 2) (L6 (mC (.int 1)))) a8)) a8))))
def a1G:MS:=
 (g8 (l7 1 (D0 a8))
 (g8 (O1 (a3n (a5 0)) (d7 2) r8)
 (V4 1)))
def a1X:List PV->Option c6:=G5 2 a1G
def a3b:MS:=
 (g8 (n3 (r6 (m2 D6 (m2 i9 (a5 0) (mC (.int 0))) (mC (.str "again")))) (m4 (m2 i9 (a5 0) (mC (.int 1)))) j0)
 (m4 (mC (.int 1))))
def Q2:List PV->Option c6:=G5 0 a3b
def b3c:MS:=
 (m4 (u3 (a4 (m1 K7 (a5 0)) (a4 (m1 K7 (m2 i9 (a5 0) (mC (.int 0)))) a8))))
def a4G:List PV->Option c6:=G5 0 b3c
def a03:MX:=
 (Q6 (m4 (i6 a4G (a4 (m1 (L4 ["Plain"] "rows") (a5 0)) a8))))
def t6:List PV->Option (c6 ⊕ XT):=A7 0 a03
def a02:MX:=
 (D9 (a2I (r6 (b0h true 1 (m1 (L4 ["Named"] "name") (a5 0)))) (a5o "NoName" ["row","name"] (a4 (a5 2) (a4 (m1 (L4 ["Named"] "name") (a5 0)) a8))) (Q6 j0))
 (Q6 (m4 (a9a 1 (m1 (L4 ["Named"] "name") (a5 0))))))
def t5:List PV->Option (c6 ⊕ XT):=A7 0 a02
def X0:MX:=
 (D9 (a2I (Z9 (r6 (m2 (gI λi j=> .bool (decide (j<i))) (a5 0) (mC W8))) (r6 (m2 (gI λi j=> .bool (decide (j<i))) (a5 1) (mC W8)))) (a5o "TooWide" ["row"] (a4 (a5 2) a8)) (Q6 j0))
 (Q6 (m4 (u3 (a4 (a5 0) (a4 (a5 1) a8))))))
def C9:List PV->Option (c6 ⊕ XT):=A7 0 X0
def a04:MX:=
 (D9 (a2I (r6 (m2 gNe (m2 i9 (a5 0) (mC (.int 1))) (m2 i9 (a5 1) (mC (.int 1))))) (a5o "Misfit" ["row"] (a4 (a5 2) a8)) (Q6 j0))
 (G2 (G1 C9 (a4 (m2 p9 (m2 i9 (a5 0) (mC (.int 0))) (m2 i9 (a5 1) (mC (.int 0)))) (a4 (m2 i9 (a5 0) (mC (.int 1))) (a4 (a5 2) a8))))))
def o9:List PV->Option (c6 ⊕ XT):=A7 0 a04
def a0v:MX:=
 (D9 (a2I (r6 (m2 gNe (m2 i9 (a5 0) (mC (.int 0))) (m2 i9 (a5 1) (mC (.int 0))))) (a5o "Misfit" ["row"] (a4 (a5 2) a8)) (Q6 j0))
 (G2 (G1 C9 (a4 (m2 i9 (a5 0) (mC (.int 0))) (a4 (m2 p9 (m2 i9 (a5 0) (mC (.int 1))) (m2 i9 (a5 1) (mC (.int 1)))) (a4 (a5 2) a8))))))
def n4:List PV->Option (c6 ⊕ XT):=A7 0 a0v
def W0(d5 c7 c9 e9 f9 d0 R_size_of_laid:List PV->Option (c6 ⊕ XT)):MX:=
 (G2 (G1 R_size_of_laid (a4 (m1 (L4 ["Beside","Above"] "parts") (a5 0)) (a4 (a5 1) (a4 (a5 2) (a4 (mC (T8 "size_above")) a8))))))
def R4(d5 c7 c9 e9 f9 d0 R_size_of_laid:List PV->Option (c6 ⊕ XT)):MX:=
 (D9 (u9 3 (U5 [("Plain",t6),("Named",t5),("Beside",c9),("Above",d5),("Across",c7),("Down",e9),("Turned",d0),("Dyed",f9)] "size" (m1 (L4 ["Across","Down","Turned","Dyed"] "part") (a5 0)) (a4 (a5 1) (a4 (a5 2) a8))))
 (G2 (G1 C9 (a4 (m2 i9 (a5 3) (mC (.int 0))) (a4 (m2 m8 (m2 i9 (a5 3) (mC (.int 1))) (m1 (L4 ["Across","Down"] "many") (a5 0))) (a4 (a5 2) a8))))))
def R5(d5 c7 c9 e9 f9 d0 R_size_of_laid:List PV->Option (c6 ⊕ XT)):MX:=
 (G2 (G1 R_size_of_laid (a4 (m1 (L4 ["Beside","Above"] "parts") (a5 0)) (a4 (a5 1) (a4 (a5 2) (a4 (mC (T8 "size_beside")) a8))))))
def a0d(d5 c7 c9 e9 f9 d0 R_size_of_laid:List PV->Option (c6 ⊕ XT)):MX:=
 (D9 (u9 3 (U5 [("Plain",t6),("Named",t5),("Beside",c9),("Above",d5),("Across",c7),("Down",e9),("Turned",d0),("Dyed",f9)] "size" (m1 (L4 ["Across","Down","Turned","Dyed"] "part") (a5 0)) (a4 (a5 1) (a4 (a5 2) a8))))
 (G2 (G1 C9 (a4 (m2 m8 (m2 i9 (a5 3) (mC (.int 0))) (m1 (L4 ["Across","Down"] "many") (a5 0))) (a4 (m2 i9 (a5 3) (mC (.int 1))) (a4 (a5 2) a8))))))
def a0e(d5 c7 c9 e9 f9 d0 R_size_of_laid:List PV->Option (c6 ⊕ XT)):MX:=
 (G2 (U5 [("Plain",t6),("Named",t5),("Beside",c9),("Above",d5),("Across",c7),("Down",e9),("Turned",d0),("Dyed",f9)] "size" (m1 (L4 ["Across","Down","Turned","Dyed"] "part") (a5 0)) (a4 (a5 1) (a4 (a5 2) a8))))
def R6(d5 c7 c9 e9 f9 d0 R_size_of_laid:List PV->Option (c6 ⊕ XT)):MX:=
 (D9 (u9 3 (U5 [("Plain",t6),("Named",t5),("Beside",c9),("Above",d5),("Across",c7),("Down",e9),("Turned",d0),("Dyed",f9)] "size" (m1 (L4 ["Across","Down","Turned","Dyed"] "part") (a5 0)) (a4 (a5 1) (a4 (a5 2) a8))))
 (Q6 (g8 (n3 (r6 (m2 (a97 false) (m1 (L4 ["Turned"] "way") (a5 0)) (mC K4))) (m4 (u3 (a4 (m2 i9 (a5 3) (mC (.int 1))) (a4 (m2 i9 (a5 3) (mC (.int 0))) a8)))) j0)
 (V4 3))))
def p7(d5 c7 c9 e9 f9 d0 R_size_of_laid:List PV->Option (c6 ⊕ XT)):MV:=
 (U5 [("Plain",t6),("Named",t5),("Beside",c9),("Above",d5),("Across",c7),("Down",e9),("Turned",d0),("Dyed",f9)] "size" (a5 7) (a4 (a5 1) (a4 (a5 2) a8)))
def G8(d5 c7 c9 e9 f9 d0 R_size_of_laid:List PV->Option (c6 ⊕ XT)):MX:=
 (D9 (u9 4 (a6E 1 (B6 (a5 0)) (d7 7) V5 (p7 d5 c7 c9 e9 f9 d0 R_size_of_laid)))
 (D9 (Q6 (l7 5 (m2 i9 (a5 4) (mC (.int 0)))))
 (D9 (a0p (a3n (M1 (a5 4) (O2 (mC (.int 1))) Q5)) (d7 6) (u9 5 (y6 [("size_beside",n4),("size_above",o9)] 3 (a4 (a5 5) (a4 (a5 6) (a4 (a5 2) a8))))))
 (Q6 (V4 5)))))
def b6:Nat->(List PV->Option (c6 ⊕ XT))×(List PV->Option (c6 ⊕ XT))×(List PV->Option (c6 ⊕ XT))×(List PV->Option (c6 ⊕ XT))×(List PV->Option (c6 ⊕ XT))×(List PV->Option (c6 ⊕ XT))×(List PV->Option (c6 ⊕ XT))
 |0=>(A7 0 (λ_=>ζ),A7 1 (λ_=>ζ),A7 0 (λ_=>ζ),A7 1 (λ_=>ζ),A7 0 (λ_=>ζ),A7 1 (λ_=>ζ),A7 3 (λ_=>ζ))
 |n+1=>(A7 0 (W0 ((b6 n).1) ((b6 n).2.1) ((b6 n).2.2.1) ((b6 n).2.2.2.1) ((b6 n).2.2.2.2.1) ((b6 n).2.2.2.2.2.1) ((b6 n).2.2.2.2.2.2)),A7 1 (R4 ((b6 n).1) ((b6 n).2.1) ((b6 n).2.2.1) ((b6 n).2.2.2.1) ((b6 n).2.2.2.2.1) ((b6 n).2.2.2.2.2.1) ((b6 n).2.2.2.2.2.2)),A7 0 (R5 ((b6 n).1) ((b6 n).2.1) ((b6 n).2.2.1) ((b6 n).2.2.2.1) ((b6 n).2.2.2.2.1) ((b6 n).2.2.2.2.2.1) ((b6 n).2.2.2.2.2.2)),A7 1 (a0d ((b6 n).1) ((b6 n).2.1) ((b6 n).2.2.1) ((b6 n).2.2.2.1) ((b6 n).2.2.2.2.1) ((b6 n).2.2.2.2.2.1) ((b6 n).2.2.2.2.2.2)),A7 0 (a0e ((b6 n).1) ((b6 n).2.1) ((b6 n).2.2.1) ((b6 n).2.2.2.1) ((b6 n).2.2.2.2.1) ((b6 n).2.2.2.2.2.1) ((b6 n).2.2.2.2.2.2)),A7 1 (R6 ((b6 n).1) ((b6 n).2.1) ((b6 n).2.2.1) ((b6 n).2.2.2.1) ((b6 n).2.2.2.2.1) ((b6 n).2.2.2.2.2.1) ((b6 n).2.2.2.2.2.2)),A7 3 (G8 ((b6 n).1) ((b6 n).2.1) ((b6 n).2.2.1) ((b6 n).2.2.2.1) ((b6 n).2.2.2.2.1) ((b6 n).2.2.2.2.2.1) ((b6 n).2.2.2.2.2.2)))
def a0A(n:Nat):List PV->Option (c6 ⊕ XT):=(b6 n).1
def a3X:List PV->Option (c6 ⊕ XT):=a0A 20
def Y3(n:Nat):List PV->Option (c6 ⊕ XT):=(b6 n).2.1
def a2T:List PV->Option (c6 ⊕ XT):=Y3 20
def Y4(n:Nat):List PV->Option (c6 ⊕ XT):=(b6 n).2.2.1
def a2U:List PV->Option (c6 ⊕ XT):=Y4 20
def a1g(n:Nat):List PV->Option (c6 ⊕ XT):=(b6 n).2.2.2.1
def a5f:List PV->Option (c6 ⊕ XT):=a1g 20
def a1h(n:Nat):List PV->Option (c6 ⊕ XT):=(b6 n).2.2.2.2.1
def a5g:List PV->Option (c6 ⊕ XT):=a1h 20
def Y5(n:Nat):List PV->Option (c6 ⊕ XT):=(b6 n).2.2.2.2.2.1
def a2V:List PV->Option (c6 ⊕ XT):=Y5 20
def U4(n:Nat):List PV->Option (c6 ⊕ XT):=(b6 n).2.2.2.2.2.2
def a1K:MX:=
 (G2 (U5 [("Plain",t6),("Named",t5),("Beside",a2U),("Above",a3X),("Across",a2T),("Down",a5f),("Turned",a2V),("Dyed",a5g)] "size" (a5 0) (a4 (a5 1) (a4 (a5 2) a8))))
def J5:List PV->Option (c6 ⊕ XT):=A7 0 a1K
def X1:MX:=
 (D9 (Q6 (l7 2 b6U))
 (D9 (Q6 (l7 3 (D0 a8)))
 (D9 (a0p (b2I (a4 (a5 0) a8)) (a4o [4,5]) (D9 (a2I (K6 (r6 (m2 D6 (m2 i9 (a5 5) (mC (.int 0))) (mC (.str "again")))) (r6 (a4N true 2 (m2 i9 (a5 5) (mC (.int 2)))))) (a5o "NoName" ["row","name"] (a4 (a5 4) (a4 (m2 i9 (a5 5) (mC (.int 2))) a8))) (Q6 j0))
 (a0p (B7 (a4 (i6 Q2 (a4 (a5 5) a8)) a8)) (d7 6) (D9 (u9 7 (a37 2 (y6 [("size_step",J5)] 1 (a4 (m2 i9 (a5 5) (L6 (mC (.int 1)))) (a4 (a5 2) (a4 (a5 4) a8))))))
 (Q6 (g8 (L8 3 (a5 7))
 (n3 (r6 (m2 gNe (m2 i9 (a5 5) (mC (.int 0))) (mC (.str "knot")))) (a5l 2 (m2 i9 (a5 5) (L6 (mC (.int 2)))) (a5 7)) j0)))))))
 (Q6 (V4 3)))))
def N7:List PV->Option (c6 ⊕ XT):=A7 6 X1
def b6k:MX:=
 (G2 (G1 N7 (a4 (a5 0) (a4 (mC (T8 "size_step")) a8))))
def S1:List PV->Option (c6 ⊕ XT):=A7 0 b6k
def a6w:M:=
 (m2 D6 (a5 5) (m2 i9 (a5 1) (mC (.int 0))))
def a1J:MS:=
 (g8 (l7 3 (D0 (a4 (m1 (b1u [("Misfit",false),("NoName",true),("TooWide",false)]) (a5 0)) (a4 (m1 (b1u [("Misfit",true),("NoName",false),("TooWide",false)]) (a5 0)) (a4 (m1 (b1u [("Misfit",false),("NoName",false),("TooWide",true)]) (a5 0)) a8)))))
 (g8 (l7 4 (D0 (a4 (mC (.str "name")) (a4 (mC (.str "misfit")) (a4 (mC (.str "wide")) a8)))))
 (g8 (n3 (Z9 (a0o (mtV (m1 (b1u [("Misfit",true),("NoName",true),("TooWide",true)]) (a5 0)))) (r6 (m2 gNe (a5 3) (V3 1 (B6 (a5 4)) (d7 5) V5 a6w)))) (m4 (mC (.bool false))) j0)
 (g8 (n3 (mtV (m1 (b1u [("Misfit",false),("NoName",false),("TooWide",false)]) (a5 0))) (m4 (mC (.bool false))) j0)
 (g8 (n3 (Z9 (a0o (mtV (m1 (Y1 "int") (m1 (gFx ["NoName","Misfit","TooWide"] "row") (a5 0))))) (Z9 (mtV (m1 (Y1 "bool") (m1 (gFx ["NoName","Misfit","TooWide"] "row") (a5 0)))) (r6 (m2 gNe (m1 (gFx ["NoName","Misfit","TooWide"] "row") (a5 0)) (a5 2))))) (m4 (mC (.bool false))) j0)
 (m4 (mOr (m2 gNe (m2 i9 (a5 1) (mC (.int 0))) (mC (.str "name"))) (m2 D6 (m1 (gFx ["NoName"] "name") (a5 0)) (m2 i9 (a5 1) (mC (.int 1)))))))))))
def a0k:List PV->Option c6:=G5 2 a1J
def a1F:MX:=
 (D9 (a1u S1 (a4 (a5 0) a8))
 (λ_=>ζ))
def M6:List PV->Option (c6 ⊕ XT):=A7 0 a1F
def a4t:MX:=
 (G2 (G1 M6 (a4 (a5 0) (a4 (mC (T8 "cloth_step")) a8))))
def a2v:List PV->Option (c6 ⊕ XT):=A7 0 a4t
def a4s:MX:=
 (G2 (G1 M6 (a4 (a5 0) (a4 (mC (T8 "counts_step")) a8))))
def a2u:List PV->Option (c6 ⊕ XT):=A7 0 a4s
def a0u:MS:=
 (g8 (l7 2 (mC .none))
 (g8 (a6D (a2I (r6 (m2 D6 (a5 1) (mC (.int 0)))) (a1u S1 (a4 (a5 0) a8)) (a2I (r6 (m2 D6 (a5 1) (mC (.int 1)))) (a1u a2v (a4 (a5 0) a8)) (a1u a2u (a4 (a5 0) a8)))) 3 (inL ["Misfit","NoName","TooWide"]) (l7 2 (a5 3)))
 (V4 2)))
def R9:List PV->Option c6:=G5 2 a0u
def a0S:MS:=
 (a36 5 (n3 (a0o (mtV (i6 a0k (a4 (i6 R9 (a4 (a5 5) (a4 (a5 6) a8))) (a4 (a5 3) (a4 (a5 4) a8)))))) (m4 (mC (.bool false))) j0))
def a34:MS:=
 (n3 (Z9 (a0o (mtV (m1 (Y1 "tuple") (a5 8)))) (mtV (m1 (Y1 "bool") (m2 i9 (a5 8) (mC (.int 0)))))) (m4 (mC (.bool false))) j0)
def b4q:MS:=
 (g8 (l7 1 (i6 a1e (a4 (a5 0) a8)))
 (g8 (a36 1 (b3N [2,3,4] (i6 a2w (a4 (a5 1) a8))))
 (g8 (a36 1 (l7 5 (i6 a1X (a4 (a5 1) a8))))
 (g8 (n3 (r6 (m2 (b6F true) (a5 3) (mC .none))) (g8 (O1 (B7 (a4 (mC (.int 3)) a8)) (d7 6) a0S)
 (m4 (m2 D6 (m1 K7 (a5 5)) (m1 K7 (a5 1))))) j0)
 (g8 (a36 5 (l7 7 (i6 (left S1) (a4 (a5 5) a8))))
 (g8 (n3 (Z9 (a0o (mtV (m1 (Y1 "list") (a5 7)))) (r6 (m2 gNe (a5 7) (a5 2)))) (m4 (mC (.bool false))) j0)
 (g8 (O1 (a89 7) (d7 8) a34)
 (g8 (a87 7)
 (a36 5 (m4 (b1G (m2 D6 (i6 (left S1) (a4 (a5 5) a8)) (a5 2)) (m2 D6 (m1 K7 (a5 5)) (m1 K7 (a5 1))))))))))))))
def b75:List PV->Option c6:=G5 8 b4q
set_option maxHeartbeats 1000000
theorem b6G{l:List Nat}{m:Nat}(hl:l.length=m)(hm:m<=10000){j:Int}(h0:0<=j)(h1:j<m):i9 (.v (row l)) (.v (.int j))=ξ (.v (row [l.getD j.toNat 0])):=by
 have hk:j.toNat<l.length:=by lia
 refine b74 (by lia) ?_
 rw [b4p h0,Au hk];simp [List.getD,hk]
def lt1(c:Nat):Bool:=decide (97<=c)&& decide (c<=122)
theorem b6T{x:Nat}:lt1 x=true↔97<=x/\x<=122:=by unfold lt1;simp
inductive Mo where
 |plain (rows:List (List Nat))|named (w:List Nat)|beside (ps:List Mo)|above (ps:List Mo)|across (k:Nat) (p:Mo)|down (k:Nat) (p:Mo)|turned (w:List Nat) (p:Mo)|dyed (a b:Nat) (p:Mo)
mutual
def j3:Mo->PV
 | .plain rows=>obV (AD "Plain") [(.str (AD "rows"),.tuple (rows.map row))]
 | .named w=>obV (AD "Named") [(.str (AD "name"),row w)]
 | .beside ps=>obV (AD "Beside") [(.str (AD "parts"),.tuple (b1X ps))]
 | .above ps=>obV (AD "Above") [(.str (AD "parts"),.tuple (b1X ps))]
 | .across k p=>obV (AD "Across") [(.str (AD "many"),.int (k:Nat)),(.str (AD "part"),j3 p)]
 | .down k p=>obV (AD "Down") [(.str (AD "many"),.int (k:Nat)),(.str (AD "part"),j3 p)]
 | .turned w p=>obV (AD "Turned") [(.str (AD "way"),row w),(.str (AD "part"),j3 p)]
 | .dyed a b p=>obV (AD "Dyed") [(.str (AD "one"),row [a]),(.str (AD "other"),row [b]),(.str (AD "part"),j3 p)]
def b1X:List Mo->List PV
 |[]=>[]
 |p::ps=>j3 p::b1X ps
end
theorem a4d:∀ps:List Mo,b1X ps=ps.map j3
 |[]=>by rw [b1X];rfl
 |p::ps=>by rw [b1X,a4d ps];rfl
def b7O:List Nat:=[98,101,115,105,100,101]
def b9X:List Nat:=[97,98,111,118,101]
def b7N:List Nat:=[97,99,114,111,115,115]
def c0S:List Nat:=[100,111,119,110]
def a24:List (List Nat):=[[116,117,114,110],[104,97,108,102],[98,97,99,107],[115,105,100,101],[102,108,105,112],[99,114,111,115,115],[111,116,104,101,114]]
abbrev a3i:List (List Nat):=[[107],[115,116,97,121],[108,101,116],[107,110,111,116,115],[122,122]]
abbrev RF:=List PV->Option c6
theorem b4Z(c:Nat)(a b:List Nat)(r:List (List Nat)):G0 [c] (a::b::r)=a++c::G0 [c] (b::r):=by
 show a++[c]++G0 [c] (b::r)=_;simp
theorem a98(c:Nat):∀R:List (List Nat),R≠[]->(G0 [c] R).length+1=(R.map (·.length)).sum+R.length
 |[],h=>absurd rfl h
 |[a],_=>by simp [G0]
 |a::b::r,_=>by
  have:=a98 c (b::r) (by simp)
  rw [b4Z];simp only [AW,AU,AS,List.sum_cons] at this ⊢
  lia
theorem a3V{l:List Nat}(h:l.length<=10000):K7 (.v (row l))=ξ (.v (.int (l.length:Nat))):=by
 show(if(S l).length<=AM then ξ (c6.v (.int ((S l).length:Nat))) else ζ)=_
 rw [a7S,if_pos (by rw [sizeLine_eq];lia)]
def dg(k:Nat):List Nat:=if k<10 then [48+k] else [48+k / 10,48+k % 10]
theorem b9O{k:Nat}(hk:k<25):b3y (.v (.int (k:Nat)))=ξ (.v (row (dg k))):=by
 match k,hk with
 |0,_=>rfl
 |1,_=>rfl
 |2,_=>rfl
 |3,_=>rfl
 |4,_=>rfl
 |5,_=>rfl
 |6,_=>rfl
 |7,_=>rfl
 |8,_=>rfl
 |9,_=>rfl
 |10,_=>rfl
 |11,_=>rfl
 |12,_=>rfl
 |13,_=>rfl
 |14,_=>rfl
 |15,_=>rfl
 |16,_=>rfl
 |17,_=>rfl
 |18,_=>rfl
 |19,_=>rfl
 |20,_=>rfl
 |21,_=>rfl
 |22,_=>rfl
 |23,_=>rfl
 |24,_=>rfl
 |k+25,h=>lia
theorem b8v(k:Nat):1<=(dg k).length/\(dg k).length<=2:=by unfold dg;split<;>simp
mutual
def G6:Mo->List Nat
 | .plain rows=>[91]++G0 [47] rows++[93]
 | .named w=>w
 | .beside ps=>[98,101,115,105,100,101,40]++G0 [44,32] (a2K ps)++[41]
 | .above ps=>[97,98,111,118,101,40]++G0 [44,32] (a2K ps)++[41]
 | .across k p=>[97,99,114,111,115,115,40]++dg k++[44,32]++G6 p++[41]
 | .down k p=>[100,111,119,110,40]++dg k++[44,32]++G6 p++[41]
 | .turned w p=>w++[40]++G6 p++[41]
 | .dyed a b p=>[100,121,101,40]++[a]++[44,32]++[b]++[44,32]++G6 p++[41]
def a2K:List Mo->List (List Nat)
 |[]=>[]
 |p::ps=>G6 p::a2K ps
end
mutual
def u5:Mo->Nat
 | .plain _=>1
 | .named _=>1
 | .beside ps=>1+a3N ps
 | .above ps=>1+a3N ps
 | .across _ p=>1+u5 p
 | .down _ p=>1+u5 p
 | .turned _ p=>1+u5 p
 | .dyed _ _ p=>1+u5 p
def a3N:List Mo->Nat
 |[]=>0
 |p::ps=>max (u5 p) (a3N ps)
end
def okP(rows:List (List Nat)):Prop:=∃w,1<=w/\w<=3/\1<=rows.length/\rows.length<=3/\∀l∈rows,l.length=w
mutual
def D1:Mo->Prop
 | .plain rows=>okP rows
 | .named w=>w∈a3i
 | .beside ps=>2<=ps.length/\ps.length<=6/\b0m ps
 | .above ps=>2<=ps.length/\ps.length<=6/\b0m ps
 | .across k p=>1<=k/\k<=24/\D1 p
 | .down k p=>1<=k/\k<=24/\D1 p
 | .turned w p=>w∈a24/\D1 p
 | .dyed a b p=>lt1 a=true/\lt1 b=true/\D1 p
def b0m:List Mo->Prop
 |[]=>True
 |p::ps=>D1 p/\b0m ps
end
theorem a64:∀ps:List Mo,a2K ps=ps.map G6
 |[]=>by rw [a2K];rfl
 |p::ps=>by rw [a2K,a64 ps];rfl
theorem O3:∀{ps:List Mo} {p:Mo},b0m ps->p∈ps->D1 p
 |[],_,_,h=>by cases h
 |q::ps,p,h,hp=>by
  rw [b0m] at h;rcases Ag.mp hp with rfl|hp
  ·exact h.1
  ·exact O3 h.2 hp
theorem N3:∀{ps:List Mo} {p:Mo},p∈ps->u5 p<=a3N ps
 |[],_,h=>by cases h
 |q::ps,p,hp=>by
  rw [a3N];rcases Ag.mp hp with rfl|hp
  ·lia
  ·have:=N3 hp;lia
theorem a5I(m:Mo):1<=u5 m:=by cases m<;>rw [u5]<;>lia
theorem a1f{sep:List Nat}:∀{ls:List (List Nat)} {l:List Nat},l∈ls->l.length<=(G0 sep ls).length
 |[],_,h=>by cases h
 |[x],l,h=>by rw [List.mem_singleton.mp h];simp [G0]
 |x::y::r,l,h=>by
  rcases Ag.mp h with rfl|h
  ·simp [G0]
  ·have:=a1f (sep:=sep) h;simp [G0];lia
theorem a6o{sep:List Nat}:∀{ls:List (List Nat)},(ls.map (·.length)).sum+ls.length*sep.length<=(G0 sep ls).length+sep.length
 |[]=>by simp [G0]
 |[x]=>by simp [G0]
 |x::y::r=>by
  have:=a6o (sep:=sep) (ls:=y::r);simp only [G0,AS,List.sum_cons,AU,AW,Nat.add_mul,Nat.one_mul] at this ⊢
  lia
theorem a2A:∀{ps:List Mo},(∀p∈ps,D1 p)->b0m ps
 |[],_=>by rw [b0m];trivial
 |p::ps,h=>by rw [b0m];exact⟨h p Aa,a2A λq hq=>h q (AY _ hq)⟩
theorem a2p:∀{ps:List Mo} {k:Nat},(∀p∈ps,u5 p<=k)->a3N ps<=k
 |[],k,_=>by rw [a3N];lia
 |p::ps,k,h=>by
  have h1:=h p Aa;have h2:=a2p λq hq=>h q (AY _ hq);rw [a3N]
  lia
theorem a3L:AD ", "=S [44,32]:=by decide+kernel
theorem b33:AD ")"=S [41]:=by decide+kernel
theorem b5g:AD "("=S [40]:=by decide+kernel
theorem c03:AD "["=S [91]:=by decide+kernel
theorem b6n:AD "]"=S [93]:=by decide+kernel
theorem b7B:AD "/"=S [47]:=by decide+kernel
theorem b6i{l k:List Nat}(h:l.length+k.length<=10000):p9 (.v (row l)) (.v (row k))=ξ (.v (row (l++k))):=b8Q (by lia)
theorem ad{x y:M}{ρ:b0}{a b:List Nat}(hx:x ρ=ξ (.v (row a)))(hy:y ρ=ξ (.v (row b)))(h:a.length+b.length<=10000):m2 p9 x y ρ=ξ (.v (row (a++b))):=by
 unfold m2;rw [hx,hy];exact b6i h
theorem cst{z:String}{l:List Nat}(h:AD z=S l)(ρ:b0):mC (.str (AD z)) ρ=ξ (.v (row l)):=by
 unfold mC;rw [h]
theorem Y7{a b:List Nat}{n:Nat}(h:(a++b).length<=n):a.length+b.length<=n:=by rw [<-AW];exact h
theorem a2H{a b:List Nat}{n:Nat}(h:(a++b).length<=n):a.length<=n:=by rw [AW] at h;lia
theorem g5{i:Nat}{e:M}{n:MS}{ρ:b0}{p:PV}(h:e ρ=ξ (.v p)):g8 (l7 i e) n ρ=n (ρ.set i (ξ (.v p))):=by
 unfold g8 l7;rw [h]
 rfl
theorem m3{c:MT}{x:M}{n:MS}{ρ:b0}{p:PV}(hc:c ρ=ξ true)(hx:x ρ=ξ (.v p)):g8 (n3 c (m4 x) j0) n ρ=ξ (.rt (.v p)):=by
 unfold g8 n3;rw [hc];show((m4 x ρ).bind _)=_;unfold m4;rw [hx]
 rfl
theorem b4{c:MT}{x n:MS}{ρ:b0}(hc:c ρ=ξ false):g8 (n3 c x j0) n ρ=n ρ:=by
 unfold g8 n3;rw [hc]
 rfl
theorem C5{n:Nat}{b:MS}{ps:List PV}{r:c6}(h:b (ps.map (λp=>ξ (c6.v p))++AO n ζ)=ξ (.rt r)):G5 n b ps=ξ r:=by
 unfold G5;rw [h]
 rfl
theorem a0n{c:MT}{x y:MS}{ρ:b0}(hc:c ρ=ξ true):n3 c x y ρ=x ρ:=by
 unfold n3;rw [hc];rfl
theorem a2Z{c:MT}{x y:MS}{ρ:b0}(hc:c ρ=ξ false):n3 c x y ρ=y ρ:=by
 unfold n3;rw [hc];rfl
theorem a01{i:Nat}{e:M}{ρ:b0}{p:PV}(h:e ρ=ξ (.v p)):l7 i e ρ=ξ (.nx (ρ.set i (ξ (.v p)))):=by
 unfold l7;rw [h]
 rfl
theorem a1b{it:MI}{tg:PV->b0->Option b0}{body n:MS}{ρ ρ':b0}{ps:List PV}(h1:it ρ=ξ ps)(h2:v7 body tg ps ρ=ξ (.nx ρ')):g8 (O1 it tg body) n ρ=n ρ':=by
 unfold g8 O1;rw [h1,AR,h2]
 rfl
theorem a6W{n i:Nat}{p:PV}(h:((Ab n).map λk=>PyData.int (k:Nat))[i]?=ξ p):p= .int (i:Nat)/\i<n:=by
 rw [Am] at h
 by_cases hi:i<n
 ·rw [List.getElem?_range hi] at h;exact⟨(Option.some.inj h).symm,hi⟩
 ·rw [List.getElem?_eq_none (by simpa using hi)] at h
  cases h
theorem b8Y{ns:List Int}{i:Nat}(h:i<ns.length):∃c:Int,i9 (.v (.list (ns.map .int))) (.v (.int (i:Nat)))=ξ (.v (.int c)):=by
 refine⟨ns[i], ?_⟩;show((L2.atI (ns.map PyData.int) (i:Nat)).map c6.v)=_;rw [a7Y,Am,Au h]
 rfl
theorem md{a b:M}{ρ:b0}{x k:Int}(h:a ρ=ξ (.v (.int x)))(hb:b ρ=ξ (.v (.int k)))(hk:0<k):m2 (x8 (λ_ j=>0<j) λi j=> .int (i % j)) a b ρ=ξ (.v (.int (x % k))):=by
 unfold m2;rw [h,hb];show(if okC (λ_ j=>0<j) x k=true then ξ (c6.v (.int (x % k))) else ζ)=_
 rw [if_pos (a0q (C:=λ_ j=>0<j).mpr hk)]
theorem ml{a:M}{ρ:b0}{x k:Int}(h:a ρ=ξ (.v (.int x)))(hk: -18446744073709551616<k/\k<18446744073709551616):m2 m8 a (mC (.int k)) ρ=ξ (.v (.int (x*k))):=by
 unfold m2;rw [h];exact b2y hk
theorem D7{g:RF}{x:M}{ρ:b0}{p:PV}(h:x ρ=ξ (.v p)):i6 g (a4 x a8) ρ=g [p]:=by
 unfold i6 a4;rw [h]
 rfl
theorem b7X{g:RF}{x y z:M}{ρ:b0}{p q r:PV}(h1:x ρ=ξ (.v p))(h2:y ρ=ξ (.v q))(h3:z ρ=ξ (.v r)):i6 g (a4 x (a4 y (a4 z a8))) ρ=g [p,q,r]:=by
 unfold i6 a4;rw [h1,h2,h3]
 rfl
theorem D3{g:c6->c6->Option c6}{x y:M}{ρ:b0}{r q:c6}{b:Bool}(h1:x ρ=ξ r)(h2:y ρ=ξ q)(h:g r q=ξ (.v (.bool b))):r6 (m2 g x y) ρ=ξ b:=by
 unfold r6 m2;rw [h1,h2];show(g r q).bind _=_;rw [h]
 rfl
theorem O5{c:MT}{b n:MS}{ρ:b0}{r:c6}(hc:c ρ=ξ true)(hb:b ρ=ξ (.rt r)):g8 (n3 c b j0) n ρ=ξ (.rt r):=by
 unfold g8 n3;rw [hc];show(b ρ).bind _=_;rw [hb]
 rfl
theorem U7{x:M}{ρ:b0}{p:PV}(h:x ρ=ξ (.v p)):m4 x ρ=ξ (.rt (.v p)):=by
 unfold m4;rw [h]
 rfl
theorem a0f{g:RF}{x y:M}{ρ:b0}{p q:PV}(h1:x ρ=ξ (.v p))(h2:y ρ=ξ (.v q)):i6 g (a4 x (a4 y a8)) ρ=g [p,q]:=by
 unfold i6 a4;rw [h1,h2]
 rfl
theorem a6S{a b:MT}{ρ:b0}(h1:a ρ=ξ false)(h2:b ρ=ξ false):Z9 a b ρ=ξ false:=by
 unfold Z9;rw [h1];exact h2
theorem a7G{a:MT}{ρ:b0}(h:a ρ=ξ true):a0o a ρ=ξ false:=by
 unfold a0o;rw [h]
 rfl
theorem U2{x:M}{ρ:b0}{b:Bool}(h:x ρ=ξ (.v (.bool b))):mtV x ρ=ξ b:=by
 unfold mtV;rw [h]
 rfl
theorem B8{i:Nat}{e:M}{n:MS}{ρ:b0}{l:List PV}(h:e ρ=ξ (.own l)):g8 (l7 i e) n ρ=n (ρ.set i (ξ (.own l))):=by
 unfold g8 l7;rw [h]
 rfl
theorem b95{x y:M}{ρ:b0}{r:c6}(h:x ρ=ξ (.v (.bool true)))(h2:y ρ=ξ r):b1G x y ρ=ξ r:=by
 unfold b1G;rw [h];exact h2
mutual
def i0:Mo->PV
 | .plain rows=> .tuple [.str (AD "plain"),.tuple (rows.map row)]
 | .named w=> .tuple [.str (AD "name"),row w]
 | .beside ps=> .tuple [.str (AD "beside"),.list (a2n ps)]
 | .above ps=> .tuple [.str (AD "above"),.list (a2n ps)]
 | .across k p=> .tuple [.str (AD "across"),.int (k:Nat),i0 p]
 | .down k p=> .tuple [.str (AD "down"),.int (k:Nat),i0 p]
 | .turned w p=> .tuple [.str (AD "turned"),row w,i0 p]
 | .dyed a b p=> .tuple [.str (AD "dye"),row [a],row [b],i0 p]
def a2n:List Mo->List PV
 |[]=>[]
 |p::ps=>i0 p::a2n ps
end
theorem Z5:∀ps:List Mo,a2n ps=ps.map i0
 |[]=>by rw [a2n];rfl
 |p::ps=>by rw [a2n,Z5 ps];rfl
theorem b7Q{z:String}{l:List Nat}{a:Option c6}{ρ:b0}(h:AD z=S l):a5 1 (a::ξ (.v (.str (AD z)))::ρ)=ξ (.v (row l)):=by
 rw [h]
 rfl
theorem up4{n:Nat}(h:n<=4000):n<=10000:=by lia
section
variable {R:RF}
theorem b79{ps:List Mo}{w:PV}(hp:ps.length<=6)(h:∀p∈ps,R [i0 p]=ξ (.v (row (G6 p))))(hl:(G0 [44,32] (ps.map G6)).length<=4000)(ww:PV):
 m2 a1V (mC (.str (AD ", "))) (V3 1 (B6 (m2 i9 (a5 0) (mC (.int 1)))) (d7 2) V5 (S4 R)) [ξ (.v (.tuple [w,.list (ps.map i0)])),ξ (.v ww)]=ξ (.v (row (G0 [44,32] (ps.map G6)))):=by
 have cm:=a4M (ι:=i0) (f:=λp=>row (G6 p)) (k:=1) (it:=B6 (m2 i9 (a5 0) (mC (.int 1)))) (tg:=d7 2) (elt:=S4 R) (ρ:=[ξ (.v (.tuple [w,.list (ps.map i0)])),ξ (.v ww)]) ps rfl (by lia) λp hp=>by
  refine⟨[ξ (.v (.tuple [w,.list (ps.map i0)])),ξ (.v ww),ξ (.v (i0 p))],rfl, ?_⟩;unfold S4;rw [(D7 rfl).trans (h p hp)]
  rfl
 have jn:=a6m (sep:=[44,32]) (rows:=ps.map G6) (y:= .own (ps.map λp=>row (G6 p))) (by show ξ _=ξ _;rw [At];rfl) (by have:=a6o (sep:=[44,32]) (ls:=ps.map G6);simp only [AU,Aj] at this ⊢;lia)
 unfold m2
 rw [cst a3L,AR]
 refine(congrArg (λo=>Option.bind o λy=>a1V (.v (row [44,32])) y) cm).trans ?_
 exact jn
theorem c0n{k:Nat}{x:M}{ρ:b0}(hk:k<=24)(h:x ρ=ξ (.v (.int (k:Nat)))):m1 b3y x ρ=ξ (.v (row (dg k))):=by
 show(x ρ).bind b3y=_;rw [h];exact b9O (by lia)
theorem b1F(m:Mo)(ok:D1 m)(hl:(G6 m).length<=4000)(ih:∀p,D1 p->u5 p<u5 m->(G6 p).length<=4000->R [i0 p]=ξ (.v (row (G6 p)))):G5 1 (X5 R) [i0 m]=ξ (.v (row (G6 m))):=by
 refine C5 ?_;show X5 R [ξ (.v (i0 m)),ζ]=_;unfold X5;cases m with
 |plain rows=>
  ext w
  rw [i0,g5 (p:= .str (AD "plain")) rfl];rw [G6] at hl ⊢;have h2:=a2H hl;have jn:=a6m (sep:=[47]) (rows:=rows) (y:= .v (.tuple (rows.map row))) rfl (by have:=a6o (sep:=[47]) (ls:=rows);rw [AW] at h2;simp only [AU,Aj] at this h2 ⊢;lia)
  refine m3 rfl (ad (ad (cst c03 _) ?_ (up4 (Y7 h2))) (cst b6n _) (up4 (Y7 hl)));show(mC (.str (AD "/")) _).bind (λx=>Option.bind _ λy=>a1V x y)=_;rw [cst b7B];exact jn
 |named w=>
  rw [i0,g5 (p:= .str (AD "name")) rfl,b4 rfl,G6];exact m3 rfl rfl
 |beside ps=>
  ext w
  have d:u5 (.beside ps)=1+a3N ps:=by rw [u5]
  rw [i0,Z5,g5 (p:= .str (AD "beside")) rfl,b4 rfl,b4 rfl];rw [G6,a64] at hl ⊢;have h2:=a2H hl;have h3:(G0 [44,32] (ps.map G6)).length<=4000:=by rw [AW] at h2;lia
  exact m3 rfl (ad (ad (ad (a:=b7O) (b:=[40]) (b7Q (by decide+kernel)) (cst b5g _) (by decide)) (b79 ok.2.1 (λp hp=>ih p (O3 ok.2.2 hp) (by have:=N3 hp;lia) (by have:=a1f (sep:=[44,32]) (List.mem_map_of_mem (f:=G6) hp);lia)) h3 _) (up4 (Y7 h2))) (cst b33 _) (up4 (Y7 hl)))
 |above ps=>
  ext w
  have d:u5 (.above ps)=1+a3N ps:=by rw [u5]
  rw [i0,Z5,g5 (p:= .str (AD "above")) rfl,b4 rfl,b4 rfl];rw [G6,a64] at hl ⊢;have h2:=a2H hl;have h3:(G0 [44,32] (ps.map G6)).length<=4000:=by rw [AW] at h2;lia
  exact m3 rfl (ad (ad (ad (a:=b9X) (b:=[40]) (b7Q (by decide+kernel)) (cst b5g _) (by decide)) (b79 ok.2.1 (λp hp=>ih p (O3 ok.2.2 hp) (by have:=N3 hp;lia) (by have:=a1f (sep:=[44,32]) (List.mem_map_of_mem (f:=G6) hp);lia)) h3 _) (up4 (Y7 h2))) (cst b33 _) (up4 (Y7 hl)))
 |across k p=>
  ext w
  have d:u5 (.across k p)=1+u5 p:=by rw [u5]
  rw [i0,g5 (p:= .str (AD "across")) rfl,b4 rfl,b4 rfl,b4 rfl];rw [G6] at hl ⊢;have l1:=a2H hl;have l2:=a2H l1;have l3:=a2H l2;have ip:=ih p ok.2.2 (by lia) (by simp only [AW] at hl;lia)
  exact m3 rfl (ad (ad (ad (ad (ad (a:=b7N) (b:=[40]) (b7Q (by decide+kernel)) (cst b5g _) (by decide)) (c0n ok.2.1 rfl) (up4 (Y7 l3))) (cst a3L _) (up4 (Y7 l2))) ((D7 rfl).trans ip) (up4 (Y7 l1))) (cst b33 _) (up4 (Y7 hl)))
 |down k p=>
  ext w
  have d:u5 (.down k p)=1+u5 p:=by rw [u5]
  rw [i0,g5 (p:= .str (AD "down")) rfl,b4 rfl,b4 rfl,b4 rfl];rw [G6] at hl ⊢;have l1:=a2H hl;have l2:=a2H l1;have l3:=a2H l2;have ip:=ih p ok.2.2 (by lia) (by simp only [AW] at hl;lia)
  exact m3 rfl (ad (ad (ad (ad (ad (a:=c0S) (b:=[40]) (b7Q (by decide+kernel)) (cst b5g _) (by decide)) (c0n ok.2.1 rfl) (up4 (Y7 l3))) (cst a3L _) (up4 (Y7 l2))) ((D7 rfl).trans ip) (up4 (Y7 l1))) (cst b33 _) (up4 (Y7 hl)))
 |turned w p=>
  ext w
  have d:u5 (.turned w p)=1+u5 p:=by rw [u5]
  rw [i0,g5 (p:= .str (AD "turned")) rfl,b4 rfl,b4 rfl,b4 rfl,b4 rfl];rw [G6] at hl ⊢;have l1:=a2H hl;have l2:=a2H l1;have ip:=ih p ok.2 (by lia) (by simp only [AW] at hl;lia)
  exact m3 rfl (ad (ad (ad (a:=w) rfl (cst b5g _) (up4 (Y7 l2))) ((D7 rfl).trans ip) (up4 (Y7 l1))) (cst b33 _) (up4 (Y7 hl)))
 |dyed a b p=>
  ext w
  have d:u5 (.dyed a b p)=1+u5 p:=by rw [u5]
  rw [i0,g5 (p:= .str (AD "dye")) rfl,b4 rfl,b4 rfl,b4 rfl,b4 rfl,b4 rfl];rw [G6] at hl ⊢;have l1:=a2H hl;have l2:=a2H l1;have l3:=a2H l2;have l4:=a2H l3;have l5:=a2H l4;have ip:=ih p ok.2.2 (by lia) (by simp only [AW] at hl;lia)
  have e:=ad (ad (ad (ad (ad (ad (x:=mC (.str (AD "dye("))) (y:=m2 i9 (a5 0) (mC (.int 1))) (ρ:=[ξ (.v (.tuple [.str (AD "dye"),row [a],row [b],i0 p])),ξ (.v (.str (AD "dye")))]) (cst (l:=[100,121,101,40]) (by decide+kernel) _) (b:=[a]) rfl (up4 (Y7 l5))) (cst a3L _) (up4 (Y7 l4))) (y:=m2 i9 (a5 0) (mC (.int 2))) (b:=[b]) rfl (up4 (Y7 l3))) (cst a3L _) (up4 (Y7 l2))) ((D7 (g:=R) (x:=m2 i9 (a5 0) (mC (.int 3))) rfl).trans ip) (up4 (Y7 l1))) (cst b33 _) (up4 (Y7 hl))
  show m4 _ _=_;unfold m4;refine(congrArg (λo=>Option.bind o _) e).trans rfl
end
theorem b0f:∀(n:Nat) (m:Mo),D1 m->u5 m<=n->(G6 m).length<=4000->a10 n [i0 m]=ξ (.v (row (G6 m)))
 |0,m,_,h,_=>by have:=a5I m;lia
 |n+1,m,ok,h,hl=>b1F m ok hl λp okp hp hlp=>b0f n p okp (by lia) hlp
theorem mlv{a b:M}{ρ:b0}{x k:Int}(h:a ρ=ξ (.v (.int x)))(hb:b ρ=ξ (.v (.int k)))(hk: -18446744073709551616<k/\k<18446744073709551616):m2 m8 a b ρ=ξ (.v (.int (x*k))):=by
 unfold m2;rw [h,hb];exact b2y hk
theorem adI{a b:M}{ρ:b0}{x y:Int}(h:a ρ=ξ (.v (.int x)))(hb:b ρ=ξ (.v (.int y))):m2 p9 a b ρ=ξ (.v (.int (x+y))):=by
 unfold m2;rw [h,hb]
 rfl
theorem two{g:c6->c6->Option c6}{x y:M}{ρ:b0}{r q s:c6}(h1:x ρ=ξ r)(h2:y ρ=ξ q)(h:g r q=ξ s):m2 g x y ρ=ξ s:=by
 unfold m2;rw [h1,h2];exact h
theorem one{g:c6->Option c6}{x:M}{ρ:b0}{r s:c6}(h1:x ρ=ξ r)(h:g r=ξ s):m1 g x ρ=ξ s:=by
 unfold m1;rw [h1];exact h
abbrev sml(t:List Nat):Prop:=∀x∈t,lt1 x=true
theorem b1D(N:Int)(ρ:b0):∃al:List Nat,1<=al.length/\al.length<=26/\sml al/\M1 (mC (.str (AD "abcdefghijklmnopqrstuvwxyz"))) Q5 (O2 (m2 i9 (D0 (a4 (mC (.int 2)) (a4 (mC (.int 4)) (a4 (mC (.int 26)) a8)))) (m2 (x8 (λ_ j=>0<j) λi j=> .int (i % j)) (a5 0) (mC (.int 3))))) (ξ (.v (.int N))::ρ)=ξ (.v (row al)):=by
 have e:m2 (x8 (λ_ j=>0<j) λi j=> .int (i % j)) (a5 0) (mC (.int 3)) (ξ (.v (.int N))::ρ)=ξ (.v (.int (N % 3))):=md rfl rfl (by lia)
 have go:∀(al:List Nat) (k:Int),i9 (.own [.int 2,.int 4,.int 26]) (.v (.int (N % 3)))=ξ (.v (.int k))->gSl (.v (.str (AD "abcdefghijklmnopqrstuvwxyz"))) ζ (ξ k)=ξ (.v (row al))->M1 (mC (.str (AD "abcdefghijklmnopqrstuvwxyz"))) Q5 (O2 (m2 i9 (D0 (a4 (mC (.int 2)) (a4 (mC (.int 4)) (a4 (mC (.int 26)) a8)))) (m2 (x8 (λ_ j=>0<j) λi j=> .int (i % j)) (a5 0) (mC (.int 3))))) (ξ (.v (.int N))::ρ)=ξ (.v (row al)):=λal k h1 h2=>by
  have ei:m2 i9 (D0 (a4 (mC (.int 2)) (a4 (mC (.int 4)) (a4 (mC (.int 26)) a8)))) (m2 (x8 (λ_ j=>0<j) λi j=> .int (i % j)) (a5 0) (mC (.int 3))) (ξ (.v (.int N))::ρ)=ξ (.v (.int k)):=two (r:= .own [.int 2,.int 4,.int 26]) rfl e h1;unfold M1 O2;rw [ei];exact h2
 have:N % 3=0\/N % 3=1\/N % 3=2:=by lia
 rcases this with h|h|h
 ·exact⟨[97,98],by decide,by decide,by decide,go _ 2 (by rw [h];rfl) (by rfl)⟩
 ·exact⟨[97,98,99,100],by decide,by decide,by decide,go _ 4 (by rw [h];rfl) (by rfl)⟩
 ·exact⟨[97,98,99,100,101,102,103,104,105,106,107,108,109,110,111,112,113,114,115,116,117,118,119,120,121,122],by decide,by decide,by decide,go _ 26 (by rw [h];rfl) (by rfl)⟩
theorem b5F{N:Int}{R:List PV}{al:List Nat}(a1:1<=al.length)(a2:al.length<=26)(a3:sml al){w r:Nat}(hr:r<=3){t:List Nat}(ht:t.length<=100)(st:sml t){c:Nat}(hc:c<=3)(q7:Option c6):∃(q7':Option c6) (x:Nat),lt1 x=true/\
 N9 [ξ (.v (.int N)),ξ (.own R),ξ (.v (row al)),ξ (.v (.int (w:Nat))),ξ (.v (.int (r:Nat))),ξ (.v (row t)),ξ (.v (.int (c:Nat))),q7]=ξ (.nx [ξ (.v (.int N)),ξ (.own R),ξ (.v (row al)),ξ (.v (.int (w:Nat))),ξ (.v (.int (r:Nat))),ξ (.v (row (t++[x]))),ξ (.v (.int (c:Nat))),q7']):=by
 obtain⟨M,hM⟩:∃M:Int,M=N*(2*(r:Nat)+3*(c:Nat)+69621) % 1000003:=⟨_,rfl⟩
 have e1:m2 (x8 (λ_ j=>0<j) λi j=> .int (i % j)) (m2 m8 (a5 0) (m2 p9 (m2 p9 (m2 m8 (mC (.int 2)) (a5 4)) (m2 m8 (mC (.int 3)) (a5 6))) (mC (.int 69621)))) (mC (.int 1000003)) [ξ (.v (.int N)),ξ (.own R),ξ (.v (row al)),ξ (.v (.int (w:Nat))),ξ (.v (.int (r:Nat))),ξ (.v (row t)),ξ (.v (.int (c:Nat))),q7]=ξ (.v (.int M)):=by
  rw [hM];exact md (mlv rfl (adI (adI (mlv rfl rfl (by lia)) (mlv rfl rfl (by lia))) rfl) (by lia)) rfl (by lia)
 have e2:m2 (x8 (λ_ j=>0<j) λi j=> .int (i % j)) (a5 7) (m1 K7 (a5 2)) [ξ (.v (.int N)),ξ (.own R),ξ (.v (row al)),ξ (.v (.int (w:Nat))),ξ (.v (.int (r:Nat))),ξ (.v (row t)),ξ (.v (.int (c:Nat))),ξ (.v (.int M))]=ξ (.v (.int (M %(al.length:Nat)))):=md rfl (one rfl (a3V (by lia))) (by lia)
 have hj0:0<=M %(al.length:Nat):=Int.emod_nonneg _ (by lia)
 have hj1:M %(al.length:Nat)<(al.length:Nat):=Int.emod_lt_of_pos _ (by lia)
 have e3:=b6G (l:=al) (m:=al.length) rfl (by lia) hj0 hj1
 have hx:lt1 (al.getD (M %(al.length:Nat)).toNat 0)=true:=by
  have hk:(M %(al.length:Nat)).toNat<al.length:=by lia
  rw [List.getD_eq_getElem?_getD,Au hk];exact a3 _ (List.getElem_mem hk)
 refine⟨ξ (.v (.int M)),_,hx, ?_⟩
 unfold N9
 rw [g5 e1]
 exact a01 (ad rfl (two rfl e2 e3) (by simp;lia))
theorem b5U{t:List Nat}{x:Nat}(h:sml t)(hx:lt1 x=true):sml (t++[x]):=λy hy=>by
 rcases An.mp hy with h1|h1
 ·exact h y h1
 ·rw [List.mem_singleton.mp h1];exact hx
theorem b3W{N:Int}{R:List PV}{al:List Nat}(a1:1<=al.length)(a2:al.length<=26)(a3:sml al){w r:Nat}(hw:w<=3)(hr:r<=3)(hR:R.length<=100)(q5 q6 q7:Option c6):∃(t:List Nat) (q6' q7':Option c6),t.length=w/\sml t/\
 O0 [ξ (.v (.int N)),ξ (.own R),ξ (.v (row al)),ξ (.v (.int (w:Nat))),ξ (.v (.int (r:Nat))),q5,q6,q7]=ξ (.nx [ξ (.v (.int N)),ξ (.own (R++[row t])),ξ (.v (row al)),ξ (.v (.int (w:Nat))),ξ (.v (.int (r:Nat))),ξ (.v (row t)),q6',q7']):=by
 have e0:B7 (a4 (a5 3) a8) [ξ (.v (.int N)),ξ (.own R),ξ (.v (row al)),ξ (.v (.int (w:Nat))),ξ (.v (.int (r:Nat))),ξ (.v (row [])),q6,q7]=ξ ((Ab w).map λk=> .int (k:Nat)):=J8 rfl (by lia)
 obtain⟨ρ',e4,t,q6',q7',h1,h2,rfl⟩:=a2r (body:=N9) (tg:=d7 6) (λj ρ=>∃(t:List Nat) (q6 q7:Option c6),t.length=j/\sml t/\ρ=[ξ (.v (.int N)),ξ (.own R),ξ (.v (row al)),ξ (.v (.int (w:Nat))),ξ (.v (.int (r:Nat))),ξ (.v (row t)),q6,q7])
  (ps:=(Ab w).map λk=> .int (k:Nat)) (ρ:=[ξ (.v (.int N)),ξ (.own R),ξ (.v (row al)),ξ (.v (.int (w:Nat))),ξ (.v (.int (r:Nat))),ξ (.v (row [])),q6,q7])
  (by
   rintro j p hp ρ ⟨t,q6,q7,h1,h2,rfl⟩;obtain⟨rfl,hj⟩:=a6W hp;obtain⟨q7',x,hx,eb⟩:=b5F (N:=N) (R:=R) a1 a2 a3 (w:=w) hr (t:=t) (by lia) h2 (c:=j) (by lia) q7
   exact a5R (ρ1:=[ξ (.v (.int N)),ξ (.own R),ξ (.v (row al)),ξ (.v (.int (w:Nat))),ξ (.v (.int (r:Nat))),ξ (.v (row t)),ξ (.v (.int (j:Nat))),q7]) rfl eb ⟨_,_,_,by rw [AW,h1];rfl,b5U h2 hx,rfl⟩)
  ⟨[],q6,q7,rfl,(λx hx=>nomatch hx),rfl⟩
 rw [AX,BA] at h1
 refine⟨t,q6',q7',h1,h2, ?_⟩
 unfold O0
 refine(g5 (p:=row []) (by rfl)).trans ?_
 refine(a1b e0 e4).trans ?_
 show(if R.length<AM then ξ (Fl.nx _) else ζ)=_
 rw [if_pos (by rw [sizeLine_eq];lia)]
 rfl
theorem b0A(N:Int):∃rows:List (List Nat),okP rows/\(G0 [47] rows).length<=11/\T9 [.int N]=ξ (.v (i0 (.plain rows))):=by
 obtain⟨w,hw0,hw1,hw⟩:∃w:Nat,1<=w/\w<=3/\((w:Nat):Int)=1+N*16807 % 999979 % 3:=⟨(1+N*16807 % 999979 % 3).toNat,by lia,by lia,by lia⟩
 obtain⟨n,hn0,hn1,hn⟩:∃n:Nat,1<=n/\n<=3/\((n:Nat):Int)=1+N*48271 % 999983 % 3:=⟨(1+N*48271 % 999983 % 3).toNat,by lia,by lia,by lia⟩
 obtain⟨al,a1,a2,a3,ea⟩:=b1D N [ξ (.own []),ζ,ζ,ζ,ζ,ζ,ζ];have e3:m2 p9 (mC (.int 1)) (m2 (x8 (λ_ j=>0<j) λi j=> .int (i % j)) (m2 (x8 (λ_ j=>0<j) λi j=> .int (i % j)) (m2 m8 (a5 0) (mC (.int 16807))) (mC (.int 999979))) (mC (.int 3))) [ξ (.v (.int N)),ξ (.own []),ξ (.v (row al)),ζ,ζ,ζ,ζ,ζ]=ξ (.v (.int (w:Nat))):=by
  rw [hw];exact adI rfl (md (md (ml rfl (by lia)) rfl (by lia)) rfl (by lia))
 have e4:B7 (a4 (m2 p9 (mC (.int 1)) (m2 (x8 (λ_ j=>0<j) λi j=> .int (i % j)) (m2 (x8 (λ_ j=>0<j) λi j=> .int (i % j)) (m2 m8 (a5 0) (mC (.int 48271))) (mC (.int 999983))) (mC (.int 3)))) a8) [ξ (.v (.int N)),ξ (.own []),ξ (.v (row al)),ξ (.v (.int (w:Nat))),ζ,ζ,ζ,ζ]=ξ ((Ab n).map λk=> .int (k:Nat)):=by
  refine J8 ?_ (by lia)
  rw [hn];exact adI rfl (md (md (ml rfl (by lia)) rfl (by lia)) rfl (by lia))
 obtain⟨ρ',e5,rows,q4,q5,q6,q7,h1,h2,rfl⟩:=a2r (body:=O0) (tg:=d7 4) (λj ρ=>∃(rows:List (List Nat)) (q4 q5 q6 q7:Option c6),rows.length=j/\(∀t∈rows,t.length=w/\sml t)/\ρ=[ξ (.v (.int N)),ξ (.own (rows.map row)),ξ (.v (row al)),ξ (.v (.int (w:Nat))),q4,q5,q6,q7])
  (ps:=(Ab n).map λk=> .int (k:Nat)) (ρ:=[ξ (.v (.int N)),ξ (.own []),ξ (.v (row al)),ξ (.v (.int (w:Nat))),ζ,ζ,ζ,ζ])
  (by
   rintro j p hp ρ ⟨rows,q4,q5,q6,q7,h1,h2,rfl⟩;obtain⟨rfl,hj⟩:=a6W hp;obtain⟨t,q6',q7',ht1,ht2,eb⟩:=b3W (N:=N) (R:=rows.map row) a1 a2 a3 (w:=w) hw1 (r:=j) (by lia) (by rw [AX];lia) q5 q6 q7
   refine a5R (ρ1:=[ξ (.v (.int N)),ξ (.own (rows.map row)),ξ (.v (row al)),ξ (.v (.int (w:Nat))),ξ (.v (.int (j:Nat))),q5,q6,q7]) rfl eb ⟨rows++[t],_,_,_,_,by rw [AW,h1];rfl,λx hx=> ?_,by rw [Ao];rfl⟩
   rcases An.mp hx with h|h
   ·exact h2 x h
   ·rw [List.mem_singleton.mp h];exact⟨ht1,ht2⟩)
  ⟨[],ζ,ζ,ζ,ζ,rfl,(λ_ h=>by cases h),rfl⟩
 rw [AX,BA] at h1;have okc:okP rows:=⟨w,hw0,hw1,by lia,by lia,λl hl=>(h2 l hl).1⟩
 refine⟨rows,okc, ?_, ?_⟩
 ·have hg:=a98 47 rows (by intro e;rw [e] at h1;simp at h1;lia)
  have hs:(rows.map (·.length)).sum<=rows.length*3:=by
   have:∀l:List (List Nat),(∀t∈l,t.length=w/\sml t)->(l.map (·.length)).sum<=l.length*3:=λl=>by
    induction l with
    |nil=>intro _;simp
    |cons a l ih=>
     intro h;have:=ih λt ht=>h t (AY _ ht);have:=(h a Aa).1;simp only [AS,List.sum_cons,AU]
     lia
   exact this rows h2
  lia
 ·refine C5 (n:=7) ?_;show a1I [ξ (.v (.int N)),ζ,ζ,ζ,ζ,ζ,ζ,ζ]=_;unfold a1I;refine(B8 (l:=[]) (by rfl)).trans ?_
  refine(g5 ea).trans ?_;refine(g5 e3).trans ?_;refine(a1b e4 e5).trans ?_;refine U7 ?_;rw [i0];have et:m1 a1W (a5 1) [ξ (.v (.int N)),ξ (.own (rows.map row)),ξ (.v (row al)),ξ (.v (.int (w:Nat))),q4,q5,q6,q7]=ξ (.v (.tuple (rows.map row))):=by
   refine one (r:= .bor (rows.map row)) rfl ?_
   rfl
  unfold u3 a4;rw [et]
  rfl
theorem c0Q{x y:M}{ρ:b0}{p:PV}{qs:List PV}(h1:x ρ=ξ (.v p))(h2:y ρ=ξ (.own qs)):u3 (a4 x (a4 y a8)) ρ=ξ (.v (.tuple [p,.list qs])):=by
 unfold u3 a4;rw [h1,h2]
 rfl
theorem dv{a b:M}{ρ:b0}{x k:Int}(h:a ρ=ξ (.v (.int x)))(hb:b ρ=ξ (.v (.int k)))(hk:0<k/\k<1073741824):m2 (x8 a5z λi j=> .int (i / j)) a b ρ=ξ (.v (.int (x / k))):=by
 unfold m2;rw [h,hb];show(if okC a5z x k=true then ξ (c6.v (.int (x / k))) else ζ)=_
 rw [if_pos (a0q (C:=a5z).mpr hk)]
theorem c04{x y:M}{ρ:b0}{p q:PV}(h1:x ρ=ξ (.v p))(h2:y ρ=ξ (.v q)):D0 (a4 x (a4 y a8)) ρ=ξ (.own [p,q]):=by
 unfold D0 a4;rw [h1,h2]
 rfl
theorem c1q{x y z:M}{ρ:b0}{p q r:PV}(h1:x ρ=ξ (.v p))(h2:y ρ=ξ (.v q))(h3:z ρ=ξ (.v r)):u3 (a4 x (a4 y (a4 z a8))) ρ=ξ (.v (.tuple [p,q,r])):=by
 unfold u3 a4;rw [h1,h2,h3]
 rfl
theorem c1r{x y z u:M}{ρ:b0}{p q r v:PV}(h1:x ρ=ξ (.v p))(h2:y ρ=ξ (.v q))(h3:z ρ=ξ (.v r))(h4:u ρ=ξ (.v v)):u3 (a4 x (a4 y (a4 z (a4 u a8)))) ρ=ξ (.v (.tuple [p,q,r,v])):=by
 unfold u3 a4;rw [h1,h2,h3,h4]
 rfl
theorem b6j:AD "abcdefghijklmnopqrstuvwxyz"=S ((Ab 26).map (97+·)):=by decide+kernel
theorem a9O(k:Nat)(h:k<26):∃a,lt1 a=true/\i9 (.v (.str (AD "abcdefghijklmnopqrstuvwxyz"))) (.v (.int (k:Nat)))=ξ (.v (row [a])):=
 ⟨97+k,b6T.mpr (by lia),by rw [b6j];exact b74 (by simp) (by rw [a7Y,Am,List.getElem?_range h];rfl)⟩
abbrev sS(N:Int)(m l:Mo)(a b c d:Option c6):b0:=[ξ (.v (.int N)),ξ (.v (i0 m)),ξ (.v (i0 l)),a,b,c,d]
theorem b76{k:Nat}:∀{ps:List Mo},(∀p∈ps,(G6 p).length<=k)->(G0 [44,32] (a2K ps)).length<=ps.length*(k+2)
 |[],_=>by rw [a2K];simp [G0]
 |[p],h=>by
  have:=h p Aa;rw [a2K,a2K];simp only [G0,AU,Aj]
  lia
 |p::q::r,h=>by
  have h1:=h p Aa;have h2:=b76 (ps:=q::r) λx hx=>h x (AY _ hx);rw [a2K];rw [a2K] at h2 ⊢;simp only [G0,AW,AU,Aj,Nat.add_mul] at h2 ⊢
  lia
def b41(m l:Mo)(q:Option c6):Prop:=∃r,q=ξ (.v (i0 r))/\D1 r/\u5 r<=2+max (u5 m) (u5 l)/\(G6 r).length<=6*max (G6 m).length (G6 l).length+40
theorem b7E{m l:Mo}(okm:D1 m)(okl:D1 l)(N:Int):b41 m l (Q0 [.int N,i0 m,i0 l]):=by
 obtain⟨s,hs⟩:∃s:Int,s=N*62089911 % 999931 % 9:=⟨_,rfl⟩;have s0:0<=s/\s<9:=by lia
 obtain⟨b,hb⟩:∃b:Bool,b=decide (N % 7=1):=⟨_,rfl⟩;obtain⟨t,ht0,ht1,ht⟩:∃t:Nat,1<=t/\t<=24/\((t:Nat):Int)=1+N*742938285 % 999959 %(if b=true then 24 else 4):=by
  refine⟨(1+N*742938285 % 999959 %(if b=true then 24 else 4)).toNat, ?_, ?_, ?_⟩<;>split<;>lia
 have e3:m2 (x8 (λ_ j=>0<j) λi j=> .int (i % j)) (m2 (x8 (λ_ j=>0<j) λi j=> .int (i % j)) (m2 m8 (a5 0) (mC (.int 62089911))) (mC (.int 999931))) (mC (.int 9)) (sS N m l ζ ζ ζ ζ)=ξ (.v (.int s)):=by
  rw [hs];exact md (md (ml rfl (by lia)) rfl (by lia)) rfl (by lia)
 have e4:∀q3,m2 p9 (mC (.int 1)) (m2 (x8 (λ_ j=>0<j) λi j=> .int (i % j)) (m2 (x8 (λ_ j=>0<j) λi j=> .int (i % j)) (m2 m8 (a5 0) (mC (.int 742938285))) (mC (.int 999959))) (m2 i9 (D0 (a4 (mC (.int 4)) (a4 (mC (.int 24)) a8))) (m1 b4T (m2 D6 (m2 (x8 (λ_ j=>0<j) λi j=> .int (i % j)) (a5 0) (mC (.int 7))) (mC (.int 1)))))) (sS N m l q3 ζ ζ ζ)=ξ (.v (.int (t:Nat))):=λq3=>by
  rw [ht];refine adI rfl (md (md (ml rfl (by lia)) rfl (by lia)) (two (r:= .own [.int 4,.int 24]) (q:= .v (.int (if b=true then 1 else 0))) rfl (one (two (md rfl rfl (by lia)) rfl (a8g _ _)) ?_) (by cases b<;>rfl)) (by split<;>lia))
  have:(N % 7==1)=b:=by rw [hb];rfl
  rw [this]
  rfl
 have go:∀{r:Mo},D1 r->u5 r<=2+max (u5 m) (u5 l)->(G6 r).length<=6*max (G6 m).length (G6 l).length+40->a52 (sS N m l ζ ζ ζ ζ)=ξ (.rt (.v (i0 r)))->b41 m l (Q0 [.int N,i0 m,i0 l]):=λ {r} h1 h3 h4 h=>⟨r,C5 (n:=4) h,h1,h3,h4⟩;have hd:∀{q:Option Fl} {n:MS},n (sS N m l (ξ (.v (.int s))) (ξ (.v (.int (t:Nat)))) (ξ (.v (.str (AD "abcdefghijklmnopqrstuvwxyz")))) ζ)=q->g8 (l7 3 (m2 (x8 (λ_ j=>0<j) λi j=> .int (i % j)) (m2 (x8 (λ_ j=>0<j) λi j=> .int (i % j)) (m2 m8 (a5 0) (mC (.int 62089911))) (mC (.int 999931))) (mC (.int 9)))) (g8 (l7 4 (m2 p9 (mC (.int 1)) (m2 (x8 (λ_ j=>0<j) λi j=> .int (i % j)) (m2 (x8 (λ_ j=>0<j) λi j=> .int (i % j)) (m2 m8 (a5 0) (mC (.int 742938285))) (mC (.int 999959))) (m2 i9 (D0 (a4 (mC (.int 4)) (a4 (mC (.int 24)) a8))) (m1 b4T (m2 D6 (m2 (x8 (λ_ j=>0<j) λi j=> .int (i % j)) (a5 0) (mC (.int 7))) (mC (.int 1)))))))) (g8 (l7 5 (mC (.str (AD "abcdefghijklmnopqrstuvwxyz")))) n)) (sS N m l ζ ζ ζ ζ)=q:=λ {q n} h=>by
  refine(g5 e3).trans ?_;refine(g5 (e4 _)).trans ?_;refine(g5 (p:= .str (AD "abcdefghijklmnopqrstuvwxyz")) rfl).trans ?_;exact h
 clear e3 e4 hs ht;have dm:u5 m<=max (u5 m) (u5 l):=Nat.le_max_left _ _;have dl:u5 l<=max (u5 m) (u5 l):=Nat.le_max_right _ _;have sm:(G6 m).length<=max (G6 m).length (G6 l).length:=Nat.le_max_left _ _;have sl:(G6 l).length<=max (G6 m).length (G6 l).length:=Nat.le_max_right _ _;have tl:∀w∈a24,w.length<=5:=by decide
 have dl2:=(b8v t).2;have hc:s=0\/s=1\/s=2\/s=3\/s=4\/s=5\/s=6\/s=7\/s=8:=by lia
 rcases hc with rfl|rfl|rfl|rfl|rfl|rfl|rfl|rfl|rfl
 ·obtain⟨j,hj⟩:∃j:Int,j=N % 7:=⟨_,rfl⟩;have tw:∃w∈a24,i9 (.bo (.lst (a24.map row))) (.v (.int j))=ξ (.v (row w)):=by
   have:j=0\/j=1\/j=2\/j=3\/j=4\/j=5\/j=6:=by lia
   rcases this with h|h|h|h|h|h|h<;>rw [h]
   ·exact⟨[116,117,114,110],by decide,rfl⟩
   ·exact⟨[104,97,108,102],by decide,rfl⟩
   ·exact⟨[98,97,99,107],by decide,rfl⟩
   ·exact⟨[115,105,100,101],by decide,rfl⟩
   ·exact⟨[102,108,105,112],by decide,rfl⟩
   ·exact⟨[99,114,111,115,115],by decide,rfl⟩
   ·exact⟨[111,116,104,101,114],by decide,rfl⟩
  obtain⟨w,hw,ew⟩:=tw;refine go (r:= .turned w m) (by rw [D1];exact⟨hw,okm⟩) (by rw [u5];lia) (by have:=tl w hw;rw [G6];simp only [AW,AU,Aj];lia) (hd ?_)
  refine O5 rfl ?_;refine(B8 (l:=a24.map row) rfl).trans ?_;refine U7 ?_;rw [i0];exact c1q rfl (two rfl (md rfl rfl (by lia)) (hj▸ew)) rfl
 ·obtain⟨a,ha,ea⟩:=a9O (N % 4).toNat (by lia)
  obtain⟨c,hc,ec⟩:=a9O (N / 4 % 26).toNat (by lia)
  rw [show(((N % 4).toNat:Nat):Int)=N % 4 by lia] at ea
  rw [show(((N / 4 % 26).toNat:Nat):Int)=N / 4 % 26 by lia] at ec
  refine go (r:= .dyed a c m) (by rw [D1];exact⟨ha,hc,okm⟩) (by rw [u5];lia) (by rw [G6];simp only [AW,AU,Aj];lia) (hd ?_)
  rw [b4 rfl];refine m3 rfl ?_;rw [i0];exact c1r rfl (two rfl (md rfl rfl (by lia)) ea) (two rfl (md (dv rfl rfl (by lia)) rfl (by lia)) ec) rfl
 ·refine go (r:= .across t m) (by rw [D1];exact⟨ht0,ht1,okm⟩) (by rw [u5];lia) (by rw [G6];simp only [AW,AU,Aj];lia) (hd ?_)
  rw [b4 rfl,b4 rfl];refine m3 rfl ?_;rw [i0]
  rfl
 ·refine go (r:= .down t m) (by rw [D1];exact⟨ht0,ht1,okm⟩) (by rw [u5];lia) (by rw [G6];simp only [AW,AU,Aj];lia) (hd ?_)
  rw [b4 rfl,b4 rfl,b4 rfl];refine m3 rfl ?_;rw [i0]
  rfl
 ·refine go (r:= .beside [m,l]) (by rw [D1];exact⟨by simp,by simp,a2A (by simp [okm,okl])⟩) (by have:=a2p (ps:=[m,l]) (k:=max (u5 m) (u5 l)) (by simp [dm,dl]);rw [u5];lia) (by rw [G6];simp only [a2K,G0,G6,AW,AU,Aj];lia) (hd ?_)
  rw [b4 rfl,b4 rfl,b4 rfl,b4 rfl];refine m3 rfl ?_;rw [i0]
  rfl
 ·refine go (r:= .above [m,l]) (by rw [D1];exact⟨by simp,by simp,a2A (by simp [okm,okl])⟩) (by have:=a2p (ps:=[m,l]) (k:=max (u5 m) (u5 l)) (by simp [dm,dl]);rw [u5];lia) (by rw [G6];simp only [a2K,G0,G6,AW,AU,Aj];lia) (hd ?_)
  rw [b4 rfl,b4 rfl,b4 rfl,b4 rfl,b4 rfl];refine m3 rfl ?_;rw [i0]
  rfl
 ·refine go (r:= .beside [m,.turned [115,105,100,101] m]) (by rw [D1];exact⟨by simp,by simp,a2A (by simp [okm,D1,a24])⟩) (by have:=a2p (ps:=[m,.turned [115,105,100,101] m]) (k:=1+max (u5 m) (u5 l)) (by simp [u5];lia);rw [u5];lia) (by rw [G6];simp only [a2K,G0,G6,AW,AU,Aj];lia) (hd ?_)
  rw [b4 rfl,b4 rfl,b4 rfl,b4 rfl,b4 rfl,b4 rfl];refine m3 rfl ?_;rw [i0,a2n,a2n,i0]
  rfl
 ·refine go (r:= .above [m,.turned [102,108,105,112] m,m]) (by rw [D1];exact⟨by simp,by simp,a2A (by simp [okm,D1,a24])⟩) (by have:=a2p (ps:=[m,.turned [102,108,105,112] m,m]) (k:=1+max (u5 m) (u5 l)) (by simp [u5];lia);rw [u5];lia) (by rw [G6];simp only [a2K,G0,G6,AW,AU,Aj];lia) (hd ?_)
  rw [b4 rfl,b4 rfl,b4 rfl,b4 rfl,b4 rfl,b4 rfl,b4 rfl];refine m3 rfl ?_;rw [i0,a2n,a2n,a2n,i0]
  rfl
 ·obtain⟨j,hj⟩:∃j:Int,j=N % 5:=⟨_,rfl⟩;have fin:∀{ps:List Mo},2<=ps.length->ps.length<=6->(∀p∈ps,p=m\/p=l)->gSl (.own [i0 l,i0 m,i0 l,i0 m,i0 l,i0 m]) ζ (ξ (2+j))=ξ (.own (a2n ps))->b41 m l (Q0 [.int N,i0 m,i0 l]):=λ {ps} p1 p2 p3 p4=>by
   refine go (r:= .beside ps) (by rw [D1];exact⟨p1,p2,a2A λp hp=>by rcases p3 p hp with rfl|rfl<;>assumption⟩) (by have:=a2p (ps:=ps) (k:=max (u5 m) (u5 l)) (λp hp=>by rcases p3 p hp with rfl|rfl<;>assumption);rw [u5];lia) (by have g:=b76 (ps:=ps) (k:=max (G6 m).length (G6 l).length) (λp hp=>by rcases p3 p hp with rfl|rfl<;>assumption);have:=Nat.mul_le_mul_right (max (G6 m).length (G6 l).length+2) p2;rw [G6];simp only [AW,AU,Aj];lia) (hd ?_)
   rw [b4 rfl,b4 rfl,b4 rfl,b4 rfl,b4 rfl,b4 rfl,b4 rfl,b4 rfl];refine U7 ?_;rw [i0];refine c0Q rfl ?_;rw [b1H,two (c04 rfl rfl) rfl (b3x ⟨⟨by lia,by lia⟩,by simp⟩),AR]
   show((m2 p9 (mC (.int 2)) (m2 (x8 (λ_ j=>0<j) λi j=> .int (i % j)) (a5 0) (mC (.int 5))) _).bind b44).bind _=_;rw [adI rfl (md rfl rfl (by lia)),<-hj]
   exact p4
  have:j=0\/j=1\/j=2\/j=3\/j=4:=by lia
  rcases this with h|h|h|h|h<;>rw [h] at fin
  ·exact fin (ps:=[l,m]) (by simp) (by simp) (by simp) rfl
  ·exact fin (ps:=[l,m,l]) (by simp) (by simp) (by simp) rfl
  ·exact fin (ps:=[l,m,l,m]) (by simp) (by simp) (by simp) rfl
  ·exact fin (ps:=[l,m,l,m,l]) (by simp) (by simp) (by simp) rfl
  ·exact fin (ps:=[l,m,l,m,l,m]) (by simp) (by simp) (by simp) rfl
theorem a9Q{bt:Nat->Nat->Bool}{K:Nat->Int}(h:∀i j,bt i j=decide (K i>K j)):∀m,argBest bt m<=m/\∀j,j<=m->K j<=K (argBest bt m)
 |0=>⟨AQ _,λj hj=>by
  have:j=0:=by lia
  subst this;exact Int.le_refl _⟩
 |m+1=>by
  obtain⟨h1,h2⟩:=a9Q h m;have hb:=h (m+1) (argBest bt m);simp only [argBest]
  by_cases c:K (m+1)>K (argBest bt m)
  ·rw [hb,decide_eq_true c];simp only [if_true];refine⟨AQ _,λj hj=> ?_⟩;rcases Nat.lt_or_ge j (m+1) with hj'|hj'
   ·have:=h2 j (by lia);lia
   ·have:j=m+1:=by lia
    subst this;exact Int.le_refl _
  ·rw [hb,decide_eq_false c];simp only [As,if_false];refine⟨by lia,λj hj=> ?_⟩
   rcases Nat.lt_or_ge j (m+1) with hj'|hj'
   ·exact h2 j (by lia)
   ·have:j=m+1:=by lia
    subst this
    lia
theorem b3d{is:List Int}(h0:0<is.length):a0L is∈is/\∀i∈is,i<=a0L is:=by
 obtain⟨h1,h2⟩:=a9Q (bt:=λi j=>decide (is.getD i 0>is.getD j 0)) (K:=λi=>is.getD i 0) (λi j=>rfl) (is.length - 1);have hb:argBest (λi j=>decide (is.getD i 0>is.getD j 0)) (is.length - 1)<is.length:=by lia
 constructor
 ·unfold a0L;rw [List.getD_eq_getElem?_getD,Au hb];exact List.getElem_mem hb
 ·intro i hi;obtain⟨j,hj,rfl⟩:=List.getElem_of_mem hi;have:=h2 j (by lia)
  simp only [List.getD_eq_getElem?_getD,Au hj] at this;unfold a0L;rw [List.getD_eq_getElem?_getD]
  simpa using this
abbrev NL(α:Type):=List (List Nat×α)
section
variable {α:Type}
def dN(f:α->PV)(K:NL α):List (List n5×PV):=K.map λx=>([.inr (S x.1)],f x.2)
def V2(K:NL α)(w:List Nat):Option α:=(K.find? λx=>decide (x.1=w)).map (·.2)
def a1x(K:NL α)(w:List Nat)(a:α):NL α:=if(K.any λx=>decide (x.1=w))=true then K.map (λx=>if x.1=w then(x.1,a) else x) else K++[(w,a)]
theorem a31{v w:List Nat}:([Sum.inr (S v)]:List n5)=[.inr (S w)]↔v=w:=⟨λh=>b93 (Sum.inr.inj (List.cons.inj h).1),λh=>by rw [h]⟩
theorem a41(f:α->PV)(w:List Nat):∀K:NL α,U9 (dN f K) [.inr (S w)]=(V2 K w).map f
 |[]=>rfl
 |(v,a)::K=>by
  unfold V2;rw [List.find?_cons];show U9 (([.inr (S v)],f a)::dN f K) _=_;rw [b4d]
  by_cases h:v=w
  ·rw [if_pos (a31.mpr h),decide_eq_true h];rfl
  ·rw [if_neg (λz=>h (a31.mp z)),decide_eq_false h];exact a41 f w K
theorem b9D(f:α->PV)(K:NL α)(w:List Nat)(a:α):b5K (dN f K) [.inr (S w)] (f a)=dN f (a1x K w a):=by
 have ha:((dN f K).any λkv=>decide (kv.1=[.inr (S w)]))=K.any λx=>decide (x.1=w):=by
  unfold dN;rw [List.any_map]
  congr 1
  funext x
  exact decide_eq_decide.mpr a31
 unfold b5K a1x;rw [ha];split
 ·unfold dN;rw [At,At];refine List.map_congr_left λx _=> ?_;show(if _ then _ else _)=_
  by_cases h:x.1=w
  ·rw [if_pos (a31.mpr h)];show _=([Sum.inr (S (if x.1=w then(x.1,a) else x).1)],f (if x.1=w then(x.1,a) else x).2)
   rw [if_pos h]
  ·rw [if_neg (λz=>h (a31.mp z))];show _=([Sum.inr (S (if x.1=w then(x.1,a) else x).1)],f (if x.1=w then(x.1,a) else x).2)
   rw [if_neg h]
 ·unfold dN;rw [Ao]
  rfl
theorem a9r(f:α->PV)(K:NL α):b0v (dN f K)=true:=by
 unfold b0v dN;rw [List.all_map];exact List.all_eq_true.mpr λ_ _=>rfl
theorem b2B(f:α->PV)(K:NL α):((dN f K).map λkv=>k1 kv.1)=(K.map (·.1)).map row:=by
 unfold dN;rw [At,At]
 rfl
theorem b1C(f:α->PV)(K:NL α):(dN f K).length=K.length:=AX _
theorem a4c(K:NL α)(w:List Nat)(a:α):(a1x K w a).length<=K.length+1:=by
 unfold a1x;split
 ·rw [AX];lia
 ·rw [AW,List.length_singleton];exact AQ _
theorem b30{K:NL α}{w:List Nat}{a:α}{v:List Nat}(h:v∈(a1x K w a).map (·.1)):v=w\/v∈K.map (·.1):=by
 unfold a1x at h;split at h
 ·rw [At] at h;obtain⟨x,hx,rfl⟩:=Aw.mp h
  right
  show(if x.1=w then(x.1,a) else x).1∈_
  have:(if x.1=w then(x.1,a) else x).1=x.1:=by split<;>rfl
  rw [this];exact List.mem_map_of_mem hx
 ·rw [Ao] at h;rcases An.mp h with h|h
  ·exact .inr h
  ·left;simpa using h
end
abbrev y8:=Nat×Nat
def PR(d:y8):PV:= .tuple [.int (d.1:Nat),.int (d.2:Nat)]
def a6C(w:List Nat):Bool:=decide (w∈[[116,117,114,110],[98,97,99,107],[99,114,111,115,115],[111,116,104,101,114]])
inductive Er where
 |nm (w:List Nat)|mis|wid
def evE:Er->PV
 | .nm w=> .tuple [.str (AD "name"),row w]
 | .mis=> .tuple [.str (AD "misfit"),.str (AD "")]
 | .wid=> .tuple [.str (AD "wide"),.str (AD "")]
abbrev Sz:=y8 ⊕ Er
def Z8:Sz->PV
 | .inl d=>PR d
 | .inr e=>evE e
def bE{α β:Type}(o:α ⊕ Er)(f:α->β ⊕ Er):β ⊕ Er:=match o with
 | .inl a=>f a
 | .inr e=> .inr e
def chk(d:y8):Sz:=if d.1<=24/\d.2<=24 then .inl d else .inr .wid
def a3k(be:Bool)(x d:y8):Sz:=if be=true then(if d.1=x.1 then chk (x.1,x.2+d.2) else .inr .mis) else(if d.2=x.2 then chk (x.1+d.1,x.2) else .inr .mis)
def a33(be:Bool):y8->List y8->Sz
 |x,[]=> .inl x
 |x,d::ds=>bE (a3k be x d) λy=>a33 be y ds
def a2X(be:Bool):List y8->Sz
 |[]=> .inr .wid
 |d::ds=>a33 be d ds
def b8a(ac:Bool)(k:Nat)(d:y8):Sz:=if ac=true then chk (d.1,d.2*k) else chk (d.1*k,d.2)
def b0Q(w:List Nat)(d:y8):y8:=if a6C w=true then(d.2,d.1) else d
mutual
def E2(K:NL y8):Mo->Sz
 | .plain rows=> .inl (rows.length,(rows.headD []).length)
 | .named w=>match V2 K w with
   |some d=> .inl d
   |none=> .inr (.nm w)
 | .beside ps=>bE (a1s K ps) (a2X true)
 | .above ps=>bE (a1s K ps) (a2X false)
 | .across k p=>bE (E2 K p) (b8a true k)
 | .down k p=>bE (E2 K p) (b8a false k)
 | .turned w p=>bE (E2 K p) λd=> .inl (b0Q w d)
 | .dyed _ _ p=>E2 K p
def a1s(K:NL y8):List Mo->List y8 ⊕ Er
 |[]=> .inl []
 |p::ps=>bE (E2 K p) λd=>bE (a1s K ps) λds=> .inl (d::ds)
end
def sz(p:PV):Prop:=∃o:Sz,p=Z8 o
theorem b5k(d:y8):∃k:Int,a2S (.v (PR d))=ξ (.v (.int k))/\(d.1:Int)<=k/\(d.2:Int)<=k/\(k=d.1\/k=d.2):=by
 obtain⟨h1,h2⟩:=b3d (is:=[(d.1:Int),(d.2:Int)]) (by simp)
 exact⟨a0L [(d.1:Int),(d.2:Int)],rfl,h2 _ (by simp),h2 _ (by simp),by simpa using h1⟩
theorem a6G(a b:Int):gNe (.v (.int a)) (.v (.int b))=ξ (.v (.bool (!decide (a=b)))):=by
 have:gNe (.v (.int a)) (.v (.int b))=ξ (.v (.bool (!PyData.eqv (.int a) (.int b)))):=rfl;rw [this];have:PyData.eqv (.int a) (.int b)=decide (a=b):=by
  by_cases h:a=b<;>simp [PyData.eqv,h]
 rw [this]
theorem b4N{it:MI}{tg:PV->b0->Option b0}{body n:MS}{ρ:b0}{ps:List PV}{r:c6}(h1:it ρ=ξ ps)(h2:v7 body tg ps ρ=ξ (.rt r)):g8 (O1 it tg body) n ρ=ξ (.rt r):=by
 unfold g8 O1;rw [h1,AR,h2]
 rfl
theorem b14{m n:MS}{ρ:b0}{r:c6}(h:m ρ=ξ (.rt r)):g8 m n ρ=ξ (.rt r):=by
 unfold g8;rw [h]
 rfl
theorem A3{m n:MS}{ρ ρ':b0}(h:m ρ=ξ (.nx ρ')):g8 m n ρ=n ρ':=by
 unfold g8;rw [h]
 rfl
theorem at0{x:c6}{p:PV}{ds:List PV}(h:x.rd= .list (p::ds)\/x.rd= .tuple (p::ds)):i9 x (.v (.int 0))=ξ (.v p):=by
 have e:L2.atI (p::ds) 0=ξ p:=(a7Y (k:=0)).trans rfl;unfold i9;rcases h with h|h<;>rw [h]<;>show(L2.atI (p::ds) 0).map c6.v=_<;>rw [e]<;>rfl
theorem b55{x y:M}{ρ:b0}{p q:PV}(h1:x ρ=ξ (.v p))(h2:y ρ=ξ (.v q)):u3 (a4 x (a4 y a8)) ρ=ξ (.v (.tuple [p,q])):=by
 unfold u3 a4;rw [h1,h2]
 rfl
def N8(w:PV)(s1 q3:Option c6)(d:y8):b0:=[ξ (.v w),s1,ξ (.v (PR d)),q3]
theorem b7W{i:Nat}{ρ:b0}{d:y8}(h:ρ[i]?=ξ (ξ (.v (PR d)))):r6 (m2 (gI λi j=> .bool (decide (j<i))) (m1 a2S (a5 i)) (mC (.int 24))) ρ=ξ (decide (¬(d.1<=24/\d.2<=24))):=by
 obtain⟨k,hk,h1,h2,h3⟩:=b5k d;have v:a5 i ρ=ξ (.v (PR d)):=by unfold a5;rw [h]
 refine(D3 (r:= .v (.int k)) (one v hk) (q:= .v (.int 24)) (b:=decide ((24:Int)<k)) rfl rfl).trans ?_
 congr 1
 exact decide_eq_decide.mpr ⟨λz=>by lia,λz=>by lia⟩
abbrev wrd(be:Bool):PV:= .str (if be=true then AD "beside" else AD "above")
theorem b3H(be:Bool){s1:Option c6}(x d:y8):(∃e,a3k be x d= .inr e/\j8 (N8 (wrd be) s1 (ξ (.v (PR d))) x)=ξ (.rt (.v (evE e))))\/∃y,a3k be x d= .inl y/\j8 (N8 (wrd be) s1 (ξ (.v (PR d))) x)=ξ (.nx (N8 (wrd be) s1 (ξ (.v (PR d))) y)):=by
 have fin:∀y:y8,a3k be x d=chk y->j8 (N8 (wrd be) s1 (ξ (.v (PR d))) x)=n3 (r6 (m2 (gI λi j=> .bool (decide (j<i))) (m1 a2S (a5 2)) (mC (.int 24)))) (m4 (u3 (a4 (mC (.str (AD "wide"))) (a4 (mC (.str (AD ""))) a8)))) j0 (N8 (wrd be) s1 (ξ (.v (PR d))) y)->((∃e,a3k be x d= .inr e/\j8 (N8 (wrd be) s1 (ξ (.v (PR d))) x)=ξ (.rt (.v (evE e))))\/∃y,a3k be x d= .inl y/\j8 (N8 (wrd be) s1 (ξ (.v (PR d))) x)=ξ (.nx (N8 (wrd be) s1 (ξ (.v (PR d))) y))):=λy h1 h3=>by
  have e:=b7W (i:=2) (ρ:=N8 (wrd be) s1 (ξ (.v (PR d))) y) (d:=y) rfl;rw [h3,h1];unfold chk
  by_cases h:y.1<=24/\y.2<=24
  ·rw [decide_eq_false (λz=>z h)] at e;rw [if_pos h];exact .inr ⟨y,rfl,by rw [a2Z e];rfl⟩
  ·rw [decide_eq_true h] at e;rw [if_neg h,a0n e];exact .inl ⟨.wid,rfl,rfl⟩
 cases be with
 |true=>
  have t0:r6 (m2 D6 (a5 0) (mC (.str (AD "beside")))) (N8 (wrd true) s1 (ξ (.v (PR d))) x)=ξ true:=rfl;have t1:r6 (m2 gNe (m2 i9 (a5 3) (mC (.int 0))) (m2 i9 (a5 2) (mC (.int 0)))) (N8 (wrd true) s1 (ξ (.v (PR d))) x)=ξ (!decide ((d.1:Int)=x.1)):=D3 (r:= .v (.int (d.1:Nat))) rfl (q:= .v (.int (x.1:Nat))) rfl (a6G _ _)
  by_cases h:d.1=x.1
  ·rw [decide_eq_true (by lia)] at t1
   refine fin (x.1,x.2+d.2) ?_ ?_
   ·unfold a3k;rw [if_pos rfl,if_pos h]
   ·unfold j8;refine A3 ?_;rw [a0n t0,b4 t1];exact a01 rfl
  ·rw [decide_eq_false (by lia)] at t1
   refine .inl ⟨.mis,by unfold a3k;rw [if_pos rfl,if_neg h], ?_⟩
   unfold j8;exact b14 (by rw [a0n t0];exact m3 t1 rfl)
 |false=>
  have t0:r6 (m2 D6 (a5 0) (mC (.str (AD "beside")))) (N8 (wrd false) s1 (ξ (.v (PR d))) x)=ξ false:=rfl;have t1:r6 (m2 gNe (m2 i9 (a5 3) (mC (.int 1))) (m2 i9 (a5 2) (mC (.int 1)))) (N8 (wrd false) s1 (ξ (.v (PR d))) x)=ξ (!decide ((d.2:Int)=x.2)):=D3 (r:= .v (.int (d.2:Nat))) rfl (q:= .v (.int (x.2:Nat))) rfl (a6G _ _)
  by_cases h:d.2=x.2
  ·rw [decide_eq_true (by lia)] at t1
   refine fin (x.1+d.1,x.2) ?_ ?_
   ·unfold a3k;rw [if_neg Af,if_pos h]
   ·unfold j8;refine A3 ?_;rw [a2Z t0,b4 t1];exact a01 rfl
  ·rw [decide_eq_false (by lia)] at t1
   refine .inl ⟨.mis,by unfold a3k;rw [if_neg Af,if_neg h], ?_⟩
   unfold j8;exact b14 (by rw [a2Z t0];exact m3 t1 rfl)
theorem a8n(be:Bool){s1:Option c6}:∀(ds:List y8) (x:y8) (q3:Option c6),(∃e,a33 be x ds= .inr e/\v7 j8 (d7 3) (ds.map PR) (N8 (wrd be) s1 q3 x)=ξ (.rt (.v (evE e))))\/∃y q3',a33 be x ds= .inl y/\v7 j8 (d7 3) (ds.map PR) (N8 (wrd be) s1 q3 x)=ξ (.nx (N8 (wrd be) s1 q3' y))
 |[],x,q3=> .inr ⟨x,q3,rfl,rfl⟩
 |d::ds,x,q3=>by
  have e:v7 j8 (d7 3) ((d::ds).map PR) (N8 (wrd be) s1 q3 x)=(j8 (N8 (wrd be) s1 (ξ (.v (PR d))) x)).bind (λfl=>match fl with
   | .nx ρ2=>v7 j8 (d7 3) (ds.map PR) ρ2
   | .ct ρ2=>v7 j8 (d7 3) (ds.map PR) ρ2
   | .bk ρ2=>ξ (.nx ρ2)
   | .rt r=>ξ (.rt r)):=by
   rw [AS,v7]
   rfl
  rw [a33];rcases b3H be (s1:=s1) x d with⟨q,h0,e1⟩|⟨y,h0,e1⟩
  ·refine .inl ⟨q,by rw [h0];rfl, ?_⟩
   rw [e,e1]
   rfl
  ·rw [e,e1,h0,AR];exact a8n be ds y _
theorem b5d(be:Bool){ds:List y8}(hn:ds≠[]):a1d [wrd be,.list (ds.map PR)]=ξ (.v (Z8 (a2X be ds))):=by
 refine C5 (n:=2) ?_;show a29 [ξ (.v (wrd be)),ξ (.v (.list (ds.map PR))),ζ,ζ]=_;unfold a29;cases ds with
 |nil=>exact absurd rfl hn
 |cons d ds=>
  rw [AS,g5 (p:=PR d) (two (r:= .v (.list (PR d::ds.map PR))) (q:= .v (.int 0)) rfl rfl (at0 (.inl rfl)))];have e0:a3n (M1 (a5 1) (O2 (mC (.int 1))) Q5) (N8 (wrd be) (ξ (.v (.list (PR d::ds.map PR)))) ζ d)=ξ (ds.map PR):=by
   show ξ (cut (PR d::ds.map PR) (ξ 1) ζ)=ξ (ds.map PR);unfold cut HT.sIx;simp;exact List.take_of_length_le (by simp)
  rcases a8n be (s1:=ξ (.v (.list (PR d::ds.map PR)))) ds d ζ with⟨e,h0,e1⟩|⟨y,q3',h0,e1⟩
  ·rw [a2X,h0];exact b4N e0 e1
  ·rw [a2X,h0];exact(a1b e0 e1).trans rfl
def isS:PV->Bool
 | .tuple (.str _::_)=>true
 |_=>false
theorem S2{p:PV}(h:sz p){x:M}{ρ:b0}(hx:x ρ=ξ (.v p)):m1 (Y1 "str") (m2 i9 x (mC (.int 0))) ρ=ξ (.v (.bool (isS p))):=by
 obtain⟨o,rfl⟩:=h;rcases o with d|(w|_|_)
 ·exact one (r:= .v (.int (d.1:Nat))) (two (q:= .v (.int 0)) hx rfl rfl) rfl
 ·exact one (r:= .v (.str (AD "name"))) (two (q:= .v (.int 0)) hx rfl rfl) rfl
 ·exact one (r:= .v (.str (AD "misfit"))) (two (q:= .v (.int 0)) hx rfl rfl) rfl
 ·exact one (r:= .v (.str (AD "wide"))) (two (q:= .v (.int 0)) hx rfl rfl) rfl
theorem b9P{l:List PV}(h:∀p∈l,sz p)(k:Nat):x4 l (k+2)=true:=a6d λp hp=>by
 obtain⟨o,rfl⟩:=h p hp;rcases o with d|(w|_|_)<;>rfl
theorem b9b{l:List PV}(h:∀p∈l,sz p):gNe (.bor l) (.own [])=ξ (.v (.bool (!l.isEmpty))):=by
 have e:gNe (.bor l) (.own [])=if x4 l 49=true/\x4 [] 49=true then ξ (.v (.bool (!PyData.eqv (.list l) (.list [])))) else ζ:=rfl
 rw [e,if_pos ⟨b9P h 47,rfl⟩];cases l<;>rfl
theorem a4a{c:MT}{i:Nat}{n:MS}{ρ:b0}{p:PV}(hc:c ρ=ξ true)(hx:ρ[i]?=ξ (ξ (.v p))):g8 (n3 c (V4 i) j0) n ρ=ξ (.rt (.v p)):=by
 refine O5 hc ?_;unfold V4;rw [hx]
theorem b1T{a b:MT}{ρ:b0}{x y:Bool}(h1:a ρ=ξ x)(h2:b ρ=ξ y):Z9 a b ρ=ξ (x||y):=by
 unfold Z9;rw [h1];cases x
 ·exact h2
 ·rfl
theorem b7J{w:List Nat}(h:w∈a24):a97 false (.v (row w)) (.own [.str (AD "turn"),.str (AD "back"),.str (AD "cross"),.str (AD "other")])=ξ (.v (.bool (a6C w))):=by
 have h2:w=[116,117,114,110]\/w=[104,97,108,102]\/w=[98,97,99,107]\/w=[115,105,100,101]\/w=[102,108,105,112]\/w=[99,114,111,115,115]\/w=[111,116,104,101,114]:=by
  simpa [a24] using h
 rcases h2 with rfl|rfl|rfl|rfl|rfl|rfl|rfl<;>rfl
theorem b0i{s0 s1 s2 s3 s4:Option c6}(d:y8):g8 (n3 (r6 (m2 (gI λi j=> .bool (decide (j<i))) (m1 a2S (a5 5)) (mC (.int 24)))) (m4 (u3 (a4 (mC (.str (AD "wide"))) (a4 (mC (.str (AD ""))) a8)))) j0) (V4 5) [s0,s1,s2,s3,s4,ξ (.v (PR d))]=ξ (.rt (.v (Z8 (chk d)))):=by
 have e:=b7W (i:=5) (ρ:=[s0,s1,s2,s3,s4,ξ (.v (PR d))]) (d:=d) rfl;unfold chk
 by_cases h:d.1<=24/\d.2<=24
 ·rw [decide_eq_false (λz=>z h)] at e;rw [b4 e,if_pos h]
  rfl
 ·rw [decide_eq_true h] at e;rw [m3 e rfl,if_neg h]
  rfl
abbrev kd(K:NL y8):PV:=tv (dN PR K)
section
variable {R:RF}{K:NL y8}
theorem a7b:∀ps:List Mo,(∃ds,a1s K ps= .inl ds/\ps.map (λp=>Z8 (E2 K p))=ds.map PR/\(ps.map (λp=>Z8 (E2 K p))).filter isS=[])\/∃e r,a1s K ps= .inr e/\(ps.map (λp=>Z8 (E2 K p))).filter isS=evE e::r
 |[]=> .inl ⟨[],by rw [a1s],rfl,rfl⟩
 |p::ps=>by
  rw [a1s];cases e:E2 K p with
  |inr q=>
   refine .inr ⟨q,(ps.map (λp=>Z8 (E2 K p))).filter isS,rfl, ?_⟩;rw [AS,List.filter_cons,e];cases q<;>rfl
  |inl d=>
   rw [AS,List.filter_cons,e];rcases a7b ps with⟨ds,h1,h2,h3⟩|⟨q,r,h1,h2⟩
   ·exact .inl ⟨d::ds,by rw [h1];rfl,by rw [AS,h2];rfl,h3⟩
   ·exact .inr ⟨q,r,by rw [h1];rfl,h2⟩
theorem a6B{ps:List Mo}(be:Bool)(hp0:ps≠[])(hp:ps.length<=6)(h:∀p∈ps,R [i0 p,kd K]=ξ (.v (Z8 (E2 K p)))){ww:PV}:
 g8 (l7 3 (V3 1 (B6 (m2 i9 (a5 0) (mC (.int 1)))) (d7 6) V5 (S3 R)))
 (g8 (l7 4 (V3 1 (B6 (a5 3)) (d7 6) (mtV (m1 (Y1 "str") (m2 i9 (a5 6) (mC (.int 0))))) (a0B R)))
 (g8 (n3 (r6 (m2 gNe (a5 4) (D0 a8))) (m4 (m2 i9 (a5 4) (mC (.int 0)))) j0)
 (a36 3 (m4 (i6 a1d (a4 (a5 2) (a4 (a5 3) a8))))))) [ξ (.v (.tuple [ww,.list (ps.map i0)])),ξ (.v (kd K)),ξ (.v (wrd be)),ζ,ζ,ζ]=ξ (.rt (.v (Z8 (bE (a1s K ps) (a2X be))))):=by
 have c1:=a4M (ι:=i0) (f:=λp=>Z8 (E2 K p)) (k:=1) (it:=B6 (m2 i9 (a5 0) (mC (.int 1)))) (tg:=d7 6) (elt:=S3 R) (ρ:=[ξ (.v (.tuple [ww,.list (ps.map i0)])),ξ (.v (kd K)),ξ (.v (wrd be)),ζ,ζ,ζ]) ps rfl (by lia) λp hp=>by
  refine⟨[ξ (.v (.tuple [ww,.list (ps.map i0)])),ξ (.v (kd K)),ξ (.v (wrd be)),ζ,ζ,ζ,ξ (.v (i0 p))],rfl, ?_⟩;unfold S3;rw [(a0f rfl rfl).trans (h p hp)]
  rfl
 have cs:=a7b (K:=K) ps
 obtain⟨ds,hds⟩:∃ds,ds=ps.map λp=>Z8 (E2 K p):=⟨_,rfl⟩
 rw [<-hds] at c1 cs
 have dl:ds.length<=6:=by rw [hds,AX];exact hp
 have dz:∀q∈ds,sz q:=λq hq=>by
  rw [hds] at hq;obtain⟨p,hp,rfl⟩:=Aw.mp hq;exact⟨_,rfl⟩
 have c2:=a88 (ι:=id) (f:=id) (q:=isS) (k:=1) (it:=B6 (a5 3)) (c:=mtV (m1 (Y1 "str") (m2 i9 (a5 6) (mC (.int 0))))) (tg:=d7 6) (elt:=a0B R) (ρ:=[ξ (.v (.tuple [ww,.list (ps.map i0)])),ξ (.v (kd K)),ξ (.v (wrd be)),ξ (.own ds),ζ,ζ]) ds (by rw [List.map_id];rfl) (by lia) λp hp=>by
  refine⟨[ξ (.v (.tuple [ww,.list (ps.map i0)])),ξ (.v (kd K)),ξ (.v (wrd be)),ξ (.own ds),ζ,ζ,ξ (.v p)],rfl,U2 (S2 (dz p hp) rfl),λ_=>rfl⟩
 rw [List.map_id] at c2
 refine(B8 c1).trans ((B8 c2).trans ?_)
 have bz:∀q∈ds.filter isS,sz q:=λq hq=>dz q (List.mem_filter.mp hq).1
 have t1:r6 (m2 gNe (a5 4) (D0 a8)) [ξ (.v (.tuple [ww,.list (ps.map i0)])),ξ (.v (kd K)),ξ (.v (wrd be)),ξ (.own ds),ξ (.own (ds.filter isS)),ζ]=ξ (!(ds.filter isS).isEmpty):=D3 (r:= .bor (ds.filter isS)) rfl (q:= .own []) rfl (b9b bz)
 rcases cs with⟨es,h1,h2,h3⟩|⟨e,r,h1,h2⟩
 ·rw [h3] at t1
  have en:es≠[]:=λz=>by
   rw [z] at h2;rw [hds] at h2;exact hp0 (List.map_eq_nil_iff.mp h2)
  have e1:=b5d be en
  rw [h1]
  show _=ξ (Fl.rt (.v (Z8 (a2X be es))))
  refine(congrArg _ ?_).trans ((b4 t1).trans ?_)
  ·rw [h3];rfl
  show m4 _ [ξ (.v (.tuple [ww,.list (ps.map i0)])),ξ (.v (kd K)),ξ (.v (wrd be)),ξ (.v (.list ds)),ξ (.own []),ζ]=_
  rw [h2]
  exact U7 ((a0f rfl rfl).trans e1)
 ·rw [h2] at t1
  rw [h1]
  refine(congrArg _ ?_).trans (m3 t1 (two (r:= .bor (evE e::r)) (q:= .v (.int 0)) rfl rfl (at0 (.inl rfl))))
  rw [h2];rfl
theorem b4Y(K:NL y8)(w:List Nat){ek ed:M}{ρ:b0}{p:PV}(h1:ρ[1]?=ξ (ξ (.v (kd K))))(hk:ek ρ=ξ (.v (row w)))(hd:ed ρ=ξ (.v p)):a5O 1 ek ed ρ=ξ (.v (((V2 K w).map PR).getD p)):=by
 unfold a5O;rw [hk];show(a85 (.v (row w))).bind _=_;rw [show a85 (.v (row w))=ξ (S w) from rfl,AR,hd];show(ξ p).bind _=_;rw [AR,b56 h1 (a9r PR K),AR,a41]
theorem b1E(m:Mo)(ok:D1 m)(ih:∀p,D1 p->u5 p<u5 m->R [i0 p,kd K]=ξ (.v (Z8 (E2 K p)))):G5 4 (X4 R) [i0 m,kd K]=ξ (.v (Z8 (E2 K m))):=by
 refine C5 (n:=4) ?_;show X4 R [ξ (.v (i0 m)),ξ (.v (kd K)),ζ,ζ,ζ,ζ]=_;unfold X4;cases m with
 |plain rows=>
  ext w
  obtain⟨v,v1,v2,v3,v4,v5⟩:=ok;rw [E2];cases rows with
  |nil=>simp at v3
  |cons r rows=>
   rw [i0,g5 (p:= .str (AD "plain")) rfl];have hr:r.length<=10000:=by have:=v5 r Aa;lia
   have hl:K7 (.v (.tuple ((r::rows).map row)))=ξ (.v (.int (((r::rows).length:Nat):Int))):=by
    show ξ _=_;rw [AX]
   exact m3 rfl (b55 (one (r:= .v (.tuple ((r::rows).map row))) rfl hl) (one (r:= .v (row r)) (two (r:= .v (.tuple ((r::rows).map row))) (q:= .v (.int 0)) rfl rfl (at0 (.inr rfl))) (a3V hr)))
 |named w=>
  rw [i0,g5 (p:= .str (AD "name")) rfl,b4 rfl,E2];have e:=b4Y K w (ek:=m2 i9 (a5 0) (mC (.int 1))) (ed:=u3 (a4 (mC (.str (AD "name"))) (a4 (m2 i9 (a5 0) (mC (.int 1))) a8))) (ρ:=[ξ (.v (.tuple [.str (AD "name"),row w])),ξ (.v (kd K)),ξ (.v (.str (AD "name"))),ζ,ζ,ζ]) (p:= .tuple [.str (AD "name"),row w]) rfl rfl rfl;refine(m3 rfl e).trans ?_;cases V2 K w<;>rfl
 |beside ps=>
  ext w
  have d:u5 (.beside ps)=1+a3N ps:=by rw [u5]
  rw [i0,Z5,g5 (p:= .str (AD "beside")) rfl,b4 rfl,b4 rfl,E2];exact O5 rfl (a6B (R:=R) (K:=K) true (ww:= .str (AD "beside")) (ps:=ps) (by intro e;rw [e] at ok;simp at ok) ok.2.1 λp hp=>ih p (O3 ok.2.2 hp) (by have:=N3 hp;lia))
 |above ps=>
  ext w
  have d:u5 (.above ps)=1+a3N ps:=by rw [u5]
  rw [i0,Z5,g5 (p:= .str (AD "above")) rfl,b4 rfl,b4 rfl,E2];exact O5 rfl (a6B (R:=R) (K:=K) false (ww:= .str (AD "above")) (ps:=ps) (by intro e;rw [e] at ok;simp at ok) ok.2.1 λp hp=>ih p (O3 ok.2.2 hp) (by have:=N3 hp;lia))
 |across k p=>
  ext w
  have e:=ih p ok.2.2 (by rw [u5];lia)
  rw [i0,g5 (p:= .str (AD "across")) rfl,b4 rfl,b4 rfl,b4 rfl,g5 ((a0f rfl rfl).trans e),E2];have t1:=b1T (b:=r6 (m2 D6 (a5 2) (mC (.str (AD "dye"))))) (y:=false) (U2 (S2 (x:=a5 5) (ρ:=[ξ (.v (.tuple [.str (AD "across"),.int (k:Nat),i0 p])),ξ (.v (kd K)),ξ (.v (.str (AD "across"))),ζ,ζ,ξ (.v (Z8 (E2 K p)))]) ⟨_,rfl⟩ rfl)) rfl;cases es:E2 K p with
  |inr q=>
   ext u
   exact a4a t1 rfl
  |inl d=>
   rw [es] at t1;refine(b4 t1).trans ((b4 rfl).trans ((A3 (ρ':=[ξ (.v (.tuple [.str (AD "across"),.int (k:Nat),i0 p])),ξ (.v (kd K)),ξ (.v (.str (AD "across"))),ζ,ζ,ξ (.v (PR (d.1,d.2*k)))]) ?_).trans (b0i (d.1,d.2*k))));rw [a0n rfl];have hc:((d.2:Nat):Int)*(k:Nat)=((d.2*k:Nat):Int):=by rw [Int.natCast_mul]
   exact a01 (p:=PR (d.1,d.2*k)) (b55 (ρ:=[ξ (.v (.tuple [.str (AD "across"),.int (k:Nat),i0 p])),ξ (.v (kd K)),ξ (.v (.str (AD "across"))),ζ,ζ,ξ (.v (PR d))]) rfl (hc▸mlv (a:=m2 i9 (a5 5) (mC (.int 1))) (b:=m2 i9 (a5 0) (mC (.int 1))) (x:=(d.2:Nat)) (k:=(k:Nat)) rfl rfl (by lia)))
 |down k p=>
  ext w
  have e:=ih p ok.2.2 (by rw [u5];lia)
  rw [i0,g5 (p:= .str (AD "down")) rfl,b4 rfl,b4 rfl,b4 rfl,g5 ((a0f rfl rfl).trans e),E2];have t1:=b1T (b:=r6 (m2 D6 (a5 2) (mC (.str (AD "dye"))))) (y:=false) (U2 (S2 (x:=a5 5) (ρ:=[ξ (.v (.tuple [.str (AD "down"),.int (k:Nat),i0 p])),ξ (.v (kd K)),ξ (.v (.str (AD "down"))),ζ,ζ,ξ (.v (Z8 (E2 K p)))]) ⟨_,rfl⟩ rfl)) rfl;cases es:E2 K p with
  |inr q=>
   ext u
   exact a4a t1 rfl
  |inl d=>
   rw [es] at t1;refine(b4 t1).trans ((b4 rfl).trans ((A3 (ρ':=[ξ (.v (.tuple [.str (AD "down"),.int (k:Nat),i0 p])),ξ (.v (kd K)),ξ (.v (.str (AD "down"))),ζ,ζ,ξ (.v (PR (d.1*k,d.2)))]) ?_).trans (b0i (d.1*k,d.2))));rw [a2Z rfl];have hc:((d.1:Nat):Int)*(k:Nat)=((d.1*k:Nat):Int):=by rw [Int.natCast_mul]
   exact a01 (p:=PR (d.1*k,d.2)) (b55 (ρ:=[ξ (.v (.tuple [.str (AD "down"),.int (k:Nat),i0 p])),ξ (.v (kd K)),ξ (.v (.str (AD "down"))),ζ,ζ,ξ (.v (PR d))]) (hc▸mlv (a:=m2 i9 (a5 5) (mC (.int 0))) (b:=m2 i9 (a5 0) (mC (.int 1))) (x:=(d.1:Nat)) (k:=(k:Nat)) rfl rfl (by lia)) rfl)
 |turned w p=>
  ext w
  have e:=ih p ok.2 (by rw [u5];lia)
  rw [i0,g5 (p:= .str (AD "turned")) rfl,b4 rfl,b4 rfl,b4 rfl,g5 ((a0f rfl rfl).trans e),E2];have t1:=b1T (b:=r6 (m2 D6 (a5 2) (mC (.str (AD "dye"))))) (y:=false) (U2 (S2 (x:=a5 5) (ρ:=[ξ (.v (.tuple [.str (AD "turned"),row w,i0 p])),ξ (.v (kd K)),ξ (.v (.str (AD "turned"))),ζ,ζ,ξ (.v (Z8 (E2 K p)))]) ⟨_,rfl⟩ rfl)) rfl;cases es:E2 K p with
  |inr q=>
   ext u
   exact a4a t1 rfl
  |inl d=>
   rw [es] at t1;refine(b4 t1).trans ?_;have t2:r6 (m2 (a97 false) (m2 i9 (a5 0) (mC (.int 1))) (D0 (a4 (mC (.str (AD "turn"))) (a4 (mC (.str (AD "back"))) (a4 (mC (.str (AD "cross"))) (a4 (mC (.str (AD "other"))) a8)))))) [ξ (.v (.tuple [.str (AD "turned"),row w,i0 p])),ξ (.v (kd K)),ξ (.v (.str (AD "turned"))),ζ,ζ,ξ (.v (PR d))]=ξ (a6C w):=D3 (r:= .v (row w)) rfl (q:= .own [.str (AD "turn"),.str (AD "back"),.str (AD "cross"),.str (AD "other")]) rfl (b7J ok.1);show _=ξ (Fl.rt (.v (PR (b0Q w d))));unfold b0Q;cases hv:a6C w with
   |true=>rw [hv] at t2;exact O5 rfl (m3 t2 rfl)
   |false=>rw [hv] at t2;exact O5 rfl ((b4 t2).trans rfl)
 |dyed x y p=>
  ext w
  have e:=ih p ok.2.2 (by rw [u5];lia)
  rw [i0,g5 (p:= .str (AD "dye")) rfl,b4 rfl,b4 rfl,b4 rfl,g5 ((a0f rfl rfl).trans e),E2];have t1:=b1T (b:=r6 (m2 D6 (a5 2) (mC (.str (AD "dye"))))) (y:=true) (U2 (S2 (x:=a5 5) (ρ:=[ξ (.v (.tuple [.str (AD "dye"),row [x],row [y],i0 p])),ξ (.v (kd K)),ξ (.v (.str (AD "dye"))),ζ,ζ,ξ (.v (Z8 (E2 K p)))]) ⟨_,rfl⟩ rfl)) rfl;rw [Bool.or_true] at t1;exact a4a t1 rfl
end
theorem a13(K:NL y8):∀(n:Nat) (m:Mo),D1 m->u5 m<=n->a1Z n [i0 m,kd K]=ξ (.v (Z8 (E2 K m)))
 |0,m,_,h=>by have:=a5I m;lia
 |n+1,m,ok,h=>b1E m ok λp okp hp=>a13 K n p okp (by lia)
def b2E(m:Mo):Prop:=D1 m/\u5 m=1/\(G6 m).length<=13
theorem a6x{rows:List (List Nat)}(h1:okP rows)(h2:(G0 [47] rows).length<=11):b2E (.plain rows):=by
 refine⟨by rw [D1];exact h1,by rw [u5], ?_⟩
 rw [G6];simp only [AW,AU,Aj];lia
theorem b3I{w:List Nat}(h:w∈a3i):b2E (.named w):=by
 have l:∀w∈a3i,w.length<=5:=by decide
 have:=l w h;refine⟨by rw [D1];exact h,by rw [u5],by rw [G6];lia⟩
theorem b5N(R:List (List Nat))(n:Nat):x4 (R.map row) n=true:=a6d λp hp=>by
 obtain⟨l,_,rfl⟩:=Aw.mp hp;cases n<;>rfl
theorem b61(ns:List (List Nat)):gNe (.v (.list (ns.map row))) (.own [])=ξ (.v (.bool (!ns.isEmpty))):=by
 have e:gNe (.v (.list (ns.map row))) (.own [])=if x4 (ns.map row) 49=true/\x4 [] 49=true then ξ (.v (.bool (!PyData.eqv (.list (ns.map row)) (.list [])))) else ζ:=rfl
 rw [e,if_pos ⟨b5N ns 49,rfl⟩];cases ns<;>rfl
theorem b2D{ns:List (List Nat)}(h5:∀w∈ns,w∈a3i)(N:Int):∃m,b2E m/\Y2 [.int N,.list (ns.map row)]=ξ (.v (i0 m)):=by
 have e1:r6 (m2 gNe (a5 1) (D0 a8)) [ξ (.v (.int N)),ξ (.v (.list (ns.map row)))]=ξ (!ns.isEmpty):=D3 (r:= .v (.list (ns.map row))) rfl (q:= .own []) rfl (b61 ns);have e2:m2 (x8 (λ_ j=>0<j) λi j=> .int (i % j)) (m2 (x8 (λ_ j=>0<j) λi j=> .int (i % j)) (m2 m8 (a5 0) (mC (.int 40692))) (mC (.int 999961))) (mC (.int 5)) [ξ (.v (.int N)),ξ (.v (.list (ns.map row)))]=ξ (.v (.int (N*40692 % 999961 % 5))):=md (md (ml rfl (by lia)) rfl (by lia)) rfl (by lia)
 have e3:r6 (m2 a6n (m2 (x8 (λ_ j=>0<j) λi j=> .int (i % j)) (m2 (x8 (λ_ j=>0<j) λi j=> .int (i % j)) (m2 m8 (a5 0) (mC (.int 40692))) (mC (.int 999961))) (mC (.int 5))) (mC (.int 3))) [ξ (.v (.int N)),ξ (.v (.list (ns.map row)))]=ξ (decide (N*40692 % 999961 % 5<3)):=D3 e2 (q:= .v (.int 3)) rfl rfl;have e4:K6 (r6 (m2 gNe (a5 1) (D0 a8))) (r6 (m2 a6n (m2 (x8 (λ_ j=>0<j) λi j=> .int (i % j)) (m2 (x8 (λ_ j=>0<j) λi j=> .int (i % j)) (m2 m8 (a5 0) (mC (.int 40692))) (mC (.int 999961))) (mC (.int 5))) (mC (.int 3)))) [ξ (.v (.int N)),ξ (.v (.list (ns.map row)))]=ξ (!ns.isEmpty && decide (N*40692 % 999961 % 5<3)):=by
  unfold K6;rw [e1,AR,e3];cases ns.isEmpty<;>rfl
 by_cases hc:(!ns.isEmpty && decide (N*40692 % 999961 % 5<3))=true
 ·rw [hc] at e4;have h0:0<ns.length:=by
   cases ns with
   |nil=>cases hc
   |cons a l=>simp
  have hj0:0<=N*39373 % 999953 %(ns.length:Nat):=Int.emod_nonneg _ (by lia)
  have hj1:N*39373 % 999953 %(ns.length:Nat)<(ns.length:Nat):=Int.emod_lt_of_pos _ (by lia)
  obtain⟨t,ht⟩:∃t:Nat,(t:Int)=N*39373 % 999953 %(ns.length:Nat):=⟨(N*39373 % 999953 %(ns.length:Nat)).toNat,by lia⟩
  have htl:t<ns.length:=by lia
  have ew:i9 (.v (.list (ns.map row))) (.v (.int (N*39373 % 999953 %(ns.length:Nat))))=ξ (.v (row ns[t])):=by
   rw [<-ht];exact a3U (by rw [a7Y,Am,Au htl];rfl)
  refine⟨.named ns[t],b3I (h5 _ (List.getElem_mem htl)),C5 (n:=0) ?_⟩;show X2 [ξ (.v (.int N)),ξ (.v (.list (ns.map row)))]=_;unfold X2;refine m3 e4 ?_;rw [i0];have gl:K7 (.v (.list (ns.map row)))=ξ (.v (.int (ns.length:Nat))):=by
   show ξ _=_;rw [AX]
  have ei:=two (g:=i9) (x:=a5 1) (r:= .v (.list (ns.map row))) (ρ:=[ξ (.v (.int N)),ξ (.v (.list (ns.map row)))]) rfl (md (b:=m1 K7 (a5 1)) (k:=(ns.length:Nat)) (md (b:=mC (.int 999953)) (k:=999953) (ml (a:=a5 0) (x:=N) (k:=39373) rfl (by lia)) rfl (by lia)) (one rfl gl) (by lia)) ew
  unfold u3 a4;rw [ei]
  rfl
 ·rw [Bool.eq_false_iff.mpr hc] at e4;obtain⟨rows,h1,h2,h3⟩:=b0A N;refine⟨.plain rows,a6x h1 h2,C5 (n:=0) ?_⟩;show X2 [ξ (.v (.int N)),ξ (.v (.list (ns.map row)))]=_;unfold X2;rw [b4 e4];exact U7 ((D7 rfl).trans h3)
theorem b94{a b:MT}{ρ:b0}{y:Bool}(h1:a ρ=ξ true)(h2:b ρ=ξ y):K6 a b ρ=ξ y:=by
 unfold K6;rw [h1];exact h2
section
variable {K:NL y8}{M:Nat}{ns:List (List Nat)}(h5:∀w∈ns,w∈a3i)
theorem b6y{o:Sz}{ρ:b0}(h8:ρ[8]?=ξ (ξ (.v (Z8 o))))(h3:ρ[3]?=ξ (ξ (.v (.int (M:Nat))))):∃b:Bool,b1G (b5h (m1 (Y1 "str") (m2 i9 (a5 8) (mC (.int 0))))) (m2 b6H (m1 a2S (a5 8)) (a5 3)) ρ=ξ (.v (.bool b)):=by
 have v8:a5 8 ρ=ξ (.v (Z8 o)):=by unfold a5;rw [h8]
 have v3:a5 3 ρ=ξ (.v (.int (M:Nat))):=by unfold a5;rw [h3]
 have e1:=S2 ⟨o,rfl⟩ v8;have e2:b5h (m1 (Y1 "str") (m2 i9 (a5 8) (mC (.int 0)))) ρ=ξ (.v (.bool (!isS (Z8 o)))):=by
  unfold b5h;rw [e1]
  rfl
 unfold b1G;rw [e2];rcases o with d|(w|_|_)
 ·obtain⟨k,hk,k1,k2,k3⟩:=b5k d;exact⟨decide (k<=(M:Nat)),two (one v8 hk) v3 rfl⟩
 ·exact⟨false,rfl⟩
 ·exact⟨false,rfl⟩
 ·exact⟨false,rfl⟩
def C4(K:NL y8)(M:Nat)(ns:List (List Nat))(N:Int)(m:Mo)(q5 q6 q7 q8 q9:Option c6):b0:=[ξ (.v (.int N)),ξ (.v (kd K)),ξ (.v (.list (ns.map row))),ξ (.v (.int (M:Nat))),ξ (.v (i0 m)),q5,q6,q7,q8,q9]
include h5
theorem b1x{N:Int}{m:Mo}(ok:D1 m){d:Nat}(hd:u5 m<=d)(hd2:1<=d/\d<=10)(hlm:(G6 m).length<=380){j:Nat}(hj:j<=3)(q6 q7 q8 q9:Option c6):∃m' q6' q7' q8' q9',D1 m'/\u5 m'<=d+2/\(G6 m').length<=380/\
 J6 (C4 K M ns N m (ξ (.v (.int (j:Nat)))) q6 q7 q8 q9)=ξ (.nx (C4 K M ns N m' (ξ (.v (.int (j:Nat)))) q6' q7' q8' q9')):=by
 obtain⟨A,hA⟩:∃A:Int,A=N*(2*(j:Nat)+39373) % 2147483629:=⟨_,rfl⟩
 obtain⟨l,hl1,el⟩:=b2D h5 (A*7+1)
 obtain⟨r,er,okr,hdr,hlr⟩:=b7E ok hl1.1 A
 have dl:=hl1.2.1
 have ll:=hl1.2.2
 have dr:u5 r<=d+2:=by lia
 have lr:(G6 r).length<=4000:=by lia
 have eq:=a13 K 12 r okr (by lia)
 obtain⟨q,hq⟩:∃q,q=Z8 (E2 K r):=⟨_,rfl⟩
 rw [<-hq] at eq
 have lt:Q1 [i0 r]=ξ (.v (row (G6 r))):=b0f 12 r okr (by lia) lr
 have e1:m2 (x8 (λ_ j=>0<j) λi j=> .int (i % j)) (m2 m8 (a5 0) (m2 p9 (m2 m8 (mC (.int 2)) (a5 5)) (mC (.int 39373)))) (mC (.int 2147483629)) (C4 K M ns N m (ξ (.v (.int (j:Nat)))) q6 q7 q8 q9)=ξ (.v (.int A)):=by
  rw [hA];exact md (mlv rfl (adI (mlv rfl rfl (by lia)) rfl) (by lia)) rfl (by lia)
 have e2:i6 Q0 (a4 (a5 6) (a4 (a5 4) (a4 (i6 Y2 (a4 (m2 p9 (m2 m8 (a5 6) (mC (.int 7))) (mC (.int 1))) (a4 (a5 2) a8))) a8))) (C4 K M ns N m (ξ (.v (.int (j:Nat)))) (ξ (.v (.int A))) q7 q8 q9)=ξ (.v (i0 r)):=(b7X rfl rfl ((a0f (adI (ml rfl (by lia)) rfl) rfl).trans el)).trans er
 have e3:i6 u8 (a4 (a5 7) (a4 (a5 1) a8)) (C4 K M ns N m (ξ (.v (.int (j:Nat)))) (ξ (.v (.int A))) (ξ (.v (i0 r))) q8 q9)=ξ (.v q):=(a0f rfl rfl).trans eq
 obtain⟨b,e4⟩:=b6y (M:=M) (o:=E2 K r) (ρ:=C4 K M ns N m (ξ (.v (.int (j:Nat)))) (ξ (.v (.int A))) (ξ (.v (i0 r))) (ξ (.v q)) q9) (by rw [hq];rfl) rfl
 obtain⟨c,hc0⟩:∃c:Bool,c=(((M:Nat):Int)==0):=⟨_,rfl⟩
 have t1:Z9 (mtV (a5 9)) (r6 (m2 D6 (a5 3) (mC (.int 0)))) (C4 K M ns N m (ξ (.v (.int (j:Nat)))) (ξ (.v (.int A))) (ξ (.v (i0 r))) (ξ (.v q)) (ξ (.v (.bool b))))=ξ (b||c):=by
  have z:r6 (m2 D6 (a5 3) (mC (.int 0))) (C4 K M ns N m (ξ (.v (.int (j:Nat)))) (ξ (.v (.int A))) (ξ (.v (i0 r))) (ξ (.v q)) (ξ (.v (.bool b))))=ξ c:=D3 (r:= .v (.int (M:Nat))) rfl (q:= .v (.int 0)) rfl (by rw [a8g,hc0])
  exact b1T (a:=mtV (a5 9)) (b:=r6 (m2 D6 (a5 3) (mC (.int 0)))) (x:=b) (U2 rfl) z
 have t2:r6 (m2 a6n (m1 K7 (i6 Q1 (a4 (a5 7) a8))) (mC (.int 381))) (C4 K M ns N m (ξ (.v (.int (j:Nat)))) (ξ (.v (.int A))) (ξ (.v (i0 r))) (ξ (.v q)) (ξ (.v (.bool b))))=ξ (decide (((G6 r).length:Int)<381)):=
  D3 (r:= .v (.int ((G6 r).length:Nat))) (one ((D7 rfl).trans lt) (a3V (by lia))) (q:= .v (.int 381)) rfl rfl
 have t3:K6 (Z9 (mtV (a5 9)) (r6 (m2 D6 (a5 3) (mC (.int 0))))) (r6 (m2 a6n (m1 K7 (i6 Q1 (a4 (a5 7) a8))) (mC (.int 381)))) (C4 K M ns N m (ξ (.v (.int (j:Nat)))) (ξ (.v (.int A))) (ξ (.v (i0 r))) (ξ (.v q)) (ξ (.v (.bool b))))=ξ ((b||c)&& decide (((G6 r).length:Int)<381)):=by
  unfold K6;rw [t1,AR,t2];cases b<;>cases c<;>rfl
 have go:∀o,n3 (K6 (Z9 (mtV (a5 9)) (r6 (m2 D6 (a5 3) (mC (.int 0))))) (r6 (m2 a6n (m1 K7 (i6 Q1 (a4 (a5 7) a8))) (mC (.int 381))))) (l7 4 (a5 7)) j0 (C4 K M ns N m (ξ (.v (.int (j:Nat)))) (ξ (.v (.int A))) (ξ (.v (i0 r))) (ξ (.v q)) (ξ (.v (.bool b))))=o->J6 (C4 K M ns N m (ξ (.v (.int (j:Nat)))) q6 q7 q8 q9)=o:=λo h=>by
  unfold J6;refine(g5 e1).trans ?_;refine(g5 e2).trans ?_;refine(g5 e3).trans ?_;refine(g5 e4).trans ?_;exact h
 by_cases hc:((b||c)&& decide (((G6 r).length:Int)<381))=true
 ·rw [hc] at t3
  rw [Bool.and_eq_true,decide_eq_true_eq] at hc
  exact⟨r,_,_,_,_,okr,dr,by lia,go _ ((a0n t3).trans (a01 rfl))⟩
 ·rw [Bool.eq_false_iff.mpr hc] at t3
  exact⟨m,_,_,_,_,ok,by lia,hlm,go _ ((a2Z t3).trans rfl)⟩
theorem a99(N:Int):∃m,D1 m/\u5 m<=8/\D8 [.int N,kd K,.list (ns.map row),.int (M:Nat)]=ξ (.v (i0 m)):=by
 obtain⟨l0,hl0,el⟩:=b2D h5 N;have eq:=a13 K 12 l0 hl0.1 (by have:=hl0.2.1;lia)
 obtain⟨rows,p1,p2,p3⟩:=b0A N;obtain⟨l,hl',es⟩:∃l,b2E l/\∀n,g8 (n3 (K6 (r6 (m2 (gI λi j=> .bool (decide (j<i))) (a5 3) (mC (.int 0)))) (mtV (m1 (Y1 "str") (m2 i9 (i6 u8 (a4 (a5 4) (a4 (a5 1) a8))) (mC (.int 0)))))) (l7 4 (i6 T9 (a4 (a5 0) a8))) j0) n (C4 K M ns N l0 ζ ζ ζ ζ ζ)=n (C4 K M ns N l ζ ζ ζ ζ ζ):=by
  have g1:r6 (m2 (gI λi j=> .bool (decide (j<i))) (a5 3) (mC (.int 0))) (C4 K M ns N l0 ζ ζ ζ ζ ζ)=ξ (decide ((0:Int)<(M:Nat))):=D3 (r:= .v (.int (M:Nat))) rfl (q:= .v (.int 0)) rfl rfl;have g2:mtV (m1 (Y1 "str") (m2 i9 (i6 u8 (a4 (a5 4) (a4 (a5 1) a8))) (mC (.int 0)))) (C4 K M ns N l0 ζ ζ ζ ζ ζ)=ξ (isS (Z8 (E2 K l0))):=U2 (S2 ⟨_,rfl⟩ ((a0f rfl rfl).trans eq));have g3:K6 (r6 (m2 (gI λi j=> .bool (decide (j<i))) (a5 3) (mC (.int 0)))) (mtV (m1 (Y1 "str") (m2 i9 (i6 u8 (a4 (a5 4) (a4 (a5 1) a8))) (mC (.int 0))))) (C4 K M ns N l0 ζ ζ ζ ζ ζ)=ξ (decide ((0:Int)<(M:Nat))&& isS (Z8 (E2 K l0))):=by
   unfold K6;rw [g1,AR,g2];cases decide ((0:Int)<(M:Nat))<;>rfl
  cases hb:(decide ((0:Int)<(M:Nat))&& isS (Z8 (E2 K l0))) with
  |true=>
   rw [hb] at g3;refine⟨.plain rows,a6x p1 p2,λn=>(A3 ?_)⟩;rw [a0n g3];exact a01 ((D7 rfl).trans p3)
  |false=>
   rw [hb] at g3;exact⟨l0,hl0,λn=>b4 g3⟩
 obtain⟨n,hn1,hn⟩:∃n:Nat,n<=3/\((n:Nat):Int)=N*69621 % 1000003 % 4:=⟨(N*69621 % 1000003 % 4).toNat,by lia,by lia⟩
 have e4:B7 (a4 (m2 (x8 (λ_ j=>0<j) λi j=> .int (i % j)) (m2 (x8 (λ_ j=>0<j) λi j=> .int (i % j)) (m2 m8 (a5 0) (mC (.int 69621))) (mC (.int 1000003))) (mC (.int 4))) a8) (C4 K M ns N l ζ ζ ζ ζ ζ)=ξ ((Ab n).map λk=> .int (k:Nat)):=by
  refine J8 ?_ (by lia)
  rw [hn];exact md (md (ml rfl (by lia)) rfl (by lia)) rfl (by lia)
 have l1:=hl'.2.1;have l2:=hl'.2.2;obtain⟨ρ',e5,m,q5,q6,q7,q8,q9,h1,h3,h4,rfl⟩:=a2r (body:=J6) (tg:=d7 5) (λj ρ=>∃(m:Mo) (q5 q6 q7 q8 q9:Option c6),D1 m/\u5 m<=1+2*j/\(G6 m).length<=380/\ρ=C4 K M ns N m q5 q6 q7 q8 q9)
  (ps:=(Ab n).map λk=> .int (k:Nat)) (ρ:=C4 K M ns N l ζ ζ ζ ζ ζ)
  (by
   rintro j p hp ρ ⟨m,q5,q6,q7,q8,q9,h1,h3,h4,rfl⟩;obtain⟨rfl,hj⟩:=a6W hp;obtain⟨m',q6',q7',q8',q9',k1,k3,k4,eb⟩:=b1x (K:=K) (M:=M) h5 (N:=N) h1 h3 (by lia) h4 (j:=j) (by lia) q6 q7 q8 q9
   exact a5R (ρ1:=C4 K M ns N m (ξ (.v (.int (j:Nat)))) q6 q7 q8 q9) rfl eb ⟨m',_,_,_,_,_,k1,by lia,k4,rfl⟩)
  ⟨l,_,_,_,_,_,hl'.1,by lia,by lia,rfl⟩
 rw [AX,BA] at h3;refine⟨m,h1,by lia,C5 (n:=6) ?_⟩
 show a1H [ξ (.v (.int N)),ξ (.v (kd K)),ξ (.v (.list (ns.map row))),ξ (.v (.int (M:Nat))),ζ,ζ,ζ,ζ,ζ,ζ]=_;unfold a1H;refine(g5 ((a0f rfl rfl).trans el)).trans ?_;refine(es _).trans ?_;refine(a1b e4 e5).trans ?_
 rfl
end
theorem b5p(c:Int){k:Nat}(hk:k<=100):∃N:Int,E6 [.int c,.int (k:Nat)]=ξ (.v (.int N)):=by
 refine⟨c % 10 ^ 18*(2*(k:Int)+3)+(k:Int)*k, ?_⟩;have m1:m8 (.v (.int (k:Nat))) (.v (.int (k:Nat)))=ξ (.v (.int ((k:Int)*k))):=b2x (by lia)
 unfold E6 a3I;simp! [b4P,b2x,b4V,b4W,b87,b88,b6V,b89,b5i,b9J,b5O,b7x,AR,AS,Av,List.replicate_zero,Ah,Int.reducePow,Int.reduceToNat,m1]
 try rfl
theorem b0k:M7 []=ξ (.own (a3i.map row)):=by
 refine C5 (n:=0) ?_
 rfl
theorem b6m{ns:List Int}:∃c:Int,R8 [.list (ns.map .int),.int 0]=ξ (.v (.int c)):=by
 cases ns with
 |nil=>exact⟨0,C5 (n:=0) rfl⟩
 |cons a ns=>
  refine⟨a,C5 (n:=0) ?_⟩;have gl:K7 (.v (.list ((a::ns).map .int)))=ξ (.v (.int ((a::ns).length:Nat))):=by rw [a2t,AX]
  have t:r6 (m2 a6n (a5 1) (m1 K7 (a5 0))) [ξ (.v (.list ((a::ns).map .int))),ξ (.v (.int 0))]=ξ true:=by
   refine D3 (r:= .v (.int 0)) (q:= .v (.int ((a::ns).length:Nat))) rfl (one rfl gl) ?_;show ξ (c6.v (.bool (decide ((0:Int)<((a::ns).length:Nat)))))=_;rw [decide_eq_true (by rw [AU];lia)]
  exact m3 t (two rfl rfl (a3U (b8p _ _)))
theorem b2G{i:Nat}{m:M}{ρ:b0}{kvs:List (List n5×PV)}{r:c6}(h:ρ[i]?=ξ (ξ (.ow (.txt kvs))))(e:m (ρ.set i (ξ (.v (tv kvs))))=ξ r)(c:r.noK=true):a0C i m ρ=ξ r:=by
 unfold a0C;rw [h];show(m _).bind _=_;rw [e,AR,if_pos c]
theorem a73{g:RF}{i:Nat}{m:M}{ρ:b0}{kvs:List (List n5×PV)}{p:PV}{r:c6}(h:ρ[i]?=ξ (ξ (.ow (.txt kvs))))(hm:m ρ=ξ (.v p))(e:g [p,tv kvs]=ξ r)(c:r.noK=true):S5 g i m ρ=ξ r:=by
 rw [b0g g i m ρ kvs h,hm];show(g [p,tv kvs]).bind _=_;rw [e,AR,if_pos c]
mutual
theorem a3q:∀m:Mo,nk (i0 m)=true
 | .plain rows=>by
   rw [i0];show(nk (.tuple (rows.map row))&& true)=true;rw [Bool.and_true];show nkL (rows.map row)=true
   induction rows with
   |nil=>rfl
   |cons r rows ih=>rw [AS,nkL,ih];rfl
 | .named w=>by rw [i0];rfl
 | .beside ps=>by rw [i0];show(nkL (a2n ps)&& true)=true;rw [a9c ps];rfl
 | .above ps=>by rw [i0];show(nkL (a2n ps)&& true)=true;rw [a9c ps];rfl
 | .across k p=>by rw [i0];show(nk (i0 p)&& true)=true;rw [a3q p];rfl
 | .down k p=>by rw [i0];show(nk (i0 p)&& true)=true;rw [a3q p];rfl
 | .turned w p=>by rw [i0];show(nk (i0 p)&& true)=true;rw [a3q p];rfl
 | .dyed a b p=>by rw [i0];show(nk (i0 p)&& true)=true;rw [a3q p];rfl
theorem a9c:∀ps:List Mo,nkL (a2n ps)=true
 |[]=>by rw [a2n];rfl
 |p::ps=>by rw [a2n,nkL,a3q p,a9c ps];rfl
end
inductive Rw where
 |lt (w:List Nat) (m:Mo)|ag (k:Nat) (w:List Nat) (m:Mo)
def Rw.nm:Rw->List Nat
 | .lt w _=>w
 | .ag _ w _=>w
def Rw.mo:Rw->Mo
 | .lt _ m=>m
 | .ag _ _ m=>m
def Rw.cnt:Rw->Nat
 | .lt _ _=>1
 | .ag k _ _=>k
def Rw.isA:Rw->Bool
 | .lt _ _=>false
 | .ag _ _ _=>true
def u0(f:Mo->PV):Rw->PV
 | .lt w m=> .tuple [.str (AD "let"),row w,f m]
 | .ag k w m=> .tuple [.str (AD "again"),.int (k:Nat),row w,f m]
structure OkR(r:Rw):Prop where
 ok:D1 r.mo
 dp:u5 r.mo<=8
 a3i:r.nm∈a3i
 c1:1<=r.cnt
 c8:r.cnt<=8
def K5(K:NL y8):Prop:=∀w∈K.map (·.1),w∈a3i
theorem K5.put{K:NL y8}{w:List Nat}{d:y8}(h:K5 K)(hw:w∈LW.a3i):K5 (a1x K w d):=λv hv=>by
 rcases b30 hv with rfl|hv
 ·exact hw
 ·exact h v hv
theorem b3v{K:NL y8}(hl:K.length<=100):P9 (.v (kd K))=ξ (.own ((K.map (·.1)).map row)):=by
 unfold P9;rw [b9V (a9r PR K),AR,if_pos (by rw [b1C,sizeLine_eq];lia),b2B]
theorem b7Y{g:RF}{ma:MA}{ρ:b0}{ps:List PV}(h:ma ρ=ξ ps):i6 g ma ρ=g ps:=by
 unfold i6;rw [h]
 rfl
theorem k7{x:M}{r:MA}{ρ:b0}{q:c6}{p:PV}{ps:List PV}(h:x ρ=ξ q)(hq:q.toVal=ξ p)(hr:r ρ=ξ ps):a4 x r ρ=ξ (p::ps):=by
 unfold a4;rw [h];show(q.toVal).bind _=_;rw [hq,AR,hr]
 rfl
theorem b4I{j:Int}(h0:0<=j)(h1:j<5):∃w∈a3i,i9 (.own (a3i.map row)) (.v (.int j))=ξ (.v (row w)):=by
 have:j=0\/j=1\/j=2\/j=3\/j=4:=by lia
 rcases this with h|h|h|h|h<;>rw [h]
 ·exact⟨_,by decide,rfl⟩
 ·exact⟨[115,116,97,121],by decide,rfl⟩
 ·exact⟨[108,101,116],by decide,rfl⟩
 ·exact⟨[107,110,111,116,115],by decide,rfl⟩
 ·exact⟨[122,122],by decide,rfl⟩
theorem b1W{α:Type}(f:α->PV){A:NL α}(hl:A.length<=400){i:Nat}{w:List Nat}{a:α}{ek ev:M}{ρ:b0}(h:ρ[i]?=ξ (ξ (.ow (.txt (dN f A)))))(h1:ek ρ=ξ (.v (row w)))(h2:ev ρ=ξ (.v (f a))):a5l i ek ev ρ=ξ (.nx (ρ.set i (ξ (.ow (.txt (dN f (a1x A w a))))))):=by
 unfold a5l;rw [h1,h2];show b2Y i ρ (f a) (S w)=_;unfold b2Y;rw [h];show(if(dN f A).length<AM then ξ (Fl.nx _) else ζ)=_
 rw [if_pos (by rw [b1C,sizeLine_eq];lia),<-b9D]
abbrev prS(ns:List Int)(K:NL y8)(rs:List Rw)(q3 q4 q5 q6 q7 q8 q9 q10:Option c6):b0:=[ξ (.v (.list (ns.map .int))),ξ (.own (rs.map (u0 i0))),ξ (.ow (.txt (dN PR K))),q3,q4,q5,q6,q7,q8,q9,q10]
theorem b6Z(N:Int)(ρ:b0)(h:ρ[4]?=ξ (ξ (.v (.int N)))):∃M:Nat,m2 i9 (D0 (a4 (mC (.int 24)) (a4 (mC (.int 24)) (a4 (mC (.int 24)) (a4 (mC (.int 24)) (a4 (mC (.int 24)) (a4 (mC (.int 24)) (a4 (mC (.int 24)) (a4 (mC (.int 0)) a8))))))))) (m2 (x8 (λ_ j=>0<j) λi j=> .int (i % j)) (a5 4) (mC (.int 8))) ρ=ξ (.v (.int (M:Nat))):=by
 have v:a5 4 ρ=ξ (.v (.int N)):=by unfold a5;rw [h]
 have e1:=md (b:=mC (.int 8)) (k:=8) v rfl (by lia)
 obtain⟨j,hj⟩:∃j:Int,j=N % 8:=⟨_,rfl⟩;rw [<-hj] at e1;have:j=0\/j=1\/j=2\/j=3\/j=4\/j=5\/j=6\/j=7:=by lia
 have e2:∃M:Nat,i9 (.own [.int 24,.int 24,.int 24,.int 24,.int 24,.int 24,.int 24,.int 0]) (.v (.int j))=ξ (.v (.int (M:Nat))):=by
  rcases this with h|h|h|h|h|h|h|h<;>rw [h]
  ·exact⟨24,rfl⟩
  ·exact⟨24,rfl⟩
  ·exact⟨24,rfl⟩
  ·exact⟨24,rfl⟩
  ·exact⟨24,rfl⟩
  ·exact⟨24,rfl⟩
  ·exact⟨24,rfl⟩
  ·exact⟨0,rfl⟩
 obtain⟨M,e2⟩:=e2;exact⟨M,two (r:= .own [.int 24,.int 24,.int 24,.int 24,.int 24,.int 24,.int 24,.int 0]) rfl e1 e2⟩
theorem b6W(N:Int)(ρ:b0)(h:ρ[4]?=ξ (ξ (.v (.int N)))):∃k:Nat,1<=k/\k<=8/\m2 p9 (mC (.int 1)) (m2 (x8 (λ_ j=>0<j) λi j=> .int (i % j)) (m2 (x8 (λ_ j=>0<j) λi j=> .int (i % j)) (m2 m8 (a5 4) (mC (.int 742938285))) (mC (.int 999959))) (m2 i9 (D0 (a4 (mC (.int 2)) (a4 (mC (.int 8)) a8))) (m2 (x8 (λ_ j=>0<j) λi j=> .int (i % j)) (m2 (x8 a5z λi j=> .int (i / j)) (a5 4) (mC (.int 8))) (mC (.int 2))))) ρ=ξ (.v (.int (k:Nat))):=by
 have v:a5 4 ρ=ξ (.v (.int N)):=by unfold a5;rw [h]
 have e1:=md (b:=mC (.int 2)) (k:=2) (dv (b:=mC (.int 8)) (k:=8) v rfl (by lia)) rfl (by lia)
 obtain⟨j,hj⟩:∃j:Int,j=N / 8 % 2:=⟨_,rfl⟩;rw [<-hj] at e1;have e2:∃q:Int,(q=2\/q=8)/\i9 (.own [.int 2,.int 8]) (.v (.int j))=ξ (.v (.int q)):=by
  have:j=0\/j=1:=by lia
  rcases this with h|h<;>rw [h]
  ·exact⟨2,.inl rfl,rfl⟩
  ·exact⟨8,.inr rfl,rfl⟩
 obtain⟨q,hq,e2⟩:=e2;have e3:=md (b:=m2 i9 (D0 (a4 (mC (.int 2)) (a4 (mC (.int 8)) a8))) (m2 (x8 (λ_ j=>0<j) λi j=> .int (i % j)) (m2 (x8 a5z λi j=> .int (i / j)) (a5 4) (mC (.int 8))) (mC (.int 2)))) (k:=q) (md (b:=mC (.int 999959)) (k:=999959) (ml (k:=742938285) v (by lia)) rfl (by lia)) (two (r:= .own [.int 2,.int 8]) rfl e1 e2) (by lia)
 have b1:0<=N*742938285 % 999959 % q:=Int.emod_nonneg _ (by lia)
 have b2:N*742938285 % 999959 % q<q:=Int.emod_lt_of_pos _ (by lia)
 refine⟨(1+N*742938285 % 999959 % q).toNat,by lia,by lia, ?_⟩
 rw [show(((1+N*742938285 % 999959 % q).toNat:Nat):Int)=1+N*742938285 % 999959 % q by lia]
 exact adI rfl e3
theorem b3Y{ns:List Int}{at_:Nat}(ha:at_<ns.length)(ha2:at_<=63){K:NL y8}(hK:K5 K)(hl:K.length<=60){rs:List Rw}(hr:rs.length<=100)(q4 q5 q6 q7 q8 q9 q10:Option c6):∃r K' q4' q5' q6' q7' q8' q9' q10',OkR r/\K5 K'/\K'.length<=K.length+1/\
 L5 (prS ns K rs (ξ (.v (.int (at_:Nat)))) q4 q5 q6 q7 q8 q9 q10)=ξ (.nx (prS ns K' (rs++[r]) (ξ (.v (.int (at_:Nat)))) q4' q5' q6' q7' q8' q9' q10')):=by
 obtain⟨c,hc⟩:=b8Y ha
 obtain⟨N,eN⟩:=b5p c (k:=at_) (by lia)
 have e1:i6 E6 (a4 (m2 i9 (a5 0) (a5 3)) (a4 (a5 3) a8)) (prS ns K rs (ξ (.v (.int (at_:Nat)))) q4 q5 q6 q7 q8 q9 q10)=ξ (.v (.int N)):=(a0f (two rfl rfl hc) rfl).trans eN
 obtain⟨w,hw,ew⟩:=b4I (j:=N*950706376 % 999917 % 5) (by lia) (by lia)
 have e2:m2 i9 (λ_=>M7 []) (m2 (x8 (λ_ j=>0<j) λi j=> .int (i % j)) (m2 (x8 (λ_ j=>0<j) λi j=> .int (i % j)) (m2 m8 (a5 4) (mC (.int 950706376))) (mC (.int 999917))) (mC (.int 5))) (prS ns K rs (ξ (.v (.int (at_:Nat)))) (ξ (.v (.int N))) q5 q6 q7 q8 q9 q10)=ξ (.v (row w)):=two (r:= .own (a3i.map row)) b0k (md (md (ml rfl (by lia)) rfl (by lia)) rfl (by lia)) ew
 obtain⟨M,e3⟩:=b6Z N (prS ns K rs (ξ (.v (.int (at_:Nat)))) (ξ (.v (.int N))) (ξ (.v (row w))) q6 q7 q8 q9 q10) rfl
 obtain⟨L,hL,e4⟩:∃L:List (List Nat),(∀v∈L,v∈a3i)/\∀n,(g8 (l7 7 (m1 P9 (a5 2))) (g8 (n3 (r6 (m2 D6 (m2 (x8 (λ_ j=>0<j) λi j=> .int (i % j)) (a5 4) (mC (.int 61))) (mC (.int 1)))) (l7 7 (λ_=>M7 [])) j0) n)) (prS ns K rs (ξ (.v (.int (at_:Nat)))) (ξ (.v (.int N))) (ξ (.v (row w))) (ξ (.v (.int (M:Nat)))) q7 q8 q9 q10)=n (prS ns K rs (ξ (.v (.int (at_:Nat)))) (ξ (.v (.int N))) (ξ (.v (row w))) (ξ (.v (.int (M:Nat)))) (ξ (.own (L.map row))) q8 q9 q10):=by
  have el:m1 P9 (a5 2) (prS ns K rs (ξ (.v (.int (at_:Nat)))) (ξ (.v (.int N))) (ξ (.v (row w))) (ξ (.v (.int (M:Nat)))) q7 q8 q9 q10)=ξ (.own ((K.map (·.1)).map row)):=by
   refine one (r:= .bo (.txt (dN PR K))) rfl ?_;show(if(dN PR K).length<=AM then ξ (c6.own ((dN PR K).map λkv=>k1 kv.1)) else ζ)=_
   rw [if_pos (by rw [b1C,sizeLine_eq];lia),b2B]
  have hq:r6 (m2 D6 (m2 (x8 (λ_ j=>0<j) λi j=> .int (i % j)) (a5 4) (mC (.int 61))) (mC (.int 1))) (prS ns K rs (ξ (.v (.int (at_:Nat)))) (ξ (.v (.int N))) (ξ (.v (row w))) (ξ (.v (.int (M:Nat)))) (ξ (.own ((K.map (·.1)).map row))) q8 q9 q10)=ξ (N % 61==1):=D3 (r:= .v (.int (N % 61))) (md rfl rfl (by lia)) (q:= .v (.int 1)) rfl (a8g _ _)
  cases hb:(N % 61==1) with
  |true=>
   rw [hb] at hq;refine⟨a3i,λ_ h=>h,λn=>(B8 el).trans (A3 ?_)⟩;refine(a0n hq).trans ?_;unfold l7;rw [b0k]
   rfl
  |false=>
   rw [hb] at hq;exact⟨K.map (λ(x:List Nat×y8)=>x.1),hK,λn=>(B8 el).trans (b4 hq)⟩
 obtain⟨m,ok,dp,eg⟩:=a99 (K:=K) (M:=M) hL N
 have e5:a36 7 (l7 8 (a0C 2 (i6 D8 (a4 (a5 4) (a4 (a5 2) (a4 (a5 7) (a4 (a5 6) a8))))))) (prS ns K rs (ξ (.v (.int (at_:Nat)))) (ξ (.v (.int N))) (ξ (.v (row w))) (ξ (.v (.int (M:Nat)))) (ξ (.own (L.map row))) q8 q9 q10)=ξ (.nx (prS ns K rs (ξ (.v (.int (at_:Nat)))) (ξ (.v (.int N))) (ξ (.v (row w))) (ξ (.v (.int (M:Nat)))) (ξ (.v (.list (L.map row)))) (ξ (.v (i0 m))) q9 q10)):=by
  show l7 8 _ (prS ns K rs (ξ (.v (.int (at_:Nat)))) (ξ (.v (.int N))) (ξ (.v (row w))) (ξ (.v (.int (M:Nat)))) (ξ (.v (.list (L.map row)))) q8 q9 q10)=_;rw [a01 (b2G (r:= .v (i0 m)) rfl ((b7Y (k7 (q:= .v (.int N)) rfl rfl (k7 (q:= .v (kd K)) rfl rfl (k7 (q:= .v (.list (L.map row))) rfl rfl (k7 (q:= .v (.int (M:Nat))) rfl rfl rfl))))).trans eg) (a3q m))]
  rfl
 obtain⟨r,q9',okr,hmo,hnm,e6⟩:∃r q9',OkR r/\r.mo=m/\r.nm=w/\n3 (K6 (r6 (m2 D6 (m2 (x8 (λ_ j=>0<j) λi j=> .int (i % j)) (a5 4) (mC (.int 4))) (mC (.int 1)))) (Z9 (r6 (a4N false 2 (a5 5))) (r6 (m2 D6 (m2 (x8 (λ_ j=>0<j) λi j=> .int (i % j)) (a5 4) (mC (.int 11))) (mC (.int 1)))))) (g8 (l7 9 (m2 p9 (mC (.int 1)) (m2 (x8 (λ_ j=>0<j) λi j=> .int (i % j)) (m2 (x8 (λ_ j=>0<j) λi j=> .int (i % j)) (m2 m8 (a5 4) (mC (.int 742938285))) (mC (.int 999959))) (m2 i9 (D0 (a4 (mC (.int 2)) (a4 (mC (.int 8)) a8))) (m2 (x8 (λ_ j=>0<j) λi j=> .int (i % j)) (m2 (x8 a5z λi j=> .int (i / j)) (a5 4) (mC (.int 8))) (mC (.int 2)))))))
  (L8 1 (u3 (a4 (mC (.str (AD "again"))) (a4 (a5 9) (a4 (a5 5) (a4 (a5 8) a8))))))) (L8 1 (u3 (a4 (mC (.str (AD "let"))) (a4 (a5 5) (a4 (a5 8) a8))))) (prS ns K rs (ξ (.v (.int (at_:Nat)))) (ξ (.v (.int N))) (ξ (.v (row w))) (ξ (.v (.int (M:Nat)))) (ξ (.v (.list (L.map row)))) (ξ (.v (i0 m))) q9 q10)=ξ (.nx (prS ns K (rs++[r]) (ξ (.v (.int (at_:Nat)))) (ξ (.v (.int N))) (ξ (.v (row w))) (ξ (.v (.int (M:Nat)))) (ξ (.v (.list (L.map row)))) (ξ (.v (i0 m))) q9' q10)):=by
  have h1:r6 (m2 D6 (m2 (x8 (λ_ j=>0<j) λi j=> .int (i % j)) (a5 4) (mC (.int 4))) (mC (.int 1))) (prS ns K rs (ξ (.v (.int (at_:Nat)))) (ξ (.v (.int N))) (ξ (.v (row w))) (ξ (.v (.int (M:Nat)))) (ξ (.v (.list (L.map row)))) (ξ (.v (i0 m))) q9 q10)=ξ (N % 4==1):=D3 (r:= .v (.int (N % 4))) (md rfl rfl (by lia)) (q:= .v (.int 1)) rfl (a8g _ _)
  have h2:r6 (m2 D6 (m2 (x8 (λ_ j=>0<j) λi j=> .int (i % j)) (a5 4) (mC (.int 11))) (mC (.int 1))) (prS ns K rs (ξ (.v (.int (at_:Nat)))) (ξ (.v (.int N))) (ξ (.v (row w))) (ξ (.v (.int (M:Nat)))) (ξ (.v (.list (L.map row)))) (ξ (.v (i0 m))) q9 q10)=ξ (N % 11==1):=D3 (r:= .v (.int (N % 11))) (md rfl rfl (by lia)) (q:= .v (.int 1)) rfl (a8g _ _)
  have h3:r6 (a4N false 2 (a5 5)) (prS ns K rs (ξ (.v (.int (at_:Nat)))) (ξ (.v (.int N))) (ξ (.v (row w))) (ξ (.v (.int (M:Nat)))) (ξ (.v (.list (L.map row)))) (ξ (.v (i0 m))) q9 q10)=ξ (U9 (dN PR K) [.inr (S w)]).isSome:=rfl
  have h4:=b1T h3 h2
  have h5:∃b:Bool,K6 (r6 (m2 D6 (m2 (x8 (λ_ j=>0<j) λi j=> .int (i % j)) (a5 4) (mC (.int 4))) (mC (.int 1)))) (Z9 (r6 (a4N false 2 (a5 5))) (r6 (m2 D6 (m2 (x8 (λ_ j=>0<j) λi j=> .int (i % j)) (a5 4) (mC (.int 11))) (mC (.int 1))))) (prS ns K rs (ξ (.v (.int (at_:Nat)))) (ξ (.v (.int N))) (ξ (.v (row w))) (ξ (.v (.int (M:Nat)))) (ξ (.v (.list (L.map row)))) (ξ (.v (i0 m))) q9 q10)=ξ b:=by
   unfold K6;rw [h1,AR,h4];cases(N % 4==1)
   ·exact⟨_,rfl⟩
   ·exact⟨_,rfl⟩
  obtain⟨b,hb⟩:=h5
  cases b with
  |true=>
   obtain⟨k,k1,k8,ek⟩:=b6W N (prS ns K rs (ξ (.v (.int (at_:Nat)))) (ξ (.v (.int N))) (ξ (.v (row w))) (ξ (.v (.int (M:Nat)))) (ξ (.v (.list (L.map row)))) (ξ (.v (i0 m))) q9 q10) rfl
   refine⟨.ag k w m,ξ (.v (.int (k:Nat))),⟨ok,dp,hw,k1,k8⟩,rfl,rfl,(a0n hb).trans ((g5 ek).trans ?_)⟩
   rw [B5 (r:= .v (.tuple [.str (AD "again"),.int (k:Nat),row w,i0 m])) (p:= .tuple [.str (AD "again"),.int (k:Nat),row w,i0 m]) (ps:=rs.map (u0 i0)) rfl rfl rfl (by rw [AX];lia)]
   unfold prS
   rw [Ao]
   rfl
  |false=>
   refine⟨.lt w m,q9,⟨ok,dp,hw,AQ _,by show 1<=8;lia⟩,rfl,rfl,(a2Z hb).trans ?_⟩
   rw [B5 (r:= .v (.tuple [.str (AD "let"),row w,i0 m])) (p:= .tuple [.str (AD "let"),row w,i0 m]) (ps:=rs.map (u0 i0)) rfl rfl rfl (by rw [AX];lia)]
   unfold prS
   rw [Ao]
   rfl
 have eq:u8 [i0 m,kd K]=ξ (.v (Z8 (E2 K m))):=a13 K 12 m ok (by lia)
 have nq:(c6.v (Z8 (E2 K m))).noK=true:=by
  rcases E2 K m with d|(w|_|_)<;>rfl
 have e7:S5 u8 2 (a5 8) (prS ns K (rs++[r]) (ξ (.v (.int (at_:Nat)))) (ξ (.v (.int N))) (ξ (.v (row w))) (ξ (.v (.int (M:Nat)))) (ξ (.v (.list (L.map row)))) (ξ (.v (i0 m))) q9' q10)=ξ (.v (Z8 (E2 K m))):=a73 rfl rfl eq nq
 have t7:=U2 (S2 (x:=a5 10) (ρ:=prS ns K (rs++[r]) (ξ (.v (.int (at_:Nat)))) (ξ (.v (.int N))) (ξ (.v (row w))) (ξ (.v (.int (M:Nat)))) (ξ (.v (.list (L.map row)))) (ξ (.v (i0 m))) q9' (ξ (.v (Z8 (E2 K m))))) ⟨E2 K m,rfl⟩ rfl)
 have go:∀o,(n3 (a0o (mtV (m1 (Y1 "str") (m2 i9 (a5 10) (mC (.int 0)))))) (a5l 2 (a5 5) (a5 10)) j0) (prS ns K (rs++[r]) (ξ (.v (.int (at_:Nat)))) (ξ (.v (.int N))) (ξ (.v (row w))) (ξ (.v (.int (M:Nat)))) (ξ (.v (.list (L.map row)))) (ξ (.v (i0 m))) q9' (ξ (.v (Z8 (E2 K m)))))=o->L5 (prS ns K rs (ξ (.v (.int (at_:Nat)))) q4 q5 q6 q7 q8 q9 q10)=o:=λo h=>by
  unfold L5;refine(g5 e1).trans ((g5 e2).trans ((g5 e3).trans ?_));refine(e4 _).trans ?_;refine(A3 e5).trans ((A3 e6).trans ((g5 e7).trans ?_));exact h
 cases es:E2 K m with
 |inr e=>
  rw [es] at t7 go
  have t8:isS (Z8 (.inr e))=true:=by cases e<;>rfl
  rw [t8] at t7
  exact⟨r,K,_,_,_,_,_,_,_,okr,hK,by lia,go _ ((a2Z (a7G t7)).trans rfl)⟩
 |inl d=>
  rw [es] at t7 go
  have t9:a0o (mtV (m1 (Y1 "str") (m2 i9 (a5 10) (mC (.int 0))))) (prS ns K (rs++[r]) (ξ (.v (.int (at_:Nat)))) (ξ (.v (.int N))) (ξ (.v (row w))) (ξ (.v (.int (M:Nat)))) (ξ (.v (.list (L.map row)))) (ξ (.v (i0 m))) q9' (ξ (.v (Z8 (.inl d)))))=ξ true:=by
   unfold a0o;rw [t7]
   rfl
  refine⟨r,a1x K w d,ξ (.v (.int N)),ξ (.v (row w)),ξ (.v (.int (M:Nat))),ξ (.v (.list (L.map row))),ξ (.v (i0 m)),q9',ξ (.v (Z8 (.inl d))),okr,hK.put hw,a4c K w d,go _ ((a0n t9).trans ?_)⟩
  rw [b1W PR (A:=K) (w:=w) (a:=d) (by lia) rfl rfl rfl]
  rfl
theorem b7w{ns:List Int}(hn:ns.length<=63):∃(rs:List Rw) (m:Mo),(∀r∈rs,OkR r)/\D1 m/\u5 m<=8/\rs.length<=39/\a1e [.list (ns.map .int)]=ξ (.own (rs.map (u0 i0)++[.tuple [.str (AD "knot"),i0 m]])):=by
 obtain⟨E,hE⟩:∃E:Int,E=(if(40:Int)<(ns.length:Int) then(40:Int) else(ns.length:Int)):=⟨_,rfl⟩
 have hE1:E<=40/\E<=(ns.length:Nat)/\0<=E:=by rw [hE];split<;>lia
 have ht:(Y8 1 E).length=(E - 1).toNat:=a19 _ _;have gl:K7 (.v (.list (ns.map .int)))=ξ (.v (.int (ns.length:Nat))):=by
  show ξ _=_;rw [AX]
 have er:b2J (a4 (mC (.int 1)) (a4 (m2 (gI λi j=> .int (if j<i then j else i)) (m1 K7 (a5 0)) (mC (.int 40))) a8)) (prS ns [] [] ζ ζ ζ ζ ζ ζ ζ ζ)=ξ (Y8 1 E):=by
  rw [b3M,k7 (q:= .v (.int 1)) rfl rfl (k7 (q:= .v (.int E)) (by rw [hE];exact two (one rfl gl) (q:= .v (.int 40)) rfl rfl) rfl rfl),AR]
  exact b7t (by lia)
 obtain⟨ρ',e5,rs,K,q3,q4,q5,q6,q7,q8,q9,q10,h1,h2,h3,h4,rfl⟩:=a2r (body:=L5) (tg:=d7 3) (λj ρ=>∃(rs:List Rw) (K:NL y8) (q3 q4 q5 q6 q7 q8 q9 q10:Option c6),rs.length=j/\(∀r∈rs,OkR r)/\K5 K/\K.length<=j/\ρ=prS ns K rs q3 q4 q5 q6 q7 q8 q9 q10)
  (ps:=Y8 1 E) (ρ:=prS ns [] [] ζ ζ ζ ζ ζ ζ ζ ζ)
  (by
   rintro j p hp ρ ⟨rs,K,q3,q4,q5,q6,q7,q8,q9,q10,h1,h2,h3,h4,rfl⟩;obtain⟨rfl,hj⟩:=b7u hp;have hlt:1+j<ns.length:=by lia
   obtain⟨r,K',q4',q5',q6',q7',q8',q9',q10',o,k1,k2,eb⟩:=b3Y (ns:=ns) (at_:=1+j) hlt (by lia) h3 (by lia) (rs:=rs) (by lia) q4 q5 q6 q7 q8 q9 q10
   rw [show((1+j:Nat):Int)=1+(j:Int) by lia] at eb
   refine a5R (ρ1:=prS ns K rs (ξ (.v (.int (1+(j:Int))))) q4 q5 q6 q7 q8 q9 q10) rfl eb ⟨rs++[r],K',_,_,_,_,_,_,_,_,by rw [AW,h1];rfl,λx hx=> ?_,k1,by lia,rfl⟩
   rcases An.mp hx with hx|hx
   ·exact h2 x hx
   ·rw [List.mem_singleton.mp hx];exact o)
  ⟨[],[],ζ,ζ,ζ,ζ,ζ,ζ,ζ,ζ,rfl,(λx hx=>nomatch hx),(λx hx=>nomatch hx),by simp,rfl⟩
 rw [ht] at h1 h4;obtain⟨c,hc⟩:=b6m (ns:=ns);obtain⟨N,eN⟩:=b5p c (k:=5) (by lia)
 have e6:i6 E6 (a4 (i6 R8 (a4 (a5 0) (a4 (mC (.int 0)) a8))) (a4 (mC (.int 5)) a8)) (prS ns K rs q3 q4 q5 q6 q7 q8 q9 q10)=ξ (.v (.int N)):=(a0f ((a0f rfl rfl).trans hc) rfl).trans eN;obtain⟨M,hM⟩:∃M:Nat,((M:Nat):Int)=24:=⟨24,rfl⟩;obtain⟨m,ok,dp,eg⟩:=a99 (K:=K) (M:=M) (ns:=K.map λ(x:List Nat×y8)=>x.1) h3 N;rw [hM] at eg;have gt:P9 (.v (kd K))=ξ (.own ((K.map (·.1)).map row)):=b3v (by lia)
 have ea:a4 (a5 4) (a4 (a5 2) (a4 (m1 P9 (a5 2)) (a4 (mC (.int 24)) a8))) ((prS ns K rs q3 (ξ (.v (.int N))) q5 q6 q7 q8 q9 q10).set 2 (ξ (.v (tv (dN PR K)))))=ξ [.int N,kd K,.list ((K.map λ(x:List Nat×y8)=>x.1).map row),.int 24]:=k7 (q:= .v (.int N)) (p:= .int N) rfl rfl (k7 (q:= .v (kd K)) (p:=kd K) rfl rfl (k7 (q:= .own ((K.map λ(x:List Nat×y8)=>x.1).map row)) (p:= .list ((K.map λ(x:List Nat×y8)=>x.1).map row)) (one (r:= .v (kd K)) rfl gt) rfl (k7 (q:= .v (.int 24)) (p:= .int 24) rfl rfl rfl)));have e7:a0C 2 (i6 D8 (a4 (a5 4) (a4 (a5 2) (a4 (m1 P9 (a5 2)) (a4 (mC (.int 24)) a8))))) (prS ns K rs q3 (ξ (.v (.int N))) q5 q6 q7 q8 q9 q10)=ξ (.v (i0 m)):=by
  refine b2G (kvs:=dN PR K) rfl ?_ (a3q m);rw [b7Y ea];exact eg
 refine⟨rs,m,h2,ok,dp,by lia,C5 (n:=10) ?_⟩
 show a3a [ξ (.v (.list (ns.map .int))),ζ,ζ,ζ,ζ,ζ,ζ,ζ,ζ,ζ,ζ]=_;unfold a3a;refine(B8 (l:=[]) rfl).trans ?_;refine(A3 (ρ':=prS ns [] [] ζ ζ ζ ζ ζ ζ ζ ζ) rfl).trans ?_;refine(a1b er e5).trans ?_;refine(g5 e6).trans ?_;have et:u3 (a4 (mC (.str (AD "knot"))) (a4 (a0C 2 (i6 D8 (a4 (a5 4) (a4 (a5 2) (a4 (m1 P9 (a5 2)) (a4 (mC (.int 24)) a8)))))) a8)) (prS ns K rs q3 (ξ (.v (.int N))) q5 q6 q7 q8 q9 q10)=ξ (.v (.tuple [.str (AD "knot"),i0 m])):=b55 rfl e7;have el:D0 (a4 (u3 (a4 (mC (.str (AD "knot"))) (a4 (a0C 2 (i6 D8 (a4 (a5 4) (a4 (a5 2) (a4 (m1 P9 (a5 2)) (a4 (mC (.int 24)) a8)))))) a8))) a8) (prS ns K rs q3 (ξ (.v (.int N))) q5 q6 q7 q8 q9 q10)=ξ (.own [.tuple [.str (AD "knot"),i0 m]]):=by
  unfold D0;rw [k7 et rfl rfl]
  rfl
 have ead:=two (g:=p9) (x:=a5 1) (r:= .bor (rs.map (u0 i0))) (ρ:=prS ns K rs q3 (ξ (.v (.int N))) q5 q6 q7 q8 q9 q10) rfl el (b6E (by rw [AX,sizeLine_eq];simp only [AU,Aj];lia))
 unfold m4;refine(congrArg (λo=>Option.bind o _) ead).trans rfl
theorem b6Y{c f:Str}{x:M}{ρ:b0}{p:PV}(h:x ρ=ξ (.v p)):a3o c [f] (a4 x a8) ρ=ξ (.v (obV c [(.str f,p)])):=by
 unfold a3o a4;rw [h]
 rfl
theorem b9a{c f g:Str}{x y:M}{ρ:b0}{p q:PV}(h:x ρ=ξ (.v p))(h2:y ρ=ξ (.v q)):a3o c [f,g] (a4 x (a4 y a8)) ρ=ξ (.v (obV c [(.str f,p),(.str g,q)])):=by
 unfold a3o a4;rw [h,h2]
 rfl
theorem c05{c f g k:Str}{x y z:M}{ρ:b0}{p q r:PV}(h:x ρ=ξ (.v p))(h2:y ρ=ξ (.v q))(h3:z ρ=ξ (.v r)):a3o c [f,g,k] (a4 x (a4 y (a4 z a8))) ρ=ξ (.v (obV c [(.str f,p),(.str g,q),(.str k,r)])):=by
 unfold a3o a4;rw [h,h2,h3]
 rfl
section
variable {R:RF}
theorem c0o{ps:List Mo}{w ww:PV}{elt:M}(he:elt=i6 R (a4 (a5 2) a8))(hp:ps.length<=6)(h:∀p∈ps,R [i0 p]=ξ (.v (j3 p))):
 m1 a1W (V3 1 (B6 (m2 i9 (a5 0) (mC (.int 1)))) (d7 2) V5 elt) [ξ (.v (.tuple [w,.list (ps.map i0)])),ξ (.v ww)]=ξ (.v (.tuple (b1X ps))):=by
 have cm:=a4M (ι:=i0) (f:=j3) (k:=1) (it:=B6 (m2 i9 (a5 0) (mC (.int 1)))) (tg:=d7 2) (elt:=elt) (ρ:=[ξ (.v (.tuple [w,.list (ps.map i0)])),ξ (.v ww)]) ps rfl (by lia) λp hp=>by
  refine⟨[ξ (.v (.tuple [w,.list (ps.map i0)])),ξ (.v ww),ξ (.v (i0 p))],rfl, ?_⟩;rw [he,(D7 rfl).trans (h p hp)]
  rfl
 refine(congrArg (λo=>Option.bind o a1W) cm).trans ?_
 rw [a4d]
 rfl
theorem b3O(m:Mo)(ok:D1 m)(ih:∀p,D1 p->u5 p<u5 m->R [i0 p]=ξ (.v (j3 p))):G5 1 (X3 R) [i0 m]=ξ (.v (j3 m)):=by
 refine C5 ?_;show X3 R [ξ (.v (i0 m)),ζ]=_;unfold X3;cases m with
 |plain rows=>
  rw [i0,g5 (p:= .str (AD "plain")) rfl,j3];exact m3 rfl (b6Y rfl)
 |named w=>
  rw [i0,g5 (p:= .str (AD "name")) rfl,b4 rfl,j3];exact m3 rfl (b6Y rfl)
 |beside ps=>
  ext w
  have d:u5 (.beside ps)=1+a3N ps:=by rw [u5]
  rw [i0,Z5,g5 (p:= .str (AD "beside")) rfl,b4 rfl,b4 rfl,j3];exact m3 rfl (b6Y (c0o rfl ok.2.1 λp hp=>ih p (O3 ok.2.2 hp) (by have:=N3 hp;lia)))
 |above ps=>
  ext w
  have d:u5 (.above ps)=1+a3N ps:=by rw [u5]
  rw [i0,Z5,g5 (p:= .str (AD "above")) rfl,b4 rfl,b4 rfl,b4 rfl,j3];exact m3 rfl (b6Y (c0o rfl ok.2.1 λp hp=>ih p (O3 ok.2.2 hp) (by have:=N3 hp;lia)))
 |across k p=>
  ext w
  have d:u5 (.across k p)=1+u5 p:=by rw [u5]
  rw [i0,g5 (p:= .str (AD "across")) rfl,b4 rfl,b4 rfl,b4 rfl,b4 rfl,j3];exact m3 rfl (b9a rfl ((D7 rfl).trans (ih p ok.2.2 (by lia))))
 |down k p=>
  ext w
  have d:u5 (.down k p)=1+u5 p:=by rw [u5]
  rw [i0,g5 (p:= .str (AD "down")) rfl,b4 rfl,b4 rfl,b4 rfl,b4 rfl,b4 rfl,j3];exact m3 rfl (b9a rfl ((D7 rfl).trans (ih p ok.2.2 (by lia))))
 |turned w p=>
  ext w
  have d:u5 (.turned w p)=1+u5 p:=by rw [u5]
  rw [i0,g5 (p:= .str (AD "turned")) rfl,b4 rfl,b4 rfl,b4 rfl,b4 rfl,b4 rfl,b4 rfl,j3];exact m3 rfl (b9a rfl ((D7 rfl).trans (ih p ok.2 (by lia))))
 |dyed a b p=>
  ext w
  have d:u5 (.dyed a b p)=1+u5 p:=by rw [u5]
  rw [i0,g5 (p:= .str (AD "dye")) rfl,b4 rfl,b4 rfl,b4 rfl,b4 rfl,b4 rfl,b4 rfl,b4 rfl,j3];have e:=c05 (c:=AD "Dyed") (f:=AD "one") (g:=AD "other") (k:=AD "part") (x:=m2 i9 (a5 0) (mC (.int 1))) (y:=m2 i9 (a5 0) (mC (.int 2))) (z:=i6 R (a4 (m2 i9 (a5 0) (mC (.int 3))) a8)) (ρ:=[ξ (.v (.tuple [.str (AD "dye"),row [a],row [b],i0 p])),ξ (.v (.str (AD "dye")))]) (p:=row [a]) (q:=row [b]) rfl rfl ((D7 rfl).trans (ih p ok.2.2 (by lia)))
  show m4 _ _=_;unfold m4;exact(congrArg (λo=>Option.bind o _) e).trans rfl
end
theorem a6z:∀(n:Nat) (m:Mo),D1 m->u5 m<=n->a1Y n [i0 m]=ξ (.v (j3 m))
 |0,m,_,h=>by have:=a5I m;lia
 |n+1,m,ok,h=>b3O m ok λp okp hp=>a6z n p okp (by lia)
theorem a3p{x:M}{ρ:b0}{ps:List PV}{p:PV}(h:x ρ=ξ (.v (.tuple (ps++[p])))):m2 i9 x (L6 (mC (.int 1))) ρ=ξ (.v p):=by
 refine two (q:= .v (.int (-1))) h rfl ?_;show(L2.atI (ps++[p]) (-1)).map c6.v=_;have:L2.atI (ps++[p]) (-1)=ξ p:=by
  unfold L2.atI;have:ixN (ps++[p]).length (-1)=ξ ps.length:=by
   unfold ixN;rw [AW,List.length_singleton];simp
   try lia
  rw [this];simp
 rw [this]
 rfl
theorem b1a{ps qs:List PV}(h1:ps.length≠0)(h2:qs.length≠0)(h3:ps.length+qs.length<=16777216):p9 (.v (.tuple ps)) (.v (.tuple qs))=ξ (.v (.tuple (ps++qs))):=by
 show(if(ps.length≠0/\qs.length≠0)/\ps.length+qs.length<=AM then ξ (c6.v (.tuple (ps++qs))) else ζ)=_
 rw [if_pos ⟨⟨h1,h2⟩,by rw [sizeLine_eq];exact h3⟩]
theorem b1e(r:Rw)(ok:D1 r.mo)(dp:u5 r.mo<=8){s0:Option c6}{A:List PV}(hA:A.length<=100):r8 [s0,ξ (.own A),ξ (.v (u0 i0 r))]=ξ (.nx [s0,ξ (.own (A++[u0 j3 r])),ξ (.v (u0 i0 r))]):=by
 have em:=a6z 12 r.mo ok (by lia)
 unfold r8;cases r with
 |lt w m=>
  have e1:i6 A1 (a4 (m2 i9 (a5 2) (L6 (mC (.int 1)))) a8) [s0,ξ (.own A),ξ (.v (u0 i0 (.lt w m)))]=ξ (.v (j3 m)):=(D7 (a3p (ps:=[.str (AD "let"),row w]) rfl)).trans em;have e2:u3 (a4 (i6 A1 (a4 (m2 i9 (a5 2) (L6 (mC (.int 1)))) a8)) a8) [s0,ξ (.own A),ξ (.v (u0 i0 (.lt w m)))]=ξ (.v (.tuple [j3 m])):=by
   unfold u3;rw [k7 e1 rfl rfl]
   rfl
  have e3:m2 p9 (M1 (a5 2) Q5 (O2 (L6 (mC (.int 1))))) (u3 (a4 (i6 A1 (a4 (m2 i9 (a5 2) (L6 (mC (.int 1)))) a8)) a8)) [s0,ξ (.own A),ξ (.v (u0 i0 (.lt w m)))]=ξ (.v (u0 j3 (.lt w m))):=two (r:= .v (.tuple [.str (AD "let"),row w])) rfl e2 (b1a (by simp) (by simp) (by simp))
  rw [B5 e3 rfl rfl (by lia)]
  rfl
 |ag k w m=>
  have e1:i6 A1 (a4 (m2 i9 (a5 2) (L6 (mC (.int 1)))) a8) [s0,ξ (.own A),ξ (.v (u0 i0 (.ag k w m)))]=ξ (.v (j3 m)):=(D7 (a3p (ps:=[.str (AD "again"),.int (k:Nat),row w]) rfl)).trans em;have e2:u3 (a4 (i6 A1 (a4 (m2 i9 (a5 2) (L6 (mC (.int 1)))) a8)) a8) [s0,ξ (.own A),ξ (.v (u0 i0 (.ag k w m)))]=ξ (.v (.tuple [j3 m])):=by
   unfold u3;rw [k7 e1 rfl rfl]
   rfl
  have e3:m2 p9 (M1 (a5 2) Q5 (O2 (L6 (mC (.int 1))))) (u3 (a4 (i6 A1 (a4 (m2 i9 (a5 2) (L6 (mC (.int 1)))) a8)) a8)) [s0,ξ (.own A),ξ (.v (u0 i0 (.ag k w m)))]=ξ (.v (u0 j3 (.ag k w m))):=two (r:= .v (.tuple [.str (AD "again"),.int (k:Nat),row w])) rfl e2 (b1a (by simp) (by simp) (by simp))
  rw [B5 e3 rfl rfl (by lia)]
  rfl
abbrev kn(f:Mo->PV)(m:Mo):PV:= .tuple [.str (AD "knot"),f m]
theorem a54{s0:Option c6}{qs:List PV}:∀(rs:List Rw) (A:List PV) (q2:Option c6),(∀r∈rs,D1 r.mo/\u5 r.mo<=8)->A.length+rs.length<=100->∃q2',v7 r8 (d7 2) (rs.map (u0 i0)++qs) [s0,ξ (.own A),q2]=v7 r8 (d7 2) qs [s0,ξ (.own (A++rs.map (u0 j3))),q2']
 |[],A,q2,_,_=>⟨q2,by rw [Av,Av,Ah];rfl⟩
 |r::rs,A,q2,h,hl=>by
  rw [AU] at hl;have h1:=h r Aa;obtain⟨q2',e⟩:=a54 (s0:=s0) (qs:=qs) rs (A++[u0 j3 r]) (ξ (.v (u0 i0 r))) (λx hx=>h x (AY _ hx)) (by rw [AW,List.length_singleton];lia)
  refine⟨q2', ?_⟩;rw [AS,List.cons_append,v7];show(r8 [s0,ξ (.own A),ξ (.v (u0 i0 r))]).bind _=_;rw [b1e r h1.1 h1.2 (by lia),AR]
  rw [List.append_assoc] at e;exact e
theorem b1d(m:Mo)(ok:D1 m)(dp:u5 m<=8){s0:Option c6}{A:List PV}(hA:A.length<=100):r8 [s0,ξ (.own A),ξ (.v (kn i0 m))]=ξ (.nx [s0,ξ (.own (A++[kn j3 m])),ξ (.v (kn i0 m))]):=by
 have em:=a6z 12 m ok (by lia)
 unfold r8;have e1:i6 A1 (a4 (m2 i9 (a5 2) (L6 (mC (.int 1)))) a8) [s0,ξ (.own A),ξ (.v (kn i0 m))]=ξ (.v (j3 m)):=(D7 (a3p (ps:=[.str (AD "knot")]) rfl)).trans em;have e2:u3 (a4 (i6 A1 (a4 (m2 i9 (a5 2) (L6 (mC (.int 1)))) a8)) a8) [s0,ξ (.own A),ξ (.v (kn i0 m))]=ξ (.v (.tuple [j3 m])):=by
  unfold u3;rw [k7 e1 rfl rfl]
  rfl
 have e3:m2 p9 (M1 (a5 2) Q5 (O2 (L6 (mC (.int 1))))) (u3 (a4 (i6 A1 (a4 (m2 i9 (a5 2) (L6 (mC (.int 1)))) a8)) a8)) [s0,ξ (.own A),ξ (.v (kn i0 m))]=ξ (.v (kn j3 m)):=two (r:= .v (.tuple [.str (AD "knot")])) rfl e2 (b1a (by simp) (by simp) (by simp))
 rw [B5 e3 rfl rfl (by lia)]
 rfl
theorem b4s{rs:List Rw}(h:∀r∈rs,OkR r)(hl:rs.length<=39){m:Mo}(ok:D1 m)(dp:u5 m<=8):a1X [.list (rs.map (u0 i0)++[kn i0 m])]=ξ (.own (rs.map (u0 j3)++[kn j3 m])):=by
 obtain⟨q2,e⟩:=a54 (s0:=ξ (.v (.list (rs.map (u0 i0)++[kn i0 m])))) (qs:=[kn i0 m]) rs [] ζ (λr hr=>⟨(h r hr).ok,(h r hr).dp⟩) (by simp;lia)
 have e2:v7 r8 (d7 2) (rs.map (u0 i0)++[kn i0 m]) [ξ (.v (.list (rs.map (u0 i0)++[kn i0 m]))),ξ (.own []),ζ]=ξ (.nx [ξ (.v (.list (rs.map (u0 i0)++[kn i0 m]))),ξ (.own (rs.map (u0 j3)++[kn j3 m])),ξ (.v (kn i0 m))]):=by
  rw [e,v7];show(r8 [ξ (.v (.list (rs.map (u0 i0)++[kn i0 m]))),ξ (.own ([]++rs.map (u0 j3))),ξ (.v (kn i0 m))]).bind _=_;rw [b1d m ok dp (by simp;lia),AR]
  rfl
 refine C5 (n:=2) ?_;show a1G [ξ (.v (.list (rs.map (u0 i0)++[kn i0 m]))),ζ,ζ]=_;unfold a1G;refine(B8 (l:=[]) rfl).trans ?_;exact(a1b (ps:=rs.map (u0 i0)++[kn i0 m]) rfl e2).trans rfl
abbrev RX:=List PV->Option (c6 ⊕ XT)
def xt(i:Int):Er->XT
 | .nm w=>⟨AD "NoName",[(.str (AD "row"),.int i),(.str (AD "name"),row w)]⟩
 | .mis=>⟨AD "Misfit",[(.str (AD "row"),.int i)]⟩
 | .wid=>⟨AD "TooWide",[(.str (AD "row"),.int i)]⟩
def toX(i:Int):Sz->c6 ⊕ XT
 | .inl d=> .inl (.v (PR d))
 | .inr e=> .inr (xt i e)
theorem c0V{n:Nat}{b:MX}{ps:List PV}{r:c6}(h:b (ps.map (λp=>ξ (c6.v p))++AO n ζ)=ξ (.fl (.rt r))):A7 n b ps=ξ (.inl r):=by
 unfold A7;rw [h]
 rfl
theorem a4r{n:Nat}{b:MX}{ps:List PV}{c:XT}{ρ:b0}(h:b (ps.map (λp=>ξ (c6.v p))++AO n ζ)=ξ (.rz c ρ)):A7 n b ps=ξ (.inr c):=by
 unfold A7;rw [h]
 rfl
def a0Z(i:Int)(o:Sz)(f:Option FX):Prop:=match o with
 | .inl d=>f=ξ (.fl (.rt (.v (PR d))))
 | .inr e=>∃ρ,f=ξ (.rz (xt i e) ρ)
theorem K2{n:Nat}{b:MX}{ps:List PV}{i:Int}{o:Sz}(h:a0Z i o (b (ps.map (λp=>ξ (c6.v p))++AO n ζ))):A7 n b ps=ξ (toX i o):=by
 cases o with
 |inl d=>exact c0V h
 |inr e=>
  obtain⟨ρ,h⟩:=h;exact a4r h
theorem T1{m n:MX}{ρ ρ':b0}(h:m ρ=ξ (.fl (.nx ρ'))):D9 m n ρ=n ρ':=by
 unfold D9;rw [h]
 rfl
theorem M0{m n:MX}{ρ ρ':b0}{c:XT}(h:m ρ=ξ (.rz c ρ')):D9 m n ρ=ξ (.rz c ρ'):=by
 unfold D9;rw [h]
 rfl
theorem a7f{c:MT}{m n:MX}{ρ:b0}(hc:c ρ=ξ true):a2I c m n ρ=m ρ:=by
 unfold a2I;rw [hc]
 rfl
theorem b22{c:MT}{m n:MX}{ρ:b0}(hc:c ρ=ξ false):a2I c m n ρ=n ρ:=by
 unfold a2I;rw [hc]
 rfl
theorem a8C{c:MT}{m n:MX}{ρ:b0}(hc:c ρ=ξ false):D9 (a2I c m (Q6 j0)) n ρ=n ρ:=T1 (b22 hc)
theorem xup{m:MS}{ρ:b0}{f:Fl}(h:m ρ=ξ f):Q6 m ρ=ξ (.fl f):=by
 unfold Q6;rw [h]
 rfl
theorem b0V{m:MV}{ρ:b0}{i:Int}{o:Sz}(h:m ρ=ξ (toX i o)):a0Z i o (G2 m ρ):=by
 unfold G2;rw [h];cases o with
 |inl d=>rfl
 |inr e=>exact⟨ρ,rfl⟩
theorem b9Y{j:Nat}{m:MV}{n:MX}{ρ:b0}{i:Int}{o:Sz}{o2:Sz}(h:m ρ=ξ (toX i o))(hi:∀e,o= .inr e->o2= .inr e)(hk:∀d,o= .inl d->a0Z i o2 (n (ρ.set j (ξ (.v (PR d)))))):a0Z i o2 (D9 (u9 j m) n ρ):=by
 cases o with
 |inl d=>
  rw [T1 (ρ':=ρ.set j (ξ (.v (PR d)))) (by unfold u9;rw [h];rfl)]
  exact hk d rfl
 |inr e=>
  rw [hi e rfl,M0 (c:=xt i e) (ρ':=ρ) (by unfold u9;rw [h];rfl)]
  exact⟨ρ,rfl⟩
theorem a5T(a b:Nat)(i:Int):C9 [.int (a:Nat),.int (b:Nat),.int i]=ξ (toX i (chk (a,b))):=by
 have e1:r6 (m2 (gI λi j=> .bool (decide (j<i))) (a5 0) (mC W8)) [ξ (.v (.int (a:Nat))),ξ (.v (.int (b:Nat))),ξ (.v (.int i))]=ξ (decide ((24:Int)<(a:Nat))):=D3 (r:= .v (.int (a:Nat))) rfl (q:= .v (.int 24)) rfl rfl;have e2:r6 (m2 (gI λi j=> .bool (decide (j<i))) (a5 1) (mC W8)) [ξ (.v (.int (a:Nat))),ξ (.v (.int (b:Nat))),ξ (.v (.int i))]=ξ (decide ((24:Int)<(b:Nat))):=D3 (r:= .v (.int (b:Nat))) rfl (q:= .v (.int 24)) rfl rfl;have t:=b1T e1 e2;refine K2 (n:=0) ?_;show a0Z i _ (X0 [ξ (.v (.int (a:Nat))),ξ (.v (.int (b:Nat))),ξ (.v (.int i))]);unfold X0 chk
 by_cases h:a<=24/\b<=24
 ·rw [if_pos h];rw [decide_eq_false (by lia),decide_eq_false (by lia)] at t
  rw [a8C t]
  rfl
 ·rw [if_neg h];have t':(decide ((24:Int)<(a:Nat))||decide ((24:Int)<(b:Nat)))=true:=by
   rw [Bool.or_eq_true,decide_eq_true_eq,decide_eq_true_eq]
   lia
  rw [t'] at t;exact⟨_,M0 ((a7f t).trans rfl)⟩
theorem b7U(be:Bool)(x d:y8)(i:Int):(if be=true then n4 else o9) [PR x,PR d,.int i]=ξ (toX i (a3k be x d)):=by
 cases be with
 |true=>
  rw [if_pos rfl];refine K2 (n:=0) ?_;show a0Z i _ (a0v [ξ (.v (PR x)),ξ (.v (PR d)),ξ (.v (.int i))]);unfold a0v a3k;rw [if_pos rfl];have t:r6 (m2 gNe (m2 i9 (a5 0) (mC (.int 0))) (m2 i9 (a5 1) (mC (.int 0)))) [ξ (.v (PR x)),ξ (.v (PR d)),ξ (.v (.int i))]=ξ (!decide (((x.1:Nat):Int)=(d.1:Nat))):=D3 (r:= .v (.int (x.1:Nat))) rfl (q:= .v (.int (d.1:Nat))) rfl (a6G _ _)
  by_cases h:d.1=x.1
  ·rw [decide_eq_true (by lia)] at t
   rw [if_pos h,a8C t];refine b0V ?_;have ea:a4 (m2 i9 (a5 0) (mC (.int 0))) (a4 (m2 p9 (m2 i9 (a5 0) (mC (.int 1))) (m2 i9 (a5 1) (mC (.int 1)))) (a4 (a5 2) a8)) [ξ (.v (PR x)),ξ (.v (PR d)),ξ (.v (.int i))]=ξ [.int (x.1:Nat),.int ((x.2+d.2:Nat):Int),.int i]:=k7 (q:= .v (.int (x.1:Nat))) rfl rfl (k7 (q:= .v (.int ((x.2:Nat)+(d.2:Nat)))) rfl (by rw [Int.natCast_add];rfl) (k7 (q:= .v (.int i)) rfl rfl rfl))
   unfold G1;rw [ea];exact a5T _ _ i
  ·rw [decide_eq_false (by lia)] at t
   rw [if_neg h];exact⟨_,M0 ((a7f t).trans rfl)⟩
 |false=>
  rw [if_neg Af];refine K2 (n:=0) ?_;show a0Z i _ (a04 [ξ (.v (PR x)),ξ (.v (PR d)),ξ (.v (.int i))]);unfold a04 a3k;rw [if_neg Af];have t:r6 (m2 gNe (m2 i9 (a5 0) (mC (.int 1))) (m2 i9 (a5 1) (mC (.int 1)))) [ξ (.v (PR x)),ξ (.v (PR d)),ξ (.v (.int i))]=ξ (!decide (((x.2:Nat):Int)=(d.2:Nat))):=D3 (r:= .v (.int (x.2:Nat))) rfl (q:= .v (.int (d.2:Nat))) rfl (a6G _ _)
  by_cases h:d.2=x.2
  ·rw [decide_eq_true (by lia)] at t
   rw [if_pos h,a8C t];refine b0V ?_;have ea:a4 (m2 p9 (m2 i9 (a5 0) (mC (.int 0))) (m2 i9 (a5 1) (mC (.int 0)))) (a4 (m2 i9 (a5 0) (mC (.int 1))) (a4 (a5 2) a8)) [ξ (.v (PR x)),ξ (.v (PR d)),ξ (.v (.int i))]=ξ [.int ((x.1+d.1:Nat):Int),.int (x.2:Nat),.int i]:=k7 (q:= .v (.int ((x.1:Nat)+(d.1:Nat)))) rfl (by rw [Int.natCast_add];rfl) (k7 (q:= .v (.int (x.2:Nat))) rfl rfl (k7 (q:= .v (.int i)) rfl rfl rfl))
   unfold G1;rw [ea];exact a5T _ _ i
  ·rw [decide_eq_false (by lia)] at t
   rw [if_neg h];exact⟨_,M0 ((a7f t).trans rfl)⟩
def b0z(f1 f2 f3 f4 f5 f6 f7 f8:RX):Mo->RX
 | .plain _=>f1
 | .named _=>f2
 | .beside _=>f3
 | .above _=>f4
 | .across _ _=>f5
 | .down _ _=>f6
 | .turned _ _=>f7
 | .dyed _ _ _=>f8
abbrev c0O(f1 f2 f3 f4 f5 f6 f7 f8:RX):List (Str×RX):=[(AD "Plain",f1),(AD "Named",f2),(AD "Beside",f3),(AD "Above",f4),(AD "Across",f5),(AD "Down",f6),(AD "Turned",f7),(AD "Dyed",f8)]
theorem a9b{f1 f2 f3 f4 f5 f6 f7 f8:RX}{mo:M}{ma:MA}{ρ:b0}{m:Mo}{qs:List PV}(h:mo ρ=ξ (.v (j3 m)))(ha:ma ρ=ξ qs):
 U5 (c0O f1 f2 f3 f4 f5 f6 f7 f8) (AD "size") mo ma ρ=b0z f1 f2 f3 f4 f5 f6 f7 f8 m (j3 m::qs):=by
 unfold U5
 rw [h,ha]
 cases m<;>rw [j3]<;>rfl
theorem b6B(R:List (List Nat)):L4 [AD "Plain"] (AD "rows") (.v (j3 (.plain R)))=ξ (.v (.tuple (R.map row))):=by rw [j3];rfl
theorem b6z(w:List Nat):L4 [AD "Named"] (AD "name") (.v (j3 (.named w)))=ξ (.v (row w)):=by rw [j3];rfl
theorem b3t(ps:List Mo):L4 [AD "Beside",AD "Above"] (AD "parts") (.v (j3 (.beside ps)))=ξ (.v (.tuple (ps.map j3))):=by rw [j3,a4d];rfl
theorem b3s(ps:List Mo):L4 [AD "Beside",AD "Above"] (AD "parts") (.v (j3 (.above ps)))=ξ (.v (.tuple (ps.map j3))):=by rw [j3,a4d];rfl
theorem b4K(k:Nat)(p:Mo):L4 [AD "Across",AD "Down"] (AD "many") (.v (j3 (.across k p)))=ξ (.v (.int (k:Nat))):=by rw [j3];rfl
theorem b4J(k:Nat)(p:Mo):L4 [AD "Across",AD "Down"] (AD "many") (.v (j3 (.down k p)))=ξ (.v (.int (k:Nat))):=by rw [j3];rfl
theorem b8N(w:List Nat)(p:Mo):L4 [AD "Turned"] (AD "way") (.v (j3 (.turned w p)))=ξ (.v (row w)):=by rw [j3];rfl
abbrev b8d:List Str:=[AD "Across",AD "Down",AD "Turned",AD "Dyed"]
theorem b6A{m p:Mo}(h:(∃k,m= .across k p)\/(∃k,m= .down k p)\/(∃w,m= .turned w p)\/∃a b,m= .dyed a b p):L4 b8d (AD "part") (.v (j3 m))=ξ (.v (j3 p)):=by
 rcases h with⟨k,rfl⟩|⟨k,rfl⟩|⟨w,rfl⟩|⟨a,b,rfl⟩<;>rw [j3]<;>rfl
theorem c1d{x:M}{ps:List PV}{p:PV}(h:x (ps.map λq=>ξ (.v q))=ξ (.v p)):G5 0 (m4 x) ps=ξ (.v p):=by
 have e:x (ps.map (λq=>ξ (c6.v q))++AO 0 ζ)=ξ (.v p):=by
  rw [List.replicate_zero,Ah];exact h
 unfold G5 m4;rw [e]
 rfl
theorem a94{tab:List Str}{f:Str}{v p:PV}{ρ:b0}(h:L4 tab f (.v v)=ξ (.v p)):m1 (L4 tab f) (a5 0) (ξ (.v v)::ρ)=ξ (.v p):=h
theorem a74{x:Str}{g:RX}{i:Nat}{m:MA}{ρ:b0}{qs:List PV}{tab:List (Str×RX)}(h:ρ[i]?=ξ (ξ (.v (T8 x))))(hl:tab.lookup x=ξ g)(hm:m ρ=ξ qs):y6 tab i m ρ=g qs:=by
 unfold y6;rw [h];show(tab.lookup x).bind (λg=>(m ρ).bind g)=_;rw [hl,AR,hm,AR]
abbrev fnL(be:Bool):PV:=T8 (if be=true then AD "size_beside" else AD "size_above")
section
variable {RAb RAc RBe RDo RDy RTu RLa:RX}{K:NL y8}
theorem a7c(be:Bool){s0 s1 s4:Option c6}{i:Int}:∀(ds:List y8) (x:y8) (q6:Option c6),(∃y q6',a33 be x ds= .inl y/\P0 (u9 5 (y6 [(AD "size_beside",n4),(AD "size_above",o9)] 3 (a4 (a5 5) (a4 (a5 6) (a4 (a5 2) a8))))) (d7 6) (ds.map PR) [s0,s1,ξ (.v (.int i)),ξ (.v (fnL be)),s4,ξ (.v (PR x)),q6]=ξ (.fl (.nx [s0,s1,ξ (.v (.int i)),ξ (.v (fnL be)),s4,ξ (.v (PR y)),q6'])))\/∃e ρ,a33 be x ds= .inr e/\P0 (u9 5 (y6 [(AD "size_beside",n4),(AD "size_above",o9)] 3 (a4 (a5 5) (a4 (a5 6) (a4 (a5 2) a8))))) (d7 6) (ds.map PR) [s0,s1,ξ (.v (.int i)),ξ (.v (fnL be)),s4,ξ (.v (PR x)),q6]=ξ (.rz (xt i e) ρ)
 |[],x,q6=> .inl ⟨x,q6,rfl,rfl⟩
 |d::ds,x,q6=>by
  have hb:y6 [(AD "size_beside",n4),(AD "size_above",o9)] 3 (a4 (a5 5) (a4 (a5 6) (a4 (a5 2) a8))) [s0,s1,ξ (.v (.int i)),ξ (.v (fnL be)),s4,ξ (.v (PR x)),ξ (.v (PR d))]=ξ (toX i (a3k be x d)):=by
   refine(a74 (x:=if be=true then AD "size_beside" else AD "size_above") (g:=if be=true then n4 else o9) (qs:=[PR x,PR d,.int i]) rfl ?_ rfl).trans (b7U be x d i)
   cases be<;>rfl
  have e:P0 (u9 5 (y6 [(AD "size_beside",n4),(AD "size_above",o9)] 3 (a4 (a5 5) (a4 (a5 6) (a4 (a5 2) a8))))) (d7 6) ((d::ds).map PR) [s0,s1,ξ (.v (.int i)),ξ (.v (fnL be)),s4,ξ (.v (PR x)),q6]=(u9 5 (y6 [(AD "size_beside",n4),(AD "size_above",o9)] 3 (a4 (a5 5) (a4 (a5 6) (a4 (a5 2) a8)))) [s0,s1,ξ (.v (.int i)),ξ (.v (fnL be)),s4,ξ (.v (PR x)),ξ (.v (PR d))]).bind (λfx=>match fx with
   | .fl (.nx ρ')=>P0 (u9 5 (y6 [(AD "size_beside",n4),(AD "size_above",o9)] 3 (a4 (a5 5) (a4 (a5 6) (a4 (a5 2) a8))))) (d7 6) (ds.map PR) ρ'
   | .fl (.ct ρ')=>P0 (u9 5 (y6 [(AD "size_beside",n4),(AD "size_above",o9)] 3 (a4 (a5 5) (a4 (a5 6) (a4 (a5 2) a8))))) (d7 6) (ds.map PR) ρ'
   | .fl (.bk ρ')=>ξ (.fl (.nx ρ'))
   | .fl (.rt r)=>ξ (.fl (.rt r))
   | .rz c ρ'=>ξ (.rz c ρ')):=by
   rw [AS,P0]
   rfl
  rw [a33];cases hl:a3k be x d with
  |inr q=>
   rw [hl] at hb;refine .inr ⟨q,[s0,s1,ξ (.v (.int i)),ξ (.v (fnL be)),s4,ξ (.v (PR x)),ξ (.v (PR d))],rfl, ?_⟩;rw [e,show u9 5 (y6 [(AD "size_beside",n4),(AD "size_above",o9)] 3 (a4 (a5 5) (a4 (a5 6) (a4 (a5 2) a8)))) [s0,s1,ξ (.v (.int i)),ξ (.v (fnL be)),s4,ξ (.v (PR x)),ξ (.v (PR d))]=ξ (.rz (xt i q) [s0,s1,ξ (.v (.int i)),ξ (.v (fnL be)),s4,ξ (.v (PR x)),ξ (.v (PR d))]) from by unfold u9;rw [hb];rfl]
   rfl
  |inl y=>
   rw [hl] at hb;rw [e,show u9 5 (y6 [(AD "size_beside",n4),(AD "size_above",o9)] 3 (a4 (a5 5) (a4 (a5 6) (a4 (a5 2) a8)))) [s0,s1,ξ (.v (.int i)),ξ (.v (fnL be)),s4,ξ (.v (PR x)),ξ (.v (PR d))]=ξ (.fl (.nx [s0,s1,ξ (.v (.int i)),ξ (.v (fnL be)),s4,ξ (.v (PR y)),ξ (.v (PR d))])) from by unfold u9;rw [hb];rfl,AR]
   exact a7c be ds y (ξ (.v (PR d)))
def b78(i:Int):List y8 ⊕ Er->List PV ⊕ XT
 | .inl ds=> .inl (ds.map PR)
 | .inr e=> .inr (xt i e)
theorem a9T{i:Int}{s3:Option c6}{P:PV}:∀ps:List Mo,(∀p∈ps,b0z t6 t5 RBe RAb RAc RDo RTu RDy p [j3 p,kd K,.int i]=ξ (toX i (E2 K p)))->
 a07 V5 (p7 RAb RAc RBe RDo RDy RTu RLa) (d7 7) [ξ (.v P),ξ (.v (kd K)),ξ (.v (.int i)),s3,ζ,ζ,ζ,ζ] (ps.map j3)=ξ (b78 i (a1s K ps))
 |[],_=>by rw [a1s];rfl
 |p::ps,h=>by
  have e1:p7 RAb RAc RBe RDo RDy RTu RLa [ξ (.v P),ξ (.v (kd K)),ξ (.v (.int i)),s3,ζ,ζ,ζ,ξ (.v (j3 p))]=ξ (toX i (E2 K p)):=by
   unfold p7;exact(a9b (m:=p) (qs:=[kd K,.int i]) rfl rfl).trans (h p Aa)
  have e2:=a9T (i:=i) (s3:=s3) (P:=P) ps λq hq=>h q (AY _ hq);rw [AS,a07,a1s];show(ξ [ξ (.v P),ξ (.v (kd K)),ξ (.v (.int i)),s3,ζ,ζ,ζ,ξ (.v (j3 p))]).bind _=_;rw [AR];show(p7 RAb RAc RBe RDo RDy RTu RLa [ξ (.v P),ξ (.v (kd K)),ξ (.v (.int i)),s3,ζ,ζ,ζ,ξ (.v (j3 p))]).bind _=_;rw [e1,AR];cases E2 K p with
  |inr q=>rfl
  |inl d=>
   show(a07 V5 (p7 RAb RAc RBe RDo RDy RTu RLa) (d7 7) [ξ (.v P),ξ (.v (kd K)),ξ (.v (.int i)),s3,ζ,ζ,ζ,ζ] (ps.map j3)).bind _=_;rw [e2,AR];cases a1s K ps<;>rfl
theorem b0U(be:Bool){ps:List Mo}{i:Int}(h0:ps≠[])(hp:ps.length<=6)(ih:∀p∈ps,b0z t6 t5 RBe RAb RAc RDo RTu RDy p [j3 p,kd K,.int i]=ξ (toX i (E2 K p))):
 A7 3 (G8 RAb RAc RBe RDo RDy RTu RLa) [.tuple (ps.map j3),kd K,.int i,fnL be]=ξ (toX i (bE (a1s K ps) (a2X be))):=by
 have c0:=a9T (RAb:=RAb) (RAc:=RAc) (RBe:=RBe) (RDo:=RDo) (RDy:=RDy) (RTu:=RTu) (RLa:=RLa) (K:=K) (i:=i) (s3:=ξ (.v (fnL be))) (P:= .tuple (ps.map j3)) ps ih
 have c1:a6E 1 (B6 (a5 0)) (d7 7) V5 (p7 RAb RAc RBe RDo RDy RTu RLa) [ξ (.v (.tuple (ps.map j3))),ξ (.v (kd K)),ξ (.v (.int i)),ξ (.v (fnL be)),ζ,ζ,ζ]=ξ (b7a (b78 i (a1s K ps))):=by
  unfold a6E;show(ξ (ps.map j3)).bind _=_;rw [AR,if_pos (by rw [AX,sizeLine_eq];lia)]
  show(a07 V5 (p7 RAb RAc RBe RDo RDy RTu RLa) (d7 7) [ξ (.v (.tuple (ps.map j3))),ξ (.v (kd K)),ξ (.v (.int i)),ξ (.v (fnL be)),ζ,ζ,ζ,ζ] (ps.map j3)).bind _=_;rw [c0]
  rfl
 refine K2 (n:=3) ?_
 show a0Z i _ (G8 RAb RAc RBe RDo RDy RTu RLa [ξ (.v (.tuple (ps.map j3))),ξ (.v (kd K)),ξ (.v (.int i)),ξ (.v (fnL be)),ζ,ζ,ζ])
 unfold G8
 cases hs:a1s K ps with
 |inr q=>
  rw [hs] at c1
  refine⟨[ξ (.v (.tuple (ps.map j3))),ξ (.v (kd K)),ξ (.v (.int i)),ξ (.v (fnL be)),ζ,ζ,ζ],M0 ?_⟩
  unfold u9
  rw [c1]
  rfl
 |inl ds=>
  rw [hs] at c1
  have hn:ds≠[]:=λz=>by
   rw [z] at hs;cases ps with
   |nil=>exact h0 rfl
   |cons p ps=>
    rw [a1s] at hs;cases h1:E2 K p with
    |inr _=>rw [h1] at hs;cases hs
    |inl _=>
     rw [h1] at hs;cases h2:a1s K ps with
     |inr _=>rw [h2] at hs;cases hs
     |inl _=>rw [h2] at hs;cases hs
  cases ds with
  |nil=>exact absurd rfl hn
  |cons x ds=>
   rw [T1 (ρ':=[ξ (.v (.tuple (ps.map j3))),ξ (.v (kd K)),ξ (.v (.int i)),ξ (.v (fnL be)),ξ (.own ((x::ds).map PR)),ζ,ζ]) (by unfold u9;rw [c1];rfl)]
   rw [T1 (ρ':=[ξ (.v (.tuple (ps.map j3))),ξ (.v (kd K)),ξ (.v (.int i)),ξ (.v (fnL be)),ξ (.own ((x::ds).map PR)),ξ (.v (PR x)),ζ]) (xup (a01 (p:=PR x) (two (r:= .bor ((x::ds).map PR)) (q:= .v (.int 0)) rfl rfl (at0 (.inl rfl)))))]
   have e0:a3n (M1 (a5 4) (O2 (mC (.int 1))) Q5) [ξ (.v (.tuple (ps.map j3))),ξ (.v (kd K)),ξ (.v (.int i)),ξ (.v (fnL be)),ξ (.own ((x::ds).map PR)),ξ (.v (PR x)),ζ]=ξ (ds.map PR):=by
    show ξ (cut (PR x::ds.map PR) (ξ 1) ζ)=ξ (ds.map PR);unfold cut HT.sIx;simp;exact List.take_of_length_le (by simp)
   show a0Z i (a33 be x ds) _
   rcases a7c be (s0:=ξ (.v (.tuple (ps.map j3)))) (s1:=ξ (.v (kd K))) (s4:=ξ (.own ((x::ds).map PR))) (i:=i) ds x ζ with⟨y,q6,h1,h2⟩|⟨e,ρ,h1,h2⟩
   ·rw [h1,T1 (ρ':=[ξ (.v (.tuple (ps.map j3))),ξ (.v (kd K)),ξ (.v (.int i)),ξ (.v (fnL be)),ξ (.own ((x::ds).map PR)),ξ (.v (PR y)),q6]) (by unfold a0p;rw [e0];exact h2)]
    rfl
   ·rw [h1]
    exact⟨ρ,M0 (by unfold a0p;rw [e0];exact h2)⟩
theorem b23{m p:Mo}{o:Sz}{i:Int}{q3:List (Option c6)}(hm:(∃k,m= .across k p)\/(∃k,m= .down k p)\/(∃w,m= .turned w p)\/∃a b,m= .dyed a b p)(h:b0z t6 t5 RBe RAb RAc RDo RTu RDy p [j3 p,kd K,.int i]=ξ (toX i o)):
 U5 (c0O t6 t5 RBe RAb RAc RDo RTu RDy) (AD "size") (m1 (L4 b8d (AD "part")) (a5 0)) (a4 (a5 1) (a4 (a5 2) a8)) (ξ (.v (j3 m))::ξ (.v (kd K))::ξ (.v (.int i))::q3)=ξ (toX i o):=(a9b (qs:=[kd K,.int i]) (a94 (b6A hm)) rfl).trans h
end
def c1e(n:Nat)(m:Mo):RX:=b0z t6 t5 (Y4 n) (a0A n) (Y3 n) (a1g n) (Y5 n) (a1h n) m
theorem b6e{K:NL y8}(i:Int):∀(n:Nat) (m:Mo),D1 m->2*u5 m<=n->c1e n m [j3 m,kd K,.int i]=ξ (toX i (E2 K m)):=by
 intro n
 induction n using Nat.strongRecOn with
 |ind n ih=>
  intro m ok hd;have hp:=a5I m;obtain⟨n,rfl⟩:∃k,n=k+2:=⟨n - 2,by lia⟩
  cases m with
  |plain R=>
   ext w
   obtain⟨v,v1,v2,v3,v4,v5⟩:=ok;rw [E2];cases R with
   |nil=>simp at v3
   |cons r R=>
    have hr:=v5 r Aa;have gl:K7 (.v (.tuple ((r::R).map row)))=ξ (.v (.int (((r::R).length:Nat):Int))):=by
     show ξ _=_;rw [AX]
    have e1:a4G [.tuple ((r::R).map row)]=ξ (.v (PR ((r::R).length,r.length))):=c1d (b55 (one (r:= .v (.tuple ((r::R).map row))) rfl gl) (one (two (r:= .v (.tuple ((r::R).map row))) (q:= .v (.int 0)) rfl rfl (at0 (.inr rfl))) (a3V (by lia))))
    refine K2 (n:=0) ?_;show a0Z i _ (a03 [ξ (.v (j3 (.plain (r::R)))),ξ (.v (kd K)),ξ (.v (.int i))]);unfold a03;exact xup (U7 ((D7 (a94 (b6B _))).trans e1))
  |named w=>
   rw [E2];have nm:∀ρ,m1 (L4 [AD "Named"] (AD "name")) (a5 0) (ξ (.v (j3 (.named w)))::ρ)=ξ (.v (row w)):=λρ=>a94 (b6z w);have tw:=b56 (i:=1) (ρ:=[ξ (.v (j3 (.named w))),ξ (.v (kd K)),ξ (.v (.int i))]) rfl (a9r PR K);have t:b0h true 1 (m1 (L4 [AD "Named"] (AD "name")) (a5 0)) [ξ (.v (j3 (.named w))),ξ (.v (kd K)),ξ (.v (.int i))]=ξ (.v (.bool (!((V2 K w).map PR).isSome))):=by
    unfold b0h;rw [nm];show(tvw 1 _).bind _=_;rw [tw,AR,a41]
    rfl
   refine K2 (n:=0) ?_;show a0Z i _ (a02 [ξ (.v (j3 (.named w))),ξ (.v (kd K)),ξ (.v (.int i))]);unfold a02;cases e:V2 K w with
   |none=>
    rw [e] at t;refine⟨[ξ (.v (j3 (.named w))),ξ (.v (kd K)),ξ (.v (.int i))],M0 ((a7f (by unfold r6;rw [t];rfl)).trans ?_)⟩
    unfold a5o;rw [k7 (q:= .v (.int i)) (p:= .int i) rfl rfl (k7 (nm _) rfl rfl)]
    rfl
   |some d=>
    rw [e] at t;have g:a9a 1 (m1 (L4 [AD "Named"] (AD "name")) (a5 0)) [ξ (.v (j3 (.named w))),ξ (.v (kd K)),ξ (.v (.int i))]=ξ (.v (PR d)):=by
     unfold a9a;rw [nm];show(tvw 1 _).bind _=_;rw [tw,AR,a41,e]
     rfl
    rw [a8C (by unfold r6;rw [t];rfl)]
    exact xup (U7 g)
  |beside ps=>
   ext w
   rw [u5] at hd;rw [E2];have hw:U4 (n+1) [.tuple (ps.map j3),kd K,.int i,fnL true]=ξ (toX i (bE (a1s K ps) (a2X true))):=b0U true (by intro e;rw [e] at ok;simp at ok) ok.2.1 λp hp=>ih n (by lia) p (O3 ok.2.2 hp) (by have:=N3 hp;lia)
   refine K2 (n:=0) ?_;show a0Z i _ (R5 _ _ _ _ _ _ _ [ξ (.v (j3 (.beside ps))),ξ (.v (kd K)),ξ (.v (.int i))]);unfold R5;refine b0V ?_;unfold G1;rw [k7 (a94 (b3t ps)) rfl rfl];exact hw
  |above ps=>
   ext w
   rw [u5] at hd;rw [E2];have hw:U4 (n+1) [.tuple (ps.map j3),kd K,.int i,fnL false]=ξ (toX i (bE (a1s K ps) (a2X false))):=b0U false (by intro e;rw [e] at ok;simp at ok) ok.2.1 λp hp=>ih n (by lia) p (O3 ok.2.2 hp) (by have:=N3 hp;lia)
   refine K2 (n:=0) ?_;show a0Z i _ (W0 _ _ _ _ _ _ _ [ξ (.v (j3 (.above ps))),ξ (.v (kd K)),ξ (.v (.int i))]);unfold W0;refine b0V ?_;unfold G1;rw [k7 (a94 (b3s ps)) rfl rfl];exact hw
  |across k p=>
   ext w
   rw [u5] at hd;rw [E2];have hp':=ih (n+1) (by lia) p ok.2.2 (by lia)
   refine K2 (n:=1) ?_;show a0Z i _ (R4 _ _ _ _ _ _ _ [ξ (.v (j3 (.across k p))),ξ (.v (kd K)),ξ (.v (.int i)),ζ]);unfold R4;refine b9Y (b23 (.inl ⟨k,rfl⟩) hp') (λe he=>by rw [he];rfl) λx he=> ?_
   rw [he];refine b0V ?_;have ea:a4 (m2 i9 (a5 3) (mC (.int 0))) (a4 (m2 m8 (m2 i9 (a5 3) (mC (.int 1))) (m1 (L4 [AD "Across",AD "Down"] (AD "many")) (a5 0))) (a4 (a5 2) a8)) [ξ (.v (j3 (.across k p))),ξ (.v (kd K)),ξ (.v (.int i)),ξ (.v (PR x))]=ξ [.int (x.1:Nat),.int ((x.2*k:Nat):Int),.int i]:=k7 (q:= .v (.int (x.1:Nat))) rfl rfl (k7 (q:= .v (.int ((x.2:Nat)*(k:Nat)))) (mlv (x:=(x.2:Nat)) rfl (a94 (b4K k p)) (by lia)) (by rw [Int.natCast_mul];rfl) (k7 (q:= .v (.int i)) rfl rfl rfl))
   show(a4 _ _ [ξ (.v (j3 (.across k p))),ξ (.v (kd K)),ξ (.v (.int i)),ξ (.v (PR x))]).bind _=_;rw [ea];exact a5T _ _ i
  |down k p=>
   ext w
   rw [u5] at hd;rw [E2];have hp':=ih (n+1) (by lia) p ok.2.2 (by lia)
   refine K2 (n:=1) ?_;show a0Z i _ (a0d _ _ _ _ _ _ _ [ξ (.v (j3 (.down k p))),ξ (.v (kd K)),ξ (.v (.int i)),ζ]);unfold a0d;refine b9Y (b23 (.inr (.inl ⟨k,rfl⟩)) hp') (λe he=>by rw [he];rfl) λx he=> ?_
   rw [he];refine b0V ?_;have ea:a4 (m2 m8 (m2 i9 (a5 3) (mC (.int 0))) (m1 (L4 [AD "Across",AD "Down"] (AD "many")) (a5 0))) (a4 (m2 i9 (a5 3) (mC (.int 1))) (a4 (a5 2) a8)) [ξ (.v (j3 (.down k p))),ξ (.v (kd K)),ξ (.v (.int i)),ξ (.v (PR x))]=ξ [.int ((x.1*k:Nat):Int),.int (x.2:Nat),.int i]:=k7 (q:= .v (.int ((x.1:Nat)*(k:Nat)))) (mlv (x:=(x.1:Nat)) rfl (a94 (b4J k p)) (by lia)) (by rw [Int.natCast_mul];rfl) (k7 (q:= .v (.int (x.2:Nat))) rfl rfl (k7 (q:= .v (.int i)) rfl rfl rfl))
   show(a4 _ _ [ξ (.v (j3 (.down k p))),ξ (.v (kd K)),ξ (.v (.int i)),ξ (.v (PR x))]).bind _=_;rw [ea];exact a5T _ _ i
  |turned w p=>
   ext w
   rw [u5] at hd;rw [E2];have hp':=ih (n+1) (by lia) p ok.2 (by lia)
   have t:a97 false (.v (row w)) (.v K4)=ξ (.v (.bool (a6C w))):=by
    have h2:w=[116,117,114,110]\/w=[104,97,108,102]\/w=[98,97,99,107]\/w=[115,105,100,101]\/w=[102,108,105,112]\/w=[99,114,111,115,115]\/w=[111,116,104,101,114]:=by
     simpa [a24] using ok.1
    rcases h2 with rfl|rfl|rfl|rfl|rfl|rfl|rfl<;>rfl
   refine K2 (n:=1) ?_;show a0Z i _ (R6 _ _ _ _ _ _ _ [ξ (.v (j3 (.turned w p))),ξ (.v (kd K)),ξ (.v (.int i)),ζ]);unfold R6;refine b9Y (b23 (.inr (.inr (.inl ⟨w,rfl⟩))) hp') (λe he=>by rw [he];rfl) λx he=> ?_
   rw [he];have t2:r6 (m2 (a97 false) (m1 (L4 [AD "Turned"] (AD "way")) (a5 0)) (mC K4)) [ξ (.v (j3 (.turned w p))),ξ (.v (kd K)),ξ (.v (.int i)),ξ (.v (PR x))]=ξ (a6C w):=D3 (a94 (b8N w p)) rfl t;show a0Z i (.inl (b0Q w x)) _;unfold b0Q;cases hv:a6C w with
   |true=>rw [hv] at t2;exact xup (m3 t2 rfl)
   |false=>rw [hv] at t2;exact xup ((b4 t2).trans rfl)
  |dyed a b p=>
   ext w
   rw [u5] at hd;rw [E2];refine K2 (n:=0) ?_;show a0Z i _ (a0e _ _ _ _ _ _ _ [ξ (.v (j3 (.dyed a b p))),ξ (.v (kd K)),ξ (.v (.int i))]);unfold a0e;exact b0V (b23 (q3:=[]) (.inr (.inr (.inr ⟨a,b,rfl⟩))) (ih (n+1) (by lia) p ok.2.2 (by lia)))
theorem b6f{K:NL y8}{m:Mo}(ok:D1 m)(dp:u5 m<=8)(i:Int):J5 [j3 m,kd K,.int i]=ξ (toX i (E2 K m)):=by
 refine K2 (n:=0) ?_;show a0Z i _ (a1K [ξ (.v (j3 m)),ξ (.v (kd K)),ξ (.v (.int i))]);unfold a1K;exact b0V ((a9b (m:=m) (qs:=[kd K,.int i]) rfl rfl).trans (b6e i 20 m ok (by lia)))
def stN(w:List Nat)(m:Mo):Nat->NL y8->List y8->(NL y8×List y8)⊕ Er
 |0,K,T=> .inl (K,T)
 |n+1,K,T=>match E2 K m with
  | .inl d=>stN w m n (a1x K w d) (T++[d])
  | .inr e=> .inr e
def b0F(r:Rw)(K:NL y8)(T:List y8):(NL y8×List y8)⊕ Er:=if(r.isA &&(V2 K r.nm).isNone)=true then .inr (.nm r.nm) else stN r.nm r.mo r.cnt K T
def prD(m:Mo):List Rw->Nat->NL y8->List y8->List y8 ⊕(Er×Nat)
 |[],k,K,T=>match E2 K m with
  | .inl d=> .inl (T++[d])
  | .inr e=> .inr (e,k)
 |r::rs,k,K,T=>match b0F r K T with
  | .inl (K',T')=>prD m rs (k+1) K' T'
  | .inr e=> .inr (e,k)
theorem ix1(f:Mo->PV)(r:Rw){x:M}{ρ:b0}(h:x ρ=ξ (.v (u0 f r))):m2 i9 x (L6 (mC (.int 1))) ρ=ξ (.v (f r.mo)):=by
 cases r with
 |lt w m=>exact a3p (ps:=[.str (AD "let"),row w]) h
 |ag k w m=>exact a3p (ps:=[.str (AD "again"),.int (k:Nat),row w]) h
theorem ix2(f:Mo->PV)(r:Rw){x:M}{ρ:b0}(h:x ρ=ξ (.v (u0 f r))):m2 i9 x (L6 (mC (.int 2))) ρ=ξ (.v (row r.nm)):=by
 cases r with
 |lt w m=>exact two (q:= .v (.int (-2))) h rfl rfl
 |ag k w m=>exact two (q:= .v (.int (-2))) h rfl rfl
theorem b2L(f:Mo->PV)(r:Rw){x:M}{ρ:b0}(h:x ρ=ξ (.v (u0 f r))):r6 (m2 gNe (m2 i9 x (mC (.int 0))) (mC (.str (AD "knot")))) ρ=ξ true:=by
 cases r with
 |lt w m=>exact D3 (r:= .v (.str (AD "let"))) (two (q:= .v (.int 0)) h rfl rfl) rfl rfl
 |ag k w m=>exact D3 (r:= .v (.str (AD "again"))) (two (q:= .v (.int 0)) h rfl rfl) rfl rfl
theorem a3Z(f:Mo->PV)(r:Rw){x:M}{ρ:b0}(h:x ρ=ξ (.v (u0 f r))):r6 (m2 D6 (m2 i9 x (mC (.int 0))) (mC (.str (AD "again")))) ρ=ξ r.isA:=by
 cases r with
 |lt w m=>exact D3 (r:= .v (.str (AD "let"))) (two (q:= .v (.int 0)) h rfl rfl) rfl rfl
 |ag k w m=>exact D3 (r:= .v (.str (AD "again"))) (two (q:= .v (.int 0)) h rfl rfl) rfl rfl
theorem b53(r:Rw):Q2 [u0 j3 r]=ξ (.v (.int (r.cnt:Nat))):=by
 have t:=a3Z j3 r (x:=a5 0) (ρ:=[ξ (.v (u0 j3 r))]) rfl;refine C5 (n:=0) ?_;show a3b [ξ (.v (u0 j3 r))]=_;unfold a3b;cases r with
 |lt w m=>exact(b4 t).trans rfl
 |ag k w m=>exact m3 t rfl
theorem b2S{w:List Nat}{m:Mo}:∀{n:Nat} {K K':NL y8} {T T':List y8},stN w m n K T= .inl (K',T')->K'.length<=K.length+n/\T'.length<=T.length+n
 |0,K,K',T,T',h=>by cases h;exact⟨AQ _,AQ _⟩
 |n+1,K,K',T,T',h=>by
  rw [stN] at h;cases e:E2 K m with
  |inr q=>rw [e] at h;cases h
  |inl d=>
   rw [e] at h;have:=b2S h;have hp:=a4c K w d;rw [AW,List.length_singleton] at this;exact⟨by lia,by lia⟩
abbrev P5(s0:Option c6)(K:NL y8)(T:List y8)(s3 s4 s5 q6 q7:Option c6):b0:=[s0,ξ (.ow (.txt (dN PR K))),ξ (.own (T.map PR)),s3,s4,s5,q6,q7]
theorem b8G(o:Sz):(c6.v (Z8 o)).noK=true:=by rcases o with d|(w|_|_)<;>rfl
theorem b2m{K:NL y8}{m:Mo}(ok:D1 m)(dp:u5 m<=8){ρ:b0}{rv:PV}(h1:ρ[1]?=ξ (ξ (.ow (.txt (dN PR K)))))(hm:m2 i9 (a5 4) (L6 (mC (.int 1))) ρ=ξ (.v (i0 m))):S5 u8 1 (m2 i9 (a5 4) (L6 (mC (.int 1)))) ρ=ξ (.v (Z8 (E2 K m))):=a73 h1 hm (a13 K 12 m ok (by lia)) (b8G _)
theorem b70{r:Rw}(o:OkR r){s0 s5:Option c6}{i:Int}:∀(n:Nat) (is:List PV),is.length=n->∀(K:NL y8) (T:List y8) (q6 q7:Option c6),K.length+n<=400->T.length+n<=400->
 (match stN r.nm r.mo n K T with
 | .inl (K',T')=>∃q6' q7',v7 g7 (d7 6) is (P5 s0 K T (ξ (.v (.int i))) (ξ (.v (u0 i0 r))) s5 q6 q7)=ξ (.nx (P5 s0 K' T' (ξ (.v (.int i))) (ξ (.v (u0 i0 r))) s5 q6' q7'))
 | .inr e=>∃L:List y8,v7 g7 (d7 6) is (P5 s0 K T (ξ (.v (.int i))) (ξ (.v (u0 i0 r))) s5 q6 q7)=ξ (.rt (.v (.tuple [.list (L.map PR),evE e,.int i]))))
 |0,[],_,K,T,q6,q7,_,_=>⟨q6,q7,rfl⟩
 |n+1,j::is,hi,K,T,q6,q7,hK,hT=>by
  have hp:∀d,(a1x K r.nm d).length<=K.length+1:=λd=>a4c K r.nm d;have e1:S5 u8 1 (m2 i9 (a5 4) (L6 (mC (.int 1)))) (P5 s0 K T (ξ (.v (.int i))) (ξ (.v (u0 i0 r))) s5 (ξ (.v j)) q7)=ξ (.v (Z8 (E2 K r.mo))):=b2m (rv:= .none) o.ok o.dp rfl (ix1 i0 r rfl);have t1:=U2 (S2 (x:=a5 7) (ρ:=P5 s0 K T (ξ (.v (.int i))) (ξ (.v (u0 i0 r))) s5 (ξ (.v j)) (ξ (.v (Z8 (E2 K r.mo))))) ⟨E2 K r.mo,rfl⟩ rfl);have fe:v7 g7 (d7 6) (j::is) (P5 s0 K T (ξ (.v (.int i))) (ξ (.v (u0 i0 r))) s5 q6 q7)=(g7 (P5 s0 K T (ξ (.v (.int i))) (ξ (.v (u0 i0 r))) s5 (ξ (.v j)) q7)).bind (λfl=>match fl with
   | .nx ρ2=>v7 g7 (d7 6) is ρ2
   | .ct ρ2=>v7 g7 (d7 6) is ρ2
   | .bk ρ2=>ξ (.nx ρ2)
   | .rt r=>ξ (.rt r)):=by
   rw [v7]
   rfl
  rw [stN];cases es:E2 K r.mo with
  |inr e=>
   rw [es] at t1 e1;have t8:isS (Z8 (.inr e))=true:=by cases e<;>rfl
   rw [t8] at t1;refine⟨T, ?_⟩;rw [fe];have hb:g7 (P5 s0 K T (ξ (.v (.int i))) (ξ (.v (u0 i0 r))) s5 (ξ (.v j)) q7)=ξ (.rt (.v (.tuple [.list (T.map PR),evE e,.int i]))):=by
    unfold g7;exact(g5 e1).trans (O5 t1 rfl)
   rw [hb]
   rfl
  |inl d=>
   rw [es] at t1 e1;have hb:g7 (P5 s0 K T (ξ (.v (.int i))) (ξ (.v (u0 i0 r))) s5 (ξ (.v j)) q7)=ξ (.nx (P5 s0 (a1x K r.nm d) (T++[d]) (ξ (.v (.int i))) (ξ (.v (u0 i0 r))) s5 (ξ (.v j)) (ξ (.v (PR d))))):=by
    unfold g7;refine(g5 e1).trans ((b4 t1).trans ?_)
    ext i
    refine(a0n (b2L i0 r rfl)).trans ?_;rw [b1W PR (A:=K) (w:=r.nm) (a:=d) (by lia) rfl (ix2 i0 r rfl) rfl]
    unfold P5;rw [Ao]
    rfl
   have z:=b70 o (s0:=s0) (s5:=s5) (i:=i) n is (by simpa using hi) (a1x K r.nm d) (T++[d]) (ξ (.v j)) (ξ (.v (PR d))) (by have:=hp d;lia) (by rw [AW,List.length_singleton];lia)
   show match stN r.nm r.mo n (a1x K r.nm d) (T++[d]) with| .inl (K',T')=>_| .inr e=>_
   rw [fe,hb,AR];exact z
theorem b8x{r:Rw}(o:OkR r){s0:Option c6}{i:Int}{K:NL y8}{T:List y8}(hK:K.length<=390)(hT:T.length<=390)(q6 q7:Option c6):match stN r.nm r.mo r.cnt K T with
 | .inl (K',T')=>∃q6' q7',O1 (B7 (a4 (a5 5) a8)) (d7 6) g7 (P5 s0 K T (ξ (.v (.int i))) (ξ (.v (u0 i0 r))) (ξ (.v (.int (r.cnt:Nat)))) q6 q7)=ξ (.nx (P5 s0 K' T' (ξ (.v (.int i))) (ξ (.v (u0 i0 r))) (ξ (.v (.int (r.cnt:Nat)))) q6' q7'))
 | .inr e=>∃L:List y8,O1 (B7 (a4 (a5 5) a8)) (d7 6) g7 (P5 s0 K T (ξ (.v (.int i))) (ξ (.v (u0 i0 r))) (ξ (.v (.int (r.cnt:Nat)))) q6 q7)=ξ (.rt (.v (.tuple [.list (L.map PR),evE e,.int i]))):=by
 have c8:=o.c8
 have er:B7 (a4 (a5 5) a8) (P5 s0 K T (ξ (.v (.int i))) (ξ (.v (u0 i0 r))) (ξ (.v (.int (r.cnt:Nat)))) q6 q7)=ξ ((Ab r.cnt).map λk=> .int (k:Nat)):=J8 rfl (by lia)
 have z:=b70 o (s0:=s0) (s5:=ξ (.v (.int (r.cnt:Nat)))) (i:=i) r.cnt ((Ab r.cnt).map λk=> .int (k:Nat)) (by simp) K T q6 q7 (by lia) (by lia)
 unfold O1
 rw [er]
 exact z
theorem b8y{r:Rw}(o:OkR r){R:List PV}{k:Nat}(hR:R[k]?=ξ (u0 i0 r)){K:NL y8}{T:List y8}(hK:K.length<=390)(hT:T.length<=390)(q4 q5 q6 q7:Option c6):match b0F r K T with
 | .inl (K',T')=>∃q5' q6' q7',i4 (P5 (ξ (.v (.list R))) K T (ξ (.v (.int (k:Nat)))) q4 q5 q6 q7)=ξ (.nx (P5 (ξ (.v (.list R))) K' T' (ξ (.v (.int (k:Nat)))) (ξ (.v (u0 i0 r))) q5' q6' q7'))
 | .inr e=>∃L:List y8,i4 (P5 (ξ (.v (.list R))) K T (ξ (.v (.int (k:Nat)))) q4 q5 q6 q7)=ξ (.rt (.v (.tuple [.list (L.map PR),evE e,.int (k:Nat)]))):=by
 have e0:m2 i9 (a5 0) (a5 3) (P5 (ξ (.v (.list R))) K T (ξ (.v (.int (k:Nat)))) q4 q5 q6 q7)=ξ (.v (u0 i0 r)):=two rfl rfl (a3U (by rw [a7Y];exact hR))
 have z:=b8x o (s0:=ξ (.v (.list R))) (i:=(k:Nat)) hK hT q6 q7
 cases r with
 |lt w m=>
  have t1:=a3Z i0 (.lt w m) (x:=a5 4) (ρ:=P5 (ξ (.v (.list R))) K T (ξ (.v (.int (k:Nat)))) (ξ (.v (u0 i0 (.lt w m)))) (ξ (.v (.int 1))) q6 q7) rfl
  have go:i4 (P5 (ξ (.v (.list R))) K T (ξ (.v (.int (k:Nat)))) q4 q5 q6 q7)=O1 (B7 (a4 (a5 5) a8)) (d7 6) g7 (P5 (ξ (.v (.list R))) K T (ξ (.v (.int (k:Nat)))) (ξ (.v (u0 i0 (.lt w m)))) (ξ (.v (.int 1))) q6 q7):=by
   unfold i4;refine(g5 e0).trans ((g5 (p:= .int 1) rfl).trans ?_);exact b4 t1
  rw [go]
  show match stN w m 1 K T with| .inl (K',T')=>_| .inr e=>_
  have z:match stN w m 1 K T with
   | .inl (K',T')=>∃q6' q7',O1 (B7 (a4 (a5 5) a8)) (d7 6) g7 (P5 (ξ (.v (.list R))) K T (ξ (.v (.int (k:Nat)))) (ξ (.v (u0 i0 (.lt w m)))) (ξ (.v (.int 1))) q6 q7)=ξ (.nx (P5 (ξ (.v (.list R))) K' T' (ξ (.v (.int (k:Nat)))) (ξ (.v (u0 i0 (.lt w m)))) (ξ (.v (.int 1))) q6' q7'))
   | .inr e=>∃L:List y8,O1 (B7 (a4 (a5 5) a8)) (d7 6) g7 (P5 (ξ (.v (.list R))) K T (ξ (.v (.int (k:Nat)))) (ξ (.v (u0 i0 (.lt w m)))) (ξ (.v (.int 1))) q6 q7)=ξ (.rt (.v (.tuple [.list (L.map PR),evE e,.int (k:Nat)]))):=z
  cases hs:stN w m 1 K T with
  |inl p=>
   rw [hs] at z
   obtain⟨q6',q7',z⟩:=z
   exact⟨_,q6',q7',z⟩
  |inr e=>
   rw [hs] at z
   exact z
 |ag c w m=>
  have t1:=a3Z i0 (.ag c w m) (x:=a5 4) (ρ:=P5 (ξ (.v (.list R))) K T (ξ (.v (.int (k:Nat)))) (ξ (.v (u0 i0 (.ag c w m)))) (ξ (.v (.int 1))) q6 q7) rfl
  have t2:r6 (a4N true 1 (m2 i9 (a5 4) (mC (.int 2)))) (P5 (ξ (.v (.list R))) K T (ξ (.v (.int (k:Nat)))) (ξ (.v (u0 i0 (.ag c w m)))) (ξ (.v (.int (c:Nat)))) q6 q7)=ξ (V2 K w).isNone:=by
   show ξ (!(U9 (dN PR K) [.inr (S w)]).isSome)=_;rw [a41];cases V2 K w<;>rfl
  show match(if(true &&(V2 K w).isNone)=true then Sum.inr (Er.nm w) else stN w m c K T) with| .inl (K',T')=>_| .inr e=>_
  rw [Bool.true_and]
  cases hn:(V2 K w).isNone with
  |true=>
   rw [hn] at t2
   rw [if_pos rfl]
   refine⟨T, ?_⟩
   unfold i4
   refine(g5 e0).trans ((g5 (p:= .int 1) rfl).trans (b14 ?_))
   refine(a0n t1).trans ((g5 (p:= .int (c:Nat)) rfl).trans ?_)
   exact(a0n t2).trans rfl
  |false=>
   rw [hn] at t2
   rw [if_neg Af]
   have go:i4 (P5 (ξ (.v (.list R))) K T (ξ (.v (.int (k:Nat)))) q4 q5 q6 q7)=O1 (B7 (a4 (a5 5) a8)) (d7 6) g7 (P5 (ξ (.v (.list R))) K T (ξ (.v (.int (k:Nat)))) (ξ (.v (u0 i0 (.ag c w m)))) (ξ (.v (.int (c:Nat)))) q6 q7):=by
    unfold i4;refine(g5 e0).trans ((g5 (p:= .int 1) rfl).trans (A3 ?_));refine(a0n t1).trans ((g5 (p:= .int (c:Nat)) rfl).trans ?_);exact(a2Z t2).trans rfl
   rw [go]
   have z:match stN w m c K T with
    | .inl (K',T')=>∃q6' q7',O1 (B7 (a4 (a5 5) a8)) (d7 6) g7 (P5 (ξ (.v (.list R))) K T (ξ (.v (.int (k:Nat)))) (ξ (.v (u0 i0 (.ag c w m)))) (ξ (.v (.int (c:Nat)))) q6 q7)=ξ (.nx (P5 (ξ (.v (.list R))) K' T' (ξ (.v (.int (k:Nat)))) (ξ (.v (u0 i0 (.ag c w m)))) (ξ (.v (.int (c:Nat)))) q6' q7'))
    | .inr e=>∃L:List y8,O1 (B7 (a4 (a5 5) a8)) (d7 6) g7 (P5 (ξ (.v (.list R))) K T (ξ (.v (.int (k:Nat)))) (ξ (.v (u0 i0 (.ag c w m)))) (ξ (.v (.int (c:Nat)))) q6 q7)=ξ (.rt (.v (.tuple [.list (L.map PR),evE e,.int (k:Nat)]))):=z
   cases hs:stN w m c K T with
   |inl p=>
    rw [hs] at z
    obtain⟨q6',q7',z⟩:=z
    exact⟨_,q6',q7',z⟩
   |inr e=>
    rw [hs] at z
    exact z
theorem b0G{r:Rw}(o:OkR r){K K':NL y8}{T T':List y8}(h:b0F r K T= .inl (K',T')):K'.length<=K.length+8/\T'.length<=T.length+8:=by
 unfold b0F at h;split at h
 ·cases h
 ·have:=b2S h;have:=o.c8
  lia
theorem b6t{m:Mo}(ok:D1 m)(dp:u5 m<=8){R:List PV}{k:Nat}(hR:R[k]?=ξ (kn i0 m)){K:NL y8}{T:List y8}(hT:T.length<=390)(q4 q5 q6 q7:Option c6):match E2 K m with
 | .inl d=>∃q4' q5' q6' q7',i4 (P5 (ξ (.v (.list R))) K T (ξ (.v (.int (k:Nat)))) q4 q5 q6 q7)=ξ (.nx (P5 (ξ (.v (.list R))) K (T++[d]) (ξ (.v (.int (k:Nat)))) q4' q5' q6' q7'))
 | .inr e=>∃L:List y8,i4 (P5 (ξ (.v (.list R))) K T (ξ (.v (.int (k:Nat)))) q4 q5 q6 q7)=ξ (.rt (.v (.tuple [.list (L.map PR),evE e,.int (k:Nat)]))):=by
 have e0:m2 i9 (a5 0) (a5 3) (P5 (ξ (.v (.list R))) K T (ξ (.v (.int (k:Nat)))) q4 q5 q6 q7)=ξ (.v (kn i0 m)):=two rfl rfl (a3U (by rw [a7Y];exact hR))
 have er:B7 (a4 (a5 5) a8) (P5 (ξ (.v (.list R))) K T (ξ (.v (.int (k:Nat)))) (ξ (.v (kn i0 m))) (ξ (.v (.int 1))) q6 q7)=ξ ((Ab 1).map λk=> .int (k:Nat)):=J8 rfl (by lia)
 have e1:S5 u8 1 (m2 i9 (a5 4) (L6 (mC (.int 1)))) (P5 (ξ (.v (.list R))) K T (ξ (.v (.int (k:Nat)))) (ξ (.v (kn i0 m))) (ξ (.v (.int 1))) (ξ (.v (.int 0))) q7)=ξ (.v (Z8 (E2 K m))):=b2m (rv:= .none) ok dp rfl (a3p (ps:=[.str (AD "knot")]) rfl)
 have t1:=U2 (S2 (x:=a5 7) (ρ:=P5 (ξ (.v (.list R))) K T (ξ (.v (.int (k:Nat)))) (ξ (.v (kn i0 m))) (ξ (.v (.int 1))) (ξ (.v (.int 0))) (ξ (.v (Z8 (E2 K m))))) ⟨E2 K m,rfl⟩ rfl)
 have go:i4 (P5 (ξ (.v (.list R))) K T (ξ (.v (.int (k:Nat)))) q4 q5 q6 q7)=(g7 (P5 (ξ (.v (.list R))) K T (ξ (.v (.int (k:Nat)))) (ξ (.v (kn i0 m))) (ξ (.v (.int 1))) (ξ (.v (.int 0))) q7)).bind (λfl=>match fl with
  | .nx ρ2=>v7 g7 (d7 6) [] ρ2
  | .ct ρ2=>v7 g7 (d7 6) [] ρ2
  | .bk ρ2=>ξ (.nx ρ2)
  | .rt r=>ξ (.rt r)):=by
  unfold i4
  refine(g5 e0).trans ((g5 (p:= .int 1) rfl).trans ((b4 rfl).trans ?_))
  show O1 _ _ _ (P5 (ξ (.v (.list R))) K T (ξ (.v (.int (k:Nat)))) (ξ (.v (kn i0 m))) (ξ (.v (.int 1))) q6 q7)=_
  unfold O1
  rw [er]
  show v7 g7 (d7 6) [.int 0] _=_
  rw [v7]
  rfl
 cases es:E2 K m with
 |inr e=>
  rw [es] at t1 e1
  have t8:isS (Z8 (.inr e))=true:=by cases e<;>rfl
  rw [t8] at t1
  refine⟨T, ?_⟩
  rw [go,show g7 (P5 (ξ (.v (.list R))) K T (ξ (.v (.int (k:Nat)))) (ξ (.v (kn i0 m))) (ξ (.v (.int 1))) (ξ (.v (.int 0))) q7)=ξ (.rt (.v (.tuple [.list (T.map PR),evE e,.int (k:Nat)]))) from by
   unfold g7;exact(g5 e1).trans (O5 t1 rfl)]
  rfl
 |inl d=>
  rw [es] at t1 e1
  refine⟨ξ (.v (kn i0 m)),ξ (.v (.int 1)),ξ (.v (.int 0)),ξ (.v (PR d)), ?_⟩
  rw [go,show g7 (P5 (ξ (.v (.list R))) K T (ξ (.v (.int (k:Nat)))) (ξ (.v (kn i0 m))) (ξ (.v (.int 1))) (ξ (.v (.int 0))) q7)=ξ (.nx (P5 (ξ (.v (.list R))) K (T++[d]) (ξ (.v (.int (k:Nat)))) (ξ (.v (kn i0 m))) (ξ (.v (.int 1))) (ξ (.v (.int 0))) (ξ (.v (PR d))))) from by
   unfold g7;refine(g5 e1).trans ((b4 t1).trans ?_)
   ext i
   unfold P5;rw [Ao]
   rfl]
  rfl
theorem b2l{m:Mo}(ok:D1 m)(dp:u5 m<=8){R:List PV}:∀(rs:List Rw) (k:Nat) (K:NL y8) (T:List y8) (q3 q4 q5 q6 q7:Option c6),(∀r∈rs,OkR r)->R.drop k=rs.map (u0 i0)++[kn i0 m]->K.length+8*rs.length<=380->T.length+8*rs.length<=380->
 (match prD m rs k K T with
 | .inl T'=>∃K' q3' q4' q5' q6' q7',v7 i4 (d7 3) ((List.range' k (rs.length+1)).map λk=> .int (k:Nat)) (P5 (ξ (.v (.list R))) K T q3 q4 q5 q6 q7)=ξ (.nx (P5 (ξ (.v (.list R))) K' T' q3' q4' q5' q6' q7'))
 | .inr (e,j)=>∃L:List y8,v7 i4 (d7 3) ((List.range' k (rs.length+1)).map λk=> .int (k:Nat)) (P5 (ξ (.v (.list R))) K T q3 q4 q5 q6 q7)=ξ (.rt (.v (.tuple [.list (L.map PR),evE e,.int (j:Nat)]))))
 |[],k,K,T,q3,q4,q5,q6,q7,_,hR,hK,hT=>by
  have hx:R[k]?=ξ (kn i0 m):=by
   have:=congrArg (λl=>l[0]?) hR
   simpa using this
  have z:=b6t ok dp hx (K:=K) (T:=T) (by simp at hT;lia) q4 q5 q6 q7
  have fe:v7 i4 (d7 3) ((List.range' k ([]:List Rw).length.succ).map λk=> .int (k:Nat)) (P5 (ξ (.v (.list R))) K T q3 q4 q5 q6 q7)=(i4 (P5 (ξ (.v (.list R))) K T (ξ (.v (.int (k:Nat)))) q4 q5 q6 q7)).bind (λfl=>match fl with
   | .nx ρ2=>v7 i4 (d7 3) [] ρ2
   | .ct ρ2=>v7 i4 (d7 3) [] ρ2
   | .bk ρ2=>ξ (.nx ρ2)
   | .rt r=>ξ (.rt r)):=by
   show v7 i4 (d7 3) [.int (k:Nat)] _=_
   rw [v7]
   rfl
  rw [prD];cases es:E2 K m with
  |inr e=>
   rw [es] at z;obtain⟨L,z⟩:=z;exact⟨L,by rw [show([]:List Rw).length+1=([]:List Rw).length.succ from rfl,fe,z];rfl⟩
  |inl d=>
   rw [es] at z;obtain⟨q4',q5',q6',q7',z⟩:=z;exact⟨K,_,q4',q5',q6',q7',by rw [show([]:List Rw).length+1=([]:List Rw).length.succ from rfl,fe,z];rfl⟩
 |r::rs,k,K,T,q3,q4,q5,q6,q7,h,hR,hK,hT=>by
  rw [AU] at hK hT;have o:=h r Aa;have hx:R[k]?=ξ (u0 i0 r):=by
   have:=congrArg (λl=>l[0]?) hR
   simpa using this
  have hR2:R.drop (k+1)=rs.map (u0 i0)++[kn i0 m]:=by
   rw [<-List.drop_drop,hR]
   rfl
  have z:=b8y o hx (K:=K) (T:=T) (by lia) (by lia) q4 q5 q6 q7
  have fe:v7 i4 (d7 3) ((List.range' k ((r::rs).length+1)).map λk=> .int (k:Nat)) (P5 (ξ (.v (.list R))) K T q3 q4 q5 q6 q7)=(i4 (P5 (ξ (.v (.list R))) K T (ξ (.v (.int (k:Nat)))) q4 q5 q6 q7)).bind (λfl=>match fl with
   | .nx ρ2=>v7 i4 (d7 3) ((List.range' (k+1) (rs.length+1)).map λk=> .int (k:Nat)) ρ2
   | .ct ρ2=>v7 i4 (d7 3) ((List.range' (k+1) (rs.length+1)).map λk=> .int (k:Nat)) ρ2
   | .bk ρ2=>ξ (.nx ρ2)
   | .rt r=>ξ (.rt r)):=by
   rw [AU,List.range'_succ,AS,v7]
   rfl
  rw [prD];cases es:b0F r K T with
  |inr e=>
   rw [es] at z;obtain⟨L,z⟩:=z;exact⟨L,by rw [fe,z];rfl⟩
  |inl p=>
   obtain⟨K',T'⟩:=p;rw [es] at z;obtain⟨q5',q6',q7',z⟩:=z;have hl:=b0G o es;have y:=b2l ok dp (R:=R) rs (k+1) K' T' (ξ (.v (.int (k:Nat)))) (ξ (.v (u0 i0 r))) q5' q6' q7' (λx hx=>h x (AY _ hx)) hR2 (by lia) (by lia)
   rw [fe,z,AR];exact y
theorem b8z{m:Mo}(ok:D1 m)(dp:u5 m<=8){rs:List Rw}(h:∀r∈rs,OkR r)(hl:rs.length<=39):match prD m rs 0 [] [] with
 | .inl T=>a2w [.list (rs.map (u0 i0)++[kn i0 m])]=ξ (.v (.tuple [.list (T.map PR),.none,.int 0]))
 | .inr (e,j)=>∃L:List y8,a2w [.list (rs.map (u0 i0)++[kn i0 m])]=ξ (.v (.tuple [.list (L.map PR),evE e,.int (j:Nat)])):=by
 have z:=b2l ok dp (R:=rs.map (u0 i0)++[kn i0 m]) rs 0 [] [] ζ ζ ζ ζ ζ h rfl (by simp;lia) (by simp;lia)
 obtain⟨R,hR⟩:∃R,R=rs.map (u0 i0)++[kn i0 m]:=⟨_,rfl⟩
 rw [<-hR] at z ⊢
 have lR:R.length=rs.length+1:=by rw [hR];simp
 have er:B7 (a4 (m1 K7 (a5 0)) a8) (P5 (ξ (.v (.list R))) [] [] ζ ζ ζ ζ ζ)=ξ ((Ab (rs.length+1)).map λk=> .int (k:Nat)):=J8 (one (r:= .v (.list R)) rfl (by rw [<-lR];exact a2t _)) (by lia)
 rw [List.range_eq_range'] at er
 have st:∀f,v7 i4 (d7 3) ((List.range' 0 (rs.length+1)).map λk=> .int (k:Nat)) (P5 (ξ (.v (.list R))) [] [] ζ ζ ζ ζ ζ)=ξ (.rt f)->a0K [ξ (.v (.list R)),ζ,ζ,ζ,ζ,ζ,ζ,ζ]=ξ (.rt f):=λf hf=>by
  unfold a0K;refine(A3 (ρ':=[ξ (.v (.list R)),ξ (.ow (.txt [])),ζ,ζ,ζ,ζ,ζ,ζ]) rfl).trans ?_;refine(B8 (l:=[]) rfl).trans ?_;exact b4N er hf
 cases hp:prD m rs 0 [] [] with
 |inr p=>
  obtain⟨e,j⟩:=p
  rw [hp] at z
  obtain⟨L,z⟩:=z
  exact⟨L,C5 (n:=7) (st _ z)⟩
 |inl T=>
  rw [hp] at z
  obtain⟨K',q3',q4',q5',q6',q7',z⟩:=z
  refine C5 (n:=7) ?_
  show a0K [ξ (.v (.list R)),ζ,ζ,ζ,ζ,ζ,ζ,ζ]=_
  unfold a0K
  refine(A3 (ρ':=[ξ (.v (.list R)),ξ (.ow (.txt [])),ζ,ζ,ζ,ζ,ζ,ζ]) rfl).trans ?_
  refine(B8 (l:=[]) rfl).trans ?_
  exact(a1b er z).trans rfl
def bg1:MX:=D9 (u9 7 (a37 2 (y6 [(AD "size_step",J5)] 1 (a4 (m2 i9 (a5 5) (L6 (mC (.int 1)))) (a4 (a5 2) (a4 (a5 4) a8))))))
 (Q6 (g8 (L8 3 (a5 7))
 (n3 (r6 (m2 gNe (m2 i9 (a5 5) (mC (.int 0))) (mC (.str (AD "knot"))))) (a5l 2 (m2 i9 (a5 5) (L6 (mC (.int 2)))) (a5 7)) j0)))
def bg2:MX:=D9 (a2I (K6 (r6 (m2 D6 (m2 i9 (a5 5) (mC (.int 0))) (mC (.str (AD "again"))))) (r6 (a4N true 2 (m2 i9 (a5 5) (mC (.int 2)))))) (a5o (AD "NoName") [AD "row",AD "name"] (a4 (a5 4) (a4 (m2 i9 (a5 5) (mC (.int 2))) a8))) (Q6 j0))
 (a0p (B7 (a4 (i6 Q2 (a4 (a5 5) a8)) a8)) (d7 6) bg1)
abbrev V1(s0:Option c6)(K:NL y8)(T:List y8)(s4 s5 q6 q7:Option c6):b0:=[s0,ξ (.v (T8 (AD "size_step"))),ξ (.ow (.txt (dN PR K))),ξ (.own (T.map PR)),s4,s5,q6,q7]
theorem b9c(i:Int)(e:Er):nkF (xt i e).fs=true:=by cases e<;>rfl
theorem b2z{K:NL y8}{m:Mo}(ok:D1 m)(dp:u5 m<=8){s0 q6 q7:Option c6}{T:List y8}{i:Int}{rv:PV}(hm:∀ρ:b0,ρ[5]?=ξ (ξ (.v rv))->m2 i9 (a5 5) (L6 (mC (.int 1))) ρ=ξ (.v (j3 m))):
 a37 2 (y6 [(AD "size_step",J5)] 1 (a4 (m2 i9 (a5 5) (L6 (mC (.int 1)))) (a4 (a5 2) (a4 (a5 4) a8)))) (V1 s0 K T (ξ (.v (.int i))) (ξ (.v rv)) q6 q7)=ξ (toX i (E2 K m)):=by
 have e:y6 [(AD "size_step",J5)] 1 (a4 (m2 i9 (a5 5) (L6 (mC (.int 1)))) (a4 (a5 2) (a4 (a5 4) a8))) ((V1 s0 K T (ξ (.v (.int i))) (ξ (.v rv)) q6 q7).set 2 (ξ (.v (tv (dN PR K)))))=ξ (toX i (E2 K m)):=by
  refine(a74 (x:=AD "size_step") (g:=J5) (qs:=[j3 m,kd K,.int i]) rfl rfl ?_).trans (b6f ok dp i);exact k7 (hm _ rfl) rfl (k7 (q:= .v (kd K)) (p:=kd K) rfl rfl (k7 (q:= .v (.int i)) rfl rfl rfl))
 show(y6 _ 1 _ _).bind _=_
 rw [e,AR]
 cases E2 K m with
 |inl d=>rfl
 |inr q=>
  show(if nkF (xt i q).fs=true then ξ (Sum.inr (xt i q)) else ζ)=_
  rw [if_pos (b9c i q)]
  rfl
theorem a2s{body:MX}{tg:PV->b0->Option b0}{p:PV}{ps:List PV}{ρ ρ1:b0}(h:tg p ρ=ξ ρ1):P0 body tg (p::ps) ρ=(body ρ1).bind (λfx=>match fx with
 | .fl (.nx ρ')=>P0 body tg ps ρ'
 | .fl (.ct ρ')=>P0 body tg ps ρ'
 | .fl (.bk ρ')=>ξ (.fl (.nx ρ'))
 | .fl (.rt r)=>ξ (.fl (.rt r))
 | .rz c ρ'=>ξ (.rz c ρ')):=by
 rw [P0,h]
 rfl
theorem b77{r:Rw}(o:OkR r){s0:Option c6}{i:Int}:∀(n:Nat) (is:List PV),is.length=n->∀(K:NL y8) (T:List y8) (q6 q7:Option c6),K.length+n<=400->T.length+n<=400->
 (match stN r.nm r.mo n K T with
 | .inl (K',T')=>∃q6' q7',P0 bg1 (d7 6) is (V1 s0 K T (ξ (.v (.int i))) (ξ (.v (u0 j3 r))) q6 q7)=ξ (.fl (.nx (V1 s0 K' T' (ξ (.v (.int i))) (ξ (.v (u0 j3 r))) q6' q7')))
 | .inr e=>∃ρ,P0 bg1 (d7 6) is (V1 s0 K T (ξ (.v (.int i))) (ξ (.v (u0 j3 r))) q6 q7)=ξ (.rz (xt i e) ρ))
 |0,[],_,K,T,q6,q7,_,_=>⟨q6,q7,rfl⟩
 |n+1,j::is,hi,K,T,q6,q7,hK,hT=>by
  have hp:∀d,(a1x K r.nm d).length<=K.length+1:=λd=>a4c K r.nm d;have e1:=b2z (K:=K) o.ok o.dp (s0:=s0) (q6:=ξ (.v j)) (q7:=q7) (T:=T) (i:=i) (rv:=u0 j3 r) λρ h5=>ix1 j3 r (by unfold a5;rw [h5])
  have fe:=a2s (body:=bg1) (tg:=d7 6) (p:=j) (ps:=is) (ρ:=V1 s0 K T (ξ (.v (.int i))) (ξ (.v (u0 j3 r))) q6 q7) (ρ1:=V1 s0 K T (ξ (.v (.int i))) (ξ (.v (u0 j3 r))) (ξ (.v j)) q7) rfl;rw [stN];cases es:E2 K r.mo with
  |inr e=>
   rw [es] at e1;have hb:bg1 (V1 s0 K T (ξ (.v (.int i))) (ξ (.v (u0 j3 r))) (ξ (.v j)) q7)=ξ (.rz (xt i e) (V1 s0 K T (ξ (.v (.int i))) (ξ (.v (u0 j3 r))) (ξ (.v j)) q7)):=by
    unfold bg1;refine M0 ?_;unfold u9;rw [e1]
    rfl
   refine⟨V1 s0 K T (ξ (.v (.int i))) (ξ (.v (u0 j3 r))) (ξ (.v j)) q7, ?_⟩;rw [fe,hb]
   rfl
  |inl d=>
   rw [es] at e1;have hb:bg1 (V1 s0 K T (ξ (.v (.int i))) (ξ (.v (u0 j3 r))) (ξ (.v j)) q7)=ξ (.fl (.nx (V1 s0 (a1x K r.nm d) (T++[d]) (ξ (.v (.int i))) (ξ (.v (u0 j3 r))) (ξ (.v j)) (ξ (.v (PR d)))))):=by
    unfold bg1;rw [T1 (ρ':=V1 s0 K T (ξ (.v (.int i))) (ξ (.v (u0 j3 r))) (ξ (.v j)) (ξ (.v (PR d)))) (by unfold u9;rw [e1];rfl)]
    refine xup ?_
    ext i
    refine(a0n (b2L j3 r rfl)).trans ?_;rw [b1W PR (A:=K) (w:=r.nm) (a:=d) (by lia) rfl (ix2 j3 r rfl) rfl]
    unfold V1;rw [Ao]
    rfl
   have z:=b77 o (s0:=s0) (i:=i) n is (by simpa using hi) (a1x K r.nm d) (T++[d]) (ξ (.v j)) (ξ (.v (PR d))) (by have:=hp d;lia) (by rw [AW,List.length_singleton];lia)
   show match stN r.nm r.mo n (a1x K r.nm d) (T++[d]) with| .inl (K',T')=>_| .inr e=>_
   rw [fe,hb,AR];exact z
theorem b8V{r:Rw}(o:OkR r){s0:Option c6}{i:Int}{K:NL y8}{T:List y8}(hK:K.length<=390)(hT:T.length<=390)(q6 q7:Option c6):match b0F r K T with
 | .inl (K',T')=>∃q6' q7',bg2 (V1 s0 K T (ξ (.v (.int i))) (ξ (.v (u0 j3 r))) q6 q7)=ξ (.fl (.nx (V1 s0 K' T' (ξ (.v (.int i))) (ξ (.v (u0 j3 r))) q6' q7')))
 | .inr e=>∃ρ,bg2 (V1 s0 K T (ξ (.v (.int i))) (ξ (.v (u0 j3 r))) q6 q7)=ξ (.rz (xt i e) ρ):=by
 have c8:=o.c8
 have er:B7 (a4 (i6 Q2 (a4 (a5 5) a8)) a8) (V1 s0 K T (ξ (.v (.int i))) (ξ (.v (u0 j3 r))) q6 q7)=ξ ((Ab r.cnt).map λk=> .int (k:Nat)):=J8 ((D7 rfl).trans (b53 r)) (by lia)
 have z:=b77 o (s0:=s0) (i:=i) r.cnt ((Ab r.cnt).map λk=> .int (k:Nat)) (by simp) K T q6 q7 (by lia) (by lia)
 have t1:=a3Z j3 r (x:=a5 5) (ρ:=V1 s0 K T (ξ (.v (.int i))) (ξ (.v (u0 j3 r))) q6 q7) rfl
 have t:K6 (r6 (m2 D6 (m2 i9 (a5 5) (mC (.int 0))) (mC (.str (AD "again"))))) (r6 (a4N true 2 (m2 i9 (a5 5) (mC (.int 2))))) (V1 s0 K T (ξ (.v (.int i))) (ξ (.v (u0 j3 r))) q6 q7)=ξ (r.isA &&(V2 K r.nm).isNone):=by
  cases r with
  |lt w m=>
   unfold K6;rw [t1]
   rfl
  |ag k w m=>
   have t2:r6 (a4N true 2 (m2 i9 (a5 5) (mC (.int 2)))) (V1 s0 K T (ξ (.v (.int i))) (ξ (.v (u0 j3 (.ag k w m)))) q6 q7)=ξ (V2 K w).isNone:=by
    show ξ (!(U9 (dN PR K) [.inr (S w)]).isSome)=_;rw [a41];cases V2 K w<;>rfl
   exact b94 t1 t2
 unfold b0F
 cases hb:(r.isA &&(V2 K r.nm).isNone) with
 |true=>
  rw [hb] at t
  rw [if_pos rfl]
  refine⟨V1 s0 K T (ξ (.v (.int i))) (ξ (.v (u0 j3 r))) q6 q7, ?_⟩
  unfold bg2
  refine M0 ((a7f t).trans ?_)
  cases r with
  |lt w m=>cases hb
  |ag k w m=>rfl
 |false=>
  rw [hb] at t
  rw [if_neg Af]
  have go:bg2 (V1 s0 K T (ξ (.v (.int i))) (ξ (.v (u0 j3 r))) q6 q7)=P0 bg1 (d7 6) ((Ab r.cnt).map λk=> .int (k:Nat)) (V1 s0 K T (ξ (.v (.int i))) (ξ (.v (u0 j3 r))) q6 q7):=by
   unfold bg2;rw [a8C t];unfold a0p;rw [er]
   rfl
  rw [go]
  exact z
theorem b6M{m:Mo}(ok:D1 m)(dp:u5 m<=8){s0:Option c6}{i:Int}{K:NL y8}{T:List y8}(hT:T.length<=390)(q6 q7:Option c6):match E2 K m with
 | .inl d=>∃q6' q7',bg2 (V1 s0 K T (ξ (.v (.int i))) (ξ (.v (kn j3 m))) q6 q7)=ξ (.fl (.nx (V1 s0 K (T++[d]) (ξ (.v (.int i))) (ξ (.v (kn j3 m))) q6' q7')))
 | .inr e=>∃ρ,bg2 (V1 s0 K T (ξ (.v (.int i))) (ξ (.v (kn j3 m))) q6 q7)=ξ (.rz (xt i e) ρ):=by
 have er:B7 (a4 (i6 Q2 (a4 (a5 5) a8)) a8) (V1 s0 K T (ξ (.v (.int i))) (ξ (.v (kn j3 m))) q6 q7)=ξ ((Ab 1).map λk=> .int (k:Nat)):=J8 ((D7 rfl).trans (C5 (n:=0) rfl)) (by lia)
 have e1:=b2z (K:=K) ok dp (s0:=s0) (q6:=ξ (.v (.int 0))) (q7:=q7) (T:=T) (i:=i) (rv:=kn j3 m) λρ h5=>a3p (ps:=[.str (AD "knot")]) (by unfold a5;rw [h5];rfl)
 have go:bg2 (V1 s0 K T (ξ (.v (.int i))) (ξ (.v (kn j3 m))) q6 q7)=P0 bg1 (d7 6) [.int 0] (V1 s0 K T (ξ (.v (.int i))) (ξ (.v (kn j3 m))) q6 q7):=by
  unfold bg2;rw [a8C rfl];unfold a0p;rw [er]
  rfl
 rw [go,a2s (ρ1:=V1 s0 K T (ξ (.v (.int i))) (ξ (.v (kn j3 m))) (ξ (.v (.int 0))) q7) rfl]
 cases es:E2 K m with
 |inr e=>
  rw [es] at e1
  refine⟨V1 s0 K T (ξ (.v (.int i))) (ξ (.v (kn j3 m))) (ξ (.v (.int 0))) q7, ?_⟩
  rw [show bg1 (V1 s0 K T (ξ (.v (.int i))) (ξ (.v (kn j3 m))) (ξ (.v (.int 0))) q7)=ξ (.rz (xt i e) (V1 s0 K T (ξ (.v (.int i))) (ξ (.v (kn j3 m))) (ξ (.v (.int 0))) q7)) from by
   unfold bg1;refine M0 ?_;unfold u9;rw [e1]
   rfl]
  rfl
 |inl d=>
  rw [es] at e1
  refine⟨ξ (.v (.int 0)),ξ (.v (PR d)), ?_⟩
  rw [show bg1 (V1 s0 K T (ξ (.v (.int i))) (ξ (.v (kn j3 m))) (ξ (.v (.int 0))) q7)=ξ (.fl (.nx (V1 s0 K (T++[d]) (ξ (.v (.int i))) (ξ (.v (kn j3 m))) (ξ (.v (.int 0))) (ξ (.v (PR d)))))) from by
   unfold bg1;rw [T1 (ρ':=V1 s0 K T (ξ (.v (.int i))) (ξ (.v (kn j3 m))) (ξ (.v (.int 0))) (ξ (.v (PR d)))) (by unfold u9;rw [e1];rfl)]
   refine xup ?_
   ext i
   unfold V1;rw [Ao]
   rfl]
  rfl
theorem b2A{m:Mo}(ok:D1 m)(dp:u5 m<=8){s0:Option c6}:∀(rs:List Rw) (k:Nat) (K:NL y8) (T:List y8) (q4 q5 q6 q7:Option c6),(∀r∈rs,OkR r)->K.length+8*rs.length<=380->T.length+8*rs.length<=380->
 (match prD m rs k K T with
 | .inl T'=>∃K' q4' q5' q6' q7',P0 bg2 (a4o [4,5]) (((rs.map (u0 j3)++[kn j3 m]).zipIdx k).map λx=> .tuple [.int ((x.2:Nat):Int),x.1]) (V1 s0 K T q4 q5 q6 q7)=ξ (.fl (.nx (V1 s0 K' T' q4' q5' q6' q7')))
 | .inr (e,j)=>∃ρ,P0 bg2 (a4o [4,5]) (((rs.map (u0 j3)++[kn j3 m]).zipIdx k).map λx=> .tuple [.int ((x.2:Nat):Int),x.1]) (V1 s0 K T q4 q5 q6 q7)=ξ (.rz (xt (j:Nat) e) ρ))
 |[],k,K,T,q4,q5,q6,q7,_,hK,hT=>by
  have z:=b6M ok dp (s0:=s0) (i:=(k:Nat)) (K:=K) (T:=T) (by simp at hT;lia) q6 q7
  rw [prD];have fe:P0 bg2 (a4o [4,5]) (((([]:List Rw).map (u0 j3)++[kn j3 m]).zipIdx k).map λx=> .tuple [.int ((x.2:Nat):Int),x.1]) (V1 s0 K T q4 q5 q6 q7)=_:=a2s (body:=bg2) (tg:=a4o [4,5]) (p:= .tuple [.int ((k:Nat):Int),kn j3 m]) (ps:=[]) (ρ:=V1 s0 K T q4 q5 q6 q7) (ρ1:=V1 s0 K T (ξ (.v (.int (k:Nat)))) (ξ (.v (kn j3 m))) q6 q7) rfl;cases es:E2 K m with
  |inr e=>
   rw [es] at z;obtain⟨ρ,z⟩:=z;exact⟨ρ,by rw [fe,z];rfl⟩
  |inl d=>
   rw [es] at z;obtain⟨q6',q7',z⟩:=z;exact⟨K,_,_,q6',q7',by rw [fe,z];rfl⟩
 |r::rs,k,K,T,q4,q5,q6,q7,h,hK,hT=>by
  rw [AU] at hK hT;have o:=h r Aa;have z:=b8V o (s0:=s0) (i:=(k:Nat)) (K:=K) (T:=T) (by lia) (by lia) q6 q7
  have fe:=a2s (body:=bg2) (tg:=a4o [4,5]) (p:= .tuple [.int ((k:Nat):Int),u0 j3 r]) (ps:=((rs.map (u0 j3)++[kn j3 m]).zipIdx (k+1)).map λx=> .tuple [.int ((x.2:Nat):Int),x.1]) (ρ:=V1 s0 K T q4 q5 q6 q7) (ρ1:=V1 s0 K T (ξ (.v (.int (k:Nat)))) (ξ (.v (u0 j3 r))) q6 q7) rfl;rw [prD,AS,List.cons_append,List.zipIdx_cons,AS];cases es:b0F r K T with
  |inr e=>
   rw [es] at z;obtain⟨ρ,z⟩:=z;exact⟨ρ,by rw [fe,z];rfl⟩
  |inl p=>
   obtain⟨K',T'⟩:=p;rw [es] at z;obtain⟨q6',q7',z⟩:=z;have hl:=b0G o es;have y:=b2A ok dp (s0:=s0) rs (k+1) K' T' (ξ (.v (.int (k:Nat)))) (ξ (.v (u0 j3 r))) q6' q7' (λx hx=>h x (AY _ hx)) (by lia) (by lia)
   rw [fe,z,AR];exact y
def b9m:List y8 ⊕(Er×Nat)->c6 ⊕ XT
 | .inl T=> .inl (.own (T.map PR))
 | .inr (e,j)=> .inr (xt (j:Nat) e)
theorem b6N{m:Mo}(ok:D1 m)(dp:u5 m<=8){rs:List Rw}(h:∀r∈rs,OkR r)(hl:rs.length<=39):N7 [.list (rs.map (u0 j3)++[kn j3 m]),T8 (AD "size_step")]=ξ (b9m (prD m rs 0 [] [])):=by
 have z:=b2A ok dp (s0:=ξ (.v (.list (rs.map (u0 j3)++[kn j3 m])))) rs 0 [] [] ζ ζ ζ ζ h (by simp;lia) (by simp;lia)
 obtain⟨R,hR⟩:∃R,R=rs.map (u0 j3)++[kn j3 m]:=⟨_,rfl⟩;rw [<-hR] at z ⊢;have st:X1 [ξ (.v (.list R)),ξ (.v (T8 (AD "size_step"))),ζ,ζ,ζ,ζ,ζ,ζ]=D9 (a0p (b2I (a4 (a5 0) a8)) (a4o [4,5]) bg2) (Q6 (V4 3)) (V1 (ξ (.v (.list R))) [] [] ζ ζ ζ ζ):=by
  unfold X1;rw [T1 (ρ':=[ξ (.v (.list R)),ξ (.v (T8 (AD "size_step"))),ξ (.ow (.txt [])),ζ,ζ,ζ,ζ,ζ]) rfl,T1 (ρ':=V1 (ξ (.v (.list R))) [] [] ζ ζ ζ ζ) rfl]
  rfl
 have ei:b2I (a4 (a5 0) a8) (V1 (ξ (.v (.list R))) [] [] ζ ζ ζ ζ)=ξ (V0 R):=rfl;cases hp:prD m rs 0 [] [] with
 |inr p=>
  obtain⟨e,j⟩:=p;rw [hp] at z;obtain⟨ρ,z⟩:=z;refine a4r (n:=6) (ρ:=ρ) ?_;refine st.trans (M0 ?_);unfold a0p;rw [ei];exact z
 |inl T=>
  rw [hp] at z;obtain⟨K',q4',q5',q6',q7',z⟩:=z;refine c0V (n:=6) ?_;refine st.trans ((T1 (ρ':=V1 (ξ (.v (.list R))) K' T q4' q5' q6' q7') ?_).trans rfl);unfold a0p;rw [ei];exact z
theorem a65{m:Mo}(ok:D1 m)(dp:u5 m<=8){rs:List Rw}(h:∀r∈rs,OkR r)(hl:rs.length<=39):S1 [.list (rs.map (u0 j3)++[kn j3 m])]=ξ (b9m (prD m rs 0 [] [])):=by
 have e:=b6N ok dp h hl;have e1:G1 N7 (a4 (a5 0) (a4 (mC (T8 (AD "size_step"))) a8)) [ξ (.v (.list (rs.map (u0 j3)++[kn j3 m])))]=ξ (b9m (prD m rs 0 [] [])):=e;unfold S1 A7;show(G2 _ [ξ (.v (.list (rs.map (u0 j3)++[kn j3 m])))]).bind _=_;unfold G2;rw [e1];cases prD m rs 0 [] [] with
 |inl T=>rfl
 |inr p=>rfl
section
variable {m:Mo}(ok:D1 m)(dp:u5 m<=8){rs:List Rw}(h:∀r∈rs,OkR r)(hl:rs.length<=39){e:Er}{j:Nat}(hp:prD m rs 0 [] []= .inr (e,j))
include ok dp h hl hp
theorem b2X(f:PV):M6 [.list (rs.map (u0 j3)++[kn j3 m]),f]=ξ (.inr (xt (j:Nat) e)):=by
 have es:=a65 ok dp h hl;rw [hp] at es;refine a4r (n:=0) (ρ:=[ξ (.v (.list (rs.map (u0 j3)++[kn j3 m]))),ξ (.v f)]) ?_;show a1F [ξ (.v (.list (rs.map (u0 j3)++[kn j3 m]))),ξ (.v f)]=_;unfold a1F;refine M0 ?_;unfold a1u b2h;show((S1 [.list (rs.map (u0 j3)++[kn j3 m])]).bind _)=_;rw [es]
 rfl
theorem b1B:a2v [.list (rs.map (u0 j3)++[kn j3 m])]=ξ (.inr (xt (j:Nat) e)):=by
 have e1:=b2X ok dp h hl hp (T8 (AD "cloth_step"));refine a4r (n:=0) (ρ:=[ξ (.v (.list (rs.map (u0 j3)++[kn j3 m])))]) ?_;show a4t [ξ (.v (.list (rs.map (u0 j3)++[kn j3 m])))]=_;unfold a4t G2;rw [show G1 M6 (a4 (a5 0) (a4 (mC (T8 (AD "cloth_step"))) a8)) [ξ (.v (.list (rs.map (u0 j3)++[kn j3 m])))]=ξ (.inr (xt (j:Nat) e)) from e1]
 rfl
theorem b1j:a2u [.list (rs.map (u0 j3)++[kn j3 m])]=ξ (.inr (xt (j:Nat) e)):=by
 have e1:=b2X ok dp h hl hp (T8 (AD "counts_step"));refine a4r (n:=0) (ρ:=[ξ (.v (.list (rs.map (u0 j3)++[kn j3 m])))]) ?_;show a4s [ξ (.v (.list (rs.map (u0 j3)++[kn j3 m])))]=_;unfold a4s G2;rw [show G1 M6 (a4 (a5 0) (a4 (mC (T8 (AD "counts_step"))) a8)) [ξ (.v (.list (rs.map (u0 j3)++[kn j3 m])))]=ξ (.inr (xt (j:Nat) e)) from e1]
 rfl
theorem b1r{g:RX}{ρ:b0}{P:PV}{c:XT}(h0:ρ[0]?=ξ (ξ (.v P)))(hg:g [P]=ξ (.inr c)):a1u g (a4 (a5 0) a8) ρ=ξ (.rz c ρ):=by
 unfold a1u b2h;rw [k7 (q:= .v P) (p:=P) (by unfold a5;rw [h0]) rfl rfl,AR,hg]
 rfl
theorem b1Y{k:Nat}(hk:k<3):R9 [.list (rs.map (u0 j3)++[kn j3 m]),.int (k:Nat)]=ξ (.v (xcV (xt (j:Nat) e))):=by
 have e0:=a65 ok dp h hl;rw [hp] at e0;have e1:=b1B ok dp h hl hp;have e2:=b1j ok dp h hl hp;obtain⟨P,hP⟩:∃P,P=PyData.list (rs.map (u0 j3)++[kn j3 m]):=⟨_,rfl⟩;rw [<-hP] at e0 e1 e2 ⊢;obtain⟨ρ,hρ⟩:∃ρ:b0,ρ=[ξ (.v P),ξ (.v (.int (k:Nat))),ξ (.v .none),ζ]:=⟨_,rfl⟩;have b:a2I (r6 (m2 D6 (a5 1) (mC (.int 0)))) (a1u S1 (a4 (a5 0) a8)) (a2I (r6 (m2 D6 (a5 1) (mC (.int 1)))) (a1u a2v (a4 (a5 0) a8)) (a1u a2u (a4 (a5 0) a8))) ρ=ξ (.rz (xt (j:Nat) e) ρ):=by
  have:k=0\/k=1\/k=2:=by lia
  rcases this with rfl|rfl|rfl
  ·exact(a7f (by rw [hρ];rfl)).trans (b1r ok dp h hl hp (by rw [hρ];rfl) e0)
  ·exact(b22 (by rw [hρ];rfl)).trans ((a7f (by rw [hρ];rfl)).trans (b1r ok dp h hl hp (by rw [hρ];rfl) e1))
  ·exact(b22 (by rw [hρ];rfl)).trans ((b22 (by rw [hρ];rfl)).trans (b1r ok dp h hl hp (by rw [hρ];rfl) e2))
 refine C5 (n:=2) ?_;show a0u [ξ (.v P),ξ (.v (.int (k:Nat))),ζ,ζ]=_;unfold a0u;refine(g5 (p:= .none) rfl).trans ?_;refine(A3 (ρ':=[ξ (.v P),ξ (.v (.int (k:Nat))),ξ (.v (xcV (xt (j:Nat) e))),ζ]) ?_).trans rfl;show a6D _ 3 _ _ [ξ (.v P),ξ (.v (.int (k:Nat))),ξ (.v .none),ζ]=_;rw [<-hρ];unfold a6D;rw [b,hρ];cases e<;>rfl
end
theorem c0p{x y:M}{ρ:b0}{r:c6}(h1:x ρ=ξ (.v (.bool false)))(h2:y ρ=ξ r):mOr x y ρ=ξ r:=by
 unfold mOr;rw [h1];exact h2
theorem b5M(e:Er)(j:Nat):a0k [xcV (xt (j:Nat) e),evE e,.int (j:Nat)]=ξ (.v (.bool true)):=by
 have nej:gNe (.v (.int (j:Nat))) (.v (.int (j:Nat)))=ξ (.v (.bool false)):=by
  rw [a6G,decide_eq_true rfl]
  rfl
 refine C5 (n:=2) ?_;show a1J [ξ (.v (xcV (xt (j:Nat) e))),ξ (.v (evE e)),ξ (.v (.int (j:Nat))),ζ,ζ]=_;unfold a1J;cases e with
 |nm w=>
  refine(B8 (l:=[.bool true,.bool false,.bool false]) rfl).trans ?_
  ext d
  refine U7 ?_;have ew:D6 (.v (row w)) (.v (row w))=ξ (.v (.bool true)):=b4R rfl;exact c0p rfl (two (r:= .v (row w)) rfl (q:= .v (row w)) rfl ew)
 |mis=>
  refine(B8 (l:=[.bool false,.bool true,.bool false]) rfl).trans ?_
  ext d
  exact U7 rfl
 |wid=>
  refine(B8 (l:=[.bool false,.bool false,.bool true]) rfl).trans ?_
  ext d
  exact U7 rfl
theorem Q8(T:List y8):x4 (T.map PR) 49=true:=a6d λp hp=>by
 obtain⟨d,_,rfl⟩:=Aw.mp hp
 rfl
theorem b2F{g:RX}{ps:List PV}{r:c6}(h:g ps=ξ (.inl r)):left g ps=ξ r:=by
 unfold left;rw [h]
 rfl
theorem b0O{s0 s1 s2 s3 s4 s5 s6 s7:Option c6}:∀(T:List y8) (q8:Option c6),∃q8',v7 a34 (d7 8) (T.map PR) [s0,s1,s2,s3,s4,s5,s6,s7,q8]=ξ (.nx [s0,s1,s2,s3,s4,s5,s6,s7,q8'])
 |[],q8=>⟨q8,rfl⟩
 |d::T,q8=>by
  obtain⟨q8',e⟩:=b0O (s0:=s0) (s1:=s1) (s2:=s2) (s3:=s3) (s4:=s4) (s5:=s5) (s6:=s6) (s7:=s7) T (ξ (.v (PR d)));refine⟨q8', ?_⟩;rw [AS,v7];rw [show d7 8 (PR d) [s0,s1,s2,s3,s4,s5,s6,s7,q8]=ξ [s0,s1,s2,s3,s4,s5,s6,s7,ξ (.v (PR d))] from rfl,AR];have hb:a34 [s0,s1,s2,s3,s4,s5,s6,s7,ξ (.v (PR d))]=ξ (.nx [s0,s1,s2,s3,s4,s5,s6,s7,ξ (.v (PR d))]):=by
   unfold a34;exact(a2Z (a6S (a7G (U2 rfl)) (U2 rfl))).trans rfl
  rw [hb,AR];exact e
theorem main:∀ns:List Int,ns.length<=63->b75 [.list (ns.map .int)]=ξ (.v (.bool true)):=by
 intro ns hn;obtain⟨rs,m,h,ok,dp,hl,er⟩:=b7w hn;have ed:=b8z ok dp h hl;have eb:=b4s h hl ok dp;have es:=a65 ok dp h hl;have rf:=λ(e:Er) (j:Nat) (hp:prD m rs 0 [] []= .inr (e,j)) (k:Nat) (hk:k<3)=>b1Y ok dp h hl hp hk;obtain⟨RT,hRT⟩:∃l:List PV,l=rs.map (u0 i0)++[kn i0 m]:=⟨_,rfl⟩;obtain⟨RP,hRP⟩:∃l:List PV,l=rs.map (u0 j3)++[kn j3 m]:=⟨_,rfl⟩;have lT:RT.length=RP.length:=by rw [hRT,hRP];simp
 have er:a1e [.list (ns.map .int)]=ξ (.own RT):=by rw [hRT];exact er
 rw [<-hRT] at eb;rw [<-hRT] at ed;rw [<-hRP] at es eb;rw [<-hRP] at rf;have gT:K7 (.v (.list RT))=ξ (.v (.int (RT.length:Nat))):=a2t _;have gP:K7 (.v (.list RP))=ξ (.v (.int (RT.length:Nat))):=by rw [lT];exact a2t _
 have gE:D6 (.v (.int (RT.length:Nat))) (.v (.int (RT.length:Nat)))=ξ (.v (.bool true)):=by
  rw [a8g];simp
 refine C5 (n:=8) ?_;show b4q [ξ (.v (.list (ns.map .int))),ζ,ζ,ζ,ζ,ζ,ζ,ζ,ζ]=_;unfold b4q;refine(B8 (l:=RT) ((D7 rfl).trans er)).trans ?_;cases hp:prD m rs 0 [] [] with
 |inr p=>
  obtain⟨e,j⟩:=p;rw [hp] at ed es;obtain⟨L,ed⟩:=ed;refine(A3 (ρ':=[ξ (.v (.list (ns.map .int))),ξ (.v (.list RT)),ξ (.v (.list (L.map PR))),ξ (.v (evE e)),ξ (.v (.int (j:Nat))),ζ,ζ,ζ,ζ]) ?_).trans ?_
  ·show b3N [2,3,4] _ [ξ (.v (.list (ns.map .int))),ξ (.v (.list RT)),ζ,ζ,ζ,ζ,ζ,ζ,ζ]=_;unfold b3N;rw [(D7 rfl).trans ed]
   rfl
  refine(A3 (ρ':=[ξ (.v (.list (ns.map .int))),ξ (.v (.list RT)),ξ (.v (.list (L.map PR))),ξ (.v (evE e)),ξ (.v (.int (j:Nat))),ξ (.own RP),ζ,ζ,ζ]) ?_).trans ?_
  ·show l7 5 _ [ξ (.v (.list (ns.map .int))),ξ (.v (.list RT)),ξ (.v (.list (L.map PR))),ξ (.v (evE e)),ξ (.v (.int (j:Nat))),ζ,ζ,ζ,ζ]=_;unfold l7;rw [(D7 rfl).trans eb]
   rfl
  have t:r6 (m2 (b6F true) (a5 3) (mC .none)) [ξ (.v (.list (ns.map .int))),ξ (.v (.list RT)),ξ (.v (.list (L.map PR))),ξ (.v (evE e)),ξ (.v (.int (j:Nat))),ξ (.own RP),ζ,ζ,ζ]=ξ true:=by
   cases e<;>rfl
  have body:∀(k:Nat),k<3->∀s5:Option c6,(s5=ξ (.own RP)\/s5=ξ (.v (.list RP)))->a0S [ξ (.v (.list (ns.map .int))),ξ (.v (.list RT)),ξ (.v (.list (L.map PR))),ξ (.v (evE e)),ξ (.v (.int (j:Nat))),s5,ξ (.v (.int (k:Nat))),ζ,ζ]=ξ (.nx [ξ (.v (.list (ns.map .int))),ξ (.v (.list RT)),ξ (.v (.list (L.map PR))),ξ (.v (evE e)),ξ (.v (.int (j:Nat))),ξ (.v (.list RP)),ξ (.v (.int (k:Nat))),ζ,ζ]):=λk hk s5 h5=>by
   have tr:a0o (mtV (i6 a0k (a4 (i6 R9 (a4 (a5 5) (a4 (a5 6) a8))) (a4 (a5 3) (a4 (a5 4) a8))))) [ξ (.v (.list (ns.map .int))),ξ (.v (.list RT)),ξ (.v (.list (L.map PR))),ξ (.v (evE e)),ξ (.v (.int (j:Nat))),ξ (.v (.list RP)),ξ (.v (.int (k:Nat))),ζ,ζ]=ξ false:=a7G (U2 ((b7X ((a0f rfl rfl).trans (rf e j hp k hk)) rfl rfl).trans (b5M e j)));unfold a0S;rcases h5 with rfl|rfl<;>exact(a2Z tr).trans rfl
  have ef:v7 a0S (d7 6) [.int 0,.int 1,.int 2] [ξ (.v (.list (ns.map .int))),ξ (.v (.list RT)),ξ (.v (.list (L.map PR))),ξ (.v (evE e)),ξ (.v (.int (j:Nat))),ξ (.own RP),ζ,ζ,ζ]=ξ (.nx [ξ (.v (.list (ns.map .int))),ξ (.v (.list RT)),ξ (.v (.list (L.map PR))),ξ (.v (evE e)),ξ (.v (.int (j:Nat))),ξ (.v (.list RP)),ξ (.v (.int 2)),ζ,ζ]):=by
   rw [v7];refine(congrArg (λo=>Option.bind o _) (body 0 (by lia) _ (.inl rfl))).trans ?_
   rw [AR];show v7 a0S (d7 6) [.int 1,.int 2] _=_;rw [v7];refine(congrArg (λo=>Option.bind o _) (body 1 (by lia) _ (.inr rfl))).trans ?_
   rw [AR];show v7 a0S (d7 6) [.int 2] _=_;rw [v7];refine(congrArg (λo=>Option.bind o _) (body 2 (by lia) _ (.inr rfl))).trans ?_
   rfl
  have e3:B7 (a4 (mC (.int 3)) a8) [ξ (.v (.list (ns.map .int))),ξ (.v (.list RT)),ξ (.v (.list (L.map PR))),ξ (.v (evE e)),ξ (.v (.int (j:Nat))),ξ (.own RP),ζ,ζ,ζ]=ξ [.int 0,.int 1,.int 2]:=(J8 (n:=3) rfl (by lia)).trans rfl
  refine O5 t ?_;refine(a1b e3 ef).trans ?_;exact U7 (two (one rfl gP) (one rfl gT) gE)
 |inl T=>
  rw [hp] at ed es;have es:S1 [.list RP]=ξ (.inl (.own (T.map PR))):=es;refine(A3 (ρ':=[ξ (.v (.list (ns.map .int))),ξ (.v (.list RT)),ξ (.v (.list (T.map PR))),ξ (.v .none),ξ (.v (.int 0)),ζ,ζ,ζ,ζ]) ?_).trans ?_
  ·show b3N [2,3,4] _ [ξ (.v (.list (ns.map .int))),ξ (.v (.list RT)),ζ,ζ,ζ,ζ,ζ,ζ,ζ]=_;unfold b3N;rw [(D7 rfl).trans ed]
   rfl
  refine(A3 (ρ':=[ξ (.v (.list (ns.map .int))),ξ (.v (.list RT)),ξ (.v (.list (T.map PR))),ξ (.v .none),ξ (.v (.int 0)),ξ (.own RP),ζ,ζ,ζ]) ?_).trans ?_
  ·show l7 5 _ [ξ (.v (.list (ns.map .int))),ξ (.v (.list RT)),ξ (.v (.list (T.map PR))),ξ (.v .none),ξ (.v (.int 0)),ζ,ζ,ζ,ζ]=_;unfold l7;rw [(D7 rfl).trans eb]
   rfl
  refine(b4 rfl).trans ?_;refine(A3 (ρ':=[ξ (.v (.list (ns.map .int))),ξ (.v (.list RT)),ξ (.v (.list (T.map PR))),ξ (.v .none),ξ (.v (.int 0)),ξ (.v (.list RP)),ζ,ξ (.own (T.map PR)),ζ]) ?_).trans ?_
  ·show l7 7 _ [ξ (.v (.list (ns.map .int))),ξ (.v (.list RT)),ξ (.v (.list (T.map PR))),ξ (.v .none),ξ (.v (.int 0)),ξ (.v (.list RP)),ζ,ζ,ζ]=_;unfold l7;rw [(D7 rfl).trans (b2F es)]
   rfl
  have gN:gNe (.bor (T.map PR)) (.v (.list (T.map PR)))=ξ (.v (.bool false)):=by
   have e:gNe (.bor (T.map PR)) (.v (.list (T.map PR)))=if x4 (T.map PR) 49=true/\x4 (T.map PR) 49=true then ξ (.v (.bool (!PyData.eqv (.list (T.map PR)) (.list (T.map PR))))) else ζ:=rfl
   rw [e,if_pos ⟨Q8 T,Q8 T⟩,a3Q (.list (T.map PR)) 50 (Q8 T)]
   rfl
  have gQ:D6 (.own (T.map PR)) (.v (.list (T.map PR)))=ξ (.v (.bool true)):=by
   have e:D6 (.own (T.map PR)) (.v (.list (T.map PR)))=if x4 (T.map PR) 49=true/\x4 (T.map PR) 49=true then ξ (.v (.bool (PyData.eqv (.list (T.map PR)) (.list (T.map PR))))) else ζ:=rfl
   rw [e,if_pos ⟨Q8 T,Q8 T⟩,a3Q (.list (T.map PR)) 50 (Q8 T)]
  refine(b4 (a6S (a7G (U2 rfl)) (D3 (r:= .bor (T.map PR)) rfl (q:= .v (.list (T.map PR))) rfl gN))).trans ?_;obtain⟨q8,e8⟩:=b0O (s0:=ξ (.v (.list (ns.map .int)))) (s1:=ξ (.v (.list RT))) (s2:=ξ (.v (.list (T.map PR)))) (s3:=ξ (.v .none)) (s4:=ξ (.v (.int 0))) (s5:=ξ (.v (.list RP))) (s6:=ζ) (s7:=ξ (.own (T.map PR))) T ζ;refine(a1b (ps:=T.map PR) rfl e8).trans ?_;refine(A3 (ρ':=[ξ (.v (.list (ns.map .int))),ξ (.v (.list RT)),ξ (.v (.list (T.map PR))),ξ (.v .none),ξ (.v (.int 0)),ξ (.v (.list RP)),ζ,ξ (.own []),q8]) rfl).trans ?_;show m4 _ [ξ (.v (.list (ns.map .int))),ξ (.v (.list RT)),ξ (.v (.list (T.map PR))),ξ (.v .none),ξ (.v (.int 0)),ξ (.v (.list RP)),ζ,ξ (.own []),q8]=_;exact U7 (b95 (two ((D7 rfl).trans (b2F es)) (q:= .v (.list (T.map PR))) rfl gQ) (two (one rfl gP) (one rfl gT) gE))
set_option maxHeartbeats 4000000
seal L2.PE L2.PS L2.PSs L2.PT L2.PW L2.PA L2.PG L2.PGs L2.PI
def V7(i:Nat):Stmt:=PySem.Challenge.pw_carpetkin_k24_sizes.main.body.getD i (.Pass ⟨0,0,0,0⟩)
abbrev a1m:Stmt:=V7 63
theorem a22:g0 ["_law_cell","_law_at"] ["_law_cell","_law_at"] (b5 a1m):=W7
abbrev a2e:Stmt:=V7 65
theorem a4k:g0 ["_law_number_here","_law_rows_here","_law_letters","_law_wide","_law_r","_law_row","_law_c","_law_mixed"] ["_law_number_here"] (b5 a2e):=W7
abbrev a3v:Stmt:=V7 66
theorem a5u:g0 ["_law_number_here","_law_names_here"] ["_law_number_here","_law_names_here"] (b5 a3v):=W7
abbrev a3x:Stmt:=V7 68
theorem a5w:g0 ["_law_number_here","_law_tree","_law_other","_law_way","_law_many","_law_letters","_law_turns"] ["_law_number_here","_law_tree","_law_other"] (b5 a3x):=W7
abbrev a3u:Stmt:=V7 69
theorem a5t:g0 ["_law_word","_law_dims","_law_found","_law_size_here"] ["_law_word","_law_dims"] (b5 a3u):=W7
theorem a7D:List.Nodup (α:=Str) ["_law_tree","_law_known","_law_word","_law_dims","_law_bad","_law_size_here","_law_part"]:=by decide+kernel
theorem a7E:List.Nodup (α:=Str) ["_law_tree","_law_known","_law_word","_law_dims","_law_bad","0_law_size_here","_law_size_here"]:=by decide+kernel
abbrev a1n:Stmt:=V7 70
theorem a2j:g0 ["_law_tree","_law_known","_law_word","_law_dims","_law_bad","_law_size_here"] ["_law_tree","_law_known"] (b5 a1n):=W7
theorem a7F:List.Nodup (α:=Str) ["_law_tree","_law_word","_law_part"]:=by decide+kernel
abbrev a1o:Stmt:=V7 67
theorem a2k:g0 ["_law_tree","_law_word"] ["_law_tree"] (b5 a1o):=W7
abbrev a2c:Stmt:=V7 71
theorem a4i:g0 ["_law_number_here","_law_known","_law_names_here","_law_most","_law_tree","_law_step_here","_law_mixed","_law_new","_law_size_here","_law_fits"] ["_law_number_here","_law_known","_law_names_here","_law_most"] (b5 a2c):=W7
abbrev a0D:Stmt:=V7 62
theorem a2g:g0 ["_law_script","_law_k"] ["_law_script","_law_k"] (b5 a0D):=W7
abbrev a2d:Stmt:=V7 64
theorem a4j:g0 [] [] (b5 a2d):=W7
abbrev a3w:Stmt:=V7 74
theorem a5v:g0 ["_law_script","_law_rows_here","_law_known","_law_at","_law_number_here","_law_name","_law_most","_law_some","_law_tree","_law_many","_law_size_here"] ["_law_script"] (b5 a3w):=W7
abbrev a4X:Stmt:=V7 75
theorem a62:g0 ["_law_rows_here","_law_known","_law_found","_law_place","_law_row","_law_many","_law_k","_law_size_here"] ["_law_rows_here"] (b5 a4X):=W7
theorem a7B:List.Nodup (α:=Str) ["_law_tree","_law_word","_law_part"]:=by decide+kernel
theorem a7C:List.Nodup (α:=Str) ["_law_tree","_law_word","_law_part"]:=by decide+kernel
abbrev a1l:Stmt:=V7 72
theorem a2h:g0 ["_law_tree","_law_word"] ["_law_tree"] (b5 a1l):=W7
abbrev a2b:Stmt:=V7 73
theorem a4h:g0 ["_law_rows_here","_law_found","_law_row"] ["_law_rows_here"] (b5 a2b):=W7
abbrev a3y:Stmt:=V7 14
theorem a5x:g0 ["row"] ["row"] (b5 a3y):=W7
abbrev a4Y:Stmt:=V7 23
theorem a63:g0 ["cloth"] ["cloth"] (b5 a4Y):=W7
abbrev a1k:Stmt:=N1 (V7 53) 2
theorem a21:g0 ["self","known","row"] ["self","known","row"] (b5 a1k):=W7
abbrev a1j:Stmt:=N1 (V7 54) 3
theorem a20:g0 ["self","known","row"] ["self","known","row"] (b5 a1j):=W7
abbrev Y9:Stmt:=V7 44
theorem a1v:g0 ["rows","knots","row"] ["rows","knots","row"] (b5 Y9):=W7
abbrev K3:Stmt:=V7 46
theorem a23:g0 ["one","other","row"] ["one","other","row"] (b5 K3):=W7
abbrev F8:Stmt:=V7 45
theorem a2l:g0 ["one","other","row"] ["one","other","row"] (b5 F8):=W7
abbrev W4:Stmt:=N1 (V7 56) 3
theorem a0F:g0 ["self","known","row"] ["self","known","row"] (b5 W4):=W7
abbrev S6:Stmt:=N1 (V7 57) 3
theorem Z1:g0 ["self","known","row","size"] ["self","known","row"] (b5 S6):=W7
abbrev S7:Stmt:=N1 (V7 55) 3
theorem Z2:g0 ["self","known","row"] ["self","known","row"] (b5 S7):=W7
abbrev a0r:Stmt:=N1 (V7 58) 3
theorem a1p:g0 ["self","known","row","size"] ["self","known","row"] (b5 a0r):=W7
abbrev a0s:Stmt:=N1 (V7 60) 3
theorem a1q:g0 ["self","known","row"] ["self","known","row"] (b5 a0s):=W7
abbrev S8:Stmt:=N1 (V7 59) 3
theorem Z3:g0 ["self","known","row","size"] ["self","known","row"] (b5 S8):=W7
theorem a38:List.Nodup (α:=Str) ["parts","known","row","lay","found","come","size","part"]:=by decide+kernel
abbrev O6:Stmt:=V7 47
theorem U8:g0 ["parts","known","row","lay","found","come","size"] ["parts","known","row","lay"] (b5 O6):=W7
abbrev M8:Stmt:=V7 11
theorem a4m:g0 ["motif","known","row"] ["motif","known","row"] (b5 M8):=W7
abbrev Z0:Stmt:=V7 15
theorem a1w:g0 ["program","step","known","told","place","row","k","come"] ["program","step"] (b5 Z0):=W7
abbrev a9C:Stmt:=V7 16
theorem b0L:g0 ["program"] ["program"] (b5 a9C):=W7
theorem a6F:List.Nodup (α:=Str) ["_law_e","_law_bad","_law_place","_law_some","_law_words","_law_word"]:=by decide+kernel
abbrev a2f:Stmt:=V7 77
theorem a4l:g0 ["_law_e","_law_bad","_law_place","_law_some","_law_words"] ["_law_e","_law_bad","_law_place"] (b5 a2f):=W7
abbrev a2a:Stmt:=V7 17
theorem a4g:g0 ["program","step"] ["program","step"] (b5 a2a):=W7
abbrev a4W:Stmt:=V7 18
theorem a61:g0 ["program"] ["program"] (b5 a4W):=W7
abbrev a4V:Stmt:=V7 19
theorem a60:g0 ["program"] ["program"] (b5 a4V):=W7
abbrev a0E:Stmt:=V7 76
theorem a2i:g0 ["_law_program","_law_way","_law_refused","_law_e"] ["_law_program","_law_way"] (b5 a0E):=W7
abbrev b5Q:Stmt:=V7 78
theorem b5T:g0 ["_law_script","_law_rows_here","_law_due_here","_law_bad","_law_place","_law_program","_law_way","_law_found","_law_size_here"] ["_law_script"] (b5 b5Q):=W7
abbrev W5:Stmt:=V7 12
abbrev S9:Stmt:=V7 13
structure MoB(K:AE)(mg:Str->Option AB):Prop where
 z_ValueError:mg "ValueError"=ζ
 z_bool:mg "bool"=ζ
 z_enumerate:mg "enumerate"=ζ
 z_int:mg "int"=ζ
 z_isinstance:mg "isinstance"=ζ
 z_len:mg "len"=ζ
 z_list:mg "list"=ζ
 z_max:mg "max"=ζ
 z_min:mg "min"=ζ
 z_range:mg "range"=ζ
 z_str:mg "str"=ζ
 z_tuple:mg "tuple"=ζ
abbrev a8x:Stmt:=N1 (V7 8) 0
theorem b11:g0 ["self","row"] ["self","row"] (b5 a8x):=W7
abbrev a8y:Stmt:=N1 (V7 7) 0
theorem b12:g0 ["self","row","name"] ["self","row","name"] (b5 a8y):=W7
abbrev a6Z:Stmt:=N1 (V7 9) 0
theorem b0K:g0 ["self","row"] ["self","row"] (b5 a6Z):=W7
abbrev b0J:Stmt:=N1 (V7 53) 0
theorem b36:g0 ["self","rows"] ["self","rows"] (b5 b0J):=W7
abbrev b0I:Stmt:=N1 (V7 54) 0
theorem b35:g0 ["self","name"] ["self","name"] (b5 b0I):=W7
abbrev a8w:Stmt:=N1 (V7 55) 0
theorem b10:g0 ["self","parts"] ["self","parts"] (b5 a8w):=W7
abbrev b0H:Stmt:=N1 (V7 56) 0
theorem b34:g0 ["self","parts"] ["self","parts"] (b5 b0H):=W7
abbrev a8v:Stmt:=N1 (V7 57) 0
theorem b1Z:g0 ["self","many","part"] ["self","many","part"] (b5 a8v):=W7
abbrev b2Q:Stmt:=N1 (V7 58) 0
theorem b5R:g0 ["self","many","part"] ["self","many","part"] (b5 b2Q):=W7
abbrev a8z:Stmt:=N1 (V7 59) 0
theorem b13:g0 ["self","way","part"] ["self","way","part"] (b5 a8z):=W7
abbrev b2R:Stmt:=N1 (V7 60) 0
theorem b5S:g0 ["self","one","other","part"] ["self","one","other","part"] (b5 b2R):=W7
structure Ad where
 C_Plain:AA
 C_Named:AA
 C_Beside:AA
 C_Above:AA
 C_Across:AA
 C_Down:AA
 C_Turned:AA
 C_Dyed:AA
 f_Plain_size:AA
 f_Named_size:AA
 f_Above_size:AA
 f_Across_size:AA
 f_Beside_size:AA
 f_Down_size:AA
 f_Dyed_size:AA
 f_Turned_size:AA
structure Oc(K:AE)(mg:Str->Option AB)(a:Ad):Prop where
 kc_Plain:KC K "Plain" a.C_Plain
 kc_Named:KC K "Named" a.C_Named
 kc_Beside:KC K "Beside" a.C_Beside
 kc_Above:KC K "Above" a.C_Above
 kc_Across:KC K "Across" a.C_Across
 kc_Down:KC K "Down" a.C_Down
 kc_Turned:KC K "Turned" a.C_Turned
 kc_Dyed:KC K "Dyed" a.C_Dyed
 fi_Plain_size:PySem.W.findIn K (.ref a.C_Plain) "size"=ξ (ξ (.ref a.f_Plain_size))
 fi_Named_size:PySem.W.findIn K (.ref a.C_Named) "size"=ξ (ξ (.ref a.f_Named_size))
 fi_Beside_size:PySem.W.findIn K (.ref a.C_Beside) "size"=ξ (ξ (.ref a.f_Beside_size))
 fi_Above_size:PySem.W.findIn K (.ref a.C_Above) "size"=ξ (ξ (.ref a.f_Above_size))
 fi_Across_size:PySem.W.findIn K (.ref a.C_Across) "size"=ξ (ξ (.ref a.f_Across_size))
 fi_Down_size:PySem.W.findIn K (.ref a.C_Down) "size"=ξ (ξ (.ref a.f_Down_size))
 fi_Turned_size:PySem.W.findIn K (.ref a.C_Turned) "size"=ξ (ξ (.ref a.f_Turned_size))
 fi_Dyed_size:PySem.W.findIn K (.ref a.C_Dyed) "size"=ξ (ξ (.ref a.f_Dyed_size))
 fld_many:a0t K ["Across","Down"] "many"
 fld_name:a0t K ["Named"] "name"
 fld_part:a0t K ["Across","Down","Turned","Dyed"] "part"
 fld_parts:a0t K ["Beside","Above"] "parts"
 fld_rows:a0t K ["Plain"] "rows"
 fld_way:a0t K ["Turned"] "way"
section
variable (P:AJ)(w:AI)(K:AE)(mg:Str->Option AB)(base:Heap)(a:Ad)
abbrev a3E:Prop:=z8 P w K mg base "_law_number" ["_law_cell","_law_at"] 1 E6
abbrev a1C:Prop:=z8 P w K mg base "_law_plain" ["_law_number_here"] 1 T9
abbrev a5V:Prop:=z8 P w K mg base "_law_leaf" ["_law_number_here","_law_names_here"] 2 Y2
abbrev a5X:Prop:=z8 P w K mg base "_law_step" ["_law_number_here","_law_tree","_law_other"] 1 Q0
abbrev a27:Prop:=z8 P w K mg base "_law_laid" ["_law_word","_law_dims"] 1 a1d
abbrev a28:Prop:=z8 P w K mg base "_law_size" ["_law_tree","_law_known"] 13 u8
abbrev b07:Prop:=z8 P w K mg base "_law_text" ["_law_tree"] 13 Q1
abbrev a48:Prop:=z8 P w K mg base "_law_grown" ["_law_number_here","_law_known","_law_names_here","_law_most"] 14 D8
abbrev a2L:Prop:=z8 P w K mg base "_law_cell_at" ["_law_script","_law_k"] 1 R8
abbrev a49:Prop:=z8 P w K mg base "_law_names" [] 1 M7
abbrev a5W:Prop:=z8 P w K mg base "_law_rows" ["_law_script"] 15 a1e
abbrev a7V:Prop:=z8 P w K mg base "_law_due" ["_law_rows_here"] 14 a2w
abbrev b06:Prop:=z8 P w K mg base "_law_made" ["_law_tree"] 14 A1
abbrev a47:Prop:=z8 P w K mg base "_law_built" ["_law_rows_here"] 15 a1X
abbrev a5Y:Prop:=z8 P w K mg base "times_of" ["row"] 1 Q2
abbrev a7W:Prop:=z8 P w K mg base "size_of" ["cloth"] 1 a4G
abbrev B2:Prop:=z9 P w K mg base a.f_Plain_size ["self","known","row"] 2 t6
abbrev B1:Prop:=z9 P w K mg base a.f_Named_size ["self","known","row"] 3 t5
abbrev C8:Prop:=G7 P w K mg base "checked_size" ["rows","knots","row"] 3 C9
abbrev V9:Prop:=G7 P w K mg base "size_above" ["one","other","row"] 4 o9
abbrev R3:Prop:=G7 P w K mg base "size_beside" ["one","other","row"] 4 n4
abbrev a8I:Prop:=z9 P w K mg base a.f_Above_size ["self","known","row"] 24 a3X
abbrev a7l:Prop:=z9 P w K mg base a.f_Across_size ["self","known","row"] 24 a2T
abbrev a7m:Prop:=z9 P w K mg base a.f_Beside_size ["self","known","row"] 24 a2U
abbrev a9M:Prop:=z9 P w K mg base a.f_Down_size ["self","known","row"] 24 a5f
abbrev a9N:Prop:=z9 P w K mg base a.f_Dyed_size ["self","known","row"] 24 a5g
abbrev a7n:Prop:=z9 P w K mg base a.f_Turned_size ["self","known","row"] 24 a2V
structure B0(k:Nat)(d5 c7 c9 e9 f9 d0 R_size_of_laid:List PV->Option (c6 ⊕ XT)):Prop where
 d_Above_size:z9 P w K mg base a.f_Above_size ["self","known","row"] k d5
 d_Across_size:z9 P w K mg base a.f_Across_size ["self","known","row"] k c7
 d_Beside_size:z9 P w K mg base a.f_Beside_size ["self","known","row"] k c9
 d_Down_size:z9 P w K mg base a.f_Down_size ["self","known","row"] k e9
 d_Dyed_size:z9 P w K mg base a.f_Dyed_size ["self","known","row"] k f9
 d_Turned_size:z9 P w K mg base a.f_Turned_size ["self","known","row"] k d0
 d_size_of_laid:G7 P w K mg base "size_of_laid" ["parts","known","row","lay"] k R_size_of_laid
abbrev a1D:Prop:=G7 P w K mg base "size_step" ["motif","known","row"] 25 J5
abbrev a1A:Prop:=G7 P w K mg base "gone_through" ["program","step"] 26 N7
abbrev a5H:Prop:=G7 P w K mg base "sizes" ["program"] 27 S1
abbrev a5a:Prop:=z8 P w K mg base "_law_right" ["_law_e","_law_bad","_law_place"] 1 a0k
abbrev a1B:Prop:=G7 P w K mg base "last_told" ["program","step"] 28 M6
abbrev a7U:Prop:=G7 P w K mg base "knotted" ["program"] 29 a2v
abbrev a7T:Prop:=G7 P w K mg base "counted" ["program"] 29 a2u
abbrev a2M:Prop:=z8 P w K mg base "_law_refusal" ["_law_program","_law_way"] 30 R9
structure Io:Prop where
 i_Above:F9 P w K mg base "Above" ["parts"] 1
 i_Across:F9 P w K mg base "Across" ["many","part"] 1
 i_Beside:F9 P w K mg base "Beside" ["parts"] 1
 i_Down:F9 P w K mg base "Down" ["many","part"] 1
 i_Dyed:F9 P w K mg base "Dyed" ["one","other","part"] 1
 i_Named:F9 P w K mg base "Named" ["name"] 1
 i_Plain:F9 P w K mg base "Plain" ["rows"] 1
 i_Turned:F9 P w K mg base "Turned" ["way","part"] 1
end
section
variable (P:AJ)(w:AI){K:AE}{mg:Str->Option AB}(base:Heap)(a:Ad)
theorem a7M(D:Df K mg "_law_number" a1m):a3E P w K mg base:=by
 exists z0,0,a22,el2 λ_ _=>rfl
 exact d4 (i7 (d2 j7 (d2 o0 (d2 l6 (d6 0) (d2 b69 a7 a7)) (d2 j7 (d2 o0 a7 (d6 1)) a7)) (d2 o0 (d6 1) (d6 1))))
theorem a9o(D:Df K mg "_law_plain" a2e)(M:MoB K mg):a1C P w K mg base:=by
 exists z0,0,a4k,el1 λ_=>rfl
 ext b
 ·exact j1 (i:=1) S.nd (A6 b7)
 ext b
 ·exact j1 (i:=2) S.nd (a1S d3 a3O (a3P (d9 (A6 (a6 a7 (a6 a7 (a6 a7 b7)))) (d2 l6 (d6 0) a7))))
 ext b
 ·exact j1 (i:=3) S.nd (d2 j7 a7 (d2 l6 (d2 l6 (d2 o0 (d6 0) a7) a7) a7))
 ext b
 ·refine a0P PassesOwn.never ?_ ?_ M.z_range ?_ ?_ (D4 4) ?_
  ·exact rfl
  ·exact rfl
  ·exact a6 (d2 j7 a7 (d2 l6 (d2 l6 (d2 o0 (d6 0) a7) a7) a7)) b7
  ·exact u4 (i:=4) S.nd rfl (Or.inl rfl)
  ext b
  ·exact j1 (i:=5) S.nd d3
  ext b
  ·refine a0P PassesOwn.never ?_ ?_ M.z_range ?_ ?_ (D4 6) ?_
   ·exact rfl
   ·exact rfl
   ·exact a6 (d6 3) b7
   ·exact u4 (i:=6) S.nd rfl (Or.inl rfl)
   ext b
   ·exact j1 (i:=7) S.nd (d2 l6 (d2 o0 (d6 0) (d2 j7 (d2 j7 (d2 o0 a7 (d6 4)) (d2 o0 a7 (d6 6))) a7)) a7)
   exact d4 (j1 (i:=5) S.nd (d2 j7 (d6 5) (d9 (d6 2) (d2 l6 (d6 7) (T5 N2 rfl M.z_len (by rfl) (d6 2))))))
  exact d4 (W6 1 (pv 1) (d6 5))
 exact d4 (i7 (n6 (a6 d3 (a6 (a6c a56 rfl M.z_tuple (by rfl) (d6 1)) b7))))
theorem b0o(D:Df K mg "_law_leaf" a3v)(M:MoB K mg)(T4:a1C P w K mg base):a5V P w K mg base:=by
 exists z0,1,a5u,el2 λ_ _=>rfl
 ext b
 ·refine m6 (PW.pt (a6f (j9 (U6 hu) (d6 1) (A6 b7)) (a3R (j9 a9t (d2 l6 (d2 l6 (d2 o0 (d6 0) a7) a7) a7) a7)))) ?_ ?_
  ·exact d4 (i7 (n6 (a6 d3 (a6 (d9 (d6 1) (d2 l6 (d2 l6 (d2 o0 (d6 0) a7) a7) (T5 N2 rfl M.z_len (by rfl) (d6 1)))) b7))))
  exact i8
 exact d4 (i7 (o8 T4 hr (by decide) rfl (a9 d8) (a6 (d6 0) b7)))
theorem b0s(D:Df K mg "_law_step" a3x)(M:MoB K mg):a5X P w K mg base:=by
 exists z0,0,a5w,el3 λ_ _ _=>rfl
 ext b
 ·exact j1 (i:=3) S.nd (d2 l6 (d2 l6 (d2 o0 (d6 0) a7) a7) a7)
 ext b
 ·exact j1 (i:=4) S.nd (d2 j7 a7 (d2 l6 (d2 l6 (d2 o0 (d6 0) a7) a7) (d9 (A6 (a6 a7 (a6 a7 b7))) (a6c b8r rfl M.z_int (by rfl) (a5d (k6 hu) (d2 l6 (d6 0) a7) a7)))))
 ext b
 ·exact j1 (i:=5) S.nd d3
 ext b
 ·refine m6 ?_ ?_ ?_
  ·exact j9 (k6 hu) (d6 3) a7
  ·exact b9 (j1 (i:=6) S.nd (A6 (a6 d3 (a6 d3 (a6 d3 (a6 d3 (a6 d3 (a6 d3 (a6 d3 b7))))))))) (d4 (i7 (n6 (a6 d3 (a6 (d9 (d6 6) (d2 l6 (d6 0) a7)) (a6 (d6 1) b7))))))
  exact i8
 ext b
 ·exact m6 (j9 (k6 hu) (d6 3) a7) (d4 (i7 (n6 (a6 d3 (a6 (d9 (d6 5) (d2 l6 (d6 0) a7)) (a6 (d9 (d6 5) (d2 l6 (d2 b0w (d6 0) a7) a7)) (a6 (d6 1) b7))))))) i8
 ext b
 ·exact m6 (j9 (k6 hu) (d6 3) a7) (d4 (i7 (n6 (a6 d3 (a6 (d6 4) (a6 (d6 1) b7)))))) i8
 ext b
 ·exact m6 (j9 (k6 hu) (d6 3) a7) (d4 (i7 (n6 (a6 d3 (a6 (d6 4) (a6 (d6 1) b7)))))) i8
 ext b
 ·exact m6 (j9 (k6 hu) (d6 3) a7) (d4 (i7 (n6 (a6 d3 (a6 (A6 (a6 (d6 1) (a6 (d6 2) b7))) b7))))) i8
 ext b
 ·exact m6 (j9 (k6 hu) (d6 3) a7) (d4 (i7 (n6 (a6 d3 (a6 (A6 (a6 (d6 1) (a6 (d6 2) b7))) b7))))) i8
 ext b
 ·exact m6 (j9 (k6 hu) (d6 3) a7) (d4 (i7 (n6 (a6 d3 (a6 (A6 (a6 (d6 1) (a6 (n6 (a6 d3 (a6 d3 (a6 (d6 1) b7)))) b7))) b7))))) i8
 ext b
 ·exact m6 (j9 (k6 hu) (d6 3) a7) (d4 (i7 (n6 (a6 d3 (a6 (A6 (a6 (d6 1) (a6 (n6 (a6 d3 (a6 d3 (a6 (d6 1) b7)))) (a6 (d6 1) b7)))) b7))))) i8
 exact d4 (i7 (n6 (a6 d3 (a6 (a1S (d2 o0 (A6 (a6 (d6 2) (a6 (d6 1) b7))) a7) a3O (a3P (d2 j7 a7 (d2 l6 (d6 0) a7)))) b7))))
theorem b0n(D:Df K mg "_law_laid" a3u)(M:MoB K mg):a27 P w K mg base:=by
 exists z0,0,a5t,el2 λ_ _=>rfl
 ext b
 ·exact j1 (i:=2) S.nd (d9 (d6 1) a7)
 ext b
 ·refine b4B PassesOwn.never ?_ ?_ ?_ (D4 3) ?_
  ·exact rfl
  ·exact a1S (d6 1) (a3P a7) a3O
  ·exact u4 (i:=3) S.nd rfl (Or.inl rfl)
  ext b
  ·refine m6 ?_ ?_ ?_
   ·exact j9 (k6 hu) (d6 0) d3
   ·ext b
    ·exact m6 (j9 (U6 hu) (d9 (d6 3) a7) (d9 (d6 2) a7)) (d4 (i7 (n6 (a6 d3 (a6 d3 b7))))) i8
    exact d4 (j1 (i:=2) S.nd (n6 (a6 (d9 (d6 2) a7) (a6 (d2 j7 (d9 (d6 2) a7) (d9 (d6 3) a7)) b7))))
   ext b
   ·exact m6 (j9 (U6 hu) (d9 (d6 3) a7) (d9 (d6 2) a7)) (d4 (i7 (n6 (a6 d3 (a6 d3 b7))))) i8
   exact d4 (j1 (i:=2) S.nd (n6 (a6 (d2 j7 (d9 (d6 2) a7) (d9 (d6 3) a7)) (a6 (d9 (d6 2) a7) b7))))
  exact d4 (m6 (j9 a6R (T5 (a8P rfl) rfl M.z_max (by rfl) (d6 2)) a7) (d4 (i7 (n6 (a6 d3 (a6 d3 b7))))) i8)
 exact d4 (R7 2 (pv 2))
theorem b0r{k:Nat}(hk0:1<=k){E3:List PV->Option c6}(D:Df K mg "_law_size" a1n)(M:MoB K mg)(X8:a27 P w K mg base)(A0:z8 P w K mg base "_law_size" ["_law_tree","_law_known"] k E3):z8 P w K mg base "_law_size" ["_law_tree","_law_known"] (k+1) (G5 4 (X4 E3)):=by
 exists z0,k,a2j,el2 λ_ _=>rfl
 ext b
 ·exact j1 (i:=2) S.nd (d9 (d6 0) a7)
 ext b
 ·exact m6 (j9 (k6 hu) (d6 2) d3) (d4 (i7 (n6 (a6 (T5 N2 rfl M.z_len (by rfl) (d9 (d6 0) a7)) (a6 (T5 N2 rfl M.z_len (by rfl) (d9 (d9 (d6 0) a7) a7)) b7))))) i8
 ext b
 ·exact m6 (j9 (k6 hu) (d6 2) d3) (d4 (i7 (b3l 1 hu (pv 1) (d9 (d6 0) a7) (n6 (a6 d3 (a6 (d9 (d6 0) a7) b7)))))) i8
 ext b
 ·refine m6 (PW.pt (a1t (j9 (k6 hu) (d6 2) d3) (Y0 (j9 (k6 hu) (d6 2) d3)))) ?_ ?_
  ·ext b
   ·refine b2s (i:=3) (ys:=["_law_part"]) (N0:=["_law_tree","_law_known","_law_word","_law_dims","_law_bad","_law_size_here"]) ?_ (λ_ _ h=>h) ?_ ⟨by kernel_rfl,rfl,of_decide_eq_true rfl,of_decide_eq_true rfl,of_decide_eq_true rfl⟩ ?_ (λC fp pins s H=>u4 (i:=6) a7D rfl (Or.inl rfl)) (λn h=>M3 (i:=6) (Nat.le_of_eq h)) (λC fp pins s H=>a4A) ?_
    ·exact S.nd
    ·exact rfl
    ·exact a3g (d9 (d6 0) a7)
    intro C fp pins s H;exact o8 A0 hr (by lia) rfl (a9 (a9 d8)) (a6 (d6 6) (a6 (d6 1) b7))
   ext b
   ·refine b2s (i:=4) (ys:=["_law_size_here"]) (N0:=["_law_tree","_law_known","_law_word","_law_dims","_law_bad","0_law_size_here"]) ?_ (λ_ _ h=>h) ?_ ⟨by kernel_rfl,rfl,of_decide_eq_true rfl,of_decide_eq_true rfl,of_decide_eq_true rfl⟩ ?_ (λC fp pins s H=>u4 (i:=6) a7E rfl (Or.inl rfl)) (λn h=>M3 (i:=6) (Nat.le_of_eq h)) ?_ (λC fp pins s H=>(d6 6))
    ·exact S.nd
    ·exact rfl
    ·exact a3g (d6 3)
    intro C fp pins s H;exact b8A (N4 (X9 (.inr (.inr (.inl rfl))) rfl M.z_isinstance (d9 (d6 6) a7) (L9 rfl M.z_str (by rfl) rfl)))
   exact b9 (m6 (j9 (U6 hu) (d6 4) (A6 b7)) (d4 (i7 (d9 (d6 4) a7))) i8) (d4 (a0z 3 (i7 (o8 X8 hr (by lia) rfl (a9 (a9 d8)) (a6 (d6 2) (a6 (d6 3) b7))))))
  exact i8
 ext b
 ·exact j1 (i:=5) S.nd (o8 A0 hr (by lia) rfl (a9 (a9 d8)) (a6 (d9 (d6 0) (a3f a7)) (a6 (d6 1) b7)))
 ext b
 ·exact m6 (PW.pt (a1t (N4 (X9 (.inr (.inr (.inl rfl))) rfl M.z_isinstance (d9 (d6 5) a7) (L9 rfl M.z_str (by rfl) rfl))) (Y0 (j9 (k6 hu) (d6 2) d3)))) (d4 (R7 5 (pv 5))) i8
 ext b
 ·refine m6 ?_ ?_ ?_
  ·exact j9 (k6 hu) (d6 2) d3
  ·exact b9 (m6 (j9 (b2N hu) (d9 (d6 0) a7) (A6 (a6 d3 (a6 d3 (a6 d3 (a6 d3 b7)))))) (d4 (i7 (n6 (a6 (d9 (d6 5) a7) (a6 (d9 (d6 5) a7) b7))))) i8) (d4 (R7 5 (pv 5)))
  exact i8
 ext b
 ·refine m6 ?_ ?_ ?_
  ·exact j9 (k6 hu) (d6 2) d3
  ·exact d4 (j1 (i:=5) S.nd (n6 (a6 (d9 (d6 5) a7) (a6 (d2 o0 (d9 (d6 5) a7) (d9 (d6 0) a7)) b7))))
  exact d4 (j1 (i:=5) S.nd (n6 (a6 (d2 o0 (d9 (d6 5) a7) (d9 (d6 0) a7)) (a6 (d9 (d6 5) a7) b7))))
 exact b9 (m6 (j9 a6R (T5 (a8P rfl) rfl M.z_max (by rfl) (d6 5)) a7) (d4 (i7 (n6 (a6 d3 (a6 d3 b7))))) i8) (d4 (R7 5 (pv 5)))
theorem a9g(P3:Df K mg "_law_size" a1n)(M:MoB K mg)(X8:a27 P w K mg base):∀n:Nat,z8 P w K mg base "_law_size" ["_law_tree","_law_known"] (1+n) (a1Z n):=by
 intro n
 induction n with
 |zero=>exact C3 (k:=0) P3 a2j (λ_ _ _ _ _ _=>el2 (λ_ _=>rfl)) λf cdv A outer s H E hr=>a6e
 |succ n ih=>
  exact b0r P w base (Nat.le_add_right _ _) P3 M X8 ih
theorem b0t{k:Nat}(hk0:1<=k){E4:List PV->Option c6}(D:Df K mg "_law_text" a1o)(M:MoB K mg)(G9:z8 P w K mg base "_law_text" ["_law_tree"] k E4):z8 P w K mg base "_law_text" ["_law_tree"] (k+1) (G5 1 (X5 E4)):=by
 exists z0,k,a2k,el1 λ_=>rfl
 ext b
 ·exact j1 (i:=1) S.nd (d9 (d6 0) a7)
 ext b
 ·exact m6 (j9 (k6 hu) (d6 1) d3) (d4 (i7 (d2 j7 (d2 j7 d3 (b2r d3 (d9 (d6 0) a7))) d3))) i8
 ext b
 ·exact m6 (j9 (k6 hu) (d6 1) d3) (d4 (i7 (d9 (d6 0) a7))) i8
 ext b
 ·refine m6 (PW.pt (a1t (j9 (k6 hu) (d6 1) d3) (Y0 (j9 (k6 hu) (d6 1) d3)))) ?_ ?_
  ·refine d4 ?_;refine i7 ?_;refine d2 j7 ?_ ?_
   ·refine d2 j7 ?_ ?_
    ·exact d2 j7 (d6 1) d3
    refine b2r ?_ ?_
    ·exact d3
    exists y0,["_law_part"],["_law_tree","_law_word"],2,a7F
    ·exact rfl
    ·exact a3g (d9 (d6 0) a7)
    intro C fp pins s H;exact o8 G9 hr (by lia) rfl (a9 d8) (a6 (d6 2) b7)
   exact d3
  exact i8
 ext b
 ·refine m6 (PW.pt (a1t (j9 (k6 hu) (d6 1) d3) (Y0 (j9 (k6 hu) (d6 1) d3)))) ?_ ?_
  ·exact d4 (i7 (d2 j7 (d2 j7 (d2 j7 (d2 j7 (d2 j7 (d6 1) d3) (a6c b8t rfl M.z_str (by rfl) (d9 (d6 0) a7))) d3) (o8 G9 hr (by lia) rfl (a9 d8) (a6 (d9 (d6 0) a7) b7))) d3))
  exact i8
 ext b
 ·exact m6 (j9 (k6 hu) (d6 1) d3) (d4 (i7 (d2 j7 (d2 j7 (d2 j7 (d9 (d6 0) a7) d3) (o8 G9 hr (by lia) rfl (a9 d8) (a6 (d9 (d6 0) a7) b7))) d3))) i8
 exact d4 (i7 (d2 j7 (d2 j7 (d2 j7 (d2 j7 (d2 j7 (d2 j7 d3 (d9 (d6 0) a7)) d3) (d9 (d6 0) a7)) d3) (o8 G9 hr (by lia) rfl (a9 d8) (a6 (d9 (d6 0) a7) b7))) d3))
theorem a9h(a0Y:Df K mg "_law_text" a1o)(M:MoB K mg):∀n:Nat,z8 P w K mg base "_law_text" ["_law_tree"] (1+n) (a10 n):=by
 intro n
 induction n with
 |zero=>exact C3 (k:=0) a0Y a2k (λ_ _ _ _ _ _=>el1 (λ_=>rfl)) λf cdv A outer s H E hr=>a6e
 |succ n ih=>
  exact b0t P w base (Nat.le_add_right _ _) a0Y M ih
theorem a9m(D:Df K mg "_law_grown" a2c)(M:MoB K mg)(a08:a5V P w K mg base)(T4:a1C P w K mg base)(a3d:a5X P w K mg base)(A0:a28 P w K mg base)(G9:b07 P w K mg base):a48 P w K mg base:=by
 exists z0,13,a4i,el4 λ_ _ _ _=>rfl
 ext b
 ·exact j1 (i:=4) S.nd (o8 a08 hr (by decide) rfl (a9 (a9 d8)) (a6 (d6 0) (a6 (d6 2) b7)))
 ext b
 ·refine m6 (PW.pt (a6f (j9 a6R (d6 3) a7) (a3R (N4 (X9 (.inr (.inr (.inl rfl))) rfl M.z_isinstance (d9 (o8 A0 hr (by decide) rfl (a9 (a9 d8)) (a6 (d6 4) (a6 (d6 1) b7))) a7) (L9 rfl M.z_str (by rfl) rfl)))))) ?_ ?_
  ·exact d4 (j1 (i:=4) S.nd (o8 T4 hr (by decide) rfl (a9 d8) (a6 (d6 0) b7)))
  exact i8
 ext b
 ·refine a0P PassesOwn.never ?_ ?_ M.z_range ?_ ?_ (D4 5) ?_
  ·exact rfl
  ·exact rfl
  ·exact a6 (d2 l6 (d2 l6 (d2 o0 (d6 0) a7) a7) a7) b7
  ·exact u4 (i:=5) S.nd rfl (Or.inl rfl)
  ext b
  ·exact j1 (i:=6) S.nd (d2 l6 (d2 o0 (d6 0) (d2 j7 (d2 o0 a7 (d6 5)) a7)) a7)
  ext b
  ·refine j1 (i:=7) ?_ ?_
   ·exact S.nd
   exact o8 a3d hr (by decide) rfl (a9 (a9 (a9 d8))) (a6 (d6 6) (a6 (d6 4) (a6 (o8 a08 hr (by decide) rfl (a9 (a9 d8)) (a6 (d2 j7 (d2 o0 (d6 6) a7) a7) (a6 (d6 2) b7))) b7)))
  ext b
  ·exact j1 (i:=8) S.nd (o8 A0 hr (by decide) rfl (a9 (a9 d8)) (a6 (d6 7) (a6 (d6 1) b7)))
  ext b
  ·exact j1 (i:=9) S.nd (b4w (b8C (X9 (.inr (.inr (.inl rfl))) rfl M.z_isinstance (d9 (d6 8) a7) (L9 rfl M.z_str (by rfl) rfl))) (b1l (a5d b67 (T5 (a8P rfl) rfl M.z_max (by rfl) (d6 8)) (d6 3))))
  refine d4 ?_;refine m6 (PW.pt (a6f (PW.pt (a1t (N4 (d6 9)) (Y0 (j9 (k6 hu) (d6 3) a7)))) (a3R (j9 a9t (T5 N2 rfl M.z_len (by rfl) (o8 G9 hr (by decide) rfl (a9 d8) (a6 (d6 7) b7))) a7)))) ?_ ?_
  ·exact d4 (j1 (i:=4) S.nd (d6 7))
  exact i8
 exact d4 (R7 4 (pv 4))
theorem a6O(D:Df K mg "_law_cell_at" a0D)(M:MoB K mg):a2L P w K mg base:=by
 exists z0,0,a2g,el2 λ_ _=>rfl
 exact b9 (m6 (j9 a9t (d6 1) (T5 N2 rfl M.z_len (by rfl) (d6 0))) (d4 (i7 (d9 (d6 0) (d6 1)))) i8) (d4 (i7 a7))
theorem a9n(D:Df K mg "_law_names" a2d):a49 P w K mg base:=by
 exists z0,0,a4j,el0 rfl
 exact d4 (i7 (A6 (a6 d3 (a6 d3 (a6 d3 (a6 d3 (a6 d3 b7)))))))
theorem b0q(D:Df K mg "_law_rows" a3w)(M:MoB K mg)(W1:a3E P w K mg base)(a0g:a48 P w K mg base)(A0:a28 P w K mg base)(a0x:a2L P w K mg base)(a0h:a49 P w K mg base):a5W P w K mg base:=by
 exists z0,14,a5v,el1 λ_=>rfl
 ext b
 ·exact j1 (i:=1) S.nd (A6 b7)
 ext b
 ·exact j1 (i:=2) S.nd b1m
 ext b
 ·refine b4C PassesOwn.never ?_ ?_ M.z_range ?_ ?_ (D4 3) ?_
  ·exact rfl
  ·exact rfl
  ·exact a6 a7 (a6 (c0a (b8s rfl) rfl M.z_min (by rfl) (T5 N2 rfl M.z_len (by rfl) (d6 0)) a7) b7)
  ·exact u4 (i:=3) S.nd rfl (Or.inl rfl)
  ext b
  ·exact j1 (i:=4) S.nd (o8 W1 hr (by decide) rfl (a9 (a9 d8)) (a6 (d9 (d6 0) (d6 3)) (a6 (d6 3) b7)))
  ext b
  ·exact j1 (i:=5) S.nd (d9 (b2o a0h hr (by decide) rfl) (d2 l6 (d2 l6 (d2 o0 (d6 4) a7) a7) a7))
  ext b
  ·exact j1 (i:=6) S.nd (d9 (A6 (a6 a7 (a6 a7 (a6 a7 (a6 a7 (a6 a7 (a6 a7 (a6 a7 (a6 a7 b7))))))))) (d2 l6 (d6 4) a7))
  ext b
  ·exact j1 (i:=7) S.nd (a6c (a9U rfl) rfl M.z_list (by rfl) (d6 2))
  ext b
  ·exact m6 (j9 (k6 hu) (d2 l6 (d6 4) a7) a7) (d4 (j1 (i:=7) S.nd (b2o a0h hr (by decide) rfl))) i8
  ext b
  ·exact a0z 7 (j1 (i:=8) S.nd (a90 2 (o8 a0g hr (by decide) rfl (a9 (a9 (a9 (a9 d8)))) (a6 (d6 4) (a6 (d6 2) (a6 (d6 7) (a6 (d6 6) b7)))))))
  ext b
  ·refine m6 (PW.pt (a6f (j9 (k6 hu) (d2 l6 (d6 4) a7) a7) (a3R (PW.pt (a1t (b8J 2 hu (pv 2) (d6 5) (by first|rfl|exact nomark _)) (Y0 (j9 (k6 hu) (d2 l6 (d6 4) a7) a7))))))) ?_ ?_
   ·ext b
    ·exact j1 (i:=9) S.nd (d2 j7 a7 (d2 l6 (d2 l6 (d2 o0 (d6 4) a7) a7) (d9 (A6 (a6 a7 (a6 a7 b7))) (d2 l6 (d2 b0w (d6 4) a7) a7))))
    exact d4 (W6 1 (pv 1) (n6 (a6 d3 (a6 (d6 9) (a6 (d6 5) (a6 (d6 8) b7))))))
   exact d4 (W6 1 (pv 1) (n6 (a6 d3 (a6 (d6 5) (a6 (d6 8) b7)))))
  exact b9 (j1 (i:=10) S.nd (a9Y 2 A0 hr (by decide) rfl (d6 8) (pv 2))) (d4 (m6 (a4B (N4 (X9 (.inr (.inr (.inl rfl))) rfl M.z_isinstance (d9 (d6 10) a7) (L9 rfl M.z_str (by rfl) rfl)))) (d4 (a8U 2 hu (pv 2) (d6 5) (d6 10))) i8))
 ext b
 ·exact j1 (i:=4) S.nd (o8 W1 hr (by decide) rfl (a9 (a9 d8)) (a6 (o8 a0x hr (by decide) rfl (a9 (a9 d8)) (a6 (d6 0) (a6 a7 b7))) (a6 a7 b7)))
 refine d4 ?_;refine i7 ?_;refine d2 j7 (d6 1) ?_;exact A6 (a6 (n6 (a6 d3 (a6 (a90 2 (o8 a0g hr (by decide) rfl (a9 (a9 (a9 (a9 d8)))) (a6 (d6 4) (a6 (d6 2) (a6 (a6c (a9U rfl) rfl M.z_list (by rfl) (d6 2)) (a6 a7 b7)))))) b7))) b7)
theorem b1Q(D:Df K mg "_law_due" a4X)(M:MoB K mg)(A0:a28 P w K mg base):a7V P w K mg base:=by
 exists z0,13,a62,el1 λ_=>rfl
 ext b
 ·exact j1 (i:=1) S.nd b1m
 ext b
 ·exact j1 (i:=2) S.nd (A6 b7)
 ext b
 ·refine a0P PassesOwn.never ?_ ?_ M.z_range ?_ ?_ (D4 3) ?_
  ·exact rfl
  ·exact rfl
  ·exact a6 (T5 N2 rfl M.z_len (by rfl) (d6 0)) b7
  ·exact u4 (i:=3) S.nd rfl (Or.inl rfl)
  ext b
  ·exact j1 (i:=4) S.nd (d9 (d6 0) (d6 3))
  ext b
  ·exact j1 (i:=5) S.nd a7
  ext b
  ·refine m6 ?_ ?_ ?_
   ·exact j9 (k6 hu) (d9 (d6 4) a7) d3
   ·ext b
    ·exact j1 (i:=5) S.nd (d9 (d6 4) a7)
    exact d4 (m6 (a8c 1 hu (pv 1) (d9 (d6 4) a7) (by first|rfl|exact nomark _)) (d4 (a0z 2 (i7 (n6 (a6 (d6 2) (a6 (n6 (a6 d3 (a6 (d9 (d6 4) a7) b7))) (a6 (d6 3) b7))))))) i8)
   exact i8
  refine d4 ?_;refine a0P PassesOwn.never ?_ ?_ M.z_range ?_ ?_ (D4 6) ?_
  ·exact rfl
  ·exact rfl
  ·exact a6 (d6 5) b7
  ·exact u4 (i:=6) S.nd rfl (Or.inl rfl)
  ext b
  ·exact j1 (i:=7) S.nd (a9Y 1 A0 hr (by decide) rfl (d9 (d6 4) (a3f a7)) (pv 1))
  ext b
  ·exact m6 (N4 (X9 (.inr (.inr (.inl rfl))) rfl M.z_isinstance (d9 (d6 7) a7) (L9 rfl M.z_str (by rfl) rfl))) (d4 (a0z 2 (i7 (n6 (a6 (d6 2) (a6 (d6 7) (a6 (d6 3) b7))))))) i8
  exact b9 (W6 2 (pv 2) (d6 7)) (d4 (m6 (j9 (U6 hu) (d9 (d6 4) a7) d3) (d4 (a8U 1 hu (pv 1) (d9 (d6 4) (a3f a7)) (d6 7))) i8))
 exact d4 (a0z 2 (i7 (n6 (a6 (d6 2) (a6 b1k (a6 a7 b7))))))
theorem b0p{k:Nat}(hk0:2<=k){v6:List PV->Option c6}(D:Df K mg "_law_made" a1l)(M:MoB K mg)(I:Io P w K mg base)(C1:z8 P w K mg base "_law_made" ["_law_tree"] k v6):z8 P w K mg base "_law_made" ["_law_tree"] (k+1) (G5 1 (X3 v6)):=by
 exists z0,k,a2h,el1 λ_=>rfl
 ext b
 ·exact j1 (i:=1) S.nd (d9 (d6 0) a7)
 ext b
 ·exact m6 (j9 (k6 hu) (d6 1) d3) (d4 (i7 (a1R I.i_Plain hr (by lia) rfl (a9 d8) (a6 (d9 (d6 0) a7) b7)))) i8
 ext b
 ·exact m6 (j9 (k6 hu) (d6 1) d3) (d4 (i7 (a1R I.i_Named hr (by lia) rfl (a9 d8) (a6 (d9 (d6 0) a7) b7)))) i8
 ext b
 ·refine m6 ?_ ?_ ?_
  ·exact j9 (k6 hu) (d6 1) d3
  ·refine d4 ?_;refine i7 ?_;refine a1R I.i_Beside hr ?_ ?_ ?_ ?_
   ·lia
   ·exact rfl
   ·exact a9 d8
   refine a6 ?_ ?_
   ·refine a6c a56 ?_ M.z_tuple ?_ ?_
    ·exact rfl
    ·rfl
    exists y0,["_law_part"],["_law_tree","_law_word"],2,a7B
    ·exact rfl
    ·exact a3g (d9 (d6 0) a7)
    intro C fp pins s H;exact o8 C1 hr (by lia) rfl (a9 d8) (a6 (d6 2) b7)
   exact b7
  exact i8
 ext b
 ·refine m6 ?_ ?_ ?_
  ·exact j9 (k6 hu) (d6 1) d3
  ·refine d4 ?_;refine i7 ?_;refine a1R I.i_Above hr ?_ ?_ ?_ ?_
   ·lia
   ·exact rfl
   ·exact a9 d8
   refine a6 ?_ ?_
   ·refine a6c a56 ?_ M.z_tuple ?_ ?_
    ·exact rfl
    ·rfl
    exists y0,["_law_part"],["_law_tree","_law_word"],2,a7C
    ·exact rfl
    ·exact a3g (d9 (d6 0) a7)
    intro C fp pins s H;exact o8 C1 hr (by lia) rfl (a9 d8) (a6 (d6 2) b7)
   exact b7
  exact i8
 ext b
 ·exact m6 (j9 (k6 hu) (d6 1) d3) (d4 (i7 (a1R I.i_Across hr (by lia) rfl (a9 (a9 d8)) (a6 (d9 (d6 0) a7) (a6 (o8 C1 hr (by lia) rfl (a9 d8) (a6 (d9 (d6 0) a7) b7)) b7))))) i8
 ext b
 ·exact m6 (j9 (k6 hu) (d6 1) d3) (d4 (i7 (a1R I.i_Down hr (by lia) rfl (a9 (a9 d8)) (a6 (d9 (d6 0) a7) (a6 (o8 C1 hr (by lia) rfl (a9 d8) (a6 (d9 (d6 0) a7) b7)) b7))))) i8
 ext b
 ·exact m6 (j9 (k6 hu) (d6 1) d3) (d4 (i7 (a1R I.i_Turned hr (by lia) rfl (a9 (a9 d8)) (a6 (d9 (d6 0) a7) (a6 (o8 C1 hr (by lia) rfl (a9 d8) (a6 (d9 (d6 0) a7) b7)) b7))))) i8
 exact d4 (i7 (a1R I.i_Dyed hr (by lia) rfl (a9 (a9 (a9 d8))) (a6 (d9 (d6 0) a7) (a6 (d9 (d6 0) a7) (a6 (o8 C1 hr (by lia) rfl (a9 d8) (a6 (d9 (d6 0) a7) b7)) b7)))))
theorem a9f(a0X:Df K mg "_law_made" a1l)(M:MoB K mg)(I:Io P w K mg base):∀n:Nat,z8 P w K mg base "_law_made" ["_law_tree"] (2+n) (a1Y n):=by
 intro n
 induction n with
 |zero=>exact C3 (k:=1) a0X a2h (λ_ _ _ _ _ _=>el1 (λ_=>rfl)) λf cdv A outer s H E hr=>a6e
 |succ n ih=>
  exact b0p P w base (Nat.le_add_right _ _) a0X M I ih
theorem a9l(D:Df K mg "_law_built" a2b)(C1:b06 P w K mg base):a47 P w K mg base:=by
 exists z0,14,a4h,el1 λ_=>rfl
 ext b
 ·exact j1 (i:=1) S.nd (A6 b7)
 ext b
 ·refine b4B PassesOwn.never ?_ (d6 0) ?_ (D4 2) ?_
  ·exact rfl
  ·exact u4 (i:=2) S.nd rfl (Or.inl rfl)
  exact d4 (W6 1 (pv 1) (d2 j7 (a1S (d6 2) a3O (a3P (a3f a7))) (n6 (a6 (o8 C1 hr (by decide) rfl (a9 d8) (a6 (d9 (d6 2) (a3f a7)) b7)) b7))))
 exact d4 (R7 1 (pv 1))
theorem b0u(D:Df K mg "times_of" a3y):a5Y P w K mg base:=by
 exists z0,0,a5x,el1 λ_=>rfl
 exact b9 (m6 (j9 (k6 hu) (d9 (d6 0) a7) d3) (d4 (i7 (d9 (d6 0) a7))) i8) (d4 (i7 a7))
theorem b1R(D:Df K mg "size_of" a4Y)(M:MoB K mg):a7W P w K mg base:=by
 exists z0,0,a63,el1 λ_=>rfl
 exact d4 (i7 (n6 (a6 (T5 N2 rfl M.z_len (by rfl) (d6 0)) (a6 (T5 N2 rfl M.z_len (by rfl) (d9 (d6 0) a7)) b7))))
theorem a7L(D:Dm K "size" "Plain.size" a1k a.f_Plain_size)(O:Oc K mg a)(a4y:a7W P w K mg base):B2 P w K mg base a:=by
 refine w6 (k:=1) D a21 (λ_ _ _ _ _ _=>el3 (λ_ _ _=>rfl)) λcdv A outer s H E hr hx hL=> ?_;have S:=a21;have hu:=hr.units;exact L7 (d4 (i7 (o8 a4y hr (by decide) rfl (a9 d8) (a6 (P6 O.fld_rows (d6 0)) b7))))
theorem a7K(D:Dm K "size" "Named.size" a1j a.f_Named_size)(O:Oc K mg a)(xi_NoName:a7k P w K mg base "NoName" ["row","name"] 1):B1 P w K mg base a:=by
 refine w6 (k:=2) D a20 (λ_ _ _ _ _ _=>el3 (λ_ _ _=>rfl)) λcdv A outer s H E hr hx hL=> ?_;have S:=a20
 ext l
 ·refine a6g ?_ ?_ ?_
  ·exact b1p 1 hu (pv 1) (P6 O.fld_name (d6 0)) (by first|rfl|exact nomark _)
  ·exact u7 (a0Q rfl rfl rfl xi_NoName hr (by decide) (a9 (a9 d8)) (a6 (d6 2) (a6 (P6 O.fld_name (d6 0)) b7)) (λpins σ H s a C dd I x h0 hn e=>U1 I x h0 hn e))
  exact L7 i8
 exact L7 (d4 (i7 (b4y 1 hu (pv 1) (P6 O.fld_name (d6 0)))))
theorem a5D(D:Df K mg "checked_size" Y9)(xi_TooWide:a7k P w K mg base "TooWide" ["row"] 1){u_LONGEST:AB}{n_LONGEST:Nat}(m_LONGEST:mg "LONGEST"=ξ u_LONGEST)(c_LONGEST:a1E K n_LONGEST u_LONGEST=ξ W8):C8 P w K mg base:=by
 refine J4 (k:=2) D a1v (λ_ _ _ _ _ _=>el3 (λ_ _ _=>rfl)) λf cdv A outer s H E hr hx hL=> ?_;have S:=a1v
 ext l
 ·refine a6g (PW.pt (a1t (j9 a6R (d6 0) (a8S rfl m_LONGEST c_LONGEST)) (Y0 (j9 a6R (d6 1) (a8S rfl m_LONGEST c_LONGEST))))) ?_ ?_
  ·exact u7 (a0Q rfl rfl rfl xi_TooWide hr (by decide) (a9 d8) (a6 (d6 2) b7) (λpins σ H s a C dd I x h0 hn e=>U1 I x h0 hn e))
  exact L7 i8
 exact L7 (d4 (i7 (n6 (a6 (d6 0) (a6 (d6 1) b7)))))
theorem a7N(D:Df K mg "size_above" K3)(xi_Misfit:a7k P w K mg base "Misfit" ["row"] 1)(n0:C8 P w K mg base):V9 P w K mg base:=by
 refine J4 (k:=3) D a23 (λ_ _ _ _ _ _=>el3 (λ_ _ _=>rfl)) λf cdv A outer s H E hr hx hL=> ?_;have S:=a23
 ext l
 ·exact a6g (j9 (U6 hu) (d9 (d6 0) a7) (d9 (d6 1) a7)) (u7 (a0Q rfl rfl rfl xi_Misfit hr (by decide) (a9 d8) (a6 (d6 2) b7) (λpins σ H s a C dd I x h0 hn e=>U1 I x h0 hn e))) (L7 i8)
 exact u7 (N5 (a09 n0 hr (by decide) rfl hx (a9 (a9 (a9 d8))) (a6 (d2 j7 (d9 (d6 0) a7) (d9 (d6 1) a7)) (a6 (d9 (d6 0) a7) (a6 (d6 2) b7)))))
theorem a6Q(D:Df K mg "size_beside" F8)(xi_Misfit:a7k P w K mg base "Misfit" ["row"] 1)(n0:C8 P w K mg base):R3 P w K mg base:=by
 refine J4 (k:=3) D a2l (λ_ _ _ _ _ _=>el3 (λ_ _ _=>rfl)) λf cdv A outer s H E hr hx hL=> ?_;have S:=a2l
 ext l
 ·exact a6g (j9 (U6 hu) (d9 (d6 0) a7) (d9 (d6 1) a7)) (u7 (a0Q rfl rfl rfl xi_Misfit hr (by decide) (a9 d8) (a6 (d6 2) b7) (λpins σ H s a C dd I x h0 hn e=>U1 I x h0 hn e))) (L7 i8)
 exact u7 (N5 (a09 n0 hr (by decide) rfl hx (a9 (a9 (a9 d8))) (a6 (d9 (d6 0) a7) (a6 (d2 j7 (d9 (d6 0) a7) (d9 (d6 1) a7)) (a6 (d6 2) b7)))))
theorem a7J{k:Nat}(hk0:4<=k){d5 c7 c9 e9 f9 d0 R_size_of_laid:List PV->Option (c6 ⊕ XT)}(D:Dm K "size" "Above.size" W4 a.f_Above_size)(O:Oc K mg a){L3:AA}(y9:FnV K mg "size_above" L3)(E5:V9 P w K mg base)(g:B0 P w K mg base a k d5 c7 c9 e9 f9 d0 R_size_of_laid):z9 P w K mg base a.f_Above_size ["self","known","row"] (k+1) (A7 0 (W0 d5 c7 c9 e9 f9 d0 R_size_of_laid)):=by
 refine w6 (k:=k) D a0F (λ_ _ _ _ _ _=>el3 (λ_ _ _=>rfl)) λcdv A outer s H E hr hx hL=> ?_;have S:=a0F;have hu:=hr.units;exact u7 (N5 (a09 g.d_size_of_laid hr (by lia) rfl hx (a9 (a9 (a9 (a9 d8)))) (a6 (P6 O.fld_parts (d6 0)) (a6 (d6 1) (a6 (d6 2) (a6 (a9Z y9) b7))))))
theorem a6L{k:Nat}(hk0:4<=k){d5 c7 c9 e9 f9 d0 R_size_of_laid:List PV->Option (c6 ⊕ XT)}(D:Dm K "size" "Across.size" S6 a.f_Across_size)(O:Oc K mg a)(n0:C8 P w K mg base)(j6:B2 P w K mg base a)(j5:B1 P w K mg base a)(g:B0 P w K mg base a k d5 c7 c9 e9 f9 d0 R_size_of_laid):z9 P w K mg base a.f_Across_size ["self","known","row"] (k+1) (A7 1 (R4 d5 c7 c9 e9 f9 d0 R_size_of_laid)):=by
 refine w6 (k:=k) D Z1 (λ_ _ _ _ _ _=>el3 (λ_ _ _=>rfl)) λcdv A outer s H E hr hx hL=> ?_;have S:=Z1
 ext l
 ·ext a
  exact S.nd
 exact u7 (N5 (a09 n0 hr (by lia) rfl hx (a9 (a9 (a9 d8))) (a6 (d9 (d6 3) a7) (a6 (d2 o0 (d9 (d6 3) a7) (P6 O.fld_many (d6 0))) (a6 (d6 2) b7)))))
theorem a6M{k:Nat}(hk0:4<=k){d5 c7 c9 e9 f9 d0 R_size_of_laid:List PV->Option (c6 ⊕ XT)}(D:Dm K "size" "Beside.size" S7 a.f_Beside_size)(O:Oc K mg a){I0:AA}(w4:FnV K mg "size_beside" I0)(C2:R3 P w K mg base)(g:B0 P w K mg base a k d5 c7 c9 e9 f9 d0 R_size_of_laid):z9 P w K mg base a.f_Beside_size ["self","known","row"] (k+1) (A7 0 (R5 d5 c7 c9 e9 f9 d0 R_size_of_laid)):=by
 refine w6 (k:=k) D Z2 (λ_ _ _ _ _ _=>el3 (λ_ _ _=>rfl)) λcdv A outer s H E hr hx hL=> ?_;have S:=Z2;have hu:=hr.units;exact u7 (N5 (a09 g.d_size_of_laid hr (by lia) rfl hx (a9 (a9 (a9 (a9 d8)))) (a6 (P6 O.fld_parts (d6 0)) (a6 (d6 1) (a6 (d6 2) (a6 (a9Z w4) b7))))))
theorem a9i{k:Nat}(hk0:4<=k){d5 c7 c9 e9 f9 d0 R_size_of_laid:List PV->Option (c6 ⊕ XT)}(D:Dm K "size" "Down.size" a0r a.f_Down_size)(O:Oc K mg a)(n0:C8 P w K mg base)(j6:B2 P w K mg base a)(j5:B1 P w K mg base a)(g:B0 P w K mg base a k d5 c7 c9 e9 f9 d0 R_size_of_laid):z9 P w K mg base a.f_Down_size ["self","known","row"] (k+1) (A7 1 (a0d d5 c7 c9 e9 f9 d0 R_size_of_laid)):=by
 refine w6 (k:=k) D a1p (λ_ _ _ _ _ _=>el3 (λ_ _ _=>rfl)) λcdv A outer s H E hr hx hL=> ?_;have S:=a1p
 ext l
 ·ext a
  exact S.nd
 exact u7 (N5 (a09 n0 hr (by lia) rfl hx (a9 (a9 (a9 d8))) (a6 (d2 o0 (d9 (d6 3) a7) (P6 O.fld_many (d6 0))) (a6 (d9 (d6 3) a7) (a6 (d6 2) b7)))))
theorem a9j{k:Nat}(hk0:4<=k){d5 c7 c9 e9 f9 d0 R_size_of_laid:List PV->Option (c6 ⊕ XT)}(D:Dm K "size" "Dyed.size" a0s a.f_Dyed_size)(O:Oc K mg a)(j6:B2 P w K mg base a)(j5:B1 P w K mg base a)(g:B0 P w K mg base a k d5 c7 c9 e9 f9 d0 R_size_of_laid):z9 P w K mg base a.f_Dyed_size ["self","known","row"] (k+1) (A7 0 (a0e d5 c7 c9 e9 f9 d0 R_size_of_laid)):=by
 refine w6 (k:=k) D a1q (λ_ _ _ _ _ _=>el3 (λ_ _ _=>rfl)) λcdv A outer s H E hr hx hL=> ?_;have S:=a1q;have hu:=hr.units;refine u7 ?_;exact N5 (a2q (b8 j6 O.kc_Plain O.fi_Plain_size (by lia) rfl (b8 j5 O.kc_Named O.fi_Named_size (by lia) rfl (b8 g.d_Beside_size O.kc_Beside O.fi_Beside_size (by lia) rfl (b8 g.d_Above_size O.kc_Above O.fi_Above_size (by lia) rfl (b8 g.d_Across_size O.kc_Across O.fi_Across_size (by lia) rfl (b8 g.d_Down_size O.kc_Down O.fi_Down_size (by lia) rfl (b8 g.d_Turned_size O.kc_Turned O.fi_Turned_size (by lia) rfl (b8 g.d_Dyed_size O.kc_Dyed O.fi_Dyed_size (by lia) rfl J9)))))))) hr hx (P6 O.fld_part (d6 0)) (a9 (a9 d8)) (a6 (d6 1) (a6 (d6 2) b7)))
theorem a6N{k:Nat}(hk0:4<=k){d5 c7 c9 e9 f9 d0 R_size_of_laid:List PV->Option (c6 ⊕ XT)}(D:Dm K "size" "Turned.size" S8 a.f_Turned_size)(O:Oc K mg a){u_LYING_WAYS:AB}{n_LYING_WAYS:Nat}(m_LYING_WAYS:mg "LYING_WAYS"=ξ u_LYING_WAYS)(c_LYING_WAYS:a1E K n_LYING_WAYS u_LYING_WAYS=ξ K4)(j6:B2 P w K mg base a)(j5:B1 P w K mg base a)(g:B0 P w K mg base a k d5 c7 c9 e9 f9 d0 R_size_of_laid):z9 P w K mg base a.f_Turned_size ["self","known","row"] (k+1) (A7 1 (R6 d5 c7 c9 e9 f9 d0 R_size_of_laid)):=by
 refine w6 (k:=k) D Z3 (λ_ _ _ _ _ _=>el3 (λ_ _ _=>rfl)) λcdv A outer s H E hr hx hL=> ?_;have S:=Z3
 ext l
 ·ext a
  exact S.nd
 exact L7 (b9 (m6 (j9 (b2N hu) (P6 O.fld_way (d6 0)) (a8S rfl m_LYING_WAYS c_LYING_WAYS)) (d4 (i7 (n6 (a6 (d9 (d6 3) a7) (a6 (d9 (d6 3) a7) b7))))) i8) (d4 (R7 3 (pv 3))))
theorem a5F{k:Nat}(hk0:4<=k){d5 c7 c9 e9 f9 d0 R_size_of_laid:List PV->Option (c6 ⊕ XT)}(D:Df K mg "size_of_laid" O6)(O:Oc K mg a){L3:AA}(y9:FnV K mg "size_above" L3){I0:AA}(w4:FnV K mg "size_beside" I0)(j6:B2 P w K mg base a)(j5:B1 P w K mg base a)(C2:R3 P w K mg base)(E5:V9 P w K mg base)(g:B0 P w K mg base a k d5 c7 c9 e9 f9 d0 R_size_of_laid):G7 P w K mg base "size_of_laid" ["parts","known","row","lay"] (k+1) (A7 3 (G8 d5 c7 c9 e9 f9 d0 R_size_of_laid)):=by
 refine J4 (k:=k) D U8 (λ_ _ _ _ _ _=>el4 (λ_ _ _ _=>rfl)) λf cdv A outer s H E hr hx hL=> ?_;have S:=U8
 ext l
 ·refine b4F (i:=4) (ys:=["part"]) (N0:=["parts","known","row","lay","found","come","size"]) ?_ hL ?_ ⟨by kernel_rfl,rfl,of_decide_eq_true rfl,of_decide_eq_true rfl,of_decide_eq_true rfl⟩ ?_ (λC fp pins s H Y pn=>u4 (i:=7) a38 rfl (Or.inl rfl)) (λn h=>M3 (i:=7) (Nat.le_of_eq h)) (λC fp pins s H Y pn=>a4A) (λC fp pins s H Y pn hx=>(a2q (b8 j6 O.kc_Plain O.fi_Plain_size (by lia) rfl (b8 j5 O.kc_Named O.fi_Named_size (by lia) rfl (b8 g.d_Beside_size O.kc_Beside O.fi_Beside_size (by lia) rfl (b8 g.d_Above_size O.kc_Above O.fi_Above_size (by lia) rfl (b8 g.d_Across_size O.kc_Across O.fi_Across_size (by lia) rfl (b8 g.d_Down_size O.kc_Down O.fi_Down_size (by lia) rfl (b8 g.d_Turned_size O.kc_Turned O.fi_Turned_size (by lia) rfl (b8 g.d_Dyed_size O.kc_Dyed O.fi_Dyed_size (by lia) rfl J9)))))))) hr hx (d6 7) (a9 (a9 d8)) (a6 (d6 1) (a6 (d6 2) b7))))
  ·exact S.nd
  ·exact rfl
  exact a3g (d6 0)
 refine x6 ?_ ?_
 ·exact b1q (j1 (i:=5) S.nd (d9 (d6 4) a7))
 refine x6 ?_ ?_
 ·refine b8L PassesOwn.leaving ?_ ?_ ?_ (D4 6) ?_
  ·exact rfl
  ·exact a1S (d6 4) (a3P a7) a3O
  ·exact u4 (i:=6) S.nd rfl (Or.inl rfl)
  exact u7 (a3T (i:=5) S.nd (a92 3 (a1U C2 w4 (by lia) rfl (a1U E5 y9 (by lia) rfl a6h)) hr hx (pv 3) (a9 (a9 (a9 d8))) (a6 (d6 5) (a6 (d6 6) (a6 (d6 2) b7)))))
 exact L7 (d4 (R7 5 (pv 5)))
theorem a6K(V8:Dm K "size" "Above.size" W4 a.f_Above_size)(Q9:Dm K "size" "Across.size" S6 a.f_Across_size)(R0:Dm K "size" "Beside.size" S7 a.f_Beside_size)(a0b:Dm K "size" "Down.size" a0r a.f_Down_size)(a0c:Dm K "size" "Dyed.size" a0s a.f_Dyed_size)(R1:Dm K "size" "Turned.size" S8 a.f_Turned_size)(D_size_of_laid:Df K mg "size_of_laid" O6)(O:Oc K mg a){L3:AA}(y9:FnV K mg "size_above" L3){I0:AA}(w4:FnV K mg "size_beside" I0){u_LYING_WAYS:AB}{n_LYING_WAYS:Nat}(m_LYING_WAYS:mg "LYING_WAYS"=ξ u_LYING_WAYS)(c_LYING_WAYS:a1E K n_LYING_WAYS u_LYING_WAYS=ξ K4)(E5:V9 P w K mg base)(n0:C8 P w K mg base)(j6:B2 P w K mg base a)(j5:B1 P w K mg base a)(C2:R3 P w K mg base):∀n:Nat,B0 P w K mg base a (4+n) (a0A n) (Y3 n) (Y4 n) (a1g n) (a1h n) (Y5 n) (U4 n):=by
 intro n
 induction n with
 |zero=>exact⟨w6 (k:=3) V8 a0F (λ_ _ _ _ _ _=>el3 (λ_ _ _=>rfl)) λcdv A outer s H E hr hx hL=>T6,w6 (k:=3) Q9 Z1 (λ_ _ _ _ _ _=>el3 (λ_ _ _=>rfl)) λcdv A outer s H E hr hx hL=>T6,w6 (k:=3) R0 Z2 (λ_ _ _ _ _ _=>el3 (λ_ _ _=>rfl)) λcdv A outer s H E hr hx hL=>T6,w6 (k:=3) a0b a1p (λ_ _ _ _ _ _=>el3 (λ_ _ _=>rfl)) λcdv A outer s H E hr hx hL=>T6,w6 (k:=3) a0c a1q (λ_ _ _ _ _ _=>el3 (λ_ _ _=>rfl)) λcdv A outer s H E hr hx hL=>T6,w6 (k:=3) R1 Z3 (λ_ _ _ _ _ _=>el3 (λ_ _ _=>rfl)) λcdv A outer s H E hr hx hL=>T6,J4 (k:=3) D_size_of_laid U8 (λ_ _ _ _ _ _=>el4 (λ_ _ _ _=>rfl)) λf cdv A outer s H E hr hx hL=>T6⟩
 |succ n ih=>
  exact⟨a7J P w base a (Nat.le_add_right _ _) V8 O y9 E5 ih,a6L P w base a (Nat.le_add_right _ _) Q9 O n0 j6 j5 ih,a6M P w base a (Nat.le_add_right _ _) R0 O w4 C2 ih,a9i P w base a (Nat.le_add_right _ _) a0b O n0 j6 j5 ih,a9j P w base a (Nat.le_add_right _ _) a0c O j6 j5 ih,a6N P w base a (Nat.le_add_right _ _) R1 O m_LYING_WAYS c_LYING_WAYS j6 j5 ih,a5F P w base a (Nat.le_add_right _ _) D_size_of_laid O y9 w4 j6 j5 C2 E5 ih⟩
theorem a9q(D:Df K mg "size_step" M8)(O:Oc K mg a)(j6:B2 P w K mg base a)(j5:B1 P w K mg base a)(d_Beside_size:a7m P w K mg base a)(d_Above_size:a8I P w K mg base a)(d_Across_size:a7l P w K mg base a)(d_Down_size:a9M P w K mg base a)(d_Turned_size:a7n P w K mg base a)(d_Dyed_size:a9N P w K mg base a):a1D P w K mg base:=by
 refine J4 (k:=24) D a4m (λ_ _ _ _ _ _=>el3 (λ_ _ _=>rfl)) λf cdv A outer s H E hr hx hL=> ?_;have S:=a4m;have hu:=hr.units;refine u7 ?_;exact N5 (a2q (b8 j6 O.kc_Plain O.fi_Plain_size (by decide) rfl (b8 j5 O.kc_Named O.fi_Named_size (by decide) rfl (b8 d_Beside_size O.kc_Beside O.fi_Beside_size (by decide) rfl (b8 d_Above_size O.kc_Above O.fi_Above_size (by decide) rfl (b8 d_Across_size O.kc_Across O.fi_Across_size (by decide) rfl (b8 d_Down_size O.kc_Down O.fi_Down_size (by decide) rfl (b8 d_Turned_size O.kc_Turned O.fi_Turned_size (by decide) rfl (b8 d_Dyed_size O.kc_Dyed O.fi_Dyed_size (by decide) rfl J9)))))))) hr hx (d6 0) (a9 (a9 d8)) (a6 (d6 1) (a6 (d6 2) b7)))
theorem a5E(D:Df K mg "gone_through" Z0)(M:MoB K mg){a1a:AA}(J7:FnV K mg "size_step" a1a)(xi_NoName:a7k P w K mg base "NoName" ["row","name"] 1)(a3e:a5Y P w K mg base)(a0i:a1D P w K mg base):a1A P w K mg base:=by
 refine J4 (k:=25) D a1w (λ_ _ _ _ _ _=>el2 (λ_ _=>rfl)) λf cdv A outer s H E hr hx hL=> ?_;have S:=a1w
 ext l
 ·exact b1q (j1 (i:=2) S.nd b1m)
 refine x6 ?_ ?_
 ·exact b1q (j1 (i:=3) S.nd (A6 b7))
 refine x6 ?_ ?_
 ·refine b6x PassesOwn.leaving ?_ ?_ M.z_enumerate ?_ ?_ (b52 [4,5]) ?_
  ·exact rfl
  ·exact rfl
  ·exact a6 (d6 0) b7
  ·exact b5D rfl (a16 (u4 (i:=4) S.nd rfl (Or.inl rfl)) (a16 (u4 (i:=5) S.nd rfl (Or.inl rfl)) b2O))
  refine x6 ?_ ?_
  ·refine a6g (PW.pt (a6f (j9 (k6 hu) (d9 (d6 5) a7) d3) (a3R (a8c 2 hu (pv 2) (d9 (d6 5) a7) (by first|rfl|exact nomark _))))) ?_ ?_
   ·exact u7 (a0Q rfl rfl rfl xi_NoName hr (by decide) (a9 (a9 d8)) (a6 (d6 4) (a6 (d9 (d6 5) a7) b7)) (λpins σ H s a C dd I x h0 hn e=>U1 I x h0 hn e))
   exact L7 i8
  refine u7 ?_;refine b4G PassesOwn.leaving ?_ ?_ M.z_range ?_ ?_ (D4 6) ?_
  ·exact rfl
  ·exact rfl
  ·exact a6 (o8 a3e hr (by decide) rfl (a9 d8) (a6 (d6 5) b7)) b7
  ·exact u4 (i:=6) S.nd rfl (Or.inl rfl)
  refine x6 ?_ ?_
  ·exact a3T (i:=7) S.nd (b4E 2 (a92 1 (a1U a0i J7 (by decide) rfl a6h) hr hx (pv 1) (a9 (a9 (a9 d8))) (a6 (d9 (d6 5) (a3f a7)) (a6 (d6 2) (a6 (d6 4) b7)))))
  exact L7 (b9 (W6 3 (pv 3) (d6 7)) (d4 (m6 (j9 (U6 hu) (d9 (d6 5) a7) d3) (d4 (a8U 2 hu (pv 2) (d9 (d6 5) (a3f a7)) (d6 7))) i8)))
 exact L7 (d4 (R7 3 (pv 3)))
theorem b5r(D:Df K mg "sizes" a9C){a1a:AA}(J7:FnV K mg "size_step" a1a)(X7:a1A P w K mg base)(a0i:a1D P w K mg base):a5H P w K mg base:=by
 refine J4 (k:=26) D b0L (λ_ _ _ _ _ _=>el1 (λ_=>rfl)) λf cdv A outer s H E hr hx hL=> ?_;have S:=b0L;have hu:=hr.units;exact u7 (N5 (a09 X7 hr (by decide) rfl hx (a9 (a9 d8)) (a6 (d6 0) (a6 (a9Z J7) b7))))
theorem a9p(D:Df K mg "_law_right" a2f)(M:MoB K mg){C_Misfit:AA}(x_Misfit:XC K mg "Misfit" C_Misfit){C_NoCloth:AA}(x_NoCloth:XC K mg "NoCloth" C_NoCloth){C_NoFit:AA}(x_NoFit:XC K mg "NoFit" C_NoFit){C_NoName:AA}(x_NoName:XC K mg "NoName" C_NoName){C_NoText:AA}(x_NoText:XC K mg "NoText" C_NoText){C_TooBig:AA}(x_TooBig:XC K mg "TooBig" C_TooBig){C_TooWide:AA}(x_TooWide:XC K mg "TooWide" C_TooWide)(ks_Misfit_Misfit:PySem.W.kitOne K (.ref C_Misfit) (.ref C_Misfit)=ξ true)(ks_Misfit_NoCloth:PySem.W.kitOne K (.ref C_Misfit) (.ref C_NoCloth)=ξ false)(ks_Misfit_NoFit:PySem.W.kitOne K (.ref C_Misfit) (.ref C_NoFit)=ξ false)(ks_Misfit_NoName:PySem.W.kitOne K (.ref C_Misfit) (.ref C_NoName)=ξ false)(ks_Misfit_NoText:PySem.W.kitOne K (.ref C_Misfit) (.ref C_NoText)=ξ false)(ks_Misfit_TooBig:PySem.W.kitOne K (.ref C_Misfit) (.ref C_TooBig)=ξ false)(ks_Misfit_TooWide:PySem.W.kitOne K (.ref C_Misfit) (.ref C_TooWide)=ξ false)(ks_Misfit_ValueError:PySem.W.kitOne K (.ref C_Misfit) (.type "ValueError")=ξ true)(ks_NoName_Misfit:PySem.W.kitOne K (.ref C_NoName) (.ref C_Misfit)=ξ false)(ks_NoName_NoCloth:PySem.W.kitOne K (.ref C_NoName) (.ref C_NoCloth)=ξ false)(ks_NoName_NoFit:PySem.W.kitOne K (.ref C_NoName) (.ref C_NoFit)=ξ false)(ks_NoName_NoName:PySem.W.kitOne K (.ref C_NoName) (.ref C_NoName)=ξ true)(ks_NoName_NoText:PySem.W.kitOne K (.ref C_NoName) (.ref C_NoText)=ξ false)(ks_NoName_TooBig:PySem.W.kitOne K (.ref C_NoName) (.ref C_TooBig)=ξ false)(ks_NoName_TooWide:PySem.W.kitOne K (.ref C_NoName) (.ref C_TooWide)=ξ false)(ks_NoName_ValueError:PySem.W.kitOne K (.ref C_NoName) (.type "ValueError")=ξ true)(ks_TooWide_Misfit:PySem.W.kitOne K (.ref C_TooWide) (.ref C_Misfit)=ξ false)(ks_TooWide_NoCloth:PySem.W.kitOne K (.ref C_TooWide) (.ref C_NoCloth)=ξ false)(ks_TooWide_NoFit:PySem.W.kitOne K (.ref C_TooWide) (.ref C_NoFit)=ξ false)(ks_TooWide_NoName:PySem.W.kitOne K (.ref C_TooWide) (.ref C_NoName)=ξ false)(ks_TooWide_NoText:PySem.W.kitOne K (.ref C_TooWide) (.ref C_NoText)=ξ false)(ks_TooWide_TooBig:PySem.W.kitOne K (.ref C_TooWide) (.ref C_TooBig)=ξ false)(ks_TooWide_TooWide:PySem.W.kitOne K (.ref C_TooWide) (.ref C_TooWide)=ξ true)(ks_TooWide_ValueError:PySem.W.kitOne K (.ref C_TooWide) (.type "ValueError")=ξ true)(xf_Misfit:a7R K C_Misfit=true)(xf_NoName:a7R K C_NoName=true)(xf_TooWide:a7R K C_TooWide=true)(fx_name:a46 K ["NoName"] "name")(fx_row:a46 K ["NoName","Misfit","TooWide"] "row"):a5a P w K mg base:=by
 exists z0,0,a4l,el3 λ_ _ _=>rfl
 ext b
 ·refine j1 (i:=3) ?_ ?_
  ·exact S.nd
  refine A6 ?_;refine a6 ?_ ?_
  ·exact a8T (cV:= .ref _) (A9 x_Misfit xf_Misfit ks_Misfit_NoName (A9 x_NoName xf_NoName ks_NoName_NoName (A9 x_TooWide xf_TooWide ks_TooWide_NoName a4n))) (λu h=>h) rfl M.z_isinstance (d6 0) (W3 rfl x_NoName.mg rfl)
  refine a6 ?_ ?_
  ·exact a8T (cV:= .ref _) (A9 x_Misfit xf_Misfit ks_Misfit_Misfit (A9 x_NoName xf_NoName ks_NoName_Misfit (A9 x_TooWide xf_TooWide ks_TooWide_Misfit a4n))) (λu h=>h) rfl M.z_isinstance (d6 0) (W3 rfl x_Misfit.mg rfl)
  exact a6 (a8T (cV:= .ref _) (A9 x_Misfit xf_Misfit ks_Misfit_TooWide (A9 x_NoName xf_NoName ks_NoName_TooWide (A9 x_TooWide xf_TooWide ks_TooWide_TooWide a4n))) (λu h=>h) rfl M.z_isinstance (d6 0) (W3 rfl x_TooWide.mg rfl)) b7
 ext b
 ·exact j1 (i:=4) S.nd (A6 (a6 d3 (a6 d3 (a6 d3 b7))))
 ext b
 ·refine m6 (PW.pt (a1t (a4B (N4 (a8T (cV:= .ty "ValueError") (A9 x_Misfit xf_Misfit ks_Misfit_ValueError (A9 x_NoName xf_NoName ks_NoName_ValueError (A9 x_TooWide xf_TooWide ks_TooWide_ValueError a4n))) (λu h=>h) rfl M.z_isinstance (d6 0) (L9 rfl M.z_ValueError (by rfl) rfl)))) (Y0 (j9 (U6 hu) (d6 3) (a5J (ys:=["_law_word"]) (N0:=["_law_e","_law_bad","_law_place","_law_some","_law_words"]) (λ_ _ h=>h) rfl ⟨by kernel_rfl,rfl,of_decide_eq_true rfl,of_decide_eq_true rfl,of_decide_eq_true rfl⟩ (a3g (d6 4)) (λC fp pins s H=>u4 (i:=5) a6F rfl (Or.inl rfl)) (λn h=>M3 (i:=5) (Nat.le_of_eq h)) (λC fp pins s H=>a4A) (λC fp pins s H=>(a5d (k6 hu) (d6 5) (d9 (d6 1) a7)))))))) ?_ ?_
  ·exact d4 (i7 a8a)
  exact i8
 ext b
 ·refine m6 ?_ ?_ ?_
  ·refine N4 ?_;refine b6v (a40 x_Misfit xf_Misfit (A8 ks_Misfit_NoCloth (A8 ks_Misfit_NoFit (A8 ks_Misfit_NoText (A8 ks_Misfit_TooBig a5Z)))) (a40 x_NoName xf_NoName (A8 ks_NoName_NoCloth (A8 ks_NoName_NoFit (A8 ks_NoName_NoText (A8 ks_NoName_TooBig a5Z)))) (a40 x_TooWide xf_TooWide (A8 ks_TooWide_NoCloth (A8 ks_TooWide_NoFit (A8 ks_TooWide_NoText (A8 ks_TooWide_TooBig a5Z)))) b51))) ?_ ?_ M.z_isinstance (d6 0) (p8 (W3 (v:= .ref _) rfl x_NoCloth.mg rfl) (p8 (W3 (v:= .ref _) rfl x_NoFit.mg rfl) (p8 (W3 (v:= .ref _) rfl x_NoText.mg rfl) (p8 (W3 (v:= .ref _) rfl x_TooBig.mg rfl) O4)))) (λ_ _ _ h=>h)
   ·rw [sizeLine_eq];exact Nat.le_of_ble_eq_true rfl
   exact rfl
  ·exact d4 (i7 a8a)
  exact i8
 ext b
 ·refine m6 (PW.pt (a1t (a4B (N4 (X9 (.inl rfl) rfl M.z_isinstance (b2q fx_row (d6 0)) (L9 rfl M.z_int (by rfl) rfl)))) (a1t (N4 (X9 (.inr (.inl rfl)) rfl M.z_isinstance (b2q fx_row (d6 0)) (L9 rfl M.z_bool (by rfl) rfl))) (Y0 (j9 (U6 hu) (b2q fx_row (d6 0)) (d6 2)))))) ?_ ?_
  ·exact d4 (i7 a8a)
  exact i8
 exact d4 (i7 (c0b (a5d (U6 hu) (d9 (d6 1) a7) d3) (b1l (a5d (k6 hu) (b2q fx_name (d6 0)) (d9 (d6 1) a7)))))
theorem a9k(D:Df K mg "last_told" a2a)(a0j:a5H P w K mg base):a1B P w K mg base:=by
 refine J4 (k:=27) D a4g (λ_ _ _ _ _ _=>el2 (λ_ _=>rfl)) λf cdv A outer s H E hr hx hL=> ?_;have S:=a4g;have hu:=hr.units;exact x6 (a5K a0j hr (by decide) rfl hx (a9 d8) (a6 (d6 0) b7)) T6
theorem b1P(D:Df K mg "knotted" a4W){fa_cloth_step:AA}(fv_cloth_step:FnV K mg "cloth_step" fa_cloth_step)(T3:a1B P w K mg base):a7U P w K mg base:=by
 refine J4 (k:=28) D a61 (λ_ _ _ _ _ _=>el1 (λ_=>rfl)) λf cdv A outer s H E hr hx hL=> ?_;have S:=a61;have hu:=hr.units;exact u7 (N5 (a09 T3 hr (by decide) rfl hx (a9 (a9 d8)) (a6 (d6 0) (a6 (a9Z fv_cloth_step) b7))))
theorem b1O(D:Df K mg "counted" a4V){fa_counts_step:AA}(fv_counts_step:FnV K mg "counts_step" fa_counts_step)(T3:a1B P w K mg base):a7T P w K mg base:=by
 refine J4 (k:=28) D a60 (λ_ _ _ _ _ _=>el1 (λ_=>rfl)) λf cdv A outer s H E hr hx hL=> ?_;have S:=a60;have hu:=hr.units;exact u7 (N5 (a09 T3 hr (by decide) rfl hx (a9 (a9 d8)) (a6 (d6 0) (a6 (a9Z fv_counts_step) b7))))
theorem a6P(D:Df K mg "_law_refusal" a0E){C_CarpetError:AA}(x_CarpetError:XC K mg "CarpetError" C_CarpetError){C_Misfit:AA}(x_Misfit:XC K mg "Misfit" C_Misfit){C_NoName:AA}(x_NoName:XC K mg "NoName" C_NoName){C_TooWide:AA}(x_TooWide:XC K mg "TooWide" C_TooWide)(im_Misfit_CarpetError:a3Y K C_Misfit C_CarpetError=true)(im_NoName_CarpetError:a3Y K C_NoName C_CarpetError=true)(im_TooWide_CarpetError:a3Y K C_TooWide C_CarpetError=true)(a0j:a5H P w K mg base)(a4w:a7U P w K mg base)(a4v:a7T P w K mg base):a2M P w K mg base:=by
 exists z0,29,a2i,el2 λ_ _=>rfl
 ext b
 ·exact j1 (i:=2) S.nd b1k
 ext b
 ·refine b3q (i:=3) ?_ x_CarpetError (a6p x_CarpetError x_Misfit im_Misfit_CarpetError (a6p x_CarpetError x_NoName im_NoName_CarpetError (a6p x_CarpetError x_TooWide im_TooWide_CarpetError b6O))) ?_ ?_
  ·exact S.nd
  ·intro Y pn E hx;refine u7 ?_;refine a6g ?_ ?_ ?_
   ·exact j9 (k6 hu) (d6 1) a7
   ·exact u7 (a5K a0j hr (by decide) rfl hx (a9 d8) (a6 (d6 0) b7))
   exact u7 (a6g (j9 (k6 hu) (d6 1) a7) (u7 (a5K a4w hr (by decide) rfl hx (a9 d8) (a6 (d6 0) b7))) (u7 (a5K a4v hr (by decide) rfl hx (a9 d8) (a6 (d6 0) b7))))
  intro a Y;exact d4 (j1 (i:=2) S.nd (d6 3))
 exact d4 (R7 2 (pv 2))
theorem b9d{f:AA}{fd:FuncData}(F:Fun K "law" "law" b5Q f fd)(M:MoB K mg)(a3c:a5W P w K mg base)(a4x:a7V P w K mg base)(a1P:a47 P w K mg base)(a0j:a5H P w K mg base)(a1Q:a5a P w K mg base)(a0y:a2M P w K mg base):G4 P w K mg base CX0 31 f fd ["_law_script"] (spP K 1 b75):=by
 refine b72 (k:=30) F b5T λcdv A outer s H E hr=> ?_;have S:=b5T;have hu:=hr.units
 ext b
 ·exact j1 (i:=1) S.nd (o8 a3c hr (by decide) rfl (a9 d8) (a6 (d6 0) b7))
 ext b
 ·exact a0z 1 (b8H (is:=[2,3,4]) rfl (o8 a4x hr (by decide) rfl (a9 d8) (a6 (d6 1) b7)) (a16 (u4 (i:=2) S.nd rfl (Or.inl rfl)) (a16 (u4 (i:=3) S.nd rfl (Or.inl rfl)) (a16 (u4 (i:=4) S.nd rfl (Or.inl rfl)) b2O))))
 ext b
 ·exact a0z 1 (j1 (i:=5) S.nd (o8 a1P hr (by decide) rfl (a9 d8) (a6 (d6 1) b7)))
 ext b
 ·refine m6 ?_ ?_ ?_
  ·exact j9 b5v (d6 3) b1k
  ·ext b
   ·refine a0P PassesOwn.never ?_ ?_ M.z_range ?_ ?_ (D4 6) ?_
    ·exact rfl
    ·exact rfl
    ·exact a6 a7 b7
    ·exact u4 (i:=6) S.nd rfl (Or.inl rfl)
    refine d4 ?_;refine a0z 5 ?_;refine m6 ?_ ?_ ?_
    ·exact a4B (N4 (o8 a1Q hr (by decide) rfl (a9 (a9 (a9 d8))) (a6 (o8 a0y hr (by decide) rfl (a9 (a9 d8)) (a6 (d6 5) (a6 (d6 6) b7))) (a6 (d6 3) (a6 (d6 4) b7)))))
    ·exact d4 (i7 a8a)
    exact i8
   exact d4 (i7 (a5d (k6 hu) (T5 N2 rfl M.z_len (by rfl) (d6 5)) (T5 N2 rfl M.z_len (by rfl) (d6 1))))
  exact i8
 ext b
 ·exact a0z 5 (j1 (i:=7) S.nd (b2p a0j hr (by decide) rfl (a9 d8) (a6 (d6 5) b7)))
 ext b
 ·exact m6 (PW.pt (a1t (a4B (N4 (X9 (.inr (.inr (.inr (.inl rfl)))) rfl M.z_isinstance (d6 7) (L9 rfl M.z_list (by rfl) rfl)))) (Y0 (j9 (U6 hu) (d6 7) (d6 2))))) (d4 (i7 a8a)) i8
 ext b
 ·refine b6w 7 8 PassesOwn.never ?_ (pv 7) ?_ (c0m (b5c _) b2H) ?_
  ·exact rfl
  ·exact u4 (i:=8) S.nd rfl (Or.inl rfl)
  refine b4z ?_;refine c0c (b5c _) b2H (PW.pt (a1t (a4B (N4 (X9 (.inr (.inr (.inr (.inr (.inl rfl))))) rfl M.z_isinstance (d6 8) (L9 rfl M.z_tuple (by rfl) rfl)))) (Y0 (N4 (X9 (.inr (.inl rfl)) rfl M.z_isinstance (d9 (d6 8) a7) (L9 rfl M.z_bool (by rfl) rfl)))))) ?_ ?_
  ·exact b4z (b8F a8a)
  exact b8E
 exact b9 (b3p 7 (pv 7)) (d4 (a0z 5 (i7 (b4w (a5d (k6 hu) (b2p a0j hr (by decide) rfl (a9 d8) (a6 (d6 5) b7)) (d6 2)) (b1l (a5d (k6 hu) (T5 N2 rfl M.z_len (by rfl) (d6 5)) (T5 N2 rfl M.z_len (by rfl) (d6 1))))))))
end
theorem b8o{l:PySem.W.OpenLaw}{w:AI}{K:AE}{h:Heap}{mg:Str->Option AB}{fa:AA}(X:K.In h)(G:h.Ns mainGlobals mg)(hfa:mg "law"=ξ (.ref fa))
 {N6:AA} {a7I a7o:Option AA} {a7P:Array (Option AB)} {a7H a7w a7t a7O a2P a7s:AB}
 {K9:AA} {a6J a50:Option AA} {a66:Array (Option AB)} {a6I a6u a58 a6T a1M a57:AB}
 {T7:AA} {a9e a8K:Option AA} {a9D:Array (Option AB)} {a9d a83 a8R a9x a3J a8Q:AB}
 {f_cloth_step:AA} {od_cloth_step an_cloth_step:Option AA} {sl_cloth_step:Array (Option AB)} {oc_cloth_step kV_cloth_step dc_cloth_step pm_cloth_step cd_cloth_step ct_cloth_step:AB}
 {f_counts_step:AA} {od_counts_step an_counts_step:Option AA} {sl_counts_step:Array (Option AB)} {oc_counts_step kV_counts_step dc_counts_step pm_counts_step cd_counts_step ct_counts_step:AB}
 {C_Plain:AA}
 {C_Named:AA}
 {C_Beside:AA}
 {C_Above:AA}
 {C_Across:AA}
 {C_Down:AA}
 {C_Turned:AA}
 {C_Dyed:AA}
 {f0_Plain:AA}
 {f0_Named:AA}
 {f0_Beside:AA}
 {f0_Above:AA}
 {f0_Across:AA}
 {f0_Down:AA}
 {f0_Turned:AA}
 {f0_Dyed:AA}
 {f_Plain_size:AA}
 {f_Named_size:AA}
 {f_Above_size:AA}
 {f_Across_size:AA}
 {f_Beside_size:AA}
 {f_Down_size:AA}
 {f_Dyed_size:AA}
 {f_Turned_size:AA}
 {C_CarpetError:AA}
 {C_Misfit:AA}
 {C_NoCloth:AA}
 {C_NoFit:AA}
 {C_NoName:AA}
 {C_NoText:AA}
 {C_TooBig:AA}
 {C_TooWide:AA}
 {f0_Misfit:AA}
 {f0_NoName:AA}
 {f0_TooWide:AA}
 {uu_LONGEST:AB}
 {uu_LYING_WAYS:AB}
 (W1:Df0 K "_law_number" a1m)
 (T4:Df0 K "_law_plain" a2e)
 (a08:Df0 K "_law_leaf" a3v)
 (a3d:Df0 K "_law_step" a3x)
 (X8:Df0 K "_law_laid" a3u)
 (A0:Df0 K "_law_size" a1n)
 (G9:Df0 K "_law_text" a1o)
 (a0g:Df0 K "_law_grown" a2c)
 (a0x:Df0 K "_law_cell_at" a0D)
 (a0h:Df0 K "_law_names" a2d)
 (a3c:Df0 K "_law_rows" a3w)
 (a4x:Df0 K "_law_due" a4X)
 (C1:Df0 K "_law_made" a1l)
 (a1P:Df0 K "_law_built" a2b)
 (a3e:Df0 K "times_of" a3y)
 (a4y:Df0 K "size_of" a4Y)
 (n0:Df0 K "checked_size" Y9)
 (a3F:PySem.W.nsIn K mainGlobals "size_above"=ξ (ξ (.ref N6))) (a32:K.lookup N6=ξ ⟨a7H,a7I,.func (PySem.W.fnOf "size_above" "size_above" (y4 K3) (m7 K3) (b5 K3) .none a7w a7t a7O a7o a2P a7s),a7P⟩) (a8M:PySem.W.codeIn K a2P "size_above"=true) (a84:PySem.W.keepIn K (.ref N6)=true) (a7v:a4Q K "size_above" N6=true)
 (a2O:PySem.W.nsIn K mainGlobals "size_beside"=ξ (ξ (.ref K9))) (a2W:K.lookup K9=ξ ⟨a6I,a6J,.func (PySem.W.fnOf "size_beside" "size_beside" (y4 F8) (m7 F8) (b5 F8) .none a6u a58 a6T a50 a1M a57),a66⟩) (a7q:PySem.W.codeIn K a1M "size_beside"=true) (a7x:PySem.W.keepIn K (.ref K9)=true) (a6l:a4Q K "size_beside" K9=true)
 (d_size_of_laid:Df0 K "size_of_laid" O6)
 (a5b:PySem.W.nsIn K mainGlobals "size_step"=ξ (ξ (.ref T7))) (a5i:K.lookup T7=ξ ⟨a9d,a9e,.func (PySem.W.fnOf "size_step" "size_step" (y4 M8) (m7 M8) (b5 M8) .none a83 a8R a9x a8K a3J a8Q),a9D⟩) (a9R:PySem.W.codeIn K a3J "size_step"=true) (b0c:PySem.W.keepIn K (.ref T7)=true) (a8W:a4Q K "size_step" T7=true)
 (X7:Df0 K "gone_through" Z0)
 (a0j:Df0 K "sizes" a9C)
 (a1Q:Df0 K "_law_right" a2f)
 (T3:Df0 K "last_told" a2a)
 (a4w:Df0 K "knotted" a4W)
 (a4v:Df0 K "counted" a4V)
 (a0y:Df0 K "_law_refusal" a0E)
 (b97:Df0 K "law" b5Q)
 (a_cloth_step:PySem.W.nsIn K mainGlobals "cloth_step"=ξ (ξ (.ref f_cloth_step))) (l_cloth_step:K.lookup f_cloth_step=ξ ⟨oc_cloth_step,od_cloth_step,.func (PySem.W.fnOf "cloth_step" "cloth_step" (y4 W5) (m7 W5) (b5 W5) .none kV_cloth_step dc_cloth_step pm_cloth_step an_cloth_step cd_cloth_step ct_cloth_step),sl_cloth_step⟩) (c_cloth_step:PySem.W.codeIn K cd_cloth_step "cloth_step"=true) (k_cloth_step:PySem.W.keepIn K (.ref f_cloth_step)=true) (fq_cloth_step:a4Q K "cloth_step" f_cloth_step=true)
 (a_counts_step:PySem.W.nsIn K mainGlobals "counts_step"=ξ (ξ (.ref f_counts_step))) (l_counts_step:K.lookup f_counts_step=ξ ⟨oc_counts_step,od_counts_step,.func (PySem.W.fnOf "counts_step" "counts_step" (y4 S9) (m7 S9) (b5 S9) .none kV_counts_step dc_counts_step pm_counts_step an_counts_step cd_counts_step ct_counts_step),sl_counts_step⟩) (c_counts_step:PySem.W.codeIn K cd_counts_step "counts_step"=true) (k_counts_step:PySem.W.keepIn K (.ref f_counts_step)=true) (fq_counts_step:a4Q K "counts_step" f_counts_step=true)
 (oa_Plain:PySem.W.nsIn K mainGlobals "Plain"=ξ (ξ (.ref C_Plain)))
 (oa_Named:PySem.W.nsIn K mainGlobals "Named"=ξ (ξ (.ref C_Named)))
 (oa_Beside:PySem.W.nsIn K mainGlobals "Beside"=ξ (ξ (.ref C_Beside)))
 (oa_Above:PySem.W.nsIn K mainGlobals "Above"=ξ (ξ (.ref C_Above)))
 (oa_Across:PySem.W.nsIn K mainGlobals "Across"=ξ (ξ (.ref C_Across)))
 (oa_Down:PySem.W.nsIn K mainGlobals "Down"=ξ (ξ (.ref C_Down)))
 (oa_Turned:PySem.W.nsIn K mainGlobals "Turned"=ξ (ξ (.ref C_Turned)))
 (oa_Dyed:PySem.W.nsIn K mainGlobals "Dyed"=ξ (ξ (.ref C_Dyed)))
 (oi_Plain:PySem.W.findIn K (.ref C_Plain) "__init__"=ξ (ξ (.ref f0_Plain))) (ck_Plain:ckC K C_Plain "Plain" f0_Plain ["rows"]=true) (dm0_Plain:Dm K "__init__" "Plain.__init__" b0J f0_Plain)
 (oi_Named:PySem.W.findIn K (.ref C_Named) "__init__"=ξ (ξ (.ref f0_Named))) (ck_Named:ckC K C_Named "Named" f0_Named ["name"]=true) (dm0_Named:Dm K "__init__" "Named.__init__" b0I f0_Named)
 (oi_Beside:PySem.W.findIn K (.ref C_Beside) "__init__"=ξ (ξ (.ref f0_Beside))) (ck_Beside:ckC K C_Beside "Beside" f0_Beside ["parts"]=true) (dm0_Beside:Dm K "__init__" "Beside.__init__" a8w f0_Beside)
 (oi_Above:PySem.W.findIn K (.ref C_Above) "__init__"=ξ (ξ (.ref f0_Above))) (ck_Above:ckC K C_Above "Above" f0_Above ["parts"]=true) (dm0_Above:Dm K "__init__" "Above.__init__" b0H f0_Above)
 (oi_Across:PySem.W.findIn K (.ref C_Across) "__init__"=ξ (ξ (.ref f0_Across))) (ck_Across:ckC K C_Across "Across" f0_Across ["many","part"]=true) (dm0_Across:Dm K "__init__" "Across.__init__" a8v f0_Across)
 (oi_Down:PySem.W.findIn K (.ref C_Down) "__init__"=ξ (ξ (.ref f0_Down))) (ck_Down:ckC K C_Down "Down" f0_Down ["many","part"]=true) (dm0_Down:Dm K "__init__" "Down.__init__" b2Q f0_Down)
 (oi_Turned:PySem.W.findIn K (.ref C_Turned) "__init__"=ξ (ξ (.ref f0_Turned))) (ck_Turned:ckC K C_Turned "Turned" f0_Turned ["way","part"]=true) (dm0_Turned:Dm K "__init__" "Turned.__init__" a8z f0_Turned)
 (oi_Dyed:PySem.W.findIn K (.ref C_Dyed) "__init__"=ξ (ξ (.ref f0_Dyed))) (ck_Dyed:ckC K C_Dyed "Dyed" f0_Dyed ["one","other","part"]=true) (dm0_Dyed:Dm K "__init__" "Dyed.__init__" b2R f0_Dyed)
 (fi_Plain_size:PySem.W.findIn K (.ref C_Plain) "size"=ξ (ξ (.ref f_Plain_size)))
 (fi_Named_size:PySem.W.findIn K (.ref C_Named) "size"=ξ (ξ (.ref f_Named_size)))
 (fi_Beside_size:PySem.W.findIn K (.ref C_Beside) "size"=ξ (ξ (.ref f_Beside_size)))
 (fi_Above_size:PySem.W.findIn K (.ref C_Above) "size"=ξ (ξ (.ref f_Above_size)))
 (fi_Across_size:PySem.W.findIn K (.ref C_Across) "size"=ξ (ξ (.ref f_Across_size)))
 (fi_Down_size:PySem.W.findIn K (.ref C_Down) "size"=ξ (ξ (.ref f_Down_size)))
 (fi_Turned_size:PySem.W.findIn K (.ref C_Turned) "size"=ξ (ξ (.ref f_Turned_size)))
 (fi_Dyed_size:PySem.W.findIn K (.ref C_Dyed) "size"=ξ (ξ (.ref f_Dyed_size)))
 (j6:Dm K "size" "Plain.size" a1k f_Plain_size)
 (j5:Dm K "size" "Named.size" a1j f_Named_size)
 (d_Above_size:Dm K "size" "Above.size" W4 f_Above_size)
 (d_Across_size:Dm K "size" "Across.size" S6 f_Across_size)
 (d_Beside_size:Dm K "size" "Beside.size" S7 f_Beside_size)
 (d_Down_size:Dm K "size" "Down.size" a0r f_Down_size)
 (d_Dyed_size:Dm K "size" "Dyed.size" a0s f_Dyed_size)
 (d_Turned_size:Dm K "size" "Turned.size" S8 f_Turned_size)
 (xa_CarpetError:PySem.W.nsIn K mainGlobals "CarpetError"=ξ (ξ (.ref C_CarpetError))) (xq_CarpetError:(G3 K C_CarpetError "CarpetError" && a2F K C_CarpetError)=true)
 (xa_Misfit:PySem.W.nsIn K mainGlobals "Misfit"=ξ (ξ (.ref C_Misfit))) (xq_Misfit:(G3 K C_Misfit "Misfit" && a2F K C_Misfit)=true)
 (xa_NoCloth:PySem.W.nsIn K mainGlobals "NoCloth"=ξ (ξ (.ref C_NoCloth))) (xq_NoCloth:(G3 K C_NoCloth "NoCloth" && a2F K C_NoCloth)=true)
 (xa_NoFit:PySem.W.nsIn K mainGlobals "NoFit"=ξ (ξ (.ref C_NoFit))) (xq_NoFit:(G3 K C_NoFit "NoFit" && a2F K C_NoFit)=true)
 (xa_NoName:PySem.W.nsIn K mainGlobals "NoName"=ξ (ξ (.ref C_NoName))) (xq_NoName:(G3 K C_NoName "NoName" && a2F K C_NoName)=true)
 (xa_NoText:PySem.W.nsIn K mainGlobals "NoText"=ξ (ξ (.ref C_NoText))) (xq_NoText:(G3 K C_NoText "NoText" && a2F K C_NoText)=true)
 (xa_TooBig:PySem.W.nsIn K mainGlobals "TooBig"=ξ (ξ (.ref C_TooBig))) (xq_TooBig:(G3 K C_TooBig "TooBig" && a2F K C_TooBig)=true)
 (xa_TooWide:PySem.W.nsIn K mainGlobals "TooWide"=ξ (ξ (.ref C_TooWide))) (xq_TooWide:(G3 K C_TooWide "TooWide" && a2F K C_TooWide)=true)
 (xf_Misfit:a7R K C_Misfit=true)
 (xf_NoName:a7R K C_NoName=true)
 (xf_TooWide:a7R K C_TooWide=true)
 (x0_Misfit:PySem.W.findIn K (.ref C_Misfit) "__init__"=ξ (ξ (.ref f0_Misfit))) (xk_Misfit:(G3 K C_Misfit "Misfit" && b48 K C_Misfit)=true) (x1_Misfit:a3h K C_Misfit f0_Misfit=true) (x2_Misfit:(["row"]:List Str).all (λg=>PySem.W.findIn K (.ref C_Misfit) g==ξ ζ)=true) (dm0_Misfit:Dm K "__init__" "Misfit.__init__" a8x f0_Misfit)
 (x0_NoName:PySem.W.findIn K (.ref C_NoName) "__init__"=ξ (ξ (.ref f0_NoName))) (xk_NoName:(G3 K C_NoName "NoName" && b48 K C_NoName)=true) (x1_NoName:a3h K C_NoName f0_NoName=true) (x2_NoName:(["row","name"]:List Str).all (λg=>PySem.W.findIn K (.ref C_NoName) g==ξ ζ)=true) (dm0_NoName:Dm K "__init__" "NoName.__init__" a8y f0_NoName)
 (x0_TooWide:PySem.W.findIn K (.ref C_TooWide) "__init__"=ξ (ξ (.ref f0_TooWide))) (xk_TooWide:(G3 K C_TooWide "TooWide" && b48 K C_TooWide)=true) (x1_TooWide:a3h K C_TooWide f0_TooWide=true) (x2_TooWide:(["row"]:List Str).all (λg=>PySem.W.findIn K (.ref C_TooWide) g==ξ ζ)=true) (dm0_TooWide:Dm K "__init__" "TooWide.__init__" a6Z f0_TooWide)
 (xr_CarpetError:PySem.W.readsIn K C_CarpetError (.type "type")=true) (xg_CarpetError:PySem.W.findCls K (.ref C_CarpetError) (.type "type") "__init__"=ξ (.val (.builtin "ValueError.__init__"))) (xs_CarpetError:PySem.W.specialIn K (.ref C_CarpetError) "__getattribute__"=ξ (ξ (.builtin "type.__getattribute__")))
 (ks_Misfit_Misfit:PySem.W.kitOne K (.ref C_Misfit) (.ref C_Misfit)=ξ true)
 (ks_Misfit_NoCloth:PySem.W.kitOne K (.ref C_Misfit) (.ref C_NoCloth)=ξ false)
 (ks_Misfit_NoFit:PySem.W.kitOne K (.ref C_Misfit) (.ref C_NoFit)=ξ false)
 (ks_Misfit_NoName:PySem.W.kitOne K (.ref C_Misfit) (.ref C_NoName)=ξ false)
 (ks_Misfit_NoText:PySem.W.kitOne K (.ref C_Misfit) (.ref C_NoText)=ξ false)
 (ks_Misfit_TooBig:PySem.W.kitOne K (.ref C_Misfit) (.ref C_TooBig)=ξ false)
 (ks_Misfit_TooWide:PySem.W.kitOne K (.ref C_Misfit) (.ref C_TooWide)=ξ false)
 (ks_Misfit_ValueError:PySem.W.kitOne K (.ref C_Misfit) (.type "ValueError")=ξ true)
 (ks_NoName_Misfit:PySem.W.kitOne K (.ref C_NoName) (.ref C_Misfit)=ξ false)
 (ks_NoName_NoCloth:PySem.W.kitOne K (.ref C_NoName) (.ref C_NoCloth)=ξ false)
 (ks_NoName_NoFit:PySem.W.kitOne K (.ref C_NoName) (.ref C_NoFit)=ξ false)
 (ks_NoName_NoName:PySem.W.kitOne K (.ref C_NoName) (.ref C_NoName)=ξ true)
 (ks_NoName_NoText:PySem.W.kitOne K (.ref C_NoName) (.ref C_NoText)=ξ false)
 (ks_NoName_TooBig:PySem.W.kitOne K (.ref C_NoName) (.ref C_TooBig)=ξ false)
 (ks_NoName_TooWide:PySem.W.kitOne K (.ref C_NoName) (.ref C_TooWide)=ξ false)
 (ks_NoName_ValueError:PySem.W.kitOne K (.ref C_NoName) (.type "ValueError")=ξ true)
 (ks_TooWide_Misfit:PySem.W.kitOne K (.ref C_TooWide) (.ref C_Misfit)=ξ false)
 (ks_TooWide_NoCloth:PySem.W.kitOne K (.ref C_TooWide) (.ref C_NoCloth)=ξ false)
 (ks_TooWide_NoFit:PySem.W.kitOne K (.ref C_TooWide) (.ref C_NoFit)=ξ false)
 (ks_TooWide_NoName:PySem.W.kitOne K (.ref C_TooWide) (.ref C_NoName)=ξ false)
 (ks_TooWide_NoText:PySem.W.kitOne K (.ref C_TooWide) (.ref C_NoText)=ξ false)
 (ks_TooWide_TooBig:PySem.W.kitOne K (.ref C_TooWide) (.ref C_TooBig)=ξ false)
 (ks_TooWide_TooWide:PySem.W.kitOne K (.ref C_TooWide) (.ref C_TooWide)=ξ true)
 (ks_TooWide_ValueError:PySem.W.kitOne K (.ref C_TooWide) (.type "ValueError")=ξ true)
 (im_Misfit_CarpetError:a3Y K C_Misfit C_CarpetError=true)
 (im_NoName_CarpetError:a3Y K C_NoName C_CarpetError=true)
 (im_TooWide_CarpetError:a3Y K C_TooWide C_CarpetError=true)
 (z_ValueError:PySem.W.nsIn K mainGlobals "ValueError"=ξ ζ)
 (z_bool:PySem.W.nsIn K mainGlobals "bool"=ξ ζ)
 (z_enumerate:PySem.W.nsIn K mainGlobals "enumerate"=ξ ζ)
 (z_int:PySem.W.nsIn K mainGlobals "int"=ξ ζ)
 (z_isinstance:PySem.W.nsIn K mainGlobals "isinstance"=ξ ζ)
 (z_len:PySem.W.nsIn K mainGlobals "len"=ξ ζ)
 (z_list:PySem.W.nsIn K mainGlobals "list"=ξ ζ)
 (z_max:PySem.W.nsIn K mainGlobals "max"=ξ ζ)
 (z_min:PySem.W.nsIn K mainGlobals "min"=ξ ζ)
 (z_range:PySem.W.nsIn K mainGlobals "range"=ξ ζ)
 (z_str:PySem.W.nsIn K mainGlobals "str"=ξ ζ)
 (z_tuple:PySem.W.nsIn K mainGlobals "tuple"=ξ ζ)
 (e_LONGEST:PySem.W.nsIn K mainGlobals "LONGEST"=ξ (ξ uu_LONGEST)) (q_LONGEST:a1E K 40 uu_LONGEST=ξ W8)
 (e_LYING_WAYS:PySem.W.nsIn K mainGlobals "LYING_WAYS"=ξ (ξ uu_LYING_WAYS)) (q_LYING_WAYS:a1E K 40 uu_LYING_WAYS=ξ K4)
 :∃fd:FuncData,(∀(s:AC) (v:AB),BindsTo s fd ⟨[v],[]⟩ [("_law_script",v)])/\∀base:Heap,K.In base->base.Ns mainGlobals mg->G4 l.prog w K mg base CX0 31 fa fd ["_law_script"] (b0M K):=by
 have fv_cloth_step:FnV K mg "cloth_step" f_cloth_step:=a6i (PySem.W.mg_of X G a_cloth_step) l_cloth_step rfl fq_cloth_step
 have d_cloth_step:Df0 K "cloth_step" W5:=a79 a_cloth_step l_cloth_step c_cloth_step k_cloth_step
 have fv_counts_step:FnV K mg "counts_step" f_counts_step:=a6i (PySem.W.mg_of X G a_counts_step) l_counts_step rfl fq_counts_step
 have d_counts_step:Df0 K "counts_step" S9:=a79 a_counts_step l_counts_step c_counts_step k_counts_step
 have y9:FnV K mg "size_above" N6:=a6i (PySem.W.mg_of X G a3F) a32 rfl a7v
 have E5:Df0 K "size_above" K3:=a79 a3F a32 a8M a84
 have w4:FnV K mg "size_beside" K9:=a6i (PySem.W.mg_of X G a2O) a2W rfl a6l
 have C2:Df0 K "size_beside" F8:=a79 a2O a2W a7q a7x
 have J7:FnV K mg "size_step" T7:=a6i (PySem.W.mg_of X G a5b) a5i rfl a8W
 have a0i:Df0 K "size_step" M8:=a79 a5b a5i a9R b0c
 have x_CarpetError:XC K mg "CarpetError" C_CarpetError:=a5y X G xa_CarpetError xq_CarpetError
 have x_Misfit:XC K mg "Misfit" C_Misfit:=a5y X G xa_Misfit xq_Misfit
 have x_NoCloth:XC K mg "NoCloth" C_NoCloth:=a5y X G xa_NoCloth xq_NoCloth
 have x_NoFit:XC K mg "NoFit" C_NoFit:=a5y X G xa_NoFit xq_NoFit
 have x_NoName:XC K mg "NoName" C_NoName:=a5y X G xa_NoName xq_NoName
 have x_NoText:XC K mg "NoText" C_NoText:=a5y X G xa_NoText xq_NoText
 have x_TooBig:XC K mg "TooBig" C_TooBig:=a5y X G xa_TooBig xq_TooBig
 have x_TooWide:XC K mg "TooWide" C_TooWide:=a5y X G xa_TooWide xq_TooWide
 have M:MoB K mg:=⟨PySem.W.mg_none_of X G z_ValueError,PySem.W.mg_none_of X G z_bool,PySem.W.mg_none_of X G z_enumerate,PySem.W.mg_none_of X G z_int,PySem.W.mg_none_of X G z_isinstance,PySem.W.mg_none_of X G z_len,PySem.W.mg_none_of X G z_list,PySem.W.mg_none_of X G z_max,PySem.W.mg_none_of X G z_min,PySem.W.mg_none_of X G z_range,PySem.W.mg_none_of X G z_str,PySem.W.mg_none_of X G z_tuple⟩
 have mm_LONGEST:=PySem.W.mg_of X G e_LONGEST
 have mm_LYING_WAYS:=PySem.W.mg_of X G e_LYING_WAYS
 have cc_Plain:=a5c oa_Plain oi_Plain ck_Plain
 have cc_Named:=a5c oa_Named oi_Named ck_Named
 have cc_Beside:=a5c oa_Beside oi_Beside ck_Beside
 have cc_Above:=a5c oa_Above oi_Above ck_Above
 have cc_Across:=a5c oa_Across oi_Across ck_Across
 have cc_Down:=a5c oa_Down oi_Down ck_Down
 have cc_Turned:=a5c oa_Turned oi_Turned ck_Turned
 have cc_Dyed:=a5c oa_Dyed oi_Dyed ck_Dyed
 obtain⟨a,ha⟩:∃a:Ad,a=⟨C_Plain,C_Named,C_Beside,C_Above,C_Across,C_Down,C_Turned,C_Dyed,f_Plain_size,f_Named_size,f_Above_size,f_Across_size,f_Beside_size,f_Down_size,f_Dyed_size,f_Turned_size⟩:=⟨_,rfl⟩
 have O:Oc K mg a:=by
  rw [ha];exact⟨cc_Plain.kc,cc_Named.kc,cc_Beside.kc,cc_Above.kc,cc_Across.kc,cc_Down.kc,cc_Turned.kc,cc_Dyed.kc,fi_Plain_size,fi_Named_size,fi_Beside_size,fi_Above_size,fi_Across_size,fi_Down_size,fi_Turned_size,fi_Dyed_size,(v9 cc_Across.kc (cc_Across.na _ (by decide)) (v9 cc_Down.kc (cc_Down.na _ (by decide)) P8)),(v9 cc_Named.kc (cc_Named.na _ (by decide)) P8),(v9 cc_Across.kc (cc_Across.na _ (by decide)) (v9 cc_Down.kc (cc_Down.na _ (by decide)) (v9 cc_Turned.kc (cc_Turned.na _ (by decide)) (v9 cc_Dyed.kc (cc_Dyed.na _ (by decide)) P8)))),(v9 cc_Beside.kc (cc_Beside.na _ (by decide)) (v9 cc_Above.kc (cc_Above.na _ (by decide)) P8)),(v9 cc_Plain.kc (cc_Plain.na _ (by decide)) P8),(v9 cc_Turned.kc (cc_Turned.na _ (by decide)) P8)⟩
 have kx_Misfit:KX K "Misfit" C_Misfit:=b49 xa_Misfit xk_Misfit
 have na_Misfit:∀g∈(["row"]:List Str),x9 K C_Misfit g:=b1c x2_Misfit
 have kx_NoName:KX K "NoName" C_NoName:=b49 xa_NoName xk_NoName
 have na_NoName:∀g∈(["row","name"]:List Str),x9 K C_NoName g:=b1c x2_NoName
 have kx_TooWide:KX K "TooWide" C_TooWide:=b49 xa_TooWide xk_TooWide
 have na_TooWide:∀g∈(["row"]:List Str),x9 K C_TooWide g:=b1c x2_TooWide
 have fx_name:a46 K ["NoName"] "name":=(a1c kx_NoName (na_NoName _ (by decide)) a8f)
 have fx_row:a46 K ["NoName","Misfit","TooWide"] "row":=(a1c kx_NoName (na_NoName _ (by decide)) (a1c kx_Misfit (na_Misfit _ (by decide)) (a1c kx_TooWide (na_TooWide _ (by decide)) a8f)))
 refine b6R (b97.to X G) hfa (λ_ _ _ _ _ _ _=>rfl) main λbase f fd kb F=> ?_
 have xi_Misfit:a7k l.prog w K mg base "Misfit" ["row"] 1:=a6q (k:=0) dm0_Misfit b11 rfl kx_Misfit (PySem.W.mg_of X G xa_Misfit) x1_Misfit na_Misfit (by decide+kernel) (by decide) (λ_ _ _ _ _ _=>el2 (λ_ _=>rfl)) λcdv A outer s H E hr=>(p0 (a6U rfl (PySem.W.mg_of X G xa_CarpetError) xr_CarpetError xg_CarpetError xs_CarpetError (p8 (pv 0) (p8 (pv 1) O4))) (p0 (a5Q rfl (pv 0) (pv 1)) K0))
 have xi_NoName:a7k l.prog w K mg base "NoName" ["row","name"] 1:=a6q (k:=0) dm0_NoName b12 rfl kx_NoName (PySem.W.mg_of X G xa_NoName) x1_NoName na_NoName (by decide+kernel) (by decide) (λ_ _ _ _ _ _=>el3 (λ_ _ _=>rfl)) λcdv A outer s H E hr=>(p0 (a6U rfl (PySem.W.mg_of X G xa_CarpetError) xr_CarpetError xg_CarpetError xs_CarpetError (p8 (pv 0) (p8 (pv 1) (p8 (pv 2) O4)))) (p0 (a5Q rfl (pv 0) (pv 1)) (p0 (a5Q rfl (pv 0) (pv 2)) K0)))
 have xi_TooWide:a7k l.prog w K mg base "TooWide" ["row"] 1:=a6q (k:=0) dm0_TooWide b0K rfl kx_TooWide (PySem.W.mg_of X G xa_TooWide) x1_TooWide na_TooWide (by decide+kernel) (by decide) (λ_ _ _ _ _ _=>el2 (λ_ _=>rfl)) λcdv A outer s H E hr=>(p0 (a6U rfl (PySem.W.mg_of X G xa_CarpetError) xr_CarpetError xg_CarpetError xs_CarpetError (p8 (pv 0) (p8 (pv 1) O4))) (p0 (a5Q rfl (pv 0) (pv 1)) K0))
 have i_Above:F9 l.prog w K mg base "Above" ["parts"] 1:=U0 (k:=0) dm0_Above b34 rfl cc_Above.kc (PySem.W.mg_of X G oa_Above) cc_Above.mo cc_Above.na (by decide+kernel) (by decide) (λ_ _ _ _ _ _=>el2 (λ_ _=>rfl)) λcdv A outer s H E hr=>(p0 (Q7 (pv 0) (pv 1) rfl) K0)
 have i_Across:F9 l.prog w K mg base "Across" ["many","part"] 1:=U0 (k:=0) dm0_Across b1Z rfl cc_Across.kc (PySem.W.mg_of X G oa_Across) cc_Across.mo cc_Across.na (by decide+kernel) (by decide) (λ_ _ _ _ _ _=>el3 (λ_ _ _=>rfl)) λcdv A outer s H E hr=>(p0 (Q7 (pv 0) (pv 1) rfl) (p0 (Q7 (pv 0) (pv 2) rfl) K0))
 have i_Beside:F9 l.prog w K mg base "Beside" ["parts"] 1:=U0 (k:=0) dm0_Beside b10 rfl cc_Beside.kc (PySem.W.mg_of X G oa_Beside) cc_Beside.mo cc_Beside.na (by decide+kernel) (by decide) (λ_ _ _ _ _ _=>el2 (λ_ _=>rfl)) λcdv A outer s H E hr=>(p0 (Q7 (pv 0) (pv 1) rfl) K0)
 have i_Down:F9 l.prog w K mg base "Down" ["many","part"] 1:=U0 (k:=0) dm0_Down b5R rfl cc_Down.kc (PySem.W.mg_of X G oa_Down) cc_Down.mo cc_Down.na (by decide+kernel) (by decide) (λ_ _ _ _ _ _=>el3 (λ_ _ _=>rfl)) λcdv A outer s H E hr=>(p0 (Q7 (pv 0) (pv 1) rfl) (p0 (Q7 (pv 0) (pv 2) rfl) K0))
 have i_Dyed:F9 l.prog w K mg base "Dyed" ["one","other","part"] 1:=U0 (k:=0) dm0_Dyed b5S rfl cc_Dyed.kc (PySem.W.mg_of X G oa_Dyed) cc_Dyed.mo cc_Dyed.na (by decide+kernel) (by decide) (λ_ _ _ _ _ _=>el4 (λ_ _ _ _=>rfl)) λcdv A outer s H E hr=>(p0 (Q7 (pv 0) (pv 1) rfl) (p0 (Q7 (pv 0) (pv 2) rfl) (p0 (Q7 (pv 0) (pv 3) rfl) K0)))
 have i_Named:F9 l.prog w K mg base "Named" ["name"] 1:=U0 (k:=0) dm0_Named b35 rfl cc_Named.kc (PySem.W.mg_of X G oa_Named) cc_Named.mo cc_Named.na (by decide+kernel) (by decide) (λ_ _ _ _ _ _=>el2 (λ_ _=>rfl)) λcdv A outer s H E hr=>(p0 (Q7 (pv 0) (pv 1) rfl) K0)
 have i_Plain:F9 l.prog w K mg base "Plain" ["rows"] 1:=U0 (k:=0) dm0_Plain b36 rfl cc_Plain.kc (PySem.W.mg_of X G oa_Plain) cc_Plain.mo cc_Plain.na (by decide+kernel) (by decide) (λ_ _ _ _ _ _=>el2 (λ_ _=>rfl)) λcdv A outer s H E hr=>(p0 (Q7 (pv 0) (pv 1) rfl) K0)
 have i_Turned:F9 l.prog w K mg base "Turned" ["way","part"] 1:=U0 (k:=0) dm0_Turned b13 rfl cc_Turned.kc (PySem.W.mg_of X G oa_Turned) cc_Turned.mo cc_Turned.na (by decide+kernel) (by decide) (λ_ _ _ _ _ _=>el3 (λ_ _ _=>rfl)) λcdv A outer s H E hr=>(p0 (Q7 (pv 0) (pv 1) rfl) (p0 (Q7 (pv 0) (pv 2) rfl) K0))
 have I:Io l.prog w K mg base:=⟨i_Above,i_Across,i_Beside,i_Down,i_Dyed,i_Named,i_Plain,i_Turned⟩
 have a8E:=a7M l.prog w base (W1.to X G)
 have a44:=a9o l.prog w base (T4.to X G) M
 have b0Y:=b0o l.prog w base (a08.to X G) M a44
 have b00:=b0s l.prog w base (a3d.to X G) M
 have b0X:=b0n l.prog w base (X8.to X G) M
 obtain P3:=a9g l.prog w base (A0.to X G) M b0X 12
 obtain a0Y:=a9h l.prog w base (G9.to X G) M 12
 have a9H:=a9m l.prog w base (a0g.to X G) M b0Y a44 b00 P3 a0Y
 have a7h:=a6O l.prog w base (a0x.to X G) M
 have a9I:=a9n l.prog w base (a0h.to X G)
 have b0Z:=b0q l.prog w base (a3c.to X G) M a8E a9H P3 a7h a9I
 have b28:=b1Q l.prog w base (a4x.to X G) M P3
 obtain a0X:=a9f l.prog w base (C1.to X G) M I 12
 have a9G:=a9l l.prog w base (a1P.to X G) a0X
 have b01:=b0u l.prog w base (a3e.to X G)
 have b29:=b1R l.prog w base (a4y.to X G) M
 have a3C:=a7L l.prog w base a (mg:=mg) (by rw [ha];exact j6) O b29
 have a3B:=a7K l.prog w base a (mg:=mg) (by rw [ha];exact j5) O xi_NoName
 have W9:=a5D l.prog w base (n0.to X G) xi_TooWide mm_LONGEST q_LONGEST
 have a8F:=a7N l.prog w base (E5.to X G) xi_Misfit W9
 have a7j:=a6Q l.prog w base (C2.to X G) xi_Misfit W9
 obtain⟨V8,Q9,R0,a0b,a0c,R1,D_size_of_laid⟩:=a6K l.prog w base a (by rw [ha];exact d_Above_size) (by rw [ha];exact d_Across_size) (by rw [ha];exact d_Beside_size) (by rw [ha];exact d_Down_size) (by rw [ha];exact d_Dyed_size) (by rw [ha];exact d_Turned_size) (d_size_of_laid.to X G) O y9 w4 mm_LYING_WAYS q_LYING_WAYS a8F W9 a3C a3B a7j 20
 have a45:=a9q l.prog w base a (a0i.to X G) O a3C a3B R0 V8 Q9 a0b R1 a0c
 have a5U:=a5E l.prog w base (X7.to X G) M J7 xi_NoName b01 a45
 have a8G:=b5r l.prog w base (a0j.to X G) J7 a5U a45
 have a9J:=a9p l.prog w base (a1Q.to X G) M x_Misfit x_NoCloth x_NoFit x_NoName x_NoText x_TooBig x_TooWide ks_Misfit_Misfit ks_Misfit_NoCloth ks_Misfit_NoFit ks_Misfit_NoName ks_Misfit_NoText ks_Misfit_TooBig ks_Misfit_TooWide ks_Misfit_ValueError ks_NoName_Misfit ks_NoName_NoCloth ks_NoName_NoFit ks_NoName_NoName ks_NoName_NoText ks_NoName_TooBig ks_NoName_TooWide ks_NoName_ValueError ks_TooWide_Misfit ks_TooWide_NoCloth ks_TooWide_NoFit ks_TooWide_NoName ks_TooWide_NoText ks_TooWide_TooBig ks_TooWide_TooWide ks_TooWide_ValueError xf_Misfit xf_NoName xf_TooWide fx_name fx_row
 have a43:=a9k l.prog w base (T3.to X G) a8G
 have b27:=b1P l.prog w base (a4w.to X G) fv_cloth_step a43
 have b26:=b1O l.prog w base (a4v.to X G) fv_counts_step a43
 have a7i:=a6P l.prog w base (a0y.to X G) x_CarpetError x_Misfit x_NoName x_TooWide im_Misfit_CarpetError im_NoName_CarpetError im_TooWide_CarpetError a8G b27 b26
 exact b9d l.prog w base F M b0Z b28 a9G a8G a9J a7i
end LW
namespace PySem.W.Fast
def tw5885002437968717964:=()
def tw16756407793329270323:=()
def tw964183307570717622:=()
def tw7342191698529182422:=()
def tw801065121457864935:=()
def tw8895645817353996079:=()
def tw2391390919101405541:=()
def tw6984606630572923188:=()
def tw5730283534210422206:=()
def tw9285822281953278513:=()
def tw13646132431839273013:=()
def tw5145004201341091169:=()
def tw9741606187398723325:=()
def tw11508079320846013472:=()
def tw18303694785364839592:=()
def tw6433301439834815950:=()
def tw1063445908820883465:=()
def tw15648808795256773805:=()
def tw7992833212277219889:=()
def tw13136179123649899222:=()
def tw1037585628607674898:=()
def tw14044348131629588630:=()
def tw11325631439790937372:=()
def tw6326428096684229583:=()
def tw6102584722762246857:=()
def tw10755793767132557807:=()
def tw2211346001775341837:=()
def tw5790637115827689168:=()
def tw1340152127023263383:=()
def tw14400901499826931860:=()
def tw7403738196557153961:=()
def tw8689476219774855196:=()
def tw15357149212527699955:=()
def tw5401407636002277917:=()
def tw7751297770991699781:=()
def tw6788162847209374222:=()
def tw4912485156309944127:=()
def tw9814448001541845125:=()
def tw2236726238737982244:=()
def tw9300033538743465392:=()
def tw8802200492516528453:=()
def tw5644835549570138480:=()
def tw11838098611855109899:=()
def tw7671930409514401340:=()
def tw712143996447486448:=()
def tw5115101716721849592:=()
def tw992447831253705786:=()
def tw12032863954059686336:=()
def tw1815090346924956827:=()
def tw255651459086645265:=()
def tw13154686015707376195:=()
def tw11489993350802342827:=()
def tw3569945336765182451:=()
def tw7073747051083701082:=()
def tw817476152638066807:=()
def tw15513491432762950674:=()
def tw9742283354357667381:=()
def tw3674570663350157724:=()
def tw9049873038868086679:=()
def tw9334957907635956083:=()
def tw18443707732586713833:=()
def tw3125588925653692031:=()
def tw8535038355209097883:=()
def tw11041310099696537769:=()
def tw2305606722867345171:=()
def tw13098719899966817219:=()
def tw7869229269521699527:=()
def tw721083309482432546:=()
def tw5267959059648442964:=()
def tw2875278517253025671:=()
def tw3846093576488745296:=()
def tw3687608443460099429:=()
def tw17500760047399069430:=()
def tw9729925666402250340:=()
def tw7406662712545073959:=()
def tw12724947365703141566:=()
def tw9405436407619999:=()
def tw3951008207141883855:=()
def tw4185811959925802280:=()
def tw4254847702371042574:=()
def tw16060403707768425371:=()
def tw13959200989707162669:=()
def tw7300319620776315597:=()
def tw5978958781132939606:=()
def tw72191125455536516:=()
def tw9042602420400959239:=()
def tw9212474964931741136:=()
def tw12547125835192968882:=()
def tw10925646048878368797:=()
def tw14057188199492200567:=()
def tw11569091761365381433:=()
def tw1235911279838383971:=()
def tw6116250258302696281:=()
def tw12455492326689627110:=()
def tw10504109749845597899:=()
def tw3461329380396224049:=()
def tw14334316717025653326:=()
def tw9222849687000345658:=()
def tw11270000009162895106:=()
def tw13128560425482848377:=()
def tw6498706989621730153:=()
def tw15312015043793272272:=()
def tw10037449370994895519:=()
def tw11891258761548869604:=()
def tw2311928032851716788:=()
def tw12197500419733159569:=()
def tw732626528342640452:=()
def tw9827916831322029795:=()
def tw15523785070256293595:=()
def tw4030783629866963121:=()
def tw776472174598779088:=()
def tw9414289006882183158:=()
def tw14530008862855458097:=()
def tw579114824344560368:=()
def tw12509737978186995426:=()
def tw13276041831196207263:=()
def tw5940015116480588846:=()
def tw10412331459226667616:=()
def tw3675598662530304376:=()
def tw3144855064994675429:=()
def tw18258054530858605380:=()
def tw290577347048493056:=()
def tw7440061367627205865:=()
def tw2921688266996301884:=()
def tw15998903249068513189:=()
def tw15097495627541381459:=()
def tw13546361990985626366:=()
def tw13934457131362096740:=()
def tw15033475794102513552:=()
def tw5162133604216157735:=()
def tw468720739748118144:=()
def tw2772254044183218634:=()
def tw702568774893018038:=()
def tw5124418708836398615:=()
def tw13422815378415966917:=()
def tw15436615618632004251:=()
def tw3553138202830306156:=()
def tw16907343729995049446:=()
def tw15856545893818408222:=()
def tw9451753317252591984:=()
def tw10959376472639952975:=()
def tw4207556394210525450:=()
def tw4437234225076153420:=()
def tw12672516936523458334:=()
def tw5295189800404325764:=()
def tw4550779960768145083:=()
def tw14608141130004875474:=()
def tw1876370246007282218:=()
def tw3466629195091953851:=()
def tw4795277471664815271:=()
def tw10443313822017741513:=()
def tw3841479844096384936:=()
def tw15264610000474342947:=()
def tw15241098924275662066:=()
def tw13464152951209566582:=()
def tw17028960265168223182:=()
def tw5889176611225596914:=()
def tw7635454911679061053:=()
def tw2253423327041571717:=()
def tw12777197826844544898:=()
def tw15898693464732499401:=()
def tw3594718120909939893:=()
def tw7731215215824913503:=()
def tw14056073636349442056:=()
def tw10726755974353891791:=()
def tw15636807424082869459:=()
def tw10143446520283191754:=()
def tw1878014855788747321:=()
def tw18109087005123889226:=()
def tw16174228201616500400:=()
def tw1858999768721867113:=()
def tw1391797673085507617:=()
def tw12961904189857100223:=()
def tw12346261342821518833:=()
def tw3232056665735221658:=()
def tw12028301519706380663:=()
def tw7222725497416290950:=()
def tw4087486215566307463:=()
def tw10069582233859816141:=()
def tw6152215137372855475:=()
def tw1540324060250380782:=()
def tw15574947280059809030:=()
def tw4702823462724799047:=()
def tw853670528371781543:=()
def tw1594456985060765355:=()
def tw285747083127269328:=()
def tw3434015717923877326:=()
def tw311886170426081723:=()
def tw14000592643275741333:=()
def tw12464659932006510686:=()
def tw2062755999850577604:=()
def tw17234893324666340942:=()
def tw9867690445466051825:=()
def tw9648114463945960577:=()
def tw8041028755418182722:=()
def tw17297878629427113330:=()
def tw1281746386300213864:=()
def tw11976695397500181992:=()
def tw6378623535527650389:=()
def tw16358464069043999357:=()
def tw5428612562016497329:=()
def tw2887848624886160437:=()
def tw5524244239530557856:=()
def tw10132216730664767314:=()
def tw11460429440123418393:=()
def tw17020048904630756916:=()
def tw16459290790196242485:=()
def tw9521795427437148023:=()
def tw12851719231098498086:=()
def tw10081163145174955833:=()
def tw12870656586441152435:=()
def tw2041497219619180144:=()
def tw17544952640025137837:=()
def tw1419994048922896042:=()
def tw13102144422277588435:=()
def tw17889176725002881014:=()
def tw14477368725317545311:=()
def tw16066788775838470431:=()
def tw6803300399020864549:=()
def tw9612415150133648326:=()
def tw7617482637623437446:=()
def tw2121625787790815398:=()
def tw12663883478367543058:=()
end PySem.W.Fast
open PySem PySem.W PyProof.Rows
set_option maxRecDepth 100000 in
set_option maxHeartbeats 0 in
theorem PySem.Challenge.cw_carpetkin_k24_sizes_holds : PySem.Challenge.rw_carpetkin_k24_sizes.Holds := by
 w_on;o_law;k_head;(case hw=>w_witness2)
 k_fill
 refine PU.c0T (k:=31) (x:="_law_script") (l:=PySem.Challenge.rw_carpetkin_k24_sizes) (by decide) rfl rfl (fun w h Y=>PySem.W.kIn_of Y) ?F
 case F=>
  intro w mg fa h KX G hmg;apply LW.b8o KX G hmg
  all_goals first|(apply PU.a79<;>k_is)|(apply PU.b98<;>first|k_is|kernel_rfl)|k_is|kernel_rfl|skip
